/- Proved here: the exact sum of products and its sign are the reference answers, and both lists stay (TotDots), over the translated code; for every input. -/
import Derived.Test.YthgpdgajmpocfaaRows
import Derived.Test.YthgpdgajmpocfaaTro
import Derived.Test.YthgpdgajmpocfaaRdt
namespace Go.Proofs.Ythgpdgajmpocfaa.totDots
open Go.ChangeShapes Go.WideShapes Go.ChangeAt Go.RowKit Ieee.Own

theorem dotIs_uniq {L M : List Nat} {r s : Nat} (h : DotIs L M r) (k : DotIs L M s) : r = s := by
  by_cases h0 : errB L M = 0
  · exact (h.1 h0).uniq (k.1 h0)
  · rw [h.2 h0, k.2 h0]
theorem At.on {x y : World} {ao : Option Addr} {L : List Nat} (h : At x ao L) (hb : Below x.heap.size x y) : At y ao L := h.later hb h.lt
/-- what is carried through the law: the two lists, the two copies, that nothing old has turned -/
structure Four (w : World) (g0 g1 : Nat) (ao0 ao1 : Option Addr) (L0 L1 : List Nat) (x : World) : Prop where
  old : Below w.heap.size w x
  a : At x (some ⟨g0, 0, none⟩) (L0 ++ marks)
  b : At x (some ⟨g1, 0, none⟩) (L1 ++ marks)
  c : At x ao0 L0
  d : At x ao1 L1
theorem Four.on {w : World} {g0 g1 : Nat} {ao0 ao1 : Option Addr} {L0 L1 : List Nat} {x y : World} (F : Four w g0 g1 ao0 ao1 L0 L1 x) (h : Below x.heap.size x y) : Four w g0 g1 ao0 ao1 L0 L1 y :=
  ⟨F.old.trans (h.mono F.old.size), At.on F.a h, At.on F.b h, At.on F.c h, At.on F.d h⟩

set_option maxHeartbeats 2000000 in
theorem walk (w : World) (ao0 : Option Addr) (cap0 : Nat) (L0 : List Nat) (hc0 : L0.length ≤ cap0) (hw0 : Words L0) (ha0 : At w ao0 L0) (hr0 : cap0 * 8 ≤ 140737488351232) (hn0 : ao0 = none → cap0 = 0) (ao1 : Option Addr) (cap1 : Nat) (L1 : List Nat) (hc1 : L1.length ≤ cap1) (hw1 : Words L1) (ha1 : At w ao1 L1) (hr1 : cap1 * 8 ≤ 140737488351232) (hn1 : ao1 = none → cap1 = 0) :
    Calls Try.prog 5 #[.slice ao0 L0.length cap0, .slice ao1 L1.length cap1] w fun e w' => e = .returned (.bool true) ∧ Below w.heap.size w w' := by
  obtain ⟨n, hn⟩ : ∃ n, n = L0.length := ⟨_, rfl⟩
  obtain ⟨m, hm⟩ : ∃ m, m = L1.length := ⟨_, rfl⟩
  rw [← hn] at hc0 ⊢
  rw [← hm] at hc1 ⊢
  have hnm : n ≤ 4611686018427387904 := by omega
  have hmm : m ≤ 4611686018427387904 := by omega
  have C1 := fun g c g' c' x h h' => dot_run (some ⟨g, 0, none⟩) (some ⟨g', 0, none⟩) c c' n m L0 L1 x hn hm hnm hmm hw0 hw1 h h'
  have D1 := fun x h h' => rdot_run ao0 ao1 cap0 cap1 n m L0 L1 x hn hm hnm hmm hw0 hw1 h h'
  have C2 := fun g c g' c' x h h' => psign_run (some ⟨g, 0, none⟩) (some ⟨g', 0, none⟩) c c' n m L0 L1 x hn hm hnm hmm hw0 hw1 h h'
  have D2 := fun x h h' => rsign_run ao0 ao1 cap0 cap1 n m L0 L1 x hn hm hnm hmm hw0 hw1 h h'
  have R0 := fun x h => roomy_run ao0 cap0 n L0 x hn (by omega) hn0 h
  have R1 := fun x h => roomy_run ao1 cap1 m L1 x hm (by omega) hn1 h
  have K0 := fun g c (h1 : n + 2 ≤ c) (h2 : c ≤ maxLen) x h h' => rkeptlist_run g ao0 cap0 c n L0 x hn hnm h1 h2 h h'
  have K1 := fun g c (h1 : m + 2 ≤ c) (h2 : c ≤ maxLen) x h h' => rkeptlist_run g ao1 cap1 c m L1 x hm hmm h1 h2 h h'
  have U : Hid (∀ r s, DotIs L0 L1 r → DotIs L0 L1 s → s = r) := fun r s h k => dotIs_uniq k h
  generalize errB L0 L1 = er at *
  generalize signS L0 L1 = sg at *
  replace C1 := Lib.hid C1
  replace C2 := Lib.hid C2
  replace D1 := Lib.hid D1
  replace D2 := Lib.hid D2
  replace R0 := Lib.hid R0
  replace R1 := Lib.hid R1
  replace K0 := Lib.hid K0
  replace K1 := Lib.hid K1
  replace ha0 := Lib.hid ha0
  replace ha1 := Lib.hid ha1
  clear hn hm hnm hmm hw0 hn0 hr0 hc0 hw1 hn1 hr1 hc1
  go_enter Try.func5, Try.ntmps5
  go_wp2_with fail
  refine (awake_run w).mono ?_
  rintro _ w1 ⟨rfl, hb1⟩
  have p1 := Lib.hid (At.on ha0.out hb1)
  have q1 := Lib.hid (At.on ha1.out hb1)
  replace hb1 := Lib.hid hb1
  clear ha0 ha1
  go_wp2_with fail
  refine (R0.out w1 p1.out).mono ?_
  rintro _ w2 ⟨g0, c0, rfl, hc1, hc2, ag0, -, -, hb2⟩
  have p2 := Lib.hid (At.on p1.out hb2)
  have q2 := Lib.hid (At.on q1.out hb2)
  have B2 := Lib.hid (hb1.out.trans (hb2.mono hb1.out.size))
  replace ag0 := Lib.hid ag0
  replace hc1 := Lib.hid hc1
  replace hc2 := Lib.hid hc2
  clear hb1 hb2 p1 q1 R0
  go_wp2_with fail
  refine (R1.out w2 q2.out).mono ?_
  rintro _ w3 ⟨g1, c1, rfl, hd1, hd2, ag1, -, -, hb3⟩
  have F3 : Hid (Four w g0 g1 ao0 ao1 L0 L1 w3) := ⟨B2.out.trans (hb3.mono B2.out.size), At.on ag0.out hb3, ag1, At.on p2.out hb3, At.on q2.out hb3⟩
  replace hd1 := Lib.hid hd1
  replace hd2 := Lib.hid hd2
  clear hb3 p2 q2 ag0 ag1 B2 R1
  go_wp2_with fail
  refine (C1.out g0 c0 g1 c1 w3 F3.out.a.left F3.out.b.left).mono ?_
  rintro _ w4 ⟨⟨r, rfl, hr⟩, hb4⟩
  have F4 := Lib.hid (F3.out.on hb4)
  replace hr := Lib.hid hr
  clear hb4 F3 C1
  unfold fe
  go_wp2_with fail
  refine (D1.out w4 F4.out.c F4.out.d).mono ?_
  rintro _ w5 ⟨⟨r', rfl, hr'⟩, hb5⟩
  obtain rfl := U.out _ _ hr.out hr'
  have F5 := Lib.hid (F4.out.on hb5)
  clear hb5 F4 D1 hr' hr U
  unfold fe
  go_wp2_with fail
  refine (C2.out g0 c0 g1 c1 w5 F5.out.a.left F5.out.b.left).mono ?_
  rintro _ w6 ⟨rfl, hb6⟩
  have F6 := Lib.hid (F5.out.on hb6)
  clear hb6 F5 C2
  unfold ie
  go_wp2_with fail
  refine (D2.out w6 F6.out.c F6.out.d).mono ?_
  rintro _ w7 ⟨rfl, hb7⟩
  have F7 := Lib.hid (F6.out.on hb7)
  clear hb7 F6 D2
  unfold ie
  go_wp2_with (go_at_call 14; ((with_reducible refine (agree_true _ _ _).mono ?_); rintro e w' ⟨rfl, rfl⟩))
  refine (K0.out g0 c0 hc1.out hc2.out w7 F7.out.a F7.out.c).mono ?_
  rintro _ w8 ⟨rfl, d8⟩
  have F8 := Lib.hid (F7.out.on (d8.below _))
  clear d8 F7 K0
  go_wp2_with fail
  refine (K1.out g1 c1 hd1.out hd2.out w8 F8.out.b F8.out.d).mono ?_
  rintro _ w9 ⟨rfl, d9⟩
  have F9 := Lib.hid (F8.out.on (d9.below _))
  clear d9 F8 K1
  go_wp2_with fail
  go_ret
  exact ⟨rfl, F9.out.old⟩

theorem own : ownKnob Try.prog.godebug = none := by kernel_rfl
theorem laidOut : laidOutB Try.prog = true := by kernel_rfl
theorem cellsF : Try.prog.cellsOf 25 = 1 := by kernel_rfl
theorem bytesF : Try.prog.bytesOf 25 = 8 := by kernel_rfl
theorem wf64 {b : Nat} (h : (Lit.float .f64 b).wf = true) : b < 18446744073709551616 := by
  simp only [Lit.wf, decide_eq_true_eq] at h; exact h

set_option maxRecDepth 100000 in
theorem lifted (os : Os) (started : os.Started) (H : Type) (enc : TypeId × Value → H) :
    ReturnsInHanded {} Try.checked os 5 .any (Rows.totDotsSpec.pre6 enc Try.prog Try.f5 Rows.totDotsRow.domain false) (Rows.totDotsSpec.post enc Try.prog Try.f5 false true false false) := by
  refine returnsInHanded_of_change_sized (C := Try.checked) own started (by kernel_rfl) Try.func5
    (ChangeSpec.witness6 (enc := enc) (C := Try.checked) false ⟨#[], #[.slice none 0 0, .slice none 0 0], []⟩ 8 (by kernel_rfl) (by kernel_rfl) (by kernel_rfl) (by kernel_rfl)) ?_
  intro W base args ds gs before hval0 hW _ hsz0 _
  have hsz : (DataW.weightsEach Try.prog (Try.f5.params.toList ++ Rows.totDotsSpec.plain.varTypes Try.prog) (ds ++ gs)).all (· ≤ reachBytes) = true := hsz0
  clear hsz0
  have hval : ∀ (j : Nat) t v, Try.f5.params[j]? = some t → args[j]? = some v → Value.okWide Try.prog W .any base t v := hval0
  have hW' := hW
  obtain ⟨p, q, hA0, hV, rfl, _, _⟩ := hW
  have hA : DataW.TrodAll enc Try.prog W 0 (fun _ => true) true Try.f5.params.toList args.toList ds p := hA0
  rw [Try.params5] at hA hval hsz
  obtain ⟨v0, vs0, d0, ds0, p0, q0, hargs, rfl, rfl, t0, r0⟩ := trodAll_cons hA
  obtain ⟨v1, vs1, d1, ds1, p1, q1, rfl, rfl, rfl, t1, r1⟩ := trodAll_cons r0
  obtain ⟨rfl, rfl, rfl⟩ := trodAll_nil r1
  obtain rfl : args = #[v0, v1] := by cases args; simp_all
  obtain ⟨rfl, rfl⟩ := trodVars_none hV
  simp only [List.append_nil] at hW'
  have tk0 := t0
  obtain ⟨ao0, cap0, L0, rfl, hc0, hw0, ha0, hx0⟩ := open_flts Try.underlying22 Try.underlying25 cellsF (okWide_slice Try.underlying22 (hval 0 22 v0 rfl rfl)) t0
  have hr0 : cap0 * 8 ≤ 140737488351232 := by
    rcases hx0 with ⟨_, h0⟩ | ⟨_, es, sp, hd, h0⟩
    · rw [h0]; decide
    · subst hd
      have := sized_slice hsz (j := 0) (t := 22) (e := 25) rfl rfl Try.underlying22
      rw [bytesF, h0] at this
      simp only [reachBytes] at this
      omega
  have hn0 : ao0 = none → cap0 = 0 := by
    intro h
    rcases hx0 with ⟨_, h0⟩ | ⟨⟨a, h1⟩, _⟩
    · exact h0
    · rw [h] at h1; simp at h1
  have hlt0 : ∀ x ∈ p0, x.block < W.heap.size := fun x hx => by have := hW'.lt x (by simp [hx]); simpa using this
  have tk1 := t1
  obtain ⟨ao1, cap1, L1, rfl, hc1, hw1, ha1, hx1⟩ := open_flts Try.underlying22 Try.underlying25 cellsF (okWide_slice Try.underlying22 (hval 1 22 v1 rfl rfl)) t1
  have hr1 : cap1 * 8 ≤ 140737488351232 := by
    rcases hx1 with ⟨_, h0⟩ | ⟨_, es, sp, hd, h0⟩
    · rw [h0]; decide
    · subst hd
      have := sized_slice hsz (j := 1) (t := 22) (e := 25) rfl rfl Try.underlying22
      rw [bytesF, h0] at this
      simp only [reachBytes] at this
      omega
  have hn1 : ao1 = none → cap1 = 0 := by
    intro h
    rcases hx1 with ⟨_, h0⟩ | ⟨⟨a, h1⟩, _⟩
    · exact h0
    · rw [h] at h1; simp at h1
  have hlt1 : ∀ x ∈ p1, x.block < W.heap.size := fun x hx => by have := hW'.lt x (by simp [hx]); simpa using this
  clear hA0 hval0
  refine (walk W ao0 cap0 L0 hc0 hw0 ha0 hr0 hn0 ao1 cap1 L1 hc1 hw1 ha1 hr1 hn1).mono fun e W' ⟨he, hb⟩ => ?_
  subst he
  refine ⟨_, rfl, _, _, _, [], _, [], hW', trodAll_cons_mk (shut_bool Try.underlying4 _) trodAll_mk0, (trodAll_cons_mk (Below.trod laidOut (by kernel_rfl) (of_decide_eq_true (by kernel_rfl)) tk0 hb hlt0) (trodAll_cons_mk (Below.trod laidOut (by kernel_rfl) (of_decide_eq_true (by kernel_rfl)) tk1 hb hlt1) trodAll_mk0)), rfl, hb.frame _, fun h => by cases h⟩

theorem over : Rows.totDotsRow.holds Try.pinned (OpenSpec.ofChange Rows.totDotsSpec) :=
  OpenClaim.holds_of_wide 5 Try.f5 rfl rfl rfl rfl rfl rfl rfl ⟨rfl, rfl, rfl, rfl, rfl⟩ rfl rfl rfl rfl rfl (by kernel_rfl) Try.func5 (by kernel_rfl)
    (of_decide_eq_true (by kernel_rfl)) (by unfold Func.isWrapper; first | (rw [if_pos (by decide +kernel)]; kernel_rfl) | (rw [if_neg (by decide +kernel)]; exact ⟨rfl, rfl⟩))
    (fun os started H enc _ => lifted os started H enc)

theorem proved : Rows.TotDotsSaid :=
  over
end Go.Proofs.Ythgpdgajmpocfaa.totDots
