/- Proved here: the exact sum of a list is the reference answer, bit by bit, and the list stays (TotExact), over the translated code; for every input. -/
import Derived.Test.YthgpdgajmpocfaaRows
import Derived.Test.YthgpdgajmpocfaaTro
import Derived.Test.YthgpdgajmpocfaaRex
namespace Go.Proofs.Ythgpdgajmpocfaa.totExact
open Go.ChangeShapes Go.WideShapes Go.ChangeAt Go.RowKit Ieee.Own

theorem exactIs_uniq {L : List Nat} {r s : Nat} (h : ExactIs L r) (k : ExactIs L s) : r = s := by
  by_cases h0 : errL L = 0
  · exact (h.1 h0).uniq (k.1 h0)
  · rw [h.2 h0, k.2 h0]

set_option maxHeartbeats 2000000 in
theorem walk (w : World) (ao0 : Option Addr) (cap0 : Nat) (L0 : List Nat) (hc0 : L0.length ≤ cap0) (hw0 : Words L0) (ha0 : At w ao0 L0) (hr0 : cap0 * 8 ≤ 140737488351232) (hn0 : ao0 = none → cap0 = 0) :
    Calls Try.prog 4 #[.slice ao0 L0.length cap0] w fun e w' => e = .returned (.bool true) ∧ Below w.heap.size w w' := by
  obtain ⟨n, hn⟩ : ∃ n, n = L0.length := ⟨_, rfl⟩
  rw [← hn] at hc0 ⊢
  have hm : n ≤ 4611686018427387904 := by omega
  have hlt := ha0.lt
  have C1 := fun g c x h => exact_run (some ⟨g, 0, none⟩) c n L0 x hn hm hw0 h
  have D1 := fun x h => rexact_run ao0 cap0 n L0 x hn hm hw0 h
  have R := fun x h => roomy_run ao0 cap0 n L0 x hn (by omega) hn0 h
  have K := fun g c (h1 : n + 2 ≤ c) (h2 : c ≤ maxLen) x h h' => rkeptlist_run g ao0 cap0 c n L0 x hn hm h1 h2 h h'
  have U : Hid (∀ r s, ExactIs L0 r → ExactIs L0 s → s = r) := fun r s h k => exactIs_uniq k h
  generalize errL L0 = er at *
  replace C1 := Lib.hid C1
  replace D1 := Lib.hid D1
  replace R := Lib.hid R
  replace K := Lib.hid K
  replace ha0 := Lib.hid ha0
  replace hlt := Lib.hid hlt
  clear hn hm hw0 hn0 hr0 hc0
  go_enter Try.func4, Try.ntmps4
  go_wp2_with fail
  refine (awake_run w).mono ?_
  rintro _ w1 ⟨rfl, hb1⟩
  have a1 := Lib.hid (ha0.out.later hb1 hlt.out)
  replace hb1 := Lib.hid hb1
  go_wp2_with fail
  refine (R.out w1 a1.out).mono ?_
  rintro _ w2 ⟨g, c, rfl, hc1, hc2, ag, hg1, hg2, hb2⟩
  have s1 : w.heap.size ≤ w1.heap.size := hb1.out.size
  have a2 := Lib.hid (a1.out.later hb2 (fun b o e hp => Nat.lt_of_lt_of_le (hlt.out b o e hp) s1))
  have hlt2 : Hid (∀ b o, ao0 = some ⟨b, o, none⟩ → 0 < L0.length → b < w2.heap.size) := fun b o e hp => Nat.lt_of_lt_of_le (Nat.lt_of_lt_of_le (hlt.out b o e hp) s1) hb2.size
  have B2 : Hid (Below w.heap.size w w2) := hb1.out.trans (hb2.mono s1)
  replace ag := Lib.hid ag
  replace hc1 := Lib.hid hc1
  replace hc2 := Lib.hid hc2
  replace hg2 := Lib.hid hg2
  clear hg1 hb2 s1
  go_wp2_with fail
  refine (C1.out g c w2 ag.out.left).mono ?_
  rintro _ w3 ⟨⟨r, rfl, hr⟩, hb3⟩
  have ag3 := Lib.hid (ag.out.later hb3 (by intro b o e _; simp only [Option.some.injEq, Addr.mk.injEq, and_true] at e; have := hg2.out; omega))
  have a3 := Lib.hid (a2.out.later hb3 hlt2.out)
  have s3 : w2.heap.size ≤ w3.heap.size := hb3.size
  have B3 : Hid (Below w.heap.size w w3) := B2.out.trans (hb3.mono B2.out.size)
  have hg3 : Hid (g < w3.heap.size) := Nat.lt_of_lt_of_le hg2.out s3
  have hlt3 : Hid (∀ b o, ao0 = some ⟨b, o, none⟩ → 0 < L0.length → b < w3.heap.size) := fun b o e hp => Nat.lt_of_lt_of_le (hlt2.out b o e hp) s3
  replace hr := Lib.hid hr
  clear hb3 s3
  unfold fe
  go_wp2_with fail
  refine (D1.out w3 a3.out).mono ?_
  rintro _ w4 ⟨⟨r', rfl, hr'⟩, hb4⟩
  obtain rfl := U.out _ _ hr.out hr'
  have ag4 := Lib.hid (ag3.out.later hb4 (by intro b o e _; simp only [Option.some.injEq, Addr.mk.injEq, and_true] at e; have := hg3.out; omega))
  have a4 := Lib.hid (a3.out.later hb4 hlt3.out)
  have B4 : Hid (Below w.heap.size w w4) := B3.out.trans (hb4.mono B3.out.size)
  clear hb4 hr'
  unfold fe
  go_wp2_with (go_at_call 14; ((with_reducible refine (agree_true _ _ _).mono ?_); rintro e w' ⟨rfl, rfl⟩))
  refine (K.out g c hc1.out hc2.out w4 ag4.out a4.out).mono ?_
  rintro _ w7 ⟨rfl, d7⟩
  replace d7 := Lib.hid d7
  go_wp2_with fail
  go_ret
  exact ⟨rfl, B4.out.trans (d7.out.below _)⟩

theorem own : ownKnob Try.prog.godebug = none := by kernel_rfl
theorem laidOut : laidOutB Try.prog = true := by kernel_rfl
theorem cellsF : Try.prog.cellsOf 25 = 1 := by kernel_rfl
theorem bytesF : Try.prog.bytesOf 25 = 8 := by kernel_rfl
theorem wf64 {b : Nat} (h : (Lit.float .f64 b).wf = true) : b < 18446744073709551616 := by
  simp only [Lit.wf, decide_eq_true_eq] at h; exact h

set_option maxRecDepth 100000 in
theorem lifted (os : Os) (started : os.Started) (H : Type) (enc : TypeId × Value → H) :
    ReturnsInHanded {} Try.checked os 4 .any (Rows.totExactSpec.pre6 enc Try.prog Try.f4 Rows.totExactRow.domain false) (Rows.totExactSpec.post enc Try.prog Try.f4 false true false false) := by
  refine returnsInHanded_of_change_sized (C := Try.checked) own started (by kernel_rfl) Try.func4
    (ChangeSpec.witness6 (enc := enc) (C := Try.checked) false ⟨#[], #[.slice none 0 0], []⟩ 8 (by kernel_rfl) (by kernel_rfl) (by kernel_rfl) (by kernel_rfl)) ?_
  intro W base args ds gs before hval0 hW _ hsz0 _
  have hsz : (DataW.weightsEach Try.prog (Try.f4.params.toList ++ Rows.totExactSpec.plain.varTypes Try.prog) (ds ++ gs)).all (· ≤ reachBytes) = true := hsz0
  clear hsz0
  have hval : ∀ (j : Nat) t v, Try.f4.params[j]? = some t → args[j]? = some v → Value.okWide Try.prog W .any base t v := hval0
  have hW' := hW
  obtain ⟨p, q, hA0, hV, rfl, _, _⟩ := hW
  have hA : DataW.TrodAll enc Try.prog W 0 (fun _ => true) true Try.f4.params.toList args.toList ds p := hA0
  rw [Try.params4] at hA hval hsz
  obtain ⟨v0, vs0, d0, ds0, p0, q0, hargs, rfl, rfl, t0, r0⟩ := trodAll_cons hA
  obtain ⟨rfl, rfl, rfl⟩ := trodAll_nil r0
  obtain rfl : args = #[v0] := by cases args; simp_all
  obtain ⟨rfl, rfl⟩ := trodVars_none hV
  simp only [List.append_nil] at hW'
  have tk0 := t0
  obtain ⟨ao0, cap0, L0, rfl, hc0, hw0, ha0, hx0⟩ := open_flts Try.underlying22 Try.underlying25 cellsF (okWide_slice Try.underlying22 (hval 0 22 v0 rfl rfl)) t0
  have hr0 : cap0 * 8 ≤ 140737488351232 := by
    rcases hx0 with ⟨_, h0⟩ | ⟨_, es, sp, hd, h0⟩
    · rw [h0]; decide
    · subst hd
      have := sized_slice hsz (j := 0) (t := 22) (e := 25) rfl rfl Try.underlying22
      rw [bytesF, h0] at this
      simp only [reachBytes] at this
      omega
  have hn0 : ao0 = none → cap0 = 0 := by
    intro h
    rcases hx0 with ⟨_, h0⟩ | ⟨⟨a, h1⟩, _⟩
    · exact h0
    · rw [h] at h1; simp at h1
  have hlt0 : ∀ x ∈ p0, x.block < W.heap.size := fun x hx => by have := hW'.lt x (by simp [hx]); simpa using this
  clear hA0 hval0
  refine (walk W ao0 cap0 L0 hc0 hw0 ha0 hr0 hn0).mono fun e W' ⟨he, hb⟩ => ?_
  subst he
  refine ⟨_, rfl, _, _, _, [], _, [], hW', trodAll_cons_mk (shut_bool Try.underlying4 _) trodAll_mk0, (trodAll_cons_mk (Below.trod laidOut (by kernel_rfl) (of_decide_eq_true (by kernel_rfl)) tk0 hb hlt0) trodAll_mk0), rfl, hb.frame _, fun h => by cases h⟩

theorem over : Rows.totExactRow.holds Try.pinned (OpenSpec.ofChange Rows.totExactSpec) :=
  OpenClaim.holds_of_wide 4 Try.f4 rfl rfl rfl rfl rfl rfl rfl ⟨rfl, rfl, rfl, rfl, rfl⟩ rfl rfl rfl rfl rfl (by kernel_rfl) Try.func4 (by kernel_rfl)
    (of_decide_eq_true (by kernel_rfl)) (by unfold Func.isWrapper; first | (rw [if_pos (by decide +kernel)]; kernel_rfl) | (rw [if_neg (by decide +kernel)]; exact ⟨rfl, rfl⟩))
    (fun os started H enc _ => lifted os started H enc)

theorem proved : Rows.TotExactSaid :=
  over
end Go.Proofs.Ythgpdgajmpocfaa.totExact
