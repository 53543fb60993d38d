/- Proved here: for every list of numbers and every number the law PolyMirrors returns true: with every second coefficient and x negated the values are the same. No conditions. -/
import Derived.Test.YtjhcalgamcdgiaaRows
import Derived.Test.YtjhcalgamcdgiaaJq5
import Derived.Test.YtjhcalgamcdgiaaJb2
namespace Go.Proofs.Ytjhcalgamcdgiaa.polyMirrors
open Go.ChangeShapes Go.WideShapes Go.ChangeAt Go.RowKit Ieee.Own

set_option maxHeartbeats 2000000 in
theorem walk (w : World) (ao0 : Option Addr) (cap0 : Nat) (L0 : List Nat) (hc0 : L0.length ≤ cap0) (hw0 : Words L0) (ha0 : At w ao0 L0) (hr0 : cap0 * 8 ≤ 140737488351232) (hn0 : ao0 = none → cap0 = 0) (a1 : Nat) (h1 : a1 < 18446744073709551616) :
    Calls Try.prog 6 #[.slice ao0 L0.length cap0, .float .f64 a1] w fun e w' => e = .returned (.bool true) ∧ Below w.heap.size w w' := by
  obtain ⟨n, hn⟩ : ∃ n, n = L0.length := ⟨_, rfl⟩
  rw [← hn] at hc0 ⊢
  have hrn : n * 8 ≤ 140737488351232 := by omega
  have hm : n ≤ 4611686018427387904 := by omega
  have AW := Lib.hid awake6
  have hst := @fstore
  obtain ⟨a, b, k, K1, K2, t1⟩ := mir_h hn hm hw0 h1
  obtain ⟨c, d, l, K3, K4, t2⟩ := mir_c hn hm hw0 h1
  have t1' : (FloatKind.f64.format.order a b != some Ordering.eq) = false := by
    show (!(FloatKind.f64.format.order a b == some Ordering.eq)) = false
    rw [t1]; rfl
  have t3 : (k != k) = false := bne_self_eq_false k
  have t4 : (l == l) = true := beq_self_eq_true l
  have N1 : ∀ w, (Op.unary .neg (.float .f64 a1)).run Try.prog w = .ok (.float .f64 (negW a1)) w := fun w => xneg6 a1 h1 w
  have hwd := Lib.hid hw0
  replace K1 := Lib.hid K1
  replace K2 := Lib.hid K2
  replace K3 := Lib.hid K3
  replace K4 := Lib.hid K4
  unfold fe at K1 K2 K3 K4
  replace hn := Lib.hid hn
  generalize negW a1 = na at *
  clear hr0 hc0 t1 hw0
  go_enter Try.func6, Try.ntmps6
  go_wp2_with fail
  refine (AW.out w).mono ?_
  rintro _ v0 ⟨rfl, hb⟩
  have B := Lib.hid hb
  have A := Lib.hid ((Lin.start ha0).on hb)
  clear hb AW ha0
  go_wp2_with (at_builtin; refine wpList_copy rfl _ _ rfl rfl ao0 n cap0 L0 rfl hn.out hn0 A.out.at_ hrn ?_)
  intro pd qd wd Cd
  by_cases hz : n = 0
  · have hL : L0 = [] := List.eq_nil_of_length_eq_zero (by have := hn.out; omega)
    have E : Hid (Lin wd.heap.size pd (flipL false L0) wd) := by
      rw [hL]
      exact Lin.start (show At wd pd (flipL false []) from fun j hj => by simp [flipL, flipF] at hj)
    replace B := Lib.hid (B.out.trans (Cd.old.mono B.out.size))
    replace A := Lib.hid (A.out.on Cd.old)
    have hlt : (n : Int) ≤ 1 := by omega
    clear Cd hL hm hwd hz
    go_wp2_with fail
    refine wp_loop_rounds 1 ?_
    rw [rounds_succ]
    go_wp2_with (at_builtin; refine wpList_copy rfl _ _ rfl rfl ao0 n cap0 L0 rfl hn.out hn0 A.out.at_ hrn ?_)
    intro p1 q1 w1 C1
    replace B := Lib.hid (B.out.trans (C1.old.mono B.out.size))
    replace A := Lib.hid (A.out.on C1.old)
    replace E := Lib.hid (E.out.on C1.old)
    have Ac := Lib.hid C1.at_
    clear C1
    go_wp2_with fail
    refine (K1.out p1 q1 w1 Ac.out).mono ?_
    rintro _ w2 ⟨rfl, rfl⟩
    clear Ac K1
    go_wp2_with fail
    refine (K2.out _ _ w1 E.out.at_).mono ?_
    rintro _ w2 ⟨rfl, rfl⟩
    clear K2
    go_wp2_with (at_builtin; refine wpList_copy rfl _ _ rfl rfl ao0 n cap0 L0 rfl hn.out hn0 A.out.at_ hrn ?_)
    intro p2 q2 w3 C1
    replace B := Lib.hid (B.out.trans (C1.old.mono B.out.size))
    replace E := Lib.hid (E.out.on C1.old)
    have Ac := Lib.hid C1.at_
    clear C1 A
    go_wp2_with fail
    refine (K3.out p2 q2 w3 Ac.out).mono ?_
    rintro _ w4 ⟨rfl, rfl⟩
    clear Ac K3
    go_wp2_with fail
    refine (K4.out _ _ w3 E.out.at_).mono ?_
    rintro _ w4 ⟨rfl, rfl⟩
    clear K4 E
    go_wp2_with fail
    go_ret
    exact ⟨by first | rfl | trivial, B.out⟩
  · have hown := Cd.own
    rcases hown.2 with ⟨-, h1'⟩ | ⟨g, c', cur, hv, hg, hrw, hnc, hcm, hsz, ht⟩
    · have := hn.out; omega
    · rw [Nat.mul_one] at hsz ht
      have hIn := InRow.of_take ht
      simp only [Value.slice.injEq] at hv
      obtain ⟨rfl, -, rfl⟩ := hv
      have S0 : Hid (Flip v0.heap.size v0 L0 g qd 1 wd) := ⟨Cd.old, hg, rfl, cur, hrw, hsz, hnc, fun j hj => by rw [if_neg (by omega)]; exact hIn j (by omega) hj⟩
      have hcl : n ≤ qd := Cd.room
      clear Cd hown hIn ht hsz hnc hrw hcm hg hm
      go_wp2_with fail
      go_loopw [6] (fun iv wr => ∃ i : Nat, i ≤ n + 1 ∧ iv = .int .i64 i ∧ Flip v0.heap.size v0 L0 g qd i wr) (fun iv _ => n + 2 - (intOf iv).toNat)
      case atStart => exact ⟨1, by omega, rfl, S0.out⟩
      case round =>
        obtain ⟨i, hi, rfl, S⟩ := hrel
        by_cases hlt : i < n
        · have hil : i < L0.length := by have := hn.out; omega
          obtain ⟨c1, f1⟩ := S.facts hil
          have S2 := S.next hil
          have hneg := fun w => xneg6 _ (hwd.out.at hil) w
          obtain ⟨u, hu⟩ : ∃ u, u = L0.getD i 0 := ⟨_, rfl⟩
          rw [← hu] at c1 S2 hneg
          replace S2 := Lib.hid S2
          generalize negW u = nu at *
          clear hu S hil K1 K2 K3 K4 N1 hwd
          go_wp2_with fail
          go_roundw
          case rel => exact ⟨i + 2, by omega, by go_num, S2.out⟩
          case measure => simp [intOf]; omega
        · have hfin := S.done (by have := hn.out; omega)
          have E : Hid (Lin wr.heap.size (some ⟨g, 0, none⟩) (flipL false L0) wr) := Lin.start hfin.1
          replace A := Lib.hid (A.out.on S.old)
          replace B := Lib.hid (B.out.trans (S.old.mono B.out.size))
          clear hfin S S0 hwd
          go_wp2_with (at_builtin; refine wpList_copy rfl _ _ rfl rfl ao0 n cap0 L0 rfl hn.out hn0 A.out.at_ hrn ?_)
          intro p1 q1 w1 C1
          replace B := Lib.hid (B.out.trans (C1.old.mono B.out.size))
          replace A := Lib.hid (A.out.on C1.old)
          replace E := Lib.hid (E.out.on C1.old)
          have Ac := Lib.hid C1.at_
          clear C1
          go_wp2_with fail
          refine (K1.out p1 q1 w1 Ac.out).mono ?_
          rintro _ w2 ⟨rfl, rfl⟩
          clear Ac K1
          go_wp2_with fail
          refine (K2.out _ _ w1 E.out.at_).mono ?_
          rintro _ w2 ⟨rfl, rfl⟩
          clear K2
          go_wp2_with (at_builtin; refine wpList_copy rfl _ _ rfl rfl ao0 n cap0 L0 rfl hn.out hn0 A.out.at_ hrn ?_)
          intro p2 q2 w3 C1
          replace B := Lib.hid (B.out.trans (C1.old.mono B.out.size))
          replace E := Lib.hid (E.out.on C1.old)
          have Ac := Lib.hid C1.at_
          clear C1 A
          go_wp2_with fail
          refine (K3.out p2 q2 w3 Ac.out).mono ?_
          rintro _ w4 ⟨rfl, rfl⟩
          clear Ac K3
          go_wp2_with fail
          refine (K4.out _ _ w3 E.out.at_).mono ?_
          rintro _ w4 ⟨rfl, rfl⟩
          clear K4 E
          go_wp2_with fail
          go_ret
          exact ⟨by first | rfl | trivial, B.out⟩

theorem own : ownKnob Try.prog.godebug = none := by kernel_rfl
theorem laidOut : laidOutB Try.prog = true := by kernel_rfl
theorem cellsF : Try.prog.cellsOf 23 = 1 := by kernel_rfl
theorem bytesF : Try.prog.bytesOf 23 = 8 := by kernel_rfl
theorem wf64 {b : Nat} (h : (Lit.float .f64 b).wf = true) : b < 18446744073709551616 := by
  simp only [Lit.wf, decide_eq_true_eq] at h; exact h

set_option maxRecDepth 100000 in
theorem lifted (os : Os) (started : os.Started) (H : Type) (enc : TypeId × Value → H) :
    ReturnsInHanded {} Try.checked os 6 .any (Rows.polyMirrorsSpec.pre6 enc Try.prog Try.f6 Rows.polyMirrorsRow.domain false) (Rows.polyMirrorsSpec.post enc Try.prog Try.f6 false true false false) := by
  refine returnsInHanded_of_change_sized (C := Try.checked) own started (by kernel_rfl) Try.func6
    (ChangeSpec.witness6 (enc := enc) (C := Try.checked) false ⟨#[], #[.slice none 0 0, .float .f64 0], []⟩ 8 (by kernel_rfl) (by kernel_rfl) (by kernel_rfl) (by kernel_rfl)) ?_
  intro W base args ds gs before hval0 hW _ hsz0 _
  have hsz : (DataW.weightsEach Try.prog (Try.f6.params.toList ++ Rows.polyMirrorsSpec.plain.varTypes Try.prog) (ds ++ gs)).all (· ≤ reachBytes) = true := hsz0
  clear hsz0
  have hval : ∀ (j : Nat) t v, Try.f6.params[j]? = some t → args[j]? = some v → Value.okWide Try.prog W .any base t v := hval0
  have hW' := hW
  obtain ⟨p, q, hA0, hV, rfl, _, _⟩ := hW
  have hA : DataW.TrodAll enc Try.prog W 0 (fun _ => true) true Try.f6.params.toList args.toList ds p := hA0
  rw [Try.params6] at hA hval hsz
  obtain ⟨v0, vs0, d0, ds0, p0, q0, hargs, rfl, rfl, t0, r0⟩ := trodAll_cons hA
  obtain ⟨v1, vs1, d1, ds1, p1, q1, rfl, rfl, rfl, t1, r1⟩ := trodAll_cons r0
  obtain ⟨rfl, rfl, rfl⟩ := trodAll_nil r1
  obtain rfl : args = #[v0, v1] := by cases args; simp_all
  obtain ⟨rfl, rfl⟩ := trodVars_none hV
  simp only [List.append_nil] at hW'
  have tk0 := t0
  obtain ⟨ao0, cap0, L0, rfl, hc0, hw0, ha0, hx0⟩ := open_flts Try.underlying22 Try.underlying23 cellsF (okWide_slice Try.underlying22 (hval 0 22 v0 rfl rfl)) t0
  have hr0 : cap0 * 8 ≤ 140737488351232 := by
    rcases hx0 with ⟨_, h0⟩ | ⟨_, es, sp, hd, h0⟩
    · rw [h0]; decide
    · subst hd
      have := sized_slice hsz (j := 0) (t := 22) (e := 23) rfl rfl Try.underlying22
      rw [bytesF, h0] at this
      simp only [reachBytes] at this
      omega
  have hn0 : ao0 = none → cap0 = 0 := by
    intro h
    rcases hx0 with ⟨_, h0⟩ | ⟨⟨a, h1⟩, _⟩
    · exact h0
    · rw [h] at h1; simp at h1
  have hlt0 : ∀ x ∈ p0, x.block < W.heap.size := fun x hx => by have := hW'.lt x (by simp [hx]); simpa using this
  obtain ⟨a1, rfl, rfl, rfl, w1⟩ := open_float Try.underlying23 (hval 1 23 v1 rfl rfl) t1
  clear hA0 hval0
  refine (walk W ao0 cap0 L0 hc0 hw0 ha0 hr0 hn0 a1 (wf64 w1)).mono fun e W' ⟨he, hb⟩ => ?_
  subst he
  refine ⟨_, rfl, _, _, _, [], _, [], hW', trodAll_cons_mk (shut_bool Try.underlying4 _) trodAll_mk0, (trodAll_cons_mk (Below.trod laidOut (by kernel_rfl) (of_decide_eq_true (by kernel_rfl)) tk0 hb hlt0) (trodAll_cons_mk (shut_float Try.underlying23 w1) trodAll_mk0)), rfl, hb.frame _, fun h => by cases h⟩

theorem over : Rows.polyMirrorsRow.holds Try.pinned (OpenSpec.ofChange Rows.polyMirrorsSpec) :=
  OpenClaim.holds_of_wide 6 Try.f6 rfl rfl rfl rfl rfl rfl rfl ⟨rfl, rfl, rfl, rfl, rfl⟩ rfl rfl rfl rfl rfl (by kernel_rfl) Try.func6 (by kernel_rfl)
    (of_decide_eq_true (by kernel_rfl)) (by unfold Func.isWrapper; first | (rw [if_pos (by decide +kernel)]; kernel_rfl) | (rw [if_neg (by decide +kernel)]; exact ⟨rfl, rfl⟩))
    (fun os started H enc _ => lifted os started H enc)

theorem proved : Rows.PolyMirrorsSaid :=
  over
end Go.Proofs.Ytjhcalgamcdgiaa.polyMirrors
