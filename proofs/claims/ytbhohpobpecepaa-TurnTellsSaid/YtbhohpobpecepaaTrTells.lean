/- Proved here: for every number the law TurnTells returns true: sines and cosines, bit by bit. No conditions. -/
import Derived.Test.YtbhohpobpecepaaRows
import Derived.Test.YtbhohpobpecepaaJb6
namespace Go.Proofs.Ytbhohpobpecepaa.turnTells
open Go.ChangeShapes Go.WideShapes Go.ChangeAt Go.RowKit Ieee.Own

set_option maxHeartbeats 2000000 in
theorem walk (w : World) (a0 : Nat) (h0 : a0 < 18446744073709551616) :
    Calls Try.prog 3 #[.float .f64 a0] w fun e w' => e = .returned (.bool true) ∧ Below w.heap.size w w' := by
  have AW := Lib.hid awake5
  obtain ⟨s, c, k, R, C1⟩ := uboth_run h0
  obtain ⟨t, d, l, R', C2⟩ := ruboth_run h0
  obtain ⟨rfl, rfl, rfl⟩ := R.uniq R'
  replace C1 := Lib.hid C1
  replace C2 := Lib.hid C2
  have C3 := Lib.hid (usin_run C1)
  have C4 := Lib.hid (ucos_run C1)
  have tk : (k == k) = true := by simp
  unfold ffi' at *
  clear R R' h0
  go_enter Try.func3, Try.ntmps3
  go_wp2_with fail
  refine (AW.out w).mono ?_
  rintro _ v0 ⟨rfl, hb⟩
  have B := Lib.hid hb
  clear hb AW
  go_wp2_with fail
  refine (C1.out v0).mono ?_
  rintro _ v1 ⟨rfl, hb⟩
  replace hb := Lib.hid (B.out.trans (hb.mono B.out.size))
  clear B
  have B := hb
  clear hb
  go_wp2_with fail
  refine (C2.out v1).mono ?_
  rintro _ v2 ⟨rfl, hb⟩
  replace hb := Lib.hid (B.out.trans (hb.mono B.out.size))
  clear B
  have B := hb
  clear hb
  go_wp2_with fail
  refine (C3.out v2).mono ?_
  rintro _ v3 ⟨rfl, hb⟩
  replace hb := Lib.hid (B.out.trans (hb.mono B.out.size))
  clear B
  have B := hb
  clear hb
  go_wp2_with fail
  refine (C4.out v3).mono ?_
  rintro _ v4 ⟨rfl, hb⟩
  replace hb := Lib.hid (B.out.trans (hb.mono B.out.size))
  clear B C1 C2 C3 C4
  have B := hb
  clear hb
  go_wp2_with (go_at_call 15; ((with_reducible refine (same_run _ _ rfl _).mono ?_); rintro e w' ⟨rfl, rfl⟩))
  go_ret
  exact ⟨rfl, B.out⟩

theorem own : ownKnob Try.prog.godebug = none := by kernel_rfl
theorem laidOut : laidOutB Try.prog = true := by kernel_rfl
theorem cellsF : Try.prog.cellsOf 22 = 1 := by kernel_rfl
theorem bytesF : Try.prog.bytesOf 22 = 8 := by kernel_rfl
theorem wf64 {b : Nat} (h : (Lit.float .f64 b).wf = true) : b < 18446744073709551616 := by
  simp only [Lit.wf, decide_eq_true_eq] at h; exact h

set_option maxRecDepth 100000 in
theorem lifted (os : Os) (started : os.Started) (H : Type) (enc : TypeId × Value → H) :
    ReturnsInHanded {} Try.checked os 3 .any (Rows.turnTellsSpec.pre6 enc Try.prog Try.f3 Rows.turnTellsRow.domain false) (Rows.turnTellsSpec.post enc Try.prog Try.f3 false true false false) := by
  refine returnsInHanded_of_change_sized (C := Try.checked) own started (by kernel_rfl) Try.func3
    (ChangeSpec.witness6 (enc := enc) (C := Try.checked) false ⟨#[], #[.float .f64 0], []⟩ 8 (by kernel_rfl) (by kernel_rfl) (by kernel_rfl) (by kernel_rfl)) ?_
  intro W base args ds gs before hval0 hW _ hsz0 _
  have hsz : (DataW.weightsEach Try.prog (Try.f3.params.toList ++ Rows.turnTellsSpec.plain.varTypes Try.prog) (ds ++ gs)).all (· ≤ reachBytes) = true := hsz0
  clear hsz0
  have hval : ∀ (j : Nat) t v, Try.f3.params[j]? = some t → args[j]? = some v → Value.okWide Try.prog W .any base t v := hval0
  have hW' := hW
  obtain ⟨p, q, hA0, hV, rfl, _, _⟩ := hW
  have hA : DataW.TrodAll enc Try.prog W 0 (fun _ => true) true Try.f3.params.toList args.toList ds p := hA0
  rw [Try.params3] at hA hval hsz
  obtain ⟨v0, vs0, d0, ds0, p0, q0, hargs, rfl, rfl, t0, r0⟩ := trodAll_cons hA
  obtain ⟨rfl, rfl, rfl⟩ := trodAll_nil r0
  obtain rfl : args = #[v0] := by cases args; simp_all
  obtain ⟨rfl, rfl⟩ := trodVars_none hV
  simp only [List.append_nil] at hW'
  obtain ⟨a0, rfl, rfl, rfl, w0⟩ := open_float Try.underlying22 (hval 0 22 v0 rfl rfl) t0
  clear hA0 hval0
  refine (walk W a0 (wf64 w0)).mono fun e W' ⟨he, hb⟩ => ?_
  subst he
  refine ⟨_, rfl, _, _, _, [], _, [], hW', trodAll_cons_mk (shut_bool Try.underlying4 _) trodAll_mk0, (trodAll_cons_mk (shut_float Try.underlying22 w0) trodAll_mk0), rfl, hb.frame _, fun h => by cases h⟩

theorem over : Rows.turnTellsRow.holds Try.pinned (OpenSpec.ofChange Rows.turnTellsSpec) :=
  OpenClaim.holds_of_wide 3 Try.f3 rfl rfl rfl rfl rfl rfl rfl ⟨rfl, rfl, rfl, rfl, rfl⟩ rfl rfl rfl rfl rfl (by kernel_rfl) Try.func3 (by kernel_rfl)
    (of_decide_eq_true (by kernel_rfl)) (by unfold Func.isWrapper; first | (rw [if_pos (by decide +kernel)]; kernel_rfl) | (rw [if_neg (by decide +kernel)]; exact ⟨rfl, rfl⟩))
    (fun os started H enc _ => lifted os started H enc)

theorem proved : Rows.TurnTellsSaid :=
  over
end Go.Proofs.Ytbhohpobpecepaa.turnTells
