/- Proved here: for every two numbers of binary64 the law TwainEither returns true: which of the two stands first is not seen. No conditions. -/
import Derived.Test.YtbnifpggcfcmhaaRows
import Derived.Test.YtbnifpggcfcmhaaPair
import Derived.WalkKit
import Derived.ProofKit
import Derived.OpenShut
import Derived.WalkLawsBesides
namespace Go.Proofs.Ytbnifpggcfcmhaa.twainEither
open Go.ChangeShapes Go.WideShapes Go.ChangeAt Go.RowKit Ieee.Own

theorem own : ownKnob Try.prog.godebug = none := by kernel_rfl

/-! ### the walk -/
set_option maxHeartbeats 1000000 in
theorem walk (a0 : Nat) (a1 : Nat) (h0 : a0 < 18446744073709551616) (h1 : a1 < 18446744073709551616) (w : World) :
    Calls Try.prog 9 #[.float .f64 a0, .float .f64 a1] w fun e w' => e = .returned (.bool true) ∧ Grown w w' := by
  obtain ⟨x1, y1, z1, c1, C1, D1, e1⟩ := sum_either a0 a1 h0 h1
  obtain ⟨x2, y2, z2, c2, C2, D2, e2⟩ := prod_either a0 a1 h0 h1
  have E1 := fun w => alike_true x1 y1 z1 c1 e1 w
  have E2 := fun w => alike_true x2 y2 z2 c2 e2 w
  clear h0 h1 e1 e2
  go_enter Try.func9, Try.ntmps9
  go_wp2_with (first | (go_at_call 10; ((with_reducible refine (awake_any _).mono ?_); rintro e w' ⟨rfl, rfl⟩)) | (go_at_call 11; ((with_reducible refine (C1 _).mono ?_); rintro e w' ⟨rfl, rfl⟩; unfold ffi)) | (go_at_call 11; ((with_reducible refine (D1 _).mono ?_); rintro e w' ⟨rfl, rfl⟩; unfold ffi)) | (go_at_call 14; ((with_reducible refine (C2 _).mono ?_); rintro e w' ⟨rfl, rfl⟩; unfold ffi)) | (go_at_call 14; ((with_reducible refine (D2 _).mono ?_); rintro e w' ⟨rfl, rfl⟩; unfold ffi)) | (go_at_call 13; ((with_reducible refine (E1 _).mono ?_); rintro e w' ⟨rfl, rfl⟩)) | (go_at_call 13; ((with_reducible refine (E2 _).mono ?_); rintro e w' ⟨rfl, rfl⟩)))
  go_ret
  exact ⟨rfl, Grown.refl _⟩

theorem wf64 {b : Nat} (h : (Lit.float .f64 b).wf = true) : b < 18446744073709551616 := by
  simp only [Lit.wf, decide_eq_true_eq] at h; exact h

set_option maxRecDepth 100000 in
theorem lifted (os : Os) (started : os.Started) (H : Type) (enc : TypeId × Value → H) :
    ReturnsInHanded {} Try.checked os 9 .any (Rows.twainEitherSpec.pre6 enc Try.prog Try.f9 Rows.twainEitherRow.domain false) (Rows.twainEitherSpec.post enc Try.prog Try.f9 false true false false) := by
  refine returnsInHanded_of_change (C := Try.checked) own started (by kernel_rfl) Try.func9
    (ChangeSpec.witness6 (enc := enc) (C := Try.checked) false ⟨#[], #[.float .f64 0, .float .f64 0], []⟩ 8 (by kernel_rfl) (by kernel_rfl) (by kernel_rfl) (by kernel_rfl)) ?_
  intro W base args ds gs before hval0 hW hcnd _
  have hval : ∀ (j : Nat) t v, Try.f9.params[j]? = some t → args[j]? = some v → Value.okWide Try.prog W .any base t v := hval0
  have hW' := hW
  obtain ⟨p, q, hA0, hV, rfl, hfz, hnd⟩ := hW
  have hA : DataW.TrodAll enc Try.prog W 0 (fun _ => true) true Try.f9.params.toList args.toList ds p := hA0
  rw [Try.params9] at hA hval
  obtain ⟨v0, vs0, d0, ds0, p0, q0, hargs, rfl, rfl, t0, r0⟩ := trodAll_cons hA
  obtain ⟨v1, vs1, d1, ds1, p1, q1, rfl, rfl, rfl, t1, r1⟩ := trodAll_cons r0
  obtain ⟨rfl, rfl, rfl⟩ := trodAll_nil r1
  obtain rfl : args = #[v0, v1] := by cases args; simp_all
  obtain ⟨rfl, rfl⟩ := trodVars_none hV
  obtain ⟨a0, rfl, rfl, rfl, w0⟩ := open_float Try.underlying22 (hval 0 22 v0 rfl rfl) t0
  obtain ⟨a1, rfl, rfl, rfl, w1⟩ := open_float Try.underlying22 (hval 1 22 v1 rfl rfl) t1
  clear hA0 hval0
  simp only [List.append_nil] at hW'
  refine (walk a0 a1 (wf64 w0) (wf64 w1) W).mono fun e W' ⟨he, hg⟩ => ?_
  subst he
  exact ⟨_, rfl, post_of_same (pa := []) (pv := []) hW' (fun _ _ _ => (trodAll_cons_mk (shut_bool Try.underlying4 _) trodAll_mk0)) (fun sp _ => (trodAll_cons_mk (shut_float Try.underlying22 w0) (trodAll_cons_mk (shut_float Try.underlying22 w1) trodAll_mk0))) (fun _ _ => rfl) rfl
    (hg.frame _) hg.2.1 (ok_one (by kernel_rfl) rfl (okWide_bool_mk Try.underlying4 _))⟩

theorem over : Rows.twainEitherRow.holds Try.pinned (OpenSpec.ofChange Rows.twainEitherSpec) :=
  OpenClaim.holds_of_wide 9 Try.f9 rfl rfl rfl rfl rfl rfl rfl ⟨rfl, rfl, rfl, rfl, rfl⟩ rfl rfl rfl rfl rfl (by kernel_rfl) Try.func9 (by kernel_rfl)
    (of_decide_eq_true (by kernel_rfl)) (by unfold Func.isWrapper; first | (rw [if_pos (by decide +kernel)]; kernel_rfl) | (rw [if_neg (by decide +kernel)]; exact ⟨rfl, rfl⟩))
    (fun os started H enc _ => lifted os started H enc)

theorem proved : Rows.TwainEitherSaid :=
  over
end Go.Proofs.Ytbnifpggcfcmhaa.twainEither
