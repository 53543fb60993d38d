/- Proved here: for every two words of 32 bits the law GrainBack returns true: what was widened is narrowed to itself, and the order stays. No conditions. -/
import Derived.Test.YtfbhgckjaoldnaaRows
import Derived.Test.YtfbhgckjaoldnaaWide
import Derived.WalkKit
import Derived.ProofKit
import Derived.OpenShut
namespace Go.Proofs.Ytfbhgckjaoldnaa.grainBack
open Go.ChangeShapes Go.WideShapes Go.ChangeAt Go.RowKit
set_option linter.unusedVariables false      -- a walk need not use every 'w<i>' (that an integer argument fits its kind)

theorem own : ownKnob Try.prog.godebug = none := by kernel_rfl

/-! ### the walk -/
set_option maxHeartbeats 1000000 in
theorem walk (a0 : Int) (a1 : Int) (w0 : (Lit.int .u32 a0).wf = true) (w1 : (Lit.int .u32 a1).wf = true) (w : World) :
    Calls Try.prog 9 #[.int .u32 a0, .int .u32 a1] w fun e w' => e = .returned (.bool true) ∧ Grown w w' := by
  obtain ⟨f, rfl, hf⟩ := nat_u32 a0 w0
  obtain ⟨g, rfl, hg⟩ := nat_u32 a1 w1
  clear w0 w1
  have e0 := o32_neq f hf
  by_cases n : 2139095040 < f % 2147483648
  · rw [decide_eq_true n] at e0
    have C1 := fun w => wide_nan f n w
    have C2 := fun w => narrow_nan 9221120237041090560 (by omega) (by decide) w
    clear hf hg n
    go_enter Try.func9, Try.ntmps9
    go_wp2_with (first | (go_at_call 12; ((with_reducible refine (awake_any _).mono ?_); rintro e w' ⟨rfl, rfl⟩)) | (go_at_call 31; ((with_reducible refine (C1 _).mono ?_); rintro e w' ⟨rfl, rfl⟩)) | (go_at_call 29; ((with_reducible refine (C2 _).mono ?_); rintro e w' ⟨rfl, rfl⟩)) | simp only [x11] | simp only [x28])
    go_ret
    exact ⟨rfl, (Grown.refl _).drew⟩
  rw [decide_eq_false n] at e0
  obtain ⟨a1, a2, -, a4, -, -, -⟩ := wide_spec f hf n
  have C1 := fun w => wide_any f hf n w
  have C2 := fun w => narrow_num (wideW f) f a1 a4 (decide_eq_false (by omega)) w
  have C3 := fun w => rest_wide f hf n w
  have e5 := o_neq 0 0 (by omega) (by omega)
  rw [decide_eq_true (by decide)] at e5
  have e1 := o32_neq g hg
  by_cases m : 2139095040 < g % 2147483648
  · rw [decide_eq_true m] at e1
    clear hf hg n m a1 a2 a4
    generalize wideW f = W at *
    go_enter Try.func9, Try.ntmps9
    go_wp2_with (first | (go_at_call 12; ((with_reducible refine (awake_any _).mono ?_); rintro e w' ⟨rfl, rfl⟩)) | (go_at_call 31; ((with_reducible refine (C1 _).mono ?_); rintro e w' ⟨rfl, rfl⟩)) | (go_at_call 29; ((with_reducible refine (C2 _).mono ?_); rintro e w' ⟨rfl, rfl⟩)) | (go_at_call 33; ((with_reducible refine (C3 _).mono ?_); rintro e w' ⟨rfl, rfl⟩)) | simp only [x11] | simp only [x28])
    go_ret
    exact ⟨rfl, Grown.refl _⟩
  rw [decide_eq_false m] at e1
  have C4 := fun w => wide_any g hg m w
  obtain ⟨b1, b2, -, -, -, -, -⟩ := wide_spec g hg m
  have l1 := o32_lss f g hf hg n m
  have l2 := o_lss (wideW f) (wideW g) a1 b1
  have hk := wide_order f g hf hg n m
  by_cases h : Ieee.Own.key32 f < Ieee.Own.key32 g
  · rw [decide_eq_true h] at l1
    rw [decide_eq_true ⟨a2, b2, hk.2 h⟩] at l2
    clear hf hg n m a1 a2 a4 b1 b2 hk h
    generalize wideW f = W at *
    generalize wideW g = V at *
    go_enter Try.func9, Try.ntmps9
    go_wp2_with (first | (go_at_call 12; ((with_reducible refine (awake_any _).mono ?_); rintro e w' ⟨rfl, rfl⟩)) | (go_at_call 31; ((with_reducible refine (C1 _).mono ?_); rintro e w' ⟨rfl, rfl⟩)) | (go_at_call 31; ((with_reducible refine (C4 _).mono ?_); rintro e w' ⟨rfl, rfl⟩)) | (go_at_call 29; ((with_reducible refine (C2 _).mono ?_); rintro e w' ⟨rfl, rfl⟩)) | (go_at_call 33; ((with_reducible refine (C3 _).mono ?_); rintro e w' ⟨rfl, rfl⟩)) | simp only [x11] | simp only [x28])
    go_ret
    exact ⟨rfl, Grown.refl _⟩
  · rw [decide_eq_false h] at l1
    rw [decide_eq_false (fun q => h (hk.1 q.2.2))] at l2
    clear hf hg n m a1 a2 a4 b1 b2 hk h
    generalize wideW f = W at *
    generalize wideW g = V at *
    go_enter Try.func9, Try.ntmps9
    go_wp2_with (first | (go_at_call 12; ((with_reducible refine (awake_any _).mono ?_); rintro e w' ⟨rfl, rfl⟩)) | (go_at_call 31; ((with_reducible refine (C1 _).mono ?_); rintro e w' ⟨rfl, rfl⟩)) | (go_at_call 31; ((with_reducible refine (C4 _).mono ?_); rintro e w' ⟨rfl, rfl⟩)) | (go_at_call 29; ((with_reducible refine (C2 _).mono ?_); rintro e w' ⟨rfl, rfl⟩)) | (go_at_call 33; ((with_reducible refine (C3 _).mono ?_); rintro e w' ⟨rfl, rfl⟩)) | simp only [x11] | simp only [x28])
    go_ret
    exact ⟨rfl, Grown.refl _⟩

set_option maxRecDepth 100000 in
theorem lifted (os : Os) (started : os.Started) (H : Type) (enc : TypeId × Value → H) :
    ReturnsInHanded {} Try.checked os 9 .any (Rows.grainBackSpec.pre6 enc Try.prog Try.f9 Rows.grainBackRow.domain false) (Rows.grainBackSpec.post enc Try.prog Try.f9 false true false false) := by
  refine returnsInHanded_of_change (C := Try.checked) own started (by kernel_rfl) Try.func9
    (ChangeSpec.witness6 (enc := enc) (C := Try.checked) false ⟨#[], #[.int .u32 0, .int .u32 0], []⟩ 8 (by kernel_rfl) (by kernel_rfl) (by kernel_rfl) (by kernel_rfl)) ?_
  intro W base args ds gs before hval0 hW hcnd _
  have hval : ∀ (j : Nat) t v, Try.f9.params[j]? = some t → args[j]? = some v → Value.okWide Try.prog W .any base t v := hval0
  have hW' := hW
  obtain ⟨p, q, hA0, hV, rfl, hfz, hnd⟩ := hW
  have hA : DataW.TrodAll enc Try.prog W 0 (fun _ => true) true Try.f9.params.toList args.toList ds p := hA0
  rw [Try.params9] at hA hval
  obtain ⟨v0, vs0, d0, ds0, p0, q0, hargs, rfl, rfl, h0, r0⟩ := trodAll_cons hA
  obtain ⟨v1, vs1, d1, ds1, p1, q1, rfl, rfl, rfl, h1, r1⟩ := trodAll_cons r0
  obtain ⟨rfl, rfl, rfl⟩ := trodAll_nil r1
  obtain rfl : args = #[v0, v1] := by cases args; simp_all
  obtain ⟨rfl, rfl⟩ := trodVars_none hV
  obtain ⟨a0, rfl, rfl, rfl, w0⟩ := open_int Try.underlying23 (hval 0 23 v0 rfl rfl) h0
  obtain ⟨a1, rfl, rfl, rfl, w1⟩ := open_int Try.underlying23 (hval 1 23 v1 rfl rfl) h1
  clear hA0 hval0
  simp only [List.append_nil] at hW'
  refine (walk a0 a1 w0 w1 W).mono fun e W' ⟨he, hg⟩ => ?_
  subst he
  exact ⟨_, rfl, post_of_same (pa := []) (pv := []) hW' (fun _ _ _ => (trodAll_cons_mk (shut_bool Try.underlying4 _) trodAll_mk0)) (fun sp _ => (trodAll_cons_mk (shut_int Try.underlying23 w0) (trodAll_cons_mk (shut_int Try.underlying23 w1) trodAll_mk0))) (fun _ _ => rfl) rfl
    (hg.frame _) hg.2.1 (ok_one (by kernel_rfl) rfl (okWide_bool_mk Try.underlying4 _))⟩

theorem over : Rows.grainBackRow.holds Try.pinned (OpenSpec.ofChange Rows.grainBackSpec) :=
  OpenClaim.holds_of_wide 9 Try.f9 rfl rfl rfl rfl rfl rfl rfl ⟨rfl, rfl, rfl, rfl, rfl⟩ rfl rfl rfl rfl rfl (by kernel_rfl) Try.func9 (by kernel_rfl)
    (of_decide_eq_true (by kernel_rfl)) (by unfold Func.isWrapper; first | (rw [if_pos (by decide +kernel)]; kernel_rfl) | (rw [if_neg (by decide +kernel)]; exact ⟨rfl, rfl⟩))
    (fun os started H enc _ => lifted os started H enc)

theorem proved : Rows.GrainBackSaid :=
  over
end Go.Proofs.Ytfbhgckjaoldnaa.grainBack
