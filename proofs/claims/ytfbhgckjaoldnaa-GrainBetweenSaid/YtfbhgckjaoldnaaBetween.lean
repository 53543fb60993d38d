/- Proved here: for every two words of 64 bits the law GrainBetween returns true: no number lies between one and its neighbours. No conditions. -/
import Derived.Test.YtfbhgckjaoldnaaRows
import Derived.Test.YtfbhgckjaoldnaaOrder
import Derived.WalkKit
import Derived.ProofKit
import Derived.OpenShut
namespace Go.Proofs.Ytfbhgckjaoldnaa.grainBetween
open Go.ChangeShapes Go.WideShapes Go.ChangeAt Go.RowKit
set_option linter.unusedVariables false      -- a walk need not use every 'w<i>' (that an integer argument fits its kind)

theorem own : ownKnob Try.prog.godebug = none := by kernel_rfl


theorem next_key (b : Nat) (hb : b < 18446744073709551616) (n : nn b) (h : ¬ b = 9218868437227405312) : nn (nextW b) ∧ Ieee.Own.key64 (nextW b) = Ieee.Own.key64 b + 1 := by
  unfold nn at n
  unfold nextW
  rw [if_neg (by omega), if_neg h]
  unfold nn Ieee.Own.key64
  repeat' split
  all_goals omega
theorem prev_key (b : Nat) (hb : b < 18446744073709551616) (n : nn b) (h : ¬ b = 18442240474082181120) : nn (prevW b) ∧ Ieee.Own.key64 (prevW b) = Ieee.Own.key64 b - 1 := by
  unfold nn at n
  unfold prevW
  rw [if_neg (by omega), if_neg h]
  unfold nn Ieee.Own.key64
  repeat' split
  all_goals omega
theorem key_inf (b : Nat) (hb : b < 18446744073709551616) (n : nn b) : Ieee.Own.key64 b ≤ 9218868437227405312 ∧ -9218868437227405312 ≤ Ieee.Own.key64 b := by
  unfold nn at n; unfold Ieee.Own.key64; split <;> omega
theorem next_nan (b : Nat) (h : ¬ nn b) : nextW b = 9221120237041090560 := by unfold nn at h; unfold nextW; rw [if_pos (by omega)]
theorem prev_nan (b : Nat) (h : ¬ nn b) : prevW b = 9221120237041090560 := by unfold nn at h; unfold prevW; rw [if_pos (by omega)]

/-! ### the walk -/
set_option maxHeartbeats 1000000 in
theorem walk (a0 : Int) (a1 : Int) (w0 : (Lit.int .u64 a0).wf = true) (w1 : (Lit.int .u64 a1).wf = true) (w : World) :
    Calls Try.prog 6 #[.int .u64 a0, .int .u64 a1] w fun e w' => e = .returned (.bool true) ∧ Grown w w' := by
  obtain ⟨b, rfl, hb⟩ := nat_u64 a0 w0
  obtain ⟨c, rfl, hc⟩ := nat_u64 a1 w1
  have C1 := fun w => next_any b hb w
  have C2 := fun w => prev_any b hb w
  clear w0 w1
  by_cases n : nn b
  · have e0 := o_neq b b hb hb
    rw [decide_eq_true ⟨n, n, rfl⟩] at e0
    have C3 := fun w => isinf_up b hb w
    have C4 := fun w => isinf_down b hb w
    have C5 := fun w => prev_any (nextW b) (nextW_lt b hb) w
    have C6 := fun w => next_any (prevW b) (prevW_lt b hb) w
    have l1 := o_lss b c hb hc
    have l2 := o_lss c (nextW b) hc (nextW_lt b hb)
    have l3 := o_lss (prevW b) c (prevW_lt b hb) hc
    have l4 := o_lss c b hc hb
    have g1 := o_gtr (nextW b) b (nextW_lt b hb) hb
    have g2 := o_lss (prevW b) b (prevW_lt b hb) hb
    have q1 := o_eql (prevW (nextW b)) b (prevW_lt _ (nextW_lt b hb)) hb
    have q2 := o_eql (nextW (prevW b)) b (nextW_lt _ (prevW_lt b hb)) hb
    have k1 := next_key b hb n
    have k2 := prev_key b hb n
    have k3 := prev_key (nextW b) (nextW_lt b hb)
    have k4 := next_key (prevW b) (prevW_lt b hb)
    have kc := key_inf c hc
    by_cases i1 : b = 9218868437227405312
    · subst i1
      have en : nextW 9218868437227405312 = 9218868437227405312 := by decide
      have ep : prevW 9218868437227405312 = 9218868437227405311 := by decide
      have eq : nextW 9218868437227405311 = 9218868437227405312 := by decide
      rw [en] at C1 C5 l2 g1 q1
      rw [ep] at C2 C6 l3 g2 q2
      rw [eq] at C6 q2
      rw [decide_eq_true (by decide)] at C3 g2 q2
      rw [decide_eq_false (by decide)] at C4 g1
      rw [decide_eq_false (fun h => by have := kc h.2.1; have := h.2.2; rw [show Ieee.Own.key64 9218868437227405312 = 9218868437227405312 by decide] at this; omega)] at l1
      clear k1 k2 k3 k4 l2 q1 C5 en ep eq g1
      by_cases m3 : nn 9218868437227405311 ∧ nn c ∧ Ieee.Own.key64 9218868437227405311 < Ieee.Own.key64 c
      · rw [decide_eq_true m3] at l3
        rw [decide_eq_false (fun h => by have := m3.2.2; have := h.2.2; rw [show Ieee.Own.key64 9218868437227405312 = 9218868437227405312 by decide] at *; rw [show Ieee.Own.key64 9218868437227405311 = 9218868437227405311 by decide] at *; omega)] at l4
        clear m3 kc hb hc n
        go_enter Try.func6, Try.ntmps6
        go_wp2_with (first | (go_at_call 12; ((with_reducible refine (awake_any _).mono ?_); rintro e w' ⟨rfl, rfl⟩)) | (go_at_call 22; ((with_reducible refine (C1 _).mono ?_); rintro e w' ⟨rfl, rfl⟩)) | (go_at_call 24; ((with_reducible refine (C2 _).mono ?_); rintro e w' ⟨rfl, rfl⟩)) | (go_at_call 35; ((with_reducible refine (C3 _).mono ?_); rintro e w' ⟨rfl, rfl⟩)) | (go_at_call 35; ((with_reducible refine (C4 _).mono ?_); rintro e w' ⟨rfl, rfl⟩)) | (go_at_call 22; ((with_reducible refine (C6 _).mono ?_); rintro e w' ⟨rfl, rfl⟩)) | simp only [x10])
        go_ret
        exact ⟨rfl, Grown.refl _⟩
      · rw [decide_eq_false m3] at l3
        clear m3 kc hb hc n l4
        go_enter Try.func6, Try.ntmps6
        go_wp2_with (first | (go_at_call 12; ((with_reducible refine (awake_any _).mono ?_); rintro e w' ⟨rfl, rfl⟩)) | (go_at_call 22; ((with_reducible refine (C1 _).mono ?_); rintro e w' ⟨rfl, rfl⟩)) | (go_at_call 24; ((with_reducible refine (C2 _).mono ?_); rintro e w' ⟨rfl, rfl⟩)) | (go_at_call 35; ((with_reducible refine (C3 _).mono ?_); rintro e w' ⟨rfl, rfl⟩)) | (go_at_call 35; ((with_reducible refine (C4 _).mono ?_); rintro e w' ⟨rfl, rfl⟩)) | (go_at_call 22; ((with_reducible refine (C6 _).mono ?_); rintro e w' ⟨rfl, rfl⟩)) | simp only [x10])
        go_ret
        exact ⟨rfl, Grown.refl _⟩
    by_cases i2 : b = 18442240474082181120
    · subst i2
      have en : nextW 18442240474082181120 = 18442240474082181119 := by decide
      have ep : prevW 18442240474082181120 = 18442240474082181120 := by decide
      have eq : prevW 18442240474082181119 = 18442240474082181120 := by decide
      rw [en] at C1 C5 l2 g1 q1
      rw [ep] at C2 C6 l3 g2 q2
      rw [eq] at C5 q1
      rw [decide_eq_false (by decide)] at C3 g2
      rw [decide_eq_true (by decide)] at C4 g1 q1
      rw [decide_eq_false (fun h => by have := kc h.1; have := h.2.2; rw [show Ieee.Own.key64 18442240474082181120 = -9218868437227405312 by decide] at this; omega)] at l4
      clear k1 k2 k3 k4 q2 C6 en ep eq g2
      by_cases m3 : nn 18442240474082181120 ∧ nn c ∧ Ieee.Own.key64 18442240474082181120 < Ieee.Own.key64 c
      · rw [decide_eq_true m3] at l3 l1
        rw [decide_eq_false (fun h => by have := m3.2.2; have := h.2.2; rw [show Ieee.Own.key64 18442240474082181120 = -9218868437227405312 by decide] at *; rw [show Ieee.Own.key64 18442240474082181119 = -9218868437227405311 by decide] at *; omega)] at l2
        clear m3 kc hb hc n
        go_enter Try.func6, Try.ntmps6
        go_wp2_with (first | (go_at_call 12; ((with_reducible refine (awake_any _).mono ?_); rintro e w' ⟨rfl, rfl⟩)) | (go_at_call 22; ((with_reducible refine (C1 _).mono ?_); rintro e w' ⟨rfl, rfl⟩)) | (go_at_call 24; ((with_reducible refine (C2 _).mono ?_); rintro e w' ⟨rfl, rfl⟩)) | (go_at_call 35; ((with_reducible refine (C3 _).mono ?_); rintro e w' ⟨rfl, rfl⟩)) | (go_at_call 35; ((with_reducible refine (C4 _).mono ?_); rintro e w' ⟨rfl, rfl⟩)) | (go_at_call 24; ((with_reducible refine (C5 _).mono ?_); rintro e w' ⟨rfl, rfl⟩)) | simp only [x10])
        go_ret
        exact ⟨rfl, Grown.refl _⟩
      · rw [decide_eq_false m3] at l3 l1
        clear m3 kc hb hc n l2
        go_enter Try.func6, Try.ntmps6
        go_wp2_with (first | (go_at_call 12; ((with_reducible refine (awake_any _).mono ?_); rintro e w' ⟨rfl, rfl⟩)) | (go_at_call 22; ((with_reducible refine (C1 _).mono ?_); rintro e w' ⟨rfl, rfl⟩)) | (go_at_call 24; ((with_reducible refine (C2 _).mono ?_); rintro e w' ⟨rfl, rfl⟩)) | (go_at_call 35; ((with_reducible refine (C3 _).mono ?_); rintro e w' ⟨rfl, rfl⟩)) | (go_at_call 35; ((with_reducible refine (C4 _).mono ?_); rintro e w' ⟨rfl, rfl⟩)) | (go_at_call 24; ((with_reducible refine (C5 _).mono ?_); rintro e w' ⟨rfl, rfl⟩)) | simp only [x10])
        go_ret
        exact ⟨rfl, Grown.refl _⟩
    have hnb : nextW b < 18446744073709551616 := nextW_lt b hb
    have hpb : prevW b < 18446744073709551616 := prevW_lt b hb
    obtain ⟨n1, k1⟩ := k1 i1
    obtain ⟨n2, k2⟩ := k2 i2
    have kb := key_inf b hb n
    have j1 : ¬ nextW b = 18442240474082181120 := fun h => by rw [h, show Ieee.Own.key64 18442240474082181120 = -9218868437227405312 by decide] at k1; omega
    have j2 : ¬ prevW b = 9218868437227405312 := fun h => by rw [h, show Ieee.Own.key64 9218868437227405312 = 9218868437227405312 by decide] at k2; omega
    obtain ⟨n3, k3⟩ := k3 n1 j1
    obtain ⟨n4, k4⟩ := k4 n2 j2
    rw [decide_eq_false i1] at C3
    rw [decide_eq_false i2] at C4
    rw [decide_eq_true ⟨n1, n, by omega⟩] at g1
    rw [decide_eq_true ⟨n2, n, by omega⟩] at g2
    rw [decide_eq_true ⟨n3, n, by omega⟩] at q1
    rw [decide_eq_true ⟨n4, n, by omega⟩] at q2
    rw [k1] at l2
    rw [k2] at l3
    generalize prevW (nextW b) = pn at *
    generalize nextW (prevW b) = np at *
    generalize nextW b = nb at *
    generalize prevW b = pb at *
    by_cases m : nn c
    · by_cases m1 : Ieee.Own.key64 b < Ieee.Own.key64 c
      · rw [decide_eq_true ⟨n, m, m1⟩] at l1
        rw [decide_eq_false (fun h => by have := h.2.2; omega)] at l2
        rw [decide_eq_true ⟨n2, m, by omega⟩] at l3
        rw [decide_eq_false (fun h => by have := h.2.2; omega)] at l4
        clear m m1 n n1 n2 n3 n4 k1 k2 k3 k4 kb kc j1 j2 i1 i2 hb hc hnb hpb
        go_enter Try.func6, Try.ntmps6
        go_wp2_with (first | (go_at_call 12; ((with_reducible refine (awake_any _).mono ?_); rintro e w' ⟨rfl, rfl⟩)) | (go_at_call 22; ((with_reducible refine (C1 _).mono ?_); rintro e w' ⟨rfl, rfl⟩)) | (go_at_call 24; ((with_reducible refine (C2 _).mono ?_); rintro e w' ⟨rfl, rfl⟩)) | (go_at_call 35; ((with_reducible refine (C3 _).mono ?_); rintro e w' ⟨rfl, rfl⟩)) | (go_at_call 35; ((with_reducible refine (C4 _).mono ?_); rintro e w' ⟨rfl, rfl⟩)) | (go_at_call 24; ((with_reducible refine (C5 _).mono ?_); rintro e w' ⟨rfl, rfl⟩)) | (go_at_call 22; ((with_reducible refine (C6 _).mono ?_); rintro e w' ⟨rfl, rfl⟩)) | simp only [x10])
        go_ret
        exact ⟨rfl, Grown.refl _⟩
      · rw [decide_eq_false (fun h => m1 h.2.2)] at l1
        by_cases m2 : Ieee.Own.key64 b - 1 < Ieee.Own.key64 c
        · rw [decide_eq_true ⟨n2, m, m2⟩] at l3
          rw [decide_eq_false (fun h => by have := h.2.2; omega)] at l4
          clear m m1 n n1 n2 n3 n4 k1 k2 k3 k4 kb kc j1 j2 i1 i2 hb hc hnb hpb m2 l2
          go_enter Try.func6, Try.ntmps6
          go_wp2_with (first | (go_at_call 12; ((with_reducible refine (awake_any _).mono ?_); rintro e w' ⟨rfl, rfl⟩)) | (go_at_call 22; ((with_reducible refine (C1 _).mono ?_); rintro e w' ⟨rfl, rfl⟩)) | (go_at_call 24; ((with_reducible refine (C2 _).mono ?_); rintro e w' ⟨rfl, rfl⟩)) | (go_at_call 35; ((with_reducible refine (C3 _).mono ?_); rintro e w' ⟨rfl, rfl⟩)) | (go_at_call 35; ((with_reducible refine (C4 _).mono ?_); rintro e w' ⟨rfl, rfl⟩)) | (go_at_call 24; ((with_reducible refine (C5 _).mono ?_); rintro e w' ⟨rfl, rfl⟩)) | (go_at_call 22; ((with_reducible refine (C6 _).mono ?_); rintro e w' ⟨rfl, rfl⟩)) | simp only [x10])
          go_ret
          exact ⟨rfl, Grown.refl _⟩
        · rw [decide_eq_false (fun h => m2 h.2.2)] at l3
          clear m m1 n n1 n2 n3 n4 k1 k2 k3 k4 kb kc j1 j2 i1 i2 hb hc hnb hpb m2 l2 l4
          go_enter Try.func6, Try.ntmps6
          go_wp2_with (first | (go_at_call 12; ((with_reducible refine (awake_any _).mono ?_); rintro e w' ⟨rfl, rfl⟩)) | (go_at_call 22; ((with_reducible refine (C1 _).mono ?_); rintro e w' ⟨rfl, rfl⟩)) | (go_at_call 24; ((with_reducible refine (C2 _).mono ?_); rintro e w' ⟨rfl, rfl⟩)) | (go_at_call 35; ((with_reducible refine (C3 _).mono ?_); rintro e w' ⟨rfl, rfl⟩)) | (go_at_call 35; ((with_reducible refine (C4 _).mono ?_); rintro e w' ⟨rfl, rfl⟩)) | (go_at_call 24; ((with_reducible refine (C5 _).mono ?_); rintro e w' ⟨rfl, rfl⟩)) | (go_at_call 22; ((with_reducible refine (C6 _).mono ?_); rintro e w' ⟨rfl, rfl⟩)) | simp only [x10])
          go_ret
          exact ⟨rfl, Grown.refl _⟩
    · rw [decide_eq_false (fun h => m h.2.1)] at l1 l3
      clear m n n1 n2 n3 n4 k1 k2 k3 k4 kb kc j1 j2 i1 i2 hb hc hnb hpb l2 l4
      go_enter Try.func6, Try.ntmps6
      go_wp2_with (first | (go_at_call 12; ((with_reducible refine (awake_any _).mono ?_); rintro e w' ⟨rfl, rfl⟩)) | (go_at_call 22; ((with_reducible refine (C1 _).mono ?_); rintro e w' ⟨rfl, rfl⟩)) | (go_at_call 24; ((with_reducible refine (C2 _).mono ?_); rintro e w' ⟨rfl, rfl⟩)) | (go_at_call 35; ((with_reducible refine (C3 _).mono ?_); rintro e w' ⟨rfl, rfl⟩)) | (go_at_call 35; ((with_reducible refine (C4 _).mono ?_); rintro e w' ⟨rfl, rfl⟩)) | (go_at_call 24; ((with_reducible refine (C5 _).mono ?_); rintro e w' ⟨rfl, rfl⟩)) | (go_at_call 22; ((with_reducible refine (C6 _).mono ?_); rintro e w' ⟨rfl, rfl⟩)) | simp only [x10])
      go_ret
      exact ⟨rfl, Grown.refl _⟩
  · have e0 := o_neq b b hb hb
    rw [decide_eq_false (fun h => n h.1)] at e0
    rw [next_nan b n] at C1
    rw [prev_nan b n] at C2
    have e1 := o_neq 9221120237041090560 9221120237041090560 (by omega) (by omega)
    rw [decide_eq_false (by decide)] at e1
    clear hb hc n
    go_enter Try.func6, Try.ntmps6
    go_wp2_with (first | (go_at_call 12; ((with_reducible refine (awake_any _).mono ?_); rintro e w' ⟨rfl, rfl⟩)) | (go_at_call 22; ((with_reducible refine (C1 _).mono ?_); rintro e w' ⟨rfl, rfl⟩)) | (go_at_call 24; ((with_reducible refine (C2 _).mono ?_); rintro e w' ⟨rfl, rfl⟩)) | simp only [x10])
    go_ret
    exact ⟨rfl, Grown.refl _⟩

set_option maxRecDepth 100000 in
theorem lifted (os : Os) (started : os.Started) (H : Type) (enc : TypeId × Value → H) :
    ReturnsInHanded {} Try.checked os 6 .any (Rows.grainBetweenSpec.pre6 enc Try.prog Try.f6 Rows.grainBetweenRow.domain false) (Rows.grainBetweenSpec.post enc Try.prog Try.f6 false true false false) := by
  refine returnsInHanded_of_change (C := Try.checked) own started (by kernel_rfl) Try.func6
    (ChangeSpec.witness6 (enc := enc) (C := Try.checked) false ⟨#[], #[.int .u64 0, .int .u64 0], []⟩ 8 (by kernel_rfl) (by kernel_rfl) (by kernel_rfl) (by kernel_rfl)) ?_
  intro W base args ds gs before hval0 hW hcnd _
  have hval : ∀ (j : Nat) t v, Try.f6.params[j]? = some t → args[j]? = some v → Value.okWide Try.prog W .any base t v := hval0
  have hW' := hW
  obtain ⟨p, q, hA0, hV, rfl, hfz, hnd⟩ := hW
  have hA : DataW.TrodAll enc Try.prog W 0 (fun _ => true) true Try.f6.params.toList args.toList ds p := hA0
  rw [Try.params6] at hA hval
  obtain ⟨v0, vs0, d0, ds0, p0, q0, hargs, rfl, rfl, h0, r0⟩ := trodAll_cons hA
  obtain ⟨v1, vs1, d1, ds1, p1, q1, rfl, rfl, rfl, h1, r1⟩ := trodAll_cons r0
  obtain ⟨rfl, rfl, rfl⟩ := trodAll_nil r1
  obtain rfl : args = #[v0, v1] := by cases args; simp_all
  obtain ⟨rfl, rfl⟩ := trodVars_none hV
  obtain ⟨a0, rfl, rfl, rfl, w0⟩ := open_int Try.underlying22 (hval 0 22 v0 rfl rfl) h0
  obtain ⟨a1, rfl, rfl, rfl, w1⟩ := open_int Try.underlying22 (hval 1 22 v1 rfl rfl) h1
  clear hA0 hval0
  simp only [List.append_nil] at hW'
  refine (walk a0 a1 w0 w1 W).mono fun e W' ⟨he, hg⟩ => ?_
  subst he
  exact ⟨_, rfl, post_of_same (pa := []) (pv := []) hW' (fun _ _ _ => (trodAll_cons_mk (shut_bool Try.underlying4 _) trodAll_mk0)) (fun sp _ => (trodAll_cons_mk (shut_int Try.underlying22 w0) (trodAll_cons_mk (shut_int Try.underlying22 w1) trodAll_mk0))) (fun _ _ => rfl) rfl
    (hg.frame _) hg.2.1 (ok_one (by kernel_rfl) rfl (okWide_bool_mk Try.underlying4 _))⟩

theorem over : Rows.grainBetweenRow.holds Try.pinned (OpenSpec.ofChange Rows.grainBetweenSpec) :=
  OpenClaim.holds_of_wide 6 Try.f6 rfl rfl rfl rfl rfl rfl rfl ⟨rfl, rfl, rfl, rfl, rfl⟩ rfl rfl rfl rfl rfl (by kernel_rfl) Try.func6 (by kernel_rfl)
    (of_decide_eq_true (by kernel_rfl)) (by unfold Func.isWrapper; first | (rw [if_pos (by decide +kernel)]; kernel_rfl) | (rw [if_neg (by decide +kernel)]; exact ⟨rfl, rfl⟩))
    (fun os started H enc _ => lifted os started H enc)

theorem proved : Rows.GrainBetweenSaid :=
  over
end Go.Proofs.Ytfbhgckjaoldnaa.grainBetween
