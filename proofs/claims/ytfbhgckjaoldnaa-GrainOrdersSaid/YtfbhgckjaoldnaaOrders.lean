/- Proved here: for every three words of 64 bits the law GrainOrders returns true: Order is a total order of places, and that of values where values tell. No conditions. -/
import Derived.Test.YtfbhgckjaoldnaaRows
import Derived.Test.YtfbhgckjaoldnaaOrder
import Derived.WalkKit
import Derived.ProofKit
import Derived.OpenShut
namespace Go.Proofs.Ytfbhgckjaoldnaa.grainOrders
open Go.ChangeShapes Go.WideShapes Go.ChangeAt Go.RowKit
set_option linter.unusedVariables false      -- a walk need not use every 'w<i>' (that an integer argument fits its kind)

theorem own : ownKnob Try.prog.godebug = none := by kernel_rfl


theorem place_lt (a b : Nat) (ha : a < 18446744073709551616) (hb : b < 18446744073709551616) (na : nn a) (nb : nn b) (h : Ieee.Own.key64 a < Ieee.Own.key64 b) : placeI a < placeI b := by
  have ea : canW a = a := if_neg (by unfold nn at na; omega)
  have eb : canW b = b := if_neg (by unfold nn at nb; omega)
  unfold placeI; rw [ea, eb]
  unfold Ieee.Own.key64 at h
  clear na nb ea eb
  repeat' split
  all_goals (repeat' split at h) <;> omega
theorem cmp_m (p q : Int) (h : p < q) : cmpI p q = -1 := if_pos h
theorem cmp_p (p q : Int) (h : q < p) : cmpI p q = 1 := by unfold cmpI; rw [if_neg (by omega), if_pos h]
theorem cmp_0 (p : Int) : cmpI p p = 0 := by unfold cmpI; simp

/-! ### the walk -/
set_option maxHeartbeats 1000000 in
theorem walk (a0 : Int) (a1 : Int) (a2 : Int) (w0 : (Lit.int .u64 a0).wf = true) (w1 : (Lit.int .u64 a1).wf = true) (w2 : (Lit.int .u64 a2).wf = true) (w : World) :
    Calls Try.prog 7 #[.int .u64 a0, .int .u64 a1, .int .u64 a2] w fun e w' => e = .returned (.bool true) ∧ Grown w w' := by
  obtain ⟨b, rfl, hb⟩ := nat_u64 a0 w0
  obtain ⟨c, rfl, hc⟩ := nat_u64 a1 w1
  obtain ⟨d, rfl, hd⟩ := nat_u64 a2 w2
  have C1 := fun w => order_any b c hb hc w
  have C2 := fun w => order_any c b hc hb w
  have C3 := fun w => order_any b b hb hb w
  have C4 := fun w => order_any c d hc hd w
  have C5 := fun w => order_any b d hb hd w
  have C6 := fun w => rorder_any b c hb hc w
  rw [cmp_0] at C3
  have e1 := o_lss b c hb hc
  have e2 := o_gtr b c hb hc
  have k1 := place_lt b c hb hc
  have k2 := place_lt c b hc hb
  clear hb hc hd w0 w1 w2
  generalize placeI b = p at *
  generalize placeI c = q at *
  generalize placeI d = r at *
  by_cases h1 : p < q
  · rw [cmp_m p q h1] at C1 C6
    rw [cmp_p q p h1] at C2
    rw [decide_eq_false (fun h => by have := k2 h.2.1 h.1 h.2.2; omega)] at e2
    by_cases h3 : r < q
    · rw [cmp_p q r h3] at C4
      clear k1 k2 h1 h3
      by_cases h2 : nn b ∧ nn c ∧ Ieee.Own.key64 b < Ieee.Own.key64 c
      · rw [decide_eq_true h2] at e1
        clear h2
        go_enter Try.func7, Try.ntmps7
        go_wp2_with (first | (go_at_call 12; ((with_reducible refine (awake_any _).mono ?_); rintro e w' ⟨rfl, rfl⟩)) | (go_at_call 36; ((with_reducible refine (C1 _).mono ?_); rintro e w' ⟨rfl, rfl⟩)) | (go_at_call 36; ((with_reducible refine (C2 _).mono ?_); rintro e w' ⟨rfl, rfl⟩)) | (go_at_call 36; ((with_reducible refine (C3 _).mono ?_); rintro e w' ⟨rfl, rfl⟩)) | (go_at_call 36; ((with_reducible refine (C4 _).mono ?_); rintro e w' ⟨rfl, rfl⟩)) | (go_at_call 36; ((with_reducible refine (C5 _).mono ?_); rintro e w' ⟨rfl, rfl⟩)) | (go_at_call 37; ((with_reducible refine (C6 _).mono ?_); rintro e w' ⟨rfl, rfl⟩)) | simp only [x10])
        go_ret
        exact ⟨rfl, Grown.refl _⟩
      · rw [decide_eq_false h2] at e1
        clear h2
        go_enter Try.func7, Try.ntmps7
        go_wp2_with (first | (go_at_call 12; ((with_reducible refine (awake_any _).mono ?_); rintro e w' ⟨rfl, rfl⟩)) | (go_at_call 36; ((with_reducible refine (C1 _).mono ?_); rintro e w' ⟨rfl, rfl⟩)) | (go_at_call 36; ((with_reducible refine (C2 _).mono ?_); rintro e w' ⟨rfl, rfl⟩)) | (go_at_call 36; ((with_reducible refine (C3 _).mono ?_); rintro e w' ⟨rfl, rfl⟩)) | (go_at_call 36; ((with_reducible refine (C4 _).mono ?_); rintro e w' ⟨rfl, rfl⟩)) | (go_at_call 36; ((with_reducible refine (C5 _).mono ?_); rintro e w' ⟨rfl, rfl⟩)) | (go_at_call 37; ((with_reducible refine (C6 _).mono ?_); rintro e w' ⟨rfl, rfl⟩)) | simp only [x10])
        go_ret
        exact ⟨rfl, Grown.refl _⟩
    · have t1 : decide (cmpI q r > 0) = false := by unfold cmpI; repeat' split
                                                    all_goals first | decide | omega
      have t2 : decide (cmpI p r ≤ 0) = true := by unfold cmpI; repeat' split
                                                   all_goals first | decide | omega
      clear k1 k2 h1 h3
      generalize cmpI q r = x at *
      generalize cmpI p r = y at *
      by_cases h2 : nn b ∧ nn c ∧ Ieee.Own.key64 b < Ieee.Own.key64 c
      · rw [decide_eq_true h2] at e1
        clear h2
        go_enter Try.func7, Try.ntmps7
        go_wp2_with (first | (go_at_call 12; ((with_reducible refine (awake_any _).mono ?_); rintro e w' ⟨rfl, rfl⟩)) | (go_at_call 36; ((with_reducible refine (C1 _).mono ?_); rintro e w' ⟨rfl, rfl⟩)) | (go_at_call 36; ((with_reducible refine (C2 _).mono ?_); rintro e w' ⟨rfl, rfl⟩)) | (go_at_call 36; ((with_reducible refine (C3 _).mono ?_); rintro e w' ⟨rfl, rfl⟩)) | (go_at_call 36; ((with_reducible refine (C4 _).mono ?_); rintro e w' ⟨rfl, rfl⟩)) | (go_at_call 36; ((with_reducible refine (C5 _).mono ?_); rintro e w' ⟨rfl, rfl⟩)) | (go_at_call 37; ((with_reducible refine (C6 _).mono ?_); rintro e w' ⟨rfl, rfl⟩)) | simp only [x10])
        go_ret
        exact ⟨rfl, Grown.refl _⟩
      · rw [decide_eq_false h2] at e1
        clear h2
        go_enter Try.func7, Try.ntmps7
        go_wp2_with (first | (go_at_call 12; ((with_reducible refine (awake_any _).mono ?_); rintro e w' ⟨rfl, rfl⟩)) | (go_at_call 36; ((with_reducible refine (C1 _).mono ?_); rintro e w' ⟨rfl, rfl⟩)) | (go_at_call 36; ((with_reducible refine (C2 _).mono ?_); rintro e w' ⟨rfl, rfl⟩)) | (go_at_call 36; ((with_reducible refine (C3 _).mono ?_); rintro e w' ⟨rfl, rfl⟩)) | (go_at_call 36; ((with_reducible refine (C4 _).mono ?_); rintro e w' ⟨rfl, rfl⟩)) | (go_at_call 36; ((with_reducible refine (C5 _).mono ?_); rintro e w' ⟨rfl, rfl⟩)) | (go_at_call 37; ((with_reducible refine (C6 _).mono ?_); rintro e w' ⟨rfl, rfl⟩)) | simp only [x10])
        go_ret
        exact ⟨rfl, Grown.refl _⟩
  by_cases h1' : q < p
  · rw [cmp_p p q h1'] at C1 C6
    rw [cmp_m q p h1'] at C2
    rw [decide_eq_false (fun h => by have := k1 h.1 h.2.1 h.2.2; omega)] at e1
    clear k1 k2 h1 h1' C4 C5
    by_cases h2 : nn b ∧ nn c ∧ Ieee.Own.key64 c < Ieee.Own.key64 b
    · rw [decide_eq_true h2] at e2
      clear h2
      go_enter Try.func7, Try.ntmps7
      go_wp2_with (first | (go_at_call 12; ((with_reducible refine (awake_any _).mono ?_); rintro e w' ⟨rfl, rfl⟩)) | (go_at_call 36; ((with_reducible refine (C1 _).mono ?_); rintro e w' ⟨rfl, rfl⟩)) | (go_at_call 36; ((with_reducible refine (C2 _).mono ?_); rintro e w' ⟨rfl, rfl⟩)) | (go_at_call 36; ((with_reducible refine (C3 _).mono ?_); rintro e w' ⟨rfl, rfl⟩)) | (go_at_call 37; ((with_reducible refine (C6 _).mono ?_); rintro e w' ⟨rfl, rfl⟩)) | simp only [x10])
      go_ret
      exact ⟨rfl, Grown.refl _⟩
    · rw [decide_eq_false h2] at e2
      clear h2
      go_enter Try.func7, Try.ntmps7
      go_wp2_with (first | (go_at_call 12; ((with_reducible refine (awake_any _).mono ?_); rintro e w' ⟨rfl, rfl⟩)) | (go_at_call 36; ((with_reducible refine (C1 _).mono ?_); rintro e w' ⟨rfl, rfl⟩)) | (go_at_call 36; ((with_reducible refine (C2 _).mono ?_); rintro e w' ⟨rfl, rfl⟩)) | (go_at_call 36; ((with_reducible refine (C3 _).mono ?_); rintro e w' ⟨rfl, rfl⟩)) | (go_at_call 37; ((with_reducible refine (C6 _).mono ?_); rintro e w' ⟨rfl, rfl⟩)) | simp only [x10])
      go_ret
      exact ⟨rfl, Grown.refl _⟩
  obtain rfl : p = q := by omega
  rw [cmp_0] at C1 C2 C6
  rw [decide_eq_false (fun h => by have := k2 h.2.1 h.1 h.2.2; omega)] at e2
  rw [decide_eq_false (fun h => by have := k1 h.1 h.2.1 h.2.2; omega)] at e1
  clear k1 k2 h1 h1'
  by_cases h3 : r < p
  · rw [cmp_p p r h3] at C4 C5
    clear h3
    go_enter Try.func7, Try.ntmps7
    go_wp2_with (first | (go_at_call 12; ((with_reducible refine (awake_any _).mono ?_); rintro e w' ⟨rfl, rfl⟩)) | (go_at_call 36; ((with_reducible refine (C1 _).mono ?_); rintro e w' ⟨rfl, rfl⟩)) | (go_at_call 36; ((with_reducible refine (C2 _).mono ?_); rintro e w' ⟨rfl, rfl⟩)) | (go_at_call 36; ((with_reducible refine (C3 _).mono ?_); rintro e w' ⟨rfl, rfl⟩)) | (go_at_call 36; ((with_reducible refine (C4 _).mono ?_); rintro e w' ⟨rfl, rfl⟩)) | (go_at_call 36; ((with_reducible refine (C5 _).mono ?_); rintro e w' ⟨rfl, rfl⟩)) | (go_at_call 37; ((with_reducible refine (C6 _).mono ?_); rintro e w' ⟨rfl, rfl⟩)) | simp only [x10])
    go_ret
    exact ⟨rfl, Grown.refl _⟩
  · have t1 : decide (cmpI p r > 0) = false := by unfold cmpI; repeat' split
                                                  all_goals first | decide | omega
    have t2 : decide (cmpI p r ≤ 0) = true := by unfold cmpI; repeat' split
                                                 all_goals first | decide | omega
    clear h3
    generalize cmpI p r = x at *
    go_enter Try.func7, Try.ntmps7
    go_wp2_with (first | (go_at_call 12; ((with_reducible refine (awake_any _).mono ?_); rintro e w' ⟨rfl, rfl⟩)) | (go_at_call 36; ((with_reducible refine (C1 _).mono ?_); rintro e w' ⟨rfl, rfl⟩)) | (go_at_call 36; ((with_reducible refine (C2 _).mono ?_); rintro e w' ⟨rfl, rfl⟩)) | (go_at_call 36; ((with_reducible refine (C3 _).mono ?_); rintro e w' ⟨rfl, rfl⟩)) | (go_at_call 36; ((with_reducible refine (C4 _).mono ?_); rintro e w' ⟨rfl, rfl⟩)) | (go_at_call 36; ((with_reducible refine (C5 _).mono ?_); rintro e w' ⟨rfl, rfl⟩)) | (go_at_call 37; ((with_reducible refine (C6 _).mono ?_); rintro e w' ⟨rfl, rfl⟩)) | simp only [x10])
    go_ret
    exact ⟨rfl, Grown.refl _⟩

set_option maxRecDepth 100000 in
theorem lifted (os : Os) (started : os.Started) (H : Type) (enc : TypeId × Value → H) :
    ReturnsInHanded {} Try.checked os 7 .any (Rows.grainOrdersSpec.pre6 enc Try.prog Try.f7 Rows.grainOrdersRow.domain false) (Rows.grainOrdersSpec.post enc Try.prog Try.f7 false true false false) := by
  refine returnsInHanded_of_change (C := Try.checked) own started (by kernel_rfl) Try.func7
    (ChangeSpec.witness6 (enc := enc) (C := Try.checked) false ⟨#[], #[.int .u64 0, .int .u64 0, .int .u64 0], []⟩ 8 (by kernel_rfl) (by kernel_rfl) (by kernel_rfl) (by kernel_rfl)) ?_
  intro W base args ds gs before hval0 hW hcnd _
  have hval : ∀ (j : Nat) t v, Try.f7.params[j]? = some t → args[j]? = some v → Value.okWide Try.prog W .any base t v := hval0
  have hW' := hW
  obtain ⟨p, q, hA0, hV, rfl, hfz, hnd⟩ := hW
  have hA : DataW.TrodAll enc Try.prog W 0 (fun _ => true) true Try.f7.params.toList args.toList ds p := hA0
  rw [Try.params7] at hA hval
  obtain ⟨v0, vs0, d0, ds0, p0, q0, hargs, rfl, rfl, h0, r0⟩ := trodAll_cons hA
  obtain ⟨v1, vs1, d1, ds1, p1, q1, rfl, rfl, rfl, h1, r1⟩ := trodAll_cons r0
  obtain ⟨v2, vs2, d2, ds2, p2, q2, rfl, rfl, rfl, h2, r2⟩ := trodAll_cons r1
  obtain ⟨rfl, rfl, rfl⟩ := trodAll_nil r2
  obtain rfl : args = #[v0, v1, v2] := by cases args; simp_all
  obtain ⟨rfl, rfl⟩ := trodVars_none hV
  obtain ⟨a0, rfl, rfl, rfl, w0⟩ := open_int Try.underlying22 (hval 0 22 v0 rfl rfl) h0
  obtain ⟨a1, rfl, rfl, rfl, w1⟩ := open_int Try.underlying22 (hval 1 22 v1 rfl rfl) h1
  obtain ⟨a2, rfl, rfl, rfl, w2⟩ := open_int Try.underlying22 (hval 2 22 v2 rfl rfl) h2
  clear hA0 hval0
  simp only [List.append_nil] at hW'
  refine (walk a0 a1 a2 w0 w1 w2 W).mono fun e W' ⟨he, hg⟩ => ?_
  subst he
  exact ⟨_, rfl, post_of_same (pa := []) (pv := []) hW' (fun _ _ _ => (trodAll_cons_mk (shut_bool Try.underlying4 _) trodAll_mk0)) (fun sp _ => (trodAll_cons_mk (shut_int Try.underlying22 w0) (trodAll_cons_mk (shut_int Try.underlying22 w1) (trodAll_cons_mk (shut_int Try.underlying22 w2) trodAll_mk0)))) (fun _ _ => rfl) rfl
    (hg.frame _) hg.2.1 (ok_one (by kernel_rfl) rfl (okWide_bool_mk Try.underlying4 _))⟩

theorem over : Rows.grainOrdersRow.holds Try.pinned (OpenSpec.ofChange Rows.grainOrdersSpec) :=
  OpenClaim.holds_of_wide 7 Try.f7 rfl rfl rfl rfl rfl rfl rfl ⟨rfl, rfl, rfl, rfl, rfl⟩ rfl rfl rfl rfl rfl (by kernel_rfl) Try.func7 (by kernel_rfl)
    (of_decide_eq_true (by kernel_rfl)) (by unfold Func.isWrapper; first | (rw [if_pos (by decide +kernel)]; kernel_rfl) | (rw [if_neg (by decide +kernel)]; exact ⟨rfl, rfl⟩))
    (fun os started H enc _ => lifted os started H enc)

theorem proved : Rows.GrainOrdersSaid :=
  over
end Go.Proofs.Ytfbhgckjaoldnaa.grainOrders
