/- Proved here: what isDate answers, over the translated code. -/
import Derived.Test.YtppggaibhfajjaaDat
namespace Go.Proofs.Ytppggaibhfajjaa
open Go.ChangeShapes Go.WideShapes Go.ChangeAt Go.RowKit

theorem quiet_as {P : Program} {f : FuncId} {args : Array Value} {w : World} {n : Nat} {v : Value}
    (h : Calls P f args (w.drewN n) fun e w' => e = .returned v ∧ w.drewN n = w') : Calls P f args (w.drewN n) fun e w'' => e = .returned v ∧ ∃ m, w'' = w.drewN m :=
  h.mono fun _ _ ⟨he, hm⟩ => ⟨he, n, hm.symm⟩
theorem quiet_dr {P : Program} {f : FuncId} {args : Array Value} {w : World} {n : Nat} {v : Value}
    (h : Calls P f args (w.drewN n) fun e w' => e = .returned v ∧ ∃ m, w' = (w.drewN n).drewN m) : Calls P f args (w.drewN n) fun e w'' => e = .returned v ∧ ∃ m, w'' = w.drewN m :=
  h.mono fun _ _ ⟨he, m, hm⟩ => ⟨he, n + m, by rw [hm]; simp⟩

set_option maxHeartbeats 2000000 in
set_option maxRecDepth 100000 in
theorem isdate_t {y m d h i s k : Int} (H : isD y m d h i s k = true) (w : World) :
    Calls Try.prog 34 #[dAgg y m d h i s k] w fun e w' => e = .returned (.bool true) ∧ Below w.heap.size w w' := by
  obtain ⟨⟨m1, m2⟩, ⟨d1, d2⟩, ⟨h1, h2⟩, ⟨i1, i2⟩, ⟨s1, s2⟩, ⟨k1, k2⟩⟩ := isD_parts H
  have Cm := fun w => within_t m1 m2 w
  have Cd := fun w => within_t d1 d2 w
  have Ch := fun w => within_t h1 h2 w
  have Ci := fun w => within_t i1 i2 w
  have Cs := fun w => within_t s1 s2 w
  have Ck := fun w => within_t k1 k2 w
  have Cl := fun w => daysof_run y m w
  generalize mLen y m = L at *
  unfold dAgg
  clear H m1 m2 d1 d2 h1 h2 i1 i2 s1 s2 k1 k2
  go_enter Try.func34, Try.ntmps34
  go_wp2_with fail
  go_quiet (first | (go_at_call 40; with_reducible refine quiet_as (Cl _)) | (go_at_call 35; first | with_reducible refine quiet_as (Cm _) | with_reducible refine quiet_as (Cd _) | with_reducible refine quiet_as (Ch _) | with_reducible refine quiet_as (Ci _) | with_reducible refine quiet_as (Cs _) | with_reducible refine quiet_as (Ck _)))
  go_wp2_with fail
  go_ret
  exact ⟨rfl, bl_drewN ((Below.refl _ _).alloc (Nat.le_refl _) _) _⟩
set_option maxHeartbeats 2000000 in
set_option maxRecDepth 100000 in
theorem isdate_f0 {y m d h i s k : Int}  (H : m < 1 ∨ 14 < m) (w : World) :
    Calls Try.prog 34 #[dAgg y m d h i s k] w fun e w' => e = .returned (.bool false) ∧ Below w.heap.size w w' := by
  have Cm := fun w => within_f H w
  unfold dAgg
  clear H
  go_enter Try.func34, Try.ntmps34
  go_wp2_with fail
  go_quiet ((go_at_call 35; with_reducible refine quiet_as (Cm _)))
  go_wp2_with fail
  go_ret
  exact ⟨rfl, bl_drewN ((Below.refl _ _).alloc (Nat.le_refl _) _) _⟩
set_option maxHeartbeats 2000000 in
set_option maxRecDepth 100000 in
theorem isdate_f1 {y m d h i s k : Int} (m1 : 1 ≤ m) (m2 : m ≤ 14) (H : d < 1 ∨ (mLen y m) < d) (w : World) :
    Calls Try.prog 34 #[dAgg y m d h i s k] w fun e w' => e = .returned (.bool false) ∧ Below w.heap.size w w' := by
  have Cm := fun w => within_t m1 m2 w
  have Cd := fun w => within_f H w
  have Cl := fun w => daysof_run y m w
  generalize mLen y m = L at *
  unfold dAgg
  clear H m1 m2
  go_enter Try.func34, Try.ntmps34
  go_wp2_with fail
  go_quiet (first | (go_at_call 40; with_reducible refine quiet_as (Cl _)) | (go_at_call 35; first | with_reducible refine quiet_as (Cm _) | with_reducible refine quiet_as (Cd _)))
  go_wp2_with fail
  go_ret
  exact ⟨rfl, bl_drewN ((Below.refl _ _).alloc (Nat.le_refl _) _) _⟩
set_option maxHeartbeats 2000000 in
set_option maxRecDepth 100000 in
theorem isdate_f2 {y m d h i s k : Int} (m1 : 1 ≤ m) (m2 : m ≤ 14) (d1 : 1 ≤ d) (d2 : d ≤ (mLen y m)) (H : h < 0 ∨ 15 < h) (w : World) :
    Calls Try.prog 34 #[dAgg y m d h i s k] w fun e w' => e = .returned (.bool false) ∧ Below w.heap.size w w' := by
  have Cm := fun w => within_t m1 m2 w
  have Cd := fun w => within_t d1 d2 w
  have Ch := fun w => within_f H w
  have Cl := fun w => daysof_run y m w
  generalize mLen y m = L at *
  unfold dAgg
  clear H m1 m2 d1 d2
  go_enter Try.func34, Try.ntmps34
  go_wp2_with fail
  go_quiet (first | (go_at_call 40; with_reducible refine quiet_as (Cl _)) | (go_at_call 35; first | with_reducible refine quiet_as (Cm _) | with_reducible refine quiet_as (Cd _) | with_reducible refine quiet_as (Ch _)))
  go_wp2_with fail
  go_ret
  exact ⟨rfl, bl_drewN ((Below.refl _ _).alloc (Nat.le_refl _) _) _⟩
set_option maxHeartbeats 2000000 in
set_option maxRecDepth 100000 in
theorem isdate_f3 {y m d h i s k : Int} (m1 : 1 ≤ m) (m2 : m ≤ 14) (d1 : 1 ≤ d) (d2 : d ≤ (mLen y m)) (h1 : 0 ≤ h) (h2 : h ≤ 15) (H : i < 0 ∨ 63 < i) (w : World) :
    Calls Try.prog 34 #[dAgg y m d h i s k] w fun e w' => e = .returned (.bool false) ∧ Below w.heap.size w w' := by
  have Cm := fun w => within_t m1 m2 w
  have Cd := fun w => within_t d1 d2 w
  have Ch := fun w => within_t h1 h2 w
  have Ci := fun w => within_f H w
  have Cl := fun w => daysof_run y m w
  generalize mLen y m = L at *
  unfold dAgg
  clear H m1 m2 d1 d2 h1 h2
  go_enter Try.func34, Try.ntmps34
  go_wp2_with fail
  go_quiet (first | (go_at_call 40; with_reducible refine quiet_as (Cl _)) | (go_at_call 35; first | with_reducible refine quiet_as (Cm _) | with_reducible refine quiet_as (Cd _) | with_reducible refine quiet_as (Ch _) | with_reducible refine quiet_as (Ci _)))
  go_wp2_with fail
  go_ret
  exact ⟨rfl, bl_drewN ((Below.refl _ _).alloc (Nat.le_refl _) _) _⟩
set_option maxHeartbeats 2000000 in
set_option maxRecDepth 100000 in
theorem isdate_f4 {y m d h i s k : Int} (m1 : 1 ≤ m) (m2 : m ≤ 14) (d1 : 1 ≤ d) (d2 : d ≤ (mLen y m)) (h1 : 0 ≤ h) (h2 : h ≤ 15) (i1 : 0 ≤ i) (i2 : i ≤ 63) (H : s < 0 ∨ 63 < s) (w : World) :
    Calls Try.prog 34 #[dAgg y m d h i s k] w fun e w' => e = .returned (.bool false) ∧ Below w.heap.size w w' := by
  have Cm := fun w => within_t m1 m2 w
  have Cd := fun w => within_t d1 d2 w
  have Ch := fun w => within_t h1 h2 w
  have Ci := fun w => within_t i1 i2 w
  have Cs := fun w => within_f H w
  have Cl := fun w => daysof_run y m w
  generalize mLen y m = L at *
  unfold dAgg
  clear H m1 m2 d1 d2 h1 h2 i1 i2
  go_enter Try.func34, Try.ntmps34
  go_wp2_with fail
  go_quiet (first | (go_at_call 40; with_reducible refine quiet_as (Cl _)) | (go_at_call 35; first | with_reducible refine quiet_as (Cm _) | with_reducible refine quiet_as (Cd _) | with_reducible refine quiet_as (Ch _) | with_reducible refine quiet_as (Ci _) | with_reducible refine quiet_as (Cs _)))
  go_wp2_with fail
  go_ret
  exact ⟨rfl, bl_drewN ((Below.refl _ _).alloc (Nat.le_refl _) _) _⟩
set_option maxHeartbeats 2000000 in
set_option maxRecDepth 100000 in
theorem isdate_f5 {y m d h i s k : Int} (m1 : 1 ≤ m) (m2 : m ≤ 14) (d1 : 1 ≤ d) (d2 : d ≤ (mLen y m)) (h1 : 0 ≤ h) (h2 : h ≤ 15) (i1 : 0 ≤ i) (i2 : i ≤ 63) (s1 : 0 ≤ s) (s2 : s ≤ 63) (H : k < 0 ∨ 1023 < k) (w : World) :
    Calls Try.prog 34 #[dAgg y m d h i s k] w fun e w' => e = .returned (.bool false) ∧ Below w.heap.size w w' := by
  have Cm := fun w => within_t m1 m2 w
  have Cd := fun w => within_t d1 d2 w
  have Ch := fun w => within_t h1 h2 w
  have Ci := fun w => within_t i1 i2 w
  have Cs := fun w => within_t s1 s2 w
  have Ck := fun w => within_f H w
  have Cl := fun w => daysof_run y m w
  generalize mLen y m = L at *
  unfold dAgg
  clear H m1 m2 d1 d2 h1 h2 i1 i2 s1 s2
  go_enter Try.func34, Try.ntmps34
  go_wp2_with fail
  go_quiet (first | (go_at_call 40; with_reducible refine quiet_as (Cl _)) | (go_at_call 35; first | with_reducible refine quiet_as (Cm _) | with_reducible refine quiet_as (Cd _) | with_reducible refine quiet_as (Ch _) | with_reducible refine quiet_as (Ci _) | with_reducible refine quiet_as (Cs _) | with_reducible refine quiet_as (Ck _)))
  go_wp2_with fail
  go_ret
  exact ⟨rfl, bl_drewN ((Below.refl _ _).alloc (Nat.le_refl _) _) _⟩
theorem isdate_f {y m d h i s k : Int} (H : isD y m d h i s k = false) (w : World) :
    Calls Try.prog 34 #[dAgg y m d h i s k] w fun e w' => e = .returned (.bool false) ∧ Below w.heap.size w w' := by
  have H' := of_decide_eq_false H
  by_cases gm : 1 ≤ m ∧ m ≤ 14
  case neg => exact isdate_f0  (by omega) w
  by_cases gd : 1 ≤ d ∧ d ≤ (mLen y m)
  case neg => exact isdate_f1 gm.1 gm.2 (by omega) w
  by_cases gh : 0 ≤ h ∧ h ≤ 15
  case neg => exact isdate_f2 gm.1 gm.2 gd.1 gd.2 (by omega) w
  by_cases gi : 0 ≤ i ∧ i ≤ 63
  case neg => exact isdate_f3 gm.1 gm.2 gd.1 gd.2 gh.1 gh.2 (by omega) w
  by_cases gs : 0 ≤ s ∧ s ≤ 63
  case neg => exact isdate_f4 gm.1 gm.2 gd.1 gd.2 gh.1 gh.2 gi.1 gi.2 (by omega) w
  by_cases gk : 0 ≤ k ∧ k ≤ 1023
  case neg => exact isdate_f5 gm.1 gm.2 gd.1 gd.2 gh.1 gh.2 gi.1 gi.2 gs.1 gs.2 (by omega) w
  exact absurd ⟨gm, gd, gh, gi, gs, gk⟩ H'
end Go.Proofs.Ytppggaibhfajjaa
