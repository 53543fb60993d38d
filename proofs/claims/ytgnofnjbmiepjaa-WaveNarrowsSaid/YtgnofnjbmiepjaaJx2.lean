/- Proved here: what the texts Vbn, Vbo prove, one behind the other. -/
import Derived.Test.YtgnofnjbmiepjaaJx1

namespace Go.Proofs.Ytgnofnjbmiepjaa
open Go.ChangeShapes Go.WideShapes Go.ChangeAt Go.RowKit Ieee.Own Pol

end Go.Proofs.Ytgnofnjbmiepjaa

namespace Go.Proofs.Ytgnofnjbmiepjaa
open Go.ChangeShapes Go.WideShapes Go.ChangeAt Go.RowKit Ieee.Own

set_option maxHeartbeats 4000000 in
set_option maxRecDepth 100000 in
theorem near_run {a1 a2 a3 b1 b2 b3 t1 t2 t3 x1 x2 x3 d : Nat} (r1 : (∀ t w, (binOp .sub t (.float .f64 a1) (.float .f64 b1)).run Try.prog w = .ok (.float .f64 t1) w)) (r2 : (∀ t w, (binOp .sub t (.float .f64 a2) (.float .f64 b2)).run Try.prog w = .ok (.float .f64 t2) w)) (r3 : (∀ t w, (binOp .sub t (.float .f64 a3) (.float .f64 b3)).run Try.prog w = .ok (.float .f64 t3) w)) (A1 : ∀ w, Calls Try.prog 11 #[.float .f64 t1] w fun e w' => e = .returned (.float .f64 x1) ∧ w = w') (A2 : ∀ w, Calls Try.prog 11 #[.float .f64 t2] w fun e w' => e = .returned (.float .f64 x2) ∧ w = w') (A3 : ∀ w, Calls Try.prog 11 #[.float .f64 t3] w fun e w' => e = .returned (.float .f64 x3) ∧ w = w') (l1 : (FloatKind.f64.format.order x1 d == some Ordering.lt || FloatKind.f64.format.order x1 d == some Ordering.eq) = true) (l2 : (FloatKind.f64.format.order x2 d == some Ordering.lt || FloatKind.f64.format.order x2 d == some Ordering.eq) = true) (l3 : (FloatKind.f64.format.order x3 d == some Ordering.lt || FloatKind.f64.format.order x3 d == some Ordering.eq) = true) (w : World) : Calls Try.prog 13 #[.agg #[.float .f64 a1, .float .f64 a2, .float .f64 a3], .agg #[.float .f64 b1, .float .f64 b2, .float .f64 b3], .float .f64 d] w fun e w' => e = .returned (.bool true) ∧ Below w.heap.size w w' := by
  go_enter Try.func13, Try.ntmps13
  go_wp2_with (first | (go_at_call 11; ((with_reducible refine (A1 _).mono ?_); rintro e w' ⟨rfl, rfl⟩)) | (go_at_call 11; ((with_reducible refine (A2 _).mono ?_); rintro e w' ⟨rfl, rfl⟩)) | (go_at_call 11; ((with_reducible refine (A3 _).mono ?_); rintro e w' ⟨rfl, rfl⟩)))
  go_ret
  exact ⟨rfl, ((Below.refl _ w).alloc (Nat.le_refl _) _).alloc (by simp) _⟩
end Go.Proofs.Ytgnofnjbmiepjaa
