/- Proved here: what the texts Vbk, Vbl prove, one behind the other. -/
import Derived.Test.YtgnofnjbmiepjaaJv11
import Derived.Test.YtgnofnjbmiepjaaJv5
import Derived.Test.YtgnofnjbmiepjaaJb9

namespace Go.Proofs.Ytgnofnjbmiepjaa
open Ieee.Own Pol

/-! ### the circle -/
/-! ### two numbers turned forth and back -/
theorem ends {u S σ p e1 e2 d P : Rat} (u0 : 0 ≤ u) (u1 : 1000 * u ≤ 1) (S0 : 0 ≤ S) (s0 : 0 ≤ σ) (hpS : p ≤ S) (hd : d = 33 * u) (he1 : e1 = 4 * (u * (2 * S)) + σ) (he2 : e2 = 4 * (u * (2 * (2 * (2 * S + e1)))) + σ)
    (h : P ≤ d * p + 4 * e1 + e2) : P ≤ 116 * (u * S) + 16 * σ := by
  subst hd he1 he2
  have a := Rat.mul_nonneg u0 S0
  have b := Rat.mul_nonneg a (show 0 ≤ 1 - 1000 * u by grind)
  have c := Rat.mul_nonneg u0 (show 0 ≤ S - p by grind)
  have e := Rat.mul_nonneg s0 (show 0 ≤ 1 - 1000 * u by grind)
  grind
end Go.Proofs.Ytgnofnjbmiepjaa

namespace Go.Proofs.Ytgnofnjbmiepjaa
open Go.ChangeShapes Go.WideShapes Go.ChangeAt Go.RowKit Ieee.Own Pol

theorem D3.bb {p : V3} (hw : W3 p) (f : fitV p = true) : D3 (bV p) ∧ V (bV p).1 = V p.1 ∧ V (bV p).2.1 = V p.2.1 ∧ V (bV p).2.2 = V p.2.2 := by
  have B := fitV_bd hw f
  have fb : fitV (bV p) = true := by unfold fitV bV; rw [vnB_bW B.f1 B.b1, vnB_bW B.f2 B.b2, vnB_bW B.f3 B.b3]; rfl
  unfold fitV at f
  simp only [Bool.and_eq_true] at f
  exact ⟨fitV_wd B.fin.b.w fb, bW_fit B.f1 (vnB_spec hw.l1 f.1.1).2.1, bW_fit B.f2 (vnB_spec hw.l2 f.1.2).2.1, bW_fit B.f3 (vnB_spec hw.l3 f.2).2.1⟩
end Go.Proofs.Ytgnofnjbmiepjaa
