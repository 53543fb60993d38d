/- Proved here: what the texts Vbk, Vbl prove, one behind the other. -/
import Derived.Test.YtgblpibanagcgaaGreatJv11
import Derived.Test.YtgblpibanagcgaaGreatJv5
import Derived.Test.YtgblpibanagcgaaGreatJb9

namespace Go.Proofs.YtgblpibanagcgaaGreat
open Ieee.Own Pol

/-! ### the circle -/
/-! ### two numbers turned forth and back -/
/-- all in all -/
def bnd (S : Rat) : Rat := 116 * (uR * S) + 16 * sm
theorem ends {u S σ p e1 e2 d P : Rat} (u0 : 0 ≤ u) (u1 : 1000 * u ≤ 1) (S0 : 0 ≤ S) (s0 : 0 ≤ σ) (hpS : p ≤ S) (hd : d = 33 * u) (he1 : e1 = 4 * (u * (2 * S)) + σ) (he2 : e2 = 4 * (u * (2 * (2 * (2 * S + e1)))) + σ)
    (h : P ≤ d * p + 4 * e1 + e2) : P ≤ 116 * (u * S) + 16 * σ := by
  subst hd he1 he2
  have a := Rat.mul_nonneg u0 S0
  have b := Rat.mul_nonneg a (show 0 ≤ 1 - 1000 * u by grind)
  have c := Rat.mul_nonneg u0 (show 0 ≤ S - p by grind)
  have e := Rat.mul_nonneg s0 (show 0 ≤ 1 - 1000 * u by grind)
  grind
end Go.Proofs.YtgblpibanagcgaaGreat

namespace Go.Proofs.YtgblpibanagcgaaGreat
open Go.ChangeShapes Go.WideShapes Go.ChangeAt Go.RowKit Ieee.Own Pol

theorem Q0 : Q 0 = 0 := by decide +kernel
theorem tM_w {x s c : Nat} (A : Ang x) (T : Trig x s c) (a : Int) : W9 (tM a (bW s) (bW c) (negN (bW s))) ∧ fitM (tM a (bW s) (bW c) (negN (bW s))) = true ∧ Q (negN (bW s)) = -Q (bW s) := by
  obtain ⟨⟨f1, i1⟩, ⟨f2, i2⟩, f3, i3, e3⟩ := trig_ok A T
  have g1 := (bW_nz f1).fin
  have g2 := (bW_nz f2).fin
  obtain ⟨-, g3, v3⟩ := negN_spec g1
  have o := one_fin7.1
  have z : (0 : Nat) < 18446744073709551616 := by omega
  rw [e3] at i3
  refine ⟨?_, ?_, Q_neg v3⟩
  · unfold tM
    split
    · exact ⟨⟨o, z, z⟩, ⟨z, g2.1, g3.fin.1⟩, ⟨z, g1.1, g2.1⟩⟩
    · split
      · exact ⟨⟨g2.1, z, g1.1⟩, ⟨z, o, z⟩, ⟨g3.fin.1, z, g2.1⟩⟩
      · exact ⟨⟨g2.1, g3.fin.1, z⟩, ⟨g1.1, g2.1, z⟩, ⟨z, z, o⟩⟩
  · unfold tM
    split
    · unfold fitM fitV; dsimp only; rw [in_one, in_zero, i1, i2, i3]; rfl
    · split
      · unfold fitM fitV; dsimp only; rw [in_one, in_zero, i1, i2, i3]; rfl
      · unfold fitM fitV; dsimp only; rw [in_one, in_zero, i1, i2, i3]; rfl
end Go.Proofs.YtgblpibanagcgaaGreat
