/- Proved here: what the texts Vbt prove, one behind the other. -/
import Derived.Test.YtgnofnjbmiepjaaJx4
import Derived.Test.YtgnofnjbmiepjaaJx5
import Derived.Test.YtgnofnjbmiepjaaJx6
import Derived.Test.YtgnofnjbmiepjaaJx2
import Derived.Test.YtgnofnjbmiepjaaJb9
import Derived.Test.YtgnofnjbmiepjaaJr

namespace Go.Proofs.Ytgnofnjbmiepjaa
open Go.ChangeShapes Go.WideShapes Go.ChangeAt Go.RowKit Ieee.Own Pol

theorem Sn.w2 {p : Pr} {m : Nat} (h : Sn p m) : W2 p := ⟨h.l1, h.l2⟩
/-! ### what the turned box holds -/
structure Held (p : Pr) (t : Rat) : Prop where
  sn : Sn p 62
  i : In t (ps p)
/-- how far a word lies off a span -/
structure By1 (p : Pr) (w : Nat) (S : Rat) : Prop where
  sn : Sn p 62
  lo : Q p.1 - Q w ≤ bnd S
  hi : Q w - Q p.2 ≤ bnd S
theorem By1.of {p : Pr} {w : Nat} {t S : Rat} (h : Held p t) (n : mag (Q w - t) ≤ bnd S) : By1 p w S := by
  obtain ⟨a, b⟩ := h.i
  replace a : Q p.1 ≤ t := a
  replace b : t ≤ Q p.2 := b
  have m := mag_le (Q w - t)
  refine ⟨h.sn, ?_, ?_⟩ <;> grind
theorem diff_le7 {a b c : Nat} (h : Q a - Q b ≤ Q c) : V a - V b ≤ V c := by
  have := Rat.mul_le_mul_of_nonneg_right h (Rat.le_of_lt unit_pos)
  have e : (Q a - Q b) * unit = Q a * unit - Q b * unit := by grind
  rw [e, Q_unit, Q_unit, Q_unit, ← Rat.intCast_sub] at this
  exact Rat.intCast_le_intCast.1 this
end Go.Proofs.Ytgnofnjbmiepjaa
