/- Proved here: what the texts Frp, Frq prove, one behind the other. -/
import Derived.Test.YtgnofnjbmiepjaaJy3
import Derived.Test.YtgnofnjbmiepjaaJx3
import Derived.Test.YtgnofnjbmiepjaaJx9
import Derived.Test.YtgnofnjbmiepjaaJy1
import Derived.Test.YtgnofnjbmiepjaaJx7
import Derived.Test.YtgnofnjbmiepjaaJx1

namespace Go.Proofs.Ytgnofnjbmiepjaa
open Go.ChangeShapes Go.WideShapes Go.ChangeAt Go.RowKit Ieee.Own

end Go.Proofs.Ytgnofnjbmiepjaa

namespace Go.Proofs.Ytgnofnjbmiepjaa
open Go.ChangeShapes Go.WideShapes Go.ChangeAt Go.RowKit Ieee.Own Pol Fma

theorem fit_big {x : Nat} (hx : FinW x) (f : fitB x = true) : V x = 0 ∨ 2 ^ 874 ≤ (V x).natAbs := by
  unfold fitB at f
  rw [decide_eq_true_eq] at f
  rcases f with h | ⟨h, -⟩
  · exact .inl ((V_zero_iff hx).2 h)
  · right
    rw [V_abs' x hx]
    have e : val 52 3706462493325918208 = 2 ^ 874 := by decide +kernel
    rw [← e]
    by_cases q : x % 9223372036854775808 = 3706462493325918208
    · rw [q]; exact Nat.le_refl _
    · exact Nat.le_of_lt (val_lt (by omega))
/-! ### the angles -/
/-! ### boxes that hold -/
theorem rst_ex {x : Nat} (h : Ang x) : ∃ r, Rst x r := by
  obtain ⟨r, R, -⟩ := uquarter_run h
  exact ⟨r, R⟩
end Go.Proofs.Ytgnofnjbmiepjaa
