/- Proved here: what the texts Ome, Omf prove, one behind the other. -/
import Derived.Test.YtgnofnjbmiepjaaJy9
import Derived.Test.YtgnofnjbmiepjaaJy11
import Derived.Test.YtgnofnjbmiepjaaJo1
import Derived.Test.YtgnofnjbmiepjaaJy3

namespace Go.Proofs.Ytgnofnjbmiepjaa
open Go.ChangeShapes Go.WideShapes Go.ChangeAt Go.RowKit Ieee.Own Pol Fma

end Go.Proofs.Ytgnofnjbmiepjaa

namespace Go.Proofs.Ytgnofnjbmiepjaa
open Go.ChangeShapes Go.WideShapes Go.ChangeAt Go.RowKit Ieee.Own Pol Fma

def fnW (x : Nat) : Nat := if fitB x = true then x else 0
theorem zero_ang : Ang 0 := ⟨by unfold FinW; omega, by rw [V_zero]; exact Int.dvd_zero _, by rw [V_zero]; exact Nat.zero_le _⟩
theorem ang_trig {x : Nat} (A : Ang x) : Trig x (tS x) (tC x) := by
  obtain ⟨r, R⟩ := rst_ex A
  exact trig_ex ⟨_, _, Trig.own A R⟩
/-! ### the factor -/
end Go.Proofs.Ytgnofnjbmiepjaa
