/- Proved here: what the texts Vmf prove, one behind the other. -/
import Derived.Test.YtgnofnjbmiepjaaJv10
import Derived.Test.YtgnofnjbmiepjaaJv9

namespace Go.Proofs.Ytgnofnjbmiepjaa
open Go.ChangeShapes Go.WideShapes Go.ChangeAt Go.RowKit Ieee.Own

/-- the matrix that turns -/
def tM (a : Int) (s c n : Nat) : M9 := if a = 0 then ((oneW, 0, 0), (0, c, n), (0, s, c)) else if a = 1 then ((c, 0, s), (0, oneW, 0), (n, 0, c)) else ((c, n, 0), (s, c, 0), (0, 0, oneW))
/-- what Turned answers -/
structure TurnR (a : Int) (x : Nat) (R : M9 × Int) : Prop where
  no : R.2 ≠ 0 → R.1 = z9
  ok : R.2 = 0 → (0 ≤ a ∧ a ≤ 2) ∧ errA x = 0 ∧ ∃ s c, Trig x s c ∧ R.1 = tM a (bW s) (bW c) (negN (bW s))
theorem TurnR.bad (a : Int) (x : Nat) {k : Int} (h : k ≠ 0) : TurnR a x (z9, k) := ⟨fun _ => rfl, fun e => absurd e h⟩
/-! ### what came in -/
end Go.Proofs.Ytgnofnjbmiepjaa
