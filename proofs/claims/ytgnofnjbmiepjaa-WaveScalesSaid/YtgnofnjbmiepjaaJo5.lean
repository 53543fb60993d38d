/- Proved here: what the texts Omk prove, one behind the other. -/
import Derived.Test.YtgnofnjbmiepjaaJo1
import Derived.Test.YtgnofnjbmiepjaaJv4
import Derived.Test.YtgnofnjbmiepjaaJv1

namespace Go.Proofs.Ytgnofnjbmiepjaa
open Go.ChangeShapes Go.WideShapes Go.ChangeAt Go.RowKit Ieee.Own Pol

/-- what is left, fit or not -/
structure Frc (x r : Nat) : Prop where
  nz : Nz r
  v : V r = rq hlf (V x)
/-- whole numbers more leave the same -/
theorem Frc.more {x y r : Nat} {N : Int} (h : Frc x r) (hn : V r ≠ hlf ∧ V r ≠ -hlf) (e : V y = V x + N * 2 ^ 1074) : Frc y r := by
  refine ⟨h.nz, ?_⟩
  rw [h.v] at hn
  rw [e, (left_more hn).1, h.v]
end Go.Proofs.Ytgnofnjbmiepjaa
