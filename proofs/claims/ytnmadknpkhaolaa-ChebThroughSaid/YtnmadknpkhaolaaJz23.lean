/- Proved here: what the texts Hti prove, one behind the other. -/
import Derived.Test.YtnmadknpkhaolaaJz22

namespace Go.Proofs.Ytnmadknpkhaolaa
open Go.ChangeShapes Go.WideShapes Go.ChangeAt Go.RowKit Ieee.Own Pol

/-- the polynomial of the i-th unit value, exactly, over the words of the cosines -/
def eQ (n i : Nat) : List Rat := (List.range n).map fun j => (if j = 0 then 1 else 2) / (n : Rat) * Q (cAt n j i)
def pOk (n : Nat) : Bool := (List.range n).all fun k => (List.range n).all fun i => decide (mag (chv (Q (cAt n 1 k)) (eQ n i) - (if i = k then 1 else 0)) ≤ mkRat 1 (2 ^ 40)) && inM m00 (cAt n 1 k)
def qOk (n : Nat) : Bool := (List.range n).all fun j => (List.range n).all fun i => decide ((V (cAt n j i)).natAbs ≤ 2 ^ 1074)
theorem qOkAll : ((List.range 17).all qOk) = true := by decide +kernel
theorem pOkT : ([1, 2, 3, 4, 5, 6, 7, 8, 9, 10, 11, 12, 13, 14, 15, 16].all pOk) = true := by decide +kernel
end Go.Proofs.Ytnmadknpkhaolaa
