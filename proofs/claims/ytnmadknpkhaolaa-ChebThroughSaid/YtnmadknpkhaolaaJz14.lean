/- Proved here: what the texts Ubs, Uwi, Upo, Urf, Upa prove, one behind the other. -/
import Derived.Test.YtnmadknpkhaolaaJz13

namespace Go.Proofs.Ytnmadknpkhaolaa
open Go.ChangeShapes Go.WideShapes Go.ChangeAt Go.RowKit Ieee.Own

end Go.Proofs.Ytnmadknpkhaolaa

namespace Go.Proofs.Ytnmadknpkhaolaa
open Go.ChangeShapes Go.WideShapes Go.ChangeAt Go.RowKit Ieee.Own

end Go.Proofs.Ytnmadknpkhaolaa

namespace Go.Proofs.Ytnmadknpkhaolaa
open Go.ChangeShapes Go.WideShapes Go.ChangeAt Go.RowKit Ieee.Own

end Go.Proofs.Ytnmadknpkhaolaa

namespace Go.Proofs.Ytnmadknpkhaolaa
open Go.ChangeShapes Go.WideShapes Go.ChangeAt Go.RowKit Ieee.Own

end Go.Proofs.Ytnmadknpkhaolaa

namespace Go.Proofs.Ytnmadknpkhaolaa
open Go.ChangeShapes Go.WideShapes Go.ChangeAt Go.RowKit Ieee.Own

/-- may all of a span be angles? the error's number -/
def errT (a b : Nat) : Int := if errS a b ≠ 0 then errS a b else if errA a ≠ 0 then errA a else errA b
/-- the whole number at 4 x or next above it, next below it -/
def topN (x : Nat) : Int := -(-(4 * V x) / 2 ^ 1074)
def botN (x : Nat) : Int := 4 * V x / 2 ^ 1074
def passB (a b : Nat) (k : Int) : Bool := decide (topN a + (k - topN a) % 4 ≤ botN b)
/-- up to 1, down to -1 -/
def stP (p : Pr) (h l : Bool) : Pr := (if l then noneW else p.1, if h then oneW else p.2)
end Go.Proofs.Ytnmadknpkhaolaa
