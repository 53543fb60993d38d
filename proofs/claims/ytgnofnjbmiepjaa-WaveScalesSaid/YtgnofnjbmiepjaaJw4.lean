/- Proved here: what the texts Wvf prove, one behind the other. -/
import Derived.Test.YtgnofnjbmiepjaaJw3

namespace Go.Proofs.Ytgnofnjbmiepjaa
open Go.ChangeShapes Go.WideShapes Go.ChangeAt Go.RowKit Ieee.Own Pol Fma

def putQ (p : R3) (a : Int) (x : Rat) : R3 := if a = 0 then (p.1 + x, p.2.1, p.2.2) else if a = 1 then (p.1, p.2.1 + x, p.2.2) else (p.1, p.2.1, p.2.2 + x)
end Go.Proofs.Ytgnofnjbmiepjaa
