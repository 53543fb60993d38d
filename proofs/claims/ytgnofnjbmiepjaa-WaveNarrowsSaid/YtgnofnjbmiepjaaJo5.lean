/- Proved here: what the texts Omk prove, one behind the other. -/
import Derived.Test.YtgnofnjbmiepjaaJo1
import Derived.Test.YtgnofnjbmiepjaaJv4
import Derived.Test.YtgnofnjbmiepjaaJv1

namespace Go.Proofs.Ytgnofnjbmiepjaa
open Go.ChangeShapes Go.WideShapes Go.ChangeAt Go.RowKit Ieee.Own Pol

theorem pow_as {n a b : Nat} (h : n ≤ 2 ^ a) (e : a = b) : n ≤ 2 ^ b := e ▸ h
end Go.Proofs.Ytgnofnjbmiepjaa
