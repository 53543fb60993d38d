/- Proved here: what the texts Vma prove, one behind the other. -/
import Derived.Test.YtgnofnjbmiepjaaJv3
import Derived.LoopN

namespace Go.Proofs.Ytgnofnjbmiepjaa
open Go.ChangeShapes Go.WideShapes Go.ChangeAt Go.RowKit Ieee.Own

abbrev M9 := V3 × V3 × V3
structure W9 (m : M9) : Prop where
  w1 : W3 m.1
  w2 : W3 m.2.1
  w3 : W3 m.2.2
def fitM (m : M9) : Bool := fitV m.1 && fitV m.2.1 && fitV m.2.2
def z9 : M9 := (z3, z3, z3)
def colM (m : M9) : M9 := ((m.1.1, m.2.1.1, m.2.2.1), (m.1.2.1, m.2.1.2.1, m.2.2.2.1), (m.1.2.2, m.2.1.2.2, m.2.2.2.2))
end Go.Proofs.Ytgnofnjbmiepjaa
