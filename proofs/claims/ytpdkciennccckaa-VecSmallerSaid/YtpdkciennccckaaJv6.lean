/- Proved here: what the texts Vma prove, one behind the other. -/
import Derived.Test.YtpdkciennccckaaJv3
import Derived.LoopN

namespace Go.Proofs.Ytpdkciennccckaa
open Go.ChangeShapes Go.WideShapes Go.ChangeAt Go.RowKit Ieee.Own

abbrev M9 := V3 × V3 × V3
structure W9 (m : M9) : Prop where
  w1 : W3 m.1
  w2 : W3 m.2.1
  w3 : W3 m.2.2
def z9 : M9 := (z3, z3, z3)
end Go.Proofs.Ytpdkciennccckaa
