/- Proved here: what the texts Vop prove, one behind the other. -/
import Derived.Test.YtgnofnjbmiepjaaJv1
import Derived.Test.YtgnofnjbmiepjaaJb2

namespace Go.Proofs.Ytgnofnjbmiepjaa
open Go.ChangeShapes Go.WideShapes Go.ChangeAt Go.RowKit Ieee.Own

end Go.Proofs.Ytgnofnjbmiepjaa
