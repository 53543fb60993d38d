/- Proved here: what the texts Vmd prove, one behind the other. -/
import Derived.Test.YtgnofnjbmiepjaaJv7

namespace Go.Proofs.Ytgnofnjbmiepjaa
open Go.ChangeShapes Go.WideShapes Go.ChangeAt Go.RowKit Ieee.Own

end Go.Proofs.Ytgnofnjbmiepjaa
