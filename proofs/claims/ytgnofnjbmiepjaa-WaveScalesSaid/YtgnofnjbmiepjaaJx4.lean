/- Proved here: what the texts Vby prove, one behind the other. -/
import Derived.Test.YtgnofnjbmiepjaaJx3
import Derived.Test.YtgnofnjbmiepjaaJv9
import Derived.Test.YtgnofnjbmiepjaaJb9

namespace Go.Proofs.Ytgnofnjbmiepjaa
open Go.ChangeShapes Go.WideShapes Go.ChangeAt Go.RowKit Ieee.Own

end Go.Proofs.Ytgnofnjbmiepjaa
