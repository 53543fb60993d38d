/- Proved here: what the texts Vmb prove, one behind the other. -/
import Derived.Test.YtgnofnjbmiepjaaJv6

namespace Go.Proofs.Ytgnofnjbmiepjaa
open Go.ChangeShapes Go.WideShapes Go.ChangeAt Go.RowKit Ieee.Own

end Go.Proofs.Ytgnofnjbmiepjaa
