/- Proved here: what the texts Vbw, Vob prove, one behind the other. -/
import Derived.Test.YtgnofnjbmiepjaaJx8
import Derived.Test.YtgnofnjbmiepjaaJx3

namespace Go.Proofs.Ytgnofnjbmiepjaa
open Go.ChangeShapes Go.WideShapes Go.ChangeAt Go.RowKit Ieee.Own

/-! ### whatever the boxes -/
end Go.Proofs.Ytgnofnjbmiepjaa

namespace Go.Proofs.Ytgnofnjbmiepjaa
open Go.ChangeShapes Go.WideShapes Go.ChangeAt Go.RowKit Ieee.Own

end Go.Proofs.Ytgnofnjbmiepjaa
