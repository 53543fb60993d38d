/- Proved here: what the texts Wvd, Wve prove, one behind the other. -/
import Derived.Test.YtgnofnjbmiepjaaJw2
import Derived.Test.YtgnofnjbmiepjaaJy11
import Derived.Test.YtgnofnjbmiepjaaJx8

namespace Go.Proofs.Ytgnofnjbmiepjaa
open Go.ChangeShapes Go.WideShapes Go.ChangeAt Go.RowKit Ieee.Own Pol

end Go.Proofs.Ytgnofnjbmiepjaa

namespace Go.Proofs.Ytgnofnjbmiepjaa
open Go.ChangeShapes Go.WideShapes Go.ChangeAt Go.RowKit Ieee.Own Pol

/-! ### by the age's days -/
/-! ### heights -/
end Go.Proofs.Ytgnofnjbmiepjaa
