/- Proved here: what the texts Frk, Frm, Frn, Fro prove, one behind the other. -/
import Derived.Test.YtgnofnjbmiepjaaGreatJy3
import Derived.Test.YtgnofnjbmiepjaaGreatJy1
import Derived.Test.YtgnofnjbmiepjaaGreatJx1
import Derived.Test.YtgnofnjbmiepjaaGreatJy6

namespace Go.Proofs.YtgnofnjbmiepjaaGreat
open Ieee.Own Pol Fma

end Go.Proofs.YtgnofnjbmiepjaaGreat

namespace Go.Proofs.YtgnofnjbmiepjaaGreat
open Ieee.Own Pol Fma

end Go.Proofs.YtgnofnjbmiepjaaGreat

namespace Go.Proofs.YtgnofnjbmiepjaaGreat
open Go.ChangeShapes Go.WideShapes Go.ChangeAt Go.RowKit Ieee.Own Pol Fma

end Go.Proofs.YtgnofnjbmiepjaaGreat

namespace Go.Proofs.YtgnofnjbmiepjaaGreat
open Go.ChangeShapes Go.WideShapes Go.ChangeAt Go.RowKit Ieee.Own Pol Fma

end Go.Proofs.YtgnofnjbmiepjaaGreat
