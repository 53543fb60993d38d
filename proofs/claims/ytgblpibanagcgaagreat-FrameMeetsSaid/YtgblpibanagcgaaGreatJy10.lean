/- Proved here: what the texts Frn, Fro prove, one behind the other. -/
import Derived.Test.YtgblpibanagcgaaGreatJy9
import Derived.Test.YtgblpibanagcgaaGreatJy8
import Derived.Test.YtgblpibanagcgaaGreatJx2

namespace Go.Proofs.YtgblpibanagcgaaGreat
open Go.ChangeShapes Go.WideShapes Go.ChangeAt Go.RowKit Ieee.Own Pol Fma

/-! ### the bound -/
/-! ### the walk -/
end Go.Proofs.YtgblpibanagcgaaGreat

namespace Go.Proofs.YtgblpibanagcgaaGreat
open Go.ChangeShapes Go.WideShapes Go.ChangeAt Go.RowKit Ieee.Own Pol Fma

end Go.Proofs.YtgblpibanagcgaaGreat
