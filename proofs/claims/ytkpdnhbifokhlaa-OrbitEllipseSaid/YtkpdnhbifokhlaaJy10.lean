/- Proved here: what the texts Frn, Fro prove, one behind the other. -/
import Derived.Test.YtkpdnhbifokhlaaJy9
import Derived.Test.YtkpdnhbifokhlaaJy8
import Derived.Test.YtkpdnhbifokhlaaJx2

namespace Go.Proofs.Ytkpdnhbifokhlaa
open Go.ChangeShapes Go.WideShapes Go.ChangeAt Go.RowKit Ieee.Own Pol Fma

/-! ### the bound -/
/-! ### the walk -/
end Go.Proofs.Ytkpdnhbifokhlaa

namespace Go.Proofs.Ytkpdnhbifokhlaa
open Go.ChangeShapes Go.WideShapes Go.ChangeAt Go.RowKit Ieee.Own Pol Fma

end Go.Proofs.Ytkpdnhbifokhlaa
