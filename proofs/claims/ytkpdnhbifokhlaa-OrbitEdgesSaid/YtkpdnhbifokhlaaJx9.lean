/- Proved here: what the texts Vbw, Vob prove, one behind the other. -/
import Derived.Test.YtkpdnhbifokhlaaJx8
import Derived.Test.YtkpdnhbifokhlaaJx3

namespace Go.Proofs.Ytkpdnhbifokhlaa
open Go.ChangeShapes Go.WideShapes Go.ChangeAt Go.RowKit Ieee.Own

/-! ### whatever the boxes -/
end Go.Proofs.Ytkpdnhbifokhlaa

namespace Go.Proofs.Ytkpdnhbifokhlaa
open Go.ChangeShapes Go.WideShapes Go.ChangeAt Go.RowKit Ieee.Own

end Go.Proofs.Ytkpdnhbifokhlaa
