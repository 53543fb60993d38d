/- Proved here: what the texts Frp prove, one behind the other. -/
import Derived.Test.YtkpdnhbifokhlaaJy5
import Derived.Test.YtkpdnhbifokhlaaJx3
import Derived.Test.YtkpdnhbifokhlaaJx9

namespace Go.Proofs.Ytkpdnhbifokhlaa
open Go.ChangeShapes Go.WideShapes Go.ChangeAt Go.RowKit Ieee.Own

end Go.Proofs.Ytkpdnhbifokhlaa
