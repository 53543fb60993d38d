/- Proved here: what the texts Frc prove, one behind the other. -/
import Derived.Test.YtkpdnhbifokhlaaJy3

namespace Go.Proofs.Ytkpdnhbifokhlaa
open Go.ChangeShapes Go.WideShapes Go.ChangeAt Go.RowKit Ieee.Own

end Go.Proofs.Ytkpdnhbifokhlaa
