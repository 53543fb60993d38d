/- Proved here: what the texts Vbn, Vbo prove, one behind the other. -/
import Derived.Test.YtkpdnhbifokhlaaJx1

namespace Go.Proofs.Ytkpdnhbifokhlaa
open Go.ChangeShapes Go.WideShapes Go.ChangeAt Go.RowKit Ieee.Own Pol

end Go.Proofs.Ytkpdnhbifokhlaa

namespace Go.Proofs.Ytkpdnhbifokhlaa
open Go.ChangeShapes Go.WideShapes Go.ChangeAt Go.RowKit Ieee.Own

end Go.Proofs.Ytkpdnhbifokhlaa
