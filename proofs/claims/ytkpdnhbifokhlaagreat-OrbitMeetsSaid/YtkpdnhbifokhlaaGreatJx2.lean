/- Proved here: what the texts Vbn, Vbo prove, one behind the other. -/
import Derived.Test.YtkpdnhbifokhlaaGreatJx1

namespace Go.Proofs.YtkpdnhbifokhlaaGreat
open Go.ChangeShapes Go.WideShapes Go.ChangeAt Go.RowKit Ieee.Own Pol

end Go.Proofs.YtkpdnhbifokhlaaGreat

namespace Go.Proofs.YtkpdnhbifokhlaaGreat
open Go.ChangeShapes Go.WideShapes Go.ChangeAt Go.RowKit Ieee.Own

end Go.Proofs.YtkpdnhbifokhlaaGreat
