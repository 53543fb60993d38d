/- Proved here: what the texts Vbw, Vob prove, one behind the other. -/
import Derived.Test.YtkpdnhbifokhlaaGreatJx8
import Derived.Test.YtkpdnhbifokhlaaGreatJx3

namespace Go.Proofs.YtkpdnhbifokhlaaGreat
open Go.ChangeShapes Go.WideShapes Go.ChangeAt Go.RowKit Ieee.Own

end Go.Proofs.YtkpdnhbifokhlaaGreat

namespace Go.Proofs.YtkpdnhbifokhlaaGreat
open Go.ChangeShapes Go.WideShapes Go.ChangeAt Go.RowKit Ieee.Own

end Go.Proofs.YtkpdnhbifokhlaaGreat
