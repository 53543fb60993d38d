/- Proved here: what the texts Vop prove, one behind the other. -/
import Derived.Test.YtkpdnhbifokhlaaGreatJv1
import Derived.Test.YtkpdnhbifokhlaaGreatJb2

namespace Go.Proofs.YtkpdnhbifokhlaaGreat
open Go.ChangeShapes Go.WideShapes Go.ChangeAt Go.RowKit Ieee.Own

end Go.Proofs.YtkpdnhbifokhlaaGreat
