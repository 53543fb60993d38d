/- Proved here: what the texts Vmb prove, one behind the other. -/
import Derived.Test.YtkpdnhbifokhlaaGreatJv6

namespace Go.Proofs.YtkpdnhbifokhlaaGreat
open Go.ChangeShapes Go.WideShapes Go.ChangeAt Go.RowKit Ieee.Own

end Go.Proofs.YtkpdnhbifokhlaaGreat
