/- Proved here: what the texts Vbya prove, one behind the other. -/
import Derived.Test.YtkpdnhbifokhlaaGreatJx3
import Derived.Test.YtkpdnhbifokhlaaGreatJv9
import Derived.Test.YtkpdnhbifokhlaaGreatJb9

namespace Go.Proofs.YtkpdnhbifokhlaaGreat
open Go.ChangeShapes Go.WideShapes Go.ChangeAt Go.RowKit Ieee.Own

end Go.Proofs.YtkpdnhbifokhlaaGreat
