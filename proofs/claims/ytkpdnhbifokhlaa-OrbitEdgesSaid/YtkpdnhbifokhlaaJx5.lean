/- Proved here: what the texts Vbya prove, one behind the other. -/
import Derived.Test.YtkpdnhbifokhlaaJx3
import Derived.Test.YtkpdnhbifokhlaaJv9
import Derived.Test.YtkpdnhbifokhlaaJb9

namespace Go.Proofs.Ytkpdnhbifokhlaa
open Go.ChangeShapes Go.WideShapes Go.ChangeAt Go.RowKit Ieee.Own

end Go.Proofs.Ytkpdnhbifokhlaa
