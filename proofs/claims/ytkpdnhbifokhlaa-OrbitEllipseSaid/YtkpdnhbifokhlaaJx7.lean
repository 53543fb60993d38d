/- Proved here: what the texts Vbt prove, one behind the other. -/
import Derived.Test.YtkpdnhbifokhlaaJx4
import Derived.Test.YtkpdnhbifokhlaaJx5
import Derived.Test.YtkpdnhbifokhlaaJx6
import Derived.Test.YtkpdnhbifokhlaaJx2
import Derived.Test.YtkpdnhbifokhlaaJb9
import Derived.Test.YtkpdnhbifokhlaaJr

namespace Go.Proofs.Ytkpdnhbifokhlaa
open Go.ChangeShapes Go.WideShapes Go.ChangeAt Go.RowKit Ieee.Own Pol

theorem Sn.w2 {p : Pr} {m : Nat} (h : Sn p m) : W2 p := ⟨h.l1, h.l2⟩
/-! ### what the turned box holds -/
end Go.Proofs.Ytkpdnhbifokhlaa
