/- Proved here: what the texts Vbt prove, one behind the other. -/
import Derived.Test.YtgnofnjbmiepjaaJx4
import Derived.Test.YtgnofnjbmiepjaaJx5
import Derived.Test.YtgnofnjbmiepjaaJx6
import Derived.Test.YtgnofnjbmiepjaaJx2
import Derived.Test.YtgnofnjbmiepjaaJb9
import Derived.Test.YtgnofnjbmiepjaaJr

namespace Go.Proofs.Ytgnofnjbmiepjaa
open Go.ChangeShapes Go.WideShapes Go.ChangeAt Go.RowKit Ieee.Own Pol

theorem Sn.w2 {p : Pr} {m : Nat} (h : Sn p m) : W2 p := ⟨h.l1, h.l2⟩
/-! ### what the turned box holds -/
end Go.Proofs.Ytgnofnjbmiepjaa
