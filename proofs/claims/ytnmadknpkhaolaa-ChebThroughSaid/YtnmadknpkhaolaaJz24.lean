/- Proved here: what the texts HthA prove, one behind the other. -/
import Derived.Test.YtnmadknpkhaolaaJz22

namespace Go.Proofs.Ytnmadknpkhaolaa
open Go.ChangeShapes Go.WideShapes Go.ChangeAt Go.RowKit Ieee.Own Pol

theorem cOkA : ([1, 2, 3, 4, 5, 6, 7].all cOk) = true := by decide +kernel
end Go.Proofs.Ytnmadknpkhaolaa
