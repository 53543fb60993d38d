/- Proved here: what the texts HthD prove, one behind the other. -/
import Derived.Test.YtnmadknpkhaolaaJz22

namespace Go.Proofs.Ytnmadknpkhaolaa
open Go.ChangeShapes Go.WideShapes Go.ChangeAt Go.RowKit Ieee.Own Pol

theorem cOkD : ([8, 9].all cOk) = true := by decide +kernel
end Go.Proofs.Ytnmadknpkhaolaa
