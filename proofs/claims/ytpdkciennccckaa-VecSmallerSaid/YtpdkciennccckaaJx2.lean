/- Proved here: what the texts Vbn, Vbo prove, one behind the other. -/
import Derived.Test.YtpdkciennccckaaJx1

namespace Go.Proofs.Ytpdkciennccckaa
open Go.ChangeShapes Go.WideShapes Go.ChangeAt Go.RowKit Ieee.Own Pol

end Go.Proofs.Ytpdkciennccckaa

namespace Go.Proofs.Ytpdkciennccckaa
open Go.ChangeShapes Go.WideShapes Go.ChangeAt Go.RowKit Ieee.Own

end Go.Proofs.Ytpdkciennccckaa
