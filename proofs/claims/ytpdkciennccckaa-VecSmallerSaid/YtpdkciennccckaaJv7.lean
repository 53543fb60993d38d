/- Proved here: what the texts Vmb prove, one behind the other. -/
import Derived.Test.YtpdkciennccckaaJv6

namespace Go.Proofs.Ytpdkciennccckaa
open Go.ChangeShapes Go.WideShapes Go.ChangeAt Go.RowKit Ieee.Own

end Go.Proofs.Ytpdkciennccckaa
