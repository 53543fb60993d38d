/- Proved here: what the texts Vbya prove, one behind the other. -/
import Derived.Test.YtpdkciennccckaaJx3
import Derived.Test.YtpdkciennccckaaJv9
import Derived.Test.YtpdkciennccckaaJb9

namespace Go.Proofs.Ytpdkciennccckaa
open Go.ChangeShapes Go.WideShapes Go.ChangeAt Go.RowKit Ieee.Own

end Go.Proofs.Ytpdkciennccckaa
