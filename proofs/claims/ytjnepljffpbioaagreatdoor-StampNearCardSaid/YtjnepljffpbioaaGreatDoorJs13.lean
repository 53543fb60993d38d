/- Proved here: what the texts Das prove, one behind the other. -/
import Derived.Test.YtjnepljffpbioaaGreatDoorJs12

namespace Go.Proofs.YtjnepljffpbioaaGreatDoor
open Go.ChangeShapes Go.WideShapes Go.ChangeAt Go.RowKit

end Go.Proofs.YtjnepljffpbioaaGreatDoor
