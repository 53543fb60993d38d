/- Proved here: what the texts Daf, Dar prove, one behind the other. -/
import Derived.Test.YtjnepljffpbioaaGreatDoorJs1

namespace Go.Proofs.YtjnepljffpbioaaGreatDoor
open Go.ChangeShapes Go.WideShapes Go.ChangeAt Go.RowKit

end Go.Proofs.YtjnepljffpbioaaGreatDoor

namespace Go.Proofs.YtjnepljffpbioaaGreatDoor
open Go.ChangeShapes Go.WideShapes Go.ChangeAt Go.RowKit

end Go.Proofs.YtjnepljffpbioaaGreatDoor
