/- Proved here: what the texts Daf, Dar prove, one behind the other. -/
import Derived.Test.YtocnpcjpkieogaaGreatDoorJs1

namespace Go.Proofs.YtocnpcjpkieogaaGreatDoor
open Go.ChangeShapes Go.WideShapes Go.ChangeAt Go.RowKit

end Go.Proofs.YtocnpcjpkieogaaGreatDoor

namespace Go.Proofs.YtocnpcjpkieogaaGreatDoor
open Go.ChangeShapes Go.WideShapes Go.ChangeAt Go.RowKit

end Go.Proofs.YtocnpcjpkieogaaGreatDoor
