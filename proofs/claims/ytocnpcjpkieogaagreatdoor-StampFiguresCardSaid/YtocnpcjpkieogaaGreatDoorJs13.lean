/- Proved here: what the texts Das prove, one behind the other. -/
import Derived.Test.YtocnpcjpkieogaaGreatDoorJs12

namespace Go.Proofs.YtocnpcjpkieogaaGreatDoor
open Go.ChangeShapes Go.WideShapes Go.ChangeAt Go.RowKit

end Go.Proofs.YtocnpcjpkieogaaGreatDoor
