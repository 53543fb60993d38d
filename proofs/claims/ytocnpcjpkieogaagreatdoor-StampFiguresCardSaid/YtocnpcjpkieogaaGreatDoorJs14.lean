/- Proved here: what the texts Sqp prove, one behind the other. -/
import Derived.Test.YtocnpcjpkieogaaGreatDoorJs7
import Derived.Test.YtocnpcjpkieogaaGreatDoorJs9
import Derived.Test.YtocnpcjpkieogaaGreatDoorJs13

namespace Go.Proofs.YtocnpcjpkieogaaGreatDoor
open Go.ChangeShapes Go.WideShapes Go.ChangeAt Go.RowKit

theorem byI_extract (s : ByteArray) (a b : Nat) : byI (s.extract a b) = pc (byI s) a b := by
  unfold byI pc
  rw [ByteArray.data_extract]
  simp [List.map_drop, List.map_take]
end Go.Proofs.YtocnpcjpkieogaaGreatDoor
