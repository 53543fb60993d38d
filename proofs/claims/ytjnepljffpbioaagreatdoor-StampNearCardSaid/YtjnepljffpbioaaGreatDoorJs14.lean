/- Proved here: what the texts Sqp prove, one behind the other. -/
import Derived.Test.YtjnepljffpbioaaGreatDoorJs7
import Derived.Test.YtjnepljffpbioaaGreatDoorJs9
import Derived.Test.YtjnepljffpbioaaGreatDoorJs13

namespace Go.Proofs.YtjnepljffpbioaaGreatDoor
open Go.ChangeShapes Go.WideShapes Go.ChangeAt Go.RowKit

theorem byI_extract (s : ByteArray) (a b : Nat) : byI (s.extract a b) = pc (byI s) a b := by
  unfold byI pc
  rw [ByteArray.data_extract]
  simp [List.map_drop, List.map_take]
end Go.Proofs.YtjnepljffpbioaaGreatDoor
