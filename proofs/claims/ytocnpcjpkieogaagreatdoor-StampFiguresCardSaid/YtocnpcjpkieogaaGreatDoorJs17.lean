/- Proved here: what the texts Szq, Szr, Sla, Slo prove, one behind the other. -/
import Derived.Test.YtocnpcjpkieogaaGreatDoorJs14
import Derived.Test.YtocnpcjpkieogaaGreatDoorJs1
import Derived.Test.YtocnpcjpkieogaaGreatDoorJs7
import Derived.BigQuiet
import Derived.Deep.QuietTactic
import Derived.Test.YtocnpcjpkieogaaGreatDoorJs9
import Derived.Test.YtocnpcjpkieogaaGreatDoorJs12
import Derived.Test.YtocnpcjpkieogaaGreatDoorJs10
import Derived.Test.YtocnpcjpkieogaaGreatDoorJs15

namespace Go.Proofs.YtocnpcjpkieogaaGreatDoor
open Go.ChangeShapes Go.WideShapes Go.ChangeAt Go.RowKit

def isDgB (c : Int) : Bool := decide (48 ≤ c ∧ c ≤ 57)
set_option maxRecDepth 100000 in
theorem isdg_run (c : Int) (w : World) : Calls Tryz.prog 58 #[.int .u8 c] w fun e w' => e = .returned (.bool (isDgB c)) ∧ w = w' := by
  unfold isDgB
  by_cases h1 : 48 ≤ c
  · by_cases h2 : c ≤ 57
    · have d : Hid (decide (48 ≤ c ∧ c ≤ 57) = true) := decide_eq_true ⟨h1, h2⟩
      rw [d.out]
      have t1 : decide (48 ≤ c) = true := decide_eq_true h1
      have t2 : decide (c ≤ 57) = true := decide_eq_true h2
      clear h1 h2
      go_enter Tryz.func58, Tryz.ntmps58
      go_wp2_with fail
      go_ret
      exact ⟨rfl, rfl⟩
    · have d : Hid (decide (48 ≤ c ∧ c ≤ 57) = false) := decide_eq_false (fun h => h2 h.2)
      rw [d.out]
      have t1 : decide (48 ≤ c) = true := decide_eq_true h1
      have t2 : decide (c ≤ 57) = false := decide_eq_false h2
      clear h1 h2
      go_enter Tryz.func58, Tryz.ntmps58
      go_wp2_with fail
      go_ret
      exact ⟨rfl, rfl⟩
  · have d : Hid (decide (48 ≤ c ∧ c ≤ 57) = false) := decide_eq_false (fun h => h1 h.1)
    rw [d.out]
    have t1 : decide (48 ≤ c) = false := decide_eq_false h1
    clear h1
    go_enter Tryz.func58, Tryz.ntmps58
    go_wp2_with fail
    go_ret
    exact ⟨rfl, rfl⟩
end Go.Proofs.YtocnpcjpkieogaaGreatDoor

namespace Go.Proofs.YtocnpcjpkieogaaGreatDoor
open Go.ChangeShapes Go.WideShapes Go.ChangeAt Go.RowKit

end Go.Proofs.YtocnpcjpkieogaaGreatDoor

namespace Go.Proofs.YtocnpcjpkieogaaGreatDoor
open Go.ChangeShapes Go.WideShapes Go.ChangeAt Go.RowKit
end Go.Proofs.YtocnpcjpkieogaaGreatDoor

namespace Go.Proofs.YtocnpcjpkieogaaGreatDoor
open Go.ChangeShapes Go.WideShapes Go.ChangeAt Go.RowKit
end Go.Proofs.YtocnpcjpkieogaaGreatDoor
