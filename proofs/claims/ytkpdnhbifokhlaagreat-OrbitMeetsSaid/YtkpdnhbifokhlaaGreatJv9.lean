/- Proved here: what the texts Vmd prove, one behind the other. -/
import Derived.Test.YtkpdnhbifokhlaaGreatJv7

namespace Go.Proofs.YtkpdnhbifokhlaaGreat
open Go.ChangeShapes Go.WideShapes Go.ChangeAt Go.RowKit Ieee.Own

set_option maxHeartbeats 4000000 in
set_option maxRecDepth 100000 in
theorem vaxis_run (a : Int) (w : World) : Calls Tryz.prog 133 #[.int .i64 a] w fun e w' => e = .returned (.bool (decide (0 ≤ a ∧ a ≤ 2))) ∧ Below w.heap.size w w' := by
 by_cases h1 : 0 ≤ a
 · have t1 : decide (0 ≤ a) = true := decide_eq_true h1
   by_cases h2 : a ≤ 2
   · have t2 : decide (a ≤ 2) = true := decide_eq_true h2
     rw [decide_eq_true (show 0 ≤ a ∧ a ≤ 2 from ⟨h1, h2⟩)]
     clear h1 h2
     go_enter Tryz.func133, Tryz.ntmps133
     go_wp2_with fail
     go_ret
     exact ⟨rfl, Below.refl _ w⟩
   · have t2 : decide (a ≤ 2) = false := decide_eq_false h2
     rw [decide_eq_false (show ¬ (0 ≤ a ∧ a ≤ 2) from fun h => h2 h.2)]
     clear h1 h2
     go_enter Tryz.func133, Tryz.ntmps133
     go_wp2_with fail
     go_ret
     exact ⟨rfl, Below.refl _ w⟩
 · have t1 : decide (0 ≤ a) = false := decide_eq_false h1
   rw [decide_eq_false (show ¬ (0 ≤ a ∧ a ≤ 2) from fun h => h1 h.1)]
   clear h1
   go_enter Tryz.func133, Tryz.ntmps133
   go_wp2_with fail
   go_ret
   exact ⟨rfl, Below.refl _ w⟩
end Go.Proofs.YtkpdnhbifokhlaaGreat
