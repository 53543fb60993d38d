/- Proved here: what the texts Day, Sqj prove, one behind the other. -/
import Derived.Test.YtocnpcjpkieogaaGreatDoorJs1
import Derived.Laws.FloatArith
import Derived.Laws.FloatBits
import Derived.WalkLawsBesides
import Derived.Laws.Externs
import Derived.Test.YtocnpcjpkieogaaGreatDoorJs36
import Derived.Test.YtocnpcjpkieogaaGreatDoorJs37
import Derived.Test.YtocnpcjpkieogaaGreatDoorJs38
import Derived.Test.YtocnpcjpkieogaaGreatDoorJs39

namespace Go.Proofs.YtocnpcjpkieogaaGreatDoor
open Go.ChangeShapes Go.WideShapes Go.ChangeAt Go.RowKit

set_option maxRecDepth 100000 in
theorem x36d (b : Nat) (w : World) : (callFunc 25 #[.float .f64 b]).run Tryz.prog w = .ok (.value (.int .u64 (b : Int))) w := by
  rw [run_callFunc_extern (e := Extern.MathFloatBits.float64bits) Tryz.func25 (by kernel_rfl) (by kernel_rfl) (by kernel_rfl) (by kernel_rfl)]; rfl
set_option maxRecDepth 100000 in
theorem same_word (a : Nat) (w : World) : Calls Tryz.prog 9 #[.float .f64 a, .float .f64 a] w fun e w' => e = .returned (.bool true) ∧ w = w' := by
  have t : ((a : Int) == (a : Int)) = true := by simp
  go_enter Tryz.func9, Tryz.ntmps9
  go_wp2_with (simp only [x36d])
  go_ret
  exact ⟨rfl, rfl⟩
end Go.Proofs.YtocnpcjpkieogaaGreatDoor

namespace Go.Proofs.YtocnpcjpkieogaaGreatDoor
open Go.Shelf Go.ChangeShapes Go.WideShapes Go.ChangeAt Go.RowKit Ieee.Own

theorem near_k {D p k l x y : Nat} (h : NearK D p k x) (g : NearK D p l y) : ¬ k < l := by
  intro q
  have a := h.lo
  have b := g.hi
  have c : D * 2 ^ (k + 1) ≤ D * 2 ^ l := Nat.mul_le_mul_left _ (Nat.pow_le_pow_right (by decide) q)
  rw [Nat.pow_succ, ← Nat.mul_assoc] at c
  generalize D * 2 ^ k = u at *
  generalize D * 2 ^ l = v at *
  generalize 10 ^ p = t at *
  omega
theorem near_uniq {D p k l x y : Nat} (h : NearK D p k x) (g : NearK D p l y) : x % 9223372036854775808 = y % 9223372036854775808 := by
  have a := near_k h g
  have b := near_k g h
  obtain rfl : k = l := by omega
  rw [h.eq, g.eq]
theorem got_uniq {neg : Bool} {D p x y : Nat} (h : GotF neg D p x) (g : GotF neg D p y) : x = y := by
  rcases h with ⟨d0, h⟩ | ⟨d0, k, n, x1, x2⟩
  · rcases g with ⟨_, g⟩ | ⟨d1, _⟩
    · rw [h, g]
    · exact absurd d0 d1
  · rcases g with ⟨d1, _⟩ | ⟨_, l, m, y1, y2⟩
    · exact absurd d1 d0
    · have e := near_uniq n m
      rw [← y2] at x2
      omega
set_option maxRecDepth 100000 in
set_option maxHeartbeats 1000000 in
theorem rval_run (s : ByteArray) (hs : s.size ≤ 9223372036854775807) (w : World) : Calls Tryz.prog 8 #[.string s] w fun e w' => RvA (byI s) e ∧ Below w.heap.size w w' := by
  cases hg : ngP (byI s) with
  | true =>
    cases hp : ptP (rsP (byI s)) with
    | true => exact rval_tt s hs hg.symm hp w
    | false => exact rval_tf s hs hg.symm hp w
  | false =>
    by_cases h1 : 0 < s.size
    · cases hp : ptP (rsP (byI s)) with
      | true => exact rval_ft s hs hg.symm hp h1 w
      | false => exact rval_ff s hs hg.symm hp h1 w
    · exact rval_nil s (by omega) w
end Go.Proofs.YtocnpcjpkieogaaGreatDoor
