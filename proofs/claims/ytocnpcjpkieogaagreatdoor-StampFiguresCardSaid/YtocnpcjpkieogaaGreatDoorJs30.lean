/- Proved here: what the texts Yde, Ydf, Ydg prove, one behind the other. -/
import Derived.Test.YtocnpcjpkieogaaGreatDoorJs26
import Derived.Test.YtocnpcjpkieogaaGreatDoorJs29

namespace Go.Proofs.YtocnpcjpkieogaaGreatDoor
open Ieee Ieee.Own

/-! ### how near -/
end Go.Proofs.YtocnpcjpkieogaaGreatDoor

namespace Go.Proofs.YtocnpcjpkieogaaGreatDoor
open Go.ChangeShapes Go.WideShapes Go.ChangeAt Go.RowKit Ieee Ieee.Own

end Go.Proofs.YtocnpcjpkieogaaGreatDoor

namespace Go.Proofs.YtocnpcjpkieogaaGreatDoor
open Go.ChangeShapes Go.WideShapes Go.ChangeAt Go.RowKit Ieee Ieee.Own

theorem wf64 {b : Nat} (h : (Lit.float .f64 b).wf = true) : b < 18446744073709551616 := by
  simp only [Lit.wf, decide_eq_true_eq] at h; exact h
set_option maxRecDepth 100000 in
theorem fig_arg (b : Nat) (a : Int) (_hb : b < 18446744073709551616) (h : a < 0 ∨ 9 < a) (w : World) :
    Calls Tryz.prog 5 #[.float .f64 b, .int .i64 a] w fun e w' => e = .returned (.tuple #[.string ⟨#[]⟩, .int .i64 1]) ∧ Below w.heap.size w w' := by
  by_cases h1 : a < 0
  · have t : decide (a < 0) = true := decide_eq_true h1
    clear h h1
    go_enter Tryz.func5, Tryz.ntmps5
    go_wp2_with fail
    go_ret2
    exact ⟨rfl, Below.refl _ _⟩
  · have t : decide (a < 0) = false := decide_eq_false h1
    have t2 : decide (9 < a) = true := decide_eq_true (by omega)
    clear h h1
    go_enter Tryz.func5, Tryz.ntmps5
    go_wp2_with fail
    go_ret2
    exact ⟨rfl, Below.refl _ _⟩
set_option maxRecDepth 100000 in
theorem fig_fit (b p : Nat) (hb : b < 18446744073709551616) (hp : p ≤ 9) (h : figB b = false) (w : World) :
    Calls Tryz.prog 5 #[.float .f64 b, .int .i64 (p : Int)] w fun e w' => e = .returned (.tuple #[.string ⟨#[]⟩, .int .i64 3]) ∧ Below w.heap.size w w' := by
  have F := Lib.hid (fun u => fit_any b hb u)
  have FA := Lib.hid (fun u => abs_any b hb u)
  have g1 : decide ((p : Int) < 0) = false := decide_eq_false (by omega)
  have g2 : decide (9 < (p : Int)) = false := decide_eq_false (by omega)
  cases hf : fitB b with
  | false =>
    rw [hf] at F
    clear h hb hp
    go_enter Tryz.func5, Tryz.ntmps5
    go_wp2_with (first | (go_at_call 11; ((with_reducible refine (F.out _).mono ?_); rintro e w' ⟨rfl, rfl⟩)) | (go_at_call 12; ((with_reducible refine (FA.out _).mono ?_); rintro e w' ⟨rfl, rfl⟩)))
    go_ret2
    exact ⟨rfl, Below.refl _ _⟩
  | true =>
    rw [hf] at F
    have hfd := hf
    unfold fitB at hfd
    rw [decide_eq_true_eq] at hfd
    have hm : b % 9223372036854775808 < 9223372036854775808 := by omega
    have big : 4742290407621132288 < b % 9223372036854775808 := by
      unfold figB at h
      rw [hf, Bool.true_and, decide_eq_false_iff_not] at h
      omega
    have A := o_gtr (b % 9223372036854775808) 4742290407621132288 (by omega) (by omega)
    rw [key_low hm, key_low (by omega), decide_eq_true (by unfold nn; omega)] at A
    generalize b % 9223372036854775808 = m at *
    clear h hb hp hf hfd hm big
    go_enter Tryz.func5, Tryz.ntmps5
    go_wp2_with (first | (go_at_call 11; ((with_reducible refine (F.out _).mono ?_); rintro e w' ⟨rfl, rfl⟩)) | (go_at_call 12; ((with_reducible refine (FA.out _).mono ?_); rintro e w' ⟨rfl, rfl⟩)))
    go_ret2
    exact ⟨rfl, Below.refl _ _⟩
end Go.Proofs.YtocnpcjpkieogaaGreatDoor
