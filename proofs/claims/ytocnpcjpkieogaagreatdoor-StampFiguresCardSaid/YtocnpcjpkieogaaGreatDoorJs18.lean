/- Proved here: what the texts Sak prove, one behind the other. -/
import Derived.Test.YtocnpcjpkieogaaGreatDoorJs15
import Derived.Test.YtocnpcjpkieogaaGreatDoorJs11
import Derived.Test.YtocnpcjpkieogaaGreatDoorJs16

namespace Go.Proofs.YtocnpcjpkieogaaGreatDoor
open Go.ChangeShapes Go.WideShapes Go.ChangeAt Go.RowKit Ieee.Own

theorem ftoaOk_15 : FtoaOk 4609434218613702656 0 := fun w0 w a O Lw =>
  ftoa_fast 4609434218613702656 0 a 1023 2251799813685248 6755399441055744 false (by decide) (by decide) (by decide) (by decide) (by decide) (by decide) (by decide) (by decide) (by decide +kernel) (by decide) w0 w O Lw
theorem scN_15 : scN 4609434218613702656 0 = 2 := by decide +kernel
theorem figV_15 : figV 4609434218613702656 0 = .tuple #[.string ⟨#[50]⟩, .int .i64 0] := by
  have h : figB 4609434218613702656 = true := by decide +kernel
  unfold figV
  rw [if_neg (by decide), if_pos h, show (0 : Int).toNat = 0 by rfl, figS_is, scN_15]
  unfold nuL
  rw [wdN_low (by decide)]
  rfl
theorem prV_aw : prV 123456789 = .tuple #[.string ⟨#[43, 48, 48, 48, 48, 48, 45, 48, 49, 45, 48, 50, 32, 49, 51, 58, 50, 55, 58, 53, 49, 46, 48, 50, 55, 55]⟩, .int .i64 0] := by
  have h : isI 123456789 = true := by decide +kernel
  have e : stampL 123456789 = [43, 48, 48, 48, 48, 48, 45, 48, 49, 45, 48, 50, 32, 49, 51, 58, 50, 55, 58, 53, 49, 46, 48, 50, 55, 55] := by decide +kernel
  rw [prV_t h, e]
  rfl
set_option maxRecDepth 100000 in
theorem awake_run (w : World) (L : Lib9 w) : Calls Tryz.prog 4 #[] w fun e w' => e = .returned (.bool true) ∧ Below w.heap.size w w' := by
  have P := Lib.hid (print_run 123456789 w)
  rw [prV_aw] at P
  have F := Lib.hid (fun u (Lu : Lib9 u) => fig_ok 4609434218613702656 0 (by decide) (by decide) (by decide +kernel) ftoaOk_15 u Lu)
  rw [show ((0 : Nat) : Int) = 0 by rfl, figV_15] at F
  go_enter Tryz.func4, Tryz.ntmps4
  go_wp2_with fail
  refine P.out.mono ?_
  rintro _ w1 ⟨rfl, B⟩
  have L1 := L.on B L.size
  replace B := Lib.hid B
  clear P L
  go_wp2_with fail
  refine (F.out _ L1).mono ?_
  rintro _ w2 ⟨rfl, B2⟩
  replace B := Lib.hid (B.out.trans (B2.mono B.out.size))
  clear F B2 L1
  go_wp2_with fail
  go_ret
  exact ⟨rfl, B.out⟩
end Go.Proofs.YtocnpcjpkieogaaGreatDoor
