/- Proved here: what the texts Pmr, Psl, Psp prove, one behind the other. -/
import Derived.Test.YtgnofnjbmiepjaaJp
import Derived.Test.YtgnofnjbmiepjaaJb2
import Derived.Test.YtgnofnjbmiepjaaJb8

namespace Go.Proofs.Ytgnofnjbmiepjaa
open Ieee.Own Pol

/-! ### times a power of two -/
/-- 0, or not small: a whole number of 2^p units -/
def Nsm (L : Nat) (z : Int) : Prop := z = 0 ∨ 2 ^ L ≤ z.natAbs
theorem Nsm.dvd {L : Nat} {b : Nat} (h : Nsm (L + 53) (V b)) : (2 : Int) ^ L ∣ V b := by
  rcases h with h | h
  · rw [h]; exact Int.dvd_zero _
  · exact dvd_big h
theorem Nsm.RN {L : Nat} {z : Int} (h : Nsm L z) : Nsm L (RN z) := by
  rcases h with h | h
  · left; rw [h]; rfl
  · right
    rw [RN_abs]
    have := rn_mono h
    rwa [show rn (2 ^ L) = 2 ^ L by have := rn_exact 1 L (by omega); simpa using this] at this
end Go.Proofs.Ytgnofnjbmiepjaa

namespace Go.Proofs.Ytgnofnjbmiepjaa
open Ieee.Own Pol

end Go.Proofs.Ytgnofnjbmiepjaa

namespace Go.Proofs.Ytgnofnjbmiepjaa
open Go.ChangeShapes Go.WideShapes Go.ChangeAt Go.RowKit Ieee.Own

/-! ### nothing grows too great -/
def hw (a b : Nat) : Nat := (1053 + 10 * b) * 4503599627370496 + a * 281474976710656
end Go.Proofs.Ytgnofnjbmiepjaa
