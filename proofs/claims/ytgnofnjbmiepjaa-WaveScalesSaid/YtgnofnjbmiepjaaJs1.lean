/- Proved here: what the texts Pmr, Psl, Psp prove, one behind the other. -/
import Derived.Test.YtgnofnjbmiepjaaJp
import Derived.Test.YtgnofnjbmiepjaaJb2
import Derived.Test.YtgnofnjbmiepjaaJb8

namespace Go.Proofs.Ytgnofnjbmiepjaa
open Ieee.Own Pol

def sg (s : Bool) (z : Int) : Int := if s then -z else z
/-- every second one negated, the first as s says -/
inductive Alt : Bool → List Nat → List Nat → Prop
  | nil (s : Bool) : Alt s [] []
  | cons {s : Bool} {a b : Nat} {al bl : List Nat} (h : V b = sg s (V a)) (t : Alt (!s) al bl) : Alt s (a :: al) (b :: bl)
theorem Alt.len {s : Bool} {al bl : List Nat} (h : Alt s al bl) : bl.length = al.length := by
  induction h with
  | nil => rfl
  | cons _ _ ih => simp [ih]
/-! ### times a power of two -/
/-- 0, or not small: a whole number of 2^p units -/
def Nsm (L : Nat) (z : Int) : Prop := z = 0 ∨ 2 ^ L ≤ z.natAbs
theorem Nsm.dvd {L : Nat} {b : Nat} (h : Nsm (L + 53) (V b)) : (2 : Int) ^ L ∣ V b := by
  rcases h with h | h
  · rw [h]; exact Int.dvd_zero _
  · exact dvd_big h
theorem Nsm.RN {L : Nat} {z : Int} (h : Nsm L z) : Nsm L (RN z) := by
  rcases h with h | h
  · left; rw [h]; rfl
  · right
    rw [RN_abs]
    have := rn_mono h
    rwa [show rn (2 ^ L) = 2 ^ L by have := rn_exact 1 L (by omega); simpa using this] at this
theorem rz_shift (n k : Nat) (hk : k = 1074) : rz (n * 2 ^ k) = rn n := by
  by_cases h : n = 0
  · subst h; rw [Nat.zero_mul, rz_zero, rn_zero]
  · have hl : (n * 2 ^ k).log2 = n.log2 + k := log2_shift n k h
    have hd : dz (n * 2 ^ k) = dr n + k := by unfold dz dr; rw [hl]; omega
    unfold rz rn
    rw [hd, rne_scale, ← hk, Nat.add_sub_cancel]
theorem RZ_whole {N : Int} : RZ (N * 2 ^ 1074) = RN N := by
  have key := rz_shift N.natAbs 1074 rfl
  unfold RZ Ieee.Own.RN
  rw [Int.natAbs_mul, Int.natAbs_pow, show (2 : Int).natAbs = 2 from rfl, key]
  have hp : (0 : Int) < 2 ^ 1074 := Int.pow_pos (by omega)
  have i : N * 2 ^ 1074 < 0 ↔ N < 0 := by
    generalize (2 : Int) ^ 1074 = T at *
    constructor
    · intro h
      refine Int.not_le.1 fun c => ?_
      have := Int.mul_nonneg c (Int.le_of_lt hp)
      omega
    · intro h; exact Int.mul_neg_of_neg_of_pos h hp
  by_cases c : N < 0
  · rw [if_pos c, if_pos (i.2 c)]
  · rw [if_neg c, if_neg (fun h => c (i.1 h))]
end Go.Proofs.Ytgnofnjbmiepjaa

namespace Go.Proofs.Ytgnofnjbmiepjaa
open Ieee.Own Pol

end Go.Proofs.Ytgnofnjbmiepjaa

namespace Go.Proofs.Ytgnofnjbmiepjaa
open Go.ChangeShapes Go.WideShapes Go.ChangeAt Go.RowKit Ieee.Own

/-! ### nothing grows too great -/
end Go.Proofs.Ytgnofnjbmiepjaa
