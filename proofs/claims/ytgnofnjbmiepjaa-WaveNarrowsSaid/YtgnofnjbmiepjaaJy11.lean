/- Proved here: what the texts Frp, Frq prove, one behind the other. -/
import Derived.Test.YtgnofnjbmiepjaaJy3
import Derived.Test.YtgnofnjbmiepjaaJx3
import Derived.Test.YtgnofnjbmiepjaaJx9
import Derived.Test.YtgnofnjbmiepjaaJy1
import Derived.Test.YtgnofnjbmiepjaaJx7
import Derived.Test.YtgnofnjbmiepjaaJx1

namespace Go.Proofs.Ytgnofnjbmiepjaa
open Go.ChangeShapes Go.WideShapes Go.ChangeAt Go.RowKit Ieee.Own

end Go.Proofs.Ytgnofnjbmiepjaa

namespace Go.Proofs.Ytgnofnjbmiepjaa
open Go.ChangeShapes Go.WideShapes Go.ChangeAt Go.RowKit Ieee.Own Pol Fma

theorem rz_shiftF (n k : Nat) (hk : k = 1074) : rz (n * 2 ^ k) = rn n := by
  by_cases h : n = 0
  · subst h; rw [Nat.zero_mul, rz_zero, rn_zero]
  · have hl : (n * 2 ^ k).log2 = n.log2 + k := log2_shift n k h
    have hd : dz (n * 2 ^ k) = dr n + k := by unfold dz dr; rw [hl]; omega
    unfold rz rn
    rw [hd, rne_scale, ← hk, Nat.add_sub_cancel]
theorem RZ_wholeF {N : Int} : RZ (N * 2 ^ 1074) = RN N := by
  have key := rz_shiftF N.natAbs 1074 rfl
  unfold RZ Ieee.Own.RN
  rw [Int.natAbs_mul, Int.natAbs_pow, show (2 : Int).natAbs = 2 from rfl, key]
  have hp : (0 : Int) < 2 ^ 1074 := Int.pow_pos (by omega)
  have i : N * 2 ^ 1074 < 0 ↔ N < 0 := by
    generalize (2 : Int) ^ 1074 = T at *
    constructor
    · intro h
      refine Int.not_le.1 fun c => ?_
      have := Int.mul_nonneg c (Int.le_of_lt hp)
      omega
    · intro h; exact Int.mul_neg_of_neg_of_pos h hp
  by_cases c : N < 0
  · rw [if_pos c, if_pos (i.2 c)]
  · rw [if_neg c, if_neg (fun h => c (i.1 h))]
theorem fit_big {x : Nat} (hx : FinW x) (f : fitB x = true) : V x = 0 ∨ 2 ^ 874 ≤ (V x).natAbs := by
  unfold fitB at f
  rw [decide_eq_true_eq] at f
  rcases f with h | ⟨h, -⟩
  · exact .inl ((V_zero_iff hx).2 h)
  · right
    rw [V_abs' x hx]
    have e : val 52 3706462493325918208 = 2 ^ 874 := by decide +kernel
    rw [← e]
    by_cases q : x % 9223372036854775808 = 3706462493325918208
    · rw [q]; exact Nat.le_refl _
    · exact Nat.le_of_lt (val_lt (by omega))
/-! ### the angles -/
/-! ### boxes that hold -/
/-- the true sine and cosine of a word -/
def SQ (x : Nat) : Rat := Ply.sq (kq eig (V x)) (Ply.tau * ((rq eig (V x) : Rat) / unit))
def CQ (x : Nat) : Rat := Ply.sq (kq eig (V x) + 1) (Ply.tau * ((rq eig (V x) : Rat) / unit))
theorem SQ_of {x r : Nat} (R : Rst x r) : SQ x = Ply.sq (kq eig (V x)) (Ply.tau * Q r) ∧ CQ x = Ply.sq (kq eig (V x) + 1) (Ply.tau * Q r) := by
  unfold SQ CQ Q
  rw [R.v]
  exact ⟨rfl, rfl⟩
theorem rst_ex {x : Nat} (h : Ang x) : ∃ r, Rst x r := by
  obtain ⟨r, R, -⟩ := uquarter_run h
  exact ⟨r, R⟩
end Go.Proofs.Ytgnofnjbmiepjaa
