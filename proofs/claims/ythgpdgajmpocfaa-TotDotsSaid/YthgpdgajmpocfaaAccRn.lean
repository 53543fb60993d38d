/- Proved here: a whole number rounded to 53 digits, digit by digit as the reference does it. No program is named. -/
import Derived.Test.YthgpdgajmpocfaaAccRm
import Derived.Test.YthgpdgajmpocfaaRn
namespace Ieee.Own

/-- rounding by the digit behind and whether any below it is 1 -/
theorem rne_bits (M d : Nat) : rne M (d + 1) = M / 2 ^ (d + 1) + (if M / 2 ^ d % 2 = 1 ∧ (M / 2 ^ (d + 1) % 2 = 1 ∨ M % 2 ^ d ≠ 0) then 1 else 0) := by
  have hp := Nat.two_pow_pos d
  have e2 : 2 ^ (d + 1) = 2 * 2 ^ d := by rw [Nat.pow_succ]; omega
  have hm : M % 2 ^ (d + 1) = M % 2 ^ d + 2 ^ d * (M / 2 ^ d % 2) := Nat.mod_pow_succ
  have hlt := Nat.mod_lt M hp
  have hb : M / 2 ^ d % 2 = 0 ∨ M / 2 ^ d % 2 = 1 := by omega
  unfold rne
  rw [hm]
  generalize M / 2 ^ (d + 1) = q
  generalize M % 2 ^ d = r at *
  rw [e2]
  rcases hb with hb | hb
  · rw [hb]
    generalize 2 ^ d = g at *
    rw [if_neg (by omega), if_neg (by omega)]
    omega
  · rw [hb]
    generalize 2 ^ d = g at *
    by_cases hr : r = 0
    · by_cases ho : q % 2 = 1
      · rw [if_pos (by omega), if_pos (by omega)]
      · rw [if_neg (by omega), if_neg (by omega)]; omega
    · rw [if_pos (by omega), if_pos (by omega)]

/-- the first i digits of M, its highest at place h -/
def topD (M h i : Nat) : Nat := if i ≤ h + 1 then M / 2 ^ (h + 1 - i) else M * 2 ^ (i - h - 1)
theorem topD_zero (M h : Nat) (hM : M < 2 ^ (h + 1)) : topD M h 0 = 0 := by
  unfold topD; rw [if_pos (by omega)]; exact Nat.div_eq_of_lt hM
theorem topD_step (M h i : Nat) (hi : i ≤ h) : topD M h (i + 1) = 2 * topD M h i + M / 2 ^ (h - i) % 2 := by
  unfold topD
  rw [if_pos (by omega), if_pos (by omega), show h + 1 - (i + 1) = h - i by omega, show h + 1 - i = h - i + 1 by omega, Nat.pow_succ, ← Nat.div_div_eq_div_mul]
  omega
theorem topD_past (M h i : Nat) (hi : h < i) : topD M h (i + 1) = 2 * topD M h i := by
  unfold topD
  rw [if_neg (by omega)]
  by_cases e : i = h + 1
  · subst e
    rw [if_pos (by omega), show h + 1 - (h + 1) = 0 by omega, show h + 1 + 1 - h - 1 = 1 by omega]
    simp; omega
  · rw [if_neg (by omega), show i + 1 - h - 1 = (i - h - 1) + 1 by omega, Nat.pow_succ]
    rw [← Nat.mul_assoc]; omega
theorem topD_lt (M h i : Nat) (hM : M < 2 ^ (h + 1)) : topD M h i < 2 ^ i := by
  unfold topD
  split
  · rw [Nat.div_lt_iff_lt_mul (Nat.two_pow_pos _), ← Nat.pow_add, show i + (h + 1 - i) = h + 1 by omega]; exact hM
  · have : M * 2 ^ (i - h - 1) < 2 ^ (h + 1) * 2 ^ (i - h - 1) := Nat.mul_lt_mul_of_pos_right hM (Nat.two_pow_pos _)
    rw [← Nat.pow_add, show h + 1 + (i - h - 1) = i by omega] at this; exact this
theorem topD_53 (M h : Nat) : topD M h 53 = if 52 ≤ h then M / 2 ^ (h - 52) else M * 2 ^ (52 - h) := by
  unfold topD
  by_cases h1 : 52 ≤ h
  · rw [if_pos (by omega), if_pos h1, show h + 1 - 53 = h - 52 by omega]
  · rw [if_neg (by omega), if_neg h1, show 53 - h - 1 = 52 - h by omega]

/-- the 53 digits, rounded by the digit behind: M rounded -/
theorem round_digits (M h : Nat) (h0 : M ≠ 0) (hh : M.log2 = h) :
    (53 ≤ h → rn M = (M / 2 ^ (h - 52) + (if M / 2 ^ (h - 53) % 2 = 1 ∧ (M / 2 ^ (h - 52) % 2 = 1 ∨ M % 2 ^ (h - 53) ≠ 0) then 1 else 0)) * 2 ^ (h - 52)) ∧
    (h ≤ 52 → rn M = M) := by
  have hM := (Nat.log2_eq_iff h0).1 hh
  constructor
  · intro h1
    have hd : dr M = h - 53 + 1 := by unfold dr; omega
    unfold rn
    rw [hd, rne_bits, show h - 53 + 1 = h - 52 by omega]
  · intro h1
    have : 2 ^ (h + 1) ≤ 2 ^ 53 := Nat.pow_le_pow_right (by omega) (by omega)
    exact rn_small M (by omega)
end Ieee.Own
