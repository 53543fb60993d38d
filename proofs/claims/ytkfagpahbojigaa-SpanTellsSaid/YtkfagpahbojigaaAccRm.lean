/- Proved here: single digits of the number that words tell. No program is named. -/
import Derived.Test.YtkfagpahbojigaaAccm
namespace Ieee.Own

theorem sumW_split (ws : Nat → Nat) (j n : Nat) (h : j < n) : ∃ c, sumW ws n = sumW ws j + ws j * 2 ^ (64 * j) + c * 2 ^ (64 * (j + 1)) := by
  induction n with
  | zero => omega
  | succ n ih =>
    simp only [sumW]
    by_cases e : j = n
    · subst e; exact ⟨0, by omega⟩
    · obtain ⟨c, hc⟩ := ih (by omega)
      refine ⟨c + ws n * 2 ^ (64 * (n - (j + 1))), ?_⟩
      have hp : 2 ^ (64 * n) = 2 ^ (64 * (n - (j + 1))) * 2 ^ (64 * (j + 1)) := by rw [← Nat.pow_add]; congr 1; omega
      rw [hc, hp, Nat.add_mul, Nat.mul_assoc]; omega

theorem word_bit (ws : Nat → Nat) (hw : ∀ i, ws i < 18446744073709551616) (j k n : Nat) (h : j < n) (hk : k < 64) :
    ws j / 2 ^ k % 2 = sumW ws n / 2 ^ (64 * j + k) % 2 := by
  obtain ⟨c, hc⟩ := sumW_split ws j n h
  have hs := sumW_lt ws hw j
  have hp := Nat.two_pow_pos (64 * j)
  have e1 : sumW ws n / 2 ^ (64 * j) = ws j + c * 18446744073709551616 := by
    rw [hc, pow64]
    have : sumW ws j + ws j * 2 ^ (64 * j) + c * (18446744073709551616 * 2 ^ (64 * j)) = sumW ws j + (ws j + c * 18446744073709551616) * 2 ^ (64 * j) := by
      rw [Nat.add_mul, Nat.mul_assoc c]; omega
    rw [this, Nat.add_mul_div_right _ _ hp, Nat.div_eq_of_lt hs, Nat.zero_add]
  have e2 : 18446744073709551616 = 2 * 2 ^ (63 - k) * 2 ^ k := by
    have : 2 ^ 64 = 2 ^ (1 + (63 - k) + k) := by congr 1; omega
    rw [Nat.pow_add, Nat.pow_add] at this
    exact this
  rw [Nat.pow_add, ← Nat.div_div_eq_div_mul, e1]
  have e3 : ws j + c * 18446744073709551616 = ws j + (c * (2 * 2 ^ (63 - k))) * 2 ^ k := by
    rw [Nat.mul_assoc c, ← e2]
  rw [e3, Nat.add_mul_div_right _ _ (Nat.two_pow_pos k)]
  have e4 : c * (2 * 2 ^ (63 - k)) = 2 * (c * 2 ^ (63 - k)) := Nat.mul_left_comm c 2 _
  rw [e4]
  omega

/-- are all digits below place i noughts? -/
theorem low_zero (A i : Nat) : A % 2 ^ i = 0 ↔ ∀ k, k < i → A / 2 ^ k % 2 = 0 := by
  induction i with
  | zero => simp [Nat.mod_one]
  | succ i ih =>
    rw [Nat.mod_pow_succ]
    constructor
    · intro h k hk
      have h1 : A % 2 ^ i = 0 := by omega
      have h2 : 2 ^ i * (A / 2 ^ i % 2) = 0 := by omega
      by_cases e : k = i
      · subst e
        have := Nat.two_pow_pos k
        rcases Nat.mul_eq_zero.1 h2 with h | h <;> omega
      · exact (ih.1 h1) k (by omega)
    · intro h
      rw [ih.2 (fun k hk => h k (by omega)), h i (by omega), Nat.mul_zero]

theorem top_word (ws : Nat → Nat) (hw : ∀ i, ws i < 18446744073709551616) (n : Nat) : ws n / 2 ^ 63 = 1 ↔ 2 ^ (64 * n + 63) ≤ sumW ws (n + 1) := by
  have hs := sumW_lt ws hw n
  have h := hw n
  simp only [sumW]
  rw [Nat.pow_add, Nat.mul_comm (2 ^ (64 * n))]
  have hp := Nat.two_pow_pos (64 * n)
  constructor
  · intro h1
    have : 2 ^ 63 * 2 ^ (64 * n) ≤ ws n * 2 ^ (64 * n) := Nat.mul_le_mul_right _ (by omega)
    omega
  · intro h1
    refine Nat.le_antisymm (by omega) ?_
    refine Nat.le_of_not_lt fun hlt => ?_
    have : (ws n + 1) * 2 ^ (64 * n) ≤ 2 ^ 63 * 2 ^ (64 * n) := Nat.mul_le_mul_right _ (by omega)
    rw [Nat.add_mul] at this
    omega
theorem top_word_0 (ws : Nat → Nat) (hw : ∀ i, ws i < 18446744073709551616) (n : Nat) : ws n / 2 ^ 63 = 0 ∨ ws n / 2 ^ 63 = 1 := by
  have := hw n; omega
theorem sumW_pos (ws : Nat → Nat) (n : Nat) : (∃ i, i < n ∧ ws i ≠ 0) ↔ sumW ws n ≠ 0 := by
  constructor
  · rintro ⟨i, hi, h⟩ h0
    exact h (sumW_zero ws n h0 i hi)
  · intro h
    refine Classical.byContradiction fun hn => h ?_
    exact sumW_of_zero ws n (fun i hi => Classical.byContradiction fun h2 => hn ⟨i, hi, h2⟩)
end Ieee.Own
