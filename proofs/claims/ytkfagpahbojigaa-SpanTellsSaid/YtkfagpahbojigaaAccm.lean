/- Proved here: sums and differences of long numbers, word by word with a carry. No program is named. -/
namespace Ieee.Own

/-- the words that a step of a long sum (or difference) leaves, and its carry -/
def stepS (neg : Bool) (x y c : Nat) : Nat := if neg then (x + 18446744073709551616 - y - c) % 18446744073709551616 else (x + y + c) % 18446744073709551616
def stepC (neg : Bool) (x y c : Nat) : Nat := if neg then (if x < y + c then 1 else 0) else (x + y + c) / 18446744073709551616
def xw (q p0 p1 i : Nat) : Nat := if i = q then p0 else if i = q + 1 then p1 else 0
def cy (neg : Bool) (ws : Nat → Nat) (q p0 p1 : Nat) : Nat → Nat
  | 0 => 0
  | i + 1 => stepC neg (ws i) (xw q p0 p1 i) (cy neg ws q p0 p1 i)
def nw (neg : Bool) (ws : Nat → Nat) (q p0 p1 i : Nat) : Nat := stepS neg (ws i) (xw q p0 p1 i) (cy neg ws q p0 p1 i)

theorem stepC_le (neg : Bool) (x y c : Nat) (hx : x < 18446744073709551616) (hy : y < 18446744073709551616) (hc : c ≤ 1) : stepC neg x y c ≤ 1 := by
  unfold stepC; repeat' split
  all_goals omega
theorem xw_lt (q p0 p1 i : Nat) (h0 : p0 < 18446744073709551616) (h1 : p1 < 18446744073709551616) : xw q p0 p1 i < 18446744073709551616 := by
  unfold xw; repeat' split
  all_goals omega
theorem cy_le (neg : Bool) (ws : Nat → Nat) (q p0 p1 : Nat) (h : ∀ i, ws i < 18446744073709551616) (h0 : p0 < 18446744073709551616) (h1 : p1 < 18446744073709551616) : ∀ i, cy neg ws q p0 p1 i ≤ 1 := by
  intro i
  induction i with
  | zero => unfold cy; omega
  | succ i ih => unfold cy; exact stepC_le _ _ _ _ (h i) (xw_lt q p0 p1 i h0 h1) ih
theorem cy_succ (neg : Bool) (ws : Nat → Nat) (q p0 p1 i : Nat) : cy neg ws q p0 p1 (i + 1) = stepC neg (ws i) (xw q p0 p1 i) (cy neg ws q p0 p1 i) := rfl
theorem nw_lt (neg : Bool) (ws : Nat → Nat) (q p0 p1 i : Nat) : nw neg ws q p0 p1 i < 18446744073709551616 := by
  unfold nw stepS; split <;> exact Nat.mod_lt _ (by omega)

/-- the number that words tell -/
def sumW (ws : Nat → Nat) : Nat → Nat
  | 0 => 0
  | n + 1 => sumW ws n + ws n * 2 ^ (64 * n)

theorem step_add (x y c : Nat) : stepS false x y c + stepC false x y c * 18446744073709551616 = x + y + c := by
  unfold stepS stepC; simp only [Bool.false_eq_true, if_false]; omega
theorem step_sub (x y c : Nat) (hx : x < 18446744073709551616) (hy : y < 18446744073709551616) (hc : c ≤ 1) : stepS true x y c + y + c = x + stepC true x y c * 18446744073709551616 := by
  unfold stepS stepC; simp only [if_true]; split <;> omega

theorem pow64 (n : Nat) : 2 ^ (64 * (n + 1)) = 18446744073709551616 * 2 ^ (64 * n) := by
  rw [show 64 * (n + 1) = 64 + 64 * n by omega, Nat.pow_add]

theorem sum_add (ws : Nat → Nat) (q p0 p1 n : Nat) :
    sumW (nw false ws q p0 p1) n + cy false ws q p0 p1 n * 2 ^ (64 * n) = sumW ws n + sumW (xw q p0 p1) n := by
  induction n with
  | zero => simp [sumW, cy]
  | succ n ih =>
    simp only [sumW, cy_succ]
    have h := step_add (ws n) (xw q p0 p1 n) (cy false ws q p0 p1 n)
    rw [pow64]
    unfold nw
    generalize stepS false (ws n) (xw q p0 p1 n) (cy false ws q p0 p1 n) = s at *
    generalize stepC false (ws n) (xw q p0 p1 n) (cy false ws q p0 p1 n) = t at *
    have h2 : (s + t * 18446744073709551616) * 2 ^ (64 * n) = (ws n + xw q p0 p1 n + cy false ws q p0 p1 n) * 2 ^ (64 * n) := by rw [h]
    rw [Nat.add_mul, Nat.add_mul, Nat.add_mul, Nat.mul_assoc] at h2
    unfold nw at ih
    omega
theorem sum_sub (ws : Nat → Nat) (q p0 p1 : Nat) (hw : ∀ i, ws i < 18446744073709551616) (h0 : p0 < 18446744073709551616) (h1 : p1 < 18446744073709551616) (n : Nat) :
    sumW (nw true ws q p0 p1) n + sumW (xw q p0 p1) n = sumW ws n + cy true ws q p0 p1 n * 2 ^ (64 * n) := by
  induction n with
  | zero => simp [sumW, cy]
  | succ n ih =>
    simp only [sumW, cy_succ]
    have h := step_sub (ws n) (xw q p0 p1 n) (cy true ws q p0 p1 n) (hw n) (xw_lt q p0 p1 n h0 h1) (cy_le true ws q p0 p1 hw h0 h1 n)
    rw [pow64]
    unfold nw
    generalize stepS true (ws n) (xw q p0 p1 n) (cy true ws q p0 p1 n) = s at *
    generalize stepC true (ws n) (xw q p0 p1 n) (cy true ws q p0 p1 n) = t at *
    have h2 : (s + xw q p0 p1 n + cy true ws q p0 p1 n) * 2 ^ (64 * n) = (ws n + t * 18446744073709551616) * 2 ^ (64 * n) := by rw [h]
    rw [Nat.add_mul, Nat.add_mul, Nat.add_mul, Nat.mul_assoc] at h2
    unfold nw at ih
    omega

theorem sum_xw_lo (q p0 p1 n : Nat) (h : n ≤ q) : sumW (xw q p0 p1) n = 0 := by
  induction n with
  | zero => rfl
  | succ n ih =>
    simp only [sumW]
    rw [ih (by omega)]
    unfold xw; rw [if_neg (by omega), if_neg (by omega)]; simp
theorem sum_xw (q p0 p1 n : Nat) (h : q + 2 ≤ n) : sumW (xw q p0 p1) n = p0 * 2 ^ (64 * q) + p1 * 2 ^ (64 * (q + 1)) := by
  obtain ⟨k, rfl⟩ : ∃ k, n = q + 2 + k := ⟨n - (q + 2), by omega⟩
  clear h
  induction k with
  | zero =>
    simp only [sumW]
    rw [sum_xw_lo q p0 p1 q (Nat.le_refl q)]
    have e1 : xw q p0 p1 q = p0 := if_pos rfl
    have e2 : xw q p0 p1 (q + 1) = p1 := by unfold xw; rw [if_neg (by omega), if_pos rfl]
    rw [e1, e2]; omega
  | succ k ih =>
    rw [show q + 2 + (k + 1) = (q + 2 + k) + 1 from rfl]
    simp only [sumW]
    rw [ih]
    have e : xw q p0 p1 (q + 2 + k) = 0 := by unfold xw; rw [if_neg (by omega), if_neg (by omega)]
    rw [e]; simp

theorem sumW_lt (ws : Nat → Nat) (h : ∀ i, ws i < 18446744073709551616) (n : Nat) : sumW ws n < 2 ^ (64 * n) := by
  induction n with
  | zero => simp [sumW]
  | succ n ih =>
    simp only [sumW]
    rw [pow64]
    have : (ws n + 1) * 2 ^ (64 * n) ≤ 18446744073709551616 * 2 ^ (64 * n) := Nat.mul_le_mul_right _ (h n)
    rw [Nat.add_mul] at this
    omega
theorem sumW_of_zero (ws : Nat → Nat) (n : Nat) (h : ∀ i, i < n → ws i = 0) : sumW ws n = 0 := by
  induction n with
  | zero => rfl
  | succ n ih => simp only [sumW]; rw [ih (fun i hi => h i (by omega)), h n (by omega)]; simp
theorem sumW_zero (ws : Nat → Nat) (n : Nat) (h : sumW ws n = 0) : ∀ i, i < n → ws i = 0 := by
  induction n with
  | zero => intro i hi; omega
  | succ n ih =>
    simp only [sumW] at h
    intro i hi
    have h2 : ws n * 2 ^ (64 * n) = 0 := by omega
    have hp := Nat.two_pow_pos (64 * n)
    by_cases e : i = n
    · subst e
      rcases Nat.mul_eq_zero.1 h2 with h | h <;> omega
    · exact ih (by omega) i (by omega)

/-- a number's two words, shifted -/
theorem shifted (m k : Nat) : m * 2 ^ k % 18446744073709551616 + (m * 2 ^ k / 18446744073709551616) * 18446744073709551616 = m * 2 ^ k := by omega
theorem shifted_high (m k : Nat) (hk : k < 64) (hm : m < 18446744073709551616) : m * 2 ^ k / 18446744073709551616 = m / 2 ^ (64 - k) ∧ m / 2 ^ (64 - k) < 18446744073709551616 := by
  have e : 18446744073709551616 = 2 ^ (64 - k) * 2 ^ k := by rw [← Nat.pow_add, show 64 - k + k = 64 by omega]
  constructor
  · rw [e, Nat.mul_div_mul_right _ _ (Nat.two_pow_pos k)]
  · exact Nat.lt_of_le_of_lt (Nat.div_le_self _ _) hm
end Ieee.Own
