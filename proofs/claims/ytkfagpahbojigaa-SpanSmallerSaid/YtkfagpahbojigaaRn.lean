/- Proved here: rounding of whole numbers to 53 binary digits, to nearest, ties to even: it is monotone, odd, exact on what has 53 digits, nearest, and scales by powers of two. No program is named. -/
import Derived.Test.YtkfagpahbojigaaExact
namespace Ieee.Own

/-- n / 2^d as a whole number, to nearest, ties to even -/
def rne (n d : Nat) : Nat :=
  if 2 ^ d < 2 * (n % 2 ^ d) ∨ (2 ^ d = 2 * (n % 2 ^ d) ∧ n / 2 ^ d % 2 = 1) then n / 2 ^ d + 1 else n / 2 ^ d

theorem rne_bounds (n d : Nat) : n / 2 ^ d ≤ rne n d ∧ rne n d ≤ n / 2 ^ d + 1 := by
  unfold rne; split <;> omega

/-- half a unit at most -/
theorem rne_up (n d : Nat) : 2 * (rne n d * 2 ^ d) ≤ 2 * n + 2 ^ d := by
  have hp := Nat.two_pow_pos d
  have e := Nat.div_add_mod n (2 ^ d)
  have hm := Nat.mod_lt n hp
  unfold rne
  rw [Nat.mul_comm] at e
  generalize n % 2 ^ d = r at *
  generalize n / 2 ^ d = q at *
  generalize 2 ^ d = g at *
  split
  · rw [Nat.add_mul]; omega
  · omega
theorem rne_down (n d : Nat) : 2 * n ≤ 2 * (rne n d * 2 ^ d) + 2 ^ d := by
  have hp := Nat.two_pow_pos d
  have e := Nat.div_add_mod n (2 ^ d)
  have hm := Nat.mod_lt n hp
  unfold rne
  rw [Nat.mul_comm] at e
  generalize n % 2 ^ d = r at *
  generalize n / 2 ^ d = q at *
  generalize 2 ^ d = g at *
  split
  · rw [Nat.add_mul]; omega
  · omega

theorem rne_exact (k d : Nat) : rne (k * 2 ^ d) d = k := by
  have hp := Nat.two_pow_pos d
  unfold rne
  rw [Nat.mul_mod_left, Nat.mul_div_cancel _ hp]
  split <;> omega

theorem rne_scale (n d j : Nat) : rne (n * 2 ^ j) (d + j) = rne n d := by
  have hp := Nat.two_pow_pos j
  unfold rne
  rw [Nat.pow_add, Nat.mul_mod_mul_right, Nat.mul_div_mul_right _ _ hp, ← Nat.mul_assoc]
  have a1 : 2 ^ d * 2 ^ j < 2 * (n % 2 ^ d) * 2 ^ j ↔ 2 ^ d < 2 * (n % 2 ^ d) :=
    ⟨fun h => Nat.lt_of_mul_lt_mul_right h, fun h => Nat.mul_lt_mul_of_pos_right h hp⟩
  have a2 : 2 ^ d * 2 ^ j = 2 * (n % 2 ^ d) * 2 ^ j ↔ 2 ^ d = 2 * (n % 2 ^ d) :=
    ⟨fun h => Nat.eq_of_mul_eq_mul_right hp h, fun h => congrArg (· * 2 ^ j) h⟩
  simp only [a1, a2]

theorem rne_mono {n m : Nat} (d : Nat) (h : n ≤ m) : rne n d ≤ rne m d := by
  have hp := Nat.two_pow_pos d
  have hq : n / 2 ^ d ≤ m / 2 ^ d := Nat.div_le_div_right h
  have e := Nat.div_add_mod n (2 ^ d)
  have e' := Nat.div_add_mod m (2 ^ d)
  have b1 := rne_bounds n d
  have b2 := rne_bounds m d
  by_cases h2 : n / 2 ^ d < m / 2 ^ d
  · omega
  · have h3 : n / 2 ^ d = m / 2 ^ d := by omega
    unfold rne
    rw [h3] at e ⊢
    generalize n % 2 ^ d = r at *
    generalize m % 2 ^ d = s at *
    generalize m / 2 ^ d = q at *
    generalize 2 ^ d = g at *
    split <;> split <;> omega

/-- a multiple of the unit is no nearer -/
theorem rne_near_lo (n d k : Nat) (h : k * 2 ^ d ≤ n) : k * 2 ^ d ≤ rne n d * 2 ^ d ∧ rne n d * 2 ^ d + k * 2 ^ d ≤ 2 * n := by
  have hp := Nat.two_pow_pos d
  have e := Nat.div_add_mod n (2 ^ d)
  have hm := Nat.mod_lt n hp
  have hk : k ≤ n / 2 ^ d := (Nat.le_div_iff_mul_le hp).2 h
  have b := rne_bounds n d
  have c1 : k * 2 ^ d ≤ n / 2 ^ d * 2 ^ d := Nat.mul_le_mul_right _ hk
  have c2 : n / 2 ^ d * 2 ^ d ≤ rne n d * 2 ^ d := Nat.mul_le_mul_right _ b.1
  refine ⟨by omega, ?_⟩
  unfold rne
  rw [Nat.mul_comm] at e
  generalize n % 2 ^ d = r at *
  generalize n / 2 ^ d = q at *
  generalize k * 2 ^ d = x at *
  generalize 2 ^ d = g at *
  split
  · rw [Nat.add_mul]; omega
  · omega
theorem rne_near_hi (n d k : Nat) (h : n ≤ k * 2 ^ d) : rne n d * 2 ^ d ≤ k * 2 ^ d ∧ 2 * n ≤ rne n d * 2 ^ d + k * 2 ^ d := by
  have hp := Nat.two_pow_pos d
  have e := Nat.div_add_mod n (2 ^ d)
  have hm := Nat.mod_lt n hp
  have h1 : rne n d ≤ k := by rw [← rne_exact k d]; exact rne_mono d h
  refine ⟨Nat.mul_le_mul_right _ h1, ?_⟩
  by_cases h2 : n / 2 ^ d < k
  · have c1 : (n / 2 ^ d + 1) * 2 ^ d ≤ k * 2 ^ d := Nat.mul_le_mul_right _ h2
    unfold rne
    rw [Nat.add_mul] at c1
    rw [Nat.mul_comm] at e
    generalize n % 2 ^ d = r at *
    generalize n / 2 ^ d = q at *
    generalize k * 2 ^ d = x at *
    generalize 2 ^ d = g at *
    split
    · rw [Nat.add_mul]; omega
    · omega
  · have h3 : k ≤ n / 2 ^ d := by omega
    have c1 : k * 2 ^ d ≤ n / 2 ^ d * 2 ^ d := Nat.mul_le_mul_right _ h3
    have : n = k * 2 ^ d := by rw [Nat.mul_comm] at e; omega
    rw [this, rne_exact]; omega

/-- the digits that are dropped of n, and n rounded -/
def dr (n : Nat) : Nat := n.log2 - 52
def rn (n : Nat) : Nat := rne n (dr n) * 2 ^ dr n

theorem dr_lt (n : Nat) : n < 2 ^ (53 + dr n) := by
  by_cases h : n = 0
  · subst h; exact Nat.two_pow_pos _
  · have := ((Nat.log2_eq_iff h).1 rfl).2
    exact Nat.lt_of_lt_of_le this (Nat.pow_le_pow_right (by omega) (by unfold dr; omega))
theorem dr_le (n : Nat) (h : 0 < dr n) : 2 ^ (52 + dr n) ≤ n := by
  have h0 : n ≠ 0 := by intro e; subst e; simp [dr] at h
  have := ((Nat.log2_eq_iff h0).1 rfl).1
  rw [show 52 + dr n = n.log2 by unfold dr at *; omega]
  exact this
theorem dr_of_lt {n d : Nat} (h : n < 2 ^ (53 + d)) : dr n ≤ d := by
  by_cases h0 : n = 0
  · subst h0; simp [dr]
  · have := (Nat.log2_lt h0).2 h
    unfold dr; omega

theorem rn_exact (k e : Nat) (h : k ≤ 2 ^ 53) : rn (k * 2 ^ e) = k * 2 ^ e := by
  have hd : ∃ c, k * 2 ^ e = c * 2 ^ dr (k * 2 ^ e) := by
    by_cases hk : k < 2 ^ 53
    · have : dr (k * 2 ^ e) ≤ e := by
        apply dr_of_lt
        rw [Nat.pow_add]; exact Nat.mul_lt_mul_of_pos_right hk (Nat.two_pow_pos e)
      refine ⟨k * 2 ^ (e - dr (k * 2 ^ e)), ?_⟩
      rw [Nat.mul_assoc, ← Nat.pow_add, show e - dr (k * 2 ^ e) + dr (k * 2 ^ e) = e by omega]
    · have hk : k = 2 ^ 53 := by omega
      have : dr (k * 2 ^ e) ≤ e + 1 := by
        apply dr_of_lt
        rw [hk, ← Nat.pow_add]; exact Nat.pow_lt_pow_right (by omega) (by omega)
      refine ⟨2 ^ (53 + e - dr (k * 2 ^ e)), ?_⟩
      conv => lhs; rw [hk, ← Nat.pow_add]
      rw [← Nat.pow_add]; congr 1; omega
  obtain ⟨c, hc⟩ := hd
  unfold rn
  generalize dr (k * 2 ^ e) = d at *
  rw [hc, rne_exact]

theorem rn_small (n : Nat) (h : n ≤ 2 ^ 53) : rn n = n := by
  have := rn_exact n 0 h; simpa using this

theorem rn_form (n : Nat) : ∃ k e, rn n = k * 2 ^ e ∧ k ≤ 2 ^ 53 := by
  refine ⟨rne n (dr n), dr n, rfl, ?_⟩
  have h := dr_lt n
  have hp := Nat.two_pow_pos (dr n)
  have : n / 2 ^ dr n < 2 ^ 53 := by
    rw [Nat.div_lt_iff_lt_mul hp, ← Nat.pow_add]; exact h
  have := rne_bounds n (dr n)
  omega

theorem rn_mono {n m : Nat} (h : n ≤ m) : rn n ≤ rn m := by
  by_cases hd : dr n = dr m
  · unfold rn; rw [hd]; exact Nat.mul_le_mul_right _ (rne_mono _ h)
  · have hle : dr n ≤ dr m := dr_of_lt (Nat.lt_of_le_of_lt h (dr_lt m))
    have hlt : dr n < dr m := by omega
    have h1 : rn n ≤ 2 ^ (53 + dr n) := by
      have hp := Nat.two_pow_pos (dr n)
      have : n / 2 ^ dr n < 2 ^ 53 := by
        rw [Nat.div_lt_iff_lt_mul hp, ← Nat.pow_add]; exact dr_lt n
      have b := rne_bounds n (dr n)
      unfold rn; rw [Nat.pow_add]
      exact Nat.mul_le_mul_right _ (by omega)
    have h2 : 2 ^ (52 + dr m) ≤ rn m := by
      have hp := Nat.two_pow_pos (dr m)
      have := dr_le m (by omega)
      have b := rne_bounds m (dr m)
      have : 2 ^ 52 ≤ m / 2 ^ dr m := by rw [Nat.le_div_iff_mul_le hp, ← Nat.pow_add]; exact this
      unfold rn; rw [Nat.pow_add]
      exact Nat.mul_le_mul_right _ (by omega)
    have h3 : 2 ^ (53 + dr n) ≤ 2 ^ (52 + dr m) := Nat.pow_le_pow_right (by omega) (by omega)
    omega

theorem rn_scale (n j : Nat) : rn (n * 2 ^ j) = rn n * 2 ^ j := by
  by_cases h : n ≤ 2 ^ 53
  · rw [rn_exact n j h, rn_small n h]
  · have h0 : n ≠ 0 := by omega
    have hl : 53 ≤ n.log2 := (Nat.le_log2 h0).2 (by omega)
    have hd : dr (n * 2 ^ j) = dr n + j := by unfold dr; rw [log2_shift n j h0]; omega
    unfold rn
    rw [hd, rne_scale, Nat.pow_add, Nat.mul_assoc]

theorem rn_err_up {n d : Nat} (h : n < 2 ^ (53 + d)) : 2 * rn n ≤ 2 * n + 2 ^ d := by
  have := rne_up n (dr n)
  have := Nat.pow_le_pow_right (n := 2) (by omega) (dr_of_lt h)
  unfold rn; omega
theorem rn_err_down {n d : Nat} (h : n < 2 ^ (53 + d)) : 2 * n ≤ 2 * rn n + 2 ^ d := by
  have := rne_down n (dr n)
  have := Nat.pow_le_pow_right (n := 2) (by omega) (dr_of_lt h)
  unfold rn; omega

theorem rn_near_lo (n k e : Nat) (hk : k ≤ 2 ^ 53) (h : k * 2 ^ e ≤ n) : k * 2 ^ e ≤ rn n ∧ rn n + k * 2 ^ e ≤ 2 * n := by
  refine ⟨by rw [← rn_exact k e hk]; exact rn_mono h, ?_⟩
  by_cases hd : dr n ≤ e
  · have e1 : k * 2 ^ e = (k * 2 ^ (e - dr n)) * 2 ^ dr n := by rw [Nat.mul_assoc, ← Nat.pow_add]; congr 2; omega
    rw [e1] at h ⊢
    exact (rne_near_lo n (dr n) _ h).2
  · have h1 := dr_le n (by omega)
    have h2 : k * 2 ^ e ≤ 2 ^ (52 + dr n) := by
      refine Nat.le_trans (Nat.mul_le_mul_right _ hk) ?_
      rw [← Nat.pow_add]; exact Nat.pow_le_pow_right (by omega) (by omega)
    rw [Nat.pow_add] at h1 h2
    have := (rne_near_lo n (dr n) _ h1).2
    unfold rn; omega
theorem rn_near_hi (n k e : Nat) (hk : k ≤ 2 ^ 53) (h : n ≤ k * 2 ^ e) : rn n ≤ k * 2 ^ e ∧ 2 * n ≤ rn n + k * 2 ^ e := by
  refine ⟨by rw [← rn_exact k e hk]; exact rn_mono h, ?_⟩
  by_cases hd : dr n ≤ e
  · have e1 : k * 2 ^ e = (k * 2 ^ (e - dr n)) * 2 ^ dr n := by rw [Nat.mul_assoc, ← Nat.pow_add]; congr 2; omega
    rw [e1] at h ⊢
    exact (rne_near_hi n (dr n) _ h).2
  · have h1 := dr_le n (by omega)
    have h2 : k * 2 ^ e ≤ 2 ^ (52 + dr n) := by
      refine Nat.le_trans (Nat.mul_le_mul_right _ hk) ?_
      rw [← Nat.pow_add]; exact Nat.pow_le_pow_right (by omega) (by omega)
    have h3 : n = 2 ^ 52 * 2 ^ dr n := by rw [← Nat.pow_add]; omega
    have : rn n = n := by
      conv => lhs; rw [h3]
      rw [rn_exact _ _ (by omega)]; exact h3.symm
    omega

theorem rn_dvd (n f : Nat) (h : 2 ^ f ∣ n) : 2 ^ f ∣ rn n := by
  by_cases hd : dr n ≤ f
  · obtain ⟨c, hc⟩ : 2 ^ dr n ∣ n := Nat.dvd_trans (Nat.pow_dvd_pow 2 hd) h
    have : rn n = n := by
      unfold rn
      generalize dr n = d at *
      rw [hc, Nat.mul_comm (2 ^ d) c]
      exact congrArg (· * 2 ^ d) (rne_exact c d)
    rw [this]; exact h
  · exact Nat.dvd_trans (Nat.pow_dvd_pow 2 (by omega)) (Nat.dvd_mul_left _ _)

/-! ### signed -/
/-- a whole number of at most 53 binary digits, times a power of two -/
def Rep (z : Int) : Prop := ∃ k e : Nat, k ≤ 2 ^ 53 ∧ z.natAbs = k * 2 ^ e
/-- rounded to 53 digits -/
def RN (z : Int) : Int := if z < 0 then -(rn z.natAbs : Int) else (rn z.natAbs : Int)

theorem RN_abs (z : Int) : (RN z).natAbs = rn z.natAbs := by unfold RN; split <;> omega
theorem rn_zero : rn 0 = 0 := rn_small 0 (by omega)
theorem RN_neg (z : Int) : RN (-z) = -RN z := by
  unfold RN
  rw [Int.natAbs_neg]
  by_cases h : z = 0
  · subst h; simp [rn_zero]
  · split <;> split <;> omega
theorem RN_pos (n : Nat) : RN (n : Int) = (rn n : Int) := by
  unfold RN; rw [if_neg (by omega)]; rfl
theorem RN_sign (z : Int) : (0 ≤ z → 0 ≤ RN z) ∧ (z ≤ 0 → RN z ≤ 0) := by
  constructor
  · intro h; unfold RN; rw [if_neg (by omega)]; omega
  · intro h
    by_cases h0 : z = 0
    · subst h0; simp [RN, rn_zero]
    · unfold RN; rw [if_pos (by omega)]; omega
theorem RN_rep (z : Int) : Rep (RN z) := by
  obtain ⟨k, e, h1, h2⟩ := rn_form z.natAbs
  exact ⟨k, e, h2, by rw [RN_abs]; exact h1⟩
theorem Rep_neg {z : Int} (h : Rep z) : Rep (-z) := by
  obtain ⟨k, e, h1, h2⟩ := h; exact ⟨k, e, h1, by rw [Int.natAbs_neg]; exact h2⟩
theorem Rep_zero : Rep 0 := ⟨0, 0, by omega, by simp⟩
theorem Rep_small {z : Int} (h : z.natAbs ≤ 2 ^ 53) : Rep z := ⟨z.natAbs, 0, h, by simp⟩
theorem RN_exact {z : Int} (h : Rep z) : RN z = z := by
  obtain ⟨k, e, h1, h2⟩ := h
  unfold RN
  rw [h2, rn_exact k e h1]
  split <;> omega
theorem RN_mono {x y : Int} (h : x ≤ y) : RN x ≤ RN y := by
  unfold RN
  split <;> split
  · have := rn_mono (show y.natAbs ≤ x.natAbs by omega); omega
  · omega
  · omega
  · have := rn_mono (show x.natAbs ≤ y.natAbs by omega); omega
theorem Rep_mul (z : Int) (j : Nat) (h : Rep z) : Rep (z * 2 ^ j) := by
  obtain ⟨k, e, h1, h2⟩ := h
  exact ⟨k, e + j, h1, by rw [Int.natAbs_mul, h2, Int.natAbs_pow, Nat.pow_add, Nat.mul_assoc]; rfl⟩
theorem RN_scale (z : Int) (j : Nat) : RN (z * 2 ^ j) = RN z * 2 ^ j := by
  have hp : (0 : Int) < 2 ^ j := Int.pow_pos (by omega)
  have ha : (z * 2 ^ j).natAbs = z.natAbs * 2 ^ j := by rw [Int.natAbs_mul, Int.natAbs_pow]; rfl
  unfold RN
  rw [ha, rn_scale]
  by_cases h : z < 0
  · have : z * 2 ^ j < 0 := Int.mul_neg_of_neg_of_pos h hp
    rw [if_pos this, if_pos h, Int.neg_mul]; simp
  · have : ¬ z * 2 ^ j < 0 := by have := Int.mul_nonneg (show 0 ≤ z by omega) (show (0 : Int) ≤ 2 ^ j by omega); omega
    rw [if_neg this, if_neg h]; simp
theorem RN_dvd {z : Int} {f : Nat} (h : (2 : Int) ^ f ∣ z) : (2 : Int) ^ f ∣ RN z := by
  have h1 : 2 ^ f ∣ z.natAbs := by
    have := Int.natAbs_dvd_natAbs.2 h
    rwa [Int.natAbs_pow] at this
  have h2 := rn_dvd _ f h1
  rw [← RN_abs] at h2
  apply Int.natAbs_dvd_natAbs.1
  rw [Int.natAbs_pow]; exact h2
/-- a multiple of 2^f of magnitude at most 2^(53+f) has 53 digits -/
theorem Rep_of_dvd {z : Int} {f : Nat} (h : (2 : Int) ^ f ∣ z) (hb : z.natAbs ≤ 2 ^ (53 + f)) : Rep z := by
  have h1 : 2 ^ f ∣ z.natAbs := by
    have := Int.natAbs_dvd_natAbs.2 h
    rwa [Int.natAbs_pow] at this
  obtain ⟨k, hk⟩ := h1
  refine ⟨k, f, ?_, by rw [hk, Nat.mul_comm]⟩
  rw [hk, Nat.pow_add, Nat.mul_comm (2 ^ 53)] at hb
  exact Nat.le_of_mul_le_mul_left hb (Nat.two_pow_pos f)
/-- every number has a least place -/
theorem Rep_place {z : Int} (h : Rep z) : ∃ f, (2 : Int) ^ f ∣ z ∧ z.natAbs ≤ 2 ^ (53 + f) := by
  obtain ⟨k, e, h1, h2⟩ := h
  refine ⟨e, ?_, ?_⟩
  · apply Int.natAbs_dvd_natAbs.1
    rw [Int.natAbs_pow, h2]; exact Nat.dvd_mul_left _ _
  · rw [h2, Nat.pow_add]; exact Nat.mul_le_mul_right _ h1
theorem RN_err {z : Int} {d : Nat} (h : z.natAbs < 2 ^ (53 + d)) : 2 * (RN z - z).natAbs ≤ 2 ^ d := by
  have h1 := rn_err_up h
  have h2 := rn_err_down h
  unfold RN; split <;> omega
/-- no number of 53 digits is nearer -/
theorem RN_near (z y : Int) (h : Rep y) : (RN z - z).natAbs ≤ (y - z).natAbs := by
  obtain ⟨k, e, h1, h2⟩ := h
  have h0 := rn_near_lo z.natAbs 0 0 (by omega) (by omega)
  have lo := rn_near_lo z.natAbs k e h1
  have hi := rn_near_hi z.natAbs k e h1
  rw [← h2] at lo hi
  unfold RN
  generalize rn z.natAbs = r at *
  by_cases hc : y.natAbs ≤ z.natAbs
  · have lo := lo hc
    split <;> omega
  · have hi := hi (by omega)
    split <;> omega
end Ieee.Own
