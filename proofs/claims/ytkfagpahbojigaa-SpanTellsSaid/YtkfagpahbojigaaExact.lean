/- Proved here: a number that a binary format has is written as just its word; every number of binary32 is one of binary64, and back; the order stays. Each under the conditions of its theorem. -/
import Derived.Test.YtkfagpahbojigaaIeee
namespace Ieee.Own

theorem log2_shift (x k : Nat) (h : x ≠ 0) : (x * 2 ^ k).log2 = x.log2 + k := by
  have h2 : x * 2 ^ k ≠ 0 := by have := Nat.two_pow_pos k; exact Nat.mul_ne_zero h (by omega)
  rw [Nat.log2_eq_iff h2]
  have := (Nat.log2_eq_iff h).1 rfl
  constructor
  · rw [Nat.pow_add]; exact Nat.mul_le_mul_right _ this.1
  · rw [show x.log2 + k + 1 = (x.log2 + 1) + k by omega, Nat.pow_add]; exact Nat.mul_lt_mul_of_pos_right this.2 (Nat.two_pow_pos k)

theorem cut_exact (s : Bool) (n d : Nat) (h : n ≠ 0) : Toward.even.cut s (n * 2 ^ d) d = n := by
  unfold Toward.cut
  have hl : min d ((n * 2 ^ d).log2 + 2) = d := by rw [log2_shift n d h]; omega
  simp only [hl, Nat.one_shiftLeft]
  have hp := Nat.two_pow_pos d
  rw [Nat.mul_div_cancel _ hp, Nat.mul_mod_left]
  have e : (2 ^ d == 2 * 0) = false := by simp
  simp

theorem mg_lt (F r : Nat) : mg F r < 2 ^ (F + 1) := by
  have hB := Nat.two_pow_pos F
  unfold mg; rw [Nat.pow_succ]
  have := Nat.mod_lt r hB
  split <;> omega

/-- a number that the format has is written as its word -/
theorem nearest_exact (f : Format) (s : Bool) (m : Nat) (place : Int) (r a c : Nat) (hr : r < f.infRung)
    (hm : m * 2 ^ a = val f.fractionBits r * 2 ^ c) (hp : place = f.leastPlace + a - c) : f.nearest s m place = f.word s r := by
  have hB := Nat.two_pow_pos f.fractionBits
  unfold Format.nearest
  by_cases h0 : m = 0
  · subst h0
    have : val f.fractionBits r = 0 := by
      have hc := Nat.two_pow_pos c
      rcases Nat.mul_eq_zero.1 (by omega : val f.fractionBits r * 2 ^ c = 0) with h | h <;> omega
    rw [val_zero_iff] at this
    simp [this]
  rw [if_neg h0]
  have hr0 : r ≠ 0 := by
    intro h; subst h; rw [val_zero] at hm
    have := Nat.two_pow_pos a
    rcases Nat.mul_eq_zero.1 (by omega : m * 2 ^ a = 0) with h | h <;> omega
  have hg0 : mg f.fractionBits r ≠ 0 := by unfold mg; split <;> omega
  unfold val at hm
  rw [Nat.mul_assoc, ← Nat.pow_add] at hm
  have hlog : m.log2 + a = (mg f.fractionBits r).log2 + (ex f.fractionBits r + c) := by
    rw [← log2_shift m a h0, hm, log2_shift _ _ hg0]
  have hlast : max (place + m.log2 - f.fractionBits) f.leastPlace = f.leastPlace + ex f.fractionBits r := by
    by_cases hs : r < 2 ^ f.fractionBits
    · have e1 : ex f.fractionBits r = 0 := if_pos hs
      have e2 : mg f.fractionBits r = r := if_pos hs
      rw [e1, e2] at hlog
      have : r.log2 < f.fractionBits := (Nat.log2_lt hr0).2 hs
      rw [e1]; omega
    · have e2 : mg f.fractionBits r = 2 ^ f.fractionBits + r % 2 ^ f.fractionBits := if_neg hs
      have : (mg f.fractionBits r).log2 = f.fractionBits := by
        rw [Nat.log2_eq_iff hg0, e2, Nat.pow_succ]
        have := Nat.mod_lt r hB
        constructor <;> omega
      rw [this] at hlog
      omega
  rw [hlast]
  have hk : Toward.even.cut s (m <<< (place - (f.leastPlace + ex f.fractionBits r)).toNat) (f.leastPlace + ex f.fractionBits r - place).toNat = mg f.fractionBits r := by
    rw [Nat.shiftLeft_eq]
    by_cases hac : ex f.fractionBits r + c ≤ a
    · have e1 : (place - (f.leastPlace + ex f.fractionBits r)).toNat = a - (ex f.fractionBits r + c) := by omega
      have e2 : (f.leastPlace + ex f.fractionBits r - place).toNat = 0 := by omega
      have e3 : m * 2 ^ (a - (ex f.fractionBits r + c)) = mg f.fractionBits r := by
        have hq : 2 ^ a = 2 ^ (a - (ex f.fractionBits r + c)) * 2 ^ (ex f.fractionBits r + c) := by rw [← Nat.pow_add]; congr 1; omega
        rw [hq, ← Nat.mul_assoc] at hm
        exact Nat.eq_of_mul_eq_mul_right (Nat.two_pow_pos _) hm
      rw [e1, e2, e3]
      have := cut_exact s (mg f.fractionBits r) 0 hg0
      simpa using this
    · have e1 : (place - (f.leastPlace + ex f.fractionBits r)).toNat = 0 := by omega
      have e2 : (f.leastPlace + ex f.fractionBits r - place).toNat = ex f.fractionBits r + c - a := by omega
      have e3 : m = mg f.fractionBits r * 2 ^ (ex f.fractionBits r + c - a) := by
        have hq : 2 ^ (ex f.fractionBits r + c) = 2 ^ (ex f.fractionBits r + c - a) * 2 ^ a := by rw [← Nat.pow_add]; congr 1; omega
        rw [hq, ← Nat.mul_assoc] at hm
        exact Nat.eq_of_mul_eq_mul_right (Nat.two_pow_pos _) hm
      rw [e1, e2]
      simp only [Nat.pow_zero, Nat.mul_one]
      conv => lhs; rw [e3]
      exact cut_exact s _ _ hg0
  dsimp only
  rw [hk]
  have hres : (f.leastPlace + ex f.fractionBits r - f.leastPlace).toNat * f.binade + mg f.fractionBits r = r := by
    rw [show (f.leastPlace + ex f.fractionBits r - f.leastPlace).toNat = ex f.fractionBits r by omega]
    unfold Format.binade mg ex
    by_cases hs : r < 2 ^ f.fractionBits
    · simp [hs]
    · simp only [hs, if_false]
      have e := Nat.div_add_mod r (2 ^ f.fractionBits)
      have hq : 1 ≤ r / 2 ^ f.fractionBits := (Nat.le_div_iff_mul_le hB).2 (by omega)
      obtain ⟨q, hq'⟩ : ∃ q, r / 2 ^ f.fractionBits = q + 1 := ⟨r / 2 ^ f.fractionBits - 1, by omega⟩
      rw [hq'] at e ⊢
      rw [Nat.mul_add] at e
      rw [show q + 1 - 1 = q by omega, Nat.mul_comm q]
      omega
  rw [hres, Nat.min_eq_left (by omega)]

/-- a whole number of few enough digits is a rung's value -/
theorem rep (F n k j : Nat) (h : n = k * 2 ^ j) (hk : k < 2 ^ (F + 1)) : ∃ r, val F r = n := by
  have hB := Nat.two_pow_pos F
  by_cases hs : n < 2 ^ F
  · exact ⟨n, by unfold val mg ex; simp [hs]⟩
  have hn0 : n ≠ 0 := by omega
  have hk0 : k ≠ 0 := by intro e; subst e; simp at h; omega
  have hlog : n.log2 = k.log2 + j := by rw [h, log2_shift k j hk0]
  have hkl : k.log2 < F + 1 := (Nat.log2_lt hk0).2 hk
  have hnl : F ≤ n.log2 := (Nat.le_log2 hn0).2 (by omega)
  obtain ⟨t, ht⟩ : ∃ t, n.log2 = F + t := ⟨n.log2 - F, by omega⟩
  have htj : t ≤ j := by omega
  -- n = q * 2 ^ t
  have hq : n = (k * 2 ^ (j - t)) * 2 ^ t := by
    rw [Nat.mul_assoc, ← Nat.pow_add, show j - t + t = j by omega]; exact h
  generalize hqq : k * 2 ^ (j - t) = q at hq
  have hb := (Nat.log2_eq_iff hn0).1 ht
  rw [hq, show F + t + 1 = (F + 1) + t by omega, Nat.pow_add, Nat.pow_add] at hb
  have hp := Nat.two_pow_pos t
  have h1 : 2 ^ F ≤ q := Nat.le_of_mul_le_mul_right hb.1 hp
  have h2 : q < 2 ^ (F + 1) := Nat.lt_of_mul_lt_mul_right hb.2
  rw [Nat.pow_succ] at h2
  refine ⟨t * 2 ^ F + q, ?_⟩
  have d1 : (t * 2 ^ F + q) / 2 ^ F = t + 1 := by
    rw [Nat.mul_comm, Nat.mul_add_div hB]
    congr 1
    rw [Nat.div_eq_of_lt_le] <;> omega
  have d2 : (t * 2 ^ F + q) % 2 ^ F = q - 2 ^ F := by
    rw [Nat.mul_comm, Nat.mul_add_mod]
    rw [Nat.mod_eq_sub_mod h1, Nat.mod_eq_of_lt (by omega)]
  unfold val mg ex
  rw [d1, d2]
  have hge : ¬ t * 2 ^ F + q < 2 ^ F := by omega
  simp only [hge, if_false]
  rw [show 2 ^ F + (q - 2 ^ F) = q by omega, show t + 1 - 1 = t by omega]
  exact hq.symm

end Ieee.Own
