/- Proved here: what the texts Ieee, Exact, Rn, Eft, Ops, Quo, Wrd prove, one behind the other. -/
import Ieee.Arith

namespace Ieee.Own

/-- the magnitude's whole number and its place above the least one, of a rung -/
def mg (F r : Nat) : Nat := if r < 2 ^ F then r else 2 ^ F + r % 2 ^ F
def ex (F r : Nat) : Nat := if r < 2 ^ F then 0 else r / 2 ^ F - 1
/-- the rung's value in units of the least place -/
def val (F r : Nat) : Nat := mg F r * 2 ^ ex F r

theorem val_step (F r : Nat) : val F r < val F (r + 1) := by
  have hB : 0 < 2 ^ F := Nat.two_pow_pos F
  unfold val mg ex
  generalize 2 ^ F = B at *
  by_cases h : r + 1 < B
  · simp [h, Nat.lt_of_succ_lt h]
  · by_cases h1 : r < B
    · obtain rfl : r + 1 = B := by omega
      simp
    · simp only [h, h1, if_false]
      have hq : 1 ≤ r / B := (Nat.le_div_iff_mul_le hB).2 (by omega)
      have e := Nat.div_add_mod r B
      have hm := Nat.mod_lt r hB
      by_cases h2 : r % B + 1 < B
      · have e1 : (r + 1) / B = r / B := by
          rw [Nat.div_eq_of_lt_le] <;> (try rw [Nat.add_mul]) <;> (try rw [Nat.mul_comm (r / B) B]) <;> omega
        have e2 : (r + 1) % B = r % B + 1 := by
          have := Nat.div_add_mod (r + 1) B; rw [e1] at this; omega
        rw [e1, e2]
        exact Nat.mul_lt_mul_of_pos_right (by omega) (Nat.two_pow_pos _)
      · have e1 : (r + 1) / B = r / B + 1 := by
          rw [Nat.div_eq_of_lt_le] <;> (try simp only [Nat.add_mul]) <;> (try rw [Nat.mul_comm (r / B) B]) <;> omega
        have e2 : (r + 1) % B = 0 := by
          have := Nat.div_add_mod (r + 1) B; rw [e1, Nat.mul_add] at this; omega
        rw [e1, e2]
        obtain ⟨q, hq'⟩ : ∃ q, r / B = q + 1 := ⟨r / B - 1, by omega⟩
        rw [hq']
        simp only [Nat.add_sub_cancel, Nat.add_zero, Nat.pow_succ]
        have : B * (2 ^ q * 2) = (2 * B) * 2 ^ q := by
          rw [Nat.mul_comm (2 ^ q) 2, ← Nat.mul_assoc, Nat.mul_comm B 2]
        rw [this]
        exact Nat.mul_lt_mul_of_pos_right (by omega) (Nat.two_pow_pos _)

theorem val_lt {F r s : Nat} (h : r < s) : val F r < val F s := by
  induction s with
  | zero => omega
  | succ s ih =>
    by_cases e : r = s
    · subst e; exact val_step F r
    · exact Nat.lt_trans (ih (by omega)) (val_step F s)

theorem val_lt_iff (F r s : Nat) : val F r < val F s ↔ r < s := by
  constructor
  · intro h
    by_cases e : r = s
    · subst e; omega
    · by_cases h2 : s < r
      · have := val_lt (F := F) h2; omega
      · omega
  · exact val_lt

theorem val_eq_iff (F r s : Nat) : val F r = val F s ↔ r = s := by
  have a := val_lt_iff F r s; have b := val_lt_iff F s r
  constructor
  · intro h; omega
  · intro h; rw [h]

theorem val_zero (F : Nat) : val F 0 = 0 := by simp [val, mg, Nat.two_pow_pos F]

theorem val_zero_iff (F r : Nat) : val F r = 0 ↔ r = 0 := by
  have := val_eq_iff F r 0; rw [val_zero] at this; exact this

/-- a word's place in the order of values: both noughts at 0 -/
def key (f : Format) (w : Nat) : Int := if (w / f.signWeight % 2 == 1) = true then -((w % f.signWeight : Nat) : Int) else ((w % f.signWeight : Nat) : Int)

theorem read_num (f : Format) (w : Nat) (h : w % f.signWeight < f.infRung) :
    f.read w = .number (w / f.signWeight % 2 == 1) (mg f.fractionBits (w % f.signWeight)) (f.leastPlace + (ex f.fractionBits (w % f.signWeight) : Nat)) := by
  unfold Format.read mg ex
  simp only [Format.binade]
  by_cases h1 : w % f.signWeight < 2 ^ f.fractionBits
  · simp [h1]
  · simp only [h1, if_false, h, if_true]

theorem binade_le_inf (f : Format) (he : 2 ≤ f.exponentBits) : f.binade ≤ f.infRung := by
  unfold Format.infRung
  have : 2 ^ 2 ≤ 2 ^ f.exponentBits := Nat.pow_le_pow_right (by omega) he
  exact Nat.le_mul_of_pos_left _ (by omega)

theorem read_inf (f : Format) (he : 2 ≤ f.exponentBits) (w : Nat) (h : w % f.signWeight = f.infRung) :
    f.read w = .infinity (w / f.signWeight % 2 == 1) := by
  have := binade_le_inf f he
  unfold Format.read
  dsimp only
  rw [if_neg (by omega), if_neg (by omega), if_pos h]

theorem read_nan (f : Format) (he : 2 ≤ f.exponentBits) (w : Nat) (h : f.infRung < w % f.signWeight) :
    f.read w = .nan (w / f.signWeight % 2 == 1) (w % f.signWeight - f.infRung) := by
  have := binade_le_inf f he
  unfold Format.read
  dsimp only
  rw [if_neg (by omega), if_neg (by omega), if_neg (by omega)]

theorem compare_congr {a b c d : Int} (h1 : a < b ↔ c < d) (h2 : a = b ↔ c = d) : compare a b = compare c d := by
  show compareOfLessAndEq a b = compareOfLessAndEq c d
  unfold compareOfLessAndEq
  simp only [h1, h2]

theorem signed_eq (s : Bool) (m k : Nat) : signed s m k = if s then -((m * 2 ^ k : Nat) : Int) else ((m * 2 ^ k : Nat) : Int) := by
  unfold signed; simp only [Nat.shiftLeft_eq]

theorem compare_signed (s t : Bool) (m n p q : Nat) (L : Int) :
    compare (signed s m (L + p - min (L + p) (L + q)).toNat) (signed t n (L + q - min (L + p) (L + q)).toNat) =
    compare (signed s (m * 2 ^ p) 0) (signed t (n * 2 ^ q) 0) := by
  have e1 : (L + p - min (L + p) (L + q)).toNat = p - min p q := by omega
  have e2 : (L + q - min (L + p) (L + q)).toNat = q - min p q := by omega
  rw [e1, e2]
  simp only [signed_eq, Nat.pow_zero, Nat.mul_one]
  generalize hc : min p q = c
  have hp : 2 ^ p = 2 ^ (p - c) * 2 ^ c := by rw [← Nat.pow_add]; congr 1; omega
  have hq : 2 ^ q = 2 ^ (q - c) * 2 ^ c := by rw [← Nat.pow_add]; congr 1; omega
  rw [hp, hq, ← Nat.mul_assoc, ← Nat.mul_assoc]
  generalize m * 2 ^ (p - c) = x
  generalize n * 2 ^ (q - c) = y
  have hpos : (0 : Int) < ((2 ^ c : Nat) : Int) := by have := Nat.two_pow_pos c; omega
  generalize (2 ^ c : Nat) = z at *
  have a1 : x < y ↔ x * z < y * z := by
    constructor
    · intro h; exact Nat.mul_lt_mul_of_pos_right h (by omega)
    · intro h; exact Nat.lt_of_mul_lt_mul_right h
  have a2 : y < x ↔ y * z < x * z := by
    constructor
    · intro h; exact Nat.mul_lt_mul_of_pos_right h (by omega)
    · intro h; exact Nat.lt_of_mul_lt_mul_right h
  have a3 : x = 0 ↔ x * z = 0 := by
    constructor
    · intro h; simp [h]
    · intro h; rcases Nat.mul_eq_zero.1 h with h | h <;> omega
  have a4 : y = 0 ↔ y * z = 0 := by
    constructor
    · intro h; simp [h]
    · intro h; rcases Nat.mul_eq_zero.1 h with h | h <;> omega
  apply compare_congr <;> cases s <;> cases t <;> simp only [if_true, if_false, Bool.false_eq_true] <;> omega

/-- THE ORDER OF TWO WORDS that are no NaNs is the order of their keys. -/
theorem order_key (f : Format) (he : 2 ≤ f.exponentBits) (v w : Nat) (hv : v % f.signWeight ≤ f.infRung) (hw : w % f.signWeight ≤ f.infRung) :
    f.order v w = some (compare (key f v) (key f w)) := by
  have hi : 0 < f.infRung := Nat.lt_of_lt_of_le (Nat.two_pow_pos _) (binade_le_inf f he)
  unfold Format.order key
  generalize hr : v % f.signWeight = r at *
  generalize hs : w % f.signWeight = s at *
  generalize hb : (v / f.signWeight % 2 == 1) = b
  generalize hc : (w / f.signWeight % 2 == 1) = c
  by_cases h1 : r = f.infRung <;> by_cases h2 : s = f.infRung
  · rw [read_inf f he v (by omega), read_inf f he w (by omega), hb, hc]
    simp only [Datum.order]
    congr 1
    rw [h1, h2]
    have : ((f.infRung : Nat) : Int) > 0 := by omega
    generalize ((f.infRung : Nat) : Int) = z at *
    show compareOfLessAndEq _ _ = compareOfLessAndEq _ _
    unfold compareOfLessAndEq
    cases b <;> cases c <;> simp only [if_true, if_false, Bool.false_eq_true, Bool.toNat_true, Bool.toNat_false] <;> (first | (rw [if_neg (by omega), if_pos rfl, if_neg (by omega), if_pos rfl]; done) | (rw [if_pos (by omega), if_pos (by omega)]; done) | (rw [if_neg (by omega), if_neg (by omega)]; done) | (rw [if_neg (by omega), if_neg (by omega), if_neg (by omega), if_neg (by omega)]; done))
  · rw [read_inf f he v (by omega), read_num f w (by omega), hb, hc]
    simp only [Datum.order]
    congr 1
    show _ = compareOfLessAndEq _ _
    unfold compareOfLessAndEq
    cases b <;> cases c <;> simp only [if_true, if_false, Bool.false_eq_true] <;> (first | rw [if_pos (by omega)] | (rw [if_neg (by omega), if_neg (by omega)]))
  · rw [read_num f v (by omega), read_inf f he w (by omega), hb, hc]
    simp only [Datum.order]
    congr 1
    show _ = compareOfLessAndEq _ _
    unfold compareOfLessAndEq
    cases b <;> cases c <;> simp only [if_true, if_false, Bool.false_eq_true] <;> (first | rw [if_pos (by omega)] | (rw [if_neg (by omega), if_neg (by omega)]))
  · rw [read_num f v (by omega), read_num f w (by omega), hb, hc, hr, hs]
    simp only [Datum.order]
    congr 1
    rw [compare_signed]
    simp only [signed_eq, Nat.pow_zero, Nat.mul_one]
    have a1 := val_lt_iff f.fractionBits r s
    have a2 := val_eq_iff f.fractionBits r s
    have a3 := val_zero_iff f.fractionBits r
    have a4 := val_zero_iff f.fractionBits s
    unfold val at a1 a2 a3 a4
    generalize mg f.fractionBits r * 2 ^ ex f.fractionBits r = x at *
    generalize mg f.fractionBits s * 2 ^ ex f.fractionBits s = y at *
    apply compare_congr <;> cases b <;> cases c <;> simp only [if_true, if_false, Bool.false_eq_true] <;> omega

theorem order_nan (f : Format) (he : 2 ≤ f.exponentBits) (v w : Nat) (h : f.infRung < v % f.signWeight ∨ f.infRung < w % f.signWeight) :
    f.order v w = none := by
  unfold Format.order
  rcases h with h | h
  · rw [read_nan f he v h]; simp only [Datum.order]
  · rw [read_nan f he w h]; cases f.read v <;> simp only [Datum.order]

/-! ### binary64 and binary32 -/

theorem sw64 : double.signWeight = 9223372036854775808 := by decide +kernel
theorem inf64 : double.infRung = 9218868437227405312 := by decide +kernel
def key64 (b : Nat) : Int := if b < 9223372036854775808 then (b : Int) else 9223372036854775808 - (b : Int)

theorem key_double (b : Nat) (hb : b < 18446744073709551616) : key double b = key64 b := by
  unfold key key64
  rw [sw64]
  by_cases h : b < 9223372036854775808
  · have e1 : b / 9223372036854775808 = 0 := by omega
    have e2 : b % 9223372036854775808 = b := by omega
    rw [e1, e2]; simp [h]
  · have e1 : b / 9223372036854775808 = 1 := by omega
    have e2 : b % 9223372036854775808 = b - 9223372036854775808 := by omega
    rw [e1, e2]; simp [h]; omega

theorem order64 (a b : Nat) (ha : a < 18446744073709551616) (hb : b < 18446744073709551616)
    (na : a % 9223372036854775808 ≤ 9218868437227405312) (nb : b % 9223372036854775808 ≤ 9218868437227405312) :
    double.order a b = some (compare (key64 a) (key64 b)) := by
  rw [order_key double (by decide) a b (by rw [sw64, inf64]; exact na) (by rw [sw64, inf64]; exact nb), key_double a ha, key_double b hb]

theorem order64_nan (a b : Nat) (h : 9218868437227405312 < a % 9223372036854775808 ∨ 9218868437227405312 < b % 9223372036854775808) :
    double.order a b = none :=
  order_nan double (by decide) a b (by rw [sw64, inf64]; exact h)

theorem cmp_lt (a b : Int) : (some (compare a b) == some Ordering.lt) = decide (a < b) := by
  rw [Bool.eq_iff_iff]; simp [Int.compare_eq_lt]
theorem cmp_gt (a b : Int) : (some (compare a b) == some Ordering.gt) = decide (b < a) := by
  rw [Bool.eq_iff_iff]; simp [Int.compare_eq_gt]
theorem cmp_eq (a b : Int) : (some (compare a b) == some Ordering.eq) = decide (a = b) := by
  rw [Bool.eq_iff_iff]; simp

/-- the negated word of binary64 -/
theorem xor_top64 (b : Nat) (hb : b < 18446744073709551616) :
    b ^^^ 9223372036854775808 = if b < 9223372036854775808 then b + 9223372036854775808 else b - 9223372036854775808 := by
  have e1 : (b ^^^ 9223372036854775808) % 2 ^ 63 = b % 2 ^ 63 := by
    rw [Nat.xor_mod_two_pow]; simp
  have e2 : (b ^^^ 9223372036854775808) / 2 ^ 63 = (b / 2 ^ 63) ^^^ 1 := by
    rw [Nat.xor_div_two_pow]
  have e3 := Nat.div_add_mod (b ^^^ 9223372036854775808) (2 ^ 63)
  rw [e1, e2] at e3
  by_cases h : b < 9223372036854775808
  · have : b / 2 ^ 63 = 0 := by omega
    rw [this] at e3; simp at e3; simp [h]; omega
  · have : b / 2 ^ 63 = 1 := by omega
    rw [this] at e3; simp at e3; simp [h]; omega

end Ieee.Own

namespace Ieee.Own

theorem log2_shift (x k : Nat) (h : x ≠ 0) : (x * 2 ^ k).log2 = x.log2 + k := by
  have h2 : x * 2 ^ k ≠ 0 := by have := Nat.two_pow_pos k; exact Nat.mul_ne_zero h (by omega)
  rw [Nat.log2_eq_iff h2]
  have := (Nat.log2_eq_iff h).1 rfl
  constructor
  · rw [Nat.pow_add]; exact Nat.mul_le_mul_right _ this.1
  · rw [show x.log2 + k + 1 = (x.log2 + 1) + k by omega, Nat.pow_add]; exact Nat.mul_lt_mul_of_pos_right this.2 (Nat.two_pow_pos k)

theorem mg_lt (F r : Nat) : mg F r < 2 ^ (F + 1) := by
  have hB := Nat.two_pow_pos F
  unfold mg; rw [Nat.pow_succ]
  have := Nat.mod_lt r hB
  split <;> omega

end Ieee.Own

namespace Ieee.Own

/-- n / 2^d as a whole number, to nearest, ties to even -/
def rne (n d : Nat) : Nat :=
  if 2 ^ d < 2 * (n % 2 ^ d) ∨ (2 ^ d = 2 * (n % 2 ^ d) ∧ n / 2 ^ d % 2 = 1) then n / 2 ^ d + 1 else n / 2 ^ d

theorem rne_bounds (n d : Nat) : n / 2 ^ d ≤ rne n d ∧ rne n d ≤ n / 2 ^ d + 1 := by
  unfold rne; split <;> omega

/-- half a unit at most -/
theorem rne_up (n d : Nat) : 2 * (rne n d * 2 ^ d) ≤ 2 * n + 2 ^ d := by
  have hp := Nat.two_pow_pos d
  have e := Nat.div_add_mod n (2 ^ d)
  have hm := Nat.mod_lt n hp
  unfold rne
  rw [Nat.mul_comm] at e
  generalize n % 2 ^ d = r at *
  generalize n / 2 ^ d = q at *
  generalize 2 ^ d = g at *
  split
  · rw [Nat.add_mul]; omega
  · omega
theorem rne_down (n d : Nat) : 2 * n ≤ 2 * (rne n d * 2 ^ d) + 2 ^ d := by
  have hp := Nat.two_pow_pos d
  have e := Nat.div_add_mod n (2 ^ d)
  have hm := Nat.mod_lt n hp
  unfold rne
  rw [Nat.mul_comm] at e
  generalize n % 2 ^ d = r at *
  generalize n / 2 ^ d = q at *
  generalize 2 ^ d = g at *
  split
  · rw [Nat.add_mul]; omega
  · omega

theorem rne_exact (k d : Nat) : rne (k * 2 ^ d) d = k := by
  have hp := Nat.two_pow_pos d
  unfold rne
  rw [Nat.mul_mod_left, Nat.mul_div_cancel _ hp]
  split <;> omega

theorem rne_scale (n d j : Nat) : rne (n * 2 ^ j) (d + j) = rne n d := by
  have hp := Nat.two_pow_pos j
  unfold rne
  rw [Nat.pow_add, Nat.mul_mod_mul_right, Nat.mul_div_mul_right _ _ hp, ← Nat.mul_assoc]
  have a1 : 2 ^ d * 2 ^ j < 2 * (n % 2 ^ d) * 2 ^ j ↔ 2 ^ d < 2 * (n % 2 ^ d) :=
    ⟨fun h => Nat.lt_of_mul_lt_mul_right h, fun h => Nat.mul_lt_mul_of_pos_right h hp⟩
  have a2 : 2 ^ d * 2 ^ j = 2 * (n % 2 ^ d) * 2 ^ j ↔ 2 ^ d = 2 * (n % 2 ^ d) :=
    ⟨fun h => Nat.eq_of_mul_eq_mul_right hp h, fun h => congrArg (· * 2 ^ j) h⟩
  simp only [a1, a2]

theorem rne_mono {n m : Nat} (d : Nat) (h : n ≤ m) : rne n d ≤ rne m d := by
  have hp := Nat.two_pow_pos d
  have hq : n / 2 ^ d ≤ m / 2 ^ d := Nat.div_le_div_right h
  have e := Nat.div_add_mod n (2 ^ d)
  have e' := Nat.div_add_mod m (2 ^ d)
  have b1 := rne_bounds n d
  have b2 := rne_bounds m d
  by_cases h2 : n / 2 ^ d < m / 2 ^ d
  · omega
  · have h3 : n / 2 ^ d = m / 2 ^ d := by omega
    unfold rne
    rw [h3] at e ⊢
    generalize n % 2 ^ d = r at *
    generalize m % 2 ^ d = s at *
    generalize m / 2 ^ d = q at *
    generalize 2 ^ d = g at *
    split <;> split <;> omega

/-- the digits that are dropped of n, and n rounded -/
def dr (n : Nat) : Nat := n.log2 - 52
def rn (n : Nat) : Nat := rne n (dr n) * 2 ^ dr n

theorem dr_lt (n : Nat) : n < 2 ^ (53 + dr n) := by
  by_cases h : n = 0
  · subst h; exact Nat.two_pow_pos _
  · have := ((Nat.log2_eq_iff h).1 rfl).2
    exact Nat.lt_of_lt_of_le this (Nat.pow_le_pow_right (by omega) (by unfold dr; omega))
theorem dr_le (n : Nat) (h : 0 < dr n) : 2 ^ (52 + dr n) ≤ n := by
  have h0 : n ≠ 0 := by intro e; subst e; simp [dr] at h
  have := ((Nat.log2_eq_iff h0).1 rfl).1
  rw [show 52 + dr n = n.log2 by unfold dr at *; omega]
  exact this
theorem dr_of_lt {n d : Nat} (h : n < 2 ^ (53 + d)) : dr n ≤ d := by
  by_cases h0 : n = 0
  · subst h0; simp [dr]
  · have := (Nat.log2_lt h0).2 h
    unfold dr; omega

theorem rn_exact (k e : Nat) (h : k ≤ 2 ^ 53) : rn (k * 2 ^ e) = k * 2 ^ e := by
  have hd : ∃ c, k * 2 ^ e = c * 2 ^ dr (k * 2 ^ e) := by
    by_cases hk : k < 2 ^ 53
    · have : dr (k * 2 ^ e) ≤ e := by
        apply dr_of_lt
        rw [Nat.pow_add]; exact Nat.mul_lt_mul_of_pos_right hk (Nat.two_pow_pos e)
      refine ⟨k * 2 ^ (e - dr (k * 2 ^ e)), ?_⟩
      rw [Nat.mul_assoc, ← Nat.pow_add, show e - dr (k * 2 ^ e) + dr (k * 2 ^ e) = e by omega]
    · have hk : k = 2 ^ 53 := by omega
      have : dr (k * 2 ^ e) ≤ e + 1 := by
        apply dr_of_lt
        rw [hk, ← Nat.pow_add]; exact Nat.pow_lt_pow_right (by omega) (by omega)
      refine ⟨2 ^ (53 + e - dr (k * 2 ^ e)), ?_⟩
      conv => lhs; rw [hk, ← Nat.pow_add]
      rw [← Nat.pow_add]; congr 1; omega
  obtain ⟨c, hc⟩ := hd
  unfold rn
  generalize dr (k * 2 ^ e) = d at *
  rw [hc, rne_exact]

theorem rn_small (n : Nat) (h : n ≤ 2 ^ 53) : rn n = n := by
  have := rn_exact n 0 h; simpa using this

theorem rn_mono {n m : Nat} (h : n ≤ m) : rn n ≤ rn m := by
  by_cases hd : dr n = dr m
  · unfold rn; rw [hd]; exact Nat.mul_le_mul_right _ (rne_mono _ h)
  · have hle : dr n ≤ dr m := dr_of_lt (Nat.lt_of_le_of_lt h (dr_lt m))
    have hlt : dr n < dr m := by omega
    have h1 : rn n ≤ 2 ^ (53 + dr n) := by
      have hp := Nat.two_pow_pos (dr n)
      have : n / 2 ^ dr n < 2 ^ 53 := by
        rw [Nat.div_lt_iff_lt_mul hp, ← Nat.pow_add]; exact dr_lt n
      have b := rne_bounds n (dr n)
      unfold rn; rw [Nat.pow_add]
      exact Nat.mul_le_mul_right _ (by omega)
    have h2 : 2 ^ (52 + dr m) ≤ rn m := by
      have hp := Nat.two_pow_pos (dr m)
      have := dr_le m (by omega)
      have b := rne_bounds m (dr m)
      have : 2 ^ 52 ≤ m / 2 ^ dr m := by rw [Nat.le_div_iff_mul_le hp, ← Nat.pow_add]; exact this
      unfold rn; rw [Nat.pow_add]
      exact Nat.mul_le_mul_right _ (by omega)
    have h3 : 2 ^ (53 + dr n) ≤ 2 ^ (52 + dr m) := Nat.pow_le_pow_right (by omega) (by omega)
    omega

theorem rn_scale (n j : Nat) : rn (n * 2 ^ j) = rn n * 2 ^ j := by
  by_cases h : n ≤ 2 ^ 53
  · rw [rn_exact n j h, rn_small n h]
  · have h0 : n ≠ 0 := by omega
    have hl : 53 ≤ n.log2 := (Nat.le_log2 h0).2 (by omega)
    have hd : dr (n * 2 ^ j) = dr n + j := by unfold dr; rw [log2_shift n j h0]; omega
    unfold rn
    rw [hd, rne_scale, Nat.pow_add, Nat.mul_assoc]

theorem rn_err_up {n d : Nat} (h : n < 2 ^ (53 + d)) : 2 * rn n ≤ 2 * n + 2 ^ d := by
  have := rne_up n (dr n)
  have := Nat.pow_le_pow_right (n := 2) (by omega) (dr_of_lt h)
  unfold rn; omega
theorem rn_err_down {n d : Nat} (h : n < 2 ^ (53 + d)) : 2 * n ≤ 2 * rn n + 2 ^ d := by
  have := rne_down n (dr n)
  have := Nat.pow_le_pow_right (n := 2) (by omega) (dr_of_lt h)
  unfold rn; omega

theorem rn_dvd (n f : Nat) (h : 2 ^ f ∣ n) : 2 ^ f ∣ rn n := by
  by_cases hd : dr n ≤ f
  · obtain ⟨c, hc⟩ : 2 ^ dr n ∣ n := Nat.dvd_trans (Nat.pow_dvd_pow 2 hd) h
    have : rn n = n := by
      unfold rn
      generalize dr n = d at *
      rw [hc, Nat.mul_comm (2 ^ d) c]
      exact congrArg (· * 2 ^ d) (rne_exact c d)
    rw [this]; exact h
  · exact Nat.dvd_trans (Nat.pow_dvd_pow 2 (by omega)) (Nat.dvd_mul_left _ _)

/-! ### signed -/
/-- a whole number of at most 53 binary digits, times a power of two -/
def Rep (z : Int) : Prop := ∃ k e : Nat, k ≤ 2 ^ 53 ∧ z.natAbs = k * 2 ^ e
/-- rounded to 53 digits -/
def RN (z : Int) : Int := if z < 0 then -(rn z.natAbs : Int) else (rn z.natAbs : Int)

theorem RN_abs (z : Int) : (RN z).natAbs = rn z.natAbs := by unfold RN; split <;> omega
theorem rn_zero : rn 0 = 0 := rn_small 0 (by omega)
theorem RN_neg (z : Int) : RN (-z) = -RN z := by
  unfold RN
  rw [Int.natAbs_neg]
  by_cases h : z = 0
  · subst h; simp [rn_zero]
  · split <;> split <;> omega
theorem RN_sign (z : Int) : (0 ≤ z → 0 ≤ RN z) ∧ (z ≤ 0 → RN z ≤ 0) := by
  constructor
  · intro h; unfold RN; rw [if_neg (by omega)]; omega
  · intro h
    by_cases h0 : z = 0
    · subst h0; simp [RN, rn_zero]
    · unfold RN; rw [if_pos (by omega)]; omega
theorem RN_exact {z : Int} (h : Rep z) : RN z = z := by
  obtain ⟨k, e, h1, h2⟩ := h
  unfold RN
  rw [h2, rn_exact k e h1]
  split <;> omega
theorem RN_mono {x y : Int} (h : x ≤ y) : RN x ≤ RN y := by
  unfold RN
  split <;> split
  · have := rn_mono (show y.natAbs ≤ x.natAbs by omega); omega
  · omega
  · omega
  · have := rn_mono (show x.natAbs ≤ y.natAbs by omega); omega
theorem RN_dvd {z : Int} {f : Nat} (h : (2 : Int) ^ f ∣ z) : (2 : Int) ^ f ∣ RN z := by
  have h1 : 2 ^ f ∣ z.natAbs := by
    have := Int.natAbs_dvd_natAbs.2 h
    rwa [Int.natAbs_pow] at this
  have h2 := rn_dvd _ f h1
  rw [← RN_abs] at h2
  apply Int.natAbs_dvd_natAbs.1
  rw [Int.natAbs_pow]; exact h2
theorem RN_err {z : Int} {d : Nat} (h : z.natAbs < 2 ^ (53 + d)) : 2 * (RN z - z).natAbs ≤ 2 ^ d := by
  have h1 := rn_err_up h
  have h2 := rn_err_down h
  unfold RN; split <;> omega
end Ieee.Own

namespace Ieee.Own

theorem pow_dvd {i j : Nat} (h : i ≤ j) : (2 : Int) ^ i ∣ 2 ^ j := by
  obtain ⟨k, rfl⟩ := Nat.le.dest h
  exact ⟨2 ^ k, by rw [Int.pow_add]⟩

/-! ### products -/
theorem abs_mul_le {x y : Int} {m n : Nat} (hx : x.natAbs ≤ m) (hy : y.natAbs ≤ n) : (x * y).natAbs ≤ m * n := by
  rw [Int.natAbs_mul]; exact Nat.mul_le_mul hx hy

end Ieee.Own

namespace Ieee.Own

theorem cut_rne (s : Bool) (n d : Nat) : Toward.even.cut s n d = rne n d := by
  unfold Toward.cut
  simp only [Nat.one_shiftLeft]
  by_cases h : d ≤ n.log2 + 2
  · rw [Nat.min_eq_left h]
    unfold rne
    by_cases h1 : 2 ^ d < 2 * (n % 2 ^ d)
    · simp [h1]
    · by_cases h2 : 2 ^ d = 2 * (n % 2 ^ d) ∧ n / 2 ^ d % 2 = 1
      · rw [if_pos (Or.inr h2)]; simp [← h2.1, h2.2]
      · rw [if_neg (by simp only [h1, h2, or_self, not_false_eq_true])]
        have : (2 ^ d == 2 * (n % 2 ^ d) && n / 2 ^ d % 2 == 1) = false := by
          rw [Bool.eq_false_iff]; intro h3; simp at h3; exact h2 h3
        simp [h1, this]
  · rw [Nat.min_eq_right (by omega)]
    have hn : n < 2 ^ (n.log2 + 1) := Nat.lt_log2_self
    have e1 : 2 ^ (n.log2 + 2) = 2 * 2 ^ (n.log2 + 1) := by rw [Nat.pow_succ 2 (n.log2 + 1)]; omega
    have e2 : 2 ^ (n.log2 + 2) ≤ 2 ^ d := Nat.pow_le_pow_right (by omega) (by omega)
    have q1 : n / 2 ^ (n.log2 + 2) = 0 := Nat.div_eq_of_lt (by omega)
    have q2 : n % 2 ^ (n.log2 + 2) = n := Nat.mod_eq_of_lt (by omega)
    have q3 : n / 2 ^ d = 0 := Nat.div_eq_of_lt (by omega)
    have q4 : n % 2 ^ d = n := Nat.mod_eq_of_lt (by omega)
    rw [q1, q2]
    unfold rne
    rw [q3, q4]
    have c1 : ¬ 2 ^ (n.log2 + 2) < 2 * n := by omega
    have c2 : ¬ 2 ^ d < 2 * n := by omega
    simp [c1, c2]

/-- a rung by its digits -/
theorem rung_val (d k : Nat) (h : k ≤ 2 ^ 53) (h' : 0 < d → 2 ^ 52 ≤ k) : val 52 (d * 2 ^ 52 + k) = k * 2 ^ d := by
  by_cases h1 : k < 2 ^ 52
  · have : d = 0 := by omega
    subst this
    unfold val mg ex
    simp [h1]
  · unfold val mg ex
    have hge : ¬ d * 2 ^ 52 + k < 2 ^ 52 := by omega
    simp only [hge, if_false]
    by_cases h2 : k = 2 ^ 53
    · have e1 : (d * 2 ^ 52 + k) / 2 ^ 52 = d + 2 := by omega
      have e2 : (d * 2 ^ 52 + k) % 2 ^ 52 = 0 := by omega
      rw [e1, e2, h2, show d + 2 - 1 = d + 1 by omega, Nat.pow_succ 2 d]
      generalize 2 ^ d = g
      omega
    · have e1 : (d * 2 ^ 52 + k) / 2 ^ 52 = d + 1 := by omega
      have e2 : (d * 2 ^ 52 + k) % 2 ^ 52 = k - 2 ^ 52 := by omega
      rw [e1, e2, show d + 1 - 1 = d by omega, show 2 ^ 52 + (k - 2 ^ 52) = k by omega]

theorem rne_range (n : Nat) : rne n (dr n) ≤ 2 ^ 53 ∧ (0 < dr n → 2 ^ 52 ≤ rne n (dr n)) := by
  have hp := Nat.two_pow_pos (dr n)
  have b := rne_bounds n (dr n)
  constructor
  · have : n / 2 ^ dr n < 2 ^ 53 := by rw [Nat.div_lt_iff_lt_mul hp, ← Nat.pow_add]; exact dr_lt n
    omega
  · intro h
    have : 2 ^ 52 ≤ n / 2 ^ dr n := by rw [Nat.le_div_iff_mul_le hp, ← Nat.pow_add]; exact dr_le n h
    omega

theorem frac64' : double.fractionBits = 52 := rfl
theorem least64' : double.leastPlace = -1074 := by decide +kernel
theorem top64' : val 52 9218868437227405312 = 2 ^ 2098 := by decide +kernel

/-- a number n of units, however it is told, is written as the word of n rounded -/
theorem nearest_rn (s : Bool) (m : Nat) (place : Int) (n a c : Nat) (hm : m * 2 ^ a = n * 2 ^ c) (hp : place = -1074 + a - c) (hn : rn n < 2 ^ 2098) :
    ∃ r, r < 9218868437227405312 ∧ double.nearest s m place = double.word s r ∧ val 52 r = rn n := by
  by_cases h0 : m = 0
  · subst h0
    have : n = 0 := by
      have hc := Nat.two_pow_pos c
      rcases Nat.mul_eq_zero.1 (by omega : n * 2 ^ c = 0) with h | h <;> omega
    subst this
    exact ⟨0, by omega, by unfold Format.nearest; rw [if_pos rfl], by rw [val_zero, rn_small 0 (by omega)]⟩
  have hn0 : n ≠ 0 := by
    intro h; subst h
    have ha := Nat.two_pow_pos a
    rcases Nat.mul_eq_zero.1 (by omega : m * 2 ^ a = 0) with h | h <;> omega
  have hlog : m.log2 + a = n.log2 + c := by rw [← log2_shift m a h0, hm, log2_shift n c hn0]
  have hlast : max (place + m.log2 - double.fractionBits) double.leastPlace = -1074 + dr n := by
    rw [frac64', least64']; unfold dr; omega
  have hk : Toward.even.cut s (m <<< (place - (-1074 + dr n)).toNat) (-1074 + dr n - place).toNat = rne n (dr n) := by
    rw [Nat.shiftLeft_eq, cut_rne]
    by_cases hac : dr n + c ≤ a
    · have e1 : (place - (-1074 + dr n)).toNat = a - (dr n + c) := by omega
      have e2 : (-1074 + dr n - place).toNat = 0 := by omega
      rw [e1, e2]
      have hq : n = (m * 2 ^ (a - (dr n + c))) * 2 ^ dr n := by
        have h2 : 2 ^ a = 2 ^ (a - (dr n + c)) * 2 ^ dr n * 2 ^ c := by rw [← Nat.pow_add, ← Nat.pow_add]; congr 1; omega
        rw [h2, ← Nat.mul_assoc, ← Nat.mul_assoc] at hm
        exact (Nat.eq_of_mul_eq_mul_right (Nat.two_pow_pos c) hm).symm
      generalize dr n = d at *
      have g1 : rne n d = m * 2 ^ (a - (d + c)) := by rw [hq]; exact rne_exact _ d
      rw [g1]
      have := rne_exact (m * 2 ^ (a - (d + c))) 0
      simpa using this
    · have e1 : (place - (-1074 + dr n)).toNat = 0 := by omega
      have e2 : (-1074 + dr n - place).toNat = dr n + c - a := by omega
      rw [e1, e2, Nat.pow_zero, Nat.mul_one, ← rne_scale n (dr n) c, ← hm, ← rne_scale m (dr n + c - a) a]
      congr 1; omega
  have hv : val 52 (dr n * 2 ^ 52 + rne n (dr n)) = rn n := rung_val _ _ (rne_range n).1 (rne_range n).2
  have hr : dr n * 2 ^ 52 + rne n (dr n) < 9218868437227405312 := by
    rw [← val_lt_iff 52, hv, top64']; exact hn
  refine ⟨dr n * 2 ^ 52 + rne n (dr n), hr, ?_, hv⟩
  unfold Format.nearest
  rw [if_neg h0]
  dsimp only
  rw [hlast, hk, least64', show (-1074 + (dr n : Int) - -1074).toNat = dr n by omega, inf64]
  rw [show double.binade = 2 ^ 52 from rfl, Nat.min_eq_left (Nat.le_of_lt hr)]

/-- the value of a finite word, in units of 2^-1074 -/
def V (b : Nat) : Int := if b < 9223372036854775808 then (val 52 b : Int) else -(val 52 (b - 9223372036854775808) : Int)
/-- a finite word of binary64 -/
def FinW (b : Nat) : Prop := b < 18446744073709551616 ∧ b % 9223372036854775808 < 9218868437227405312

theorem V_word (s : Bool) (r : Nat) (h : r < 9218868437227405312) : FinW (double.word s r) ∧ V (double.word s r) = if s then -(val 52 r : Int) else (val 52 r : Int) := by
  unfold Format.word FinW V
  rw [sw64]
  cases s
  · simp only [Bool.false_eq_true, if_false]
    rw [if_pos (by omega)]
    exact ⟨by omega, rfl⟩
  · simp only [if_true]
    rw [if_neg (by omega)]
    exact ⟨by omega, by rw [show 9223372036854775808 + r - 9223372036854775808 = r by omega]⟩

theorem read_fin {b : Nat} (h : FinW b) : ∃ (s : Bool) (m p : Nat), double.read b = .number s m (-1074 + p) ∧ V b = (if s then -((m * 2 ^ p : Nat) : Int) else ((m * 2 ^ p : Nat) : Int)) ∧ m < 2 ^ 53 ∧ m = mg 52 (b % 9223372036854775808) ∧ p = ex 52 (b % 9223372036854775808) := by
  obtain ⟨h1, h2⟩ := h
  refine ⟨b / double.signWeight % 2 == 1, mg 52 (b % 9223372036854775808), ex 52 (b % 9223372036854775808), ?_, ?_, mg_lt 52 _, rfl, rfl⟩
  · rw [read_num double b (by rw [sw64, inf64]; exact h2), least64', frac64', sw64]
  · rw [sw64]
    unfold V
    by_cases hb : b < 9223372036854775808
    · have e1 : b / 9223372036854775808 = 0 := by omega
      have e2 : b % 9223372036854775808 = b := by omega
      rw [e1, e2, if_pos hb]
      show ((val 52 b : Nat) : Int) = if (0 % 2 == 1) = true then _ else _
      rw [if_neg (by decide)]; unfold val; rfl
    · have e1 : b / 9223372036854775808 = 1 := by omega
      have e2 : b % 9223372036854775808 = b - 9223372036854775808 := by omega
      rw [e1, e2, if_neg hb]
      generalize b - 9223372036854775808 = x
      show -((val 52 x : Nat) : Int) = if (1 % 2 == 1) = true then _ else _
      rw [if_pos (by decide)]; unfold val; rfl

theorem signed_align (s t : Bool) (m n p q : Nat) :
    (signed s m (-1074 + (p : Int) - min (-1074 + (p : Int)) (-1074 + (q : Int))).toNat + signed t n (-1074 + (q : Int) - min (-1074 + (p : Int)) (-1074 + (q : Int))).toNat) * 2 ^ (min p q) =
    (if s then -((m * 2 ^ p : Nat) : Int) else ((m * 2 ^ p : Nat) : Int)) + (if t then -((n * 2 ^ q : Nat) : Int) else ((n * 2 ^ q : Nat) : Int)) := by
  have e1 : (-1074 + (p : Int) - min (-1074 + (p : Int)) (-1074 + (q : Int))).toNat = p - min p q := by omega
  have e2 : (-1074 + (q : Int) - min (-1074 + (p : Int)) (-1074 + (q : Int))).toNat = q - min p q := by omega
  rw [e1, e2]
  simp only [signed_eq]
  generalize hc : min p q = c
  have hp : 2 ^ p = 2 ^ (p - c) * 2 ^ c := by rw [← Nat.pow_add]; congr 1; omega
  have hq : 2 ^ q = 2 ^ (q - c) * 2 ^ c := by rw [← Nat.pow_add]; congr 1; omega
  rw [hp, hq, ← Nat.mul_assoc, ← Nat.mul_assoc, Int.add_mul]
  have hz : ((2 ^ c : Nat) : Int) = 2 ^ c := by simp
  rw [← hz]
  generalize m * 2 ^ (p - c) = x
  generalize n * 2 ^ (q - c) = y
  generalize (2 ^ c : Nat) = z
  cases s <;> cases t <;> simp [Int.neg_mul]

/-- the signed value of a sign, a whole number and a place -/
def sv (s : Bool) (m p : Nat) : Int := if s then -((m * 2 ^ p : Nat) : Int) else ((m * 2 ^ p : Nat) : Int)
theorem sv_abs (s : Bool) (m p : Nat) : (sv s m p).natAbs = m * 2 ^ p := by cases s <;> simp [sv, Int.natAbs_mul, Int.natAbs_pow]

theorem sum_datum (s t : Bool) (m n p q : Nat) (h : (RN (sv s m p + sv t n q)).natAbs < 2 ^ 2098) :
    ∃ r, ((Datum.number s m (-1074 + p)).sum (Datum.number t n (-1074 + q))).map double.write = some r ∧ FinW r ∧ V r = RN (sv s m p + sv t n q) := by
  simp only [Datum.sum, Option.map]
  have hal : _ = sv s m p + sv t n q := signed_align s t m n p q
  generalize hT : signed s m (-1074 + (p : Int) - min (-1074 + (p : Int)) (-1074 + (q : Int))).toNat + signed t n (-1074 + (q : Int) - min (-1074 + (p : Int)) (-1074 + (q : Int))).toNat = T at *
  generalize sv s m p + sv t n q = S at *
  have hTn : T.natAbs * 2 ^ (min p q) = S.natAbs * 2 ^ 0 := by
    rw [← hal, Int.natAbs_mul, Int.natAbs_pow]; simp
  rw [RN_abs] at h
  generalize hneg : (if T = 0 then s && t else decide (T < 0)) = neg
  obtain ⟨r, h1, h2, h3⟩ := nearest_rn neg T.natAbs (min (-1074 + (p : Int)) (-1074 + (q : Int))) _ (min p q) 0 hTn (by omega) h
  refine ⟨double.word neg r, by simp only [Format.write]; rw [h2], (V_word neg r h1).1, ?_⟩
  rw [(V_word neg r h1).2, h3]
  have hpos : (0 : Int) < 2 ^ (min p q) := Int.pow_pos (by omega)
  by_cases hT0 : T = 0
  · have : S = 0 := by rw [← hal, hT0]; simp
    rw [this]; simp [RN, rn_zero]
  · rw [if_neg hT0] at hneg
    by_cases hT1 : T < 0
    · have : S < 0 := by rw [← hal]; exact Int.mul_neg_of_neg_of_pos hT1 hpos
      simp [hT1] at hneg
      subst hneg
      unfold RN; rw [if_pos this]; rfl
    · have : ¬ S < 0 := by rw [← hal]; have := Int.mul_nonneg (show 0 ≤ T by omega) (show (0 : Int) ≤ 2 ^ (min p q) by omega); omega
      simp [hT1] at hneg
      subst hneg
      unfold RN; rw [if_neg this]; rfl

theorem read_sv {b : Nat} (h : FinW b) : ∃ (s : Bool) (m p : Nat), double.read b = .number s m (-1074 + p) ∧ V b = sv s m p ∧ m < 2 ^ 53 ∧ m = mg 52 (b % 9223372036854775808) ∧ p = ex 52 (b % 9223372036854775808) := read_fin h

/-- SUMS -/
theorem add_spec {a b : Nat} (ha : FinW a) (hb : FinW b) (h : (RN (V a + V b)).natAbs < 2 ^ 2098) :
    ∃ r, double.add a b = some r ∧ FinW r ∧ V r = RN (V a + V b) := by
  obtain ⟨s, m, p, hr, hV, -⟩ := read_sv ha
  obtain ⟨t, n, q, hr', hV', -⟩ := read_sv hb
  unfold Format.add
  rw [hr, hr']
  rw [hV, hV'] at h ⊢
  exact sum_datum s t m n p q h

theorem sv_mul (s t : Bool) (m n p q : Nat) : sv s m p * sv t n q = sv (s ^^ t) (m * n) (p + q) := by
  have e : m * n * 2 ^ (p + q) = (m * 2 ^ p) * (n * 2 ^ q) := by rw [Nat.pow_add]; ac_rfl
  unfold sv
  rw [e]
  generalize m * 2 ^ p = x
  generalize n * 2 ^ q = y
  cases s <;> cases t <;> simp [Int.neg_mul, Int.mul_neg]

/-- the word of a sign and a rung whose value is S rounded -/
theorem word_RN (s : Bool) (r : Nat) (S : Int) (h1 : r < 9218868437227405312) (h : val 52 r = rn S.natAbs) (hs : (s = true → S ≤ 0) ∧ (s = false → 0 ≤ S)) : V (double.word s r) = RN S := by
  rw [(V_word s r h1).2, h]
  cases s
  · simp only [Bool.false_eq_true, if_false]
    have := hs.2 rfl
    unfold RN; rw [if_neg (by omega)]
  · simp only [if_true]
    have := hs.1 rfl
    by_cases h0 : S = 0
    · subst h0; simp [RN, rn_zero]
    · unfold RN; rw [if_pos (by omega)]
theorem sv_sign (s : Bool) (m p : Nat) : (s = true → sv s m p ≤ 0) ∧ (s = false → 0 ≤ sv s m p) := by
  unfold sv; generalize m * 2 ^ p = x; cases s <;> simp <;> omega

/-- PRODUCTS: where the exact one is a whole number of units -/
theorem mul_spec {a b : Nat} (ha : FinW a) (hb : FinW b) {N : Int} (hN : V a * V b = N * 2 ^ 1074) (h : (RN N).natAbs < 2 ^ 2098) :
    ∃ r, double.mul a b = some r ∧ FinW r ∧ V r = RN N := by
  obtain ⟨s, m, p, hr, hV, -⟩ := read_sv ha
  obtain ⟨t, n, q, hr', hV', -⟩ := read_sv hb
  unfold Format.mul
  rw [hr, hr']
  simp only [Datum.product, Option.map]
  rw [hV, hV', sv_mul] at hN
  have hNa : m * n * 2 ^ (p + q) = N.natAbs * 2 ^ 1074 := by
    rw [← sv_abs (s ^^ t) (m * n) (p + q), hN, Int.natAbs_mul, Int.natAbs_pow, show (2 : Int).natAbs = 2 from rfl]
  rw [RN_abs] at h
  obtain ⟨r, h1, h2, h3⟩ := nearest_rn (s ^^ t) (m * n) (-1074 + (p : Int) + (-1074 + (q : Int))) _ (p + q) 1074 hNa (by clear hN hNa h; omega) h
  refine ⟨double.word (s ^^ t) r, by simp only [Format.write]; rw [h2], (V_word _ r h1).1, word_RN _ r N h1 h3 ?_⟩
  have hs := sv_sign (s ^^ t) (m * n) (p + q)
  rw [hN] at hs
  have hp : (0 : Int) < 2 ^ 1074 := Int.pow_pos (by omega)
  generalize (2 : Int) ^ 1074 = z at *
  constructor
  · intro h; have := hs.1 h
    refine Int.not_lt.1 fun hlt => ?_
    have := Int.mul_pos hlt hp; omega
  · intro h; have := hs.2 h
    refine Int.not_lt.1 fun hlt => ?_
    have := Int.mul_neg_of_neg_of_pos hlt hp; omega
end Ieee.Own

namespace Ieee.Own

theorem two_lt {a b : Nat} (h : a < b) : 2 ^ a < 2 ^ b := Nat.pow_lt_pow_right (by omega) h

/-- a normal word by its sign, its 53 digits and its place -/
structure Norm (b : Nat) (s : Bool) (m p : Nat) : Prop where
  fin : FinW b
  read : double.read b = .number s m (-1074 + p)
  val : V b = sv s m p
  lo : 2 ^ 52 ≤ m
  hi : m < 2 ^ 53

theorem norm_of {b : Nat} (h : FinW b) (hn : 4503599627370496 ≤ b % 9223372036854775808) :
    Norm b (decide (9223372036854775808 ≤ b)) (4503599627370496 + b % 4503599627370496) (b % 9223372036854775808 / 4503599627370496 - 1) := by
  obtain ⟨s, m, p, hr, hV, hm, hm', hp'⟩ := read_sv h
  have e1 : m = 4503599627370496 + b % 4503599627370496 := by
    rw [hm']; unfold mg; rw [if_neg (by omega)]; omega
  have e2 : p = b % 9223372036854775808 / 4503599627370496 - 1 := by
    rw [hp']; unfold ex; rw [if_neg (by omega)]
  have es : s = decide (9223372036854775808 ≤ b) := by
    have hpos := Nat.two_pow_pos p
    have hmp : 0 < m * 2 ^ p := Nat.mul_pos (by omega) hpos
    unfold V sv at hV
    generalize m * 2 ^ p = x at *
    cases s <;> split at hV <;> simp at hV ⊢ <;> omega
  subst es e1 e2
  exact ⟨h, hr, hV, by omega, by omega⟩

/-! ### square roots -/
theorem rootFrom_spec (n : Nat) : ∀ (t r : Nat), r * r ≤ n → n < (r + 2 ^ t) * (r + 2 ^ t) → Datum.rootFrom n t r * Datum.rootFrom n t r ≤ n ∧ n < (Datum.rootFrom n t r + 1) * (Datum.rootFrom n t r + 1) := by
  intro t
  induction t with
  | zero => intro r h1 h2; exact ⟨h1, by simpa [Datum.rootFrom] using h2⟩
  | succ t ih =>
    intro r h1 h2
    unfold Datum.rootFrom
    simp only [Nat.one_shiftLeft]
    split
    · rename_i h
      apply ih _ h
      rw [Nat.pow_succ] at h2
      rw [show r + 2 ^ t + 2 ^ t = r + 2 ^ t * 2 by omega]; exact h2
    · rename_i h
      exact ih _ h1 (by omega)

theorem isqrt_spec (n : Nat) : Datum.rootFrom n (n.log2 / 2 + 1) 0 * Datum.rootFrom n (n.log2 / 2 + 1) 0 ≤ n ∧ n < (Datum.rootFrom n (n.log2 / 2 + 1) 0 + 1) * (Datum.rootFrom n (n.log2 / 2 + 1) 0 + 1) := by
  apply rootFrom_spec
  · omega
  · rw [Nat.zero_add, ← Nat.pow_add]
    exact Nat.lt_of_lt_of_le Nat.lt_log2_self (Nat.pow_le_pow_right (by omega) (by omega))

theorem sq_expand (Q : Nat) (h : 1 ≤ Q) : (4 * Q - 2) * (4 * Q - 2) + 16 * Q = 16 * (Q * Q) + 4 ∧ (4 * Q + 2) * (4 * Q + 2) = 16 * (Q * Q) + 16 * Q + 4 := by
  obtain ⟨k, rfl⟩ : ∃ k, Q = k + 1 := ⟨Q - 1, by omega⟩
  rw [show 4 * (k + 1) - 2 = 4 * k + 2 by omega]
  simp only [Nat.add_mul, Nat.mul_add, Nat.mul_one, Nat.one_mul]
  have e1 : 4 * k * (4 * k) = 16 * (k * k) := by rw [show (16 : Nat) = 4 * 4 from rfl]; ac_rfl
  rw [e1]
  omega

/-- A ROOT of a normal magnitude: the parts -/
theorem root_parts (m e : Nat) (m1 : 2 ^ 52 ≤ m) (m2 : m < 2 ^ 53) (he : e ≤ 1) :
    ∃ Q : Nat, 2 ^ 52 ≤ Q ∧ Q ≤ 2 ^ 53 ∧ Q * Q + 1 ≤ m * 2 ^ (52 + e) + Q ∧ m * 2 ^ (52 + e) ≤ Q * Q + Q ∧
      (let n := m <<< (56 + e); let w := Datum.rootFrom n (n.log2 / 2 + 1) 0; rn (2 * w + (w * w != n).toNat) = Q * 2 ^ 3) := by
  dsimp only
  rw [Nat.shiftLeft_eq]
  have hn : m * 2 ^ (56 + e) = 16 * (m * 2 ^ (52 + e)) := by rw [show 56 + e = 4 + (52 + e) by omega, Nat.pow_add 2 4, show (2 : Nat) ^ 4 = 16 from rfl]; generalize 2 ^ (52 + e) = z; exact Nat.mul_left_comm m 16 z
  have hb : 2 ^ 104 ≤ m * 2 ^ (52 + e) ∧ m * 2 ^ (52 + e) < 2 ^ 106 := by
    have : e = 0 ∨ e = 1 := by omega
    rcases this with rfl | rfl <;> omega
  rw [hn]
  generalize m * 2 ^ (52 + e) = T at *
  obtain ⟨i1, i2⟩ := isqrt_spec (16 * T)
  generalize Datum.rootFrom (16 * T) ((16 * T).log2 / 2 + 1) 0 = w at *
  have w1 : 2 ^ 54 ≤ w := by
    refine Nat.le_of_not_lt fun h => ?_
    have : (w + 1) * (w + 1) ≤ 2 ^ 54 * 2 ^ 54 := Nat.mul_le_mul h h
    omega
  have w2 : w < 2 ^ 55 := by
    refine Nat.lt_of_not_le fun h => ?_
    have : 2 ^ 55 * 2 ^ 55 ≤ w * w := Nat.mul_le_mul h h
    omega
  have hst : (w * w != 16 * T).toNat = 0 ∧ w * w = 16 * T ∨ (w * w != 16 * T).toNat = 1 ∧ w * w < 16 * T := by
    by_cases h : w * w = 16 * T
    · left; simp [h]
    · right; simp [h]; omega
  generalize (w * w != 16 * T).toNat = st at *
  have d3 : dr (2 * w + st) = 3 := by
    have a := dr_of_lt (n := 2 * w + st) (d := 3) (by omega)
    have b := (Nat.le_log2 (show 2 * w + st ≠ 0 by omega)).2 (show 2 ^ 55 ≤ 2 * w + st by omega)
    unfold dr at *; omega
  have hr := rne_range (2 * w + st)
  have u := rne_up (2 * w + st) 3
  have l := rne_down (2 * w + st) 3
  rw [d3] at hr
  refine ⟨rne (2 * w + st) 3, hr.2 (by omega), hr.1, ?_, ?_, by unfold rn; rw [d3]⟩
  all_goals
    generalize rne (2 * w + st) 3 = Q at *
    have hQ := hr.2 (by omega)
    obtain ⟨x1, x2⟩ := sq_expand Q (by omega)
    rw [show (2 : Nat) ^ 3 = 8 from rfl] at *
  · have : (4 * Q - 2) * (4 * Q - 2) ≤ 16 * T := by
      rcases hst with ⟨rfl, h⟩ | ⟨rfl, h⟩
      · have : (4 * Q - 2) * (4 * Q - 2) ≤ w * w := Nat.mul_le_mul (by omega) (by omega)
        omega
      · have : (4 * Q - 2) * (4 * Q - 2) ≤ w * w := Nat.mul_le_mul (by omega) (by omega)
        omega
    omega
  · have : 16 * T ≤ (4 * Q + 2) * (4 * Q + 2) := by
      rcases hst with ⟨rfl, h⟩ | ⟨rfl, h⟩
      · have : w * w ≤ (4 * Q + 2) * (4 * Q + 2) := Nat.mul_le_mul (by omega) (by omega)
        omega
      · have : (w + 1) * (w + 1) ≤ (4 * Q + 2) * (4 * Q + 2) := Nat.mul_le_mul (by omega) (by omega)
        omega
    omega

/-- ROOTS -/
theorem sqrt_spec {a : Nat} {m p : Nat} (ha : Norm a false m p) (h2 : p ≤ 3000) :
    ∃ r Q : Nat, double.sqrt a = some r ∧ FinW r ∧ V r = sv false Q (511 + p / 2) ∧ 2 ^ 52 ≤ Q ∧ Q ≤ 2 ^ 53 ∧
      Q * Q + 1 ≤ m * 2 ^ (52 + p % 2) + Q ∧ m * 2 ^ (52 + p % 2) ≤ Q * Q + Q := by
  obtain ⟨Q, g1, g2, g3, g4, g5⟩ := root_parts m (p % 2) ha.lo ha.hi (by omega)
  dsimp only at g5
  have lm : m.log2 = 52 := (Nat.log2_eq_iff (by have := ha.lo; omega)).2 ⟨ha.lo, ha.hi⟩
  have hm0 : m ≠ 0 := by have := ha.lo; omega
  unfold Format.sqrt
  rw [ha.read, frac64']
  simp only [Datum.root]
  rw [if_neg hm0, if_neg (by decide), lm]
  have hmore : 2 * (52 + 2) - 52 + ((-1074 + (p : Int) - ((2 * (52 + 2) - 52 : Nat) : Int)) % 2).toNat = 56 + p % 2 := by omega
  rw [hmore]
  generalize 2 * Datum.rootFrom (m <<< (56 + p % 2)) ((m <<< (56 + p % 2)).log2 / 2 + 1) 0 + (Datum.rootFrom (m <<< (56 + p % 2)) ((m <<< (56 + p % 2)).log2 / 2 + 1) 0 * Datum.rootFrom (m <<< (56 + p % 2)) ((m <<< (56 + p % 2)).log2 / 2 + 1) 0 != m <<< (56 + p % 2)).toNat = X at *
  have hk : rn (X * 2 ^ (508 + p / 2)) = Q * 2 ^ (511 + p / 2) := by
    rw [rn_scale, g5, Nat.mul_assoc, ← Nat.pow_add]; congr 2; omega
  have hlt : rn (X * 2 ^ (508 + p / 2)) < 2 ^ 2098 := by
    rw [hk]
    refine Nat.lt_of_le_of_lt (Nat.mul_le_mul_right _ g2) ?_
    rw [← Nat.pow_add]
    have h3 : 53 + (511 + p / 2) < 2098 := by clear hk; omega
    exact two_lt (a := 53 + (511 + p / 2)) (b := 2098) h3
  obtain ⟨r, r1, r2, r3⟩ := nearest_rn false X ((-1074 + (p : Int) - ((56 + p % 2 : Nat) : Int)) / 2 - 1) (X * 2 ^ (508 + p / 2)) (508 + p / 2) 0 (by rw [Nat.pow_zero, Nat.mul_one]) (by clear hlt hk; omega) hlt
  refine ⟨double.word false r, Q, ?_, (V_word _ r r1).1, ?_, g1, g2, g3, g4⟩
  · simp only [Option.map, Format.write]; rw [r2]
  · rw [(V_word _ r r1).2, r3, hk]; rfl
end Ieee.Own

namespace Ieee.Own

theorem Rep_pow (k : Nat) : Rep (((2 ^ k : Nat) : Int)) := ⟨1, k, by omega, by simp [Int.natAbs_pow]⟩
theorem RN_bound {z : Int} {k : Nat} (h : z.natAbs ≤ 2 ^ k) : (RN z).natAbs ≤ 2 ^ k := by
  have e := RN_exact (Rep_pow k)
  have e' : RN (-((2 ^ k : Nat) : Int)) = -((2 ^ k : Nat) : Int) := by rw [RN_neg, e]
  generalize (2 ^ k : Nat) = M at *
  have h1 := RN_mono (show z ≤ (M : Int) by omega)
  have h2 := RN_mono (show -(M : Int) ≤ z by omega)
  omega
theorem two_le {a b : Nat} (h : a ≤ b) : 2 ^ a ≤ 2 ^ b := Nat.pow_le_pow_right (by omega) h
theorem lt_top {z : Int} {k : Nat} (h : z.natAbs ≤ 2 ^ k) (hk : k < 2098) : (RN z).natAbs < 2 ^ 2098 :=
  Nat.lt_of_le_of_lt (RN_bound h) (two_lt (a := k) (b := 2098) hk)

theorem two_succ (k : Nat) : 2 ^ (k + 1) = 2 * 2 ^ k := by rw [Nat.pow_succ]; omega
theorem add_abs {x y : Int} {k : Nat} (hx : x.natAbs ≤ 2 ^ k) (hy : y.natAbs ≤ 2 ^ k) : (x + y).natAbs ≤ 2 ^ (k + 1) := by rw [two_succ]; omega
theorem abs_up {x : Int} {k l : Nat} (hx : x.natAbs ≤ 2 ^ k) (h : k ≤ l) : x.natAbs ≤ 2 ^ l := Nat.le_trans hx (two_le h)

/-- a sum of words, with its size -/
theorem addW {a b k : Nat} (ha : FinW a) (hb : FinW b) (xa : (V a).natAbs ≤ 2 ^ k) (xb : (V b).natAbs ≤ 2 ^ k) (hk : k < 2000) :
    ∃ r, double.add a b = some r ∧ FinW r ∧ V r = RN (V a + V b) ∧ (V r).natAbs ≤ 2 ^ (k + 1) := by
  have h := add_abs xa xb
  obtain ⟨r, h1, h2, h3⟩ := add_spec ha hb (lt_top h (by omega))
  exact ⟨r, h1, h2, h3, by rw [h3]; exact RN_bound h⟩
theorem scale_abs (A : Int) (p : Nat) : (A * 2 ^ p).natAbs = A.natAbs * 2 ^ p := by rw [Int.natAbs_mul, Int.natAbs_pow]; rfl
theorem scale_le {A : Int} {p k : Nat} (h : A.natAbs ≤ 2 ^ k) : (A * 2 ^ p).natAbs ≤ 2 ^ (k + p) := by
  rw [scale_abs, Nat.pow_add]; exact Nat.mul_le_mul_right _ h

/-- a number told by 53 digits (or none) and a place -/
structure Nr (b : Nat) (A : Int) (p : Nat) : Prop where
  fin : FinW b
  val : V b = A * 2 ^ p
  lo : A = 0 ∨ 2 ^ 52 ≤ A.natAbs
  hi : A.natAbs < 2 ^ 53

theorem Nr.of {b : Nat} {s : Bool} {m p : Nat} (h : Norm b s m p) : Nr b (sv s m 0) p := by
  refine ⟨h.fin, ?_, Or.inr ?_, ?_⟩
  · rw [h.val]; unfold sv; cases s <;> simp [Int.neg_mul]
  · rw [sv_abs]; have := h.lo; omega
  · rw [sv_abs]; have := h.hi; omega
theorem Nr.zero {b : Nat} (h : FinW b) (h0 : V b = 0) (p : Nat) : Nr b 0 p := ⟨h, by rw [h0]; simp, Or.inl rfl, by decide⟩

/-- a product of words whose exact one is a whole number of units -/
theorem mulW {a b k : Nat} {N : Int} (ha : FinW a) (hb : FinW b) (hN : V a * V b = N * 2 ^ 1074) (h : N.natAbs ≤ 2 ^ k) (hk : k < 2098) :
    ∃ r, double.mul a b = some r ∧ FinW r ∧ V r = RN N := mul_spec ha hb hN (lt_top h hk)

/-- a nought by a number -/
theorem div_zero {a b : Nat} (ha : FinW a) (h0 : V a = 0) (hb : FinW b) (hn : V b ≠ 0) : ∃ r, double.div a b = some r ∧ FinW r ∧ V r = 0 := by
  obtain ⟨s, m, p, hr, hV, -⟩ := read_sv ha
  obtain ⟨t, n, q, hr', hV', -⟩ := read_sv hb
  have hm : m = 0 := by
    have := sv_abs s m p
    rw [← hV, h0] at this
    have hp := Nat.two_pow_pos p
    rcases Nat.mul_eq_zero.1 this.symm with h | h <;> omega
  have hn0 : n ≠ 0 := by
    intro h; subst h; rw [hV'] at hn; apply hn; unfold sv; simp
  subst hm
  unfold Format.div
  rw [hr, hr']
  simp only [Datum.quotient]
  rw [if_neg hn0]
  have hX : 2 * (0 <<< (double.fractionBits + 2 + n.log2 - Nat.log2 0) / n) + (0 <<< (double.fractionBits + 2 + n.log2 - Nat.log2 0) % n != 0).toNat = 0 := by
    rw [Nat.zero_shiftLeft]; simp
  rw [hX]
  refine ⟨double.word (s ^^ t) 0, ?_, (V_word _ 0 (by omega)).1, ?_⟩
  · simp only [Option.map, Format.write, Format.nearest, if_true]
  · rw [(V_word _ 0 (by omega)).2, val_zero]; simp

/-! ### fit words -/
def fitB (b : Nat) : Bool := decide (b % 9223372036854775808 = 0 ∨ 3706462493325918208 ≤ b % 9223372036854775808 ∧ b % 9223372036854775808 ≤ 5507902344274116608)

theorem V_abs' (b : Nat) (hb : FinW b) : (V b).natAbs = val 52 (b % 9223372036854775808) := by
  have h1 := hb.1
  unfold V
  by_cases h : b < 9223372036854775808
  · rw [if_pos h, show b % 9223372036854775808 = b by omega]; rfl
  · rw [if_neg h, show b % 9223372036854775808 = b - 9223372036854775808 by omega]; omega

theorem pow_abs_dvd {z : Int} {k : Nat} (h : (2 : Int) ^ k ∣ z) (h0 : z ≠ 0) : 2 ^ k ≤ z.natAbs := by
  have h1 : 2 ^ k ∣ z.natAbs := by
    have := Int.natAbs_dvd_natAbs.2 h
    rwa [Int.natAbs_pow] at this
  exact Nat.le_of_dvd (by omega) h1

theorem dvd_ge {z : Int} {j k : Nat} (h : (2 : Int) ^ k ∣ z) (h0 : z ≠ 0) (hj : j ≤ k) : 2 ^ j ≤ z.natAbs := Nat.le_trans (two_le hj) (pow_abs_dvd h h0)
theorem val_ge (m e f : Nat) (h1 : 2 ^ 52 ≤ m) (h : f ≤ e) : 2 ^ (52 + f) ≤ m * 2 ^ e := by
  rw [Nat.pow_add]; exact Nat.mul_le_mul h1 (two_le h)

theorem not_big (m e f k : Nat) (h1 : 2 ^ 52 ≤ m) (h : f ≤ e) (hk : k < 52 + f) (hu : m * 2 ^ e ≤ 2 ^ k) : False :=
  absurd (Nat.le_trans (val_ge m e f h1 h) hu) (Nat.not_le.2 (two_lt hk))

/-- what the long sums and 'plain' ask of a word -/
theorem good {b k : Nat} (hb : FinW b) (hd : (2 : Int) ^ 500 ∣ V b) (hu : (V b).natAbs ≤ 2 ^ k) (hk : k ≤ 1490) :
    (∃ X, V b = X * 2 ^ 50) ∧ (mg 52 (b % 9223372036854775808) = 0 ∨ 50 ≤ ex 52 (b % 9223372036854775808) ∧ ex 52 (b % 9223372036854775808) < 1522) ∧
    (V b = 0 ∨ 2 ^ 174 ≤ (V b).natAbs ∧ (V b).natAbs ≤ 2 ^ 1494) := by
  refine ⟨?_, ?_, ?_⟩
  · obtain ⟨X, hX⟩ := Int.dvd_trans (pow_dvd (show 50 ≤ 500 by omega)) hd
    exact ⟨X, by rw [hX, Int.mul_comm]⟩
  · by_cases h0 : V b = 0
    · left
      have := V_abs' b hb
      rw [h0] at this
      have hz := (val_zero_iff 52 _).1 this.symm
      rw [hz]; unfold mg; simp
    · right
      have h1 := pow_abs_dvd hd h0
      rw [V_abs' b hb] at h1 hu
      generalize b % 9223372036854775808 = r at *
      have hm := mg_lt 52 r
      unfold val at h1 hu
      constructor
      · refine Nat.le_of_not_lt fun hlt => ?_
        have h2 : mg 52 r * 2 ^ ex 52 r < 2 ^ (52 + 1) * 2 ^ 50 :=
          Nat.lt_of_lt_of_le (Nat.mul_lt_mul_of_pos_right hm (Nat.two_pow_pos _)) (Nat.mul_le_mul_left _ (two_le (by omega)))
        rw [← Nat.pow_add] at h2
        have h3 := two_le (a := 52 + 1 + 50) (b := 500) (by decide)
        exact absurd h1 (Nat.not_le.2 (Nat.lt_of_lt_of_le h2 h3))
      · refine Nat.lt_of_not_le fun hle => ?_
        have hge : 2 ^ 52 ≤ mg 52 r := by
          unfold mg
          split
          · rename_i h; unfold ex at hle; rw [if_pos h] at hle; omega
          · omega
        exact not_big (mg 52 r) (ex 52 r) 1522 k hge hle (by clear h1 hu; omega) hu
  · by_cases h0 : V b = 0
    · exact Or.inl h0
    · right
      exact ⟨dvd_ge (j := 174) (k := 500) hd h0 (by decide), abs_up (k := k) (l := 1494) hu (Nat.le_trans hk (by decide))⟩

/-- the negated word -/
def negW (b : Nat) : Nat := if b < 9223372036854775808 then b + 9223372036854775808 else b - 9223372036854775808
theorem negW_fin {b : Nat} (h : FinW b) : FinW (negW b) := by
  obtain ⟨h1, h2⟩ := h; unfold FinW negW; split <;> omega
theorem negW_V {b : Nat} (h : FinW b) : V (negW b) = -V b := by
  have h1 := h.1
  unfold negW V
  by_cases hb : b < 9223372036854775808
  · rw [if_pos hb, if_pos hb, if_neg (by omega), show b + 9223372036854775808 - 9223372036854775808 = b by omega]
  · rw [if_neg hb, if_neg hb, if_pos (by omega)]; omega
end Ieee.Own
