/- Proved here: two words of a binary format that are no NaNs are ordered as their signed rungs are; words of binary64 and binary32 in plain numbers. No conditions beyond those of each theorem. -/
import Ieee.Arith
namespace Ieee.Own

/-- the magnitude's whole number and its place above the least one, of a rung -/
def mg (F r : Nat) : Nat := if r < 2 ^ F then r else 2 ^ F + r % 2 ^ F
def ex (F r : Nat) : Nat := if r < 2 ^ F then 0 else r / 2 ^ F - 1
/-- the rung's value in units of the least place -/
def val (F r : Nat) : Nat := mg F r * 2 ^ ex F r

theorem val_step (F r : Nat) : val F r < val F (r + 1) := by
  have hB : 0 < 2 ^ F := Nat.two_pow_pos F
  unfold val mg ex
  generalize 2 ^ F = B at *
  by_cases h : r + 1 < B
  · simp [h, Nat.lt_of_succ_lt h]
  · by_cases h1 : r < B
    · obtain rfl : r + 1 = B := by omega
      simp
    · simp only [h, h1, if_false]
      have hq : 1 ≤ r / B := (Nat.le_div_iff_mul_le hB).2 (by omega)
      have e := Nat.div_add_mod r B
      have hm := Nat.mod_lt r hB
      by_cases h2 : r % B + 1 < B
      · have e1 : (r + 1) / B = r / B := by
          rw [Nat.div_eq_of_lt_le] <;> (try rw [Nat.add_mul]) <;> (try rw [Nat.mul_comm (r / B) B]) <;> omega
        have e2 : (r + 1) % B = r % B + 1 := by
          have := Nat.div_add_mod (r + 1) B; rw [e1] at this; omega
        rw [e1, e2]
        exact Nat.mul_lt_mul_of_pos_right (by omega) (Nat.two_pow_pos _)
      · have e1 : (r + 1) / B = r / B + 1 := by
          rw [Nat.div_eq_of_lt_le] <;> (try simp only [Nat.add_mul]) <;> (try rw [Nat.mul_comm (r / B) B]) <;> omega
        have e2 : (r + 1) % B = 0 := by
          have := Nat.div_add_mod (r + 1) B; rw [e1, Nat.mul_add] at this; omega
        rw [e1, e2]
        obtain ⟨q, hq'⟩ : ∃ q, r / B = q + 1 := ⟨r / B - 1, by omega⟩
        rw [hq']
        simp only [Nat.add_sub_cancel, Nat.add_zero, Nat.pow_succ]
        have : B * (2 ^ q * 2) = (2 * B) * 2 ^ q := by
          rw [Nat.mul_comm (2 ^ q) 2, ← Nat.mul_assoc, Nat.mul_comm B 2]
        rw [this]
        exact Nat.mul_lt_mul_of_pos_right (by omega) (Nat.two_pow_pos _)

theorem val_lt {F r s : Nat} (h : r < s) : val F r < val F s := by
  induction s with
  | zero => omega
  | succ s ih =>
    by_cases e : r = s
    · subst e; exact val_step F r
    · exact Nat.lt_trans (ih (by omega)) (val_step F s)

theorem val_lt_iff (F r s : Nat) : val F r < val F s ↔ r < s := by
  constructor
  · intro h
    by_cases e : r = s
    · subst e; omega
    · by_cases h2 : s < r
      · have := val_lt (F := F) h2; omega
      · omega
  · exact val_lt

theorem val_eq_iff (F r s : Nat) : val F r = val F s ↔ r = s := by
  have a := val_lt_iff F r s; have b := val_lt_iff F s r
  constructor
  · intro h; omega
  · intro h; rw [h]

theorem val_zero (F : Nat) : val F 0 = 0 := by simp [val, mg, Nat.two_pow_pos F]

theorem val_zero_iff (F r : Nat) : val F r = 0 ↔ r = 0 := by
  have := val_eq_iff F r 0; rw [val_zero] at this; exact this

/-- a word's place in the order of values: both noughts at 0 -/
def key (f : Format) (w : Nat) : Int := if (w / f.signWeight % 2 == 1) = true then -((w % f.signWeight : Nat) : Int) else ((w % f.signWeight : Nat) : Int)

theorem read_num (f : Format) (w : Nat) (h : w % f.signWeight < f.infRung) :
    f.read w = .number (w / f.signWeight % 2 == 1) (mg f.fractionBits (w % f.signWeight)) (f.leastPlace + (ex f.fractionBits (w % f.signWeight) : Nat)) := by
  unfold Format.read mg ex
  simp only [Format.binade]
  by_cases h1 : w % f.signWeight < 2 ^ f.fractionBits
  · simp [h1]
  · simp only [h1, if_false, h, if_true]

theorem binade_le_inf (f : Format) (he : 2 ≤ f.exponentBits) : f.binade ≤ f.infRung := by
  unfold Format.infRung
  have : 2 ^ 2 ≤ 2 ^ f.exponentBits := Nat.pow_le_pow_right (by omega) he
  exact Nat.le_mul_of_pos_left _ (by omega)

theorem read_inf (f : Format) (he : 2 ≤ f.exponentBits) (w : Nat) (h : w % f.signWeight = f.infRung) :
    f.read w = .infinity (w / f.signWeight % 2 == 1) := by
  have := binade_le_inf f he
  unfold Format.read
  dsimp only
  rw [if_neg (by omega), if_neg (by omega), if_pos h]

theorem read_nan (f : Format) (he : 2 ≤ f.exponentBits) (w : Nat) (h : f.infRung < w % f.signWeight) :
    f.read w = .nan (w / f.signWeight % 2 == 1) (w % f.signWeight - f.infRung) := by
  have := binade_le_inf f he
  unfold Format.read
  dsimp only
  rw [if_neg (by omega), if_neg (by omega), if_neg (by omega)]

theorem compare_congr {a b c d : Int} (h1 : a < b ↔ c < d) (h2 : a = b ↔ c = d) : compare a b = compare c d := by
  show compareOfLessAndEq a b = compareOfLessAndEq c d
  unfold compareOfLessAndEq
  simp only [h1, h2]

theorem signed_eq (s : Bool) (m k : Nat) : signed s m k = if s then -((m * 2 ^ k : Nat) : Int) else ((m * 2 ^ k : Nat) : Int) := by
  unfold signed; simp only [Nat.shiftLeft_eq]

theorem compare_signed (s t : Bool) (m n p q : Nat) (L : Int) :
    compare (signed s m (L + p - min (L + p) (L + q)).toNat) (signed t n (L + q - min (L + p) (L + q)).toNat) =
    compare (signed s (m * 2 ^ p) 0) (signed t (n * 2 ^ q) 0) := by
  have e1 : (L + p - min (L + p) (L + q)).toNat = p - min p q := by omega
  have e2 : (L + q - min (L + p) (L + q)).toNat = q - min p q := by omega
  rw [e1, e2]
  simp only [signed_eq, Nat.pow_zero, Nat.mul_one]
  generalize hc : min p q = c
  have hp : 2 ^ p = 2 ^ (p - c) * 2 ^ c := by rw [← Nat.pow_add]; congr 1; omega
  have hq : 2 ^ q = 2 ^ (q - c) * 2 ^ c := by rw [← Nat.pow_add]; congr 1; omega
  rw [hp, hq, ← Nat.mul_assoc, ← Nat.mul_assoc]
  generalize m * 2 ^ (p - c) = x
  generalize n * 2 ^ (q - c) = y
  have hpos : (0 : Int) < ((2 ^ c : Nat) : Int) := by have := Nat.two_pow_pos c; omega
  generalize (2 ^ c : Nat) = z at *
  have a1 : x < y ↔ x * z < y * z := by
    constructor
    · intro h; exact Nat.mul_lt_mul_of_pos_right h (by omega)
    · intro h; exact Nat.lt_of_mul_lt_mul_right h
  have a2 : y < x ↔ y * z < x * z := by
    constructor
    · intro h; exact Nat.mul_lt_mul_of_pos_right h (by omega)
    · intro h; exact Nat.lt_of_mul_lt_mul_right h
  have a3 : x = 0 ↔ x * z = 0 := by
    constructor
    · intro h; simp [h]
    · intro h; rcases Nat.mul_eq_zero.1 h with h | h <;> omega
  have a4 : y = 0 ↔ y * z = 0 := by
    constructor
    · intro h; simp [h]
    · intro h; rcases Nat.mul_eq_zero.1 h with h | h <;> omega
  apply compare_congr <;> cases s <;> cases t <;> simp only [if_true, if_false, Bool.false_eq_true] <;> omega

/-- THE ORDER OF TWO WORDS that are no NaNs is the order of their keys. -/
theorem order_key (f : Format) (he : 2 ≤ f.exponentBits) (v w : Nat) (hv : v % f.signWeight ≤ f.infRung) (hw : w % f.signWeight ≤ f.infRung) :
    f.order v w = some (compare (key f v) (key f w)) := by
  have hi : 0 < f.infRung := Nat.lt_of_lt_of_le (Nat.two_pow_pos _) (binade_le_inf f he)
  unfold Format.order key
  generalize hr : v % f.signWeight = r at *
  generalize hs : w % f.signWeight = s at *
  generalize hb : (v / f.signWeight % 2 == 1) = b
  generalize hc : (w / f.signWeight % 2 == 1) = c
  by_cases h1 : r = f.infRung <;> by_cases h2 : s = f.infRung
  · rw [read_inf f he v (by omega), read_inf f he w (by omega), hb, hc]
    simp only [Datum.order]
    congr 1
    rw [h1, h2]
    have : ((f.infRung : Nat) : Int) > 0 := by omega
    generalize ((f.infRung : Nat) : Int) = z at *
    show compareOfLessAndEq _ _ = compareOfLessAndEq _ _
    unfold compareOfLessAndEq
    cases b <;> cases c <;> simp only [if_true, if_false, Bool.false_eq_true, Bool.toNat_true, Bool.toNat_false] <;> (first | (rw [if_neg (by omega), if_pos rfl, if_neg (by omega), if_pos rfl]; done) | (rw [if_pos (by omega), if_pos (by omega)]; done) | (rw [if_neg (by omega), if_neg (by omega)]; done) | (rw [if_neg (by omega), if_neg (by omega), if_neg (by omega), if_neg (by omega)]; done))
  · rw [read_inf f he v (by omega), read_num f w (by omega), hb, hc]
    simp only [Datum.order]
    congr 1
    show _ = compareOfLessAndEq _ _
    unfold compareOfLessAndEq
    cases b <;> cases c <;> simp only [if_true, if_false, Bool.false_eq_true] <;> (first | rw [if_pos (by omega)] | (rw [if_neg (by omega), if_neg (by omega)]))
  · rw [read_num f v (by omega), read_inf f he w (by omega), hb, hc]
    simp only [Datum.order]
    congr 1
    show _ = compareOfLessAndEq _ _
    unfold compareOfLessAndEq
    cases b <;> cases c <;> simp only [if_true, if_false, Bool.false_eq_true] <;> (first | rw [if_pos (by omega)] | (rw [if_neg (by omega), if_neg (by omega)]))
  · rw [read_num f v (by omega), read_num f w (by omega), hb, hc, hr, hs]
    simp only [Datum.order]
    congr 1
    rw [compare_signed]
    simp only [signed_eq, Nat.pow_zero, Nat.mul_one]
    have a1 := val_lt_iff f.fractionBits r s
    have a2 := val_eq_iff f.fractionBits r s
    have a3 := val_zero_iff f.fractionBits r
    have a4 := val_zero_iff f.fractionBits s
    unfold val at a1 a2 a3 a4
    generalize mg f.fractionBits r * 2 ^ ex f.fractionBits r = x at *
    generalize mg f.fractionBits s * 2 ^ ex f.fractionBits s = y at *
    apply compare_congr <;> cases b <;> cases c <;> simp only [if_true, if_false, Bool.false_eq_true] <;> omega

theorem order_nan (f : Format) (he : 2 ≤ f.exponentBits) (v w : Nat) (h : f.infRung < v % f.signWeight ∨ f.infRung < w % f.signWeight) :
    f.order v w = none := by
  unfold Format.order
  rcases h with h | h
  · rw [read_nan f he v h]; simp only [Datum.order]
  · rw [read_nan f he w h]; cases f.read v <;> simp only [Datum.order]

/-! ### binary64 and binary32 -/

theorem sw64 : double.signWeight = 9223372036854775808 := by decide +kernel
theorem inf64 : double.infRung = 9218868437227405312 := by decide +kernel
theorem sw32 : single.signWeight = 2147483648 := by decide +kernel
theorem inf32 : single.infRung = 2139095040 := by decide +kernel

def key64 (b : Nat) : Int := if b < 9223372036854775808 then (b : Int) else 9223372036854775808 - (b : Int)

theorem key_double (b : Nat) (hb : b < 18446744073709551616) : key double b = key64 b := by
  unfold key key64
  rw [sw64]
  by_cases h : b < 9223372036854775808
  · have e1 : b / 9223372036854775808 = 0 := by omega
    have e2 : b % 9223372036854775808 = b := by omega
    rw [e1, e2]; simp [h]
  · have e1 : b / 9223372036854775808 = 1 := by omega
    have e2 : b % 9223372036854775808 = b - 9223372036854775808 := by omega
    rw [e1, e2]; simp [h]; omega

theorem order64 (a b : Nat) (ha : a < 18446744073709551616) (hb : b < 18446744073709551616)
    (na : a % 9223372036854775808 ≤ 9218868437227405312) (nb : b % 9223372036854775808 ≤ 9218868437227405312) :
    double.order a b = some (compare (key64 a) (key64 b)) := by
  rw [order_key double (by decide) a b (by rw [sw64, inf64]; exact na) (by rw [sw64, inf64]; exact nb), key_double a ha, key_double b hb]

theorem order64_nan (a b : Nat) (h : 9218868437227405312 < a % 9223372036854775808 ∨ 9218868437227405312 < b % 9223372036854775808) :
    double.order a b = none :=
  order_nan double (by decide) a b (by rw [sw64, inf64]; exact h)

def key32 (b : Nat) : Int := if b < 2147483648 then (b : Int) else 2147483648 - (b : Int)

theorem key_single (b : Nat) (hb : b < 4294967296) : key single b = key32 b := by
  unfold key key32
  rw [sw32]
  by_cases h : b < 2147483648
  · have e1 : b / 2147483648 = 0 := by omega
    have e2 : b % 2147483648 = b := by omega
    rw [e1, e2]; simp [h]
  · have e1 : b / 2147483648 = 1 := by omega
    have e2 : b % 2147483648 = b - 2147483648 := by omega
    rw [e1, e2]; simp [h]; omega

theorem order32 (a b : Nat) (ha : a < 4294967296) (hb : b < 4294967296)
    (na : a % 2147483648 ≤ 2139095040) (nb : b % 2147483648 ≤ 2139095040) :
    single.order a b = some (compare (key32 a) (key32 b)) := by
  rw [order_key single (by decide) a b (by rw [sw32, inf32]; exact na) (by rw [sw32, inf32]; exact nb), key_single a ha, key_single b hb]

theorem order32_nan (a b : Nat) (h : 2139095040 < a % 2147483648 ∨ 2139095040 < b % 2147483648) :
    single.order a b = none :=
  order_nan single (by decide) a b (by rw [sw32, inf32]; exact h)

theorem cmp_lt (a b : Int) : (some (compare a b) == some Ordering.lt) = decide (a < b) := by
  rw [Bool.eq_iff_iff]; simp [Int.compare_eq_lt]
theorem cmp_gt (a b : Int) : (some (compare a b) == some Ordering.gt) = decide (b < a) := by
  rw [Bool.eq_iff_iff]; simp [Int.compare_eq_gt]
theorem cmp_eq (a b : Int) : (some (compare a b) == some Ordering.eq) = decide (a = b) := by
  rw [Bool.eq_iff_iff]; simp

/-- the negated word of binary64 -/
theorem xor_top64 (b : Nat) (hb : b < 18446744073709551616) :
    b ^^^ 9223372036854775808 = if b < 9223372036854775808 then b + 9223372036854775808 else b - 9223372036854775808 := by
  have e1 : (b ^^^ 9223372036854775808) % 2 ^ 63 = b % 2 ^ 63 := by
    rw [Nat.xor_mod_two_pow]; simp
  have e2 : (b ^^^ 9223372036854775808) / 2 ^ 63 = (b / 2 ^ 63) ^^^ 1 := by
    rw [Nat.xor_div_two_pow]
  have e3 := Nat.div_add_mod (b ^^^ 9223372036854775808) (2 ^ 63)
  rw [e1, e2] at e3
  by_cases h : b < 9223372036854775808
  · have : b / 2 ^ 63 = 0 := by omega
    rw [this] at e3; simp at e3; simp [h]; omega
  · have : b / 2 ^ 63 = 1 := by omega
    rw [this] at e3; simp at e3; simp [h]; omega

theorem xor_top32 (b : Nat) (hb : b < 4294967296) :
    b ^^^ 2147483648 = if b < 2147483648 then b + 2147483648 else b - 2147483648 := by
  have e1 : (b ^^^ 2147483648) % 2 ^ 31 = b % 2 ^ 31 := by
    rw [Nat.xor_mod_two_pow]; simp
  have e2 : (b ^^^ 2147483648) / 2 ^ 31 = (b / 2 ^ 31) ^^^ 1 := by
    rw [Nat.xor_div_two_pow]
  have e3 := Nat.div_add_mod (b ^^^ 2147483648) (2 ^ 31)
  rw [e1, e2] at e3
  by_cases h : b < 2147483648
  · have : b / 2 ^ 31 = 0 := by omega
    rw [this] at e3; simp at e3; simp [h]; omega
  · have : b / 2 ^ 31 = 1 := by omega
    rw [this] at e3; simp at e3; simp [h]; omega

/-- a difference of two finite words of binary64 is a word -/
theorem sub64_some (a b : Nat) (na : a % 9223372036854775808 < 9218868437227405312) (nb : b % 9223372036854775808 < 9218868437227405312) :
    ∃ r, double.sub a b = some r := by
  unfold Format.sub
  rw [read_num double a (by rw [sw64, inf64]; exact na), read_num double b (by rw [sw64, inf64]; exact nb)]
  simp [Datum.opposite, Datum.sum]
end Ieee.Own
