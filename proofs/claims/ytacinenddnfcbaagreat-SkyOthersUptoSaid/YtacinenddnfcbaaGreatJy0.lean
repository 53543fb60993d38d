/- Proved here: what the texts Ieee, Exact, Rn, Eft, Ops prove, one behind the other. -/
import Ieee.Arith

namespace Ieee.Own

def mg (F r : Nat) : Nat := if r < 2 ^ F then r else 2 ^ F + r % 2 ^ F
def ex (F r : Nat) : Nat := if r < 2 ^ F then 0 else r / 2 ^ F - 1
def val (F r : Nat) : Nat := mg F r * 2 ^ ex F r

theorem val_step (F r : Nat) : val F r < val F (r + 1) := by
 have hB : 0 < 2 ^ F := Nat.two_pow_pos F
 unfold val mg ex
 generalize 2 ^ F = B at *
 by_cases h : r + 1 < B
 · simp [h, Nat.lt_of_succ_lt h]
 · by_cases h1 : r < B
   · obtain rfl : r + 1 = B := by omega
     simp
   · simp only [h, h1, if_false]
     have hq : 1 ≤ r / B := (Nat.le_div_iff_mul_le hB).2 (by omega)
     have e := Nat.div_add_mod r B
     have hm := Nat.mod_lt r hB
     by_cases h2 : r % B + 1 < B
     · have e1 : (r + 1) / B = r / B := by
        rw [Nat.div_eq_of_lt_le] <;> (try rw [Nat.add_mul]) <;> (try rw [Nat.mul_comm (r / B) B]) <;> omega
       have e2 : (r + 1) % B = r % B + 1 := by
        have := Nat.div_add_mod (r + 1) B; rw [e1] at this; omega
       rw [e1, e2]
       exact Nat.mul_lt_mul_of_pos_right (by omega) (Nat.two_pow_pos _)
     · have e1 : (r + 1) / B = r / B + 1 := by
        rw [Nat.div_eq_of_lt_le] <;> (try simp only [Nat.add_mul]) <;> (try rw [Nat.mul_comm (r / B) B]) <;> omega
       have e2 : (r + 1) % B = 0 := by
        have := Nat.div_add_mod (r + 1) B; rw [e1, Nat.mul_add] at this; omega
       rw [e1, e2]
       obtain ⟨q, hq'⟩ : ∃ q, r / B = q + 1 := ⟨r / B - 1, by omega⟩
       rw [hq']
       simp only [Nat.add_sub_cancel, Nat.add_zero, Nat.pow_succ]
       have : B * (2 ^ q * 2) = (2 * B) * 2 ^ q := by
        rw [Nat.mul_comm (2 ^ q) 2, ← Nat.mul_assoc, Nat.mul_comm B 2]
       rw [this]
       exact Nat.mul_lt_mul_of_pos_right (by omega) (Nat.two_pow_pos _)

theorem val_lt {F r s : Nat} (h : r < s) : val F r < val F s := by
 induction s with
 | zero => omega
 | succ s ih =>
   by_cases e : r = s
   · subst e; exact val_step F r
   · exact Nat.lt_trans (ih (by omega)) (val_step F s)

theorem val_lt_iff (F r s : Nat) : val F r < val F s ↔ r < s := by
 constructor
 · intro h
   by_cases e : r = s
   · subst e; omega
   · by_cases h2 : s < r
     · have := val_lt (F := F) h2; omega
     · omega
 · exact val_lt

theorem val_eq_iff (F r s : Nat) : val F r = val F s ↔ r = s := by
 have a := val_lt_iff F r s; have b := val_lt_iff F s r
 constructor
 · intro h; omega
 · intro h; rw [h]

theorem val_zero (F : Nat) : val F 0 = 0 := by simp [val, mg, Nat.two_pow_pos F]

theorem val_zero_iff (F r : Nat) : val F r = 0 ↔ r = 0 := by
 have := val_eq_iff F r 0; rw [val_zero] at this; exact this

def key (f : Format) (w : Nat) : Int := if (w / f.signWeight % 2 == 1) = true then -((w % f.signWeight : Nat) : Int) else ((w % f.signWeight : Nat) : Int)

theorem read_num (f : Format) (w : Nat) (h : w % f.signWeight < f.infRung) :
 f.read w = .number (w / f.signWeight % 2 == 1) (mg f.fractionBits (w % f.signWeight)) (f.leastPlace + (ex f.fractionBits (w % f.signWeight) : Nat)) := by
 unfold Format.read mg ex
 simp only [Format.binade]
 by_cases h1 : w % f.signWeight < 2 ^ f.fractionBits
 · simp [h1]
 · simp only [h1, if_false, h, if_true]

theorem binade_le_inf (f : Format) (he : 2 ≤ f.exponentBits) : f.binade ≤ f.infRung := by
 unfold Format.infRung
 have : 2 ^ 2 ≤ 2 ^ f.exponentBits := Nat.pow_le_pow_right (by omega) he
 exact Nat.le_mul_of_pos_left _ (by omega)

theorem read_inf (f : Format) (he : 2 ≤ f.exponentBits) (w : Nat) (h : w % f.signWeight = f.infRung) :
 f.read w = .infinity (w / f.signWeight % 2 == 1) := by
 have := binade_le_inf f he
 unfold Format.read
 dsimp only
 rw [if_neg (by omega), if_neg (by omega), if_pos h]

theorem read_nan (f : Format) (he : 2 ≤ f.exponentBits) (w : Nat) (h : f.infRung < w % f.signWeight) :
 f.read w = .nan (w / f.signWeight % 2 == 1) (w % f.signWeight - f.infRung) := by
 have := binade_le_inf f he
 unfold Format.read
 dsimp only
 rw [if_neg (by omega), if_neg (by omega), if_neg (by omega)]

theorem compare_congr {a b c d : Int} (h1 : a < b ↔ c < d) (h2 : a = b ↔ c = d) : compare a b = compare c d := by
 show compareOfLessAndEq a b = compareOfLessAndEq c d
 unfold compareOfLessAndEq
 simp only [h1, h2]

theorem signed_eq (s : Bool) (m k : Nat) : signed s m k = if s then -((m * 2 ^ k : Nat) : Int) else ((m * 2 ^ k : Nat) : Int) := by
 unfold signed; simp only [Nat.shiftLeft_eq]

theorem compare_signed (s t : Bool) (m n p q : Nat) (L : Int) :
 compare (signed s m (L + p - min (L + p) (L + q)).toNat) (signed t n (L + q - min (L + p) (L + q)).toNat) =
 compare (signed s (m * 2 ^ p) 0) (signed t (n * 2 ^ q) 0) := by
 have e1 : (L + p - min (L + p) (L + q)).toNat = p - min p q := by omega
 have e2 : (L + q - min (L + p) (L + q)).toNat = q - min p q := by omega
 rw [e1, e2]
 simp only [signed_eq, Nat.pow_zero, Nat.mul_one]
 generalize hc : min p q = c
 have hp : 2 ^ p = 2 ^ (p - c) * 2 ^ c := by rw [← Nat.pow_add]; congr 1; omega
 have hq : 2 ^ q = 2 ^ (q - c) * 2 ^ c := by rw [← Nat.pow_add]; congr 1; omega
 rw [hp, hq, ← Nat.mul_assoc, ← Nat.mul_assoc]
 generalize m * 2 ^ (p - c) = x
 generalize n * 2 ^ (q - c) = y
 have hpos : (0 : Int) < ((2 ^ c : Nat) : Int) := by have := Nat.two_pow_pos c; omega
 generalize (2 ^ c : Nat) = z at *
 have a1 : x < y ↔ x * z < y * z := by
  constructor
  · intro h; exact Nat.mul_lt_mul_of_pos_right h (by omega)
  · intro h; exact Nat.lt_of_mul_lt_mul_right h
 have a2 : y < x ↔ y * z < x * z := by
  constructor
  · intro h; exact Nat.mul_lt_mul_of_pos_right h (by omega)
  · intro h; exact Nat.lt_of_mul_lt_mul_right h
 have a3 : x = 0 ↔ x * z = 0 := by
  constructor
  · intro h; simp [h]
  · intro h; rcases Nat.mul_eq_zero.1 h with h | h <;> omega
 have a4 : y = 0 ↔ y * z = 0 := by
  constructor
  · intro h; simp [h]
  · intro h; rcases Nat.mul_eq_zero.1 h with h | h <;> omega
 apply compare_congr <;> cases s <;> cases t <;> simp only [if_true, if_false, Bool.false_eq_true] <;> omega

theorem order_key (f : Format) (he : 2 ≤ f.exponentBits) (v w : Nat) (hv : v % f.signWeight ≤ f.infRung) (hw : w % f.signWeight ≤ f.infRung) :
 f.order v w = some (compare (key f v) (key f w)) := by
 have hi : 0 < f.infRung := Nat.lt_of_lt_of_le (Nat.two_pow_pos _) (binade_le_inf f he)
 unfold Format.order key
 generalize hr : v % f.signWeight = r at *
 generalize hs : w % f.signWeight = s at *
 generalize hb : (v / f.signWeight % 2 == 1) = b
 generalize hc : (w / f.signWeight % 2 == 1) = c
 by_cases h1 : r = f.infRung <;> by_cases h2 : s = f.infRung
 · rw [read_inf f he v (by omega), read_inf f he w (by omega), hb, hc]
   simp only [Datum.order]
   congr 1
   rw [h1, h2]
   have : ((f.infRung : Nat) : Int) > 0 := by omega
   generalize ((f.infRung : Nat) : Int) = z at *
   show compareOfLessAndEq _ _ = compareOfLessAndEq _ _
   unfold compareOfLessAndEq
   cases b <;> cases c <;> simp only [if_true, if_false, Bool.false_eq_true, Bool.toNat_true, Bool.toNat_false] <;> (first | (rw [if_neg (by omega), if_pos rfl, if_neg (by omega), if_pos rfl]; done) | (rw [if_pos (by omega), if_pos (by omega)]; done) | (rw [if_neg (by omega), if_neg (by omega)]; done) | (rw [if_neg (by omega), if_neg (by omega), if_neg (by omega), if_neg (by omega)]; done))
 · rw [read_inf f he v (by omega), read_num f w (by omega), hb, hc]
   simp only [Datum.order]
   congr 1
   show _ = compareOfLessAndEq _ _
   unfold compareOfLessAndEq
   cases b <;> cases c <;> simp only [if_true, if_false, Bool.false_eq_true] <;> (first | rw [if_pos (by omega)] | (rw [if_neg (by omega), if_neg (by omega)]))
 · rw [read_num f v (by omega), read_inf f he w (by omega), hb, hc]
   simp only [Datum.order]
   congr 1
   show _ = compareOfLessAndEq _ _
   unfold compareOfLessAndEq
   cases b <;> cases c <;> simp only [if_true, if_false, Bool.false_eq_true] <;> (first | rw [if_pos (by omega)] | (rw [if_neg (by omega), if_neg (by omega)]))
 · rw [read_num f v (by omega), read_num f w (by omega), hb, hc, hr, hs]
   simp only [Datum.order]
   congr 1
   rw [compare_signed]
   simp only [signed_eq, Nat.pow_zero, Nat.mul_one]
   have a1 := val_lt_iff f.fractionBits r s
   have a2 := val_eq_iff f.fractionBits r s
   have a3 := val_zero_iff f.fractionBits r
   have a4 := val_zero_iff f.fractionBits s
   unfold val at a1 a2 a3 a4
   generalize mg f.fractionBits r * 2 ^ ex f.fractionBits r = x at *
   generalize mg f.fractionBits s * 2 ^ ex f.fractionBits s = y at *
   apply compare_congr <;> cases b <;> cases c <;> simp only [if_true, if_false, Bool.false_eq_true] <;> omega

theorem order_nan (f : Format) (he : 2 ≤ f.exponentBits) (v w : Nat) (h : f.infRung < v % f.signWeight ∨ f.infRung < w % f.signWeight) :
 f.order v w = none := by
 unfold Format.order
 rcases h with h | h
 · rw [read_nan f he v h]; simp only [Datum.order]
 · rw [read_nan f he w h]; cases f.read v <;> simp only [Datum.order]


theorem sw64 : double.signWeight = 9223372036854775808 := by decide +kernel
theorem inf64 : double.infRung = 9218868437227405312 := by decide +kernel
theorem sw32 : single.signWeight = 2147483648 := by decide +kernel
theorem inf32 : single.infRung = 2139095040 := by decide +kernel

def key64 (b : Nat) : Int := if b < 9223372036854775808 then (b : Int) else 9223372036854775808 - (b : Int)

theorem key_double (b : Nat) (hb : b < 18446744073709551616) : key double b = key64 b := by
 unfold key key64
 rw [sw64]
 by_cases h : b < 9223372036854775808
 · have e1 : b / 9223372036854775808 = 0 := by omega
   have e2 : b % 9223372036854775808 = b := by omega
   rw [e1, e2]; simp [h]
 · have e1 : b / 9223372036854775808 = 1 := by omega
   have e2 : b % 9223372036854775808 = b - 9223372036854775808 := by omega
   rw [e1, e2]; simp [h]; omega

theorem order64 (a b : Nat) (ha : a < 18446744073709551616) (hb : b < 18446744073709551616)
 (na : a % 9223372036854775808 ≤ 9218868437227405312) (nb : b % 9223372036854775808 ≤ 9218868437227405312) :
 double.order a b = some (compare (key64 a) (key64 b)) := by
 rw [order_key double (by decide) a b (by rw [sw64, inf64]; exact na) (by rw [sw64, inf64]; exact nb), key_double a ha, key_double b hb]

theorem order64_nan (a b : Nat) (h : 9218868437227405312 < a % 9223372036854775808 ∨ 9218868437227405312 < b % 9223372036854775808) :
 double.order a b = none :=
 order_nan double (by decide) a b (by rw [sw64, inf64]; exact h)

theorem cmp_lt (a b : Int) : (some (compare a b) == some Ordering.lt) = decide (a < b) := by
 rw [Bool.eq_iff_iff]; simp [Int.compare_eq_lt]
theorem cmp_gt (a b : Int) : (some (compare a b) == some Ordering.gt) = decide (b < a) := by
 rw [Bool.eq_iff_iff]; simp [Int.compare_eq_gt]
theorem cmp_eq (a b : Int) : (some (compare a b) == some Ordering.eq) = decide (a = b) := by
 rw [Bool.eq_iff_iff]; simp

theorem xor_top64 (b : Nat) (hb : b < 18446744073709551616) :
 b ^^^ 9223372036854775808 = if b < 9223372036854775808 then b + 9223372036854775808 else b - 9223372036854775808 := by
 have e1 : (b ^^^ 9223372036854775808) % 2 ^ 63 = b % 2 ^ 63 := by
  rw [Nat.xor_mod_two_pow]; simp
 have e2 : (b ^^^ 9223372036854775808) / 2 ^ 63 = (b / 2 ^ 63) ^^^ 1 := by
  rw [Nat.xor_div_two_pow]
 have e3 := Nat.div_add_mod (b ^^^ 9223372036854775808) (2 ^ 63)
 rw [e1, e2] at e3
 by_cases h : b < 9223372036854775808
 · have : b / 2 ^ 63 = 0 := by omega
   rw [this] at e3; simp at e3; simp [h]; omega
 · have : b / 2 ^ 63 = 1 := by omega
   rw [this] at e3; simp at e3; simp [h]; omega

end Ieee.Own

namespace Ieee.Own

theorem log2_shift (x k : Nat) (h : x ≠ 0) : (x * 2 ^ k).log2 = x.log2 + k := by
 have h2 : x * 2 ^ k ≠ 0 := by have := Nat.two_pow_pos k; exact Nat.mul_ne_zero h (by omega)
 rw [Nat.log2_eq_iff h2]
 have := (Nat.log2_eq_iff h).1 rfl
 constructor
 · rw [Nat.pow_add]; exact Nat.mul_le_mul_right _ this.1
 · rw [show x.log2 + k + 1 = (x.log2 + 1) + k by omega, Nat.pow_add]; exact Nat.mul_lt_mul_of_pos_right this.2 (Nat.two_pow_pos k)

theorem cut_exact (s : Bool) (n d : Nat) (h : n ≠ 0) : Toward.even.cut s (n * 2 ^ d) d = n := by
 unfold Toward.cut
 have hl : min d ((n * 2 ^ d).log2 + 2) = d := by rw [log2_shift n d h]; omega
 simp only [hl, Nat.one_shiftLeft]
 have hp := Nat.two_pow_pos d
 rw [Nat.mul_div_cancel _ hp, Nat.mul_mod_left]
 have e : (2 ^ d == 2 * 0) = false := by simp
 simp

theorem mg_lt (F r : Nat) : mg F r < 2 ^ (F + 1) := by
 have hB := Nat.two_pow_pos F
 unfold mg; rw [Nat.pow_succ]
 have := Nat.mod_lt r hB
 split <;> omega

theorem nearest_exact (f : Format) (s : Bool) (m : Nat) (place : Int) (r a c : Nat) (hr : r < f.infRung)
 (hm : m * 2 ^ a = val f.fractionBits r * 2 ^ c) (hp : place = f.leastPlace + a - c) : f.nearest s m place = f.word s r := by
 have hB := Nat.two_pow_pos f.fractionBits
 unfold Format.nearest
 by_cases h0 : m = 0
 · subst h0
   have : val f.fractionBits r = 0 := by
    have hc := Nat.two_pow_pos c
    rcases Nat.mul_eq_zero.1 (by omega : val f.fractionBits r * 2 ^ c = 0) with h | h <;> omega
   rw [val_zero_iff] at this
   simp [this]
 rw [if_neg h0]
 have hr0 : r ≠ 0 := by
  intro h; subst h; rw [val_zero] at hm
  have := Nat.two_pow_pos a
  rcases Nat.mul_eq_zero.1 (by omega : m * 2 ^ a = 0) with h | h <;> omega
 have hg0 : mg f.fractionBits r ≠ 0 := by unfold mg; split <;> omega
 unfold val at hm
 rw [Nat.mul_assoc, ← Nat.pow_add] at hm
 have hlog : m.log2 + a = (mg f.fractionBits r).log2 + (ex f.fractionBits r + c) := by
  rw [← log2_shift m a h0, hm, log2_shift _ _ hg0]
 have hlast : max (place + m.log2 - f.fractionBits) f.leastPlace = f.leastPlace + ex f.fractionBits r := by
  by_cases hs : r < 2 ^ f.fractionBits
  · have e1 : ex f.fractionBits r = 0 := if_pos hs
    have e2 : mg f.fractionBits r = r := if_pos hs
    rw [e1, e2] at hlog
    have : r.log2 < f.fractionBits := (Nat.log2_lt hr0).2 hs
    rw [e1]; omega
  · have e2 : mg f.fractionBits r = 2 ^ f.fractionBits + r % 2 ^ f.fractionBits := if_neg hs
    have : (mg f.fractionBits r).log2 = f.fractionBits := by
        rw [Nat.log2_eq_iff hg0, e2, Nat.pow_succ]
        have := Nat.mod_lt r hB
        constructor <;> omega
    rw [this] at hlog
    omega
 rw [hlast]
 have hk : Toward.even.cut s (m <<< (place - (f.leastPlace + ex f.fractionBits r)).toNat) (f.leastPlace + ex f.fractionBits r - place).toNat = mg f.fractionBits r := by
  rw [Nat.shiftLeft_eq]
  by_cases hac : ex f.fractionBits r + c ≤ a
  · have e1 : (place - (f.leastPlace + ex f.fractionBits r)).toNat = a - (ex f.fractionBits r + c) := by omega
    have e2 : (f.leastPlace + ex f.fractionBits r - place).toNat = 0 := by omega
    have e3 : m * 2 ^ (a - (ex f.fractionBits r + c)) = mg f.fractionBits r := by
        have hq : 2 ^ a = 2 ^ (a - (ex f.fractionBits r + c)) * 2 ^ (ex f.fractionBits r + c) := by rw [← Nat.pow_add]; congr 1; omega
        rw [hq, ← Nat.mul_assoc] at hm
        exact Nat.eq_of_mul_eq_mul_right (Nat.two_pow_pos _) hm
    rw [e1, e2, e3]
    have := cut_exact s (mg f.fractionBits r) 0 hg0
    simpa using this
  · have e1 : (place - (f.leastPlace + ex f.fractionBits r)).toNat = 0 := by omega
    have e2 : (f.leastPlace + ex f.fractionBits r - place).toNat = ex f.fractionBits r + c - a := by omega
    have e3 : m = mg f.fractionBits r * 2 ^ (ex f.fractionBits r + c - a) := by
        have hq : 2 ^ (ex f.fractionBits r + c) = 2 ^ (ex f.fractionBits r + c - a) * 2 ^ a := by rw [← Nat.pow_add]; congr 1; omega
        rw [hq, ← Nat.mul_assoc] at hm
        exact Nat.eq_of_mul_eq_mul_right (Nat.two_pow_pos _) hm
    rw [e1, e2]
    simp only [Nat.pow_zero, Nat.mul_one]
    conv => lhs; rw [e3]
    exact cut_exact s _ _ hg0
 dsimp only
 rw [hk]
 have hres : (f.leastPlace + ex f.fractionBits r - f.leastPlace).toNat * f.binade + mg f.fractionBits r = r := by
  rw [show (f.leastPlace + ex f.fractionBits r - f.leastPlace).toNat = ex f.fractionBits r by omega]
  unfold Format.binade mg ex
  by_cases hs : r < 2 ^ f.fractionBits
  · simp [hs]
  · simp only [hs, if_false]
    have e := Nat.div_add_mod r (2 ^ f.fractionBits)
    have hq : 1 ≤ r / 2 ^ f.fractionBits := (Nat.le_div_iff_mul_le hB).2 (by omega)
    obtain ⟨q, hq'⟩ : ∃ q, r / 2 ^ f.fractionBits = q + 1 := ⟨r / 2 ^ f.fractionBits - 1, by omega⟩
    rw [hq'] at e ⊢
    rw [Nat.mul_add] at e
    rw [show q + 1 - 1 = q by omega, Nat.mul_comm q]
    omega
 rw [hres, Nat.min_eq_left (by omega)]

theorem rep (F n k j : Nat) (h : n = k * 2 ^ j) (hk : k < 2 ^ (F + 1)) : ∃ r, val F r = n := by
 have hB := Nat.two_pow_pos F
 by_cases hs : n < 2 ^ F
 · exact ⟨n, by unfold val mg ex; simp [hs]⟩
 have hn0 : n ≠ 0 := by omega
 have hk0 : k ≠ 0 := by intro e; subst e; simp at h; omega
 have hlog : n.log2 = k.log2 + j := by rw [h, log2_shift k j hk0]
 have hkl : k.log2 < F + 1 := (Nat.log2_lt hk0).2 hk
 have hnl : F ≤ n.log2 := (Nat.le_log2 hn0).2 (by omega)
 obtain ⟨t, ht⟩ : ∃ t, n.log2 = F + t := ⟨n.log2 - F, by omega⟩
 have htj : t ≤ j := by omega
 -- n = q * 2 ^ t
 have hq : n = (k * 2 ^ (j - t)) * 2 ^ t := by
  rw [Nat.mul_assoc, ← Nat.pow_add, show j - t + t = j by omega]; exact h
 generalize hqq : k * 2 ^ (j - t) = q at hq
 have hb := (Nat.log2_eq_iff hn0).1 ht
 rw [hq, show F + t + 1 = (F + 1) + t by omega, Nat.pow_add, Nat.pow_add] at hb
 have hp := Nat.two_pow_pos t
 have h1 : 2 ^ F ≤ q := Nat.le_of_mul_le_mul_right hb.1 hp
 have h2 : q < 2 ^ (F + 1) := Nat.lt_of_mul_lt_mul_right hb.2
 rw [Nat.pow_succ] at h2
 refine ⟨t * 2 ^ F + q, ?_⟩
 have d1 : (t * 2 ^ F + q) / 2 ^ F = t + 1 := by
  rw [Nat.mul_comm, Nat.mul_add_div hB]
  congr 1
  rw [Nat.div_eq_of_lt_le] <;> omega
 have d2 : (t * 2 ^ F + q) % 2 ^ F = q - 2 ^ F := by
  rw [Nat.mul_comm, Nat.mul_add_mod]
  rw [Nat.mod_eq_sub_mod h1, Nat.mod_eq_of_lt (by omega)]
 unfold val mg ex
 rw [d1, d2]
 have hge : ¬ t * 2 ^ F + q < 2 ^ F := by omega
 simp only [hge, if_false]
 rw [show 2 ^ F + (q - 2 ^ F) = q by omega, show t + 1 - 1 = t by omega]
 exact hq.symm

end Ieee.Own

namespace Ieee.Own

def rne (n d : Nat) : Nat :=
 if 2 ^ d < 2 * (n % 2 ^ d) ∨ (2 ^ d = 2 * (n % 2 ^ d) ∧ n / 2 ^ d % 2 = 1) then n / 2 ^ d + 1 else n / 2 ^ d

theorem rne_bounds (n d : Nat) : n / 2 ^ d ≤ rne n d ∧ rne n d ≤ n / 2 ^ d + 1 := by
 unfold rne; split <;> omega

theorem rne_up (n d : Nat) : 2 * (rne n d * 2 ^ d) ≤ 2 * n + 2 ^ d := by
 have hp := Nat.two_pow_pos d
 have e := Nat.div_add_mod n (2 ^ d)
 have hm := Nat.mod_lt n hp
 unfold rne
 rw [Nat.mul_comm] at e
 generalize n % 2 ^ d = r at *
 generalize n / 2 ^ d = q at *
 generalize 2 ^ d = g at *
 split
 · rw [Nat.add_mul]; omega
 · omega
theorem rne_down (n d : Nat) : 2 * n ≤ 2 * (rne n d * 2 ^ d) + 2 ^ d := by
 have hp := Nat.two_pow_pos d
 have e := Nat.div_add_mod n (2 ^ d)
 have hm := Nat.mod_lt n hp
 unfold rne
 rw [Nat.mul_comm] at e
 generalize n % 2 ^ d = r at *
 generalize n / 2 ^ d = q at *
 generalize 2 ^ d = g at *
 split
 · rw [Nat.add_mul]; omega
 · omega

theorem rne_exact (k d : Nat) : rne (k * 2 ^ d) d = k := by
 have hp := Nat.two_pow_pos d
 unfold rne
 rw [Nat.mul_mod_left, Nat.mul_div_cancel _ hp]
 split <;> omega

theorem rne_scale (n d j : Nat) : rne (n * 2 ^ j) (d + j) = rne n d := by
 have hp := Nat.two_pow_pos j
 unfold rne
 rw [Nat.pow_add, Nat.mul_mod_mul_right, Nat.mul_div_mul_right _ _ hp, ← Nat.mul_assoc]
 have a1 : 2 ^ d * 2 ^ j < 2 * (n % 2 ^ d) * 2 ^ j ↔ 2 ^ d < 2 * (n % 2 ^ d) :=
  ⟨fun h => Nat.lt_of_mul_lt_mul_right h, fun h => Nat.mul_lt_mul_of_pos_right h hp⟩
 have a2 : 2 ^ d * 2 ^ j = 2 * (n % 2 ^ d) * 2 ^ j ↔ 2 ^ d = 2 * (n % 2 ^ d) :=
  ⟨fun h => Nat.eq_of_mul_eq_mul_right hp h, fun h => congrArg (· * 2 ^ j) h⟩
 simp only [a1, a2]

theorem rne_mono {n m : Nat} (d : Nat) (h : n ≤ m) : rne n d ≤ rne m d := by
 have hp := Nat.two_pow_pos d
 have hq : n / 2 ^ d ≤ m / 2 ^ d := Nat.div_le_div_right h
 have e := Nat.div_add_mod n (2 ^ d)
 have e' := Nat.div_add_mod m (2 ^ d)
 have b1 := rne_bounds n d
 have b2 := rne_bounds m d
 by_cases h2 : n / 2 ^ d < m / 2 ^ d
 · omega
 · have h3 : n / 2 ^ d = m / 2 ^ d := by omega
   unfold rne
   rw [h3] at e ⊢
   generalize n % 2 ^ d = r at *
   generalize m % 2 ^ d = s at *
   generalize m / 2 ^ d = q at *
   generalize 2 ^ d = g at *
   split <;> split <;> omega

def dr (n : Nat) : Nat := n.log2 - 52
def rn (n : Nat) : Nat := rne n (dr n) * 2 ^ dr n

theorem dr_lt (n : Nat) : n < 2 ^ (53 + dr n) := by
 by_cases h : n = 0
 · subst h; exact Nat.two_pow_pos _
 · have := ((Nat.log2_eq_iff h).1 rfl).2
   exact Nat.lt_of_lt_of_le this (Nat.pow_le_pow_right (by omega) (by unfold dr; omega))
theorem dr_le (n : Nat) (h : 0 < dr n) : 2 ^ (52 + dr n) ≤ n := by
 have h0 : n ≠ 0 := by intro e; subst e; simp [dr] at h
 have := ((Nat.log2_eq_iff h0).1 rfl).1
 rw [show 52 + dr n = n.log2 by unfold dr at *; omega]
 exact this
theorem dr_of_lt {n d : Nat} (h : n < 2 ^ (53 + d)) : dr n ≤ d := by
 by_cases h0 : n = 0
 · subst h0; simp [dr]
 · have := (Nat.log2_lt h0).2 h
   unfold dr; omega

theorem rn_exact (k e : Nat) (h : k ≤ 2 ^ 53) : rn (k * 2 ^ e) = k * 2 ^ e := by
 have hd : ∃ c, k * 2 ^ e = c * 2 ^ dr (k * 2 ^ e) := by
  by_cases hk : k < 2 ^ 53
  · have : dr (k * 2 ^ e) ≤ e := by
        apply dr_of_lt
        rw [Nat.pow_add]; exact Nat.mul_lt_mul_of_pos_right hk (Nat.two_pow_pos e)
    refine ⟨k * 2 ^ (e - dr (k * 2 ^ e)), ?_⟩
    rw [Nat.mul_assoc, ← Nat.pow_add, show e - dr (k * 2 ^ e) + dr (k * 2 ^ e) = e by omega]
  · have hk : k = 2 ^ 53 := by omega
    have : dr (k * 2 ^ e) ≤ e + 1 := by
        apply dr_of_lt
        rw [hk, ← Nat.pow_add]; exact Nat.pow_lt_pow_right (by omega) (by omega)
    refine ⟨2 ^ (53 + e - dr (k * 2 ^ e)), ?_⟩
    conv => lhs; rw [hk, ← Nat.pow_add]
    rw [← Nat.pow_add]; congr 1; omega
 obtain ⟨c, hc⟩ := hd
 unfold rn
 generalize dr (k * 2 ^ e) = d at *
 rw [hc, rne_exact]

theorem rn_small (n : Nat) (h : n ≤ 2 ^ 53) : rn n = n := by
 have := rn_exact n 0 h; simpa using this

theorem rn_form (n : Nat) : ∃ k e, rn n = k * 2 ^ e ∧ k ≤ 2 ^ 53 := by
 refine ⟨rne n (dr n), dr n, rfl, ?_⟩
 have h := dr_lt n
 have hp := Nat.two_pow_pos (dr n)
 have : n / 2 ^ dr n < 2 ^ 53 := by
  rw [Nat.div_lt_iff_lt_mul hp, ← Nat.pow_add]; exact h
 have := rne_bounds n (dr n)
 omega

theorem rn_mono {n m : Nat} (h : n ≤ m) : rn n ≤ rn m := by
 by_cases hd : dr n = dr m
 · unfold rn; rw [hd]; exact Nat.mul_le_mul_right _ (rne_mono _ h)
 · have hle : dr n ≤ dr m := dr_of_lt (Nat.lt_of_le_of_lt h (dr_lt m))
   have hlt : dr n < dr m := by omega
   have h1 : rn n ≤ 2 ^ (53 + dr n) := by
    have hp := Nat.two_pow_pos (dr n)
    have : n / 2 ^ dr n < 2 ^ 53 := by
        rw [Nat.div_lt_iff_lt_mul hp, ← Nat.pow_add]; exact dr_lt n
    have b := rne_bounds n (dr n)
    unfold rn; rw [Nat.pow_add]
    exact Nat.mul_le_mul_right _ (by omega)
   have h2 : 2 ^ (52 + dr m) ≤ rn m := by
    have hp := Nat.two_pow_pos (dr m)
    have := dr_le m (by omega)
    have b := rne_bounds m (dr m)
    have : 2 ^ 52 ≤ m / 2 ^ dr m := by rw [Nat.le_div_iff_mul_le hp, ← Nat.pow_add]; exact this
    unfold rn; rw [Nat.pow_add]
    exact Nat.mul_le_mul_right _ (by omega)
   have h3 : 2 ^ (53 + dr n) ≤ 2 ^ (52 + dr m) := Nat.pow_le_pow_right (by omega) (by omega)
   omega

theorem rn_scale (n j : Nat) : rn (n * 2 ^ j) = rn n * 2 ^ j := by
 by_cases h : n ≤ 2 ^ 53
 · rw [rn_exact n j h, rn_small n h]
 · have h0 : n ≠ 0 := by omega
   have hl : 53 ≤ n.log2 := (Nat.le_log2 h0).2 (by omega)
   have hd : dr (n * 2 ^ j) = dr n + j := by unfold dr; rw [log2_shift n j h0]; omega
   unfold rn
   rw [hd, rne_scale, Nat.pow_add, Nat.mul_assoc]

theorem rn_err_up {n d : Nat} (h : n < 2 ^ (53 + d)) : 2 * rn n ≤ 2 * n + 2 ^ d := by
 have := rne_up n (dr n)
 have := Nat.pow_le_pow_right (n := 2) (by omega) (dr_of_lt h)
 unfold rn; omega
theorem rn_err_down {n d : Nat} (h : n < 2 ^ (53 + d)) : 2 * n ≤ 2 * rn n + 2 ^ d := by
 have := rne_down n (dr n)
 have := Nat.pow_le_pow_right (n := 2) (by omega) (dr_of_lt h)
 unfold rn; omega

theorem rn_dvd (n f : Nat) (h : 2 ^ f ∣ n) : 2 ^ f ∣ rn n := by
 by_cases hd : dr n ≤ f
 · obtain ⟨c, hc⟩ : 2 ^ dr n ∣ n := Nat.dvd_trans (Nat.pow_dvd_pow 2 hd) h
   have : rn n = n := by
    unfold rn
    generalize dr n = d at *
    rw [hc, Nat.mul_comm (2 ^ d) c]
    exact congrArg (· * 2 ^ d) (rne_exact c d)
   rw [this]; exact h
 · exact Nat.dvd_trans (Nat.pow_dvd_pow 2 (by omega)) (Nat.dvd_mul_left _ _)

def Rep (z : Int) : Prop := ∃ k e : Nat, k ≤ 2 ^ 53 ∧ z.natAbs = k * 2 ^ e
def RN (z : Int) : Int := if z < 0 then -(rn z.natAbs : Int) else (rn z.natAbs : Int)

theorem RN_abs (z : Int) : (RN z).natAbs = rn z.natAbs := by unfold RN; split <;> omega
theorem rn_zero : rn 0 = 0 := rn_small 0 (by omega)
theorem RN_neg (z : Int) : RN (-z) = -RN z := by
 unfold RN
 rw [Int.natAbs_neg]
 by_cases h : z = 0
 · subst h; simp [rn_zero]
 · split <;> split <;> omega
theorem RN_sign (z : Int) : (0 ≤ z → 0 ≤ RN z) ∧ (z ≤ 0 → RN z ≤ 0) := by
 constructor
 · intro h; unfold RN; rw [if_neg (by omega)]; omega
 · intro h
   by_cases h0 : z = 0
   · subst h0; simp [RN, rn_zero]
   · unfold RN; rw [if_pos (by omega)]; omega
theorem RN_rep (z : Int) : Rep (RN z) := by
 obtain ⟨k, e, h1, h2⟩ := rn_form z.natAbs
 exact ⟨k, e, h2, by rw [RN_abs]; exact h1⟩
theorem Rep_neg {z : Int} (h : Rep z) : Rep (-z) := by
 obtain ⟨k, e, h1, h2⟩ := h; exact ⟨k, e, h1, by rw [Int.natAbs_neg]; exact h2⟩
theorem Rep_zero : Rep 0 := ⟨0, 0, by omega, by simp⟩
theorem RN_exact {z : Int} (h : Rep z) : RN z = z := by
 obtain ⟨k, e, h1, h2⟩ := h
 unfold RN
 rw [h2, rn_exact k e h1]
 split <;> omega
theorem RN_mono {x y : Int} (h : x ≤ y) : RN x ≤ RN y := by
 unfold RN
 split <;> split
 · have := rn_mono (show y.natAbs ≤ x.natAbs by omega); omega
 · omega
 · omega
 · have := rn_mono (show x.natAbs ≤ y.natAbs by omega); omega
theorem Rep_mul (z : Int) (j : Nat) (h : Rep z) : Rep (z * 2 ^ j) := by
 obtain ⟨k, e, h1, h2⟩ := h
 exact ⟨k, e + j, h1, by rw [Int.natAbs_mul, h2, Int.natAbs_pow, Nat.pow_add, Nat.mul_assoc]; rfl⟩
theorem RN_scale (z : Int) (j : Nat) : RN (z * 2 ^ j) = RN z * 2 ^ j := by
 have hp : (0 : Int) < 2 ^ j := Int.pow_pos (by omega)
 have ha : (z * 2 ^ j).natAbs = z.natAbs * 2 ^ j := by rw [Int.natAbs_mul, Int.natAbs_pow]; rfl
 unfold RN
 rw [ha, rn_scale]
 by_cases h : z < 0
 · have : z * 2 ^ j < 0 := Int.mul_neg_of_neg_of_pos h hp
   rw [if_pos this, if_pos h, Int.neg_mul]; simp
 · have : ¬ z * 2 ^ j < 0 := by have := Int.mul_nonneg (show 0 ≤ z by omega) (show (0 : Int) ≤ 2 ^ j by omega); omega
   rw [if_neg this, if_neg h]; simp
theorem RN_dvd {z : Int} {f : Nat} (h : (2 : Int) ^ f ∣ z) : (2 : Int) ^ f ∣ RN z := by
 have h1 : 2 ^ f ∣ z.natAbs := by
  have := Int.natAbs_dvd_natAbs.2 h
  rwa [Int.natAbs_pow] at this
 have h2 := rn_dvd _ f h1
 rw [← RN_abs] at h2
 apply Int.natAbs_dvd_natAbs.1
 rw [Int.natAbs_pow]; exact h2
theorem Rep_of_dvd {z : Int} {f : Nat} (h : (2 : Int) ^ f ∣ z) (hb : z.natAbs ≤ 2 ^ (53 + f)) : Rep z := by
 have h1 : 2 ^ f ∣ z.natAbs := by
  have := Int.natAbs_dvd_natAbs.2 h
  rwa [Int.natAbs_pow] at this
 obtain ⟨k, hk⟩ := h1
 refine ⟨k, f, ?_, by rw [hk, Nat.mul_comm]⟩
 rw [hk, Nat.pow_add, Nat.mul_comm (2 ^ 53)] at hb
 exact Nat.le_of_mul_le_mul_left hb (Nat.two_pow_pos f)
theorem Rep_place {z : Int} (h : Rep z) : ∃ f, (2 : Int) ^ f ∣ z ∧ z.natAbs ≤ 2 ^ (53 + f) := by
 obtain ⟨k, e, h1, h2⟩ := h
 refine ⟨e, ?_, ?_⟩
 · apply Int.natAbs_dvd_natAbs.1
   rw [Int.natAbs_pow, h2]; exact Nat.dvd_mul_left _ _
 · rw [h2, Nat.pow_add]; exact Nat.mul_le_mul_right _ h1
theorem RN_err {z : Int} {d : Nat} (h : z.natAbs < 2 ^ (53 + d)) : 2 * (RN z - z).natAbs ≤ 2 ^ d := by
 have h1 := rn_err_up h
 have h2 := rn_err_down h
 unfold RN; split <;> omega
end Ieee.Own

namespace Ieee.Own

theorem pow_dvd {i j : Nat} (h : i ≤ j) : (2 : Int) ^ i ∣ 2 ^ j := by
 obtain ⟨k, rfl⟩ := Nat.le.dest h
 exact ⟨2 ^ k, by rw [Int.pow_add]⟩

theorem Rep_sub {a b : Int} (ha : Rep a) (hb : Rep b) (h1 : (a - b).natAbs ≤ a.natAbs) (h2 : (a - b).natAbs ≤ b.natAbs) : Rep (a - b) := by
 obtain ⟨i, hi, hai⟩ := Rep_place ha
 obtain ⟨j, hj, hbj⟩ := Rep_place hb
 by_cases hij : i ≤ j
 · exact Rep_of_dvd (Int.dvd_sub hi (Int.dvd_trans (pow_dvd hij) hj)) (by omega)
 · exact Rep_of_dvd (Int.dvd_sub (Int.dvd_trans (pow_dvd (by omega)) hi) hj) (by omega)

theorem RN_two (z : Int) : RN (2 * z) = 2 * RN z := by
 have := RN_scale z 1
 rw [show (2 : Int) ^ 1 = 2 from rfl] at this
 rw [Int.mul_comm 2 z, this]; omega

theorem fast {x y : Int} (hx : Rep x) (hy : Rep y) (h : y.natAbs ≤ x.natAbs) : Rep (RN (x + y) - x) := by
 by_cases h1 : 2 * (x + y).natAbs ≤ x.natAbs
 · -- they nearly cancel: the sum is exact
   have : Rep (x - (-y)) := Rep_sub hx (Rep_neg hy) (by omega) (by omega)
   rw [show x - -y = x + y by omega] at this
   rw [RN_exact this, show x + y - x = y by omega]; exact hy
 · have r := RN_rep (x + y)
   have e2 := RN_two (x + y)
   have ex := RN_exact hx
   have ex2 : RN (2 * x) = 2 * x := by rw [RN_two, ex]
   have exn : RN (-x) = -x := by rw [RN_neg, ex]
   have ex2n : RN (2 * -x) = 2 * -x := by rw [RN_two, exn]
   by_cases hp : 0 ≤ x
   · have m1 : RN x ≤ RN (2 * (x + y)) := RN_mono (by omega)
     have m2 : RN (x + y) ≤ RN (2 * x) := RN_mono (by omega)
     exact Rep_sub r hx (by omega) (by omega)
   · have m1 : RN (2 * (x + y)) ≤ RN x := RN_mono (by omega)
     have m2 : RN (2 * x) ≤ RN (x + y) := RN_mono (by omega)
     exact Rep_sub r hx (by omega) (by omega)

theorem abs_mul_le {x y : Int} {m n : Nat} (hx : x.natAbs ≤ m) (hy : y.natAbs ≤ n) : (x * y).natAbs ≤ m * n := by
 rw [Int.natAbs_mul]; exact Nat.mul_le_mul hx hy

end Ieee.Own

namespace Ieee.Own

theorem cut_rne (s : Bool) (n d : Nat) : Toward.even.cut s n d = rne n d := by
 unfold Toward.cut
 simp only [Nat.one_shiftLeft]
 by_cases h : d ≤ n.log2 + 2
 · rw [Nat.min_eq_left h]
   unfold rne
   by_cases h1 : 2 ^ d < 2 * (n % 2 ^ d)
   · simp [h1]
   · by_cases h2 : 2 ^ d = 2 * (n % 2 ^ d) ∧ n / 2 ^ d % 2 = 1
     · rw [if_pos (Or.inr h2)]; simp [← h2.1, h2.2]
     · rw [if_neg (by simp only [h1, h2, or_self, not_false_eq_true])]
       have : (2 ^ d == 2 * (n % 2 ^ d) && n / 2 ^ d % 2 == 1) = false := by
        rw [Bool.eq_false_iff]; intro h3; simp at h3; exact h2 h3
       simp [h1, this]
 · rw [Nat.min_eq_right (by omega)]
   have hn : n < 2 ^ (n.log2 + 1) := Nat.lt_log2_self
   have e1 : 2 ^ (n.log2 + 2) = 2 * 2 ^ (n.log2 + 1) := by rw [Nat.pow_succ 2 (n.log2 + 1)]; omega
   have e2 : 2 ^ (n.log2 + 2) ≤ 2 ^ d := Nat.pow_le_pow_right (by omega) (by omega)
   have q1 : n / 2 ^ (n.log2 + 2) = 0 := Nat.div_eq_of_lt (by omega)
   have q2 : n % 2 ^ (n.log2 + 2) = n := Nat.mod_eq_of_lt (by omega)
   have q3 : n / 2 ^ d = 0 := Nat.div_eq_of_lt (by omega)
   have q4 : n % 2 ^ d = n := Nat.mod_eq_of_lt (by omega)
   rw [q1, q2]
   unfold rne
   rw [q3, q4]
   have c1 : ¬ 2 ^ (n.log2 + 2) < 2 * n := by omega
   have c2 : ¬ 2 ^ d < 2 * n := by omega
   simp [c1, c2]

theorem rung_val (d k : Nat) (h : k ≤ 2 ^ 53) (h' : 0 < d → 2 ^ 52 ≤ k) : val 52 (d * 2 ^ 52 + k) = k * 2 ^ d := by
 by_cases h1 : k < 2 ^ 52
 · have : d = 0 := by omega
   subst this
   unfold val mg ex
   simp [h1]
 · unfold val mg ex
   have hge : ¬ d * 2 ^ 52 + k < 2 ^ 52 := by omega
   simp only [hge, if_false]
   by_cases h2 : k = 2 ^ 53
   · have e1 : (d * 2 ^ 52 + k) / 2 ^ 52 = d + 2 := by omega
     have e2 : (d * 2 ^ 52 + k) % 2 ^ 52 = 0 := by omega
     rw [e1, e2, h2, show d + 2 - 1 = d + 1 by omega, Nat.pow_succ 2 d]
     generalize 2 ^ d = g
     omega
   · have e1 : (d * 2 ^ 52 + k) / 2 ^ 52 = d + 1 := by omega
     have e2 : (d * 2 ^ 52 + k) % 2 ^ 52 = k - 2 ^ 52 := by omega
     rw [e1, e2, show d + 1 - 1 = d by omega, show 2 ^ 52 + (k - 2 ^ 52) = k by omega]

theorem rne_range (n : Nat) : rne n (dr n) ≤ 2 ^ 53 ∧ (0 < dr n → 2 ^ 52 ≤ rne n (dr n)) := by
 have hp := Nat.two_pow_pos (dr n)
 have b := rne_bounds n (dr n)
 constructor
 · have : n / 2 ^ dr n < 2 ^ 53 := by rw [Nat.div_lt_iff_lt_mul hp, ← Nat.pow_add]; exact dr_lt n
   omega
 · intro h
   have : 2 ^ 52 ≤ n / 2 ^ dr n := by rw [Nat.le_div_iff_mul_le hp, ← Nat.pow_add]; exact dr_le n h
   omega

theorem frac64' : double.fractionBits = 52 := rfl
theorem least64' : double.leastPlace = -1074 := by decide +kernel
theorem top64' : val 52 9218868437227405312 = 2 ^ 2098 := by decide +kernel

theorem nearest_rn (s : Bool) (m : Nat) (place : Int) (n a c : Nat) (hm : m * 2 ^ a = n * 2 ^ c) (hp : place = -1074 + a - c) (hn : rn n < 2 ^ 2098) :
 ∃ r, r < 9218868437227405312 ∧ double.nearest s m place = double.word s r ∧ val 52 r = rn n := by
 by_cases h0 : m = 0
 · subst h0
   have : n = 0 := by
    have hc := Nat.two_pow_pos c
    rcases Nat.mul_eq_zero.1 (by omega : n * 2 ^ c = 0) with h | h <;> omega
   subst this
   exact ⟨0, by omega, by unfold Format.nearest; rw [if_pos rfl], by rw [val_zero, rn_small 0 (by omega)]⟩
 have hn0 : n ≠ 0 := by
  intro h; subst h
  have ha := Nat.two_pow_pos a
  rcases Nat.mul_eq_zero.1 (by omega : m * 2 ^ a = 0) with h | h <;> omega
 have hlog : m.log2 + a = n.log2 + c := by rw [← log2_shift m a h0, hm, log2_shift n c hn0]
 have hlast : max (place + m.log2 - double.fractionBits) double.leastPlace = -1074 + dr n := by
  rw [frac64', least64']; unfold dr; omega
 have hk : Toward.even.cut s (m <<< (place - (-1074 + dr n)).toNat) (-1074 + dr n - place).toNat = rne n (dr n) := by
  rw [Nat.shiftLeft_eq, cut_rne]
  by_cases hac : dr n + c ≤ a
  · have e1 : (place - (-1074 + dr n)).toNat = a - (dr n + c) := by omega
    have e2 : (-1074 + dr n - place).toNat = 0 := by omega
    rw [e1, e2]
    have hq : n = (m * 2 ^ (a - (dr n + c))) * 2 ^ dr n := by
        have h2 : 2 ^ a = 2 ^ (a - (dr n + c)) * 2 ^ dr n * 2 ^ c := by rw [← Nat.pow_add, ← Nat.pow_add]; congr 1; omega
        rw [h2, ← Nat.mul_assoc, ← Nat.mul_assoc] at hm
        exact (Nat.eq_of_mul_eq_mul_right (Nat.two_pow_pos c) hm).symm
    generalize dr n = d at *
    have g1 : rne n d = m * 2 ^ (a - (d + c)) := by rw [hq]; exact rne_exact _ d
    rw [g1]
    have := rne_exact (m * 2 ^ (a - (d + c))) 0
    simpa using this
  · have e1 : (place - (-1074 + dr n)).toNat = 0 := by omega
    have e2 : (-1074 + dr n - place).toNat = dr n + c - a := by omega
    rw [e1, e2, Nat.pow_zero, Nat.mul_one, ← rne_scale n (dr n) c, ← hm, ← rne_scale m (dr n + c - a) a]
    congr 1; omega
 have hv : val 52 (dr n * 2 ^ 52 + rne n (dr n)) = rn n := rung_val _ _ (rne_range n).1 (rne_range n).2
 have hr : dr n * 2 ^ 52 + rne n (dr n) < 9218868437227405312 := by
  rw [← val_lt_iff 52, hv, top64']; exact hn
 refine ⟨dr n * 2 ^ 52 + rne n (dr n), hr, ?_, hv⟩
 unfold Format.nearest
 rw [if_neg h0]
 dsimp only
 rw [hlast, hk, least64', show (-1074 + (dr n : Int) - -1074).toNat = dr n by omega, inf64]
 rw [show double.binade = 2 ^ 52 from rfl, Nat.min_eq_left (Nat.le_of_lt hr)]

def V (b : Nat) : Int := if b < 9223372036854775808 then (val 52 b : Int) else -(val 52 (b - 9223372036854775808) : Int)
def FinW (b : Nat) : Prop := b < 18446744073709551616 ∧ b % 9223372036854775808 < 9218868437227405312

theorem Rep_val (r : Nat) : ∃ k e : Nat, k ≤ 2 ^ 53 ∧ val 52 r = k * 2 ^ e := ⟨mg 52 r, ex 52 r, Nat.le_of_lt (mg_lt 52 r), rfl⟩
theorem Rep_V (b : Nat) : Rep (V b) := by
 unfold V
 split
 · obtain ⟨k, e, h1, h2⟩ := Rep_val b; exact ⟨k, e, h1, by rw [← h2]; rfl⟩
 · obtain ⟨k, e, h1, h2⟩ := Rep_val (b - 9223372036854775808); exact ⟨k, e, h1, by rw [← h2]; omega⟩

theorem V_word (s : Bool) (r : Nat) (h : r < 9218868437227405312) : FinW (double.word s r) ∧ V (double.word s r) = if s then -(val 52 r : Int) else (val 52 r : Int) := by
 unfold Format.word FinW V
 rw [sw64]
 cases s
 · simp only [Bool.false_eq_true, if_false]
   rw [if_pos (by omega)]
   exact ⟨by omega, rfl⟩
 · simp only [if_true]
   rw [if_neg (by omega)]
   exact ⟨by omega, by rw [show 9223372036854775808 + r - 9223372036854775808 = r by omega]⟩

theorem read_fin {b : Nat} (h : FinW b) : ∃ (s : Bool) (m p : Nat), double.read b = .number s m (-1074 + p) ∧ V b = (if s then -((m * 2 ^ p : Nat) : Int) else ((m * 2 ^ p : Nat) : Int)) ∧ m < 2 ^ 53 ∧ m = mg 52 (b % 9223372036854775808) ∧ p = ex 52 (b % 9223372036854775808) := by
 obtain ⟨h1, h2⟩ := h
 refine ⟨b / double.signWeight % 2 == 1, mg 52 (b % 9223372036854775808), ex 52 (b % 9223372036854775808), ?_, ?_, mg_lt 52 _, rfl, rfl⟩
 · rw [read_num double b (by rw [sw64, inf64]; exact h2), least64', frac64', sw64]
 · rw [sw64]
   unfold V
   by_cases hb : b < 9223372036854775808
   · have e1 : b / 9223372036854775808 = 0 := by omega
     have e2 : b % 9223372036854775808 = b := by omega
     rw [e1, e2, if_pos hb]
     show ((val 52 b : Nat) : Int) = if (0 % 2 == 1) = true then _ else _
     rw [if_neg (by decide)]; unfold val; rfl
   · have e1 : b / 9223372036854775808 = 1 := by omega
     have e2 : b % 9223372036854775808 = b - 9223372036854775808 := by omega
     rw [e1, e2, if_neg hb]
     generalize b - 9223372036854775808 = x
     show -((val 52 x : Nat) : Int) = if (1 % 2 == 1) = true then _ else _
     rw [if_pos (by decide)]; unfold val; rfl

theorem signed_align (s t : Bool) (m n p q : Nat) :
 (signed s m (-1074 + (p : Int) - min (-1074 + (p : Int)) (-1074 + (q : Int))).toNat + signed t n (-1074 + (q : Int) - min (-1074 + (p : Int)) (-1074 + (q : Int))).toNat) * 2 ^ (min p q) =
 (if s then -((m * 2 ^ p : Nat) : Int) else ((m * 2 ^ p : Nat) : Int)) + (if t then -((n * 2 ^ q : Nat) : Int) else ((n * 2 ^ q : Nat) : Int)) := by
 have e1 : (-1074 + (p : Int) - min (-1074 + (p : Int)) (-1074 + (q : Int))).toNat = p - min p q := by omega
 have e2 : (-1074 + (q : Int) - min (-1074 + (p : Int)) (-1074 + (q : Int))).toNat = q - min p q := by omega
 rw [e1, e2]
 simp only [signed_eq]
 generalize hc : min p q = c
 have hp : 2 ^ p = 2 ^ (p - c) * 2 ^ c := by rw [← Nat.pow_add]; congr 1; omega
 have hq : 2 ^ q = 2 ^ (q - c) * 2 ^ c := by rw [← Nat.pow_add]; congr 1; omega
 rw [hp, hq, ← Nat.mul_assoc, ← Nat.mul_assoc, Int.add_mul]
 have hz : ((2 ^ c : Nat) : Int) = 2 ^ c := by simp
 rw [← hz]
 generalize m * 2 ^ (p - c) = x
 generalize n * 2 ^ (q - c) = y
 generalize (2 ^ c : Nat) = z
 cases s <;> cases t <;> simp [Int.neg_mul]

def sv (s : Bool) (m p : Nat) : Int := if s then -((m * 2 ^ p : Nat) : Int) else ((m * 2 ^ p : Nat) : Int)
theorem sv_opp (s : Bool) (m p : Nat) : sv (!s) m p = -sv s m p := by cases s <;> simp [sv]
theorem sv_abs (s : Bool) (m p : Nat) : (sv s m p).natAbs = m * 2 ^ p := by cases s <;> simp [sv, Int.natAbs_mul, Int.natAbs_pow]

theorem sum_datum (s t : Bool) (m n p q : Nat) (h : (RN (sv s m p + sv t n q)).natAbs < 2 ^ 2098) :
 ∃ r, ((Datum.number s m (-1074 + p)).sum (Datum.number t n (-1074 + q))).map double.write = some r ∧ FinW r ∧ V r = RN (sv s m p + sv t n q) := by
 simp only [Datum.sum, Option.map]
 have hal : _ = sv s m p + sv t n q := signed_align s t m n p q
 generalize hT : signed s m (-1074 + (p : Int) - min (-1074 + (p : Int)) (-1074 + (q : Int))).toNat + signed t n (-1074 + (q : Int) - min (-1074 + (p : Int)) (-1074 + (q : Int))).toNat = T at *
 generalize sv s m p + sv t n q = S at *
 have hTn : T.natAbs * 2 ^ (min p q) = S.natAbs * 2 ^ 0 := by
  rw [← hal, Int.natAbs_mul, Int.natAbs_pow]; simp
 rw [RN_abs] at h
 generalize hneg : (if T = 0 then s && t else decide (T < 0)) = neg
 obtain ⟨r, h1, h2, h3⟩ := nearest_rn neg T.natAbs (min (-1074 + (p : Int)) (-1074 + (q : Int))) _ (min p q) 0 hTn (by omega) h
 refine ⟨double.word neg r, by simp only [Format.write]; rw [h2], (V_word neg r h1).1, ?_⟩
 rw [(V_word neg r h1).2, h3]
 have hpos : (0 : Int) < 2 ^ (min p q) := Int.pow_pos (by omega)
 by_cases hT0 : T = 0
 · have : S = 0 := by rw [← hal, hT0]; simp
   rw [this]; simp [RN, rn_zero]
 · rw [if_neg hT0] at hneg
   by_cases hT1 : T < 0
   · have : S < 0 := by rw [← hal]; exact Int.mul_neg_of_neg_of_pos hT1 hpos
     simp [hT1] at hneg
     subst hneg
     unfold RN; rw [if_pos this]; rfl
   · have : ¬ S < 0 := by rw [← hal]; have := Int.mul_nonneg (show 0 ≤ T by omega) (show (0 : Int) ≤ 2 ^ (min p q) by omega); omega
     simp [hT1] at hneg
     subst hneg
     unfold RN; rw [if_neg this]; rfl

theorem read_sv {b : Nat} (h : FinW b) : ∃ (s : Bool) (m p : Nat), double.read b = .number s m (-1074 + p) ∧ V b = sv s m p ∧ m < 2 ^ 53 ∧ m = mg 52 (b % 9223372036854775808) ∧ p = ex 52 (b % 9223372036854775808) := read_fin h

theorem add_spec {a b : Nat} (ha : FinW a) (hb : FinW b) (h : (RN (V a + V b)).natAbs < 2 ^ 2098) :
 ∃ r, double.add a b = some r ∧ FinW r ∧ V r = RN (V a + V b) := by
 obtain ⟨s, m, p, hr, hV, -⟩ := read_sv ha
 obtain ⟨t, n, q, hr', hV', -⟩ := read_sv hb
 unfold Format.add
 rw [hr, hr']
 rw [hV, hV'] at h ⊢
 exact sum_datum s t m n p q h

theorem sub_spec {a b : Nat} (ha : FinW a) (hb : FinW b) (h : (RN (V a - V b)).natAbs < 2 ^ 2098) :
 ∃ r, double.sub a b = some r ∧ FinW r ∧ V r = RN (V a - V b) := by
 obtain ⟨s, m, p, hr, hV, -⟩ := read_sv ha
 obtain ⟨t, n, q, hr', hV', -⟩ := read_sv hb
 unfold Format.sub
 rw [hr, hr']
 rw [hV, hV'] at h ⊢
 rw [show sv s m p - sv t n q = sv s m p + sv (!t) n q by rw [sv_opp]; omega] at h ⊢
 exact sum_datum s (!t) m n p q h

theorem sv_mul (s t : Bool) (m n p q : Nat) : sv s m p * sv t n q = sv (s ^^ t) (m * n) (p + q) := by
 have e : m * n * 2 ^ (p + q) = (m * 2 ^ p) * (n * 2 ^ q) := by rw [Nat.pow_add]; ac_rfl
 unfold sv
 rw [e]
 generalize m * 2 ^ p = x
 generalize n * 2 ^ q = y
 cases s <;> cases t <;> simp [Int.neg_mul, Int.mul_neg]

theorem word_RN (s : Bool) (r : Nat) (S : Int) (h1 : r < 9218868437227405312) (h : val 52 r = rn S.natAbs) (hs : (s = true → S ≤ 0) ∧ (s = false → 0 ≤ S)) : V (double.word s r) = RN S := by
 rw [(V_word s r h1).2, h]
 cases s
 · simp only [Bool.false_eq_true, if_false]
   have := hs.2 rfl
   unfold RN; rw [if_neg (by omega)]
 · simp only [if_true]
   have := hs.1 rfl
   by_cases h0 : S = 0
   · subst h0; simp [RN, rn_zero]
   · unfold RN; rw [if_pos (by omega)]
theorem sv_sign (s : Bool) (m p : Nat) : (s = true → sv s m p ≤ 0) ∧ (s = false → 0 ≤ sv s m p) := by
 unfold sv; generalize m * 2 ^ p = x; cases s <;> simp <;> omega

theorem mul_spec {a b : Nat} (ha : FinW a) (hb : FinW b) {N : Int} (hN : V a * V b = N * 2 ^ 1074) (h : (RN N).natAbs < 2 ^ 2098) :
 ∃ r, double.mul a b = some r ∧ FinW r ∧ V r = RN N := by
 obtain ⟨s, m, p, hr, hV, -⟩ := read_sv ha
 obtain ⟨t, n, q, hr', hV', -⟩ := read_sv hb
 unfold Format.mul
 rw [hr, hr']
 simp only [Datum.product, Option.map]
 rw [hV, hV', sv_mul] at hN
 have hNa : m * n * 2 ^ (p + q) = N.natAbs * 2 ^ 1074 := by
  rw [← sv_abs (s ^^ t) (m * n) (p + q), hN, Int.natAbs_mul, Int.natAbs_pow, show (2 : Int).natAbs = 2 from rfl]
 rw [RN_abs] at h
 obtain ⟨r, h1, h2, h3⟩ := nearest_rn (s ^^ t) (m * n) (-1074 + (p : Int) + (-1074 + (q : Int))) _ (p + q) 1074 hNa (by clear hN hNa h; omega) h
 refine ⟨double.word (s ^^ t) r, by simp only [Format.write]; rw [h2], (V_word _ r h1).1, word_RN _ r N h1 h3 ?_⟩
 have hs := sv_sign (s ^^ t) (m * n) (p + q)
 rw [hN] at hs
 have hp : (0 : Int) < 2 ^ 1074 := Int.pow_pos (by omega)
 generalize (2 : Int) ^ 1074 = z at *
 constructor
 · intro h; have := hs.1 h
   refine Int.not_lt.1 fun hlt => ?_
   have := Int.mul_pos hlt hp; omega
 · intro h; have := hs.2 h
   refine Int.not_lt.1 fun hlt => ?_
   have := Int.mul_neg_of_neg_of_pos hlt hp; omega
end Ieee.Own
