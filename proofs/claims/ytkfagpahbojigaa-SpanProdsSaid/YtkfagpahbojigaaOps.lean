/- Proved here: sums, differences and products of finite words of binary64, as the model has them, are the exact ones rounded to 53 binary digits, in units of 2^-1074, where nothing overflows. No program is named. -/
import Derived.Test.YtkfagpahbojigaaEft
namespace Ieee.Own

theorem cut_rne (s : Bool) (n d : Nat) : Toward.even.cut s n d = rne n d := by
  unfold Toward.cut
  simp only [Nat.one_shiftLeft]
  by_cases h : d ≤ n.log2 + 2
  · rw [Nat.min_eq_left h]
    unfold rne
    by_cases h1 : 2 ^ d < 2 * (n % 2 ^ d)
    · simp [h1]
    · by_cases h2 : 2 ^ d = 2 * (n % 2 ^ d) ∧ n / 2 ^ d % 2 = 1
      · rw [if_pos (Or.inr h2)]; simp [← h2.1, h2.2]
      · rw [if_neg (by simp only [h1, h2, or_self, not_false_eq_true])]
        have : (2 ^ d == 2 * (n % 2 ^ d) && n / 2 ^ d % 2 == 1) = false := by
          rw [Bool.eq_false_iff]; intro h3; simp at h3; exact h2 h3
        simp [h1, this]
  · rw [Nat.min_eq_right (by omega)]
    have hn : n < 2 ^ (n.log2 + 1) := Nat.lt_log2_self
    have e1 : 2 ^ (n.log2 + 2) = 2 * 2 ^ (n.log2 + 1) := by rw [Nat.pow_succ 2 (n.log2 + 1)]; omega
    have e2 : 2 ^ (n.log2 + 2) ≤ 2 ^ d := Nat.pow_le_pow_right (by omega) (by omega)
    have q1 : n / 2 ^ (n.log2 + 2) = 0 := Nat.div_eq_of_lt (by omega)
    have q2 : n % 2 ^ (n.log2 + 2) = n := Nat.mod_eq_of_lt (by omega)
    have q3 : n / 2 ^ d = 0 := Nat.div_eq_of_lt (by omega)
    have q4 : n % 2 ^ d = n := Nat.mod_eq_of_lt (by omega)
    rw [q1, q2]
    unfold rne
    rw [q3, q4]
    have c1 : ¬ 2 ^ (n.log2 + 2) < 2 * n := by omega
    have c2 : ¬ 2 ^ d < 2 * n := by omega
    simp [c1, c2]

/-- a rung by its digits -/
theorem rung_val (d k : Nat) (h : k ≤ 2 ^ 53) (h' : 0 < d → 2 ^ 52 ≤ k) : val 52 (d * 2 ^ 52 + k) = k * 2 ^ d := by
  by_cases h1 : k < 2 ^ 52
  · have : d = 0 := by omega
    subst this
    unfold val mg ex
    simp [h1]
  · unfold val mg ex
    have hge : ¬ d * 2 ^ 52 + k < 2 ^ 52 := by omega
    simp only [hge, if_false]
    by_cases h2 : k = 2 ^ 53
    · have e1 : (d * 2 ^ 52 + k) / 2 ^ 52 = d + 2 := by omega
      have e2 : (d * 2 ^ 52 + k) % 2 ^ 52 = 0 := by omega
      rw [e1, e2, h2, show d + 2 - 1 = d + 1 by omega, Nat.pow_succ 2 d]
      generalize 2 ^ d = g
      omega
    · have e1 : (d * 2 ^ 52 + k) / 2 ^ 52 = d + 1 := by omega
      have e2 : (d * 2 ^ 52 + k) % 2 ^ 52 = k - 2 ^ 52 := by omega
      rw [e1, e2, show d + 1 - 1 = d by omega, show 2 ^ 52 + (k - 2 ^ 52) = k by omega]

theorem rne_range (n : Nat) : rne n (dr n) ≤ 2 ^ 53 ∧ (0 < dr n → 2 ^ 52 ≤ rne n (dr n)) := by
  have hp := Nat.two_pow_pos (dr n)
  have b := rne_bounds n (dr n)
  constructor
  · have : n / 2 ^ dr n < 2 ^ 53 := by rw [Nat.div_lt_iff_lt_mul hp, ← Nat.pow_add]; exact dr_lt n
    omega
  · intro h
    have : 2 ^ 52 ≤ n / 2 ^ dr n := by rw [Nat.le_div_iff_mul_le hp, ← Nat.pow_add]; exact dr_le n h
    omega

theorem frac64' : double.fractionBits = 52 := rfl
theorem least64' : double.leastPlace = -1074 := by decide +kernel
theorem top64' : val 52 9218868437227405312 = 2 ^ 2098 := by decide +kernel

/-- a number n of units, however it is told, is written as the word of n rounded -/
theorem nearest_rn (s : Bool) (m : Nat) (place : Int) (n a c : Nat) (hm : m * 2 ^ a = n * 2 ^ c) (hp : place = -1074 + a - c) (hn : rn n < 2 ^ 2098) :
    ∃ r, r < 9218868437227405312 ∧ double.nearest s m place = double.word s r ∧ val 52 r = rn n := by
  by_cases h0 : m = 0
  · subst h0
    have : n = 0 := by
      have hc := Nat.two_pow_pos c
      rcases Nat.mul_eq_zero.1 (by omega : n * 2 ^ c = 0) with h | h <;> omega
    subst this
    exact ⟨0, by omega, by unfold Format.nearest; rw [if_pos rfl], by rw [val_zero, rn_small 0 (by omega)]⟩
  have hn0 : n ≠ 0 := by
    intro h; subst h
    have ha := Nat.two_pow_pos a
    rcases Nat.mul_eq_zero.1 (by omega : m * 2 ^ a = 0) with h | h <;> omega
  have hlog : m.log2 + a = n.log2 + c := by rw [← log2_shift m a h0, hm, log2_shift n c hn0]
  have hlast : max (place + m.log2 - double.fractionBits) double.leastPlace = -1074 + dr n := by
    rw [frac64', least64']; unfold dr; omega
  have hk : Toward.even.cut s (m <<< (place - (-1074 + dr n)).toNat) (-1074 + dr n - place).toNat = rne n (dr n) := by
    rw [Nat.shiftLeft_eq, cut_rne]
    by_cases hac : dr n + c ≤ a
    · have e1 : (place - (-1074 + dr n)).toNat = a - (dr n + c) := by omega
      have e2 : (-1074 + dr n - place).toNat = 0 := by omega
      rw [e1, e2]
      have hq : n = (m * 2 ^ (a - (dr n + c))) * 2 ^ dr n := by
        have h2 : 2 ^ a = 2 ^ (a - (dr n + c)) * 2 ^ dr n * 2 ^ c := by rw [← Nat.pow_add, ← Nat.pow_add]; congr 1; omega
        rw [h2, ← Nat.mul_assoc, ← Nat.mul_assoc] at hm
        exact (Nat.eq_of_mul_eq_mul_right (Nat.two_pow_pos c) hm).symm
      generalize dr n = d at *
      have g1 : rne n d = m * 2 ^ (a - (d + c)) := by rw [hq]; exact rne_exact _ d
      rw [g1]
      have := rne_exact (m * 2 ^ (a - (d + c))) 0
      simpa using this
    · have e1 : (place - (-1074 + dr n)).toNat = 0 := by omega
      have e2 : (-1074 + dr n - place).toNat = dr n + c - a := by omega
      rw [e1, e2, Nat.pow_zero, Nat.mul_one, ← rne_scale n (dr n) c, ← hm, ← rne_scale m (dr n + c - a) a]
      congr 1; omega
  have hv : val 52 (dr n * 2 ^ 52 + rne n (dr n)) = rn n := rung_val _ _ (rne_range n).1 (rne_range n).2
  have hr : dr n * 2 ^ 52 + rne n (dr n) < 9218868437227405312 := by
    rw [← val_lt_iff 52, hv, top64']; exact hn
  refine ⟨dr n * 2 ^ 52 + rne n (dr n), hr, ?_, hv⟩
  unfold Format.nearest
  rw [if_neg h0]
  dsimp only
  rw [hlast, hk, least64', show (-1074 + (dr n : Int) - -1074).toNat = dr n by omega, inf64]
  rw [show double.binade = 2 ^ 52 from rfl, Nat.min_eq_left (Nat.le_of_lt hr)]

/-- the value of a finite word, in units of 2^-1074 -/
def V (b : Nat) : Int := if b < 9223372036854775808 then (val 52 b : Int) else -(val 52 (b - 9223372036854775808) : Int)
/-- a finite word of binary64 -/
def FinW (b : Nat) : Prop := b < 18446744073709551616 ∧ b % 9223372036854775808 < 9218868437227405312

theorem Rep_val (r : Nat) : ∃ k e : Nat, k ≤ 2 ^ 53 ∧ val 52 r = k * 2 ^ e := ⟨mg 52 r, ex 52 r, Nat.le_of_lt (mg_lt 52 r), rfl⟩
theorem Rep_V (b : Nat) : Rep (V b) := by
  unfold V
  split
  · obtain ⟨k, e, h1, h2⟩ := Rep_val b; exact ⟨k, e, h1, by rw [← h2]; rfl⟩
  · obtain ⟨k, e, h1, h2⟩ := Rep_val (b - 9223372036854775808); exact ⟨k, e, h1, by rw [← h2]; omega⟩

theorem V_word (s : Bool) (r : Nat) (h : r < 9218868437227405312) : FinW (double.word s r) ∧ V (double.word s r) = if s then -(val 52 r : Int) else (val 52 r : Int) := by
  unfold Format.word FinW V
  rw [sw64]
  cases s
  · simp only [Bool.false_eq_true, if_false]
    rw [if_pos (by omega)]
    exact ⟨by omega, rfl⟩
  · simp only [if_true]
    rw [if_neg (by omega)]
    exact ⟨by omega, by rw [show 9223372036854775808 + r - 9223372036854775808 = r by omega]⟩

theorem read_fin {b : Nat} (h : FinW b) : ∃ (s : Bool) (m p : Nat), double.read b = .number s m (-1074 + p) ∧ V b = (if s then -((m * 2 ^ p : Nat) : Int) else ((m * 2 ^ p : Nat) : Int)) ∧ m < 2 ^ 53 ∧ m = mg 52 (b % 9223372036854775808) ∧ p = ex 52 (b % 9223372036854775808) := by
  obtain ⟨h1, h2⟩ := h
  refine ⟨b / double.signWeight % 2 == 1, mg 52 (b % 9223372036854775808), ex 52 (b % 9223372036854775808), ?_, ?_, mg_lt 52 _, rfl, rfl⟩
  · rw [read_num double b (by rw [sw64, inf64]; exact h2), least64', frac64', sw64]
  · rw [sw64]
    unfold V
    by_cases hb : b < 9223372036854775808
    · have e1 : b / 9223372036854775808 = 0 := by omega
      have e2 : b % 9223372036854775808 = b := by omega
      rw [e1, e2, if_pos hb]
      show ((val 52 b : Nat) : Int) = if (0 % 2 == 1) = true then _ else _
      rw [if_neg (by decide)]; unfold val; rfl
    · have e1 : b / 9223372036854775808 = 1 := by omega
      have e2 : b % 9223372036854775808 = b - 9223372036854775808 := by omega
      rw [e1, e2, if_neg hb]
      generalize b - 9223372036854775808 = x
      show -((val 52 x : Nat) : Int) = if (1 % 2 == 1) = true then _ else _
      rw [if_pos (by decide)]; unfold val; rfl

theorem signed_align (s t : Bool) (m n p q : Nat) :
    (signed s m (-1074 + (p : Int) - min (-1074 + (p : Int)) (-1074 + (q : Int))).toNat + signed t n (-1074 + (q : Int) - min (-1074 + (p : Int)) (-1074 + (q : Int))).toNat) * 2 ^ (min p q) =
    (if s then -((m * 2 ^ p : Nat) : Int) else ((m * 2 ^ p : Nat) : Int)) + (if t then -((n * 2 ^ q : Nat) : Int) else ((n * 2 ^ q : Nat) : Int)) := by
  have e1 : (-1074 + (p : Int) - min (-1074 + (p : Int)) (-1074 + (q : Int))).toNat = p - min p q := by omega
  have e2 : (-1074 + (q : Int) - min (-1074 + (p : Int)) (-1074 + (q : Int))).toNat = q - min p q := by omega
  rw [e1, e2]
  simp only [signed_eq]
  generalize hc : min p q = c
  have hp : 2 ^ p = 2 ^ (p - c) * 2 ^ c := by rw [← Nat.pow_add]; congr 1; omega
  have hq : 2 ^ q = 2 ^ (q - c) * 2 ^ c := by rw [← Nat.pow_add]; congr 1; omega
  rw [hp, hq, ← Nat.mul_assoc, ← Nat.mul_assoc, Int.add_mul]
  have hz : ((2 ^ c : Nat) : Int) = 2 ^ c := by simp
  rw [← hz]
  generalize m * 2 ^ (p - c) = x
  generalize n * 2 ^ (q - c) = y
  generalize (2 ^ c : Nat) = z
  cases s <;> cases t <;> simp [Int.neg_mul]

/-- the signed value of a sign, a whole number and a place -/
def sv (s : Bool) (m p : Nat) : Int := if s then -((m * 2 ^ p : Nat) : Int) else ((m * 2 ^ p : Nat) : Int)
theorem sv_opp (s : Bool) (m p : Nat) : sv (!s) m p = -sv s m p := by cases s <;> simp [sv]
theorem sv_abs (s : Bool) (m p : Nat) : (sv s m p).natAbs = m * 2 ^ p := by cases s <;> simp [sv, Int.natAbs_mul, Int.natAbs_pow]

theorem sum_datum (s t : Bool) (m n p q : Nat) (h : (RN (sv s m p + sv t n q)).natAbs < 2 ^ 2098) :
    ∃ r, ((Datum.number s m (-1074 + p)).sum (Datum.number t n (-1074 + q))).map double.write = some r ∧ FinW r ∧ V r = RN (sv s m p + sv t n q) := by
  simp only [Datum.sum, Option.map]
  have hal : _ = sv s m p + sv t n q := signed_align s t m n p q
  generalize hT : signed s m (-1074 + (p : Int) - min (-1074 + (p : Int)) (-1074 + (q : Int))).toNat + signed t n (-1074 + (q : Int) - min (-1074 + (p : Int)) (-1074 + (q : Int))).toNat = T at *
  generalize sv s m p + sv t n q = S at *
  have hTn : T.natAbs * 2 ^ (min p q) = S.natAbs * 2 ^ 0 := by
    rw [← hal, Int.natAbs_mul, Int.natAbs_pow]; simp
  rw [RN_abs] at h
  generalize hneg : (if T = 0 then s && t else decide (T < 0)) = neg
  obtain ⟨r, h1, h2, h3⟩ := nearest_rn neg T.natAbs (min (-1074 + (p : Int)) (-1074 + (q : Int))) _ (min p q) 0 hTn (by omega) h
  refine ⟨double.word neg r, by simp only [Format.write]; rw [h2], (V_word neg r h1).1, ?_⟩
  rw [(V_word neg r h1).2, h3]
  have hpos : (0 : Int) < 2 ^ (min p q) := Int.pow_pos (by omega)
  by_cases hT0 : T = 0
  · have : S = 0 := by rw [← hal, hT0]; simp
    rw [this]; simp [RN, rn_zero]
  · rw [if_neg hT0] at hneg
    by_cases hT1 : T < 0
    · have : S < 0 := by rw [← hal]; exact Int.mul_neg_of_neg_of_pos hT1 hpos
      simp [hT1] at hneg
      subst hneg
      unfold RN; rw [if_pos this]; rfl
    · have : ¬ S < 0 := by rw [← hal]; have := Int.mul_nonneg (show 0 ≤ T by omega) (show (0 : Int) ≤ 2 ^ (min p q) by omega); omega
      simp [hT1] at hneg
      subst hneg
      unfold RN; rw [if_neg this]; rfl

theorem read_sv {b : Nat} (h : FinW b) : ∃ (s : Bool) (m p : Nat), double.read b = .number s m (-1074 + p) ∧ V b = sv s m p ∧ m < 2 ^ 53 ∧ m = mg 52 (b % 9223372036854775808) ∧ p = ex 52 (b % 9223372036854775808) := read_fin h

/-- SUMS -/
theorem add_spec {a b : Nat} (ha : FinW a) (hb : FinW b) (h : (RN (V a + V b)).natAbs < 2 ^ 2098) :
    ∃ r, double.add a b = some r ∧ FinW r ∧ V r = RN (V a + V b) := by
  obtain ⟨s, m, p, hr, hV, -⟩ := read_sv ha
  obtain ⟨t, n, q, hr', hV', -⟩ := read_sv hb
  unfold Format.add
  rw [hr, hr']
  rw [hV, hV'] at h ⊢
  exact sum_datum s t m n p q h

/-- DIFFERENCES -/
theorem sub_spec {a b : Nat} (ha : FinW a) (hb : FinW b) (h : (RN (V a - V b)).natAbs < 2 ^ 2098) :
    ∃ r, double.sub a b = some r ∧ FinW r ∧ V r = RN (V a - V b) := by
  obtain ⟨s, m, p, hr, hV, -⟩ := read_sv ha
  obtain ⟨t, n, q, hr', hV', -⟩ := read_sv hb
  unfold Format.sub
  rw [hr, hr']
  rw [hV, hV'] at h ⊢
  rw [show sv s m p - sv t n q = sv s m p + sv (!t) n q by rw [sv_opp]; omega] at h ⊢
  exact sum_datum s (!t) m n p q h

theorem sv_mul (s t : Bool) (m n p q : Nat) : sv s m p * sv t n q = sv (s ^^ t) (m * n) (p + q) := by
  have e : m * n * 2 ^ (p + q) = (m * 2 ^ p) * (n * 2 ^ q) := by rw [Nat.pow_add]; ac_rfl
  unfold sv
  rw [e]
  generalize m * 2 ^ p = x
  generalize n * 2 ^ q = y
  cases s <;> cases t <;> simp [Int.neg_mul, Int.mul_neg]

/-- the word of a sign and a rung whose value is S rounded -/
theorem word_RN (s : Bool) (r : Nat) (S : Int) (h1 : r < 9218868437227405312) (h : val 52 r = rn S.natAbs) (hs : (s = true → S ≤ 0) ∧ (s = false → 0 ≤ S)) : V (double.word s r) = RN S := by
  rw [(V_word s r h1).2, h]
  cases s
  · simp only [Bool.false_eq_true, if_false]
    have := hs.2 rfl
    unfold RN; rw [if_neg (by omega)]
  · simp only [if_true]
    have := hs.1 rfl
    by_cases h0 : S = 0
    · subst h0; simp [RN, rn_zero]
    · unfold RN; rw [if_pos (by omega)]
theorem sv_sign (s : Bool) (m p : Nat) : (s = true → sv s m p ≤ 0) ∧ (s = false → 0 ≤ sv s m p) := by
  unfold sv; generalize m * 2 ^ p = x; cases s <;> simp <;> omega

/-- PRODUCTS: where the exact one is a whole number of units -/
theorem mul_spec {a b : Nat} (ha : FinW a) (hb : FinW b) {N : Int} (hN : V a * V b = N * 2 ^ 1074) (h : (RN N).natAbs < 2 ^ 2098) :
    ∃ r, double.mul a b = some r ∧ FinW r ∧ V r = RN N := by
  obtain ⟨s, m, p, hr, hV, -⟩ := read_sv ha
  obtain ⟨t, n, q, hr', hV', -⟩ := read_sv hb
  unfold Format.mul
  rw [hr, hr']
  simp only [Datum.product, Option.map]
  rw [hV, hV', sv_mul] at hN
  have hNa : m * n * 2 ^ (p + q) = N.natAbs * 2 ^ 1074 := by
    rw [← sv_abs (s ^^ t) (m * n) (p + q), hN, Int.natAbs_mul, Int.natAbs_pow, show (2 : Int).natAbs = 2 from rfl]
  rw [RN_abs] at h
  obtain ⟨r, h1, h2, h3⟩ := nearest_rn (s ^^ t) (m * n) (-1074 + (p : Int) + (-1074 + (q : Int))) _ (p + q) 1074 hNa (by clear hN hNa h; omega) h
  refine ⟨double.word (s ^^ t) r, by simp only [Format.write]; rw [h2], (V_word _ r h1).1, word_RN _ r N h1 h3 ?_⟩
  have hs := sv_sign (s ^^ t) (m * n) (p + q)
  rw [hN] at hs
  have hp : (0 : Int) < 2 ^ 1074 := Int.pow_pos (by omega)
  generalize (2 : Int) ^ 1074 = z at *
  constructor
  · intro h; have := hs.1 h
    refine Int.not_lt.1 fun hlt => ?_
    have := Int.mul_pos hlt hp; omega
  · intro h; have := hs.2 h
    refine Int.not_lt.1 fun hlt => ?_
    have := Int.mul_neg_of_neg_of_pos hlt hp; omega
end Ieee.Own
