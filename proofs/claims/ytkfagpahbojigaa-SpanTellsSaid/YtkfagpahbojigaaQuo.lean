/- Proved here: quotients and square roots of words of binary64, as the model has them, are the nearest numbers of 53 binary digits; what they leave has 53 digits. No program is named. -/
import Derived.Test.YtkfagpahbojigaaOps
namespace Ieee.Own

/-- a number with a last digit that stands for what is left over, rounded where two digits or more are dropped: within half a unit of twice D / n -/
theorem sticky {D n d Q : Nat} (hn : 0 < n) (hd : 2 ≤ d) (h : Q = rne (2 * (D / n) + (D % n != 0).toNat) d) :
    2 * (Q * 2 ^ d * n) ≤ 4 * D + 2 ^ d * n ∧ 4 * D ≤ 2 * (Q * 2 ^ d * n) + 2 ^ d * n := by
  obtain ⟨e, rfl⟩ : ∃ e, d = e + 2 := ⟨d - 2, by omega⟩
  have u := rne_up (2 * (D / n) + (D % n != 0).toNat) (e + 2)
  have l := rne_down (2 * (D / n) + (D % n != 0).toNat) (e + 2)
  rw [← h] at u l
  clear h
  have hp : 2 ^ (e + 2) = 4 * 2 ^ e := by rw [Nat.pow_add]; omega
  have hq : Q * (4 * 2 ^ e) = 4 * (Q * 2 ^ e) := by ac_rfl
  rw [hp, hq] at u l ⊢
  clear hp hq
  have hdm := Nat.div_add_mod D n
  have hm := Nat.mod_lt D hn
  generalize hK : D / n = K at *
  generalize hR : D % n = R at *
  generalize 2 ^ e = g at *
  generalize Q * g = x at *
  by_cases h0 : R = 0
  · subst h0
    simp at u l
    have hD : D = n * K := by omega
    rw [hD]
    have c1 : 2 * (4 * x) * n ≤ (2 * (2 * K) + 4 * g) * n := Nat.mul_le_mul_right n (by omega)
    have c2 : (2 * (2 * K)) * n ≤ (2 * (4 * x) + 4 * g) * n := Nat.mul_le_mul_right n (by omega)
    rw [Nat.add_mul] at c1 c2
    have z1 : 2 * (4 * x) * n = 2 * (4 * x * n) := by ac_rfl
    have z2 : 2 * (2 * K) * n = 4 * (n * K) := by rw [show 2 * (2 * K) = 4 * K by omega]; ac_rfl
    rw [z1, z2] at c1 c2
    exact ⟨c1, c2⟩
  · have hb : (R != 0) = true := by simp [h0]
    rw [hb] at u l
    simp only [Bool.toNat_true] at u l
    have c1 : 2 * (4 * x) * n ≤ (2 * (2 * K) + 4 * g) * n := Nat.mul_le_mul_right n (by omega)
    have c2 : (2 * (2 * K + 2)) * n ≤ (2 * (4 * x) + 4 * g) * n := Nat.mul_le_mul_right n (by omega)
    rw [Nat.add_mul] at c1 c2
    have z1 : 2 * (4 * x) * n = 2 * (4 * x * n) := by ac_rfl
    have z2 : 2 * (2 * K) * n = 4 * (n * K) := by rw [show 2 * (2 * K) = 4 * K by omega]; ac_rfl
    have z3 : 2 * (2 * K + 2) * n = 4 * (n * K) + 4 * n := by rw [show 2 * (2 * K + 2) = 4 * K + 4 by omega, Nat.add_mul]; congr 1; ac_rfl
    rw [z1, z2] at c1
    rw [z1, z3] at c2
    exact ⟨by omega, by omega⟩

/-- A QUOTIENT of two normal magnitudes: the parts -/
theorem quot_parts (m n : Nat) (m1 : 2 ^ 52 ≤ m) (m2 : m < 2 ^ 53) (n1 : 2 ^ 52 ≤ n) (n2 : n < 2 ^ 53) :
    ∃ Q t d : Nat, 54 + n.log2 - m.log2 = 54 ∧ d + t = 55 ∧ 52 ≤ t ∧ t ≤ 53 ∧ 2 ^ 52 ≤ Q ∧ Q ≤ 2 ^ 53 ∧
      rn (2 * ((m <<< 54) / n) + ((m <<< 54) % n != 0).toNat) = Q * 2 ^ d ∧ 2 * (Q * n) ≤ 2 * (m * 2 ^ t) + n ∧ 2 * (m * 2 ^ t) ≤ 2 * (Q * n) + n := by
  have lm : m.log2 = 52 := (Nat.log2_eq_iff (by omega)).2 ⟨m1, m2⟩
  have ln : n.log2 = 52 := (Nat.log2_eq_iff (by omega)).2 ⟨n1, n2⟩
  rw [Nat.shiftLeft_eq]
  generalize hX : 2 * (m * 2 ^ 54 / n) + (m * 2 ^ 54 % n != 0).toNat = X
  have k1 : 2 ^ 53 ≤ m * 2 ^ 54 / n := by rw [Nat.le_div_iff_mul_le (by omega)]; omega
  have k2 : m * 2 ^ 54 / n < 2 ^ 55 := by rw [Nat.div_lt_iff_lt_mul (by omega)]; omega
  have k3 : (m * 2 ^ 54 % n != 0).toNat ≤ 1 := by cases (m * 2 ^ 54 % n != 0) <;> simp
  have x1 : 2 ^ 54 ≤ X := by omega
  have x2 : X < 2 ^ 56 := by omega
  have d1 : dr X ≤ 3 := dr_of_lt (by omega)
  have d2 : 2 ≤ dr X := by
    have := (Nat.le_log2 (show X ≠ 0 by omega)).2 x1; unfold dr; omega
  have hr := rne_range X
  refine ⟨rne X (dr X), 55 - dr X, dr X, by omega, by omega, by omega, by omega, hr.2 (by omega), hr.1, rfl, ?_⟩
  have st := sticky (D := m * 2 ^ 54) (n := n) (d := dr X) (Q := rne X (dr X)) (by omega) d2 (by rw [hX])
  generalize rne X (dr X) = Q at *
  have hd : dr X = 2 ∨ dr X = 3 := by omega
  rcases hd with hd | hd
  · rw [hd] at st ⊢
    rw [show Q * 2 ^ 2 * n = 4 * (Q * n) by rw [show (2 : Nat) ^ 2 = 4 from rfl]; ac_rfl] at st
    rw [show 55 - 2 = 53 from rfl]
    omega
  · rw [hd] at st ⊢
    rw [show Q * 2 ^ 3 * n = 8 * (Q * n) by rw [show (2 : Nat) ^ 3 = 8 from rfl]; ac_rfl] at st
    rw [show 55 - 3 = 52 from rfl]
    omega

theorem two_lt {a b : Nat} (h : a < b) : 2 ^ a < 2 ^ b := Nat.pow_lt_pow_right (by omega) h

/-- a normal word by its sign, its 53 digits and its place -/
structure Norm (b : Nat) (s : Bool) (m p : Nat) : Prop where
  fin : FinW b
  read : double.read b = .number s m (-1074 + p)
  val : V b = sv s m p
  lo : 2 ^ 52 ≤ m
  hi : m < 2 ^ 53

theorem norm_of {b : Nat} (h : FinW b) (hn : 4503599627370496 ≤ b % 9223372036854775808) :
    Norm b (decide (9223372036854775808 ≤ b)) (4503599627370496 + b % 4503599627370496) (b % 9223372036854775808 / 4503599627370496 - 1) := by
  obtain ⟨s, m, p, hr, hV, hm, hm', hp'⟩ := read_sv h
  have e1 : m = 4503599627370496 + b % 4503599627370496 := by
    rw [hm']; unfold mg; rw [if_neg (by omega)]; omega
  have e2 : p = b % 9223372036854775808 / 4503599627370496 - 1 := by
    rw [hp']; unfold ex; rw [if_neg (by omega)]
  have es : s = decide (9223372036854775808 ≤ b) := by
    have hpos := Nat.two_pow_pos p
    have hmp : 0 < m * 2 ^ p := Nat.mul_pos (by omega) hpos
    unfold V sv at hV
    generalize m * 2 ^ p = x at *
    cases s <;> split at hV <;> simp at hV ⊢ <;> omega
  subst es e1 e2
  exact ⟨h, hr, hV, by omega, by omega⟩

theorem sv_scale (s : Bool) (m p k : Nat) : sv s (m * 2 ^ k) p = sv s m (p + k) := by
  unfold sv; rw [Nat.pow_add, Nat.mul_assoc, Nat.mul_comm (2 ^ k)]

/-- QUOTIENTS -/
theorem div_spec {a b : Nat} {s t : Bool} {m p n q : Nat} (ha : Norm a s m p) (hb : Norm b t n q) (h1 : q + 55 ≤ 1074 + p) (h2 : p ≤ q + 1000) :
    ∃ r Q u : Nat, double.div a b = some r ∧ FinW r ∧ V r = sv (s ^^ t) Q (1074 + p - q - u) ∧ 52 ≤ u ∧ u ≤ 53 ∧ 2 ^ 52 ≤ Q ∧ Q ≤ 2 ^ 53 ∧
      2 * (Q * n) ≤ 2 * (m * 2 ^ u) + n ∧ 2 * (m * 2 ^ u) ≤ 2 * (Q * n) + n := by
  obtain ⟨Q, u, d, g1, g2, g3, g4, g5, g6, g7, g8, g9⟩ := quot_parts m n ha.lo ha.hi hb.lo hb.hi
  have hn0 : n ≠ 0 := by have := hb.lo; omega
  unfold Format.div
  rw [ha.read, hb.read, frac64']
  simp only [Datum.quotient]
  rw [if_neg hn0, show 52 + 2 + n.log2 - m.log2 = 54 from g1]
  generalize 2 * ((m <<< 54) / n) + ((m <<< 54) % n != 0).toNat = X at *
  have hk : rn (X * 2 ^ (1074 + p - q - 55)) = Q * 2 ^ (1074 + p - q - u) := by
    rw [rn_scale, g7, Nat.mul_assoc, ← Nat.pow_add]; congr 2; omega
  have hlt : rn (X * 2 ^ (1074 + p - q - 55)) < 2 ^ 2098 := by
    rw [hk]
    refine Nat.lt_of_le_of_lt (Nat.mul_le_mul_right _ g6) ?_
    rw [← Nat.pow_add]
    have h3 : 53 + (1074 + p - q - u) < 2098 := by clear hk; omega
    exact two_lt (a := 53 + (1074 + p - q - u)) (b := 2098) h3
  obtain ⟨r, r1, r2, r3⟩ := nearest_rn (s ^^ t) X (-1074 + (p : Int) - (-1074 + (q : Int)) - ((54 : Nat) : Int) - 1) (X * 2 ^ (1074 + p - q - 55)) (1074 + p - q - 55) 0 (by rw [Nat.pow_zero, Nat.mul_one]) (by clear hlt hk; omega) hlt
  refine ⟨double.word (s ^^ t) r, Q, u, ?_, (V_word _ r r1).1, ?_, g3, g4, g5, g6, g8, g9⟩
  · simp only [Option.map, Format.write]; rw [r2]
  · rw [(V_word _ r r1).2, r3, hk]; rfl

/-! ### square roots -/
theorem rootFrom_spec (n : Nat) : ∀ (t r : Nat), r * r ≤ n → n < (r + 2 ^ t) * (r + 2 ^ t) → Datum.rootFrom n t r * Datum.rootFrom n t r ≤ n ∧ n < (Datum.rootFrom n t r + 1) * (Datum.rootFrom n t r + 1) := by
  intro t
  induction t with
  | zero => intro r h1 h2; exact ⟨h1, by simpa [Datum.rootFrom] using h2⟩
  | succ t ih =>
    intro r h1 h2
    unfold Datum.rootFrom
    simp only [Nat.one_shiftLeft]
    split
    · rename_i h
      apply ih _ h
      rw [Nat.pow_succ] at h2
      rw [show r + 2 ^ t + 2 ^ t = r + 2 ^ t * 2 by omega]; exact h2
    · rename_i h
      exact ih _ h1 (by omega)

theorem isqrt_spec (n : Nat) : Datum.rootFrom n (n.log2 / 2 + 1) 0 * Datum.rootFrom n (n.log2 / 2 + 1) 0 ≤ n ∧ n < (Datum.rootFrom n (n.log2 / 2 + 1) 0 + 1) * (Datum.rootFrom n (n.log2 / 2 + 1) 0 + 1) := by
  apply rootFrom_spec
  · omega
  · rw [Nat.zero_add, ← Nat.pow_add]
    exact Nat.lt_of_lt_of_le Nat.lt_log2_self (Nat.pow_le_pow_right (by omega) (by omega))

theorem sq_expand (Q : Nat) (h : 1 ≤ Q) : (4 * Q - 2) * (4 * Q - 2) + 16 * Q = 16 * (Q * Q) + 4 ∧ (4 * Q + 2) * (4 * Q + 2) = 16 * (Q * Q) + 16 * Q + 4 := by
  obtain ⟨k, rfl⟩ : ∃ k, Q = k + 1 := ⟨Q - 1, by omega⟩
  rw [show 4 * (k + 1) - 2 = 4 * k + 2 by omega]
  simp only [Nat.add_mul, Nat.mul_add, Nat.mul_one, Nat.one_mul]
  have e1 : 4 * k * (4 * k) = 16 * (k * k) := by rw [show (16 : Nat) = 4 * 4 from rfl]; ac_rfl
  rw [e1]
  omega

/-- A ROOT of a normal magnitude: the parts -/
theorem root_parts (m e : Nat) (m1 : 2 ^ 52 ≤ m) (m2 : m < 2 ^ 53) (he : e ≤ 1) :
    ∃ Q : Nat, 2 ^ 52 ≤ Q ∧ Q ≤ 2 ^ 53 ∧ Q * Q + 1 ≤ m * 2 ^ (52 + e) + Q ∧ m * 2 ^ (52 + e) ≤ Q * Q + Q ∧
      (let n := m <<< (56 + e); let w := Datum.rootFrom n (n.log2 / 2 + 1) 0; rn (2 * w + (w * w != n).toNat) = Q * 2 ^ 3) := by
  dsimp only
  rw [Nat.shiftLeft_eq]
  have hn : m * 2 ^ (56 + e) = 16 * (m * 2 ^ (52 + e)) := by rw [show 56 + e = 4 + (52 + e) by omega, Nat.pow_add 2 4, show (2 : Nat) ^ 4 = 16 from rfl]; generalize 2 ^ (52 + e) = z; exact Nat.mul_left_comm m 16 z
  have hb : 2 ^ 104 ≤ m * 2 ^ (52 + e) ∧ m * 2 ^ (52 + e) < 2 ^ 106 := by
    have : e = 0 ∨ e = 1 := by omega
    rcases this with rfl | rfl <;> omega
  rw [hn]
  generalize m * 2 ^ (52 + e) = T at *
  obtain ⟨i1, i2⟩ := isqrt_spec (16 * T)
  generalize Datum.rootFrom (16 * T) ((16 * T).log2 / 2 + 1) 0 = w at *
  have w1 : 2 ^ 54 ≤ w := by
    refine Nat.le_of_not_lt fun h => ?_
    have : (w + 1) * (w + 1) ≤ 2 ^ 54 * 2 ^ 54 := Nat.mul_le_mul h h
    omega
  have w2 : w < 2 ^ 55 := by
    refine Nat.lt_of_not_le fun h => ?_
    have : 2 ^ 55 * 2 ^ 55 ≤ w * w := Nat.mul_le_mul h h
    omega
  have hst : (w * w != 16 * T).toNat = 0 ∧ w * w = 16 * T ∨ (w * w != 16 * T).toNat = 1 ∧ w * w < 16 * T := by
    by_cases h : w * w = 16 * T
    · left; simp [h]
    · right; simp [h]; omega
  generalize (w * w != 16 * T).toNat = st at *
  have d3 : dr (2 * w + st) = 3 := by
    have a := dr_of_lt (n := 2 * w + st) (d := 3) (by omega)
    have b := (Nat.le_log2 (show 2 * w + st ≠ 0 by omega)).2 (show 2 ^ 55 ≤ 2 * w + st by omega)
    unfold dr at *; omega
  have hr := rne_range (2 * w + st)
  have u := rne_up (2 * w + st) 3
  have l := rne_down (2 * w + st) 3
  rw [d3] at hr
  refine ⟨rne (2 * w + st) 3, hr.2 (by omega), hr.1, ?_, ?_, by unfold rn; rw [d3]⟩
  all_goals
    generalize rne (2 * w + st) 3 = Q at *
    have hQ := hr.2 (by omega)
    obtain ⟨x1, x2⟩ := sq_expand Q (by omega)
    rw [show (2 : Nat) ^ 3 = 8 from rfl] at *
  · have : (4 * Q - 2) * (4 * Q - 2) ≤ 16 * T := by
      rcases hst with ⟨rfl, h⟩ | ⟨rfl, h⟩
      · have : (4 * Q - 2) * (4 * Q - 2) ≤ w * w := Nat.mul_le_mul (by omega) (by omega)
        omega
      · have : (4 * Q - 2) * (4 * Q - 2) ≤ w * w := Nat.mul_le_mul (by omega) (by omega)
        omega
    omega
  · have : 16 * T ≤ (4 * Q + 2) * (4 * Q + 2) := by
      rcases hst with ⟨rfl, h⟩ | ⟨rfl, h⟩
      · have : w * w ≤ (4 * Q + 2) * (4 * Q + 2) := Nat.mul_le_mul (by omega) (by omega)
        omega
      · have : (w + 1) * (w + 1) ≤ (4 * Q + 2) * (4 * Q + 2) := Nat.mul_le_mul (by omega) (by omega)
        omega
    omega

/-- ROOTS -/
theorem sqrt_spec {a : Nat} {m p : Nat} (ha : Norm a false m p) (h2 : p ≤ 3000) :
    ∃ r Q : Nat, double.sqrt a = some r ∧ FinW r ∧ V r = sv false Q (511 + p / 2) ∧ 2 ^ 52 ≤ Q ∧ Q ≤ 2 ^ 53 ∧
      Q * Q + 1 ≤ m * 2 ^ (52 + p % 2) + Q ∧ m * 2 ^ (52 + p % 2) ≤ Q * Q + Q := by
  obtain ⟨Q, g1, g2, g3, g4, g5⟩ := root_parts m (p % 2) ha.lo ha.hi (by omega)
  dsimp only at g5
  have lm : m.log2 = 52 := (Nat.log2_eq_iff (by have := ha.lo; omega)).2 ⟨ha.lo, ha.hi⟩
  have hm0 : m ≠ 0 := by have := ha.lo; omega
  unfold Format.sqrt
  rw [ha.read, frac64']
  simp only [Datum.root]
  rw [if_neg hm0, if_neg (by decide), lm]
  have hmore : 2 * (52 + 2) - 52 + ((-1074 + (p : Int) - ((2 * (52 + 2) - 52 : Nat) : Int)) % 2).toNat = 56 + p % 2 := by omega
  rw [hmore]
  generalize 2 * Datum.rootFrom (m <<< (56 + p % 2)) ((m <<< (56 + p % 2)).log2 / 2 + 1) 0 + (Datum.rootFrom (m <<< (56 + p % 2)) ((m <<< (56 + p % 2)).log2 / 2 + 1) 0 * Datum.rootFrom (m <<< (56 + p % 2)) ((m <<< (56 + p % 2)).log2 / 2 + 1) 0 != m <<< (56 + p % 2)).toNat = X at *
  have hk : rn (X * 2 ^ (508 + p / 2)) = Q * 2 ^ (511 + p / 2) := by
    rw [rn_scale, g5, Nat.mul_assoc, ← Nat.pow_add]; congr 2; omega
  have hlt : rn (X * 2 ^ (508 + p / 2)) < 2 ^ 2098 := by
    rw [hk]
    refine Nat.lt_of_le_of_lt (Nat.mul_le_mul_right _ g2) ?_
    rw [← Nat.pow_add]
    have h3 : 53 + (511 + p / 2) < 2098 := by clear hk; omega
    exact two_lt (a := 53 + (511 + p / 2)) (b := 2098) h3
  obtain ⟨r, r1, r2, r3⟩ := nearest_rn false X ((-1074 + (p : Int) - ((56 + p % 2 : Nat) : Int)) / 2 - 1) (X * 2 ^ (508 + p / 2)) (508 + p / 2) 0 (by rw [Nat.pow_zero, Nat.mul_one]) (by clear hlt hk; omega) hlt
  refine ⟨double.word false r, Q, ?_, (V_word _ r r1).1, ?_, g1, g2, g3, g4⟩
  · simp only [Option.map, Format.write]; rw [r2]
  · rw [(V_word _ r r1).2, r3, hk]; rfl
end Ieee.Own
