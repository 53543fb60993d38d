/- Proved here: what the texts Quo, Wrd, Rat, Ply, Nsin, Hold prove, one behind the other. -/
import Derived.Test.YtacinenddnfcbaaGreatJy0
import Ieee.Arith

namespace Ieee.Own

theorem sticky {D n d Q : Nat} (hn : 0 < n) (hd : 2 ≤ d) (h : Q = rne (2 * (D / n) + (D % n != 0).toNat) d) :
 2 * (Q * 2 ^ d * n) ≤ 4 * D + 2 ^ d * n ∧ 4 * D ≤ 2 * (Q * 2 ^ d * n) + 2 ^ d * n := by
 obtain ⟨e, rfl⟩ : ∃ e, d = e + 2 := ⟨d - 2, by omega⟩
 have u := rne_up (2 * (D / n) + (D % n != 0).toNat) (e + 2)
 have l := rne_down (2 * (D / n) + (D % n != 0).toNat) (e + 2)
 rw [← h] at u l
 clear h
 have hp : 2 ^ (e + 2) = 4 * 2 ^ e := by rw [Nat.pow_add]; omega
 have hq : Q * (4 * 2 ^ e) = 4 * (Q * 2 ^ e) := by ac_rfl
 rw [hp, hq] at u l ⊢
 clear hp hq
 have hdm := Nat.div_add_mod D n
 have hm := Nat.mod_lt D hn
 generalize hK : D / n = K at *
 generalize hR : D % n = R at *
 generalize 2 ^ e = g at *
 generalize Q * g = x at *
 by_cases h0 : R = 0
 · subst h0
   simp at u l
   have hD : D = n * K := by omega
   rw [hD]
   have c1 : 2 * (4 * x) * n ≤ (2 * (2 * K) + 4 * g) * n := Nat.mul_le_mul_right n (by omega)
   have c2 : (2 * (2 * K)) * n ≤ (2 * (4 * x) + 4 * g) * n := Nat.mul_le_mul_right n (by omega)
   rw [Nat.add_mul] at c1 c2
   have z1 : 2 * (4 * x) * n = 2 * (4 * x * n) := by ac_rfl
   have z2 : 2 * (2 * K) * n = 4 * (n * K) := by rw [show 2 * (2 * K) = 4 * K by omega]; ac_rfl
   rw [z1, z2] at c1 c2
   exact ⟨c1, c2⟩
 · have hb : (R != 0) = true := by simp [h0]
   rw [hb] at u l
   simp only [Bool.toNat_true] at u l
   have c1 : 2 * (4 * x) * n ≤ (2 * (2 * K) + 4 * g) * n := Nat.mul_le_mul_right n (by omega)
   have c2 : (2 * (2 * K + 2)) * n ≤ (2 * (4 * x) + 4 * g) * n := Nat.mul_le_mul_right n (by omega)
   rw [Nat.add_mul] at c1 c2
   have z1 : 2 * (4 * x) * n = 2 * (4 * x * n) := by ac_rfl
   have z2 : 2 * (2 * K) * n = 4 * (n * K) := by rw [show 2 * (2 * K) = 4 * K by omega]; ac_rfl
   have z3 : 2 * (2 * K + 2) * n = 4 * (n * K) + 4 * n := by rw [show 2 * (2 * K + 2) = 4 * K + 4 by omega, Nat.add_mul]; congr 1; ac_rfl
   rw [z1, z2] at c1
   rw [z1, z3] at c2
   exact ⟨by omega, by omega⟩

theorem quot_parts (m n : Nat) (m1 : 2 ^ 52 ≤ m) (m2 : m < 2 ^ 53) (n1 : 2 ^ 52 ≤ n) (n2 : n < 2 ^ 53) :
 ∃ Q t d : Nat, 54 + n.log2 - m.log2 = 54 ∧ d + t = 55 ∧ 52 ≤ t ∧ t ≤ 53 ∧ 2 ^ 52 ≤ Q ∧ Q ≤ 2 ^ 53 ∧
   rn (2 * ((m <<< 54) / n) + ((m <<< 54) % n != 0).toNat) = Q * 2 ^ d ∧ 2 * (Q * n) ≤ 2 * (m * 2 ^ t) + n ∧ 2 * (m * 2 ^ t) ≤ 2 * (Q * n) + n := by
 have lm : m.log2 = 52 := (Nat.log2_eq_iff (by omega)).2 ⟨m1, m2⟩
 have ln : n.log2 = 52 := (Nat.log2_eq_iff (by omega)).2 ⟨n1, n2⟩
 rw [Nat.shiftLeft_eq]
 generalize hX : 2 * (m * 2 ^ 54 / n) + (m * 2 ^ 54 % n != 0).toNat = X
 have k1 : 2 ^ 53 ≤ m * 2 ^ 54 / n := by rw [Nat.le_div_iff_mul_le (by omega)]; omega
 have k2 : m * 2 ^ 54 / n < 2 ^ 55 := by rw [Nat.div_lt_iff_lt_mul (by omega)]; omega
 have k3 : (m * 2 ^ 54 % n != 0).toNat ≤ 1 := by cases (m * 2 ^ 54 % n != 0) <;> simp
 have x1 : 2 ^ 54 ≤ X := by omega
 have x2 : X < 2 ^ 56 := by omega
 have d1 : dr X ≤ 3 := dr_of_lt (by omega)
 have d2 : 2 ≤ dr X := by
  have := (Nat.le_log2 (show X ≠ 0 by omega)).2 x1; unfold dr; omega
 have hr := rne_range X
 refine ⟨rne X (dr X), 55 - dr X, dr X, by omega, by omega, by omega, by omega, hr.2 (by omega), hr.1, rfl, ?_⟩
 have st := sticky (D := m * 2 ^ 54) (n := n) (d := dr X) (Q := rne X (dr X)) (by omega) d2 (by rw [hX])
 generalize rne X (dr X) = Q at *
 have hd : dr X = 2 ∨ dr X = 3 := by omega
 rcases hd with hd | hd
 · rw [hd] at st ⊢
   rw [show Q * 2 ^ 2 * n = 4 * (Q * n) by rw [show (2 : Nat) ^ 2 = 4 from rfl]; ac_rfl] at st
   rw [show 55 - 2 = 53 from rfl]
   omega
 · rw [hd] at st ⊢
   rw [show Q * 2 ^ 3 * n = 8 * (Q * n) by rw [show (2 : Nat) ^ 3 = 8 from rfl]; ac_rfl] at st
   rw [show 55 - 3 = 52 from rfl]
   omega

theorem two_lt {a b : Nat} (h : a < b) : 2 ^ a < 2 ^ b := Nat.pow_lt_pow_right (by omega) h

structure Norm (b : Nat) (s : Bool) (m p : Nat) : Prop where
 fin : FinW b
 read : double.read b = .number s m (-1074 + p)
 val : V b = sv s m p
 lo : 2 ^ 52 ≤ m
 hi : m < 2 ^ 53

theorem norm_of {b : Nat} (h : FinW b) (hn : 4503599627370496 ≤ b % 9223372036854775808) :
 Norm b (decide (9223372036854775808 ≤ b)) (4503599627370496 + b % 4503599627370496) (b % 9223372036854775808 / 4503599627370496 - 1) := by
 obtain ⟨s, m, p, hr, hV, hm, hm', hp'⟩ := read_sv h
 have e1 : m = 4503599627370496 + b % 4503599627370496 := by
  rw [hm']; unfold mg; rw [if_neg (by omega)]; omega
 have e2 : p = b % 9223372036854775808 / 4503599627370496 - 1 := by
  rw [hp']; unfold ex; rw [if_neg (by omega)]
 have es : s = decide (9223372036854775808 ≤ b) := by
  have hpos := Nat.two_pow_pos p
  have hmp : 0 < m * 2 ^ p := Nat.mul_pos (by omega) hpos
  unfold V sv at hV
  generalize m * 2 ^ p = x at *
  cases s <;> split at hV <;> simp at hV ⊢ <;> omega
 subst es e1 e2
 exact ⟨h, hr, hV, by omega, by omega⟩

theorem sv_scale (s : Bool) (m p k : Nat) : sv s (m * 2 ^ k) p = sv s m (p + k) := by
 unfold sv; rw [Nat.pow_add, Nat.mul_assoc, Nat.mul_comm (2 ^ k)]

theorem div_spec {a b : Nat} {s t : Bool} {m p n q : Nat} (ha : Norm a s m p) (hb : Norm b t n q) (h1 : q + 55 ≤ 1074 + p) (h2 : p ≤ q + 1000) :
 ∃ r Q u : Nat, double.div a b = some r ∧ FinW r ∧ V r = sv (s ^^ t) Q (1074 + p - q - u) ∧ 52 ≤ u ∧ u ≤ 53 ∧ 2 ^ 52 ≤ Q ∧ Q ≤ 2 ^ 53 ∧
   2 * (Q * n) ≤ 2 * (m * 2 ^ u) + n ∧ 2 * (m * 2 ^ u) ≤ 2 * (Q * n) + n := by
 obtain ⟨Q, u, d, g1, g2, g3, g4, g5, g6, g7, g8, g9⟩ := quot_parts m n ha.lo ha.hi hb.lo hb.hi
 have hn0 : n ≠ 0 := by have := hb.lo; omega
 unfold Format.div
 rw [ha.read, hb.read, frac64']
 simp only [Datum.quotient]
 rw [if_neg hn0, show 52 + 2 + n.log2 - m.log2 = 54 from g1]
 generalize 2 * ((m <<< 54) / n) + ((m <<< 54) % n != 0).toNat = X at *
 have hk : rn (X * 2 ^ (1074 + p - q - 55)) = Q * 2 ^ (1074 + p - q - u) := by
  rw [rn_scale, g7, Nat.mul_assoc, ← Nat.pow_add]; congr 2; omega
 have hlt : rn (X * 2 ^ (1074 + p - q - 55)) < 2 ^ 2098 := by
  rw [hk]
  refine Nat.lt_of_le_of_lt (Nat.mul_le_mul_right _ g6) ?_
  rw [← Nat.pow_add]
  have h3 : 53 + (1074 + p - q - u) < 2098 := by clear hk; omega
  exact two_lt (a := 53 + (1074 + p - q - u)) (b := 2098) h3
 obtain ⟨r, r1, r2, r3⟩ := nearest_rn (s ^^ t) X (-1074 + (p : Int) - (-1074 + (q : Int)) - ((54 : Nat) : Int) - 1) (X * 2 ^ (1074 + p - q - 55)) (1074 + p - q - 55) 0 (by rw [Nat.pow_zero, Nat.mul_one]) (by clear hlt hk; omega) hlt
 refine ⟨double.word (s ^^ t) r, Q, u, ?_, (V_word _ r r1).1, ?_, g3, g4, g5, g6, g8, g9⟩
 · simp only [Option.map, Format.write]; rw [r2]
 · rw [(V_word _ r r1).2, r3, hk]; rfl

theorem rootFrom_spec (n : Nat) : ∀ (t r : Nat), r * r ≤ n → n < (r + 2 ^ t) * (r + 2 ^ t) → Datum.rootFrom n t r * Datum.rootFrom n t r ≤ n ∧ n < (Datum.rootFrom n t r + 1) * (Datum.rootFrom n t r + 1) := by
 intro t
 induction t with
 | zero => intro r h1 h2; exact ⟨h1, by simpa [Datum.rootFrom] using h2⟩
 | succ t ih =>
   intro r h1 h2
   unfold Datum.rootFrom
   simp only [Nat.one_shiftLeft]
   split
   · rename_i h
     apply ih _ h
     rw [Nat.pow_succ] at h2
     rw [show r + 2 ^ t + 2 ^ t = r + 2 ^ t * 2 by omega]; exact h2
   · rename_i h
     exact ih _ h1 (by omega)

theorem isqrt_spec (n : Nat) : Datum.rootFrom n (n.log2 / 2 + 1) 0 * Datum.rootFrom n (n.log2 / 2 + 1) 0 ≤ n ∧ n < (Datum.rootFrom n (n.log2 / 2 + 1) 0 + 1) * (Datum.rootFrom n (n.log2 / 2 + 1) 0 + 1) := by
 apply rootFrom_spec
 · omega
 · rw [Nat.zero_add, ← Nat.pow_add]
   exact Nat.lt_of_lt_of_le Nat.lt_log2_self (Nat.pow_le_pow_right (by omega) (by omega))

theorem sq_expand (Q : Nat) (h : 1 ≤ Q) : (4 * Q - 2) * (4 * Q - 2) + 16 * Q = 16 * (Q * Q) + 4 ∧ (4 * Q + 2) * (4 * Q + 2) = 16 * (Q * Q) + 16 * Q + 4 := by
 obtain ⟨k, rfl⟩ : ∃ k, Q = k + 1 := ⟨Q - 1, by omega⟩
 rw [show 4 * (k + 1) - 2 = 4 * k + 2 by omega]
 simp only [Nat.add_mul, Nat.mul_add, Nat.mul_one, Nat.one_mul]
 have e1 : 4 * k * (4 * k) = 16 * (k * k) := by rw [show (16 : Nat) = 4 * 4 from rfl]; ac_rfl
 rw [e1]
 omega

theorem root_parts (m e : Nat) (m1 : 2 ^ 52 ≤ m) (m2 : m < 2 ^ 53) (he : e ≤ 1) :
 ∃ Q : Nat, 2 ^ 52 ≤ Q ∧ Q ≤ 2 ^ 53 ∧ Q * Q + 1 ≤ m * 2 ^ (52 + e) + Q ∧ m * 2 ^ (52 + e) ≤ Q * Q + Q ∧
   (let n := m <<< (56 + e); let w := Datum.rootFrom n (n.log2 / 2 + 1) 0; rn (2 * w + (w * w != n).toNat) = Q * 2 ^ 3) := by
 dsimp only
 rw [Nat.shiftLeft_eq]
 have hn : m * 2 ^ (56 + e) = 16 * (m * 2 ^ (52 + e)) := by rw [show 56 + e = 4 + (52 + e) by omega, Nat.pow_add 2 4, show (2 : Nat) ^ 4 = 16 from rfl]; generalize 2 ^ (52 + e) = z; exact Nat.mul_left_comm m 16 z
 have hb : 2 ^ 104 ≤ m * 2 ^ (52 + e) ∧ m * 2 ^ (52 + e) < 2 ^ 106 := by
  have : e = 0 ∨ e = 1 := by omega
  rcases this with rfl | rfl <;> omega
 rw [hn]
 generalize m * 2 ^ (52 + e) = T at *
 obtain ⟨i1, i2⟩ := isqrt_spec (16 * T)
 generalize Datum.rootFrom (16 * T) ((16 * T).log2 / 2 + 1) 0 = w at *
 have w1 : 2 ^ 54 ≤ w := by
  refine Nat.le_of_not_lt fun h => ?_
  have : (w + 1) * (w + 1) ≤ 2 ^ 54 * 2 ^ 54 := Nat.mul_le_mul h h
  omega
 have w2 : w < 2 ^ 55 := by
  refine Nat.lt_of_not_le fun h => ?_
  have : 2 ^ 55 * 2 ^ 55 ≤ w * w := Nat.mul_le_mul h h
  omega
 have hst : (w * w != 16 * T).toNat = 0 ∧ w * w = 16 * T ∨ (w * w != 16 * T).toNat = 1 ∧ w * w < 16 * T := by
  by_cases h : w * w = 16 * T
  · left; simp [h]
  · right; simp [h]; omega
 generalize (w * w != 16 * T).toNat = st at *
 have d3 : dr (2 * w + st) = 3 := by
  have a := dr_of_lt (n := 2 * w + st) (d := 3) (by omega)
  have b := (Nat.le_log2 (show 2 * w + st ≠ 0 by omega)).2 (show 2 ^ 55 ≤ 2 * w + st by omega)
  unfold dr at *; omega
 have hr := rne_range (2 * w + st)
 have u := rne_up (2 * w + st) 3
 have l := rne_down (2 * w + st) 3
 rw [d3] at hr
 refine ⟨rne (2 * w + st) 3, hr.2 (by omega), hr.1, ?_, ?_, by unfold rn; rw [d3]⟩
 all_goals
  generalize rne (2 * w + st) 3 = Q at *
  have hQ := hr.2 (by omega)
  obtain ⟨x1, x2⟩ := sq_expand Q (by omega)
  rw [show (2 : Nat) ^ 3 = 8 from rfl] at *
 · have : (4 * Q - 2) * (4 * Q - 2) ≤ 16 * T := by
    rcases hst with ⟨rfl, h⟩ | ⟨rfl, h⟩
    · have : (4 * Q - 2) * (4 * Q - 2) ≤ w * w := Nat.mul_le_mul (by omega) (by omega)
      omega
    · have : (4 * Q - 2) * (4 * Q - 2) ≤ w * w := Nat.mul_le_mul (by omega) (by omega)
      omega
   omega
 · have : 16 * T ≤ (4 * Q + 2) * (4 * Q + 2) := by
    rcases hst with ⟨rfl, h⟩ | ⟨rfl, h⟩
    · have : w * w ≤ (4 * Q + 2) * (4 * Q + 2) := Nat.mul_le_mul (by omega) (by omega)
      omega
    · have : (w + 1) * (w + 1) ≤ (4 * Q + 2) * (4 * Q + 2) := Nat.mul_le_mul (by omega) (by omega)
      omega
   omega

theorem sqrt_spec {a : Nat} {m p : Nat} (ha : Norm a false m p) (h2 : p ≤ 3000) :
 ∃ r Q : Nat, double.sqrt a = some r ∧ FinW r ∧ V r = sv false Q (511 + p / 2) ∧ 2 ^ 52 ≤ Q ∧ Q ≤ 2 ^ 53 ∧
   Q * Q + 1 ≤ m * 2 ^ (52 + p % 2) + Q ∧ m * 2 ^ (52 + p % 2) ≤ Q * Q + Q := by
 obtain ⟨Q, g1, g2, g3, g4, g5⟩ := root_parts m (p % 2) ha.lo ha.hi (by omega)
 dsimp only at g5
 have lm : m.log2 = 52 := (Nat.log2_eq_iff (by have := ha.lo; omega)).2 ⟨ha.lo, ha.hi⟩
 have hm0 : m ≠ 0 := by have := ha.lo; omega
 unfold Format.sqrt
 rw [ha.read, frac64']
 simp only [Datum.root]
 rw [if_neg hm0, if_neg (by decide), lm]
 have hmore : 2 * (52 + 2) - 52 + ((-1074 + (p : Int) - ((2 * (52 + 2) - 52 : Nat) : Int)) % 2).toNat = 56 + p % 2 := by omega
 rw [hmore]
 generalize 2 * Datum.rootFrom (m <<< (56 + p % 2)) ((m <<< (56 + p % 2)).log2 / 2 + 1) 0 + (Datum.rootFrom (m <<< (56 + p % 2)) ((m <<< (56 + p % 2)).log2 / 2 + 1) 0 * Datum.rootFrom (m <<< (56 + p % 2)) ((m <<< (56 + p % 2)).log2 / 2 + 1) 0 != m <<< (56 + p % 2)).toNat = X at *
 have hk : rn (X * 2 ^ (508 + p / 2)) = Q * 2 ^ (511 + p / 2) := by
  rw [rn_scale, g5, Nat.mul_assoc, ← Nat.pow_add]; congr 2; omega
 have hlt : rn (X * 2 ^ (508 + p / 2)) < 2 ^ 2098 := by
  rw [hk]
  refine Nat.lt_of_le_of_lt (Nat.mul_le_mul_right _ g2) ?_
  rw [← Nat.pow_add]
  have h3 : 53 + (511 + p / 2) < 2098 := by clear hk; omega
  exact two_lt (a := 53 + (511 + p / 2)) (b := 2098) h3
 obtain ⟨r, r1, r2, r3⟩ := nearest_rn false X ((-1074 + (p : Int) - ((56 + p % 2 : Nat) : Int)) / 2 - 1) (X * 2 ^ (508 + p / 2)) (508 + p / 2) 0 (by rw [Nat.pow_zero, Nat.mul_one]) (by clear hlt hk; omega) hlt
 refine ⟨double.word false r, Q, ?_, (V_word _ r r1).1, ?_, g1, g2, g3, g4⟩
 · simp only [Option.map, Format.write]; rw [r2]
 · rw [(V_word _ r r1).2, r3, hk]; rfl
end Ieee.Own

namespace Ieee.Own

theorem Rep_pow (k : Nat) : Rep (((2 ^ k : Nat) : Int)) := ⟨1, k, by omega, by simp [Int.natAbs_pow]⟩
theorem RN_bound {z : Int} {k : Nat} (h : z.natAbs ≤ 2 ^ k) : (RN z).natAbs ≤ 2 ^ k := by
 have e := RN_exact (Rep_pow k)
 have e' : RN (-((2 ^ k : Nat) : Int)) = -((2 ^ k : Nat) : Int) := by rw [RN_neg, e]
 generalize (2 ^ k : Nat) = M at *
 have h1 := RN_mono (show z ≤ (M : Int) by omega)
 have h2 := RN_mono (show -(M : Int) ≤ z by omega)
 omega
theorem two_le {a b : Nat} (h : a ≤ b) : 2 ^ a ≤ 2 ^ b := Nat.pow_le_pow_right (by omega) h
theorem lt_top {z : Int} {k : Nat} (h : z.natAbs ≤ 2 ^ k) (hk : k < 2098) : (RN z).natAbs < 2 ^ 2098 :=
 Nat.lt_of_le_of_lt (RN_bound h) (two_lt (a := k) (b := 2098) hk)

theorem two_succ (k : Nat) : 2 ^ (k + 1) = 2 * 2 ^ k := by rw [Nat.pow_succ]; omega
theorem add_abs {x y : Int} {k : Nat} (hx : x.natAbs ≤ 2 ^ k) (hy : y.natAbs ≤ 2 ^ k) : (x + y).natAbs ≤ 2 ^ (k + 1) := by rw [two_succ]; omega
theorem sub_abs {x y : Int} {k : Nat} (hx : x.natAbs ≤ 2 ^ k) (hy : y.natAbs ≤ 2 ^ k) : (x - y).natAbs ≤ 2 ^ (k + 1) := by rw [two_succ]; omega
theorem abs_up {x : Int} {k l : Nat} (hx : x.natAbs ≤ 2 ^ k) (h : k ≤ l) : x.natAbs ≤ 2 ^ l := Nat.le_trans hx (two_le h)

theorem addW {a b k : Nat} (ha : FinW a) (hb : FinW b) (xa : (V a).natAbs ≤ 2 ^ k) (xb : (V b).natAbs ≤ 2 ^ k) (hk : k < 2000) :
 ∃ r, double.add a b = some r ∧ FinW r ∧ V r = RN (V a + V b) ∧ (V r).natAbs ≤ 2 ^ (k + 1) := by
 have h := add_abs xa xb
 obtain ⟨r, h1, h2, h3⟩ := add_spec ha hb (lt_top h (by omega))
 exact ⟨r, h1, h2, h3, by rw [h3]; exact RN_bound h⟩
theorem subW {a b k : Nat} (ha : FinW a) (hb : FinW b) (xa : (V a).natAbs ≤ 2 ^ k) (xb : (V b).natAbs ≤ 2 ^ k) (hk : k < 2000) :
 ∃ r, double.sub a b = some r ∧ FinW r ∧ V r = RN (V a - V b) ∧ (V r).natAbs ≤ 2 ^ (k + 1) := by
 have h := sub_abs xa xb
 obtain ⟨r, h1, h2, h3⟩ := sub_spec ha hb (lt_top h (by omega))
 exact ⟨r, h1, h2, h3, by rw [h3]; exact RN_bound h⟩

structure Nr (b : Nat) (A : Int) (p : Nat) : Prop where
 fin : FinW b
 val : V b = A * 2 ^ p
 lo : A = 0 ∨ 2 ^ 52 ≤ A.natAbs
 hi : A.natAbs < 2 ^ 53

theorem Nr.of {b : Nat} {s : Bool} {m p : Nat} (h : Norm b s m p) : Nr b (sv s m 0) p := by
 refine ⟨h.fin, ?_, Or.inr ?_, ?_⟩
 · rw [h.val]; unfold sv; cases s <;> simp [Int.neg_mul]
 · rw [sv_abs]; have := h.lo; omega
 · rw [sv_abs]; have := h.hi; omega
theorem Nr.zero {b : Nat} (h : FinW b) (h0 : V b = 0) (p : Nat) : Nr b 0 p := ⟨h, by rw [h0]; simp, Or.inl rfl, by decide⟩

theorem mulW {a b k : Nat} {N : Int} (ha : FinW a) (hb : FinW b) (hN : V a * V b = N * 2 ^ 1074) (h : N.natAbs ≤ 2 ^ k) (hk : k < 2098) :
 ∃ r, double.mul a b = some r ∧ FinW r ∧ V r = RN N := mul_spec ha hb hN (lt_top h hk)

theorem div_zero {a b : Nat} (ha : FinW a) (h0 : V a = 0) (hb : FinW b) (hn : V b ≠ 0) : ∃ r, double.div a b = some r ∧ FinW r ∧ V r = 0 := by
 obtain ⟨s, m, p, hr, hV, -⟩ := read_sv ha
 obtain ⟨t, n, q, hr', hV', -⟩ := read_sv hb
 have hm : m = 0 := by
  have := sv_abs s m p
  rw [← hV, h0] at this
  have hp := Nat.two_pow_pos p
  rcases Nat.mul_eq_zero.1 this.symm with h | h <;> omega
 have hn0 : n ≠ 0 := by
  intro h; subst h; rw [hV'] at hn; apply hn; unfold sv; simp
 subst hm
 unfold Format.div
 rw [hr, hr']
 simp only [Datum.quotient]
 rw [if_neg hn0]
 have hX : 2 * (0 <<< (double.fractionBits + 2 + n.log2 - Nat.log2 0) / n) + (0 <<< (double.fractionBits + 2 + n.log2 - Nat.log2 0) % n != 0).toNat = 0 := by
  rw [Nat.zero_shiftLeft]; simp
 rw [hX]
 refine ⟨double.word (s ^^ t) 0, ?_, (V_word _ 0 (by omega)).1, ?_⟩
 · simp only [Option.map, Format.write, Format.nearest, if_true]
 · rw [(V_word _ 0 (by omega)).2, val_zero]; simp

theorem sqrt_zero {a : Nat} (ha : FinW a) (h0 : V a = 0) : ∃ r, double.sqrt a = some r ∧ FinW r ∧ V r = 0 := by
 obtain ⟨s, m, p, hr, hV, -⟩ := read_sv ha
 have hm : m = 0 := by
  have := sv_abs s m p
  rw [← hV, h0] at this
  have hp := Nat.two_pow_pos p
  rcases Nat.mul_eq_zero.1 this.symm with h | h <;> omega
 subst hm
 unfold Format.sqrt
 rw [hr]
 simp only [Datum.root, if_true]
 refine ⟨double.word s 0, ?_, (V_word _ 0 (by omega)).1, ?_⟩
 · simp only [Option.map, Format.write, Format.nearest, if_true]
 · rw [(V_word _ 0 (by omega)).2, val_zero]; simp

def fitB (b : Nat) : Bool := decide (b % 9223372036854775808 = 0 ∨ 3706462493325918208 ≤ b % 9223372036854775808 ∧ b % 9223372036854775808 ≤ 5507902344274116608)

theorem V_abs' (b : Nat) (hb : FinW b) : (V b).natAbs = val 52 (b % 9223372036854775808) := by
 have h1 := hb.1
 unfold V
 by_cases h : b < 9223372036854775808
 · rw [if_pos h, show b % 9223372036854775808 = b by omega]; rfl
 · rw [if_neg h, show b % 9223372036854775808 = b - 9223372036854775808 by omega]; omega

theorem fit_fin {b : Nat} (h : b < 18446744073709551616) (hf : fitB b = true) : FinW b := by
 unfold fitB at hf; rw [decide_eq_true_eq] at hf
 exact ⟨h, by omega⟩
theorem fit_norm {b : Nat} (h : b < 18446744073709551616) (hf : fitB b = true) : V b = 0 ∨ ∃ s m p, Norm b s m p ∧ 822 ≤ p ∧ p ≤ 1222 := by
 have hfin := fit_fin h hf
 unfold fitB at hf; rw [decide_eq_true_eq] at hf
 by_cases h0 : b % 9223372036854775808 = 0
 · left
   have := V_abs' b hfin
   rw [h0, val_zero] at this
   omega
 · right
   exact ⟨_, _, _, norm_of hfin (by omega), by omega, by omega⟩
theorem norm_dvd {b : Nat} {s : Bool} {m p : Nat} (h : Norm b s m p) {k : Nat} (hk : k ≤ p) : (2 : Int) ^ k ∣ V b := by
 rw [(Nr.of h).val]; exact Int.dvd_trans (pow_dvd hk) (Int.dvd_mul_left _ _)
theorem pow_abs_dvd {z : Int} {k : Nat} (h : (2 : Int) ^ k ∣ z) (h0 : z ≠ 0) : 2 ^ k ≤ z.natAbs := by
 have h1 : 2 ^ k ∣ z.natAbs := by
  have := Int.natAbs_dvd_natAbs.2 h
  rwa [Int.natAbs_pow] at this
 exact Nat.le_of_dvd (by omega) h1

theorem dvd_ge {z : Int} {j k : Nat} (h : (2 : Int) ^ k ∣ z) (h0 : z ≠ 0) (hj : j ≤ k) : 2 ^ j ≤ z.natAbs := Nat.le_trans (two_le hj) (pow_abs_dvd h h0)
theorem val_ge (m e f : Nat) (h1 : 2 ^ 52 ≤ m) (h : f ≤ e) : 2 ^ (52 + f) ≤ m * 2 ^ e := by
 rw [Nat.pow_add]; exact Nat.mul_le_mul h1 (two_le h)

theorem not_big (m e f k : Nat) (h1 : 2 ^ 52 ≤ m) (h : f ≤ e) (hk : k < 52 + f) (hu : m * 2 ^ e ≤ 2 ^ k) : False :=
 absurd (Nat.le_trans (val_ge m e f h1 h) hu) (Nat.not_le.2 (two_lt hk))

theorem good {b k : Nat} (hb : FinW b) (hd : (2 : Int) ^ 500 ∣ V b) (hu : (V b).natAbs ≤ 2 ^ k) (hk : k ≤ 1490) :
 (∃ X, V b = X * 2 ^ 50) ∧ (mg 52 (b % 9223372036854775808) = 0 ∨ 50 ≤ ex 52 (b % 9223372036854775808) ∧ ex 52 (b % 9223372036854775808) < 1522) ∧
 (V b = 0 ∨ 2 ^ 174 ≤ (V b).natAbs ∧ (V b).natAbs ≤ 2 ^ 1494) := by
 refine ⟨?_, ?_, ?_⟩
 · obtain ⟨X, hX⟩ := Int.dvd_trans (pow_dvd (show 50 ≤ 500 by omega)) hd
   exact ⟨X, by rw [hX, Int.mul_comm]⟩
 · by_cases h0 : V b = 0
   · left
     have := V_abs' b hb
     rw [h0] at this
     have hz := (val_zero_iff 52 _).1 this.symm
     rw [hz]; unfold mg; simp
   · right
     have h1 := pow_abs_dvd hd h0
     rw [V_abs' b hb] at h1 hu
     generalize b % 9223372036854775808 = r at *
     have hm := mg_lt 52 r
     unfold val at h1 hu
     constructor
     · refine Nat.le_of_not_lt fun hlt => ?_
       have h2 : mg 52 r * 2 ^ ex 52 r < 2 ^ (52 + 1) * 2 ^ 50 :=
        Nat.lt_of_lt_of_le (Nat.mul_lt_mul_of_pos_right hm (Nat.two_pow_pos _)) (Nat.mul_le_mul_left _ (two_le (by omega)))
       rw [← Nat.pow_add] at h2
       have h3 := two_le (a := 52 + 1 + 50) (b := 500) (by decide)
       exact absurd h1 (Nat.not_le.2 (Nat.lt_of_lt_of_le h2 h3))
     · refine Nat.lt_of_not_le fun hle => ?_
       have hge : 2 ^ 52 ≤ mg 52 r := by
        unfold mg
        split
        · rename_i h; unfold ex at hle; rw [if_pos h] at hle; omega
        · omega
       exact not_big (mg 52 r) (ex 52 r) 1522 k hge hle (by clear h1 hu; omega) hu
 · by_cases h0 : V b = 0
   · exact Or.inl h0
   · right
     exact ⟨dvd_ge (j := 174) (k := 500) hd h0 (by decide), abs_up (k := k) (l := 1494) hu (Nat.le_trans hk (by decide))⟩

def negW (b : Nat) : Nat := if b < 9223372036854775808 then b + 9223372036854775808 else b - 9223372036854775808
theorem negW_fin {b : Nat} (h : FinW b) : FinW (negW b) := by
 obtain ⟨h1, h2⟩ := h; unfold FinW negW; split <;> omega
theorem negW_V {b : Nat} (h : FinW b) : V (negW b) = -V b := by
 have h1 := h.1
 unfold negW V
 by_cases hb : b < 9223372036854775808
 · rw [if_pos hb, if_pos hb, if_neg (by omega), show b + 9223372036854775808 - 9223372036854775808 = b by omega]
 · rw [if_neg hb, if_neg hb, if_pos (by omega)]; omega
end Ieee.Own

namespace Go.Proofs.YtacinenddnfcbaaGreat
open Ieee.Own

def unit : Rat := (((2 ^ 1074 : Nat) : Int) : Rat)
theorem unit_pos : 0 < unit := by decide +kernel

def Q (b : Nat) : Rat := (V b : Rat) / unit

theorem div_le {x y : Rat} (h : x ≤ y) : x / unit ≤ y / unit := by
 have hu := unit_pos
 rw [Rat.div_def, Rat.div_def]
 exact Rat.mul_le_mul_of_nonneg_right h (Rat.le_of_lt (Rat.inv_pos.2 hu))
theorem mul_unit (x : Rat) : x / unit * unit = x := by
 have := unit_pos
 rw [Rat.div_mul_cancel]
 grind
theorem unit_div {x : Rat} : x * unit / unit = x := by
 have := unit_pos
 rw [Rat.mul_div_cancel]
 grind

theorem Q_unit (b : Nat) : Q b * unit = (V b : Rat) := mul_unit _
theorem Q_le {a b : Nat} : Q a ≤ Q b ↔ V a ≤ V b := by
 constructor
 · intro h
   have := Rat.mul_le_mul_of_nonneg_right h (Rat.le_of_lt unit_pos)
   rw [Q_unit, Q_unit] at this
   exact Rat.intCast_le_intCast.1 this
 · intro h
   exact div_le (Rat.intCast_le_intCast.2 h)
theorem Q_lt {a b : Nat} : Q a < Q b ↔ V a < V b := by
 have := @Q_le b a
 constructor <;> intro h
 · have h' : ¬ V b ≤ V a := fun q => by have := this.2 q; grind
   omega
 · have h' : ¬ Q b ≤ Q a := fun q => by have := this.1 q; omega
   grind

def Rld (w u : Rat) : Prop := ∀ M, -M ≤ u → u ≤ M → -(M * mkRat 1 (2^53)) ≤ w - u ∧ w - u ≤ M * mkRat 1 (2^53)

theorem RN_rel (z : Int) : 2 ^ 53 * (RN z - z).natAbs ≤ z.natAbs := by
 have h1 := RN_err (z := z) (d := dr z.natAbs) (dr_lt _)
 by_cases h : 0 < dr z.natAbs
 · have h2 := dr_le _ h
   rw [Nat.pow_add] at h2
   have : 2 ^ 53 * (RN z - z).natAbs ≤ 2 ^ 52 * 2 ^ dr z.natAbs := by
    have : (2 : Nat) ^ 53 = 2 ^ 52 * 2 := by omega
    rw [this, Nat.mul_assoc]
    exact Nat.mul_le_mul_left _ h1
   omega
 · have h0 : dr z.natAbs = 0 := by omega
   rw [h0] at h1
   have : (RN z - z).natAbs = 0 := by omega
   omega

theorem rel_of {w z : Int} (h : 2 ^ 53 * (w - z).natAbs ≤ z.natAbs) : Rld ((w : Rat) / unit) ((z : Rat) / unit) := by
 intro M h1 h2
 have hu := unit_pos
 have a1 : (2 ^ 53 : Int) * (w - z) ≤ (z.natAbs : Int) := by omega
 have a2 : (2 ^ 53 : Int) * (z - w) ≤ (z.natAbs : Int) := by omega
 have b1 := Rat.intCast_le_intCast.2 a1
 have b2 := Rat.intCast_le_intCast.2 a2
 rw [Rat.intCast_mul, Rat.intCast_sub] at b1 b2
 have e53 : ((2 ^ 53 : Int) : Rat) = 9007199254740992 := by decide +kernel
 have m53 : mkRat 1 (2 ^ 53) = 1 / 9007199254740992 := by decide +kernel
 rw [e53] at b1 b2
 rw [m53]
 have c1 : -(M * unit) ≤ (z : Rat) := by
  have := Rat.mul_le_mul_of_nonneg_right h1 (Rat.le_of_lt hu)
  rw [mul_unit] at this; grind
 have c2 : (z : Rat) ≤ M * unit := by
  have := Rat.mul_le_mul_of_nonneg_right h2 (Rat.le_of_lt hu)
  rw [mul_unit] at this; grind
 have c3 : ((z.natAbs : Int) : Rat) ≤ M * unit := by
  rcases (by omega : (z.natAbs : Int) = z ∨ (z.natAbs : Int) = -z) with h | h
  · rw [h]; exact c2
  · rw [h, Rat.intCast_neg]; grind
 have d1 : 9007199254740992 * ((w : Rat) - z) ≤ M * unit := by grind
 have d2 : 9007199254740992 * ((z : Rat) - w) ≤ M * unit := by grind
 have f1 := div_le d1
 have f2 := div_le d2
 rw [unit_div] at f1 f2
 have g1 : 9007199254740992 * ((w : Rat) - z) / unit = 9007199254740992 * ((w : Rat) / unit - (z : Rat) / unit) := by
  simp only [Rat.div_def]; grind
 have g2 : 9007199254740992 * ((z : Rat) - w) / unit = 9007199254740992 * ((z : Rat) / unit - (w : Rat) / unit) := by
  simp only [Rat.div_def]; grind
 rw [g1] at f1
 rw [g2] at f2
 generalize (w : Rat) / unit = W at *
 generalize (z : Rat) / unit = Z at *
 constructor <;> grind

theorem add_rel {a b r : Nat} (h : V r = RN (V a + V b)) : Rld (Q r) (Q a + Q b) := by
 have e : Q a + Q b = ((V a + V b : Int) : Rat) / unit := by
  unfold Q; rw [Rat.intCast_add]; simp only [Rat.div_def]; grind
 rw [e]; unfold Q; rw [h]
 exact rel_of (RN_rel _)
theorem sub_rel {a b r : Nat} (h : V r = RN (V a - V b)) : Rld (Q r) (Q a - Q b) := by
 have e : Q a - Q b = ((V a - V b : Int) : Rat) / unit := by
  unfold Q; rw [Rat.intCast_sub]; simp only [Rat.div_def]; grind
 rw [e]; unfold Q; rw [h]
 exact rel_of (RN_rel _)
theorem Q_mul {a b : Nat} {N : Int} (h : V a * V b = N * 2 ^ 1074) : Q a * Q b = (N : Rat) / unit := by
 have hu := unit_pos
 have e : (V a : Rat) * (V b : Rat) = (N : Rat) * unit := by
  rw [← Rat.intCast_mul, h, Rat.intCast_mul]
  have : ((2 ^ 1074 : Int) : Rat) = unit := by decide +kernel
  rw [this]
 have : Q a * Q b * unit = (N : Rat) := by
  have h1 : Q a * Q b * unit * unit = (N : Rat) * unit := by
   rw [← e, ← Q_unit a, ← Q_unit b]; grind
  have h2 := congrArg (· / unit) h1
  simp only [unit_div] at h2
  exact h2
 rw [← this, unit_div]
theorem mul_rel {a b r : Nat} {N : Int} (hN : V a * V b = N * 2 ^ 1074) (h : V r = RN N) : Rld (Q r) (Q a * Q b) := by
 rw [Q_mul hN]; unfold Q; rw [h]
 exact rel_of (RN_rel _)

structure Ap (w x e m : Rat) : Prop where
 lo : -e ≤ w - x
 hi : w - x ≤ e
 mlo : -m ≤ x
 mhi : x ≤ m

theorem abs_mul {x y B M : Rat} (hx : -B ≤ x) (hx' : x ≤ B) (hy : -M ≤ y) (hy' : y ≤ M) :
 -(B * M) ≤ x * y ∧ x * y ≤ B * M := by
 have h1 : 0 ≤ (B - x) * (M + y) := Rat.mul_nonneg (by grind) (by grind)
 have h2 : 0 ≤ (B + x) * (M - y) := Rat.mul_nonneg (by grind) (by grind)
 have h3 : 0 ≤ (B - x) * (M - y) := Rat.mul_nonneg (by grind) (by grind)
 have h4 : 0 ≤ (B + x) * (M + y) := Rat.mul_nonneg (by grind) (by grind)
 constructor <;> grind

theorem Ap.mul {w v u x y e d m n : Rat} (h : Ap w x e m) (k : Ap v y d n) (r : Rld u (w * v)) :
 Ap u (x * y) (m * d + n * e + e * d + (m + e) * (n + d) * mkRat 1 (2^53)) (m * n) := by
 obtain ⟨h1, h2, h3, h4⟩ := h
 obtain ⟨k1, k2, k3, k4⟩ := k
 have a := abs_mul h3 h4 k1 k2
 have b := abs_mul k3 k4 h1 h2
 have c := abs_mul h1 h2 k1 k2
 have p := abs_mul (x := w) (y := v) (B := m + e) (M := n + d) (by grind) (by grind) (by grind) (by grind)
 have q := r _ p.1 p.2
 have g := abs_mul h3 h4 k3 k4
 generalize (m + e) * (n + d) * mkRat 1 (2^53) = E at *
 have i : u - x * y = (u - w * v) + x * (v - y) + y * (w - x) + (w - x) * (v - y) := by grind
 exact ⟨by rw [i]; grind, by rw [i]; grind, g.1, g.2⟩

theorem Ap.add {w v u x y e d m n : Rat} (h : Ap w x e m) (k : Ap v y d n) (r : Rld u (w + v)) :
 Ap u (x + y) (e + d + (m + e + n + d) * mkRat 1 (2^53)) (m + n) := by
 obtain ⟨h1, h2, h3, h4⟩ := h
 obtain ⟨k1, k2, k3, k4⟩ := k
 have q := r (m + e + n + d) (by grind) (by grind)
 generalize (m + e + n + d) * mkRat 1 (2^53) = E at *
 exact ⟨by grind, by grind, by grind, by grind⟩

theorem Ap.le {w x e m e' m' : Rat} (h : Ap w x e m) (h1 : e ≤ e') (h2 : m ≤ m') : Ap w x e' m' := by
 obtain ⟨a, b, c, d⟩ := h
 exact ⟨by grind, by grind, by grind, by grind⟩

end Go.Proofs.YtacinenddnfcbaaGreat

namespace Ply

abbrev P := List Rat

def ev : P → Rat → Rat
 | [], _ => 0
 | a :: p, x => a + x * ev p x

def add : P → P → P
 | [], q => q
 | p, [] => p
 | a :: p, b :: q => (a + b) :: add p q

def scale (c : Rat) : P → P
 | [] => []
 | a :: p => (c * a) :: scale c p

def mul : P → P → P
 | [], _ => []
 | a :: p, q => add (scale a q) (0 :: mul p q)

def shift (c d : Rat) : P → P
 | [] => []
 | a :: p => add [a] (mul [c, d] (shift c d p))

def spread : P → P
 | [] => []
 | a :: p => a :: 0 :: spread p

def mag (B : Rat) : P → Rat
 | [] => 0
 | a :: p => (if 0 ≤ a then a else -a) + B * mag B p

def slope (B : Rat) : P → Rat
 | [] => 0
 | _ :: p => mag B p + B * slope B p

theorem ev_add (p q : P) (x : Rat) : ev (add p q) x = ev p x + ev q x := by
 induction p generalizing q with
 | nil => simp only [add, ev]; grind
 | cons a p ih =>
   cases q with
   | nil => simp only [add, ev]; grind
   | cons b q => simp only [add, ev, ih]; grind

theorem ev_scale (c : Rat) (p : P) (x : Rat) : ev (scale c p) x = c * ev p x := by
 induction p with
 | nil => simp only [scale, ev]; grind
 | cons a p ih => simp only [scale, ev, ih]; grind

theorem ev_mul (p q : P) (x : Rat) : ev (mul p q) x = ev p x * ev q x := by
 induction p with
 | nil => simp only [mul, ev]; grind
 | cons a p ih => simp only [mul, ev, ev_add, ev_scale, ih]; grind

theorem ev_shift (c d : Rat) (p : P) (x : Rat) : ev (shift c d p) x = ev p (c + d * x) := by
 induction p with
 | nil => simp only [shift, ev]
 | cons a p ih => simp only [shift, ev, ev_add, ev_mul, ih]; grind

theorem ev_spread (p : P) (x : Rat) : ev (spread p) x = ev p (x * x) := by
 induction p with
 | nil => simp only [spread, ev]
 | cons a p ih => simp only [spread, ev, ih]; grind

theorem abs_mul_le {x y B M : Rat} (hx : -B ≤ x) (hx' : x ≤ B) (hy : -M ≤ y) (hy' : y ≤ M) :
 -(B * M) ≤ x * y ∧ x * y ≤ B * M := by
 have h1 : 0 ≤ (B - x) * (M + y) := Rat.mul_nonneg (by grind) (by grind)
 have h2 : 0 ≤ (B + x) * (M - y) := Rat.mul_nonneg (by grind) (by grind)
 have h3 : 0 ≤ (B - x) * (M - y) := Rat.mul_nonneg (by grind) (by grind)
 have h4 : 0 ≤ (B + x) * (M + y) := Rat.mul_nonneg (by grind) (by grind)
 constructor <;> grind

theorem ev_le {B x : Rat} (h1 : -B ≤ x) (h2 : x ≤ B) (p : P) : -mag B p ≤ ev p x ∧ ev p x ≤ mag B p := by
 induction p with
 | nil => simp [mag, ev]
 | cons a p ih =>
   have h := abs_mul_le h1 h2 ih.1 ih.2
   simp only [mag, ev]
   split <;> constructor <;> grind

theorem near {B e x : Rat} (h1 : -B ≤ x) (h2 : x ≤ B) (p q : P) (h : mag B (add p (scale (-1) q)) ≤ e) :
 ev p x - e ≤ ev q x ∧ ev q x ≤ ev p x + e := by
 have := ev_le h1 h2 (add p (scale (-1) q))
 rw [ev_add, ev_scale] at this
 constructor <;> grind

theorem rise {B x y : Rat} (h1 : -B ≤ x) (h2 : x ≤ B) (h3 : -B ≤ y) (h4 : y ≤ B) (p : P) :
 ∃ d, ev p y - ev p x = (y - x) * d ∧ -slope B p ≤ d ∧ d ≤ slope B p := by
 induction p with
 | nil => exact ⟨0, by simp only [ev]; grind, by simp [slope]⟩
 | cons a p ih =>
   obtain ⟨d, hd, l, u⟩ := ih
   refine ⟨ev p y + x * d, ?_, ?_⟩
   · simp only [ev]; grind
   · have h := ev_le h3 h4 p
     have h' := abs_mul_le h1 h2 l u
     simp only [slope]
     constructor <;> grind

theorem rises {B x y a b : Rat} {p : P} (h1 : -B ≤ x) (h3 : y ≤ B) (hxy : x ≤ y)
 (hb : B * mag B p + B * slope B (b :: p) ≤ b) : ev (a :: b :: p) x ≤ ev (a :: b :: p) y := by
 obtain ⟨d, hd, l, u⟩ := rise h1 (by grind) (by grind) h3 (b :: p)
 have h := ev_le (by grind : -B ≤ y) h3 p
 have h5 := abs_mul_le (by grind : -B ≤ y) h3 h.1 h.2
 have h6 := abs_mul_le h1 (by grind : x ≤ B) l u
 have h7 : 0 ≤ (y - x) * (ev (b :: p) y + x * d) := by
  refine Rat.mul_nonneg (by grind) ?_
  simp only [ev]
  grind
 have h8 : ev (a :: b :: p) y - ev (a :: b :: p) x = (y - x) * (ev (b :: p) y + x * d) := by
  have e1 : ev (a :: b :: p) y = a + y * ev (b :: p) y := rfl
  have e2 : ev (a :: b :: p) x = a + x * ev (b :: p) x := rfl
  grind
 grind

theorem falls {B x y a b : Rat} {p : P} (h1 : -B ≤ x) (h3 : y ≤ B) (hxy : x ≤ y)
 (hb : B * mag B p + B * slope B (b :: p) ≤ -b) : ev (a :: b :: p) y ≤ ev (a :: b :: p) x := by
 obtain ⟨d, hd, l, u⟩ := rise h1 (by grind) (by grind) h3 (b :: p)
 have h := ev_le (by grind : -B ≤ y) h3 p
 have h5 := abs_mul_le (by grind : -B ≤ y) h3 h.1 h.2
 have h6 := abs_mul_le h1 (by grind : x ≤ B) l u
 have h7 : 0 ≤ (y - x) * (-(ev (b :: p) y + x * d)) := by
  refine Rat.mul_nonneg (by grind) ?_
  simp only [ev]
  grind
 have h8 : ev (a :: b :: p) y - ev (a :: b :: p) x = (y - x) * (ev (b :: p) y + x * d) := by
  have e1 : ev (a :: b :: p) y = a + y * ev (b :: p) y := rfl
  have e2 : ev (a :: b :: p) x = a + x * ev (b :: p) x := rfl
  grind
 grind

def fact : Nat → Nat
 | 0 => 1
 | n + 1 => (n + 1) * fact n

def co (n : Nat) : Rat := (if n % 4 < 2 then 1 else -1) * mkRat 1 (fact n)

def sinZ (m : Nat) : P := (List.range m).map (fun n => co (2 * n + 1))
def cosZ (m : Nat) : P := (List.range m).map (fun n => co (2 * n))

def sinP (m : Nat) : P := 0 :: spread (sinZ m)
def cosP (m : Nat) : P := spread (cosZ m)

def s (y : Rat) : Rat := ev (sinP 18) y
def c (y : Rat) : Rat := ev (cosP 18) y

theorem s_eq (y : Rat) : s y = y * ev (sinZ 18) (y * y) := by
 simp only [s, sinP, ev, ev_spread]; grind

theorem c_eq (y : Rat) : c y = ev (cosZ 18) (y * y) := by
 simp only [c, cosP, ev_spread]

theorem s_neg (y : Rat) : s (-y) = -s y := by
 rw [s_eq, s_eq]
 have : -y * -y = y * y := by grind
 rw [this]; grind

theorem c_neg (y : Rat) : c (-y) = c y := by
 rw [c_eq, c_eq]
 have : -y * -y = y * y := by grind
 rw [this]

def tau : Rat := mkRat 62831853071795864769252867665590057683943 (10^40)

def eps : Rat := mkRat 1 (10^24)

def top : Rat := tau / 8

theorem top_nn : 0 ≤ top := by decide +kernel

theorem circle {y : Rat} (h1 : -top ≤ y) (h2 : y ≤ top) :
 1 - eps ≤ s y * s y + c y * c y ∧ s y * s y + c y * c y ≤ 1 + eps := by
 have h : mag top (add (add (mul (sinP 18) (sinP 18)) (mul (cosP 18) (cosP 18))) [-1]) ≤ eps := by
  decide +kernel
 have := ev_le h1 h2 (add (add (mul (sinP 18) (sinP 18)) (mul (cosP 18) (cosP 18))) [-1])
 simp only [ev_add, ev_mul] at this
 simp only [s, c]
 have e : ev [-1] y = -1 := by simp only [ev]; grind
 grind

theorem double {y : Rat} (h1 : -top ≤ y) (h2 : y ≤ top) :
 2 * (s y * c y) - eps ≤ s (2 * y) ∧ s (2 * y) ≤ 2 * (s y * c y) + eps := by
 have := near h1 h2 (scale 2 (mul (sinP 18) (cosP 18))) (shift 0 2 (sinP 18)) (e := eps) (by decide +kernel)
 rw [ev_scale, ev_mul, ev_shift] at this
 have e : (0 + 2 * y : Rat) = 2 * y := by grind
 rw [e] at this
 exact this

theorem quarter {y : Rat} (h1 : -top ≤ y) (h2 : y ≤ top) :
 c y - eps ≤ s (2 * top + y) ∧ s (2 * top + y) ≤ c y + eps := by
 have := near h1 h2 (cosP 18) (shift (2 * top) 1 (sinP 18)) (e := eps) (by decide +kernel)
 rw [ev_shift] at this
 have e : (2 * top + 1 * y : Rat) = 2 * top + y := by grind
 rw [e] at this
 exact this

theorem eighth : c top - eps ≤ s top ∧ s top ≤ c top + eps := by
 constructor <;> decide +kernel

theorem s_rises {x y : Rat} (h1 : -top ≤ x) (h2 : y ≤ top) (h : x ≤ y) : s x ≤ s y := by
 have e : sinP 18 = 0 :: 1 :: (sinP 18).drop 2 := by decide +kernel
 simp only [s]
 rw [e]
 exact rises h1 h2 h (by decide +kernel)

theorem sq_le {x y : Rat} (h0 : 0 ≤ x) (h : x ≤ y) : x * x ≤ y * y := by
 have h1 : 0 ≤ (y - x) * (y + x) := Rat.mul_nonneg (by grind) (by grind)
 grind

theorem c_falls {x y : Rat} (h1 : 0 ≤ x) (h2 : y ≤ top) (h : x ≤ y) : c y ≤ c x := by
 have e : cosZ 18 = 1 :: (-1/2) :: (cosZ 18).drop 2 := by decide +kernel
 rw [c_eq, c_eq, e]
 have hx : 0 ≤ x * x := Rat.mul_nonneg h1 h1
 have hy : y * y ≤ top * top := sq_le (by grind) h2
 have ht : 0 ≤ top * top := Rat.mul_nonneg top_nn top_nn
 exact falls (B := top * top) (by grind) hy (sq_le h1 h) (by decide +kernel)

theorem c_rises {x y : Rat} (h1 : -top ≤ x) (h2 : y ≤ 0) (h : x ≤ y) : c x ≤ c y := by
 have := c_falls (x := -y) (y := -x) (by grind) (by grind) (by grind)
 rwa [c_neg, c_neg] at this

theorem c_top {y : Rat} (h1 : -top ≤ y) (h2 : y ≤ top) : c top ≤ c y := by
 rcases Rat.le_total (a := 0) (b := y) with h | h
 · exact c_falls h (by grind) h2
 · have := c_falls (x := -y) (y := top) (by grind) (by grind) (by grind)
   rwa [c_neg] at this

theorem c_le_one {y : Rat} (h1 : -top ≤ y) (h2 : y ≤ top) : c y ≤ 1 := by
 have e : c 0 = 1 := by decide +kernel
 rcases Rat.le_total (a := 0) (b := y) with h | h
 · have := c_falls (x := 0) (by grind) h2 h
   grind
 · have := c_falls (x := 0) (y := -y) (by grind) (by grind) (by grind)
   rw [c_neg] at this
   grind

theorem c_nn {y : Rat} (h1 : -top ≤ y) (h2 : y ≤ top) : 0 ≤ c y := by
 have := c_top h1 h2
 have e : 0 ≤ c top := by decide +kernel
 grind

theorem s_le_one {y : Rat} (h1 : -top ≤ y) (h2 : y ≤ top) : -1 ≤ s y ∧ s y ≤ 1 := by
 have a := s_rises h1 (by grind) h2
 have b := s_rises (x := -top) (y := y) (by grind) h2 h1
 have e : s top ≤ 1 := by decide +kernel
 rw [s_neg] at b
 grind



def sq (k : Int) (y : Rat) : Rat :=
 if k % 4 = 0 then s y else if k % 4 = 1 then c y else if k % 4 = 2 then -s y else -c y

theorem sq_two (k : Int) (y : Rat) : sq (k + 2) y = -sq k y := by
 unfold sq
 rcases (by omega : k % 4 = 0 ∨ k % 4 = 1 ∨ k % 4 = 2 ∨ k % 4 = 3) with h | h | h | h
 · have : (k + 2) % 4 = 2 := by omega
   simp [h, this]
 · have : (k + 2) % 4 = 3 := by omega
   simp [h, this]
 · have : (k + 2) % 4 = 0 := by omega
   simp [h, this]
 · have : (k + 2) % 4 = 1 := by omega
   simp [h, this]

theorem sq_mod {k j : Int} (h : k % 4 = j % 4) (y : Rat) : sq k y = sq j y := by
 simp only [sq, h]

theorem sq_le_one {y : Rat} (h1 : -top ≤ y) (h2 : y ≤ top) (k : Int) : -1 ≤ sq k y ∧ sq k y ≤ 1 := by
 have a := s_le_one h1 h2
 have b := c_le_one h1 h2
 have d := c_nn h1 h2
 unfold sq
 repeat' split
 all_goals constructor <;> grind

theorem sq_circle {y : Rat} (h1 : -top ≤ y) (h2 : y ≤ top) (k : Int) :
 1 - eps ≤ sq k y * sq k y + sq (k + 1) y * sq (k + 1) y ∧
 sq k y * sq k y + sq (k + 1) y * sq (k + 1) y ≤ 1 + eps := by
 have a := circle h1 h2
 unfold sq
 rcases (by omega : k % 4 = 0 ∨ k % 4 = 1 ∨ k % 4 = 2 ∨ k % 4 = 3) with h | h | h | h
 · have : (k + 1) % 4 = 1 := by omega
   simp only [h, this]; grind
 · have : (k + 1) % 4 = 2 := by omega
   simp only [h, this]; grind
 · have : (k + 1) % 4 = 3 := by omega
   simp only [h, this]; grind
 · have : (k + 1) % 4 = 0 := by omega
   simp only [h, this]; grind

/-- from the lowest place to the highest the sine climbs, but for 2 eps:
    three pieces, -1 (from 0 on), 0, 1 (to 0) -/
theorem climb {j k : Int} {x y : Rat} (hj : j = -1 ∨ j = 0 ∨ j = 1) (hk : k = -1 ∨ k = 0 ∨ k = 1)
 (x1 : -top ≤ x) (x2 : x ≤ top) (y1 : -top ≤ y) (y2 : y ≤ top)
 (hx : j = -1 → 0 ≤ x) (hx' : j = 1 → x ≤ 0) (hy : k = -1 → 0 ≤ y) (hy' : k = 1 → y ≤ 0)
 (h : (j : Rat) * (2 * top) + x ≤ (k : Rat) * (2 * top) + y) : sq j x ≤ sq k y + 2 * eps := by
 have he := eighth
 have e0 : 0 ≤ eps := by decide +kernel
 have t0 : 0 < top := by decide +kernel
 have sm : sq (-1) = fun y => -c y := by funext y; simp [sq]
 have s0 : sq 0 = s := by funext y; simp [sq]
 have s1 : sq 1 = c := by funext y; simp [sq]
 have cx := c_top x1 x2
 have cy := c_top y1 y2
 have sx := s_rises x1 (by grind) x2
 have sx' := s_rises (x := -top) (y := x) (by grind) x2 x1
 have sy := s_rises y1 (by grind) y2
 have sy' := s_rises (x := -top) (y := y) (by grind) y2 y1
 have cn := c_nn (y := top) (by grind) (by grind)
 rw [s_neg] at sx' sy'
 have em : ((-1 : Int) : Rat) = -1 := by decide +kernel
 have e00 : ((0 : Int) : Rat) = 0 := by decide +kernel
 have e1 : ((1 : Int) : Rat) = 1 := by decide +kernel
 rcases hj with rfl | rfl | rfl <;> rcases hk with rfl | rfl | rfl
 · rw [sm]
   have := c_falls (x := x) (y := y) (hx rfl) y2 (by grind)
   grind
 · rw [sm, s0]; grind
 · rw [sm, s1]; grind
 · rw [em, e00] at h
   have q := hy rfl
   -- the same place, or none
   rw [sm, s0]
   have a1 : y = top := by grind
   have a2 : x = -top := by grind
   subst a1; subst a2
   rw [s_neg]; grind
 · rw [e00] at h
   rw [s0]
   have := s_rises (x := x) (y := y) x1 y2 (by grind)
   grind
 · rw [s0, s1]; grind
 · rw [em, e1] at h
   have q := hy rfl
   have q' := hx' rfl
   exfalso; grind
 · rw [e00, e1] at h
   rw [s1, s0]
   have q' := hx' rfl
   have a1 : y = top := by grind
   have a2 : x = -top := by grind
   subst a1; subst a2
   rw [c_neg]; grind
 · rw [s1]
   have := c_rises (x := x) (y := y) x1 (hy' rfl) (by grind)
   grind


def Says (x : Rat) (k : Int) (r : Rat) : Prop :=
 x = (k : Rat) / 4 + r ∧ -(1/8) ≤ r ∧ r ≤ 1/8

theorem top_eq : top = tau / 8 := rfl

theorem top_mul {r : Rat} (h1 : -(1/8) ≤ r) (h2 : r ≤ 1/8) : -top ≤ tau * r ∧ tau * r ≤ top := by
 have t : 0 ≤ tau := by decide +kernel
 rw [top_eq]
 generalize tau = T at *
 have a : 0 ≤ T * (r + 1/8) := Rat.mul_nonneg t (by grind)
 have b : 0 ≤ T * (1/8 - r) := Rat.mul_nonneg t (by grind)
 constructor <;> grind

theorem int_lt {a b : Int} (h : (a : Rat) < (b : Rat)) : a < b := by exact_mod_cast h
theorem climbs {m j k : Int} {x y r t : Rat} (hm : m % 4 = 3) (hx : Says x j r) (hy : Says y k t)
 (h1 : (m : Rat) ≤ 4 * x) (h2 : x ≤ y) (h3 : 4 * y ≤ (m : Rat) + 2) :
 sq j (tau * r) ≤ sq k (tau * t) + 2 * eps := by
 obtain ⟨ex, r1, r2⟩ := hx
 obtain ⟨ey, t1, t2⟩ := hy
 have tp : 0 ≤ tau := by decide +kernel
 have jl : m ≤ j := by
  have : ((m - 1 : Int) : Rat) < (j : Rat) := by
   have : ((m - 1 : Int) : Rat) = (m : Rat) - 1 := by simp [Rat.intCast_sub]
   grind
  have := int_lt this
  omega
 have ju : j ≤ m + 2 := by
  have : (j : Rat) < ((m + 3 : Int) : Rat) := by
   have : ((m + 3 : Int) : Rat) = (m : Rat) + 3 := by simp [Rat.intCast_add]
   grind
  have := int_lt this
  omega
 have kl : m ≤ k := by
  have : ((m - 1 : Int) : Rat) < (k : Rat) := by
   have : ((m - 1 : Int) : Rat) = (m : Rat) - 1 := by simp [Rat.intCast_sub]
   grind
  have := int_lt this
  omega
 have ku : k ≤ m + 2 := by
  have : (k : Rat) < ((m + 3 : Int) : Rat) := by
   have : ((m + 3 : Int) : Rat) = (m : Rat) + 3 := by simp [Rat.intCast_add]
   grind
  have := int_lt this
  omega
 obtain ⟨a, ha⟩ : ∃ a : Int, a = j - (m + 1) := ⟨_, rfl⟩
 obtain ⟨b, hb⟩ : ∃ b : Int, b = k - (m + 1) := ⟨_, rfl⟩
 have ea : (a : Rat) = (j : Rat) - (m : Rat) - 1 := by
  rw [ha]; simp only [Rat.intCast_sub, Rat.intCast_add]; grind
 have eb : (b : Rat) = (k : Rat) - (m : Rat) - 1 := by
  rw [hb]; simp only [Rat.intCast_sub, Rat.intCast_add]; grind
 have ja : sq j (tau * r) = sq a (tau * r) := sq_mod (by omega) _
 have kb : sq k (tau * t) = sq b (tau * t) := sq_mod (by omega) _
 rw [ja, kb]
 have m0 : ∀ q : Rat, 0 ≤ q → 0 ≤ tau * q := fun q hq => Rat.mul_nonneg tp hq
 have m1 : ∀ q : Rat, q ≤ 0 → tau * q ≤ 0 := fun q hq => by
  have := Rat.mul_nonneg tp (by grind : 0 ≤ -q)
  grind
 refine climb (by omega) (by omega) (top_mul r1 r2).1 (top_mul r1 r2).2 (top_mul t1 t2).1 (top_mul t1 t2).2 ?_ ?_ ?_ ?_ ?_
 · intro e
   rw [e] at ea
   have em : ((-1 : Int) : Rat) = -1 := by decide +kernel
   exact m0 _ (by grind)
 · intro e
   rw [e] at ea
   have em : ((1 : Int) : Rat) = 1 := by decide +kernel
   exact m1 _ (by grind)
 · intro e
   rw [e] at eb
   have em : ((-1 : Int) : Rat) = -1 := by decide +kernel
   exact m0 _ (by grind)
 · intro e
   rw [e] at eb
   have em : ((1 : Int) : Rat) = 1 := by decide +kernel
   exact m1 _ (by grind)
 · have := m0 (y - x) (by grind)
   clear m0 m1 ja kb
   have q : ((b : Rat) * (2 * (tau / 8)) + tau * t) - ((a : Rat) * (2 * (tau / 8)) + tau * r) = tau * (y - x) := by
    rw [ea, eb, ex, ey]; grind
   rw [top_eq]
   generalize tau = T at *
   grind


theorem says_half {x r : Rat} {k : Int} (h : Says x k r) : Says (x + 1/2) (k + 2) r := by
 obtain ⟨e, h1, h2⟩ := h
 refine ⟨?_, h1, h2⟩
 rw [Rat.intCast_add, e]
 have : ((2 : Int) : Rat) = 2 := by decide +kernel
 grind

theorem falls_off {m j k : Int} {x y r t : Rat} (hm : m % 4 = 1) (hx : Says x j r) (hy : Says y k t)
 (h1 : (m : Rat) ≤ 4 * x) (h2 : x ≤ y) (h3 : 4 * y ≤ (m : Rat) + 2) :
 sq k (tau * t) ≤ sq j (tau * r) + 2 * eps := by
 have e : ((m + 2 : Int) : Rat) = (m : Rat) + 2 := by
  rw [Rat.intCast_add]; have : ((2 : Int) : Rat) = 2 := by decide +kernel
  grind
 have := climbs (m := m + 2) (by omega) (says_half hx) (says_half hy) (by grind) (by grind) (by grind)
 rw [sq_two, sq_two] at this
 grind

theorem place {x r : Rat} {k : Int} (h : Says x k r) :
 ∃ m : Int, m % 4 = 3 ∧ (m : Rat) ≤ 4 * x ∧ 4 * x < (m : Rat) + 4 := by
 obtain ⟨e, h1, h2⟩ := h
 obtain ⟨m, hm⟩ : ∃ m : Int, m = k - (k - 3) % 4 := ⟨_, rfl⟩
 have e4 : ((m - 4 : Int) : Rat) = (m : Rat) - 4 := by
  rw [Rat.intCast_sub]; have : ((4 : Int) : Rat) = 4 := by decide +kernel
  grind
 have a : (k : Rat) ≤ (m : Rat) + 3 := by
  have : ((k : Int) : Rat) ≤ ((m + 3 : Int) : Rat) := Rat.intCast_le_intCast.mpr (by omega)
  rw [Rat.intCast_add] at this
  have : ((3 : Int) : Rat) = 3 := by decide +kernel
  grind
 have b : (m : Rat) ≤ (k : Rat) := Rat.intCast_le_intCast.mpr (by omega)
 by_cases hc : (m : Rat) ≤ 4 * x
 · exact ⟨m, by omega, hc, by grind⟩
 · exact ⟨m - 4, by omega, by grind, by grind⟩

theorem same {x r t : Rat} {j k : Int} (hx : Says x j r) (hy : Says x k t) :
 sq j (tau * r) ≤ sq k (tau * t) + 2 * eps := by
 obtain ⟨m, hm, m1, m2⟩ := place hx
 by_cases h : 4 * x ≤ (m : Rat) + 2
 · exact climbs hm hx hy m1 (by grind) h
 · have e2 : ((m + 2 : Int) : Rat) = (m : Rat) + 2 := by
    rw [Rat.intCast_add]; have : ((2 : Int) : Rat) = 2 := by decide +kernel
    grind
   exact falls_off (m := m + 2) (by omega) hy hx (by grind) (by grind) (by grind)


def sl (y : Rat) : Rat := y * ev (sinZ 9) (y * y)
def cl (y : Rat) : Rat := ev (cosZ 9) (y * y)

def del : Rat := mkRat 1 (10^20)

theorem sl_near {y : Rat} (h1 : -top ≤ y) (h2 : y ≤ top) :
 s y - (mkRat 1 (2^63) - del) ≤ sl y ∧ sl y ≤ s y + (mkRat 1 (2^63) - del) := by
 have := near h1 h2 (sinP 18) (sinP 9) (e := mkRat 1 (2^63) - del) (by decide +kernel)
 have e : ev (sinP 9) y = sl y := by
  simp only [sinP, sl, ev, ev_spread]; grind
 rw [e] at this
 exact this

theorem cl_near {y : Rat} (h1 : -top ≤ y) (h2 : y ≤ top) :
 c y - (mkRat 1 (2^58) - del) ≤ cl y ∧ cl y ≤ c y + (mkRat 1 (2^58) - del) := by
 have := near h1 h2 (cosP 18) (cosP 9) (e := mkRat 1 (2^58) - del) (by decide +kernel)
 have e : ev (cosP 9) y = cl y := by
  simp only [cosP, cl, ev_spread]
 rw [e] at this
 exact this

end Ply

namespace Go.Proofs.YtacinenddnfcbaaGreat
open Ieee.Own Ply

def tauW : Nat := 4618760256179416344
def sinW : List Nat := [13818544856648471893, 4575957461383581969, 13774824197408792602, 4523617214285662004, 13716528800881525988, 4460272573143870729, 13648976655441704991, 4389130328383466826]
def cosW : List Nat := [13826050856027422720, 4586165620538955093, 13787419979223755799, 4537941361671905306, 13732177094651715420, 4477122120089393304, 13666517717442657437, 4407590220077447199]

def Hor (z : Rat) : List Rat → Rat → Prop
 | [], p => p = 0
 | [a], p => p = a
 | a :: al, p => ∃ q t, Hor z al q ∧ Rld t (z * q) ∧ Rld p (a + t)

def ab (x : Rat) : Rat := if 0 ≤ x then x else -x

theorem ab_le (x : Rat) : -ab x ≤ x ∧ x ≤ ab x := by
 unfold ab; split <;> constructor <;> grind

def er (ez mz : Rat) : List Rat → List Rat → Rat × Rat
 | [], _ => (0, 0)
 | [a], b :: _ => (ab (a - b), ab b)
 | a :: al, b :: bs =>
   let em := er ez mz al bs
   let e1 := mz * em.1 + em.2 * ez + ez * em.1 + (mz + ez) * (em.2 + em.1) * mkRat 1 (2^53)
   let m1 := mz * em.2
   (ab (a - b) + e1 + (ab b + ab (a - b) + m1 + e1) * mkRat 1 (2^53), ab b + m1)
 | _, [] => (0, 0)

theorem hor_ap {w z ez mz : Rat} (hz : Ap w z ez mz) : ∀ (al bs : List Rat) (p : Rat), al.length = bs.length → Hor w al p →
 Ap p (ev bs z) (er ez mz al bs).1 (er ez mz al bs).2
 | [], [], p, _, h => by
   have h : p = 0 := h
   subst h
   simp only [ev, er]
   exact ⟨by grind, by grind, by grind, by grind⟩
 | [a], [b], p, _, h => by
   have h : p = a := h
   subst h
   simp only [ev, er]
   have h1 := ab_le (p - b)
   have h2 := ab_le b
   exact ⟨by grind, by grind, by grind, by grind⟩
 | a :: a' :: al, b :: b' :: bs, p, hl, h => by
   obtain ⟨q, t, hq, ht, hp⟩ := h
   have ih := hor_ap hz (a' :: al) (b' :: bs) q (by simpa using hl) hq
   have h1 := ab_le (a - b)
   have h2 := ab_le b
   have A : Ap a b (ab (a - b)) (ab b) := ⟨by grind, by grind, by grind, by grind⟩
   have T := hz.mul ih ht
   have S := A.add T hp
   have e : ev (b :: b' :: bs) z = b + z * ev (b' :: bs) z := rfl
   rw [e]
   refine S.le ?_ ?_
   · simp only [er]; grind
   · simp only [er]; grind

theorem angle_ap {r y : Rat} (h1 : -(1/8) ≤ r) (h2 : r ≤ 1/8) (hy : Rld y (r * Q tauW)) :
 Ap y (tau * r) (mkRat 1 (2^52)) top := by
 have R : Ap r r 0 (1/8) := ⟨by grind, by grind, h1, h2⟩
 have T : Ap (Q tauW) tau (mkRat 245 (10^18)) tau :=
  ⟨by decide +kernel, by decide +kernel, by decide +kernel, by decide +kernel⟩
 have := R.mul T hy
 have e : r * tau = tau * r := Rat.mul_comm _ _
 rw [e] at this
 exact this.le (by decide +kernel) (by decide +kernel)

theorem near_sine {r y z p w v u : Rat} (h1 : -(1/8) ≤ r) (h2 : r ≤ 1/8) (hy : Rld y (r * Q tauW)) (hz : Rld z (y * y))
 (hp : Hor z (sinW.map Q) p) (hw : Rld w (z * p)) (hv : Rld v (y * w)) (hu : Rld u (y + v)) :
 Ap u (s (tau * r)) (mkRat 1 (2^51)) 1 := by
 have Y := angle_ap h1 h2 hy
 have b := top_mul h1 h2
 have Z := Y.mul Y hz
 have P := hor_ap Z (sinW.map Q) ((sinZ 9).drop 1) p (by decide +kernel) hp
 have W := Z.mul P hw
 have V := Y.mul W hv
 have U := Y.add V hu
 have e : tau * r + tau * r * (tau * r * (tau * r) * ev ((sinZ 9).drop 1) (tau * r * (tau * r))) = sl (tau * r) := by
  have : sinZ 9 = 1 :: (sinZ 9).drop 1 := by decide +kernel
  unfold sl
  rw [this]
  generalize (sinZ 9).drop 1 = L
  have e2 : (List.drop 1 (1 :: L)) = L := rfl
  rw [e2]
  simp only [ev]
  generalize tau * r = y
  grind
 rw [e] at U
 have N := sl_near b.1 b.2
 have O := s_le_one b.1 b.2
 have E := U.le (e' := mkRat 1 (2^51) - mkRat 1 (2^60)) (m' := 2) (by decide +kernel) (by decide +kernel)
 obtain ⟨l1, l2, l3, l4⟩ := E
 have d1 : mkRat 1 (2^63) - del ≤ mkRat 1 (2^60) := by decide +kernel
 generalize mkRat 1 (2^63) - del = D at *
 generalize mkRat 1 (2^60) = F at *
 generalize mkRat 1 (2^51) = G at *
 exact ⟨by grind, by grind, by grind, by grind⟩

theorem near_cosine {r y z p w u : Rat} (h1 : -(1/8) ≤ r) (h2 : r ≤ 1/8) (hy : Rld y (r * Q tauW)) (hz : Rld z (y * y))
 (hp : Hor z (cosW.map Q) p) (hw : Rld w (z * p)) (hu : Rld u (1 + w)) :
 Ap u (c (tau * r)) (mkRat 1 (2^50)) 1 := by
 have Y := angle_ap h1 h2 hy
 have b := top_mul h1 h2
 have Z := Y.mul Y hz
 have P := hor_ap Z (cosW.map Q) ((cosZ 9).drop 1) p (by decide +kernel) hp
 have W := Z.mul P hw
 have I : Ap 1 1 0 1 := ⟨by grind, by grind, by grind, by grind⟩
 have U := I.add W hu
 have e : 1 + (tau * r * (tau * r) * ev ((cosZ 9).drop 1) (tau * r * (tau * r))) = cl (tau * r) := by
  have : cosZ 9 = 1 :: (cosZ 9).drop 1 := by decide +kernel
  unfold cl
  rw [this]
  generalize (cosZ 9).drop 1 = L
  have e2 : (List.drop 1 (1 :: L)) = L := rfl
  rw [e2]
  simp only [ev]
 rw [e] at U
 have N := cl_near b.1 b.2
 have O := c_le_one b.1 b.2
 have O' := c_nn b.1 b.2
 have E := U.le (e' := mkRat 1 (2^50) - mkRat 1 (2^57)) (m' := 2) (by decide +kernel) (by decide +kernel)
 obtain ⟨l1, l2, l3, l4⟩ := E
 have d1 : mkRat 1 (2^58) - del ≤ mkRat 1 (2^57) := by decide +kernel
 generalize mkRat 1 (2^58) - del = D at *
 generalize mkRat 1 (2^57) = F at *
 generalize mkRat 1 (2^50) = G at *
 exact ⟨by grind, by grind, by grind, by grind⟩

end Go.Proofs.YtacinenddnfcbaaGreat

namespace Go.Proofs.YtacinenddnfcbaaGreat
open Ply

abbrev Sp := Rat × Rat
end Go.Proofs.YtacinenddnfcbaaGreat
