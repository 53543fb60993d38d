/- Proved here: what the texts Ply, Nsin, Hold, Qtr, Nwd, Nea, Qwd, Reg prove, one behind the other. -/
import Ieee.Arith
import Derived.Test.YtnmadknpkhaolaaJz1
import Derived.Deep.RegionHeld3

namespace Ply

abbrev P := List Rat

def ev : P → Rat → Rat
  | [], _ => 0
  | a :: p, x => a + x * ev p x

def add : P → P → P
  | [], q => q
  | p, [] => p
  | a :: p, b :: q => (a + b) :: add p q

def scale (c : Rat) : P → P
  | [] => []
  | a :: p => (c * a) :: scale c p

def mul : P → P → P
  | [], _ => []
  | a :: p, q => add (scale a q) (0 :: mul p q)

/-- the polynomial p at c + d x -/
def shift (c d : Rat) : P → P
  | [] => []
  | a :: p => add [a] (mul [c, d] (shift c d p))

/-- the polynomial p at x x -/
def spread : P → P
  | [] => []
  | a :: p => a :: 0 :: spread p

/-- a bound of |p| where |x| ≤ B -/
def mag (B : Rat) : P → Rat
  | [] => 0
  | a :: p => (if 0 ≤ a then a else -a) + B * mag B p

/-- a bound of |p(x) - p(y)| / |x - y| where |x|, |y| ≤ B -/
def slope (B : Rat) : P → Rat
  | [] => 0
  | _ :: p => mag B p + B * slope B p

theorem ev_add (p q : P) (x : Rat) : ev (add p q) x = ev p x + ev q x := by
  induction p generalizing q with
  | nil => simp only [add, ev]; grind
  | cons a p ih =>
    cases q with
    | nil => simp only [add, ev]; grind
    | cons b q => simp only [add, ev, ih]; grind

theorem ev_scale (c : Rat) (p : P) (x : Rat) : ev (scale c p) x = c * ev p x := by
  induction p with
  | nil => simp only [scale, ev]; grind
  | cons a p ih => simp only [scale, ev, ih]; grind

theorem ev_mul (p q : P) (x : Rat) : ev (mul p q) x = ev p x * ev q x := by
  induction p with
  | nil => simp only [mul, ev]; grind
  | cons a p ih => simp only [mul, ev, ev_add, ev_scale, ih]; grind

theorem ev_shift (c d : Rat) (p : P) (x : Rat) : ev (shift c d p) x = ev p (c + d * x) := by
  induction p with
  | nil => simp only [shift, ev]
  | cons a p ih => simp only [shift, ev, ev_add, ev_mul, ih]; grind

theorem ev_spread (p : P) (x : Rat) : ev (spread p) x = ev p (x * x) := by
  induction p with
  | nil => simp only [spread, ev]
  | cons a p ih => simp only [spread, ev, ih]; grind

theorem mag_nn {B : Rat} (hB : 0 ≤ B) (p : P) : 0 ≤ mag B p := by
  induction p with
  | nil => simp [mag]
  | cons a p ih =>
    have := Rat.mul_nonneg hB ih
    simp only [mag]; split <;> grind

theorem abs_mul_le {x y B M : Rat} (hx : -B ≤ x) (hx' : x ≤ B) (hy : -M ≤ y) (hy' : y ≤ M) :
    -(B * M) ≤ x * y ∧ x * y ≤ B * M := by
  have h1 : 0 ≤ (B - x) * (M + y) := Rat.mul_nonneg (by grind) (by grind)
  have h2 : 0 ≤ (B + x) * (M - y) := Rat.mul_nonneg (by grind) (by grind)
  have h3 : 0 ≤ (B - x) * (M - y) := Rat.mul_nonneg (by grind) (by grind)
  have h4 : 0 ≤ (B + x) * (M + y) := Rat.mul_nonneg (by grind) (by grind)
  constructor <;> grind

theorem ev_le {B x : Rat} (h1 : -B ≤ x) (h2 : x ≤ B) (p : P) : -mag B p ≤ ev p x ∧ ev p x ≤ mag B p := by
  induction p with
  | nil => simp [mag, ev]
  | cons a p ih =>
    have h := abs_mul_le h1 h2 ih.1 ih.2
    simp only [mag, ev]
    split <;> constructor <;> grind

/-- two polynomials whose difference is small are near each other -/
theorem near {B e x : Rat} (h1 : -B ≤ x) (h2 : x ≤ B) (p q : P) (h : mag B (add p (scale (-1) q)) ≤ e) :
    ev p x - e ≤ ev q x ∧ ev q x ≤ ev p x + e := by
  have := ev_le h1 h2 (add p (scale (-1) q))
  rw [ev_add, ev_scale] at this
  constructor <;> grind

/-- a polynomial's rise is the way times a number below its slope -/
theorem rise {B x y : Rat} (h1 : -B ≤ x) (h2 : x ≤ B) (h3 : -B ≤ y) (h4 : y ≤ B) (p : P) :
    ∃ d, ev p y - ev p x = (y - x) * d ∧ -slope B p ≤ d ∧ d ≤ slope B p := by
  induction p with
  | nil => exact ⟨0, by simp only [ev]; grind, by simp [slope]⟩
  | cons a p ih =>
    obtain ⟨d, hd, l, u⟩ := ih
    refine ⟨ev p y + x * d, ?_, ?_⟩
    · simp only [ev]; grind
    · have h := ev_le h3 h4 p
      have h' := abs_mul_le h1 h2 l u
      simp only [slope]
      constructor <;> grind

/-- where the second coefficient outweighs the rest the polynomial rises -/
theorem rises {B x y a b : Rat} {p : P} (h1 : -B ≤ x) (h3 : y ≤ B) (hxy : x ≤ y)
    (hb : B * mag B p + B * slope B (b :: p) ≤ b) : ev (a :: b :: p) x ≤ ev (a :: b :: p) y := by
  obtain ⟨d, hd, l, u⟩ := rise h1 (by grind) (by grind) h3 (b :: p)
  have h := ev_le (by grind : -B ≤ y) h3 p
  have h5 := abs_mul_le (by grind : -B ≤ y) h3 h.1 h.2
  have h6 := abs_mul_le h1 (by grind : x ≤ B) l u
  have h7 : 0 ≤ (y - x) * (ev (b :: p) y + x * d) := by
    refine Rat.mul_nonneg (by grind) ?_
    simp only [ev]
    grind
  have h8 : ev (a :: b :: p) y - ev (a :: b :: p) x = (y - x) * (ev (b :: p) y + x * d) := by
    have e1 : ev (a :: b :: p) y = a + y * ev (b :: p) y := rfl
    have e2 : ev (a :: b :: p) x = a + x * ev (b :: p) x := rfl
    grind
  grind

/-- where it outweighs them the other way it falls -/
theorem falls {B x y a b : Rat} {p : P} (h1 : -B ≤ x) (h3 : y ≤ B) (hxy : x ≤ y)
    (hb : B * mag B p + B * slope B (b :: p) ≤ -b) : ev (a :: b :: p) y ≤ ev (a :: b :: p) x := by
  obtain ⟨d, hd, l, u⟩ := rise h1 (by grind) (by grind) h3 (b :: p)
  have h := ev_le (by grind : -B ≤ y) h3 p
  have h5 := abs_mul_le (by grind : -B ≤ y) h3 h.1 h.2
  have h6 := abs_mul_le h1 (by grind : x ≤ B) l u
  have h7 : 0 ≤ (y - x) * (-(ev (b :: p) y + x * d)) := by
    refine Rat.mul_nonneg (by grind) ?_
    simp only [ev]
    grind
  have h8 : ev (a :: b :: p) y - ev (a :: b :: p) x = (y - x) * (ev (b :: p) y + x * d) := by
    have e1 : ev (a :: b :: p) y = a + y * ev (b :: p) y := rfl
    have e2 : ev (a :: b :: p) x = a + x * ev (b :: p) x := rfl
    grind
  grind

def fact : Nat → Nat
  | 0 => 1
  | n + 1 => (n + 1) * fact n

/-- the coefficient of x^n in the sine (odd) or the cosine (even) -/
def co (n : Nat) : Rat := (if n % 4 < 2 then 1 else -1) * mkRat 1 (fact n)

/-- the sine over y, the cosine, as polynomials of z = y y with m terms -/
def sinZ (m : Nat) : P := (List.range m).map (fun n => co (2 * n + 1))
def cosZ (m : Nat) : P := (List.range m).map (fun n => co (2 * n))

def sinP (m : Nat) : P := 0 :: spread (sinZ m)
def cosP (m : Nat) : P := spread (cosZ m)

/-- the sine and the cosine that stand for the true ones: eighteen terms each -/
def s (y : Rat) : Rat := ev (sinP 18) y
def c (y : Rat) : Rat := ev (cosP 18) y

theorem s_eq (y : Rat) : s y = y * ev (sinZ 18) (y * y) := by
  simp only [s, sinP, ev, ev_spread]; grind

theorem c_eq (y : Rat) : c y = ev (cosZ 18) (y * y) := by
  simp only [c, cosP, ev_spread]

theorem s_neg (y : Rat) : s (-y) = -s y := by
  rw [s_eq, s_eq]
  have : -y * -y = y * y := by grind
  rw [this]; grind

theorem c_neg (y : Rat) : c (-y) = c y := by
  rw [c_eq, c_eq]
  have : -y * -y = y * y := by grind
  rw [this]

/-- twice pi, to forty places -/
def tau : Rat := mkRat 62831853071795864769252867665590057683943 (10^40)

/-- nearer than this the sums of this text are told -/
def eps : Rat := mkRat 1 (10^24)

/-- the rest's greatest: an eighth of the turn -/
def top : Rat := tau / 8

theorem top_nn : 0 ≤ top := by decide +kernel

theorem double {y : Rat} (h1 : -top ≤ y) (h2 : y ≤ top) :
    2 * (s y * c y) - eps ≤ s (2 * y) ∧ s (2 * y) ≤ 2 * (s y * c y) + eps := by
  have := near h1 h2 (scale 2 (mul (sinP 18) (cosP 18))) (shift 0 2 (sinP 18)) (e := eps) (by decide +kernel)
  rw [ev_scale, ev_mul, ev_shift] at this
  have e : (0 + 2 * y : Rat) = 2 * y := by grind
  rw [e] at this
  exact this

/-- a quarter of a turn more -/
theorem quarter {y : Rat} (h1 : -top ≤ y) (h2 : y ≤ top) :
    c y - eps ≤ s (2 * top + y) ∧ s (2 * top + y) ≤ c y + eps := by
  have := near h1 h2 (cosP 18) (shift (2 * top) 1 (sinP 18)) (e := eps) (by decide +kernel)
  rw [ev_shift] at this
  have e : (2 * top + 1 * y : Rat) = 2 * top + y := by grind
  rw [e] at this
  exact this

theorem s_rises {x y : Rat} (h1 : -top ≤ x) (h2 : y ≤ top) (h : x ≤ y) : s x ≤ s y := by
  have e : sinP 18 = 0 :: 1 :: (sinP 18).drop 2 := by decide +kernel
  simp only [s]
  rw [e]
  exact rises h1 h2 h (by decide +kernel)

theorem sq_le {x y : Rat} (h0 : 0 ≤ x) (h : x ≤ y) : x * x ≤ y * y := by
  have h1 : 0 ≤ (y - x) * (y + x) := Rat.mul_nonneg (by grind) (by grind)
  grind

theorem c_falls {x y : Rat} (h1 : 0 ≤ x) (h2 : y ≤ top) (h : x ≤ y) : c y ≤ c x := by
  have e : cosZ 18 = 1 :: (-1/2) :: (cosZ 18).drop 2 := by decide +kernel
  rw [c_eq, c_eq, e]
  have hx : 0 ≤ x * x := Rat.mul_nonneg h1 h1
  have hy : y * y ≤ top * top := sq_le (by grind) h2
  have ht : 0 ≤ top * top := Rat.mul_nonneg top_nn top_nn
  exact falls (B := top * top) (by grind) hy (sq_le h1 h) (by decide +kernel)

theorem c_top {y : Rat} (h1 : -top ≤ y) (h2 : y ≤ top) : c top ≤ c y := by
  rcases Rat.le_total (a := 0) (b := y) with h | h
  · exact c_falls h (by grind) h2
  · have := c_falls (x := -y) (y := top) (by grind) (by grind) (by grind)
    rwa [c_neg] at this

theorem c_le_one {y : Rat} (h1 : -top ≤ y) (h2 : y ≤ top) : c y ≤ 1 := by
  have e : c 0 = 1 := by decide +kernel
  rcases Rat.le_total (a := 0) (b := y) with h | h
  · have := c_falls (x := 0) (by grind) h2 h
    grind
  · have := c_falls (x := 0) (y := -y) (by grind) (by grind) (by grind)
    rw [c_neg] at this
    grind

theorem c_nn {y : Rat} (h1 : -top ≤ y) (h2 : y ≤ top) : 0 ≤ c y := by
  have := c_top h1 h2
  have e : 0 ≤ c top := by decide +kernel
  grind

theorem s_le_one {y : Rat} (h1 : -top ≤ y) (h2 : y ≤ top) : -1 ≤ s y ∧ s y ≤ 1 := by
  have a := s_rises h1 (by grind) h2
  have b := s_rises (x := -top) (y := y) (by grind) h2 h1
  have e : s top ≤ 1 := by decide +kernel
  rw [s_neg] at b
  grind


/-! ### by quarters -/

/-- the sine at k quarters and the angle y (in radians) more -/
def sq (k : Int) (y : Rat) : Rat :=
  if k % 4 = 0 then s y else if k % 4 = 1 then c y else if k % 4 = 2 then -s y else -c y

theorem sq_two (k : Int) (y : Rat) : sq (k + 2) y = -sq k y := by
  unfold sq
  rcases (by omega : k % 4 = 0 ∨ k % 4 = 1 ∨ k % 4 = 2 ∨ k % 4 = 3) with h | h | h | h
  · have : (k + 2) % 4 = 2 := by omega
    simp [h, this]
  · have : (k + 2) % 4 = 3 := by omega
    simp [h, this]
  · have : (k + 2) % 4 = 0 := by omega
    simp [h, this]
  · have : (k + 2) % 4 = 1 := by omega
    simp [h, this]

theorem sq_mod {k j : Int} (h : k % 4 = j % 4) (y : Rat) : sq k y = sq j y := by
  simp only [sq, h]

/-! ### the angle's own number: x turns, the quarter k and the rest r -/

/-- k and r say x turns -/
def Says (x : Rat) (k : Int) (r : Rat) : Prop :=
  x = (k : Rat) / 4 + r ∧ -(1/8) ≤ r ∧ r ≤ 1/8

theorem top_eq : top = tau / 8 := rfl

theorem top_mul {r : Rat} (h1 : -(1/8) ≤ r) (h2 : r ≤ 1/8) : -top ≤ tau * r ∧ tau * r ≤ top := by
  have t : 0 ≤ tau := by decide +kernel
  rw [top_eq]
  generalize tau = T at *
  have a : 0 ≤ T * (r + 1/8) := Rat.mul_nonneg t (by grind)
  have b : 0 ≤ T * (1/8 - r) := Rat.mul_nonneg t (by grind)
  constructor <;> grind

theorem int_lt {a b : Int} (h : (a : Rat) < (b : Rat)) : a < b := by exact_mod_cast h
/-- the lowest place at or below 4 x -/
theorem place {x r : Rat} {k : Int} (h : Says x k r) :
    ∃ m : Int, m % 4 = 3 ∧ (m : Rat) ≤ 4 * x ∧ 4 * x < (m : Rat) + 4 := by
  obtain ⟨e, h1, h2⟩ := h
  obtain ⟨m, hm⟩ : ∃ m : Int, m = k - (k - 3) % 4 := ⟨_, rfl⟩
  have e4 : ((m - 4 : Int) : Rat) = (m : Rat) - 4 := by
    rw [Rat.intCast_sub]; have : ((4 : Int) : Rat) = 4 := by decide +kernel
    grind
  have a : (k : Rat) ≤ (m : Rat) + 3 := by
    have : ((k : Int) : Rat) ≤ ((m + 3 : Int) : Rat) := Rat.intCast_le_intCast.mpr (by omega)
    rw [Rat.intCast_add] at this
    have : ((3 : Int) : Rat) = 3 := by decide +kernel
    grind
  have b : (m : Rat) ≤ (k : Rat) := Rat.intCast_le_intCast.mpr (by omega)
  by_cases hc : (m : Rat) ≤ 4 * x
  · exact ⟨m, by omega, hc, by grind⟩
  · exact ⟨m - 4, by omega, by grind, by grind⟩

/-- the sine of twice the angle is near twice the product -/
theorem twice {x r t : Rat} {k l : Int} (hx : Says x k r) (hy : Says (2 * x) l t) :
    2 * (sq k (tau * r) * sq (k + 1) (tau * r)) - 2 * eps ≤ sq l (tau * t) ∧
    sq l (tau * t) ≤ 2 * (sq k (tau * r) * sq (k + 1) (tau * r)) + 2 * eps := by
  obtain ⟨ex, r1, r2⟩ := hx
  obtain ⟨ey, t1, t2⟩ := hy
  have b := top_mul r1 r2
  have b' := top_mul t1 t2
  have e0 : 0 ≤ eps := by decide +kernel
  have d := double b.1 b.2
  obtain ⟨j, hj⟩ : ∃ j : Int, j = l - 2 * k := ⟨_, rfl⟩
  have ej : (j : Rat) = (l : Rat) - 2 * (k : Rat) := by
    rw [hj, Rat.intCast_sub, Rat.intCast_mul]
    have : ((2 : Int) : Rat) = 2 := by decide +kernel
    grind
  have jt : (j : Rat) = 4 * (2 * r - t) := by grind
  have jl : -2 < j := by
    have e : ((-2 : Int) : Rat) = -2 := by decide +kernel
    exact int_lt (by grind)
  have ju : j < 2 := by
    have e : ((2 : Int) : Rat) = 2 := by decide +kernel
    exact int_lt (by grind)
  have ang : 2 * (tau * r) = (j : Rat) * (2 * top) + tau * t := by
    rw [jt, top_eq]
    generalize tau = T at *
    grind
  have em : ((-1 : Int) : Rat) = -1 := by decide +kernel
  have e00 : ((0 : Int) : Rat) = 0 := by decide +kernel
  have e1 : ((1 : Int) : Rat) = 1 := by decide +kernel
  -- the sine and the cosine of the rest, by the sign of the quarter
  have q := quarter b'.1 b'.2
  have q' := quarter (y := -(tau * t)) (by grind) (by grind)
  rw [c_neg] at q'
  generalize hy0 : tau * r = y at *
  generalize hy1 : tau * t = z at *
  have key : (sq j z - eps ≤ s (2 * y) ∧ s (2 * y) ≤ sq j z + eps) := by
    rcases (by omega : j = -1 ∨ j = 0 ∨ j = 1) with h | h | h
    · rw [h] at ang ⊢
      rw [em] at ang
      have : 2 * y = -(2 * top + -z) := by grind
      rw [this, s_neg]
      have : sq (-1) z = -c z := by simp [sq]
      rw [this]; grind
    · rw [h] at ang ⊢
      rw [e00] at ang
      have : 2 * y = z := by grind
      rw [this]
      have : sq 0 z = s z := by simp [sq]
      rw [this]; grind
    · rw [h] at ang ⊢
      rw [e1] at ang
      have : 2 * y = 2 * top + z := by grind
      rw [this]
      have : sq 1 z = c z := by simp [sq]
      rw [this]; grind
  clear ex ey ej jt jl ju q q' r1 r2 t1 t2 hy0 hy1 ang
  rcases (by omega : k % 4 = 0 ∨ k % 4 = 1 ∨ k % 4 = 2 ∨ k % 4 = 3) with h | h | h | h
  · have a1 : sq k y = s y := by simp [sq, h]
    have a2 : sq (k + 1) y = c y := by have : (k + 1) % 4 = 1 := by omega
                                       simp [sq, this]
    have a3 : sq l z = sq j z := sq_mod (by omega) z
    rw [a1, a2, a3]; grind
  · have a1 : sq k y = c y := by simp [sq, h]
    have a2 : sq (k + 1) y = -s y := by have : (k + 1) % 4 = 2 := by omega
                                        simp [sq, this]
    have a3 : sq l z = -sq j z := by rw [← sq_two]; exact sq_mod (by omega) z
    rw [a1, a2, a3]; grind
  · have a1 : sq k y = -s y := by simp [sq, h]
    have a2 : sq (k + 1) y = -c y := by have : (k + 1) % 4 = 3 := by omega
                                        simp [sq, this]
    have a3 : sq l z = sq j z := sq_mod (by omega) z
    rw [a1, a2, a3]; grind
  · have a1 : sq k y = -c y := by simp [sq, h]
    have a2 : sq (k + 1) y = s y := by have : (k + 1) % 4 = 0 := by omega
                                       simp [sq, this]
    have a3 : sq l z = -sq j z := by rw [← sq_two]; exact sq_mod (by omega) z
    rw [a1, a2, a3]; grind

/-! ### the series that the program sums: nine terms each -/

def sl (y : Rat) : Rat := y * ev (sinZ 9) (y * y)
def cl (y : Rat) : Rat := ev (cosZ 9) (y * y)

/-- what the spans have beyond the series' own error -/
def del : Rat := mkRat 1 (10^20)

theorem sl_near {y : Rat} (h1 : -top ≤ y) (h2 : y ≤ top) :
    s y - (mkRat 1 (2^63) - del) ≤ sl y ∧ sl y ≤ s y + (mkRat 1 (2^63) - del) := by
  have := near h1 h2 (sinP 18) (sinP 9) (e := mkRat 1 (2^63) - del) (by decide +kernel)
  have e : ev (sinP 9) y = sl y := by
    simp only [sinP, sl, ev, ev_spread]; grind
  rw [e] at this
  exact this

theorem cl_near {y : Rat} (h1 : -top ≤ y) (h2 : y ≤ top) :
    c y - (mkRat 1 (2^58) - del) ≤ cl y ∧ cl y ≤ c y + (mkRat 1 (2^58) - del) := by
  have := near h1 h2 (cosP 18) (cosP 9) (e := mkRat 1 (2^58) - del) (by decide +kernel)
  have e : ev (cosP 9) y = cl y := by
    simp only [cosP, cl, ev_spread]
  rw [e] at this
  exact this

end Ply

namespace Go.Proofs.Ytnmadknpkhaolaa
open Ieee.Own Ply

/-- Tau's word, the factors' words: a(3), a(5) .. a(17), and a(2), a(4) .. a(16) -/
def tauW : Nat := 4618760256179416344
def sinW : List Nat := [13818544856648471893, 4575957461383581969, 13774824197408792602, 4523617214285662004, 13716528800881525988, 4460272573143870729, 13648976655441704991, 4389130328383466826]
def cosW : List Nat := [13826050856027422720, 4586165620538955093, 13787419979223755799, 4537941361671905306, 13732177094651715420, 4477122120089393304, 13666517717442657437, 4407590220077447199]

/-- Horner's sum in rounded steps -/
def Hor (z : Rat) : List Rat → Rat → Prop
  | [], p => p = 0
  | [a], p => p = a
  | a :: al, p => ∃ q t, Hor z al q ∧ Rld t (z * q) ∧ Rld p (a + t)

def ab (x : Rat) : Rat := if 0 ≤ x then x else -x

theorem ab_le (x : Rat) : -ab x ≤ x ∧ x ≤ ab x := by
  unfold ab; split <;> constructor <;> grind

/-- its error and size: of sums with the coefficients as for such with bs -/
def er (ez mz : Rat) : List Rat → List Rat → Rat × Rat
  | [], _ => (0, 0)
  | [a], b :: _ => (ab (a - b), ab b)
  | a :: al, b :: bs =>
    let em := er ez mz al bs
    let e1 := mz * em.1 + em.2 * ez + ez * em.1 + (mz + ez) * (em.2 + em.1) * mkRat 1 (2^53)
    let m1 := mz * em.2
    (ab (a - b) + e1 + (ab b + ab (a - b) + m1 + e1) * mkRat 1 (2^53), ab b + m1)
  | _, [] => (0, 0)

theorem hor_ap {w z ez mz : Rat} (hz : Ap w z ez mz) : ∀ (al bs : List Rat) (p : Rat), al.length = bs.length → Hor w al p →
    Ap p (ev bs z) (er ez mz al bs).1 (er ez mz al bs).2
  | [], [], p, _, h => by
    have h : p = 0 := h
    subst h
    simp only [ev, er]
    exact ⟨by grind, by grind, by grind, by grind⟩
  | [a], [b], p, _, h => by
    have h : p = a := h
    subst h
    simp only [ev, er]
    have h1 := ab_le (p - b)
    have h2 := ab_le b
    exact ⟨by grind, by grind, by grind, by grind⟩
  | a :: a' :: al, b :: b' :: bs, p, hl, h => by
    obtain ⟨q, t, hq, ht, hp⟩ := h
    have ih := hor_ap hz (a' :: al) (b' :: bs) q (by simpa using hl) hq
    have h1 := ab_le (a - b)
    have h2 := ab_le b
    have A : Ap a b (ab (a - b)) (ab b) := ⟨by grind, by grind, by grind, by grind⟩
    have T := hz.mul ih ht
    have S := A.add T hp
    have e : ev (b :: b' :: bs) z = b + z * ev (b' :: bs) z := rfl
    rw [e]
    refine S.le ?_ ?_
    · simp only [er]; grind
    · simp only [er]; grind

/-- the rest's angle -/
theorem angle_ap {r y : Rat} (h1 : -(1/8) ≤ r) (h2 : r ≤ 1/8) (hy : Rld y (r * Q tauW)) :
    Ap y (tau * r) (mkRat 1 (2^52)) top := by
  have R : Ap r r 0 (1/8) := ⟨by grind, by grind, h1, h2⟩
  have T : Ap (Q tauW) tau (mkRat 245 (10^18)) tau :=
    ⟨by decide +kernel, by decide +kernel, by decide +kernel, by decide +kernel⟩
  have := R.mul T hy
  have e : r * tau = tau * r := Rat.mul_comm _ _
  rw [e] at this
  exact this.le (by decide +kernel) (by decide +kernel)

theorem near_sine {r y z p w v u : Rat} (h1 : -(1/8) ≤ r) (h2 : r ≤ 1/8) (hy : Rld y (r * Q tauW)) (hz : Rld z (y * y))
    (hp : Hor z (sinW.map Q) p) (hw : Rld w (z * p)) (hv : Rld v (y * w)) (hu : Rld u (y + v)) :
    Ap u (s (tau * r)) (mkRat 1 (2^51)) 1 := by
  have Y := angle_ap h1 h2 hy
  have b := top_mul h1 h2
  have Z := Y.mul Y hz
  have P := hor_ap Z (sinW.map Q) ((sinZ 9).drop 1) p (by decide +kernel) hp
  have W := Z.mul P hw
  have V := Y.mul W hv
  have U := Y.add V hu
  have e : tau * r + tau * r * (tau * r * (tau * r) * ev ((sinZ 9).drop 1) (tau * r * (tau * r))) = sl (tau * r) := by
    have : sinZ 9 = 1 :: (sinZ 9).drop 1 := by decide +kernel
    unfold sl
    rw [this]
    generalize (sinZ 9).drop 1 = L
    have e2 : (List.drop 1 (1 :: L)) = L := rfl
    rw [e2]
    simp only [ev]
    generalize tau * r = y
    grind
  rw [e] at U
  have N := sl_near b.1 b.2
  have O := s_le_one b.1 b.2
  have E := U.le (e' := mkRat 1 (2^51) - mkRat 1 (2^60)) (m' := 2) (by decide +kernel) (by decide +kernel)
  obtain ⟨l1, l2, l3, l4⟩ := E
  have d1 : mkRat 1 (2^63) - del ≤ mkRat 1 (2^60) := by decide +kernel
  generalize mkRat 1 (2^63) - del = D at *
  generalize mkRat 1 (2^60) = F at *
  generalize mkRat 1 (2^51) = G at *
  exact ⟨by grind, by grind, by grind, by grind⟩

theorem near_cosine {r y z p w u : Rat} (h1 : -(1/8) ≤ r) (h2 : r ≤ 1/8) (hy : Rld y (r * Q tauW)) (hz : Rld z (y * y))
    (hp : Hor z (cosW.map Q) p) (hw : Rld w (z * p)) (hu : Rld u (1 + w)) :
    Ap u (c (tau * r)) (mkRat 1 (2^50)) 1 := by
  have Y := angle_ap h1 h2 hy
  have b := top_mul h1 h2
  have Z := Y.mul Y hz
  have P := hor_ap Z (cosW.map Q) ((cosZ 9).drop 1) p (by decide +kernel) hp
  have W := Z.mul P hw
  have I : Ap 1 1 0 1 := ⟨by grind, by grind, by grind, by grind⟩
  have U := I.add W hu
  have e : 1 + (tau * r * (tau * r) * ev ((cosZ 9).drop 1) (tau * r * (tau * r))) = cl (tau * r) := by
    have : cosZ 9 = 1 :: (cosZ 9).drop 1 := by decide +kernel
    unfold cl
    rw [this]
    generalize (cosZ 9).drop 1 = L
    have e2 : (List.drop 1 (1 :: L)) = L := rfl
    rw [e2]
    simp only [ev]
  rw [e] at U
  have N := cl_near b.1 b.2
  have O := c_le_one b.1 b.2
  have O' := c_nn b.1 b.2
  have E := U.le (e' := mkRat 1 (2^50) - mkRat 1 (2^57)) (m' := 2) (by decide +kernel) (by decide +kernel)
  obtain ⟨l1, l2, l3, l4⟩ := E
  have d1 : mkRat 1 (2^58) - del ≤ mkRat 1 (2^57) := by decide +kernel
  generalize mkRat 1 (2^58) - del = D at *
  generalize mkRat 1 (2^57) = F at *
  generalize mkRat 1 (2^50) = G at *
  exact ⟨by grind, by grind, by grind, by grind⟩

end Go.Proofs.Ytnmadknpkhaolaa

namespace Go.Proofs.Ytnmadknpkhaolaa
open Ply

/-- a span of fractions; what lies in it -/
abbrev Sp := Rat × Rat
def In (x : Rat) (A : Sp) : Prop := A.1 ≤ x ∧ x ≤ A.2
def AddSp (A B C : Sp) : Prop := C.1 ≤ A.1 + B.1 ∧ A.2 + B.2 ≤ C.2
def MulSp (A B C : Sp) : Prop :=
  (C.1 ≤ A.1 * B.1 ∧ C.1 ≤ A.1 * B.2 ∧ C.1 ≤ A.2 * B.1 ∧ C.1 ≤ A.2 * B.2) ∧
  (A.1 * B.1 ≤ C.2 ∧ A.1 * B.2 ≤ C.2 ∧ A.2 * B.1 ≤ C.2 ∧ A.2 * B.2 ≤ C.2)
def SqSp (A C : Sp) : Prop :=
  ((A.1 ≤ 0 ∧ 0 ≤ A.2 ∧ C.1 ≤ 0) ∨ (0 ≤ A.1 ∧ C.1 ≤ A.1 * A.1) ∨ (A.2 ≤ 0 ∧ C.1 ≤ A.2 * A.2)) ∧ A.1 * A.1 ≤ C.2 ∧ A.2 * A.2 ≤ C.2

theorem In.add {x y : Rat} {A B C : Sp} (hx : In x A) (hy : In y B) (h : AddSp A B C) : In (x + y) C := by
  obtain ⟨h1, h2⟩ := hx
  obtain ⟨h3, h4⟩ := hy
  obtain ⟨h5, h6⟩ := h
  exact ⟨by grind, by grind⟩
theorem In.mul {x y : Rat} {A B C : Sp} (hx : In x A) (hy : In y B) (h : MulSp A B C) : In (x * y) C := by
  obtain ⟨h1, h2⟩ := hx
  obtain ⟨h3, h4⟩ := hy
  obtain ⟨⟨a, b, c, d⟩, e, f, g, i⟩ := h
  exact ⟨corner_lo h1 h2 h3 h4 a b c d, corner_hi h1 h2 h3 h4 e f g i⟩
theorem In.sq {x : Rat} {A C : Sp} (hx : In x A) (h : SqSp A C) : In (x * x) C := by
  obtain ⟨h1, h2⟩ := hx
  obtain ⟨h3, h4, h5⟩ := h
  constructor
  · rcases h3 with ⟨-, -, h⟩ | ⟨h0, h⟩ | ⟨h0, h⟩
    · rcases Rat.le_total (a := 0) (b := x) with q | q
      · have := Rat.mul_nonneg q q; grind
      · have := Rat.mul_nonneg (by grind : 0 ≤ -x) (by grind : 0 ≤ -x); grind
    · have := sq_le h0 h1; grind
    · have := sq_le (x := -A.2) (y := -x) (by grind) (by grind); grind
  · rcases Rat.le_total (a := 0) (b := x) with q | q
    · have := sq_le q h2; grind
    · have := sq_le (x := -x) (y := -A.1) (by grind) (by grind); grind

/-- x is in A, and all within del of it -/
def Ins (x : Rat) (A : Sp) : Prop := A.1 ≤ x - del ∧ x + del ≤ A.2
/-- the same, cut by -1 and 1 -/
def Inc (x : Rat) (A : Sp) : Prop := ∀ v, -1 ≤ v → v ≤ 1 → x - del ≤ v → v ≤ x + del → In v A

theorem Ins.neg {x : Rat} {A : Sp} (h : Ins x A) : Ins (-x) (-A.2, -A.1) := by
  obtain ⟨h1, h2⟩ := h
  exact ⟨by grind, by grind⟩
/-- cut to -1 .. 1 -/
theorem Ins.cut {x : Rat} {A B : Sp} (h : Ins x A) (h1 : B.1 = A.1 ∨ B.1 = -1) (h2 : B.2 = A.2 ∨ B.2 = 1) : Inc x B := by
  obtain ⟨a, b⟩ := h
  intro v v1 v2 v3 v4
  constructor
  · rcases h1 with h | h <;> grind
  · rcases h2 with h | h <;> grind
/-! ### the squares -/
/-! ### twice -/
/-! ### spans of angles -/
end Go.Proofs.Ytnmadknpkhaolaa

namespace Go.Proofs.Ytnmadknpkhaolaa
open Ieee.Own

/-- the nearest whole number of v / (2 H), ties to even -/
def kq (H v : Int) : Int := if H < v % (2 * H) ∨ (v % (2 * H) = H ∧ v / (2 * H) % 2 = 1) then v / (2 * H) + 1 else v / (2 * H)
def rq (H v : Int) : Int := v - 2 * H * kq H v

theorem rq_bd {H : Int} (hH : 0 < H) (v : Int) : -H ≤ rq H v ∧ rq H v ≤ H ∧ (rq H v = H ∨ rq H v = -H → kq H v % 2 = 0) := by
  have h1 := Int.mul_ediv_add_emod v (2 * H)
  have h2 := Int.emod_nonneg v (show 2 * H ≠ 0 by omega)
  have h3 := Int.emod_lt_of_pos v (show 0 < 2 * H by omega)
  unfold rq kq
  generalize v / (2 * H) = f at *
  generalize v % (2 * H) = m at *
  split
  · rename_i h
    have e : 2 * H * (f + 1) = 2 * H * f + 2 * H := by rw [Int.mul_add, Int.mul_one]
    rw [e]
    generalize 2 * H * f = T at *
    omega
  · rename_i h
    generalize 2 * H * f = T at *
    omega

/-- the units of an eighth -/
def eig : Int := 2 ^ 1071
theorem eig_pos : 0 < eig := Int.pow_pos (by omega)

end Go.Proofs.Ytnmadknpkhaolaa

namespace Go.Proofs.Ytnmadknpkhaolaa
open Ieee.Own

/-- a finite word: a whole number of 2^p units, 2^k of them at most -/
structure Wd (b p k : Nat) : Prop where
  fin : FinW b
  dvd : (2 : Int) ^ p ∣ V b
  abs : (V b).natAbs ≤ 2 ^ k

def mX (a b : Nat) : Nat := (Ieee.double.mul a b).getD 0
def aX (a b : Nat) : Nat := (Ieee.double.add a b).getD 0

theorem abs_eq {a b n : Int} {d : Nat} (h : a * b = n * 2 ^ d) : a.natAbs * b.natAbs = n.natAbs * 2 ^ d := by
  rw [← Int.natAbs_mul, h, Int.natAbs_mul, Int.natAbs_pow]; rfl
theorem two_dbl {m n : Nat} (h : m + 1 ≤ n) : 2 * 2 ^ m ≤ 2 ^ n := by
  rw [← two_succ]; exact two_le h
theorem pow_cap {n m d : Nat} (hd : d ≤ m) (h : n * 2 ^ d ≤ 2 ^ m) : n ≤ 2 ^ (m - d) := by
  obtain ⟨k, rfl⟩ := Nat.exists_eq_add_of_le hd
  rw [Nat.pow_add, Nat.mul_comm] at h
  have := Nat.le_of_mul_le_mul_left h (Nat.two_pow_pos d)
  rwa [Nat.add_sub_cancel_left]
theorem mul_cap {a b n t : Nat} (h : a ≤ t) (e : a * b = n * t) (ht : 0 < t) : n ≤ b := by
  have := Nat.mul_le_mul_right b h
  rw [e, Nat.mul_comm] at this
  exact Nat.le_of_mul_le_mul_left this ht

theorem Wd.le {b p k q l : Nat} (h : Wd b p k) (hp : q ≤ p) (hk : k ≤ l) : Wd b q l := by
  refine ⟨h.fin, Int.dvd_trans ?_ h.dvd, Nat.le_trans h.abs (two_le hk)⟩
  rw [show p = q + (p - q) by omega, Int.pow_add]
  exact Int.dvd_mul_right _ _

theorem Wd.mul {a b p k q l : Nat} (h : Wd a p k) (g : Wd b q l) (e : 1074 ≤ p + q) (u : k + l < 3100) (u2 : 1074 ≤ k + l) :
    Ieee.double.mul a b = some (mX a b) ∧ Wd (mX a b) (p + q - 1074) (k + l - 1074) ∧ Rld (Q (mX a b)) (Q a * Q b) := by
  obtain ⟨c, hc⟩ := h.dvd
  obtain ⟨d, hd⟩ := g.dvd
  have eN : V a * V b = (2 ^ (p + q - 1074) * (c * d)) * 2 ^ 1074 := by
    rw [hc, hd]
    have : (2 : Int) ^ p * 2 ^ q = 2 ^ (p + q - 1074) * 2 ^ 1074 := by
      rw [← Int.pow_add, ← Int.pow_add, show p + q - 1074 + 1074 = p + q by omega]
    calc 2 ^ p * c * (2 ^ q * d) = (2 ^ p * 2 ^ q) * (c * d) := by
          simp only [Int.mul_assoc, Int.mul_left_comm c]
      _ = 2 ^ (p + q - 1074) * 2 ^ 1074 * (c * d) := by rw [this]
      _ = 2 ^ (p + q - 1074) * (c * d) * 2 ^ 1074 := by
          simp only [Int.mul_assoc, Int.mul_comm (2 ^ 1074)]
  generalize hN : (2 : Int) ^ (p + q - 1074) * (c * d) = N at eN
  have bd : N.natAbs ≤ 2 ^ (k + l - 1074) := by
    have h1 : (V a).natAbs * (V b).natAbs ≤ 2 ^ k * 2 ^ l := Nat.mul_le_mul h.abs g.abs
    rw [abs_eq eN, ← Nat.pow_add] at h1
    exact pow_cap (by omega) h1
  obtain ⟨r, h1, h2, h3⟩ := mulW h.fin g.fin eN bd (by omega)
  have er : mX a b = r := by unfold mX; rw [h1]; rfl
  rw [er]
  refine ⟨h1, ⟨h2, ?_, ?_⟩, mul_rel eN h3⟩
  · rw [h3]; exact RN_dvd (by rw [← hN]; exact Int.dvd_mul_right _ _)
  · rw [h3]; exact RN_bound bd

theorem Wd.add {a b p k : Nat} (h : Wd a p k) (g : Wd b p k) (u : k < 2000) :
    Ieee.double.add a b = some (aX a b) ∧ Wd (aX a b) p (k + 1) ∧ Rld (Q (aX a b)) (Q a + Q b) := by
  obtain ⟨r, h1, h2, h3, h4⟩ := addW h.fin g.fin h.abs g.abs u
  have er : aX a b = r := by unfold aX; rw [h1]; rfl
  rw [er]
  exact ⟨h1, ⟨h2, by rw [h3]; exact RN_dvd (Int.dvd_add h.dvd g.dvd), h4⟩, add_rel h3⟩

/-- a word not small has no low places -/
theorem dvd_big {b m : Nat} (h : 2 ^ (m + 53) ≤ (V b).natAbs) : (2 : Int) ^ m ∣ V b := by
  obtain ⟨k, e, h1, h2⟩ := Rep_V b
  have he : m ≤ e := by
    by_cases q : m ≤ e
    · exact q
    · exfalso
      have a1 : k * 2 ^ e ≤ 2 ^ 53 * 2 ^ e := Nat.mul_le_mul_right _ h1
      rw [← Nat.pow_add] at a1
      have a2 : 2 ^ (53 + e) < 2 ^ (m + 53) := Nat.pow_lt_pow_right (by omega) (by omega)
      omega
  apply Int.natAbs_dvd_natAbs.1
  rw [Int.natAbs_pow, h2, show e = m + (e - m) by omega, Nat.pow_add, ← Nat.mul_assoc, Nat.mul_right_comm]
  exact Nat.dvd_mul_left _ _

/-- Horner's sum as words -/
def horW (z : Nat) : List Nat → Nat
  | [] => 0
  | [a] => a
  | a :: al => aX a (mX z (horW z al))

/-- the factors grow by eight at least, none is small -/
def Grow : List Nat → Prop
  | [] => True
  | [a] => FinW a ∧ 2 ^ 1020 ≤ (V a).natAbs ∧ (V a).natAbs ≤ 2 ^ 1073
  | a :: b :: al => FinW a ∧ (V a).natAbs ≤ 2 ^ 1073 ∧ 8 * (V b).natAbs ≤ (V a).natAbs ∧ Grow (b :: al)

theorem Grow.head {a : Nat} {al : List Nat} (h : Grow (a :: al)) : FinW a ∧ 2 ^ 1020 ≤ (V a).natAbs ∧ (V a).natAbs ≤ 2 ^ 1073 := by
  induction al generalizing a with
  | nil => exact h
  | cons b al ih =>
    obtain ⟨h1, h2, h3, h4⟩ := h
    have := ih h4
    exact ⟨h1, by omega, h2⟩

/-- what each step of the sum has -/
theorem hor_step {z : Nat} (hz : Wd z 470 1074) : ∀ (al : List Nat) (a : Nat), Grow (a :: al) →
    FinW (horW z (a :: al)) ∧ (V a).natAbs ≤ 2 * (V (horW z (a :: al))).natAbs ∧ (V (horW z (a :: al))).natAbs ≤ 2 * (V a).natAbs ∧ Wd (horW z (a :: al)) 960 1074 ∧
    Hor (Q z) ((a :: al).map Q) (Q (horW z (a :: al)))
  | [], a, h => by
    have hh := h.head
    refine ⟨hh.1, by show _ ≤ 2 * (V a).natAbs; omega, by show (V a).natAbs ≤ _; omega, ⟨hh.1, dvd_big (b := a) (by have := two_le (a := 960 + 53) (b := 1020) (by omega); omega), by have := two_le (a := 1073) (b := 1074) (by omega); show (V a).natAbs ≤ _; omega⟩, rfl⟩
  | b :: al, a, h => by
    obtain ⟨h1, h2, h3, h4⟩ := h
    have hh := Grow.head (a := a) (al := b :: al) ⟨h1, h2, h3, h4⟩
    obtain ⟨f, l, u, w, r⟩ := hor_step hz al b h4
    have ew : horW z (a :: b :: al) = aX a (mX z (horW z (b :: al))) := rfl
    rw [ew]
    generalize hq : horW z (b :: al) = q at *
    obtain ⟨-, M, RM⟩ := hz.mul w (by omega) (by omega) (by omega)
    have A : Wd a 960 1074 := ⟨h1, dvd_big (by have := two_le (a := 960 + 53) (b := 1020) (by omega); omega), by have := two_le (a := 1073) (b := 1074) (by omega); omega⟩
    have M' := M.le (q := 356) (l := 1074) (by omega) (by omega)
    -- the product's size
    have MB : 4 * (V (mX z q)).natAbs ≤ 5 * (V q).natAbs := by
      obtain ⟨c, hc⟩ := hz.dvd
      obtain ⟨d, hd⟩ := w.dvd
      have eN : V z * V q = (2 ^ 356 * (c * d)) * 2 ^ 1074 := by
        rw [hc, hd]
        have : (2 : Int) ^ 470 * 2 ^ 960 = 2 ^ 356 * 2 ^ 1074 := by rw [← Int.pow_add, ← Int.pow_add]
        calc 2 ^ 470 * c * (2 ^ 960 * d) = (2 ^ 470 * 2 ^ 960) * (c * d) := by
              simp only [Int.mul_assoc, Int.mul_left_comm c]
          _ = 2 ^ 356 * 2 ^ 1074 * (c * d) := by rw [this]
          _ = 2 ^ 356 * (c * d) * 2 ^ 1074 := by
              simp only [Int.mul_assoc, Int.mul_comm (2 ^ 1074)]
      generalize (2 : Int) ^ 356 * (c * d) = N at eN
      have nb : N.natAbs ≤ (V q).natAbs := by
        have h1 := abs_eq eN
        have h0 := hz.abs
        have h2 := Nat.two_pow_pos 1074
        revert h1 h0 h2
        generalize (2 : Nat) ^ 1074 = T
        intro h1 h0 h2
        exact mul_cap h0 h1 h2
      have bd : N.natAbs ≤ 2 ^ 1074 := Nat.le_trans nb w.abs
      obtain ⟨r, h1, h2, h3⟩ := mulW hz.fin w.fin eN bd (by omega)
      have er : mX z q = r := by unfold mX; rw [h1]; rfl
      rw [er, h3]
      have := RN_rel N
      omega
    obtain ⟨-, S, RS⟩ := (A.le (q := 356) (l := 1074) (by omega) (by omega)).add M' (by omega)
    obtain ⟨r', h1', h2', h3', -⟩ := addW A.fin M'.fin A.abs M'.abs (by omega)
    have er : aX a (mX z q) = r' := by unfold aX; rw [h1']; rfl
    have sz := RN_rel (V a + V (mX z q))
    have e3 : V (aX a (mX z q)) = RN (V a + V (mX z q)) := by rw [er]; exact h3'
    rw [← e3] at sz
    have lo : (V a).natAbs ≤ 2 * (V (aX a (mX z q))).natAbs := by omega
    have hi : (V (aX a (mX z q))).natAbs ≤ 2 * (V a).natAbs := by omega
    refine ⟨S.fin, lo, hi, ⟨S.fin, dvd_big ?_, ?_⟩, ?_⟩
    · have e1 := two_dbl (m := 960 + 53) (n := 1020) (by omega)
      omega
    · have e1 := two_dbl (m := 1073) (n := 1074) (by omega)
      omega
    · exact ⟨Q q, Q (mX z q), r, RM, RS⟩

end Go.Proofs.Ytnmadknpkhaolaa

namespace Go.Proofs.Ytnmadknpkhaolaa
open Ieee.Own

theorem grow_sin : Grow sinW := by
  unfold sinW
  simp only [Grow]
  unfold FinW
  decide +kernel
theorem grow_cos : Grow cosW := by
  unfold cosW
  simp only [Grow]
  unfold FinW
  decide +kernel

theorem tau_wd : Wd tauW 1024 1077 := by
  refine ⟨by unfold FinW tauW; decide +kernel, ?_, by decide +kernel⟩
  exact ⟨V tauW / 2 ^ 1024, by decide +kernel⟩
def oneW : Nat := 4607182418800017408
theorem one_wd : Wd oneW 1024 1074 := by
  refine ⟨by unfold FinW oneW; decide +kernel, ?_, by decide +kernel⟩
  exact ⟨2 ^ 50, by decide +kernel⟩
theorem one_Q : Q oneW = 1 := by decide +kernel

def yW (r : Nat) : Nat := mX r tauW
def zW (r : Nat) : Nat := mX (yW r) (yW r)
def pW (r : Nat) : Nat := horW (zW r) sinW
def qW (r : Nat) : Nat := horW (zW r) cosW
/-- the near sine, the near cosine -/
def sinX (r : Nat) : Nat := aX (yW r) (mX (yW r) (mX (zW r) (pW r)))
def cosX (r : Nat) : Nat := aX oneW (mX (zW r) (qW r))

/-- the rest as a word -/
structure Rest (r : Nat) : Prop where
  fin : FinW r
  dvd : (2 : Int) ^ 822 ∣ V r
  abs : (V r).natAbs ≤ 2 ^ 1071

theorem pw_cast {x : Int} {n : Nat} (h : x.natAbs ≤ 2 ^ n) : -(2 ^ n) ≤ x ∧ x ≤ 2 ^ n := by
  have e : ((2 : Int) ^ n).natAbs = 2 ^ n := Int.natAbs_pow 2 n
  have p : (0 : Int) ≤ 2 ^ n := Int.pow_nonneg (by omega)
  omega
theorem Rest.Q_bd {r : Nat} (h : Rest r) : -(1/8) ≤ Q r ∧ Q r ≤ 1/8 := by
  have a := pw_cast h.abs
  have l : -eig ≤ V r := a.1
  have u : V r ≤ eig := a.2
  have l' := div_le (Rat.intCast_le_intCast.2 l)
  have u' := div_le (Rat.intCast_le_intCast.2 u)
  rw [Rat.intCast_neg] at l'
  have z1 : -(eig : Rat) / unit = -(1/8) := by decide +kernel
  have z2 : (eig : Rat) / unit = 1/8 := by decide +kernel
  rw [z1] at l'
  rw [z2] at u'
  exact ⟨l', u'⟩

structure Near (r : Nat) : Prop where
  y : Ieee.double.mul r tauW = some (yW r)
  z : Ieee.double.mul (yW r) (yW r) = some (zW r)
  zw : Wd (zW r) 470 1074
  zp : Ieee.double.mul (zW r) (pW r) = some (mX (zW r) (pW r))
  yzp : Ieee.double.mul (yW r) (mX (zW r) (pW r)) = some (mX (yW r) (mX (zW r) (pW r)))
  s : Ieee.double.add (yW r) (mX (yW r) (mX (zW r) (pW r))) = some (sinX r)
  zq : Ieee.double.mul (zW r) (qW r) = some (mX (zW r) (qW r))
  c : Ieee.double.add oneW (mX (zW r) (qW r)) = some (cosX r)
  sw : Wd (sinX r) 54 1075
  cw : Wd (cosX r) 356 1075
  pb : -(1/2) ≤ Q (pW r) ∧ Q (pW r) ≤ 1/2
  zb : -1 ≤ Q (zW r) ∧ Q (zW r) ≤ 1
  ry : Rld (Q (yW r)) (Q r * Q tauW)
  rzp : Rld (Q (mX (zW r) (pW r))) (Q (zW r) * Q (pW r))
  ryzp : Rld (Q (mX (yW r) (mX (zW r) (pW r)))) (Q (yW r) * Q (mX (zW r) (pW r)))
  rs : Rld (Q (sinX r)) (Q (yW r) + Q (mX (yW r) (mX (zW r) (pW r))))
  sn : Ap (Q (sinX r)) (Ply.s (Ply.tau * Q r)) (mkRat 1 (2^51)) 1
  cn : Ap (Q (cosX r)) (Ply.c (Ply.tau * Q r)) (mkRat 1 (2^50)) 1
  yw : Wd (yW r) 54 1074
  bw : Wd (mX (yW r) (mX (zW r) (pW r))) 54 1074

theorem Rest.near {r : Nat} (h : Rest r) : Near r := by
  have R : Wd r 822 1071 := ⟨h.fin, h.dvd, h.abs⟩
  obtain ⟨y1, Y, y3⟩ := R.mul tau_wd (by omega) (by omega) (by omega)
  have hy : mX r tauW = yW r := rfl
  rw [hy] at y1 Y y3
  replace Y := Y.le (q := 772) (l := 1074) (by omega) (by omega)
  obtain ⟨z1, Z, z3⟩ := Y.mul Y (by omega) (by omega) (by omega)
  have hz : mX (yW r) (yW r) = zW r := rfl
  rw [hz] at z1 Z z3
  replace Z := Z.le (q := 470) (l := 1074) (by omega) (by omega)
  obtain ⟨-, -, pu, P, hp⟩ := hor_step Z _ _ grow_sin
  obtain ⟨-, -, -, C, hc⟩ := hor_step Z _ _ grow_cos
  have ep : horW (zW r) sinW = pW r := rfl
  have eq : horW (zW r) cosW = qW r := rfl
  change Wd (horW (zW r) sinW) 960 1074 at P
  change (V (horW (zW r) sinW)).natAbs ≤ _ at pu
  change Wd (horW (zW r) cosW) 960 1074 at C
  change Hor (Q (zW r)) (sinW.map Q) (Q (horW (zW r) sinW)) at hp
  change Hor (Q (zW r)) (cosW.map Q) (Q (horW (zW r) cosW)) at hc
  rw [ep] at P hp pu
  rw [eq] at C hc
  obtain ⟨a1, A, a3⟩ := Z.mul P (by omega) (by omega) (by omega)
  replace A := A.le (q := 356) (l := 1074) (by omega) (by omega)
  obtain ⟨b1, B, b3⟩ := Y.mul A (by omega) (by omega) (by omega)
  replace B := B.le (q := 54) (l := 1074) (by omega) (by omega)
  obtain ⟨s1, S, s3⟩ := (Y.le (q := 54) (l := 1074) (by omega) (by omega)).add B (by omega)
  obtain ⟨d1, D, d3⟩ := Z.mul C (by omega) (by omega) (by omega)
  replace D := D.le (q := 356) (l := 1074) (by omega) (by omega)
  obtain ⟨c1, CC, c3⟩ := (one_wd.le (q := 356) (l := 1074) (by omega) (by omega)).add D (by omega)
  rw [one_Q] at c3
  have b := h.Q_bd
  have pb : -(1/2) ≤ Q (pW r) ∧ Q (pW r) ≤ 1/2 := by
    have e1 : (V (pW r)).natAbs ≤ 2 ^ 1073 := Nat.le_trans pu (by decide +kernel)
    have a := pw_cast e1
    have l' := div_le (Rat.intCast_le_intCast.2 a.1)
    have u' := div_le (Rat.intCast_le_intCast.2 a.2)
    have z1 : (((-(2 ^ 1073) : Int) : Int) : Rat) / unit = -(1/2) := by decide +kernel
    have z2 : (((2 ^ 1073 : Int) : Int) : Rat) / unit = 1/2 := by decide +kernel
    rw [z1] at l'
    rw [z2] at u'
    exact ⟨l', u'⟩
  have zb : -1 ≤ Q (zW r) ∧ Q (zW r) ≤ 1 := by
    have a := pw_cast Z.abs
    have l' := div_le (Rat.intCast_le_intCast.2 a.1)
    have u' := div_le (Rat.intCast_le_intCast.2 a.2)
    have z1 : (((-(2 ^ 1074) : Int) : Int) : Rat) / unit = -1 := by decide +kernel
    have z2 : (((2 ^ 1074 : Int) : Int) : Rat) / unit = 1 := by decide +kernel
    rw [z1] at l'
    rw [z2] at u'
    exact ⟨l', u'⟩
  exact ⟨y1, z1, Z, a1, b1, s1, d1, c1, S, CC, pb, zb, y3, a3, b3, s3, near_sine b.1 b.2 y3 z3 hp a3 b3 s3, near_cosine b.1 b.2 y3 z3 hc d3 c3, Y.le (by omega) (by omega), B⟩

end Go.Proofs.Ytnmadknpkhaolaa

namespace Go.Proofs.Ytnmadknpkhaolaa
open Ieee.Own

theorem norm_big {b : Nat} (h : FinW b) (hb : 2 ^ 52 ≤ (V b).natAbs) : 4503599627370496 ≤ b % 9223372036854775808 := by
  rw [V_abs' b h] at hb
  by_cases q : b % 9223372036854775808 < 2 ^ 52
  · unfold val mg ex at hb
    rw [if_pos q, if_pos q] at hb
    omega
  · omega

theorem pw_abs (n : Nat) : ((2 : Int) ^ n).natAbs = 2 ^ n := Int.natAbs_pow 2 n
theorem mul_pow {a k : Nat} (h : a ≤ 2 ^ k) (n : Nat) : a * 2 ^ n ≤ 2 ^ (k + n) := by
  rw [Nat.pow_add]; exact Nat.mul_le_mul_right _ h
theorem absk {v k : Int} {n : Nat} (h : v = k * 2 ^ n) : v.natAbs = k.natAbs * 2 ^ n := by
  rw [h, Int.natAbs_mul, Int.natAbs_pow]; rfl
/-- what Both, Point ask of a number: fit, at most 2^40 -/
structure Ang (x : Nat) : Prop where
  fin : FinW x
  dvd : (2 : Int) ^ 822 ∣ V x
  abs : (V x).natAbs ≤ 2 ^ 1114

/-- the whole number below 4 x -/
def fl (x : Nat) : Int := V x / (2 * eig)

theorem eig2 : 2 * eig = 2 ^ 1072 := by decide +kernel

theorem rest_of {x r : Nat} (h : Ang x) (hr : FinW r) (vr : V r = rq eig (V x)) : Rest r := by
  have b := rq_bd eig_pos (V x)
  refine ⟨hr, ?_, ?_⟩
  · rw [vr]; unfold rq
    refine Int.dvd_sub h.dvd (Int.dvd_trans ?_ (Int.dvd_mul_right _ _))
    rw [eig2]
    exact ⟨2 ^ 250, by decide +kernel⟩
  · have p := pw_abs 1071
    have : eig = 2 ^ 1071 := rfl
    omega

end Go.Proofs.Ytnmadknpkhaolaa

namespace Go.Proofs.Ytnmadknpkhaolaa
open Go

/-- the frame behind those that have come up: what each has left, in the order of the text -/
def puts : List (Option Tmp) → List (Option Value) → Act → Act
  | d :: ds, some v :: L, a => puts ds L (a.put d v)
  | _ :: ds, none :: L, a => puts ds L a
  | _, _, a => a
def apartL : List (Option Tmp) → Bool
  | [] => true
  | none :: r => apartL r
  | some x :: r => !r.contains (some x) && apartL r
theorem put_size (a : Act) (d : Option Tmp) (v : Value) : (a.put d v).tmps.size = a.tmps.size := by cases d <;> simp [Act.put]
theorem puts_put {v : Value} {d : Option Tmp} : ∀ (ds : List (Option Tmp)) (L : List (Option Value)) (a : Act), (∀ x, d = some x → some x ∉ ds) → (puts ds L a).put d v = puts ds L (a.put d v)
  | [], _, _, _ => by simp [puts]
  | _ :: _, [], _, _ => by simp [puts]
  | e :: ds, none :: L, a, h => by simp only [puts]; exact puts_put ds L a fun x hx hm => h x hx (List.mem_cons_of_mem _ hm)
  | e :: ds, some u :: L, a, h => by
    simp only [puts]
    rw [puts_put ds L _ fun x hx hm => h x hx (List.mem_cons_of_mem _ hm)]
    rw [Act.put_comm a u v (x := e) (y := d)]
    intro x hx hd
    exact h x hd (by rw [hx]; exact List.mem_cons_self ..)
theorem puts_set {v : Value} : ∀ (i : Nat) (ds : List (Option Tmp)) (L : List (Option Value)) (a : Act) {d : Option Tmp}, apartL ds = true → ds[i]? = some d → L[i]? = some none → (puts ds L a).put d v = puts ds (L.set i (some v)) a
  | 0, [], _, _, _, _, h, _ => by simp at h
  | 0, _ :: _, [], _, _, _, _, h => by simp at h
  | 0, e :: ds, l :: L, a, d, hap, h, hl => by
    simp only [List.getElem?_cons_zero, Option.some.injEq] at h hl
    subst h hl
    simp only [puts, List.set_cons_zero]
    refine puts_put ds L a fun x hx hm => ?_
    subst hx
    simp only [apartL, Bool.and_eq_true, Bool.not_eq_true'] at hap
    have := hap.1
    rw [List.contains_eq_mem, decide_eq_false_iff_not] at this
    exact this hm
  | i + 1, [], _, _, _, _, h, _ => by simp at h
  | i + 1, _ :: _, [], _, _, _, _, h => by simp at h
  | i + 1, e :: ds, l :: L, a, d, hap, h, hl => by
    simp only [List.getElem?_cons_succ] at h hl
    have hap' : apartL ds = true := by
      cases e with
      | none => simpa [apartL] using hap
      | some x => simp only [apartL, Bool.and_eq_true] at hap; exact hap.2
    cases l with
    | none => simp only [puts, List.set_cons_succ]; exact puts_set i ds L a hap' h hl
    | some u => simp only [puts, List.set_cons_succ]; exact puts_set i ds L _ hap' h hl
/-- an old slot -/
theorem puts_old {t : Tmp} : ∀ (ds : List (Option Tmp)) (L : List (Option Value)) (a : Act), some t ∉ ds → (puts ds L a).eval (.tmp t) = a.eval (.tmp t)
  | [], _, _, _ => by simp [puts]
  | _ :: _, [], _, _ => by simp [puts]
  | _ :: ds, none :: L, a, h => by simp only [puts]; exact puts_old ds L a fun hm => h (List.mem_cons_of_mem _ hm)
  | e :: ds, some v :: L, a, h => by
    simp only [puts]
    rw [puts_old ds L _ fun hm => h (List.mem_cons_of_mem _ hm)]
    exact Act.eval_put fun d hd hx => by
      rw [Operand.tmp.injEq] at hx
      subst hx hd
      exact h (List.mem_cons_self ..)
theorem put_get {a : Act} {t : Tmp} {v : Value} (h : t < a.tmps.size) : (a.put (some t) v).eval (.tmp t) = v := by
  simp [Act.put, Act.eval, h]
/-- what has come up lies in its slot -/
theorem puts_get {t : Tmp} {v : Value} : ∀ (i : Nat) (ds : List (Option Tmp)) (L : List (Option Value)) (a : Act), apartL ds = true → ds[i]? = some (some t) → L[i]? = some (some v) → t < a.tmps.size → (puts ds L a).eval (.tmp t) = v
  | 0, [], _, _, _, h, _, _ => by simp at h
  | 0, _ :: _, [], _, _, _, h, _ => by simp at h
  | 0, e :: ds, l :: L, a, hap, h, hl, hs => by
    simp only [List.getElem?_cons_zero, Option.some.injEq] at h hl
    subst h hl
    simp only [puts]
    simp only [apartL, Bool.and_eq_true, Bool.not_eq_true'] at hap
    have := hap.1
    rw [List.contains_eq_mem, decide_eq_false_iff_not] at this
    rw [puts_old ds L _ this, put_get hs]
  | i + 1, [], _, _, _, h, _, _ => by simp at h
  | i + 1, _ :: _, [], _, _, _, h, _ => by simp at h
  | i + 1, e :: ds, l :: L, a, hap, h, hl, hs => by
    simp only [List.getElem?_cons_succ] at h hl
    have hap' : apartL ds = true := by
      cases e with
      | none => simpa [apartL] using hap
      | some x => simp only [apartL, Bool.and_eq_true] at hap; exact hap.2
    cases l with
    | none => simp only [puts]; exact puts_get i ds L a hap' h hl hs
    | some u => simp only [puts]; exact puts_get i ds L _ hap' h hl (by rw [put_size]; exact hs)

/-! ### the walk over all orders -/
def lst (L : List (Option Value)) : Array Bool := (L.map Option.isSome).toArray
theorem lst_set {L : List (Option Value)} {i : Nat} {v : Value} : (lst L).setIfInBounds i true = lst (L.set i (some v)) := by
  unfold lst
  simp [List.setIfInBounds_toArray, List.map_set]
theorem lst_true {L : List (Option Value)} {i : Nat} (h : (lst L).getD i false = true) : ∃ v, L[i]? = some (some v) := by
  unfold lst at h
  simp only [Array.getD_eq_getD_getElem?, List.getElem?_toArray, List.getElem?_map] at h
  cases hl : L[i]? with
  | none => rw [hl] at h; simp at h
  | some o => cases o with
    | none => rw [hl] at h; simp at h
    | some v => exact ⟨v, rfl⟩
theorem lst_false {L : List (Option Value)} {i : Nat} (h : (lst L).getD i true = false) : L[i]? = some none := by
  unfold lst at h
  simp only [Array.getD_eq_getD_getElem?, List.getElem?_toArray, List.getElem?_map] at h
  cases hl : L[i]? with
  | none => rw [hl] at h; simp at h
  | some o => cases o with
    | none => rfl
    | some v => rw [hl] at h; simp at h
/-- how many have not come up -/
def open_ : List (Option Value) → Nat
  | [] => 0
  | none :: L => open_ L + 1
  | some _ :: L => open_ L
theorem open_set {v : Value} : ∀ (i : Nat) (L : List (Option Value)), L[i]? = some none → open_ (L.set i (some v)) + 1 = open_ L
  | 0, [], h => by simp at h
  | 0, l :: L, h => by
    simp only [List.getElem?_cons_zero, Option.some.injEq] at h
    subst h; rfl
  | i + 1, [], h => by simp at h
  | i + 1, l :: L, h => by
    simp only [List.getElem?_cons_succ] at h
    have := open_set (v := v) i L h
    cases l with
    | none => simp only [List.set_cons_succ, open_]; omega
    | some u => simp only [List.set_cons_succ, open_]; omega
theorem open_zero : ∀ (L : List (Option Value)), open_ L = 0 → ∀ i, i < L.length → ∃ v, L[i]? = some (some v)
  | [], _, i, h => by simp at h
  | none :: L, h0, _, _ => by simp [open_] at h0
  | some v :: L, h0, 0, _ => ⟨v, rfl⟩
  | some v :: L, h0, i + 1, h => by
    simp only [List.getElem?_cons_succ]
    exact open_zero L h0 i (by simpa using h)
def backward (ops : Array Oper) : Bool := (List.range ops.size).all fun i => ((ops[i]?).map (·.after.all fun e => !Region.binds .any e || decide (e.on < i))).getD true
def plainL (ops : Array Oper) : Bool := (List.range ops.size).all fun i => ((ops[i]?).map (·.guard.isNone)).getD true

section
variable {P : Program} {ops : Array Oper} {Q : Exit → Act → World → Prop}
theorem ready_all (hb : backward ops = true) {L : List (Option Value)} (hL : L.length = ops.size) (hr : Region.ready .any ops (lst L) = []) : ∀ n i, i < n → i < ops.size → ∃ v, L[i]? = some (some v) := by
  intro n
  induction n with
  | zero => intro i h; omega
  | succ n ih =>
    intro i hi hs
    by_cases hin : i < n
    · exact ih i hin hs
    · obtain rfl : i = n := by omega
      have hx : i ∉ Region.ready .any ops (lst L) := by rw [hr]; exact List.not_mem_nil
      cases hl : L[i]? with
      | none => rw [List.getElem?_eq_none_iff] at hl; omega
      | some o => cases o with
        | some v => exact ⟨v, rfl⟩
        | none =>
          refine absurd (mem_ready.2 ⟨?_, ops[i], Array.getElem?_eq_getElem hs, fun e he hbd => ?_⟩) hx
          · unfold lst; simp [Array.getD_eq_getD_getElem?, hl]
          · have hlt : e.on < i := by
              have h1 := (List.all_eq_true.1 hb) i (List.mem_range.2 hs)
              rw [Array.getElem?_eq_getElem hs] at h1
              simp only [Option.map_some, Option.getD_some, Array.all_eq_true] at h1
              obtain ⟨k, hk, rfl⟩ := Array.mem_iff_getElem.1 he
              have h2 := h1 k hk
              simpa [hbd] using h2
            obtain ⟨v, hv⟩ := ih e.on hlt (by omega)
            unfold lst; simp [Array.getD_eq_getD_getElem?, hv]
theorem wpAny_inv (ds : List (Option Tmp)) (hds : ops.toList.map (·.dst) = ds) (hap : apartL ds = true) (hb : backward ops = true) (hg : plainL ops = true) (a0 : Act) (W : List (Option Value) → World → Prop)
    (step : ∀ (L : List (Option Value)) (w : World) (i : Nat) (o : Oper), L.length = ops.size → ops[i]? = some o → L[i]? = some none → (∀ e ∈ o.after, Region.binds .any e = true → ∃ v, L[e.on]? = some (some v)) → W L w →
      o.wp P (puts ds L a0) w (fun a' w' => ∃ v, a' = (puts ds L a0).put o.dst v ∧ W (L.set i (some v)) w') Q)
    (fin : ∀ L w, L.length = ops.size → (∀ i, i < ops.size → ∃ v, L[i]? = some (some v)) → W L w → Q .normal (puts ds L a0) w) :
    ∀ fuel L w, L.length = ops.size → open_ L ≤ fuel → W L w → wpAny P .any ops Q fuel (lst L) (puts ds L a0) w := by
  intro fuel
  induction fuel with
  | zero =>
    intro L w hL ho hW
    have hall := open_zero L (by omega)
    refine ⟨?_, fin L w hL (fun i hi => hall i (by omega)) hW⟩
    refine List.eq_nil_iff_forall_not_mem.2 fun i hi => ?_
    obtain ⟨h1, oi, h2, -⟩ := mem_ready.1 hi
    have h3 := lst_false h1
    obtain ⟨v, hv⟩ := hall i (by have := (Array.getElem?_eq_some_iff.1 h2).1; omega)
    rw [hv] at h3; simp at h3
  | succ fuel ih =>
    intro L w hL ho hW
    refine ⟨fun hr => fin L w hL (fun i hi => ready_all hb hL hr (i + 1) i (by omega) hi) hW, fun i hi => ?_⟩
    obtain ⟨h1, o, h2, h3⟩ := mem_ready.1 hi
    have h4 := lst_false h1
    have his := (Array.getElem?_eq_some_iff.1 h2).1
    have hgi : o.guard = none := by
      have := (List.all_eq_true.1 hg) i (List.mem_range.2 his)
      rw [h2] at this
      simpa using this
    have hdi : ds[i]? = some o.dst := by rw [← hds, List.getElem?_map]; simp [h2]
    have s := step L w i o hL h2 h4 (fun e he hbd => lst_true (h3 e he hbd)) hW
    unfold wpOp
    rw [h2]
    simp only [Region.wanted, hgi, if_true]
    refine Or.inl (Oper.wp_mono (fun a' w' hh => ?_) s)
    obtain ⟨v, rfl, hW'⟩ := hh
    rw [puts_set i ds L a0 hap hdi h4, lst_set (v := v)]
    exact ih _ w' (by simpa using hL) (by have := open_set (v := v) i L h4; omega) hW'
def nones (n : Nat) : List (Option Value) := List.replicate n none
theorem puts_nones (n : Nat) : ∀ (ds : List (Option Tmp)) (a : Act), puts ds (nones n) a = a := by
  unfold nones
  induction n with
  | zero => intro ds a; cases ds <;> rfl
  | succ n ih => intro ds a; cases ds with
    | nil => rfl
    | cons d ds => simp only [List.replicate_succ, puts]; exact ih ds a
theorem open_nones (n : Nat) : open_ (nones n) = n := by
  unfold nones
  induction n with
  | zero => rfl
  | succ n ih => simp only [List.replicate_succ, open_, ih]
theorem wp_region_inv {id : Nat} {a0 : Act} {w : World} (hm : P.follows .mixedOrders = true) (ds : List (Option Tmp)) (hds : ops.toList.map (·.dst) = ds) (hap : apartL ds = true) (hb : backward ops = true) (hg : plainL ops = true)
    (W : List (Option Value) → World → Prop) (start : W (nones ops.size) w.drew)
    (step : ∀ (L : List (Option Value)) (w : World) (i : Nat) (o : Oper), L.length = ops.size → ops[i]? = some o → L[i]? = some none → (∀ e ∈ o.after, Region.binds .any e = true → ∃ v, L[e.on]? = some (some v)) → W L w →
      o.wp P (puts ds L a0) w (fun a' w' => ∃ v, a' = (puts ds L a0).put o.dst v ∧ W (L.set i (some v)) w') Q)
    (fin : ∀ L w, L.length = ops.size → (∀ i, i < ops.size → ∃ v, L[i]? = some (some v)) → W L w → Q .normal (puts ds L a0) w) : (Code.region id ops true).wp P Q a0 w := by
  have h := wpAny_inv ds hds hap hb hg a0 W step fin ops.size (nones ops.size) w.drew (by simp [nones]) (by rw [open_nones]; exact Nat.le_refl _) start
  rw [puts_nones] at h
  have e : lst (nones ops.size) = Array.replicate ops.size false := by unfold lst nones; simp
  rw [e] at h
  exact wp_region_any hm h

/-! ### operations that may not be wanted; regions whose values hang on nothing that is drawn -/
theorem wpAny_inv_g (ds : List (Option Tmp)) (hds : ops.toList.map (·.dst) = ds) (hap : apartL ds = true) (hb : backward ops = true) (a0 : Act) (W : List (Option Value) → World → Prop)
    (step : ∀ (L : List (Option Value)) (w : World) (i : Nat) (o : Oper), L.length = ops.size → ops[i]? = some o → L[i]? = some none → (∀ e ∈ o.after, Region.binds .any e = true → ∃ v, L[e.on]? = some (some v)) → W L w →
      (Region.wanted o (yielded ops (puts ds L a0).tmps) = true ∧ o.wp P (puts ds L a0) w (fun a' w' => ∃ v, a' = (puts ds L a0).put o.dst v ∧ W (L.set i (some v)) w') Q) ∨ (Region.wanted o (yielded ops (puts ds L a0).tmps) = false ∧ W (L.set i (some undef)) w))
    (fin : ∀ L w, L.length = ops.size → (∀ i, i < ops.size → ∃ v, L[i]? = some (some v)) → W L w → Q .normal (puts ds L a0) w) :
    ∀ fuel L w, L.length = ops.size → open_ L ≤ fuel → W L w → wpAny P .any ops Q fuel (lst L) (puts ds L a0) w := by
  intro fuel
  induction fuel with
  | zero =>
    intro L w hL ho hW
    have hall := open_zero L (by omega)
    refine ⟨?_, fin L w hL (fun i hi => hall i (by omega)) hW⟩
    refine List.eq_nil_iff_forall_not_mem.2 fun i hi => ?_
    obtain ⟨h1, oi, h2, -⟩ := mem_ready.1 hi
    have h3 := lst_false h1
    obtain ⟨v, hv⟩ := hall i (by have := (Array.getElem?_eq_some_iff.1 h2).1; omega)
    rw [hv] at h3; simp at h3
  | succ fuel ih =>
    intro L w hL ho hW
    refine ⟨fun hr => fin L w hL (fun i hi => ready_all hb hL hr (i + 1) i (by omega) hi) hW, fun i hi => ?_⟩
    obtain ⟨h1, o, h2, h3⟩ := mem_ready.1 hi
    have h4 := lst_false h1
    have hdi : ds[i]? = some o.dst := by rw [← hds, List.getElem?_map]; simp [h2]
    unfold wpOp
    rw [h2]
    simp only []
    rcases step L w i o hL h2 h4 (fun e he hbd => lst_true (h3 e he hbd)) hW with ⟨hw, s⟩ | ⟨hw, s⟩
    · rw [if_pos hw]
      refine Or.inl (Oper.wp_mono (fun a' w' hh => ?_) s)
      obtain ⟨v, rfl, hW'⟩ := hh
      rw [puts_set i ds L a0 hap hdi h4, lst_set (v := v)]
      exact ih _ w' (by simpa using hL) (by have := open_set (v := v) i L h4; omega) hW'
    · rw [if_neg (by rw [hw]; decide)]
      rw [puts_set i ds L a0 hap hdi h4, lst_set (v := undef)]
      exact ih _ w (by simpa using hL) (by have := open_set (v := undef) i L h4; omega) s
/-- what an operation comes to: a value, a call's answer, or it is not wanted -/
inductive Comes (P : Program) (ops : Array Oper) (S : World → Prop) (o : Oper) (a : Act) (w : World) (v : Value) : Prop
  | value (h : Region.wanted o (yielded ops a.tmps) = true) (w' : World) (r : (execOp a.eval o).run P w = .ok (.value v) w') (k : S w')
  | skip (h : Region.wanted o (yielded ops a.tmps) = true) (hv : v = undef) (w' : World) (r : (execOp a.eval o).run P w = .ok .skip w') (k : S w')
  | call (h : Region.wanted o (yielded ops a.tmps) = true) (f : FuncId) (args : Array Value) (r : (execOp a.eval o).run P w = .ok (.enter f args) w) (k : Calls P f args w fun e w' => e = .returned v ∧ S w')
  | no (h : Region.wanted o (yielded ops a.tmps) = false) (hv : v = undef)
/-- those that it waits for -/
def waits (o : Oper) (k : Nat) : Bool := o.after.toList.any fun e => e.on == k && Region.binds .any e
theorem wp_region_det {id : Nat} {a0 : Act} {w : World} (hm : P.follows .mixedOrders = true) (ds : List (Option Tmp)) (hds : ops.toList.map (·.dst) = ds) (hap : apartL ds = true) (hb : backward ops = true)
    (dv : List Value) (hl : dv.length = ops.size) (S : World → Prop) (start : S w.drew)
    (step : ∀ (L : List (Option Value)) (w : World) (i : Nat) (o : Oper), ops[i]? = some o → (∀ k, waits o k = true → L[k]? = some (some (dv.getD k undef))) → S w → Comes P ops S o (puts ds L a0) w (dv.getD i undef))
    (fin : ∀ w, S w → Q .normal (puts ds (dv.map some) a0) w) : (Code.region id ops true).wp P Q a0 w := by
  have h := wpAny_inv_g (P := P) (Q := Q) ds hds hap hb a0 (fun L w => (∀ i v, L[i]? = some (some v) → v = dv.getD i undef) ∧ S w) (fun L w i o hL ho hn hd hW => ?_) (fun L w hL hall hW => ?_) ops.size (nones ops.size) w.drew (by simp [nones]) (by rw [open_nones]; exact Nat.le_refl _) ⟨fun i v h => ?_, start⟩
  · rw [puts_nones] at h
    have e : lst (nones ops.size) = Array.replicate ops.size false := by unfold lst nones; simp
    rw [e] at h
    exact wp_region_any hm h
  · have key : ∀ v, v = dv.getD i undef → ∀ k u, (L.set i (some v))[k]? = some (some u) → u = dv.getD k undef := fun v hv k u hk => by
      by_cases hik : i = k
      · subst hik
        have : i < L.length := (List.getElem?_eq_some_iff.1 hn).1
        rw [List.getElem?_set_self this] at hk
        rw [← Option.some.inj (Option.some.inj hk)]; exact hv
      · rw [List.getElem?_set_ne hik] at hk; exact hW.1 k u hk
    have hd' : ∀ k, waits o k = true → L[k]? = some (some (dv.getD k undef)) := fun k hk => by
      unfold waits at hk
      rw [List.any_eq_true] at hk
      obtain ⟨e, he, h2⟩ := hk
      simp only [Bool.and_eq_true, beq_iff_eq] at h2
      obtain ⟨v, hv⟩ := hd e (Array.mem_toList_iff.1 he) h2.2
      rw [h2.1] at hv
      rw [hv, hW.1 k v hv]
    rcases step L w i o ho hd' hW.2 with ⟨h, w', r, k⟩ | ⟨h, hv, w', r, k⟩ | ⟨h, f, args, r, k⟩ | ⟨h, hv⟩
    · refine Or.inl ⟨h, ?_⟩
      unfold Oper.wp; rw [r]
      exact ⟨_, rfl, key _ rfl, k⟩
    · refine Or.inl ⟨h, ?_⟩
      unfold Oper.wp; rw [r]
      exact ⟨undef, rfl, key _ hv.symm, k⟩
    · refine Or.inl ⟨h, ?_⟩
      unfold Oper.wp; rw [r]
      refine Calls.mono k fun e w' hh => ?_
      obtain ⟨rfl, hS⟩ := hh
      exact ⟨_, rfl, key _ rfl, hS⟩
    · exact Or.inr ⟨h, key _ hv.symm, hW.2⟩
  · have e : L = dv.map some := by
      refine List.ext_getElem? fun i => ?_
      by_cases hi : i < ops.size
      · obtain ⟨v, hv⟩ := hall i hi
        rw [hv, hW.1 i v hv]
        simp [List.getD, hl, hi]
      · rw [List.getElem?_eq_none (by omega), List.getElem?_eq_none (by simp; omega)]
    rw [e]
    exact fin w hW.2
  · unfold nones at h; simp [List.getElem?_replicate] at h
end
end Go.Proofs.Ytnmadknpkhaolaa
