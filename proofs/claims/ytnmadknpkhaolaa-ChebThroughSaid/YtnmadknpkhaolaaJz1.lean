/- Proved here: what the texts Rat, Ply, Nsin, Hold, Qtr, Nwd, Nea, Qwd prove, one behind the other. -/
import Derived.Test.YtnmadknpkhaolaaJz0
import Ieee.Arith

namespace Go.Proofs.Ytnmadknpkhaolaa
open Ieee.Own

/-- the number of units in 1 -/
def unit : Rat := (((2 ^ 1074 : Nat) : Int) : Rat)
theorem unit_pos : 0 < unit := by decide +kernel

/-- the value of a finite word -/
def Q (b : Nat) : Rat := (V b : Rat) / unit

theorem div_le {x y : Rat} (h : x ≤ y) : x / unit ≤ y / unit := by
  have hu := unit_pos
  rw [Rat.div_def, Rat.div_def]
  exact Rat.mul_le_mul_of_nonneg_right h (Rat.le_of_lt (Rat.inv_pos.2 hu))
theorem mul_unit (x : Rat) : x / unit * unit = x := by
  have := unit_pos
  rw [Rat.div_mul_cancel]
  grind
theorem unit_div {x : Rat} : x * unit / unit = x := by
  have := unit_pos
  rw [Rat.mul_div_cancel]
  grind

theorem Q_unit (b : Nat) : Q b * unit = (V b : Rat) := mul_unit _
theorem Q_le {a b : Nat} : Q a ≤ Q b ↔ V a ≤ V b := by
  constructor
  · intro h
    have := Rat.mul_le_mul_of_nonneg_right h (Rat.le_of_lt unit_pos)
    rw [Q_unit, Q_unit] at this
    exact Rat.intCast_le_intCast.1 this
  · intro h
    exact div_le (Rat.intCast_le_intCast.2 h)
theorem Q_lt {a b : Nat} : Q a < Q b ↔ V a < V b := by
  have := @Q_le b a
  constructor <;> intro h
  · have h' : ¬ V b ≤ V a := fun q => by have := this.2 q; grind
    omega
  · have h' : ¬ Q b ≤ Q a := fun q => by have := this.1 q; omega
    grind

/-- near, but for a part of 2^53 -/
def Rld (w u : Rat) : Prop := ∀ M, -M ≤ u → u ≤ M → -(M * mkRat 1 (2^53)) ≤ w - u ∧ w - u ≤ M * mkRat 1 (2^53)

theorem RN_rel (z : Int) : 2 ^ 53 * (RN z - z).natAbs ≤ z.natAbs := by
  have h1 := RN_err (z := z) (d := dr z.natAbs) (dr_lt _)
  by_cases h : 0 < dr z.natAbs
  · have h2 := dr_le _ h
    rw [Nat.pow_add] at h2
    have : 2 ^ 53 * (RN z - z).natAbs ≤ 2 ^ 52 * 2 ^ dr z.natAbs := by
      have : (2 : Nat) ^ 53 = 2 ^ 52 * 2 := by omega
      rw [this, Nat.mul_assoc]
      exact Nat.mul_le_mul_left _ h1
    omega
  · have h0 : dr z.natAbs = 0 := by omega
    rw [h0] at h1
    have : (RN z - z).natAbs = 0 := by omega
    omega

theorem rel_of {w z : Int} (h : 2 ^ 53 * (w - z).natAbs ≤ z.natAbs) : Rld ((w : Rat) / unit) ((z : Rat) / unit) := by
  intro M h1 h2
  have hu := unit_pos
  have a1 : (2 ^ 53 : Int) * (w - z) ≤ (z.natAbs : Int) := by omega
  have a2 : (2 ^ 53 : Int) * (z - w) ≤ (z.natAbs : Int) := by omega
  have b1 := Rat.intCast_le_intCast.2 a1
  have b2 := Rat.intCast_le_intCast.2 a2
  rw [Rat.intCast_mul, Rat.intCast_sub] at b1 b2
  have e53 : ((2 ^ 53 : Int) : Rat) = 9007199254740992 := by decide +kernel
  have m53 : mkRat 1 (2 ^ 53) = 1 / 9007199254740992 := by decide +kernel
  rw [e53] at b1 b2
  rw [m53]
  have c1 : -(M * unit) ≤ (z : Rat) := by
    have := Rat.mul_le_mul_of_nonneg_right h1 (Rat.le_of_lt hu)
    rw [mul_unit] at this; grind
  have c2 : (z : Rat) ≤ M * unit := by
    have := Rat.mul_le_mul_of_nonneg_right h2 (Rat.le_of_lt hu)
    rw [mul_unit] at this; grind
  have c3 : ((z.natAbs : Int) : Rat) ≤ M * unit := by
    rcases (by omega : (z.natAbs : Int) = z ∨ (z.natAbs : Int) = -z) with h | h
    · rw [h]; exact c2
    · rw [h, Rat.intCast_neg]; grind
  have d1 : 9007199254740992 * ((w : Rat) - z) ≤ M * unit := by grind
  have d2 : 9007199254740992 * ((z : Rat) - w) ≤ M * unit := by grind
  have f1 := div_le d1
  have f2 := div_le d2
  rw [unit_div] at f1 f2
  have g1 : 9007199254740992 * ((w : Rat) - z) / unit = 9007199254740992 * ((w : Rat) / unit - (z : Rat) / unit) := by
    simp only [Rat.div_def]; grind
  have g2 : 9007199254740992 * ((z : Rat) - w) / unit = 9007199254740992 * ((z : Rat) / unit - (w : Rat) / unit) := by
    simp only [Rat.div_def]; grind
  rw [g1] at f1
  rw [g2] at f2
  generalize (w : Rat) / unit = W at *
  generalize (z : Rat) / unit = Z at *
  constructor <;> grind

/-- a sum -/
theorem add_rel {a b r : Nat} (h : V r = RN (V a + V b)) : Rld (Q r) (Q a + Q b) := by
  have e : Q a + Q b = ((V a + V b : Int) : Rat) / unit := by
    unfold Q; rw [Rat.intCast_add]; simp only [Rat.div_def]; grind
  rw [e]; unfold Q; rw [h]
  exact rel_of (RN_rel _)
theorem sub_rel {a b r : Nat} (h : V r = RN (V a - V b)) : Rld (Q r) (Q a - Q b) := by
  have e : Q a - Q b = ((V a - V b : Int) : Rat) / unit := by
    unfold Q; rw [Rat.intCast_sub]; simp only [Rat.div_def]; grind
  rw [e]; unfold Q; rw [h]
  exact rel_of (RN_rel _)
theorem Q_mul {a b : Nat} {N : Int} (h : V a * V b = N * 2 ^ 1074) : Q a * Q b = (N : Rat) / unit := by
  have hu := unit_pos
  have e : (V a : Rat) * (V b : Rat) = (N : Rat) * unit := by
    rw [← Rat.intCast_mul, h, Rat.intCast_mul]
    have : ((2 ^ 1074 : Int) : Rat) = unit := by decide +kernel
    rw [this]
  have : Q a * Q b * unit = (N : Rat) := by
    have h1 : Q a * Q b * unit * unit = (N : Rat) * unit := by
      rw [← e, ← Q_unit a, ← Q_unit b]; grind
    have h2 := congrArg (· / unit) h1
    simp only [unit_div] at h2
    exact h2
  rw [← this, unit_div]
/-- a product -/
theorem mul_rel {a b r : Nat} {N : Int} (hN : V a * V b = N * 2 ^ 1074) (h : V r = RN N) : Rld (Q r) (Q a * Q b) := by
  rw [Q_mul hN]; unfold Q; rw [h]
  exact rel_of (RN_rel _)

/-! ### near things -/
/-- w is within e of x, and x within m of 0 -/
structure Ap (w x e m : Rat) : Prop where
  lo : -e ≤ w - x
  hi : w - x ≤ e
  mlo : -m ≤ x
  mhi : x ≤ m

theorem abs_mul {x y B M : Rat} (hx : -B ≤ x) (hx' : x ≤ B) (hy : -M ≤ y) (hy' : y ≤ M) :
    -(B * M) ≤ x * y ∧ x * y ≤ B * M := by
  have h1 : 0 ≤ (B - x) * (M + y) := Rat.mul_nonneg (by grind) (by grind)
  have h2 : 0 ≤ (B + x) * (M - y) := Rat.mul_nonneg (by grind) (by grind)
  have h3 : 0 ≤ (B - x) * (M - y) := Rat.mul_nonneg (by grind) (by grind)
  have h4 : 0 ≤ (B + x) * (M + y) := Rat.mul_nonneg (by grind) (by grind)
  constructor <;> grind

theorem Ap.mul {w v u x y e d m n : Rat} (h : Ap w x e m) (k : Ap v y d n) (r : Rld u (w * v)) :
    Ap u (x * y) (m * d + n * e + e * d + (m + e) * (n + d) * mkRat 1 (2^53)) (m * n) := by
  obtain ⟨h1, h2, h3, h4⟩ := h
  obtain ⟨k1, k2, k3, k4⟩ := k
  have a := abs_mul h3 h4 k1 k2
  have b := abs_mul k3 k4 h1 h2
  have c := abs_mul h1 h2 k1 k2
  have p := abs_mul (x := w) (y := v) (B := m + e) (M := n + d) (by grind) (by grind) (by grind) (by grind)
  have q := r _ p.1 p.2
  have g := abs_mul h3 h4 k3 k4
  generalize (m + e) * (n + d) * mkRat 1 (2^53) = E at *
  have i : u - x * y = (u - w * v) + x * (v - y) + y * (w - x) + (w - x) * (v - y) := by grind
  exact ⟨by rw [i]; grind, by rw [i]; grind, g.1, g.2⟩

theorem Ap.add {w v u x y e d m n : Rat} (h : Ap w x e m) (k : Ap v y d n) (r : Rld u (w + v)) :
    Ap u (x + y) (e + d + (m + e + n + d) * mkRat 1 (2^53)) (m + n) := by
  obtain ⟨h1, h2, h3, h4⟩ := h
  obtain ⟨k1, k2, k3, k4⟩ := k
  have q := r (m + e + n + d) (by grind) (by grind)
  generalize (m + e + n + d) * mkRat 1 (2^53) = E at *
  exact ⟨by grind, by grind, by grind, by grind⟩

theorem Ap.le {w x e m e' m' : Rat} (h : Ap w x e m) (h1 : e ≤ e') (h2 : m ≤ m') : Ap w x e' m' := by
  obtain ⟨a, b, c, d⟩ := h
  exact ⟨by grind, by grind, by grind, by grind⟩

/-! ### things in spans -/
theorem corner_lo {x y a b c d l : Rat} (x1 : a ≤ x) (x2 : x ≤ b) (y1 : c ≤ y) (y2 : y ≤ d)
    (h1 : l ≤ a * c) (h2 : l ≤ a * d) (h3 : l ≤ b * c) (h4 : l ≤ b * d) : l ≤ x * y := by
  -- first along y at both ends, then along x
  have s1 : l ≤ a * y := by
    rcases Rat.le_total (a := 0) (b := a) with h | h
    · have := Rat.mul_nonneg h (by grind : 0 ≤ y - c); grind
    · have := Rat.mul_nonneg (by grind : 0 ≤ -a) (by grind : 0 ≤ d - y); grind
  have s2 : l ≤ b * y := by
    rcases Rat.le_total (a := 0) (b := b) with h | h
    · have := Rat.mul_nonneg h (by grind : 0 ≤ y - c); grind
    · have := Rat.mul_nonneg (by grind : 0 ≤ -b) (by grind : 0 ≤ d - y); grind
  rcases Rat.le_total (a := 0) (b := y) with h | h
  · have := Rat.mul_nonneg h (by grind : 0 ≤ x - a); grind
  · have := Rat.mul_nonneg (by grind : 0 ≤ -y) (by grind : 0 ≤ b - x); grind

theorem corner_hi {x y a b c d u : Rat} (x1 : a ≤ x) (x2 : x ≤ b) (y1 : c ≤ y) (y2 : y ≤ d)
    (h1 : a * c ≤ u) (h2 : a * d ≤ u) (h3 : b * c ≤ u) (h4 : b * d ≤ u) : x * y ≤ u := by
  have := corner_lo (x := x) (y := -y) (a := a) (b := b) (c := -d) (d := -c) (l := -u) x1 x2 (by grind) (by grind)
    (by grind) (by grind) (by grind) (by grind)
  grind

end Go.Proofs.Ytnmadknpkhaolaa

namespace Ply

abbrev P := List Rat

def ev : P → Rat → Rat
  | [], _ => 0
  | a :: p, x => a + x * ev p x

def add : P → P → P
  | [], q => q
  | p, [] => p
  | a :: p, b :: q => (a + b) :: add p q

def scale (c : Rat) : P → P
  | [] => []
  | a :: p => (c * a) :: scale c p

def mul : P → P → P
  | [], _ => []
  | a :: p, q => add (scale a q) (0 :: mul p q)

/-- the polynomial p at c + d x -/
def shift (c d : Rat) : P → P
  | [] => []
  | a :: p => add [a] (mul [c, d] (shift c d p))

/-- the polynomial p at x x -/
def spread : P → P
  | [] => []
  | a :: p => a :: 0 :: spread p

/-- a bound of |p| where |x| ≤ B -/
def mag (B : Rat) : P → Rat
  | [] => 0
  | a :: p => (if 0 ≤ a then a else -a) + B * mag B p

/-- a bound of |p(x) - p(y)| / |x - y| where |x|, |y| ≤ B -/
def slope (B : Rat) : P → Rat
  | [] => 0
  | _ :: p => mag B p + B * slope B p

theorem ev_add (p q : P) (x : Rat) : ev (add p q) x = ev p x + ev q x := by
  induction p generalizing q with
  | nil => simp only [add, ev]; grind
  | cons a p ih =>
    cases q with
    | nil => simp only [add, ev]; grind
    | cons b q => simp only [add, ev, ih]; grind

theorem ev_scale (c : Rat) (p : P) (x : Rat) : ev (scale c p) x = c * ev p x := by
  induction p with
  | nil => simp only [scale, ev]; grind
  | cons a p ih => simp only [scale, ev, ih]; grind

theorem ev_mul (p q : P) (x : Rat) : ev (mul p q) x = ev p x * ev q x := by
  induction p with
  | nil => simp only [mul, ev]; grind
  | cons a p ih => simp only [mul, ev, ev_add, ev_scale, ih]; grind

theorem ev_shift (c d : Rat) (p : P) (x : Rat) : ev (shift c d p) x = ev p (c + d * x) := by
  induction p with
  | nil => simp only [shift, ev]
  | cons a p ih => simp only [shift, ev, ev_add, ev_mul, ih]; grind

theorem ev_spread (p : P) (x : Rat) : ev (spread p) x = ev p (x * x) := by
  induction p with
  | nil => simp only [spread, ev]
  | cons a p ih => simp only [spread, ev, ih]; grind

theorem mag_nn {B : Rat} (hB : 0 ≤ B) (p : P) : 0 ≤ mag B p := by
  induction p with
  | nil => simp [mag]
  | cons a p ih =>
    have := Rat.mul_nonneg hB ih
    simp only [mag]; split <;> grind

theorem abs_mul_le {x y B M : Rat} (hx : -B ≤ x) (hx' : x ≤ B) (hy : -M ≤ y) (hy' : y ≤ M) :
    -(B * M) ≤ x * y ∧ x * y ≤ B * M := by
  have h1 : 0 ≤ (B - x) * (M + y) := Rat.mul_nonneg (by grind) (by grind)
  have h2 : 0 ≤ (B + x) * (M - y) := Rat.mul_nonneg (by grind) (by grind)
  have h3 : 0 ≤ (B - x) * (M - y) := Rat.mul_nonneg (by grind) (by grind)
  have h4 : 0 ≤ (B + x) * (M + y) := Rat.mul_nonneg (by grind) (by grind)
  constructor <;> grind

theorem ev_le {B x : Rat} (h1 : -B ≤ x) (h2 : x ≤ B) (p : P) : -mag B p ≤ ev p x ∧ ev p x ≤ mag B p := by
  induction p with
  | nil => simp [mag, ev]
  | cons a p ih =>
    have h := abs_mul_le h1 h2 ih.1 ih.2
    simp only [mag, ev]
    split <;> constructor <;> grind

/-- two polynomials whose difference is small are near each other -/
theorem near {B e x : Rat} (h1 : -B ≤ x) (h2 : x ≤ B) (p q : P) (h : mag B (add p (scale (-1) q)) ≤ e) :
    ev p x - e ≤ ev q x ∧ ev q x ≤ ev p x + e := by
  have := ev_le h1 h2 (add p (scale (-1) q))
  rw [ev_add, ev_scale] at this
  constructor <;> grind

/-- a polynomial's rise is the way times a number below its slope -/
theorem rise {B x y : Rat} (h1 : -B ≤ x) (h2 : x ≤ B) (h3 : -B ≤ y) (h4 : y ≤ B) (p : P) :
    ∃ d, ev p y - ev p x = (y - x) * d ∧ -slope B p ≤ d ∧ d ≤ slope B p := by
  induction p with
  | nil => exact ⟨0, by simp only [ev]; grind, by simp [slope]⟩
  | cons a p ih =>
    obtain ⟨d, hd, l, u⟩ := ih
    refine ⟨ev p y + x * d, ?_, ?_⟩
    · simp only [ev]; grind
    · have h := ev_le h3 h4 p
      have h' := abs_mul_le h1 h2 l u
      simp only [slope]
      constructor <;> grind

/-- where the second coefficient outweighs the rest the polynomial rises -/
theorem rises {B x y a b : Rat} {p : P} (h1 : -B ≤ x) (h3 : y ≤ B) (hxy : x ≤ y)
    (hb : B * mag B p + B * slope B (b :: p) ≤ b) : ev (a :: b :: p) x ≤ ev (a :: b :: p) y := by
  obtain ⟨d, hd, l, u⟩ := rise h1 (by grind) (by grind) h3 (b :: p)
  have h := ev_le (by grind : -B ≤ y) h3 p
  have h5 := abs_mul_le (by grind : -B ≤ y) h3 h.1 h.2
  have h6 := abs_mul_le h1 (by grind : x ≤ B) l u
  have h7 : 0 ≤ (y - x) * (ev (b :: p) y + x * d) := by
    refine Rat.mul_nonneg (by grind) ?_
    simp only [ev]
    grind
  have h8 : ev (a :: b :: p) y - ev (a :: b :: p) x = (y - x) * (ev (b :: p) y + x * d) := by
    have e1 : ev (a :: b :: p) y = a + y * ev (b :: p) y := rfl
    have e2 : ev (a :: b :: p) x = a + x * ev (b :: p) x := rfl
    grind
  grind

/-- where it outweighs them the other way it falls -/
theorem falls {B x y a b : Rat} {p : P} (h1 : -B ≤ x) (h3 : y ≤ B) (hxy : x ≤ y)
    (hb : B * mag B p + B * slope B (b :: p) ≤ -b) : ev (a :: b :: p) y ≤ ev (a :: b :: p) x := by
  obtain ⟨d, hd, l, u⟩ := rise h1 (by grind) (by grind) h3 (b :: p)
  have h := ev_le (by grind : -B ≤ y) h3 p
  have h5 := abs_mul_le (by grind : -B ≤ y) h3 h.1 h.2
  have h6 := abs_mul_le h1 (by grind : x ≤ B) l u
  have h7 : 0 ≤ (y - x) * (-(ev (b :: p) y + x * d)) := by
    refine Rat.mul_nonneg (by grind) ?_
    simp only [ev]
    grind
  have h8 : ev (a :: b :: p) y - ev (a :: b :: p) x = (y - x) * (ev (b :: p) y + x * d) := by
    have e1 : ev (a :: b :: p) y = a + y * ev (b :: p) y := rfl
    have e2 : ev (a :: b :: p) x = a + x * ev (b :: p) x := rfl
    grind
  grind

def fact : Nat → Nat
  | 0 => 1
  | n + 1 => (n + 1) * fact n

/-- the coefficient of x^n in the sine (odd) or the cosine (even) -/
def co (n : Nat) : Rat := (if n % 4 < 2 then 1 else -1) * mkRat 1 (fact n)

/-- the sine over y, the cosine, as polynomials of z = y y with m terms -/
def sinZ (m : Nat) : P := (List.range m).map (fun n => co (2 * n + 1))
def cosZ (m : Nat) : P := (List.range m).map (fun n => co (2 * n))

def sinP (m : Nat) : P := 0 :: spread (sinZ m)
def cosP (m : Nat) : P := spread (cosZ m)

/-- the sine and the cosine that stand for the true ones: eighteen terms each -/
def s (y : Rat) : Rat := ev (sinP 18) y
def c (y : Rat) : Rat := ev (cosP 18) y

theorem s_eq (y : Rat) : s y = y * ev (sinZ 18) (y * y) := by
  simp only [s, sinP, ev, ev_spread]; grind

theorem c_eq (y : Rat) : c y = ev (cosZ 18) (y * y) := by
  simp only [c, cosP, ev_spread]

theorem s_neg (y : Rat) : s (-y) = -s y := by
  rw [s_eq, s_eq]
  have : -y * -y = y * y := by grind
  rw [this]; grind

theorem c_neg (y : Rat) : c (-y) = c y := by
  rw [c_eq, c_eq]
  have : -y * -y = y * y := by grind
  rw [this]

/-- twice pi, to forty places -/
def tau : Rat := mkRat 62831853071795864769252867665590057683943 (10^40)

/-- nearer than this the sums of this text are told -/
def eps : Rat := mkRat 1 (10^24)

/-- the rest's greatest: an eighth of the turn -/
def top : Rat := tau / 8

theorem top_nn : 0 ≤ top := by decide +kernel

theorem double {y : Rat} (h1 : -top ≤ y) (h2 : y ≤ top) :
    2 * (s y * c y) - eps ≤ s (2 * y) ∧ s (2 * y) ≤ 2 * (s y * c y) + eps := by
  have := near h1 h2 (scale 2 (mul (sinP 18) (cosP 18))) (shift 0 2 (sinP 18)) (e := eps) (by decide +kernel)
  rw [ev_scale, ev_mul, ev_shift] at this
  have e : (0 + 2 * y : Rat) = 2 * y := by grind
  rw [e] at this
  exact this

/-- a quarter of a turn more -/
theorem quarter {y : Rat} (h1 : -top ≤ y) (h2 : y ≤ top) :
    c y - eps ≤ s (2 * top + y) ∧ s (2 * top + y) ≤ c y + eps := by
  have := near h1 h2 (cosP 18) (shift (2 * top) 1 (sinP 18)) (e := eps) (by decide +kernel)
  rw [ev_shift] at this
  have e : (2 * top + 1 * y : Rat) = 2 * top + y := by grind
  rw [e] at this
  exact this

/-- at an eighth sine and cosine are near each other -/
theorem eighth : c top - eps ≤ s top ∧ s top ≤ c top + eps := by
  constructor <;> decide +kernel

theorem s_rises {x y : Rat} (h1 : -top ≤ x) (h2 : y ≤ top) (h : x ≤ y) : s x ≤ s y := by
  have e : sinP 18 = 0 :: 1 :: (sinP 18).drop 2 := by decide +kernel
  simp only [s]
  rw [e]
  exact rises h1 h2 h (by decide +kernel)

theorem sq_le {x y : Rat} (h0 : 0 ≤ x) (h : x ≤ y) : x * x ≤ y * y := by
  have h1 : 0 ≤ (y - x) * (y + x) := Rat.mul_nonneg (by grind) (by grind)
  grind

theorem c_falls {x y : Rat} (h1 : 0 ≤ x) (h2 : y ≤ top) (h : x ≤ y) : c y ≤ c x := by
  have e : cosZ 18 = 1 :: (-1/2) :: (cosZ 18).drop 2 := by decide +kernel
  rw [c_eq, c_eq, e]
  have hx : 0 ≤ x * x := Rat.mul_nonneg h1 h1
  have hy : y * y ≤ top * top := sq_le (by grind) h2
  have ht : 0 ≤ top * top := Rat.mul_nonneg top_nn top_nn
  exact falls (B := top * top) (by grind) hy (sq_le h1 h) (by decide +kernel)

theorem c_top {y : Rat} (h1 : -top ≤ y) (h2 : y ≤ top) : c top ≤ c y := by
  rcases Rat.le_total (a := 0) (b := y) with h | h
  · exact c_falls h (by grind) h2
  · have := c_falls (x := -y) (y := top) (by grind) (by grind) (by grind)
    rwa [c_neg] at this

theorem c_le_one {y : Rat} (h1 : -top ≤ y) (h2 : y ≤ top) : c y ≤ 1 := by
  have e : c 0 = 1 := by decide +kernel
  rcases Rat.le_total (a := 0) (b := y) with h | h
  · have := c_falls (x := 0) (by grind) h2 h
    grind
  · have := c_falls (x := 0) (y := -y) (by grind) (by grind) (by grind)
    rw [c_neg] at this
    grind

theorem c_nn {y : Rat} (h1 : -top ≤ y) (h2 : y ≤ top) : 0 ≤ c y := by
  have := c_top h1 h2
  have e : 0 ≤ c top := by decide +kernel
  grind

theorem s_le_one {y : Rat} (h1 : -top ≤ y) (h2 : y ≤ top) : -1 ≤ s y ∧ s y ≤ 1 := by
  have a := s_rises h1 (by grind) h2
  have b := s_rises (x := -top) (y := y) (by grind) h2 h1
  have e : s top ≤ 1 := by decide +kernel
  rw [s_neg] at b
  grind


/-! ### by quarters -/

/-- the sine at k quarters and the angle y (in radians) more -/
def sq (k : Int) (y : Rat) : Rat :=
  if k % 4 = 0 then s y else if k % 4 = 1 then c y else if k % 4 = 2 then -s y else -c y

theorem sq_two (k : Int) (y : Rat) : sq (k + 2) y = -sq k y := by
  unfold sq
  rcases (by omega : k % 4 = 0 ∨ k % 4 = 1 ∨ k % 4 = 2 ∨ k % 4 = 3) with h | h | h | h
  · have : (k + 2) % 4 = 2 := by omega
    simp [h, this]
  · have : (k + 2) % 4 = 3 := by omega
    simp [h, this]
  · have : (k + 2) % 4 = 0 := by omega
    simp [h, this]
  · have : (k + 2) % 4 = 1 := by omega
    simp [h, this]

theorem sq_mod {k j : Int} (h : k % 4 = j % 4) (y : Rat) : sq k y = sq j y := by
  simp only [sq, h]

/-! ### the angle's own number: x turns, the quarter k and the rest r -/

/-- k and r say x turns -/
def Says (x : Rat) (k : Int) (r : Rat) : Prop :=
  x = (k : Rat) / 4 + r ∧ -(1/8) ≤ r ∧ r ≤ 1/8

theorem top_eq : top = tau / 8 := rfl

theorem top_mul {r : Rat} (h1 : -(1/8) ≤ r) (h2 : r ≤ 1/8) : -top ≤ tau * r ∧ tau * r ≤ top := by
  have t : 0 ≤ tau := by decide +kernel
  rw [top_eq]
  generalize tau = T at *
  have a : 0 ≤ T * (r + 1/8) := Rat.mul_nonneg t (by grind)
  have b : 0 ≤ T * (1/8 - r) := Rat.mul_nonneg t (by grind)
  constructor <;> grind

theorem int_lt {a b : Int} (h : (a : Rat) < (b : Rat)) : a < b := by exact_mod_cast h
/-- the lowest place at or below 4 x -/
theorem place {x r : Rat} {k : Int} (h : Says x k r) :
    ∃ m : Int, m % 4 = 3 ∧ (m : Rat) ≤ 4 * x ∧ 4 * x < (m : Rat) + 4 := by
  obtain ⟨e, h1, h2⟩ := h
  obtain ⟨m, hm⟩ : ∃ m : Int, m = k - (k - 3) % 4 := ⟨_, rfl⟩
  have e4 : ((m - 4 : Int) : Rat) = (m : Rat) - 4 := by
    rw [Rat.intCast_sub]; have : ((4 : Int) : Rat) = 4 := by decide +kernel
    grind
  have a : (k : Rat) ≤ (m : Rat) + 3 := by
    have : ((k : Int) : Rat) ≤ ((m + 3 : Int) : Rat) := Rat.intCast_le_intCast.mpr (by omega)
    rw [Rat.intCast_add] at this
    have : ((3 : Int) : Rat) = 3 := by decide +kernel
    grind
  have b : (m : Rat) ≤ (k : Rat) := Rat.intCast_le_intCast.mpr (by omega)
  by_cases hc : (m : Rat) ≤ 4 * x
  · exact ⟨m, by omega, hc, by grind⟩
  · exact ⟨m - 4, by omega, by grind, by grind⟩

/-- the sine of twice the angle is near twice the product -/
theorem twice {x r t : Rat} {k l : Int} (hx : Says x k r) (hy : Says (2 * x) l t) :
    2 * (sq k (tau * r) * sq (k + 1) (tau * r)) - 2 * eps ≤ sq l (tau * t) ∧
    sq l (tau * t) ≤ 2 * (sq k (tau * r) * sq (k + 1) (tau * r)) + 2 * eps := by
  obtain ⟨ex, r1, r2⟩ := hx
  obtain ⟨ey, t1, t2⟩ := hy
  have b := top_mul r1 r2
  have b' := top_mul t1 t2
  have e0 : 0 ≤ eps := by decide +kernel
  have d := double b.1 b.2
  obtain ⟨j, hj⟩ : ∃ j : Int, j = l - 2 * k := ⟨_, rfl⟩
  have ej : (j : Rat) = (l : Rat) - 2 * (k : Rat) := by
    rw [hj, Rat.intCast_sub, Rat.intCast_mul]
    have : ((2 : Int) : Rat) = 2 := by decide +kernel
    grind
  have jt : (j : Rat) = 4 * (2 * r - t) := by grind
  have jl : -2 < j := by
    have e : ((-2 : Int) : Rat) = -2 := by decide +kernel
    exact int_lt (by grind)
  have ju : j < 2 := by
    have e : ((2 : Int) : Rat) = 2 := by decide +kernel
    exact int_lt (by grind)
  have ang : 2 * (tau * r) = (j : Rat) * (2 * top) + tau * t := by
    rw [jt, top_eq]
    generalize tau = T at *
    grind
  have em : ((-1 : Int) : Rat) = -1 := by decide +kernel
  have e00 : ((0 : Int) : Rat) = 0 := by decide +kernel
  have e1 : ((1 : Int) : Rat) = 1 := by decide +kernel
  -- the sine and the cosine of the rest, by the sign of the quarter
  have q := quarter b'.1 b'.2
  have q' := quarter (y := -(tau * t)) (by grind) (by grind)
  rw [c_neg] at q'
  generalize hy0 : tau * r = y at *
  generalize hy1 : tau * t = z at *
  have key : (sq j z - eps ≤ s (2 * y) ∧ s (2 * y) ≤ sq j z + eps) := by
    rcases (by omega : j = -1 ∨ j = 0 ∨ j = 1) with h | h | h
    · rw [h] at ang ⊢
      rw [em] at ang
      have : 2 * y = -(2 * top + -z) := by grind
      rw [this, s_neg]
      have : sq (-1) z = -c z := by simp [sq]
      rw [this]; grind
    · rw [h] at ang ⊢
      rw [e00] at ang
      have : 2 * y = z := by grind
      rw [this]
      have : sq 0 z = s z := by simp [sq]
      rw [this]; grind
    · rw [h] at ang ⊢
      rw [e1] at ang
      have : 2 * y = 2 * top + z := by grind
      rw [this]
      have : sq 1 z = c z := by simp [sq]
      rw [this]; grind
  clear ex ey ej jt jl ju q q' r1 r2 t1 t2 hy0 hy1 ang
  rcases (by omega : k % 4 = 0 ∨ k % 4 = 1 ∨ k % 4 = 2 ∨ k % 4 = 3) with h | h | h | h
  · have a1 : sq k y = s y := by simp [sq, h]
    have a2 : sq (k + 1) y = c y := by have : (k + 1) % 4 = 1 := by omega
                                       simp [sq, this]
    have a3 : sq l z = sq j z := sq_mod (by omega) z
    rw [a1, a2, a3]; grind
  · have a1 : sq k y = c y := by simp [sq, h]
    have a2 : sq (k + 1) y = -s y := by have : (k + 1) % 4 = 2 := by omega
                                        simp [sq, this]
    have a3 : sq l z = -sq j z := by rw [← sq_two]; exact sq_mod (by omega) z
    rw [a1, a2, a3]; grind
  · have a1 : sq k y = -s y := by simp [sq, h]
    have a2 : sq (k + 1) y = -c y := by have : (k + 1) % 4 = 3 := by omega
                                        simp [sq, this]
    have a3 : sq l z = sq j z := sq_mod (by omega) z
    rw [a1, a2, a3]; grind
  · have a1 : sq k y = -c y := by simp [sq, h]
    have a2 : sq (k + 1) y = s y := by have : (k + 1) % 4 = 0 := by omega
                                       simp [sq, this]
    have a3 : sq l z = -sq j z := by rw [← sq_two]; exact sq_mod (by omega) z
    rw [a1, a2, a3]; grind

/-! ### the series that the program sums: nine terms each -/

def sl (y : Rat) : Rat := y * ev (sinZ 9) (y * y)
def cl (y : Rat) : Rat := ev (cosZ 9) (y * y)

/-- what the spans have beyond the series' own error -/
def del : Rat := mkRat 1 (10^20)

theorem sl_near {y : Rat} (h1 : -top ≤ y) (h2 : y ≤ top) :
    s y - (mkRat 1 (2^63) - del) ≤ sl y ∧ sl y ≤ s y + (mkRat 1 (2^63) - del) := by
  have := near h1 h2 (sinP 18) (sinP 9) (e := mkRat 1 (2^63) - del) (by decide +kernel)
  have e : ev (sinP 9) y = sl y := by
    simp only [sinP, sl, ev, ev_spread]; grind
  rw [e] at this
  exact this

theorem cl_near {y : Rat} (h1 : -top ≤ y) (h2 : y ≤ top) :
    c y - (mkRat 1 (2^58) - del) ≤ cl y ∧ cl y ≤ c y + (mkRat 1 (2^58) - del) := by
  have := near h1 h2 (cosP 18) (cosP 9) (e := mkRat 1 (2^58) - del) (by decide +kernel)
  have e : ev (cosP 9) y = cl y := by
    simp only [cosP, cl, ev_spread]
  rw [e] at this
  exact this

end Ply

namespace Go.Proofs.Ytnmadknpkhaolaa
open Ieee.Own Ply

/-- Tau's word, the factors' words: a(3), a(5) .. a(17), and a(2), a(4) .. a(16) -/
def tauW : Nat := 4618760256179416344
def sinW : List Nat := [13818544856648471893, 4575957461383581969, 13774824197408792602, 4523617214285662004, 13716528800881525988, 4460272573143870729, 13648976655441704991, 4389130328383466826]
def cosW : List Nat := [13826050856027422720, 4586165620538955093, 13787419979223755799, 4537941361671905306, 13732177094651715420, 4477122120089393304, 13666517717442657437, 4407590220077447199]

/-- Horner's sum in rounded steps -/
def Hor (z : Rat) : List Rat → Rat → Prop
  | [], p => p = 0
  | [a], p => p = a
  | a :: al, p => ∃ q t, Hor z al q ∧ Rld t (z * q) ∧ Rld p (a + t)

def ab (x : Rat) : Rat := if 0 ≤ x then x else -x

theorem ab_le (x : Rat) : -ab x ≤ x ∧ x ≤ ab x := by
  unfold ab; split <;> constructor <;> grind

/-- its error and size: of sums with the coefficients as for such with bs -/
def er (ez mz : Rat) : List Rat → List Rat → Rat × Rat
  | [], _ => (0, 0)
  | [a], b :: _ => (ab (a - b), ab b)
  | a :: al, b :: bs =>
    let em := er ez mz al bs
    let e1 := mz * em.1 + em.2 * ez + ez * em.1 + (mz + ez) * (em.2 + em.1) * mkRat 1 (2^53)
    let m1 := mz * em.2
    (ab (a - b) + e1 + (ab b + ab (a - b) + m1 + e1) * mkRat 1 (2^53), ab b + m1)
  | _, [] => (0, 0)

theorem hor_ap {w z ez mz : Rat} (hz : Ap w z ez mz) : ∀ (al bs : List Rat) (p : Rat), al.length = bs.length → Hor w al p →
    Ap p (ev bs z) (er ez mz al bs).1 (er ez mz al bs).2
  | [], [], p, _, h => by
    have h : p = 0 := h
    subst h
    simp only [ev, er]
    exact ⟨by grind, by grind, by grind, by grind⟩
  | [a], [b], p, _, h => by
    have h : p = a := h
    subst h
    simp only [ev, er]
    have h1 := ab_le (p - b)
    have h2 := ab_le b
    exact ⟨by grind, by grind, by grind, by grind⟩
  | a :: a' :: al, b :: b' :: bs, p, hl, h => by
    obtain ⟨q, t, hq, ht, hp⟩ := h
    have ih := hor_ap hz (a' :: al) (b' :: bs) q (by simpa using hl) hq
    have h1 := ab_le (a - b)
    have h2 := ab_le b
    have A : Ap a b (ab (a - b)) (ab b) := ⟨by grind, by grind, by grind, by grind⟩
    have T := hz.mul ih ht
    have S := A.add T hp
    have e : ev (b :: b' :: bs) z = b + z * ev (b' :: bs) z := rfl
    rw [e]
    refine S.le ?_ ?_
    · simp only [er]; grind
    · simp only [er]; grind

/-- the rest's angle -/
theorem angle_ap {r y : Rat} (h1 : -(1/8) ≤ r) (h2 : r ≤ 1/8) (hy : Rld y (r * Q tauW)) :
    Ap y (tau * r) (mkRat 1 (2^52)) top := by
  have R : Ap r r 0 (1/8) := ⟨by grind, by grind, h1, h2⟩
  have T : Ap (Q tauW) tau (mkRat 245 (10^18)) tau :=
    ⟨by decide +kernel, by decide +kernel, by decide +kernel, by decide +kernel⟩
  have := R.mul T hy
  have e : r * tau = tau * r := Rat.mul_comm _ _
  rw [e] at this
  exact this.le (by decide +kernel) (by decide +kernel)

theorem near_sine {r y z p w v u : Rat} (h1 : -(1/8) ≤ r) (h2 : r ≤ 1/8) (hy : Rld y (r * Q tauW)) (hz : Rld z (y * y))
    (hp : Hor z (sinW.map Q) p) (hw : Rld w (z * p)) (hv : Rld v (y * w)) (hu : Rld u (y + v)) :
    Ap u (s (tau * r)) (mkRat 1 (2^51)) 1 := by
  have Y := angle_ap h1 h2 hy
  have b := top_mul h1 h2
  have Z := Y.mul Y hz
  have P := hor_ap Z (sinW.map Q) ((sinZ 9).drop 1) p (by decide +kernel) hp
  have W := Z.mul P hw
  have V := Y.mul W hv
  have U := Y.add V hu
  have e : tau * r + tau * r * (tau * r * (tau * r) * ev ((sinZ 9).drop 1) (tau * r * (tau * r))) = sl (tau * r) := by
    have : sinZ 9 = 1 :: (sinZ 9).drop 1 := by decide +kernel
    unfold sl
    rw [this]
    generalize (sinZ 9).drop 1 = L
    have e2 : (List.drop 1 (1 :: L)) = L := rfl
    rw [e2]
    simp only [ev]
    generalize tau * r = y
    grind
  rw [e] at U
  have N := sl_near b.1 b.2
  have O := s_le_one b.1 b.2
  have E := U.le (e' := mkRat 1 (2^51) - mkRat 1 (2^60)) (m' := 2) (by decide +kernel) (by decide +kernel)
  obtain ⟨l1, l2, l3, l4⟩ := E
  have d1 : mkRat 1 (2^63) - del ≤ mkRat 1 (2^60) := by decide +kernel
  generalize mkRat 1 (2^63) - del = D at *
  generalize mkRat 1 (2^60) = F at *
  generalize mkRat 1 (2^51) = G at *
  exact ⟨by grind, by grind, by grind, by grind⟩

theorem near_cosine {r y z p w u : Rat} (h1 : -(1/8) ≤ r) (h2 : r ≤ 1/8) (hy : Rld y (r * Q tauW)) (hz : Rld z (y * y))
    (hp : Hor z (cosW.map Q) p) (hw : Rld w (z * p)) (hu : Rld u (1 + w)) :
    Ap u (c (tau * r)) (mkRat 1 (2^50)) 1 := by
  have Y := angle_ap h1 h2 hy
  have b := top_mul h1 h2
  have Z := Y.mul Y hz
  have P := hor_ap Z (cosW.map Q) ((cosZ 9).drop 1) p (by decide +kernel) hp
  have W := Z.mul P hw
  have I : Ap 1 1 0 1 := ⟨by grind, by grind, by grind, by grind⟩
  have U := I.add W hu
  have e : 1 + (tau * r * (tau * r) * ev ((cosZ 9).drop 1) (tau * r * (tau * r))) = cl (tau * r) := by
    have : cosZ 9 = 1 :: (cosZ 9).drop 1 := by decide +kernel
    unfold cl
    rw [this]
    generalize (cosZ 9).drop 1 = L
    have e2 : (List.drop 1 (1 :: L)) = L := rfl
    rw [e2]
    simp only [ev]
  rw [e] at U
  have N := cl_near b.1 b.2
  have O := c_le_one b.1 b.2
  have O' := c_nn b.1 b.2
  have E := U.le (e' := mkRat 1 (2^50) - mkRat 1 (2^57)) (m' := 2) (by decide +kernel) (by decide +kernel)
  obtain ⟨l1, l2, l3, l4⟩ := E
  have d1 : mkRat 1 (2^58) - del ≤ mkRat 1 (2^57) := by decide +kernel
  generalize mkRat 1 (2^58) - del = D at *
  generalize mkRat 1 (2^57) = F at *
  generalize mkRat 1 (2^50) = G at *
  exact ⟨by grind, by grind, by grind, by grind⟩

end Go.Proofs.Ytnmadknpkhaolaa

namespace Go.Proofs.Ytnmadknpkhaolaa
open Ply

/-- a span of fractions; what lies in it -/
abbrev Sp := Rat × Rat
def In (x : Rat) (A : Sp) : Prop := A.1 ≤ x ∧ x ≤ A.2
def AddSp (A B C : Sp) : Prop := C.1 ≤ A.1 + B.1 ∧ A.2 + B.2 ≤ C.2
def MulSp (A B C : Sp) : Prop :=
  (C.1 ≤ A.1 * B.1 ∧ C.1 ≤ A.1 * B.2 ∧ C.1 ≤ A.2 * B.1 ∧ C.1 ≤ A.2 * B.2) ∧
  (A.1 * B.1 ≤ C.2 ∧ A.1 * B.2 ≤ C.2 ∧ A.2 * B.1 ≤ C.2 ∧ A.2 * B.2 ≤ C.2)
def SqSp (A C : Sp) : Prop :=
  ((A.1 ≤ 0 ∧ 0 ≤ A.2 ∧ C.1 ≤ 0) ∨ (0 ≤ A.1 ∧ C.1 ≤ A.1 * A.1) ∨ (A.2 ≤ 0 ∧ C.1 ≤ A.2 * A.2)) ∧ A.1 * A.1 ≤ C.2 ∧ A.2 * A.2 ≤ C.2

theorem In.add {x y : Rat} {A B C : Sp} (hx : In x A) (hy : In y B) (h : AddSp A B C) : In (x + y) C := by
  obtain ⟨h1, h2⟩ := hx
  obtain ⟨h3, h4⟩ := hy
  obtain ⟨h5, h6⟩ := h
  exact ⟨by grind, by grind⟩
theorem In.mul {x y : Rat} {A B C : Sp} (hx : In x A) (hy : In y B) (h : MulSp A B C) : In (x * y) C := by
  obtain ⟨h1, h2⟩ := hx
  obtain ⟨h3, h4⟩ := hy
  obtain ⟨⟨a, b, c, d⟩, e, f, g, i⟩ := h
  exact ⟨corner_lo h1 h2 h3 h4 a b c d, corner_hi h1 h2 h3 h4 e f g i⟩
theorem In.sq {x : Rat} {A C : Sp} (hx : In x A) (h : SqSp A C) : In (x * x) C := by
  obtain ⟨h1, h2⟩ := hx
  obtain ⟨h3, h4, h5⟩ := h
  constructor
  · rcases h3 with ⟨-, -, h⟩ | ⟨h0, h⟩ | ⟨h0, h⟩
    · rcases Rat.le_total (a := 0) (b := x) with q | q
      · have := Rat.mul_nonneg q q; grind
      · have := Rat.mul_nonneg (by grind : 0 ≤ -x) (by grind : 0 ≤ -x); grind
    · have := sq_le h0 h1; grind
    · have := sq_le (x := -A.2) (y := -x) (by grind) (by grind); grind
  · rcases Rat.le_total (a := 0) (b := x) with q | q
    · have := sq_le q h2; grind
    · have := sq_le (x := -x) (y := -A.1) (by grind) (by grind); grind

/-- x is in A, and all within del of it -/
def Ins (x : Rat) (A : Sp) : Prop := A.1 ≤ x - del ∧ x + del ≤ A.2
/-- the same, cut by -1 and 1 -/
def Inc (x : Rat) (A : Sp) : Prop := ∀ v, -1 ≤ v → v ≤ 1 → x - del ≤ v → v ≤ x + del → In v A

theorem Ins.neg {x : Rat} {A : Sp} (h : Ins x A) : Ins (-x) (-A.2, -A.1) := by
  obtain ⟨h1, h2⟩ := h
  exact ⟨by grind, by grind⟩
/-- cut to -1 .. 1 -/
theorem Ins.cut {x : Rat} {A B : Sp} (h : Ins x A) (h1 : B.1 = A.1 ∨ B.1 = -1) (h2 : B.2 = A.2 ∨ B.2 = 1) : Inc x B := by
  obtain ⟨a, b⟩ := h
  intro v v1 v2 v3 v4
  constructor
  · rcases h1 with h | h <;> grind
  · rcases h2 with h | h <;> grind
/-! ### the squares -/
/-! ### twice -/
/-! ### spans of angles -/
end Go.Proofs.Ytnmadknpkhaolaa

namespace Go.Proofs.Ytnmadknpkhaolaa
open Ieee.Own

/-- the nearest whole number of v / (2 H), ties to even -/
def kq (H v : Int) : Int := if H < v % (2 * H) ∨ (v % (2 * H) = H ∧ v / (2 * H) % 2 = 1) then v / (2 * H) + 1 else v / (2 * H)
def rq (H v : Int) : Int := v - 2 * H * kq H v

theorem rq_bd {H : Int} (hH : 0 < H) (v : Int) : -H ≤ rq H v ∧ rq H v ≤ H ∧ (rq H v = H ∨ rq H v = -H → kq H v % 2 = 0) := by
  have h1 := Int.mul_ediv_add_emod v (2 * H)
  have h2 := Int.emod_nonneg v (show 2 * H ≠ 0 by omega)
  have h3 := Int.emod_lt_of_pos v (show 0 < 2 * H by omega)
  unfold rq kq
  generalize v / (2 * H) = f at *
  generalize v % (2 * H) = m at *
  split
  · rename_i h
    have e : 2 * H * (f + 1) = 2 * H * f + 2 * H := by rw [Int.mul_add, Int.mul_one]
    rw [e]
    generalize 2 * H * f = T at *
    omega
  · rename_i h
    generalize 2 * H * f = T at *
    omega

theorem kq_uniq {H v k r : Int} (hH : 0 < H) (e : v = 2 * H * k + r) (h1 : -H ≤ r) (h2 : r ≤ H) (h3 : r = H ∨ r = -H → k % 2 = 0) :
    kq H v = k ∧ rq H v = r := by
  have b := rq_bd hH v
  have d : v = 2 * H * kq H v + rq H v := by unfold rq; omega
  generalize kq H v = j at *
  generalize rq H v = s at *
  obtain ⟨b1, b2, b3⟩ := b
  have q : 2 * H * (j - k) = r - s := by rw [Int.mul_sub]; omega
  have lo : -2 < j - k := by
    by_cases h : j - k ≤ -2
    · have := Int.mul_le_mul_of_nonneg_left h (show 0 ≤ 2 * H by omega); omega
    · omega
  have hi : j - k < 2 := by
    by_cases h : 2 ≤ j - k
    · have := Int.mul_le_mul_of_nonneg_left h (show 0 ≤ 2 * H by omega); omega
    · omega
  rcases (by omega : j - k = -1 ∨ j - k = 0 ∨ j - k = 1) with h | h | h
  · rw [h] at q; omega
  · rw [h] at q; omega
  · rw [h] at q; omega

theorem kq_neg {H : Int} (hH : 0 < H) (v : Int) : kq H (-v) = -kq H v ∧ rq H (-v) = -rq H v := by
  have b := rq_bd hH v
  refine kq_uniq hH ?_ (by omega) (by omega) ?_
  · unfold rq; rw [Int.mul_neg]; omega
  · intro h
    have := b.2.2 (by omega)
    omega

/-- the units of an eighth -/
def eig : Int := 2 ^ 1071
theorem eig_pos : 0 < eig := Int.pow_pos (by omega)

/-- the rest has 53 digits -/
theorem rq_rep {v : Int} (h : Rep v) : Rep (rq eig v) := by
  obtain ⟨p, hp, hb⟩ := Rep_place h
  have b := rq_bd eig_pos v
  by_cases k0 : kq eig v = 0
  · have : rq eig v = v := by unfold rq; rw [k0]; omega
    rw [this]; exact h
  · -- then v is an eighth at least
    have big : eig ≤ (v.natAbs : Int) := by
      have e : v = 2 * eig * kq eig v + rq eig v := by unfold rq; omega
      have ep := eig_pos
      generalize kq eig v = k at *
      generalize rq eig v = r at *
      generalize eig = H at *
      rcases (by omega : 1 ≤ k ∨ k ≤ -1) with q | q
      · have := Int.mul_le_mul_of_nonneg_left q (show 0 ≤ 2 * H by omega); omega
      · have := Int.mul_le_mul_of_nonneg_left q (show 0 ≤ 2 * H by omega); omega
    by_cases hp2 : p ≤ 1072
    · refine Rep_of_dvd (f := p) ?_ ?_
      · have d : (2 : Int) ^ p ∣ 2 * eig * kq eig v := by
          have : (2 : Int) * eig = 2 ^ p * 2 ^ (1072 - p) := by
            rw [← Int.pow_add, show p + (1072 - p) = 1072 by omega]; decide +kernel
          rw [this, Int.mul_assoc]; exact Int.dvd_mul_right _ _
        exact Int.dvd_sub hp d
      · omega
    · -- v is a whole number of quarters: no rest
      have d : (2 : Int) * eig ∣ v := by
        have e : (2 : Int) ^ p = 2 * eig * 2 ^ (p - 1072) := by
          have : (2 : Int) * eig = 2 ^ 1072 := by decide +kernel
          rw [this, ← Int.pow_add, show 1072 + (p - 1072) = p by omega]
        rw [e] at hp
        exact Int.dvd_trans (Int.dvd_mul_right _ _) hp
      obtain ⟨c, hc⟩ := d
      have := (kq_uniq (H := eig) (v := v) (k := c) (r := 0) eig_pos (by omega) (by have := eig_pos; omega) (by have := eig_pos; omega) (by have := eig_pos; omega)).2
      rw [this]; exact Rep_zero

end Go.Proofs.Ytnmadknpkhaolaa

namespace Go.Proofs.Ytnmadknpkhaolaa
open Ieee.Own

/-- a finite word: a whole number of 2^p units, 2^k of them at most -/
structure Wd (b p k : Nat) : Prop where
  fin : FinW b
  dvd : (2 : Int) ^ p ∣ V b
  abs : (V b).natAbs ≤ 2 ^ k

def mX (a b : Nat) : Nat := (Ieee.double.mul a b).getD 0
def aX (a b : Nat) : Nat := (Ieee.double.add a b).getD 0

theorem abs_eq {a b n : Int} {d : Nat} (h : a * b = n * 2 ^ d) : a.natAbs * b.natAbs = n.natAbs * 2 ^ d := by
  rw [← Int.natAbs_mul, h, Int.natAbs_mul, Int.natAbs_pow]; rfl
theorem two_dbl {m n : Nat} (h : m + 1 ≤ n) : 2 * 2 ^ m ≤ 2 ^ n := by
  rw [← two_succ]; exact two_le h
theorem pow_cap {n m d : Nat} (hd : d ≤ m) (h : n * 2 ^ d ≤ 2 ^ m) : n ≤ 2 ^ (m - d) := by
  obtain ⟨k, rfl⟩ := Nat.exists_eq_add_of_le hd
  rw [Nat.pow_add, Nat.mul_comm] at h
  have := Nat.le_of_mul_le_mul_left h (Nat.two_pow_pos d)
  rwa [Nat.add_sub_cancel_left]
theorem mul_cap {a b n t : Nat} (h : a ≤ t) (e : a * b = n * t) (ht : 0 < t) : n ≤ b := by
  have := Nat.mul_le_mul_right b h
  rw [e, Nat.mul_comm] at this
  exact Nat.le_of_mul_le_mul_left this ht

theorem Wd.le {b p k q l : Nat} (h : Wd b p k) (hp : q ≤ p) (hk : k ≤ l) : Wd b q l := by
  refine ⟨h.fin, Int.dvd_trans ?_ h.dvd, Nat.le_trans h.abs (two_le hk)⟩
  rw [show p = q + (p - q) by omega, Int.pow_add]
  exact Int.dvd_mul_right _ _

theorem Wd.mul {a b p k q l : Nat} (h : Wd a p k) (g : Wd b q l) (e : 1074 ≤ p + q) (u : k + l < 3100) (u2 : 1074 ≤ k + l) :
    Ieee.double.mul a b = some (mX a b) ∧ Wd (mX a b) (p + q - 1074) (k + l - 1074) ∧ Rld (Q (mX a b)) (Q a * Q b) := by
  obtain ⟨c, hc⟩ := h.dvd
  obtain ⟨d, hd⟩ := g.dvd
  have eN : V a * V b = (2 ^ (p + q - 1074) * (c * d)) * 2 ^ 1074 := by
    rw [hc, hd]
    have : (2 : Int) ^ p * 2 ^ q = 2 ^ (p + q - 1074) * 2 ^ 1074 := by
      rw [← Int.pow_add, ← Int.pow_add, show p + q - 1074 + 1074 = p + q by omega]
    calc 2 ^ p * c * (2 ^ q * d) = (2 ^ p * 2 ^ q) * (c * d) := by
          simp only [Int.mul_assoc, Int.mul_left_comm c]
      _ = 2 ^ (p + q - 1074) * 2 ^ 1074 * (c * d) := by rw [this]
      _ = 2 ^ (p + q - 1074) * (c * d) * 2 ^ 1074 := by
          simp only [Int.mul_assoc, Int.mul_comm (2 ^ 1074)]
  generalize hN : (2 : Int) ^ (p + q - 1074) * (c * d) = N at eN
  have bd : N.natAbs ≤ 2 ^ (k + l - 1074) := by
    have h1 : (V a).natAbs * (V b).natAbs ≤ 2 ^ k * 2 ^ l := Nat.mul_le_mul h.abs g.abs
    rw [abs_eq eN, ← Nat.pow_add] at h1
    exact pow_cap (by omega) h1
  obtain ⟨r, h1, h2, h3⟩ := mulW h.fin g.fin eN bd (by omega)
  have er : mX a b = r := by unfold mX; rw [h1]; rfl
  rw [er]
  refine ⟨h1, ⟨h2, ?_, ?_⟩, mul_rel eN h3⟩
  · rw [h3]; exact RN_dvd (by rw [← hN]; exact Int.dvd_mul_right _ _)
  · rw [h3]; exact RN_bound bd

theorem Wd.add {a b p k : Nat} (h : Wd a p k) (g : Wd b p k) (u : k < 2000) :
    Ieee.double.add a b = some (aX a b) ∧ Wd (aX a b) p (k + 1) ∧ Rld (Q (aX a b)) (Q a + Q b) := by
  obtain ⟨r, h1, h2, h3, h4⟩ := addW h.fin g.fin h.abs g.abs u
  have er : aX a b = r := by unfold aX; rw [h1]; rfl
  rw [er]
  exact ⟨h1, ⟨h2, by rw [h3]; exact RN_dvd (Int.dvd_add h.dvd g.dvd), h4⟩, add_rel h3⟩

/-- a word not small has no low places -/
theorem dvd_big {b m : Nat} (h : 2 ^ (m + 53) ≤ (V b).natAbs) : (2 : Int) ^ m ∣ V b := by
  obtain ⟨k, e, h1, h2⟩ := Rep_V b
  have he : m ≤ e := by
    by_cases q : m ≤ e
    · exact q
    · exfalso
      have a1 : k * 2 ^ e ≤ 2 ^ 53 * 2 ^ e := Nat.mul_le_mul_right _ h1
      rw [← Nat.pow_add] at a1
      have a2 : 2 ^ (53 + e) < 2 ^ (m + 53) := Nat.pow_lt_pow_right (by omega) (by omega)
      omega
  apply Int.natAbs_dvd_natAbs.1
  rw [Int.natAbs_pow, h2, show e = m + (e - m) by omega, Nat.pow_add, ← Nat.mul_assoc, Nat.mul_right_comm]
  exact Nat.dvd_mul_left _ _

/-- Horner's sum as words -/
def horW (z : Nat) : List Nat → Nat
  | [] => 0
  | [a] => a
  | a :: al => aX a (mX z (horW z al))

/-- the factors grow by eight at least, none is small -/
def Grow : List Nat → Prop
  | [] => True
  | [a] => FinW a ∧ 2 ^ 1020 ≤ (V a).natAbs ∧ (V a).natAbs ≤ 2 ^ 1073
  | a :: b :: al => FinW a ∧ (V a).natAbs ≤ 2 ^ 1073 ∧ 8 * (V b).natAbs ≤ (V a).natAbs ∧ Grow (b :: al)

theorem Grow.head {a : Nat} {al : List Nat} (h : Grow (a :: al)) : FinW a ∧ 2 ^ 1020 ≤ (V a).natAbs ∧ (V a).natAbs ≤ 2 ^ 1073 := by
  induction al generalizing a with
  | nil => exact h
  | cons b al ih =>
    obtain ⟨h1, h2, h3, h4⟩ := h
    have := ih h4
    exact ⟨h1, by omega, h2⟩

/-- what each step of the sum has -/
theorem hor_step {z : Nat} (hz : Wd z 470 1074) : ∀ (al : List Nat) (a : Nat), Grow (a :: al) →
    FinW (horW z (a :: al)) ∧ (V a).natAbs ≤ 2 * (V (horW z (a :: al))).natAbs ∧ (V (horW z (a :: al))).natAbs ≤ 2 * (V a).natAbs ∧ Wd (horW z (a :: al)) 960 1074 ∧
    Hor (Q z) ((a :: al).map Q) (Q (horW z (a :: al)))
  | [], a, h => by
    have hh := h.head
    refine ⟨hh.1, by show _ ≤ 2 * (V a).natAbs; omega, by show (V a).natAbs ≤ _; omega, ⟨hh.1, dvd_big (b := a) (by have := two_le (a := 960 + 53) (b := 1020) (by omega); omega), by have := two_le (a := 1073) (b := 1074) (by omega); show (V a).natAbs ≤ _; omega⟩, rfl⟩
  | b :: al, a, h => by
    obtain ⟨h1, h2, h3, h4⟩ := h
    have hh := Grow.head (a := a) (al := b :: al) ⟨h1, h2, h3, h4⟩
    obtain ⟨f, l, u, w, r⟩ := hor_step hz al b h4
    have ew : horW z (a :: b :: al) = aX a (mX z (horW z (b :: al))) := rfl
    rw [ew]
    generalize hq : horW z (b :: al) = q at *
    obtain ⟨-, M, RM⟩ := hz.mul w (by omega) (by omega) (by omega)
    have A : Wd a 960 1074 := ⟨h1, dvd_big (by have := two_le (a := 960 + 53) (b := 1020) (by omega); omega), by have := two_le (a := 1073) (b := 1074) (by omega); omega⟩
    have M' := M.le (q := 356) (l := 1074) (by omega) (by omega)
    -- the product's size
    have MB : 4 * (V (mX z q)).natAbs ≤ 5 * (V q).natAbs := by
      obtain ⟨c, hc⟩ := hz.dvd
      obtain ⟨d, hd⟩ := w.dvd
      have eN : V z * V q = (2 ^ 356 * (c * d)) * 2 ^ 1074 := by
        rw [hc, hd]
        have : (2 : Int) ^ 470 * 2 ^ 960 = 2 ^ 356 * 2 ^ 1074 := by rw [← Int.pow_add, ← Int.pow_add]
        calc 2 ^ 470 * c * (2 ^ 960 * d) = (2 ^ 470 * 2 ^ 960) * (c * d) := by
              simp only [Int.mul_assoc, Int.mul_left_comm c]
          _ = 2 ^ 356 * 2 ^ 1074 * (c * d) := by rw [this]
          _ = 2 ^ 356 * (c * d) * 2 ^ 1074 := by
              simp only [Int.mul_assoc, Int.mul_comm (2 ^ 1074)]
      generalize (2 : Int) ^ 356 * (c * d) = N at eN
      have nb : N.natAbs ≤ (V q).natAbs := by
        have h1 := abs_eq eN
        have h0 := hz.abs
        have h2 := Nat.two_pow_pos 1074
        revert h1 h0 h2
        generalize (2 : Nat) ^ 1074 = T
        intro h1 h0 h2
        exact mul_cap h0 h1 h2
      have bd : N.natAbs ≤ 2 ^ 1074 := Nat.le_trans nb w.abs
      obtain ⟨r, h1, h2, h3⟩ := mulW hz.fin w.fin eN bd (by omega)
      have er : mX z q = r := by unfold mX; rw [h1]; rfl
      rw [er, h3]
      have := RN_rel N
      omega
    obtain ⟨-, S, RS⟩ := (A.le (q := 356) (l := 1074) (by omega) (by omega)).add M' (by omega)
    obtain ⟨r', h1', h2', h3', -⟩ := addW A.fin M'.fin A.abs M'.abs (by omega)
    have er : aX a (mX z q) = r' := by unfold aX; rw [h1']; rfl
    have sz := RN_rel (V a + V (mX z q))
    have e3 : V (aX a (mX z q)) = RN (V a + V (mX z q)) := by rw [er]; exact h3'
    rw [← e3] at sz
    have lo : (V a).natAbs ≤ 2 * (V (aX a (mX z q))).natAbs := by omega
    have hi : (V (aX a (mX z q))).natAbs ≤ 2 * (V a).natAbs := by omega
    refine ⟨S.fin, lo, hi, ⟨S.fin, dvd_big ?_, ?_⟩, ?_⟩
    · have e1 := two_dbl (m := 960 + 53) (n := 1020) (by omega)
      omega
    · have e1 := two_dbl (m := 1073) (n := 1074) (by omega)
      omega
    · exact ⟨Q q, Q (mX z q), r, RM, RS⟩

end Go.Proofs.Ytnmadknpkhaolaa

namespace Go.Proofs.Ytnmadknpkhaolaa
open Ieee.Own

theorem hor_some {z a b : Nat} {al : List Nat} (hz : Wd z 470 1074) (h : Grow (a :: b :: al)) :
    Ieee.double.mul z (horW z (b :: al)) = some (mX z (horW z (b :: al))) ∧
    Ieee.double.add a (mX z (horW z (b :: al))) = some (horW z (a :: b :: al)) := by
  obtain ⟨h1, h2, h3, h4⟩ := h
  have hh := Grow.head (a := a) (al := b :: al) ⟨h1, h2, h3, h4⟩
  obtain ⟨f, l, u, w, r⟩ := hor_step hz al b h4
  obtain ⟨e1, M, -⟩ := hz.mul w (by omega) (by omega) (by omega)
  have A : Wd a 356 1074 := (⟨h1, dvd_big (m := 960) (by have := two_le (a := 960 + 53) (b := 1020) (by omega); omega), by have := two_le (a := 1073) (b := 1074) (by omega); omega⟩ : Wd a 960 1074).le (by omega) (by omega)
  obtain ⟨e2, -, -⟩ := A.add (M.le (q := 356) (l := 1074) (by omega) (by omega)) (by omega)
  exact ⟨e1, e2⟩

theorem grow_sin : Grow sinW := by
  unfold sinW
  simp only [Grow]
  unfold FinW
  decide +kernel
theorem grow_cos : Grow cosW := by
  unfold cosW
  simp only [Grow]
  unfold FinW
  decide +kernel

theorem tau_wd : Wd tauW 1024 1077 := by
  refine ⟨by unfold FinW tauW; decide +kernel, ?_, by decide +kernel⟩
  exact ⟨V tauW / 2 ^ 1024, by decide +kernel⟩
def oneW : Nat := 4607182418800017408
theorem one_wd : Wd oneW 1024 1074 := by
  refine ⟨by unfold FinW oneW; decide +kernel, ?_, by decide +kernel⟩
  exact ⟨2 ^ 50, by decide +kernel⟩
theorem one_Q : Q oneW = 1 := by decide +kernel

def yW (r : Nat) : Nat := mX r tauW
def zW (r : Nat) : Nat := mX (yW r) (yW r)
def pW (r : Nat) : Nat := horW (zW r) sinW
def qW (r : Nat) : Nat := horW (zW r) cosW
/-- the near sine, the near cosine -/
def sinX (r : Nat) : Nat := aX (yW r) (mX (yW r) (mX (zW r) (pW r)))
def cosX (r : Nat) : Nat := aX oneW (mX (zW r) (qW r))

/-- the rest as a word -/
structure Rest (r : Nat) : Prop where
  fin : FinW r
  dvd : (2 : Int) ^ 822 ∣ V r
  abs : (V r).natAbs ≤ 2 ^ 1071

theorem pw_cast {x : Int} {n : Nat} (h : x.natAbs ≤ 2 ^ n) : -(2 ^ n) ≤ x ∧ x ≤ 2 ^ n := by
  have e : ((2 : Int) ^ n).natAbs = 2 ^ n := Int.natAbs_pow 2 n
  have p : (0 : Int) ≤ 2 ^ n := Int.pow_nonneg (by omega)
  omega
theorem Rest.Q_bd {r : Nat} (h : Rest r) : -(1/8) ≤ Q r ∧ Q r ≤ 1/8 := by
  have a := pw_cast h.abs
  have l : -eig ≤ V r := a.1
  have u : V r ≤ eig := a.2
  have l' := div_le (Rat.intCast_le_intCast.2 l)
  have u' := div_le (Rat.intCast_le_intCast.2 u)
  rw [Rat.intCast_neg] at l'
  have z1 : -(eig : Rat) / unit = -(1/8) := by decide +kernel
  have z2 : (eig : Rat) / unit = 1/8 := by decide +kernel
  rw [z1] at l'
  rw [z2] at u'
  exact ⟨l', u'⟩

structure Near (r : Nat) : Prop where
  y : Ieee.double.mul r tauW = some (yW r)
  z : Ieee.double.mul (yW r) (yW r) = some (zW r)
  zw : Wd (zW r) 470 1074
  zp : Ieee.double.mul (zW r) (pW r) = some (mX (zW r) (pW r))
  yzp : Ieee.double.mul (yW r) (mX (zW r) (pW r)) = some (mX (yW r) (mX (zW r) (pW r)))
  s : Ieee.double.add (yW r) (mX (yW r) (mX (zW r) (pW r))) = some (sinX r)
  zq : Ieee.double.mul (zW r) (qW r) = some (mX (zW r) (qW r))
  c : Ieee.double.add oneW (mX (zW r) (qW r)) = some (cosX r)
  sw : Wd (sinX r) 54 1075
  cw : Wd (cosX r) 356 1075
  pb : -(1/2) ≤ Q (pW r) ∧ Q (pW r) ≤ 1/2
  zb : -1 ≤ Q (zW r) ∧ Q (zW r) ≤ 1
  ry : Rld (Q (yW r)) (Q r * Q tauW)
  rzp : Rld (Q (mX (zW r) (pW r))) (Q (zW r) * Q (pW r))
  ryzp : Rld (Q (mX (yW r) (mX (zW r) (pW r)))) (Q (yW r) * Q (mX (zW r) (pW r)))
  rs : Rld (Q (sinX r)) (Q (yW r) + Q (mX (yW r) (mX (zW r) (pW r))))
  sn : Ap (Q (sinX r)) (Ply.s (Ply.tau * Q r)) (mkRat 1 (2^51)) 1
  cn : Ap (Q (cosX r)) (Ply.c (Ply.tau * Q r)) (mkRat 1 (2^50)) 1
  yw : Wd (yW r) 54 1074
  bw : Wd (mX (yW r) (mX (zW r) (pW r))) 54 1074

theorem Rest.near {r : Nat} (h : Rest r) : Near r := by
  have R : Wd r 822 1071 := ⟨h.fin, h.dvd, h.abs⟩
  obtain ⟨y1, Y, y3⟩ := R.mul tau_wd (by omega) (by omega) (by omega)
  have hy : mX r tauW = yW r := rfl
  rw [hy] at y1 Y y3
  replace Y := Y.le (q := 772) (l := 1074) (by omega) (by omega)
  obtain ⟨z1, Z, z3⟩ := Y.mul Y (by omega) (by omega) (by omega)
  have hz : mX (yW r) (yW r) = zW r := rfl
  rw [hz] at z1 Z z3
  replace Z := Z.le (q := 470) (l := 1074) (by omega) (by omega)
  obtain ⟨-, -, pu, P, hp⟩ := hor_step Z _ _ grow_sin
  obtain ⟨-, -, -, C, hc⟩ := hor_step Z _ _ grow_cos
  have ep : horW (zW r) sinW = pW r := rfl
  have eq : horW (zW r) cosW = qW r := rfl
  change Wd (horW (zW r) sinW) 960 1074 at P
  change (V (horW (zW r) sinW)).natAbs ≤ _ at pu
  change Wd (horW (zW r) cosW) 960 1074 at C
  change Hor (Q (zW r)) (sinW.map Q) (Q (horW (zW r) sinW)) at hp
  change Hor (Q (zW r)) (cosW.map Q) (Q (horW (zW r) cosW)) at hc
  rw [ep] at P hp pu
  rw [eq] at C hc
  obtain ⟨a1, A, a3⟩ := Z.mul P (by omega) (by omega) (by omega)
  replace A := A.le (q := 356) (l := 1074) (by omega) (by omega)
  obtain ⟨b1, B, b3⟩ := Y.mul A (by omega) (by omega) (by omega)
  replace B := B.le (q := 54) (l := 1074) (by omega) (by omega)
  obtain ⟨s1, S, s3⟩ := (Y.le (q := 54) (l := 1074) (by omega) (by omega)).add B (by omega)
  obtain ⟨d1, D, d3⟩ := Z.mul C (by omega) (by omega) (by omega)
  replace D := D.le (q := 356) (l := 1074) (by omega) (by omega)
  obtain ⟨c1, CC, c3⟩ := (one_wd.le (q := 356) (l := 1074) (by omega) (by omega)).add D (by omega)
  rw [one_Q] at c3
  have b := h.Q_bd
  have pb : -(1/2) ≤ Q (pW r) ∧ Q (pW r) ≤ 1/2 := by
    have e1 : (V (pW r)).natAbs ≤ 2 ^ 1073 := Nat.le_trans pu (by decide +kernel)
    have a := pw_cast e1
    have l' := div_le (Rat.intCast_le_intCast.2 a.1)
    have u' := div_le (Rat.intCast_le_intCast.2 a.2)
    have z1 : (((-(2 ^ 1073) : Int) : Int) : Rat) / unit = -(1/2) := by decide +kernel
    have z2 : (((2 ^ 1073 : Int) : Int) : Rat) / unit = 1/2 := by decide +kernel
    rw [z1] at l'
    rw [z2] at u'
    exact ⟨l', u'⟩
  have zb : -1 ≤ Q (zW r) ∧ Q (zW r) ≤ 1 := by
    have a := pw_cast Z.abs
    have l' := div_le (Rat.intCast_le_intCast.2 a.1)
    have u' := div_le (Rat.intCast_le_intCast.2 a.2)
    have z1 : (((-(2 ^ 1074) : Int) : Int) : Rat) / unit = -1 := by decide +kernel
    have z2 : (((2 ^ 1074 : Int) : Int) : Rat) / unit = 1 := by decide +kernel
    rw [z1] at l'
    rw [z2] at u'
    exact ⟨l', u'⟩
  exact ⟨y1, z1, Z, a1, b1, s1, d1, c1, S, CC, pb, zb, y3, a3, b3, s3, near_sine b.1 b.2 y3 z3 hp a3 b3 s3, near_cosine b.1 b.2 y3 z3 hc d3 c3, Y.le (by omega) (by omega), B⟩

end Go.Proofs.Ytnmadknpkhaolaa

namespace Go.Proofs.Ytnmadknpkhaolaa
open Ieee.Own

def fourW : Nat := 4616189618054758400
theorem four_wd : Wd fourW 1076 1076 := by
  refine ⟨by unfold FinW fourW; decide +kernel, ⟨1, by decide +kernel⟩, by decide +kernel⟩
theorem four_V : V fourW = 2 ^ 1076 := by decide +kernel
theorem norm_big {b : Nat} (h : FinW b) (hb : 2 ^ 52 ≤ (V b).natAbs) : 4503599627370496 ≤ b % 9223372036854775808 := by
  rw [V_abs' b h] at hb
  by_cases q : b % 9223372036854775808 < 2 ^ 52
  · unfold val mg ex at hb
    rw [if_pos q, if_pos q] at hb
    omega
  · omega

theorem pw_abs (n : Nat) : ((2 : Int) ^ n).natAbs = 2 ^ n := Int.natAbs_pow 2 n
theorem mul_pow {a k : Nat} (h : a ≤ 2 ^ k) (n : Nat) : a * 2 ^ n ≤ 2 ^ (k + n) := by
  rw [Nat.pow_add]; exact Nat.mul_le_mul_right _ h
theorem absk {v k : Int} {n : Nat} (h : v = k * 2 ^ n) : v.natAbs = k.natAbs * 2 ^ n := by
  rw [h, Int.natAbs_mul, Int.natAbs_pow]; rfl
theorem four_up (k : Int) {a b : Nat} (h : b = a + 2) : k * 2 ^ a * 4 = k * 2 ^ b := by
  subst h; rw [Int.pow_add, Int.mul_assoc]; rfl

/-- a whole number by 4 -/
theorem quarter_div {b : Nat} {K : Int} (h : FinW b) (hv : V b = K * 2 ^ 1074) (hK : K.natAbs ≤ 2 ^ 43) :
    ∃ q, Ieee.double.div b fourW = some q ∧ FinW q ∧ V q = K * 2 ^ 1072 := by
  by_cases h0 : K = 0
  · subst h0
    obtain ⟨r, h1, h2, h3⟩ := div_zero (b := fourW) h (by rw [hv]; omega) four_wd.fin (by rw [four_V]; exact Int.ne_of_gt (Int.pow_pos (by omega)))
    exact ⟨r, h1, h2, by rw [h3]; omega⟩
  · have va := absk hv
    have big : 2 ^ 1074 ≤ (V b).natAbs := by
      rw [va]; exact Nat.le_mul_of_pos_left _ (by omega)
    have N := norm_of h (norm_big h (by have := two_le (a := 52) (b := 1074) (by omega); omega))
    have F : Norm fourW false (2 ^ 52) 1024 := norm_of four_wd.fin (by unfold fourW; omega)
    generalize decide (9223372036854775808 ≤ b) = s at N
    generalize 4503599627370496 + b % 4503599627370496 = m at N
    generalize b % 9223372036854775808 / 4503599627370496 - 1 = p at N
    have hp : 1022 ≤ p := by
      by_cases q : 1022 ≤ p
      · exact q
      · exfalso
        rw [N.val, sv_abs] at big
        have a1 : m * 2 ^ p < 2 ^ 53 * 2 ^ p := Nat.mul_lt_mul_of_pos_right N.hi (Nat.two_pow_pos p)
        rw [← Nat.pow_add] at a1
        have := two_le (a := 53 + p) (b := 1074) (by omega)
        omega
    have hp2 : p ≤ 2024 := by
      by_cases q : p ≤ 2024
      · exact q
      · exfalso
        have a1 : 2 ^ 52 * 2 ^ p ≤ m * 2 ^ p := Nat.mul_le_mul_right _ N.lo
        have a2 := mul_pow hK 1074
        have a3 := va
        rw [N.val, sv_abs] at a3
        rw [← Nat.pow_add] at a1
        have := two_dbl (m := 43 + 1074) (n := 52 + p) (by omega)
        have := Nat.two_pow_pos (43 + 1074)
        omega
    obtain ⟨r, Q, u, h1, h2, h3, u1, u2, q1, q2, q3, q4⟩ := div_spec N F (by omega) (by omega)
    refine ⟨r, h1, h2, ?_⟩
    have m0 := N.lo
    have m1 := N.hi
    have sx : (s ^^ false) = s := by cases s <;> rfl
    rw [sx] at h3
    -- the quotient is the number itself, two places down
    have key : sv s Q (1074 + p - 1024 - u) * 4 = V b := by
      rw [N.val]
      obtain ⟨t, ht⟩ : ∃ t, p = t + 2 := ⟨p - 2, by omega⟩
      have hq : Q * 2 ^ (1074 + p - 1024 - u) = m * 2 ^ t := by
        rcases (by omega : u = 52 ∨ u = 53) with e | e
        · subst e
          have : Q = m := by omega
          rw [this, show 1074 + p - 1024 - 52 = t by omega]
        · subst e
          have : Q = 2 * m := by omega
          rw [this, show 1074 + p - 1024 - 53 = t - 1 by omega]
          obtain ⟨t', rfl⟩ : ∃ t', t = t' + 1 := ⟨t - 1, by omega⟩
          rw [Nat.add_sub_cancel, two_succ, Nat.mul_comm 2 m, Nat.mul_assoc]
      have e4 : m * 2 ^ p = m * 2 ^ t * 4 := by rw [ht, Nat.pow_add, Nat.mul_assoc]
      unfold sv
      have hq' : (Q : Int) * 2 ^ (1074 + p - 1024 - u) = (m : Int) * 2 ^ t := by exact_mod_cast hq
      have e4' : (m : Int) * 2 ^ p = (m : Int) * 2 ^ t * 4 := by exact_mod_cast e4
      cases s
      · simp only [Bool.false_eq_true, if_false]
        first
          | rw [hq', e4']
          | (have := hq'; have := e4'; omega)
      · simp only [if_true]
        first
          | (have := hq'; have := e4'; simp only [Int.neg_mul] at *; omega)
          | omega
    have e := four_up K (a := 1072) (b := 1074) rfl
    rw [h3]
    omega

/-- what Both, Point ask of a number: fit, at most 2^40 -/
structure Ang (x : Nat) : Prop where
  fin : FinW x
  dvd : (2 : Int) ^ 822 ∣ V x
  abs : (V x).natAbs ≤ 2 ^ 1114

theorem Ang.wd {x : Nat} (h : Ang x) : Wd x 822 1114 := ⟨h.fin, h.dvd, h.abs⟩

theorem four_x {x : Nat} (h : Ang x) : Ieee.double.mul fourW x = some (mX fourW x) ∧ FinW (mX fourW x) ∧ V (mX fourW x) = 4 * V x := by
  obtain ⟨h1, W, -⟩ := four_wd.mul h.wd (by omega) (by omega) (by omega)
  have eN : V fourW * V x = (4 * V x) * 2 ^ 1074 := by
    rw [four_V, Int.mul_comm, ← four_up 1 (a := 1074) (b := 1076) rfl |>.trans (Int.one_mul _)]
    generalize (2 : Int) ^ 1074 = T
    rw [Int.one_mul, Int.mul_comm T 4, ← Int.mul_assoc, Int.mul_comm (V x) 4]
  have bd : (4 * V x).natAbs ≤ 2 ^ 1116 := by
    have a := h.abs
    have b := two_dbl (m := 1114) (n := 1115) (by omega)
    have c := two_dbl (m := 1115) (n := 1116) (by omega)
    omega
  obtain ⟨r, h1, h2, h3⟩ := mulW four_wd.fin h.fin eN bd (by omega)
  have er : mX fourW x = r := by unfold mX; rw [h1]; rfl
  rw [er]
  refine ⟨h1, h2, ?_⟩
  rw [h3]
  have := Rep_mul _ 2 (Rep_V x)
  have e : V x * 2 ^ 2 = 4 * V x := by omega
  rw [e] at this
  exact RN_exact this

/-- the whole number below 4 x -/
def fl (x : Nat) : Int := V x / (2 * eig)

theorem eig2 : 2 * eig = 2 ^ 1072 := by decide +kernel

theorem kq_bd {x : Nat} (h : Ang x) : (kq eig (V x)).natAbs ≤ 2 ^ 43 := by
  have a := pw_cast h.abs
  have b := rq_bd eig_pos (V x)
  have e : V x = 2 * eig * kq eig (V x) + rq eig (V x) := by unfold rq; omega
  have e1 : (2 : Int) ^ 1114 = 2 * eig * 2 ^ 42 := by decide +kernel
  have ep := eig_pos
  rw [e1] at a
  generalize kq eig (V x) = k at *
  generalize rq eig (V x) = r at *
  generalize eig = H at *
  by_cases q : k ≤ 2 ^ 42 + 1
  · by_cases q' : -(2 ^ 42 + 1) ≤ k
    · omega
    · have := Int.mul_le_mul_of_nonneg_left (show k ≤ -(2 ^ 42 + 2) by omega) (show 0 ≤ 2 * H by omega); omega
  · have := Int.mul_le_mul_of_nonneg_left (show 2 ^ 42 + 2 ≤ k by omega) (show 0 ≤ 2 * H by omega); omega

/-- the rest, exactly -/
theorem rest_words {x q : Nat} (h : Ang x) (hq : FinW q) (vq : V q = kq eig (V x) * 2 ^ 1072) :
    ∃ r, Ieee.double.sub x q = some r ∧ FinW r ∧ V r = rq eig (V x) := by
  have e : V x - V q = rq eig (V x) := by
    rw [vq, ← eig2]; unfold rq; rw [Int.mul_comm (kq eig (V x))]
  have R := RN_exact (rq_rep (Rep_V x))
  have b := rq_bd eig_pos (V x)
  obtain ⟨r, g1, g2, g3⟩ := sub_spec h.fin hq (by
    rw [e]
    refine lt_top (k := 1071) ?_ (by omega)
    have p := pw_abs 1071
    have : eig = 2 ^ 1071 := rfl
    omega)
  exact ⟨r, g1, g2, by rw [g3, e, R]⟩

theorem rest_of {x r : Nat} (h : Ang x) (hr : FinW r) (vr : V r = rq eig (V x)) : Rest r := by
  have b := rq_bd eig_pos (V x)
  refine ⟨hr, ?_, ?_⟩
  · rw [vr]; unfold rq
    refine Int.dvd_sub h.dvd (Int.dvd_trans ?_ (Int.dvd_mul_right _ _))
    rw [eig2]
    exact ⟨2 ^ 250, by decide +kernel⟩
  · have p := pw_abs 1071
    have : eig = 2 ^ 1071 := rfl
    omega

end Go.Proofs.Ytnmadknpkhaolaa
