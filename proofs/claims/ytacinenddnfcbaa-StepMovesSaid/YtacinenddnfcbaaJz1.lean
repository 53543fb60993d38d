/- Proved here: what the texts Rat, Mgn, Ply, Nsin, Hold, Qtr, Nwd, Nea, Qwd prove, one behind the other. -/
import Derived.Test.YtacinenddnfcbaaJz0
import Ieee.Arith

namespace Go.Proofs.Ytacinenddnfcbaa
open Ieee.Own

/-- the number of units in 1 -/
def unit : Rat := (((2 ^ 1074 : Nat) : Int) : Rat)
theorem unit_pos : 0 < unit := by decide +kernel

/-- the value of a finite word -/
def Q (b : Nat) : Rat := (V b : Rat) / unit

theorem div_le {x y : Rat} (h : x ≤ y) : x / unit ≤ y / unit := by
  have hu := unit_pos
  rw [Rat.div_def, Rat.div_def]
  exact Rat.mul_le_mul_of_nonneg_right h (Rat.le_of_lt (Rat.inv_pos.2 hu))
theorem mul_unit (x : Rat) : x / unit * unit = x := by
  have := unit_pos
  rw [Rat.div_mul_cancel]
  grind
theorem unit_div {x : Rat} : x * unit / unit = x := by
  have := unit_pos
  rw [Rat.mul_div_cancel]
  grind

theorem Q_unit (b : Nat) : Q b * unit = (V b : Rat) := mul_unit _
/-- near, but for a part of 2^53 -/
def Rld (w u : Rat) : Prop := ∀ M, -M ≤ u → u ≤ M → -(M * mkRat 1 (2^53)) ≤ w - u ∧ w - u ≤ M * mkRat 1 (2^53)

theorem RN_rel (z : Int) : 2 ^ 53 * (RN z - z).natAbs ≤ z.natAbs := by
  have h1 := RN_err (z := z) (d := dr z.natAbs) (dr_lt _)
  by_cases h : 0 < dr z.natAbs
  · have h2 := dr_le _ h
    rw [Nat.pow_add] at h2
    have : 2 ^ 53 * (RN z - z).natAbs ≤ 2 ^ 52 * 2 ^ dr z.natAbs := by
      have : (2 : Nat) ^ 53 = 2 ^ 52 * 2 := by omega
      rw [this, Nat.mul_assoc]
      exact Nat.mul_le_mul_left _ h1
    omega
  · have h0 : dr z.natAbs = 0 := by omega
    rw [h0] at h1
    have : (RN z - z).natAbs = 0 := by omega
    omega

theorem rel_of {w z : Int} (h : 2 ^ 53 * (w - z).natAbs ≤ z.natAbs) : Rld ((w : Rat) / unit) ((z : Rat) / unit) := by
  intro M h1 h2
  have hu := unit_pos
  have a1 : (2 ^ 53 : Int) * (w - z) ≤ (z.natAbs : Int) := by omega
  have a2 : (2 ^ 53 : Int) * (z - w) ≤ (z.natAbs : Int) := by omega
  have b1 := Rat.intCast_le_intCast.2 a1
  have b2 := Rat.intCast_le_intCast.2 a2
  rw [Rat.intCast_mul, Rat.intCast_sub] at b1 b2
  have e53 : ((2 ^ 53 : Int) : Rat) = 9007199254740992 := by decide +kernel
  have m53 : mkRat 1 (2 ^ 53) = 1 / 9007199254740992 := by decide +kernel
  rw [e53] at b1 b2
  rw [m53]
  have c1 : -(M * unit) ≤ (z : Rat) := by
    have := Rat.mul_le_mul_of_nonneg_right h1 (Rat.le_of_lt hu)
    rw [mul_unit] at this; grind
  have c2 : (z : Rat) ≤ M * unit := by
    have := Rat.mul_le_mul_of_nonneg_right h2 (Rat.le_of_lt hu)
    rw [mul_unit] at this; grind
  have c3 : ((z.natAbs : Int) : Rat) ≤ M * unit := by
    rcases (by omega : (z.natAbs : Int) = z ∨ (z.natAbs : Int) = -z) with h | h
    · rw [h]; exact c2
    · rw [h, Rat.intCast_neg]; grind
  have d1 : 9007199254740992 * ((w : Rat) - z) ≤ M * unit := by grind
  have d2 : 9007199254740992 * ((z : Rat) - w) ≤ M * unit := by grind
  have f1 := div_le d1
  have f2 := div_le d2
  rw [unit_div] at f1 f2
  have g1 : 9007199254740992 * ((w : Rat) - z) / unit = 9007199254740992 * ((w : Rat) / unit - (z : Rat) / unit) := by
    simp only [Rat.div_def]; grind
  have g2 : 9007199254740992 * ((z : Rat) - w) / unit = 9007199254740992 * ((z : Rat) / unit - (w : Rat) / unit) := by
    simp only [Rat.div_def]; grind
  rw [g1] at f1
  rw [g2] at f2
  generalize (w : Rat) / unit = W at *
  generalize (z : Rat) / unit = Z at *
  constructor <;> grind

/-- a sum -/
theorem add_rel {a b r : Nat} (h : V r = RN (V a + V b)) : Rld (Q r) (Q a + Q b) := by
  have e : Q a + Q b = ((V a + V b : Int) : Rat) / unit := by
    unfold Q; rw [Rat.intCast_add]; simp only [Rat.div_def]; grind
  rw [e]; unfold Q; rw [h]
  exact rel_of (RN_rel _)
theorem Q_mul {a b : Nat} {N : Int} (h : V a * V b = N * 2 ^ 1074) : Q a * Q b = (N : Rat) / unit := by
  have hu := unit_pos
  have e : (V a : Rat) * (V b : Rat) = (N : Rat) * unit := by
    rw [← Rat.intCast_mul, h, Rat.intCast_mul]
    have : ((2 ^ 1074 : Int) : Rat) = unit := by decide +kernel
    rw [this]
  have : Q a * Q b * unit = (N : Rat) := by
    have h1 : Q a * Q b * unit * unit = (N : Rat) * unit := by
      rw [← e, ← Q_unit a, ← Q_unit b]; grind
    have h2 := congrArg (· / unit) h1
    simp only [unit_div] at h2
    exact h2
  rw [← this, unit_div]
/-- a product -/
theorem mul_rel {a b r : Nat} {N : Int} (hN : V a * V b = N * 2 ^ 1074) (h : V r = RN N) : Rld (Q r) (Q a * Q b) := by
  rw [Q_mul hN]; unfold Q; rw [h]
  exact rel_of (RN_rel _)

/-! ### near things -/
/-- w is within e of x, and x within m of 0 -/
structure Ap (w x e m : Rat) : Prop where
  lo : -e ≤ w - x
  hi : w - x ≤ e
  mlo : -m ≤ x
  mhi : x ≤ m

theorem abs_mul {x y B M : Rat} (hx : -B ≤ x) (hx' : x ≤ B) (hy : -M ≤ y) (hy' : y ≤ M) :
    -(B * M) ≤ x * y ∧ x * y ≤ B * M := by
  have h1 : 0 ≤ (B - x) * (M + y) := Rat.mul_nonneg (by grind) (by grind)
  have h2 : 0 ≤ (B + x) * (M - y) := Rat.mul_nonneg (by grind) (by grind)
  have h3 : 0 ≤ (B - x) * (M - y) := Rat.mul_nonneg (by grind) (by grind)
  have h4 : 0 ≤ (B + x) * (M + y) := Rat.mul_nonneg (by grind) (by grind)
  constructor <;> grind

theorem Ap.mul {w v u x y e d m n : Rat} (h : Ap w x e m) (k : Ap v y d n) (r : Rld u (w * v)) :
    Ap u (x * y) (m * d + n * e + e * d + (m + e) * (n + d) * mkRat 1 (2^53)) (m * n) := by
  obtain ⟨h1, h2, h3, h4⟩ := h
  obtain ⟨k1, k2, k3, k4⟩ := k
  have a := abs_mul h3 h4 k1 k2
  have b := abs_mul k3 k4 h1 h2
  have c := abs_mul h1 h2 k1 k2
  have p := abs_mul (x := w) (y := v) (B := m + e) (M := n + d) (by grind) (by grind) (by grind) (by grind)
  have q := r _ p.1 p.2
  have g := abs_mul h3 h4 k3 k4
  generalize (m + e) * (n + d) * mkRat 1 (2^53) = E at *
  have i : u - x * y = (u - w * v) + x * (v - y) + y * (w - x) + (w - x) * (v - y) := by grind
  exact ⟨by rw [i]; grind, by rw [i]; grind, g.1, g.2⟩

theorem Ap.add {w v u x y e d m n : Rat} (h : Ap w x e m) (k : Ap v y d n) (r : Rld u (w + v)) :
    Ap u (x + y) (e + d + (m + e + n + d) * mkRat 1 (2^53)) (m + n) := by
  obtain ⟨h1, h2, h3, h4⟩ := h
  obtain ⟨k1, k2, k3, k4⟩ := k
  have q := r (m + e + n + d) (by grind) (by grind)
  generalize (m + e + n + d) * mkRat 1 (2^53) = E at *
  exact ⟨by grind, by grind, by grind, by grind⟩

theorem Ap.le {w x e m e' m' : Rat} (h : Ap w x e m) (h1 : e ≤ e') (h2 : m ≤ m') : Ap w x e' m' := by
  obtain ⟨a, b, c, d⟩ := h
  exact ⟨by grind, by grind, by grind, by grind⟩

/-! ### things in spans -/
theorem corner_lo {x y a b c d l : Rat} (x1 : a ≤ x) (x2 : x ≤ b) (y1 : c ≤ y) (y2 : y ≤ d)
    (h1 : l ≤ a * c) (h2 : l ≤ a * d) (h3 : l ≤ b * c) (h4 : l ≤ b * d) : l ≤ x * y := by
  -- first along y at both ends, then along x
  have s1 : l ≤ a * y := by
    rcases Rat.le_total (a := 0) (b := a) with h | h
    · have := Rat.mul_nonneg h (by grind : 0 ≤ y - c); grind
    · have := Rat.mul_nonneg (by grind : 0 ≤ -a) (by grind : 0 ≤ d - y); grind
  have s2 : l ≤ b * y := by
    rcases Rat.le_total (a := 0) (b := b) with h | h
    · have := Rat.mul_nonneg h (by grind : 0 ≤ y - c); grind
    · have := Rat.mul_nonneg (by grind : 0 ≤ -b) (by grind : 0 ≤ d - y); grind
  rcases Rat.le_total (a := 0) (b := y) with h | h
  · have := Rat.mul_nonneg h (by grind : 0 ≤ x - a); grind
  · have := Rat.mul_nonneg (by grind : 0 ≤ -y) (by grind : 0 ≤ b - x); grind

theorem corner_hi {x y a b c d u : Rat} (x1 : a ≤ x) (x2 : x ≤ b) (y1 : c ≤ y) (y2 : y ≤ d)
    (h1 : a * c ≤ u) (h2 : a * d ≤ u) (h3 : b * c ≤ u) (h4 : b * d ≤ u) : x * y ≤ u := by
  have := corner_lo (x := x) (y := -y) (a := a) (b := b) (c := -d) (d := -c) (l := -u) x1 x2 (by grind) (by grind)
    (by grind) (by grind) (by grind) (by grind)
  grind

end Go.Proofs.Ytacinenddnfcbaa

namespace Ieee.Own

/-- where a number of 2^-2148 units is rounded -/
def dz (n : Nat) : Nat := max (dr n) 1074
def rz (n : Nat) : Nat := rne n (dz n) * 2 ^ (dz n - 1074)
def RZ (z : Int) : Int := if z < 0 then -(rz z.natAbs : Int) else (rz z.natAbs : Int)

theorem div_cap {n k d : Nat} (h : n < 2 ^ (k + d)) : n / 2 ^ d < 2 ^ k := by
  rw [Nat.div_lt_iff_lt_mul (Nat.two_pow_pos d), ← Nat.pow_add]; exact h
theorem shift_pow {x d k : Nat} (h : k ≤ d) : x * 2 ^ (d - k) * 2 ^ k = x * 2 ^ d := by
  rw [Nat.mul_assoc, ← Nat.pow_add, Nat.sub_add_cancel h]
theorem rz_range (n : Nat) : rne n (dz n) ≤ 2 ^ 53 ∧ (0 < dz n - 1074 → 2 ^ 52 ≤ rne n (dz n)) := by
  by_cases h : dr n ≤ 1074
  · have e : dz n = 1074 := by unfold dz; omega
    rw [e]
    refine ⟨?_, fun h => by omega⟩
    have b := rne_bounds n 1074
    have := div_cap (k := 53) (Nat.lt_of_lt_of_le (dr_lt n) (Nat.pow_le_pow_right (by omega) (show 53 + dr n ≤ 53 + 1074 by omega)))
    omega
  · have e : dz n = dr n := by unfold dz; omega
    rw [e]
    exact ⟨(rne_range n).1, fun h => (rne_range n).2 (by omega)⟩

theorem nearest_rz (s : Bool) (m : Nat) (place : Int) (n a c : Nat) (hm : m * 2 ^ a = n * 2 ^ c) (hp : place = -2148 + a - c) (hn : rz n < 2 ^ 2098) :
    ∃ r, r < 9218868437227405312 ∧ double.nearest s m place = double.word s r ∧ val 52 r = rz n := by
  by_cases h0 : m = 0
  · subst h0
    have : n = 0 := by
      have hc := Nat.two_pow_pos c
      rcases Nat.mul_eq_zero.1 (by omega : n * 2 ^ c = 0) with h | h <;> omega
    subst this
    refine ⟨0, by omega, by unfold Format.nearest; rw [if_pos rfl], ?_⟩
    rw [val_zero]
    have : rne 0 (dz 0) = 0 := by simpa using rne_exact 0 (dz 0)
    unfold rz
    rw [this, Nat.zero_mul]
  have hn0 : n ≠ 0 := by
    intro h; subst h
    have ha := Nat.two_pow_pos a
    rcases Nat.mul_eq_zero.1 (by omega : m * 2 ^ a = 0) with h | h <;> omega
  have hlog : m.log2 + a = n.log2 + c := by rw [← log2_shift m a h0, hm, log2_shift n c hn0]
  have hlast : max (place + m.log2 - double.fractionBits) double.leastPlace = -2148 + dz n := by
    rw [frac64', least64']; unfold dz dr; omega
  have hk : Toward.even.cut s (m <<< (place - (-2148 + dz n)).toNat) (-2148 + dz n - place).toNat = rne n (dz n) := by
    rw [Nat.shiftLeft_eq, cut_rne]
    generalize dz n = d at *
    by_cases hac : d + c ≤ a
    · have e1 : (place - (-2148 + (d : Int))).toNat = a - (d + c) := by omega
      have e2 : (-2148 + (d : Int) - place).toNat = 0 := by omega
      rw [e1, e2]
      have hq : n = (m * 2 ^ (a - (d + c))) * 2 ^ d := by
        have h2 : 2 ^ a = 2 ^ (a - (d + c)) * 2 ^ d * 2 ^ c := by rw [← Nat.pow_add, ← Nat.pow_add]; congr 1; omega
        rw [h2, ← Nat.mul_assoc, ← Nat.mul_assoc] at hm
        exact (Nat.eq_of_mul_eq_mul_right (Nat.two_pow_pos c) hm).symm
      have g1 : rne n d = m * 2 ^ (a - (d + c)) := by rw [hq]; exact rne_exact _ d
      rw [g1]
      have := rne_exact (m * 2 ^ (a - (d + c))) 0
      simpa using this
    · have e1 : (place - (-2148 + (d : Int))).toNat = 0 := by omega
      have e2 : (-2148 + (d : Int) - place).toNat = d + c - a := by omega
      rw [e1, e2, Nat.pow_zero, Nat.mul_one, ← rne_scale n d c, ← hm, ← rne_scale m (d + c - a) a]
      congr 1; omega
  have hv : val 52 ((dz n - 1074) * 2 ^ 52 + rne n (dz n)) = rz n := rung_val _ _ (rz_range n).1 (rz_range n).2
  have hr : (dz n - 1074) * 2 ^ 52 + rne n (dz n) < 9218868437227405312 := by
    rw [← val_lt_iff 52, hv, top64']; exact hn
  refine ⟨(dz n - 1074) * 2 ^ 52 + rne n (dz n), hr, ?_, hv⟩
  have hd : 1074 ≤ dz n := by unfold dz; omega
  unfold Format.nearest
  rw [if_neg h0]
  dsimp only
  rw [hlast, hk, least64', show (-2148 + (dz n : Int) - -1074).toNat = dz n - 1074 by omega, inf64]
  rw [show double.binade = 2 ^ 52 from rfl, Nat.min_eq_left (Nat.le_of_lt hr)]

theorem RZ_abs (z : Int) : (RZ z).natAbs = rz z.natAbs := by unfold RZ; split <;> omega
theorem rz_zero : rz 0 = 0 := by
  have : rne 0 (dz 0) = 0 := by simpa using rne_exact 0 (dz 0)
  unfold rz
  rw [this, Nat.zero_mul]
theorem RZ_neg (z : Int) : RZ (-z) = -RZ z := by
  by_cases h : z = 0
  · subst h; unfold RZ; simp [rz_zero]
  · unfold RZ
    rw [Int.natAbs_neg]
    split <;> split <;> omega
/-- any product -/
theorem mul_gen {a b : Nat} (ha : FinW a) (hb : FinW b) (h : rz (V a * V b).natAbs < 2 ^ 2098) :
    ∃ r, double.mul a b = some r ∧ FinW r ∧ V r = RZ (V a * V b) := by
  obtain ⟨s, m, p, hr, hV, -⟩ := read_sv ha
  obtain ⟨t, n, q, hr', hV', -⟩ := read_sv hb
  unfold Format.mul
  rw [hr, hr']
  simp only [Datum.product, Option.map]
  rw [hV, hV', sv_mul] at h ⊢
  have hNa : m * n * 2 ^ (p + q) = (sv (s ^^ t) (m * n) (p + q)).natAbs * 2 ^ 0 := by
    rw [sv_abs, Nat.pow_zero, Nat.mul_one]
  obtain ⟨r, h1, h2, h3⟩ := nearest_rz (s ^^ t) (m * n) (-1074 + (p : Int) + (-1074 + (q : Int))) _ (p + q) 0 hNa (by clear hNa h; omega) h
  refine ⟨double.word (s ^^ t) r, by simp only [Format.write]; rw [h2], (V_word _ r h1).1, ?_⟩
  rw [(V_word _ r h1).2, h3]
  have hs := sv_sign (s ^^ t) (m * n) (p + q)
  generalize sv (s ^^ t) (m * n) (p + q) = S at *
  cases hst : s ^^ t
  · rw [hst] at hs
    simp only [Bool.false_eq_true, if_false]
    have := hs.2 rfl
    unfold RZ; rw [if_neg (by omega)]
  · rw [hst] at hs
    simp only [if_true]
    have := hs.1 rfl
    by_cases h0 : S = 0
    · subst h0; unfold RZ; simp [rz_zero]
    · unfold RZ; rw [if_pos (by omega)]

end Ieee.Own

namespace Ply

abbrev P := List Rat

def ev : P → Rat → Rat
  | [], _ => 0
  | a :: p, x => a + x * ev p x

def add : P → P → P
  | [], q => q
  | p, [] => p
  | a :: p, b :: q => (a + b) :: add p q

def scale (c : Rat) : P → P
  | [] => []
  | a :: p => (c * a) :: scale c p

def mul : P → P → P
  | [], _ => []
  | a :: p, q => add (scale a q) (0 :: mul p q)

/-- the polynomial p at c + d x -/
def shift (c d : Rat) : P → P
  | [] => []
  | a :: p => add [a] (mul [c, d] (shift c d p))

/-- the polynomial p at x x -/
def spread : P → P
  | [] => []
  | a :: p => a :: 0 :: spread p

/-- a bound of |p| where |x| ≤ B -/
def mag (B : Rat) : P → Rat
  | [] => 0
  | a :: p => (if 0 ≤ a then a else -a) + B * mag B p

/-- a bound of |p(x) - p(y)| / |x - y| where |x|, |y| ≤ B -/
def slope (B : Rat) : P → Rat
  | [] => 0
  | _ :: p => mag B p + B * slope B p

theorem ev_add (p q : P) (x : Rat) : ev (add p q) x = ev p x + ev q x := by
  induction p generalizing q with
  | nil => simp only [add, ev]; grind
  | cons a p ih =>
    cases q with
    | nil => simp only [add, ev]; grind
    | cons b q => simp only [add, ev, ih]; grind

theorem ev_scale (c : Rat) (p : P) (x : Rat) : ev (scale c p) x = c * ev p x := by
  induction p with
  | nil => simp only [scale, ev]; grind
  | cons a p ih => simp only [scale, ev, ih]; grind

theorem ev_mul (p q : P) (x : Rat) : ev (mul p q) x = ev p x * ev q x := by
  induction p with
  | nil => simp only [mul, ev]; grind
  | cons a p ih => simp only [mul, ev, ev_add, ev_scale, ih]; grind

theorem ev_shift (c d : Rat) (p : P) (x : Rat) : ev (shift c d p) x = ev p (c + d * x) := by
  induction p with
  | nil => simp only [shift, ev]
  | cons a p ih => simp only [shift, ev, ev_add, ev_mul, ih]; grind

theorem ev_spread (p : P) (x : Rat) : ev (spread p) x = ev p (x * x) := by
  induction p with
  | nil => simp only [spread, ev]
  | cons a p ih => simp only [spread, ev, ih]; grind

theorem abs_mul_le {x y B M : Rat} (hx : -B ≤ x) (hx' : x ≤ B) (hy : -M ≤ y) (hy' : y ≤ M) :
    -(B * M) ≤ x * y ∧ x * y ≤ B * M := by
  have h1 : 0 ≤ (B - x) * (M + y) := Rat.mul_nonneg (by grind) (by grind)
  have h2 : 0 ≤ (B + x) * (M - y) := Rat.mul_nonneg (by grind) (by grind)
  have h3 : 0 ≤ (B - x) * (M - y) := Rat.mul_nonneg (by grind) (by grind)
  have h4 : 0 ≤ (B + x) * (M + y) := Rat.mul_nonneg (by grind) (by grind)
  constructor <;> grind

theorem ev_le {B x : Rat} (h1 : -B ≤ x) (h2 : x ≤ B) (p : P) : -mag B p ≤ ev p x ∧ ev p x ≤ mag B p := by
  induction p with
  | nil => simp [mag, ev]
  | cons a p ih =>
    have h := abs_mul_le h1 h2 ih.1 ih.2
    simp only [mag, ev]
    split <;> constructor <;> grind

/-- two polynomials whose difference is small are near each other -/
theorem near {B e x : Rat} (h1 : -B ≤ x) (h2 : x ≤ B) (p q : P) (h : mag B (add p (scale (-1) q)) ≤ e) :
    ev p x - e ≤ ev q x ∧ ev q x ≤ ev p x + e := by
  have := ev_le h1 h2 (add p (scale (-1) q))
  rw [ev_add, ev_scale] at this
  constructor <;> grind

/-- a polynomial's rise is the way times a number below its slope -/
theorem rise {B x y : Rat} (h1 : -B ≤ x) (h2 : x ≤ B) (h3 : -B ≤ y) (h4 : y ≤ B) (p : P) :
    ∃ d, ev p y - ev p x = (y - x) * d ∧ -slope B p ≤ d ∧ d ≤ slope B p := by
  induction p with
  | nil => exact ⟨0, by simp only [ev]; grind, by simp [slope]⟩
  | cons a p ih =>
    obtain ⟨d, hd, l, u⟩ := ih
    refine ⟨ev p y + x * d, ?_, ?_⟩
    · simp only [ev]; grind
    · have h := ev_le h3 h4 p
      have h' := abs_mul_le h1 h2 l u
      simp only [slope]
      constructor <;> grind

/-- where the second coefficient outweighs the rest the polynomial rises -/
theorem rises {B x y a b : Rat} {p : P} (h1 : -B ≤ x) (h3 : y ≤ B) (hxy : x ≤ y)
    (hb : B * mag B p + B * slope B (b :: p) ≤ b) : ev (a :: b :: p) x ≤ ev (a :: b :: p) y := by
  obtain ⟨d, hd, l, u⟩ := rise h1 (by grind) (by grind) h3 (b :: p)
  have h := ev_le (by grind : -B ≤ y) h3 p
  have h5 := abs_mul_le (by grind : -B ≤ y) h3 h.1 h.2
  have h6 := abs_mul_le h1 (by grind : x ≤ B) l u
  have h7 : 0 ≤ (y - x) * (ev (b :: p) y + x * d) := by
    refine Rat.mul_nonneg (by grind) ?_
    simp only [ev]
    grind
  have h8 : ev (a :: b :: p) y - ev (a :: b :: p) x = (y - x) * (ev (b :: p) y + x * d) := by
    have e1 : ev (a :: b :: p) y = a + y * ev (b :: p) y := rfl
    have e2 : ev (a :: b :: p) x = a + x * ev (b :: p) x := rfl
    grind
  grind

/-- where it outweighs them the other way it falls -/
theorem falls {B x y a b : Rat} {p : P} (h1 : -B ≤ x) (h3 : y ≤ B) (hxy : x ≤ y)
    (hb : B * mag B p + B * slope B (b :: p) ≤ -b) : ev (a :: b :: p) y ≤ ev (a :: b :: p) x := by
  obtain ⟨d, hd, l, u⟩ := rise h1 (by grind) (by grind) h3 (b :: p)
  have h := ev_le (by grind : -B ≤ y) h3 p
  have h5 := abs_mul_le (by grind : -B ≤ y) h3 h.1 h.2
  have h6 := abs_mul_le h1 (by grind : x ≤ B) l u
  have h7 : 0 ≤ (y - x) * (-(ev (b :: p) y + x * d)) := by
    refine Rat.mul_nonneg (by grind) ?_
    simp only [ev]
    grind
  have h8 : ev (a :: b :: p) y - ev (a :: b :: p) x = (y - x) * (ev (b :: p) y + x * d) := by
    have e1 : ev (a :: b :: p) y = a + y * ev (b :: p) y := rfl
    have e2 : ev (a :: b :: p) x = a + x * ev (b :: p) x := rfl
    grind
  grind

def fact : Nat → Nat
  | 0 => 1
  | n + 1 => (n + 1) * fact n

/-- the coefficient of x^n in the sine (odd) or the cosine (even) -/
def co (n : Nat) : Rat := (if n % 4 < 2 then 1 else -1) * mkRat 1 (fact n)

/-- the sine over y, the cosine, as polynomials of z = y y with m terms -/
def sinZ (m : Nat) : P := (List.range m).map (fun n => co (2 * n + 1))
def cosZ (m : Nat) : P := (List.range m).map (fun n => co (2 * n))

def sinP (m : Nat) : P := 0 :: spread (sinZ m)
def cosP (m : Nat) : P := spread (cosZ m)

/-- the sine and the cosine that stand for the true ones: eighteen terms each -/
def s (y : Rat) : Rat := ev (sinP 18) y
def c (y : Rat) : Rat := ev (cosP 18) y

theorem s_eq (y : Rat) : s y = y * ev (sinZ 18) (y * y) := by
  simp only [s, sinP, ev, ev_spread]; grind

theorem c_eq (y : Rat) : c y = ev (cosZ 18) (y * y) := by
  simp only [c, cosP, ev_spread]

theorem s_neg (y : Rat) : s (-y) = -s y := by
  rw [s_eq, s_eq]
  have : -y * -y = y * y := by grind
  rw [this]; grind

theorem c_neg (y : Rat) : c (-y) = c y := by
  rw [c_eq, c_eq]
  have : -y * -y = y * y := by grind
  rw [this]

/-- twice pi, to forty places -/
def tau : Rat := mkRat 62831853071795864769252867665590057683943 (10^40)

/-- nearer than this the sums of this text are told -/
def eps : Rat := mkRat 1 (10^24)

/-- the rest's greatest: an eighth of the turn -/
def top : Rat := tau / 8

theorem top_nn : 0 ≤ top := by decide +kernel

theorem double {y : Rat} (h1 : -top ≤ y) (h2 : y ≤ top) :
    2 * (s y * c y) - eps ≤ s (2 * y) ∧ s (2 * y) ≤ 2 * (s y * c y) + eps := by
  have := near h1 h2 (scale 2 (mul (sinP 18) (cosP 18))) (shift 0 2 (sinP 18)) (e := eps) (by decide +kernel)
  rw [ev_scale, ev_mul, ev_shift] at this
  have e : (0 + 2 * y : Rat) = 2 * y := by grind
  rw [e] at this
  exact this

/-- at an eighth sine and cosine are near each other -/
theorem eighth : c top - eps ≤ s top ∧ s top ≤ c top + eps := by
  constructor <;> decide +kernel

theorem s_rises {x y : Rat} (h1 : -top ≤ x) (h2 : y ≤ top) (h : x ≤ y) : s x ≤ s y := by
  have e : sinP 18 = 0 :: 1 :: (sinP 18).drop 2 := by decide +kernel
  simp only [s]
  rw [e]
  exact rises h1 h2 h (by decide +kernel)

theorem sq_le {x y : Rat} (h0 : 0 ≤ x) (h : x ≤ y) : x * x ≤ y * y := by
  have h1 : 0 ≤ (y - x) * (y + x) := Rat.mul_nonneg (by grind) (by grind)
  grind

theorem c_falls {x y : Rat} (h1 : 0 ≤ x) (h2 : y ≤ top) (h : x ≤ y) : c y ≤ c x := by
  have e : cosZ 18 = 1 :: (-1/2) :: (cosZ 18).drop 2 := by decide +kernel
  rw [c_eq, c_eq, e]
  have hx : 0 ≤ x * x := Rat.mul_nonneg h1 h1
  have hy : y * y ≤ top * top := sq_le (by grind) h2
  have ht : 0 ≤ top * top := Rat.mul_nonneg top_nn top_nn
  exact falls (B := top * top) (by grind) hy (sq_le h1 h) (by decide +kernel)

theorem c_rises {x y : Rat} (h1 : -top ≤ x) (h2 : y ≤ 0) (h : x ≤ y) : c x ≤ c y := by
  have := c_falls (x := -y) (y := -x) (by grind) (by grind) (by grind)
  rwa [c_neg, c_neg] at this

theorem c_top {y : Rat} (h1 : -top ≤ y) (h2 : y ≤ top) : c top ≤ c y := by
  rcases Rat.le_total (a := 0) (b := y) with h | h
  · exact c_falls h (by grind) h2
  · have := c_falls (x := -y) (y := top) (by grind) (by grind) (by grind)
    rwa [c_neg] at this

theorem c_nn {y : Rat} (h1 : -top ≤ y) (h2 : y ≤ top) : 0 ≤ c y := by
  have := c_top h1 h2
  have e : 0 ≤ c top := by decide +kernel
  grind

/-! ### by quarters -/

/-- the sine at k quarters and the angle y (in radians) more -/
def sq (k : Int) (y : Rat) : Rat :=
  if k % 4 = 0 then s y else if k % 4 = 1 then c y else if k % 4 = 2 then -s y else -c y

theorem sq_two (k : Int) (y : Rat) : sq (k + 2) y = -sq k y := by
  unfold sq
  rcases (by omega : k % 4 = 0 ∨ k % 4 = 1 ∨ k % 4 = 2 ∨ k % 4 = 3) with h | h | h | h
  · have : (k + 2) % 4 = 2 := by omega
    simp [h, this]
  · have : (k + 2) % 4 = 3 := by omega
    simp [h, this]
  · have : (k + 2) % 4 = 0 := by omega
    simp [h, this]
  · have : (k + 2) % 4 = 1 := by omega
    simp [h, this]

theorem sq_mod {k j : Int} (h : k % 4 = j % 4) (y : Rat) : sq k y = sq j y := by
  simp only [sq, h]

/-- from the lowest place to the highest the sine climbs, but for 2 eps:
    three pieces, -1 (from 0 on), 0, 1 (to 0) -/
theorem climb {j k : Int} {x y : Rat} (hj : j = -1 ∨ j = 0 ∨ j = 1) (hk : k = -1 ∨ k = 0 ∨ k = 1)
    (x1 : -top ≤ x) (x2 : x ≤ top) (y1 : -top ≤ y) (y2 : y ≤ top)
    (hx : j = -1 → 0 ≤ x) (hx' : j = 1 → x ≤ 0) (hy : k = -1 → 0 ≤ y) (hy' : k = 1 → y ≤ 0)
    (h : (j : Rat) * (2 * top) + x ≤ (k : Rat) * (2 * top) + y) : sq j x ≤ sq k y + 2 * eps := by
  have he := eighth
  have e0 : 0 ≤ eps := by decide +kernel
  have t0 : 0 < top := by decide +kernel
  have sm : sq (-1) = fun y => -c y := by funext y; simp [sq]
  have s0 : sq 0 = s := by funext y; simp [sq]
  have s1 : sq 1 = c := by funext y; simp [sq]
  have cx := c_top x1 x2
  have cy := c_top y1 y2
  have sx := s_rises x1 (by grind) x2
  have sx' := s_rises (x := -top) (y := x) (by grind) x2 x1
  have sy := s_rises y1 (by grind) y2
  have sy' := s_rises (x := -top) (y := y) (by grind) y2 y1
  have cn := c_nn (y := top) (by grind) (by grind)
  rw [s_neg] at sx' sy'
  have em : ((-1 : Int) : Rat) = -1 := by decide +kernel
  have e00 : ((0 : Int) : Rat) = 0 := by decide +kernel
  have e1 : ((1 : Int) : Rat) = 1 := by decide +kernel
  rcases hj with rfl | rfl | rfl <;> rcases hk with rfl | rfl | rfl
  · rw [sm]
    have := c_falls (x := x) (y := y) (hx rfl) y2 (by grind)
    grind
  · rw [sm, s0]; grind
  · rw [sm, s1]; grind
  · rw [em, e00] at h
    have q := hy rfl
    -- the same place, or none
    rw [sm, s0]
    have a1 : y = top := by grind
    have a2 : x = -top := by grind
    subst a1; subst a2
    rw [s_neg]; grind
  · rw [e00] at h
    rw [s0]
    have := s_rises (x := x) (y := y) x1 y2 (by grind)
    grind
  · rw [s0, s1]; grind
  · rw [em, e1] at h
    have q := hy rfl
    have q' := hx' rfl
    exfalso; grind
  · rw [e00, e1] at h
    rw [s1, s0]
    have q' := hx' rfl
    have a1 : y = top := by grind
    have a2 : x = -top := by grind
    subst a1; subst a2
    rw [c_neg]; grind
  · rw [s1]
    have := c_rises (x := x) (y := y) x1 (hy' rfl) (by grind)
    grind

/-! ### the angle's own number: x turns, the quarter k and the rest r -/

/-- k and r say x turns -/
def Says (x : Rat) (k : Int) (r : Rat) : Prop :=
  x = (k : Rat) / 4 + r ∧ -(1/8) ≤ r ∧ r ≤ 1/8

theorem top_eq : top = tau / 8 := rfl

theorem top_mul {r : Rat} (h1 : -(1/8) ≤ r) (h2 : r ≤ 1/8) : -top ≤ tau * r ∧ tau * r ≤ top := by
  have t : 0 ≤ tau := by decide +kernel
  rw [top_eq]
  generalize tau = T at *
  have a : 0 ≤ T * (r + 1/8) := Rat.mul_nonneg t (by grind)
  have b : 0 ≤ T * (1/8 - r) := Rat.mul_nonneg t (by grind)
  constructor <;> grind

theorem int_lt {a b : Int} (h : (a : Rat) < (b : Rat)) : a < b := by exact_mod_cast h
/-- between the quarter m, where the sine is lowest, and m + 2, where it is highest, it climbs -/
theorem climbs {m j k : Int} {x y r t : Rat} (hm : m % 4 = 3) (hx : Says x j r) (hy : Says y k t)
    (h1 : (m : Rat) ≤ 4 * x) (h2 : x ≤ y) (h3 : 4 * y ≤ (m : Rat) + 2) :
    sq j (tau * r) ≤ sq k (tau * t) + 2 * eps := by
  obtain ⟨ex, r1, r2⟩ := hx
  obtain ⟨ey, t1, t2⟩ := hy
  have tp : 0 ≤ tau := by decide +kernel
  have jl : m ≤ j := by
    have : ((m - 1 : Int) : Rat) < (j : Rat) := by
      have : ((m - 1 : Int) : Rat) = (m : Rat) - 1 := by simp [Rat.intCast_sub]
      grind
    have := int_lt this
    omega
  have ju : j ≤ m + 2 := by
    have : (j : Rat) < ((m + 3 : Int) : Rat) := by
      have : ((m + 3 : Int) : Rat) = (m : Rat) + 3 := by simp [Rat.intCast_add]
      grind
    have := int_lt this
    omega
  have kl : m ≤ k := by
    have : ((m - 1 : Int) : Rat) < (k : Rat) := by
      have : ((m - 1 : Int) : Rat) = (m : Rat) - 1 := by simp [Rat.intCast_sub]
      grind
    have := int_lt this
    omega
  have ku : k ≤ m + 2 := by
    have : (k : Rat) < ((m + 3 : Int) : Rat) := by
      have : ((m + 3 : Int) : Rat) = (m : Rat) + 3 := by simp [Rat.intCast_add]
      grind
    have := int_lt this
    omega
  obtain ⟨a, ha⟩ : ∃ a : Int, a = j - (m + 1) := ⟨_, rfl⟩
  obtain ⟨b, hb⟩ : ∃ b : Int, b = k - (m + 1) := ⟨_, rfl⟩
  have ea : (a : Rat) = (j : Rat) - (m : Rat) - 1 := by
    rw [ha]; simp only [Rat.intCast_sub, Rat.intCast_add]; grind
  have eb : (b : Rat) = (k : Rat) - (m : Rat) - 1 := by
    rw [hb]; simp only [Rat.intCast_sub, Rat.intCast_add]; grind
  have ja : sq j (tau * r) = sq a (tau * r) := sq_mod (by omega) _
  have kb : sq k (tau * t) = sq b (tau * t) := sq_mod (by omega) _
  rw [ja, kb]
  have m0 : ∀ q : Rat, 0 ≤ q → 0 ≤ tau * q := fun q hq => Rat.mul_nonneg tp hq
  have m1 : ∀ q : Rat, q ≤ 0 → tau * q ≤ 0 := fun q hq => by
    have := Rat.mul_nonneg tp (by grind : 0 ≤ -q)
    grind
  refine climb (by omega) (by omega) (top_mul r1 r2).1 (top_mul r1 r2).2 (top_mul t1 t2).1 (top_mul t1 t2).2 ?_ ?_ ?_ ?_ ?_
  · intro e
    rw [e] at ea
    have em : ((-1 : Int) : Rat) = -1 := by decide +kernel
    exact m0 _ (by grind)
  · intro e
    rw [e] at ea
    have em : ((1 : Int) : Rat) = 1 := by decide +kernel
    exact m1 _ (by grind)
  · intro e
    rw [e] at eb
    have em : ((-1 : Int) : Rat) = -1 := by decide +kernel
    exact m0 _ (by grind)
  · intro e
    rw [e] at eb
    have em : ((1 : Int) : Rat) = 1 := by decide +kernel
    exact m1 _ (by grind)
  · have := m0 (y - x) (by grind)
    clear m0 m1 ja kb
    have q : ((b : Rat) * (2 * (tau / 8)) + tau * t) - ((a : Rat) * (2 * (tau / 8)) + tau * r) = tau * (y - x) := by
      rw [ea, eb, ex, ey]; grind
    rw [top_eq]
    generalize tau = T at *
    grind


theorem says_half {x r : Rat} {k : Int} (h : Says x k r) : Says (x + 1/2) (k + 2) r := by
  obtain ⟨e, h1, h2⟩ := h
  refine ⟨?_, h1, h2⟩
  rw [Rat.intCast_add, e]
  have : ((2 : Int) : Rat) = 2 := by decide +kernel
  grind

/-- from the highest place to the lowest the sine falls -/
theorem falls_off {m j k : Int} {x y r t : Rat} (hm : m % 4 = 1) (hx : Says x j r) (hy : Says y k t)
    (h1 : (m : Rat) ≤ 4 * x) (h2 : x ≤ y) (h3 : 4 * y ≤ (m : Rat) + 2) :
    sq k (tau * t) ≤ sq j (tau * r) + 2 * eps := by
  have e : ((m + 2 : Int) : Rat) = (m : Rat) + 2 := by
    rw [Rat.intCast_add]; have : ((2 : Int) : Rat) = 2 := by decide +kernel
    grind
  have := climbs (m := m + 2) (by omega) (says_half hx) (says_half hy) (by grind) (by grind) (by grind)
  rw [sq_two, sq_two] at this
  grind

/-- the lowest place at or below 4 x -/
theorem place {x r : Rat} {k : Int} (h : Says x k r) :
    ∃ m : Int, m % 4 = 3 ∧ (m : Rat) ≤ 4 * x ∧ 4 * x < (m : Rat) + 4 := by
  obtain ⟨e, h1, h2⟩ := h
  obtain ⟨m, hm⟩ : ∃ m : Int, m = k - (k - 3) % 4 := ⟨_, rfl⟩
  have e4 : ((m - 4 : Int) : Rat) = (m : Rat) - 4 := by
    rw [Rat.intCast_sub]; have : ((4 : Int) : Rat) = 4 := by decide +kernel
    grind
  have a : (k : Rat) ≤ (m : Rat) + 3 := by
    have : ((k : Int) : Rat) ≤ ((m + 3 : Int) : Rat) := Rat.intCast_le_intCast.mpr (by omega)
    rw [Rat.intCast_add] at this
    have : ((3 : Int) : Rat) = 3 := by decide +kernel
    grind
  have b : (m : Rat) ≤ (k : Rat) := Rat.intCast_le_intCast.mpr (by omega)
  by_cases hc : (m : Rat) ≤ 4 * x
  · exact ⟨m, by omega, hc, by grind⟩
  · exact ⟨m - 4, by omega, by grind, by grind⟩

/-- two ways to say the same turns give near sines -/
theorem same {x r t : Rat} {j k : Int} (hx : Says x j r) (hy : Says x k t) :
    sq j (tau * r) ≤ sq k (tau * t) + 2 * eps := by
  obtain ⟨m, hm, m1, m2⟩ := place hx
  by_cases h : 4 * x ≤ (m : Rat) + 2
  · exact climbs hm hx hy m1 (by grind) h
  · have e2 : ((m + 2 : Int) : Rat) = (m : Rat) + 2 := by
      rw [Rat.intCast_add]; have : ((2 : Int) : Rat) = 2 := by decide +kernel
      grind
    exact falls_off (m := m + 2) (by omega) hy hx (by grind) (by grind) (by grind)

/-! ### the series that the program sums: nine terms each -/

def sl (y : Rat) : Rat := y * ev (sinZ 9) (y * y)
def cl (y : Rat) : Rat := ev (cosZ 9) (y * y)

/-- what the spans have beyond the series' own error -/
def del : Rat := mkRat 1 (10^20)

end Ply

namespace Go.Proofs.Ytacinenddnfcbaa
open Ieee.Own Ply

def ab (x : Rat) : Rat := if 0 ≤ x then x else -x

/-- its error and size: of sums with the coefficients as for such with bs -/
def er (ez mz : Rat) : List Rat → List Rat → Rat × Rat
  | [], _ => (0, 0)
  | [a], b :: _ => (ab (a - b), ab b)
  | a :: al, b :: bs =>
    let em := er ez mz al bs
    let e1 := mz * em.1 + em.2 * ez + ez * em.1 + (mz + ez) * (em.2 + em.1) * mkRat 1 (2^53)
    let m1 := mz * em.2
    (ab (a - b) + e1 + (ab b + ab (a - b) + m1 + e1) * mkRat 1 (2^53), ab b + m1)
  | _, [] => (0, 0)

end Go.Proofs.Ytacinenddnfcbaa

namespace Go.Proofs.Ytacinenddnfcbaa
open Ply

/-- a span of fractions; what lies in it -/
abbrev Sp := Rat × Rat
def In (x : Rat) (A : Sp) : Prop := A.1 ≤ x ∧ x ≤ A.2
def AddSp (A B C : Sp) : Prop := C.1 ≤ A.1 + B.1 ∧ A.2 + B.2 ≤ C.2
def MulSp (A B C : Sp) : Prop :=
  (C.1 ≤ A.1 * B.1 ∧ C.1 ≤ A.1 * B.2 ∧ C.1 ≤ A.2 * B.1 ∧ C.1 ≤ A.2 * B.2) ∧
  (A.1 * B.1 ≤ C.2 ∧ A.1 * B.2 ≤ C.2 ∧ A.2 * B.1 ≤ C.2 ∧ A.2 * B.2 ≤ C.2)
theorem In.add {x y : Rat} {A B C : Sp} (hx : In x A) (hy : In y B) (h : AddSp A B C) : In (x + y) C := by
  obtain ⟨h1, h2⟩ := hx
  obtain ⟨h3, h4⟩ := hy
  obtain ⟨h5, h6⟩ := h
  exact ⟨by grind, by grind⟩
theorem In.mul {x y : Rat} {A B C : Sp} (hx : In x A) (hy : In y B) (h : MulSp A B C) : In (x * y) C := by
  obtain ⟨h1, h2⟩ := hx
  obtain ⟨h3, h4⟩ := hy
  obtain ⟨⟨a, b, c, d⟩, e, f, g, i⟩ := h
  exact ⟨corner_lo h1 h2 h3 h4 a b c d, corner_hi h1 h2 h3 h4 e f g i⟩
/-- x is in A, and all within del of it -/
def Ins (x : Rat) (A : Sp) : Prop := A.1 ≤ x - del ∧ x + del ≤ A.2
/-- the same, cut by -1 and 1 -/
def Inc (x : Rat) (A : Sp) : Prop := ∀ v, -1 ≤ v → v ≤ 1 → x - del ≤ v → v ≤ x + del → In v A

theorem Ins.neg {x : Rat} {A : Sp} (h : Ins x A) : Ins (-x) (-A.2, -A.1) := by
  obtain ⟨h1, h2⟩ := h
  exact ⟨by grind, by grind⟩
/-- cut to -1 .. 1 -/
theorem Ins.cut {x : Rat} {A B : Sp} (h : Ins x A) (h1 : B.1 = A.1 ∨ B.1 = -1) (h2 : B.2 = A.2 ∨ B.2 = 1) : Inc x B := by
  obtain ⟨a, b⟩ := h
  intro v v1 v2 v3 v4
  constructor
  · rcases h1 with h | h <;> grind
  · rcases h2 with h | h <;> grind
/-! ### the squares -/
/-! ### twice -/
/-! ### spans of angles -/
end Go.Proofs.Ytacinenddnfcbaa

namespace Go.Proofs.Ytacinenddnfcbaa
open Ieee.Own

/-- the nearest whole number of v / (2 H), ties to even -/
def kq (H v : Int) : Int := if H < v % (2 * H) ∨ (v % (2 * H) = H ∧ v / (2 * H) % 2 = 1) then v / (2 * H) + 1 else v / (2 * H)
def rq (H v : Int) : Int := v - 2 * H * kq H v

end Go.Proofs.Ytacinenddnfcbaa

namespace Go.Proofs.Ytacinenddnfcbaa
open Ieee.Own

/-- a finite word: a whole number of 2^p units, 2^k of them at most -/
structure Wd (b p k : Nat) : Prop where
  fin : FinW b
  dvd : (2 : Int) ^ p ∣ V b
  abs : (V b).natAbs ≤ 2 ^ k

def mX (a b : Nat) : Nat := (Ieee.double.mul a b).getD 0
def aX (a b : Nat) : Nat := (Ieee.double.add a b).getD 0

theorem abs_eq {a b n : Int} {d : Nat} (h : a * b = n * 2 ^ d) : a.natAbs * b.natAbs = n.natAbs * 2 ^ d := by
  rw [← Int.natAbs_mul, h, Int.natAbs_mul, Int.natAbs_pow]; rfl
theorem pow_cap {n m d : Nat} (hd : d ≤ m) (h : n * 2 ^ d ≤ 2 ^ m) : n ≤ 2 ^ (m - d) := by
  obtain ⟨k, rfl⟩ := Nat.exists_eq_add_of_le hd
  rw [Nat.pow_add, Nat.mul_comm] at h
  have := Nat.le_of_mul_le_mul_left h (Nat.two_pow_pos d)
  rwa [Nat.add_sub_cancel_left]
theorem Wd.le {b p k q l : Nat} (h : Wd b p k) (hp : q ≤ p) (hk : k ≤ l) : Wd b q l := by
  refine ⟨h.fin, Int.dvd_trans ?_ h.dvd, Nat.le_trans h.abs (two_le hk)⟩
  rw [show p = q + (p - q) by omega, Int.pow_add]
  exact Int.dvd_mul_right _ _

theorem Wd.mul {a b p k q l : Nat} (h : Wd a p k) (g : Wd b q l) (e : 1074 ≤ p + q) (u : k + l < 3100) (u2 : 1074 ≤ k + l) :
    Ieee.double.mul a b = some (mX a b) ∧ Wd (mX a b) (p + q - 1074) (k + l - 1074) ∧ Rld (Q (mX a b)) (Q a * Q b) := by
  obtain ⟨c, hc⟩ := h.dvd
  obtain ⟨d, hd⟩ := g.dvd
  have eN : V a * V b = (2 ^ (p + q - 1074) * (c * d)) * 2 ^ 1074 := by
    rw [hc, hd]
    have : (2 : Int) ^ p * 2 ^ q = 2 ^ (p + q - 1074) * 2 ^ 1074 := by
      rw [← Int.pow_add, ← Int.pow_add, show p + q - 1074 + 1074 = p + q by omega]
    calc 2 ^ p * c * (2 ^ q * d) = (2 ^ p * 2 ^ q) * (c * d) := by
          simp only [Int.mul_assoc, Int.mul_left_comm c]
      _ = 2 ^ (p + q - 1074) * 2 ^ 1074 * (c * d) := by rw [this]
      _ = 2 ^ (p + q - 1074) * (c * d) * 2 ^ 1074 := by
          simp only [Int.mul_assoc, Int.mul_comm (2 ^ 1074)]
  generalize hN : (2 : Int) ^ (p + q - 1074) * (c * d) = N at eN
  have bd : N.natAbs ≤ 2 ^ (k + l - 1074) := by
    have h1 : (V a).natAbs * (V b).natAbs ≤ 2 ^ k * 2 ^ l := Nat.mul_le_mul h.abs g.abs
    rw [abs_eq eN, ← Nat.pow_add] at h1
    exact pow_cap (by omega) h1
  obtain ⟨r, h1, h2, h3⟩ := mulW h.fin g.fin eN bd (by omega)
  have er : mX a b = r := by unfold mX; rw [h1]; rfl
  rw [er]
  refine ⟨h1, ⟨h2, ?_, ?_⟩, mul_rel eN h3⟩
  · rw [h3]; exact RN_dvd (by rw [← hN]; exact Int.dvd_mul_right _ _)
  · rw [h3]; exact RN_bound bd

theorem Wd.add {a b p k : Nat} (h : Wd a p k) (g : Wd b p k) (u : k < 2000) :
    Ieee.double.add a b = some (aX a b) ∧ Wd (aX a b) p (k + 1) ∧ Rld (Q (aX a b)) (Q a + Q b) := by
  obtain ⟨r, h1, h2, h3, h4⟩ := addW h.fin g.fin h.abs g.abs u
  have er : aX a b = r := by unfold aX; rw [h1]; rfl
  rw [er]
  exact ⟨h1, ⟨h2, by rw [h3]; exact RN_dvd (Int.dvd_add h.dvd g.dvd), h4⟩, add_rel h3⟩

end Go.Proofs.Ytacinenddnfcbaa

namespace Go.Proofs.Ytacinenddnfcbaa
open Ieee.Own

end Go.Proofs.Ytacinenddnfcbaa

namespace Go.Proofs.Ytacinenddnfcbaa
open Ieee.Own

theorem norm_big {b : Nat} (h : FinW b) (hb : 2 ^ 52 ≤ (V b).natAbs) : 4503599627370496 ≤ b % 9223372036854775808 := by
  rw [V_abs' b h] at hb
  by_cases q : b % 9223372036854775808 < 2 ^ 52
  · unfold val mg ex at hb
    rw [if_pos q, if_pos q] at hb
    omega
  · omega

theorem pw_abs (n : Nat) : ((2 : Int) ^ n).natAbs = 2 ^ n := Int.natAbs_pow 2 n
theorem mul_pow {a k : Nat} (h : a ≤ 2 ^ k) (n : Nat) : a * 2 ^ n ≤ 2 ^ (k + n) := by
  rw [Nat.pow_add]; exact Nat.mul_le_mul_right _ h
theorem absk {v k : Int} {n : Nat} (h : v = k * 2 ^ n) : v.natAbs = k.natAbs * 2 ^ n := by
  rw [h, Int.natAbs_mul, Int.natAbs_pow]; rfl
end Go.Proofs.Ytacinenddnfcbaa
