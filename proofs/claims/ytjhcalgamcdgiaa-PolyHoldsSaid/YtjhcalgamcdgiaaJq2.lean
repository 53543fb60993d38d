/- Proved here: what the texts Mgn, Pol, Pch, Pcr, Pwd, Pmr, Psl, Psp, Phs, Pwt, Pfn, Psm, Pho, Pof prove, one behind the other. -/
import Derived.Test.YtjhcalgamcdgiaaJm
import Derived.Test.YtjhcalgamcdgiaaJb2
import Derived.Test.YtjhcalgamcdgiaaJq1
import Derived.Test.YtjhcalgamcdgiaaJb4

namespace Ieee.Own

/-- where a number of 2^-2148 units is rounded -/
def dz (n : Nat) : Nat := max (dr n) 1074
def rz (n : Nat) : Nat := rne n (dz n) * 2 ^ (dz n - 1074)
def RZ (z : Int) : Int := if z < 0 then -(rz z.natAbs : Int) else (rz z.natAbs : Int)

theorem div_cap {n k d : Nat} (h : n < 2 ^ (k + d)) : n / 2 ^ d < 2 ^ k := by
  rw [Nat.div_lt_iff_lt_mul (Nat.two_pow_pos d), ← Nat.pow_add]; exact h
theorem shift_pow {x d k : Nat} (h : k ≤ d) : x * 2 ^ (d - k) * 2 ^ k = x * 2 ^ d := by
  rw [Nat.mul_assoc, ← Nat.pow_add, Nat.sub_add_cancel h]
theorem pow_same {d k : Nat} (h : d = k) : 2 ^ d = 2 ^ k := by rw [h]
theorem cast_pow (x k : Nat) : ((x * 2 ^ k : Nat) : Int) = (x : Int) * 2 ^ k := by rw [Int.natCast_mul, Int.natCast_pow]; rfl
theorem rz_range (n : Nat) : rne n (dz n) ≤ 2 ^ 53 ∧ (0 < dz n - 1074 → 2 ^ 52 ≤ rne n (dz n)) := by
  by_cases h : dr n ≤ 1074
  · have e : dz n = 1074 := by unfold dz; omega
    rw [e]
    refine ⟨?_, fun h => by omega⟩
    have b := rne_bounds n 1074
    have := div_cap (k := 53) (Nat.lt_of_lt_of_le (dr_lt n) (Nat.pow_le_pow_right (by omega) (show 53 + dr n ≤ 53 + 1074 by omega)))
    omega
  · have e : dz n = dr n := by unfold dz; omega
    rw [e]
    exact ⟨(rne_range n).1, fun h => (rne_range n).2 (by omega)⟩

theorem nearest_rz (s : Bool) (m : Nat) (place : Int) (n a c : Nat) (hm : m * 2 ^ a = n * 2 ^ c) (hp : place = -2148 + a - c) (hn : rz n < 2 ^ 2098) :
    ∃ r, r < 9218868437227405312 ∧ double.nearest s m place = double.word s r ∧ val 52 r = rz n := by
  by_cases h0 : m = 0
  · subst h0
    have : n = 0 := by
      have hc := Nat.two_pow_pos c
      rcases Nat.mul_eq_zero.1 (by omega : n * 2 ^ c = 0) with h | h <;> omega
    subst this
    refine ⟨0, by omega, by unfold Format.nearest; rw [if_pos rfl], ?_⟩
    rw [val_zero]
    have : rne 0 (dz 0) = 0 := by simpa using rne_exact 0 (dz 0)
    unfold rz
    rw [this, Nat.zero_mul]
  have hn0 : n ≠ 0 := by
    intro h; subst h
    have ha := Nat.two_pow_pos a
    rcases Nat.mul_eq_zero.1 (by omega : m * 2 ^ a = 0) with h | h <;> omega
  have hlog : m.log2 + a = n.log2 + c := by rw [← log2_shift m a h0, hm, log2_shift n c hn0]
  have hlast : max (place + m.log2 - double.fractionBits) double.leastPlace = -2148 + dz n := by
    rw [frac64', least64']; unfold dz dr; omega
  have hk : Toward.even.cut s (m <<< (place - (-2148 + dz n)).toNat) (-2148 + dz n - place).toNat = rne n (dz n) := by
    rw [Nat.shiftLeft_eq, cut_rne]
    generalize dz n = d at *
    by_cases hac : d + c ≤ a
    · have e1 : (place - (-2148 + (d : Int))).toNat = a - (d + c) := by omega
      have e2 : (-2148 + (d : Int) - place).toNat = 0 := by omega
      rw [e1, e2]
      have hq : n = (m * 2 ^ (a - (d + c))) * 2 ^ d := by
        have h2 : 2 ^ a = 2 ^ (a - (d + c)) * 2 ^ d * 2 ^ c := by rw [← Nat.pow_add, ← Nat.pow_add]; congr 1; omega
        rw [h2, ← Nat.mul_assoc, ← Nat.mul_assoc] at hm
        exact (Nat.eq_of_mul_eq_mul_right (Nat.two_pow_pos c) hm).symm
      have g1 : rne n d = m * 2 ^ (a - (d + c)) := by rw [hq]; exact rne_exact _ d
      rw [g1]
      have := rne_exact (m * 2 ^ (a - (d + c))) 0
      simpa using this
    · have e1 : (place - (-2148 + (d : Int))).toNat = 0 := by omega
      have e2 : (-2148 + (d : Int) - place).toNat = d + c - a := by omega
      rw [e1, e2, Nat.pow_zero, Nat.mul_one, ← rne_scale n d c, ← hm, ← rne_scale m (d + c - a) a]
      congr 1; omega
  have hv : val 52 ((dz n - 1074) * 2 ^ 52 + rne n (dz n)) = rz n := rung_val _ _ (rz_range n).1 (rz_range n).2
  have hr : (dz n - 1074) * 2 ^ 52 + rne n (dz n) < 9218868437227405312 := by
    rw [← val_lt_iff 52, hv, top64']; exact hn
  refine ⟨(dz n - 1074) * 2 ^ 52 + rne n (dz n), hr, ?_, hv⟩
  have hd : 1074 ≤ dz n := by unfold dz; omega
  unfold Format.nearest
  rw [if_neg h0]
  dsimp only
  rw [hlast, hk, least64', show (-2148 + (dz n : Int) - -1074).toNat = dz n - 1074 by omega, inf64]
  rw [show double.binade = 2 ^ 52 from rfl, Nat.min_eq_left (Nat.le_of_lt hr)]

theorem RZ_abs (z : Int) : (RZ z).natAbs = rz z.natAbs := by unfold RZ; split <;> omega
theorem rz_zero : rz 0 = 0 := by
  have : rne 0 (dz 0) = 0 := by simpa using rne_exact 0 (dz 0)
  unfold rz
  rw [this, Nat.zero_mul]
theorem RZ_neg (z : Int) : RZ (-z) = -RZ z := by
  by_cases h : z = 0
  · subst h; unfold RZ; simp [rz_zero]
  · unfold RZ
    rw [Int.natAbs_neg]
    split <;> split <;> omega
/-- any product -/
theorem mul_gen {a b : Nat} (ha : FinW a) (hb : FinW b) (h : rz (V a * V b).natAbs < 2 ^ 2098) :
    ∃ r, double.mul a b = some r ∧ FinW r ∧ V r = RZ (V a * V b) := by
  obtain ⟨s, m, p, hr, hV, -⟩ := read_sv ha
  obtain ⟨t, n, q, hr', hV', -⟩ := read_sv hb
  unfold Format.mul
  rw [hr, hr']
  simp only [Datum.product, Option.map]
  rw [hV, hV', sv_mul] at h ⊢
  have hNa : m * n * 2 ^ (p + q) = (sv (s ^^ t) (m * n) (p + q)).natAbs * 2 ^ 0 := by
    rw [sv_abs, Nat.pow_zero, Nat.mul_one]
  obtain ⟨r, h1, h2, h3⟩ := nearest_rz (s ^^ t) (m * n) (-1074 + (p : Int) + (-1074 + (q : Int))) _ (p + q) 0 hNa (by clear hNa h; omega) h
  refine ⟨double.word (s ^^ t) r, by simp only [Format.write]; rw [h2], (V_word _ r h1).1, ?_⟩
  rw [(V_word _ r h1).2, h3]
  have hs := sv_sign (s ^^ t) (m * n) (p + q)
  generalize sv (s ^^ t) (m * n) (p + q) = S at *
  cases hst : s ^^ t
  · rw [hst] at hs
    simp only [Bool.false_eq_true, if_false]
    have := hs.2 rfl
    unfold RZ; rw [if_neg (by omega)]
  · rw [hst] at hs
    simp only [if_true]
    have := hs.1 rfl
    by_cases h0 : S = 0
    · subst h0; unfold RZ; simp [rz_zero]
    · unfold RZ; rw [if_pos (by omega)]

/-- how near -/
theorem rz_err (n : Nat) : 2 * (rz n * 2 ^ 1074) ≤ 2 * n + 2 ^ dz n ∧ 2 * n ≤ 2 * (rz n * 2 ^ 1074) + 2 ^ dz n := by
  have e : rz n * 2 ^ 1074 = rne n (dz n) * 2 ^ dz n := shift_pow (x := rne n (dz n)) (d := dz n) (k := 1074) (by unfold dz; omega)
  rw [e]
  exact ⟨rne_up n _, rne_down n _⟩
theorem dz_le (n : Nat) : 2 ^ 52 * 2 ^ dz n ≤ n + 2 ^ 52 * 2 ^ 1074 := by
  by_cases h : dr n ≤ 1074
  · have e : dz n = 1074 := by unfold dz; omega
    have q := pow_same e
    rw [q]
    generalize 2 ^ 1074 = T
    omega
  · have e : dz n = dr n := by unfold dz; omega
    have c := dr_le n (by omega)
    rw [Nat.pow_add] at c
    rw [e]
    generalize 2 ^ 1074 = T
    generalize 2 ^ dr n = Y at *
    omega
/-- off by 2^-53 of itself, and half the least place -/
theorem RZ_err (z : Int) : 2 ^ 53 * (RZ z * 2 ^ 1074 - z).natAbs ≤ z.natAbs + 2 ^ 52 * 2 ^ 1074 := by
  obtain ⟨a, b⟩ := rz_err z.natAbs
  have c := dz_le z.natAbs
  have key : (RZ z * 2 ^ 1074 - z).natAbs = ((rz z.natAbs * 2 ^ 1074 : Nat) - (z.natAbs : Nat) : Int).natAbs := by
    have e : ((rz z.natAbs * 2 ^ 1074 : Nat) : Int) = (rz z.natAbs : Int) * 2 ^ 1074 := cast_pow (rz z.natAbs) 1074
    rw [e]
    unfold RZ
    split
    · rw [Int.neg_mul]
      generalize (rz z.natAbs : Int) * 2 ^ 1074 = X
      omega
    · generalize (rz z.natAbs : Int) * 2 ^ 1074 = X
      omega
  rw [key]
  generalize rz z.natAbs * 2 ^ 1074 = X at *
  generalize 2 ^ dz z.natAbs = Y at *
  generalize 2 ^ 1074 = T at *
  omega
end Ieee.Own

namespace Pol
open Go.Proofs.Ytjhcalgamcdgiaa

def mag (a : Rat) : Rat := if 0 ≤ a then a else -a
theorem mag_le (a : Rat) : -mag a ≤ a ∧ a ≤ mag a ∧ 0 ≤ mag a := by
  unfold mag
  split <;> refine ⟨?_, ?_, ?_⟩ <;> grind
theorem mag_of {a M : Rat} (h : -M ≤ a) (h' : a ≤ M) : mag a ≤ M := by
  unfold mag
  split <;> grind
theorem mag_mul {x y B M : Rat} (hx : mag x ≤ B) (hy : mag y ≤ M) : mag (x * y) ≤ B * M := by
  have a := mag_le x
  have b := mag_le y
  have := abs_mul (x := x) (y := y) (B := B) (M := M) (by grind) (by grind) (by grind) (by grind)
  exact mag_of this.1 this.2
theorem mag_add {x y B M : Rat} (hx : mag x ≤ B) (hy : mag y ≤ M) : mag (x + y) ≤ B + M := by
  have a := mag_le x
  have b := mag_le y
  exact mag_of (by grind) (by grind)
theorem mag_sub {x y B M : Rat} (hx : mag x ≤ B) (hy : mag y ≤ M) : mag (x - y) ≤ B + M := by
  have a := mag_le x
  have b := mag_le y
  exact mag_of (by grind) (by grind)
theorem mag_neg (x : Rat) : mag (-x) = mag x := by
  unfold mag
  split <;> split <;> grind

/-- rounded at the 53rd digit, or at a least place of t -/
def Rd (u t w v : Rat) : Prop := ∀ M, mag v ≤ M → mag (w - v) ≤ u * M + t

/-! ### by powers -/
def hv (x : Rat) : List Rat → Rat
  | [] => 0
  | a :: al => a + x * hv x al
/-- the sum of all magnitudes times powers of m -/
def wt (m : Rat) : List Rat → Rat
  | [] => 0
  | a :: al => mag a + m * wt m al
theorem wt_nn {m : Rat} (hm : 0 ≤ m) : ∀ al, 0 ≤ wt m al
  | [] => Rat.le_refl
  | a :: al => by
    have h := wt_nn hm al
    have := Rat.mul_nonneg hm h
    have b := (mag_le a).2.2
    show 0 ≤ mag a + m * wt m al
    grind
theorem hv_le {x m : Rat} (hx : mag x ≤ m) : ∀ al, mag (hv x al) ≤ wt m al
  | [] => by show mag 0 ≤ 0; decide +kernel
  | a :: al => mag_add Rat.le_refl (mag_mul hx (hv_le hx al))
/-- rounded step by step -/
def HvA (u t x : Rat) : List Rat → Rat → Prop
  | [], p => p = 0
  | a :: al, p => ∃ p' M, HvA u t x al p' ∧ Rd u t M (x * p') ∧ Rd u 0 p (a + M)
def sN (t : Rat) : Nat → Rat
  | 0 => 4 * t
  | n + 1 => 2048 * sN t n
theorem sN_le {t : Rat} (ht : 0 ≤ t) : ∀ n, 4 * t ≤ sN t n
  | 0 => Rat.le_refl
  | n + 1 => by
    have := sN_le ht n
    show 4 * t ≤ 2048 * sN t n
    grind
theorem pol_step {u t x m a p' h' M p W' n s : Rat} (u0 : 0 ≤ u) (u1 : 1000 * u ≤ 1) (t0 : 0 ≤ t) (m1 : 1 ≤ m) (m2 : m ≤ 1024) (hx : mag x ≤ m) (w0 : 0 ≤ W')
    (e : mag (p' - h') ≤ n * (3 * u * W') + s) (b : mag h' ≤ W') (n0 : 0 ≤ n) (n1 : n ≤ 16) (s0 : 4 * t ≤ s) (R1 : Rd u t M (x * p')) (R2 : Rd u 0 p (a + M)) :
    mag (p - (a + x * h')) ≤ (n + 1) * (3 * u * (mag a + m * W')) + 2048 * s := by
  -- atoms
  have hE : mag p' ≤ W' + (n * (3 * u * W') + s) := by
    have := mag_add b e
    rwa [show h' + (p' - h') = p' by grind] at this
  generalize hEe : n * (3 * u * W') + s = E at *
  have g1 := mag_mul hx e
  have g2 := mag_mul hx hE
  have g3 := R1 _ g2
  have g4 : mag M ≤ m * (W' + E) + (u * (m * (W' + E)) + t) := by
    have := mag_add g2 g3
    rwa [show x * p' + (M - x * p') = M by grind] at this
  have g5 := R2 _ (mag_add (x := a) (B := mag a) Rat.le_refl g4)
  have g6 := mag_add (mag_add g1 g3) g5
  rw [show x * (p' - h') + (M - x * p') + (p - (a + M)) = p - (a + x * h') by grind] at g6
  refine Rat.le_trans g6 ?_
  subst hEe
  have a0 := (mag_le a).2.2
  generalize mag a = A at *
  have y0 := Rat.mul_nonneg (show 0 ≤ m by grind) w0
  generalize hY : m * W' = Y at *
  have z0 := Rat.mul_nonneg u0 y0
  have z1 := Rat.mul_nonneg (show 0 ≤ 1 - 1000 * u by grind) z0
  have z2 := Rat.mul_nonneg (show 0 ≤ 16 - n by grind) z0
  have z3 := Rat.mul_nonneg n0 z1
  have z4 := Rat.mul_nonneg u0 z1
  have z5 := Rat.mul_nonneg u0 z3
  have q0 := Rat.mul_nonneg u0 a0
  have q1 := Rat.mul_nonneg n0 q0
  have s1 : 0 ≤ s := by grind
  have r0 := Rat.mul_nonneg (show 0 ≤ 1024 - m by grind) s1
  have r1 := Rat.mul_nonneg (show 0 ≤ m by grind) s1
  have r2 := Rat.mul_nonneg (show 0 ≤ 1 - 1000 * u by grind) r1
  have r3 := Rat.mul_nonneg u0 r2
  have t1 := Rat.mul_nonneg (show 0 ≤ 1 - 1000 * u by grind) t0
  have k1 : m * (n * (3 * u * W') + s) = 3 * (n * (u * Y)) + m * s := by rw [← hY]; grind
  have k2 : m * (W' + (n * (3 * u * W') + s)) = Y + 3 * (n * (u * Y)) + m * s := by rw [← hY]; grind
  rw [k1, k2]
  clear k1 k2 hY g1 g2 g3 g4 g5 g6 R1 R2 hE
  grind
theorem hvA_near {u t x m : Rat} (u0 : 0 ≤ u) (u1 : 1000 * u ≤ 1) (t0 : 0 ≤ t) (m1 : 1 ≤ m) (m2 : m ≤ 1024) (hx : mag x ≤ m) :
    ∀ (al : List Rat) (p : Rat), al.length ≤ 16 → HvA u t x al p → mag (p - hv x al) ≤ (al.length : Rat) * (3 * u * wt m al) + sN t al.length
  | [], p, _, h => by
    have h : p = 0 := h
    subst h
    have e : mag (0 - hv x []) = 0 := by show mag (0 - 0) = 0; decide +kernel
    rw [e]
    show 0 ≤ ((0 : Nat) : Rat) * _ + 4 * t
    have : ((0 : Nat) : Rat) = 0 := rfl
    rw [this]
    grind
  | a :: al, p, hl, ⟨p', M, h, R1, R2⟩ => by
    have hl' : al.length ≤ 15 := by simp at hl; omega
    have ih := hvA_near u0 u1 t0 m1 m2 hx al p' (by omega) h
    have c : ((al.length : Nat) : Rat) ≤ 16 := by
      have : ((al.length : Int) : Rat) ≤ ((16 : Int) : Rat) := Rat.intCast_le_intCast.2 (by omega)
      exact this
    have c0 : (0 : Rat) ≤ ((al.length : Nat) : Rat) := by
      have : ((0 : Int) : Rat) ≤ ((al.length : Int) : Rat) := Rat.intCast_le_intCast.2 (by omega)
      exact this
    have := pol_step u0 u1 t0 m1 m2 hx (wt_nn (by grind) al) ih (hv_le hx al) c0 c (sN_le t0 _) R1 R2 (a := a)
    have e : (((a :: al).length : Nat) : Rat) = (al.length : Rat) + 1 := by
      show (((al.length + 1 : Nat) : Int) : Rat) = ((al.length : Int) : Rat) + 1
      rw [Int.natCast_add, Rat.intCast_add]; rfl
    rw [e]
    exact this
end Pol

namespace Pol
open Go.Proofs.Ytjhcalgamcdgiaa

/-- a point's two numbers as a cosine's of two neighbouring angles -/
structure Ph (x t s : Rat) : Prop where
  id : t * t + s * s - 2 * (x * (t * s)) = 1 - x * x
  t1 : mag t ≤ 1
  s1 : mag s ≤ 1
theorem sq_of {r : Rat} (h : r * r ≤ 1) : mag r ≤ 1 := by
  refine mag_of ?_ ?_
  · by_cases c : r < -1
    · have := Rat.mul_nonneg (show 0 ≤ -1 - r by grind) (show 0 ≤ -1 - r by grind)
      have := Rat.mul_pos (show 0 < -1 - r by grind) (show 0 < 1 - r by grind)
      grind
    · grind
  · by_cases c : 1 < r
    · have := Rat.mul_pos (show 0 < r - 1 by grind) (show 0 < r + 1 by grind)
      grind
    · grind
theorem of_sq {r : Rat} (h : mag r ≤ 1) : r * r ≤ 1 := by
  have a := mag_le r
  have := Rat.mul_nonneg (show 0 ≤ 1 - r by grind) (show 0 ≤ 1 + r by grind)
  grind
theorem sq_nn (r : Rat) : 0 ≤ r * r := by
  rcases Rat.le_total (a := 0) (b := r) with h | h
  · exact Rat.mul_nonneg h h
  · have := Rat.mul_nonneg (show 0 ≤ -r by grind) (show 0 ≤ -r by grind)
    grind
theorem Ph.step {x t s : Rat} (hx : mag x ≤ 1) (h : Ph x t s) : Ph x s (2 * (x * s) - t) := by
  have id := h.id
  have x1 := of_sq hx
  generalize hr : 2 * (x * s) - t = r
  have id2 : s * s + r * r - 2 * (x * (s * r)) = 1 - x * x := by rw [← hr]; grind
  refine ⟨id2, h.s1, sq_of ?_⟩
  have q : (s - x * r) * (s - x * r) = (1 - x * x) * (1 - r * r) := by grind
  have n := sq_nn (s - x * r)
  rw [q] at n
  by_cases c : x * x = 1
  · have z : (s - x * r) * (s - x * r) = 0 := by rw [q, c]; grind
    have e : s - x * r = 0 := by
      rcases Rat.mul_eq_zero.1 z with h | h <;> exact h
    have f : s * s = r * r := by
      have : s = x * r := by grind
      rw [this]; grind
    have := of_sq h.s1
    grind
  · have p : 0 < 1 - x * x := by grind
    by_cases d : r * r ≤ 1
    · exact d
    · have := Rat.mul_pos p (show 0 < r * r - 1 by grind)
      grind
/-- sums of magnitudes -/
def sm : List Rat → Rat
  | [] => 0
  | a :: al => mag a + sm al
theorem sm_nn : ∀ al, 0 ≤ sm al
  | [] => Rat.le_refl
  | a :: al => by
    have := sm_nn al
    have := (mag_le a).2.2
    show 0 ≤ mag a + sm al
    grind
/-- Clenshaw's two numbers -/
def cl (x : Rat) : List Rat → Rat × Rat
  | [] => (0, 0)
  | a :: al => (2 * (x * (cl x al).1) - (cl x al).2 + a, (cl x al).1)
def chv (x : Rat) : List Rat → Rat
  | [] => 0
  | c :: cs => x * (cl x cs).1 - (cl x cs).2 + c
theorem cl_ph {x : Rat} (hx : mag x ≤ 1) : ∀ (al : List Rat) (t s : Rat), Ph x t s → mag ((cl x al).1 * s - (cl x al).2 * t) ≤ sm al
  | [], t, s, _ => by
    show mag (0 * s - 0 * t) ≤ 0
    rw [show 0 * s - 0 * t = 0 by grind]; decide +kernel
  | a :: al, t, s, h => by
    have ih := cl_ph hx al s (2 * (x * s) - t) (h.step hx)
    show mag ((2 * (x * (cl x al).1) - (cl x al).2 + a) * s - (cl x al).1 * t) ≤ mag a + sm al
    generalize (cl x al).1 = b at *
    generalize (cl x al).2 = d at *
    have m := mag_mul (x := a) (B := mag a) Rat.le_refl h.s1
    have := mag_add m ih
    rw [show a * s + (b * (2 * (x * s) - t) - d * s) = (2 * (x * b) - d + a) * s - b * t by grind] at this
    grind
theorem ph_one {x : Rat} (hx : mag x ≤ 1) : Ph x 1 x := ⟨by grind, by decide +kernel, hx⟩
/-- each coefficient counts once at most -/
theorem chv_le {x : Rat} (hx : mag x ≤ 1) : ∀ al, mag (chv x al) ≤ sm al
  | [] => by show mag 0 ≤ 0; decide +kernel
  | c :: cs => by
    have h := cl_ph hx cs 1 x (ph_one hx)
    have := mag_add h (y := c) (M := mag c) Rat.le_refl
    show mag (x * (cl x cs).1 - (cl x cs).2 + c) ≤ mag c + sm cs
    rw [show (cl x cs).1 * x - (cl x cs).2 * 1 = x * (cl x cs).1 - (cl x cs).2 by grind] at this
    grind
/-- the second kind -/
structure Pu (x n t s : Rat) : Prop where
  t1 : mag t ≤ n
  s1 : mag s ≤ n + 1
  ph : Ph x (s - x * t) (x * s - t)
theorem Pu.step {x n t s : Rat} (hx : mag x ≤ 1) (h : Pu x n t s) : Pu x (n + 1) s (2 * (x * s) - t) := by
  refine ⟨h.s1, ?_, ?_⟩
  · have := mag_add (mag_mul hx h.s1) h.ph.s1
    rw [show x * s + (x * s - t) = 2 * (x * s) - t by grind] at this
    grind
  · have := h.ph.step hx
    rwa [show 2 * (x * s) - t - x * s = x * s - t by grind, show x * (2 * (x * s) - t) - s = 2 * (x * (x * s - t)) - (s - x * t) by grind]
theorem cl_pu {x : Rat} (hx : mag x ≤ 1) : ∀ (al : List Rat) (n t s : Rat), 0 ≤ n → Pu x n t s → mag ((cl x al).1 * s - (cl x al).2 * t) ≤ (n + (al.length : Rat)) * sm al
  | [], n, t, s, _, _ => by
    show mag (0 * s - 0 * t) ≤ _ * 0
    rw [show 0 * s - 0 * t = 0 by grind, Rat.mul_zero]; decide +kernel
  | a :: al, n, t, s, hn, h => by
    have ih := cl_pu hx al (n + 1) s (2 * (x * s) - t) (by grind) (h.step hx)
    show mag ((2 * (x * (cl x al).1) - (cl x al).2 + a) * s - (cl x al).1 * t) ≤ (n + ((al.length + 1 : Nat) : Rat)) * (mag a + sm al)
    have e : ((al.length + 1 : Nat) : Rat) = (al.length : Rat) + 1 := by
      show (((al.length + 1 : Nat) : Int) : Rat) = ((al.length : Int) : Rat) + 1
      rw [Int.natCast_add, Rat.intCast_add]; rfl
    rw [e]
    have c0 : (0 : Rat) ≤ (al.length : Rat) := by
      have : ((0 : Int) : Rat) ≤ ((al.length : Int) : Rat) := Rat.intCast_le_intCast.2 (by omega)
      exact this
    generalize (cl x al).1 = b at *
    generalize (cl x al).2 = d at *
    generalize (al.length : Rat) = L at *
    have m := mag_mul (x := a) (B := mag a) Rat.le_refl h.s1
    have := mag_add m ih
    rw [show a * s + (b * (2 * (x * s) - t) - d * s) = (2 * (x * b) - d + a) * s - b * t by grind] at this
    have k := Rat.mul_nonneg c0 (mag_le a).2.2
    grind
theorem pu_one {x : Rat} (hx : mag x ≤ 1) : Pu x 0 0 1 := by
  refine ⟨by decide +kernel, by decide +kernel, ?_⟩
  have := ph_one hx
  rwa [show (1 : Rat) - x * 0 = 1 by grind, show x * 1 - 0 = x by grind]
theorem cl_le {x : Rat} (hx : mag x ≤ 1) (al : List Rat) : mag (cl x al).1 ≤ (al.length : Rat) * sm al := by
  have := cl_pu hx al 0 0 1 Rat.le_refl (pu_one hx)
  rwa [show (cl x al).1 * 1 - (cl x al).2 * 0 = (cl x al).1 by grind, Rat.zero_add] at this
end Pol

namespace Pol
open Go.Proofs.Ytjhcalgamcdgiaa

/-- one list less another -/
def df : List Rat → List Rat → List Rat
  | a :: al, b :: bl => (a - b) :: df al bl
  | _, _ => []
theorem cl_df {x : Rat} : ∀ (al bl : List Rat), al.length = bl.length → (cl x (df al bl)).1 = (cl x al).1 - (cl x bl).1 ∧ (cl x (df al bl)).2 = (cl x al).2 - (cl x bl).2
  | [], [], _ => by
    show (0 : Rat) = 0 - 0 ∧ (0 : Rat) = 0 - 0
    exact ⟨by grind, by grind⟩
  | a :: al, b :: bl, h => by
    have ih := cl_df (x := x) al bl (by simpa using h)
    show 2 * (x * (cl x (df al bl)).1) - (cl x (df al bl)).2 + (a - b) = (2 * (x * (cl x al).1) - (cl x al).2 + a) - (2 * (x * (cl x bl).1) - (cl x bl).2 + b) ∧ (cl x (df al bl)).1 = _
    rw [ih.1, ih.2]
    exact ⟨by grind, rfl⟩
  | [], _ :: _, h => by simp at h
  | _ :: _, [], h => by simp at h
theorem chv_df {x : Rat} : ∀ (al bl : List Rat), al.length = bl.length → chv x (df al bl) = chv x al - chv x bl
  | [], [], _ => by
    show (0 : Rat) = 0 - 0
    grind
  | a :: al, b :: bl, h => by
    have ih := cl_df (x := x) al bl (by simpa using h)
    show x * (cl x (df al bl)).1 - (cl x (df al bl)).2 + (a - b) = (x * (cl x al).1 - (cl x al).2 + a) - (x * (cl x bl).1 - (cl x bl).2 + b)
    rw [ih.1, ih.2]
    grind
  | [], _ :: _, h => by simp at h
  | _ :: _, [], h => by simp at h
theorem sm_df : ∀ (al bl : List Rat), al.length = bl.length → sm al ≤ sm bl + sm (df al bl)
  | [], [], _ => by
    show (0 : Rat) ≤ 0 + 0
    grind
  | a :: al, b :: bl, h => by
    have ih := sm_df al bl (by simpa using h)
    show mag a + sm al ≤ (mag b + sm bl) + (mag (a - b) + sm (df al bl))
    have := mag_add (x := b) (y := a - b) Rat.le_refl Rat.le_refl
    rw [show b + (a - b) = a by grind] at this
    grind
  | [], _ :: _, h => by simp at h
  | _ :: _, [], h => by simp at h
theorem len_nn (al : List Rat) : (0 : Rat) ≤ (al.length : Rat) := by
  have : ((0 : Int) : Rat) ≤ ((al.length : Int) : Rat) := Rat.intCast_le_intCast.2 (by omega)
  exact this
theorem len_le {al : List Rat} {n : Nat} (h : al.length ≤ n) : (al.length : Rat) ≤ (n : Rat) := by
  have : ((al.length : Int) : Rat) ≤ ((n : Int) : Rat) := Rat.intCast_le_intCast.2 (by omega)
  exact this
theorem len_succ (a : Rat) (al : List Rat) : (((a :: al).length : Nat) : Rat) = (al.length : Rat) + 1 := by
  show (((al.length + 1 : Nat) : Int) : Rat) = ((al.length : Int) : Rat) + 1
  rw [Int.natCast_add, Rat.intCast_add]; rfl
theorem cl_two {x : Rat} (hx : mag x ≤ 1) (al : List Rat) : mag (cl x al).2 ≤ (al.length : Rat) * sm al := by
  cases al with
  | nil => show mag 0 ≤ _ * 0; rw [Rat.mul_zero]; decide +kernel
  | cons a al =>
    have h := cl_le hx al
    rw [len_succ]
    show mag (cl x al).1 ≤ _ * (mag a + sm al)
    have p := Rat.mul_nonneg (len_nn al) (mag_le a).2.2
    have q := sm_nn al
    have r := (mag_le a).2.2
    grind

/-- one step, rounded three times -/
theorem loc_step {u t y d d' M N b a A B : Rat} (u0 : 0 ≤ u) (u1 : 1000000 * u ≤ 1) (t0 : 0 ≤ t) (hy : mag y ≤ 2) (hd : mag d ≤ B) (hd' : mag d' ≤ B) (ha : mag a ≤ A)
    (R1 : Rd u t M (y * d)) (R2 : Rd u 0 N (M - d')) (R3 : Rd u 0 b (N + a)) : mag (b - y * d + d' - a) ≤ 9 * (u * B) + u * A + 3 * t := by
  have B0 : 0 ≤ B := Rat.le_trans (mag_le d).2.2 hd
  have g1 := mag_mul hy hd
  have g2 := R1 _ g1
  have g3 : mag M ≤ 2 * B + (u * (2 * B) + t) := by
    have := mag_add g1 g2
    rwa [show y * d + (M - y * d) = M by grind] at this
  have g4 := mag_sub g3 hd'
  have g5 := R2 _ g4
  have g6 : mag N ≤ 2 * B + (u * (2 * B) + t) + B + (u * (2 * B + (u * (2 * B) + t) + B) + 0) := by
    have := mag_add g4 g5
    rwa [show M - d' + (N - (M - d')) = N by grind] at this
  have g7 := R3 _ (mag_add g6 ha)
  have g8 := mag_add (mag_add g7 g5) g2
  rw [show b - (N + a) + (N - (M - d')) + (M - y * d) = b - y * d + d' - a by grind] at g8
  refine Rat.le_trans g8 ?_
  have z0 := Rat.mul_nonneg u0 B0
  have z1 := Rat.mul_nonneg (show 0 ≤ 1 - 1000000 * u by grind) z0
  have z2 := Rat.mul_nonneg u0 z1
  have t1 := Rat.mul_nonneg (show 0 ≤ 1 - 1000000 * u by grind) t0
  have t2 := Rat.mul_nonneg u0 t1
  clear g1 g2 g3 g4 g5 g6 g7 g8 R1 R2 R3 hy hd hd' ha
  grind

/-- rounded step by step -/
def ClA (u t x : Rat) : List Rat → Rat → Rat → Prop
  | [], b, d => b = 0 ∧ d = 0
  | a :: al, b, d => ∃ d' M N, ClA u t x al d d' ∧ Rd u t M (2 * x * d) ∧ Rd u 0 N (M - d') ∧ Rd u 0 b (N + a)
def ChA (u t x : Rat) : List Rat → Rat → Prop
  | [], p => p = 0
  | c :: cs, p => ∃ b d M N, ClA u t x cs b d ∧ Rd u t M (x * b) ∧ Rd u 0 N (M - d) ∧ Rd u 0 p (N + c)

theorem cheb_sum {u t A W D n B e : Rat} (u0 : 0 ≤ u) (u1 : 1000000 * u ≤ 1) (t0 : 0 ≤ t) (a0 : 0 ≤ A) (w0 : 0 ≤ W) (n0 : 0 ≤ n) (n1 : n ≤ 16) (d0 : 0 ≤ D) (hD : D ≤ n * (150 * (u * W) + 4 * t)) (hB : B = n * (W + D)) (he : e ≤ 9 * (u * B) + u * A + 3 * t) :
    e + D ≤ (n + 1) * (150 * (u * (A + W)) + 4 * t) := by
  have uw := Rat.mul_nonneg u0 w0
  have ua := Rat.mul_nonneg u0 a0
  have p1 := Rat.mul_nonneg (show 0 ≤ 16 - n by grind) (show 0 ≤ 150 * (u * W) + 4 * t by grind)
  have D1 : D ≤ 2400 * (u * W) + 64 * t := by grind
  have v1 := Rat.mul_nonneg (show 0 ≤ 1 - 1000000 * u by grind) w0
  have D2 : 100 * D ≤ W + 6400 * t := by grind
  have b1 := Rat.mul_nonneg (show 0 ≤ 16 - n by grind) (show 0 ≤ W + D by grind)
  have B1 : B ≤ 16 * (W + D) := by rw [hB]; grind
  have B2 : 100 * B ≤ 16 * (101 * W + 6400 * t) := by grind
  have ub := Rat.mul_nonneg u0 (show 0 ≤ 16 * (101 * W + 6400 * t) - 100 * B by grind)
  have t1 := Rat.mul_nonneg (show 0 ≤ 1 - 1000000 * u by grind) t0
  have na := Rat.mul_nonneg n0 ua
  have nt := Rat.mul_nonneg n0 t0
  clear hB p1 b1 B1 B2 D1 D2 v1
  grind
theorem clA_ex {u t x : Rat} (u0 : 0 ≤ u) (u1 : 1000000 * u ≤ 1) (t0 : 0 ≤ t) (hx : mag x ≤ 1) : ∀ (al : List Rat) (b d : Rat), al.length ≤ 16 → ClA u t x al b d →
    ∃ bl, bl.length = al.length ∧ cl x bl = (b, d) ∧ sm (df bl al) ≤ (al.length : Rat) * (150 * (u * sm al) + 4 * t)
  | [], b, d, _, h => by
    obtain ⟨rfl, rfl⟩ := h
    refine ⟨[], rfl, rfl, ?_⟩
    show (0 : Rat) ≤ ((0 : Nat) : Rat) * _
    have : ((0 : Nat) : Rat) = 0 := rfl
    rw [this, Rat.zero_mul]
    exact Rat.le_refl
  | a :: al, b, d, hl, ⟨d', M, N, h, R1, R2, R3⟩ => by
    have hl' : al.length ≤ 15 := by simp at hl; omega
    obtain ⟨bl, e1, e2, e3⟩ := clA_ex u0 u1 t0 hx al d d' (by omega) h
    have c1 := cl_le hx bl
    have c2 := cl_two hx bl
    rw [e2] at c1 c2
    rw [e1] at c1 c2
    have sd := sm_df bl al e1
    have n0 := len_nn al
    have n1 : (al.length : Rat) ≤ 16 := len_le (n := 16) (by omega)
    have w0 := sm_nn al
    have d0 := sm_nn (df bl al)
    have m := Rat.mul_nonneg n0 (show 0 ≤ sm al + sm (df bl al) - sm bl by grind)
    have hy : mag (2 * x) ≤ 2 := by
      have a := mag_le x
      exact mag_of (by grind) (by grind)
    have st := loc_step (B := (al.length : Rat) * (sm al + sm (df bl al))) u0 u1 t0 hy (d := d) (d' := d') (by grind) (by grind) Rat.le_refl R1 R2 R3
    have fin := cheb_sum u0 u1 t0 (mag_le a).2.2 w0 n0 n1 d0 e3 rfl st
    refine ⟨(b - 2 * (x * d) + d') :: bl, by simp [e1], ?_, ?_⟩
    · show (2 * (x * (cl x bl).1) - (cl x bl).2 + (b - 2 * (x * d) + d'), (cl x bl).1) = (b, d)
      rw [e2]
      show (2 * (x * d) - d' + (b - 2 * (x * d) + d'), d) = (b, d)
      rw [show 2 * (x * d) - d' + (b - 2 * (x * d) + d') = b by grind]
    · rw [len_succ]
      show mag (b - 2 * (x * d) + d' - a) + sm (df bl al) ≤ ((al.length : Rat) + 1) * (150 * (u * (mag a + sm al)) + 4 * t)
      rw [show b - 2 * (x * d) + d' - a = b - 2 * x * d + d' - a by grind]
      exact fin
/-- the answer is off by little -/
theorem chA_near {u t x p : Rat} (u0 : 0 ≤ u) (u1 : 1000000 * u ≤ 1) (t0 : 0 ≤ t) (hx : mag x ≤ 1) (al : List Rat) (hl : al.length ≤ 16) (h : ChA u t x al p) :
    mag (p - chv x al) ≤ 2400 * (u * sm al) + 64 * t := by
  have z0 := Rat.mul_nonneg u0 (sm_nn al)
  cases al with
  | nil =>
    have h : p = 0 := h
    subst h
    show mag (0 - 0) ≤ _
    have e : mag ((0 : Rat) - 0) = 0 := by decide +kernel
    rw [e]
    grind
  | cons c cs =>
    obtain ⟨b, d, M, N, h, R1, R2, R3⟩ := h
    have hl' : cs.length ≤ 15 := by simp at hl; omega
    obtain ⟨bl, e1, e2, e3⟩ := clA_ex u0 u1 t0 hx cs b d (by omega) h
    have c1 := cl_le hx bl
    have c2 := cl_two hx bl
    rw [e2] at c1 c2
    rw [e1] at c1 c2
    have sd := sm_df bl cs e1
    have n0 := len_nn cs
    have n1 : (cs.length : Rat) ≤ 15 := len_le (n := 15) hl'
    have w0 := sm_nn cs
    have d0 := sm_nn (df bl cs)
    have m := Rat.mul_nonneg n0 (show 0 ≤ sm cs + sm (df bl cs) - sm bl by grind)
    have hy : mag x ≤ 2 := by grind
    have st := loc_step (B := (cs.length : Rat) * (sm cs + sm (df bl cs))) u0 u1 t0 hy (d := b) (d' := d) (by grind) (by grind) Rat.le_refl R1 R2 R3
    have fin := cheb_sum u0 u1 t0 (mag_le c).2.2 w0 n0 (by grind) d0 e3 rfl st
    have key := chv_le hx (df ((p - x * b + d) :: bl) (c :: cs))
    rw [chv_df _ _ (by simp [e1])] at key
    have ep : chv x ((p - x * b + d) :: bl) = p := by
      show x * (cl x bl).1 - (cl x bl).2 + (p - x * b + d) = p
      rw [e2]
      show x * b - d + (p - x * b + d) = p
      grind
    rw [ep] at key
    refine Rat.le_trans key ?_
    show mag (p - x * b + d - c) + sm (df bl cs) ≤ 2400 * (u * (mag c + sm cs)) + 64 * t
    have a0 := (mag_le c).2.2
    have k := Rat.mul_nonneg (show 0 ≤ 15 - (cs.length : Rat) by grind) (show 0 ≤ 150 * (u * (mag c + sm cs)) + 4 * t by have := Rat.mul_nonneg u0 (show 0 ≤ mag c + sm cs by grind); grind)
    grind
end Pol

namespace Ieee.Own
theorem rne_cap {n d k : Nat} (h : n ≤ 2 ^ (k + d)) : rne n d ≤ 2 ^ k := by
  rw [Nat.pow_add] at h
  have := rne_mono d h
  rwa [rne_exact] at this
theorem rz_cap {n k : Nat} (h : n ≤ 2 ^ (k + 1074)) : rz n ≤ 2 ^ k := by
  have h1 : dr n ≤ k + 1074 := by
    have : n < 2 ^ (53 + (k + 1074)) := Nat.lt_of_le_of_lt h (Nat.pow_lt_pow_right (by omega) (by omega))
    exact dr_of_lt this
  have h2 : dz n ≤ k + 1074 := by unfold dz; omega
  have h3 : 1074 ≤ dz n := by unfold dz; omega
  unfold rz
  generalize dz n = d at *
  have c := rne_cap (n := n) (d := d) (k := k + 1074 - d) (by rwa [show k + 1074 - d + d = k + 1074 by omega])
  have := Nat.mul_le_mul_right (2 ^ (d - 1074)) c
  rwa [← Nat.pow_add, show k + 1074 - d + (d - 1074) = k by omega] at this
theorem mulB {a b i j k : Nat} (ha : FinW a) (hb : FinW b) (xa : (V a).natAbs ≤ 2 ^ i) (xb : (V b).natAbs ≤ 2 ^ j) (e : i + j = k + 1074) (hk : k < 2098) :
    ∃ r, double.mul a b = some r ∧ FinW r ∧ V r = RZ (V a * V b) ∧ (V r).natAbs ≤ 2 ^ k := by
  have c : (V a * V b).natAbs ≤ 2 ^ (k + 1074) := by
    rw [Int.natAbs_mul, ← e, Nat.pow_add]
    exact Nat.mul_le_mul xa xb
  have z := rz_cap c
  obtain ⟨r, h1, h2, h3⟩ := mul_gen ha hb (Nat.lt_of_le_of_lt z (two_lt (a := k) (b := 2098) hk))
  exact ⟨r, h1, h2, h3, by rw [h3, RZ_abs]; exact z⟩
end Ieee.Own
namespace Go.Proofs.Ytjhcalgamcdgiaa
open Ieee.Own Pol

theorem zeroF : FinW 0 := by unfold FinW; omega
theorem zeroV : V 0 = 0 := by decide +kernel
theorem cw_up {c k : Nat} (h : (V c).natAbs ≤ 2 ^ 1114) (hk : 1114 ≤ k) : (V c).natAbs ≤ 2 ^ k := Nat.le_trans h (two_le (a := 1114) (b := k) hk)
theorem zero_cap (k : Nat) : (V 0).natAbs ≤ 2 ^ k := by rw [zeroV]; exact Nat.zero_le _
def lX (a b : Nat) : Nat := (Ieee.double.sub a b).getD 0
def uR : Rat := mkRat 1 (2^53)
def tR : Rat := 1 / unit
theorem uR0 : 0 ≤ uR := by decide +kernel
theorem uR1 : 1000000 * uR ≤ 1 := by decide +kernel
theorem tR0 : 0 ≤ tR := by decide +kernel
theorem rd_of {w v : Rat} (h : Rld w v) : Rd uR 0 w v := by
  intro M hM
  have a := mag_le v
  have := h M (by grind) (by grind)
  have e : M * mkRat 1 (2^53) = uR * M := Rat.mul_comm _ _
  rw [e] at this
  exact mag_of (by grind) (by grind)
theorem Q_times (a b : Nat) : Q a * Q b = ((V a * V b : Int) : Rat) / unit / unit := by
  unfold Q
  rw [Rat.intCast_mul]
  simp only [Rat.div_def]
  grind
theorem unit_cast : ((2 ^ 1074 : Int) : Rat) = unit := by decide +kernel
theorem pow_int (k : Nat) : (2 : Int) ^ k = ((2 ^ k : Nat) : Int) := by rw [Int.natCast_pow]; rfl
theorem err_aux {w p t : Int} {T : Nat} (ht : t = (T : Int)) (h : 2 ^ 53 * (w * t - p).natAbs ≤ p.natAbs + 2 ^ 52 * T) :
    2 ^ 53 * (w * t - p) ≤ (p.natAbs : Int) + 2 ^ 52 * t ∧ 2 ^ 53 * (p - w * t) ≤ (p.natAbs : Int) + 2 ^ 52 * t := by
  subst ht
  generalize w * (T : Int) = X at *
  omega
/-- any product, as fractions -/
theorem rd_mul {a b r : Nat} (h : V r = RZ (V a * V b)) : Rd uR tR (Q r) (Q a * Q b) := by
  intro M hM
  have er := RZ_err (V a * V b)
  rw [← h] at er
  rw [Q_times] at hM ⊢
  generalize V a * V b = P at *
  have hu := unit_pos
  obtain ⟨e1, e2⟩ := err_aux (w := V r) (p := P) (t := 2 ^ 1074) (T := 2 ^ 1074) (pow_int 1074) er
  have b1 := Rat.intCast_le_intCast.2 e1
  have b2 := Rat.intCast_le_intCast.2 e2
  rw [Rat.intCast_mul, Rat.intCast_sub, Rat.intCast_add, Rat.intCast_mul, Rat.intCast_mul, unit_cast] at b1 b2
  have k53 : ((2 ^ 53 : Int) : Rat) = 9007199254740992 := by decide +kernel
  have k52 : ((2 ^ 52 : Int) : Rat) = 4503599627370496 := by decide +kernel
  rw [k53, k52] at b1 b2
  clear er e1 e2 h
  -- the magnitude
  have c : ((P.natAbs : Int) : Rat) ≤ M * unit * unit := by
    have a := mag_le ((P : Rat) / unit / unit)
    have m1 : (P : Rat) / unit / unit ≤ M := by grind
    have m2 : -M ≤ (P : Rat) / unit / unit := by grind
    have n1 := Rat.mul_le_mul_of_nonneg_right (Rat.mul_le_mul_of_nonneg_right m1 (Rat.le_of_lt hu)) (Rat.le_of_lt hu)
    have n2 := Rat.mul_le_mul_of_nonneg_right (Rat.mul_le_mul_of_nonneg_right m2 (Rat.le_of_lt hu)) (Rat.le_of_lt hu)
    rw [mul_unit, mul_unit] at n1 n2
    rcases (by omega : (P.natAbs : Int) = P ∨ (P.natAbs : Int) = -P) with h | h
    · rw [h]; exact n1
    · rw [h, Rat.intCast_neg]; grind
  have d1 := div_le (div_le (show 9007199254740992 * ((V r : Rat) * unit - P) ≤ M * unit * unit + 4503599627370496 * unit by grind))
  have d2 := div_le (div_le (show 9007199254740992 * (P - (V r : Rat) * unit) ≤ M * unit * unit + 4503599627370496 * unit by grind))
  have s0 : (M * unit * unit + 4503599627370496 * unit) / unit / unit = M + 4503599627370496 * tR := by
    have e : M * unit * unit + 4503599627370496 * unit = (M * unit + 4503599627370496) * unit := by grind
    rw [e, unit_div]
    unfold tR
    simp only [Rat.div_def]
    have : M * unit * unit⁻¹ = M := by
      have := unit_div (x := M)
      rwa [Rat.div_def] at this
    grind
  have s1 : 9007199254740992 * ((V r : Rat) * unit - P) / unit / unit = 9007199254740992 * (Q r - (P : Rat) / unit / unit) := by
    unfold Q
    have : (V r : Rat) * unit * unit⁻¹ = V r := by
      have := unit_div (x := (V r : Rat))
      rwa [Rat.div_def] at this
    simp only [Rat.div_def]
    grind
  have s2 : 9007199254740992 * (P - (V r : Rat) * unit) / unit / unit = 9007199254740992 * ((P : Rat) / unit / unit - Q r) := by
    unfold Q
    have : (V r : Rat) * unit * unit⁻¹ = V r := by
      have := unit_div (x := (V r : Rat))
      rwa [Rat.div_def] at this
    simp only [Rat.div_def]
    grind
  rw [s0, s1] at d1
  rw [s0, s2] at d2
  have u53 : uR = 1 / 9007199254740992 := by decide +kernel
  have t0 := tR0
  rw [u53]
  exact mag_of (by grind) (by grind)

/-! ### by powers -/
def polW (x : Nat) : List Nat → Nat
  | [] => 0
  | a :: al => aX a (mX x (polW x al))
structure Cw (c : Nat) : Prop where
  fin : FinW c
  bd : (V c).natAbs ≤ 2 ^ 1114
theorem pol_wd {x : Nat} (fx : FinW x) (bx : (V x).natAbs ≤ 2 ^ 1084) : ∀ (al : List Nat), (∀ c ∈ al, Cw c) → al.length ≤ 16 →
    FinW (polW x al) ∧ (V (polW x al)).natAbs ≤ 2 ^ (1115 + 11 * al.length) ∧ HvA uR tR (Q x) (al.map Q) (Q (polW x al)) ∧
    (∀ a bl, al = a :: bl → Ieee.double.mul x (polW x bl) = some (mX x (polW x bl)) ∧ Ieee.double.add a (mX x (polW x bl)) = some (polW x al))
  | [], _, _ => by
    refine ⟨zeroF, zero_cap _, ?_, fun a bl h => by cases h⟩
    show Q 0 = 0
    decide +kernel
  | a :: al, hc, hl => by
    have hl' : al.length ≤ 15 := by simp at hl; omega
    obtain ⟨f, b, H, -⟩ := pol_wd fx bx al (fun c h => hc c (List.mem_cons_of_mem _ h)) (by omega)
    have ca := hc a (List.mem_cons_self ..)
    obtain ⟨M, m1, m2, m3, m4⟩ := mulB (k := 1125 + 11 * al.length) fx f bx b (by omega) (by omega)
    have eM : mX x (polW x al) = M := by unfold mX; rw [m1]; rfl
    obtain ⟨s, s1, s2, s3, s4⟩ := addW (k := 1125 + 11 * al.length) ca.fin m2 (cw_up ca.bd (by omega)) m4 (by omega)
    have eS : polW x (a :: al) = s := by show aX a (mX x (polW x al)) = s; rw [eM]; unfold aX; rw [s1]; rfl
    rw [eS]
    refine ⟨s2, ?_, ⟨Q (polW x al), Q M, H, rd_mul m3, rd_of (add_rel s3)⟩, fun a' bl h => ?_⟩
    · rw [show 1115 + 11 * (a :: al).length = 1125 + 11 * al.length + 1 by simp; omega]; exact s4
    · obtain ⟨rfl, rfl⟩ := List.cons.inj h
      rw [eM]
      exact ⟨m1, s1⟩

/-! ### by Chebyshev's polynomials -/
def clW (x : Nat) : List Nat → Nat × Nat
  | [] => (0, 0)
  | a :: al => (aX (lX (mX (aX x x) (clW x al).1) (clW x al).2) a, (clW x al).1)
def chW (x : Nat) : List Nat → Nat
  | [] => 0
  | c :: cs => aX (lX (mX x (clW x cs).1) (clW x cs).2) c
theorem dbl_wd {x : Nat} (fx : FinW x) (bx : (V x).natAbs ≤ 2 ^ 1074) : Ieee.double.add x x = some (aX x x) ∧ FinW (aX x x) ∧ V (aX x x) = 2 * V x ∧ (V (aX x x)).natAbs ≤ 2 ^ (1074 + 1) := by
  obtain ⟨r, h1, h2, h3, h4⟩ := addW fx fx bx bx (by omega)
  have e : aX x x = r := by unfold aX; rw [h1]; rfl
  rw [e]
  refine ⟨h1, h2, ?_, h4⟩
  rw [h3, show V x + V x = V x * 2 ^ 1 by omega, RN_scale, RN_exact (Rep_V x)]
  omega
theorem Q_dbl {a b : Nat} (h : V a = 2 * V b) : Q a = 2 * Q b := by
  unfold Q; rw [h, Rat.intCast_mul]; simp only [Rat.div_def]
  rw [show ((2 : Int) : Rat) = 2 from rfl, Rat.mul_assoc]
structure Cl2 (x a : Nat) (b d : Nat) : Prop where
  m : Ieee.double.mul (aX x x) b = some (mX (aX x x) b)
  l : Ieee.double.sub (mX (aX x x) b) d = some (lX (mX (aX x x) b) d)
  s : Ieee.double.add (lX (mX (aX x x) b) d) a = some (aX (lX (mX (aX x x) b) d) a)
theorem cl_wd {x : Nat} (fx : FinW x) (bx : (V x).natAbs ≤ 2 ^ 1074) : ∀ (al : List Nat), (∀ c ∈ al, Cw c) → al.length ≤ 16 →
    (FinW (clW x al).1 ∧ (V (clW x al).1).natAbs ≤ 2 ^ (1115 + 3 * al.length)) ∧ (FinW (clW x al).2 ∧ (V (clW x al).2).natAbs ≤ 2 ^ (1115 + 3 * al.length)) ∧ ClA uR tR (Q x) (al.map Q) (Q (clW x al).1) (Q (clW x al).2) ∧
    (∀ a bl, al = a :: bl → Cl2 x a (clW x bl).1 (clW x bl).2)
  | [], _, _ => by
    have z : ∀ k, FinW 0 ∧ (V 0).natAbs ≤ 2 ^ k := fun k => ⟨zeroF, zero_cap k⟩
    exact ⟨z (1115 + 3 * ([] : List Nat).length), z (1115 + 3 * ([] : List Nat).length), ⟨by show Q 0 = 0; decide +kernel, by show Q 0 = 0; decide +kernel⟩, fun a bl h => by cases h⟩
  | a :: al, hc, hl => by
    have hl' : al.length ≤ 15 := by simp at hl; omega
    obtain ⟨⟨f, b⟩, ⟨g, e⟩, H, -⟩ := cl_wd fx bx al (fun c h => hc c (List.mem_cons_of_mem _ h)) (by omega)
    have ca := hc a (List.mem_cons_self ..)
    obtain ⟨-, fd, vd, bd⟩ := dbl_wd fx bx
    obtain ⟨M, m1, m2, m3, m4⟩ := mulB (k := 1116 + 3 * al.length) fd f bd b (by omega) (by omega)
    have eM : mX (aX x x) (clW x al).1 = M := by unfold mX; rw [m1]; rfl
    obtain ⟨l, l1, l2, l3, l4⟩ := subW (k := 1116 + 3 * al.length) m2 g m4 (Nat.le_trans e (two_le (by omega))) (by omega)
    have eL : lX M (clW x al).2 = l := by unfold lX; rw [l1]; rfl
    obtain ⟨s, s1, s2, s3, s4⟩ := addW (k := 1116 + 3 * al.length + 1) l2 ca.fin l4 (cw_up ca.bd (by omega)) (by omega)
    have eS : (clW x (a :: al)).1 = s := by show aX (lX (mX (aX x x) (clW x al).1) (clW x al).2) a = s; rw [eM, eL]; unfold aX; rw [s1]; rfl
    have eT : (clW x (a :: al)).2 = (clW x al).1 := rfl
    rw [eS, eT]
    refine ⟨⟨s2, ?_⟩, ⟨f, Nat.le_trans b (two_le (by simp; omega))⟩, ⟨Q (clW x al).2, Q M, Q l, H, ?_, rd_of (sub_rel l3), rd_of (add_rel s3)⟩, fun a' bl h => ?_⟩
    · rw [show 1115 + 3 * (a :: al).length = 1116 + 3 * al.length + 1 + 1 by simp; omega]; exact s4
    · have := rd_mul m3
      rwa [Q_dbl vd] at this
    · obtain ⟨rfl, rfl⟩ := List.cons.inj h
      refine ⟨by rw [eM]; exact m1, by rw [eM, eL]; exact l1, ?_⟩
      rw [eM, eL, s1]
      show some s = some (aX l a)
      unfold aX; rw [s1]; rfl
theorem ch_wd {x : Nat} (fx : FinW x) (bx : (V x).natAbs ≤ 2 ^ 1074) (al : List Nat) (hc : ∀ c ∈ al, Cw c) (hl : al.length ≤ 16) :
    FinW (chW x al) ∧ (V (chW x al)).natAbs ≤ 2 ^ 1200 ∧ ChA uR tR (Q x) (al.map Q) (Q (chW x al)) ∧
    (∀ a bl, al = a :: bl → Ieee.double.mul x (clW x bl).1 = some (mX x (clW x bl).1) ∧ Ieee.double.sub (mX x (clW x bl).1) (clW x bl).2 = some (lX (mX x (clW x bl).1) (clW x bl).2) ∧ Ieee.double.add (lX (mX x (clW x bl).1) (clW x bl).2) a = some (chW x al)) := by
  cases al with
  | nil =>
    refine ⟨zeroF, zero_cap 1200, ?_, fun a bl h => by cases h⟩
    show Q 0 = 0
    decide +kernel
  | cons a al =>
    have hl' : al.length ≤ 15 := by simp at hl; omega
    obtain ⟨⟨f, b⟩, ⟨g, e⟩, H, -⟩ := cl_wd fx bx al (fun c h => hc c (List.mem_cons_of_mem _ h)) (by omega)
    have ca := hc a (List.mem_cons_self ..)
    obtain ⟨M, m1, m2, m3, m4⟩ := mulB (k := 1115 + 3 * al.length) fx f bx b (by omega) (by omega)
    have eM : mX x (clW x al).1 = M := by unfold mX; rw [m1]; rfl
    obtain ⟨l, l1, l2, l3, l4⟩ := subW (k := 1115 + 3 * al.length) m2 g m4 e (by omega)
    have eL : lX M (clW x al).2 = l := by unfold lX; rw [l1]; rfl
    obtain ⟨s, s1, s2, s3, s4⟩ := addW (k := 1115 + 3 * al.length + 1) l2 ca.fin l4 (cw_up ca.bd (by omega)) (by omega)
    have eS : chW x (a :: al) = s := by show aX (lX (mX x (clW x al).1) (clW x al).2) a = s; rw [eM, eL]; unfold aX; rw [s1]; rfl
    rw [eS]
    refine ⟨s2, Nat.le_trans s4 (two_le (a := 1115 + 3 * al.length + 1 + 1) (b := 1200) (by omega)), ⟨Q (clW x al).1, Q (clW x al).2, Q M, Q l, H, rd_mul m3, rd_of (sub_rel l3), rd_of (add_rel s3)⟩, fun a' bl h => ?_⟩
    obtain ⟨rfl, rfl⟩ := List.cons.inj h
    rw [eM, eL]
    exact ⟨m1, l1, s1⟩
end Go.Proofs.Ytjhcalgamcdgiaa

namespace Go.Proofs.Ytjhcalgamcdgiaa
open Ieee.Own Pol

def sg (s : Bool) (z : Int) : Int := if s then -z else z
theorem sg_f (z : Int) : sg false z = z := rfl
theorem sg_RN (s : Bool) (z : Int) : RN (sg s z) = sg s (RN z) := by cases s <;> simp [sg, RN_neg]
theorem sg_RZ (s : Bool) (z : Int) : RZ (sg s z) = sg s (RZ z) := by cases s <;> simp [sg, RZ_neg]
theorem sg_add (s : Bool) (y z : Int) : sg s y + sg s z = sg s (y + z) := by cases s <;> simp [sg] <;> omega
theorem sg_sub (s : Bool) (y z : Int) : sg s y - sg s z = sg s (y - z) := by cases s <;> simp [sg] <;> omega
theorem sg_mul (s : Bool) (y z : Int) : -y * sg (!s) z = sg s (y * z) := by cases s <;> simp [sg, Int.neg_mul, Int.mul_neg]
/-- every second one negated, the first as s says -/
inductive Alt : Bool → List Nat → List Nat → Prop
  | nil (s : Bool) : Alt s [] []
  | cons {s : Bool} {a b : Nat} {al bl : List Nat} (h : V b = sg s (V a)) (t : Alt (!s) al bl) : Alt s (a :: al) (b :: bl)
theorem Alt.len {s : Bool} {al bl : List Nat} (h : Alt s al bl) : bl.length = al.length := by
  induction h with
  | nil => rfl
  | cons _ _ ih => simp [ih]
theorem mX_V {a b i j k : Nat} (ha : FinW a) (hb : FinW b) (xa : (V a).natAbs ≤ 2 ^ i) (xb : (V b).natAbs ≤ 2 ^ j) (e : i + j = k + 1074) (hk : k < 2098) : FinW (mX a b) ∧ V (mX a b) = RZ (V a * V b) ∧ (V (mX a b)).natAbs ≤ 2 ^ k := by
  obtain ⟨r, h1, h2, h3, h4⟩ := mulB ha hb xa xb e hk
  have e : mX a b = r := by unfold mX; rw [h1]; rfl
  rw [e]; exact ⟨h2, h3, h4⟩
theorem aX_V {a b k : Nat} (ha : FinW a) (hb : FinW b) (xa : (V a).natAbs ≤ 2 ^ k) (xb : (V b).natAbs ≤ 2 ^ k) (hk : k < 2000) : FinW (aX a b) ∧ V (aX a b) = RN (V a + V b) ∧ (V (aX a b)).natAbs ≤ 2 ^ (k + 1) := by
  obtain ⟨r, h1, h2, h3, h4⟩ := addW ha hb xa xb hk
  have e : aX a b = r := by unfold aX; rw [h1]; rfl
  rw [e]; exact ⟨h2, h3, h4⟩
theorem lX_V {a b k : Nat} (ha : FinW a) (hb : FinW b) (xa : (V a).natAbs ≤ 2 ^ k) (xb : (V b).natAbs ≤ 2 ^ k) (hk : k < 2000) : FinW (lX a b) ∧ V (lX a b) = RN (V a - V b) ∧ (V (lX a b)).natAbs ≤ 2 ^ (k + 1) := by
  obtain ⟨r, h1, h2, h3, h4⟩ := subW ha hb xa xb hk
  have e : lX a b = r := by unfold lX; rw [h1]; rfl
  rw [e]; exact ⟨h2, h3, h4⟩
/-- what one step of Horner's rule is -/
theorem pol_V {x : Nat} (fx : FinW x) (bx : (V x).natAbs ≤ 2 ^ 1084) {a : Nat} {al : List Nat} (hc : ∀ c ∈ a :: al, Cw c) (hl : al.length ≤ 15) : V (polW x (a :: al)) = RN (V a + RZ (V x * V (polW x al))) := by
  obtain ⟨f, b, -, -⟩ := pol_wd fx bx al (fun c h => hc c (List.mem_cons_of_mem _ h)) (by omega)
  have ca := hc a (List.mem_cons_self ..)
  obtain ⟨m2, m3, m4⟩ := mX_V (k := 1125 + 11 * al.length) fx f bx b (by omega) (by omega)
  obtain ⟨-, s3, -⟩ := aX_V (k := 1125 + 11 * al.length) ca.fin m2 (cw_up ca.bd (by omega)) m4 (by omega)
  show V (aX a (mX x (polW x al))) = _
  rw [s3, m3]
theorem pol_mir {x y : Nat} (fx : FinW x) (bx : (V x).natAbs ≤ 2 ^ 1084) (fy : FinW y) (by' : (V y).natAbs ≤ 2 ^ 1084) (e : V y = -V x) {s : Bool} {al bl : List Nat} (A : Alt s al bl) :
    (∀ c ∈ al, Cw c) → (∀ c ∈ bl, Cw c) → al.length ≤ 16 → V (polW y bl) = sg s (V (polW x al)) := by
  induction A with
  | nil s => intro _ _ _; show V 0 = sg s (V 0); rw [zeroV]; cases s <;> rfl
  | @cons s a b al bl h t ih =>
    intro ha hb hl
    have n := t.len
    have hl' : al.length ≤ 15 := by simp at hl; omega
    have i := ih (fun c h => ha c (List.mem_cons_of_mem _ h)) (fun c h => hb c (List.mem_cons_of_mem _ h)) (by omega)
    rw [pol_V fx bx ha hl', pol_V fy by' hb (by omega), i, h, e, sg_mul, sg_RZ, sg_add, sg_RN]
/-- what one step of Clenshaw's rule is -/
theorem cl_V {x : Nat} (fx : FinW x) (bx : (V x).natAbs ≤ 2 ^ 1074) {a : Nat} {al : List Nat} (hc : ∀ c ∈ a :: al, Cw c) (hl : al.length ≤ 15) :
    V (clW x (a :: al)).1 = RN (RN (RZ (2 * V x * V (clW x al).1) - V (clW x al).2) + V a) := by
  obtain ⟨⟨f, b⟩, ⟨g, e⟩, -, -⟩ := cl_wd fx bx al (fun c h => hc c (List.mem_cons_of_mem _ h)) (by omega)
  have ca := hc a (List.mem_cons_self ..)
  obtain ⟨-, fd, vd, bd⟩ := dbl_wd fx bx
  obtain ⟨m2, m3, m4⟩ := mX_V (k := 1116 + 3 * al.length) fd f bd b (by omega) (by omega)
  obtain ⟨l2, l3, l4⟩ := lX_V (k := 1116 + 3 * al.length) m2 g m4 (Nat.le_trans e (two_le (by omega))) (by omega)
  obtain ⟨-, s3, -⟩ := aX_V (k := 1116 + 3 * al.length + 1) l2 ca.fin l4 (cw_up ca.bd (by omega)) (by omega)
  show V (aX (lX (mX (aX x x) (clW x al).1) (clW x al).2) a) = _
  rw [s3, l3, m3, vd]
theorem ch_V {x : Nat} (fx : FinW x) (bx : (V x).natAbs ≤ 2 ^ 1074) {a : Nat} {al : List Nat} (hc : ∀ c ∈ a :: al, Cw c) (hl : al.length ≤ 15) :
    V (chW x (a :: al)) = RN (RN (RZ (V x * V (clW x al).1) - V (clW x al).2) + V a) := by
  obtain ⟨⟨f, b⟩, ⟨g, e⟩, -, -⟩ := cl_wd fx bx al (fun c h => hc c (List.mem_cons_of_mem _ h)) (by omega)
  have ca := hc a (List.mem_cons_self ..)
  obtain ⟨m2, m3, m4⟩ := mX_V (k := 1115 + 3 * al.length) fx f bx b (by omega) (by omega)
  obtain ⟨l2, l3, l4⟩ := lX_V (k := 1115 + 3 * al.length) m2 g m4 e (by omega)
  obtain ⟨-, s3, -⟩ := aX_V (k := 1115 + 3 * al.length + 1) l2 ca.fin l4 (cw_up ca.bd (by omega)) (by omega)
  show V (aX (lX (mX x (clW x al).1) (clW x al).2) a) = _
  rw [s3, l3, m3]
theorem cl_mir {x y : Nat} (fx : FinW x) (bx : (V x).natAbs ≤ 2 ^ 1074) (fy : FinW y) (by' : (V y).natAbs ≤ 2 ^ 1074) (e : V y = -V x) {s : Bool} {al bl : List Nat} (A : Alt s al bl) :
    (∀ c ∈ al, Cw c) → (∀ c ∈ bl, Cw c) → al.length ≤ 16 → V (clW y bl).1 = sg s (V (clW x al).1) ∧ V (clW y bl).2 = sg (!s) (V (clW x al).2) := by
  induction A with
  | nil s => intro _ _ _; show V 0 = sg s (V 0) ∧ V 0 = sg (!s) (V 0); rw [zeroV]; cases s <;> exact ⟨rfl, rfl⟩
  | @cons s a b al bl h t ih =>
    intro ha hb hl
    have n := t.len
    have hl' : al.length ≤ 15 := by simp at hl; omega
    obtain ⟨i, j⟩ := ih (fun c h => ha c (List.mem_cons_of_mem _ h)) (fun c h => hb c (List.mem_cons_of_mem _ h)) (by omega)
    refine ⟨?_, i⟩
    rw [Bool.not_not] at j
    rw [cl_V fx bx ha hl', cl_V fy by' hb (by omega), i, j, h, e, show 2 * -V x = -(2 * V x) by omega, sg_mul, sg_RZ, sg_sub, sg_RN, sg_add, sg_RN]
theorem ch_mir {x y : Nat} (fx : FinW x) (bx : (V x).natAbs ≤ 2 ^ 1074) (fy : FinW y) (by' : (V y).natAbs ≤ 2 ^ 1074) (e : V y = -V x) {al bl : List Nat} (A : Alt false al bl) (ha : ∀ c ∈ al, Cw c) (hb : ∀ c ∈ bl, Cw c) (hl : al.length ≤ 16) : V (chW y bl) = V (chW x al) := by
  cases A with
  | nil => rfl
  | cons h t =>
    rename_i a b al bl
    have n := t.len
    have hl' : al.length ≤ 15 := by simp at hl; omega
    obtain ⟨i, j⟩ := cl_mir fx bx fy by' e t (fun c h => ha c (List.mem_cons_of_mem _ h)) (fun c h => hb c (List.mem_cons_of_mem _ h)) (by omega)
    rw [Bool.not_not] at j
    rw [ch_V fx bx ha hl', ch_V fy by' hb (by omega), i, j, h, e, sg_mul, sg_f, sg_f, sg_f]

/-! ### times a power of two -/
/-- 0, or not small: a whole number of 2^p units -/
def Nsm (L : Nat) (z : Int) : Prop := z = 0 ∨ 2 ^ L ≤ z.natAbs
theorem Nsm.dvd {L : Nat} {b : Nat} (h : Nsm (L + 53) (V b)) : (2 : Int) ^ L ∣ V b := by
  rcases h with h | h
  · rw [h]; exact Int.dvd_zero _
  · exact dvd_big h
theorem Nsm.of_dvd {L : Nat} {z : Int} (h : (2 : Int) ^ L ∣ z) : Nsm L z := by
  by_cases c : z = 0
  · exact .inl c
  · right
    have := Int.natAbs_dvd_natAbs.2 h
    rw [Int.natAbs_pow] at this
    exact Nat.le_of_dvd (Int.natAbs_pos.2 c) this
theorem Nsm.le {L K : Nat} {z : Int} (h : Nsm L z) (hk : K ≤ L) : Nsm K z := h.imp id fun h => Nat.le_trans (two_le hk) h
theorem Nsm.RN {L : Nat} {z : Int} (h : Nsm L z) : Nsm L (RN z) := by
  rcases h with h | h
  · left; rw [h]; rfl
  · right
    rw [RN_abs]
    have := rn_mono h
    rwa [show rn (2 ^ L) = 2 ^ L by have := rn_exact 1 L (by omega); simpa using this] at this
theorem Nsm.cast_dvd {L : Nat} {z N : Int} {D : Nat} (hz : z = N * 2 ^ D) (h : Nsm (L + D) z) : Nsm L N := by
  rcases h with h | h
  · left
    rw [h] at hz
    rcases Int.mul_eq_zero.1 hz.symm with h | h
    · exact h
    · exact absurd h (Int.ne_of_gt (Int.pow_pos (by omega)))
  · right
    rw [hz, Int.natAbs_mul, Int.natAbs_pow, Nat.pow_add] at h
    exact Nat.le_of_mul_le_mul_right h (Nat.two_pow_pos D)
theorem rz_shift (n k : Nat) (hk : k = 1074) : rz (n * 2 ^ k) = rn n := by
  by_cases h : n = 0
  · subst h; rw [Nat.zero_mul, rz_zero, rn_zero]
  · have hl : (n * 2 ^ k).log2 = n.log2 + k := log2_shift n k h
    have hd : dz (n * 2 ^ k) = dr n + k := by unfold dz dr; rw [hl]; omega
    unfold rz rn
    rw [hd, rne_scale, ← hk, Nat.add_sub_cancel]
theorem RZ_whole {N : Int} : RZ (N * 2 ^ 1074) = RN N := by
  have key := rz_shift N.natAbs 1074 rfl
  unfold RZ Ieee.Own.RN
  rw [Int.natAbs_mul, Int.natAbs_pow, show (2 : Int).natAbs = 2 from rfl, key]
  have hp : (0 : Int) < 2 ^ 1074 := Int.pow_pos (by omega)
  have i : N * 2 ^ 1074 < 0 ↔ N < 0 := by
    generalize (2 : Int) ^ 1074 = T at *
    constructor
    · intro h
      refine Int.not_le.1 fun c => ?_
      have := Int.mul_nonneg c (Int.le_of_lt hp)
      omega
    · intro h; exact Int.mul_neg_of_neg_of_pos h hp
  by_cases c : N < 0
  · rw [if_pos c, if_pos (i.2 c)]
  · rw [if_neg c, if_neg (fun h => c (i.1 h))]
end Go.Proofs.Ytjhcalgamcdgiaa

namespace Go.Proofs.Ytjhcalgamcdgiaa
open Ieee.Own Pol

/-- a coefficient: 0, or not small -/
structure Fw (c : Nat) : Prop extends Cw c where
  big : Nsm (820 + 53 + 1) (V c)
theorem pow_parts {p q d : Nat} (h : d ≤ p + q) : (2 : Int) ^ p * 2 ^ q = 2 ^ (p + q - d) * 2 ^ d := by
  rw [← Int.pow_add, ← Int.pow_add, Nat.sub_add_cancel h]
theorem prod_whole {a b : Int} {p q d : Nat} (ha : (2 : Int) ^ p ∣ a) (hb : (2 : Int) ^ q ∣ b) (h : d ≤ p + q) : ∃ N, a * b = N * 2 ^ d := by
  obtain ⟨c, rfl⟩ := ha
  obtain ⟨e, rfl⟩ := hb
  refine ⟨2 ^ (p + q - d) * (c * e), ?_⟩
  have := pow_parts h
  calc 2 ^ p * c * (2 ^ q * e) = (2 ^ p * 2 ^ q) * (c * e) := by simp only [Int.mul_assoc, Int.mul_left_comm c]
    _ = 2 ^ (p + q - d) * 2 ^ d * (c * e) := by rw [this]
    _ = 2 ^ (p + q - d) * (c * e) * 2 ^ d := by simp only [Int.mul_assoc, Int.mul_comm (2 ^ d)]
theorem nsm_prod {a b : Int} {i j : Nat} (ha : Nsm i a) (hb : Nsm j b) : Nsm (i + j) (a * b) := by
  rcases ha with ha | ha
  · left; rw [ha, Int.zero_mul]
  · rcases hb with hb | hb
    · left; rw [hb, Int.mul_zero]
    · right
      rw [Int.natAbs_mul, Nat.pow_add]
      exact Nat.mul_le_mul ha hb
theorem sum_big {c m : Int} {k : Nat} (h1 : 2 ^ (k + 1) ≤ c.natAbs) (h2 : ¬ 2 ^ k ≤ m.natAbs) : 2 ^ k ≤ (c + m).natAbs := by
  rw [two_succ k] at h1
  generalize 2 ^ k = T at *
  omega
theorem nsm_big {c m : Int} {k : Nat} (h1 : 2 ^ (k + 1) ≤ c.natAbs) (h2 : ¬ 2 ^ k ≤ m.natAbs) : Nsm k (Ieee.Own.RN (c + m)) := Nsm.RN (.inr (sum_big h1 h2))
/-- a product's value, not small -/
theorem mul_big {x p : Nat} {L : Nat} (hx : Nsm 1064 (V x)) (hp : Nsm L (V p)) (hL : 660 ≤ L) : ∃ N, V x * V p = N * 2 ^ 1074 ∧ Nsm (L - 10) N := by
  have dx := Nsm.dvd (L := 1011) (b := x) (hx.le (by omega))
  have dp := Nsm.dvd (L := L - 53) (b := p) (hp.le (by omega))
  obtain ⟨N, hN⟩ := prod_whole (d := 1074) dx dp (by omega)
  refine ⟨N, hN, ?_⟩
  have n := nsm_prod hx hp
  exact Nsm.cast_dvd hN (n.le (K := L - 10 + 1074) (by omega))
theorem pol_big {x : Nat} (fx : FinW x) (bx : (V x).natAbs ≤ 2 ^ 1084) (hx : Nsm 1064 (V x)) : ∀ (al : List Nat), (∀ c ∈ al, Fw c) → al.length ≤ 16 → Nsm (820 - 10 * al.length) (V (polW x al))
  | [], _, _ => .inl (show V 0 = 0 from zeroV)
  | a :: al, hc, hl => by
    have hl' : al.length ≤ 15 := by simp at hl; omega
    have ih := pol_big fx bx hx al (fun c h => hc c (List.mem_cons_of_mem _ h)) (by omega)
    have hc' : ∀ c ∈ a :: al, Cw c := fun c h => (hc c h).toCw
    obtain ⟨f, b, -, -⟩ := pol_wd fx bx al (fun c h => hc' c (List.mem_cons_of_mem _ h)) (by omega)
    obtain ⟨-, m3, -⟩ := mX_V (k := 1125 + 11 * al.length) fx f bx b (by omega) (by omega)
    have ca := hc a (List.mem_cons_self ..)
    obtain ⟨N, hN, nN⟩ := mul_big hx ih (by omega)
    rw [pol_V fx bx hc' hl', ← m3]
    have mM : Nsm (820 - 10 * al.length - 10) (V (mX x (polW x al))) := by rw [m3, hN, RZ_whole]; exact nN.RN
    have le : 820 - 10 * (a :: al).length = 820 - 10 * al.length - 10 := by simp; omega
    rw [le]
    rcases ca.big with z | z
    · rw [z, Int.zero_add]; exact mM.RN
    · by_cases big : 2 ^ (820 + 53) ≤ (V (mX x (polW x al))).natAbs
      · have d1 := Nsm.dvd (L := 820) (b := mX x (polW x al)) (.inr big)
        have d2 := Nsm.dvd (L := 820) (b := a) (ca.big.le (by omega))
        exact (Nsm.of_dvd (RN_dvd (Int.dvd_add d2 d1))).le (by omega)
      · exact (nsm_big (k := 820 + 53) z big).le (by omega)
/-- times 2^i against times 2^j -/
theorem pol_scale {x i j : Nat} (fx : FinW x) (bx : (V x).natAbs ≤ 2 ^ 1084) (hx : Nsm 1064 (V x)) : ∀ (al bl : List Nat), al.length = bl.length → (∀ k, k < al.length → V (bl.getD k 0) * 2 ^ j = V (al.getD k 0) * 2 ^ i) → (∀ c ∈ al, Fw c) → (∀ c ∈ bl, Fw c) → al.length ≤ 16 →
    V (polW x bl) * 2 ^ j = V (polW x al) * 2 ^ i
  | [], [], _, _, _, _, _ => by show V 0 * _ = V 0 * _; rw [zeroV, Int.zero_mul, Int.zero_mul]
  | a :: al, b :: bl, e, h, ha, hb, hl => by
    have hl' : al.length ≤ 15 := by simp at hl; omega
    have e' : al.length = bl.length := by simpa using e
    have ha' : ∀ c ∈ al, Fw c := fun c h => ha c (List.mem_cons_of_mem _ h)
    have hb' : ∀ c ∈ bl, Fw c := fun c h => hb c (List.mem_cons_of_mem _ h)
    have ih := pol_scale (i := i) (j := j) fx bx hx al bl e' (fun k hk => by
      have := h (k + 1) (by simp; omega)
      rwa [List.getD_cons_succ, List.getD_cons_succ] at this) ha' hb' (by omega)
    have h0 := h 0 (by simp)
    rw [List.getD_cons_zero, List.getD_cons_zero] at h0
    have pa := pol_big fx bx hx al ha' (by omega)
    have pb := pol_big fx bx hx bl hb' (by omega)
    obtain ⟨N, hN, -⟩ := mul_big hx pa (by omega)
    obtain ⟨K, hK, -⟩ := mul_big hx pb (by omega)
    rw [pol_V fx bx (fun c h => (ha c h).toCw) hl', pol_V fx bx (fun c h => (hb c h).toCw) (by omega), hN, hK, RZ_whole, RZ_whole, ← RN_scale, ← RN_scale, Int.add_mul, Int.add_mul, h0, ← RN_scale, ← RN_scale]
    have key : K * 2 ^ j = N * 2 ^ i := by
      have t : (0 : Int) < 2 ^ 1074 := Int.pow_pos (by omega)
      have : K * 2 ^ j * 2 ^ 1074 = N * 2 ^ i * 2 ^ 1074 := by
        rw [Int.mul_right_comm K, ← hK, Int.mul_right_comm N, ← hN, Int.mul_assoc, ih, Int.mul_assoc]
      exact Int.eq_of_mul_eq_mul_right (Int.ne_of_gt t) this
    rw [key]
  | [], _ :: _, e, _, _, _, _ => by simp at e
  | _ :: _, [], e, _, _, _, _ => by simp at e
end Go.Proofs.Ytjhcalgamcdgiaa

namespace Go.Proofs.Ytjhcalgamcdgiaa
open Go.ChangeShapes Go.WideShapes Go.ChangeAt Go.RowKit Ieee.Own

/-- a number as a span -/
def ptS (c : Nat) : Pr := (posW c, posW c)
def SubR (p q u : Pr) : Prop := OpIs (errSS p.1 p.2 q.1 q.2) (fun v => V p.1 - V q.2 - v) (fun v => V p.2 - V q.1 - v) (.returned (spanE u.1 u.2 0))
theorem SubR.uniq {p q u v : Pr} (h : SubR p q u) (k : SubR p q v) : u = v := pair_of (h.all.uniq k.all)
/-- HornerSpan -/
def HsR (X : Pr) : List Nat → Pr → Prop
  | [], P => P = (0, 0)
  | c :: cs, P => ∃ P' M, HsR X cs P' ∧ MulR X P' M ∧ AddR (ptS c) M P
theorem HsR.uniq {X : Pr} : ∀ {cs : List Nat} {P R : Pr}, HsR X cs P → HsR X cs R → P = R
  | [], P, R, h, k => by
    have h : P = (0, 0) := h
    have k : R = (0, 0) := k
    rw [h, k]
  | _ :: _, _, _, ⟨P', M, h1, h2, h3⟩, ⟨R', N, k1, k2, k3⟩ => by
    obtain rfl := HsR.uniq h1 k1
    obtain rfl := h2.uniq k2
    exact h3.uniq k3
/-- ChebSpan's two spans -/
def CsR (W : Pr) : List Nat → Pr → Pr → Prop
  | [], B, D => B = (0, 0) ∧ D = (0, 0)
  | c :: cs, B, D => ∃ D' M N, CsR W cs D D' ∧ MulR W D M ∧ SubR M D' N ∧ AddR N (ptS c) B
theorem CsR.uniq {W : Pr} : ∀ {cs : List Nat} {B D B' D' : Pr}, CsR W cs B D → CsR W cs B' D' → B = B' ∧ D = D'
  | [], _, _, _, _, ⟨h1, h2⟩, ⟨k1, k2⟩ => ⟨by rw [h1, k1], by rw [h2, k2]⟩
  | _ :: _, _, _, _, _, ⟨D2, M, N, h1, h2, h3, h4⟩, ⟨E2, K, L, k1, k2, k3, k4⟩ => by
    obtain ⟨rfl, rfl⟩ := CsR.uniq h1 k1
    obtain rfl := h2.uniq k2
    obtain rfl := h3.uniq k3
    exact ⟨h4.uniq k4, rfl⟩
/-- ChebSpan -/
def ChR (X : Pr) : List Nat → Pr → Prop
  | [], P => P = (0, 0)
  | c :: cs, P => ∃ W B D M N, AddR X X W ∧ CsR W cs B D ∧ MulR X B M ∧ SubR M D N ∧ AddR N (ptS c) P
theorem ChR.uniq {X : Pr} {cs : List Nat} {P R : Pr} (h : ChR X cs P) (k : ChR X cs R) : P = R := by
  cases cs with
  | nil =>
    have h : P = (0, 0) := h
    have k : R = (0, 0) := k
    rw [h, k]
  | cons c cs =>
    obtain ⟨W, B, D, M, N, h0, h1, h2, h3, h4⟩ := h
    obtain ⟨W', B', D', M', N', k0, k1, k2, k3, k4⟩ := k
    obtain rfl := h0.uniq k0
    obtain ⟨rfl, rfl⟩ := h1.uniq k1
    obtain rfl := h2.uniq k2
    obtain rfl := h3.uniq k3
    exact h4.uniq k4

/-! ### nothing grows too great -/
def hw (a b : Nat) : Nat := (1053 + 10 * b) * 4503599627370496 + a * 281474976710656
def nhw (a b : Nat) : Nat := hw a b + 9223372036854775808
def capT (a b : Nat) : Int := (16 + a) * 2 ^ (1100 + 10 * b)
theorem hw_all : ∀ a, a < 17 → ∀ b, b < 17 → V (hw a b) = capT a b ∧ V (nhw a b) = -capT a b ∧
    (hw a b < 18446744073709551616 ∧ hw a b % 9223372036854775808 < 9218868437227405312) ∧ (nhw a b < 18446744073709551616 ∧ nhw a b % 9223372036854775808 < 9218868437227405312) ∧
    V (lowW (nhw a b)) = -capT a b ∧ V (highW (hw a b)) = capT a b ∧ capT a b ≤ mostV := by decide +kernel
/-- the same with a word's bound -/
structure Cap (T : Int) (t n : Nat) : Prop where
  vt : V t = T
  vn : V n = -T
  ft : FinW t
  fn : FinW n
  lo : V (lowW n) = -T
  hi : V (highW t) = T
  top : T ≤ mostV
theorem cap_hw {a b : Nat} (h : a < 17) (g : b < 17) : Cap (capT a b) (hw a b) (nhw a b) := by
  obtain ⟨t1, t2, t3, t4, t5, t6, t7⟩ := hw_all a h b g
  exact ⟨t1, t2, t3, t4, t5, t6, t7⟩
theorem cap_tw {m : Nat} (h : m < 100) : Cap (2 ^ (1074 + m)) (tw m) (ntw m) := by
  obtain ⟨t1, t2, t3, t4, t5, t6, t7⟩ := tw_all m h
  exact ⟨t1, t2, t3, t4, t5, t6, t7⟩
theorem told_cap {er : Int} {cs ds : List (Int → Int)} {x y : Nat} {k T : Int} {t n : Nat} (C : Cap T t n) (h : OpAll er cs ds (.returned (spanE x y k))) (h0 : er = 0)
    (hc : ∀ c ∈ cs, 0 ≤ c (-T)) (hd : ∀ d ∈ ds, d T ≤ 0) : k = 0 ∧ -T ≤ V x ∧ V y ≤ T := by
  obtain ⟨lo, hi, e, d, u⟩ := h.1 h0
  have a := d.top n C.fn (fun c hcs => by rw [C.vn]; exact hc c hcs)
  have b := u.low t C.ft (fun c hcs => by rw [C.vt]; exact hd c hcs)
  have a' := lowW_mono (x := n) (y := lo) a
  have b' := highW_mono (x := hi) (y := t) b
  rw [C.lo] at a'
  rw [C.hi] at b'
  have e' : toldE lo hi = spanE x y k := (Ending.returned.inj e).symm
  have nb := most_aux a' b' C.top
  unfold toldE at e'
  rw [if_neg nb] at e'
  obtain ⟨rfl, rfl, rfl⟩ := spanE_inj e'
  exact ⟨rfl, a', b'⟩
/-- a span within T -/
structure Wn (p : Pr) (T : Int) : Prop where
  l1 : p.1 < 18446744073709551616
  l2 : p.2 < 18446744073709551616
  ok : errS p.1 p.2 = 0
  lo : -T ≤ V p.1
  hi : V p.2 ≤ T
theorem Wn.le {p : Pr} {T S : Int} (h : Wn p T) (hs : T ≤ S) : Wn p S := ⟨h.l1, h.l2, h.ok, by have := h.lo; omega, by have := h.hi; omega⟩
theorem Wn.ends {p : Pr} {T : Int} (h : Wn p T) : (-T ≤ V p.1 ∧ V p.1 ≤ T) ∧ (-T ≤ V p.2 ∧ V p.2 ≤ T) := by
  obtain ⟨-, -, l⟩ := errS_zero h.ok
  have a := h.lo
  have b := h.hi
  omega
theorem add_wn {p q : Pr} {A B T : Int} {t n : Nat} (C : Cap T t n) (hp : Wn p A) (hq : Wn q B) (hT : A + B ≤ T) : ∃ u, Wn u T ∧ AddR p q u ∧ AddSp (ps p) (ps q) (ps u) := by
  obtain ⟨f1, f2, l1⟩ := errS_zero hp.ok
  obtain ⟨g1, g2, l2⟩ := errS_zero hq.ok
  obtain ⟨s, e, R, ⟨-, -, K, hK, hs, -⟩, -⟩ := sum_fit p.1 q.1 hp.l1 hq.l1 f1 g1
  obtain ⟨t', d, R', ⟨-, -, K', hK', hs', -⟩, -⟩ := sum_fit p.2 q.2 hp.l2 hq.l2 f2 g2
  have X := sum_dn R (bd_of hs hK)
  have Y := sum_up R' (bd_of hs' hK')
  have h0 := errSS_of' hp.ok hq.ok
  obtain ⟨x, y, c, ht⟩ := toldE_span (dnW (V e < 0) s) (upW (0 < V d) t')
  have O : OpIs (errSS p.1 p.2 q.1 q.2) (fun v => V p.1 + V q.1 - v) (fun v => V p.2 + V q.2 - v) (.returned (spanE x y c)) := ⟨fun _ => ⟨_, _, by rw [ht], X, Y⟩, fun h => absurd h0 h⟩
  have a := hp.ends
  have b := hq.ends
  obtain ⟨rfl, lo, hi⟩ := told_cap C O.all h0 (fun c hc => by rw [List.mem_singleton.1 hc]; show 0 ≤ V p.1 + V q.1 - -T; omega) (fun c hc => by rw [List.mem_singleton.1 hc]; show V p.2 + V q.2 - T ≤ 0; omega)
  obtain ⟨f, S⟩ := sum_sp O rfl h0
  have q' : V x ≤ V y := Q_le.1 (q_chain S.1 S.2 ((Q_le (a := p.1) (b := p.2)).2 l1) ((Q_le (a := q.1) (b := q.2)).2 l2))
  obtain ⟨lx, ly, -⟩ := O.all.bd
  exact ⟨(x, y), ⟨lx, ly, errS_of f q', lo, hi⟩, O, S⟩
theorem prod_cap {a b A B T z : Int} (h1 : -A ≤ a) (h2 : a ≤ A) (h3 : -B ≤ b) (h4 : b ≤ B) (e : z * MM = a * b) (hT : A * B ≤ T * MM) : -T ≤ z ∧ z ≤ T := by
  have hm := MM_pos
  have A0 : 0 ≤ A := by omega
  have B0 : 0 ≤ B := by omega
  have c1 : a * b ≤ A * B := by
    have p := Int.mul_nonneg (show 0 ≤ A - a by omega) (show 0 ≤ B + b by omega)
    have q := Int.mul_nonneg (show 0 ≤ A + a by omega) (show 0 ≤ B - b by omega)
    grind
  have c2 : -(A * B) ≤ a * b := by
    have p := Int.mul_nonneg (show 0 ≤ A - a by omega) (show 0 ≤ B - b by omega)
    have q := Int.mul_nonneg (show 0 ≤ A + a by omega) (show 0 ≤ B + b by omega)
    grind
  constructor
  · refine Int.le_of_mul_le_mul_right (a := MM) ?_ hm
    rw [Int.neg_mul]; omega
  · refine Int.le_of_mul_le_mul_right (a := MM) ?_ hm
    omega
theorem mul_wn {p q : Pr} {A B T : Int} {t n : Nat} (C : Cap T t n) (hp : Wn p A) (hq : Wn q B) (hT : A * B ≤ T * MM) : ∃ u, Wn u T ∧ MulR p q u ∧ MulSp (ps p) (ps q) (ps u) := by
  obtain ⟨f1, f2, -⟩ := errS_zero hp.ok
  obtain ⟨g1, g2, -⟩ := errS_zero hq.ok
  obtain ⟨_, _, -, -, -, d1, u1⟩ := rcorner hp.l1 hq.l1 f1 g1
  obtain ⟨_, _, -, -, -, d2, u2⟩ := rcorner hp.l1 hq.l2 f1 g2
  obtain ⟨_, _, -, -, -, d3, u3⟩ := rcorner hp.l2 hq.l1 f2 g1
  obtain ⟨_, _, -, -, -, d4, u4⟩ := rcorner hp.l2 hq.l2 f2 g2
  have F := four_of d1 d2 d3 d4 u1 u2 u3 u4 (falls_prod _ _) (falls_prod _ _) (falls_prod _ _) (falls_prod _ _)
  have h0 := errSS_of' hp.ok hq.ok
  obtain ⟨x, y, c, ht⟩ := toldE_span _ _
  have O : OpAll (errSS p.1 p.2 q.1 q.2) [prodC p.1 q.1, prodC p.1 q.2, prodC p.2 q.1, prodC p.2 q.2] [prodC p.1 q.1, prodC p.1 q.2, prodC p.2 q.1, prodC p.2 q.2] (.returned (spanE x y c)) := ⟨fun _ => ⟨_, _, by rw [ht], F.lo, F.hi⟩, fun h => absurd h0 h⟩
  obtain ⟨⟨a1, a2⟩, a3, a4⟩ := hp.ends
  obtain ⟨⟨b1, b2⟩, b3, b4⟩ := hq.ends
  have c1 := prod_cap a1 a2 b1 b2 (prod_ex hp.l1 hq.l1 f1 g1) hT
  have c2 := prod_cap a1 a2 b3 b4 (prod_ex hp.l1 hq.l2 f1 g2) hT
  have c3 := prod_cap a3 a4 b1 b2 (prod_ex hp.l2 hq.l1 f2 g1) hT
  have c4 := prod_cap a3 a4 b3 b4 (prod_ex hp.l2 hq.l2 f2 g2) hT
  obtain ⟨rfl, lo, hi⟩ := told_cap C O h0
    (by
      intro c hc
      simp only [List.mem_cons, List.not_mem_nil, or_false] at hc
      rcases hc with rfl | rfl | rfl | rfl
      · exact prod_aux1 c1.1
      · exact prod_aux1 c2.1
      · exact prod_aux1 c3.1
      · exact prod_aux1 c4.1)
    (by
      intro c hc
      simp only [List.mem_cons, List.not_mem_nil, or_false] at hc
      rcases hc with rfl | rfl | rfl | rfl
      · exact prod_aux2 c1.2
      · exact prod_aux2 c2.2
      · exact prod_aux2 c3.2
      · exact prod_aux2 c4.2)
  obtain ⟨f, S⟩ := prod_sp hp.l1 hp.l2 hq.l1 hq.l2 O rfl h0
  have q' := Q_le.1 (Rat.le_trans S.1.1 S.2.1)
  obtain ⟨lx, ly, -⟩ := O.bd
  exact ⟨(x, y), ⟨lx, ly, errS_of f q', lo, hi⟩, O, S⟩
end Go.Proofs.Ytjhcalgamcdgiaa

namespace Go.Proofs.Ytjhcalgamcdgiaa
open Go.ChangeShapes Go.WideShapes Go.ChangeAt Go.RowKit Ieee.Own Pol

/-- a coefficient, as the checks let it through -/
structure Fc (c : Nat) : Prop where
  lt : c < 18446744073709551616
  fit : fitB c = true
  bd : (V c).natAbs ≤ 2 ^ 1114
theorem abs_pow {z : Int} {k : Nat} (h : z.natAbs ≤ 2 ^ k) : -(2 ^ k) ≤ z ∧ z ≤ (2 : Int) ^ k := by
  have e := pow_int k
  omega
theorem pt_wn {c : Nat} (h : Fc c) : Wn (ptS c) (2 ^ 1114) ∧ In (Q c) (ps (ptS c)) := by
  have f := pos_fit h.lt h.fit
  have b := abs_pow h.bd
  refine ⟨⟨f.2, f.2, errS_of ⟨f.1, f.1⟩ (Int.le_refl _), ?_, ?_⟩, ?_⟩
  · show -(2 ^ 1114) ≤ V (posW c); rw [posW_V]; exact b.1
  · show V (posW c) ≤ 2 ^ 1114; rw [posW_V]; exact b.2
  · have e : Q (posW c) = Q c := Q_congr (posW_V c)
    show Q (posW c) ≤ Q c ∧ Q c ≤ Q (posW c)
    rw [e]; exact ⟨Rat.le_refl, Rat.le_refl⟩
theorem zero_wn {T : Int} (h : 0 ≤ T) : Wn (0, 0) T := ⟨by decide, by decide, by decide +kernel, by show -T ≤ V 0; rw [zeroV]; omega, by show V 0 ≤ T; rw [zeroV]; exact h⟩
theorem zero_in : In 0 (ps (0, 0)) := by
  show Q 0 ≤ 0 ∧ 0 ≤ Q 0
  have : Q 0 = 0 := by decide +kernel
  rw [this]; exact ⟨Rat.le_refl, Rat.le_refl⟩
theorem pow_le_pow' {a b : Nat} (h : a ≤ b) : (2 : Int) ^ a ≤ 2 ^ b := by
  rw [pow_int, pow_int]; exact Int.ofNat_le.2 (two_le h)
theorem pow_plus (a b : Nat) : (2 : Int) ^ (a + b) = 2 ^ a * 2 ^ b := Int.pow_add ..
/-- the bounds of Horner's rule's spans -/
def hbT : Nat → Int
  | 0 => 0
  | n + 1 => capT (n + 1) (n + 1)
theorem hb_mul (n : Nat) : 2 ^ 1084 * capT n n ≤ capT n (n + 1) * MM := by
  have e : capT n (n + 1) = capT n n * 2 ^ 10 := by
    unfold capT
    rw [show 1100 + 10 * (n + 1) = 1100 + 10 * n + 10 by omega, pow_plus, ← Int.mul_assoc]
  have f : (2 : Int) ^ 1084 = 2 ^ 10 * MM := by unfold MM; rw [← pow_plus]
  rw [e, f, Int.mul_assoc (capT n n), Int.mul_comm]
  exact Int.le_refl _
theorem hb_add (n : Nat) (h : 1 ≤ n) : 2 ^ 1114 + capT n (n + 1) ≤ capT (n + 1) (n + 1) := by
  have p : (2 : Int) ^ 1114 ≤ 2 ^ (1100 + 10 * (n + 1)) := pow_le_pow' (by omega)
  unfold capT
  have e : (16 + ((n + 1 : Nat) : Int)) * 2 ^ (1100 + 10 * (n + 1)) = (16 + (n : Int)) * 2 ^ (1100 + 10 * (n + 1)) + 2 ^ (1100 + 10 * (n + 1)) := by
    rw [show (16 + ((n + 1 : Nat) : Int)) = (16 + (n : Int)) + 1 by omega, Int.add_mul, Int.one_mul]
  rw [e]
  omega
theorem hb_one : 2 ^ 1114 + capT 0 0 ≤ capT 1 1 := by decide +kernel
theorem capT_nn (a b : Nat) : 0 ≤ capT a b := Int.mul_nonneg (by omega) (Int.pow_nonneg (by omega))
theorem hs_ex {X : Pr} (hX : Wn X (2 ^ 1084)) : ∀ (cs : List Nat), (∀ c ∈ cs, Fc c) → cs.length ≤ 16 → ∃ P, Wn P (hbT cs.length) ∧ HsR X cs P ∧ ∀ x, In x (ps X) → In (hv x (cs.map Q)) (ps P)
  | [], _, _ => ⟨(0, 0), zero_wn (Int.le_refl _), rfl, fun _ _ => zero_in⟩
  | c :: cs, hc, hl => by
    have hl' : cs.length ≤ 15 := by simp at hl; omega
    obtain ⟨P', w, R, I⟩ := hs_ex hX cs (fun c h => hc c (List.mem_cons_of_mem _ h)) (by omega)
    obtain ⟨pc, pin⟩ := pt_wn (hc c (List.mem_cons_self ..))
    have key : ∃ M P, MulR X P' M ∧ MulSp (ps X) (ps P') (ps M) ∧ Wn P (hbT (cs.length + 1)) ∧ AddR (ptS c) M P ∧ AddSp (ps (ptS c)) (ps M) (ps P) := by
      generalize cs.length = n at *
      cases n with
      | zero =>
        obtain ⟨M, m1, m2, m3⟩ := mul_wn (cap_hw (a := 0) (b := 0) (by omega) (by omega)) hX w (by
          show 2 ^ 1084 * 0 ≤ _
          rw [Int.mul_zero]; exact Int.mul_nonneg (capT_nn 0 0) (Int.le_of_lt MM_pos))
        obtain ⟨P, p1, p2, p3⟩ := add_wn (cap_hw (a := 1) (b := 1) (by omega) (by omega)) pc m1 hb_one
        exact ⟨M, P, m2, m3, p1, p2, p3⟩
      | succ n =>
        obtain ⟨M, m1, m2, m3⟩ := mul_wn (cap_hw (a := n + 1) (b := n + 1 + 1) (by omega) (by omega)) hX w (hb_mul (n + 1))
        obtain ⟨P, p1, p2, p3⟩ := add_wn (cap_hw (a := n + 1 + 1) (b := n + 1 + 1) (by omega) (by omega)) pc m1 (hb_add (n + 1) (by omega))
        exact ⟨M, P, m2, m3, p1, p2, p3⟩
    obtain ⟨M, P, m2, m3, p1, p2, p3⟩ := key
    exact ⟨P, p1, ⟨P', M, R, m2, p2⟩, fun x hx => pin.add (hx.mul (I x hx) m3) p3⟩

/-! ### ChebSpan -/
def SubSp (A B C : Sp) : Prop := C.1 ≤ A.1 - B.2 ∧ A.2 - B.1 ≤ C.2
theorem _root_.Go.Proofs.Ytjhcalgamcdgiaa.In.sub {x y : Rat} {A B C : Sp} (hx : In x A) (hy : In y B) (h : SubSp A B C) : In (x - y) C := by
  obtain ⟨h1, h2⟩ := hx
  obtain ⟨h3, h4⟩ := hy
  obtain ⟨h5, h6⟩ := h
  exact ⟨by grind, by grind⟩
theorem sub_wn {p q : Pr} {A B T : Int} {t n : Nat} (C : Cap T t n) (hp : Wn p A) (hq : Wn q B) (hT : A + B ≤ T) : ∃ u, Wn u T ∧ SubR p q u ∧ SubSp (ps p) (ps q) (ps u) := by
  obtain ⟨g1, g2, l2⟩ := errS_zero hq.ok
  have v1 := negW_V (fit_fin hq.l1 g1)
  have v2 := negW_V (fit_fin hq.l2 g2)
  have lo := hq.lo
  have hi := hq.hi
  have nq : Wn (negW q.2, negW q.1) B := by
    refine ⟨negW_lt64 hq.l2, negW_lt64 hq.l1, errS_of ⟨?_, ?_⟩ ?_, ?_, ?_⟩
    · rw [fit_neg hq.l2]; exact g2
    · rw [fit_neg hq.l1]; exact g1
    · show V (negW q.2) ≤ V (negW q.1); omega
    · show -B ≤ V (negW q.2); omega
    · show V (negW q.1) ≤ B; omega
  obtain ⟨u, w, O, S⟩ := add_wn C hp nq hT
  have e1 := errSS_of' hp.ok hq.ok
  have e2 := errSS_of' hp.ok nq.ok
  dsimp only at e2
  refine ⟨u, w, ?_, ?_⟩
  · unfold AddR at O
    dsimp only at O
    rw [e2, v1, v2, ← Int.sub_eq_add_neg, ← Int.sub_eq_add_neg] at O
    unfold SubR
    rw [e1]
    exact O
  · obtain ⟨s1, s2⟩ := S
    have q1 : Q (negW q.2) = -Q q.2 := Q_neg v2
    have q2 : Q (negW q.1) = -Q q.1 := Q_neg v1
    replace s1 : Q u.1 ≤ Q p.1 + Q (negW q.2) := s1
    replace s2 : Q p.2 + Q (negW q.1) ≤ Q u.2 := s2
    rw [q1] at s1
    rw [q2] at s2
    exact ⟨by show Q u.1 ≤ Q p.1 - Q q.2; grind, by show Q p.2 - Q q.1 ≤ Q u.2; grind⟩
theorem cs_mul (k : Nat) : 2 ^ 1075 * 2 ^ (1074 + k) ≤ (2 : Int) ^ (1074 + (k + 1)) * MM := by
  have f : (2 : Int) ^ 1075 = 2 ^ 1 * MM := by unfold MM; rw [← pow_plus]
  rw [f, show 1074 + (k + 1) = 1074 + k + 1 by omega, pow_plus (1074 + k) 1, Int.mul_comm (2 ^ 1 * MM), Int.mul_assoc]
  exact Int.le_refl _
theorem cs_dbl (k : Nat) {j : Nat} (h : j ≤ 1074 + k) : (2 : Int) ^ (1074 + k) + 2 ^ j ≤ 2 ^ (1074 + (k + 1)) := by
  have a := pow_le_pow' h
  have b := pow_next (1074 + k)
  rw [show 1074 + (k + 1) = 1074 + k + 1 by omega]
  omega
theorem cs_ex {W : Pr} (hW : Wn W (2 ^ 1075)) : ∀ (cs : List Nat), (∀ c ∈ cs, Fc c) → cs.length ≤ 16 → ∃ B D, Wn B (2 ^ (1074 + (40 + 3 * cs.length))) ∧ Wn D (2 ^ (1074 + (40 + 3 * cs.length))) ∧ CsR W cs B D ∧ ∀ x, In (2 * x) (ps W) → In (Pol.cl x (cs.map Q)).1 (ps B) ∧ In (Pol.cl x (cs.map Q)).2 (ps D)
  | [], _, _ => ⟨(0, 0), (0, 0), zero_wn (Int.pow_nonneg (by omega)), zero_wn (Int.pow_nonneg (by omega)), ⟨rfl, rfl⟩, fun _ _ => ⟨zero_in, zero_in⟩⟩
  | c :: cs, hc, hl => by
    have hl' : cs.length ≤ 15 := by simp at hl; omega
    obtain ⟨B, D, wB, wD, R, I⟩ := cs_ex hW cs (fun c h => hc c (List.mem_cons_of_mem _ h)) (by omega)
    obtain ⟨pc, pin⟩ := pt_wn (hc c (List.mem_cons_self ..))
    have e : 40 + 3 * (c :: cs).length = 40 + 3 * cs.length + 1 + 1 + 1 := by simp; omega
    rw [e]
    generalize hk : 40 + 3 * cs.length = k at *
    obtain ⟨M, m1, m2, m3⟩ := mul_wn (cap_tw (m := k + 1) (by omega)) hW wB (cs_mul k)
    obtain ⟨N, n1, n2, n3⟩ := sub_wn (cap_tw (m := k + 1 + 1) (by omega)) m1 wD (cs_dbl (k + 1) (j := 1074 + k) (by omega))
    obtain ⟨P, p1, p2, p3⟩ := add_wn (cap_tw (m := k + 1 + 1 + 1) (by omega)) n1 pc (cs_dbl (k + 1 + 1) (j := 1114) (by omega))
    refine ⟨P, B, p1, wB.le (pow_le_pow' (by omega)), ⟨D, M, N, R, m2, n2, p2⟩, fun x hx => ?_⟩
    obtain ⟨i, j⟩ := I x hx
    refine ⟨?_, i⟩
    have r := ((hx.mul i m3).sub j n3).add pin p3
    show In (2 * (x * (Pol.cl x (cs.map Q)).1) - (Pol.cl x (cs.map Q)).2 + Q c) (ps P)
    rwa [show 2 * (x * (Pol.cl x (cs.map Q)).1) = 2 * x * (Pol.cl x (cs.map Q)).1 by grind]
theorem ch_ex {X : Pr} (hX : Wn X (2 ^ 1074)) (cs : List Nat) (hc : ∀ c ∈ cs, Fc c) (hl : cs.length ≤ 16) : ∃ P, Wn P (2 ^ (1074 + 92)) ∧ ChR X cs P ∧ ∀ x, In x (ps X) → In (chv x (cs.map Q)) (ps P) := by
  cases cs with
  | nil => exact ⟨(0, 0), zero_wn (Int.pow_nonneg (by omega)), rfl, fun _ _ => zero_in⟩
  | cons c cs =>
    have hl' : cs.length ≤ 15 := by simp at hl; omega
    obtain ⟨pc, pin⟩ := pt_wn (hc c (List.mem_cons_self ..))
    obtain ⟨W, w1, w2, w3⟩ := add_wn (cap_tw (m := 0 + 1) (by omega)) hX hX (cs_dbl 0 (j := 1074) (by omega))
    obtain ⟨B, D, wB, wD, R, I⟩ := cs_ex w1 cs (fun c h => hc c (List.mem_cons_of_mem _ h)) (by omega)
    generalize hk : 40 + 3 * cs.length = k at *
    obtain ⟨M, m1, m2, m3⟩ := mul_wn (cap_tw (m := k) (by omega)) hX wB (by
      show (2 : Int) ^ 1074 * 2 ^ (1074 + k) ≤ _
      rw [Int.mul_comm]; exact Int.le_refl _)
    obtain ⟨N, n1, n2, n3⟩ := sub_wn (cap_tw (m := k + 1) (by omega)) m1 wD (cs_dbl k (j := 1074 + k) (by omega))
    obtain ⟨P, p1, p2, p3⟩ := add_wn (cap_tw (m := k + 1 + 1) (by omega)) n1 pc (cs_dbl (k + 1) (j := 1114) (by omega))
    refine ⟨P, p1.le (pow_le_pow' (by omega)), ⟨W, B, D, M, N, w2, R, m2, n2, p2⟩, fun x hx => ?_⟩
    have hx2 : In (2 * x) (ps W) := by
      have := hx.add hx w3
      rwa [show x + x = 2 * x by grind] at this
    obtain ⟨i, j⟩ := I x hx2
    exact ((hx.mul i m3).sub j n3).add pin p3
end Go.Proofs.Ytjhcalgamcdgiaa

namespace Pol
open Go.Proofs.Ytjhcalgamcdgiaa
/-- the weight, rounded step by step, from s and the power p on -/
def WtA (u t m : Rat) : Rat → Rat → List Rat → Rat → Prop
  | s, _, [], r => r = s
  | s, p, a :: al, r => ∃ T P S, (0 ≤ T ∧ 0 ≤ S) ∧ Rd u t T (mag a * p) ∧ Rd u 0 S (s + T) ∧ Rd u t P (p * m) ∧ WtA u t m S P al r
theorem mag_nn {a : Rat} (h : 0 ≤ a) : mag a ≤ a := by unfold mag; rw [if_pos h]; exact Rat.le_refl
theorem wt_step {u t m s p n c T P S w : Rat} (u0 : 0 ≤ u) (u1 : 1000000 * u ≤ 1) (t0 : 0 ≤ t) (tu : 2 * t ≤ u) (m1 : 1 ≤ m) (s0 : 0 ≤ s) (n0 : 0 ≤ n) (n1 : n ≤ 16) (hp : 1 / 2 + 2 * ((n + 1) * u) ≤ p) (c0 : 0 ≤ c) (w0 : 0 ≤ w) (T0 : 0 ≤ T)
    (R1 : Rd u t T (c * p)) (R2 : Rd u 0 S (s + T)) (R3 : Rd u t P (p * m)) :
    1 / 2 + 2 * (n * u) ≤ P ∧ (s + p * (c + m * w)) * (1 - 2 * u) - t ≤ S + P * w := by
  have nu := Rat.mul_nonneg n0 u0
  have p0 : 1 / 2 ≤ p := by grind
  have cp := Rat.mul_nonneg c0 (show 0 ≤ p by grind)
  have pm : p ≤ p * m := by have := Rat.mul_nonneg (show 0 ≤ p by grind) (show 0 ≤ m - 1 by grind); grind
  have r1 := R1 _ (mag_nn cp)
  have r2 := R2 _ (mag_nn (show 0 ≤ s + T by grind))
  have r3 := R3 _ (mag_nn (show 0 ≤ p * m by grind))
  have a1 := mag_le (T - c * p)
  have a2 := mag_le (S - (s + T))
  have a3 := mag_le (P - p * m)
  have b1 : c * p - u * (c * p) - t ≤ T := by grind
  have b2 : (s + T) - u * (s + T) ≤ S := by grind
  have b3 : p * m - u * (p * m) - t ≤ P := by grind
  clear r1 r2 r3 a1 a2 a3 R1 R2 R3
  generalize hX : p * m = X at *
  have ux := Rat.mul_nonneg u0 (show 0 ≤ X - 1 / 2 by grind)
  have b4 : X - 2 * (u * X) ≤ P := by grind
  have ut := Rat.mul_nonneg u0 t0
  have uu := Rat.mul_nonneg u0 u0
  have b5 : (s + c * p) * (1 - 2 * u) - t ≤ S := by
    have k := Rat.mul_nonneg (show 0 ≤ 1 - u by grind) (show 0 ≤ T - (c * p - u * (c * p) - t) by grind)
    have k2 := Rat.mul_nonneg uu cp
    have k3 := Rat.mul_nonneg u0 s0
    grind
  refine ⟨?_, ?_⟩
  · have k := Rat.mul_nonneg (show 0 ≤ 1 - 2 * u by grind) (show 0 ≤ X - (1 / 2 + 2 * ((n + 1) * u)) by grind)
    have k1 := Rat.mul_nonneg (show 0 ≤ 16 - n by grind) uu
    have k2 := Rat.mul_nonneg u0 (show 0 ≤ 1 - 1000000 * u by grind)
    grind
  · have k := Rat.mul_nonneg w0 (show 0 ≤ P - (X - 2 * (u * X)) by grind)
    have e : p * (c + m * w) = c * p + X * w := by rw [← hX]; grind
    rw [e]
    grind
theorem wtA_low {u t m : Rat} (u0 : 0 ≤ u) (u1 : 1000000 * u ≤ 1) (t0 : 0 ≤ t) (tu : 2 * t ≤ u) (m1 : 1 ≤ m) : ∀ (al : List Rat) (s p r : Rat), al.length ≤ 16 → 0 ≤ s → 1 / 2 + 2 * ((al.length : Rat) * u) ≤ p → WtA u t m s p al r →
    (s + p * wt m al) * (1 - 2 * ((al.length : Rat) * u)) - (al.length : Rat) * t ≤ r
  | [], s, p, r, _, _, _, h => by
    have h : r = s := h
    subst h
    have e : (([] : List Rat).length : Rat) = 0 := rfl
    rw [e]
    show (r + p * 0) * (1 - 2 * (0 * u)) - 0 * t ≤ r
    grind
  | a :: al, s, p, r, hl, s0, hp, ⟨T, P, S, ⟨T0, S0⟩, R1, R2, R3, h⟩ => by
    have hl' : al.length ≤ 15 := by simp at hl; omega
    have n0 := len_nn al
    have n1 : (al.length : Rat) ≤ 15 := len_le (n := 15) hl'
    rw [len_succ] at hp ⊢
    have w0 := wt_nn (show 0 ≤ m by grind) al
    obtain ⟨hP, st⟩ := wt_step u0 u1 t0 tu m1 s0 n0 (by grind) hp (mag_le a).2.2 w0 T0 R1 R2 R3
    have ih := wtA_low u0 u1 t0 tu m1 al S P r (by omega) S0 hP h
    show (s + p * (mag a + m * wt m al)) * (1 - 2 * (((al.length : Rat) + 1) * u)) - ((al.length : Rat) + 1) * t ≤ r
    have p0 : 0 ≤ p := by
      have := Rat.mul_nonneg (show 0 ≤ (al.length : Rat) + 1 by grind) u0
      grind
    have c0 := (mag_le a).2.2
    generalize (al.length : Rat) = n at *
    generalize mag a = c at *
    generalize wt m al = w at *
    have X0 : 0 ≤ s + p * (c + m * w) := by
      have := Rat.mul_nonneg p0 (show 0 ≤ c + m * w by have := Rat.mul_nonneg (show 0 ≤ m by grind) w0; grind)
      grind
    generalize hX : s + p * (c + m * w) = X at *
    generalize hY : S + P * w = Y at *
    have nu := Rat.mul_nonneg n0 u0
    have g0 : 0 ≤ 1 - 2 * (n * u) := by
      have := Rat.mul_nonneg (show 0 ≤ 15 - n by grind) u0
      grind
    have k := Rat.mul_nonneg g0 (show 0 ≤ Y - (X * (1 - 2 * u) - t) by grind)
    have k1 := Rat.mul_nonneg nu t0
    have k2 := Rat.mul_nonneg (Rat.mul_nonneg nu u0) X0
    clear hX hY st hp hP R1 R2 R3 h
    grind
end Pol
namespace Go.Proofs.Ytjhcalgamcdgiaa
open Go.ChangeShapes Go.WideShapes Go.ChangeAt Go.RowKit Ieee.Own Pol

/-- the law's weight as words, from s and the power p on -/
def wtW (m : Nat) : Nat → Nat → List Nat → Nat
  | s, _, [] => s
  | s, p, a :: al => wtW m (aX s (mX (a % 9223372036854775808) p)) (mX p m) al
theorem abs_word {a : Nat} (h : FinW a) : FinW (a % 9223372036854775808) ∧ V (a % 9223372036854775808) = ((V a).natAbs : Int) := by
  have h2 := h.2
  refine ⟨⟨by omega, by omega⟩, ?_⟩
  have e := V_abs' a h
  have e2 := V_abs' (a % 9223372036854775808) ⟨by omega, by omega⟩
  rw [Nat.mod_mod] at e2
  have n : 0 ≤ V (a % 9223372036854775808) := by
    unfold V
    rw [if_pos (Nat.mod_lt _ (by omega))]
    omega
  omega
theorem Q_mag {a : Nat} (h : FinW a) : Q (a % 9223372036854775808) = mag (Q a) := by
  have e := (abs_word h).2
  have u := unit_pos
  have z : Q 0 = 0 := by decide +kernel
  unfold mag
  by_cases c : 0 ≤ V a
  · rw [if_pos (by rw [← z]; exact Q_le.2 (by rw [zeroV]; exact c))]
    exact Q_congr (by omega)
  · have neg : Q (a % 9223372036854775808) = -Q a := Q_neg (by omega)
    by_cases d : 0 ≤ Q a
    · rw [← z] at d
      have := Q_le.1 d
      rw [zeroV] at this
      omega
    · rw [if_neg d]; exact neg
theorem RZ_nn {z : Int} (h : 0 ≤ z) : 0 ≤ RZ z := by unfold RZ; rw [if_neg (by omega)]; omega
theorem Q_nn {a : Nat} (h : 0 ≤ V a) : 0 ≤ Q a := by
  have z : Q 0 = 0 := by decide +kernel
  rw [← z]; exact Q_le.2 (by rw [zeroV]; exact h)
/-- what each step answers -/
structure WtS (m s p a : Nat) : Prop where
  t : Ieee.double.mul (a % 9223372036854775808) p = some (mX (a % 9223372036854775808) p)
  s : Ieee.double.add s (mX (a % 9223372036854775808) p) = some (aX s (mX (a % 9223372036854775808) p))
  p : Ieee.double.mul p m = some (mX p m)
theorem wt_wd {m : Nat} (fm : FinW m) (bm : (V m).natAbs ≤ 2 ^ 1084) (nm : 0 ≤ V m) : ∀ (al : List Nat) (i s p : Nat), (∀ c ∈ al, Cw c) → i + al.length ≤ 17 → FinW s → 0 ≤ V s → (V s).natAbs ≤ 2 ^ (1114 + 11 * i) → FinW p → 0 ≤ V p → (V p).natAbs ≤ 2 ^ (1074 + 10 * i) →
    FinW (wtW m s p al) ∧ 0 ≤ V (wtW m s p al) ∧ (V (wtW m s p al)).natAbs ≤ 2 ^ (1114 + 11 * (i + al.length)) ∧ WtA uR tR (Q m) (Q s) (Q p) (al.map Q) (Q (wtW m s p al)) ∧ (∀ a bl, al = a :: bl → WtS m s p a)
  | [], i, s, p, _, _, fs, ns, bs, _, _, _ => ⟨fs, ns, bs, rfl, fun a bl h => by cases h⟩
  | a :: al, i, s, p, hc, hl, fs, ns, bs, fp, np, bp => by
    have hl' : i + al.length ≤ 16 := by simp at hl; omega
    have ca := hc a (List.mem_cons_self ..)
    obtain ⟨fa, va⟩ := abs_word ca.fin
    obtain ⟨T, t1, t2, t3, t4⟩ := mulB (i := 1114) (k := 1114 + 10 * i) fa fp (by rw [va]; exact ca.bd) bp (by omega) (by omega)
    have eT : mX (a % 9223372036854775808) p = T := by unfold mX; rw [t1]; rfl
    obtain ⟨S, s1, s2, s3, s4⟩ := addW (k := 1114 + 11 * i) fs t2 bs (Nat.le_trans t4 (two_le (by omega))) (by omega)
    have eS : aX s T = S := by unfold aX; rw [s1]; rfl
    obtain ⟨P, p1, p2, p3, p4⟩ := mulB (k := 1074 + 10 * (i + 1)) fp fm bp bm (by omega) (by omega)
    have eP : mX p m = P := by unfold mX; rw [p1]; rfl
    have nT : 0 ≤ V T := by rw [t3]; exact RZ_nn (Int.mul_nonneg (by rw [va]; omega) np)
    have nS : 0 ≤ V S := by rw [s3]; exact (RN_sign _).1 (by omega)
    have nP : 0 ≤ V P := by rw [p3]; exact RZ_nn (Int.mul_nonneg np nm)
    have ih := wt_wd fm bm nm al (i + 1) S P (fun c h => hc c (List.mem_cons_of_mem _ h)) (by omega) s2 nS (Nat.le_trans s4 (two_le (by omega))) p2 nP p4
    have e : wtW m s p (a :: al) = wtW m S P al := by show wtW m (aX s (mX (a % 9223372036854775808) p)) (mX p m) al = _; rw [eT, eS, eP]
    rw [e]
    obtain ⟨i1, i2, i3, i4, -⟩ := ih
    refine ⟨i1, i2, ?_, ⟨Q T, Q P, Q S, ⟨Q_nn nT, Q_nn nS⟩, ?_, rd_of (add_rel s3), rd_mul p3, i4⟩, fun a' bl h => ?_⟩
    · rw [show i + (a :: al).length = i + 1 + al.length by simp; omega]; exact i3
    · have := rd_mul t3
      rwa [Q_mag ca.fin] at this
    · obtain ⟨rfl, rfl⟩ := List.cons.inj h
      exact ⟨by rw [eT]; exact t1, by rw [eT, eS]; exact s1, by rw [eP]; exact p1⟩
end Go.Proofs.Ytjhcalgamcdgiaa

namespace Ieee.Own
theorem rz_low {n k : Nat} (h : 2 ^ (k + 1074) ≤ n) : 2 ^ k ≤ rz n := by
  have h3 : 1074 ≤ dz n := by unfold dz; omega
  have r := (rz_range n).2
  unfold rz
  by_cases c : dz n ≤ k + 1074
  · generalize dz n = d at *
    have a := rne_mono d (show 2 ^ (k + 1074 - d) * 2 ^ d ≤ n by rw [← Nat.pow_add, Nat.sub_add_cancel c]; exact h)
    rw [rne_exact] at a
    have := Nat.mul_le_mul_right (2 ^ (d - 1074)) a
    rwa [← Nat.pow_add, show k + 1074 - d + (d - 1074) = k by omega] at this
  · have a := r (by omega)
    generalize dz n = d at *
    have b := Nat.mul_le_mul_right (2 ^ (d - 1074)) a
    rw [← Nat.pow_add] at b
    exact Nat.le_trans (Nat.pow_le_pow_right (by omega) (by omega)) b
end Ieee.Own
namespace Go.Proofs.Ytjhcalgamcdgiaa
open Go.ChangeShapes Go.WideShapes Go.ChangeAt Go.RowKit Ieee.Own Pol

theorem exact_q {Q m u : Nat} (hu : u = 52 ∨ u = 53) (h1 : 2 * (Q * 2 ^ 52) ≤ 2 * (m * 2 ^ u) + 2 ^ 52) (h2 : 2 * (m * 2 ^ u) ≤ 2 * (Q * 2 ^ 52) + 2 ^ 52) : Q = m * 2 ^ (u - 52) := by
  rcases hu with rfl | rfl
  · simp at *; omega
  · have : 2 ^ 53 = 2 * 2 ^ 52 := by omega
    simp at *; omega
theorem shift_down {Q m u p j : Nat} (hu : 52 ≤ u) (e : Q = m * 2 ^ (u - 52)) (h : u + j ≤ 52 + p) : Q * 2 ^ (52 + p - j - u) * 2 ^ j = m * 2 ^ p := by
  rw [e, Nat.mul_assoc, Nat.mul_assoc, ← Nat.pow_add, ← Nat.pow_add]
  congr 2; omega
theorem div_pow {b j D : Nat} (hD : D = (1023 + j) * 4503599627370496) (h : FinW b) (lo : 2 ^ 874 ≤ (V b).natAbs) (hi : (V b).natAbs ≤ 2 ^ 1500) (hj : j ≤ 60) : ∃ r, Ieee.double.div b D = some r ∧ FinW r ∧ V r * 2 ^ j = V b := by
  have N := norm_of h (norm_big h (Nat.le_trans (two_le (a := 52) (b := 874) (by omega)) lo))
  have fd : FinW D := by rw [hD]; unfold FinW; omega
  have F : Norm D false (2 ^ 52) (1022 + j) := by
    have := norm_of fd (by rw [hD]; omega)
    rwa [show decide (9223372036854775808 ≤ D) = false by rw [hD]; exact decide_eq_false (by omega), show 4503599627370496 + D % 4503599627370496 = 2 ^ 52 by rw [hD]; omega, show D % 9223372036854775808 / 4503599627370496 - 1 = 1022 + j by rw [hD]; omega] at this
  generalize decide (9223372036854775808 ≤ b) = s at N
  generalize 4503599627370496 + b % 4503599627370496 = m at N
  generalize b % 9223372036854775808 / 4503599627370496 - 1 = p at N
  have v : (V b).natAbs = m * 2 ^ p := by rw [N.val, sv_abs]
  have hp : 822 ≤ p := by
    by_cases q : 822 ≤ p
    · exact q
    · exfalso
      rw [v] at lo
      have a1 : m * 2 ^ p < 2 ^ 53 * 2 ^ p := Nat.mul_lt_mul_of_pos_right N.hi (Nat.two_pow_pos p)
      rw [← Nat.pow_add] at a1
      have := two_le (a := 53 + p) (b := 874) (by omega)
      omega
  have hp2 : p ≤ 1448 := by
    by_cases q : p ≤ 1448
    · exact q
    · exfalso
      rw [v] at hi
      have a1 : 2 ^ 52 * 2 ^ p ≤ m * 2 ^ p := Nat.mul_le_mul_right _ N.lo
      rw [← Nat.pow_add] at a1
      have := two_dbl (m := 1500) (n := 52 + p) (by omega)
      have := Nat.two_pow_pos 1500
      omega
  obtain ⟨r, Q, u, h1, h2, h3, u1, u2, q1, q2, q3, q4⟩ := div_spec N F (by omega) (by omega)
  refine ⟨r, h1, h2, ?_⟩
  have e := exact_q (by omega) q3 q4
  have k := shift_down (p := p) (j := j) u1 e (by omega)
  have e2 : 1074 + p - (1022 + j) - u = 52 + p - j - u := by omega
  rw [h3, e2, N.val]
  have sx : (s ^^ false) = s := by cases s <;> rfl
  rw [sx]
  unfold sv
  cases s
  · simp only [Bool.false_eq_true, if_false]
    rw [← k, Int.natCast_mul, Int.natCast_pow]; rfl
  · simp only [if_true]
    rw [← k, Int.natCast_mul, Int.natCast_pow, Int.neg_mul]; rfl
theorem pow_both {a b : Int} {i j : Nat} (h : 2 ^ i ≤ a.natAbs) (g : 2 ^ j ≤ b.natAbs) : 2 ^ (i + j) ≤ (a * b).natAbs := by
  rw [Int.natAbs_mul, Nat.pow_add]; exact Nat.mul_le_mul h g
theorem rz_both {a b : Int} {k : Nat} (h : 2 ^ k ≤ a.natAbs) (g : 2 ^ 1074 ≤ b.natAbs) : 2 ^ k ≤ (RZ (a * b)).natAbs := by
  rw [RZ_abs]; exact rz_low (k := k) (pow_both (i := k) (j := 1074) h g)
theorem nsm_rz {a b : Int} {k : Nat} (h : Nsm k a) (g : 2 ^ 1074 ≤ b.natAbs) : Nsm k (RZ ((a.natAbs : Int) * b)) := by
  rcases h with h | h
  · left
    rw [h]
    show RZ (0 * b) = 0
    rw [Int.zero_mul]
    unfold RZ
    simp [rz_zero]
  · right
    exact rz_both (by rw [Int.natAbs_natCast]; exact h) g
theorem nsm_sum {a b : Int} {k : Nat} (ha : 0 ≤ a) (hb : 0 ≤ b) (h : Nsm k a) (g : Nsm k b) : Nsm k (a + b) := by
  rcases h with h | h
  · rw [h, Int.zero_add]; exact g
  · right
    generalize 2 ^ k = K at *
    omega
/-- the weight is 0, or not small -/
theorem wt_big {m : Nat} (fm : FinW m) (bm : (V m).natAbs ≤ 2 ^ 1084) (nm : 2 ^ 1074 ≤ V m) : ∀ (al : List Nat) (i s p : Nat), (∀ c ∈ al, Fw c) → i + al.length ≤ 17 → FinW s → 0 ≤ V s → (V s).natAbs ≤ 2 ^ (1114 + 11 * i) → FinW p → 2 ^ 1074 ≤ V p → (V p).natAbs ≤ 2 ^ (1074 + 10 * i) → Nsm (820 + 53 + 1) (V s) → Nsm (820 + 53 + 1) (V (wtW m s p al))
  | [], _, _, _, _, _, _, _, _, _, _, _, h => h
  | a :: al, i, s, p, hc, hl, fs, ns, bs, fp, np, bp, h => by
    have hl' : i + al.length ≤ 16 := by simp at hl; omega
    have ca := hc a (List.mem_cons_self ..)
    obtain ⟨fa, va⟩ := abs_word ca.fin
    have t0 : (0 : Int) < 2 ^ 1074 := Int.pow_pos (by omega)
    have npn : 2 ^ 1074 ≤ (V p).natAbs := by have := pow_int 1074; omega
    have nmn : 2 ^ 1074 ≤ (V m).natAbs := by have := pow_int 1074; omega
    obtain ⟨t2, t3, t4⟩ := mX_V (i := 1114) (k := 1114 + 10 * i) fa fp (by rw [va]; exact ca.bd) bp (by omega) (by omega)
    obtain ⟨s2, s3, s4⟩ := aX_V (k := 1114 + 11 * i) fs t2 bs (Nat.le_trans t4 (two_le (by omega))) (by omega)
    obtain ⟨p2, p3, p4⟩ := mX_V (k := 1074 + 10 * (i + 1)) fp fm bp bm (by omega) (by omega)
    have nT : 0 ≤ V (mX (a % 9223372036854775808) p) := by rw [t3]; exact RZ_nn (Int.mul_nonneg (by rw [va]; omega) (by omega))
    have nS : 0 ≤ V (aX s (mX (a % 9223372036854775808) p)) := by rw [s3]; exact (RN_sign _).1 (by omega)
    have pos : 0 ≤ V p * V m := Int.mul_nonneg (by omega) (by omega)
    have bP : 2 ^ 1074 ≤ V (mX p m) := by
      have l : 2 ^ 1074 ≤ rz (V p * V m).natAbs := rz_low (k := 1074) (pow_both (i := 1074) (j := 1074) npn nmn)
      have := pow_int 1074
      rw [p3]
      unfold RZ
      rw [if_neg (by omega)]
      omega
    have bT : Nsm (820 + 53 + 1) (V (mX (a % 9223372036854775808) p)) := by
      rw [t3, va]
      exact nsm_rz ca.big npn
    have bS : Nsm (820 + 53 + 1) (V (aX s (mX (a % 9223372036854775808) p))) := by
      rw [s3]
      apply Nsm.RN
      exact nsm_sum (k := 820 + 53 + 1) ns nT h bT
    exact wt_big fm bm nm al (i + 1) _ _ (fun c h => hc c (List.mem_cons_of_mem _ h)) (by omega) s2 nS (Nat.le_trans s4 (two_le (by omega))) p2 bP p4 bS

/-! ### the limits -/
def c190 : Nat := 833 * 4503599627370496
theorem c190_V : FinW c190 ∧ V c190 = 2 ^ 884 ∧ Q c190 = mkRat 1 (2 ^ 190) := ⟨by unfold FinW c190; omega, by decide +kernel, by decide +kernel⟩
theorem sN_small : ∀ n, n < 17 → sN tR n ≤ mkRat 1 (2 ^ 191) := by decide +kernel
theorem tR_small : tR ≤ mkRat 1 (2 ^ 300) := by decide +kernel
theorem wt_half {n W w : Rat} (_n0 : 0 ≤ n) (n1 : n ≤ 16) (W0 : 0 ≤ W) (h : (0 + 1 * W) * (1 - 2 * (n * uR)) - n * tR ≤ w) : W ≤ 2 * (w + 16 * tR) := by
  have u1 := uR1
  have u0 := uR0
  have t0 := tR0
  generalize uR = u at *
  generalize tR = t at *
  have a := Rat.mul_nonneg (Rat.mul_nonneg (show 0 ≤ 16 - n by grind) u0) W0
  have b := Rat.mul_nonneg (show 0 ≤ 16 - n by grind) t0
  have c := Rat.mul_nonneg (show 0 ≤ 1 - 1000000 * u by grind) W0
  grind
theorem hor_lim {n W w e s : Rat} (_n0 : 0 ≤ n) (n1 : n ≤ 16) (W0 : 0 ≤ W) (h : W ≤ 2 * (w + 16 * tR)) (he : e ≤ n * (3 * uR * W) + s) (hs : s ≤ mkRat 1 (2 ^ 191)) : e ≤ w * mkRat 1 (2 ^ 44) + mkRat 1 (2 ^ 190) := by
  have t1 := tR_small
  have u0 := uR0
  have a := Rat.mul_nonneg (Rat.mul_nonneg (show 0 ≤ 16 - n by grind) u0) W0
  have w0 : 0 ≤ w + 16 * tR := by grind
  have b := Rat.mul_nonneg u0 (show 0 ≤ 2 * (w + 16 * tR) - W by grind)
  have k1 : uR = 1 / 9007199254740992 := by decide +kernel
  have k2 : mkRat 1 (2 ^ 44) = 1 / 17592186044416 := by decide +kernel
  have k3 : mkRat 1 (2 ^ 191) = mkRat 1 (2 ^ 190) * (1 / 2) := by decide +kernel
  have k4 : mkRat 1 (2 ^ 300) ≤ mkRat 1 (2 ^ 190) * (1 / 1000) := by decide +kernel
  rw [k3] at hs
  rw [k2]
  have t0 := tR0
  generalize mkRat 1 (2 ^ 190) = z at *
  generalize mkRat 1 (2 ^ 300) = y at *
  generalize tR = t at *
  rw [k1] at a b he
  have tz : t ≤ z * (1 / 1000) := by grind
  clear k1 k2 k3 k4 u0
  grind
theorem ch_lim {W w e : Rat} (W0 : 0 ≤ W) (h : W ≤ 2 * (w + 16 * tR)) (he : e ≤ 2400 * (uR * W) + 64 * tR) : e ≤ w * mkRat 1 (2 ^ 40) + mkRat 1 (2 ^ 190) := by
  have t1 := tR_small
  have u0 := uR0
  have w0 : 0 ≤ w + 16 * tR := by grind
  have b := Rat.mul_nonneg u0 (show 0 ≤ 2 * (w + 16 * tR) - W by grind)
  have k1 : uR = 1 / 9007199254740992 := by decide +kernel
  have k2 : mkRat 1 (2 ^ 40) = 1 / 1099511627776 := by decide +kernel
  have k4 : mkRat 1 (2 ^ 300) ≤ mkRat 1 (2 ^ 190) * (1 / 1000) := by decide +kernel
  rw [k2]
  have t0 := tR0
  generalize mkRat 1 (2 ^ 190) = z at *
  generalize mkRat 1 (2 ^ 300) = y at *
  generalize tR = t at *
  rw [k1] at b he
  have tz : t ≤ z * (1 / 1000) := by grind
  clear k1 k2 k4 u0
  grind
theorem sm_wt : ∀ al, sm al = wt 1 al
  | [] => rfl
  | a :: al => by
    show mag a + sm al = mag a + 1 * wt 1 al
    rw [sm_wt al, Rat.one_mul]
/-- off a span by no more than the limit, word by word -/
theorem off_lim {P : Pr} {a D j : Nat} {z e w : Rat} (h : In z (ps P)) (ha : mag (Q a - z) ≤ e) (he : e ≤ w * mkRat 1 (2 ^ j) + mkRat 1 (2 ^ 190)) (hD : Q D = w * mkRat 1 (2 ^ j)) : V P.1 - V a ≤ V D + V c190 ∧ V a - V P.2 ≤ V D + V c190 := by
  obtain ⟨h1, h2⟩ := h
  replace h1 : Q P.1 ≤ z := h1
  replace h2 : z ≤ Q P.2 := h2
  have m := mag_le (Q a - z)
  rw [← c190_V.2.2, ← hD] at he
  have up := unit_pos
  have key : ∀ b c : Nat, Q b - Q c ≤ Q D + Q c190 → V b - V c ≤ V D + V c190 := by
    intro b c h
    have := Rat.mul_le_mul_of_nonneg_right h (Rat.le_of_lt up)
    have e1 : (Q b - Q c) * unit = Q b * unit - Q c * unit := by grind
    have e2 : (Q D + Q c190) * unit = Q D * unit + Q c190 * unit := by grind
    rw [e1, e2, Q_unit, Q_unit, Q_unit, Q_unit, ← Rat.intCast_sub, ← Rat.intCast_add] at this
    exact Rat.intCast_le_intCast.1 this
  exact ⟨key _ _ (by grind), key _ _ (by grind)⟩
end Go.Proofs.Ytjhcalgamcdgiaa

namespace Go.Proofs.Ytjhcalgamcdgiaa
open Go.ChangeShapes Go.WideShapes Go.ChangeAt Go.RowKit Ieee.Own Pol

/-- one span in another -/
structure InP (p q : Pr) : Prop where
  l1 : p.1 < 18446744073709551616
  l2 : p.2 < 18446744073709551616
  l3 : q.1 < 18446744073709551616
  l4 : q.2 < 18446744073709551616
  i : insB p.1 p.2 q.1 q.2 = true
theorem InP.two {p q r s : Pr} (h : InP p q) (g : InP r s) : Two p.1 p.2 r.1 r.2 q.1 q.2 s.1 s.2 := ⟨h.l1, h.l2, g.l1, g.l2, h.l3, h.l4, g.l3, g.l4, h.i, g.i⟩
theorem InP.add {p q r s u v : Pr} (h : InP p q) (g : InP r s) (a : AddR p r u) (b : AddR q s v) : InP u v := by
  have x := OpAll.bd a.all
  have y := OpAll.bd b.all
  exact ⟨x.1, x.2.1, y.1, y.2.1, add_mono (h.two g) a b rfl rfl⟩
theorem InP.mul {p q r s u v : Pr} (h : InP p q) (g : InP r s) (a : MulR p r u) (b : MulR q s v) : InP u v := by
  have x := OpAll.bd a
  have y := OpAll.bd b
  exact ⟨x.1, x.2.1, y.1, y.2.1, mul_mono (h.two g) a b rfl rfl⟩
theorem InP.sub {p q r s u v : Pr} (h : InP p q) (g : InP r s) (a : SubR p r u) (b : SubR q s v) : InP u v := by
  have x := OpAll.bd a.all
  have y := OpAll.bd b.all
  refine ⟨x.1, x.2.1, y.1, y.2.1, ?_⟩
  obtain ⟨⟨-, -, o1⟩, ⟨-, -, o2⟩, ⟨-, -, o3⟩, ⟨-, -, o4⟩, ⟨m1, m2⟩, m3, m4⟩ := (h.two g).facts
  refine fits_of a.all b.all (fun _ lo hi d u => ?_) (fun _ lo hi d u => ?_) (fun _ _ u => ?_) (fun _ _ u => ?_) rfl rfl
  · have p' := d.le _ (List.mem_singleton.2 rfl)
    replace p' : 0 ≤ V p.1 - V r.2 - V lo := p'
    have q' := u.ge _ (List.mem_singleton.2 rfl)
    replace q' : V p.2 - V r.1 - V hi ≤ 0 := q'
    omega
  · have p' := d.le _ (List.mem_singleton.2 rfl)
    replace p' : 0 ≤ V q.1 - V s.2 - V lo := p'
    have q' := u.ge _ (List.mem_singleton.2 rfl)
    replace q' : V q.2 - V s.1 - V hi ≤ 0 := q'
    omega
  · rw [one_mem, one_mem]; intro h; show 0 ≤ V p.1 - V r.2 - u; have : 0 ≤ V q.1 - V s.2 - u := h; omega
  · rw [one_mem, one_mem]; intro h; show V p.2 - V r.1 - u ≤ 0; have : V q.2 - V s.1 - u ≤ 0 := h; omega
theorem InP.self {p : Pr} {T : Int} (h : Wn p T) : InP p p := by
  refine ⟨h.l1, h.l2, h.l1, h.l2, ?_⟩
  unfold insB
  rw [decide_eq_true_eq]
  exact ⟨errSS_of' h.ok h.ok, Int.le_refl _, Int.le_refl _⟩
theorem zero_inP : InP (0, 0) (0, 0) := InP.self (zero_wn (Int.le_refl 0))
theorem hs_mono {X Y : Pr} (h : InP X Y) : ∀ (cs : List Nat) (P R : Pr), (∀ c ∈ cs, Fc c) → HsR X cs P → HsR Y cs R → InP P R
  | [], P, R, _, p, r => by
    have p : P = (0, 0) := p
    have r : R = (0, 0) := r
    rw [p, r]; exact zero_inP
  | c :: cs, P, R, hc, ⟨P', M, p1, p2, p3⟩, ⟨R', N, r1, r2, r3⟩ => by
    have ih := hs_mono h cs P' R' (fun c h => hc c (List.mem_cons_of_mem _ h)) p1 r1
    exact (InP.self (pt_wn (hc c (List.mem_cons_self ..))).1).add (h.mul ih p2 r2) p3 r3
theorem cs_mono {W U : Pr} (h : InP W U) : ∀ (cs : List Nat) (B D B' D' : Pr), (∀ c ∈ cs, Fc c) → CsR W cs B D → CsR U cs B' D' → InP B B' ∧ InP D D'
  | [], _, _, _, _, _, ⟨p1, p2⟩, ⟨r1, r2⟩ => by
    rw [p1, p2, r1, r2]; exact ⟨zero_inP, zero_inP⟩
  | c :: cs, B, D, B', D', hc, ⟨E, M, N, p1, p2, p3, p4⟩, ⟨E', M', N', r1, r2, r3, r4⟩ => by
    obtain ⟨i, j⟩ := cs_mono h cs D E D' E' (fun c h => hc c (List.mem_cons_of_mem _ h)) p1 r1
    exact ⟨((h.mul i p2 r2).sub j p3 r3).add (InP.self (pt_wn (hc c (List.mem_cons_self ..))).1) p4 r4, i⟩
theorem ch_mono {X Y : Pr} (h : InP X Y) {cs : List Nat} {P R : Pr} (hc : ∀ c ∈ cs, Fc c) (p : ChR X cs P) (r : ChR Y cs R) : InP P R := by
  cases cs with
  | nil =>
    have p : P = (0, 0) := p
    have r : R = (0, 0) := r
    rw [p, r]; exact zero_inP
  | cons c cs =>
    obtain ⟨W, B, D, M, N, p0, p1, p2, p3, p4⟩ := p
    obtain ⟨W', B', D', M', N', r0, r1, r2, r3, r4⟩ := r
    obtain ⟨i, j⟩ := cs_mono (h.add h p0 r0) cs B D B' D' (fun c h => hc c (List.mem_cons_of_mem _ h)) p1 r1
    exact ((h.mul i p2 r2).sub j p3 r3).add (InP.self (pt_wn (hc c (List.mem_cons_self ..))).1) p4 r4
end Go.Proofs.Ytjhcalgamcdgiaa

namespace Go.Proofs.Ytjhcalgamcdgiaa
open Go.ChangeShapes Go.WideShapes Go.ChangeAt Go.RowKit Ieee.Own Pol

theorem least_pow : leastV = ((2 ^ (820 + 53 + 1) : Nat) : Int) := by decide +kernel
theorem Fc.fw {c : Nat} (h : Fc c) : Fw c := by
  have f := fit_fin h.lt h.fit
  refine ⟨⟨f, h.bd⟩, ?_⟩
  rcases (fit_iff f).1 h.fit with z | z
  · exact .inl z
  · right
    have := z.1
    rw [least_pow] at this
    exact Int.ofNat_le.1 this
theorem len_Q (cs : List Nat) : (cs.map Q).length = cs.length := List.length_map ..
theorem div_pow' {b j D k : Nat} (hk : k = 874) (hD : D = (1023 + j) * 4503599627370496) (h : FinW b) (lo : 2 ^ k ≤ (V b).natAbs) (hi : (V b).natAbs ≤ 2 ^ 1500) (hj : j ≤ 60) : ∃ r, Ieee.double.div b D = some r ∧ FinW r ∧ V r * 2 ^ j = V b := by
  subst hk; exact div_pow hD h lo hi hj
theorem uR1' : 1000 * uR ≤ 1 := by decide +kernel
theorem cap_up {c j k : Nat} (h : (V c).natAbs = 2 ^ j) (hk : j ≤ k) : (V c).natAbs ≤ 2 ^ k := by rw [h]; exact two_le hk
theorem tR_u : 2 * tR ≤ uR := by decide +kernel
theorem half_ok {n u : Rat} (n1 : n ≤ 16) (u0 : 0 ≤ u) (u1 : 1000000 * u ≤ 1) : 1 / 2 + 2 * (n * u) ≤ 1 := by
  have a := Rat.mul_nonneg (show 0 ≤ 16 - n by grind) u0
  grind
theorem div_ok {w j D : Nat} (hD : D = (1023 + j) * 4503599627370496) (fw : FinW w) (big : Nsm (820 + 53 + 1) (V w)) (hi : (V w).natAbs ≤ 2 ^ 1500) (hj : j ≤ 60) : ∃ r, Ieee.double.div w D = some r ∧ FinW r ∧ V r * 2 ^ j = V w := by
  rcases big with z | z
  · have fd : FinW D := by rw [hD]; unfold FinW; omega
    have nd : V D ≠ 0 := by
      have e := V_abs' D fd
      intro h
      rw [h] at e
      have h2 : val 52 (D % 9223372036854775808) = 0 := e.symm
      rw [val_zero_iff] at h2
      omega
    obtain ⟨r, h1, h2, h3⟩ := div_zero fw z fd nd
    exact ⟨r, h1, h2, by rw [h3, z, Int.zero_mul]⟩
  · exact div_pow' (k := 820 + 53 + 1) (by omega) hD fw z hi hj
theorem Q_down {r w j : Nat} (h : V r * 2 ^ j = V w) : Q r = Q w * mkRat 1 (2 ^ j) := by
  have e : ((2 ^ j : Int) : Rat) * mkRat 1 (2 ^ j) = 1 := by
    rw [pow_int, Rat.mkRat_eq_div]
    have p : (((2 ^ j : Nat) : Int) : Rat) ≠ 0 := by
      have : 0 < 2 ^ j := Nat.two_pow_pos j
      intro h
      have := Rat.intCast_eq_zero_iff.1 h
      omega
    rw [Rat.div_def, ← Rat.mul_assoc, Rat.mul_comm _ ((1 : Int) : Rat), Rat.mul_assoc]
    have q : (((2 ^ j : Nat) : Int) : Rat) * ((2 ^ j : Nat) : Rat)⁻¹ = 1 := Rat.mul_inv_cancel _ p
    rw [q, Rat.mul_one]; rfl
  unfold Q
  rw [← h, Rat.intCast_mul]
  simp only [Rat.div_def]
  have : (V r : Rat) * ((2 ^ j : Int) : Rat) * unit⁻¹ * mkRat 1 (2 ^ j) = (V r : Rat) * unit⁻¹ * (((2 ^ j : Int) : Rat) * mkRat 1 (2 ^ j)) := by grind
  rw [this, e, Rat.mul_one]
def tenW : Nat := 1033 * 4503599627370496
theorem ten_QV : Q tenW = 1024 ∧ V tenW = 2 ^ 1084 := ⟨by decide +kernel, by decide +kernel⟩
/-- a value by powers lies by the span of values -/
theorem hor_holds {x m : Nat} {cs : List Nat} {P : Pr} (fx : FinW x) (bx : (V x).natAbs ≤ 2 ^ 1084) (wX : Wn (x, x) (2 ^ 1084)) (fm : FinW m) (m1 : 2 ^ 1074 ≤ V m) (m2 : V m ≤ 2 ^ 1084) (mx : ((V x).natAbs : Int) ≤ V m) (hc : ∀ c ∈ cs, Fc c) (hl : cs.length ≤ 16) (hP : HsR (x, x) cs P) :
    ∃ D, Ieee.double.div (wtW m 0 oneW cs) (1067 * 4503599627370496) = some D ∧ FinW D ∧ V P.1 - V (polW x cs) ≤ V D + V c190 ∧ V (polW x cs) - V P.2 ≤ V D + V c190 ∧ (V D).natAbs ≤ 2 ^ 1500 ∧ 0 ≤ V D := by
  have t0 : (0 : Int) < 2 ^ 1074 := Int.pow_pos (by omega)
  have one : V oneW = 2 ^ 1074 := by decide +kernel
  have fo : FinW oneW := by unfold FinW oneW; omega
  have oneN : (V oneW).natAbs = 2 ^ 1074 := by rw [one]; exact pw_abs 1074
  have z0 := fun k => zero_cap (1114 + 11 * k)
  have o0 := fun k => cap_up (c := oneW) (j := 1074) (k := 1074 + 10 * k) oneN (by omega)
  have bm : (V m).natAbs ≤ 2 ^ 1084 := by have := pow_int 1084; omega
  have hw : ∀ c ∈ cs, Cw c := fun c h => (hc c h).fw.toCw
  obtain ⟨fa, ba, A, -⟩ := pol_wd fx bx cs hw hl
  obtain ⟨fw, nw, bw, Wt, -⟩ := wt_wd fm bm (by omega) cs 0 0 oneW hw (by omega) zeroF (by rw [zeroV]; omega) (z0 0) fo (by rw [one]; omega) (o0 0)
  have big := wt_big fm bm m1 cs 0 0 oneW (fun c h => (hc c h).fw) (by omega) zeroF (by rw [zeroV]; omega) (z0 0) fo (by rw [one]; omega) (o0 0) (.inl zeroV)
  have bw' : (V (wtW m 0 oneW cs)).natAbs ≤ 2 ^ 1500 := Nat.le_trans bw (two_le (a := 1114 + 11 * (0 + cs.length)) (b := 1500) (by omega))
  obtain ⟨D, d1, d2, d3⟩ := div_ok (j := 44) (D := 1067 * 4503599627370496) rfl fw big bw' (by omega)
  obtain ⟨P', w', R', I⟩ := hs_ex wX cs hc hl
  obtain rfl := hP.uniq R'
  have q1 : 1 ≤ Q m := by rw [← one_Q]; exact Q_le.2 (by rw [one]; exact m1)
  have q2 : Q m ≤ 1024 := by rw [← ten_QV.1]; exact Q_le.2 (by rw [ten_QV.2]; exact m2)
  have q3 : mag (Q x) ≤ Q m := by rw [← Q_mag fx]; exact Q_le.2 (by rw [(abs_word fx).2]; exact mx)
  have u1 := uR1
  have u0 := uR0
  have near := hvA_near u0 uR1' tR0 q1 q2 q3 (cs.map Q) _ (by rw [len_Q]; exact hl) A
  have low := wtA_low u0 u1 tR0 tR_u q1 (cs.map Q) 0 (Q oneW) _ (by rw [len_Q]; exact hl) Rat.le_refl (by
    rw [one_Q]
    exact half_ok (len_le (al := cs.map Q) (n := 16) (by rw [len_Q]; exact hl)) u0 u1) (by rw [show Q 0 = 0 by decide +kernel] at Wt; exact Wt)
  rw [one_Q] at low
  have n0 := len_nn (cs.map Q)
  have n1 : ((cs.map Q).length : Rat) ≤ 16 := len_le (n := 16) (by rw [len_Q]; exact hl)
  have W0 := wt_nn (Rat.le_trans (show (0 : Rat) ≤ 1 by decide +kernel) q1) (cs.map Q)
  have half := wt_half n0 n1 W0 low
  have lim := hor_lim n0 n1 W0 half near (sN_small _ (by rw [len_Q]; omega))
  have inx : In (Q x) (ps (x, x)) := ⟨Rat.le_refl, Rat.le_refl⟩
  have off := off_lim (I _ inx) Rat.le_refl lim (Q_down d3)
  refine ⟨D, d1, d2, off.1, off.2, ?_⟩
  have nD : 0 ≤ V D := by
    have t2 : (0 : Int) < 2 ^ 44 := Int.pow_pos (by omega)
    refine Int.not_lt.1 fun c => ?_
    have := Int.mul_neg_of_neg_of_pos c t2
    rw [d3] at this
    omega
  refine ⟨?_, nD⟩
  have e : (V D).natAbs * 2 ^ 44 = (V (wtW m 0 oneW cs)).natAbs := by rw [← d3, Int.natAbs_mul, Int.natAbs_pow]; rfl
  have := Nat.le_mul_of_pos_right (V D).natAbs (Nat.two_pow_pos 44)
  omega
/-- a value by Chebyshev's polynomials lies by the span of values -/
theorem ch_holds {x : Nat} {cs : List Nat} {P : Pr} (fx : FinW x) (bx : (V x).natAbs ≤ 2 ^ 1074) (wX : Wn (x, x) (2 ^ 1074)) (hc : ∀ c ∈ cs, Fc c) (hl : cs.length ≤ 16) (hP : ChR (x, x) cs P) :
    ∃ D, Ieee.double.div (wtW oneW 0 oneW cs) (1063 * 4503599627370496) = some D ∧ FinW D ∧ V P.1 - V (chW x cs) ≤ V D + V c190 ∧ V (chW x cs) - V P.2 ≤ V D + V c190 ∧ (V D).natAbs ≤ 2 ^ 1500 ∧ 0 ≤ V D := by
  have t0 : (0 : Int) < 2 ^ 1074 := Int.pow_pos (by omega)
  have one : V oneW = 2 ^ 1074 := by decide +kernel
  have fo : FinW oneW := by unfold FinW oneW; omega
  have oneN : (V oneW).natAbs = 2 ^ 1074 := by rw [one]; exact pw_abs 1074
  have z0 := fun k => zero_cap (1114 + 11 * k)
  have o0 := fun k => cap_up (c := oneW) (j := 1074) (k := 1074 + 10 * k) oneN (by omega)
  have bm : (V oneW).natAbs ≤ 2 ^ 1084 := cap_up (c := oneW) (j := 1074) (k := 1084) oneN (by omega)
  have hw : ∀ c ∈ cs, Cw c := fun c h => (hc c h).fw.toCw
  obtain ⟨fa, -, A, -⟩ := ch_wd fx bx cs hw hl
  obtain ⟨fw, nw, bw, Wt, -⟩ := wt_wd fo bm (by omega) cs 0 0 oneW hw (by omega) zeroF (by rw [zeroV]; omega) (z0 0) fo (by rw [one]; omega) (o0 0)
  have big := wt_big fo bm (by rw [one]; exact Int.le_refl _) cs 0 0 oneW (fun c h => (hc c h).fw) (by omega) zeroF (by rw [zeroV]; omega) (z0 0) fo (by rw [one]; omega) (o0 0) (.inl zeroV)
  have bw' : (V (wtW oneW 0 oneW cs)).natAbs ≤ 2 ^ 1500 := Nat.le_trans bw (two_le (a := 1114 + 11 * (0 + cs.length)) (b := 1500) (by omega))
  obtain ⟨D, d1, d2, d3⟩ := div_ok (j := 40) (D := 1063 * 4503599627370496) rfl fw big bw' (by omega)
  obtain ⟨P', w', R', I⟩ := ch_ex wX cs hc hl
  obtain rfl := hP.uniq R'
  have q3 : mag (Q x) ≤ 1 := by
    rw [← Q_mag fx, ← one_Q]
    refine Q_le.2 ?_
    rw [(abs_word fx).2, one]
    have e := pow_int 1074
    omega
  have u1 := uR1
  have u0 := uR0
  have near := chA_near u0 u1 tR0 q3 (cs.map Q) (by rw [len_Q]; exact hl) A
  have low := wtA_low u0 u1 tR0 tR_u (Rat.le_refl (a := 1)) (cs.map Q) 0 (Q oneW) _ (by rw [len_Q]; exact hl) Rat.le_refl (by
    rw [one_Q]
    exact half_ok (len_le (al := cs.map Q) (n := 16) (by rw [len_Q]; exact hl)) u0 u1) (by rw [show Q 0 = 0 by decide +kernel] at Wt; rwa [show Q oneW = 1 from one_Q] at Wt ⊢)
  rw [one_Q] at low
  have n0 := len_nn (cs.map Q)
  have n1 : ((cs.map Q).length : Rat) ≤ 16 := len_le (n := 16) (by rw [len_Q]; exact hl)
  have W0 := wt_nn (show (0 : Rat) ≤ 1 by decide +kernel) (cs.map Q)
  have half := wt_half n0 n1 W0 low
  rw [sm_wt] at near
  have lim := ch_lim W0 half near
  have inx : In (Q x) (ps (x, x)) := ⟨Rat.le_refl, Rat.le_refl⟩
  have off := off_lim (I _ inx) Rat.le_refl lim (Q_down d3)
  refine ⟨D, d1, d2, off.1, off.2, ?_⟩
  have nD : 0 ≤ V D := by
    have t2 : (0 : Int) < 2 ^ 40 := Int.pow_pos (by omega)
    refine Int.not_lt.1 fun c => ?_
    have := Int.mul_neg_of_neg_of_pos c t2
    rw [d3] at this
    omega
  refine ⟨?_, nD⟩
  have e : (V D).natAbs * 2 ^ 40 = (V (wtW oneW 0 oneW cs)).natAbs := by rw [← d3, Int.natAbs_mul, Int.natAbs_pow]; rfl
  have := Nat.le_mul_of_pos_right (V D).natAbs (Nat.two_pow_pos 40)
  omega
end Go.Proofs.Ytjhcalgamcdgiaa

namespace Go.Proofs.Ytjhcalgamcdgiaa
open Go.ChangeShapes Go.WideShapes Go.ChangeAt Go.RowKit Ieee.Own

set_option maxHeartbeats 1000000 in
/-- how far a number lies off a span: by no more than any limit, rounded -/
theorem off_any {a b x : Nat} (ha : FinW a) (hb : FinW b) (hx : FinW x) (ba : (V a).natAbs ≤ 2 ^ 1400) (bb : (V b).natAbs ≤ 2 ^ 1400) (bx : (V x).natAbs ≤ 2 ^ 1400) :
    ∃ o, FinW o ∧ (∀ L, 0 ≤ L → V a - V x ≤ L → V x - V b ≤ L → V o ≤ RN L) ∧ ∀ w, Calls Try.prog 19 #[spanV a b, .float .f64 x] w fun e w' => e = .returned (.float .f64 o) ∧ Below w.heap.size w w' := by
  have t1 := lt_words hx ha
  have t2 := gt_words hx hb
  have t3 := ge_words hx ha
  have t4 := le_words hx hb
  by_cases c1 : V x < V a
  · obtain ⟨o, e1, e2, e3, -⟩ := subW ha hx ba bx (by omega)
    refine ⟨o, e2, fun L _ h1 _ => by rw [e3]; exact RN_mono h1, fun w => ?_⟩
    · have r1 := run_sub _ _ _ e1
      rw [decide_eq_true c1] at t1
      have C0 : Cls w [(w.heap.size, a, b)] (w.alloc (boxO a b)) := (Cls.nil w).new a b
      unfold boxO at C0
      unfold spanV
      have p0 := (C0.at_ 0 rfl).lo
      have B := Lib.hid C0.old
      clear ha hb hx ba bb bx t2 t3 t4 c1 e1 e2 e3 C0
      go_enter Try.func19, Try.ntmps19
      go_wp2_with fail
      go_ret
      exact ⟨rfl, B.out⟩
  · rw [decide_eq_false c1] at t1
    by_cases c2 : V b < V x
    · obtain ⟨o, e1, e2, e3, -⟩ := subW hx hb bx bb (by omega)
      refine ⟨o, e2, fun L _ _ h2 => by rw [e3]; exact RN_mono h2, fun w => ?_⟩
      · have r1 := run_sub _ _ _ e1
        rw [decide_eq_true c2] at t2
        have C0 : Cls w [(w.heap.size, a, b)] (w.alloc (boxO a b)) := (Cls.nil w).new a b
        unfold boxO at C0
        unfold spanV
        have p0 := (C0.at_ 0 rfl).lo
        have p1 := (C0.at_ 0 rfl).hi
        have B := Lib.hid C0.old
        clear ha hb hx ba bb bx t3 t4 c1 c2 e1 e2 e3 C0
        go_enter Try.func19, Try.ntmps19
        go_wp2_with fail
        go_ret
        exact ⟨rfl, B.out⟩
    · refine ⟨0, zeroF, fun L h _ _ => by rw [zeroV]; exact (RN_sign L).1 h, fun w => ?_⟩
      rw [decide_eq_false c2] at t2
      rw [decide_eq_true (by omega)] at t3 t4
      have C0 : Cls w [(w.heap.size, a, b)] (w.alloc (boxO a b)) := (Cls.nil w).new a b
      unfold boxO at C0
      unfold spanV
      have p0 := (C0.at_ 0 rfl).lo
      have p1 := (C0.at_ 0 rfl).hi
      have B := Lib.hid C0.old
      clear ha hb hx ba bb bx c1 c2 C0
      go_enter Try.func19, Try.ntmps19
      go_wp2_with fail
      go_ret
      exact ⟨rfl, B.out⟩
end Go.Proofs.Ytjhcalgamcdgiaa
