/- Proved here: what the texts Mgn, Pol, Pch, Pcr, Pwd, Vmt prove, one behind the other. -/
import Derived.Test.YtpdkciennccckaaJm

namespace Ieee.Own

/-- where a number of 2^-2148 units is rounded -/
def dz (n : Nat) : Nat := max (dr n) 1074
def rz (n : Nat) : Nat := rne n (dz n) * 2 ^ (dz n - 1074)
def RZ (z : Int) : Int := if z < 0 then -(rz z.natAbs : Int) else (rz z.natAbs : Int)

theorem div_cap {n k d : Nat} (h : n < 2 ^ (k + d)) : n / 2 ^ d < 2 ^ k := by
  rw [Nat.div_lt_iff_lt_mul (Nat.two_pow_pos d), ← Nat.pow_add]; exact h
theorem shift_pow {x d k : Nat} (h : k ≤ d) : x * 2 ^ (d - k) * 2 ^ k = x * 2 ^ d := by
  rw [Nat.mul_assoc, ← Nat.pow_add, Nat.sub_add_cancel h]
theorem pow_same {d k : Nat} (h : d = k) : 2 ^ d = 2 ^ k := by rw [h]
theorem cast_pow (x k : Nat) : ((x * 2 ^ k : Nat) : Int) = (x : Int) * 2 ^ k := by rw [Int.natCast_mul, Int.natCast_pow]; rfl
theorem rz_range (n : Nat) : rne n (dz n) ≤ 2 ^ 53 ∧ (0 < dz n - 1074 → 2 ^ 52 ≤ rne n (dz n)) := by
  by_cases h : dr n ≤ 1074
  · have e : dz n = 1074 := by unfold dz; omega
    rw [e]
    refine ⟨?_, fun h => by omega⟩
    have b := rne_bounds n 1074
    have := div_cap (k := 53) (Nat.lt_of_lt_of_le (dr_lt n) (Nat.pow_le_pow_right (by omega) (show 53 + dr n ≤ 53 + 1074 by omega)))
    omega
  · have e : dz n = dr n := by unfold dz; omega
    rw [e]
    exact ⟨(rne_range n).1, fun h => (rne_range n).2 (by omega)⟩

theorem nearest_rz (s : Bool) (m : Nat) (place : Int) (n a c : Nat) (hm : m * 2 ^ a = n * 2 ^ c) (hp : place = -2148 + a - c) (hn : rz n < 2 ^ 2098) :
    ∃ r, r < 9218868437227405312 ∧ double.nearest s m place = double.word s r ∧ val 52 r = rz n := by
  by_cases h0 : m = 0
  · subst h0
    have : n = 0 := by
      have hc := Nat.two_pow_pos c
      rcases Nat.mul_eq_zero.1 (by omega : n * 2 ^ c = 0) with h | h <;> omega
    subst this
    refine ⟨0, by omega, by unfold Format.nearest; rw [if_pos rfl], ?_⟩
    rw [val_zero]
    have : rne 0 (dz 0) = 0 := by simpa using rne_exact 0 (dz 0)
    unfold rz
    rw [this, Nat.zero_mul]
  have hn0 : n ≠ 0 := by
    intro h; subst h
    have ha := Nat.two_pow_pos a
    rcases Nat.mul_eq_zero.1 (by omega : m * 2 ^ a = 0) with h | h <;> omega
  have hlog : m.log2 + a = n.log2 + c := by rw [← log2_shift m a h0, hm, log2_shift n c hn0]
  have hlast : max (place + m.log2 - double.fractionBits) double.leastPlace = -2148 + dz n := by
    rw [frac64', least64']; unfold dz dr; omega
  have hk : Toward.even.cut s (m <<< (place - (-2148 + dz n)).toNat) (-2148 + dz n - place).toNat = rne n (dz n) := by
    rw [Nat.shiftLeft_eq, cut_rne]
    generalize dz n = d at *
    by_cases hac : d + c ≤ a
    · have e1 : (place - (-2148 + (d : Int))).toNat = a - (d + c) := by omega
      have e2 : (-2148 + (d : Int) - place).toNat = 0 := by omega
      rw [e1, e2]
      have hq : n = (m * 2 ^ (a - (d + c))) * 2 ^ d := by
        have h2 : 2 ^ a = 2 ^ (a - (d + c)) * 2 ^ d * 2 ^ c := by rw [← Nat.pow_add, ← Nat.pow_add]; congr 1; omega
        rw [h2, ← Nat.mul_assoc, ← Nat.mul_assoc] at hm
        exact (Nat.eq_of_mul_eq_mul_right (Nat.two_pow_pos c) hm).symm
      have g1 : rne n d = m * 2 ^ (a - (d + c)) := by rw [hq]; exact rne_exact _ d
      rw [g1]
      have := rne_exact (m * 2 ^ (a - (d + c))) 0
      simpa using this
    · have e1 : (place - (-2148 + (d : Int))).toNat = 0 := by omega
      have e2 : (-2148 + (d : Int) - place).toNat = d + c - a := by omega
      rw [e1, e2, Nat.pow_zero, Nat.mul_one, ← rne_scale n d c, ← hm, ← rne_scale m (d + c - a) a]
      congr 1; omega
  have hv : val 52 ((dz n - 1074) * 2 ^ 52 + rne n (dz n)) = rz n := rung_val _ _ (rz_range n).1 (rz_range n).2
  have hr : (dz n - 1074) * 2 ^ 52 + rne n (dz n) < 9218868437227405312 := by
    rw [← val_lt_iff 52, hv, top64']; exact hn
  refine ⟨(dz n - 1074) * 2 ^ 52 + rne n (dz n), hr, ?_, hv⟩
  have hd : 1074 ≤ dz n := by unfold dz; omega
  unfold Format.nearest
  rw [if_neg h0]
  dsimp only
  rw [hlast, hk, least64', show (-2148 + (dz n : Int) - -1074).toNat = dz n - 1074 by omega, inf64]
  rw [show double.binade = 2 ^ 52 from rfl, Nat.min_eq_left (Nat.le_of_lt hr)]

theorem RZ_abs (z : Int) : (RZ z).natAbs = rz z.natAbs := by unfold RZ; split <;> omega
theorem rz_zero : rz 0 = 0 := by
  have : rne 0 (dz 0) = 0 := by simpa using rne_exact 0 (dz 0)
  unfold rz
  rw [this, Nat.zero_mul]
theorem RZ_neg (z : Int) : RZ (-z) = -RZ z := by
  by_cases h : z = 0
  · subst h; unfold RZ; simp [rz_zero]
  · unfold RZ
    rw [Int.natAbs_neg]
    split <;> split <;> omega
/-- any product -/
theorem mul_gen {a b : Nat} (ha : FinW a) (hb : FinW b) (h : rz (V a * V b).natAbs < 2 ^ 2098) :
    ∃ r, double.mul a b = some r ∧ FinW r ∧ V r = RZ (V a * V b) := by
  obtain ⟨s, m, p, hr, hV, -⟩ := read_sv ha
  obtain ⟨t, n, q, hr', hV', -⟩ := read_sv hb
  unfold Format.mul
  rw [hr, hr']
  simp only [Datum.product, Option.map]
  rw [hV, hV', sv_mul] at h ⊢
  have hNa : m * n * 2 ^ (p + q) = (sv (s ^^ t) (m * n) (p + q)).natAbs * 2 ^ 0 := by
    rw [sv_abs, Nat.pow_zero, Nat.mul_one]
  obtain ⟨r, h1, h2, h3⟩ := nearest_rz (s ^^ t) (m * n) (-1074 + (p : Int) + (-1074 + (q : Int))) _ (p + q) 0 hNa (by clear hNa h; omega) h
  refine ⟨double.word (s ^^ t) r, by simp only [Format.write]; rw [h2], (V_word _ r h1).1, ?_⟩
  rw [(V_word _ r h1).2, h3]
  have hs := sv_sign (s ^^ t) (m * n) (p + q)
  generalize sv (s ^^ t) (m * n) (p + q) = S at *
  cases hst : s ^^ t
  · rw [hst] at hs
    simp only [Bool.false_eq_true, if_false]
    have := hs.2 rfl
    unfold RZ; rw [if_neg (by omega)]
  · rw [hst] at hs
    simp only [if_true]
    have := hs.1 rfl
    by_cases h0 : S = 0
    · subst h0; unfold RZ; simp [rz_zero]
    · unfold RZ; rw [if_pos (by omega)]

/-- how near -/
theorem rz_err (n : Nat) : 2 * (rz n * 2 ^ 1074) ≤ 2 * n + 2 ^ dz n ∧ 2 * n ≤ 2 * (rz n * 2 ^ 1074) + 2 ^ dz n := by
  have e : rz n * 2 ^ 1074 = rne n (dz n) * 2 ^ dz n := shift_pow (x := rne n (dz n)) (d := dz n) (k := 1074) (by unfold dz; omega)
  rw [e]
  exact ⟨rne_up n _, rne_down n _⟩
theorem dz_le (n : Nat) : 2 ^ 52 * 2 ^ dz n ≤ n + 2 ^ 52 * 2 ^ 1074 := by
  by_cases h : dr n ≤ 1074
  · have e : dz n = 1074 := by unfold dz; omega
    have q := pow_same e
    rw [q]
    generalize 2 ^ 1074 = T
    omega
  · have e : dz n = dr n := by unfold dz; omega
    have c := dr_le n (by omega)
    rw [Nat.pow_add] at c
    rw [e]
    generalize 2 ^ 1074 = T
    generalize 2 ^ dr n = Y at *
    omega
/-- off by 2^-53 of itself, and half the least place -/
theorem RZ_err (z : Int) : 2 ^ 53 * (RZ z * 2 ^ 1074 - z).natAbs ≤ z.natAbs + 2 ^ 52 * 2 ^ 1074 := by
  obtain ⟨a, b⟩ := rz_err z.natAbs
  have c := dz_le z.natAbs
  have key : (RZ z * 2 ^ 1074 - z).natAbs = ((rz z.natAbs * 2 ^ 1074 : Nat) - (z.natAbs : Nat) : Int).natAbs := by
    have e : ((rz z.natAbs * 2 ^ 1074 : Nat) : Int) = (rz z.natAbs : Int) * 2 ^ 1074 := cast_pow (rz z.natAbs) 1074
    rw [e]
    unfold RZ
    split
    · rw [Int.neg_mul]
      generalize (rz z.natAbs : Int) * 2 ^ 1074 = X
      omega
    · generalize (rz z.natAbs : Int) * 2 ^ 1074 = X
      omega
  rw [key]
  generalize rz z.natAbs * 2 ^ 1074 = X at *
  generalize 2 ^ dz z.natAbs = Y at *
  generalize 2 ^ 1074 = T at *
  omega
end Ieee.Own

namespace Pol
open Go.Proofs.Ytpdkciennccckaa

def mag (a : Rat) : Rat := if 0 ≤ a then a else -a
theorem mag_le (a : Rat) : -mag a ≤ a ∧ a ≤ mag a ∧ 0 ≤ mag a := by
  unfold mag
  split <;> refine ⟨?_, ?_, ?_⟩ <;> grind
theorem mag_of {a M : Rat} (h : -M ≤ a) (h' : a ≤ M) : mag a ≤ M := by
  unfold mag
  split <;> grind
theorem mag_mul {x y B M : Rat} (hx : mag x ≤ B) (hy : mag y ≤ M) : mag (x * y) ≤ B * M := by
  have a := mag_le x
  have b := mag_le y
  have := abs_mul (x := x) (y := y) (B := B) (M := M) (by grind) (by grind) (by grind) (by grind)
  exact mag_of this.1 this.2
theorem mag_add {x y B M : Rat} (hx : mag x ≤ B) (hy : mag y ≤ M) : mag (x + y) ≤ B + M := by
  have a := mag_le x
  have b := mag_le y
  exact mag_of (by grind) (by grind)
theorem mag_sub {x y B M : Rat} (hx : mag x ≤ B) (hy : mag y ≤ M) : mag (x - y) ≤ B + M := by
  have a := mag_le x
  have b := mag_le y
  exact mag_of (by grind) (by grind)
theorem mag_neg (x : Rat) : mag (-x) = mag x := by
  unfold mag
  split <;> split <;> grind

/-- rounded at the 53rd digit, or at a least place of t -/
def Rd (u t w v : Rat) : Prop := ∀ M, mag v ≤ M → mag (w - v) ≤ u * M + t

/-! ### by powers -/
def hv (x : Rat) : List Rat → Rat
  | [] => 0
  | a :: al => a + x * hv x al
/-- the sum of all magnitudes times powers of m -/
def wt (m : Rat) : List Rat → Rat
  | [] => 0
  | a :: al => mag a + m * wt m al
theorem wt_nn {m : Rat} (hm : 0 ≤ m) : ∀ al, 0 ≤ wt m al
  | [] => Rat.le_refl
  | a :: al => by
    have h := wt_nn hm al
    have := Rat.mul_nonneg hm h
    have b := (mag_le a).2.2
    show 0 ≤ mag a + m * wt m al
    grind
theorem hv_le {x m : Rat} (hx : mag x ≤ m) : ∀ al, mag (hv x al) ≤ wt m al
  | [] => by show mag 0 ≤ 0; decide +kernel
  | a :: al => mag_add Rat.le_refl (mag_mul hx (hv_le hx al))
/-- rounded step by step -/
def HvA (u t x : Rat) : List Rat → Rat → Prop
  | [], p => p = 0
  | a :: al, p => ∃ p' M, HvA u t x al p' ∧ Rd u t M (x * p') ∧ Rd u 0 p (a + M)
def sN (t : Rat) : Nat → Rat
  | 0 => 4 * t
  | n + 1 => 2048 * sN t n
theorem sN_le {t : Rat} (ht : 0 ≤ t) : ∀ n, 4 * t ≤ sN t n
  | 0 => Rat.le_refl
  | n + 1 => by
    have := sN_le ht n
    show 4 * t ≤ 2048 * sN t n
    grind
theorem pol_step {u t x m a p' h' M p W' n s : Rat} (u0 : 0 ≤ u) (u1 : 1000 * u ≤ 1) (t0 : 0 ≤ t) (m1 : 1 ≤ m) (m2 : m ≤ 1024) (hx : mag x ≤ m) (w0 : 0 ≤ W')
    (e : mag (p' - h') ≤ n * (3 * u * W') + s) (b : mag h' ≤ W') (n0 : 0 ≤ n) (n1 : n ≤ 16) (s0 : 4 * t ≤ s) (R1 : Rd u t M (x * p')) (R2 : Rd u 0 p (a + M)) :
    mag (p - (a + x * h')) ≤ (n + 1) * (3 * u * (mag a + m * W')) + 2048 * s := by
  -- atoms
  have hE : mag p' ≤ W' + (n * (3 * u * W') + s) := by
    have := mag_add b e
    rwa [show h' + (p' - h') = p' by grind] at this
  generalize hEe : n * (3 * u * W') + s = E at *
  have g1 := mag_mul hx e
  have g2 := mag_mul hx hE
  have g3 := R1 _ g2
  have g4 : mag M ≤ m * (W' + E) + (u * (m * (W' + E)) + t) := by
    have := mag_add g2 g3
    rwa [show x * p' + (M - x * p') = M by grind] at this
  have g5 := R2 _ (mag_add (x := a) (B := mag a) Rat.le_refl g4)
  have g6 := mag_add (mag_add g1 g3) g5
  rw [show x * (p' - h') + (M - x * p') + (p - (a + M)) = p - (a + x * h') by grind] at g6
  refine Rat.le_trans g6 ?_
  subst hEe
  have a0 := (mag_le a).2.2
  generalize mag a = A at *
  have y0 := Rat.mul_nonneg (show 0 ≤ m by grind) w0
  generalize hY : m * W' = Y at *
  have z0 := Rat.mul_nonneg u0 y0
  have z1 := Rat.mul_nonneg (show 0 ≤ 1 - 1000 * u by grind) z0
  have z2 := Rat.mul_nonneg (show 0 ≤ 16 - n by grind) z0
  have z3 := Rat.mul_nonneg n0 z1
  have z4 := Rat.mul_nonneg u0 z1
  have z5 := Rat.mul_nonneg u0 z3
  have q0 := Rat.mul_nonneg u0 a0
  have q1 := Rat.mul_nonneg n0 q0
  have s1 : 0 ≤ s := by grind
  have r0 := Rat.mul_nonneg (show 0 ≤ 1024 - m by grind) s1
  have r1 := Rat.mul_nonneg (show 0 ≤ m by grind) s1
  have r2 := Rat.mul_nonneg (show 0 ≤ 1 - 1000 * u by grind) r1
  have r3 := Rat.mul_nonneg u0 r2
  have t1 := Rat.mul_nonneg (show 0 ≤ 1 - 1000 * u by grind) t0
  have k1 : m * (n * (3 * u * W') + s) = 3 * (n * (u * Y)) + m * s := by rw [← hY]; grind
  have k2 : m * (W' + (n * (3 * u * W') + s)) = Y + 3 * (n * (u * Y)) + m * s := by rw [← hY]; grind
  rw [k1, k2]
  clear k1 k2 hY g1 g2 g3 g4 g5 g6 R1 R2 hE
  grind
theorem hvA_near {u t x m : Rat} (u0 : 0 ≤ u) (u1 : 1000 * u ≤ 1) (t0 : 0 ≤ t) (m1 : 1 ≤ m) (m2 : m ≤ 1024) (hx : mag x ≤ m) :
    ∀ (al : List Rat) (p : Rat), al.length ≤ 16 → HvA u t x al p → mag (p - hv x al) ≤ (al.length : Rat) * (3 * u * wt m al) + sN t al.length
  | [], p, _, h => by
    have h : p = 0 := h
    subst h
    have e : mag (0 - hv x []) = 0 := by show mag (0 - 0) = 0; decide +kernel
    rw [e]
    show 0 ≤ ((0 : Nat) : Rat) * _ + 4 * t
    have : ((0 : Nat) : Rat) = 0 := rfl
    rw [this]
    grind
  | a :: al, p, hl, ⟨p', M, h, R1, R2⟩ => by
    have hl' : al.length ≤ 15 := by simp at hl; omega
    have ih := hvA_near u0 u1 t0 m1 m2 hx al p' (by omega) h
    have c : ((al.length : Nat) : Rat) ≤ 16 := by
      have : ((al.length : Int) : Rat) ≤ ((16 : Int) : Rat) := Rat.intCast_le_intCast.2 (by omega)
      exact this
    have c0 : (0 : Rat) ≤ ((al.length : Nat) : Rat) := by
      have : ((0 : Int) : Rat) ≤ ((al.length : Int) : Rat) := Rat.intCast_le_intCast.2 (by omega)
      exact this
    have := pol_step u0 u1 t0 m1 m2 hx (wt_nn (by grind) al) ih (hv_le hx al) c0 c (sN_le t0 _) R1 R2 (a := a)
    have e : (((a :: al).length : Nat) : Rat) = (al.length : Rat) + 1 := by
      show (((al.length + 1 : Nat) : Int) : Rat) = ((al.length : Int) : Rat) + 1
      rw [Int.natCast_add, Rat.intCast_add]; rfl
    rw [e]
    exact this
end Pol

namespace Pol
open Go.Proofs.Ytpdkciennccckaa

/-- a point's two numbers as a cosine's of two neighbouring angles -/
structure Ph (x t s : Rat) : Prop where
  id : t * t + s * s - 2 * (x * (t * s)) = 1 - x * x
  t1 : mag t ≤ 1
  s1 : mag s ≤ 1
theorem sq_of {r : Rat} (h : r * r ≤ 1) : mag r ≤ 1 := by
  refine mag_of ?_ ?_
  · by_cases c : r < -1
    · have := Rat.mul_nonneg (show 0 ≤ -1 - r by grind) (show 0 ≤ -1 - r by grind)
      have := Rat.mul_pos (show 0 < -1 - r by grind) (show 0 < 1 - r by grind)
      grind
    · grind
  · by_cases c : 1 < r
    · have := Rat.mul_pos (show 0 < r - 1 by grind) (show 0 < r + 1 by grind)
      grind
    · grind
theorem of_sq {r : Rat} (h : mag r ≤ 1) : r * r ≤ 1 := by
  have a := mag_le r
  have := Rat.mul_nonneg (show 0 ≤ 1 - r by grind) (show 0 ≤ 1 + r by grind)
  grind
theorem sq_nn (r : Rat) : 0 ≤ r * r := by
  rcases Rat.le_total (a := 0) (b := r) with h | h
  · exact Rat.mul_nonneg h h
  · have := Rat.mul_nonneg (show 0 ≤ -r by grind) (show 0 ≤ -r by grind)
    grind
theorem Ph.step {x t s : Rat} (hx : mag x ≤ 1) (h : Ph x t s) : Ph x s (2 * (x * s) - t) := by
  have id := h.id
  have x1 := of_sq hx
  generalize hr : 2 * (x * s) - t = r
  have id2 : s * s + r * r - 2 * (x * (s * r)) = 1 - x * x := by rw [← hr]; grind
  refine ⟨id2, h.s1, sq_of ?_⟩
  have q : (s - x * r) * (s - x * r) = (1 - x * x) * (1 - r * r) := by grind
  have n := sq_nn (s - x * r)
  rw [q] at n
  by_cases c : x * x = 1
  · have z : (s - x * r) * (s - x * r) = 0 := by rw [q, c]; grind
    have e : s - x * r = 0 := by
      rcases Rat.mul_eq_zero.1 z with h | h <;> exact h
    have f : s * s = r * r := by
      have : s = x * r := by grind
      rw [this]; grind
    have := of_sq h.s1
    grind
  · have p : 0 < 1 - x * x := by grind
    by_cases d : r * r ≤ 1
    · exact d
    · have := Rat.mul_pos p (show 0 < r * r - 1 by grind)
      grind
/-- sums of magnitudes -/
def sm : List Rat → Rat
  | [] => 0
  | a :: al => mag a + sm al
theorem sm_nn : ∀ al, 0 ≤ sm al
  | [] => Rat.le_refl
  | a :: al => by
    have := sm_nn al
    have := (mag_le a).2.2
    show 0 ≤ mag a + sm al
    grind
/-- Clenshaw's two numbers -/
def cl (x : Rat) : List Rat → Rat × Rat
  | [] => (0, 0)
  | a :: al => (2 * (x * (cl x al).1) - (cl x al).2 + a, (cl x al).1)
def chv (x : Rat) : List Rat → Rat
  | [] => 0
  | c :: cs => x * (cl x cs).1 - (cl x cs).2 + c
theorem cl_ph {x : Rat} (hx : mag x ≤ 1) : ∀ (al : List Rat) (t s : Rat), Ph x t s → mag ((cl x al).1 * s - (cl x al).2 * t) ≤ sm al
  | [], t, s, _ => by
    show mag (0 * s - 0 * t) ≤ 0
    rw [show 0 * s - 0 * t = 0 by grind]; decide +kernel
  | a :: al, t, s, h => by
    have ih := cl_ph hx al s (2 * (x * s) - t) (h.step hx)
    show mag ((2 * (x * (cl x al).1) - (cl x al).2 + a) * s - (cl x al).1 * t) ≤ mag a + sm al
    generalize (cl x al).1 = b at *
    generalize (cl x al).2 = d at *
    have m := mag_mul (x := a) (B := mag a) Rat.le_refl h.s1
    have := mag_add m ih
    rw [show a * s + (b * (2 * (x * s) - t) - d * s) = (2 * (x * b) - d + a) * s - b * t by grind] at this
    grind
theorem ph_one {x : Rat} (hx : mag x ≤ 1) : Ph x 1 x := ⟨by grind, by decide +kernel, hx⟩
/-- each coefficient counts once at most -/
theorem chv_le {x : Rat} (hx : mag x ≤ 1) : ∀ al, mag (chv x al) ≤ sm al
  | [] => by show mag 0 ≤ 0; decide +kernel
  | c :: cs => by
    have h := cl_ph hx cs 1 x (ph_one hx)
    have := mag_add h (y := c) (M := mag c) Rat.le_refl
    show mag (x * (cl x cs).1 - (cl x cs).2 + c) ≤ mag c + sm cs
    rw [show (cl x cs).1 * x - (cl x cs).2 * 1 = x * (cl x cs).1 - (cl x cs).2 by grind] at this
    grind
/-- the second kind -/
structure Pu (x n t s : Rat) : Prop where
  t1 : mag t ≤ n
  s1 : mag s ≤ n + 1
  ph : Ph x (s - x * t) (x * s - t)
theorem Pu.step {x n t s : Rat} (hx : mag x ≤ 1) (h : Pu x n t s) : Pu x (n + 1) s (2 * (x * s) - t) := by
  refine ⟨h.s1, ?_, ?_⟩
  · have := mag_add (mag_mul hx h.s1) h.ph.s1
    rw [show x * s + (x * s - t) = 2 * (x * s) - t by grind] at this
    grind
  · have := h.ph.step hx
    rwa [show 2 * (x * s) - t - x * s = x * s - t by grind, show x * (2 * (x * s) - t) - s = 2 * (x * (x * s - t)) - (s - x * t) by grind]
theorem cl_pu {x : Rat} (hx : mag x ≤ 1) : ∀ (al : List Rat) (n t s : Rat), 0 ≤ n → Pu x n t s → mag ((cl x al).1 * s - (cl x al).2 * t) ≤ (n + (al.length : Rat)) * sm al
  | [], n, t, s, _, _ => by
    show mag (0 * s - 0 * t) ≤ _ * 0
    rw [show 0 * s - 0 * t = 0 by grind, Rat.mul_zero]; decide +kernel
  | a :: al, n, t, s, hn, h => by
    have ih := cl_pu hx al (n + 1) s (2 * (x * s) - t) (by grind) (h.step hx)
    show mag ((2 * (x * (cl x al).1) - (cl x al).2 + a) * s - (cl x al).1 * t) ≤ (n + ((al.length + 1 : Nat) : Rat)) * (mag a + sm al)
    have e : ((al.length + 1 : Nat) : Rat) = (al.length : Rat) + 1 := by
      show (((al.length + 1 : Nat) : Int) : Rat) = ((al.length : Int) : Rat) + 1
      rw [Int.natCast_add, Rat.intCast_add]; rfl
    rw [e]
    have c0 : (0 : Rat) ≤ (al.length : Rat) := by
      have : ((0 : Int) : Rat) ≤ ((al.length : Int) : Rat) := Rat.intCast_le_intCast.2 (by omega)
      exact this
    generalize (cl x al).1 = b at *
    generalize (cl x al).2 = d at *
    generalize (al.length : Rat) = L at *
    have m := mag_mul (x := a) (B := mag a) Rat.le_refl h.s1
    have := mag_add m ih
    rw [show a * s + (b * (2 * (x * s) - t) - d * s) = (2 * (x * b) - d + a) * s - b * t by grind] at this
    have k := Rat.mul_nonneg c0 (mag_le a).2.2
    grind
theorem pu_one {x : Rat} (hx : mag x ≤ 1) : Pu x 0 0 1 := by
  refine ⟨by decide +kernel, by decide +kernel, ?_⟩
  have := ph_one hx
  rwa [show (1 : Rat) - x * 0 = 1 by grind, show x * 1 - 0 = x by grind]
theorem cl_le {x : Rat} (hx : mag x ≤ 1) (al : List Rat) : mag (cl x al).1 ≤ (al.length : Rat) * sm al := by
  have := cl_pu hx al 0 0 1 Rat.le_refl (pu_one hx)
  rwa [show (cl x al).1 * 1 - (cl x al).2 * 0 = (cl x al).1 by grind, Rat.zero_add] at this
end Pol

namespace Pol
open Go.Proofs.Ytpdkciennccckaa

/-- one list less another -/
def df : List Rat → List Rat → List Rat
  | a :: al, b :: bl => (a - b) :: df al bl
  | _, _ => []
theorem cl_df {x : Rat} : ∀ (al bl : List Rat), al.length = bl.length → (cl x (df al bl)).1 = (cl x al).1 - (cl x bl).1 ∧ (cl x (df al bl)).2 = (cl x al).2 - (cl x bl).2
  | [], [], _ => by
    show (0 : Rat) = 0 - 0 ∧ (0 : Rat) = 0 - 0
    exact ⟨by grind, by grind⟩
  | a :: al, b :: bl, h => by
    have ih := cl_df (x := x) al bl (by simpa using h)
    show 2 * (x * (cl x (df al bl)).1) - (cl x (df al bl)).2 + (a - b) = (2 * (x * (cl x al).1) - (cl x al).2 + a) - (2 * (x * (cl x bl).1) - (cl x bl).2 + b) ∧ (cl x (df al bl)).1 = _
    rw [ih.1, ih.2]
    exact ⟨by grind, rfl⟩
  | [], _ :: _, h => by simp at h
  | _ :: _, [], h => by simp at h
theorem chv_df {x : Rat} : ∀ (al bl : List Rat), al.length = bl.length → chv x (df al bl) = chv x al - chv x bl
  | [], [], _ => by
    show (0 : Rat) = 0 - 0
    grind
  | a :: al, b :: bl, h => by
    have ih := cl_df (x := x) al bl (by simpa using h)
    show x * (cl x (df al bl)).1 - (cl x (df al bl)).2 + (a - b) = (x * (cl x al).1 - (cl x al).2 + a) - (x * (cl x bl).1 - (cl x bl).2 + b)
    rw [ih.1, ih.2]
    grind
  | [], _ :: _, h => by simp at h
  | _ :: _, [], h => by simp at h
theorem sm_df : ∀ (al bl : List Rat), al.length = bl.length → sm al ≤ sm bl + sm (df al bl)
  | [], [], _ => by
    show (0 : Rat) ≤ 0 + 0
    grind
  | a :: al, b :: bl, h => by
    have ih := sm_df al bl (by simpa using h)
    show mag a + sm al ≤ (mag b + sm bl) + (mag (a - b) + sm (df al bl))
    have := mag_add (x := b) (y := a - b) Rat.le_refl Rat.le_refl
    rw [show b + (a - b) = a by grind] at this
    grind
  | [], _ :: _, h => by simp at h
  | _ :: _, [], h => by simp at h
theorem len_nn (al : List Rat) : (0 : Rat) ≤ (al.length : Rat) := by
  have : ((0 : Int) : Rat) ≤ ((al.length : Int) : Rat) := Rat.intCast_le_intCast.2 (by omega)
  exact this
theorem len_le {al : List Rat} {n : Nat} (h : al.length ≤ n) : (al.length : Rat) ≤ (n : Rat) := by
  have : ((al.length : Int) : Rat) ≤ ((n : Int) : Rat) := Rat.intCast_le_intCast.2 (by omega)
  exact this
theorem len_succ (a : Rat) (al : List Rat) : (((a :: al).length : Nat) : Rat) = (al.length : Rat) + 1 := by
  show (((al.length + 1 : Nat) : Int) : Rat) = ((al.length : Int) : Rat) + 1
  rw [Int.natCast_add, Rat.intCast_add]; rfl
theorem cl_two {x : Rat} (hx : mag x ≤ 1) (al : List Rat) : mag (cl x al).2 ≤ (al.length : Rat) * sm al := by
  cases al with
  | nil => show mag 0 ≤ _ * 0; rw [Rat.mul_zero]; decide +kernel
  | cons a al =>
    have h := cl_le hx al
    rw [len_succ]
    show mag (cl x al).1 ≤ _ * (mag a + sm al)
    have p := Rat.mul_nonneg (len_nn al) (mag_le a).2.2
    have q := sm_nn al
    have r := (mag_le a).2.2
    grind

/-- one step, rounded three times -/
theorem loc_step {u t y d d' M N b a A B : Rat} (u0 : 0 ≤ u) (u1 : 1000000 * u ≤ 1) (t0 : 0 ≤ t) (hy : mag y ≤ 2) (hd : mag d ≤ B) (hd' : mag d' ≤ B) (ha : mag a ≤ A)
    (R1 : Rd u t M (y * d)) (R2 : Rd u 0 N (M - d')) (R3 : Rd u 0 b (N + a)) : mag (b - y * d + d' - a) ≤ 9 * (u * B) + u * A + 3 * t := by
  have B0 : 0 ≤ B := Rat.le_trans (mag_le d).2.2 hd
  have g1 := mag_mul hy hd
  have g2 := R1 _ g1
  have g3 : mag M ≤ 2 * B + (u * (2 * B) + t) := by
    have := mag_add g1 g2
    rwa [show y * d + (M - y * d) = M by grind] at this
  have g4 := mag_sub g3 hd'
  have g5 := R2 _ g4
  have g6 : mag N ≤ 2 * B + (u * (2 * B) + t) + B + (u * (2 * B + (u * (2 * B) + t) + B) + 0) := by
    have := mag_add g4 g5
    rwa [show M - d' + (N - (M - d')) = N by grind] at this
  have g7 := R3 _ (mag_add g6 ha)
  have g8 := mag_add (mag_add g7 g5) g2
  rw [show b - (N + a) + (N - (M - d')) + (M - y * d) = b - y * d + d' - a by grind] at g8
  refine Rat.le_trans g8 ?_
  have z0 := Rat.mul_nonneg u0 B0
  have z1 := Rat.mul_nonneg (show 0 ≤ 1 - 1000000 * u by grind) z0
  have z2 := Rat.mul_nonneg u0 z1
  have t1 := Rat.mul_nonneg (show 0 ≤ 1 - 1000000 * u by grind) t0
  have t2 := Rat.mul_nonneg u0 t1
  clear g1 g2 g3 g4 g5 g6 g7 g8 R1 R2 R3 hy hd hd' ha
  grind

/-- rounded step by step -/
def ClA (u t x : Rat) : List Rat → Rat → Rat → Prop
  | [], b, d => b = 0 ∧ d = 0
  | a :: al, b, d => ∃ d' M N, ClA u t x al d d' ∧ Rd u t M (2 * x * d) ∧ Rd u 0 N (M - d') ∧ Rd u 0 b (N + a)
def ChA (u t x : Rat) : List Rat → Rat → Prop
  | [], p => p = 0
  | c :: cs, p => ∃ b d M N, ClA u t x cs b d ∧ Rd u t M (x * b) ∧ Rd u 0 N (M - d) ∧ Rd u 0 p (N + c)

theorem cheb_sum {u t A W D n B e : Rat} (u0 : 0 ≤ u) (u1 : 1000000 * u ≤ 1) (t0 : 0 ≤ t) (a0 : 0 ≤ A) (w0 : 0 ≤ W) (n0 : 0 ≤ n) (n1 : n ≤ 16) (d0 : 0 ≤ D) (hD : D ≤ n * (150 * (u * W) + 4 * t)) (hB : B = n * (W + D)) (he : e ≤ 9 * (u * B) + u * A + 3 * t) :
    e + D ≤ (n + 1) * (150 * (u * (A + W)) + 4 * t) := by
  have uw := Rat.mul_nonneg u0 w0
  have ua := Rat.mul_nonneg u0 a0
  have p1 := Rat.mul_nonneg (show 0 ≤ 16 - n by grind) (show 0 ≤ 150 * (u * W) + 4 * t by grind)
  have D1 : D ≤ 2400 * (u * W) + 64 * t := by grind
  have v1 := Rat.mul_nonneg (show 0 ≤ 1 - 1000000 * u by grind) w0
  have D2 : 100 * D ≤ W + 6400 * t := by grind
  have b1 := Rat.mul_nonneg (show 0 ≤ 16 - n by grind) (show 0 ≤ W + D by grind)
  have B1 : B ≤ 16 * (W + D) := by rw [hB]; grind
  have B2 : 100 * B ≤ 16 * (101 * W + 6400 * t) := by grind
  have ub := Rat.mul_nonneg u0 (show 0 ≤ 16 * (101 * W + 6400 * t) - 100 * B by grind)
  have t1 := Rat.mul_nonneg (show 0 ≤ 1 - 1000000 * u by grind) t0
  have na := Rat.mul_nonneg n0 ua
  have nt := Rat.mul_nonneg n0 t0
  clear hB p1 b1 B1 B2 D1 D2 v1
  grind
theorem clA_ex {u t x : Rat} (u0 : 0 ≤ u) (u1 : 1000000 * u ≤ 1) (t0 : 0 ≤ t) (hx : mag x ≤ 1) : ∀ (al : List Rat) (b d : Rat), al.length ≤ 16 → ClA u t x al b d →
    ∃ bl, bl.length = al.length ∧ cl x bl = (b, d) ∧ sm (df bl al) ≤ (al.length : Rat) * (150 * (u * sm al) + 4 * t)
  | [], b, d, _, h => by
    obtain ⟨rfl, rfl⟩ := h
    refine ⟨[], rfl, rfl, ?_⟩
    show (0 : Rat) ≤ ((0 : Nat) : Rat) * _
    have : ((0 : Nat) : Rat) = 0 := rfl
    rw [this, Rat.zero_mul]
    exact Rat.le_refl
  | a :: al, b, d, hl, ⟨d', M, N, h, R1, R2, R3⟩ => by
    have hl' : al.length ≤ 15 := by simp at hl; omega
    obtain ⟨bl, e1, e2, e3⟩ := clA_ex u0 u1 t0 hx al d d' (by omega) h
    have c1 := cl_le hx bl
    have c2 := cl_two hx bl
    rw [e2] at c1 c2
    rw [e1] at c1 c2
    have sd := sm_df bl al e1
    have n0 := len_nn al
    have n1 : (al.length : Rat) ≤ 16 := len_le (n := 16) (by omega)
    have w0 := sm_nn al
    have d0 := sm_nn (df bl al)
    have m := Rat.mul_nonneg n0 (show 0 ≤ sm al + sm (df bl al) - sm bl by grind)
    have hy : mag (2 * x) ≤ 2 := by
      have a := mag_le x
      exact mag_of (by grind) (by grind)
    have st := loc_step (B := (al.length : Rat) * (sm al + sm (df bl al))) u0 u1 t0 hy (d := d) (d' := d') (by grind) (by grind) Rat.le_refl R1 R2 R3
    have fin := cheb_sum u0 u1 t0 (mag_le a).2.2 w0 n0 n1 d0 e3 rfl st
    refine ⟨(b - 2 * (x * d) + d') :: bl, by simp [e1], ?_, ?_⟩
    · show (2 * (x * (cl x bl).1) - (cl x bl).2 + (b - 2 * (x * d) + d'), (cl x bl).1) = (b, d)
      rw [e2]
      show (2 * (x * d) - d' + (b - 2 * (x * d) + d'), d) = (b, d)
      rw [show 2 * (x * d) - d' + (b - 2 * (x * d) + d') = b by grind]
    · rw [len_succ]
      show mag (b - 2 * (x * d) + d' - a) + sm (df bl al) ≤ ((al.length : Rat) + 1) * (150 * (u * (mag a + sm al)) + 4 * t)
      rw [show b - 2 * (x * d) + d' - a = b - 2 * x * d + d' - a by grind]
      exact fin
/-- the answer is off by little -/
theorem chA_near {u t x p : Rat} (u0 : 0 ≤ u) (u1 : 1000000 * u ≤ 1) (t0 : 0 ≤ t) (hx : mag x ≤ 1) (al : List Rat) (hl : al.length ≤ 16) (h : ChA u t x al p) :
    mag (p - chv x al) ≤ 2400 * (u * sm al) + 64 * t := by
  have z0 := Rat.mul_nonneg u0 (sm_nn al)
  cases al with
  | nil =>
    have h : p = 0 := h
    subst h
    show mag (0 - 0) ≤ _
    have e : mag ((0 : Rat) - 0) = 0 := by decide +kernel
    rw [e]
    grind
  | cons c cs =>
    obtain ⟨b, d, M, N, h, R1, R2, R3⟩ := h
    have hl' : cs.length ≤ 15 := by simp at hl; omega
    obtain ⟨bl, e1, e2, e3⟩ := clA_ex u0 u1 t0 hx cs b d (by omega) h
    have c1 := cl_le hx bl
    have c2 := cl_two hx bl
    rw [e2] at c1 c2
    rw [e1] at c1 c2
    have sd := sm_df bl cs e1
    have n0 := len_nn cs
    have n1 : (cs.length : Rat) ≤ 15 := len_le (n := 15) hl'
    have w0 := sm_nn cs
    have d0 := sm_nn (df bl cs)
    have m := Rat.mul_nonneg n0 (show 0 ≤ sm cs + sm (df bl cs) - sm bl by grind)
    have hy : mag x ≤ 2 := by grind
    have st := loc_step (B := (cs.length : Rat) * (sm cs + sm (df bl cs))) u0 u1 t0 hy (d := b) (d' := d) (by grind) (by grind) Rat.le_refl R1 R2 R3
    have fin := cheb_sum u0 u1 t0 (mag_le c).2.2 w0 n0 (by grind) d0 e3 rfl st
    have key := chv_le hx (df ((p - x * b + d) :: bl) (c :: cs))
    rw [chv_df _ _ (by simp [e1])] at key
    have ep : chv x ((p - x * b + d) :: bl) = p := by
      show x * (cl x bl).1 - (cl x bl).2 + (p - x * b + d) = p
      rw [e2]
      show x * b - d + (p - x * b + d) = p
      grind
    rw [ep] at key
    refine Rat.le_trans key ?_
    show mag (p - x * b + d - c) + sm (df bl cs) ≤ 2400 * (u * (mag c + sm cs)) + 64 * t
    have a0 := (mag_le c).2.2
    have k := Rat.mul_nonneg (show 0 ≤ 15 - (cs.length : Rat) by grind) (show 0 ≤ 150 * (u * (mag c + sm cs)) + 4 * t by have := Rat.mul_nonneg u0 (show 0 ≤ mag c + sm cs by grind); grind)
    grind
end Pol

namespace Ieee.Own
theorem rne_cap {n d k : Nat} (h : n ≤ 2 ^ (k + d)) : rne n d ≤ 2 ^ k := by
  rw [Nat.pow_add] at h
  have := rne_mono d h
  rwa [rne_exact] at this
theorem rz_cap {n k : Nat} (h : n ≤ 2 ^ (k + 1074)) : rz n ≤ 2 ^ k := by
  have h1 : dr n ≤ k + 1074 := by
    have : n < 2 ^ (53 + (k + 1074)) := Nat.lt_of_le_of_lt h (Nat.pow_lt_pow_right (by omega) (by omega))
    exact dr_of_lt this
  have h2 : dz n ≤ k + 1074 := by unfold dz; omega
  have h3 : 1074 ≤ dz n := by unfold dz; omega
  unfold rz
  generalize dz n = d at *
  have c := rne_cap (n := n) (d := d) (k := k + 1074 - d) (by rwa [show k + 1074 - d + d = k + 1074 by omega])
  have := Nat.mul_le_mul_right (2 ^ (d - 1074)) c
  rwa [← Nat.pow_add, show k + 1074 - d + (d - 1074) = k by omega] at this
theorem mulB {a b i j k : Nat} (ha : FinW a) (hb : FinW b) (xa : (V a).natAbs ≤ 2 ^ i) (xb : (V b).natAbs ≤ 2 ^ j) (e : i + j = k + 1074) (hk : k < 2098) :
    ∃ r, double.mul a b = some r ∧ FinW r ∧ V r = RZ (V a * V b) ∧ (V r).natAbs ≤ 2 ^ k := by
  have c : (V a * V b).natAbs ≤ 2 ^ (k + 1074) := by
    rw [Int.natAbs_mul, ← e, Nat.pow_add]
    exact Nat.mul_le_mul xa xb
  have z := rz_cap c
  obtain ⟨r, h1, h2, h3⟩ := mul_gen ha hb (Nat.lt_of_le_of_lt z (two_lt (a := k) (b := 2098) hk))
  exact ⟨r, h1, h2, h3, by rw [h3, RZ_abs]; exact z⟩
end Ieee.Own
namespace Go.Proofs.Ytpdkciennccckaa
open Ieee.Own Pol

theorem zeroF : FinW 0 := by unfold FinW; omega
theorem zeroV : V 0 = 0 := by decide +kernel
theorem cw_up {c k : Nat} (h : (V c).natAbs ≤ 2 ^ 1114) (hk : 1114 ≤ k) : (V c).natAbs ≤ 2 ^ k := Nat.le_trans h (two_le (a := 1114) (b := k) hk)
theorem zero_cap (k : Nat) : (V 0).natAbs ≤ 2 ^ k := by rw [zeroV]; exact Nat.zero_le _
def lX (a b : Nat) : Nat := (Ieee.double.sub a b).getD 0
def uR : Rat := mkRat 1 (2^53)
def tR : Rat := 1 / unit
theorem uR0 : 0 ≤ uR := by decide +kernel
theorem uR1 : 1000000 * uR ≤ 1 := by decide +kernel
theorem tR0 : 0 ≤ tR := by decide +kernel
theorem rd_of {w v : Rat} (h : Rld w v) : Rd uR 0 w v := by
  intro M hM
  have a := mag_le v
  have := h M (by grind) (by grind)
  have e : M * mkRat 1 (2^53) = uR * M := Rat.mul_comm _ _
  rw [e] at this
  exact mag_of (by grind) (by grind)
theorem Q_times (a b : Nat) : Q a * Q b = ((V a * V b : Int) : Rat) / unit / unit := by
  unfold Q
  rw [Rat.intCast_mul]
  simp only [Rat.div_def]
  grind
theorem unit_cast : ((2 ^ 1074 : Int) : Rat) = unit := by decide +kernel
theorem pow_int (k : Nat) : (2 : Int) ^ k = ((2 ^ k : Nat) : Int) := by rw [Int.natCast_pow]; rfl
theorem err_aux {w p t : Int} {T : Nat} (ht : t = (T : Int)) (h : 2 ^ 53 * (w * t - p).natAbs ≤ p.natAbs + 2 ^ 52 * T) :
    2 ^ 53 * (w * t - p) ≤ (p.natAbs : Int) + 2 ^ 52 * t ∧ 2 ^ 53 * (p - w * t) ≤ (p.natAbs : Int) + 2 ^ 52 * t := by
  subst ht
  generalize w * (T : Int) = X at *
  omega
/-- any product, as fractions -/
theorem rd_mul {a b r : Nat} (h : V r = RZ (V a * V b)) : Rd uR tR (Q r) (Q a * Q b) := by
  intro M hM
  have er := RZ_err (V a * V b)
  rw [← h] at er
  rw [Q_times] at hM ⊢
  generalize V a * V b = P at *
  have hu := unit_pos
  obtain ⟨e1, e2⟩ := err_aux (w := V r) (p := P) (t := 2 ^ 1074) (T := 2 ^ 1074) (pow_int 1074) er
  have b1 := Rat.intCast_le_intCast.2 e1
  have b2 := Rat.intCast_le_intCast.2 e2
  rw [Rat.intCast_mul, Rat.intCast_sub, Rat.intCast_add, Rat.intCast_mul, Rat.intCast_mul, unit_cast] at b1 b2
  have k53 : ((2 ^ 53 : Int) : Rat) = 9007199254740992 := by decide +kernel
  have k52 : ((2 ^ 52 : Int) : Rat) = 4503599627370496 := by decide +kernel
  rw [k53, k52] at b1 b2
  clear er e1 e2 h
  -- the magnitude
  have c : ((P.natAbs : Int) : Rat) ≤ M * unit * unit := by
    have a := mag_le ((P : Rat) / unit / unit)
    have m1 : (P : Rat) / unit / unit ≤ M := by grind
    have m2 : -M ≤ (P : Rat) / unit / unit := by grind
    have n1 := Rat.mul_le_mul_of_nonneg_right (Rat.mul_le_mul_of_nonneg_right m1 (Rat.le_of_lt hu)) (Rat.le_of_lt hu)
    have n2 := Rat.mul_le_mul_of_nonneg_right (Rat.mul_le_mul_of_nonneg_right m2 (Rat.le_of_lt hu)) (Rat.le_of_lt hu)
    rw [mul_unit, mul_unit] at n1 n2
    rcases (by omega : (P.natAbs : Int) = P ∨ (P.natAbs : Int) = -P) with h | h
    · rw [h]; exact n1
    · rw [h, Rat.intCast_neg]; grind
  have d1 := div_le (div_le (show 9007199254740992 * ((V r : Rat) * unit - P) ≤ M * unit * unit + 4503599627370496 * unit by grind))
  have d2 := div_le (div_le (show 9007199254740992 * (P - (V r : Rat) * unit) ≤ M * unit * unit + 4503599627370496 * unit by grind))
  have s0 : (M * unit * unit + 4503599627370496 * unit) / unit / unit = M + 4503599627370496 * tR := by
    have e : M * unit * unit + 4503599627370496 * unit = (M * unit + 4503599627370496) * unit := by grind
    rw [e, unit_div]
    unfold tR
    simp only [Rat.div_def]
    have : M * unit * unit⁻¹ = M := by
      have := unit_div (x := M)
      rwa [Rat.div_def] at this
    grind
  have s1 : 9007199254740992 * ((V r : Rat) * unit - P) / unit / unit = 9007199254740992 * (Q r - (P : Rat) / unit / unit) := by
    unfold Q
    have : (V r : Rat) * unit * unit⁻¹ = V r := by
      have := unit_div (x := (V r : Rat))
      rwa [Rat.div_def] at this
    simp only [Rat.div_def]
    grind
  have s2 : 9007199254740992 * (P - (V r : Rat) * unit) / unit / unit = 9007199254740992 * ((P : Rat) / unit / unit - Q r) := by
    unfold Q
    have : (V r : Rat) * unit * unit⁻¹ = V r := by
      have := unit_div (x := (V r : Rat))
      rwa [Rat.div_def] at this
    simp only [Rat.div_def]
    grind
  rw [s0, s1] at d1
  rw [s0, s2] at d2
  have u53 : uR = 1 / 9007199254740992 := by decide +kernel
  have t0 := tR0
  rw [u53]
  exact mag_of (by grind) (by grind)

/-! ### by powers -/
def polW (x : Nat) : List Nat → Nat
  | [] => 0
  | a :: al => aX a (mX x (polW x al))
structure Cw (c : Nat) : Prop where
  fin : FinW c
  bd : (V c).natAbs ≤ 2 ^ 1114
theorem pol_wd {x : Nat} (fx : FinW x) (bx : (V x).natAbs ≤ 2 ^ 1084) : ∀ (al : List Nat), (∀ c ∈ al, Cw c) → al.length ≤ 16 →
    FinW (polW x al) ∧ (V (polW x al)).natAbs ≤ 2 ^ (1115 + 11 * al.length) ∧ HvA uR tR (Q x) (al.map Q) (Q (polW x al)) ∧
    (∀ a bl, al = a :: bl → Ieee.double.mul x (polW x bl) = some (mX x (polW x bl)) ∧ Ieee.double.add a (mX x (polW x bl)) = some (polW x al))
  | [], _, _ => by
    refine ⟨zeroF, zero_cap _, ?_, fun a bl h => by cases h⟩
    show Q 0 = 0
    decide +kernel
  | a :: al, hc, hl => by
    have hl' : al.length ≤ 15 := by simp at hl; omega
    obtain ⟨f, b, H, -⟩ := pol_wd fx bx al (fun c h => hc c (List.mem_cons_of_mem _ h)) (by omega)
    have ca := hc a (List.mem_cons_self ..)
    obtain ⟨M, m1, m2, m3, m4⟩ := mulB (k := 1125 + 11 * al.length) fx f bx b (by omega) (by omega)
    have eM : mX x (polW x al) = M := by unfold mX; rw [m1]; rfl
    obtain ⟨s, s1, s2, s3, s4⟩ := addW (k := 1125 + 11 * al.length) ca.fin m2 (cw_up ca.bd (by omega)) m4 (by omega)
    have eS : polW x (a :: al) = s := by show aX a (mX x (polW x al)) = s; rw [eM]; unfold aX; rw [s1]; rfl
    rw [eS]
    refine ⟨s2, ?_, ⟨Q (polW x al), Q M, H, rd_mul m3, rd_of (add_rel s3)⟩, fun a' bl h => ?_⟩
    · rw [show 1115 + 11 * (a :: al).length = 1125 + 11 * al.length + 1 by simp; omega]; exact s4
    · obtain ⟨rfl, rfl⟩ := List.cons.inj h
      rw [eM]
      exact ⟨m1, s1⟩

/-! ### by Chebyshev's polynomials -/
def clW (x : Nat) : List Nat → Nat × Nat
  | [] => (0, 0)
  | a :: al => (aX (lX (mX (aX x x) (clW x al).1) (clW x al).2) a, (clW x al).1)
def chW (x : Nat) : List Nat → Nat
  | [] => 0
  | c :: cs => aX (lX (mX x (clW x cs).1) (clW x cs).2) c
theorem dbl_wd {x : Nat} (fx : FinW x) (bx : (V x).natAbs ≤ 2 ^ 1074) : Ieee.double.add x x = some (aX x x) ∧ FinW (aX x x) ∧ V (aX x x) = 2 * V x ∧ (V (aX x x)).natAbs ≤ 2 ^ (1074 + 1) := by
  obtain ⟨r, h1, h2, h3, h4⟩ := addW fx fx bx bx (by omega)
  have e : aX x x = r := by unfold aX; rw [h1]; rfl
  rw [e]
  refine ⟨h1, h2, ?_, h4⟩
  rw [h3, show V x + V x = V x * 2 ^ 1 by omega, RN_scale, RN_exact (Rep_V x)]
  omega
theorem Q_dbl {a b : Nat} (h : V a = 2 * V b) : Q a = 2 * Q b := by
  unfold Q; rw [h, Rat.intCast_mul]; simp only [Rat.div_def]
  rw [show ((2 : Int) : Rat) = 2 from rfl, Rat.mul_assoc]
structure Cl2 (x a : Nat) (b d : Nat) : Prop where
  m : Ieee.double.mul (aX x x) b = some (mX (aX x x) b)
  l : Ieee.double.sub (mX (aX x x) b) d = some (lX (mX (aX x x) b) d)
  s : Ieee.double.add (lX (mX (aX x x) b) d) a = some (aX (lX (mX (aX x x) b) d) a)
theorem cl_wd {x : Nat} (fx : FinW x) (bx : (V x).natAbs ≤ 2 ^ 1074) : ∀ (al : List Nat), (∀ c ∈ al, Cw c) → al.length ≤ 16 →
    (FinW (clW x al).1 ∧ (V (clW x al).1).natAbs ≤ 2 ^ (1115 + 3 * al.length)) ∧ (FinW (clW x al).2 ∧ (V (clW x al).2).natAbs ≤ 2 ^ (1115 + 3 * al.length)) ∧ ClA uR tR (Q x) (al.map Q) (Q (clW x al).1) (Q (clW x al).2) ∧
    (∀ a bl, al = a :: bl → Cl2 x a (clW x bl).1 (clW x bl).2)
  | [], _, _ => by
    have z : ∀ k, FinW 0 ∧ (V 0).natAbs ≤ 2 ^ k := fun k => ⟨zeroF, zero_cap k⟩
    exact ⟨z (1115 + 3 * ([] : List Nat).length), z (1115 + 3 * ([] : List Nat).length), ⟨by show Q 0 = 0; decide +kernel, by show Q 0 = 0; decide +kernel⟩, fun a bl h => by cases h⟩
  | a :: al, hc, hl => by
    have hl' : al.length ≤ 15 := by simp at hl; omega
    obtain ⟨⟨f, b⟩, ⟨g, e⟩, H, -⟩ := cl_wd fx bx al (fun c h => hc c (List.mem_cons_of_mem _ h)) (by omega)
    have ca := hc a (List.mem_cons_self ..)
    obtain ⟨-, fd, vd, bd⟩ := dbl_wd fx bx
    obtain ⟨M, m1, m2, m3, m4⟩ := mulB (k := 1116 + 3 * al.length) fd f bd b (by omega) (by omega)
    have eM : mX (aX x x) (clW x al).1 = M := by unfold mX; rw [m1]; rfl
    obtain ⟨l, l1, l2, l3, l4⟩ := subW (k := 1116 + 3 * al.length) m2 g m4 (Nat.le_trans e (two_le (by omega))) (by omega)
    have eL : lX M (clW x al).2 = l := by unfold lX; rw [l1]; rfl
    obtain ⟨s, s1, s2, s3, s4⟩ := addW (k := 1116 + 3 * al.length + 1) l2 ca.fin l4 (cw_up ca.bd (by omega)) (by omega)
    have eS : (clW x (a :: al)).1 = s := by show aX (lX (mX (aX x x) (clW x al).1) (clW x al).2) a = s; rw [eM, eL]; unfold aX; rw [s1]; rfl
    have eT : (clW x (a :: al)).2 = (clW x al).1 := rfl
    rw [eS, eT]
    refine ⟨⟨s2, ?_⟩, ⟨f, Nat.le_trans b (two_le (by simp; omega))⟩, ⟨Q (clW x al).2, Q M, Q l, H, ?_, rd_of (sub_rel l3), rd_of (add_rel s3)⟩, fun a' bl h => ?_⟩
    · rw [show 1115 + 3 * (a :: al).length = 1116 + 3 * al.length + 1 + 1 by simp; omega]; exact s4
    · have := rd_mul m3
      rwa [Q_dbl vd] at this
    · obtain ⟨rfl, rfl⟩ := List.cons.inj h
      refine ⟨by rw [eM]; exact m1, by rw [eM, eL]; exact l1, ?_⟩
      rw [eM, eL, s1]
      show some s = some (aX l a)
      unfold aX; rw [s1]; rfl
theorem ch_wd {x : Nat} (fx : FinW x) (bx : (V x).natAbs ≤ 2 ^ 1074) (al : List Nat) (hc : ∀ c ∈ al, Cw c) (hl : al.length ≤ 16) :
    FinW (chW x al) ∧ (V (chW x al)).natAbs ≤ 2 ^ 1200 ∧ ChA uR tR (Q x) (al.map Q) (Q (chW x al)) ∧
    (∀ a bl, al = a :: bl → Ieee.double.mul x (clW x bl).1 = some (mX x (clW x bl).1) ∧ Ieee.double.sub (mX x (clW x bl).1) (clW x bl).2 = some (lX (mX x (clW x bl).1) (clW x bl).2) ∧ Ieee.double.add (lX (mX x (clW x bl).1) (clW x bl).2) a = some (chW x al)) := by
  cases al with
  | nil =>
    refine ⟨zeroF, zero_cap 1200, ?_, fun a bl h => by cases h⟩
    show Q 0 = 0
    decide +kernel
  | cons a al =>
    have hl' : al.length ≤ 15 := by simp at hl; omega
    obtain ⟨⟨f, b⟩, ⟨g, e⟩, H, -⟩ := cl_wd fx bx al (fun c h => hc c (List.mem_cons_of_mem _ h)) (by omega)
    have ca := hc a (List.mem_cons_self ..)
    obtain ⟨M, m1, m2, m3, m4⟩ := mulB (k := 1115 + 3 * al.length) fx f bx b (by omega) (by omega)
    have eM : mX x (clW x al).1 = M := by unfold mX; rw [m1]; rfl
    obtain ⟨l, l1, l2, l3, l4⟩ := subW (k := 1115 + 3 * al.length) m2 g m4 e (by omega)
    have eL : lX M (clW x al).2 = l := by unfold lX; rw [l1]; rfl
    obtain ⟨s, s1, s2, s3, s4⟩ := addW (k := 1115 + 3 * al.length + 1) l2 ca.fin l4 (cw_up ca.bd (by omega)) (by omega)
    have eS : chW x (a :: al) = s := by show aX (lX (mX x (clW x al).1) (clW x al).2) a = s; rw [eM, eL]; unfold aX; rw [s1]; rfl
    rw [eS]
    refine ⟨s2, Nat.le_trans s4 (two_le (a := 1115 + 3 * al.length + 1 + 1) (b := 1200) (by omega)), ⟨Q (clW x al).1, Q (clW x al).2, Q M, Q l, H, rd_mul m3, rd_of (sub_rel l3), rd_of (add_rel s3)⟩, fun a' bl h => ?_⟩
    obtain ⟨rfl, rfl⟩ := List.cons.inj h
    rw [eM, eL]
    exact ⟨m1, l1, s1⟩
end Go.Proofs.Ytpdkciennccckaa

namespace Pol
open Go.Proofs.Ytpdkciennccckaa

/-- the product of two vectors, rounded step by step -/
def Dt (u t a1 a2 a3 b1 b2 b3 d : Rat) : Prop := ∃ p q r s, Rd u t p (a1 * b1) ∧ Rd u t q (a2 * b2) ∧ Rd u t r (a3 * b3) ∧ Rd u 0 s (p + q) ∧ Rd u 0 d (s + r)
theorem rd_near {u t w v M : Rat} (h : Rd u t w v) (hM : mag v ≤ M) : mag (w - v) ≤ u * M + t := h M hM
theorem rd_size {u t w v M : Rat} (h : Rd u t w v) (hM : mag v ≤ M) : mag w ≤ M + (u * M + t) := by
  have a := mag_add hM (h M hM)
  have e : v + (w - v) = w := by grind
  rwa [e] at a
theorem tiny_mul {u S : Rat} (u0 : 0 ≤ u) (u1 : 1000 * u ≤ 1) (hS : 0 ≤ S) : 0 ≤ u * S ∧ 1000 * (u * S) ≤ S := by
  have a := Rat.mul_nonneg u0 hS
  have b := Rat.mul_nonneg (show 0 ≤ 1 - 1000 * u by grind) hS
  exact ⟨a, by grind⟩
theorem mag_tri {x y z a b : Rat} (h : mag (x - y) ≤ a) (k : mag (y - z) ≤ b) : mag (x - z) ≤ a + b := by
  have := mag_add h k
  have e : x - y + (y - z) = x - z := by grind
  rwa [e] at this
theorem dt_near {u t a1 a2 a3 b1 b2 b3 d S1 S2 S3 : Rat} (u0 : 0 ≤ u) (u1 : 1000 * u ≤ 1) (t0 : 0 ≤ t) (h : Dt u t a1 a2 a3 b1 b2 b3 d) (h1 : mag (a1 * b1) ≤ S1) (h2 : mag (a2 * b2) ≤ S2) (h3 : mag (a3 * b3) ≤ S3) :
    mag (d - (a1 * b1 + a2 * b2 + a3 * b3)) ≤ 4 * (u * (S1 + S2 + S3)) + 8 * t := by
  obtain ⟨p, q, r, s, hp, hq, hr, hs, hd⟩ := h
  have n1 : 0 ≤ S1 := Rat.le_trans (mag_le _).2.2 h1
  have n2 : 0 ≤ S2 := Rat.le_trans (mag_le _).2.2 h2
  have n3 : 0 ≤ S3 := Rat.le_trans (mag_le _).2.2 h3
  have p1 := rd_near hp h1
  have q1 := rd_near hq h2
  have r1 := rd_near hr h3
  have p2 := rd_size hp h1
  have q2 := rd_size hq h2
  have r2 := rd_size hr h3
  have s1 := rd_near hs (mag_add p2 q2)
  have s2 := rd_size hs (mag_add p2 q2)
  have d1 := rd_near hd (mag_add s2 r2)
  obtain ⟨a1', b1'⟩ := tiny_mul u0 u1 n1
  obtain ⟨a2', b2'⟩ := tiny_mul u0 u1 n2
  obtain ⟨a3', b3'⟩ := tiny_mul u0 u1 n3
  obtain ⟨at', bt'⟩ := tiny_mul u0 u1 t0
  obtain ⟨c1, e1⟩ := tiny_mul u0 u1 a1'
  obtain ⟨c2, e2⟩ := tiny_mul u0 u1 a2'
  obtain ⟨c3, e3⟩ := tiny_mul u0 u1 a3'
  obtain ⟨ct, et⟩ := tiny_mul u0 u1 at'
  obtain ⟨f1, g1⟩ := tiny_mul u0 u1 c1
  obtain ⟨f2, g2⟩ := tiny_mul u0 u1 c2
  obtain ⟨ft, gt⟩ := tiny_mul u0 u1 ct
  have x := mag_add (mag_add (mag_add (mag_add p1 q1) r1) s1) d1
  have e : p - a1 * b1 + (q - a2 * b2) + (r - a3 * b3) + (s - (p + q)) + (d - (s + r)) = d - (a1 * b1 + a2 * b2 + a3 * b3) := by grind
  rw [e] at x
  refine Rat.le_trans x ?_
  grind
end Pol
