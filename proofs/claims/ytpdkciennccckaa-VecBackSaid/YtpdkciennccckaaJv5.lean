/- Proved here: what the texts Vun prove, one behind the other. -/
import Derived.Test.YtpdkciennccckaaJv3
import Derived.Test.YtpdkciennccckaaJp

namespace Go.Proofs.Ytpdkciennccckaa
open Ieee.Own Pol

def kk : Rat := 1 / unit / unit
theorem kk0 : 0 ≤ kk := by decide +kernel
theorem kk_of (x : Rat) : x / unit / unit = x * kk := by
  unfold kk
  simp only [Rat.div_def]
  grind
theorem rel_rat {x y : Int} {c : Nat} (h : c * (x - y).natAbs ≤ x.natAbs) : ((c : Int) : Rat) * mag ((x : Rat) * kk - (y : Rat) * kk) ≤ mag ((x : Rat) * kk) := by
  have k0 := kk0
  have key : ∀ {a b : Int} , (c : Int) * a ≤ b → ((c : Int) : Rat) * ((a : Rat) * kk) ≤ (b : Rat) * kk := fun {a b} h => by
    have h1 : (((c : Int) * a : Int) : Rat) ≤ (b : Rat) := Rat.intCast_le_intCast.2 h
    rw [Rat.intCast_mul] at h1
    have h2 := Rat.mul_le_mul_of_nonneg_right h1 k0
    have e : ((c : Int) : Rat) * (a : Rat) * kk = ((c : Int) : Rat) * ((a : Rat) * kk) := Rat.mul_assoc _ _ _
    rwa [e] at h2
  have i1 : (c : Int) * (x - y) ≤ (x.natAbs : Int) := by
    have a : ((c * (x - y).natAbs : Nat) : Int) ≤ (x.natAbs : Int) := by exact_mod_cast h
    rw [Int.natCast_mul] at a
    have b : (c : Int) * (x - y) ≤ (c : Int) * ((x - y).natAbs : Int) := Int.mul_le_mul_of_nonneg_left (by omega) (by omega)
    omega
  have i2 : (c : Int) * (y - x) ≤ (x.natAbs : Int) := by
    have a : ((c * (x - y).natAbs : Nat) : Int) ≤ (x.natAbs : Int) := by exact_mod_cast h
    rw [Int.natCast_mul] at a
    have b : (c : Int) * (y - x) ≤ (c : Int) * ((x - y).natAbs : Int) := Int.mul_le_mul_of_nonneg_left (by omega) (by omega)
    omega
  have j1 := key i1
  have j2 := key i2
  have s1 : ((x - y : Int) : Rat) = (x : Rat) - (y : Rat) := Rat.intCast_sub _ _
  have s2 : ((y - x : Int) : Rat) = (y : Rat) - (x : Rat) := Rat.intCast_sub _ _
  rw [s1] at j1
  rw [s2] at j2
  have n1 : ((x.natAbs : Int) : Rat) * kk ≤ mag ((x : Rat) * kk) := by
    have m := mag_le ((x : Rat) * kk)
    rcases Int.le_total 0 x with q | q
    · rw [show ((x.natAbs : Int)) = x by omega]; exact m.2.1
    · rw [show ((x.natAbs : Int)) = -x by omega, Rat.intCast_neg]
      have : -(x : Rat) * kk = -((x : Rat) * kk) := by grind
      rw [this]; grind
  have c0 : (0 : Rat) ≤ ((c : Int) : Rat) := Rat.intCast_nonneg.2 (by omega)
  generalize mag ((x : Rat) * kk) = M at *
  generalize ((c : Int) : Rat) = C at *
  have e1 : ((x : Rat) - (y : Rat)) * kk = (x : Rat) * kk - (y : Rat) * kk := by grind
  have e2 : ((y : Rat) - (x : Rat)) * kk = -((x : Rat) * kk - (y : Rat) * kk) := by grind
  rw [e1] at j1
  rw [e2] at j2
  generalize (x : Rat) * kk - (y : Rat) * kk = d at *
  unfold mag
  split
  · grind
  · grind
theorem one_unit (a : Nat) : Q a = ((V a * 2 ^ 1074 : Int) : Rat) * kk := by
  rw [Rat.intCast_mul, unit_cast, ← kk_of]
  have : (V a : Rat) * unit / unit = V a := unit_div
  rw [this]; rfl
theorem c53 : (((2 ^ 53 : Nat) : Int) : Rat) * uR = 1 := by decide +kernel
theorem c52 : (((2 ^ 52 : Nat) : Int) : Rat) * (2 * uR) = 1 := by decide +kernel
theorem by_c {c u X Y : Rat} (h : c * X ≤ Y) (e : c * u = 1) (u0 : 0 ≤ u) : X ≤ u * Y := by
  have := Rat.mul_le_mul_of_nonneg_left h u0
  have e' : u * (c * X) = c * u * X := by grind
  rw [e', e] at this
  grind
theorem quo_rat {a n : Nat} (h : 2 ^ 53 * (V (qX a n) * V n - V a * 2 ^ 1074).natAbs ≤ (V (qX a n) * V n).natAbs) : mag (Q (qX a n) * Q n - Q a) ≤ uR * mag (Q (qX a n) * Q n) := by
  have := rel_rat h
  rw [← one_unit, ← kk_of, ← Q_times] at this
  exact by_c this c53 uR0
theorem nrm_rat {D r : Nat} (N : Nrm D r) (h : V D ≠ 0) : 0 < Q r ∧ mag (Q r * Q r - Q D) ≤ 2 * uR * (Q r * Q r) := by
  obtain ⟨p, e, -⟩ := N.pos h
  have q0 : 0 < Q r := by
    have : (V 0) < V r := by rw [V_zero]; exact p
    have z : Q 0 = 0 := by decide +kernel
    rw [← z]; exact Q_lt.2 this
  have := rel_rat e
  rw [← one_unit, ← kk_of, ← Q_times] at this
  have m : mag (Q r * Q r) = Q r * Q r := by
    have := Rat.mul_nonneg (Rat.le_of_lt q0) (Rat.le_of_lt q0)
    unfold mag; rw [if_pos this]
  rw [m] at this
  exact ⟨q0, by_c this c52 (by decide +kernel)⟩

/-! ### fractions -/
theorem sq0 (x : Rat) : 0 ≤ x * x := by
  rcases (Rat.le_total : 0 ≤ x ∨ x ≤ 0) with h | h
  · exact Rat.mul_nonneg h h
  · have := Rat.mul_nonneg (show 0 ≤ -x by grind) (show 0 ≤ -x by grind)
    grind
theorem mag_sq (x : Rat) : mag x * mag x = x * x := by unfold mag; split <;> grind
/-- a number near another: their squares are near -/
theorem sq_near {z x u : Rat} (u0 : 0 ≤ u) (u1 : 1000 * u ≤ 1) (h : mag (z - x) ≤ u * mag z) : mag (z * z - x * x) ≤ 3 * u * (z * z) := by
  have m := mag_le z
  have s : mag (z + x) ≤ 2 * mag z + u * mag z := by
    have e : z + x = z + z - (z - x) := by grind
    rw [e]
    have a := mag_add (x := z) (y := z) Rat.le_refl Rat.le_refl
    have b := mag_sub a h
    grind
  have p := mag_mul h s
  have e : (z - x) * (z + x) = z * z - x * x := by grind
  rw [e] at p
  have q := mag_sq z
  have nn := sq0 z
  have k : u * mag z * (2 * mag z + u * mag z) = u * (2 + u) * (mag z * mag z) := by grind
  rw [k, q] at p
  have l : u * (2 + u) ≤ 3 * u := by
    have := Rat.mul_nonneg u0 (show 0 ≤ 1 - u by grind)
    grind
  have r := Rat.mul_le_mul_of_nonneg_right l nn
  grind
theorem sum_near {a b c x y z e : Rat} (h1 : mag (a - x) ≤ e * a) (h2 : mag (b - y) ≤ e * b) (h3 : mag (c - z) ≤ e * c) : mag ((a + b + c) - (x + y + z)) ≤ e * (a + b + c) := by
  have := mag_add (mag_add h1 h2) h3
  have q : a - x + (b - y) + (c - z) = (a + b + c) - (x + y + z) := by grind
  rw [q] at this
  grind
/-- the squares of the quotients add up to about 1 -/
theorem unit_sum {u N D S Y : Rat} (up : 0 < u) (u1 : 1000 * u ≤ 1) (n0 : 0 < N) (h1 : mag (N * Y - S) ≤ 3 * u * (N * Y)) (h2 : mag (D - S) ≤ 4 * u * S) (h3 : mag (N - D) ≤ 2 * u * N) (hy : 0 ≤ Y) : mag (Y - 1) ≤ 12 * u := by
  have u0 := Rat.le_of_lt up
  have a1 := mag_le (N * Y - S)
  have a2 := mag_le (D - S)
  have a3 := mag_le (N - D)
  have uu := Rat.mul_nonneg u0 (show 0 ≤ 1 - 1000 * u by grind)
  have us := Rat.mul_nonneg u0 u0
  have ny := Rat.mul_nonneg (Rat.le_of_lt n0) hy
  -- upper: N (1 + 2 u) >= D >= S (1 - 4 u), S >= N Y (1 - 3 u)
  have b1 : N * Y * (1 - 3 * u) ≤ S := by grind
  have b2 : S * (1 - 4 * u) ≤ D := by grind
  have b3 : D ≤ N * (1 + 2 * u) := by grind
  have c1 : S ≤ N * Y * (1 + 3 * u) := by grind
  have c2 : D ≤ S * (1 + 4 * u) := by grind
  have c3 : N * (1 - 2 * u) ≤ D := by grind
  have d1 : N * Y * (1 - 3 * u) * (1 - 4 * u) ≤ N * (1 + 2 * u) := by
    have := Rat.mul_le_mul_of_nonneg_right b1 (show 0 ≤ 1 - 4 * u by grind)
    grind
  have d2 : N * (1 - 2 * u) ≤ N * Y * (1 + 3 * u) * (1 + 4 * u) := by
    have := Rat.mul_le_mul_of_nonneg_right c1 (show 0 ≤ 1 + 4 * u by grind)
    grind
  have e1 : Y * (1 - 3 * u) * (1 - 4 * u) ≤ 1 + 2 * u := by
    refine Rat.le_of_mul_le_mul_left ?_ n0
    grind
  have e2 : 1 - 2 * u ≤ Y * (1 + 3 * u) * (1 + 4 * u) := by
    refine Rat.le_of_mul_le_mul_left ?_ n0
    grind
  have f1 : 1 - 7 * u ≤ (1 - 3 * u) * (1 - 4 * u) := by grind
  have f2 : (1 + 3 * u) * (1 + 4 * u) ≤ 1 + 8 * u := by grind
  have g1 := Rat.mul_le_mul_of_nonneg_left f1 hy
  have g2 := Rat.mul_le_mul_of_nonneg_left f2 hy
  have y1 : Y ≤ 1 + 12 * u := by
    by_cases q : Y ≤ 1 + 12 * u
    · exact q
    · exfalso
      have := Rat.mul_le_mul_of_nonneg_right (show 1 + 12 * u ≤ Y by grind) (show 0 ≤ 1 - 7 * u by grind)
      grind
  have y2 : 1 - 12 * u ≤ Y := by
    by_cases q : 1 - 12 * u ≤ Y
    · exact q
    · exfalso
      have := Rat.mul_le_mul_of_nonneg_right (show Y ≤ 1 - 12 * u by grind) (show 0 ≤ 1 + 8 * u by grind)
      grind
  exact mag_of (by grind) (by grind)
theorem unit_end {u U E M : Rat} (up : 0 < u) (u1 : 1000 * u ≤ 1) (hU : mag (U - 1) ≤ 13 * u) (hE : mag (E - U) ≤ 4 * u * U) (hM : mag (M * M - E) ≤ 2 * u * (M * M)) (m0 : 0 ≤ M) : mag (M - 1) ≤ 24 * u := by
  have u0 := Rat.le_of_lt up
  have a1 := mag_le (U - 1)
  have a2 := mag_le (E - U)
  have a3 := mag_le (M * M - E)
  have uu := Rat.mul_nonneg u0 (show 0 ≤ 1 - 1000 * u by grind)
  have us := Rat.mul_nonneg u0 u0
  have e1 : E ≤ 1 + 18 * u := by
    have := Rat.mul_le_mul_of_nonneg_left (show U ≤ 1 + 13 * u by grind) (show 0 ≤ 4 * u by grind)
    grind
  have e2 : 1 - 18 * u ≤ E := by
    have := Rat.mul_le_mul_of_nonneg_left (show U ≤ 1 + 13 * u by grind) (show 0 ≤ 4 * u by grind)
    grind
  have q1 : M * M ≤ 1 + 24 * u := by
    by_cases q : M * M ≤ 1 + 24 * u
    · exact q
    · exfalso
      have := Rat.mul_le_mul_of_nonneg_right (show 1 + 24 * u ≤ M * M by grind) (show 0 ≤ 1 - 2 * u by grind)
      grind
  have q2 : 1 - 24 * u ≤ M * M := by
    by_cases q : 1 - 24 * u ≤ M * M
    · exact q
    · exfalso
      have := Rat.mul_le_mul_of_nonneg_right (show M * M ≤ 1 - 24 * u by grind) (show 0 ≤ 1 + 2 * u by grind)
      grind
  refine mag_of ?_ ?_
  · by_cases q : -(24 * u) ≤ M - 1
    · exact q
    · exfalso
      have := Rat.mul_le_mul_of_nonneg_right (show M ≤ 1 - 24 * u by grind) m0
      have := Rat.mul_le_mul_of_nonneg_left (show M ≤ 1 - 24 * u by grind) (show 0 ≤ 1 - 24 * u by grind)
      grind
  · by_cases q : M - 1 ≤ 24 * u
    · exact q
    · exfalso
      have := Rat.mul_le_mul_of_nonneg_right (show 1 + 24 * u ≤ M by grind) m0
      have := Rat.mul_le_mul_of_nonneg_left (show 1 + 24 * u ≤ M by grind) (show 0 ≤ 1 + 24 * u by grind)
      grind

/-! ### the words -/
def sm : Rat := mkRat 1 (2^200)
theorem sm0 : 0 ≤ sm := by decide +kernel
theorem Q_mag {x : Nat} {n : Nat} (h : (V x).natAbs ≤ n) : mag (Q x) ≤ ((n : Int) : Rat) / unit := by
  have a : V x ≤ (n : Int) := by omega
  have b : -(n : Int) ≤ V x := by omega
  have a' := div_le (Rat.intCast_le_intCast.2 a)
  have b' := div_le (Rat.intCast_le_intCast.2 b)
  refine mag_of ?_ a'
  rw [Rat.intCast_neg] at b'
  have e : -((n : Int) : Rat) / unit = -(((n : Int) : Rat) / unit) := by simp only [Rat.div_def]; grind
  rw [e] at b'
  exact b'
theorem sm_eq : ((((leastV.toNat : Nat) : Int)) : Rat) / unit = sm := by decide +kernel
/-- a number that counts as 0 is small -/
theorem bW_cases {x : Nat} (h : FinW x) : V (bW x) = V x ∨ (bW x = 0 ∧ mag (Q x) ≤ sm) := by
  rcases (bW_spec h).2 with e | ⟨e, f, m⟩
  · exact .inl e
  · refine .inr ⟨e, ?_⟩
    have lt : (V x).natAbs < 2 ^ 1074 := by
      rw [V_abs' x h]
      have c := val_lt (F := 52) m
      have : val 52 4607182418800017408 = 2 ^ 1074 := by decide +kernel
      omega
    have nf : ¬ (V x = 0 ∨ leastV ≤ ((V x).natAbs : Int) ∧ ((V x).natAbs : Int) ≤ mostV) := fun c => by
      have := (fit_iff h).2 (by first | exact c | (rcases c with c | c; exact .inl c; exact .inr ⟨by omega, by omega⟩))
      rw [f] at this; simp at this
    have big : (2 ^ 1074 : Nat) ≤ mostV := by decide +kernel
    have lp : 0 ≤ (leastV : Int) := by decide +kernel
    have := Q_mag (x := x) (n := (leastV : Int).toNat) (by omega)
    rwa [sm_eq] at this
theorem bW_near {x : Nat} (h : FinW x) : mag (Q (bW x) - Q x) ≤ sm := by
  rcases bW_cases h with e | ⟨e, m⟩
  · have : Q (bW x) - Q x = 0 := by unfold Q; rw [e]; grind
    rw [this]; exact sm0
  · have z : Q 0 = 0 := by decide +kernel
    have : Q (bW x) - Q x = -Q x := by rw [e, z]; grind
    rw [this, mag_neg]; exact m
theorem bW_sq {x : Nat} (h : FinW x) : mag (Q (bW x) * Q (bW x) - Q x * Q x) ≤ sm * sm := by
  rcases bW_cases h with e | ⟨e, m⟩
  · have : Q (bW x) = Q x := by unfold Q; rw [e]
    have z : Q (bW x) * Q (bW x) - Q x * Q x = 0 := by rw [this]; grind
    rw [z]; decide +kernel
  · have z : Q 0 = 0 := by decide +kernel
    have : Q (bW x) * Q (bW x) - Q x * Q x = -(Q x * Q x) := by rw [e, z]; grind
    rw [this, mag_neg]; exact mag_mul m m
theorem DotW.dt {a b : V3} (h : DotW a b) : Dt uR 0 (Q a.1) (Q a.2.1) (Q a.2.2) (Q b.1) (Q b.2.1) (Q b.2.2) (Q (dW a b)) :=
  ⟨_, _, _, _, rd_of h.r1, rd_of h.r2, rd_of h.r3, rd_of h.r4, rd_of h.r5⟩
def sq3 (a : V3) : Rat := Q a.1 * Q a.1 + Q a.2.1 * Q a.2.1 + Q a.2.2 * Q a.2.2
theorem mag_self (x : Rat) : mag (x * x) ≤ x * x := by
  have := sq0 x
  unfold mag; rw [if_pos this]; exact Rat.le_refl
theorem dot_sq {a : V3} (h : D3 a) : mag (Q (dW a a) - sq3 a) ≤ 4 * uR * sq3 a := by
  have := dt_near uR0 (by have := uR1; have := uR0; grind) Rat.le_refl (dot_wd h h).dt (mag_self _) (mag_self _) (mag_self _)
  have e : 4 * (uR * sq3 a) + 8 * 0 = 4 * uR * sq3 a := by grind
  rw [← e]; exact this

def closeV : Nat := 4391009636686233600
theorem closeV_Q : Q closeV = 32 * uR := by decide +kernel
theorem closeV_fin : FinW closeV := by unfold FinW closeV; omega
/-- the magnitude of a word that is near 0 -/
theorem abs_le7 {t c : Nat} (f : FinW t) (h : mag (Q t) ≤ Q c) : V (t % 9223372036854775808) ≤ V c ∧ FinW (t % 9223372036854775808) := by
  have fm : FinW (t % 9223372036854775808) := ⟨by omega, by have := f.2; omega⟩
  have m := mag_le (Q t)
  refine ⟨?_, fm⟩
  rw [← Q_le]
  by_cases q : t < 9223372036854775808
  · rw [Nat.mod_eq_of_lt q]; grind
  · have e : t % 9223372036854775808 = t - 9223372036854775808 := by have := f.1; omega
    have : Q (t % 9223372036854775808) = -Q t := by
      unfold Q V
      rw [if_pos (by omega), if_neg q, e, Rat.intCast_neg]
      simp only [Rat.div_def]; grind
    rw [this]; grind
theorem told_zero {p : V3} (h : (toldR p).2 = 0) : fitV (bV p) = true ∧ (toldR p).1 = bV p := by
  unfold toldR at *
  split at h
  · rename_i c; exact ⟨c, by rw [if_pos c]⟩
  · simp at h
theorem units {a : V3} (ha : W3 a) (h : (unitR a).2 = 0) : W3 (unitR a).1 ∧ fitV (unitR a).1 = true ∧
    ∃ t, Ieee.double.sub (rX (dW (unitR a).1 (unitR a).1)) oneW = some t ∧ FinW t ∧ V (t % 9223372036854775808) ≤ V closeV ∧ FinW (t % 9223372036854775808) := by
  have u0 := uR0
  have u1 := uR1
  have up : 0 < uR := by decide +kernel
  have u2 : 1000 * uR ≤ 1 := by grind
  have fa : fitV a = true := by
    by_cases c : fitV a = true
    · exact c
    · unfold unitR at h; rw [if_neg c] at h; simp at h
  have nz : ¬ V (rX (dW a a)) = 0 := fun c => by
    unfold unitR at h; rw [if_pos fa, if_pos c] at h; simp at h
  have e : unitR a = toldR (qX a.1 (rX (dW a a)), qX a.2.1 (rX (dW a a)), qX a.2.2 (rX (dW a a))) := by unfold unitR; rw [if_pos fa, if_neg nz]
  rw [e] at h ⊢
  obtain ⟨fu, eu⟩ := told_zero h
  rw [eu]
  have A := fitV_wd ha fa
  have N := nrm_any (dot_wd A A).d (dot_pos A)
  have dz : V (dW a a) ≠ 0 := fun z => nz (N.zero z)
  obtain ⟨n0, h3⟩ := nrm_rat N dz
  obtain ⟨-, -, m, q, M, q1, q2⟩ := N.pos dz
  have fa' := fa
  unfold fitV at fa'
  simp only [Bool.and_eq_true] at fa'
  obtain ⟨-, g1, e1⟩ := div_any ha.l1 (vnB_spec ha.l1 fa'.1.1).2.1 M q1 q2
  obtain ⟨-, g2, e2⟩ := div_any ha.l2 (vnB_spec ha.l2 fa'.1.2).2.1 M q1 q2
  obtain ⟨-, g3, e3⟩ := div_any ha.l3 (vnB_spec ha.l3 fa'.2).2.1 M q1 q2
  have h2 := dot_sq A
  have s1 := sq_near u0 u2 (quo_rat e1)
  have s2 := sq_near u0 u2 (quo_rat e2)
  have s3 := sq_near u0 u2 (quo_rat e3)
  have F : F3 (qX a.1 (rX (dW a a)), qX a.2.1 (rX (dW a a)), qX a.2.2 (rX (dW a a))) := ⟨g1, g2, g3⟩
  have wu : W3 (bV (qX a.1 (rX (dW a a)), qX a.2.1 (rX (dW a a)), qX a.2.2 (rX (dW a a)))) := F.b.w
  have B := fitV_wd wu fu
  have b1 := bW_sq F.f1
  have b2 := bW_sq F.f2
  have b3 := bW_sq F.f3
  generalize hu : (qX a.1 (rX (dW a a)), qX a.2.1 (rX (dW a a)), qX a.2.2 (rX (dW a a))) = p at *
  have p1 : qX a.1 (rX (dW a a)) = p.1 := by rw [← hu]
  have p2 : qX a.2.1 (rX (dW a a)) = p.2.1 := by rw [← hu]
  have p3 : qX a.2.2 (rX (dW a a)) = p.2.2 := by rw [← hu]
  rw [p1] at s1
  rw [p2] at s2
  rw [p3] at s3
  clear hu p1 p2 p3 e e1 e2 e3 g1 g2 g3 M
  refine ⟨wu, fu, ?_⟩
  have sn := sum_near s1 s2 s3
  have eY : Q p.1 * Q (rX (dW a a)) * (Q p.1 * Q (rX (dW a a))) + Q p.2.1 * Q (rX (dW a a)) * (Q p.2.1 * Q (rX (dW a a))) + Q p.2.2 * Q (rX (dW a a)) * (Q p.2.2 * Q (rX (dW a a))) = Q (rX (dW a a)) * Q (rX (dW a a)) * sq3 p := by
    unfold sq3; grind
  rw [eY] at sn
  have y0 : 0 ≤ sq3 p := by
    have a1 := sq0 (Q p.1)
    have a2 := sq0 (Q p.2.1)
    have a3 := sq0 (Q p.2.2)
    unfold sq3; grind
  have NN : 0 < Q (rX (dW a a)) * Q (rX (dW a a)) := Rat.mul_pos n0 n0
  have US := unit_sum up u2 NN sn h2 h3 y0
  have UU : mag (sq3 (bV p) - 1) ≤ 13 * uR := by
    have := mag_add (mag_add (mag_add b1 b2) b3) US
    have e : Q (bW p.1) * Q (bW p.1) - Q p.1 * Q p.1 + (Q (bW p.2.1) * Q (bW p.2.1) - Q p.2.1 * Q p.2.1) + (Q (bW p.2.2) * Q (bW p.2.2) - Q p.2.2 * Q p.2.2) + (sq3 p - 1) = sq3 (bV p) - 1 := by
      unfold sq3 bV; grind
    rw [e] at this
    have c : sm * sm + sm * sm + sm * sm ≤ uR := by decide +kernel
    grind
  have hE := dot_sq B
  have m1 := mag_le (sq3 (bV p) - 1)
  have N2 := nrm_any (dot_wd B B).d (dot_pos B)
  have ez : V (dW (bV p) (bV p)) ≠ 0 := fun z => by
    have q : Q (dW (bV p) (bV p)) = 0 := by unfold Q; rw [z]; decide +kernel
    rw [q] at hE
    have m2 := mag_le (0 - sq3 (bV p))
    clear s1 s2 s3 b1 b2 b3 sn eY US h2 h3 NN y0
    generalize uR = u at *
    generalize sq3 (bV p) = U at *
    have := Rat.mul_nonneg u0 (show 0 ≤ U by grind)
    have := Rat.mul_le_mul_of_nonneg_right (show 4 * u ≤ 1/2 by grind) (show 0 ≤ U by grind)
    grind
  obtain ⟨r0, h4⟩ := nrm_rat N2 ez
  obtain ⟨-, -, m', q', M', q3, q4⟩ := N2.pos ez
  have UE := unit_end up u2 UU hE h4 (Rat.le_of_lt r0)
  have o := one_wd
  obtain ⟨t1, t2, t3, -⟩ := sub_ok N2.fin o.fin (norm_abs (k := 1200) M' (by omega)) (o.le (q := 1024) (l := 1200) (Nat.le_refl _) (by omega)).abs (k := 1201) rfl (by omega)
  refine ⟨_, t1, t2, abs_le7 t2 ?_⟩
  have R := rd_of (sub_rel t3)
  rw [one_Q] at R
  have s := rd_size R UE
  rw [closeV_Q]
  have : uR * (24 * uR) ≤ uR := by
    have := Rat.mul_le_mul_of_nonneg_left (show 24 * uR ≤ 1 by grind) u0
    grind
  grind
end Go.Proofs.Ytpdkciennccckaa
