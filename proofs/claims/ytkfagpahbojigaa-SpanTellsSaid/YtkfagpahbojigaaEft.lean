/- Proved here: what rounding leaves of sums and products of numbers of 53 binary digits is such a number, and the known ways to get it (two-sum, halves of 26 digits, the product's rest) give just it. No program is named. -/
import Derived.Test.YtkfagpahbojigaaRn
namespace Ieee.Own

theorem dvd_add' {a x y : Int} (h1 : a ∣ x) (h2 : a ∣ y) : a ∣ x + y := Int.dvd_add h1 h2
theorem pow_dvd {i j : Nat} (h : i ≤ j) : (2 : Int) ^ i ∣ 2 ^ j := by
  obtain ⟨k, rfl⟩ := Nat.le.dest h
  exact ⟨2 ^ k, by rw [Int.pow_add]⟩

/-- twice: if a and b are near each other their difference has 53 digits (Sterbenz) -/
theorem Rep_sub {a b : Int} (ha : Rep a) (hb : Rep b) (h1 : (a - b).natAbs ≤ a.natAbs) (h2 : (a - b).natAbs ≤ b.natAbs) : Rep (a - b) := by
  obtain ⟨i, hi, hai⟩ := Rep_place ha
  obtain ⟨j, hj, hbj⟩ := Rep_place hb
  by_cases hij : i ≤ j
  · exact Rep_of_dvd (Int.dvd_sub hi (Int.dvd_trans (pow_dvd hij) hj)) (by omega)
  · exact Rep_of_dvd (Int.dvd_sub (Int.dvd_trans (pow_dvd (by omega)) hi) hj) (by omega)

/-- what rounding leaves of a sum -/
theorem Rep_err {a b : Int} (ha : Rep a) (hb : Rep b) : Rep (a + b - RN (a + b)) := by
  obtain ⟨i, hi, hai⟩ := Rep_place ha
  obtain ⟨j, hj, hbj⟩ := Rep_place hb
  have n1 := RN_near (a + b) a ha
  have n2 := RN_near (a + b) b hb
  by_cases hij : i ≤ j
  · have hs : (2 : Int) ^ i ∣ a + b := Int.dvd_add hi (Int.dvd_trans (pow_dvd hij) hj)
    exact Rep_of_dvd (Int.dvd_sub hs (RN_dvd hs)) (by omega)
  · have hs : (2 : Int) ^ j ∣ a + b := Int.dvd_add (Int.dvd_trans (pow_dvd (by omega)) hi) hj
    exact Rep_of_dvd (Int.dvd_sub hs (RN_dvd hs)) (by omega)

theorem RN_two (z : Int) : RN (2 * z) = 2 * RN z := by
  have := RN_scale z 1
  rw [show (2 : Int) ^ 1 = 2 from rfl] at this
  rw [Int.mul_comm 2 z, this]; omega

/-- the first step of a sum: what was added to the greater one is exact -/
theorem fast {x y : Int} (hx : Rep x) (hy : Rep y) (h : y.natAbs ≤ x.natAbs) : Rep (RN (x + y) - x) := by
  by_cases h1 : 2 * (x + y).natAbs ≤ x.natAbs
  · -- they nearly cancel: the sum is exact
    have : Rep (x - (-y)) := Rep_sub hx (Rep_neg hy) (by omega) (by omega)
    rw [show x - -y = x + y by omega] at this
    rw [RN_exact this, show x + y - x = y by omega]; exact hy
  · have r := RN_rep (x + y)
    have e2 := RN_two (x + y)
    have ex := RN_exact hx
    have ex2 : RN (2 * x) = 2 * x := by rw [RN_two, ex]
    have exn : RN (-x) = -x := by rw [RN_neg, ex]
    have ex2n : RN (2 * -x) = 2 * -x := by rw [RN_two, exn]
    by_cases hp : 0 ≤ x
    · have m1 : RN x ≤ RN (2 * (x + y)) := RN_mono (by omega)
      have m2 : RN (x + y) ≤ RN (2 * x) := RN_mono (by omega)
      exact Rep_sub r hx (by omega) (by omega)
    · have m1 : RN (2 * (x + y)) ≤ RN x := RN_mono (by omega)
      have m2 : RN (2 * x) ≤ RN (x + y) := RN_mono (by omega)
      exact Rep_sub r hx (by omega) (by omega)

/-- THE SUM AND ITS REST (two-sum): s = a + b, c = s - a, (a - (s - c)) + (b - c), each rounded: the rest is exact -/
theorem two_sum {a b s c : Int} (ha : Rep a) (hb : Rep b) (hs : s = RN (a + b)) (hc : c = RN (s - a)) :
    RN (RN (a - RN (s - c)) + RN (b - c)) = a + b - s := by
  have hsr : Rep s := by rw [hs]; exact RN_rep _
  have hcr : Rep c := by rw [hc]; exact RN_rep _
  have her : Rep (a + b - s) := by rw [hs]; exact Rep_err ha hb
  by_cases h : b.natAbs ≤ a.natAbs
  · have h1 : Rep (s - a) := by rw [hs]; exact fast ha hb h
    have h2 : c = s - a := by rw [hc]; exact RN_exact h1
    rw [show s - c = a by omega, RN_exact ha, show a - a = 0 by omega, RN_exact Rep_zero, show b - c = a + b - s by omega, RN_exact her]
    rw [show (0 : Int) + (a + b - s) = a + b - s by omega, RN_exact her]
  · by_cases h2 : a.natAbs ≤ s.natAbs
    · -- s - c and b - c are exact
      have k1 : Rep (s - c) := by
        have := fast hsr (Rep_neg ha) (by omega)
        rw [show s + -a = s - a by omega, ← hc] at this
        have := Rep_neg this
        rwa [show -(c - s) = s - c by omega] at this
      have k2 : Rep (b - c) := by
        have hle : (-(a + b - s)).natAbs ≤ b.natAbs := by
          have := RN_near (a + b) b hb
          rw [← hs] at this; omega
        have := fast hb (Rep_neg her) hle
        rw [show b + -(a + b - s) = s - a by omega, ← hc] at this
        have := Rep_neg this
        rwa [show -(c - b) = b - c by omega] at this
      have k3 : Rep (a - (s - c)) := by
        have := Rep_err hsr (Rep_neg ha)
        rw [show s + -a = s - a by omega, ← hc] at this
        have := Rep_neg this
        rwa [show -(s - a - c) = a - (s - c) by omega] at this
      rw [RN_exact k1, RN_exact k2, RN_exact k3, show a - (s - c) + (b - c) = a + b - s by omega, RN_exact her]
    · -- the sum is exact
      have hm : (a + b).natAbs ≤ a.natAbs := by
        refine Nat.le_of_not_lt fun hlt => h2 ?_
        have ea := RN_exact ha
        have ea' : RN (-a) = -a := by rw [RN_neg, ea]
        rw [hs]
        by_cases hp : 0 ≤ a + b
        · by_cases hq : 0 ≤ a
          · have := RN_mono (show a ≤ a + b by omega); omega
          · have := RN_mono (show -a ≤ a + b by omega); omega
        · by_cases hq : 0 ≤ a
          · have := RN_mono (show a + b ≤ -a by omega); omega
          · have := RN_mono (show a + b ≤ a by omega); omega
      have hr : Rep (a - (-b)) := Rep_sub ha (Rep_neg hb) (by omega) (by omega)
      rw [show a - -b = a + b by omega] at hr
      have h3 : s = a + b := by rw [hs]; exact RN_exact hr
      have h4 : c = b := by rw [hc, h3, show a + b - a = b by omega]; exact RN_exact hb
      rw [h4, h3, show a + b - b = a by omega, RN_exact ha, show a - a = 0 by omega, show b - b = 0 by omega, RN_exact Rep_zero]
      rw [show (0 : Int) + 0 = 0 by omega, RN_exact Rep_zero]; omega

/-! ### products -/
theorem RN_big {z : Int} {d : Nat} (h : 2 ^ (52 + d) ≤ z.natAbs) : (2 : Int) ^ d ∣ RN z := by
  have h0 : z.natAbs ≠ 0 := by have := Nat.two_pow_pos (52 + d); omega
  have hl : 52 + d ≤ z.natAbs.log2 := (Nat.le_log2 h0).2 h
  have hd : d ≤ dr z.natAbs := by unfold dr; omega
  apply Int.natAbs_dvd_natAbs.1
  rw [Int.natAbs_pow, RN_abs]
  exact Nat.dvd_trans (Nat.pow_dvd_pow 2 hd) (Nat.dvd_mul_left _ _)

/-- halves of 26 digits of a number of just 53 (Veltkamp) -/
theorem split_pos {A g h : Int} (h1 : 2 ^ 52 ≤ A) (h2 : A < 2 ^ 53) (hg : g = RN (134217729 * A)) (hh : h = RN (g - RN (g - A))) :
    (2 : Int) ^ 27 ∣ h ∧ (A - h).natAbs ≤ 2 ^ 26 ∧ RN (A - h) = A - h := by
  have dg : (2 : Int) ^ 27 ∣ g := by rw [hg]; exact RN_big (by omega)
  have eg : 2 * (g - 134217729 * A).natAbs ≤ 2 ^ 28 := by rw [hg]; exact RN_err (by omega)
  have lo : 2 ^ 79 ≤ g - A := by
    by_cases hA : A = 2 ^ 52
    · have : Rep (134217729 * A) := Rep_of_dvd (f := 52) (by rw [hA]; exact Int.dvd_mul_left _ _) (by omega)
      rw [RN_exact this] at hg; omega
    · omega
  have hi : g - A ≤ 2 ^ 80 := by omega
  have dm : (2 : Int) ^ 27 ∣ RN (g - A) := RN_big (by omega)
  have em : (RN (g - A) - (g - A)).natAbs ≤ 2 ^ 26 := by
    by_cases hm : g - A = 2 ^ 80
    · rw [hm, RN_exact (Rep_of_dvd (f := 80) (Int.dvd_refl _) (by omega))]; omega
    · have := RN_err (z := g - A) (d := 27) (by omega); omega
  have dh : (2 : Int) ^ 27 ∣ g - RN (g - A) := Int.dvd_sub dg dm
  have rh : Rep (g - RN (g - A)) := Rep_of_dvd dh (by omega)
  rw [RN_exact rh] at hh
  subst hh
  refine ⟨dh, by omega, RN_exact (Rep_small (by omega))⟩

theorem split_norm {A g h : Int} (h1 : 2 ^ 52 ≤ A.natAbs) (h2 : A.natAbs < 2 ^ 53) (hg : g = RN (134217729 * A)) (hh : h = RN (g - RN (g - A))) :
    (2 : Int) ^ 27 ∣ h ∧ (A - h).natAbs ≤ 2 ^ 26 ∧ RN (A - h) = A - h := by
  by_cases hp : 0 ≤ A
  · exact split_pos (by omega) (by omega) hg hh
  · have hg' : -g = RN (134217729 * -A) := by rw [show 134217729 * -A = -(134217729 * A) by omega, RN_neg, hg]
    have hh' : -h = RN (-g - RN (-g - -A)) := by rw [show -g - -A = -(g - A) by omega, RN_neg, show -g - -RN (g - A) = -(g - RN (g - A)) by omega, RN_neg, hh]
    obtain ⟨a, b, c⟩ := split_pos (A := -A) (by omega) (by omega) hg' hh'
    refine ⟨Int.dvd_neg.1 a, by omega, ?_⟩
    rw [show -A - -h = -(A - h) by omega, RN_neg] at c
    omega

theorem abs_mul_le {x y : Int} {m n : Nat} (hx : x.natAbs ≤ m) (hy : y.natAbs ≤ n) : (x * y).natAbs ≤ m * n := by
  rw [Int.natAbs_mul]; exact Nat.mul_le_mul hx hy

theorem high_le {A H : Int} (h2 : A.natAbs < 2 ^ 53) (d : (2 : Int) ^ 27 ∣ H) (l : (A - H).natAbs ≤ 2 ^ 26) : ∃ x : Int, H = 2 ^ 27 * x ∧ x.natAbs ≤ 2 ^ 26 := by
  obtain ⟨x, hx⟩ := d
  exact ⟨x, hx, by omega⟩

theorem dekker_lin {w1 w2 w3 w4 AB LB P z1 z2 z3 : Int} (hAB : AB = w1 + w2 + w3 + w4) (hLB : LB = w3 + w4) (plB : LB.natAbs ≤ 2 ^ 79)
    (q1 : w1 = 2 ^ 54 * z1) (p1 : z1.natAbs ≤ 2 ^ 52) (q2 : w2 = 2 ^ 27 * z2) (p2 : z2.natAbs ≤ 2 ^ 52) (q3 : w3 = 2 ^ 27 * z3) (p3 : z3.natAbs ≤ 2 ^ 52) (p4 : w4.natAbs ≤ 2 ^ 52)
    (dP : (2 : Int) ^ 52 ∣ P) (eP : (P - AB).natAbs ≤ 2 ^ 52) :
    RN w1 = w1 ∧ RN w2 = w2 ∧ RN w3 = w3 ∧ RN w4 = w4 ∧ RN (w1 - P) = w1 - P ∧ RN (w1 - P + w2) = w1 - P + w2 ∧
    RN (w1 - P + w2 + w3) = w1 - P + w2 + w3 ∧ RN (w1 - P + w2 + w3 + w4) = AB - P := by
  have d1 : (2 : Int) ^ 52 ∣ w1 := by rw [q1]; exact Int.dvd_trans (pow_dvd (by omega)) (Int.dvd_mul_right _ _)
  have d2 : (2 : Int) ^ 27 ∣ w2 := by rw [q2]; exact Int.dvd_mul_right _ _
  have d3 : (2 : Int) ^ 27 ∣ w3 := by rw [q3]; exact Int.dvd_mul_right _ _
  have r1d : (2 : Int) ^ 52 ∣ w1 - P := Int.dvd_sub d1 dP
  have r1d' : (2 : Int) ^ 27 ∣ w1 - P := Int.dvd_trans (pow_dvd (by omega)) r1d
  have r2d : (2 : Int) ^ 27 ∣ w1 - P + w2 := Int.dvd_add r1d' d2
  have r3d : (2 : Int) ^ 27 ∣ w1 - P + w2 + w3 := Int.dvd_add r2d d3
  have t1 : Rep w1 := Rep_of_dvd (f := 54) (by rw [q1]; exact Int.dvd_mul_right _ _) (by clear d1 d2 d3 r1d r1d' r2d r3d dP; omega)
  have t2 : Rep w2 := Rep_of_dvd d2 (by clear d1 d2 d3 r1d r1d' r2d r3d dP t1; omega)
  have t3 : Rep w3 := Rep_of_dvd d3 (by clear d1 d2 d3 r1d r1d' r2d r3d dP t1 t2; omega)
  have t4 : Rep w4 := Rep_small (by omega)
  have b1 : (w1 - P).natAbs ≤ 2 ^ (53 + 52) := by clear d1 d2 d3 r1d r1d' r2d r3d dP; omega
  have b2 : (w1 - P + w2).natAbs ≤ 2 ^ (53 + 27) := by clear d1 d2 d3 r1d r1d' r2d r3d dP q1 q2 q3 p1 p2 p3; omega
  have b3 : (w1 - P + w2 + w3).natAbs ≤ 2 ^ (53 + 27) := by clear d1 d2 d3 r1d r1d' r2d r3d dP q1 q2 q3 p1 p2 p3; omega
  refine ⟨RN_exact t1, RN_exact t2, RN_exact t3, RN_exact t4, RN_exact (Rep_of_dvd r1d b1), RN_exact (Rep_of_dvd r2d b2), RN_exact (Rep_of_dvd r3d b3), ?_⟩
  rw [show w1 - P + w2 + w3 + w4 = AB - P by omega]
  exact RN_exact (Rep_small (by omega))

theorem prod_size {A B : Int} (a1 : 2 ^ 52 ≤ A.natAbs) (a2 : A.natAbs < 2 ^ 53) (b1 : 2 ^ 52 ≤ B.natAbs) (b2 : B.natAbs < 2 ^ 53) :
    2 ^ 104 ≤ (A * B).natAbs ∧ (A * B).natAbs < 2 ^ 106 := by
  rw [Int.natAbs_mul]
  constructor
  · exact Nat.le_trans (by decide) (Nat.mul_le_mul a1 b1)
  · exact Nat.lt_of_le_of_lt (Nat.mul_le_mul (show A.natAbs ≤ 2 ^ 53 - 1 by omega) (show B.natAbs ≤ 2 ^ 53 - 1 by omega)) (by decide)

/-- what is left of a product, from the halves (Dekker) -/
theorem dekker {A B Ha Hb P : Int} (a1 : 2 ^ 52 ≤ A.natAbs) (a2 : A.natAbs < 2 ^ 53) (b1 : 2 ^ 52 ≤ B.natAbs) (b2 : B.natAbs < 2 ^ 53)
    (da : (2 : Int) ^ 27 ∣ Ha) (la : (A - Ha).natAbs ≤ 2 ^ 26) (db : (2 : Int) ^ 27 ∣ Hb) (lb : (B - Hb).natAbs ≤ 2 ^ 26) (hP : P = RN (A * B)) :
    RN (Ha * Hb) = Ha * Hb ∧ RN (Ha * (B - Hb)) = Ha * (B - Hb) ∧ RN ((A - Ha) * Hb) = (A - Ha) * Hb ∧ RN ((A - Ha) * (B - Hb)) = (A - Ha) * (B - Hb) ∧
    RN (Ha * Hb - P) = Ha * Hb - P ∧ RN (Ha * Hb - P + Ha * (B - Hb)) = Ha * Hb - P + Ha * (B - Hb) ∧
    RN (Ha * Hb - P + Ha * (B - Hb) + (A - Ha) * Hb) = Ha * Hb - P + Ha * (B - Hb) + (A - Ha) * Hb ∧
    RN (Ha * Hb - P + Ha * (B - Hb) + (A - Ha) * Hb + (A - Ha) * (B - Hb)) = A * B - P := by
  obtain ⟨x, hx, hx2⟩ := high_le a2 da la
  obtain ⟨y, hy, hy2⟩ := high_le b2 db lb
  obtain ⟨s1, s2⟩ := prod_size a1 a2 b1 b2
  have eP : (P - A * B).natAbs ≤ 2 ^ 52 := by
    have := RN_err (z := A * B) (d := 53) s2
    rw [← hP] at this; omega
  have c1 : ((A - Ha) * B).natAbs ≤ 2 ^ 79 := Nat.le_trans (abs_mul_le la (Nat.le_of_lt b2)) (by decide)
  have c2 : (x * y).natAbs ≤ 2 ^ 52 := Nat.le_trans (abs_mul_le hx2 hy2) (by decide)
  have c3 : (x * (B - Hb)).natAbs ≤ 2 ^ 52 := Nat.le_trans (abs_mul_le hx2 lb) (by decide)
  have c4 : ((A - Ha) * y).natAbs ≤ 2 ^ 52 := Nat.le_trans (abs_mul_le la hy2) (by decide)
  have c5 : ((A - Ha) * (B - Hb)).natAbs ≤ 2 ^ 52 := Nat.le_trans (abs_mul_le la lb) (by decide)
  refine dekker_lin (LB := (A - Ha) * B) (z1 := x * y) (z2 := x * (B - Hb)) (z3 := (A - Ha) * y) ?_ ?_ c1 ?_ c2 ?_ c3 ?_ c4 c5 (by rw [hP]; exact RN_big s1) eP
  · simp only [Int.mul_sub, Int.sub_mul]; omega
  · simp only [Int.mul_sub, Int.sub_mul]; omega
  · rw [hx, hy, show (2 : Int) ^ 54 = 2 ^ 27 * 2 ^ 27 from Int.pow_add 2 27 27]; ac_rfl
  · rw [hx]; ac_rfl
  · rw [hy]; ac_rfl
end Ieee.Own
