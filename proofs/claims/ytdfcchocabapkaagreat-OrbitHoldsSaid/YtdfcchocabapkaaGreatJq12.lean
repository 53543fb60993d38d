/- Proved here: what the texts Omn, Ocd, Oce prove, one behind the other. -/
import Derived.Test.YtdfcchocabapkaaGreatJo1
import Derived.Test.YtdfcchocabapkaaGreatJq5
import Derived.Test.YtdfcchocabapkaaGreatJq11

namespace Ply
def fast1 : Rat := 1001 / 1000

theorem s_lip1 : Lip s (-top) top fast1 := by
 have h1 : Lip s (-(1 * top / 1)) (-(2 * top / 3)) fast1 := (lip_poly (p := sinP 18) (c := (-(5 * top / 6))) (B := (1 * top / 6)) (by decide +kernel)).cong (by grind) (by grind)
 have h2 : Lip s (-(2 * top / 3)) (-(1 * top / 3)) fast1 := (lip_poly (p := sinP 18) (c := (-(1 * top / 2))) (B := (1 * top / 6)) (by decide +kernel)).cong (by grind) (by grind)
 have h3 : Lip s (-(1 * top / 3)) (-(1 * top / 7)) fast1 := (lip_poly (p := sinP 18) (c := (-(5 * top / 21))) (B := (2 * top / 21)) (by decide +kernel)).cong (by grind) (by grind)
 have h4 : Lip s (-(1 * top / 7)) (-(1 * top / 18)) fast1 := (lip_poly (p := sinP 18) (c := (-(25 * top / 252))) (B := (11 * top / 252)) (by decide +kernel)).cong (by grind) (by grind)
 have h5 : Lip s (-(1 * top / 18)) (1 * top / 18) fast1 := (lip_poly (p := sinP 18) (c := (0 * top / 1)) (B := (1 * top / 18)) (by decide +kernel)).cong (by grind) (by grind)
 have h6 : Lip s (1 * top / 18) (1 * top / 7) fast1 := (lip_poly (p := sinP 18) (c := (25 * top / 252)) (B := (11 * top / 252)) (by decide +kernel)).cong (by grind) (by grind)
 have h7 : Lip s (1 * top / 7) (1 * top / 3) fast1 := (lip_poly (p := sinP 18) (c := (5 * top / 21)) (B := (2 * top / 21)) (by decide +kernel)).cong (by grind) (by grind)
 have h8 : Lip s (1 * top / 3) (2 * top / 3) fast1 := (lip_poly (p := sinP 18) (c := (1 * top / 2)) (B := (1 * top / 6)) (by decide +kernel)).cong (by grind) (by grind)
 have h9 : Lip s (2 * top / 3) (1 * top / 1) fast1 := (lip_poly (p := sinP 18) (c := (5 * top / 6)) (B := (1 * top / 6)) (by decide +kernel)).cong (by grind) (by grind)
 exact ((((((((h1.join h2).join h3).join h4).join h5).join h6).join h7).join h8).join h9).cong (by grind) (by grind)
theorem c_lip1 : Lip c (-top) top fast1 :=
 ((lip_poly (p := cosP 18) (c := 0) (B := top) (by decide +kernel)).cong (by grind) (by grind) : Lip c (-top) top fast1)
theorem sq_lip1 (k : Int) : Lip (sq k) (-top) top fast1 := by
 rcases (by omega : k % 4 = 0 ∨ k % 4 = 1 ∨ k % 4 = 2 ∨ k % 4 = 3) with h | h | h | h
 · rw [show sq k = s by funext y; simp [sq, h]]; exact s_lip1
 · rw [show sq k = c by funext y; simp [sq, h]]; exact c_lip1
 · rw [show sq k = fun y => -s y by funext y; simp [sq, h]]; exact s_lip1.neg
 · rw [show sq k = fun y => -c y by funext y; simp [sq, h]]; exact c_lip1.neg
def quick1 : Rat := tau * fast1
theorem quick_nn1 : 0 ≤ quick1 := by decide +kernel
theorem quick_lo1 : 6 ≤ quick1 := by decide +kernel
theorem sq_lip_in1 (k : Int) {r t : Rat} (r1 : -(1/8) ≤ r) (h : r ≤ t) (t2 : t ≤ 1/8) : -(quick1 * (t - r)) ≤ sq k (tau * t) - sq k (tau * r) ∧ sq k (tau * t) - sq k (tau * r) ≤ quick1 * (t - r) := by
 have b := top_mul r1 (by grind)
 have b' := top_mul (r := t) (by grind) t2
 have m : 0 ≤ tau * (t - r) := Rat.mul_nonneg tau_nn (by grind)
 have u := sq_lip1 k (tau * r) (tau * t) b.1 (by grind) b'.2
 have e : quick1 * (t - r) = fast1 * (tau * t - tau * r) := by unfold quick1; grind
 rw [e]; exact u
theorem sq_lip_one1 {j : Int} {r t : Rat} (r1 : -(1/8) ≤ r) (r2 : r ≤ 1/8) (t1 : -(1/8) ≤ t) (t2 : t ≤ 1/8) :
 -(quick1 * (1/4 + t - r) + eps) ≤ sq (j + 1) (tau * t) - sq j (tau * r) ∧ sq (j + 1) (tau * t) - sq j (tau * r) ≤ quick1 * (1/4 + t - r) + eps := by
 have a := sq_lip_in1 j r1 r2 Rat.le_refl
 have b := sq_lip_in1 (j + 1) Rat.le_refl t1 t2
 have e := edge j
 rw [tau_top] at a
 rw [tau_top'] at b
 constructor <;> grind
theorem sq_lip_two1 {j : Int} {r t : Rat} (r1 : -(1/8) ≤ r) (r2 : r ≤ 1/8) (t1 : -(1/8) ≤ t) (t2 : t ≤ 1/8) :
 -(quick1 * (1/2 + t - r) + 2 * eps) ≤ sq (j + 2) (tau * t) - sq j (tau * r) ∧ sq (j + 2) (tau * t) - sq j (tau * r) ≤ quick1 * (1/2 + t - r) + 2 * eps := by
 have a := sq_lip_one1 (j := j) (t := 1/8) r1 r2 (by grind) (by grind)
 have b := sq_lip_one1 (j := j + 1) (r := 1/8) (by grind) (by grind) t1 t2
 rw [show j + 1 + 1 = j + 2 by omega] at b
 constructor <;> grind
theorem sine_lip1 {x y r t : Rat} {j k : Int} (hx : Says x j r) (hy : Says y k t) (h : x ≤ y) :
 -(quick1 * (y - x) + 2 * eps) ≤ sq k (tau * t) - sq j (tau * r) ∧ sq k (tau * t) - sq j (tau * r) ≤ quick1 * (y - x) + 2 * eps := by
 have e0 := eps_nn
 obtain ⟨ex, r1, r2⟩ := hx
 obtain ⟨ey, t1, t2⟩ := hy
 have a1 := sq_le_one (top_mul r1 r2).1 (top_mul r1 r2).2 j
 have b1 := sq_le_one (top_mul t1 t2).1 (top_mul t1 t2).2 k
 by_cases far : 1/3 ≤ y - x
 · have q := quick_lo1
   have m : 0 ≤ (quick1 - 6) * (y - x - 1/3) := Rat.mul_nonneg (by grind) (by grind)
   constructor <;> grind
 · obtain ⟨n, hn⟩ : ∃ n : Int, n = k - j := ⟨_, rfl⟩
   have en : (n : Rat) = (k : Rat) - (j : Rat) := by rw [hn, Rat.intCast_sub]
   have el : -2 < n := by
    have e : ((-2 : Int) : Rat) = -2 := by decide +kernel
    exact int_lt (by grind)
   have eu : n < 3 := by
    have e : ((3 : Int) : Rat) = 3 := by decide +kernel
    exact int_lt (by grind)
   rcases (by omega : n = -1 ∨ n = 0 ∨ n = 1 ∨ n = 2) with q | q | q | q
   · have e : ((-1 : Int) : Rat) = -1 := by decide +kernel
     rw [q, e] at en
     obtain rfl : t = 1/8 := by grind
     obtain rfl : r = -(1/8) := by grind
     obtain rfl : j = k + 1 := by omega
     have u := edge k
     have z : quick1 * (y - x) = 0 := by rw [show y - x = 0 by grind]; grind
     rw [tau_top, tau_top', z]
     constructor <;> grind
   · have e : ((0 : Int) : Rat) = 0 := by decide +kernel
     rw [q, e] at en
     obtain rfl : k = j := by omega
     have u := sq_lip_in1 k r1 (by grind) t2
     have z : y - x = t - r := by grind
     rw [z]
     constructor <;> grind
   · have e : ((1 : Int) : Rat) = 1 := by decide +kernel
     rw [q, e] at en
     obtain rfl : k = j + 1 := by omega
     have u := sq_lip_one1 (j := j) r1 r2 t1 t2
     have z : y - x = 1/4 + t - r := by grind
     rw [z]
     constructor <;> grind
   · have e : ((2 : Int) : Rat) = 2 := by decide +kernel
     rw [q, e] at en
     obtain rfl : k = j + 2 := by omega
     have u := sq_lip_two1 (j := j) r1 r2 t1 t2
     have z : y - x = 1/2 + t - r := by grind
     rw [z]
     exact u
theorem kep_rise1 {x y r t κ : Rat} {j k : Int} (hx : Says x j r) (hy : Says y k t) (h : x ≤ y) (k0 : 0 ≤ κ) (k1 : κ * quick1 ≤ 22/25) :
 3 / 25 * (y - x) ≤ (y - κ * sq k (tau * t)) - (x - κ * sq j (tau * r)) + κ * (2 * eps) := by
 have u := (sine_lip1 hx hy h).2
 have a : 0 ≤ κ * (quick1 * (y - x) + 2 * eps - (sq k (tau * t) - sq j (tau * r))) := Rat.mul_nonneg k0 (by grind)
 have b : 0 ≤ (22/25 - κ * quick1) * (y - x) := Rat.mul_nonneg (by grind) (by grind)
 clear u hx hy k1
 generalize sq k (tau * t) = Y at *
 generalize sq j (tau * r) = X at *
 generalize quick1 = q at *
 generalize eps = u at *
 have e1 : (22/25 - κ * q) * (y - x) = 22/25 * (y - x) - κ * q * (y - x) := by grind
 rw [e1] at b
 have e2 : κ * (q * (y - x) + 2 * u - (Y - X)) = κ * q * (y - x) + κ * (2 * u) - (κ * Y - κ * X) := by grind
 rw [e2] at a
 grind
end Ply
namespace Go.Proofs.YtdfcchocabapkaaGreat
open Go.ChangeShapes Go.WideShapes Go.ChangeAt Go.RowKit Ieee.Own Pol

theorem Sin_.move1 {x y S C S' C' : Rat} (h : Sin_ x S C) (g : Sin_ y S' C') (le : x ≤ y) : mag (S' - S) ≤ Ply.quick1 * (y - x) + 2 * Ply.eps ∧ mag (C' - C) ≤ Ply.quick1 * (y - x) + 2 * Ply.eps := by
 obtain ⟨k, r, a, e, f⟩ := h
 obtain ⟨l, t, b, e', f'⟩ := g
 have u := Ply.sine_lip1 a b le
 have v := Ply.sine_lip1 (Ply.says_quarter a) (Ply.says_quarter b) (by grind)
 rw [show y + 1 / 4 - (x + 1 / 4) = y - x by grind] at v
 rw [e, f, e', f']
 exact ⟨mag_of u.1 u.2, mag_of v.1 v.2⟩
theorem Sin_.near1 {x y S C S' C' d : Rat} (h : Sin_ x S C) (g : Sin_ y S' C') (le : mag (x - y) ≤ d) : mag (S' - S) ≤ Ply.quick1 * d + 2 * Ply.eps ∧ mag (C' - C) ≤ Ply.quick1 * d + 2 * Ply.eps := by
 have m := mag_le (x - y)
 have q := Ply.quick_nn1
 rcases Rat.le_total (a := x) (b := y) with c | c
 · have u := h.move1 g c
   have k := Rat.mul_le_mul_of_nonneg_left (show y - x ≤ d by grind) q
   generalize Ply.quick1 * d = A at *
   generalize Ply.quick1 * (y - x) = B at *
   generalize Ply.eps = e at *
   constructor <;> grind
 · have u := g.move1 h c
   rw [mag_swap S' S, mag_swap C' C]
   have k := Rat.mul_le_mul_of_nonneg_left (show x - y ≤ d by grind) q
   generalize Ply.quick1 * d = A at *
   generalize Ply.quick1 * (x - y) = B at *
   generalize Ply.eps = e at *
   constructor <;> grind
structure Fac1 (κ : Rat) : Prop where
 k0 : 0 ≤ κ
 k1 : κ * Ply.quick1 ≤ 22 / 25
theorem Sin_.climb1 {κ x y S C S' C' : Rat} (K : Fac1 κ) (h : Sin_ x S C) (g : Sin_ y S' C') (le : x ≤ y) : 3 / 25 * (y - x) ≤ (y - κ * S') - (x - κ * S) + κ * (2 * Ply.eps) := by
 obtain ⟨k, r, a, e, f⟩ := h
 obtain ⟨l, t, b, e', f'⟩ := g
 have v := Ply.kep_rise1 a b le K.k0 K.k1
 rw [← e, ← e'] at v
 exact v
theorem edge_lo1 {κ m1 m b f lo x S C : Rat} (K : Fac1 κ) (h1 : Lo_ κ m1 lo) (h : m1 ≤ m) (a : Sin_ x S C) (hx : mag (x - κ * S - m) ≤ b) (e : κ * (2 * Ply.eps) ≤ f) : lo - x ≤ 25 / 3 * (b + f) := by
 obtain ⟨S', C', a', h1⟩ := h1
 have h1 := h1 S' (nigh_self a'.one.1 a'.one.2.1)
 have g := mag_le (x - κ * S - m)
 have f0 : 0 ≤ f := Rat.le_trans (Rat.mul_nonneg K.k0 (by decide +kernel)) e
 rcases Rat.le_total (a := lo) (b := x) with c | c
 · grind
 · have v := a.climb1 K a' c
   generalize κ * (2 * Ply.eps) = E at *
   grind
theorem edge_hi1 {κ m2 m b f hi x S C : Rat} (K : Fac1 κ) (h1 : Hi_ κ m2 hi) (h : m ≤ m2) (a : Sin_ x S C) (hx : mag (x - κ * S - m) ≤ b) (e : κ * (2 * Ply.eps) ≤ f) : x - hi ≤ 25 / 3 * (b + f) := by
 obtain ⟨S', C', a', h1⟩ := h1
 have h1 := h1 S' (nigh_self a'.one.1 a'.one.2.1)
 have g := mag_le (x - κ * S - m)
 have f0 : 0 ≤ f := Rat.le_trans (Rat.mul_nonneg K.k0 (by decide +kernel)) e
 rcases Rat.le_total (a := x) (b := hi) with c | c
 · grind
 · have v := a'.climb1 K a c
   generalize κ * (2 * Ply.eps) = E at *
   grind
theorem kap_fac1 {e : Nat} (e0 : 0 ≤ Q e) (e1 : Q e ≤ 7 / 8) : Fac1 (kap e) := by
 have kt := kap_tau e
 have k0 : 0 ≤ kap e := kap_le kt tau_pos (by rw [Rat.zero_mul]; exact e0)
 have k1 : kap e ≤ 7 / 8 / Ply.tau := kap_ge kt tau_pos (by
  rw [Rat.div_def, Rat.mul_assoc, Rat.inv_mul_cancel _ (by have := tau_pos; grind), Rat.mul_one]; exact e1)
 have c1 : 7 / 8 / Ply.tau * Ply.quick1 ≤ 22 / 25 := by decide +kernel
 have := Rat.mul_le_mul_of_nonneg_right k1 Ply.quick_nn1
 exact ⟨k0, Rat.le_trans this c1⟩
end Go.Proofs.YtdfcchocabapkaaGreat

namespace Go.Proofs.YtdfcchocabapkaaGreat
open Go.ChangeShapes Go.WideShapes Go.ChangeAt Go.RowKit Ieee.Own Pol Fma

theorem half_le {x P : Int} {n : Nat} (e : (2 : Int) ^ n = P) (h : 2 * x.natAbs ≤ 2 ^ (n + 1)) : -P ≤ x ∧ x ≤ P := by
 have c : ((2 ^ n : Nat) : Int) = 2 ^ n := Int.natCast_pow 2 n
 rw [Nat.pow_succ] at h
 omega
theorem near_unit {x z : Int} {n : Nat} (hn : n = 1054 + 1) (h : 2 * (x - z).natAbs ≤ 2 ^ n) : mag ((x : Rat) / unit - (z : Rat) / unit) ≤ 1 / 1048576 := by
 subst hn
 have up := unit_pos
 obtain ⟨a, b⟩ := half_le (n := 1054) rfl h
 have ue : unit = ((2 ^ 1054 : Int) : Rat) * 1048576 := by decide +kernel
 generalize (2 : Int) ^ 1054 = P at *
 have a := Rat.intCast_le_intCast.2 a
 have b := Rat.intCast_le_intCast.2 b
 rw [Rat.intCast_neg, Rat.intCast_sub] at a
 rw [Rat.intCast_sub] at b
 have ex : (x : Rat) / unit * unit = x := by rw [Rat.div_def, Rat.mul_assoc, Rat.inv_mul_cancel _ (by grind), Rat.mul_one]
 have ez : (z : Rat) / unit * unit = z := by rw [Rat.div_def, Rat.mul_assoc, Rat.inv_mul_cancel _ (by grind), Rat.mul_one]
 generalize (x : Rat) / unit = X at *
 generalize (z : Rat) / unit = Z at *
 rw [← ex, ← ez] at a b
 have P0 : (P : Rat) = unit * (1 / 1048576) := by rw [ue]; grind
 rw [P0] at a b
 have e : X * unit - Z * unit = unit * (X - Z) := by grind
 rw [e] at a b
 refine mag_of ?_ ?_
 · refine Rat.not_lt.1 fun c => ?_
   have := (Rat.mul_lt_mul_left up).2 c
   grind
 · refine Rat.not_lt.1 fun c => ?_
   have := (Rat.mul_lt_mul_left up).2 c
   grind
theorem Q_is (x : Nat) : Q x = ((V x : Int) : Rat) / unit := rfl
theorem rn_half {z : Int} {k d : Nat} (h : z.natAbs ≤ 2 ^ k) (q : z.natAbs ≠ 2 ^ k) (e : k = 53 + d) : 2 * (RN z - z).natAbs ≤ 2 ^ d := by
 subst e; exact RN_err (Nat.lt_of_le_of_ne h q)
theorem cap_of {x y z : Int} {i j k n : Nat} (hx : x.natAbs ≤ 2 ^ i) (hy : y.natAbs ≤ 2 ^ j) (e : x * y = z * 2 ^ n) (h : i + j = k + n) : z.natAbs ≤ 2 ^ k := by
 have h1 := Nat.mul_le_mul hx hy
 rw [← Int.natAbs_mul, e, Int.natAbs_mul, Int.natAbs_pow, show (2 : Int).natAbs = 2 from rfl, ← Nat.pow_add, h, Nat.pow_add] at h1
 exact Nat.le_of_mul_le_mul_right h1 (Nat.two_pow_pos n)
theorem rep_two {z : Int} {k : Nat} (q : z.natAbs = 2 ^ k) : Rep z := ⟨1, k, by decide, by rw [q, Nat.one_mul]⟩
theorem prod_near {a b : Nat} (A : Wd a 822 1084) (B : Wd b 822 1098) (v : V (mX a b) = RZ (V a * V b)) : mag (Q (mX a b) - Q a * Q b) ≤ 1 / 1048576 := by
 have d : (2 : Int) ^ 1074 ∣ V a * V b := by
  have := Int.mul_dvd_mul A.dvd B.dvd
  rw [← Int.pow_add] at this
  exact Int.dvd_trans ⟨2 ^ 570, by rw [← Int.pow_add]⟩ this
 obtain ⟨z, hz⟩ := d
 have hz : V a * V b = z * 2 ^ 1074 := by rw [hz, Int.mul_comm]
 rw [hz, RZ_wholeF] at v
 have ab : z.natAbs ≤ 2 ^ 1108 := cap_of (k := 1108) A.abs B.abs hz (by omega)
 have qa : Q a * Q b = (z : Rat) / unit := by
  have up := unit_pos
  have e : Q a * Q b * (unit * unit) = (z : Rat) * unit := by
   have e1 := Q_unit a
   have e2 := Q_unit b
   have e3 : Q a * Q b * (unit * unit) = Q a * unit * (Q b * unit) := by grind
   rw [e3, e1, e2, ← Rat.intCast_mul, hz, Rat.intCast_mul, ← unit_int]
  have ez : (z : Rat) / unit * unit = z := by rw [Rat.div_def, Rat.mul_assoc, Rat.inv_mul_cancel _ (by grind), Rat.mul_one]
  generalize (z : Rat) / unit = Z at *
  rw [← ez] at e
  have k : (Q a * Q b - Z) * (unit * unit) = 0 := by grind
  rcases Rat.mul_eq_zero.1 k with k | k
  · grind
  · rcases Rat.mul_eq_zero.1 k with k | k <;> grind
 rw [qa, Q_is, v]
 by_cases q : z.natAbs = 2 ^ 1108
 · have r : RN z = z := RN_exact (rep_two q)
   rw [r, show (z : Rat) / unit - (z : Rat) / unit = 0 by grind]
   decide +kernel
 · exact near_unit (n := 1055) rfl (rn_half (k := 1108) (d := 1055) ab q (by omega))
def offM : Rat := 2862 / 1000000000
theorem sum_poly {u p r a m x : Rat} (u0 : u = mkRat 1 (2 ^ 53)) (hm : mag (m - r) ≤ 1 / 1048576) (ha : a = p + r) (hx : mag (x - (p + m)) ≤ 17179870209 * u) : mag (x - a) ≤ 286103 / 100000000000 := by
 have h := mag_add hx hm
 have e : x - (p + m) + (m - r) = x - a := by rw [ha]; grind
 rw [e] at h
 refine Rat.le_trans h ?_
 rw [u0]
 decide +kernel
theorem mean_near {o : Ob} {d : Nat} (h : ObW o) (hO : ObOk o) (hd : d < 18446744073709551616) (t : witB g24 d = true) : ∃ K : Int, mag (Q (meanW o d) - (aD o d - (K : Rat))) ≤ offM ∧ mag (Q (meanW o d)) ≤ 1 / 2 := by
 have P := pos_of h hd hO.ph hO.ra t
 have L := lef_of P.left
 have W1 := tu_wd h.ph hO.ph
 have W2 := tu_wd h.ra hO.ra
 have W3 := wit_wd hd v24 t
 have pn := prod_near W2 W3 P.vm
 obtain ⟨-, M, -⟩ := W2.mul W3 (by omega) (by omega) (by omega)
 obtain ⟨-, -, rl⟩ := Wd.add (p := 570) (k := 1109) (W1.le (by omega) (by omega)) (M.le (by omega) (by omega)) (by omega)
 have mp : mag (Q o.ph) ≤ 1024 := q_cap_any (w := 4652218415073722368) (k := 1084) (by decide +kernel) (by decide +kernel) W1.abs
 have ma : mag (Q o.ra) ≤ 1024 := q_cap_any (w := 4652218415073722368) (k := 1084) (by decide +kernel) (by decide +kernel) W2.abs
 have md : mag (Q d) ≤ 16777216 := q_cap_any (w := 4715268809856909312) (k := 1098) (by decide +kernel) (by decide +kernel) W3.abs
 have mr := mag_mul ma md
 have mr : mag (Q o.ra * Q d) ≤ 17179869184 := Rat.le_trans mr (by decide +kernel)
 have ms : mag (Q o.ph + Q (mX o.ra d)) ≤ 17179870209 := by
  have x := mag_add mp (mag_add mr pn)
  have e : Q o.ph + (Q o.ra * Q d + (Q (mX o.ra d) - Q o.ra * Q d)) = Q o.ph + Q (mX o.ra d) := by grind
  rw [e] at x
  exact Rat.le_trans x (by decide +kernel)
 have x1 := rd_of rl 17179870209 ms
 rw [Rat.add_zero] at x1
 have hx : mag (Q (posX o d) - aD o d) ≤ 286103 / 100000000000 := sum_poly (u := uR) rfl pn rfl (by rw [Rat.mul_comm]; exact x1)
 obtain ⟨K, hK⟩ : ∃ K, K = kq hlf (V (posX o d)) := ⟨_, rfl⟩
 have el : Q (lefX (posX o d)) = Q (posX o d) - (K : Rat) := by
  have e : V (lefX (posX o d)) = V (posX o d) - K * 2 ^ 1074 := by
   rw [L.v, hK]
   unfold rq
   rw [hlf_two, Int.mul_comm]
  have c : ((V (lefX (posX o d)) : Int) : Rat) = ((V (posX o d) : Int) : Rat) - (K : Rat) * unit := by rw [e, Rat.intCast_sub, Rat.intCast_mul, ← unit_int]
  rw [← Q_unit, ← Q_unit] at c
  have up := unit_pos
  have k : (Q (lefX (posX o d)) - (Q (posX o d) - (K : Rat))) * unit = 0 := by grind
  rcases Rat.mul_eq_zero.1 k with k | k <;> grind
 have al : (V (lefX (posX o d))).natAbs ≤ 2 ^ 1075 := by
  rw [L.v]
  have kb := rq_bd hlf_pos (V (posX o d))
  have ce : ((2 ^ 1073 : Nat) : Int) = 2 ^ 1073 := Int.natCast_pow 2 1073
  have eh := hlf_is
  have a : (rq hlf (V (posX o d))).natAbs ≤ 2 ^ 1073 := by omega
  exact abs_up (k := 1073) (l := 1075) a (by omega)
 have fo := fn_off (j := 0) ⟨L.fin, by rw [Int.pow_zero]; exact Int.one_dvd _, al⟩
 have qm : Q (meanW o d) = Q (fnW (lefX (posX o d))) := Q_congr (oW_V L.fin)
 refine ⟨K, ?_, ?_⟩
 · rw [qm]
   have s := mag_add fo hx
   have e : Q (fnW (lefX (posX o d))) - Q (lefX (posX o d)) + (Q (posX o d) - aD o d) = Q (fnW (lefX (posX o d))) - (aD o d - (K : Rat)) := by rw [el]; grind
   rw [e] at s
   refine Rat.le_trans s ?_
   have c1 : sm + 286103 / 100000000000 ≤ offM := by decide +kernel
   exact c1
 · have m1 := mean_ha L
   have ml := (oW_nz L.fin).fin.1
   obtain ⟨-, -, q⟩ := kp_ec h.ec ml hO.ec m1
   exact q

def offS : Rat := 15005 / 100000000
def offZ : Rat := 25 / 3 * (17 * uR + offM) + 3 * uR
theorem offS_is : Ply.quick1 * offZ + 2 * Ply.eps ≤ offS := by decide +kernel
theorem turn_word {L : Int} (h : L = -1 ∨ L = 0 ∨ L = 1) : ∃ w, Wd w 822 1074 ∧ Q w = (L : Rat) ∧ ∀ z S C : Rat, Sin_ z S C → Sin_ (z + (L : Rat)) S C := by
 have e1 : ((-1 : Int) : Rat) = -1 := by decide +kernel
 have e0 : ((0 : Int) : Rat) = 0 := by decide +kernel
 have e2 : ((1 : Int) : Rat) = 1 := by decide +kernel
 rcases h with rfl | rfl | rfl
 · refine ⟨noneW, ⟨by unfold FinW noneW; omega, by decide +kernel, by decide +kernel⟩, none_Q.trans e1.symm, fun z S C H => ?_⟩
   rw [e1, show z + -1 = z - 1 by grind]; exact H.back
 · refine ⟨0, ⟨zero_fin, by rw [V_zero]; exact Int.dvd_zero _, by rw [V_zero]; exact Nat.zero_le _⟩, Q0.trans e0.symm, fun z S C H => ?_⟩
   rw [e0, Rat.add_zero]; exact H
 · refine ⟨oneW, ⟨by unfold FinW oneW; omega, by decide +kernel, by decide +kernel⟩, one_Q.trans e2.symm, fun z S C H => ?_⟩
   rw [e2]; exact H.turn
theorem pick_poly {p1 p2 x y z u g : Rat} (u0 : 0 ≤ u) (g0 : 0 ≤ g) (hx : mag (x - y) ≤ u) (l : p1 - y ≤ g) (r : y - p2 ≤ g) (hz : (z = p1 ∧ x ≤ p1) ∨ (z = p2 ∧ p2 ≤ x) ∨ z = x) : mag (z - y) ≤ g + u := by
 have m := mag_le (x - y)
 rcases hz with ⟨rfl, h⟩ | ⟨rfl, h⟩ | rfl
 · exact mag_of (by grind) (by grind)
 · exact mag_of (by grind) (by grind)
 · grind
theorem sc_near {o : Ob} {d : Nat} {M S C : Pr} (h : ObW o) (hO : ObOk o) (hd : d < 18446744073709551616) (t : witB g24 d = true) (MF : MnF o (d, d) M) (SF : SnF o.ec M S C) :
 ∃ s c, In s (ps S) ∧ In c (ps C) ∧ mag (SQ (placeW o d) - s) ≤ offS ∧ mag (CQ (placeW o d) - c) ≤ offS := by
 have P0 := pos_of h hd hO.ph hO.ra t
 have L0 := lef_of P0.left
 have m1 := mean_ha L0
 have ml := (oW_nz L0.fin).fin.1
 change haB (meanW o d) = true at m1
 change meanW o d < 18446744073709551616 at ml
 have sb := (sin_word (placeW o d)).one
 have z0 : (0 : Rat) ≤ offS := by decide +kernel
 rcases SF.has with w | ⟨wd, H⟩
 · refine ⟨_, _, (w _ sb.1 sb.2.1).1, (w _ sb.2.2.1 sb.2.2.2).2, ?_, ?_⟩
   · rw [show SQ (placeW o d) - SQ (placeW o d) = 0 by grind]; exact Rat.le_trans mag0 z0
   · rw [show CQ (placeW o d) - CQ (placeW o d) = 0 by grind]; exact Rat.le_trans mag0 z0
 · obtain ⟨N, hN, hS⟩ := MF.has
   have iN := hN d (Int.le_refl _) (Int.le_refl _)
   obtain ⟨j, hj, l, u⟩ := turn_in (hS wd d (Int.le_refl _) (Int.le_refl _))
   obtain ⟨p, P, ip, -, -, -, PL, G⟩ := H _ j iN hj l u
   obtain ⟨K, kn, kb⟩ := mean_near h hO hd t
   obtain ⟨L, hL⟩ : ∃ L : Int, L = K - N + j := ⟨_, rfl⟩
   have cL : (L : Rat) = (K : Rat) - (N : Rat) + (j : Rat) := by rw [hL, Rat.intCast_add, Rat.intCast_sub]
   have off1 : offM ≤ 1 / 1000 := by decide +kernel
   have om := mag_le (Q (meanW o d) - (aD o d - (K : Rat)))
   have ob := mag_le (Q (meanW o d))
   have L1 : L = -1 ∨ L = 0 ∨ L = 1 := by
    have x1 : (L : Rat) < ((2 : Int) : Rat) := by rw [show ((2 : Int) : Rat) = 2 by decide +kernel]; grind
    have x2 : ((-2 : Int) : Rat) < (L : Rat) := by rw [show ((-2 : Int) : Rat) = -2 by decide +kernel]; grind
    have y1 := Rat.intCast_lt_intCast.1 x1
    have y2 := Rat.intCast_lt_intCast.1 x2
    omega
   obtain ⟨lw, lW, lQ, tw⟩ := turn_word L1
   obtain ⟨g, q0, q1⟩ := ecc_of h.ec hO.ec
   have F1 := kap_fac1 q0 q1
   obtain ⟨-, Kp1, q⟩ := kp_ec h.ec ml hO.ec m1
   obtain ⟨pf, A, -⟩ := sol_wd h.ec ml hO.ec m1
   obtain ⟨w0, b, -⟩ := kepler_ans Kp1 q A.fin (oW_V pf)
   have s := SQ_one (solV o.ec (meanW o d))
   have r := res_poly (kap_near h.ec ml hO.ec m1) s.1 s.2 b
   have ee : kap o.ec * (2 * Ply.eps) ≤ uR := by
    have c1 : 2 * Ply.eps ≤ uR := by decide +kernel
    have c0 : 0 ≤ 2 * Ply.eps := by decide +kernel
    have k0 := F1.k0
    have k4 := (kap_fac q0 q1).2
    generalize 2 * Ply.eps = E at *
    have := Rat.mul_nonneg (show 0 ≤ 1 - kap o.ec by grind) c0
    grind
   have sx := tw _ _ _ (sin_word (placeW o d))
   have Wx : Wd (placeW o d) 822 1074 := ⟨A.fin, A.dvd, w0.abs⟩
   change mag (Q (placeW o d) - kap o.ec * SQ (placeW o d) - Q (meanW o d)) ≤ 16 * uR at r
   have r' : mag (Q (placeW o d) + (L : Rat) - kap o.ec * SQ (placeW o d) - (aD o d - (N : Rat) + (j : Rat))) ≤ 16 * uR + offM := by
    have x := mag_add r kn
    have e : Q (placeW o d) - kap o.ec * SQ (placeW o d) - Q (meanW o d) + (Q (meanW o d) - (aD o d - (K : Rat))) = Q (placeW o d) + (L : Rat) - kap o.ec * SQ (placeW o d) - (aD o d - (N : Rat) + (j : Rat)) := by rw [cL]; grind
    rwa [e] at x
   have x1 := edge_lo1 F1 PL.lo ip.1 sx r' ee
   have x2 := edge_hi1 F1 PL.hi ip.2 sx r' ee
   obtain ⟨-, Wa, ra⟩ := Wx.add lW (by omega)
   have qx : mag (Q (placeW o d)) ≤ 1 := q_cap_any (w := 4607182418800017408) (k := 1074) (by decide +kernel) (by decide +kernel) Wx.abs
   have ql : mag (Q lw) ≤ 1 := q_cap_any (w := 4607182418800017408) (k := 1074) (by decide +kernel) (by decide +kernel) lW.abs
   have ra := rd_of ra 3 (Rat.le_trans (mag_add qx ql) (by decide +kernel))
   rw [Rat.add_zero, lQ] at ra
   have Aa : Ang (aX (placeW o d) lw) := ⟨Wa.fin, Wa.dvd, abs_up (k := 1074 + 1) (l := 1114) Wa.abs (by omega)⟩
   have pa := plc_ang PL
   have pl := PL.lt
   have pick : ∃ x, Ang x ∧ V P.1 ≤ V x ∧ V x ≤ V P.2 ∧ ((Q x = Q P.1 ∧ Q (aX (placeW o d) lw) ≤ Q P.1) ∨ (Q x = Q P.2 ∧ Q P.2 ≤ Q (aX (placeW o d) lw)) ∨ Q x = Q (aX (placeW o d) lw)) := by
    by_cases c1 : V (aX (placeW o d) lw) ≤ V P.1
    · exact ⟨_, pa.1, Int.le_refl _, Int.le_of_lt pl, .inl ⟨rfl, Q_le.2 c1⟩⟩
    · by_cases c2 : V P.2 ≤ V (aX (placeW o d) lw)
      · exact ⟨_, pa.2, Int.le_of_lt pl, Int.le_refl _, .inr (.inl ⟨rfl, Q_le.2 c2⟩)⟩
      · exact ⟨_, Aa, by omega, by omega, .inr (.inr rfl)⟩
   obtain ⟨x, Ax, v1, v2, hz⟩ := pick
   obtain ⟨i1, i2⟩ := G x Ax v1 v2
   have g0 : (0 : Rat) ≤ 25 / 3 * (16 * uR + offM + uR) := by decide +kernel
   have near := pick_poly (u := uR * 3) (by decide +kernel) g0 ra x1 x2 hz
   have near : mag (Q x - (Q (placeW o d) + (L : Rat))) ≤ offZ := Rat.le_trans near (by decide +kernel)
   have fin := Sin_.near1 (sin_word x) sx near
   exact ⟨_, _, i1, i2, Rat.le_trans fin.1 offS_is, Rat.le_trans fin.2 offS_is⟩
end Go.Proofs.YtdfcchocabapkaaGreat
