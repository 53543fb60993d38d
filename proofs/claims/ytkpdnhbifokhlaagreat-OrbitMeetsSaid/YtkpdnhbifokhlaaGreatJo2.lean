/- Proved here: what the texts Ome, Omf prove, one behind the other. -/
import Derived.Test.YtkpdnhbifokhlaaGreatJy9
import Derived.Test.YtkpdnhbifokhlaaGreatJy11
import Derived.Test.YtkpdnhbifokhlaaGreatJo1
import Derived.Test.YtkpdnhbifokhlaaGreatJy3

namespace Go.Proofs.YtkpdnhbifokhlaaGreat
open Go.ChangeShapes Go.WideShapes Go.ChangeAt Go.RowKit Ieee.Own Pol Fma

def two52 : Nat := 4611686018427387904
theorem norm_two : Norm two52 false 4503599627370496 1023 := by
 have f : FinW two52 := by unfold FinW two52; omega
 have N := norm_of f (by unfold two52; omega)
 rw [show decide (9223372036854775808 ≤ two52) = false by decide] at N
 exact N
theorem sv_two (s : Bool) (m p : Nat) : 2 * sv s m p = sv s m (p + 1) := by
 rw [← sv_up, Int.pow_succ, Int.pow_zero, Int.one_mul, Int.mul_comm]
theorem sv_twice (s : Bool) (m p : Nat) : sv s (2 * m) p = sv s m (p + 1) := by
 rw [← sv_scale, Nat.pow_one, Nat.mul_comm]
theorem half_any {a j k : Nat} (W : Wd a (j + 1) k) (hj : 400 ≤ j) (hk0 : 800 ≤ k) (hk : k ≤ 1200) :
   Ieee.double.div a two52 = some (qX a two52) ∧ Wd (qX a two52) j k ∧ 2 * V (qX a two52) = V a := by
 by_cases z : V a = 0
 · obtain ⟨r, q1, q2, q3⟩ := div_zero W.fin z norm_two.fin (by decide +kernel)
   have er : qX a two52 = r := by unfold qX; rw [q1]; rfl
   rw [er]
   exact ⟨q1, ⟨q2, by rw [q3]; exact Int.dvd_zero _, by rw [q3]; exact Nat.zero_le _⟩, by omega⟩
 · have lo := pow_abs_dvd W.dvd z
   obtain ⟨s, m, p, N⟩ := is_norm W.fin lo (by omega)
   obtain ⟨p1, p2⟩ := norm_pl N lo W.abs (by omega) (by omega)
   obtain ⟨r, Q, u, q1, q2, q3, u1, u2, Q1, Q2, i1, i2⟩ := div_spec N norm_two (by omega) (by omega)
   have er : qX a two52 = r := by unfold qX; rw [q1]; rfl
   rw [er]
   have v : 2 * V r = V a := by
     rw [q3, N.val]
     rcases (by omega : u = 52 ∨ u = 53) with rfl | rfl
     · have : Q = m := by omega
       subst this
       rw [show 1074 + p - 1023 - 52 = p - 1 by omega, sv_two, show p - 1 + 1 = p by omega, Bool.xor_false]
     · have : Q = 2 * m := by omega
       subst this
       rw [show 1074 + p - 1023 - 53 = p - 2 by omega, sv_two, sv_twice, show p - 2 + 1 + 1 = p by omega, Bool.xor_false]
   refine ⟨q1, ⟨q2, ?_, ?_⟩, v⟩
   · obtain ⟨c, hc⟩ := W.dvd
     refine ⟨c, ?_⟩
     rw [two_split, Int.mul_assoc] at hc
     omega
   · have := W.abs; omega
def mdW (a b : Nat) : Nat := qX (aX a b) two52
theorem mid_any {a b j k : Nat} (A : Wd a (j + 1) k) (B : Wd b (j + 1) k) (hj : 400 ≤ j) (hk0 : 800 ≤ k) (hk : k < 1200) (le : V a ≤ V b) :
   Ieee.double.add a b = some (aX a b) ∧ Ieee.double.div (aX a b) two52 = some (mdW a b) ∧ Wd (mdW a b) j k ∧ V a ≤ V (mdW a b) ∧ V (mdW a b) ≤ V b ∧ 2 * V (mdW a b) = RN (V a + V b) := by
 obtain ⟨h1, h2, -⟩ := A.add B (by omega)
 obtain ⟨r, g1, g2, g3, g4⟩ := addW A.fin B.fin A.abs B.abs (by omega)
 have er : aX a b = r := by unfold aX; rw [g1]; rfl
 obtain ⟨k1, k2, k3⟩ := half_any h2 hj (by omega) (by omega)
 have e : V (aX a b) = RN (V a + V b) := by rw [er]; exact g3
 rw [e] at k3
 have two : ∀ x : Nat, RN (2 * V x) = 2 * V x := fun x => by
   have := RN_exact (Rep_mul _ 1 (Rep_V x))
   rwa [show V x * 2 ^ 1 = 2 * V x by omega] at this
 have lo := RN_mono (show 2 * V a ≤ V a + V b by omega)
 have hi := RN_mono (show V a + V b ≤ 2 * V b by omega)
 rw [two] at lo hi
 have l : V a ≤ V (mdW a b) := by show V a ≤ V (qX (aX a b) two52); omega
 have u : V (mdW a b) ≤ V b := by show V (qX (aX a b) two52) ≤ V b; omega
 have := A.abs
 have := B.abs
 exact ⟨h1, k1, ⟨k2.fin, k2.dvd, by omega⟩, l, u, k3⟩
theorem Q_two {x y : Nat} (h : 2 * V x = V y) : 2 * Q x = Q y := by
 have a := Q_unit x
 have b := Q_unit y
 rw [← h, Rat.intCast_mul, show ((2 : Int) : Rat) = 2 by decide +kernel, ← a] at b
 have u := unit_pos
 have e : (Q y - 2 * Q x) * unit = 0 := by grind
 rcases Rat.mul_eq_zero.1 e with h | h <;> grind
theorem mid_near {a b j : Nat} (A : Wd a (j + 1) 1074) (B : Wd b (j + 1) 1074) (hj : 400 ≤ j) (le : Q a ≤ Q b) :
   Wd (mdW a b) j 1074 ∧ Q a ≤ Q (mdW a b) ∧ Q (mdW a b) ≤ Q b ∧ Q (mdW a b) - Q a ≤ (Q b - Q a) / 2 + uR ∧ Q b - Q (mdW a b) ≤ (Q b - Q a) / 2 + uR := by
 obtain ⟨-, -, w, l, u, e⟩ := mid_any A B hj (by omega) (by omega) (Q_le.1 le)
 obtain ⟨r, g1, g2, g3, g4⟩ := addW A.fin B.fin A.abs B.abs (by omega)
 have q := add_rel g3
 rw [← g3] at e
 have k := Q_two e
 have one : ∀ x : Nat, (V x).natAbs ≤ 2 ^ 1074 → -1 ≤ Q x ∧ Q x ≤ 1 := fun x h => by
   have h1 : V x ≤ 2 ^ 1074 := by
     have : ((2 ^ 1074 : Nat) : Int) = 2 ^ 1074 := Int.natCast_pow 2 1074
     omega
   have h2 : -(2 ^ 1074) ≤ V x := by
     have : ((2 ^ 1074 : Nat) : Int) = 2 ^ 1074 := Int.natCast_pow 2 1074
     omega
   have v1 : V 4607182418800017408 = 2 ^ 1074 := by decide +kernel
   have v2 : V 13830554455654793216 = -(2 ^ 1074) := by decide +kernel
   have q1 : Q 4607182418800017408 = 1 := by decide +kernel
   have q2 : Q 13830554455654793216 = -1 := by decide +kernel
   exact ⟨by rw [← q2]; exact Q_le.2 (by rw [v2]; exact h2), by rw [← q1]; exact Q_le.2 (by rw [v1]; exact h1)⟩
 have qa := one a A.abs
 have qb := one b B.abs
 have z := q 2 (by grind) (by grind)
 have e53 : (2 : Rat) * mkRat 1 (2 ^ 53) = 2 * uR := rfl
 rw [e53] at z
 refine ⟨w, Q_le.2 l, Q_le.2 u, ?_, ?_⟩
 · generalize uR = u at *; grind
 · generalize uR = u at *; grind
end Go.Proofs.YtkpdnhbifokhlaaGreat

namespace Go.Proofs.YtkpdnhbifokhlaaGreat
open Go.ChangeShapes Go.WideShapes Go.ChangeAt Go.RowKit Ieee.Own Pol Fma

def fnW (x : Nat) : Nat := if fitB x = true then x else 0
def kepW (ecc : Nat) : Nat := qX ecc tauW
noncomputable def snW (e : Nat) : Nat := tS (fnW e)
noncomputable def rsdW (k m e : Nat) : Nat := lX (lX e (mX k (snW e))) m
noncomputable def kepG (k m e : Nat) : Rat := Q e - Q k * SQ e - Q m

theorem zero_ang : Ang 0 := ⟨by unfold FinW; omega, by rw [V_zero]; exact Int.dvd_zero _, by rw [V_zero]; exact Nat.zero_le _⟩
theorem fn_ang {x j : Nat} (W : Wd x j 1075) : Ang (fnW x) := by
 unfold fnW
 by_cases h : fitB x = true
 · rw [if_pos h]
   exact ⟨W.fin, fit_822 W.fin.1 h, Nat.le_trans W.abs (two_le (a := 1075) (b := 1114) (by omega))⟩
 · rw [if_neg h]; exact zero_ang
theorem ang_trig {x : Nat} (A : Ang x) : Trig x (tS x) (tC x) := by
 obtain ⟨r, R⟩ := rst_ex A
 exact trig_ex ⟨_, _, Trig.own A R⟩
theorem sn_wd {x j : Nat} (W : Wd x j 1075) : Wd (snW x) 768 1075 := by
 have A := fn_ang W
 obtain ⟨⟨r, R, e, -⟩, sz, -⟩ := ang_trig A
 have s := (R.rest A).sin_wd
 have c := (R.rest A).cos_wd
 refine ⟨sz.fin, ?_, ?_⟩
 · show _ ∣ V (tS (fnW x))
   rw [e]; unfold vq
   repeat' split
   · exact s.dvd
   · exact c.dvd
   · exact Int.dvd_neg.2 s.dvd
   · exact Int.dvd_neg.2 c.dvd
 · show (V (tS (fnW x))).natAbs ≤ _
   rw [e]; unfold vq
   have := s.abs
   have := c.abs
   repeat' split
   all_goals omega
theorem SQ_says (x : Nat) : ∃ k r, Ply.Says (Q x) k r ∧ SQ x = Ply.sq k (Ply.tau * r) ∧ CQ x = Ply.sq (k + 1) (Ply.tau * r) := ⟨_, _, says_of x, rfl, rfl⟩
theorem SQ_near {x y : Nat} (h : Q x ≤ Q y) : mag (SQ y - SQ x) ≤ Ply.quick * (Q y - Q x) + 2 * Ply.eps := by
 obtain ⟨j, r, a, e, -⟩ := SQ_says x
 obtain ⟨k, t, b, f, -⟩ := SQ_says y
 have u := Ply.sine_lip a b h
 rw [e, f]
 exact mag_of u.1 u.2
theorem fn_off {x j : Nat} (W : Wd x j 1075) : mag (Q (fnW x) - Q x) ≤ sm := by
 unfold fnW
 by_cases h : fitB x = true
 · rw [if_pos h, show Q x - Q x = 0 by grind]; exact sm0
 · rw [if_neg h]
   have s := unfit_small W.fin (Bool.eq_false_iff.2 h) (Nat.le_trans W.abs (two_le (a := 1075) (b := 1110) (by omega)))
   have c1 : V 3706462493325918208 = 2 ^ 874 := by decide +kernel
   have c2 : V 12929834530180694016 = -(2 ^ 874) := by decide +kernel
   have q1 : Q 3706462493325918208 = sm := by decide +kernel
   have q2 : Q 12929834530180694016 = -sm := by decide +kernel
   have e : ((2 ^ 874 : Nat) : Int) = 2 ^ 874 := Int.natCast_pow 2 874
   have h1 : Q x ≤ sm := by rw [← q1]; exact Q_le.2 (by rw [c1]; omega)
   have h2 : -sm ≤ Q x := by rw [← q2]; exact Q_le.2 (by rw [c2]; omega)
   rw [Q0]
   exact mag_of (by grind) (by grind)
theorem small_eps : Ply.quick * sm + 2 * Ply.eps ≤ uR / 100 := by decide +kernel
theorem fn_poly {q e s u d g : Rat} (q0 : 0 ≤ q) (hd : d ≤ s) (hg : g ≤ q * d + 2 * e) (h : q * s + 2 * e ≤ u / 100) : g ≤ u / 100 := by
 have m : 0 ≤ q * (s - d) := Rat.mul_nonneg q0 (by grind)
 grind
theorem mag_swap (a b : Rat) : mag (a - b) = mag (b - a) := by unfold mag; grind
theorem SQ_fn {x j : Nat} (W : Wd x j 1075) : mag (SQ (fnW x) - SQ x) ≤ uR / 100 := by
 have o := fn_off W
 rcases Rat.le_total (a := Q x) (b := Q (fnW x)) with h | h
 · have g := mag_le (Q (fnW x) - Q x)
   exact fn_poly Ply.quick_nn (Rat.le_trans g.2.1 o) (SQ_near h) small_eps
 · rw [mag_swap] at o ⊢
   have g := mag_le (Q x - Q (fnW x))
   exact fn_poly Ply.quick_nn (Rat.le_trans g.2.1 o) (SQ_near h) small_eps
theorem sn_near {x j : Nat} (W : Wd x j 1075) : mag (Q (snW x) - SQ x) ≤ 9 * uR := by
 have A := fn_ang W
 obtain ⟨r, R⟩ := rst_ex A
 have n := (trig_near A (ang_trig A) R).1
 rw [← (SQ_of R).1] at n
 have e : mkRat 1 (2 ^ 50) = 8 * uR := by decide +kernel
 rw [e] at n
 have b := mag_add (mag_of n.1 n.2) (SQ_fn W)
 have k : Q (tS (fnW x)) - SQ (fnW x) + (SQ (fnW x) - SQ x) = Q (snW x) - SQ x := by show _ = Q (tS (fnW x)) - SQ x; grind
 rw [k] at b
 have u0 := uR0
 grind
theorem SQ_one (x : Nat) : -1 ≤ SQ x ∧ SQ x ≤ 1 := by
 obtain ⟨k, r, ⟨-, h1, h2⟩, e, -⟩ := SQ_says x
 have t := Ply.top_mul h1 h2
 rw [e]
 exact Ply.sq_le_one t.1 t.2 k
theorem sn_lo {x j : Nat} (W : Wd x j 1075) : mag (Q (snW x)) ≤ 2 := by
 have n := sn_near W
 have o := SQ_one x
 have b := mag_add n (mag_of o.1 o.2)
 rw [show Q (snW x) - SQ x + SQ x = Q (snW x) by grind] at b
 have := uR1
 grind
theorem rsd_poly {u e k s m p d1 d2 : Rat} (u0 : 0 ≤ u) (u1 : 1000000 * u ≤ 1) (he : mag e ≤ 1) (hk0 : 0 ≤ k) (hk : 4 * k ≤ 1) (hm : mag m ≤ 1) {S : Rat} (hS : mag (s - S) ≤ 9 * u) (hs : mag s ≤ 2)
   (hp : mag (p - k * s) ≤ u * mag (k * s)) (h1 : mag (d1 - (e - p)) ≤ u * mag (e - p)) (h2 : mag (d2 - (d1 - m)) ≤ u * mag (d1 - m)) : mag (d2 - (e - k * S - m)) ≤ 8 * u := by
 have ks : mag (k * s) ≤ 1 / 2 := by
   have := mag_mul (x := k) (y := s) (B := 1 / 4) (M := 2) (by unfold mag; rw [if_pos hk0]; grind) hs
   grind
 have kS : mag (k * (s - S)) ≤ 9 / 4 * u := by
   have := mag_mul (x := k) (y := s - S) (B := 1 / 4) (M := 9 * u) (by unfold mag; rw [if_pos hk0]; grind) hS
   grind
 have p1 : mag (p - k * s) ≤ u / 2 := by
   have := Rat.mul_le_mul_of_nonneg_left ks u0
   grind
 have e1 : k * (s - S) = k * s - k * S := by grind
 rw [e1] at kS
 generalize k * s = X at *
 generalize k * S = Y at *
 clear hS hs e1 hk0 hk
 have pb := mag_add p1 ks
 rw [show p - X + X = p by grind] at pb
 have ep := mag_sub he pb
 have d1e : mag (d1 - (e - p)) ≤ 2 * u := by
   have := Rat.mul_le_mul_of_nonneg_left (show mag (e - p) ≤ 2 by grind) u0
   grind
 have d1b := mag_add d1e ep
 rw [show d1 - (e - p) + (e - p) = d1 by grind] at d1b
 have dm := mag_sub d1b hm
 have d2e : mag (d2 - (d1 - m)) ≤ 3 * u := by
   have := Rat.mul_le_mul_of_nonneg_left (show mag (d1 - m) ≤ 3 by grind) u0
   grind
 have t := mag_add d2e (mag_sub d1e (mag_add p1 kS))
 rw [show d2 - (d1 - m) + (d1 - (e - p) - (p - X + (X - Y))) = d2 - (e - Y - m) by grind] at t
 grind
structure Kp (k m : Nat) : Prop where
 kw : Wd k 800 1073
 k0 : 0 ≤ Q k
 k1 : 4 * Q k ≤ 1
 kq : Q k * Ply.quick ≤ 19 / 20
 mw : Wd m 800 1073
theorem abs_one {x : Nat} (h : (V x).natAbs ≤ 2 ^ 1074) : mag (Q x) ≤ 1 := by
 have h1 : V x ≤ 2 ^ 1074 := by
   have : ((2 ^ 1074 : Nat) : Int) = 2 ^ 1074 := Int.natCast_pow 2 1074
   omega
 have h2 : -(2 ^ 1074) ≤ V x := by
   have : ((2 ^ 1074 : Nat) : Int) = 2 ^ 1074 := Int.natCast_pow 2 1074
   omega
 have v1 : V 4607182418800017408 = 2 ^ 1074 := by decide +kernel
 have v2 : V 13830554455654793216 = -(2 ^ 1074) := by decide +kernel
 have q1 : Q 4607182418800017408 = 1 := by decide +kernel
 have q2 : Q 13830554455654793216 = -1 := by decide +kernel
 exact mag_of (by rw [← q2]; exact Q_le.2 (by rw [v2]; exact h2)) (by rw [← q1]; exact Q_le.2 (by rw [v1]; exact h1))
theorem rsd_near {k m e j : Nat} (K : Kp k m) (W : Wd e j 1074) :
   Ieee.double.mul k (snW e) = some (mX k (snW e)) ∧ Ieee.double.sub e (mX k (snW e)) = some (lX e (mX k (snW e))) ∧ Ieee.double.sub (lX e (mX k (snW e))) m = some (rsdW k m e) ∧ FinW (rsdW k m e) ∧ mag (Q (rsdW k m e) - kepG k m e) ≤ 8 * uR := by
 have W5 := W.le (q := j) (l := 1075) (Nat.le_refl _) (by omega)
 have S := sn_wd W5
 obtain ⟨a1, a2, a3⟩ := K.kw.mul S (by omega) (by omega) (by omega)
 obtain ⟨b1, b2, b3, b4⟩ := sub_ok (i := 1075) (k := 1076) W.fin a2.fin (Nat.le_trans W.abs (two_le (a := 1074) (b := 1075) (by omega))) (a2.le (q := 400) (l := 1075) (by omega) (by omega)).abs rfl (by omega)
 obtain ⟨c1, c2, c3, -⟩ := sub_ok (i := 1076) (k := 1077) b2 K.mw.fin b4 (Nat.le_trans K.mw.abs (two_le (a := 1073) (b := 1076) (by omega))) rfl (by omega)
 refine ⟨a1, b1, c1, c2, ?_⟩
 have r1 := rd_of a3 _ Rat.le_refl
 have r2 := rd_of (sub_rel b3) _ Rat.le_refl
 have r3 := rd_of (sub_rel c3) _ Rat.le_refl
 rw [Rat.add_zero] at r1 r2 r3
 exact rsd_poly uR0 uR1 (abs_one W.abs) K.k0 K.k1 (abs_one (Nat.le_trans K.mw.abs (two_le (a := 1073) (b := 1074) (by omega)))) (sn_near W5) (sn_lo W5) r1 r2 r3
theorem kepG_move {k m x y : Nat} (K : Kp k m) (h : Q x ≤ Q y) : kepG k m y - kepG k m x ≤ 2 * (Q y - Q x) + uR / 100 ∧ (Q y - Q x) / 20 ≤ kepG k m y - kepG k m x + Q k * (2 * Ply.eps) := by
 obtain ⟨j, r, a, e, -⟩ := SQ_says x
 obtain ⟨l, t, b, f, -⟩ := SQ_says y
 have u := Ply.kep_lip a b h K.k0 K.kq
 have v := Ply.kep_rise a b h K.k0 K.kq
 rw [← e, ← f] at u v
 have g : Q k * (2 * Ply.eps) ≤ uR / 100 := by
   have g0 : 2 * Ply.eps ≤ uR / 100 := by decide +kernel
   have e0 : 0 ≤ 2 * Ply.eps := by decide +kernel
   have k1 := K.k1
   have k0 := K.k0
   generalize 2 * Ply.eps = E at *
   have := Rat.mul_nonneg (show 0 ≤ 1 - Q k by grind) e0
   grind
 unfold kepG
 generalize Q k * (2 * Ply.eps) = E at *
 generalize Q k * SQ x = X at *
 generalize Q k * SQ y = Y at *
 constructor <;> grind
noncomputable def tst (k m : Nat) (e : Nat) : Bool := decide (0 < V (rsdW k m e))
theorem Q_nn {x : Nat} : 0 ≤ Q x ↔ 0 ≤ V x := by rw [← Q0, Q_le, V_zero]
noncomputable def bisR (k m n : Nat) : Nat × Nat := Ply.bis mdW (tst k m) n (lX m k) (aX m k)
noncomputable def plcW (k m : Nat) : Nat := mdW (bisR k m 64).1 (bisR k m 64).2
theorem ends_poly {u κ S lo M : Rat} (k0 : 0 ≤ κ) (s1 : -1 ≤ S) (s2 : S ≤ 1) (u0 : 0 ≤ u) (h : mag (lo - (M - κ)) ≤ u) (hi : Rat) (g : mag (hi - (M + κ)) ≤ u) : lo - κ * S - M ≤ 8 * u ∧ -(8 * u) ≤ hi - κ * S - M := by
 have a := mag_le (lo - (M - κ))
 have b := mag_le (hi - (M + κ))
 have c := Rat.mul_nonneg k0 (show 0 ≤ 1 + S by grind)
 have d := Rat.mul_nonneg k0 (show 0 ≤ 1 - S by grind)
 constructor <;> grind
theorem wide_poly {u w w0 P : Rat} (h : (w - 2 * u) * P ≤ w0 - 2 * u) (u0 : 0 ≤ u) (w1 : w0 ≤ 1) (hP : 2 ≤ u * P) (P0 : 0 ≤ P) : w ≤ 3 * u := by
 rcases Rat.le_total (a := w) (b := 3 * u) with q | q
 · exact q
 · have m := Rat.mul_nonneg (show 0 ≤ w - 3 * u by grind) P0
   have e : (w - 2 * u) * P = (w - 3 * u) * P + u * P := by grind
   rw [e] at h
   generalize (w - 3 * u) * P = A at *
   generalize u * P = B at *
   exfalso
   grind
theorem kepler_end {k m : Nat} (K : Kp k m) (hm : mag (Q m) ≤ 1 / 2) : Wd (plcW k m) 400 1074 ∧ mag (kepG k m (plcW k m)) ≤ 14 * uR := by
 have u0 := uR0
 have u1 := uR1
 have k0 := K.k0
 have k1 := K.k1
 have mw := K.mw
 have kw := K.kw
 have ad := Wd.add mw kw (by omega)
 obtain ⟨s1, s2, s3, s4⟩ := sub_ok (i := 1073) (k := 1074) mw.fin kw.fin mw.abs kw.abs rfl (by omega)
 have Wl : Wd (lX m k) 800 1074 := ⟨s2, by rw [s3]; exact RN_dvd (Int.dvd_sub mw.dvd kw.dvd), s4⟩
 have Wh : Wd (aX m k) 800 1074 := ad.2.1
 have r1 := rd_of (sub_rel s3) 1 (by
   have := mag_sub hm (show mag (Q k) ≤ 1 / 4 by unfold mag; rw [if_pos k0]; grind)
   grind)
 have r2 := rd_of ad.2.2 1 (by
   have := mag_add hm (show mag (Q k) ≤ 1 / 4 by unfold mag; rw [if_pos k0]; grind)
   grind)
 rw [Rat.add_zero, Rat.mul_one] at r1 r2
 have le : Q (lX m k) ≤ Q (aX m k) := by
   have a := mag_le (Q (lX m k) - (Q m - Q k))
   obtain ⟨r, g1, g2, g3, g4⟩ := addW mw.fin kw.fin mw.abs kw.abs (by omega)
   have er : aX m k = r := by unfold aX; rw [g1]; rfl
   rw [er, Q_le, g3, s3]
   have := Q_nn.1 k0
   exact RN_mono (by omega)
 have w0 : Q (aX m k) - Q (lX m k) ≤ 1 := by
   have a := mag_le (Q (lX m k) - (Q m - Q k))
   have b := mag_le (Q (aX m k) - (Q m + Q k))
   grind
 have el := (ends_poly k0 (SQ_one (lX m k)).1 (SQ_one (lX m k)).2 u0 r1 _ r2).1
 have eh := (ends_poly k0 (SQ_one (aX m k)).1 (SQ_one (aX m k)).2 u0 r1 _ r2).2
 have B := Ply.bis_all (W := fun n x => Wd x (400 + n) 1074) (q := Q) (G := kepG k m) (md := mdW) (T := tst k m) (u := uR) (ε := 8 * uR) 1
   (fun n x h => h.le (by omega) (Nat.le_refl _))
   (fun n a b ha hb h => mid_near (j := 400 + n) ha hb (by omega) h)
   (fun n e he => by
     obtain ⟨-, -, -, f, d⟩ := rsd_near K he
     have d := mag_le (Q (rsdW k m e) - kepG k m e)
     unfold tst
     constructor
     · intro t
       have t := of_decide_eq_true t
       have := Q_nn.2 (Int.le_of_lt t)
       grind
     · intro t
       have t := of_decide_eq_false t
       have : Q (rsdW k m e) ≤ 0 := by rw [← Q0, Q_le, V_zero]; omega
       grind)
   64 (lX m k) (aX m k) (Wl.le (by omega) (Nat.le_refl _)) (Wh.le (by omega) (Nat.le_refl _)) le el eh
 obtain ⟨b1, b2, b3, b4, b5, b6⟩ := B
 have w := wide_poly b4 u0 w0 (by decide +kernel) (by decide +kernel)
 obtain ⟨m1, m2, m3, m4, m5⟩ := mid_near (j := 400) b1 b2 (by omega) b3
 refine ⟨m1, ?_⟩
 have g1 := (kepG_move K m2).1
 have g2 := (kepG_move K m3).1
 show mag (kepG k m (mdW _ _)) ≤ _
 unfold bisR
 exact mag_of (by grind) (by grind)
theorem fac_pos {u e P : Rat} (u0 : 0 ≤ u) (u1 : 1000000 * u ≤ 1) (e0 : 0 ≤ e) (h : mag (P - e) ≤ u * mag P) : 0 ≤ P := by
 have a := mag_le (P - e)
 rcases Rat.le_total (a := 0) (b := P) with q | q
 · exact q
 · have m : mag P ≤ -P := mag_of (by grind) (by grind)
   have m2 := Rat.mul_le_mul_of_nonneg_left m u0
   have m3 : 0 ≤ (1 / 2 - u) * -P := Rat.mul_nonneg (by grind) (by grind)
   have e1 : (1 / 2 - u) * -P = u * P - P / 2 := by grind
   have e2 : u * -P = -(u * P) := by grind
   rw [e1] at m3
   rw [e2] at m2
   generalize u * P = X at *
   generalize u * mag P = Y at *
   grind
theorem fac_poly {u e K τ P : Rat} (u0 : 0 ≤ u) (u1 : 1000000 * u ≤ 1) (e0 : 0 ≤ e) (e1 : e ≤ 7 / 8) (t6 : 6 ≤ τ) (t7 : τ ≤ 7) (hP : P = K * τ) (h : mag (P - e) ≤ u * mag P) : 0 ≤ K ∧ 4 * K ≤ 1 ∧ P ≤ 8751 / 10000 ∧ (K = 0 ∨ e / 8 ≤ K) := by
 have a := mag_le (P - e)
 have P0 := fac_pos u0 u1 e0 h
 have m : mag P ≤ P := mag_of (by grind) (by grind)
 have m2 := Rat.mul_le_mul_of_nonneg_left m u0
 have m3 : 0 ≤ (1 / 1000000 - u) * P := Rat.mul_nonneg (by grind) P0
 have e2 : (1 / 1000000 - u) * P = P / 1000000 - u * P := by grind
 rw [e2] at m3
 generalize u * mag P = Y at *
 generalize u * P = X at *
 have hi : P ≤ 8751 / 10000 := by grind
 have lo : 999 / 1000 * e ≤ P := by grind
 have K0 : 0 ≤ K := by
   rcases Rat.le_total (a := 0) (b := K) with q | q
   · exact q
   · have d := Rat.mul_nonneg (show 0 ≤ -K by grind) (show 0 ≤ τ - 6 by grind)
     have d2 : -K * (τ - 6) = 6 * K - K * τ := by grind
     rw [d2, ← hP] at d
     grind
 have d := Rat.mul_nonneg K0 (show 0 ≤ τ - 6 by grind)
 have d1 : K * (τ - 6) = K * τ - 6 * K := by grind
 rw [d1, ← hP] at d
 have f := Rat.mul_nonneg K0 (show 0 ≤ 7 - τ by grind)
 have f1 : K * (7 - τ) = 7 * K - K * τ := by grind
 rw [f1, ← hP] at f
 exact ⟨K0, by grind, hi, .inr (by grind)⟩
theorem norm_tau : Norm tauW false 7074237752028440 1024 := by
 have f : FinW tauW := by unfold FinW tauW; omega
 have N := norm_of f (by unfold tauW; omega)
 rw [show decide (9223372036854775808 ≤ tauW) = false by decide] at N
 exact N
theorem kp_of {e m : Nat} (he : e < 18446744073709551616) (fe : fitB e = true) (e0 : 0 ≤ Q e) (e1 : Q e ≤ 7 / 8) (mw : Wd m 800 1073) :
   Ieee.double.div e tauW = some (kepW e) ∧ Kp (kepW e) m := by
 obtain ⟨a1, a2, a3⟩ := div_any he fe norm_tau (by omega) (by omega)
 have r := quo_rat a3
 have t6 : 6 ≤ Q tauW ∧ Q tauW ≤ 7 := by decide +kernel
 have tq : Ply.quick ≤ 108001 / 100000 * Q tauW := by decide +kernel
 obtain ⟨k0, k1, k2, k3⟩ := fac_poly uR0 uR1 e0 e1 t6.1 t6.2 rfl r
 refine ⟨a1, ⟨a2, ?_, ?_⟩, k0, k1, ?_, mw⟩
 · by_cases z : V e = 0
   · have : V (qX e tauW) = 0 := by
       obtain ⟨r', q1, q2, q3⟩ := div_zero (fit_fin he fe) z norm_tau.fin (by decide +kernel)
       have er : qX e tauW = r' := by unfold qX; rw [q1]; rfl
       rw [er]; exact q3
     show _ ∣ V (qX e tauW)
     rw [this]; exact Int.dvd_zero _
   · have big := fit_big (fit_fin he fe) fe
     have big : 2 ^ 874 ≤ (V e).natAbs := by rcases big with h | h; exact absurd h z; exact h
     have c1 : V 3706462493325918208 = 2 ^ 874 := by decide +kernel
     have q1 : Q 3706462493325918208 = sm := by decide +kernel
     have en : 0 ≤ V e := Q_nn.1 e0
     have ce : ((2 ^ 874 : Nat) : Int) = 2 ^ 874 := Int.natCast_pow 2 874
     have es : sm ≤ Q e := by rw [← q1]; exact Q_le.2 (by rw [c1]; omega)
     refine Q_dvd_big (x := sm / 8) (.inl ?_) (by decide +kernel)
     show _ ≤ Q (qX e tauW)
     rcases k3 with h | h
     · exfalso
       have h : Q (qX e tauW) = 0 := h
       rw [h, Rat.zero_mul] at r
       have a := mag_le (0 - Q e)
       have : mag (0 : Rat) = 0 := by decide +kernel
       rw [this, Rat.mul_zero] at r
       have s0 : 0 < sm := by decide +kernel
       grind
     · have h : Q e / 8 ≤ Q (qX e tauW) := h
       grind
 · show (V (qX e tauW)).natAbs ≤ _
   have k0 : 0 ≤ Q (qX e tauW) := k0
   have k1 : 4 * Q (qX e tauW) ≤ 1 := k1
   have v0 := Q_nn.1 k0
   have c1 : V 4602678819172646912 = 2 ^ 1073 := by decide +kernel
   have q1 : Q 4602678819172646912 = 1 / 2 := by decide +kernel
   have : V (qX e tauW) ≤ 2 ^ 1073 := by rw [← c1]; exact Q_le.1 (by rw [q1]; grind)
   have ce : ((2 ^ 1073 : Nat) : Int) = 2 ^ 1073 := Int.natCast_pow 2 1073
   omega
 · have m := Rat.mul_le_mul_of_nonneg_left tq k0
   generalize Ply.quick = q at *
   have e : Q (qX e tauW) * (108001 / 100000 * Q tauW) = 108001 / 100000 * (Q (qX e tauW) * Q tauW) := by grind
   rw [e] at m
   show Q (qX _ tauW) * q ≤ _
   grind
theorem kepler_ans {k m y : Nat} (K : Kp k m) (hm : mag (Q m) ≤ 1 / 2) (hy : FinW y) (vy : V y = V (fnW (plcW k m))) :
   Wd y 400 1074 ∧ mag (kepG k m y) ≤ 15 * uR ∧ mag (Q (rsdW k m y)) ≤ 23 * uR := by
 obtain ⟨w, g⟩ := kepler_end K hm
 have w5 : Wd (plcW k m) 400 1075 := w.le (Nat.le_refl _) (by omega)
 have A := fn_ang w5
 have o := fn_off w5
 have Wy : Wd y 400 1074 := by
   refine ⟨hy, ?_, ?_⟩
   · rw [vy]; exact Int.dvd_trans ⟨2 ^ 422, by rw [← Int.pow_add]⟩ A.dvd
   · rw [vy]
     unfold fnW
     split
     · exact w.abs
     · rw [V_zero]; exact Nat.zero_le _
 have qy : Q y = Q (fnW (plcW k m)) := by unfold Q; rw [vy]
 have u0 := uR0
 have s1 : 4 * sm ≤ uR / 2 := by decide +kernel
 have G : mag (kepG k m y) ≤ 15 * uR := by
   rw [← qy] at o
   have p := mag_le (kepG k m (plcW k m))
   have q := mag_le (Q y - Q (plcW k m))
   rcases Rat.le_total (a := Q (plcW k m)) (b := Q y) with h | h
   · have v := (kepG_move K h).1
     have v2 := (kepG_move K h).2
     have g0 : Q k * (2 * Ply.eps) ≤ uR / 100 := by
       have g0 : 2 * Ply.eps ≤ uR / 100 := by decide +kernel
       have e0 : 0 ≤ 2 * Ply.eps := by decide +kernel
       have k1 := K.k1
       have k0 := K.k0
       generalize 2 * Ply.eps = E at *
       have := Rat.mul_nonneg (show 0 ≤ 1 - Q k by grind) e0
       grind
     generalize Q k * (2 * Ply.eps) = E at *
     exact mag_of (by grind) (by grind)
   · have v := (kepG_move K h).1
     have v2 := (kepG_move K h).2
     have g0 : Q k * (2 * Ply.eps) ≤ uR / 100 := by
       have g0 : 2 * Ply.eps ≤ uR / 100 := by decide +kernel
       have e0 : 0 ≤ 2 * Ply.eps := by decide +kernel
       have k1 := K.k1
       have k0 := K.k0
       generalize 2 * Ply.eps = E at *
       have := Rat.mul_nonneg (show 0 ≤ 1 - Q k by grind) e0
       grind
     generalize Q k * (2 * Ply.eps) = E at *
     exact mag_of (by grind) (by grind)
 refine ⟨Wy, G, ?_⟩
 obtain ⟨-, -, -, -, d⟩ := rsd_near K Wy
 have b := mag_add d G
 rw [show Q (rsdW k m y) - kepG k m y + kepG k m y = Q (rsdW k m y) by grind] at b
 grind
end Go.Proofs.YtkpdnhbifokhlaaGreat
