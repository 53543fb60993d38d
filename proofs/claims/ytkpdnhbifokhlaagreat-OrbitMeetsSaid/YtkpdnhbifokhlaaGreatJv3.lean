/- Proved here: what the texts Vnm, Vlw prove, one behind the other. -/
import Derived.Test.YtkpdnhbifokhlaaGreatJp
import Derived.Test.YtkpdnhbifokhlaaGreatJb5
import Derived.Test.YtkpdnhbifokhlaaGreatJv2

namespace Go.Proofs.YtkpdnhbifokhlaaGreat
open Ieee.Own

def rX (a : Nat) : Nat := (Ieee.double.sqrt a).getD 0
def qX (a b : Nat) : Nat := (Ieee.double.div a b).getD 0

theorem scale_nat {x y Q E : Int} {K : Nat} (hx : x = Q * 2 ^ K) (hy : y = E * 2 ^ K) {c : Nat} (h : c * (Q - E).natAbs ≤ Q.natAbs) : c * (x - y).natAbs ≤ x.natAbs := by
 rw [hx, hy, ← Int.sub_mul, Int.natAbs_mul, Int.natAbs_mul, ← Nat.mul_assoc]
 exact Nat.mul_le_mul_right _ h
theorem pow_merge (m : Int) {p k j u : Nat} (e : p + k = u + j) : m * 2 ^ p * 2 ^ k = m * 2 ^ u * 2 ^ j := by
 rw [Int.mul_assoc, ← Int.pow_add, e, Int.pow_add, ← Int.mul_assoc]
theorem prod_merge (a b : Int) {p q k : Nat} (e : p + q = k) : a * 2 ^ p * (b * 2 ^ q) = a * b * 2 ^ k := by
 subst e
 rw [Int.pow_add]
 generalize (2 : Int) ^ p = x
 generalize (2 : Int) ^ q = y
 ac_rfl
theorem sv_pos (Q K : Nat) : sv false Q K = (Q : Int) * 2 ^ K := by
 unfold sv; simp

structure Nrm (D r : Nat) : Prop where
 run : Ieee.double.sqrt D = some r
 fin : FinW r
 zero : V D = 0 → V r = 0
 pos : V D ≠ 0 → 0 < V r ∧ 2 ^ 52 * (V r * V r - V D * 2 ^ 1074).natAbs ≤ (V r * V r).natAbs ∧ ∃ m q, Norm r false m q ∧ 760 ≤ q ∧ q ≤ 1100
theorem norm_pl {b : Nat} {s : Bool} {m p i j : Nat} (h : Norm b s m p) (h1 : 2 ^ i ≤ (V b).natAbs) (h2 : (V b).natAbs ≤ 2 ^ j) (hi : 53 ≤ i) (hj : 52 ≤ j) : i - 53 ≤ p ∧ p ≤ j - 52 := by
 rw [h.val, sv_abs] at h1 h2
 constructor
 · refine Nat.le_of_not_lt fun hlt => ?_
   have a : m * 2 ^ p < 2 ^ 53 * 2 ^ p := Nat.mul_lt_mul_of_pos_right h.hi (Nat.two_pow_pos _)
   rw [← Nat.pow_add] at a
   have b := two_le (a := 53 + p) (b := i) (by omega)
   omega
 · refine Nat.le_of_not_lt fun hlt => ?_
   have a : 2 ^ 52 * 2 ^ p ≤ m * 2 ^ p := Nat.mul_le_mul_right _ h.lo
   rw [← Nat.pow_add] at a
   have b := two_lt (a := j) (b := 52 + p) (by omega)
   omega
theorem is_norm {b i : Nat} (f : FinW b) (h : 2 ^ i ≤ (V b).natAbs) (hi : 52 ≤ i) : ∃ s m p, Norm b s m p := by
 refine ⟨_, _, _, norm_of f ?_⟩
 refine Nat.le_of_not_lt fun hlt => ?_
 rw [V_abs' b f] at h
 have e : val 52 (b % 9223372036854775808) < 2 ^ 52 := by
   have c := val_lt (F := 52) (show b % 9223372036854775808 < 4503599627370496 by omega)
   have : val 52 4503599627370496 = 2 ^ 52 := by decide +kernel
   omega
 have b := two_le (a := 52) (b := i) hi
 omega
theorem nrm_any {D : Nat} (W : Wd D 570 1196) (h0 : 0 ≤ V D) : Nrm D (rX D) := by
 by_cases z : V D = 0
 · obtain ⟨r, q1, q2, q3⟩ := sqrt_zero W.fin z
   have er : rX D = r := by unfold rX; rw [q1]; rfl
   rw [er]
   exact ⟨q1, q2, fun _ => q3, fun h => absurd z h⟩
 · have lo := pow_abs_dvd W.dvd z
   obtain ⟨s, m, p, N⟩ := is_norm W.fin lo (by omega)
   obtain ⟨p1, p2⟩ := norm_pl N lo W.abs (by omega) (by omega)
   have es : s = false := by
     cases s
     · rfl
     · have v := N.val
       have g := (sv_sign true m p).1 rfl
       omega
   subst es
   obtain ⟨r, Q, q1, q2, q3, Q1, Q2, i1, i2⟩ := sqrt_spec N (by omega)
   have er : rX D = r := by unfold rX; rw [q1]; rfl
   rw [er]
   rw [sv_pos] at q3
   have vd := N.val
   rw [sv_pos] at vd
   have Q0 : 0 < Q := by omega
   have vp : 0 < V r := by
     rw [q3]
     exact Int.mul_pos (by omega) (Int.pow_pos (by decide))
   have va : (V r).natAbs = Q * 2 ^ (511 + p / 2) := by
     rw [q3, Int.natAbs_mul, Int.natAbs_pow]; rfl
   refine ⟨q1, q2, fun h => absurd h z, fun _ => ⟨vp, ?_, ?_⟩⟩
   · have x1 : V r * V r = ((Q * Q : Nat) : Int) * 2 ^ (511 + p / 2 + (511 + p / 2)) := by
       rw [q3, prod_merge _ _ rfl, Int.natCast_mul]
     have x2 : V D * 2 ^ 1074 = ((m * 2 ^ (52 + p % 2) : Nat) : Int) * 2 ^ (511 + p / 2 + (511 + p / 2)) := by
       rw [vd, Int.natCast_mul, Int.natCast_pow]
       exact pow_merge _ (by omega)
     refine scale_nat x1 x2 ?_
     generalize m * 2 ^ (52 + p % 2) = M at *
     have key : (((Q * Q : Nat) : Int) - ((M : Nat) : Int)).natAbs ≤ Q := by omega
     rw [Int.natAbs_natCast]
     exact Nat.le_trans (Nat.mul_le_mul_left _ key) (Nat.mul_le_mul_right _ Q1)
   · have l1 : 2 ^ (52 + (511 + p / 2)) ≤ (V r).natAbs := by
       rw [va, Nat.pow_add 2 52]; exact Nat.mul_le_mul_right _ Q1
     have l2 : (V r).natAbs ≤ 2 ^ (53 + (511 + p / 2)) := by
       rw [va, Nat.pow_add 2 53]; exact Nat.mul_le_mul_right _ Q2
     obtain ⟨t, m', q, N'⟩ := is_norm q2 l1 (by omega)
     obtain ⟨c1, c2⟩ := norm_pl N' l1 l2 (by omega) (by omega)
     have et : t = false := by
       cases t
       · rfl
       · have v := N'.val
         have g := (sv_sign true m' q).1 rfl
         omega
     subst et
     exact ⟨m', q, N', by omega, by omega⟩
theorem div_any {a n m q : Nat} (ha : a < 18446744073709551616) (fa : fitB a = true) (N : Norm n false m q) (h1 : 760 ≤ q) (h2 : q ≤ 1100) :
   Ieee.double.div a n = some (qX a n) ∧ FinW (qX a n) ∧ 2 ^ 53 * (V (qX a n) * V n - V a * 2 ^ 1074).natAbs ≤ (V (qX a n) * V n).natAbs := by
 have vn := N.val
 rw [sv_pos] at vn
 rcases fit_norm ha fa with z | ⟨s, m', p, N', p1, p2⟩
 · have nz : V n ≠ 0 := by
     rw [vn]
     have := N.lo
     exact Int.ne_of_gt (Int.mul_pos (by omega) (Int.pow_pos (by decide)))
   obtain ⟨r, q1, q2, q3⟩ := div_zero (fit_fin ha fa) z N.fin nz
   have er : qX a n = r := by unfold qX; rw [q1]; rfl
   rw [er]
   refine ⟨q1, q2, ?_⟩
   rw [q3, z, Int.zero_mul, Int.zero_mul]
   decide
 · obtain ⟨r, Q, u, q1, q2, q3, u1, u2, Q1, Q2, i1, i2⟩ := div_spec N' N (by omega) (by omega)
   have er : qX a n = r := by unfold qX; rw [q1]; rfl
   rw [er]
   refine ⟨q1, q2, ?_⟩
   have key : 2 ^ 53 * (((Q * m : Nat) : Int) - ((m' * 2 ^ u : Nat) : Int)).natAbs ≤ Q * m := by
     have k1 : 2 * (((Q * m : Nat) : Int) - ((m' * 2 ^ u : Nat) : Int)).natAbs ≤ m := by
       generalize Q * m = X at *
       generalize m' * 2 ^ u = Y at *
       omega
     have k2 : 2 ^ 52 * m ≤ Q * m := Nat.mul_le_mul_right _ Q1
     generalize Q * m = X at *
     generalize m' * 2 ^ u = Y at *
     omega
   have x0 : (s ^^ false) = s := by cases s <;> rfl
   rw [x0] at q3
   have e1 : 1074 + p - q - u + q = 1074 + p - u := by omega
   have va := N'.val
   have sg : ∀ (s : Bool) (A B : Nat), sv s A B = (if s then -1 else 1) * ((A : Int) * 2 ^ B) := fun s A B => by
     unfold sv; cases s <;> simp
   rw [sg] at q3 va
   have x1 : V r * V n = (if s then -1 else 1) * ((Q * m : Nat) : Int) * 2 ^ (1074 + p - u) := by
     rw [q3, vn, Int.mul_assoc, prod_merge _ _ e1, Int.natCast_mul]
     generalize (2 : Int) ^ (1074 + p - u) = z
     ac_rfl
   have x2 : V a * 2 ^ 1074 = (if s then -1 else 1) * ((m' * 2 ^ u : Nat) : Int) * 2 ^ (1074 + p - u) := by
     rw [va, Int.natCast_mul, Int.natCast_pow, Int.mul_assoc, pow_merge (m' : Int) (p := p) (k := 1074) (j := 1074 + p - u) (u := u) (by omega)]
     rw [show ((2 : Nat) : Int) = 2 from rfl]
     generalize (2 : Int) ^ (1074 + p - u) = z
     ac_rfl
   refine scale_nat x1 x2 ?_
   rw [← Int.mul_sub, Int.natAbs_mul, Int.natAbs_mul]
   have o : (if s = true then (-1 : Int) else 1).natAbs = 1 := by cases s <;> rfl
   rw [o, Nat.one_mul, Nat.one_mul, Int.natAbs_natCast]
   exact key

end Go.Proofs.YtkpdnhbifokhlaaGreat

namespace Go.Proofs.YtkpdnhbifokhlaaGreat
open Go.ChangeShapes Go.WideShapes Go.ChangeAt Go.RowKit Ieee.Own

theorem wdB {x : Nat} (hx : x < 18446744073709551616) (h : vnB x = true) : Wd x 822 1134 := by
 obtain ⟨f, g, b⟩ := vnB_spec hx h
 exact ⟨f, fit_822 hx g, b⟩
structure D3 (p : V3) : Prop where
 w1 : Wd p.1 822 1134
 w2 : Wd p.2.1 822 1134
 w3 : Wd p.2.2 822 1134
theorem fitV_wd {p : V3} (h : W3 p) (f : fitV p = true) : D3 p := by
 unfold fitV at f
 simp only [Bool.and_eq_true] at f
 exact ⟨wdB h.l1 f.1.1, wdB h.l2 f.1.2, wdB h.l3 f.2⟩
theorem D3.bd {p : V3} (h : D3 p) : Bd p 1134 := ⟨h.w1.fin, h.w2.fin, h.w3.fin, h.w1.abs, h.w2.abs, h.w3.abs⟩
def both3 (a b : V3) : Bool := fitV a && fitV b
def addR (a b : V3) : V3 × Int := if both3 a b = true then toldR (aX a.1 b.1, aX a.2.1 b.2.1, aX a.2.2 b.2.2) else (z3, 3)
def subR (a b : V3) : V3 × Int := if both3 a b = true then toldR (lX a.1 b.1, lX a.2.1 b.2.1, lX a.2.2 b.2.2) else (z3, 3)
end Go.Proofs.YtkpdnhbifokhlaaGreat
