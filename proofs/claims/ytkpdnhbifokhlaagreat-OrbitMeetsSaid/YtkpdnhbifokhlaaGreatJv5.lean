/- Proved here: what the texts Vun prove, one behind the other. -/
import Derived.Test.YtkpdnhbifokhlaaGreatJv3
import Derived.Test.YtkpdnhbifokhlaaGreatJp

namespace Go.Proofs.YtkpdnhbifokhlaaGreat
open Ieee.Own Pol

def kk : Rat := 1 / unit / unit
theorem kk0 : 0 ≤ kk := by decide +kernel
theorem kk_of (x : Rat) : x / unit / unit = x * kk := by
 unfold kk
 simp only [Rat.div_def]
 grind
theorem rel_rat {x y : Int} {c : Nat} (h : c * (x - y).natAbs ≤ x.natAbs) : ((c : Int) : Rat) * mag ((x : Rat) * kk - (y : Rat) * kk) ≤ mag ((x : Rat) * kk) := by
 have k0 := kk0
 have key : ∀ {a b : Int} , (c : Int) * a ≤ b → ((c : Int) : Rat) * ((a : Rat) * kk) ≤ (b : Rat) * kk := fun {a b} h => by
   have h1 : (((c : Int) * a : Int) : Rat) ≤ (b : Rat) := Rat.intCast_le_intCast.2 h
   rw [Rat.intCast_mul] at h1
   have h2 := Rat.mul_le_mul_of_nonneg_right h1 k0
   have e : ((c : Int) : Rat) * (a : Rat) * kk = ((c : Int) : Rat) * ((a : Rat) * kk) := Rat.mul_assoc _ _ _
   rwa [e] at h2
 have i1 : (c : Int) * (x - y) ≤ (x.natAbs : Int) := by
   have a : ((c * (x - y).natAbs : Nat) : Int) ≤ (x.natAbs : Int) := by exact_mod_cast h
   rw [Int.natCast_mul] at a
   have b : (c : Int) * (x - y) ≤ (c : Int) * ((x - y).natAbs : Int) := Int.mul_le_mul_of_nonneg_left (by omega) (by omega)
   omega
 have i2 : (c : Int) * (y - x) ≤ (x.natAbs : Int) := by
   have a : ((c * (x - y).natAbs : Nat) : Int) ≤ (x.natAbs : Int) := by exact_mod_cast h
   rw [Int.natCast_mul] at a
   have b : (c : Int) * (y - x) ≤ (c : Int) * ((x - y).natAbs : Int) := Int.mul_le_mul_of_nonneg_left (by omega) (by omega)
   omega
 have j1 := key i1
 have j2 := key i2
 have s1 : ((x - y : Int) : Rat) = (x : Rat) - (y : Rat) := Rat.intCast_sub _ _
 have s2 : ((y - x : Int) : Rat) = (y : Rat) - (x : Rat) := Rat.intCast_sub _ _
 rw [s1] at j1
 rw [s2] at j2
 have n1 : ((x.natAbs : Int) : Rat) * kk ≤ mag ((x : Rat) * kk) := by
   have m := mag_le ((x : Rat) * kk)
   rcases Int.le_total 0 x with q | q
   · rw [show ((x.natAbs : Int)) = x by omega]; exact m.2.1
   · rw [show ((x.natAbs : Int)) = -x by omega, Rat.intCast_neg]
     have : -(x : Rat) * kk = -((x : Rat) * kk) := by grind
     rw [this]; grind
 have c0 : (0 : Rat) ≤ ((c : Int) : Rat) := Rat.intCast_nonneg.2 (by omega)
 generalize mag ((x : Rat) * kk) = M at *
 generalize ((c : Int) : Rat) = C at *
 have e1 : ((x : Rat) - (y : Rat)) * kk = (x : Rat) * kk - (y : Rat) * kk := by grind
 have e2 : ((y : Rat) - (x : Rat)) * kk = -((x : Rat) * kk - (y : Rat) * kk) := by grind
 rw [e1] at j1
 rw [e2] at j2
 generalize (x : Rat) * kk - (y : Rat) * kk = d at *
 unfold mag
 split
 · grind
 · grind
theorem one_unit (a : Nat) : Q a = ((V a * 2 ^ 1074 : Int) : Rat) * kk := by
 rw [Rat.intCast_mul, unit_cast, ← kk_of]
 have : (V a : Rat) * unit / unit = V a := unit_div
 rw [this]; rfl
theorem c53 : (((2 ^ 53 : Nat) : Int) : Rat) * uR = 1 := by decide +kernel
theorem c52 : (((2 ^ 52 : Nat) : Int) : Rat) * (2 * uR) = 1 := by decide +kernel
theorem by_c {c u X Y : Rat} (h : c * X ≤ Y) (e : c * u = 1) (u0 : 0 ≤ u) : X ≤ u * Y := by
 have := Rat.mul_le_mul_of_nonneg_left h u0
 have e' : u * (c * X) = c * u * X := by grind
 rw [e', e] at this
 grind
theorem quo_rat {a n : Nat} (h : 2 ^ 53 * (V (qX a n) * V n - V a * 2 ^ 1074).natAbs ≤ (V (qX a n) * V n).natAbs) : mag (Q (qX a n) * Q n - Q a) ≤ uR * mag (Q (qX a n) * Q n) := by
 have := rel_rat h
 rw [← one_unit, ← kk_of, ← Q_times] at this
 exact by_c this c53 uR0
theorem nrm_rat {D r : Nat} (N : Nrm D r) (h : V D ≠ 0) : 0 < Q r ∧ mag (Q r * Q r - Q D) ≤ 2 * uR * (Q r * Q r) := by
 obtain ⟨p, e, -⟩ := N.pos h
 have q0 : 0 < Q r := by
   have : (V 0) < V r := by rw [V_zero]; exact p
   have z : Q 0 = 0 := by decide +kernel
   rw [← z]; exact Q_lt.2 this
 have := rel_rat e
 rw [← one_unit, ← kk_of, ← Q_times] at this
 have m : mag (Q r * Q r) = Q r * Q r := by
   have := Rat.mul_nonneg (Rat.le_of_lt q0) (Rat.le_of_lt q0)
   unfold mag; rw [if_pos this]
 rw [m] at this
 exact ⟨q0, by_c this c52 (by decide +kernel)⟩

theorem sq0 (x : Rat) : 0 ≤ x * x := by
 rcases (Rat.le_total : 0 ≤ x ∨ x ≤ 0) with h | h
 · exact Rat.mul_nonneg h h
 · have := Rat.mul_nonneg (show 0 ≤ -x by grind) (show 0 ≤ -x by grind)
   grind
theorem mag_sq (x : Rat) : mag x * mag x = x * x := by unfold mag; split <;> grind
def sm : Rat := mkRat 1 (2^200)
theorem sm0 : 0 ≤ sm := by decide +kernel
theorem mag_self (x : Rat) : mag (x * x) ≤ x * x := by
 have := sq0 x
 unfold mag; rw [if_pos this]; exact Rat.le_refl
end Go.Proofs.YtkpdnhbifokhlaaGreat
