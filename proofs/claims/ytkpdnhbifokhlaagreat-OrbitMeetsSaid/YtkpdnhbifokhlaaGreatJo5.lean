/- Proved here: what the texts Omk, Oml prove, one behind the other. -/
import Derived.Test.YtkpdnhbifokhlaaGreatJo1
import Derived.Test.YtkpdnhbifokhlaaGreatJv4
import Derived.Test.YtkpdnhbifokhlaaGreatJv1
import Derived.Test.YtkpdnhbifokhlaaGreatJo4
import Derived.Test.YtkpdnhbifokhlaaGreatJy9

namespace Go.Proofs.YtkpdnhbifokhlaaGreat
open Go.ChangeShapes Go.WideShapes Go.ChangeAt Go.RowKit Ieee.Own Pol

structure Frc (x r : Nat) : Prop where
 nz : Nz r
 v : V r = rq hlf (V x)
theorem Frc.uniq {x r s : Nat} (h : Frc x r) (g : Frc x s) : r = s := h.nz.uniq g.nz (by rw [h.v, g.v])
structure Lft (x : Nat) : Prop where
 fin : FinW x
 dvd : (4 : Int) ∣ V x
 abs : (V x).natAbs ≤ 2 ^ 1124
theorem fdiv_le {v : Int} {k M : Nat} (hM : M = k + 1074) (h : v.natAbs ≤ 2 ^ M) : (v / 2 ^ 1074).natAbs ≤ 2 ^ k + 1 := by
 rw [hM] at h
 have hp : (0 : Int) < 2 ^ 1074 := Int.pow_pos (by omega)
 have a := Int.mul_ediv_add_emod v (2 ^ 1074)
 have b := Int.emod_nonneg v (show (2 : Int) ^ 1074 ≠ 0 by omega)
 have c := Int.emod_lt_of_pos v hp
 have e : ((2 ^ (k + 1074) : Nat) : Int) = 2 ^ k * 2 ^ 1074 := by rw [Int.natCast_pow, ← Int.pow_add]; rfl
 have ek : ((2 ^ k : Nat) : Int) = 2 ^ k := Int.natCast_pow 2 k
 have h1 : v ≤ 2 ^ k * 2 ^ 1074 := by omega
 have h2 : -(2 ^ k * 2 ^ 1074) ≤ v := by omega
 generalize (2 : Int) ^ 1074 = T at *
 generalize (2 : Int) ^ k = K at *
 generalize v / T = q at *
 generalize v % T = m at *
 have q1 : q ≤ K := by
   refine Int.not_lt.1 fun c' => ?_
   have := Int.mul_le_mul_of_nonneg_right (show K + 1 ≤ q by omega) (show 0 ≤ T by omega)
   rw [Int.add_mul, Int.one_mul] at this
   rw [Int.mul_comm q T] at this
   omega
 have q2 : -(K + 1) ≤ q := by
   refine Int.not_lt.1 fun c' => ?_
   have := Int.mul_le_mul_of_nonneg_right (show q ≤ -(K + 2) by omega) (show 0 ≤ T by omega)
   rw [Int.neg_mul, Int.add_mul] at this
   rw [Int.mul_comm q T] at this
   omega
 omega
theorem pow_as {n a b : Nat} (h : n ≤ 2 ^ a) (e : a = b) : n ≤ 2 ^ b := e ▸ h
theorem Frc.more {x y r : Nat} {N : Int} (h : Frc x r) (hn : V r ≠ hlf ∧ V r ≠ -hlf) (e : V y = V x + N * 2 ^ 1074) : Frc y r := by
 refine ⟨h.nz, ?_⟩
 rw [h.v] at hn
 rw [e, (left_more hn).1, h.v]
end Go.Proofs.YtkpdnhbifokhlaaGreat

namespace Fma
open Go.Proofs.YtkpdnhbifokhlaaGreat Pol

theorem root_near {b b' w p q : Rat} (b0 : 1 / 4 ≤ b) (c0 : 1 / 4 ≤ b') (p0 : mag (b * b - w) ≤ p) (q0 : mag (b' * b' - w) ≤ q) : mag (b - b') ≤ 2 * (p + q) := by
 have k := mag_sub p0 q0
 have e : b * b - w - (b' * b' - w) = (b - b') * (b + b') := by grind
 rw [e] at k
 have m := mag_le ((b - b') * (b + b'))
 rcases Rat.le_total (a := b) (b := b') with c | c
 · have h := Rat.mul_nonneg (show 0 ≤ b' - b by grind) (show 0 ≤ b + b' - 1 / 2 by grind)
   have e2 : (b' - b) * (b + b' - 1 / 2) = -((b - b') * (b + b')) - (b' - b) / 2 := by grind
   rw [e2] at h
   generalize (b - b') * (b + b') = X at *
   exact mag_of (by grind) (by grind)
 · have h := Rat.mul_nonneg (show 0 ≤ b - b' by grind) (show 0 ≤ b + b' - 1 / 2 by grind)
   have e2 : (b - b') * (b + b' - 1 / 2) = (b - b') * (b + b') - (b - b') / 2 := by grind
   rw [e2] at h
   generalize (b - b') * (b + b') = X at *
   exact mag_of (by grind) (by grind)
end Fma
