/- Proved here: what the texts Phs, Pwt, Pfn prove, one behind the other. -/
import Derived.Test.YtgnofnjbmiepjaaGreatJs1

namespace Go.Proofs.YtgnofnjbmiepjaaGreat
open Go.ChangeShapes Go.WideShapes Go.ChangeAt Go.RowKit Ieee.Own Pol

end Go.Proofs.YtgnofnjbmiepjaaGreat

namespace Pol
open Go.Proofs.YtgnofnjbmiepjaaGreat
end Pol
namespace Go.Proofs.YtgnofnjbmiepjaaGreat
open Go.ChangeShapes Go.WideShapes Go.ChangeAt Go.RowKit Ieee.Own Pol

theorem abs_word {a : Nat} (h : FinW a) : FinW (a % 9223372036854775808) ∧ V (a % 9223372036854775808) = ((V a).natAbs : Int) := by
 have h2 := h.2
 refine ⟨⟨by omega, by omega⟩, ?_⟩
 have e := V_abs' a h
 have e2 := V_abs' (a % 9223372036854775808) ⟨by omega, by omega⟩
 rw [Nat.mod_mod] at e2
 have n : 0 ≤ V (a % 9223372036854775808) := by
  unfold V
  rw [if_pos (Nat.mod_lt _ (by omega))]
  omega
 omega
end Go.Proofs.YtgnofnjbmiepjaaGreat

namespace Ieee.Own
end Ieee.Own
namespace Go.Proofs.YtgnofnjbmiepjaaGreat
open Go.ChangeShapes Go.WideShapes Go.ChangeAt Go.RowKit Ieee.Own Pol

theorem exact_q {Q m u : Nat} (hu : u = 52 ∨ u = 53) (h1 : 2 * (Q * 2 ^ 52) ≤ 2 * (m * 2 ^ u) + 2 ^ 52) (h2 : 2 * (m * 2 ^ u) ≤ 2 * (Q * 2 ^ 52) + 2 ^ 52) : Q = m * 2 ^ (u - 52) := by
 rcases hu with rfl | rfl
 · simp at *; omega
 · have : 2 ^ 53 = 2 * 2 ^ 52 := by omega
   simp at *; omega
theorem shift_down {Q m u p j : Nat} (hu : 52 ≤ u) (e : Q = m * 2 ^ (u - 52)) (h : u + j ≤ 52 + p) : Q * 2 ^ (52 + p - j - u) * 2 ^ j = m * 2 ^ p := by
 rw [e, Nat.mul_assoc, Nat.mul_assoc, ← Nat.pow_add, ← Nat.pow_add]
 congr 2; omega
theorem div_pow {b j D : Nat} (hD : D = (1023 + j) * 4503599627370496) (h : FinW b) (lo : 2 ^ 874 ≤ (V b).natAbs) (hi : (V b).natAbs ≤ 2 ^ 1500) (hj : j ≤ 60) : ∃ r, Ieee.double.div b D = some r ∧ FinW r ∧ V r * 2 ^ j = V b := by
 have N := norm_of h (norm_big h (Nat.le_trans (two_le (a := 52) (b := 874) (by omega)) lo))
 have fd : FinW D := by rw [hD]; unfold FinW; omega
 have F : Norm D false (2 ^ 52) (1022 + j) := by
  have := norm_of fd (by rw [hD]; omega)
  rwa [show decide (9223372036854775808 ≤ D) = false by rw [hD]; exact decide_eq_false (by omega), show 4503599627370496 + D % 4503599627370496 = 2 ^ 52 by rw [hD]; omega, show D % 9223372036854775808 / 4503599627370496 - 1 = 1022 + j by rw [hD]; omega] at this
 generalize decide (9223372036854775808 ≤ b) = s at N
 generalize 4503599627370496 + b % 4503599627370496 = m at N
 generalize b % 9223372036854775808 / 4503599627370496 - 1 = p at N
 have v : (V b).natAbs = m * 2 ^ p := by rw [N.val, sv_abs]
 have hp : 822 ≤ p := by
  by_cases q : 822 ≤ p
  · exact q
  · exfalso
    rw [v] at lo
    have a1 : m * 2 ^ p < 2 ^ 53 * 2 ^ p := Nat.mul_lt_mul_of_pos_right N.hi (Nat.two_pow_pos p)
    rw [← Nat.pow_add] at a1
    have := two_le (a := 53 + p) (b := 874) (by omega)
    omega
 have hp2 : p ≤ 1448 := by
  by_cases q : p ≤ 1448
  · exact q
  · exfalso
    rw [v] at hi
    have a1 : 2 ^ 52 * 2 ^ p ≤ m * 2 ^ p := Nat.mul_le_mul_right _ N.lo
    rw [← Nat.pow_add] at a1
    have := two_dbl (m := 1500) (n := 52 + p) (by omega)
    have := Nat.two_pow_pos 1500
    omega
 obtain ⟨r, Q, u, h1, h2, h3, u1, u2, q1, q2, q3, q4⟩ := div_spec N F (by omega) (by omega)
 refine ⟨r, h1, h2, ?_⟩
 have e := exact_q (by omega) q3 q4
 have k := shift_down (p := p) (j := j) u1 e (by omega)
 have e2 : 1074 + p - (1022 + j) - u = 52 + p - j - u := by omega
 rw [h3, e2, N.val]
 have sx : (s ^^ false) = s := by cases s <;> rfl
 rw [sx]
 unfold sv
 cases s
 · simp only [Bool.false_eq_true, if_false]
   rw [← k, Int.natCast_mul, Int.natCast_pow]; rfl
 · simp only [if_true]
   rw [← k, Int.natCast_mul, Int.natCast_pow, Int.neg_mul]; rfl
end Go.Proofs.YtgnofnjbmiepjaaGreat
