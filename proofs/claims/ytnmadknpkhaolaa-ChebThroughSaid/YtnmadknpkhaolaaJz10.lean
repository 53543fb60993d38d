/- Proved here: what the texts Vop, Vnm, Vlw prove, one behind the other. -/
import Derived.Test.YtnmadknpkhaolaaJz9
import Derived.Test.YtnmadknpkhaolaaJz3
import Derived.Test.YtnmadknpkhaolaaJz8
import Derived.Test.YtnmadknpkhaolaaJz7

namespace Go.Proofs.Ytnmadknpkhaolaa
open Go.ChangeShapes Go.WideShapes Go.ChangeAt Go.RowKit Ieee.Own

end Go.Proofs.Ytnmadknpkhaolaa

namespace Go.Proofs.Ytnmadknpkhaolaa
open Ieee.Own

def qX (a b : Nat) : Nat := (Ieee.double.div a b).getD 0

theorem scale_nat {x y Q E : Int} {K : Nat} (hx : x = Q * 2 ^ K) (hy : y = E * 2 ^ K) {c : Nat} (h : c * (Q - E).natAbs ≤ Q.natAbs) : c * (x - y).natAbs ≤ x.natAbs := by
  rw [hx, hy, ← Int.sub_mul, Int.natAbs_mul, Int.natAbs_mul, ← Nat.mul_assoc]
  exact Nat.mul_le_mul_right _ h
theorem pow_merge (m : Int) {p k j u : Nat} (e : p + k = u + j) : m * 2 ^ p * 2 ^ k = m * 2 ^ u * 2 ^ j := by
  rw [Int.mul_assoc, ← Int.pow_add, e, Int.pow_add, ← Int.mul_assoc]
theorem prod_merge (a b : Int) {p q k : Nat} (e : p + q = k) : a * 2 ^ p * (b * 2 ^ q) = a * b * 2 ^ k := by
  subst e
  rw [Int.pow_add]
  generalize (2 : Int) ^ p = x
  generalize (2 : Int) ^ q = y
  ac_rfl
theorem sv_pos (Q K : Nat) : sv false Q K = (Q : Int) * 2 ^ K := by
  unfold sv; simp

theorem norm_pl {b : Nat} {s : Bool} {m p i j : Nat} (h : Norm b s m p) (h1 : 2 ^ i ≤ (V b).natAbs) (h2 : (V b).natAbs ≤ 2 ^ j) (hi : 53 ≤ i) (hj : 52 ≤ j) : i - 53 ≤ p ∧ p ≤ j - 52 := by
  rw [h.val, sv_abs] at h1 h2
  constructor
  · refine Nat.le_of_not_lt fun hlt => ?_
    have a : m * 2 ^ p < 2 ^ 53 * 2 ^ p := Nat.mul_lt_mul_of_pos_right h.hi (Nat.two_pow_pos _)
    rw [← Nat.pow_add] at a
    have b := two_le (a := 53 + p) (b := i) (by omega)
    omega
  · refine Nat.le_of_not_lt fun hlt => ?_
    have a : 2 ^ 52 * 2 ^ p ≤ m * 2 ^ p := Nat.mul_le_mul_right _ h.lo
    rw [← Nat.pow_add] at a
    have b := two_lt (a := j) (b := 52 + p) (by omega)
    omega
theorem is_norm {b i : Nat} (f : FinW b) (h : 2 ^ i ≤ (V b).natAbs) (hi : 52 ≤ i) : ∃ s m p, Norm b s m p := by
  refine ⟨_, _, _, norm_of f ?_⟩
  refine Nat.le_of_not_lt fun hlt => ?_
  rw [V_abs' b f] at h
  have e : val 52 (b % 9223372036854775808) < 2 ^ 52 := by
    have c := val_lt (F := 52) (show b % 9223372036854775808 < 4503599627370496 by omega)
    have : val 52 4503599627370496 = 2 ^ 52 := by decide +kernel
    omega
  have b := two_le (a := 52) (b := i) hi
  omega
/-! ### products of fit vectors -/
end Go.Proofs.Ytnmadknpkhaolaa

namespace Go.Proofs.Ytnmadknpkhaolaa
open Go.ChangeShapes Go.WideShapes Go.ChangeAt Go.RowKit Ieee.Own

theorem wdB {x : Nat} (hx : x < 18446744073709551616) (h : vnB x = true) : Wd x 822 1134 := by
  obtain ⟨f, g, b⟩ := vnB_spec hx h
  exact ⟨f, fit_822 hx g, b⟩
structure D3 (p : V3) : Prop where
  w1 : Wd p.1 822 1134
  w2 : Wd p.2.1 822 1134
  w3 : Wd p.2.2 822 1134
theorem fitV_wd {p : V3} (h : W3 p) (f : fitV p = true) : D3 p := by
  unfold fitV at f
  simp only [Bool.and_eq_true] at f
  exact ⟨wdB h.l1 f.1.1, wdB h.l2 f.1.2, wdB h.l3 f.2⟩
theorem D3.bd {p : V3} (h : D3 p) : Bd p 1134 := ⟨h.w1.fin, h.w2.fin, h.w3.fin, h.w1.abs, h.w2.abs, h.w3.abs⟩
/-! ### the calls -/
/-! ### awake -/
end Go.Proofs.Ytnmadknpkhaolaa
