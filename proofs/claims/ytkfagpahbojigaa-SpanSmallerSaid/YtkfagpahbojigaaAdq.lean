/- Proved here: quotients and roots of words lie next to the exact ones. -/
import Derived.Test.YtkfagpahbojigaaFtw
import Derived.Test.YtkfagpahbojigaaAdj
namespace Go.Proofs.Ytkfagpahbojigaa
open Ieee.Own

theorem sv_up (s : Bool) (m p k : Nat) : sv s m p * 2 ^ k = sv s m (p + k) := by
  unfold sv
  cases s
  · rw [if_neg (by simp), if_neg (by simp), Nat.pow_add, ← Nat.mul_assoc]; simp
  · rw [if_pos rfl, if_pos rfl, Nat.pow_add, ← Nat.mul_assoc]; simp [Int.neg_mul]
theorem sv_diff (s : Bool) (x y k : Nat) : (sv s x k - sv s y k).natAbs = ((x : Int) - y).natAbs * 2 ^ k := by
  have h : (((x : Int) - y) * 2 ^ k).natAbs = ((x : Int) - y).natAbs * 2 ^ k := scale_abs _ _
  rw [← h, Int.sub_mul]
  unfold sv
  cases s
  · rw [if_neg (by simp), if_neg (by simp)]; simp
  · rw [if_pos rfl, if_pos rfl]; simp; omega

def quotC (a b : Nat) (v : Int) : Int := (V a * 2 ^ 1074 - v * V b) * (if V b < 0 then -1 else 1)
theorem quot_adj {a b q : Nat} (ha : a < 18446744073709551616) (hb : b < 18446744073709551616) (h1 : fitB a = true) (h2 : fitB b = true) (h0 : V b ≠ 0) (hq : Ieee.double.div a b = some q) (bd : (V q).natAbs ≤ 2 ^ 1500) : Adj (quotC a b) q := by
  obtain ⟨t, n, j, nb, j1, j2⟩ := (fit_norm hb h2).resolve_left h0
  rcases fit_norm ha h1 with z | ⟨s, m, i, na, i1, i2⟩
  · obtain ⟨q', d1, d2, d3⟩ := div_zero (fit_fin ha h1) z (fit_fin hb h2) h0
    obtain rfl : q' = q := Option.some.inj (d1.symm.trans hq)
    have := adj_quot0 d2 h0 d3
    unfold quotC
    rw [z, Int.zero_mul]
    exact this
  · obtain ⟨q', Q, u, d1, d2, d3, u1, u2, Q1, Q2, g1, g2⟩ := div_spec na nb (by omega) (by omega)
    obtain rfl : q' = q := Option.some.inj (d1.symm.trans hq)
    obtain ⟨n1, n2⟩ := no_tie (m := m) (Q := Q) (u := u) (n := n) (by have := nb.lo; omega) nb.hi u1
    obtain ⟨E, hE⟩ : ∃ E, 1074 + i - j - u = E + 1 := ⟨1074 + i - j - u - 1, by omega⟩
    rw [hE] at d3
    refine adj_quot (Q := Q) (E := E) d2 (by rw [d3, sv_abs]) Q1 bd ?_
    rw [na.val, nb.val] at *
    rw [d3, sv_mul, sv_up, show ((s ^^ t) ^^ t) = s by cases s <;> cases t <;> rfl]
    have e1 : sv s m (i + 1074) = sv s (m * 2 ^ u) (E + j + 1) := by rw [sv_scale]; congr 1; omega
    rw [e1, show E + 1 + j = E + j + 1 by omega, sv_diff, sv_abs]
    have e2 : 2 ^ E * (n * 2 ^ j) = n * 2 ^ (E + j) := by rw [Nat.pow_add]; ac_rfl
    rw [e2, two_succ, ← Nat.mul_assoc]
    refine (Nat.mul_lt_mul_right (Nat.two_pow_pos _)).2 ?_
    omega

theorem four_pow (x y : Nat) : 2 ^ (2 + x + (y + y)) = 4 * 2 ^ x * (2 ^ y * 2 ^ y) := by rw [Nat.pow_add, Nat.pow_add, Nat.pow_add, show (2 : Nat) ^ 2 = 4 from rfl]
theorem units_mul' (x : Int) {i j k : Nat} (h : i + j = k) : x * 2 ^ i * 2 ^ j = x * 2 ^ k := by subst h; exact units_mul x i j
def rootC (a : Nat) (v : Int) : Int := if v < 0 then 1 else V a * 2 ^ 1074 - v * v
theorem root_adj {a q : Nat} (ha : a < 18446744073709551616) (h1 : fitB a = true) (h0 : 0 ≤ V a) (hq : Ieee.double.sqrt a = some q) (bd : (V q).natAbs ≤ 2 ^ 1500) : Adj (rootC a) q ∧ 0 ≤ V q := by
  rcases fit_norm ha h1 with z | ⟨s, m, i, na, i1, i2⟩
  · obtain ⟨q', d1, d2, d3⟩ := sqrt_zero (fit_fin ha h1) z
    obtain rfl : q' = q := Option.some.inj (d1.symm.trans hq)
    have := adj_root0 d2 d3
    refine ⟨?_, by omega⟩
    unfold rootC
    rw [z, Int.zero_mul]
    exact this
  · have hs : s = false := by
      have hv := na.val
      have hp : 0 < m * 2 ^ i := Nat.mul_pos (by have := na.lo; omega) (Nat.two_pow_pos i)
      cases s
      · rfl
      · unfold sv at hv; rw [if_pos rfl] at hv
        generalize m * 2 ^ i = x at *
        omega
    subst hs
    obtain ⟨q', Q, d1, d2, d3, Q1, Q2, g1, g2⟩ := sqrt_spec na (by omega)
    obtain rfl : q' = q := Option.some.inj (d1.symm.trans hq)
    obtain ⟨E, hE⟩ : ∃ E, 511 + i / 2 = E + 1 := ⟨510 + i / 2, by omega⟩
    rw [hE] at d3
    have hv : V q' = ((Q * 2 ^ (E + 1) : Nat) : Int) := by rw [d3]; unfold sv; simp
    have hN : m * 2 ^ (i + 1074) = 4 * (m * 2 ^ (52 + i % 2)) * (2 ^ E * 2 ^ E) := by
      rw [show i + 1074 = 2 + (52 + i % 2) + (E + E) by omega, four_pow]
      generalize 2 ^ (52 + i % 2) = x
      generalize 2 ^ E = y
      ac_rfl
    have hX : V a * 2 ^ 1074 = ((4 * (m * 2 ^ (52 + i % 2)) * (2 ^ E * 2 ^ E) : Nat) : Int) := by
      rw [na.val, sv_up, ← hN]
      exact if_neg (by simp)
    refine ⟨?_, by rw [hv]; exact Int.natCast_nonneg _⟩
    refine adj_root (Q := Q) (E := E) d2 hv Q1 bd ?_ ?_
    · rw [hX]
      have e : (2 * Q - 1) * 2 ^ E * ((2 * Q - 1) * 2 ^ E) = (2 * Q - 1) * (2 * Q - 1) * (2 ^ E * 2 ^ E) := by ac_rfl
      rw [e]
      have hp : 0 < 2 ^ E * 2 ^ E := Nat.mul_pos (Nat.two_pow_pos _) (Nat.two_pow_pos _)
      refine Int.ofNat_lt.2 ((Nat.mul_lt_mul_right hp).2 ?_)
      obtain ⟨P, rfl⟩ : ∃ P, Q = P + 1 := ⟨Q - 1, by omega⟩
      have x1 : (2 * (P + 1) - 1) * (2 * (P + 1) - 1) = 4 * (P * P) + 4 * P + 1 := by
        rw [show 2 * (P + 1) - 1 = 2 * P + 1 by omega, Nat.add_mul, Nat.mul_add, show 2 * P * (2 * P) = 4 * (P * P) by rw [show (4 : Nat) = 2 * 2 from rfl]; ac_rfl]; omega
      have x2 : (P + 1) * (P + 1) = P * P + 2 * P + 1 := by rw [Nat.add_mul, Nat.mul_add]; omega
      rw [x1]
      omega
    · rw [hX]
      have e : (2 * Q + 1) * 2 ^ E * ((2 * Q + 1) * 2 ^ E) = (2 * Q + 1) * (2 * Q + 1) * (2 ^ E * 2 ^ E) := by ac_rfl
      rw [e]
      have hp : 0 < 2 ^ E * 2 ^ E := Nat.mul_pos (Nat.two_pow_pos _) (Nat.two_pow_pos _)
      refine Int.ofNat_lt.2 ((Nat.mul_lt_mul_right hp).2 ?_)
      have x1 : (2 * Q + 1) * (2 * Q + 1) = 4 * (Q * Q) + 4 * Q + 1 := by
        rw [Nat.add_mul, Nat.mul_add, show 2 * Q * (2 * Q) = 4 * (Q * Q) by rw [show (4 : Nat) = 2 * 2 from rfl]; ac_rfl]; omega
      rw [x1]
      omega

/-! ### ends next to the exact ones, by the rest -/
theorem prod_adj {a b p e : Nat} {N : Int} (R : ProdRes a b p e N) (bd : (V p).natAbs ≤ 2 ^ 1500) : Adj (fun v => N - v) p := adj_rn R.fp R.vp bd
theorem cut_sign {x : Int} (k : Nat) : (x * 2 ^ k < 0 ↔ x < 0) ∧ (0 < x * 2 ^ k ↔ 0 < x) := by
  have hp : (0 : Int) < 2 ^ k := Int.pow_pos (by omega)
  constructor
  · constructor
    · intro h; exact Int.not_le.1 fun hc => by have := Int.mul_nonneg hc (Int.le_of_lt hp); omega
    · intro h; exact Int.mul_neg_of_neg_of_pos h hp
  · constructor
    · intro h; exact Int.not_le.1 fun hc => by have := Int.mul_nonpos_of_nonpos_of_nonneg hc (Int.le_of_lt hp); omega
    · intro h; exact Int.mul_pos h hp
theorem rem_c {a q b r g : Nat} {N Z : Int} (R : RemRes a q b q r N Z g) : V a * 2 ^ 1074 - V q * V b = V r * 2 ^ 1074 := by
  have h := R.exz
  rw [R.vr, R.exn, Int.sub_mul, h, units_mul' Z (i := 50) (j := 1074) (k := 1124) rfl]
theorem quot_c {a q b r g : Nat} {N Z : Int} (R : RemRes a q b q r N Z g) : quotC a b (V q) = (if V b < 0 then -V r else V r) * 2 ^ 1074 := by
  unfold quotC
  rw [rem_c R]
  split
  · rw [Int.mul_neg, Int.mul_one, Int.neg_mul]
  · rw [Int.mul_one]
theorem root_c {a q r g : Nat} {N Z : Int} (R : RemRes a q q q r N Z g) (h0 : 0 ≤ V q) : rootC a (V q) = V r * 2 ^ 1074 := by
  unfold rootC
  rw [if_neg (by omega)]
  exact rem_c R
theorem RemRes.bd' {a c d q r g : Nat} {N Z : Int} (R : RemRes a c d q r N Z g) : (V q).natAbs ≤ 2 ^ 1500 := by
  obtain ⟨K, hK, h, -⟩ := R.bd
  exact Nat.le_trans h (two_le (a := K) (b := 1500) (by omega))
end Go.Proofs.Ytkfagpahbojigaa
