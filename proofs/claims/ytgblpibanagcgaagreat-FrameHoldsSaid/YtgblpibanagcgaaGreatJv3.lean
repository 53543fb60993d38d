/- Proved here: what the texts Vnm, Vlw prove, one behind the other. -/
import Derived.Test.YtgblpibanagcgaaGreatJp
import Derived.Test.YtgblpibanagcgaaGreatJb5
import Derived.Test.YtgblpibanagcgaaGreatJv2

namespace Go.Proofs.YtgblpibanagcgaaGreat
open Ieee.Own

def qX (a b : Nat) : Nat := (Ieee.double.div a b).getD 0

theorem scale_nat {x y Q E : Int} {K : Nat} (hx : x = Q * 2 ^ K) (hy : y = E * 2 ^ K) {c : Nat} (h : c * (Q - E).natAbs ≤ Q.natAbs) : c * (x - y).natAbs ≤ x.natAbs := by
  rw [hx, hy, ← Int.sub_mul, Int.natAbs_mul, Int.natAbs_mul, ← Nat.mul_assoc]
  exact Nat.mul_le_mul_right _ h
theorem pow_merge (m : Int) {p k j u : Nat} (e : p + k = u + j) : m * 2 ^ p * 2 ^ k = m * 2 ^ u * 2 ^ j := by
  rw [Int.mul_assoc, ← Int.pow_add, e, Int.pow_add, ← Int.mul_assoc]
theorem prod_merge (a b : Int) {p q k : Nat} (e : p + q = k) : a * 2 ^ p * (b * 2 ^ q) = a * b * 2 ^ k := by
  subst e
  rw [Int.pow_add]
  generalize (2 : Int) ^ p = x
  generalize (2 : Int) ^ q = y
  ac_rfl
theorem sv_pos (Q K : Nat) : sv false Q K = (Q : Int) * 2 ^ K := by
  unfold sv; simp

theorem norm_pl {b : Nat} {s : Bool} {m p i j : Nat} (h : Norm b s m p) (h1 : 2 ^ i ≤ (V b).natAbs) (h2 : (V b).natAbs ≤ 2 ^ j) (hi : 53 ≤ i) (hj : 52 ≤ j) : i - 53 ≤ p ∧ p ≤ j - 52 := by
  rw [h.val, sv_abs] at h1 h2
  constructor
  · refine Nat.le_of_not_lt fun hlt => ?_
    have a : m * 2 ^ p < 2 ^ 53 * 2 ^ p := Nat.mul_lt_mul_of_pos_right h.hi (Nat.two_pow_pos _)
    rw [← Nat.pow_add] at a
    have b := two_le (a := 53 + p) (b := i) (by omega)
    omega
  · refine Nat.le_of_not_lt fun hlt => ?_
    have a : 2 ^ 52 * 2 ^ p ≤ m * 2 ^ p := Nat.mul_le_mul_right _ h.lo
    rw [← Nat.pow_add] at a
    have b := two_lt (a := j) (b := 52 + p) (by omega)
    omega
theorem is_norm {b i : Nat} (f : FinW b) (h : 2 ^ i ≤ (V b).natAbs) (hi : 52 ≤ i) : ∃ s m p, Norm b s m p := by
  refine ⟨_, _, _, norm_of f ?_⟩
  refine Nat.le_of_not_lt fun hlt => ?_
  rw [V_abs' b f] at h
  have e : val 52 (b % 9223372036854775808) < 2 ^ 52 := by
    have c := val_lt (F := 52) (show b % 9223372036854775808 < 4503599627370496 by omega)
    have : val 52 4503599627370496 = 2 ^ 52 := by decide +kernel
    omega
  have b := two_le (a := 52) (b := i) hi
  omega
/-! ### products of fit vectors -/
end Go.Proofs.YtgblpibanagcgaaGreat

namespace Go.Proofs.YtgblpibanagcgaaGreat
open Go.ChangeShapes Go.WideShapes Go.ChangeAt Go.RowKit Ieee.Own

theorem wdB {x : Nat} (hx : x < 18446744073709551616) (h : vnB x = true) : Wd x 822 1134 := by
  obtain ⟨f, g, b⟩ := vnB_spec hx h
  exact ⟨f, fit_822 hx g, b⟩
structure D3 (p : V3) : Prop where
  w1 : Wd p.1 822 1134
  w2 : Wd p.2.1 822 1134
  w3 : Wd p.2.2 822 1134
theorem fitV_wd {p : V3} (h : W3 p) (f : fitV p = true) : D3 p := by
  unfold fitV at f
  simp only [Bool.and_eq_true] at f
  exact ⟨wdB h.l1 f.1.1, wdB h.l2 f.1.2, wdB h.l3 f.2⟩
theorem D3.bd {p : V3} (h : D3 p) : Bd p 1134 := ⟨h.w1.fin, h.w2.fin, h.w3.fin, h.w1.abs, h.w2.abs, h.w3.abs⟩
/-- the product, rounded step by step -/
structure DotW (a b : V3) : Prop where
  d : Wd (dW a b) 570 1196
  r1 : Rld (Q (mX a.1 b.1)) (Q a.1 * Q b.1)
  r2 : Rld (Q (mX a.2.1 b.2.1)) (Q a.2.1 * Q b.2.1)
  r3 : Rld (Q (mX a.2.2 b.2.2)) (Q a.2.2 * Q b.2.2)
  r4 : Rld (Q (aX (mX a.1 b.1) (mX a.2.1 b.2.1))) (Q (mX a.1 b.1) + Q (mX a.2.1 b.2.1))
  r5 : Rld (Q (dW a b)) (Q (aX (mX a.1 b.1) (mX a.2.1 b.2.1)) + Q (mX a.2.2 b.2.2))
theorem dot_wd {a b : V3} (ha : D3 a) (hb : D3 b) : DotW a b := by
  obtain ⟨-, m1, r1⟩ := Wd.mul ha.w1 hb.w1 (by omega) (by omega) (by omega)
  obtain ⟨-, m2, r2⟩ := Wd.mul ha.w2 hb.w2 (by omega) (by omega) (by omega)
  obtain ⟨-, m3, r3⟩ := Wd.mul ha.w3 hb.w3 (by omega) (by omega) (by omega)
  obtain ⟨-, s1, r4⟩ := Wd.add m1 m2 (by omega)
  obtain ⟨-, s2, r5⟩ := Wd.add s1 (m3.le (q := 822 + 822 - 1074) (l := 1134 + 1134 - 1074 + 1) (by omega) (by omega)) (by omega)
  exact ⟨s2.le (by omega) (by omega), r1, r2, r3, r4, r5⟩
/-! ### the calls -/
def both3 (a b : V3) : Bool := fitV a && fitV b
theorem both_of {a b : V3} (h : both3 a b = true) : fitV a = true ∧ fitV b = true := by
  unfold both3 at h
  simpa using h
def addR (a b : V3) : V3 × Int := if both3 a b = true then toldR (aX a.1 b.1, aX a.2.1 b.2.1, aX a.2.2 b.2.2) else (z3, 3)
def subR (a b : V3) : V3 × Int := if both3 a b = true then toldR (lX a.1 b.1, lX a.2.1 b.2.1, lX a.2.2 b.2.2) else (z3, 3)
set_option maxHeartbeats 4000000 in
set_option maxRecDepth 100000 in
theorem vadd_any {a b : V3} (ha : W3 a) (hb : W3 b) (w : World) : Calls Tryz.prog 31 #[vecV a, vecV b] w fun e w' => e = .returned (vecE (addR a b).1 (addR a b).2) ∧ Below w.heap.size w w' := by
  have C0 := fun w => vboth_run ha hb w
  by_cases h : both3 a b = true
  · have e : addR a b = toldR (aX a.1 b.1, aX a.2.1 b.2.1, aX a.2.2 b.2.2) := if_pos h
    have h' : (fitV a && fitV b) = true := h
    rw [e]
    rw [h'] at C0
    have B := (fitV_wd ha (both_of h).1).bd
    have B' := (fitV_wd hb (both_of h).2).bd
    obtain ⟨o1, g1, -⟩ := add_ok B.f1 B'.f1 B.b1 B'.b1 (k := 1135) rfl (by omega)
    obtain ⟨o2, g2, -⟩ := add_ok B.f2 B'.f2 B.b2 B'.b2 (k := 1135) rfl (by omega)
    obtain ⟨o3, g3, -⟩ := add_ok B.f3 B'.f3 B.b3 B'.b3 (k := 1135) rfl (by omega)
    have C1 := fun w => vtold_run (p := (aX a.1 b.1, aX a.2.1 b.2.1, aX a.2.2 b.2.2)) ⟨g1, g2, g3⟩ w
    exact vadd_ok (Lib.hid C0) (run_add _ _ _ o1) (run_add _ _ _ o2) (run_add _ _ _ o3) (Lib.hid C1) w
  · have e : addR a b = (z3, 3) := if_neg h
    rw [e]
    rw [show (fitV a && fitV b) = false from Bool.eq_false_iff.2 h] at C0
    exact vadd_no (Lib.hid C0) w
/-! ### awake -/
set_option maxHeartbeats 4000000 in
set_option maxRecDepth 100000 in
theorem open_vec {H : Type} {enc : TypeId × Value → H} {W : World} {r : Reach} {b0 base : Nat} {spare : Nat → Bool} {held : Bool} {v : Value} {d : DataW H} {p : List MemPlace}
    (hv : Value.okWide Tryz.prog W r b0 25 v) (h : DataW.Trod enc Tryz.prog W base spare held 25 v d p) : ∃ a : V3, v = vecV a ∧ W3 a := by
  obtain ⟨v0, v1, v2, y0, y1, y2, n, rfl, -, -, h0, h1, h2⟩ := Go.Joins.open_agg3 Tryz.underlying25 (by kernel_rfl) (by kernel_rfl) hv h
  obtain ⟨a, rfl, ha⟩ := float_cell Tryz.underlying23 h0
  obtain ⟨b, rfl, hb⟩ := float_cell Tryz.underlying23 h1
  obtain ⟨c, rfl, hc⟩ := float_cell Tryz.underlying23 h2
  exact ⟨(a, b, c), rfl, ha, hb, hc⟩
end Go.Proofs.YtgblpibanagcgaaGreat
