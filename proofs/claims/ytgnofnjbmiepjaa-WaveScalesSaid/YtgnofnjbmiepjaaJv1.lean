/- Proved here: what the texts Vck, Vsc prove, one behind the other. -/
import Derived.Test.YtgnofnjbmiepjaaJb6
import Derived.Test.YtgnofnjbmiepjaaJb3
import Derived.Test.YtgnofnjbmiepjaaJr
import Derived.Test.YtgnofnjbmiepjaaJp

namespace Go.Proofs.Ytgnofnjbmiepjaa
open Go.ChangeShapes Go.WideShapes Go.ChangeAt Go.RowKit Ieee.Own

/-- may the word be a vector's number? -/
def vnB (x : Nat) : Bool := decide (fitB x = true ∧ x % 9223372036854775808 ≤ 4877398396442247168)
theorem vnB_spec {x : Nat} (hx : x < 18446744073709551616) (h : vnB x = true) : FinW x ∧ fitB x = true ∧ (V x).natAbs ≤ 2 ^ 1134 := by
  unfold vnB at h
  rw [decide_eq_true_eq] at h
  have f := fit_fin hx h.1
  refine ⟨f, h.1, ?_⟩
  rw [V_abs' x f]
  have e : val 52 4877398396442247168 = 2 ^ 1134 := by decide +kernel
  rw [← e]
  by_cases q : x % 9223372036854775808 = 4877398396442247168
  · rw [q]; exact Nat.le_refl _
  · exact Nat.le_of_lt (val_lt (by omega))

/-! ### brought to fit ones -/
def bW (x : Nat) : Nat := if fitB x = false ∧ x % 9223372036854775808 < 4607182418800017408 then 0 else aX x 0
theorem plus0 {x : Nat} (h : FinW x) : Ieee.double.add x 0 = some (aX x 0) ∧ FinW (aX x 0) ∧ V (aX x 0) = V x := by
  have e : V x + V 0 = V x := by rw [V_zero]; omega
  have R : RN (V x + V 0) = V x := by rw [e]; exact RN_exact (Rep_V x)
  obtain ⟨r, h1, h2, h3⟩ := add_spec h zero_fin (by rw [R]; exact fin_top h)
  have er : aX x 0 = r := by unfold aX; rw [h1]; rfl
  rw [er]
  rw [R] at h3
  exact ⟨h1, h2, h3⟩
theorem bW_spec {x : Nat} (h : FinW x) : FinW (bW x) ∧ (V (bW x) = V x ∨ (bW x = 0 ∧ fitB x = false ∧ x % 9223372036854775808 < 4607182418800017408)) := by
  unfold bW
  split
  · rename_i c; exact ⟨zero_fin, .inr ⟨rfl, c⟩⟩
  · exact ⟨(plus0 h).2.1, .inl (plus0 h).2.2⟩
/-! ### the product of two vectors -/
abbrev V3 := Nat × Nat × Nat
def vecV (p : V3) : Value := .agg #[.float .f64 p.1, .float .f64 p.2.1, .float .f64 p.2.2]
def fitV (p : V3) : Bool := vnB p.1 && vnB p.2.1 && vnB p.2.2
structure W3 (p : V3) : Prop where
  l1 : p.1 < 18446744073709551616
  l2 : p.2.1 < 18446744073709551616
  l3 : p.2.2 < 18446744073709551616
def dW (a b : V3) : Nat := aX (aX (mX a.1 b.1) (mX a.2.1 b.2.1)) (mX a.2.2 b.2.2)
structure Bd (p : V3) (k : Nat) : Prop where
  f1 : FinW p.1
  f2 : FinW p.2.1
  f3 : FinW p.2.2
  b1 : (V p.1).natAbs ≤ 2 ^ k
  b2 : (V p.2.1).natAbs ≤ 2 ^ k
  b3 : (V p.2.2).natAbs ≤ 2 ^ k
theorem fitV_bd {p : V3} (h : W3 p) (f : fitV p = true) : Bd p 1134 := by
  unfold fitV at f
  simp only [Bool.and_eq_true] at f
  obtain ⟨a1, -, b1⟩ := vnB_spec h.l1 f.1.1
  obtain ⟨a2, -, b2⟩ := vnB_spec h.l2 f.1.2
  obtain ⟨a3, -, b3⟩ := vnB_spec h.l3 f.2
  exact ⟨a1, a2, a3, b1, b2, b3⟩
theorem mul_ok {a b i k : Nat} (ha : FinW a) (hb : FinW b) (xa : (V a).natAbs ≤ 2 ^ i) (xb : (V b).natAbs ≤ 2 ^ i) (e : i + i = k + 1074) (h2 : k < 2000) :
    Ieee.double.mul a b = some (mX a b) ∧ FinW (mX a b) ∧ V (mX a b) = RZ (V a * V b) ∧ (V (mX a b)).natAbs ≤ 2 ^ k := by
  obtain ⟨r, q1, q2, q3, q4⟩ := mulB ha hb xa xb e (by omega)
  have er : mX a b = r := by unfold mX; rw [q1]; rfl
  rw [er]
  exact ⟨q1, q2, q3, q4⟩
theorem add_ok {a b i k : Nat} (ha : FinW a) (hb : FinW b) (xa : (V a).natAbs ≤ 2 ^ i) (xb : (V b).natAbs ≤ 2 ^ i) (e : k = i + 1) (h2 : i < 2000) :
    Ieee.double.add a b = some (aX a b) ∧ FinW (aX a b) ∧ V (aX a b) = RN (V a + V b) ∧ (V (aX a b)).natAbs ≤ 2 ^ k := by
  subst e
  obtain ⟨r, q1, q2, q3, q4⟩ := addW ha hb xa xb h2
  have er : aX a b = r := by unfold aX; rw [q1]; rfl
  rw [er]
  exact ⟨q1, q2, q3, q4⟩
end Go.Proofs.Ytgnofnjbmiepjaa

namespace Go.Proofs.Ytgnofnjbmiepjaa
open Go.ChangeShapes Go.WideShapes Go.ChangeAt Go.RowKit Ieee.Own

def vecE (p : V3) (k : Int) : Value := .tuple #[vecV p, .int .i64 k]
def z3 : V3 := (0, 0, 0)
/-! ### answers -/
def bV (p : V3) : V3 := (bW p.1, bW p.2.1, bW p.2.2)
def toldR (p : V3) : V3 × Int := if fitV (bV p) = true then (bV p, 0) else (z3, 3)
structure F3 (p : V3) : Prop where
  f1 : FinW p.1
  f2 : FinW p.2.1
  f3 : FinW p.2.2
theorem Bd.fin {p : V3} {k : Nat} (h : Bd p k) : F3 p := ⟨h.f1, h.f2, h.f3⟩
theorem F3.w {p : V3} (h : F3 p) : W3 p := ⟨h.f1.1, h.f2.1, h.f3.1⟩
theorem F3.b {p : V3} (h : F3 p) : F3 (bV p) := ⟨(bW_spec h.f1).1, (bW_spec h.f2).1, (bW_spec h.f3).1⟩
end Go.Proofs.Ytgnofnjbmiepjaa
