/- Proved here: what the texts Vme, Vmd, Vmf, Vmt, Vun, Sset, Thn prove, one behind the other. -/
import Derived.Test.YtnmadknpkhaolaaJz11
import Derived.Test.YtnmadknpkhaolaaJz8
import Derived.Test.YtnmadknpkhaolaaJz10
import Derived.Test.YtnmadknpkhaolaaJz6
import Derived.Test.YtnmadknpkhaolaaJz7
import Derived.BigQuiet

namespace Go.Proofs.Ytnmadknpkhaolaa
open Go.ChangeShapes Go.WideShapes Go.ChangeAt Go.RowKit Ieee.Own

theorem most60 : val 52 4877398396442247168 = 2 ^ 1134 := by decide +kernel
theorem vnB_small {x : Nat} (hx : FinW x) (f : fitB x = true) (h : (V x).natAbs ≤ 2 ^ 1134) : vnB x = true := by
  unfold vnB
  rw [decide_eq_true_eq]
  refine ⟨f, Nat.le_of_not_lt fun c => ?_⟩
  have := val_lt (F := 52) c
  rw [V_abs' x hx, ← most60] at h
  omega
theorem vnB_bW {x : Nat} (hx : FinW x) (h : (V x).natAbs ≤ 2 ^ 1134) : vnB (bW x) = true := by
  by_cases f : fitB x = true
  · have e : bW x = aX x 0 := by unfold bW; rw [if_neg (fun h => by rw [f] at h; cases h.1)]
    have p := plus0 hx
    rw [e, vnB_mag (mag_eq p.2.1 hx (by rw [p.2.2]))]
    exact vnB_small hx f h
  · by_cases m : x % 9223372036854775808 < 4607182418800017408
    · have e : bW x = 0 := by unfold bW; rw [if_pos ⟨Bool.eq_false_iff.2 f, m⟩]
      rw [e]; decide
    · exfalso
      refine f ((fit_iff hx).2 (.inr ?_))
      have a : 2 ^ 1074 ≤ (V x).natAbs := by
        rw [V_abs' x hx]
        have e : val 52 4607182418800017408 = 2 ^ 1074 := by decide +kernel
        rw [← e]
        by_cases q : x % 9223372036854775808 = 4607182418800017408
        · rw [q]; exact Nat.le_refl _
        · exact Nat.le_of_lt (val_lt (by omega))
      have b1 : leastV ≤ ((2 ^ 1074 : Nat) : Int) := by decide +kernel
      have b2 : ((2 ^ 1134 : Nat) : Int) ≤ mostV := by decide +kernel
      have a' : ((2 ^ 1074 : Nat) : Int) ≤ ((V x).natAbs : Int) := Int.ofNat_le.2 a
      have h' : ((V x).natAbs : Int) ≤ ((2 ^ 1134 : Nat) : Int) := Int.ofNat_le.2 h
      exact ⟨Int.le_trans b1 a', Int.le_trans h' b2⟩
theorem bW_fit {x : Nat} (hx : FinW x) (f : fitB x = true) : V (bW x) = V x := by
  unfold bW
  rw [if_neg (fun h => by rw [f] at h; cases h.1)]
  exact (plus0 hx).2.2

/-! ### matrices -/
structure F9 (m : M9) : Prop where
  f1 : F3 m.1
  f2 : F3 m.2.1
  f3 : F3 m.2.2
theorem F9.w {m : M9} (h : F9 m) : W9 m := ⟨h.f1.w, h.f2.w, h.f3.w⟩
/-! ### Apply -/
structure D9 (m : M9) : Prop where
  d1 : D3 m.1
  d2 : D3 m.2.1
  d3 : D3 m.2.2
/-! ### Flip -/
theorem D3.f {p : V3} (h : D3 p) : F3 p := ⟨h.w1.fin, h.w2.fin, h.w3.fin⟩
theorem D9.f {m : M9} (h : D9 m) : F9 m := ⟨h.d1.f, h.d2.f, h.d3.f⟩
end Go.Proofs.Ytnmadknpkhaolaa

namespace Go.Proofs.Ytnmadknpkhaolaa
open Go.ChangeShapes Go.WideShapes Go.ChangeAt Go.RowKit Ieee.Own

end Go.Proofs.Ytnmadknpkhaolaa

namespace Go.Proofs.Ytnmadknpkhaolaa
open Go.ChangeShapes Go.WideShapes Go.ChangeAt Go.RowKit Ieee.Own

/-- the matrix that turns -/
def tM (a : Int) (s c n : Nat) : M9 := if a = 0 then ((oneW, 0, 0), (0, c, n), (0, s, c)) else if a = 1 then ((c, 0, s), (0, oneW, 0), (n, 0, c)) else ((c, n, 0), (s, c, 0), (0, 0, oneW))
/-- what Turned answers -/
structure TurnR (a : Int) (x : Nat) (R : M9 × Int) : Prop where
  no : R.2 ≠ 0 → R.1 = z9
  ok : R.2 = 0 → (0 ≤ a ∧ a ≤ 2) ∧ errA x = 0 ∧ ∃ s c, Trig x s c ∧ R.1 = tM a (bW s) (bW c) (negN (bW s))
theorem TurnR.of {a : Int} {x s c : Nat} (h : 0 ≤ a ∧ a ≤ 2) (e : errA x = 0) (T : Trig x s c) : TurnR a x (tM a (bW s) (bW c) (negN (bW s)), 0) := ⟨fun h => absurd rfl h, fun _ => ⟨h, e, s, c, T, rfl⟩⟩
theorem TurnR.bad (a : Int) (x : Nat) {k : Int} (h : k ≠ 0) : TurnR a x (z9, k) := ⟨fun _ => rfl, fun e => absurd e h⟩
/-! ### what came in -/
end Go.Proofs.Ytnmadknpkhaolaa

namespace Pol
open Go.Proofs.Ytnmadknpkhaolaa

end Pol

namespace Go.Proofs.Ytnmadknpkhaolaa
open Ieee.Own Pol

def kk : Rat := 1 / unit / unit
theorem kk0 : 0 ≤ kk := by decide +kernel
theorem kk_of (x : Rat) : x / unit / unit = x * kk := by
  unfold kk
  simp only [Rat.div_def]
  grind
theorem rel_rat {x y : Int} {c : Nat} (h : c * (x - y).natAbs ≤ x.natAbs) : ((c : Int) : Rat) * mag ((x : Rat) * kk - (y : Rat) * kk) ≤ mag ((x : Rat) * kk) := by
  have k0 := kk0
  have key : ∀ {a b : Int} , (c : Int) * a ≤ b → ((c : Int) : Rat) * ((a : Rat) * kk) ≤ (b : Rat) * kk := fun {a b} h => by
    have h1 : (((c : Int) * a : Int) : Rat) ≤ (b : Rat) := Rat.intCast_le_intCast.2 h
    rw [Rat.intCast_mul] at h1
    have h2 := Rat.mul_le_mul_of_nonneg_right h1 k0
    have e : ((c : Int) : Rat) * (a : Rat) * kk = ((c : Int) : Rat) * ((a : Rat) * kk) := Rat.mul_assoc _ _ _
    rwa [e] at h2
  have i1 : (c : Int) * (x - y) ≤ (x.natAbs : Int) := by
    have a : ((c * (x - y).natAbs : Nat) : Int) ≤ (x.natAbs : Int) := by exact_mod_cast h
    rw [Int.natCast_mul] at a
    have b : (c : Int) * (x - y) ≤ (c : Int) * ((x - y).natAbs : Int) := Int.mul_le_mul_of_nonneg_left (by omega) (by omega)
    omega
  have i2 : (c : Int) * (y - x) ≤ (x.natAbs : Int) := by
    have a : ((c * (x - y).natAbs : Nat) : Int) ≤ (x.natAbs : Int) := by exact_mod_cast h
    rw [Int.natCast_mul] at a
    have b : (c : Int) * (y - x) ≤ (c : Int) * ((x - y).natAbs : Int) := Int.mul_le_mul_of_nonneg_left (by omega) (by omega)
    omega
  have j1 := key i1
  have j2 := key i2
  have s1 : ((x - y : Int) : Rat) = (x : Rat) - (y : Rat) := Rat.intCast_sub _ _
  have s2 : ((y - x : Int) : Rat) = (y : Rat) - (x : Rat) := Rat.intCast_sub _ _
  rw [s1] at j1
  rw [s2] at j2
  have n1 : ((x.natAbs : Int) : Rat) * kk ≤ mag ((x : Rat) * kk) := by
    have m := mag_le ((x : Rat) * kk)
    rcases Int.le_total 0 x with q | q
    · rw [show ((x.natAbs : Int)) = x by omega]; exact m.2.1
    · rw [show ((x.natAbs : Int)) = -x by omega, Rat.intCast_neg]
      have : -(x : Rat) * kk = -((x : Rat) * kk) := by grind
      rw [this]; grind
  have c0 : (0 : Rat) ≤ ((c : Int) : Rat) := Rat.intCast_nonneg.2 (by omega)
  generalize mag ((x : Rat) * kk) = M at *
  generalize ((c : Int) : Rat) = C at *
  have e1 : ((x : Rat) - (y : Rat)) * kk = (x : Rat) * kk - (y : Rat) * kk := by grind
  have e2 : ((y : Rat) - (x : Rat)) * kk = -((x : Rat) * kk - (y : Rat) * kk) := by grind
  rw [e1] at j1
  rw [e2] at j2
  generalize (x : Rat) * kk - (y : Rat) * kk = d at *
  unfold mag
  split
  · grind
  · grind
theorem one_unit (a : Nat) : Q a = ((V a * 2 ^ 1074 : Int) : Rat) * kk := by
  rw [Rat.intCast_mul, unit_cast, ← kk_of]
  have : (V a : Rat) * unit / unit = V a := unit_div
  rw [this]; rfl
theorem c53 : (((2 ^ 53 : Nat) : Int) : Rat) * uR = 1 := by decide +kernel
theorem by_c {c u X Y : Rat} (h : c * X ≤ Y) (e : c * u = 1) (u0 : 0 ≤ u) : X ≤ u * Y := by
  have := Rat.mul_le_mul_of_nonneg_left h u0
  have e' : u * (c * X) = c * u * X := by grind
  rw [e', e] at this
  grind
theorem quo_rat {a n : Nat} (h : 2 ^ 53 * (V (qX a n) * V n - V a * 2 ^ 1074).natAbs ≤ (V (qX a n) * V n).natAbs) : mag (Q (qX a n) * Q n - Q a) ≤ uR * mag (Q (qX a n) * Q n) := by
  have := rel_rat h
  rw [← one_unit, ← kk_of, ← Q_times] at this
  exact by_c this c53 uR0
/-! ### fractions -/
/-! ### the words -/
def sm : Rat := mkRat 1 (2^200)
theorem sm0 : 0 ≤ sm := by decide +kernel
end Go.Proofs.Ytnmadknpkhaolaa

namespace Go.Proofs.Ytnmadknpkhaolaa
open Go.ChangeShapes Go.WideShapes Go.ChangeAt Go.RowKit Ieee.Own

/-! ### halves -/
/-! ### Hull, Meet -/
def meetB (a0 b0 a1 b1 : Nat) : Bool := decide (V (mxW a0 a1) ≤ V (mnW b0 b1))
def meetX (a0 b0 a1 b1 : Nat) : Nat := if meetB a0 b0 a1 b1 = true then posW (mxW a0 a1) else 0
def meetY (a0 b0 a1 b1 : Nat) : Nat := if meetB a0 b0 a1 b1 = true then posW (mnW b0 b1) else 0
section
variable {a0 b0 a1 b1 : Nat} (ha0 : a0 < 18446744073709551616) (hb0 : b0 < 18446744073709551616) (ha1 : a1 < 18446744073709551616) (hb1 : b1 < 18446744073709551616) (h0 : errSS a0 b0 a1 b1 = 0)
include ha0 hb0 ha1 hb1 h0
end

end Go.Proofs.Ytnmadknpkhaolaa

namespace Go.Proofs.Ytnmadknpkhaolaa
open Go.ChangeShapes Go.WideShapes Go.ChangeAt Go.RowKit Ieee.Own

/-! ### each operation, of single numbers -/
/-! ### thin -/
end Go.Proofs.Ytnmadknpkhaolaa
