/- Proved here: what the texts Vme prove, one behind the other. -/
import Derived.Test.YtgnofnjbmiepjaaJv7
import Derived.Test.YtgnofnjbmiepjaaJv4

namespace Go.Proofs.Ytgnofnjbmiepjaa
open Go.ChangeShapes Go.WideShapes Go.ChangeAt Go.RowKit Ieee.Own

theorem most60 : val 52 4877398396442247168 = 2 ^ 1134 := by decide +kernel
theorem vnB_small {x : Nat} (hx : FinW x) (f : fitB x = true) (h : (V x).natAbs ≤ 2 ^ 1134) : vnB x = true := by
  unfold vnB
  rw [decide_eq_true_eq]
  refine ⟨f, Nat.le_of_not_lt fun c => ?_⟩
  have := val_lt (F := 52) c
  rw [V_abs' x hx, ← most60] at h
  omega
theorem vnB_bW {x : Nat} (hx : FinW x) (h : (V x).natAbs ≤ 2 ^ 1134) : vnB (bW x) = true := by
  by_cases f : fitB x = true
  · have e : bW x = aX x 0 := by unfold bW; rw [if_neg (fun h => by rw [f] at h; cases h.1)]
    have p := plus0 hx
    rw [e, vnB_mag (mag_eq p.2.1 hx (by rw [p.2.2]))]
    exact vnB_small hx f h
  · by_cases m : x % 9223372036854775808 < 4607182418800017408
    · have e : bW x = 0 := by unfold bW; rw [if_pos ⟨Bool.eq_false_iff.2 f, m⟩]
      rw [e]; decide
    · exfalso
      refine f ((fit_iff hx).2 (.inr ?_))
      have a : 2 ^ 1074 ≤ (V x).natAbs := by
        rw [V_abs' x hx]
        have e : val 52 4607182418800017408 = 2 ^ 1074 := by decide +kernel
        rw [← e]
        by_cases q : x % 9223372036854775808 = 4607182418800017408
        · rw [q]; exact Nat.le_refl _
        · exact Nat.le_of_lt (val_lt (by omega))
      have b1 : leastV ≤ ((2 ^ 1074 : Nat) : Int) := by decide +kernel
      have b2 : ((2 ^ 1134 : Nat) : Int) ≤ mostV := by decide +kernel
      have a' : ((2 ^ 1074 : Nat) : Int) ≤ ((V x).natAbs : Int) := Int.ofNat_le.2 a
      have h' : ((V x).natAbs : Int) ≤ ((2 ^ 1134 : Nat) : Int) := Int.ofNat_le.2 h
      exact ⟨Int.le_trans b1 a', Int.le_trans h' b2⟩
theorem bW_fit {x : Nat} (hx : FinW x) (f : fitB x = true) : V (bW x) = V x := by
  unfold bW
  rw [if_neg (fun h => by rw [f] at h; cases h.1)]
  exact (plus0 hx).2.2

/-! ### matrices -/
def bM (m : M9) : M9 := (bV m.1, bV m.2.1, bV m.2.2)
structure F9 (m : M9) : Prop where
  f1 : F3 m.1
  f2 : F3 m.2.1
  f3 : F3 m.2.2
theorem F9.w {m : M9} (h : F9 m) : W9 m := ⟨h.f1.w, h.f2.w, h.f3.w⟩
/-! ### Apply -/
def applyR (m : M9) (v : V3) : V3 × Int := if (fitM m && fitV v) = true then toldR (dW m.1 v, dW m.2.1 v, dW m.2.2 v) else (z3, 3)
structure D9 (m : M9) : Prop where
  d1 : D3 m.1
  d2 : D3 m.2.1
  d3 : D3 m.2.2
/-! ### Flip -/
theorem D3.f {p : V3} (h : D3 p) : F3 p := ⟨h.w1.fin, h.w2.fin, h.w3.fin⟩
theorem D9.f {m : M9} (h : D9 m) : F9 m := ⟨h.d1.f, h.d2.f, h.d3.f⟩
end Go.Proofs.Ytgnofnjbmiepjaa
