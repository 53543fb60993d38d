/- Proved here: what the texts Vme prove, one behind the other. -/
import Derived.Test.YtkpdnhbifokhlaaJv7
import Derived.Test.YtkpdnhbifokhlaaJv4

namespace Go.Proofs.Ytkpdnhbifokhlaa
open Go.ChangeShapes Go.WideShapes Go.ChangeAt Go.RowKit Ieee.Own

theorem most60 : val 52 4877398396442247168 = 2 ^ 1134 := by decide +kernel
theorem vnB_small {x : Nat} (hx : FinW x) (f : fitB x = true) (h : (V x).natAbs ≤ 2 ^ 1134) : vnB x = true := by
  unfold vnB
  rw [decide_eq_true_eq]
  refine ⟨f, Nat.le_of_not_lt fun c => ?_⟩
  have := val_lt (F := 52) c
  rw [V_abs' x hx, ← most60] at h
  omega
theorem vnB_bW {x : Nat} (hx : FinW x) (h : (V x).natAbs ≤ 2 ^ 1134) : vnB (bW x) = true := by
  by_cases f : fitB x = true
  · have e : bW x = aX x 0 := by unfold bW; rw [if_neg (fun h => by rw [f] at h; cases h.1)]
    have p := plus0 hx
    rw [e, vnB_mag (mag_eq p.2.1 hx (by rw [p.2.2]))]
    exact vnB_small hx f h
  · by_cases m : x % 9223372036854775808 < 4607182418800017408
    · have e : bW x = 0 := by unfold bW; rw [if_pos ⟨Bool.eq_false_iff.2 f, m⟩]
      rw [e]; decide
    · exfalso
      refine f ((fit_iff hx).2 (.inr ?_))
      have a : 2 ^ 1074 ≤ (V x).natAbs := by
        rw [V_abs' x hx]
        have e : val 52 4607182418800017408 = 2 ^ 1074 := by decide +kernel
        rw [← e]
        by_cases q : x % 9223372036854775808 = 4607182418800017408
        · rw [q]; exact Nat.le_refl _
        · exact Nat.le_of_lt (val_lt (by omega))
      have b1 : leastV ≤ ((2 ^ 1074 : Nat) : Int) := by decide +kernel
      have b2 : ((2 ^ 1134 : Nat) : Int) ≤ mostV := by decide +kernel
      have a' : ((2 ^ 1074 : Nat) : Int) ≤ ((V x).natAbs : Int) := Int.ofNat_le.2 a
      have h' : ((V x).natAbs : Int) ≤ ((2 ^ 1134 : Nat) : Int) := Int.ofNat_le.2 h
      exact ⟨Int.le_trans b1 a', Int.le_trans h' b2⟩
theorem bW_fit {x : Nat} (hx : FinW x) (f : fitB x = true) : V (bW x) = V x := by
  unfold bW
  rw [if_neg (fun h => by rw [f] at h; cases h.1)]
  exact (plus0 hx).2.2

/-! ### matrices -/
def bM (m : M9) : M9 := (bV m.1, bV m.2.1, bV m.2.2)
structure F9 (m : M9) : Prop where
  f1 : F3 m.1
  f2 : F3 m.2.1
  f3 : F3 m.2.2
theorem F9.w {m : M9} (h : F9 m) : W9 m := ⟨h.f1.w, h.f2.w, h.f3.w⟩
def toldM (m : M9) : M9 × Int := if fitM (bM m) = true then (bM m, 0) else (z9, 3)
theorem fitM_of {m : M9} (h : fitM m = true) : fitV m.1 = true ∧ fitV m.2.1 = true ∧ fitV m.2.2 = true := by
  unfold fitM at h
  simp only [Bool.and_eq_true] at h
  exact ⟨h.1.1, h.1.2, h.2⟩
set_option maxHeartbeats 4000000 in
set_option maxRecDepth 100000 in
theorem vtoldmat_any {m : M9} (h : F9 m) (w : World) : Calls Try.prog 90 #[matV m] w fun e w' => e = .returned (matE (toldM m).1 (toldM m).2) ∧ Below w.heap.size w w' := by
  have C1 := fun w => vtold_run h.f1 w
  have C2 := fun w => vtold_run h.f2 w
  have C3 := fun w => vtold_run h.f3 w
  have ok : ∀ {p : V3}, fitV (bV p) = true → toldR p = (bV p, 0) := fun h => if_pos h
  have no : ∀ {p : V3}, ¬ fitV (bV p) = true → toldR p = (z3, 3) := fun h => if_neg h
  by_cases h1 : fitV (bV m.1) = true
  · rw [ok h1] at C1
    by_cases h2 : fitV (bV m.2.1) = true
    · rw [ok h2] at C2
      by_cases h3 : fitV (bV m.2.2) = true
      · rw [ok h3] at C3
        have e : toldM m = (bM m, 0) := if_pos (by unfold fitM bM; rw [h1, h2, h3]; rfl)
        rw [e]
        exact vtoldmat_ok (Lib.hid C1) (Lib.hid C2) (Lib.hid C3) w
      · rw [no h3] at C3
        have e : toldM m = (z9, 3) := if_neg (fun q => h3 (fitM_of q).2.2)
        rw [e]
        exact vtoldmat_no2 (by decide) (Lib.hid C1) (Lib.hid C2) (Lib.hid C3) w
    · rw [no h2] at C2
      have e : toldM m = (z9, 3) := if_neg (fun q => h2 (fitM_of q).2.1)
      rw [e]
      exact vtoldmat_no1 (by decide) (Lib.hid C1) (Lib.hid C2) w
  · rw [no h1] at C1
    have e : toldM m = (z9, 3) := if_neg (fun q => h1 (fitM_of q).1)
    rw [e]
    exact vtoldmat_no0 (by decide) (Lib.hid C1) w

/-! ### Apply -/
def applyR (m : M9) (v : V3) : V3 × Int := if (fitM m && fitV v) = true then toldR (dW m.1 v, dW m.2.1 v, dW m.2.2 v) else (z3, 3)
structure D9 (m : M9) : Prop where
  d1 : D3 m.1
  d2 : D3 m.2.1
  d3 : D3 m.2.2
theorem fitM_wd {m : M9} (h : W9 m) (f : fitM m = true) : D9 m := ⟨fitV_wd h.w1 (fitM_of f).1, fitV_wd h.w2 (fitM_of f).2.1, fitV_wd h.w3 (fitM_of f).2.2⟩
set_option maxHeartbeats 4000000 in
set_option maxRecDepth 100000 in
theorem vapply_any {m : M9} {v : V3} (hm : W9 m) (hv : W3 v) (w : World) : Calls Try.prog 72 #[matV m, vecV v] w fun e w' => e = .returned (vecE (applyR m v).1 (applyR m v).2) ∧ Below w.heap.size w w' := by
  have C1 := fun w => vfitmat_run hm w
  have C2 := fun w => vfit_run hv w
  by_cases h1 : fitM m = true
  · rw [h1] at C1
    by_cases h2 : fitV v = true
    · rw [h2] at C2
      have e : applyR m v = toldR (dW m.1 v, dW m.2.1 v, dW m.2.2 v) := if_pos (by rw [h1, h2]; rfl)
      rw [e]
      have D := fitM_wd hm h1
      have E := (fitV_wd hv h2).bd
      have o1 := dot_ok D.d1.bd E
      have o2 := dot_ok D.d2.bd E
      have o3 := dot_ok D.d3.bd E
      have C4 := fun w => vtold_run (p := (dW m.1 v, dW m.2.1 v, dW m.2.2 v)) ⟨o1.fin, o2.fin, o3.fin⟩ w
      have P1 := fun w => vprod_run o1 w
      have P2 := fun w => vprod_run o2 w
      have P3 := fun w => vprod_run o3 w
      exact vapply_ok (Lib.hid C1) (Lib.hid C2) (Lib.hid fun w => vprods_ok (Lib.hid P1) (Lib.hid P2) (Lib.hid P3) w) (Lib.hid C4) w
    · rw [Bool.eq_false_iff.2 h2] at C2
      have e : applyR m v = (z3, 3) := if_neg (by rw [Bool.eq_false_iff.2 h2]; simp)
      rw [e]
      exact vapply_nv (Lib.hid C1) (Lib.hid C2) w
  · rw [Bool.eq_false_iff.2 h1] at C1
    have e : applyR m v = (z3, 3) := if_neg (by rw [Bool.eq_false_iff.2 h1]; simp)
    rw [e]
    exact vapply_nm (Lib.hid C1) w
/-! ### Flip -/
theorem D3.f {p : V3} (h : D3 p) : F3 p := ⟨h.w1.fin, h.w2.fin, h.w3.fin⟩
theorem D9.f {m : M9} (h : D9 m) : F9 m := ⟨h.d1.f, h.d2.f, h.d3.f⟩
end Go.Proofs.Ytkpdnhbifokhlaa
