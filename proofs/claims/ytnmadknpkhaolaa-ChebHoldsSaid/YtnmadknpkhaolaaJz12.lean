/- Proved here: what the texts Vme, Vmd, Vmf, Vmt, Vun, Sset, Thn prove, one behind the other. -/
import Derived.Test.YtnmadknpkhaolaaJz11
import Derived.Test.YtnmadknpkhaolaaJz8
import Derived.Test.YtnmadknpkhaolaaJz10
import Derived.Test.YtnmadknpkhaolaaJz6
import Derived.Test.YtnmadknpkhaolaaJz7
import Derived.BigQuiet

namespace Go.Proofs.Ytnmadknpkhaolaa
open Go.ChangeShapes Go.WideShapes Go.ChangeAt Go.RowKit Ieee.Own

theorem most60 : val 52 4877398396442247168 = 2 ^ 1134 := by decide +kernel
theorem vnB_small {x : Nat} (hx : FinW x) (f : fitB x = true) (h : (V x).natAbs ≤ 2 ^ 1134) : vnB x = true := by
  unfold vnB
  rw [decide_eq_true_eq]
  refine ⟨f, Nat.le_of_not_lt fun c => ?_⟩
  have := val_lt (F := 52) c
  rw [V_abs' x hx, ← most60] at h
  omega
theorem vnB_bW {x : Nat} (hx : FinW x) (h : (V x).natAbs ≤ 2 ^ 1134) : vnB (bW x) = true := by
  by_cases f : fitB x = true
  · have e : bW x = aX x 0 := by unfold bW; rw [if_neg (fun h => by rw [f] at h; cases h.1)]
    have p := plus0 hx
    rw [e, vnB_mag (mag_eq p.2.1 hx (by rw [p.2.2]))]
    exact vnB_small hx f h
  · by_cases m : x % 9223372036854775808 < 4607182418800017408
    · have e : bW x = 0 := by unfold bW; rw [if_pos ⟨Bool.eq_false_iff.2 f, m⟩]
      rw [e]; decide
    · exfalso
      refine f ((fit_iff hx).2 (.inr ?_))
      have a : 2 ^ 1074 ≤ (V x).natAbs := by
        rw [V_abs' x hx]
        have e : val 52 4607182418800017408 = 2 ^ 1074 := by decide +kernel
        rw [← e]
        by_cases q : x % 9223372036854775808 = 4607182418800017408
        · rw [q]; exact Nat.le_refl _
        · exact Nat.le_of_lt (val_lt (by omega))
      have b1 : leastV ≤ ((2 ^ 1074 : Nat) : Int) := by decide +kernel
      have b2 : ((2 ^ 1134 : Nat) : Int) ≤ mostV := by decide +kernel
      have a' : ((2 ^ 1074 : Nat) : Int) ≤ ((V x).natAbs : Int) := Int.ofNat_le.2 a
      have h' : ((V x).natAbs : Int) ≤ ((2 ^ 1134 : Nat) : Int) := Int.ofNat_le.2 h
      exact ⟨Int.le_trans b1 a', Int.le_trans h' b2⟩
theorem bW_fit {x : Nat} (hx : FinW x) (f : fitB x = true) : V (bW x) = V x := by
  unfold bW
  rw [if_neg (fun h => by rw [f] at h; cases h.1)]
  exact (plus0 hx).2.2

/-! ### matrices -/
structure F9 (m : M9) : Prop where
  f1 : F3 m.1
  f2 : F3 m.2.1
  f3 : F3 m.2.2
theorem F9.w {m : M9} (h : F9 m) : W9 m := ⟨h.f1.w, h.f2.w, h.f3.w⟩
/-! ### Apply -/
structure D9 (m : M9) : Prop where
  d1 : D3 m.1
  d2 : D3 m.2.1
  d3 : D3 m.2.2
/-! ### Flip -/
theorem D3.f {p : V3} (h : D3 p) : F3 p := ⟨h.w1.fin, h.w2.fin, h.w3.fin⟩
theorem D9.f {m : M9} (h : D9 m) : F9 m := ⟨h.d1.f, h.d2.f, h.d3.f⟩
end Go.Proofs.Ytnmadknpkhaolaa

namespace Go.Proofs.Ytnmadknpkhaolaa
open Go.ChangeShapes Go.WideShapes Go.ChangeAt Go.RowKit Ieee.Own

end Go.Proofs.Ytnmadknpkhaolaa

namespace Go.Proofs.Ytnmadknpkhaolaa
open Go.ChangeShapes Go.WideShapes Go.ChangeAt Go.RowKit Ieee.Own

/-- the matrix that turns -/
def tM (a : Int) (s c n : Nat) : M9 := if a = 0 then ((oneW, 0, 0), (0, c, n), (0, s, c)) else if a = 1 then ((c, 0, s), (0, oneW, 0), (n, 0, c)) else ((c, n, 0), (s, c, 0), (0, 0, oneW))
/-- what Turned answers -/
structure TurnR (a : Int) (x : Nat) (R : M9 × Int) : Prop where
  no : R.2 ≠ 0 → R.1 = z9
  ok : R.2 = 0 → (0 ≤ a ∧ a ≤ 2) ∧ errA x = 0 ∧ ∃ s c, Trig x s c ∧ R.1 = tM a (bW s) (bW c) (negN (bW s))
theorem TurnR.of {a : Int} {x s c : Nat} (h : 0 ≤ a ∧ a ≤ 2) (e : errA x = 0) (T : Trig x s c) : TurnR a x (tM a (bW s) (bW c) (negN (bW s)), 0) := ⟨fun h => absurd rfl h, fun _ => ⟨h, e, s, c, T, rfl⟩⟩
theorem TurnR.bad (a : Int) (x : Nat) {k : Int} (h : k ≠ 0) : TurnR a x (z9, k) := ⟨fun _ => rfl, fun e => absurd e h⟩
/-! ### what came in -/
end Go.Proofs.Ytnmadknpkhaolaa

namespace Pol
open Go.Proofs.Ytnmadknpkhaolaa

end Pol

namespace Go.Proofs.Ytnmadknpkhaolaa
open Ieee.Own Pol

def kk : Rat := 1 / unit / unit
/-! ### fractions -/
/-! ### the words -/
def sm : Rat := mkRat 1 (2^200)
end Go.Proofs.Ytnmadknpkhaolaa

namespace Go.Proofs.Ytnmadknpkhaolaa
open Go.ChangeShapes Go.WideShapes Go.ChangeAt Go.RowKit Ieee.Own

/-! ### halves -/
/-! ### Hull, Meet -/
theorem pos_fit {x : Nat} (h : x < 18446744073709551616) (f : fitB x = true) : fitB (posW x) = true ∧ posW x < 18446744073709551616 := by
  have := posW_fin (fit_fin h f)
  exact ⟨(fit_iff this).2 (by rw [posW_V]; exact (fit_iff (fit_fin h f)).1 f), this.1⟩
theorem mn_fit {x y : Nat} (hx : x < 18446744073709551616) (hy : y < 18446744073709551616) (f : fitB x = true) (g : fitB y = true) : fitB (mnW x y) = true := by
  rcases (mnW_spec (fit_fin hx f) (fit_fin hy g)).1 with h | h <;> rw [h] <;> assumption
theorem mx_fit {x y : Nat} (hx : x < 18446744073709551616) (hy : y < 18446744073709551616) (f : fitB x = true) (g : fitB y = true) : fitB (mxW x y) = true := by
  rcases (mxW_spec (fit_fin hx f) (fit_fin hy g)).1 with h | h <;> rw [h] <;> assumption
theorem errS_fit {a b : Nat} (f1 : fitB a = true) (f2 : fitB b = true) : errS a b = if V b < V a then 5 else 0 := by unfold errS; rw [if_pos ⟨f1, f2⟩]
def meetB (a0 b0 a1 b1 : Nat) : Bool := decide (V (mxW a0 a1) ≤ V (mnW b0 b1))
def meetX (a0 b0 a1 b1 : Nat) : Nat := if meetB a0 b0 a1 b1 = true then posW (mxW a0 a1) else 0
def meetY (a0 b0 a1 b1 : Nat) : Nat := if meetB a0 b0 a1 b1 = true then posW (mnW b0 b1) else 0
section
variable {a0 b0 a1 b1 : Nat} (ha0 : a0 < 18446744073709551616) (hb0 : b0 < 18446744073709551616) (ha1 : a1 < 18446744073709551616) (hb1 : b1 < 18446744073709551616) (h0 : errSS a0 b0 a1 b1 = 0)
include ha0 hb0 ha1 hb1 h0
theorem hull_make : makeE (mnW a0 a1) (mxW b0 b1) = spanE (posW (mnW a0 a1)) (posW (mxW b0 b1)) 0 := by
  obtain ⟨e1, e2⟩ := errSS_zero h0
  obtain ⟨f1, f2, le1⟩ := errS_zero e1
  obtain ⟨f3, f4, le2⟩ := errS_zero e2
  have s1 := mnW_spec (fit_fin ha0 f1) (fit_fin ha1 f3)
  have s2 := mxW_spec (fit_fin hb0 f2) (fit_fin hb1 f4)
  have e : errS (mnW a0 a1) (mxW b0 b1) = 0 := by
    rw [errS_fit (mn_fit ha0 ha1 f1 f3) (mx_fit hb0 hb1 f2 f4), if_neg (by omega)]
  unfold makeE
  rw [if_pos e]
end

set_option maxRecDepth 100000 in
theorem shull_ok {a0 b0 a1 b1 : Nat} (ha0 : a0 < 18446744073709551616) (hb0 : b0 < 18446744073709551616) (ha1 : a1 < 18446744073709551616) (hb1 : b1 < 18446744073709551616) (h0 : errSS a0 b0 a1 b1 = 0) (w : World) : Calls Try.prog 78 #[spanV a0 b0, spanV a1 b1] w fun e w' => e = .returned (spanE (posW (mnW a0 a1)) (posW (mxW b0 b1)) 0) ∧ Below w.heap.size w w' := by
  obtain ⟨e1, e2⟩ := errSS_zero h0
  obtain ⟨f1, f2, le1⟩ := errS_zero e1
  obtain ⟨f3, f4, le2⟩ := errS_zero e2
  have g1 := fit_fin ha0 f1
  have g2 := fit_fin hb0 f2
  have g3 := fit_fin ha1 f3
  have g4 := fit_fin hb1 f4
  have M1 := fun ts t w => run_minf2 (P := Try.prog) g1 g3 ts t w
  have M2 := fun ts t w => run_maxf2 (P := Try.prog) g2 g4 ts t w
  have MK := Lib.hid (fun w => make_run (mnW a0 a1) (mxW b0 b1) (mnW_fin g1 g3).1 (mxW_fin g2 g4).1 w)
  rw [hull_make ha0 hb0 ha1 hb1 h0] at MK
  unfold spanE at MK
  clear g1 g2 g3 g4
  generalize posW (mnW a0 a1) = x at *
  generalize posW (mxW b0 b1) = y at *
  generalize mnW a0 a1 = p at *
  generalize mxW b0 b1 = q at *
  have CB := Lib.hid (fun w => sboth_run a0 b0 a1 b1 ha0 hb0 ha1 hb1 w)
  have S0 : Blocks w (([boxO a0 b0] ++ [boxO a1 b1]) ++ [zeroO]) (((w.alloc (boxO a0 b0)).alloc (boxO a1 b1)).alloc zeroO) := (((Blocks.nil w).alloc (by simp) _).alloc (by simp) _).alloc (by simp) _
  unfold boxO zeroO at S0
  unfold spanV at *
  replace S0 := Lib.hid S0
  have hst := @fstore
  rw [h0] at CB
  clear h0 e1 e2 f1 f2 f3 f4 le1 le2 ha0 hb0 ha1 hb1
  go_enter Try.func78, Try.ntmps78
  go_wp2_with fail
  have S := S0.out
  clear S0
  generalize ((w.alloc _).alloc _).alloc _ = wr at *
  refine (CB.out wr).mono ?_
  rintro _ w1 ⟨rfl, hb1⟩
  have S1 := S.on hb1
  have c00 := S1.cell 0 rfl 0 w.heap.size rfl
  have c01 := S1.cell 0 rfl 1 w.heap.size rfl
  have c10 := S1.cell 1 rfl 0 (w.heap.size + 1) rfl
  have c11 := S1.cell 1 rfl 1 (w.heap.size + 1) rfl
  replace S1 := Lib.hid S1
  clear S hb1
  go_wp2_with fail
  refine (MK.out w1).mono ?_
  rintro _ w2 ⟨rfl, hb2⟩
  have S2 := S1.out.on hb2
  have r0 := S2.cell 2 rfl 0 (w.heap.size + 1 + 1) rfl
  have r1 := S2.cell 2 rfl 1 (w.heap.size + 1 + 1) rfl
  have f0 := S2.free 2 rfl 0 (w.heap.size + 1 + 1) rfl
  have f1 := S2.free 2 rfl 1 (w.heap.size + 1 + 1) rfl
  have B2 := Lib.hid S2.old
  clear S1 S2 hb2 c00 c01 c10 c11
  go_wp2_with fail
  (try simp only [Exit.inBlock, Exit.then])
  refine bodyPost_ret (v := spanE x y 0) ?_ rfl ⟨rfl, ?_⟩
  · rw [results_cell_tmp rfl]; unfold spanE; go_simp
  · exact (B2.out.setCell (by show _ ≤ (w.heap.size + 1 + 1); omega) _).setCell (by show _ ≤ (w.heap.size + 1 + 1); omega) _

end Go.Proofs.Ytnmadknpkhaolaa

namespace Go.Proofs.Ytnmadknpkhaolaa
open Go.ChangeShapes Go.WideShapes Go.ChangeAt Go.RowKit Ieee.Own

theorem key_V {a b : Nat} (ha : FinW a) (hb : FinW b) : key64 a = key64 b ↔ V a = V b := by
  have h1 := V_lt_key ha hb
  have h2 := V_lt_key hb ha
  omega
/-! ### each operation, of single numbers -/
/-! ### thin -/
end Go.Proofs.Ytnmadknpkhaolaa
