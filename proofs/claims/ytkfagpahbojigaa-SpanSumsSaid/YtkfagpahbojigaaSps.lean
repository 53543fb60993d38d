/- Proved here: what span's own sum, product, quotient and root answer: the two numbers next to the exact result; over the translated code. -/
import Derived.Test.YtkfagpahbojigaaSpo
namespace Go.Proofs.Ytkfagpahbojigaa
open Go.ChangeShapes Go.WideShapes Go.ChangeAt Go.RowKit Ieee.Own

/-- a call that answers the span of the two numbers next to an exact result -/
def Ends (f : FuncId) (args : Array Value) (c : Int → Int) : Prop :=
  ∃ lo hi, Dn c lo ∧ Up c hi ∧ ∀ w, Calls Try.prog f args w fun e w' => e = .returned (spanV lo hi) ∧ Below w.heap.size w w'

theorem ssum_run {x y : Nat} (hx : x < 18446744073709551616) (hy : y < 18446744073709551616) (h1 : fitB x = true) (h2 : fitB y = true) : Ends 46 #[.float .f64 x, .float .f64 y] (fun v => V x + V y - v) := by
  obtain ⟨s, e, R, ⟨-, -, K, hK, hs, -⟩, C⟩ := sum_fit x y hx hy h1 h2
  refine ⟨_, _, sum_dn R (bd_of hs hK), sum_up R (bd_of hs hK), fun w => ?_⟩
  have A := Lib.hid (fun w => about_run s e R.fs R.fe w)
  generalize dnW (V e < 0) s = lo at *
  generalize upW (0 < V e) s = hi at *
  have S0 : Blocks w [zeroO] (w.alloc zeroO) := (Blocks.nil w).alloc (by simp) _
  unfold zeroO at S0
  unfold spanV at *
  unfold ffi at C
  replace S0 := Lib.hid S0
  have hst := @fstore
  clear R hs hK hx hy h1 h2
  go_enter Try.func46, Try.ntmps46
  go_wp2_with (go_at_call 68; ((with_reducible refine (C _).mono ?_); rintro e w' ⟨rfl, rfl⟩))
  have S := S0.out
  clear S0
  generalize w.alloc _ = wr at *
  refine (A.out wr).mono ?_
  rintro _ w1 ⟨rfl, hb1⟩
  have S1 := S.on hb1
  have c0 := S1.cell 0 rfl 0 w.heap.size rfl
  have c1 := S1.cell 0 rfl 1 w.heap.size rfl
  have f0 := S1.free 0 rfl 0 w.heap.size rfl
  have f1 := S1.free 0 rfl 1 w.heap.size rfl
  have B1 := Lib.hid S1.old
  clear S S1 hb1
  go_wp2_with fail
  (try simp only [Exit.inBlock, Exit.then])
  refine bodyPost_ret (v := .agg #[.float .f64 lo, .float .f64 hi]) ?_ rfl ⟨rfl, ?_⟩
  · rw [results_cell1 rfl]; go_simp
  · exact (B1.out.setCell (by show _ ≤ w.heap.size; omega) _).setCell (by show _ ≤ w.heap.size; omega) _
theorem sprod_run {x y : Nat} (hx : x < 18446744073709551616) (hy : y < 18446744073709551616) (h1 : fitB x = true) (h2 : fitB y = true) : Ends 54 #[.float .f64 x, .float .f64 y] (prodC x y) := by
  obtain ⟨p, r, N, Z, g, R, -, ⟨-, -, K, hK, hs, -⟩, C⟩ := prod_fit x y hx hy h1 h2
  refine ⟨_, _, prod_dn R (bd_of hs hK), prod_up R (bd_of hs hK), fun w => ?_⟩
  have A := Lib.hid (fun w => about_run p r R.fp R.fe w)
  generalize dnW (V r < 0) p = lo at *
  generalize upW (0 < V r) p = hi at *
  have S0 : Blocks w [zeroO] (w.alloc zeroO) := (Blocks.nil w).alloc (by simp) _
  unfold zeroO at S0
  unfold spanV at *
  unfold ffi at C
  replace S0 := Lib.hid S0
  have hst := @fstore
  clear R hs hK hx hy h1 h2
  go_enter Try.func54, Try.ntmps54
  go_wp2_with (go_at_call 76; ((with_reducible refine (C _).mono ?_); rintro e w' ⟨rfl, rfl⟩))
  have S := S0.out
  clear S0
  generalize w.alloc _ = wr at *
  refine (A.out wr).mono ?_
  rintro _ w1 ⟨rfl, hb1⟩
  have S1 := S.on hb1
  have c0 := S1.cell 0 rfl 0 w.heap.size rfl
  have c1 := S1.cell 0 rfl 1 w.heap.size rfl
  have f0 := S1.free 0 rfl 0 w.heap.size rfl
  have f1 := S1.free 0 rfl 1 w.heap.size rfl
  have B1 := Lib.hid S1.old
  clear S S1 hb1
  go_wp2_with fail
  (try simp only [Exit.inBlock, Exit.then])
  refine bodyPost_ret (v := .agg #[.float .f64 lo, .float .f64 hi]) ?_ rfl ⟨rfl, ?_⟩
  · rw [results_cell1 rfl]; go_simp
  · exact (B1.out.setCell (by show _ ≤ w.heap.size; omega) _).setCell (by show _ ≤ w.heap.size; omega) _
theorem sroot_run {x : Nat} (hx : x < 18446744073709551616) (h1 : fitB x = true) (h0 : 0 ≤ V x) : Ends 59 #[.float .f64 x] (rootC x) := by
  obtain ⟨q, r, N, Z, g, o, R, C⟩ := root_fit x hx h1 h0
  refine ⟨_, _, root_dn hx h1 h0 o R, root_up hx h1 h0 o R, fun w => ?_⟩
  have A := Lib.hid (fun w => about_run q r R.fq R.fr w)
  generalize dnW (V r < 0) q = lo at *
  generalize upW (0 < V r) q = hi at *
  have S0 : Blocks w [zeroO] (w.alloc zeroO) := (Blocks.nil w).alloc (by simp) _
  unfold zeroO at S0
  unfold spanV at *
  unfold ffi at C
  replace S0 := Lib.hid S0
  have hst := @fstore
  clear R o hx h1 h0
  go_enter Try.func59, Try.ntmps59
  go_wp2_with (go_at_call 80; ((with_reducible refine (C _).mono ?_); rintro e w' ⟨rfl, rfl⟩))
  have S := S0.out
  clear S0
  generalize w.alloc _ = wr at *
  refine (A.out wr).mono ?_
  rintro _ w1 ⟨rfl, hb1⟩
  have S1 := S.on hb1
  have c0 := S1.cell 0 rfl 0 w.heap.size rfl
  have c1 := S1.cell 0 rfl 1 w.heap.size rfl
  have f0 := S1.free 0 rfl 0 w.heap.size rfl
  have f1 := S1.free 0 rfl 1 w.heap.size rfl
  have B1 := Lib.hid S1.old
  clear S S1 hb1
  go_wp2_with fail
  (try simp only [Exit.inBlock, Exit.then])
  refine bodyPost_ret (v := .agg #[.float .f64 lo, .float .f64 hi]) ?_ rfl ⟨rfl, ?_⟩
  · rw [results_cell1 rfl]; go_simp
  · exact (B1.out.setCell (by show _ ≤ w.heap.size; omega) _).setCell (by show _ ≤ w.heap.size; omega) _
theorem squot_run {x y : Nat} (hx : x < 18446744073709551616) (hy : y < 18446744073709551616) (h1 : fitB x = true) (h2 : fitB y = true) (h0 : V y ≠ 0) : Ends 56 #[.float .f64 x, .float .f64 y] (quotC x y) := by
  obtain ⟨q, r, N, Z, g, o, R, C⟩ := quot_fit x y hx hy h1 h2 h0
  have AJ := quot_adj hx hy h1 h2 h0 o R.bd'
  have t := lt_words (fit_fin hy h2) zero_fin
  rw [V_zero] at t
  have eq := quot_c R
  have NR := fun w => xneg' r R.fr.1 w
  by_cases hy0 : V y < 0
  · rw [decide_eq_true hy0] at t
    rw [if_pos hy0, ← negW_V R.fr] at eq
    refine ⟨_, _, AJ.dn (p := V (negW r) < 0) (by rw [eq]; exact (cut_sign _).1.symm), AJ.upp (p := 0 < V (negW r)) (by rw [eq]; exact (cut_sign _).2.symm), fun w => ?_⟩
    have A := Lib.hid (fun w => about_run q (negW r) R.fq (negW_fin R.fr) w)
    clear eq
    generalize negW r = n at *
    generalize dnW (V n < 0) q = lo at *
    generalize upW (0 < V n) q = hi at *
    have S0 : Blocks w [zeroO] (w.alloc zeroO) := (Blocks.nil w).alloc (by simp) _
    unfold zeroO at S0
    unfold spanV at *
    unfold ffi at C
    replace S0 := Lib.hid S0
    have hst := @fstore
    clear R o AJ hx hy h1 h2 h0 hy0
    go_enter Try.func56, Try.ntmps56
    go_wp2_with (go_at_call 78; ((with_reducible refine (C _).mono ?_); rintro e w' ⟨rfl, rfl⟩))
    have S := S0.out
    clear S0
    generalize w.alloc _ = wr at *
    refine (A.out wr).mono ?_
    rintro _ w1 ⟨rfl, hb1⟩
    have S1 := S.on hb1
    have c0 := S1.cell 0 rfl 0 w.heap.size rfl
    have c1 := S1.cell 0 rfl 1 w.heap.size rfl
    have f0 := S1.free 0 rfl 0 w.heap.size rfl
    have f1 := S1.free 0 rfl 1 w.heap.size rfl
    have B1 := Lib.hid S1.old
    clear S S1 hb1
    go_wp2_with fail
    (try simp only [Exit.inBlock, Exit.then])
    refine bodyPost_ret (v := .agg #[.float .f64 lo, .float .f64 hi]) ?_ rfl ⟨rfl, ?_⟩
    · rw [results_cell1 rfl]; go_simp
    · exact (B1.out.setCell (by show _ ≤ w.heap.size; omega) _).setCell (by show _ ≤ w.heap.size; omega) _
  · rw [decide_eq_false hy0] at t
    rw [if_neg hy0] at eq
    refine ⟨_, _, AJ.dn (p := V r < 0) (by rw [eq]; exact (cut_sign _).1.symm), AJ.upp (p := 0 < V r) (by rw [eq]; exact (cut_sign _).2.symm), fun w => ?_⟩
    have A := Lib.hid (fun w => about_run q r R.fq R.fr w)
    clear eq
    generalize dnW (V r < 0) q = lo at *
    generalize upW (0 < V r) q = hi at *
    have S0 : Blocks w [zeroO] (w.alloc zeroO) := (Blocks.nil w).alloc (by simp) _
    unfold zeroO at S0
    unfold spanV at *
    unfold ffi at C
    replace S0 := Lib.hid S0
    have hst := @fstore
    clear R o AJ NR hx hy h1 h2 h0 hy0
    go_enter Try.func56, Try.ntmps56
    go_wp2_with (go_at_call 78; ((with_reducible refine (C _).mono ?_); rintro e w' ⟨rfl, rfl⟩))
    have S := S0.out
    clear S0
    generalize w.alloc _ = wr at *
    refine (A.out wr).mono ?_
    rintro _ w1 ⟨rfl, hb1⟩
    have S1 := S.on hb1
    have c0 := S1.cell 0 rfl 0 w.heap.size rfl
    have c1 := S1.cell 0 rfl 1 w.heap.size rfl
    have f0 := S1.free 0 rfl 0 w.heap.size rfl
    have f1 := S1.free 0 rfl 1 w.heap.size rfl
    have B1 := Lib.hid S1.old
    clear S S1 hb1
    go_wp2_with fail
    (try simp only [Exit.inBlock, Exit.then])
    refine bodyPost_ret (v := .agg #[.float .f64 lo, .float .f64 hi]) ?_ rfl ⟨rfl, ?_⟩
    · rw [results_cell1 rfl]; go_simp
    · exact (B1.out.setCell (by show _ ≤ w.heap.size; omega) _).setCell (by show _ ≤ w.heap.size; omega) _
end Go.Proofs.Ytkfagpahbojigaa
