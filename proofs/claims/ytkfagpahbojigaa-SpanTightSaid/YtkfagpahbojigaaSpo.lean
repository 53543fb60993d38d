/- Proved here: what span's own small calls answer (Check, checkBoth, fitAbove, Make, outwards, about), over the translated code. -/
import Derived.Test.YtkfagpahbojigaaSpm
namespace Go.Proofs.Ytkfagpahbojigaa
open Go.ChangeShapes Go.WideShapes Go.ChangeAt Go.RowKit Ieee.Own

/-! ### results that lie in a block -/
theorem results_cell1 {fn : Func} {p : Tmp} {ty : TypeId} (h : fn.results = #[.cell p ty]) (tmps : Array Value) (P : Program) (w : World) :
    (results fn tmps).run P w = ((asAddr (tmps.getD p undef)).run P w).andThen fun a w₁ => (loadVar ty a).run P w₁ := by
  simp only [results, h]
  simp [Sem.run_bind, Result.andThen]
theorem results_cell_tmp2 {fn : Func} {p u v : Tmp} {ty : TypeId} (h : fn.results = #[.cell p ty, .tmp u, .tmp v]) (tmps : Array Value) (P : Program) (w : World) :
    (results fn tmps).run P w =
      ((asAddr (tmps.getD p undef)).run P w).andThen fun a w₁ => ((loadVar ty a).run P w₁).andThen fun x w₂ => .ok (.tuple #[x, tmps.getD u undef, tmps.getD v undef]) w₂ := by
  simp only [results, h]
  simp [Sem.run_bind, Result.andThen]

/-! ### Check -/
theorem scheck_run (a b : Nat) (ha : a < 18446744073709551616) (hb : b < 18446744073709551616) (w : World) : Calls Try.prog 58 #[spanV a b] w fun e w' => e = .returned (.int .i64 (errS a b)) ∧ Below w.heap.size w w' := by
  have C1 := fun w => fit_any a ha w
  have C2 := fun w => fit_any b hb w
  unfold spanV errS
  cases f1 : fitB a
  · rw [f1] at C1
    rw [if_neg (by simp)]
    clear C2 ha hb
    go_enter Try.func58, Try.ntmps58
    go_wp2_with (go_at_call 79; ((with_reducible refine (C1 _).mono ?_); rintro e w' ⟨rfl, rfl⟩))
    go_ret
    exact ⟨rfl, (Below.refl _ w).alloc (Nat.le_refl _) _⟩
  · cases f2 : fitB b
    · rw [f1] at C1
      rw [f2] at C2
      rw [if_neg (by simp)]
      clear ha hb
      go_enter Try.func58, Try.ntmps58
      go_wp2_with (first | (go_at_call 79; ((with_reducible refine (C1 _).mono ?_); rintro e w' ⟨rfl, rfl⟩)) | (go_at_call 79; ((with_reducible refine (C2 _).mono ?_); rintro e w' ⟨rfl, rfl⟩)))
      go_ret
      exact ⟨rfl, (Below.refl _ w).alloc (Nat.le_refl _) _⟩
    · have t := gt_words (fit_fin ha f1) (fit_fin hb f2)
      rw [f1] at C1
      rw [f2] at C2
      rw [if_pos ⟨rfl, rfl⟩]
      clear ha hb f1 f2
      by_cases c : V b < V a
      · rw [decide_eq_true c] at t
        rw [if_pos c]
        clear c
        go_enter Try.func58, Try.ntmps58
        go_wp2_with (first | (go_at_call 79; ((with_reducible refine (C1 _).mono ?_); rintro e w' ⟨rfl, rfl⟩)) | (go_at_call 79; ((with_reducible refine (C2 _).mono ?_); rintro e w' ⟨rfl, rfl⟩)))
        go_ret
        exact ⟨rfl, (Below.refl _ w).alloc (Nat.le_refl _) _⟩
      · rw [decide_eq_false c] at t
        rw [if_neg c]
        clear c
        go_enter Try.func58, Try.ntmps58
        go_wp2_with (first | (go_at_call 79; ((with_reducible refine (C1 _).mono ?_); rintro e w' ⟨rfl, rfl⟩)) | (go_at_call 79; ((with_reducible refine (C2 _).mono ?_); rintro e w' ⟨rfl, rfl⟩)))
        go_ret
        exact ⟨rfl, (Below.refl _ w).alloc (Nat.le_refl _) _⟩
theorem sboth_run (a1 a2 b1 b2 : Nat) (ha : a1 < 18446744073709551616) (ha' : a2 < 18446744073709551616) (hb : b1 < 18446744073709551616) (hb' : b2 < 18446744073709551616) (w : World) :
    Calls Try.prog 44 #[spanV a1 a2, spanV b1 b2] w fun e w' => e = .returned (.int .i64 (errSS a1 a2 b1 b2)) ∧ Below w.heap.size w w' := by
  have C1 := fun w => scheck_run a1 a2 ha ha' w
  have C2 := fun w => scheck_run b1 b2 hb hb' w
  have S0 : Blocks w ([boxO a1 a2] ++ [boxO b1 b2]) ((w.alloc (boxO a1 a2)).alloc (boxO b1 b2)) := ((Blocks.nil w).alloc (by simp) _).alloc (by simp) _
  unfold errSS
  unfold spanV at *
  unfold boxO at S0
  replace C1 := Lib.hid C1
  replace C2 := Lib.hid C2
  clear ha ha' hb hb'
  generalize errS a1 a2 = e1 at *
  generalize errS b1 b2 = e2 at *
  by_cases h0 : e1 = 0
  · subst h0
    rw [if_neg (by simp)]
    replace S0 := Lib.hid S0
    go_enter Try.func44, Try.ntmps44
    go_wp2_with fail
    have S := S0.out
    clear S0
    generalize (w.alloc _).alloc _ = wr at *
    refine (C1.out wr).mono ?_
    rintro _ w1 ⟨rfl, hb1⟩
    have S1 := S.on hb1
    have c0 := S1.cell 1 rfl 0 (w.heap.size + 1) rfl
    have c1 := S1.cell 1 rfl 1 (w.heap.size + 1) rfl
    have B1 := Lib.hid S1.old
    clear S S1 hb1
    go_wp2_with fail
    refine (C2.out w1).mono ?_
    rintro _ w2 ⟨rfl, hb2⟩
    have B2 := Lib.hid (B1.out.trans (hb2.mono B1.out.size))
    clear hb2 c0 c1
    go_wp2_with fail
    go_ret
    exact ⟨rfl, B2.out⟩
  · rw [if_pos h0]
    have t : (e1 != 0) = true := by simpa using h0
    clear h0
    replace S0 := Lib.hid S0
    go_enter Try.func44, Try.ntmps44
    go_wp2_with fail
    have S := S0.out
    clear S0
    generalize (w.alloc _).alloc _ = wr at *
    refine (C1.out wr).mono ?_
    rintro _ w1 ⟨rfl, hb1⟩
    have B1 := Lib.hid (S.on hb1).old
    clear S hb1
    go_wp2_with fail
    go_ret
    exact ⟨rfl, B1.out⟩

/-! ### ends, brought outwards -/
def fabW (x : Nat) : Nat := if 0 < V x ∧ V x < leastV then 3706462493325918208 else if -leastV < V x ∧ V x < 0 then 0 else x
theorem fab_run (x : Nat) (h : FinW x) (w : World) : Calls Try.prog 67 #[.float .f64 x] w fun e w' => e = .returned (.float .f64 (fabW x)) ∧ w = w' := by
  have t1 := lt_words zero_fin h
  have t2 := lt_words h least_fin
  have t3 := lt_words nleast_fin h
  have t4 := lt_words h zero_fin
  rw [V_zero] at t1 t4
  rw [nleast_V] at t3
  have p := leastV_pos
  change _ = decide (V x < leastV) at t2
  unfold fabW
  by_cases c1 : 0 < V x
  · rw [decide_eq_true c1] at t1
    by_cases c2 : V x < leastV
    · rw [decide_eq_true c2] at t2
      rw [if_pos ⟨c1, c2⟩]
      clear h c1 c2 t3 t4 p
      go_enter Try.func67, Try.ntmps67
      go_wp2_with fail
      go_ret
      exact ⟨rfl, rfl⟩
    · rw [decide_eq_false c2] at t2
      rw [if_neg (fun hc => c2 hc.2), if_neg (fun hc => by omega)]
      rw [decide_eq_true (by omega)] at t3
      rw [decide_eq_false (by omega)] at t4
      clear h c1 c2 p
      go_enter Try.func67, Try.ntmps67
      go_wp2_with fail
      go_ret
      exact ⟨rfl, rfl⟩
  · rw [decide_eq_false c1] at t1
    rw [if_neg (fun hc => c1 hc.1)]
    by_cases c3 : -leastV < V x
    · rw [decide_eq_true c3] at t3
      by_cases c4 : V x < 0
      · rw [decide_eq_true c4] at t4
        rw [if_pos ⟨c3, c4⟩]
        clear h c1 c3 c4 t2 p
        go_enter Try.func67, Try.ntmps67
        go_wp2_with fail
        go_ret
        exact ⟨rfl, rfl⟩
      · rw [decide_eq_false c4] at t4
        rw [if_neg (fun hc => c4 hc.2)]
        clear h c1 c3 c4 t2 p
        go_enter Try.func67, Try.ntmps67
        go_wp2_with fail
        go_ret
        exact ⟨rfl, rfl⟩
    · rw [decide_eq_false c3] at t3
      rw [if_neg (fun hc => c3 hc.1)]
      clear h c1 c3 t2 t4 p
      go_enter Try.func67, Try.ntmps67
      go_wp2_with fail
      go_ret
      exact ⟨rfl, rfl⟩
theorem fab_V (x : Nat) : V (fabW x) = V (highW x) := by
  have p := leastV_pos
  unfold fabW highW
  by_cases c1 : 0 < V x ∧ V x < leastV
  · rw [if_pos c1, if_neg (by omega), if_pos c1]
  · rw [if_neg c1]
    by_cases c2 : -leastV < V x ∧ V x < 0
    · rw [if_pos c2, if_pos (by omega)]
    · rw [if_neg c2]
      by_cases c3 : V x ≤ 0 ∧ -leastV < V x
      · rw [if_pos c3, V_zero]; omega
      · rw [if_neg c3, if_neg c1]
theorem fab_fin {x : Nat} (h : FinW x) : FinW (fabW x) := by
  unfold fabW; split
  · exact least_fin
  · split
    · exact zero_fin
    · exact h
/-- noughts are +0 -/
def posW (x : Nat) : Nat := if x = 9223372036854775808 then 0 else x
theorem posW_V (x : Nat) : V (posW x) = V x := by
  unfold posW; split
  · rename_i h; rw [h]; decide +kernel
  · rfl
theorem posW_fin {x : Nat} (h : FinW x) : FinW (posW x) := by
  unfold posW; split
  · exact zero_fin
  · exact h
theorem V_zero_iff {x : Nat} (h : FinW x) : V x = 0 ↔ x % 9223372036854775808 = 0 := by
  have := V_abs' x h
  have := val_zero_iff 52 (x % 9223372036854775808)
  omega
theorem pos_add {x : Nat} (h : FinW x) : Ieee.double.add x 0 = some (posW x) := by
  by_cases h0 : V x = 0
  · have hz := (V_zero_iff h).1 h0
    have : x = 0 ∨ x = 9223372036854775808 := by have := h.1; omega
    rcases this with rfl | rfl <;> decide +kernel
  · have hr : RN (V x + V 0) = V x := by rw [V_zero, Int.add_zero, RN_exact (Rep_V x)]
    obtain ⟨r, h1, h2, h3⟩ := add_spec h zero_fin (by rw [hr]; exact fin_top h)
    rw [hr] at h3
    have hp : posW x = x := by
      unfold posW; rw [if_neg]
      intro e; exact h0 ((V_zero_iff h).2 (by rw [e]))
    rw [h1, hp, V_inj h2 h h3 (by rw [h3]; exact h0)]
theorem fit_iff {x : Nat} (h : FinW x) : fitB x = true ↔ V x = 0 ∨ leastV ≤ ((V x).natAbs : Int) ∧ ((V x).natAbs : Int) ≤ mostV := by
  have a := V_abs' x h
  have z := V_zero_iff h
  have e1 : leastV = (val 52 3706462493325918208 : Int) := by decide +kernel
  have e2 : mostV = (val 52 5507902344274116608 : Int) := by decide +kernel
  have c1 := val_lt_iff 52 (x % 9223372036854775808) 3706462493325918208
  have c2 := val_lt_iff 52 5507902344274116608 (x % 9223372036854775808)
  unfold fitB
  rw [decide_eq_true_eq, z, a, e1, e2]
  omega
/-- a number that is 0, or of magnitude from the least fit one on, told by its value with +0 -/
theorem posW_of {x y : Nat} (hx : FinW x) (hy : FinW y) (h : V x = V y) (h0 : V y = 0 → y = 0) : posW x = y := by
  by_cases hz : V x = 0
  · have := (V_zero_iff hx).1 hz
    rw [h0 (by rw [← h]; exact hz)]
    unfold posW
    split
    · rfl
    · have := hx.1; omega
  · have e := V_inj hx hy h hz
    unfold posW
    rw [if_neg]
    · exact e
    · intro e2
      rw [e2] at hz
      exact hz (by decide +kernel)
theorem lowW_plus {x : Nat} (h : V (lowW x) = 0) : lowW x = 0 := by
  have p := leastV_pos
  unfold lowW at *
  by_cases c1 : 0 ≤ V x ∧ V x < leastV
  · rw [if_pos c1]
  · rw [if_neg c1] at h ⊢
    by_cases c2 : V x < 0 ∧ -leastV < V x
    · rw [if_pos c2, nleast_V] at h; omega
    · rw [if_neg c2] at h; omega
theorem highW_plus {x : Nat} (h : V (highW x) = 0) : highW x = 0 := by
  have p := leastV_pos
  unfold highW at *
  by_cases c1 : V x ≤ 0 ∧ -leastV < V x
  · rw [if_pos c1]
  · rw [if_neg c1] at h ⊢
    by_cases c2 : 0 < V x ∧ V x < leastV
    · rw [if_pos c2, least_V] at h; omega
    · rw [if_neg c2] at h; omega
theorem lowW_out (x : Nat) : V (lowW x) = 0 ∨ leastV ≤ ((V (lowW x)).natAbs : Int) := by
  have p := leastV_pos
  unfold lowW
  by_cases c1 : 0 ≤ V x ∧ V x < leastV
  · rw [if_pos c1, V_zero]; omega
  · rw [if_neg c1]
    by_cases c2 : V x < 0 ∧ -leastV < V x
    · rw [if_pos c2, nleast_V]; omega
    · rw [if_neg c2]; omega
theorem highW_out (x : Nat) : V (highW x) = 0 ∨ leastV ≤ ((V (highW x)).natAbs : Int) := by
  have p := leastV_pos
  unfold highW
  by_cases c1 : V x ≤ 0 ∧ -leastV < V x
  · rw [if_pos c1, V_zero]; omega
  · rw [if_neg c1]
    by_cases c2 : 0 < V x ∧ V x < leastV
    · rw [if_pos c2, least_V]; omega
    · rw [if_neg c2]; omega
theorem neg_high {x : Nat} (h : FinW x) : V (negW (fabW (negW x))) = V (lowW x) := by
  have p := leastV_pos
  rw [negW_V (fab_fin (negW_fin h)), fab_V]
  unfold highW lowW
  rw [negW_V h]
  by_cases c1 : 0 ≤ V x ∧ V x < leastV
  · rw [if_pos c1, if_pos (by omega), V_zero]; rfl
  · rw [if_neg c1, if_neg (by omega)]
    by_cases c2 : V x < 0 ∧ -leastV < V x
    · rw [if_pos c2, if_pos (by omega), nleast_V]; rfl
    · rw [if_neg c2, if_neg (by omega), negW_V h]; omega

/-! ### Make, outwards -/
def makeE (lo hi : Nat) : Value := if errS lo hi = 0 then spanE (posW lo) (posW hi) 0 else spanE 0 0 (errS lo hi)
theorem make_run (lo hi : Nat) (h1 : lo < 18446744073709551616) (h2 : hi < 18446744073709551616) (w : World) : Calls Try.prog 61 #[.float .f64 lo, .float .f64 hi] w fun e w' => e = .returned (makeE lo hi) ∧ Below w.heap.size w w' := by
  have C := Lib.hid (fun w => scheck_run lo hi h1 h2 w)
  have S0 : Blocks w [zeroO] (w.alloc zeroO) := (Blocks.nil w).alloc (by simp) _
  unfold zeroO at S0
  unfold spanV at *
  replace S0 := Lib.hid S0
  have hst := @fstore
  unfold makeE
  by_cases h0 : errS lo hi = 0
  · obtain ⟨f1, f2, -⟩ := errS_zero h0
    have r1 := fun w => run_add lo 0 _ (pos_add (fit_fin h1 f1)) 22 w
    have r2 := fun w => run_add hi 0 _ (pos_add (fit_fin h2 f2)) 22 w
    rw [if_pos h0]
    rw [h0] at C
    clear h0 f1 f2 h1 h2
    go_enter Try.func61, Try.ntmps61
    go_wp2_with fail
    have S := S0.out
    clear S0
    generalize w.alloc _ = wr at *
    refine (C.out wr).mono ?_
    rintro _ w1 ⟨rfl, hb1⟩
    have S1 := S.on hb1
    have c0 := S1.cell 0 rfl 0 w.heap.size rfl
    have c1 := S1.cell 0 rfl 1 w.heap.size rfl
    have f0 := S1.free 0 rfl 0 w.heap.size rfl
    have f1 := S1.free 0 rfl 1 w.heap.size rfl
    have B1 := Lib.hid S1.old
    clear S S1 hb1
    go_wp2_with fail
    (try simp only [Exit.inBlock, Exit.then])
    refine bodyPost_ret (v := spanE (posW lo) (posW hi) 0) ?_ rfl ⟨rfl, ?_⟩
    · rw [results_cell_tmp rfl]; unfold spanE; go_simp
    · exact (B1.out.setCell (by show _ ≤ w.heap.size; omega) _).setCell (by show _ ≤ w.heap.size; omega) _
  · rw [if_neg h0]
    have t : (errS lo hi != 0) = true := by simpa using h0
    clear h0 h1 h2
    generalize errS lo hi = er at *
    go_enter Try.func61, Try.ntmps61
    go_wp2_with fail
    have S := S0.out
    clear S0
    generalize w.alloc _ = wr at *
    refine (C.out wr).mono ?_
    rintro _ w1 ⟨rfl, hb1⟩
    have S1 := S.on hb1
    have c0 := S1.cell 0 rfl 0 w.heap.size rfl
    have c1 := S1.cell 0 rfl 1 w.heap.size rfl
    have f0 := S1.free 0 rfl 0 w.heap.size rfl
    have f1 := S1.free 0 rfl 1 w.heap.size rfl
    have B1 := Lib.hid S1.old
    clear S S1 hb1
    go_wp2_with fail
    (try simp only [Exit.inBlock, Exit.then])
    refine bodyPost_ret (v := spanE 0 0 er) ?_ rfl ⟨rfl, ?_⟩
    · rw [results_cell_tmp rfl]; unfold spanE; go_simp
    · exact (B1.out.setCell (by show _ ≤ w.heap.size; omega) _).setCell (by show _ ≤ w.heap.size; omega) _
theorem out_make {lo hi : Nat} (h1 : FinW lo) (h2 : FinW hi) (h : V lo ≤ V hi) : makeE (negW (fabW (negW lo))) (fabW hi) = toldE lo hi := by
  have p := leastV_pos
  have a1 := negW_fin (fab_fin (negW_fin h1))
  have a2 := fab_fin h2
  have v1 := neg_high h1
  have v2 := fab_V hi
  have i1 := fit_iff a1
  have i2 := fit_iff a2
  have o1 := lowW_out lo
  have o2 := highW_out hi
  have l1 := lowW_le lo
  have l2 := highW_ge hi
  have q1 : posW (negW (fabW (negW lo))) = lowW lo := posW_of a1 (lowW_fin h1) v1 lowW_plus
  have q2 : posW (fabW hi) = highW hi := posW_of a2 (highW_fin h2) v2 highW_plus
  have pm : 0 < mostV := by decide +kernel
  rw [v1] at i1
  rw [v2] at i2
  have es : errS (negW (fabW (negW lo))) (fabW hi) = if V (lowW lo) < -mostV ∨ mostV < V (highW hi) then 3 else 0 := by
    unfold errS
    by_cases c : V (lowW lo) < -mostV ∨ mostV < V (highW hi)
    · rw [if_pos c, if_neg]
      intro hh
      have := i1.1 hh.1
      have := i2.1 hh.2
      omega
    · rw [if_neg c, if_pos ⟨i1.2 (by omega), i2.2 (by omega)⟩, v1, v2, if_neg (by omega)]
  unfold makeE toldE
  rw [q1, q2, es]
  by_cases c : V (lowW lo) < -mostV ∨ mostV < V (highW hi)
  · rw [if_pos c, if_pos c, if_neg (by decide)]
  · rw [if_neg c, if_neg c, if_pos rfl]
theorem out_run (lo hi : Nat) (h1 : FinW lo) (h2 : FinW hi) (h : V lo ≤ V hi) (w : World) : Calls Try.prog 45 #[.float .f64 lo, .float .f64 hi] w fun e w' => e = .returned (toldE lo hi) ∧ Below w.heap.size w w' := by
  have N1 := fun w => xneg' lo h1.1 w
  have F1 := fun w => fab_run (negW lo) (negW_fin h1) w
  have N2 := fun w => xneg' (fabW (negW lo)) (fab_fin (negW_fin h1)).1 w
  have F2 := fun w => fab_run hi h2 w
  have M := Lib.hid (fun w => make_run (negW (fabW (negW lo))) (fabW hi) (negW_fin (fab_fin (negW_fin h1))).1 (fab_fin h2).1 w)
  rw [out_make h1 h2 h] at M
  have S0 : Blocks w [zeroO] (w.alloc zeroO) := (Blocks.nil w).alloc (by simp) _
  unfold zeroO at S0
  replace S0 := Lib.hid S0
  have hst := @fstore
  obtain ⟨x, y, c, hT⟩ := toldE_span lo hi
  rw [hT] at M ⊢
  unfold spanE at M
  clear h h1 h2 hT
  generalize negW (fabW (negW lo)) = m at *
  generalize fabW (negW lo) = k at *
  generalize negW lo = l at *
  generalize fabW hi = n at *
  go_enter Try.func45, Try.ntmps45
  go_wp2_with (first | (go_at_call 67; ((with_reducible refine (F1 _).mono ?_); rintro e w' ⟨rfl, rfl⟩)) | (go_at_call 67; ((with_reducible refine (F2 _).mono ?_); rintro e w' ⟨rfl, rfl⟩)))
  have S := S0.out
  clear S0
  generalize w.alloc _ = wr at *
  refine (M.out wr).mono ?_
  rintro _ w1 ⟨rfl, hb1⟩
  have S1 := S.on hb1
  have c0 := S1.cell 0 rfl 0 w.heap.size rfl
  have c1 := S1.cell 0 rfl 1 w.heap.size rfl
  have f0 := S1.free 0 rfl 0 w.heap.size rfl
  have f1 := S1.free 0 rfl 1 w.heap.size rfl
  have B1 := Lib.hid S1.old
  clear S S1 hb1
  go_wp2_with fail
  (try simp only [Exit.inBlock, Exit.then])
  refine bodyPost_ret (v := spanE x y c) ?_ rfl ⟨rfl, ?_⟩
  · rw [results_cell_tmp rfl]; unfold spanE; go_simp
  · exact (B1.out.setCell (by show _ ≤ w.heap.size; omega) _).setCell (by show _ ≤ w.heap.size; omega) _

/-! ### about -/
theorem about_run (x r : Nat) (hx : FinW x) (hr : FinW r) (w : World) : Calls Try.prog 69 #[.float .f64 x, .float .f64 r] w fun e w' => e = .returned (spanV (dnW (V r < 0) x) (upW (0 < V r) x)) ∧ Below w.heap.size w w' := by
  have t1 := lt_words hr zero_fin
  have t2 := gt_words hr zero_fin
  rw [V_zero] at t1 t2
  have P1 := fun w => prev_any x hx.1 w
  have P2 := fun w => next_any x hx.1 w
  have hst := @fstore
  clear hx hr
  unfold dnW upW
  by_cases c : V r < 0
  · rw [decide_eq_true c] at t1
    rw [if_pos c, if_neg (by omega)]
    clear c t2
    go_enter Try.func69, Try.ntmps69
    go_wp2_with (go_at_call 87; ((with_reducible refine (P1 _).mono ?_); rintro e w' ⟨rfl, rfl⟩))
    (try simp only [Exit.inBlock, Exit.then])
    refine bodyPost_ret (v := spanV (prevW x) x) ?_ rfl ⟨rfl, ?_⟩
    · rw [results_cell1 rfl]; unfold spanV; go_simp
    · exact (Below.refl _ w).alloc (Nat.le_refl _) _
  · rw [decide_eq_false c] at t1
    rw [if_neg c]
    by_cases d : 0 < V r
    · rw [decide_eq_true d] at t2
      rw [if_pos d]
      clear c d
      go_enter Try.func69, Try.ntmps69
      go_wp2_with (go_at_call 88; ((with_reducible refine (P2 _).mono ?_); rintro e w' ⟨rfl, rfl⟩))
      (try simp only [Exit.inBlock, Exit.then])
      refine bodyPost_ret (v := spanV x (nextW x)) ?_ rfl ⟨rfl, ?_⟩
      · rw [results_cell1 rfl]; unfold spanV; go_simp
      · exact (Below.refl _ w).alloc (Nat.le_refl _) _
    · rw [decide_eq_false d] at t2
      rw [if_neg d]
      clear c d
      go_enter Try.func69, Try.ntmps69
      go_wp2_with fail
      (try simp only [Exit.inBlock, Exit.then])
      refine bodyPost_ret (v := spanV x x) ?_ rfl ⟨rfl, ?_⟩
      · rw [results_cell1 rfl]; unfold spanV; go_simp
      · exact (Below.refl _ w).alloc (Nat.le_refl _) _
end Go.Proofs.Ytkfagpahbojigaa
