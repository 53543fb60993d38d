/- Proved here: what the reference's small calls on spans answer (low, high, told, down, up, Check, both), over the translated code. -/
import Derived.Test.YtkfagpahbojigaaFtw
import Derived.Test.YtkfagpahbojigaaAdj
import Derived.Laws.ResultCell
namespace Go.Proofs.Ytkfagpahbojigaa
open Go.ChangeShapes Go.WideShapes Go.ChangeAt Go.RowKit Ieee.Own

/-! ### comparisons of words by their values -/
theorem fin_nn {a : Nat} (h : FinW a) : nn a := by have := h.2; unfold nn; omega
theorem lt_words {a b : Nat} (ha : FinW a) (hb : FinW b) : (FloatKind.f64.format.order a b == some Ordering.lt) = decide (V a < V b) := by
  rw [o_lss a b ha.1 hb.1, decide_eq_decide]
  have := V_lt_key ha hb
  exact ⟨fun h => this.2 h.2.2, fun h => ⟨fin_nn ha, fin_nn hb, this.1 h⟩⟩
theorem gt_words {a b : Nat} (ha : FinW a) (hb : FinW b) : (FloatKind.f64.format.order a b == some Ordering.gt) = decide (V b < V a) := by
  rw [o_gtr a b ha.1 hb.1, decide_eq_decide]
  have := V_lt_key hb ha
  exact ⟨fun h => this.2 h.2.2, fun h => ⟨fin_nn ha, fin_nn hb, this.1 h⟩⟩
theorem le_words {a b : Nat} (ha : FinW a) (hb : FinW b) : (FloatKind.f64.format.order a b == some Ordering.lt || FloatKind.f64.format.order a b == some Ordering.eq) = decide (V a ≤ V b) := by
  rw [o_leq a b ha.1 hb.1, decide_eq_decide]
  have := V_lt_key hb ha
  exact ⟨fun h => Int.not_lt.1 fun h' => by have := this.1 h'; omega, fun h => ⟨fin_nn ha, fin_nn hb, Int.not_lt.1 fun h' => by have := this.2 h'; omega⟩⟩
theorem ge_words {a b : Nat} (ha : FinW a) (hb : FinW b) : (FloatKind.f64.format.order a b == some Ordering.gt || FloatKind.f64.format.order a b == some Ordering.eq) = decide (V b ≤ V a) := by
  rw [o_geq a b ha.1 hb.1, decide_eq_decide]
  have := V_lt_key ha hb
  exact ⟨fun h => Int.not_lt.1 fun h' => by have := this.1 h'; omega, fun h => ⟨fin_nn ha, fin_nn hb, Int.not_lt.1 fun h' => by have := this.2 h'; omega⟩⟩
theorem zero_fin : FinW 0 := ⟨by omega, by omega⟩
theorem V_zero : V 0 = 0 := by decide +kernel

/-! ### outwards -/
def leastV : Int := V 3706462493325918208
def mostV : Int := V 5507902344274116608
theorem leastV_pos : 0 < leastV := by decide +kernel
theorem least_fin : FinW 3706462493325918208 := ⟨by omega, by omega⟩
theorem nleast_fin : FinW 12929834530180694016 := ⟨by omega, by omega⟩
theorem most_fin : FinW 5507902344274116608 := ⟨by omega, by omega⟩
theorem nmost_fin : FinW 14731274381128892416 := ⟨by omega, by omega⟩
theorem nleast_V : V 12929834530180694016 = -leastV := by decide +kernel
theorem nmost_V : V 14731274381128892416 = -mostV := by decide +kernel
def lowW (x : Nat) : Nat := if 0 ≤ V x ∧ V x < leastV then 0 else if V x < 0 ∧ -leastV < V x then 12929834530180694016 else x
def highW (x : Nat) : Nat := if V x ≤ 0 ∧ -leastV < V x then 0 else if 0 < V x ∧ V x < leastV then 3706462493325918208 else x
theorem lowW_fin {x : Nat} (h : FinW x) : FinW (lowW x) := by
  unfold lowW; split
  · exact zero_fin
  · split
    · exact nleast_fin
    · exact h
theorem highW_fin {x : Nat} (h : FinW x) : FinW (highW x) := by
  unfold highW; split
  · exact zero_fin
  · split
    · exact least_fin
    · exact h
/-- equal numbers, equal ends -/
theorem lowW_congr {x y : Nat} (hx : FinW x) (hy : FinW y) (h : V x = V y) : lowW x = lowW y := by
  unfold lowW
  rw [h]
  by_cases c1 : 0 ≤ V y ∧ V y < leastV
  · rw [if_pos c1, if_pos c1]
  · rw [if_neg c1, if_neg c1]
    by_cases c2 : V y < 0 ∧ -leastV < V y
    · rw [if_pos c2, if_pos c2]
    · rw [if_neg c2, if_neg c2]
      exact V_inj hx hy h (by have := leastV_pos; omega)
theorem highW_congr {x y : Nat} (hx : FinW x) (hy : FinW y) (h : V x = V y) : highW x = highW y := by
  unfold highW
  rw [h]
  by_cases c1 : V y ≤ 0 ∧ -leastV < V y
  · rw [if_pos c1, if_pos c1]
  · rw [if_neg c1, if_neg c1]
    by_cases c2 : 0 < V y ∧ V y < leastV
    · rw [if_pos c2, if_pos c2]
    · rw [if_neg c2, if_neg c2]
      exact V_inj hx hy h (by have := leastV_pos; omega)

theorem fin_top {b : Nat} (h : FinW b) : (V b).natAbs < 2 ^ 2098 := by
  rw [V_abs' b h, ← top64']
  exact (val_lt_iff 52 _ _).2 h.2
theorem sub_zero_word {y : Nat} (h : FinW y) (h0 : V y ≠ 0) : Ieee.double.sub 0 y = some (negW y) := by
  have hr : RN (V 0 - V y) = -V y := by rw [V_zero, Int.zero_sub, RN_neg, RN_exact (Rep_V y)]
  obtain ⟨r, h1, h2, h3⟩ := sub_spec zero_fin h (by rw [hr, Int.natAbs_neg]; exact fin_top h)
  rw [hr] at h3
  rw [h1, V_inj h2 (negW_fin h) (by rw [h3, negW_V h]) (by omega)]

theorem low_run (x : Nat) (h : FinW x) (w : World) : Calls Try.prog 72 #[.float .f64 x] w fun e w' => e = .returned (.float .f64 (lowW x)) ∧ w = w' := by
  have t1 := ge_words h zero_fin
  have t2 := lt_words h least_fin
  have t3 := lt_words h zero_fin
  have t4 := gt_words h nleast_fin
  rw [V_zero] at t1 t3
  rw [nleast_V] at t4
  have p := leastV_pos
  change _ = decide (V x < leastV) at t2
  unfold lowW
  by_cases c1 : 0 ≤ V x
  · rw [decide_eq_true c1] at t1
    by_cases c2 : V x < leastV
    · rw [decide_eq_true c2] at t2
      rw [if_pos ⟨c1, c2⟩]
      clear h c1 c2 t3 t4 p
      go_enter Try.func72, Try.ntmps72
      go_wp2_with fail
      go_ret
      exact ⟨rfl, rfl⟩
    · rw [decide_eq_false c2] at t2
      rw [if_neg (fun hc => c2 hc.2), if_neg (fun hc => by omega)]
      rw [decide_eq_false (by omega)] at t3
      clear h c1 c2 t4 p
      go_enter Try.func72, Try.ntmps72
      go_wp2_with fail
      go_ret
      exact ⟨rfl, rfl⟩
  · rw [decide_eq_false c1] at t1
    rw [decide_eq_true (by omega)] at t3
    rw [if_neg (fun hc => c1 hc.1)]
    by_cases c2 : -leastV < V x
    · rw [decide_eq_true c2] at t4
      rw [if_pos ⟨by omega, c2⟩]
      clear h c1 c2 t2 p
      go_enter Try.func72, Try.ntmps72
      go_wp2_with fail
      go_ret
      exact ⟨rfl, rfl⟩
    · rw [decide_eq_false c2] at t4
      rw [if_neg (fun hc => c2 hc.2)]
      clear h c1 c2 t2 p
      go_enter Try.func72, Try.ntmps72
      go_wp2_with fail
      go_ret
      exact ⟨rfl, rfl⟩

theorem high_sub {x : Nat} (h : FinW x) : Ieee.double.sub 0 (lowW (negW x)) = some (highW x) := by
  unfold lowW highW
  rw [negW_V h]
  by_cases c1 : V x ≤ 0 ∧ -leastV < V x
  · rw [if_pos c1, if_pos (by omega)]; decide +kernel
  · rw [if_neg c1, if_neg (by omega)]
    by_cases c2 : 0 < V x ∧ V x < leastV
    · rw [if_pos c2, if_pos (by omega)]; decide +kernel
    · rw [if_neg c2, if_neg (by omega)]
      have p := leastV_pos
      have hx0 : V x ≠ 0 := by omega
      rw [sub_zero_word (negW_fin h) (by rw [negW_V h]; omega)]
      congr 1
      refine V_inj (negW_fin (negW_fin h)) h ?_ ?_
      · rw [negW_V (negW_fin h), negW_V h]; omega
      · rw [negW_V (negW_fin h), negW_V h]; omega
theorem xneg' (b : Nat) (hb : b < 18446744073709551616) (w : World) : (Op.unary .neg (.float .f64 b)).run Try.prog w = .ok (.float .f64 (negW b)) w := xneg b hb w
theorem high_run (x : Nat) (h : FinW x) (w : World) : Calls Try.prog 73 #[.float .f64 x] w fun e w' => e = .returned (.float .f64 (highW x)) ∧ w = w' := by
  have N := fun w => xneg' x h.1 w
  have L := fun w => low_run (negW x) (negW_fin h) w
  have S := run_sub _ _ _ (high_sub h)
  clear h
  go_enter Try.func73, Try.ntmps73
  go_wp2_with (go_at_call 72; ((with_reducible refine (L _).mono ?_); rintro e w' ⟨rfl, rfl⟩))
  go_ret
  exact ⟨rfl, rfl⟩

/-- a span and an error's number -/
def spanE (lo hi : Nat) (c : Int) : Value := .tuple #[.agg #[.float .f64 lo, .float .f64 hi], .int .i64 c]
def toldE (lo hi : Nat) : Value := if V (lowW lo) < -mostV ∨ mostV < V (highW hi) then spanE 0 0 3 else spanE (lowW lo) (highW hi) 0
theorem toldE_congr {a b c d : Nat} (ha : FinW a) (hb : FinW b) (hc : FinW c) (hd : FinW d) (h : V a = V b) (k : V c = V d) : toldE a c = toldE b d := by
  unfold toldE; rw [lowW_congr ha hb h, highW_congr hc hd k]

theorem fstore (a : Addr) (b : Nat) (m : Mode) (x : World) : (store a (.float .f64 b) m).run Try.prog x = stored Try.prog x a (.float .f64 b) m := run_store _ x a _ m rfl
theorem told_run (lo hi : Nat) (h1 : FinW lo) (h2 : FinW hi) (w : World) : Calls Try.prog 49 #[.float .f64 lo, .float .f64 hi] w fun e w' => e = .returned (toldE lo hi) ∧ Below w.heap.size w w' := by
  have L := fun w => low_run lo h1 w
  have H := fun w => high_run hi h2 w
  have t1 := lt_words (lowW_fin h1) nmost_fin
  have t2 := gt_words (highW_fin h2) most_fin
  rw [nmost_V] at t1
  change _ = decide (mostV < V (highW hi)) at t2
  unfold toldE
  clear h1 h2
  generalize lowW lo = x at *
  generalize highW hi = y at *
  have hst := @fstore
  by_cases c1 : V x < -mostV
  · rw [decide_eq_true c1] at t1
    rw [if_pos (Or.inl c1)]
    clear c1 t2
    go_enter Try.func49, Try.ntmps49
    go_wp2_with (first | (go_at_call 72; ((with_reducible refine (L _).mono ?_); rintro e w' ⟨rfl, rfl⟩)) | (go_at_call 73; ((with_reducible refine (H _).mono ?_); rintro e w' ⟨rfl, rfl⟩)))
    (try simp only [Exit.inBlock, Exit.then])
    refine bodyPost_ret (v := spanE 0 0 3) ?_ rfl ⟨rfl, ?_⟩
    · rw [results_cell_tmp rfl]; unfold spanE; go_simp
    · exact ((Below.refl _ w).alloc (Nat.le_refl _) _).alloc (by simp) _
  · rw [decide_eq_false c1] at t1
    by_cases c2 : mostV < V y
    · rw [decide_eq_true c2] at t2
      rw [if_pos (Or.inr c2)]
      clear c1 c2
      go_enter Try.func49, Try.ntmps49
      go_wp2_with (first | (go_at_call 72; ((with_reducible refine (L _).mono ?_); rintro e w' ⟨rfl, rfl⟩)) | (go_at_call 73; ((with_reducible refine (H _).mono ?_); rintro e w' ⟨rfl, rfl⟩)))
      (try simp only [Exit.inBlock, Exit.then])
      refine bodyPost_ret (v := spanE 0 0 3) ?_ rfl ⟨rfl, ?_⟩
      · rw [results_cell_tmp rfl]; unfold spanE; go_simp
      · exact ((Below.refl _ w).alloc (Nat.le_refl _) _).alloc (by simp) _
    · rw [decide_eq_false c2] at t2
      rw [if_neg (fun h => h.elim c1 c2)]
      clear c1 c2
      go_enter Try.func49, Try.ntmps49
      go_wp2_with (first | (go_at_call 72; ((with_reducible refine (L _).mono ?_); rintro e w' ⟨rfl, rfl⟩)) | (go_at_call 73; ((with_reducible refine (H _).mono ?_); rintro e w' ⟨rfl, rfl⟩)))
      (try simp only [Exit.inBlock, Exit.then])
      refine bodyPost_ret (v := spanE x y 0) ?_ rfl ⟨rfl, ?_⟩
      · rw [results_cell_tmp rfl]; unfold spanE; go_simp
      · exact ((Below.refl _ w).alloc (Nat.le_refl _) _).alloc (by simp) _

theorem down_run (x r : Nat) (hx : FinW x) (hr : FinW r) (w : World) : Calls Try.prog 50 #[.float .f64 x, .float .f64 r] w fun e w' => e = .returned (.float .f64 (dnW (V r < 0) x)) ∧ w = w' := by
  have t := lt_words hr zero_fin
  rw [V_zero] at t
  have P := fun w => rprev_any x hx.1 w
  clear hx hr
  unfold dnW
  by_cases c : V r < 0
  · rw [decide_eq_true c] at t
    rw [if_pos c]
    clear c
    go_enter Try.func50, Try.ntmps50
    go_wp2_with (go_at_call 74; ((with_reducible refine (P _).mono ?_); rintro e w' ⟨rfl, rfl⟩))
    go_ret
    exact ⟨rfl, rfl⟩
  · rw [decide_eq_false c] at t
    rw [if_neg c]
    clear c
    go_enter Try.func50, Try.ntmps50
    go_wp2_with fail
    go_ret
    exact ⟨rfl, rfl⟩
theorem up_run (x r : Nat) (hx : FinW x) (hr : FinW r) (w : World) : Calls Try.prog 51 #[.float .f64 x, .float .f64 r] w fun e w' => e = .returned (.float .f64 (upW (0 < V r) x)) ∧ w = w' := by
  have t := gt_words hr zero_fin
  rw [V_zero] at t
  have P := fun w => rnext_any x hx.1 w
  clear hx hr
  unfold upW
  by_cases c : 0 < V r
  · rw [decide_eq_true c] at t
    rw [if_pos c]
    clear c
    go_enter Try.func51, Try.ntmps51
    go_wp2_with (go_at_call 66; ((with_reducible refine (P _).mono ?_); rintro e w' ⟨rfl, rfl⟩))
    go_ret
    exact ⟨rfl, rfl⟩
  · rw [decide_eq_false c] at t
    rw [if_neg c]
    clear c
    go_enter Try.func51, Try.ntmps51
    go_wp2_with fail
    go_ret
    exact ⟨rfl, rfl⟩

/-! ### what is wrong with a span -/
def errS (a b : Nat) : Int := if fitB a = true ∧ fitB b = true then (if V b < V a then 5 else 0) else 3
def spanV (a b : Nat) : Value := .agg #[.float .f64 a, .float .f64 b]
theorem rscheck_run (a b : Nat) (ha : a < 18446744073709551616) (hb : b < 18446744073709551616) (w : World) : Calls Try.prog 36 #[spanV a b] w fun e w' => e = .returned (.int .i64 (errS a b)) ∧ Below w.heap.size w w' := by
  have C1 := fun w => rfit_any a ha w
  have C2 := fun w => rfit_any b hb w
  unfold spanV errS
  cases f1 : fitB a
  · rw [f1] at C1
    rw [if_neg (by simp)]
    clear C2 ha hb
    go_enter Try.func36, Try.ntmps36
    go_wp2_with (go_at_call 31; ((with_reducible refine (C1 _).mono ?_); rintro e w' ⟨rfl, rfl⟩))
    go_ret
    exact ⟨rfl, (Below.refl _ w).alloc (Nat.le_refl _) _⟩
  · cases f2 : fitB b
    · rw [f1] at C1
      rw [f2] at C2
      rw [if_neg (by simp)]
      clear ha hb
      go_enter Try.func36, Try.ntmps36
      go_wp2_with (first | (go_at_call 31; ((with_reducible refine (C1 _).mono ?_); rintro e w' ⟨rfl, rfl⟩)) | (go_at_call 31; ((with_reducible refine (C2 _).mono ?_); rintro e w' ⟨rfl, rfl⟩)))
      go_ret
      exact ⟨rfl, (Below.refl _ w).alloc (Nat.le_refl _) _⟩
    · have t := gt_words (fit_fin ha f1) (fit_fin hb f2)
      rw [f1] at C1
      rw [f2] at C2
      rw [if_pos ⟨rfl, rfl⟩]
      clear ha hb f1 f2
      by_cases c : V b < V a
      · rw [decide_eq_true c] at t
        rw [if_pos c]
        clear c
        go_enter Try.func36, Try.ntmps36
        go_wp2_with (first | (go_at_call 31; ((with_reducible refine (C1 _).mono ?_); rintro e w' ⟨rfl, rfl⟩)) | (go_at_call 31; ((with_reducible refine (C2 _).mono ?_); rintro e w' ⟨rfl, rfl⟩)))
        go_ret
        exact ⟨rfl, (Below.refl _ w).alloc (Nat.le_refl _) _⟩
      · rw [decide_eq_false c] at t
        rw [if_neg c]
        clear c
        go_enter Try.func36, Try.ntmps36
        go_wp2_with (first | (go_at_call 31; ((with_reducible refine (C1 _).mono ?_); rintro e w' ⟨rfl, rfl⟩)) | (go_at_call 31; ((with_reducible refine (C2 _).mono ?_); rintro e w' ⟨rfl, rfl⟩)))
        go_ret
        exact ⟨rfl, (Below.refl _ w).alloc (Nat.le_refl _) _⟩
end Go.Proofs.Ytkfagpahbojigaa
