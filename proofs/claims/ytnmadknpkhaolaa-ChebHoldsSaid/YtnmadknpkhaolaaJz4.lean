/- Proved here: what the texts Ssq, Spm, Spo, Sps, Spn, Rop, Mm prove, one behind the other. -/
import Derived.Test.YtnmadknpkhaolaaJz3
import Derived.Deep.RegionHeld3
import Derived.Test.YtnmadknpkhaolaaJz2

namespace Go.Proofs.Ytnmadknpkhaolaa
open Go.ChangeShapes Go.WideShapes Go.ChangeAt Go.RowKit Ieee.Own

/-! ### ends over several exact results -/
structure DnAll (cs : List (Int → Int)) (w : Nat) : Prop where
  fin : FinW w
  le : ∀ c ∈ cs, 0 ≤ c (V w)
  top : ∀ u, FinW u → (∀ c ∈ cs, 0 ≤ c (V u)) → V u ≤ V w
structure UpAll (cs : List (Int → Int)) (w : Nat) : Prop where
  fin : FinW w
  ge : ∀ c ∈ cs, c (V w) ≤ 0
  low : ∀ u, FinW u → (∀ c ∈ cs, c (V u) ≤ 0) → V w ≤ V u
def Falls (c : Int → Int) : Prop := ∀ u v, u ≤ v → c v ≤ c u
theorem Dn.all {c : Int → Int} {w : Nat} (h : Dn c w) : DnAll [c] w :=
  ⟨h.fin, fun d hd => by rw [List.mem_singleton.1 hd]; exact h.le, fun u hu hc => h.top u hu (hc c (List.mem_singleton.2 rfl))⟩
theorem Up.all {c : Int → Int} {w : Nat} (h : Up c w) : UpAll [c] w :=
  ⟨h.fin, fun d hd => by rw [List.mem_singleton.1 hd]; exact h.ge, fun u hu hc => h.low u hu (hc c (List.mem_singleton.2 rfl))⟩
def minW (y x : Nat) : Nat := if V y < V x then y else x
def maxW (y x : Nat) : Nat := if V x < V y then y else x
theorem minW_V (y x : Nat) : V (minW y x) ≤ V x ∧ V (minW y x) ≤ V y ∧ (V (minW y x) = V x ∨ V (minW y x) = V y) := by unfold minW; split <;> omega
theorem maxW_V (y x : Nat) : V x ≤ V (maxW y x) ∧ V y ≤ V (maxW y x) ∧ (V (maxW y x) = V x ∨ V (maxW y x) = V y) := by unfold maxW; split <;> omega
theorem DnAll.more {cs : List (Int → Int)} {c : Int → Int} {x y : Nat} (h : DnAll cs x) (k : Dn c y) (hcs : ∀ d ∈ cs, Falls d) (hc : Falls c) : DnAll (cs ++ [c]) (minW y x) := by
  obtain ⟨m1, m2, m3⟩ := minW_V y x
  refine ⟨by unfold minW; split; exact k.fin; exact h.fin, fun d hd => ?_, fun u hu hall => ?_⟩
  · rcases List.mem_append.1 hd with hd | hd
    · exact Int.le_trans (h.le d hd) (hcs d hd _ _ m1)
    · rw [List.mem_singleton.1 hd]; exact Int.le_trans k.le (hc _ _ m2)
  · have a := h.top u hu fun d hd => hall d (List.mem_append_left _ hd)
    have b := k.top u hu (hall c (List.mem_append_right _ (List.mem_singleton.2 rfl)))
    omega
theorem UpAll.more {cs : List (Int → Int)} {c : Int → Int} {x y : Nat} (h : UpAll cs x) (k : Up c y) (hcs : ∀ d ∈ cs, Falls d) (hc : Falls c) : UpAll (cs ++ [c]) (maxW y x) := by
  obtain ⟨m1, m2, m3⟩ := maxW_V y x
  refine ⟨by unfold maxW; split; exact k.fin; exact h.fin, fun d hd => ?_, fun u hu hall => ?_⟩
  · rcases List.mem_append.1 hd with hd | hd
    · exact Int.le_trans (hcs d hd _ _ m1) (h.ge d hd)
    · rw [List.mem_singleton.1 hd]; exact Int.le_trans (hc _ _ m2) k.ge
  · have a := h.low u hu fun d hd => hall d (List.mem_append_left _ hd)
    have b := k.low u hu (hall c (List.mem_append_right _ (List.mem_singleton.2 rfl)))
    omega
theorem DnAll.uniq {cs : List (Int → Int)} {w x : Nat} (h : DnAll cs w) (k : DnAll cs x) : V w = V x := by
  have := h.top x k.fin k.le
  have := k.top w h.fin h.le
  omega
theorem UpAll.uniq {cs : List (Int → Int)} {w x : Nat} (h : UpAll cs w) (k : UpAll cs x) : V w = V x := by
  have := h.low x k.fin k.ge
  have := k.low w h.fin h.ge
  omega
theorem falls_sub (z : Int) : Falls (fun v => z - v) := fun u v h => by show z - v ≤ z - u; omega
def OpAll (er : Int) (cs ds : List (Int → Int)) (e : Ending) : Prop := (er = 0 → ∃ lo hi, e = .returned (toldE lo hi) ∧ DnAll cs lo ∧ UpAll ds hi) ∧ (er ≠ 0 → e = .returned (spanE 0 0 er))

/-! ### products -/
def prodN (a b : Nat) : Int := V a * V b / 2 ^ 1074
theorem prodN_of {a b p e : Nat} {N : Int} (R : ProdRes a b p e N) : prodN a b = N := by
  unfold prodN
  rw [R.ex]
  exact Int.mul_ediv_cancel _ (Int.ne_of_gt (Int.pow_pos (by omega)))
def prodC (a b : Nat) (v : Int) : Int := prodN a b - v
theorem prod_dn {a b p e : Nat} {N : Int} (R : ProdRes a b p e N) (bd : (V p).natAbs ≤ 2 ^ 1500) : Dn (prodC a b) (dnW (V e < 0) p) := by
  have := (prod_adj R bd).dn (p := V e < 0) (by have := R.ve; show V e < 0 ↔ N - V p < 0; omega)
  unfold prodC; rw [prodN_of R]; exact this
theorem prod_up {a b p e : Nat} {N : Int} (R : ProdRes a b p e N) (bd : (V p).natAbs ≤ 2 ^ 1500) : Up (prodC a b) (upW (0 < V e) p) := by
  have := (prod_adj R bd).upp (p := 0 < V e) (by have := R.ve; show 0 < V e ↔ 0 < N - V p; omega)
  unfold prodC; rw [prodN_of R]; exact this

/-! ### Square -/
def sqLo (a b : Nat) : List (Int → Int) := if 0 ≤ V a then [prodC a a] else if V b ≤ 0 then [prodC b b] else [fun v => 0 - v]
def sqHi (a b : Nat) : List (Int → Int) := if 0 ≤ V a then [prodC b b] else if V b ≤ 0 then [prodC a a] else [prodC a a, prodC b b]
end Go.Proofs.Ytnmadknpkhaolaa

namespace Go.Proofs.Ytnmadknpkhaolaa
open Go.ChangeShapes Go.WideShapes Go.ChangeAt Go.RowKit Ieee.Own

theorem OpAll.uniq {er : Int} {cs ds : List (Int → Int)} {e e' : Ending} (h : OpAll er cs ds e) (k : OpAll er cs ds e') : e = e' := by
  by_cases h0 : er = 0
  · obtain ⟨a, b, rfl, h1, h2⟩ := h.1 h0
    obtain ⟨c, d, rfl, k1, k2⟩ := k.1 h0
    rw [toldE_congr h1.fin k1.fin h2.fin k2.fin (h1.uniq k1) (h2.uniq k2)]
  · rw [h.2 h0, k.2 h0]
theorem OpIs.all {er : Int} {c d : Int → Int} {e : Ending} (h : OpIs er c d e) : OpAll er [c] [d] e :=
  ⟨fun h0 => by obtain ⟨a, b, e, h1, h2⟩ := h.1 h0; exact ⟨a, b, e, h1.all, h2.all⟩, h.2⟩
theorem OpAll.span {er : Int} {cs ds : List (Int → Int)} {e : Ending} (h : OpAll er cs ds e) : ∃ x y k, e = .returned (spanE x y k) := by
  by_cases h0 : er = 0
  · obtain ⟨lo, hi, rfl, -, -⟩ := h.1 h0
    obtain ⟨x, y, k, hT⟩ := toldE_span lo hi
    exact ⟨x, y, k, by rw [hT]⟩
  · exact ⟨_, _, _, h.2 h0⟩

/-! ### outwards -/
theorem lowW_le (x : Nat) : V (lowW x) ≤ V x := by
  unfold lowW
  by_cases c1 : 0 ≤ V x ∧ V x < leastV
  · rw [if_pos c1, V_zero]; omega
  · rw [if_neg c1]
    by_cases c2 : V x < 0 ∧ -leastV < V x
    · rw [if_pos c2, nleast_V]; omega
    · rw [if_neg c2]; omega
theorem least_V : V 3706462493325918208 = leastV := rfl
theorem highW_ge (x : Nat) : V x ≤ V (highW x) := by
  unfold highW
  by_cases c1 : V x ≤ 0 ∧ -leastV < V x
  · rw [if_pos c1, V_zero]; omega
  · rw [if_neg c1]
    by_cases c2 : 0 < V x ∧ V x < leastV
    · rw [if_pos c2, least_V]; omega
    · rw [if_neg c2]; omega
/-- greater numbers, greater ends -/
theorem lowW_mono {x y : Nat} (h : V x ≤ V y) : V (lowW x) ≤ V (lowW y) := by
  have p := leastV_pos
  unfold lowW
  by_cases a1 : 0 ≤ V x ∧ V x < leastV <;> by_cases b1 : 0 ≤ V y ∧ V y < leastV
  · rw [if_pos a1, if_pos b1]; omega
  · rw [if_pos a1, if_neg b1, if_neg (by omega), V_zero]; omega
  · rw [if_neg a1, if_pos b1]
    by_cases a2 : V x < 0 ∧ -leastV < V x
    · rw [if_pos a2, nleast_V, V_zero]; omega
    · rw [if_neg a2, V_zero]; omega
  · rw [if_neg a1, if_neg b1]
    by_cases a2 : V x < 0 ∧ -leastV < V x <;> by_cases b2 : V y < 0 ∧ -leastV < V y
    · rw [if_pos a2, if_pos b2]; omega
    · rw [if_pos a2, if_neg b2, nleast_V]; omega
    · rw [if_neg a2, if_pos b2, nleast_V]; omega
    · rw [if_neg a2, if_neg b2]; omega
theorem highW_mono {x y : Nat} (h : V x ≤ V y) : V (highW x) ≤ V (highW y) := by
  have p := leastV_pos
  unfold highW
  by_cases a1 : V x ≤ 0 ∧ -leastV < V x <;> by_cases b1 : V y ≤ 0 ∧ -leastV < V y
  · rw [if_pos a1, if_pos b1]; omega
  · rw [if_pos a1, if_neg b1]
    by_cases b2 : 0 < V y ∧ V y < leastV
    · rw [if_pos b2, least_V, V_zero]; omega
    · rw [if_neg b2, V_zero]; omega
  · rw [if_neg a1, if_pos b1, if_neg (by omega), V_zero]; omega
  · rw [if_neg a1, if_neg b1]
    by_cases a2 : 0 < V x ∧ V x < leastV <;> by_cases b2 : 0 < V y ∧ V y < leastV
    · rw [if_pos a2, if_pos b2]; omega
    · rw [if_pos a2, if_neg b2, least_V]; omega
    · rw [if_neg a2, if_pos b2, least_V]; omega
    · rw [if_neg a2, if_neg b2]; omega

/-- harder to lie below, lower ends -/
theorem DnAll.mono {cs ds : List (Int → Int)} {w x : Nat} (h : DnAll cs w) (k : DnAll ds x) (hcd : ∀ u, (∀ c ∈ cs, 0 ≤ c u) → ∀ d ∈ ds, 0 ≤ d u) : V w ≤ V x := k.top w h.fin (hcd _ h.le)
theorem UpAll.mono {cs ds : List (Int → Int)} {w x : Nat} (h : UpAll cs w) (k : UpAll ds x) (hcd : ∀ u, (∀ c ∈ cs, c u ≤ 0) → ∀ d ∈ ds, d u ≤ 0) : V x ≤ V w := k.low w h.fin (hcd _ h.ge)
end Go.Proofs.Ytnmadknpkhaolaa

namespace Go.Proofs.Ytnmadknpkhaolaa
open Go.ChangeShapes Go.WideShapes Go.ChangeAt Go.RowKit Ieee.Own

/-! ### results that lie in a block -/
theorem results_cell1 {fn : Func} {p : Tmp} {ty : TypeId} (h : fn.results = #[.cell p ty]) (tmps : Array Value) (P : Program) (w : World) :
    (results fn tmps).run P w = ((asAddr (tmps.getD p undef)).run P w).andThen fun a w₁ => (loadVar ty a).run P w₁ := by
  simp only [results, h]
  simp [Sem.run_bind, Result.andThen]
/-! ### Check -/
set_option maxRecDepth 100000 in
theorem scheck_run (a b : Nat) (ha : a < 18446744073709551616) (hb : b < 18446744073709551616) (w : World) : Calls Try.prog 74 #[spanV a b] w fun e w' => e = .returned (.int .i64 (errS a b)) ∧ Below w.heap.size w w' := by
  have C1 := fun w => fit_any a ha w
  have C2 := fun w => fit_any b hb w
  unfold spanV errS
  cases f1 : fitB a
  · rw [f1] at C1
    rw [if_neg (by simp)]
    clear C2 ha hb
    go_enter Try.func74, Try.ntmps74
    go_wp2_with (go_at_call 66; ((with_reducible refine (C1 _).mono ?_); rintro e w' ⟨rfl, rfl⟩))
    go_ret
    exact ⟨rfl, (Below.refl _ w).alloc (Nat.le_refl _) _⟩
  · cases f2 : fitB b
    · rw [f1] at C1
      rw [f2] at C2
      rw [if_neg (by simp)]
      clear ha hb
      go_enter Try.func74, Try.ntmps74
      go_wp2_with (first | (go_at_call 66; ((with_reducible refine (C1 _).mono ?_); rintro e w' ⟨rfl, rfl⟩)) | (go_at_call 66; ((with_reducible refine (C2 _).mono ?_); rintro e w' ⟨rfl, rfl⟩)))
      go_ret
      exact ⟨rfl, (Below.refl _ w).alloc (Nat.le_refl _) _⟩
    · have t := gt_words (fit_fin ha f1) (fit_fin hb f2)
      rw [f1] at C1
      rw [f2] at C2
      rw [if_pos ⟨rfl, rfl⟩]
      clear ha hb f1 f2
      by_cases c : V b < V a
      · rw [decide_eq_true c] at t
        rw [if_pos c]
        clear c
        go_enter Try.func74, Try.ntmps74
        go_wp2_with (first | (go_at_call 66; ((with_reducible refine (C1 _).mono ?_); rintro e w' ⟨rfl, rfl⟩)) | (go_at_call 66; ((with_reducible refine (C2 _).mono ?_); rintro e w' ⟨rfl, rfl⟩)))
        go_ret
        exact ⟨rfl, (Below.refl _ w).alloc (Nat.le_refl _) _⟩
      · rw [decide_eq_false c] at t
        rw [if_neg c]
        clear c
        go_enter Try.func74, Try.ntmps74
        go_wp2_with (first | (go_at_call 66; ((with_reducible refine (C1 _).mono ?_); rintro e w' ⟨rfl, rfl⟩)) | (go_at_call 66; ((with_reducible refine (C2 _).mono ?_); rintro e w' ⟨rfl, rfl⟩)))
        go_ret
        exact ⟨rfl, (Below.refl _ w).alloc (Nat.le_refl _) _⟩
set_option maxRecDepth 100000 in
theorem sboth_run (a1 a2 b1 b2 : Nat) (ha : a1 < 18446744073709551616) (ha' : a2 < 18446744073709551616) (hb : b1 < 18446744073709551616) (hb' : b2 < 18446744073709551616) (w : World) :
    Calls Try.prog 94 #[spanV a1 a2, spanV b1 b2] w fun e w' => e = .returned (.int .i64 (errSS a1 a2 b1 b2)) ∧ Below w.heap.size w w' := by
  have C1 := fun w => scheck_run a1 a2 ha ha' w
  have C2 := fun w => scheck_run b1 b2 hb hb' w
  have S0 : Blocks w ([boxO a1 a2] ++ [boxO b1 b2]) ((w.alloc (boxO a1 a2)).alloc (boxO b1 b2)) := ((Blocks.nil w).alloc (by simp) _).alloc (by simp) _
  unfold errSS
  unfold spanV at *
  unfold boxO at S0
  replace C1 := Lib.hid C1
  replace C2 := Lib.hid C2
  clear ha ha' hb hb'
  generalize errS a1 a2 = e1 at *
  generalize errS b1 b2 = e2 at *
  by_cases h0 : e1 = 0
  · subst h0
    rw [if_neg (by simp)]
    replace S0 := Lib.hid S0
    go_enter Try.func94, Try.ntmps94
    go_wp2_with fail
    have S := S0.out
    clear S0
    generalize (w.alloc _).alloc _ = wr at *
    refine (C1.out wr).mono ?_
    rintro _ w1 ⟨rfl, hb1⟩
    have S1 := S.on hb1
    have c0 := S1.cell 1 rfl 0 (w.heap.size + 1) rfl
    have c1 := S1.cell 1 rfl 1 (w.heap.size + 1) rfl
    have B1 := Lib.hid S1.old
    clear S S1 hb1
    go_wp2_with fail
    refine (C2.out w1).mono ?_
    rintro _ w2 ⟨rfl, hb2⟩
    have B2 := Lib.hid (B1.out.trans (hb2.mono B1.out.size))
    clear hb2 c0 c1
    go_wp2_with fail
    go_ret
    exact ⟨rfl, B2.out⟩
  · rw [if_pos h0]
    have t : (e1 != 0) = true := by simpa using h0
    clear h0
    replace S0 := Lib.hid S0
    go_enter Try.func94, Try.ntmps94
    go_wp2_with fail
    have S := S0.out
    clear S0
    generalize (w.alloc _).alloc _ = wr at *
    refine (C1.out wr).mono ?_
    rintro _ w1 ⟨rfl, hb1⟩
    have B1 := Lib.hid (S.on hb1).old
    clear S hb1
    go_wp2_with fail
    go_ret
    exact ⟨rfl, B1.out⟩

/-! ### ends, brought outwards -/
def fabW (x : Nat) : Nat := if 0 < V x ∧ V x < leastV then 3706462493325918208 else if -leastV < V x ∧ V x < 0 then 0 else x
set_option maxRecDepth 100000 in
theorem fab_run (x : Nat) (h : FinW x) (w : World) : Calls Try.prog 107 #[.float .f64 x] w fun e w' => e = .returned (.float .f64 (fabW x)) ∧ w = w' := by
  have t1 := lt_words zero_fin h
  have t2 := lt_words h least_fin
  have t3 := lt_words nleast_fin h
  have t4 := lt_words h zero_fin
  rw [V_zero] at t1 t4
  rw [nleast_V] at t3
  have p := leastV_pos
  change _ = decide (V x < leastV) at t2
  unfold fabW
  by_cases c1 : 0 < V x
  · rw [decide_eq_true c1] at t1
    by_cases c2 : V x < leastV
    · rw [decide_eq_true c2] at t2
      rw [if_pos ⟨c1, c2⟩]
      clear h c1 c2 t3 t4 p
      go_enter Try.func107, Try.ntmps107
      go_wp2_with fail
      go_ret
      exact ⟨rfl, rfl⟩
    · rw [decide_eq_false c2] at t2
      rw [if_neg (fun hc => c2 hc.2), if_neg (fun hc => by omega)]
      rw [decide_eq_true (by omega)] at t3
      rw [decide_eq_false (by omega)] at t4
      clear h c1 c2 p
      go_enter Try.func107, Try.ntmps107
      go_wp2_with fail
      go_ret
      exact ⟨rfl, rfl⟩
  · rw [decide_eq_false c1] at t1
    rw [if_neg (fun hc => c1 hc.1)]
    by_cases c3 : -leastV < V x
    · rw [decide_eq_true c3] at t3
      by_cases c4 : V x < 0
      · rw [decide_eq_true c4] at t4
        rw [if_pos ⟨c3, c4⟩]
        clear h c1 c3 c4 t2 p
        go_enter Try.func107, Try.ntmps107
        go_wp2_with fail
        go_ret
        exact ⟨rfl, rfl⟩
      · rw [decide_eq_false c4] at t4
        rw [if_neg (fun hc => c4 hc.2)]
        clear h c1 c3 c4 t2 p
        go_enter Try.func107, Try.ntmps107
        go_wp2_with fail
        go_ret
        exact ⟨rfl, rfl⟩
    · rw [decide_eq_false c3] at t3
      rw [if_neg (fun hc => c3 hc.1)]
      clear h c1 c3 t2 t4 p
      go_enter Try.func107, Try.ntmps107
      go_wp2_with fail
      go_ret
      exact ⟨rfl, rfl⟩
theorem fab_V (x : Nat) : V (fabW x) = V (highW x) := by
  have p := leastV_pos
  unfold fabW highW
  by_cases c1 : 0 < V x ∧ V x < leastV
  · rw [if_pos c1, if_neg (by omega), if_pos c1]
  · rw [if_neg c1]
    by_cases c2 : -leastV < V x ∧ V x < 0
    · rw [if_pos c2, if_pos (by omega)]
    · rw [if_neg c2]
      by_cases c3 : V x ≤ 0 ∧ -leastV < V x
      · rw [if_pos c3, V_zero]; omega
      · rw [if_neg c3, if_neg c1]
theorem fab_fin {x : Nat} (h : FinW x) : FinW (fabW x) := by
  unfold fabW; split
  · exact least_fin
  · split
    · exact zero_fin
    · exact h
/-- noughts are +0 -/
def posW (x : Nat) : Nat := if x = 9223372036854775808 then 0 else x
theorem posW_V (x : Nat) : V (posW x) = V x := by
  unfold posW; split
  · rename_i h; rw [h]; decide +kernel
  · rfl
theorem posW_fin {x : Nat} (h : FinW x) : FinW (posW x) := by
  unfold posW; split
  · exact zero_fin
  · exact h
theorem V_zero_iff {x : Nat} (h : FinW x) : V x = 0 ↔ x % 9223372036854775808 = 0 := by
  have := V_abs' x h
  have := val_zero_iff 52 (x % 9223372036854775808)
  omega
theorem pos_add {x : Nat} (h : FinW x) : Ieee.double.add x 0 = some (posW x) := by
  by_cases h0 : V x = 0
  · have hz := (V_zero_iff h).1 h0
    have : x = 0 ∨ x = 9223372036854775808 := by have := h.1; omega
    rcases this with rfl | rfl <;> decide +kernel
  · have hr : RN (V x + V 0) = V x := by rw [V_zero, Int.add_zero, RN_exact (Rep_V x)]
    obtain ⟨r, h1, h2, h3⟩ := add_spec h zero_fin (by rw [hr]; exact fin_top h)
    rw [hr] at h3
    have hp : posW x = x := by
      unfold posW; rw [if_neg]
      intro e; exact h0 ((V_zero_iff h).2 (by rw [e]))
    rw [h1, hp, V_inj h2 h h3 (by rw [h3]; exact h0)]
theorem fit_iff {x : Nat} (h : FinW x) : fitB x = true ↔ V x = 0 ∨ leastV ≤ ((V x).natAbs : Int) ∧ ((V x).natAbs : Int) ≤ mostV := by
  have a := V_abs' x h
  have z := V_zero_iff h
  have e1 : leastV = (val 52 3706462493325918208 : Int) := by decide +kernel
  have e2 : mostV = (val 52 5507902344274116608 : Int) := by decide +kernel
  have c1 := val_lt_iff 52 (x % 9223372036854775808) 3706462493325918208
  have c2 := val_lt_iff 52 5507902344274116608 (x % 9223372036854775808)
  unfold fitB
  rw [decide_eq_true_eq, z, a, e1, e2]
  omega
/-- a number that is 0, or of magnitude from the least fit one on, told by its value with +0 -/
theorem posW_of {x y : Nat} (hx : FinW x) (hy : FinW y) (h : V x = V y) (h0 : V y = 0 → y = 0) : posW x = y := by
  by_cases hz : V x = 0
  · have := (V_zero_iff hx).1 hz
    rw [h0 (by rw [← h]; exact hz)]
    unfold posW
    split
    · rfl
    · have := hx.1; omega
  · have e := V_inj hx hy h hz
    unfold posW
    rw [if_neg]
    · exact e
    · intro e2
      rw [e2] at hz
      exact hz (by decide +kernel)
theorem lowW_plus {x : Nat} (h : V (lowW x) = 0) : lowW x = 0 := by
  have p := leastV_pos
  unfold lowW at *
  by_cases c1 : 0 ≤ V x ∧ V x < leastV
  · rw [if_pos c1]
  · rw [if_neg c1] at h ⊢
    by_cases c2 : V x < 0 ∧ -leastV < V x
    · rw [if_pos c2, nleast_V] at h; omega
    · rw [if_neg c2] at h; omega
theorem highW_plus {x : Nat} (h : V (highW x) = 0) : highW x = 0 := by
  have p := leastV_pos
  unfold highW at *
  by_cases c1 : V x ≤ 0 ∧ -leastV < V x
  · rw [if_pos c1]
  · rw [if_neg c1] at h ⊢
    by_cases c2 : 0 < V x ∧ V x < leastV
    · rw [if_pos c2, least_V] at h; omega
    · rw [if_neg c2] at h; omega
theorem lowW_out (x : Nat) : V (lowW x) = 0 ∨ leastV ≤ ((V (lowW x)).natAbs : Int) := by
  have p := leastV_pos
  unfold lowW
  by_cases c1 : 0 ≤ V x ∧ V x < leastV
  · rw [if_pos c1, V_zero]; omega
  · rw [if_neg c1]
    by_cases c2 : V x < 0 ∧ -leastV < V x
    · rw [if_pos c2, nleast_V]; omega
    · rw [if_neg c2]; omega
theorem highW_out (x : Nat) : V (highW x) = 0 ∨ leastV ≤ ((V (highW x)).natAbs : Int) := by
  have p := leastV_pos
  unfold highW
  by_cases c1 : V x ≤ 0 ∧ -leastV < V x
  · rw [if_pos c1, V_zero]; omega
  · rw [if_neg c1]
    by_cases c2 : 0 < V x ∧ V x < leastV
    · rw [if_pos c2, least_V]; omega
    · rw [if_neg c2]; omega
theorem neg_high {x : Nat} (h : FinW x) : V (negW (fabW (negW x))) = V (lowW x) := by
  have p := leastV_pos
  rw [negW_V (fab_fin (negW_fin h)), fab_V]
  unfold highW lowW
  rw [negW_V h]
  by_cases c1 : 0 ≤ V x ∧ V x < leastV
  · rw [if_pos c1, if_pos (by omega), V_zero]; rfl
  · rw [if_neg c1, if_neg (by omega)]
    by_cases c2 : V x < 0 ∧ -leastV < V x
    · rw [if_pos c2, if_pos (by omega), nleast_V]; rfl
    · rw [if_neg c2, if_neg (by omega), negW_V h]; omega

/-! ### Make, outwards -/
def makeE (lo hi : Nat) : Value := if errS lo hi = 0 then spanE (posW lo) (posW hi) 0 else spanE 0 0 (errS lo hi)
set_option maxRecDepth 100000 in
theorem make_run (lo hi : Nat) (h1 : lo < 18446744073709551616) (h2 : hi < 18446744073709551616) (w : World) : Calls Try.prog 80 #[.float .f64 lo, .float .f64 hi] w fun e w' => e = .returned (makeE lo hi) ∧ Below w.heap.size w w' := by
  have C := Lib.hid (fun w => scheck_run lo hi h1 h2 w)
  have S0 : Blocks w [zeroO] (w.alloc zeroO) := (Blocks.nil w).alloc (by simp) _
  unfold zeroO at S0
  unfold spanV at *
  replace S0 := Lib.hid S0
  have hst := @fstore
  unfold makeE
  by_cases h0 : errS lo hi = 0
  · obtain ⟨f1, f2, -⟩ := errS_zero h0
    have r1 := fun w => run_add lo 0 _ (pos_add (fit_fin h1 f1)) 30 w
    have r2 := fun w => run_add hi 0 _ (pos_add (fit_fin h2 f2)) 30 w
    rw [if_pos h0]
    rw [h0] at C
    clear h0 f1 f2 h1 h2
    go_enter Try.func80, Try.ntmps80
    go_wp2_with fail
    have S := S0.out
    clear S0
    generalize w.alloc _ = wr at *
    refine (C.out wr).mono ?_
    rintro _ w1 ⟨rfl, hb1⟩
    have S1 := S.on hb1
    have c0 := S1.cell 0 rfl 0 w.heap.size rfl
    have c1 := S1.cell 0 rfl 1 w.heap.size rfl
    have f0 := S1.free 0 rfl 0 w.heap.size rfl
    have f1 := S1.free 0 rfl 1 w.heap.size rfl
    have B1 := Lib.hid S1.old
    clear S S1 hb1
    go_wp2_with fail
    (try simp only [Exit.inBlock, Exit.then])
    refine bodyPost_ret (v := spanE (posW lo) (posW hi) 0) ?_ rfl ⟨rfl, ?_⟩
    · rw [results_cell_tmp rfl]; unfold spanE; go_simp
    · exact (B1.out.setCell (by show _ ≤ w.heap.size; omega) _).setCell (by show _ ≤ w.heap.size; omega) _
  · rw [if_neg h0]
    have t : (errS lo hi != 0) = true := by simpa using h0
    clear h0 h1 h2
    generalize errS lo hi = er at *
    go_enter Try.func80, Try.ntmps80
    go_wp2_with fail
    have S := S0.out
    clear S0
    generalize w.alloc _ = wr at *
    refine (C.out wr).mono ?_
    rintro _ w1 ⟨rfl, hb1⟩
    have S1 := S.on hb1
    have c0 := S1.cell 0 rfl 0 w.heap.size rfl
    have c1 := S1.cell 0 rfl 1 w.heap.size rfl
    have f0 := S1.free 0 rfl 0 w.heap.size rfl
    have f1 := S1.free 0 rfl 1 w.heap.size rfl
    have B1 := Lib.hid S1.old
    clear S S1 hb1
    go_wp2_with fail
    (try simp only [Exit.inBlock, Exit.then])
    refine bodyPost_ret (v := spanE 0 0 er) ?_ rfl ⟨rfl, ?_⟩
    · rw [results_cell_tmp rfl]; unfold spanE; go_simp
    · exact (B1.out.setCell (by show _ ≤ w.heap.size; omega) _).setCell (by show _ ≤ w.heap.size; omega) _
theorem out_make {lo hi : Nat} (h1 : FinW lo) (h2 : FinW hi) (h : V lo ≤ V hi) : makeE (negW (fabW (negW lo))) (fabW hi) = toldE lo hi := by
  have p := leastV_pos
  have a1 := negW_fin (fab_fin (negW_fin h1))
  have a2 := fab_fin h2
  have v1 := neg_high h1
  have v2 := fab_V hi
  have i1 := fit_iff a1
  have i2 := fit_iff a2
  have o1 := lowW_out lo
  have o2 := highW_out hi
  have l1 := lowW_le lo
  have l2 := highW_ge hi
  have q1 : posW (negW (fabW (negW lo))) = lowW lo := posW_of a1 (lowW_fin h1) v1 lowW_plus
  have q2 : posW (fabW hi) = highW hi := posW_of a2 (highW_fin h2) v2 highW_plus
  have pm : 0 < mostV := by decide +kernel
  rw [v1] at i1
  rw [v2] at i2
  have es : errS (negW (fabW (negW lo))) (fabW hi) = if V (lowW lo) < -mostV ∨ mostV < V (highW hi) then 3 else 0 := by
    unfold errS
    by_cases c : V (lowW lo) < -mostV ∨ mostV < V (highW hi)
    · rw [if_pos c, if_neg]
      intro hh
      have := i1.1 hh.1
      have := i2.1 hh.2
      omega
    · rw [if_neg c, if_pos ⟨i1.2 (by omega), i2.2 (by omega)⟩, v1, v2, if_neg (by omega)]
  unfold makeE toldE
  rw [q1, q2, es]
  by_cases c : V (lowW lo) < -mostV ∨ mostV < V (highW hi)
  · rw [if_pos c, if_pos c, if_neg (by decide)]
  · rw [if_neg c, if_neg c, if_pos rfl]
set_option maxRecDepth 100000 in
theorem out_run (lo hi : Nat) (h1 : FinW lo) (h2 : FinW hi) (h : V lo ≤ V hi) (w : World) : Calls Try.prog 95 #[.float .f64 lo, .float .f64 hi] w fun e w' => e = .returned (toldE lo hi) ∧ Below w.heap.size w w' := by
  have N1 := fun w => xneg' lo h1.1 w
  have F1 := fun w => fab_run (negW lo) (negW_fin h1) w
  have N2 := fun w => xneg' (fabW (negW lo)) (fab_fin (negW_fin h1)).1 w
  have F2 := fun w => fab_run hi h2 w
  have M := Lib.hid (fun w => make_run (negW (fabW (negW lo))) (fabW hi) (negW_fin (fab_fin (negW_fin h1))).1 (fab_fin h2).1 w)
  rw [out_make h1 h2 h] at M
  have S0 : Blocks w [zeroO] (w.alloc zeroO) := (Blocks.nil w).alloc (by simp) _
  unfold zeroO at S0
  replace S0 := Lib.hid S0
  have hst := @fstore
  obtain ⟨x, y, c, hT⟩ := toldE_span lo hi
  rw [hT] at M ⊢
  unfold spanE at M
  clear h h1 h2 hT
  generalize negW (fabW (negW lo)) = m at *
  generalize fabW (negW lo) = k at *
  generalize negW lo = l at *
  generalize fabW hi = n at *
  go_enter Try.func95, Try.ntmps95
  go_wp2_with (first | (go_at_call 107; ((with_reducible refine (F1 _).mono ?_); rintro e w' ⟨rfl, rfl⟩)) | (go_at_call 107; ((with_reducible refine (F2 _).mono ?_); rintro e w' ⟨rfl, rfl⟩)))
  have S := S0.out
  clear S0
  generalize w.alloc _ = wr at *
  refine (M.out wr).mono ?_
  rintro _ w1 ⟨rfl, hb1⟩
  have S1 := S.on hb1
  have c0 := S1.cell 0 rfl 0 w.heap.size rfl
  have c1 := S1.cell 0 rfl 1 w.heap.size rfl
  have f0 := S1.free 0 rfl 0 w.heap.size rfl
  have f1 := S1.free 0 rfl 1 w.heap.size rfl
  have B1 := Lib.hid S1.old
  clear S S1 hb1
  go_wp2_with fail
  (try simp only [Exit.inBlock, Exit.then])
  refine bodyPost_ret (v := spanE x y c) ?_ rfl ⟨rfl, ?_⟩
  · rw [results_cell_tmp rfl]; unfold spanE; go_simp
  · exact (B1.out.setCell (by show _ ≤ w.heap.size; omega) _).setCell (by show _ ≤ w.heap.size; omega) _

/-! ### about -/
set_option maxRecDepth 100000 in
theorem about_run (x r : Nat) (hx : FinW x) (hr : FinW r) (w : World) : Calls Try.prog 109 #[.float .f64 x, .float .f64 r] w fun e w' => e = .returned (spanV (dnW (V r < 0) x) (upW (0 < V r) x)) ∧ Below w.heap.size w w' := by
  have t1 := lt_words hr zero_fin
  have t2 := gt_words hr zero_fin
  rw [V_zero] at t1 t2
  have P1 := fun w => prev_any x hx.1 w
  have P2 := fun w => next_any x hx.1 w
  have hst := @fstore
  clear hx hr
  unfold dnW upW
  by_cases c : V r < 0
  · rw [decide_eq_true c] at t1
    rw [if_pos c, if_neg (by omega)]
    clear c t2
    go_enter Try.func109, Try.ntmps109
    go_wp2_with (go_at_call 116; ((with_reducible refine (P1 _).mono ?_); rintro e w' ⟨rfl, rfl⟩))
    (try simp only [Exit.inBlock, Exit.then])
    refine bodyPost_ret (v := spanV (prevW x) x) ?_ rfl ⟨rfl, ?_⟩
    · rw [results_cell1 rfl]; unfold spanV; go_simp
    · exact (Below.refl _ w).alloc (Nat.le_refl _) _
  · rw [decide_eq_false c] at t1
    rw [if_neg c]
    by_cases d : 0 < V r
    · rw [decide_eq_true d] at t2
      rw [if_pos d]
      clear c d
      go_enter Try.func109, Try.ntmps109
      go_wp2_with (go_at_call 117; ((with_reducible refine (P2 _).mono ?_); rintro e w' ⟨rfl, rfl⟩))
      (try simp only [Exit.inBlock, Exit.then])
      refine bodyPost_ret (v := spanV x (nextW x)) ?_ rfl ⟨rfl, ?_⟩
      · rw [results_cell1 rfl]; unfold spanV; go_simp
      · exact (Below.refl _ w).alloc (Nat.le_refl _) _
    · rw [decide_eq_false d] at t2
      rw [if_neg d]
      clear c d
      go_enter Try.func109, Try.ntmps109
      go_wp2_with fail
      (try simp only [Exit.inBlock, Exit.then])
      refine bodyPost_ret (v := spanV x x) ?_ rfl ⟨rfl, ?_⟩
      · rw [results_cell1 rfl]; unfold spanV; go_simp
      · exact (Below.refl _ w).alloc (Nat.le_refl _) _
end Go.Proofs.Ytnmadknpkhaolaa

namespace Go.Proofs.Ytnmadknpkhaolaa
open Go.ChangeShapes Go.WideShapes Go.ChangeAt Go.RowKit Ieee.Own

/-- a call that answers the span of the two numbers next to an exact result -/
def Ends (f : FuncId) (args : Array Value) (c : Int → Int) : Prop :=
  ∃ lo hi, Dn c lo ∧ Up c hi ∧ ∀ w, Calls Try.prog f args w fun e w' => e = .returned (spanV lo hi) ∧ Below w.heap.size w w'

set_option maxRecDepth 100000 in
theorem ssum_run {x y : Nat} (hx : x < 18446744073709551616) (hy : y < 18446744073709551616) (h1 : fitB x = true) (h2 : fitB y = true) : Ends 96 #[.float .f64 x, .float .f64 y] (fun v => V x + V y - v) := by
  obtain ⟨s, e, R, ⟨-, -, K, hK, hs, -⟩, C⟩ := sum_fit x y hx hy h1 h2
  refine ⟨_, _, sum_dn R (bd_of hs hK), sum_up R (bd_of hs hK), fun w => ?_⟩
  have A := Lib.hid (fun w => about_run s e R.fs R.fe w)
  generalize dnW (V e < 0) s = lo at *
  generalize upW (0 < V e) s = hi at *
  have S0 : Blocks w [zeroO] (w.alloc zeroO) := (Blocks.nil w).alloc (by simp) _
  unfold zeroO at S0
  unfold spanV at *
  unfold ffi at C
  replace S0 := Lib.hid S0
  have hst := @fstore
  clear R hs hK hx hy h1 h2
  go_enter Try.func96, Try.ntmps96
  go_wp2_with (go_at_call 108; ((with_reducible refine (C _).mono ?_); rintro e w' ⟨rfl, rfl⟩))
  have S := S0.out
  clear S0
  generalize w.alloc _ = wr at *
  refine (A.out wr).mono ?_
  rintro _ w1 ⟨rfl, hb1⟩
  have S1 := S.on hb1
  have c0 := S1.cell 0 rfl 0 w.heap.size rfl
  have c1 := S1.cell 0 rfl 1 w.heap.size rfl
  have f0 := S1.free 0 rfl 0 w.heap.size rfl
  have f1 := S1.free 0 rfl 1 w.heap.size rfl
  have B1 := Lib.hid S1.old
  clear S S1 hb1
  go_wp2_with fail
  (try simp only [Exit.inBlock, Exit.then])
  refine bodyPost_ret (v := .agg #[.float .f64 lo, .float .f64 hi]) ?_ rfl ⟨rfl, ?_⟩
  · rw [results_cell1 rfl]; go_simp
  · exact (B1.out.setCell (by show _ ≤ w.heap.size; omega) _).setCell (by show _ ≤ w.heap.size; omega) _
set_option maxRecDepth 100000 in
theorem sprod_run {x y : Nat} (hx : x < 18446744073709551616) (hy : y < 18446744073709551616) (h1 : fitB x = true) (h2 : fitB y = true) : Ends 115 #[.float .f64 x, .float .f64 y] (prodC x y) := by
  obtain ⟨p, r, N, Z, g, R, -, ⟨-, -, K, hK, hs, -⟩, C⟩ := prod_fit x y hx hy h1 h2
  refine ⟨_, _, prod_dn R (bd_of hs hK), prod_up R (bd_of hs hK), fun w => ?_⟩
  have A := Lib.hid (fun w => about_run p r R.fp R.fe w)
  generalize dnW (V r < 0) p = lo at *
  generalize upW (0 < V r) p = hi at *
  have S0 : Blocks w [zeroO] (w.alloc zeroO) := (Blocks.nil w).alloc (by simp) _
  unfold zeroO at S0
  unfold spanV at *
  unfold ffi at C
  replace S0 := Lib.hid S0
  have hst := @fstore
  clear R hs hK hx hy h1 h2
  go_enter Try.func115, Try.ntmps115
  go_wp2_with (go_at_call 121; ((with_reducible refine (C _).mono ?_); rintro e w' ⟨rfl, rfl⟩))
  have S := S0.out
  clear S0
  generalize w.alloc _ = wr at *
  refine (A.out wr).mono ?_
  rintro _ w1 ⟨rfl, hb1⟩
  have S1 := S.on hb1
  have c0 := S1.cell 0 rfl 0 w.heap.size rfl
  have c1 := S1.cell 0 rfl 1 w.heap.size rfl
  have f0 := S1.free 0 rfl 0 w.heap.size rfl
  have f1 := S1.free 0 rfl 1 w.heap.size rfl
  have B1 := Lib.hid S1.old
  clear S S1 hb1
  go_wp2_with fail
  (try simp only [Exit.inBlock, Exit.then])
  refine bodyPost_ret (v := .agg #[.float .f64 lo, .float .f64 hi]) ?_ rfl ⟨rfl, ?_⟩
  · rw [results_cell1 rfl]; go_simp
  · exact (B1.out.setCell (by show _ ≤ w.heap.size; omega) _).setCell (by show _ ≤ w.heap.size; omega) _
end Go.Proofs.Ytnmadknpkhaolaa

namespace Go.Proofs.Ytnmadknpkhaolaa
open Go.ChangeShapes Go.WideShapes Go.ChangeAt Go.RowKit Ieee.Own

theorem Blocks.drew {w wr : World} {os : List Obj} (S : Blocks w os wr) : Blocks w os wr.drew := ⟨S.old.drew, S.more, S.at_⟩
set_option maxRecDepth 100000 in
theorem field_lo (x y : Nat) (w : World) : (Instr.field 60 (.agg #[.float .f64 x, .float .f64 y]) 0).run Try.prog w = .ok (.float .f64 x) w := by rfl
set_option maxRecDepth 100000 in
theorem field_hi (x y : Nat) (w : World) : (Instr.field 60 (.agg #[.float .f64 x, .float .f64 y]) 1).run Try.prog w = .ok (.float .f64 y) w := by rfl
/-! ### Neg -/
/-! ### Root -/
/-! ### Add, Sub -/
set_option maxHeartbeats 1000000 in
set_option maxRecDepth 100000 in
theorem sadd_run (a1 a2 b1 b2 : Nat) (ha : a1 < 18446744073709551616) (ha' : a2 < 18446744073709551616) (hb : b1 < 18446744073709551616) (hb' : b2 < 18446744073709551616) (w : World) :
    Calls Try.prog 79 #[spanV a1 a2, spanV b1 b2] w fun e w' => OpIs (errSS a1 a2 b1 b2) (fun v => V a1 + V b1 - v) (fun v => V a2 + V b2 - v) e ∧ Below w.heap.size w w' := by
  have CB := Lib.hid (fun w => sboth_run a1 a2 b1 b2 ha ha' hb hb' w)
  have S0 : Blocks w (([boxO a1 a2] ++ [boxO b1 b2]) ++ [zeroO]) (((w.alloc (boxO a1 a2)).alloc (boxO b1 b2)).alloc zeroO) := (((Blocks.nil w).alloc (by simp) _).alloc (by simp) _).alloc (by simp) _
  unfold boxO zeroO at S0
  unfold spanV at *
  replace S0 := Lib.hid S0
  have hst := @fstore
  have fl0 := field_lo
  have fl1 := field_hi
  by_cases h0 : errSS a1 a2 b1 b2 = 0
  · obtain ⟨e1, e2⟩ := errSS_zero h0
    obtain ⟨f1, f2, le1⟩ := errS_zero e1
    obtain ⟨f3, f4, le2⟩ := errS_zero e2
    obtain ⟨lo, hi', hD, hU', A1⟩ := ssum_run ha hb f1 f3
    obtain ⟨lo', hi, hD', hU, A2⟩ := ssum_run ha' hb' f2 f4
    have hle : V lo ≤ V hi := by
      have z1 : 0 ≤ V a1 + V b1 - V lo := hD.le
      have z2 : V a2 + V b2 - V hi ≤ 0 := hU.ge
      omega
    have TR := Lib.hid (fun w => out_run lo hi hD.fin hU.fin hle w)
    replace A1 := Lib.hid A1
    replace A2 := Lib.hid A2
    obtain ⟨x, y, c, hT⟩ := toldE_span lo hi
    rw [hT] at TR
    have hO : Hid (OpIs (errSS a1 a2 b1 b2) (fun v => V a1 + V b1 - v) (fun v => V a2 + V b2 - v) (.returned (spanE x y c))) := ⟨fun _ => ⟨lo, hi, by rw [hT], hD, hU⟩, fun h => absurd h0 h⟩
    rw [h0] at CB
    unfold spanE at TR
    unfold spanV at A1 A2
    clear h0 e1 e2 f1 f2 f3 f4 le1 le2 hle hD hU hD' hU' hT ha ha' hb hb'
    have hn : ¬ (w.heap.size = w.heap.size + 1 + 1) := by omega
    have hn' : ¬ (w.heap.size + 1 + 1 = w.heap.size) := by omega

    go_enter Try.func79, Try.ntmps79
    go_wp2_with fail
    have S := S0.out
    clear S0
    generalize ((w.alloc _).alloc _).alloc _ = wr at *
    refine (CB.out wr).mono ?_
    rintro _ w1 ⟨rfl, hb1⟩
    have S1 := S.on hb1
    have c00 : w1.cell? ⟨w.heap.size, 0, none⟩ = some (.float .f64 a1) := S1.cell 0 rfl 0 w.heap.size rfl
    have c01 : w1.cell? ⟨w.heap.size, 1, none⟩ = some (.float .f64 a2) := S1.cell 0 rfl 1 w.heap.size rfl
    have c10 : w1.cell? ⟨w.heap.size + 1, 0, none⟩ = some (.float .f64 b1) := S1.cell 1 rfl 0 (w.heap.size + 1) rfl
    have c11 : w1.cell? ⟨w.heap.size + 1, 1, none⟩ = some (.float .f64 b2) := S1.cell 1 rfl 1 (w.heap.size + 1) rfl
    replace S1 := Lib.hid S1
    clear S hb1
    go_wp2_with fail
    go_region_held3 (fun x => x.cell? ⟨w.heap.size, 0, none⟩ = some (.float .f64 a1) ∧ x.cell? ⟨w.heap.size, 1, none⟩ = some (.float .f64 a2) ∧ x.cell? ⟨w.heap.size + 1, 0, none⟩ = some (.float .f64 b1) ∧ x.cell? ⟨w.heap.size + 1, 1, none⟩ = some (.float .f64 b2)) (first | exact ⟨c00, c01, c10, c11⟩ | exact ⟨d00, d01, d10, d11⟩ | exact ⟨e00, e01, e10, e11⟩ | exact ⟨k00, k01, k10, k11⟩ | go_keep)
      (first
        | (go_at_call 96; ((with_reducible refine (A1.out w1.drew).mono ?_); rintro _ wa ⟨rfl, hba⟩; have Sa := S1.out.drew.on hba; have d00 : wa.cell? ⟨w.heap.size, 0, none⟩ = some (.float .f64 a1) := Sa.cell 0 rfl 0 w.heap.size rfl; have d01 : wa.cell? ⟨w.heap.size, 1, none⟩ = some (.float .f64 a2) := Sa.cell 0 rfl 1 w.heap.size rfl; have d10 : wa.cell? ⟨w.heap.size + 1, 0, none⟩ = some (.float .f64 b1) := Sa.cell 1 rfl 0 (w.heap.size + 1) rfl; have d11 : wa.cell? ⟨w.heap.size + 1, 1, none⟩ = some (.float .f64 b2) := Sa.cell 1 rfl 1 (w.heap.size + 1) rfl; replace Sa := Lib.hid Sa; clear hba))
        | (go_at_call 96; ((with_reducible refine (A2.out wa).mono ?_); rintro _ wb ⟨rfl, hbb⟩; have Sb := Sa.out.on hbb; have e00 : wb.cell? ⟨w.heap.size, 0, none⟩ = some (.float .f64 a1) := Sb.cell 0 rfl 0 w.heap.size rfl; have e01 : wb.cell? ⟨w.heap.size, 1, none⟩ = some (.float .f64 a2) := Sb.cell 0 rfl 1 w.heap.size rfl; have e10 : wb.cell? ⟨w.heap.size + 1, 0, none⟩ = some (.float .f64 b1) := Sb.cell 1 rfl 0 (w.heap.size + 1) rfl; have e11 : wb.cell? ⟨w.heap.size + 1, 1, none⟩ = some (.float .f64 b2) := Sb.cell 1 rfl 1 (w.heap.size + 1) rfl; replace Sb := Lib.hid Sb; clear hbb))
        | (go_at_call 95; ((with_reducible refine (TR.out wb).mono ?_); rintro _ wc ⟨rfl, hbc⟩; have Sc := Sb.out.on hbc; have k00 : wc.cell? ⟨w.heap.size, 0, none⟩ = some (.float .f64 a1) := Sc.cell 0 rfl 0 w.heap.size rfl; have k01 : wc.cell? ⟨w.heap.size, 1, none⟩ = some (.float .f64 a2) := Sc.cell 0 rfl 1 w.heap.size rfl; have k10 : wc.cell? ⟨w.heap.size + 1, 0, none⟩ = some (.float .f64 b1) := Sc.cell 1 rfl 0 (w.heap.size + 1) rfl; have k11 : wc.cell? ⟨w.heap.size + 1, 1, none⟩ = some (.float .f64 b2) := Sc.cell 1 rfl 1 (w.heap.size + 1) rfl; have r0 := Sc.cell 2 rfl 0 (w.heap.size + 1 + 1) rfl; have r1 := Sc.cell 2 rfl 1 (w.heap.size + 1 + 1) rfl; have f0 := Sc.free 2 rfl 0 (w.heap.size + 1 + 1) rfl; have f1 := Sc.free 2 rfl 1 (w.heap.size + 1 + 1) rfl; have B2 := Lib.hid Sc.old; clear hbc Sc)))
    all_goals
      go_wp2_with fail
      (try simp only [Exit.inBlock, Exit.then])
      refine bodyPost_ret (v := spanE x y c) ?_ rfl ⟨hO.out, ?_⟩
      · rw [results_cell_tmp rfl]; unfold spanE; go_simp
      · exact (B2.out.setCell (by show _ ≤ (w.heap.size + 1 + 1); omega) _).setCell (by show _ ≤ (w.heap.size + 1 + 1); omega) _
  · have hO : Hid (OpIs (errSS a1 a2 b1 b2) (fun v => V a1 + V b1 - v) (fun v => V a2 + V b2 - v) (.returned (spanE 0 0 (errSS a1 a2 b1 b2)))) := ⟨fun h => absurd h h0, fun _ => rfl⟩
    have t : (errSS a1 a2 b1 b2 != 0) = true := by simpa using h0
    clear h0 ha ha' hb hb'
    generalize errSS a1 a2 b1 b2 = er at *
    go_enter Try.func79, Try.ntmps79
    go_wp2_with fail
    have S := S0.out
    clear S0
    generalize ((w.alloc _).alloc _).alloc _ = wr at *
    refine (CB.out wr).mono ?_
    rintro _ w1 ⟨rfl, hb1⟩
    have S1 := S.on hb1
    have r0 := S1.cell 2 rfl 0 (w.heap.size + 1 + 1) rfl
    have r1 := S1.cell 2 rfl 1 (w.heap.size + 1 + 1) rfl
    have f0 := S1.free 2 rfl 0 (w.heap.size + 1 + 1) rfl
    have f1 := S1.free 2 rfl 1 (w.heap.size + 1 + 1) rfl
    have B2 := Lib.hid S1.old
    clear S S1 hb1
    go_wp2_with fail
    (try simp only [Exit.inBlock, Exit.then])
    refine bodyPost_ret (v := spanE 0 0 er) ?_ rfl ⟨hO.out, ?_⟩
    · rw [results_cell_tmp rfl]; unfold spanE; go_simp
    · exact (B2.out.setCell (by show _ ≤ (w.heap.size + 1 + 1); omega) _).setCell (by show _ ≤ (w.heap.size + 1 + 1); omega) _

set_option maxHeartbeats 1000000 in
set_option maxRecDepth 100000 in
theorem ssub_run (a1 a2 b1 b2 : Nat) (ha : a1 < 18446744073709551616) (ha' : a2 < 18446744073709551616) (hb : b1 < 18446744073709551616) (hb' : b2 < 18446744073709551616) (w : World) :
    Calls Try.prog 104 #[spanV a1 a2, spanV b1 b2] w fun e w' => OpIs (errSS a1 a2 b1 b2) (fun v => V a1 - V b2 - v) (fun v => V a2 - V b1 - v) e ∧ Below w.heap.size w w' := by
  have CB := Lib.hid (fun w => sboth_run a1 a2 b1 b2 ha ha' hb hb' w)
  have S0 : Blocks w (([boxO a1 a2] ++ [boxO b1 b2]) ++ [zeroO]) (((w.alloc (boxO a1 a2)).alloc (boxO b1 b2)).alloc zeroO) := (((Blocks.nil w).alloc (by simp) _).alloc (by simp) _).alloc (by simp) _
  unfold boxO zeroO at S0
  unfold spanV at *
  replace S0 := Lib.hid S0
  have hst := @fstore
  have fl0 := field_lo
  have fl1 := field_hi
  by_cases h0 : errSS a1 a2 b1 b2 = 0
  · obtain ⟨e1, e2⟩ := errSS_zero h0
    obtain ⟨f1, f2, le1⟩ := errS_zero e1
    obtain ⟨f3, f4, le2⟩ := errS_zero e2
    obtain ⟨lo, hi', hD, hU', A1⟩ := ssum_run ha (negW_lt64 hb') f1 (by rw [fit_neg hb']; exact f4)
    obtain ⟨lo', hi, hD', hU, A2⟩ := ssum_run ha' (negW_lt64 hb) f2 (by rw [fit_neg hb]; exact f3)
    rw [negW_V (fit_fin hb' f4), ← Int.sub_eq_add_neg] at hD hU'
    rw [negW_V (fit_fin hb f3), ← Int.sub_eq_add_neg] at hU hD'
    have hle : V lo ≤ V hi := by
      have z1 : 0 ≤ V a1 - V b2 - V lo := hD.le
      have z2 : V a2 - V b1 - V hi ≤ 0 := hU.ge
      omega
    have N1 := fun w => xneg' b1 hb w
    have N2 := fun w => xneg' b2 hb' w
    have TR := Lib.hid (fun w => out_run lo hi hD.fin hU.fin hle w)
    replace A1 := Lib.hid A1
    replace A2 := Lib.hid A2
    obtain ⟨x, y, c, hT⟩ := toldE_span lo hi
    rw [hT] at TR
    have hO : Hid (OpIs (errSS a1 a2 b1 b2) (fun v => V a1 - V b2 - v) (fun v => V a2 - V b1 - v) (.returned (spanE x y c))) := ⟨fun _ => ⟨lo, hi, by rw [hT], hD, hU⟩, fun h => absurd h0 h⟩
    rw [h0] at CB
    unfold spanE at TR
    unfold spanV at A1 A2
    clear h0 e1 e2 f1 f2 f3 f4 le1 le2 hle hD hU hD' hU' hT ha ha' hb hb'
    have hn : ¬ (w.heap.size = w.heap.size + 1 + 1) := by omega
    have hn' : ¬ (w.heap.size + 1 + 1 = w.heap.size) := by omega
    generalize negW b1 = n1 at *
    generalize negW b2 = n2 at *
    go_enter Try.func104, Try.ntmps104
    go_wp2_with fail
    have S := S0.out
    clear S0
    generalize ((w.alloc _).alloc _).alloc _ = wr at *
    refine (CB.out wr).mono ?_
    rintro _ w1 ⟨rfl, hb1⟩
    have S1 := S.on hb1
    have c00 : w1.cell? ⟨w.heap.size, 0, none⟩ = some (.float .f64 a1) := S1.cell 0 rfl 0 w.heap.size rfl
    have c01 : w1.cell? ⟨w.heap.size, 1, none⟩ = some (.float .f64 a2) := S1.cell 0 rfl 1 w.heap.size rfl
    have c10 : w1.cell? ⟨w.heap.size + 1, 0, none⟩ = some (.float .f64 b1) := S1.cell 1 rfl 0 (w.heap.size + 1) rfl
    have c11 : w1.cell? ⟨w.heap.size + 1, 1, none⟩ = some (.float .f64 b2) := S1.cell 1 rfl 1 (w.heap.size + 1) rfl
    replace S1 := Lib.hid S1
    clear S hb1
    go_wp2_with fail
    go_region_held3 (fun x => x.cell? ⟨w.heap.size, 0, none⟩ = some (.float .f64 a1) ∧ x.cell? ⟨w.heap.size, 1, none⟩ = some (.float .f64 a2) ∧ x.cell? ⟨w.heap.size + 1, 0, none⟩ = some (.float .f64 b1) ∧ x.cell? ⟨w.heap.size + 1, 1, none⟩ = some (.float .f64 b2)) (first | exact ⟨c00, c01, c10, c11⟩ | exact ⟨d00, d01, d10, d11⟩ | exact ⟨e00, e01, e10, e11⟩ | exact ⟨k00, k01, k10, k11⟩ | go_keep)
      (first
        | (go_at_call 96; ((with_reducible refine (A1.out w1.drew).mono ?_); rintro _ wa ⟨rfl, hba⟩; have Sa := S1.out.drew.on hba; have d00 : wa.cell? ⟨w.heap.size, 0, none⟩ = some (.float .f64 a1) := Sa.cell 0 rfl 0 w.heap.size rfl; have d01 : wa.cell? ⟨w.heap.size, 1, none⟩ = some (.float .f64 a2) := Sa.cell 0 rfl 1 w.heap.size rfl; have d10 : wa.cell? ⟨w.heap.size + 1, 0, none⟩ = some (.float .f64 b1) := Sa.cell 1 rfl 0 (w.heap.size + 1) rfl; have d11 : wa.cell? ⟨w.heap.size + 1, 1, none⟩ = some (.float .f64 b2) := Sa.cell 1 rfl 1 (w.heap.size + 1) rfl; replace Sa := Lib.hid Sa; clear hba))
        | (go_at_call 96; ((with_reducible refine (A2.out wa).mono ?_); rintro _ wb ⟨rfl, hbb⟩; have Sb := Sa.out.on hbb; have e00 : wb.cell? ⟨w.heap.size, 0, none⟩ = some (.float .f64 a1) := Sb.cell 0 rfl 0 w.heap.size rfl; have e01 : wb.cell? ⟨w.heap.size, 1, none⟩ = some (.float .f64 a2) := Sb.cell 0 rfl 1 w.heap.size rfl; have e10 : wb.cell? ⟨w.heap.size + 1, 0, none⟩ = some (.float .f64 b1) := Sb.cell 1 rfl 0 (w.heap.size + 1) rfl; have e11 : wb.cell? ⟨w.heap.size + 1, 1, none⟩ = some (.float .f64 b2) := Sb.cell 1 rfl 1 (w.heap.size + 1) rfl; replace Sb := Lib.hid Sb; clear hbb))
        | (go_at_call 95; ((with_reducible refine (TR.out wb).mono ?_); rintro _ wc ⟨rfl, hbc⟩; have Sc := Sb.out.on hbc; have k00 : wc.cell? ⟨w.heap.size, 0, none⟩ = some (.float .f64 a1) := Sc.cell 0 rfl 0 w.heap.size rfl; have k01 : wc.cell? ⟨w.heap.size, 1, none⟩ = some (.float .f64 a2) := Sc.cell 0 rfl 1 w.heap.size rfl; have k10 : wc.cell? ⟨w.heap.size + 1, 0, none⟩ = some (.float .f64 b1) := Sc.cell 1 rfl 0 (w.heap.size + 1) rfl; have k11 : wc.cell? ⟨w.heap.size + 1, 1, none⟩ = some (.float .f64 b2) := Sc.cell 1 rfl 1 (w.heap.size + 1) rfl; have r0 := Sc.cell 2 rfl 0 (w.heap.size + 1 + 1) rfl; have r1 := Sc.cell 2 rfl 1 (w.heap.size + 1 + 1) rfl; have f0 := Sc.free 2 rfl 0 (w.heap.size + 1 + 1) rfl; have f1 := Sc.free 2 rfl 1 (w.heap.size + 1 + 1) rfl; have B2 := Lib.hid Sc.old; clear hbc Sc)))
    all_goals
      go_wp2_with fail
      (try simp only [Exit.inBlock, Exit.then])
      refine bodyPost_ret (v := spanE x y c) ?_ rfl ⟨hO.out, ?_⟩
      · rw [results_cell_tmp rfl]; unfold spanE; go_simp
      · exact (B2.out.setCell (by show _ ≤ (w.heap.size + 1 + 1); omega) _).setCell (by show _ ≤ (w.heap.size + 1 + 1); omega) _
  · have hO : Hid (OpIs (errSS a1 a2 b1 b2) (fun v => V a1 - V b2 - v) (fun v => V a2 - V b1 - v) (.returned (spanE 0 0 (errSS a1 a2 b1 b2)))) := ⟨fun h => absurd h h0, fun _ => rfl⟩
    have t : (errSS a1 a2 b1 b2 != 0) = true := by simpa using h0
    clear h0 ha ha' hb hb'
    generalize errSS a1 a2 b1 b2 = er at *
    go_enter Try.func104, Try.ntmps104
    go_wp2_with fail
    have S := S0.out
    clear S0
    generalize ((w.alloc _).alloc _).alloc _ = wr at *
    refine (CB.out wr).mono ?_
    rintro _ w1 ⟨rfl, hb1⟩
    have S1 := S.on hb1
    have r0 := S1.cell 2 rfl 0 (w.heap.size + 1 + 1) rfl
    have r1 := S1.cell 2 rfl 1 (w.heap.size + 1 + 1) rfl
    have f0 := S1.free 2 rfl 0 (w.heap.size + 1 + 1) rfl
    have f1 := S1.free 2 rfl 1 (w.heap.size + 1 + 1) rfl
    have B2 := Lib.hid S1.old
    clear S S1 hb1
    go_wp2_with fail
    (try simp only [Exit.inBlock, Exit.then])
    refine bodyPost_ret (v := spanE 0 0 er) ?_ rfl ⟨hO.out, ?_⟩
    · rw [results_cell_tmp rfl]; unfold spanE; go_simp
    · exact (B2.out.setCell (by show _ ≤ (w.heap.size + 1 + 1); omega) _).setCell (by show _ ≤ (w.heap.size + 1 + 1); omega) _
end Go.Proofs.Ytnmadknpkhaolaa

namespace Go.Proofs.Ytnmadknpkhaolaa
open Go.ChangeShapes Go.WideShapes Go.ChangeAt Go.RowKit Ieee.Own

theorem step_value {P : Program} {o : Oper} {a : Act} {w w' : World} {K : Act → World → Prop} {Q : Exit → Act → World → Prop} {v : Value} (h : (execOp a.eval o).run P w = .ok (.value v) w') (k : K (a.put o.dst v) w') : o.wp P a w K Q := by
  unfold Oper.wp; rw [h]; exact k
theorem step_skip {P : Program} {o : Oper} {a : Act} {w w' : World} {K : Act → World → Prop} {Q : Exit → Act → World → Prop} (h : (execOp a.eval o).run P w = .ok .skip w') (k : K (a.put o.dst undef) w') : o.wp P a w K Q := by
  unfold Oper.wp; rw [h]; exact k
theorem step_call {P : Program} {o : Oper} {a : Act} {w : World} {K : Act → World → Prop} {Q : Exit → Act → World → Prop} {f : FuncId} {args : Array Value} (h : (execOp a.eval o).run P w = .ok (.enter f args) w)
    (k : Calls P f args w fun e w' => ∃ v, e = .returned v ∧ K (a.put o.dst v) w') : o.wp P a w K Q := by
  unfold Oper.wp; rw [h]
  refine Calls.mono k fun e w' h => ?_
  obtain ⟨v, rfl, hk⟩ := h
  exact hk
theorem ex_move {P : Program} {ρ : Operand → Value} {o : Oper} {x : Operand} {v : Value} (w : World) (ho : o.op = .move x) (h : ρ x = v) : (execOp ρ o).run P w = .ok (.value v) w := by
  unfold execOp; rw [ho]; simp [h]
set_option maxRecDepth 100000 in
theorem ex_fa0 {ρ : Operand → Value} {o : Oper} {x : Operand} {b : Nat} (w : World) (ho : o.op = .fieldAddr 60 x 0) (h : ρ x = .pointer (some ⟨b, 0, none⟩)) : (execOp ρ o).run Try.prog w = .ok (.value (.pointer (some ⟨b, 0, none⟩))) w := by
  unfold execOp; rw [ho]; simp only [h]; go_simp
set_option maxRecDepth 100000 in
theorem ex_fa1 {ρ : Operand → Value} {o : Oper} {x : Operand} {b : Nat} (w : World) (ho : o.op = .fieldAddr 60 x 1) (h : ρ x = .pointer (some ⟨b, 0, none⟩)) : (execOp ρ o).run Try.prog w = .ok (.value (.pointer (some ⟨b, 1, none⟩))) w := by
  unfold execOp; rw [ho]; simp only [h]; go_simp
set_option maxRecDepth 100000 in
theorem ex_load {ρ : Operand → Value} {o : Oper} {x : Operand} {b k y : Nat} {w : World} (ho : o.op = .load 30 x) (h : ρ x = .pointer (some ⟨b, k, none⟩)) (hc : w.cell? ⟨b, k, none⟩ = some (.float .f64 y)) : (execOp ρ o).run Try.prog w = .ok (.value (.float .f64 y)) w := by
  unfold execOp; rw [ho]; simp only [h]; go_simp
theorem ex_call {P : Program} {ρ : Operand → Value} {o : Oper} {x y z : Operand} {ts : Array TypeId} {g : FuncId} {u v : Value} (w : World) (ho : o.op = .call { callee := .value x, args := #[y, z], argTypes := ts }) (h : ρ x = .func (.func g) #[] #[]) (h1 : ρ y = u) (h2 : ρ z = v) (hg : (callFunc g #[u, v]).run P w = .ok (.enter g #[u, v]) w) :
    (execOp ρ o).run P w = .ok (.enter g #[u, v]) w := by
  unfold execOp; rw [ho]; simp [h, h1, h2, hg, go_sem]
set_option maxRecDepth 100000 in
theorem ex_alloc {ρ : Operand → Value} {o : Oper} (w : World) (ho : o.op = .alloc 60) : (execOp ρ o).run Try.prog w = .ok (.value (.pointer (some ⟨w.heap.size, 0, none⟩))) (w.alloc zeroO) := by
  unfold execOp zeroO; rw [ho]; go_simp
set_option maxRecDepth 100000 in
theorem ex_store {ρ : Operand → Value} {o : Oper} {x y : Operand} {g s t a b : Nat} {w : World} (ho : o.op = .store 60 x y) (h : ρ x = .pointer (some ⟨g, 0, none⟩)) (h1 : ρ y = spanV s t)
    (c0 : w.cell? ⟨g, 0, none⟩ = some (.float .f64 a)) (c1 : w.cell? ⟨g, 1, none⟩ = some (.float .f64 b)) (f0 : w.frozen? ⟨g, 0, none⟩ = false) (f1 : w.frozen? ⟨g, 1, none⟩ = false) :
    (execOp ρ o).run Try.prog w = .ok .skip ((w.setCell ⟨g, 0, none⟩ (.float .f64 s)).setCell ⟨g, 1, none⟩ (.float .f64 t)) := by
  have hst := @fstore
  unfold spanV at h1
  unfold execOp; rw [ho]; simp only [h, h1]; go_simp
set_option maxRecDepth 100000 in
theorem ex_loads {ρ : Operand → Value} {o : Oper} {x : Operand} {b a c : Nat} {w : World} (ho : o.op = .load 60 x) (h : ρ x = .pointer (some ⟨b, 0, none⟩)) (h0 : w.cell? ⟨b, 0, none⟩ = some (.float .f64 a)) (h1 : w.cell? ⟨b, 1, none⟩ = some (.float .f64 c)) : (execOp ρ o).run Try.prog w = .ok (.value (spanV a c)) w := by
  unfold execOp spanV; rw [ho]; simp only [h]; go_simp
end Go.Proofs.Ytnmadknpkhaolaa

namespace Go.Proofs.Ytnmadknpkhaolaa
open Go.ChangeShapes Go.WideShapes Go.ChangeAt Go.RowKit Ieee.Own

def mxW (x y : Nat) : Nat := match FloatKind.f64.format.order x y with
  | some .lt => y
  | some .gt => x
  | _ => if (FloatKind.f64.decode x).neg then y else x
def mnW (x y : Nat) : Nat := match FloatKind.f64.format.order x y with
  | some .lt => x
  | some .gt => y
  | _ => if (FloatKind.f64.decode x).neg then x else y
theorem order_some {x y : Nat} (hx : FinW x) (hy : FinW y) : ∃ o, FloatKind.f64.format.order x y = some o := ⟨_, order64 x y hx.1 hy.1 (fin_nn hx) (fin_nn hy)⟩
theorem max2_any {P : Program} {x y : Nat} (hx : FinW x) (hy : FinW y) (w : World) : (Builtin.max2 (.float .f64 x) (.float .f64 y)).run P w = .ok (.float .f64 (mxW x y)) w := by
  obtain ⟨o, h⟩ := order_some hx hy
  unfold Builtin.max2 mxW
  simp only [h]
  cases o <;> rfl
theorem min2_any {P : Program} {x y : Nat} (hx : FinW x) (hy : FinW y) (w : World) : (Builtin.min2 (.float .f64 x) (.float .f64 y)).run P w = .ok (.float .f64 (mnW x y)) w := by
  obtain ⟨o, h⟩ := order_some hx hy
  unfold Builtin.min2 mnW
  simp only [h]
  cases o <;> rfl
theorem order_V {x y : Nat} (hx : FinW x) (hy : FinW y) : (FloatKind.f64.format.order x y = some .lt ↔ V x < V y) ∧ (FloatKind.f64.format.order x y = some .gt ↔ V y < V x) := by
  have a := lt_words hx hy
  have b := gt_words hx hy
  constructor
  · constructor
    · intro h; rw [h] at a; exact of_decide_eq_true (a.symm.trans rfl)
    · intro h; rw [decide_eq_true h] at a; exact eq_of_beq a
  · constructor
    · intro h; rw [h] at b; exact of_decide_eq_true (b.symm.trans rfl)
    · intro h; rw [decide_eq_true h] at b; exact eq_of_beq b
theorem mxW_spec {x y : Nat} (hx : FinW x) (hy : FinW y) : (mxW x y = x ∨ mxW x y = y) ∧ V x ≤ V (mxW x y) ∧ V y ≤ V (mxW x y) := by
  obtain ⟨o, h⟩ := order_some hx hy
  obtain ⟨a, b⟩ := order_V hx hy
  unfold mxW
  rw [h] at a b ⊢
  cases o with
  | lt => have := a.1 rfl; exact ⟨Or.inr rfl, by show V x ≤ V y; omega, Int.le_refl _⟩
  | gt => have := b.1 rfl; exact ⟨Or.inl rfl, Int.le_refl _, by show V y ≤ V x; omega⟩
  | eq =>
    have n1 : ¬ V x < V y := fun h => by have := a.2 h; simp at this
    have n2 : ¬ V y < V x := fun h => by have := b.2 h; simp at this
    show ((if _ then y else x) = x ∨ (if _ then y else x) = y) ∧ V x ≤ V (if _ then y else x) ∧ V y ≤ V (if _ then y else x)
    split
    · exact ⟨Or.inr rfl, by omega, by omega⟩
    · exact ⟨Or.inl rfl, by omega, by omega⟩
theorem mnW_spec {x y : Nat} (hx : FinW x) (hy : FinW y) : (mnW x y = x ∨ mnW x y = y) ∧ V (mnW x y) ≤ V x ∧ V (mnW x y) ≤ V y := by
  obtain ⟨o, h⟩ := order_some hx hy
  obtain ⟨a, b⟩ := order_V hx hy
  unfold mnW
  rw [h] at a b ⊢
  cases o with
  | lt => have := a.1 rfl; exact ⟨Or.inl rfl, Int.le_refl _, by show V x ≤ V y; omega⟩
  | gt => have := b.1 rfl; exact ⟨Or.inr rfl, by show V y ≤ V x; omega, Int.le_refl _⟩
  | eq =>
    have n1 : ¬ V x < V y := fun h => by have := a.2 h; simp at this
    have n2 : ¬ V y < V x := fun h => by have := b.2 h; simp at this
    show ((if _ then x else y) = x ∨ (if _ then x else y) = y) ∧ V (if _ then x else y) ≤ V x ∧ V (if _ then x else y) ≤ V y
    split
    · exact ⟨Or.inl rfl, by omega, by omega⟩
    · exact ⟨Or.inr rfl, by omega, by omega⟩
theorem mxW_fin {x y : Nat} (hx : FinW x) (hy : FinW y) : FinW (mxW x y) := by
  rcases (mxW_spec hx hy).1 with h | h <;> rw [h] <;> assumption
theorem mnW_fin {x y : Nat} (hx : FinW x) (hy : FinW y) : FinW (mnW x y) := by
  rcases (mnW_spec hx hy).1 with h | h <;> rw [h] <;> assumption
section
variable {P : Program} {x y z u : Nat} (hx : FinW x) (hy : FinW y) (hz : FinW z) (hu : FinW u) (ts : Array TypeId) (t : TypeId) (w : World)
include hx hy
theorem run_maxf2 : (Builtin.max_ ts t #[.float .f64 x, .float .f64 y]).run P w = .ok (.float .f64 (mxW x y)) w := by
  simp [Builtin.max_, max2_any hx hy]
theorem run_minf2 : (Builtin.min_ ts t #[.float .f64 x, .float .f64 y]).run P w = .ok (.float .f64 (mnW x y)) w := by
  simp [Builtin.min_, min2_any hx hy]
include hz
include hu
theorem run_maxf4 : (Builtin.max_ ts t #[.float .f64 x, .float .f64 y, .float .f64 z, .float .f64 u]).run P w = .ok (.float .f64 (mxW (mxW (mxW x y) z) u)) w := by
  simp [Builtin.max_, Sem.run_bind, max2_any hx hy, max2_any (mxW_fin hx hy) hz, max2_any (mxW_fin (mxW_fin hx hy) hz) hu]
theorem run_minf4 : (Builtin.min_ ts t #[.float .f64 x, .float .f64 y, .float .f64 z, .float .f64 u]).run P w = .ok (.float .f64 (mnW (mnW (mnW x y) z) u)) w := by
  simp [Builtin.min_, Sem.run_bind, min2_any hx hy, min2_any (mnW_fin hx hy) hz, min2_any (mnW_fin (mnW_fin hx hy) hz) hu]
end
end Go.Proofs.Ytnmadknpkhaolaa
