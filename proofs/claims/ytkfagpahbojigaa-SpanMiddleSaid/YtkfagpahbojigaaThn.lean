/- Proved here: of single numbers the answers are single numbers or neighbours; the law's thin, over the translated code. -/
import Derived.Test.YtkfagpahbojigaaSml4
import Derived.BigQuiet
namespace Go.Proofs.Ytkfagpahbojigaa
open Go.ChangeShapes Go.WideShapes Go.ChangeAt Go.RowKit Ieee.Own

theorem key_V {a b : Nat} (ha : FinW a) (hb : FinW b) : key64 a = key64 b ↔ V a = V b := by
  have h1 := V_lt_key ha hb
  have h2 := V_lt_key hb ha
  omega
theorem eq_words {a b : Nat} (ha : FinW a) (hb : FinW b) : (FloatKind.f64.format.order a b == some Ordering.eq) = decide (V a = V b) := by
  rw [o_eql a b ha.1 hb.1, decide_eq_decide]
  have := key_V ha hb
  exact ⟨fun h => this.1 h.2.2, fun h => ⟨fin_nn ha, fin_nn hb, this.2 h⟩⟩
/-- one number, neighbours, or 0 and the least fit one -/
structure ThinW (x y : Nat) : Prop where
  fx : FinW x
  fy : FinW y
  fn : FinW (nextW x)
  is : V x = V y ∨ V (nextW x) = V y ∨ (V x = 0 ∧ V y = leastV) ∨ (V x = -leastV ∧ V y = 0)
theorem small_1500 {x : Nat} (h1 : -mostV ≤ V x) (h2 : V x ≤ mostV) : (V x).natAbs ≤ 2 ^ 1500 := by
  have e : mostV = ((mostV.natAbs : Nat) : Int) := by decide +kernel
  have l : mostV.natAbs ≤ 2 ^ 1400 := by decide +kernel
  have m : 2 ^ 1400 ≤ 2 ^ 1500 := two_le (a := 1400) (b := 1500) (by omega)
  refine Nat.le_trans ?_ (Nat.le_trans l m)
  clear l m
  generalize mostV = z at *
  omega
theorem thin_zero : ThinW 0 0 := ⟨zero_fin, zero_fin, ⟨by decide, by decide⟩, Or.inl rfl⟩
theorem thin_all {er : Int} {cs ds : List (Int → Int)} {x y : Nat} {k : Int} (h : OpAll er cs ds (.returned (spanE x y k))) (c : Int → Int)
    (hc : er = 0 → ∀ u, (∀ d ∈ cs, 0 ≤ d u) ↔ 0 ≤ c u) (hd : er = 0 → ∀ u, (∀ d ∈ ds, d u ≤ 0) ↔ c u ≤ 0) (le : er = 0 → ∀ u v, 0 ≤ c u → c v ≤ 0 → u ≤ v) : ThinW x y := by
  by_cases h0 : er = 0
  · obtain ⟨lo, hi, e, d, u⟩ := h.1 h0
    have hl : 0 ≤ c (V lo) := (hc h0 _).1 d.le
    have hu : c (V hi) ≤ 0 := (hd h0 _).1 u.ge
    have hle := le h0 _ _ hl hu
    have e' : toldE lo hi = spanE x y k := (Ending.returned.inj e).symm
    unfold toldE at e'
    by_cases cc : V (lowW lo) < -mostV ∨ mostV < V (highW hi)
    · rw [if_pos cc] at e'
      obtain ⟨rfl, rfl, rfl⟩ := spanE_inj e'
      exact thin_zero
    · rw [if_neg cc] at e'
      obtain ⟨rfl, rfl, rfl⟩ := spanE_inj e'
      have l1 := lowW_le lo
      have l2 := highW_ge hi
      have l3 : V (lowW lo) ≤ V (highW hi) := by omega
      have bl := small_1500 (x := lo) (by omega) (by omega)
      have bx := small_1500 (x := lowW lo) (by omega) (by omega)
      obtain ⟨n1, n2, n3⟩ := next_spec d.fin bl
      obtain ⟨n4, n5, n6⟩ := next_spec (lowW_fin d.fin) bx
      refine ⟨lowW_fin d.fin, highW_fin u.fin, n4, ?_⟩
      -- no word lies between
      have hn : V lo = V hi ∨ V (nextW lo) = V hi := by
        by_cases e : V lo = V hi
        · exact Or.inl e
        · right
          have a1 := n3 hi u.fin (by omega)
          refine Int.le_antisymm a1 (Int.not_lt.1 fun hlt => ?_)
          by_cases q : 0 ≤ c (V (nextW lo))
          · have := d.top _ n1 ((hc h0 _).2 q); omega
          · have := u.low _ n1 ((hd h0 _).2 (by omega)); omega
      have p := leastV_pos
      have zl := V_zero
      have lv := least_V
      have nl := nleast_V
      -- the numbers next to 0
      have up0 : V lo < leastV → V (nextW lo) ≤ leastV := fun hh => by have := n3 _ least_fin (by rw [lv]; exact hh); rw [lv] at this; exact this
      have up1 : V lo < 0 → V (nextW lo) ≤ 0 := fun hh => by have := n3 _ zero_fin (by rw [zl]; exact hh); rw [zl] at this; exact this
      have up2 : V lo < -leastV → V (nextW lo) ≤ -leastV := fun hh => by have := n3 _ nleast_fin (by rw [nl]; exact hh); rw [nl] at this; exact this
      by_cases c1 : 0 ≤ V lo ∧ V lo < leastV
      · have ex : lowW lo = 0 := by unfold lowW; rw [if_pos c1]
        rw [ex, zl]
        by_cases z : V hi = 0
        · left
          have : highW hi = 0 := by unfold highW; rw [if_pos (by omega)]
          rw [this, zl]
        · have ey : V (highW hi) = leastV := by
            unfold highW
            rw [if_neg (by omega)]
            by_cases q : 0 < V hi ∧ V hi < leastV
            · rw [if_pos q, lv]
            · rw [if_neg q]; have := up0 c1.2; omega
          exact Or.inr (Or.inr (Or.inl ⟨rfl, ey⟩))
      · by_cases c2 : V lo < 0 ∧ -leastV < V lo
        · have ex : lowW lo = 12929834530180694016 := by unfold lowW; rw [if_neg c1, if_pos c2]
          have ey : highW hi = 0 := by
            unfold highW
            have := up1 c2.1
            rw [if_pos (by omega)]
          rw [ex, ey, nl, zl]
          exact Or.inr (Or.inr (Or.inr ⟨rfl, rfl⟩))
        · have ex : lowW lo = lo := by unfold lowW; rw [if_neg c1, if_neg c2]
          rw [ex] at n4 n5 n6 ⊢
          by_cases q : V hi ≤ 0 ∧ -leastV < V hi
          · have ey : highW hi = 0 := by unfold highW; rw [if_pos q]
            rw [ey, zl]
            have : V lo = -leastV := by
              by_cases g : V lo < -leastV
              · have := up2 g; omega
              · omega
            exact Or.inr (Or.inr (Or.inr ⟨this, rfl⟩))
          · have ey : highW hi = hi := by unfold highW; rw [if_neg q, if_neg (by omega)]
            rw [ey]
            rcases hn with g | g
            · exact Or.inl g
            · exact Or.inr (Or.inl g)
  · obtain ⟨rfl, rfl, -⟩ := spanE_inj (Ending.returned.inj (h.2 h0))
    exact thin_zero

/-! ### each operation, of single numbers -/
theorem thin_add {x y u v : Nat} {k : Int} (h : OpIs (errSS x x y y) (fun v => V x + V y - v) (fun v => V x + V y - v) (.returned (spanE u v k))) : ThinW u v :=
  thin_all h.all (fun v => V x + V y - v) (fun _ _ => one_mem) (fun _ _ => one_mem) (fun _ u v h1 h2 => by
    have h1 : 0 ≤ V x + V y - u := h1
    have h2 : V x + V y - v ≤ 0 := h2
    omega)
theorem thin_sub {x y u v : Nat} {k : Int} (h : OpIs (errSS x x y y) (fun v => V x - V y - v) (fun v => V x - V y - v) (.returned (spanE u v k))) : ThinW u v :=
  thin_all h.all (fun v => V x - V y - v) (fun _ _ => one_mem) (fun _ _ => one_mem) (fun _ u v h1 h2 => by
    have h1 : 0 ≤ V x - V y - u := h1
    have h2 : V x - V y - v ≤ 0 := h2
    omega)
theorem four_same {α : Type} {p : α → Prop} {a : α} : (∀ x ∈ [a, a, a, a], p x) ↔ p a := by simp
theorem thin_mul {x y u v : Nat} {k : Int} (h : OpAll (errSS x x y y) [prodC x y, prodC x y, prodC x y, prodC x y] [prodC x y, prodC x y, prodC x y, prodC x y] (.returned (spanE u v k))) : ThinW u v :=
  thin_all h (prodC x y) (fun _ _ => four_same) (fun _ _ => four_same) (fun _ u v h1 h2 => by
    have h1 : 0 ≤ prodN x y - u := h1
    have h2 : prodN x y - v ≤ 0 := h2
    omega)
theorem errD_ne {x y : Nat} (h : errD x x y y = 0) : V y ≠ 0 := by
  have := errD_zero h (Int.le_refl _)
  omega
theorem thin_div {x y u v : Nat} {k : Int} (h : OpAll (errD x x y y) [quotC x y, quotC x y, quotC x y, quotC x y] [quotC x y, quotC x y, quotC x y, quotC x y] (.returned (spanE u v k))) : ThinW u v :=
  thin_all h (quotC x y) (fun _ _ => four_same) (fun _ _ => four_same) (fun h0 _ _ h1 h2 => quot_lu' (errD_ne h0) h1 h2)
theorem thin_square {x u v : Nat} {k : Int} (h : OpAll (errS x x) (sqLo x x) (sqHi x x) (.returned (spanE u v k))) : ThinW u v := by
  have e1 : sqLo x x = [prodC x x] := by
    unfold sqLo
    by_cases c : 0 ≤ V x
    · rw [if_pos c]
    · rw [if_neg c, if_pos (by omega)]
  have e2 : sqHi x x = [prodC x x] := by
    unfold sqHi
    by_cases c : 0 ≤ V x
    · rw [if_pos c]
    · rw [if_neg c, if_pos (by omega)]
  rw [e1, e2] at h
  exact thin_all h (prodC x x) (fun _ _ => one_mem) (fun _ _ => one_mem) (fun _ u v h1 h2 => by
    have h1 : 0 ≤ prodN x x - u := h1
    have h2 : prodN x x - v ≤ 0 := h2
    omega)
theorem thin_root {x u v : Nat} {k : Int} (h : OpIs (errR x x) (rootC x) (rootC x) (.returned (spanE u v k))) : ThinW u v :=
  thin_all h.all (rootC x) (fun _ _ => one_mem) (fun _ _ => one_mem) (fun _ _ _ h1 h2 => root_le (Int.le_refl _) h1 h2)

/-! ### thin -/
theorem thin_run {x y : Nat} (T : ThinW x y) (w : World) : Calls Try.prog 33 #[spanV x y] w fun e w' => e = .returned (.bool true) ∧ Below w.heap.size w w' := by
  have t1 := eq_words T.fx T.fy
  have t2 := eq_words T.fn T.fy
  have t3 := eq_words T.fx zero_fin
  have t4 := eq_words T.fy least_fin
  have t5 := eq_words T.fx nleast_fin
  have t6 := eq_words T.fy zero_fin
  rw [V_zero] at t3 t6
  rw [least_V] at t4
  rw [nleast_V] at t5
  have N := fun w => rnext_any x T.fx.1 w
  have p := leastV_pos
  have S0 : Blocks w [boxO x y] (w.alloc (boxO x y)) := (Blocks.nil w).alloc (by simp) _
  have is := T.is
  have c00 := S0.cell 0 rfl 0 w.heap.size rfl
  have c01 := S0.cell 0 rfl 1 w.heap.size rfl
  have B0 := S0.old
  unfold boxO at c00 c01 B0
  replace B0 := Lib.hid B0
  unfold spanV
  generalize nextW x = n at *
  by_cases h1 : V x = V y
  · rw [decide_eq_true h1] at t1
    clear T S0 is h1 p t2 t3 t4 t5 t6
    go_enter Try.func33, Try.ntmps33
    go_wp2_with fail
    generalize w.alloc _ = wr at *
    go_quiet (first | (go_at_call 66; with_reducible refine quiet_same (N _)))
    go_wp2_with fail
    go_ret
    exact ⟨rfl, below_drewN B0.out _⟩
  rw [decide_eq_false h1] at t1
  by_cases h2 : V n = V y
  · rw [decide_eq_true h2] at t2
    clear T S0 is h1 h2 p t3 t4 t5 t6
    go_enter Try.func33, Try.ntmps33
    go_wp2_with fail
    generalize w.alloc _ = wr at *
    go_quiet (first | (go_at_call 66; with_reducible refine quiet_same (N _)))
    go_wp2_with fail
    go_ret
    exact ⟨rfl, below_drewN B0.out _⟩
  rw [decide_eq_false h2] at t2
  by_cases h3 : V x = 0
  · have h4 : V y = leastV := by omega
    rw [decide_eq_true h3] at t3
    rw [decide_eq_true h4] at t4
    clear T S0 is h1 h2 h3 h4 p t5 t6
    go_enter Try.func33, Try.ntmps33
    go_wp2_with fail
    generalize w.alloc _ = wr at *
    go_quiet (first | (go_at_call 66; with_reducible refine quiet_same (N _)))
    go_wp2_with fail
    go_ret
    exact ⟨rfl, below_drewN B0.out _⟩
  · have h5 : V x = -leastV := by omega
    have h6 : V y = 0 := by omega
    rw [decide_eq_false h3] at t3
    rw [decide_eq_true h5] at t5
    rw [decide_eq_true h6] at t6
    clear T S0 is h1 h2 h3 h5 h6 p t4
    go_enter Try.func33, Try.ntmps33
    go_wp2_with fail
    generalize w.alloc _ = wr at *
    go_quiet (first | (go_at_call 66; with_reducible refine quiet_same (N _)))
    go_wp2_with fail
    go_ret
    exact ⟨rfl, below_drewN B0.out _⟩
end Go.Proofs.Ytkfagpahbojigaa
