/- Proved here: smaller spans in, smaller spans out, for each operation by what it answers; the law's fits, over the translated code. -/
import Derived.Test.YtkfagpahbojigaaCls
import Derived.Test.YtkfagpahbojigaaSsqs
namespace Go.Proofs.Ytkfagpahbojigaa
open Go.ChangeShapes Go.WideShapes Go.ChangeAt Go.RowKit Ieee.Own

/-! ### what a told span is -/
theorem spanE_inj {a b c d : Nat} {k l : Int} (h : spanE a b k = spanE c d l) : a = c ∧ b = d ∧ k = l := by
  unfold spanE at h
  simpa [and_assoc] using h
theorem lowW_lt {x : Nat} (h : FinW x) : lowW x < 18446744073709551616 := (lowW_fin h).1
theorem told_ok {lo hi x y : Nat} {k : Int} (h1 : FinW lo) (h2 : FinW hi) (h : toldE lo hi = spanE x y k) : x < 18446744073709551616 ∧ y < 18446744073709551616 ∧ (k = 0 → V lo ≤ V hi → x = lowW lo ∧ y = highW hi ∧ errS x y = 0) := by
  unfold toldE at h
  by_cases c : V (lowW lo) < -mostV ∨ mostV < V (highW hi)
  · rw [if_pos c] at h
    obtain ⟨rfl, rfl, rfl⟩ := spanE_inj h
    exact ⟨by decide, by decide, fun h => by omega⟩
  · rw [if_neg c] at h
    obtain ⟨rfl, rfl, rfl⟩ := spanE_inj h
    refine ⟨(lowW_fin h1).1, (highW_fin h2).1, fun _ le => ⟨rfl, rfl, ?_⟩⟩
    have i1 := fit_iff (lowW_fin h1)
    have i2 := fit_iff (highW_fin h2)
    have o1 := lowW_out lo
    have o2 := highW_out hi
    have l1 := lowW_le lo
    have l2 := highW_ge hi
    unfold errS
    rw [if_pos ⟨i1.2 (by omega), i2.2 (by omega)⟩, if_neg (by omega)]
/-- what an operation's answer is, whatever it is -/
theorem OpAll.bd {er : Int} {cs ds : List (Int → Int)} {x y : Nat} {k : Int} (h : OpAll er cs ds (.returned (spanE x y k))) : x < 18446744073709551616 ∧ y < 18446744073709551616 ∧ (k = 0 → er = 0) ∧
    (k = 0 → (∀ lo hi, DnAll cs lo → UpAll ds hi → V lo ≤ V hi) → ∃ lo hi, DnAll cs lo ∧ UpAll ds hi ∧ x = lowW lo ∧ y = highW hi ∧ errS x y = 0) := by
  by_cases h0 : er = 0
  · obtain ⟨lo, hi, e, d, u⟩ := h.1 h0
    have e' : toldE lo hi = spanE x y k := (Ending.returned.inj e).symm
    obtain ⟨b1, b2, ok⟩ := told_ok d.fin u.fin e'
    refine ⟨b1, b2, fun _ => h0, fun hk hl => ?_⟩
    obtain ⟨p, q, r⟩ := ok hk (hl lo hi d u)
    exact ⟨lo, hi, d, u, p, q, r⟩
  · have e := Ending.returned.inj (h.2 h0)
    obtain ⟨rfl, rfl, rfl⟩ := spanE_inj e
    exact ⟨by decide, by decide, fun h => absurd h h0, fun h => absurd h h0⟩
theorem fits_of {er er' : Int} {cs ds cs' ds' : List (Int → Int)} {x y u v : Nat} {k l : Int} (h : OpAll er cs ds (.returned (spanE x y k))) (h' : OpAll er' cs' ds' (.returned (spanE u v l)))
    (lle : er = 0 → ∀ lo hi, DnAll cs lo → UpAll ds hi → V lo ≤ V hi) (lle' : er' = 0 → ∀ lo hi, DnAll cs' lo → UpAll ds' hi → V lo ≤ V hi)
    (md : er = 0 → er' = 0 → ∀ u, (∀ c ∈ cs', 0 ≤ c u) → ∀ d ∈ cs, 0 ≤ d u) (mu : er = 0 → er' = 0 → ∀ u, (∀ c ∈ ds', c u ≤ 0) → ∀ d ∈ ds, d u ≤ 0) : k = 0 → l = 0 → insB x y u v = true := by
  intro hk hl
  obtain ⟨-, -, z, o⟩ := h.bd
  obtain ⟨-, -, z', o'⟩ := h'.bd
  obtain ⟨lo, hi, d, up, rfl, rfl, e⟩ := o hk (lle (z hk))
  obtain ⟨lo', hi', d', up', rfl, rfl, e'⟩ := o' hl (lle' (z' hl))
  unfold insB
  rw [decide_eq_true_eq]
  exact ⟨errSS_of e e', lowW_mono (d'.mono d (md (z hk) (z' hl))), highW_mono (up'.mono up (mu (z hk) (z' hl)))⟩

/-! ### Inside, in numbers -/
theorem insB_spec {a b c d : Nat} (h : insB a b c d = true) : errS a b = 0 ∧ errS c d = 0 ∧ V c ≤ V a ∧ V b ≤ V d := by
  unfold insB at h
  rw [decide_eq_true_eq] at h
  obtain ⟨e1, e2⟩ := errSS_zero h.1
  exact ⟨e1, e2, h.2⟩

/-! ### products -/
theorem corner_le {p q r s x y z : Int} (h1 : p ≤ x) (h2 : x ≤ q) (h3 : r ≤ y) (h4 : y ≤ s) (a : z ≤ p * r) (b : z ≤ p * s) (c : z ≤ q * r) (d : z ≤ q * s) : z ≤ x * y := by
  have side : ∀ t : Int, z ≤ t * r → z ≤ t * s → z ≤ t * y := fun t e f => by
    by_cases ht : 0 ≤ t
    · exact Int.le_trans e (Int.mul_le_mul_of_nonneg_left h3 ht)
    · exact Int.le_trans f (Int.mul_le_mul_of_nonpos_left (by omega) h4)
  by_cases hy : 0 ≤ y
  · exact Int.le_trans (side p a b) (Int.mul_le_mul_of_nonneg_right h1 hy)
  · exact Int.le_trans (side q c d) (Int.mul_le_mul_of_nonpos_right h2 (by omega))
theorem corner_ge {p q r s x y z : Int} (h1 : p ≤ x) (h2 : x ≤ q) (h3 : r ≤ y) (h4 : y ≤ s) (a : p * r ≤ z) (b : p * s ≤ z) (c : q * r ≤ z) (d : q * s ≤ z) : x * y ≤ z := by
  have := corner_le (p := -q) (q := -p) (x := -x) (z := -z) (by omega) (by omega) h3 h4 (by rw [Int.neg_mul]; omega) (by rw [Int.neg_mul]; omega) (by rw [Int.neg_mul]; omega) (by rw [Int.neg_mul]; omega)
  rw [Int.neg_mul] at this
  omega
def MM : Int := 2 ^ 1074
theorem MM_pos : 0 < MM := Int.pow_pos (by omega)
theorem prod_dn_iff (a b : Nat) (u : Int) : 0 ≤ prodC a b u ↔ u * MM ≤ V a * V b := by
  unfold prodC prodN
  show 0 ≤ V a * V b / MM - u ↔ _
  have := Int.le_ediv_iff_mul_le (a := u) (b := V a * V b) MM_pos
  omega
theorem four_mem {α : Type} {p : α → Prop} {a b c d : α} : (∀ x ∈ [a, b, c, d], p x) ↔ p a ∧ p b ∧ p c ∧ p d := by simp
theorem one_mem {α : Type} {p : α → Prop} {a : α} : (∀ x ∈ [a], p x) ↔ p a := by simp
theorem two_mem {α : Type} {p : α → Prop} {a b : α} : (∀ x ∈ [a, b], p x) ↔ p a ∧ p b := by simp
/-- a product, exact: both fit -/
theorem prod_ex {a b : Nat} (ha : a < 18446744073709551616) (hb : b < 18446744073709551616) (h1 : fitB a = true) (h2 : fitB b = true) : prodN a b * MM = V a * V b := by
  obtain ⟨p, e, N, Z, g, R, -, -, -⟩ := prod_fit a b ha hb h1 h2
  rw [prodN_of R]
  exact R.ex.symm
theorem prod_up_iff {a b : Nat} (ha : a < 18446744073709551616) (hb : b < 18446744073709551616) (h1 : fitB a = true) (h2 : fitB b = true) (u : Int) : prodC a b u ≤ 0 ↔ V a * V b ≤ u * MM := by
  have e := prod_ex ha hb h1 h2
  have p := MM_pos
  unfold prodC
  rw [← e]
  constructor
  · intro h; exact Int.mul_le_mul_of_nonneg_right (by omega) (Int.le_of_lt p)
  · intro h
    have := Int.le_of_mul_le_mul_right h p
    omega
theorem quot_lo_pos {a b : Nat} {u : Int} (h : 0 < V b) : 0 ≤ quotC a b u ↔ u * V b ≤ V a * MM := by
  unfold quotC MM
  rw [if_neg (by omega)]
  omega
theorem quot_lo_neg {a b : Nat} {u : Int} (h : V b < 0) : 0 ≤ quotC a b u ↔ V a * MM ≤ u * V b := by
  unfold quotC MM
  rw [if_pos h]
  omega
theorem quot_up_pos {a b : Nat} {u : Int} (h : 0 < V b) : quotC a b u ≤ 0 ↔ V a * MM ≤ u * V b := by
  unfold quotC MM
  rw [if_neg (by omega)]
  omega
theorem quot_up_neg {a b : Nat} {u : Int} (h : V b < 0) : quotC a b u ≤ 0 ↔ u * V b ≤ V a * MM := by
  unfold quotC MM
  rw [if_pos h]
  omega
theorem errD_zero {a1 a2 b1 b2 : Nat} (h : errD a1 a2 b1 b2 = 0) (le : V b1 ≤ V b2) : (0 < V b1 ∧ 0 < V b2) ∨ (V b1 < 0 ∧ V b2 < 0) := by
  unfold errD at h
  by_cases c : errSS a1 a2 b1 b2 ≠ 0
  · rw [if_pos c] at h; exact absurd h c
  · rw [if_neg c] at h
    by_cases d : V b1 ≤ 0 ∧ 0 ≤ V b2
    · rw [if_pos d] at h; omega
    · omega
/-- u times what lies between -/
theorem lin_le {r s y u z : Int} (h3 : r ≤ y) (h4 : y ≤ s) (a : u * r ≤ z) (b : u * s ≤ z) : u * y ≤ z := by
  by_cases hu : 0 ≤ u
  · exact Int.le_trans (Int.mul_le_mul_of_nonneg_left h4 hu) b
  · exact Int.le_trans (Int.mul_le_mul_of_nonpos_left (by omega) h3) a
theorem lin_ge {r s y u z : Int} (h3 : r ≤ y) (h4 : y ≤ s) (a : z ≤ u * r) (b : z ≤ u * s) : z ≤ u * y := by
  by_cases hu : 0 ≤ u
  · exact Int.le_trans a (Int.mul_le_mul_of_nonneg_left h3 hu)
  · exact Int.le_trans b (Int.mul_le_mul_of_nonpos_left (by omega) h4)
theorem MM_mono {x y : Int} (h : x ≤ y) : x * MM ≤ y * MM := Int.mul_le_mul_of_nonneg_right h (Int.le_of_lt MM_pos)
theorem quot_lu' {a b : Nat} {l u : Int} (h0 : V b ≠ 0) (h1 : 0 ≤ quotC a b l) (h2 : quotC a b u ≤ 0) : l ≤ u := by
  refine Int.not_lt.1 fun hlt => ?_
  unfold quotC at h1 h2
  by_cases hb : V b < 0
  · rw [if_pos hb] at h1 h2
    have := Int.mul_lt_mul_of_neg_right hlt hb
    omega
  · rw [if_neg hb] at h1 h2
    have := Int.mul_lt_mul_of_pos_right hlt (show 0 < V b by omega)
    omega
structure Two (a0 b0 a1 b1 c0 d0 c1 d1 : Nat) : Prop where
  la0 : a0 < 18446744073709551616
  lb0 : b0 < 18446744073709551616
  la1 : a1 < 18446744073709551616
  lb1 : b1 < 18446744073709551616
  lc0 : c0 < 18446744073709551616
  ld0 : d0 < 18446744073709551616
  lc1 : c1 < 18446744073709551616
  ld1 : d1 < 18446744073709551616
  i0 : insB a0 b0 c0 d0 = true
  i1 : insB a1 b1 c1 d1 = true
section
variable {a0 b0 a1 b1 c0 d0 c1 d1 : Nat} (T : Two a0 b0 a1 b1 c0 d0 c1 d1)
include T
theorem Two.facts : (fitB a0 = true ∧ fitB b0 = true ∧ V a0 ≤ V b0) ∧ (fitB a1 = true ∧ fitB b1 = true ∧ V a1 ≤ V b1) ∧ (fitB c0 = true ∧ fitB d0 = true ∧ V c0 ≤ V d0) ∧ (fitB c1 = true ∧ fitB d1 = true ∧ V c1 ≤ V d1) ∧ (V c0 ≤ V a0 ∧ V b0 ≤ V d0) ∧ (V c1 ≤ V a1 ∧ V b1 ≤ V d1) := by
  obtain ⟨e1, e2, e3, e4⟩ := insB_spec T.i0
  obtain ⟨f1, f2, f3, f4⟩ := insB_spec T.i1
  exact ⟨errS_zero e1, errS_zero f1, errS_zero e2, errS_zero f2, ⟨e3, e4⟩, f3, f4⟩
theorem add_mono {x y u v : Nat} {k l : Int} (h : OpIs (errSS a0 b0 a1 b1) (fun v => V a0 + V a1 - v) (fun v => V b0 + V b1 - v) (.returned (spanE x y k))) (h' : OpIs (errSS c0 d0 c1 d1) (fun v => V c0 + V c1 - v) (fun v => V d0 + V d1 - v) (.returned (spanE u v l))) : k = 0 → l = 0 → insB x y u v = true := by
  obtain ⟨⟨-, -, o1⟩, ⟨-, -, o2⟩, ⟨-, -, o3⟩, ⟨-, -, o4⟩, ⟨m1, m2⟩, m3, m4⟩ := T.facts
  refine fits_of h.all h'.all (fun _ lo hi d u => ?_) (fun _ lo hi d u => ?_) (fun _ _ u => ?_) (fun _ _ u => ?_)
  · have p := d.le _ (List.mem_singleton.2 rfl)
    replace p : 0 ≤ V a0 + V a1 - V lo := p
    have q := u.ge _ (List.mem_singleton.2 rfl)
    replace q : V b0 + V b1 - V hi ≤ 0 := q
    omega
  · have p := d.le _ (List.mem_singleton.2 rfl)
    replace p : 0 ≤ V c0 + V c1 - V lo := p
    have q := u.ge _ (List.mem_singleton.2 rfl)
    replace q : V d0 + V d1 - V hi ≤ 0 := q
    omega
  · rw [one_mem, one_mem]; intro h; show 0 ≤ V a0 + V a1 - u; have : 0 ≤ V c0 + V c1 - u := h; omega
  · rw [one_mem, one_mem]; intro h; show V b0 + V b1 - u ≤ 0; have : V d0 + V d1 - u ≤ 0 := h; omega
theorem mul_mono {x y u v : Nat} {k l : Int} (h : OpAll (errSS a0 b0 a1 b1) [prodC a0 a1, prodC a0 b1, prodC b0 a1, prodC b0 b1] [prodC a0 a1, prodC a0 b1, prodC b0 a1, prodC b0 b1] (.returned (spanE x y k)))
    (h' : OpAll (errSS c0 d0 c1 d1) [prodC c0 c1, prodC c0 d1, prodC d0 c1, prodC d0 d1] [prodC c0 c1, prodC c0 d1, prodC d0 c1, prodC d0 d1] (.returned (spanE u v l))) : k = 0 → l = 0 → insB x y u v = true := by
  obtain ⟨⟨f1, f2, o1⟩, ⟨f3, f4, o2⟩, ⟨f5, f6, o3⟩, ⟨f7, f8, o4⟩, ⟨m1, m2⟩, m3, m4⟩ := T.facts
  refine fits_of h h' (fun _ lo hi d u => ?_) (fun _ lo hi d u => ?_) (fun _ _ u => ?_) (fun _ _ u => ?_)
  · have p : 0 ≤ prodN a0 a1 - V lo := (four_mem.1 d.le).1
    have q : prodN a0 a1 - V hi ≤ 0 := (four_mem.1 u.ge).1
    omega
  · have p : 0 ≤ prodN c0 c1 - V lo := (four_mem.1 d.le).1
    have q : prodN c0 c1 - V hi ≤ 0 := (four_mem.1 u.ge).1
    omega
  · rw [four_mem, four_mem]
    simp only [prod_dn_iff]
    rintro ⟨z1, z2, z3, z4⟩
    exact ⟨corner_le m1 (by omega) m3 (by omega) z1 z2 z3 z4, corner_le m1 (by omega) (by omega) m4 z1 z2 z3 z4, corner_le (by omega) m2 m3 (by omega) z1 z2 z3 z4, corner_le (by omega) m2 (by omega) m4 z1 z2 z3 z4⟩
  · rw [four_mem, four_mem]
    rw [prod_up_iff T.lc0 T.lc1 f5 f7, prod_up_iff T.lc0 T.ld1 f5 f8, prod_up_iff T.ld0 T.lc1 f6 f7, prod_up_iff T.ld0 T.ld1 f6 f8]
    rw [prod_up_iff T.la0 T.la1 f1 f3, prod_up_iff T.la0 T.lb1 f1 f4, prod_up_iff T.lb0 T.la1 f2 f3, prod_up_iff T.lb0 T.lb1 f2 f4]
    rintro ⟨z1, z2, z3, z4⟩
    exact ⟨corner_ge m1 (by omega) m3 (by omega) z1 z2 z3 z4, corner_ge m1 (by omega) (by omega) m4 z1 z2 z3 z4, corner_ge (by omega) m2 m3 (by omega) z1 z2 z3 z4, corner_ge (by omega) m2 (by omega) m4 z1 z2 z3 z4⟩
theorem div_mono {x y u v : Nat} {k l : Int} (h : OpAll (errD a0 b0 a1 b1) [quotC a0 a1, quotC a0 b1, quotC b0 a1, quotC b0 b1] [quotC a0 a1, quotC a0 b1, quotC b0 a1, quotC b0 b1] (.returned (spanE x y k)))
    (h' : OpAll (errD c0 d0 c1 d1) [quotC c0 c1, quotC c0 d1, quotC d0 c1, quotC d0 d1] [quotC c0 c1, quotC c0 d1, quotC d0 c1, quotC d0 d1] (.returned (spanE u v l))) : k = 0 → l = 0 → insB x y u v = true := by
  obtain ⟨⟨f1, f2, o1⟩, ⟨f3, f4, o2⟩, ⟨f5, f6, o3⟩, ⟨f7, f8, o4⟩, ⟨m1, m2⟩, m3, m4⟩ := T.facts
  refine fits_of h h' (fun h0 lo hi d u => ?_) (fun h0 lo hi d u => ?_) (fun h0 h0' u => ?_) (fun h0 h0' u => ?_)
  · have := errD_zero h0 o2
    exact quot_lu' (a := a0) (b := a1) (by omega) (d.le _ (by simp)) (u.ge _ (by simp))
  · have := errD_zero h0 o4
    exact quot_lu' (a := c0) (b := c1) (by omega) (d.le _ (by simp)) (u.ge _ (by simp))
  · have s1 := errD_zero h0 o2
    have s2 := errD_zero h0' o4
    rw [four_mem, four_mem]
    have n1 := MM_mono m1
    have n2 := MM_mono m2
    have n3 := MM_mono o1
    rcases s2 with ⟨p1, p2⟩ | ⟨p1, p2⟩
    · have q1 : 0 < V a1 := by omega
      have q2 : 0 < V b1 := by omega
      rw [quot_lo_pos p1, quot_lo_pos p2, quot_lo_pos p1, quot_lo_pos p2, quot_lo_pos q1, quot_lo_pos q2, quot_lo_pos q1, quot_lo_pos q2]
      rintro ⟨z1, z2, z3, z4⟩
      have y1 := lin_le m3 (show V a1 ≤ V d1 by omega) z1 z2
      have y2 := lin_le (show V c1 ≤ V b1 by omega) m4 z1 z2
      exact ⟨by omega, by omega, by omega, by omega⟩
    · have q1 : V a1 < 0 := by omega
      have q2 : V b1 < 0 := by omega
      rw [quot_lo_neg p1, quot_lo_neg p2, quot_lo_neg p1, quot_lo_neg p2, quot_lo_neg q1, quot_lo_neg q2, quot_lo_neg q1, quot_lo_neg q2]
      rintro ⟨z1, z2, z3, z4⟩
      have y1 := lin_ge m3 (show V a1 ≤ V d1 by omega) z3 z4
      have y2 := lin_ge (show V c1 ≤ V b1 by omega) m4 z3 z4
      exact ⟨by omega, by omega, by omega, by omega⟩
  · have s1 := errD_zero h0 o2
    have s2 := errD_zero h0' o4
    rw [four_mem, four_mem]
    have n1 := MM_mono m1
    have n2 := MM_mono m2
    have n3 := MM_mono o1
    rcases s2 with ⟨p1, p2⟩ | ⟨p1, p2⟩
    · have q1 : 0 < V a1 := by omega
      have q2 : 0 < V b1 := by omega
      rw [quot_up_pos p1, quot_up_pos p2, quot_up_pos p1, quot_up_pos p2, quot_up_pos q1, quot_up_pos q2, quot_up_pos q1, quot_up_pos q2]
      rintro ⟨z1, z2, z3, z4⟩
      have y1 := lin_ge m3 (show V a1 ≤ V d1 by omega) z3 z4
      have y2 := lin_ge (show V c1 ≤ V b1 by omega) m4 z3 z4
      exact ⟨by omega, by omega, by omega, by omega⟩
    · have q1 : V a1 < 0 := by omega
      have q2 : V b1 < 0 := by omega
      rw [quot_up_neg p1, quot_up_neg p2, quot_up_neg p1, quot_up_neg p2, quot_up_neg q1, quot_up_neg q2, quot_up_neg q1, quot_up_neg q2]
      rintro ⟨z1, z2, z3, z4⟩
      have y1 := lin_le m3 (show V a1 ≤ V d1 by omega) z1 z2
      have y2 := lin_le (show V c1 ≤ V b1 by omega) m4 z1 z2
      exact ⟨by omega, by omega, by omega, by omega⟩
end

/-! ### squares and roots -/
structure One (a0 b0 c0 d0 : Nat) : Prop where
  la0 : a0 < 18446744073709551616
  lb0 : b0 < 18446744073709551616
  lc0 : c0 < 18446744073709551616
  ld0 : d0 < 18446744073709551616
  i0 : insB a0 b0 c0 d0 = true
section
variable {a0 b0 c0 d0 : Nat} (T : One a0 b0 c0 d0)
include T
theorem One.facts : (fitB a0 = true ∧ fitB b0 = true ∧ V a0 ≤ V b0) ∧ (fitB c0 = true ∧ fitB d0 = true ∧ V c0 ≤ V d0) ∧ V c0 ≤ V a0 ∧ V b0 ≤ V d0 := by
  obtain ⟨e1, e2, e3, e4⟩ := insB_spec T.i0
  exact ⟨errS_zero e1, errS_zero e2, e3, e4⟩
end
theorem sq_ge {x y : Int} (h0 : y ≤ 0) (h : x ≤ y) : y * y ≤ x * x := by
  have := sq_le (x := -y) (y := -x) (by omega) (by omega)
  rwa [Int.neg_mul_neg, Int.neg_mul_neg] at this
theorem prodN_nn (a : Nat) : 0 ≤ prodN a a := by
  unfold prodN
  refine Int.ediv_nonneg ?_ (Int.le_of_lt (Int.pow_pos (by omega)))
  by_cases h : 0 ≤ V a
  · exact Int.mul_nonneg h h
  · exact Int.mul_nonneg_of_nonpos_of_nonpos (by omega) (by omega)
/-- what lies between is no farther from 0 than both ends -/
theorem sq_between {x p q : Int} (h1 : p ≤ x) (h2 : x ≤ q) {z : Int} (a : p * p ≤ z) (b : q * q ≤ z) : x * x ≤ z := by
  by_cases h : 0 ≤ x
  · exact Int.le_trans (sq_le h h2) b
  · exact Int.le_trans (sq_ge (by omega) h1) a
theorem prodN_le_iff {a b : Nat} {u : Int} : prodC a b u ≤ 0 ↔ prodN a b ≤ u := by unfold prodC; omega
theorem le_prodN_iff {a b : Nat} {u : Int} : 0 ≤ prodC a b u ↔ u ≤ prodN a b := by unfold prodC; omega
theorem sq_le_of {a b : Nat} (le : V a ≤ V b) (lo hi : Nat) (d : DnAll (sqLo a b) lo) (u : UpAll (sqHi a b) hi) : V lo ≤ V hi := by
  unfold sqLo at d
  unfold sqHi at u
  by_cases c1 : 0 ≤ V a
  · rw [if_pos c1] at d u
    have p := le_prodN_iff.1 (d.le _ (List.mem_singleton.2 rfl))
    have q := prodN_le_iff.1 (u.ge _ (List.mem_singleton.2 rfl))
    have := prodN_le (a := a) (b := a) (c := b) (d := b) (sq_le c1 le)
    omega
  · rw [if_neg c1] at d u
    by_cases c2 : V b ≤ 0
    · rw [if_pos c2] at d u
      have p := le_prodN_iff.1 (d.le _ (List.mem_singleton.2 rfl))
      have q := prodN_le_iff.1 (u.ge _ (List.mem_singleton.2 rfl))
      have := prodN_le (a := b) (b := b) (c := a) (d := a) (sq_ge c2 le)
      omega
    · rw [if_neg c2] at d u
      have p := d.le _ (List.mem_singleton.2 rfl)
      replace p : 0 ≤ 0 - V lo := p
      have q := prodN_le_iff.1 (u.ge (prodC a a) (by simp))
      have := prodN_nn a
      omega
theorem sq_dn {a0 b0 c0 d0 : Nat} (o1 : V a0 ≤ V b0) (m1 : V c0 ≤ V a0) (m2 : V b0 ≤ V d0) (u : Int) (h : ∀ c ∈ sqLo c0 d0, 0 ≤ c u) : ∀ d ∈ sqLo a0 b0, 0 ≤ d u := by
  have key : u ≤ prodN a0 a0 ∧ u ≤ prodN b0 b0 ∧ (V a0 < 0 → 0 < V b0 → u ≤ 0) := by
    unfold sqLo at h
    by_cases c1 : 0 ≤ V c0
    · rw [if_pos c1, one_mem, le_prodN_iff] at h
      have h1 := prodN_le (a := c0) (b := c0) (c := a0) (d := a0) (sq_le c1 m1)
      have h2 := prodN_le (a := a0) (b := a0) (c := b0) (d := b0) (sq_le (by omega) o1)
      exact ⟨by omega, by omega, fun _ _ => by omega⟩
    · rw [if_neg c1] at h
      by_cases c2 : V d0 ≤ 0
      · rw [if_pos c2, one_mem, le_prodN_iff] at h
        have h1 := prodN_le (a := d0) (b := d0) (c := b0) (d := b0) (sq_ge c2 m2)
        have h2 := prodN_le (a := b0) (b := b0) (c := a0) (d := a0) (sq_ge (by omega) o1)
        exact ⟨by omega, by omega, fun _ _ => by omega⟩
      · rw [if_neg c2, one_mem] at h
        have h0 : 0 ≤ 0 - u := h
        have := prodN_nn a0
        have := prodN_nn b0
        exact ⟨by omega, by omega, fun _ _ => by omega⟩
  obtain ⟨k1, k2, k3⟩ := key
  unfold sqLo
  by_cases c1 : 0 ≤ V a0
  · rw [if_pos c1, one_mem, le_prodN_iff]; exact k1
  · rw [if_neg c1]
    by_cases c2 : V b0 ≤ 0
    · rw [if_pos c2, one_mem, le_prodN_iff]; exact k2
    · rw [if_neg c2, one_mem]; have := k3 (by omega) (by omega); show 0 ≤ 0 - u; omega
theorem sq_up {a0 b0 c0 d0 : Nat} (o1 : V a0 ≤ V b0) (m1 : V c0 ≤ V a0) (m2 : V b0 ≤ V d0) (u : Int) (h : ∀ c ∈ sqHi c0 d0, c u ≤ 0) : ∀ d ∈ sqHi a0 b0, d u ≤ 0 := by
  have key : prodN a0 a0 ≤ u ∧ prodN b0 b0 ≤ u := by
    have both : prodN c0 c0 ≤ u ∧ prodN d0 d0 ≤ u := by
      unfold sqHi at h
      by_cases c1 : 0 ≤ V c0
      · rw [if_pos c1, one_mem, prodN_le_iff] at h
        have := prodN_le (a := c0) (b := c0) (c := d0) (d := d0) (sq_le c1 (by omega))
        exact ⟨by omega, h⟩
      · rw [if_neg c1] at h
        by_cases c2 : V d0 ≤ 0
        · rw [if_pos c2, one_mem, prodN_le_iff] at h
          have := prodN_le (a := d0) (b := d0) (c := c0) (d := c0) (sq_ge c2 (by omega))
          exact ⟨h, by omega⟩
        · rw [if_neg c2, two_mem, prodN_le_iff, prodN_le_iff] at h
          exact h
    have q1 : ∀ x : Nat, V c0 ≤ V x → V x ≤ V d0 → prodN x x ≤ u := fun x h1 h2 => by
      by_cases c : 0 ≤ V x
      · exact Int.le_trans (prodN_le (sq_le c h2)) both.2
      · exact Int.le_trans (prodN_le (sq_ge (by omega) h1)) both.1
    exact ⟨q1 a0 m1 (by omega), q1 b0 (by omega) m2⟩
  unfold sqHi
  by_cases c1 : 0 ≤ V a0
  · rw [if_pos c1, one_mem, prodN_le_iff]; exact key.2
  · rw [if_neg c1]
    by_cases c2 : V b0 ≤ 0
    · rw [if_pos c2, one_mem, prodN_le_iff]; exact key.1
    · rw [if_neg c2, two_mem, prodN_le_iff, prodN_le_iff]; exact key
theorem errR_zero {a b : Nat} (h : errR a b = 0) : 0 ≤ V a := by
  unfold errR at h
  by_cases c : errS a b ≠ 0
  · rw [if_pos c] at h; exact absurd h c
  · rw [if_neg c] at h
    by_cases d : V a < 0
    · rw [if_pos d] at h; omega
    · omega
section
variable {a0 b0 c0 d0 : Nat} (T : One a0 b0 c0 d0)
include T
theorem square_mono {x y u v : Nat} {k l : Int} (h : OpAll (errS a0 b0) (sqLo a0 b0) (sqHi a0 b0) (.returned (spanE x y k))) (h' : OpAll (errS c0 d0) (sqLo c0 d0) (sqHi c0 d0) (.returned (spanE u v l))) : k = 0 → l = 0 → insB x y u v = true := by
  obtain ⟨⟨-, -, o1⟩, ⟨-, -, o2⟩, m1, m2⟩ := T.facts
  exact fits_of h h' (fun _ => sq_le_of o1) (fun _ => sq_le_of o2) (fun _ _ => sq_dn o1 m1 m2) (fun _ _ => sq_up o1 m1 m2)
theorem root_mono {x y u v : Nat} {k l : Int} (h : OpIs (errR a0 b0) (rootC a0) (rootC b0) (.returned (spanE x y k))) (h' : OpIs (errR c0 d0) (rootC c0) (rootC d0) (.returned (spanE u v l))) : k = 0 → l = 0 → insB x y u v = true := by
  obtain ⟨⟨-, -, o1⟩, ⟨-, -, o2⟩, m1, m2⟩ := T.facts
  have n1 := MM_mono m1
  have n2 := MM_mono m2
  unfold MM at n1 n2
  refine fits_of h.all h'.all (fun _ lo hi d u => root_le o1 (d.le _ (List.mem_singleton.2 rfl)) (u.ge _ (List.mem_singleton.2 rfl))) (fun _ lo hi d u => root_le o2 (d.le _ (List.mem_singleton.2 rfl)) (u.ge _ (List.mem_singleton.2 rfl))) (fun _ _ u => ?_) (fun _ _ u => ?_)
  · rw [one_mem, one_mem]
    unfold rootC
    by_cases c : u < 0
    · rw [if_pos c, if_pos c]; exact id
    · rw [if_neg c, if_neg c]; intro hh; omega
  · rw [one_mem, one_mem]
    unfold rootC
    by_cases c : u < 0
    · rw [if_pos c, if_pos c]; exact id
    · rw [if_neg c, if_neg c]; intro hh; omega
end

/-! ### the law's fits -/
theorem fits_run {x y u v : Nat} {k l : Int} (hx : x < 18446744073709551616) (hy : y < 18446744073709551616) (hu : u < 18446744073709551616) (hv : v < 18446744073709551616) (h : k = 0 → l = 0 → insB x y u v = true) (w : World) :
    Calls Try.prog 35 #[spanV x y, .int .i64 k, spanV u v, .int .i64 l] w fun e w' => e = .returned (.bool true) ∧ Below w.heap.size w w' := by
  have I := Lib.hid (fun w => inside_run x y u v hx hy hu hv w)
  have B0 : Hid (∀ w', Below ((w.alloc (boxO x y)).alloc (boxO u v)).heap.size ((w.alloc (boxO x y)).alloc (boxO u v)) w' → Below w.heap.size w w') :=
    fun w' h => (((Below.refl _ w).alloc (Nat.le_refl _) _).alloc (by simp) _).trans (h.mono (by simp; omega))
  have B1 : Hid (Below w.heap.size w ((w.alloc (boxO x y)).alloc (boxO u v))) := ((Below.refl _ w).alloc (Nat.le_refl _) _).alloc (by simp) _
  unfold boxO at B0 B1
  unfold spanV at *
  by_cases hk : k = 0
  · by_cases hl : l = 0
    · rw [h hk hl] at I
      subst hk hl
      clear h hx hy hu hv
      go_enter Try.func35, Try.ntmps35
      go_wp2_with fail
      refine (I.out _).mono ?_
      rintro _ w1 ⟨rfl, hb⟩
      have B2 := Lib.hid (B0.out w1 hb)
      clear hb B0
      go_wp2_with fail
      go_ret
      exact ⟨rfl, B2.out⟩
    · have t : (l != 0) = true := by simpa using hl
      subst hk
      clear h hx hy hu hv hl I B0
      go_enter Try.func35, Try.ntmps35
      go_wp2_with fail
      go_ret
      exact ⟨rfl, B1.out⟩
  · have t : (k != 0) = true := by simpa using hk
    clear h hx hy hu hv hk I B0
    go_enter Try.func35, Try.ntmps35
    go_wp2_with fail
    go_ret
    exact ⟨rfl, B1.out⟩
end Go.Proofs.Ytkfagpahbojigaa
