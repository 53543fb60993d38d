/- Proved here: what the texts Sml4, Abf, Cir, Bri, Whl, Rgn prove, one behind the other. -/
import Derived.Test.YtnmadknpkhaolaaJz6
import Derived.Test.YtnmadknpkhaolaaJz1

namespace Go.Proofs.Ytnmadknpkhaolaa
open Go.ChangeShapes Go.WideShapes Go.ChangeAt Go.RowKit Ieee.Own

/-! ### what a told span is -/
theorem spanE_inj {a b c d : Nat} {k l : Int} (h : spanE a b k = spanE c d l) : a = c ∧ b = d ∧ k = l := by
  unfold spanE at h
  simpa [and_assoc] using h
theorem told_ok {lo hi x y : Nat} {k : Int} (h1 : FinW lo) (h2 : FinW hi) (h : toldE lo hi = spanE x y k) : x < 18446744073709551616 ∧ y < 18446744073709551616 ∧ (k = 0 → V lo ≤ V hi → x = lowW lo ∧ y = highW hi ∧ errS x y = 0) := by
  unfold toldE at h
  by_cases c : V (lowW lo) < -mostV ∨ mostV < V (highW hi)
  · rw [if_pos c] at h
    obtain ⟨rfl, rfl, rfl⟩ := spanE_inj h
    exact ⟨by decide, by decide, fun h => by omega⟩
  · rw [if_neg c] at h
    obtain ⟨rfl, rfl, rfl⟩ := spanE_inj h
    refine ⟨(lowW_fin h1).1, (highW_fin h2).1, fun _ le => ⟨rfl, rfl, ?_⟩⟩
    have i1 := fit_iff (lowW_fin h1)
    have i2 := fit_iff (highW_fin h2)
    have o1 := lowW_out lo
    have o2 := highW_out hi
    have l1 := lowW_le lo
    have l2 := highW_ge hi
    unfold errS
    rw [if_pos ⟨i1.2 (by omega), i2.2 (by omega)⟩, if_neg (by omega)]
/-- what an operation's answer is, whatever it is -/
theorem OpAll.bd {er : Int} {cs ds : List (Int → Int)} {x y : Nat} {k : Int} (h : OpAll er cs ds (.returned (spanE x y k))) : x < 18446744073709551616 ∧ y < 18446744073709551616 ∧ (k = 0 → er = 0) ∧
    (k = 0 → (∀ lo hi, DnAll cs lo → UpAll ds hi → V lo ≤ V hi) → ∃ lo hi, DnAll cs lo ∧ UpAll ds hi ∧ x = lowW lo ∧ y = highW hi ∧ errS x y = 0) := by
  by_cases h0 : er = 0
  · obtain ⟨lo, hi, e, d, u⟩ := h.1 h0
    have e' : toldE lo hi = spanE x y k := (Ending.returned.inj e).symm
    obtain ⟨b1, b2, ok⟩ := told_ok d.fin u.fin e'
    refine ⟨b1, b2, fun _ => h0, fun hk hl => ?_⟩
    obtain ⟨p, q, r⟩ := ok hk (hl lo hi d u)
    exact ⟨lo, hi, d, u, p, q, r⟩
  · have e := Ending.returned.inj (h.2 h0)
    obtain ⟨rfl, rfl, rfl⟩ := spanE_inj e
    exact ⟨by decide, by decide, fun h => absurd h h0, fun h => absurd h h0⟩
theorem fits_of {er er' : Int} {cs ds cs' ds' : List (Int → Int)} {x y u v : Nat} {k l : Int} (h : OpAll er cs ds (.returned (spanE x y k))) (h' : OpAll er' cs' ds' (.returned (spanE u v l)))
    (lle : er = 0 → ∀ lo hi, DnAll cs lo → UpAll ds hi → V lo ≤ V hi) (lle' : er' = 0 → ∀ lo hi, DnAll cs' lo → UpAll ds' hi → V lo ≤ V hi)
    (md : er = 0 → er' = 0 → ∀ u, (∀ c ∈ cs', 0 ≤ c u) → ∀ d ∈ cs, 0 ≤ d u) (mu : er = 0 → er' = 0 → ∀ u, (∀ c ∈ ds', c u ≤ 0) → ∀ d ∈ ds, d u ≤ 0) : k = 0 → l = 0 → insB x y u v = true := by
  intro hk hl
  obtain ⟨-, -, z, o⟩ := h.bd
  obtain ⟨-, -, z', o'⟩ := h'.bd
  obtain ⟨lo, hi, d, up, rfl, rfl, e⟩ := o hk (lle (z hk))
  obtain ⟨lo', hi', d', up', rfl, rfl, e'⟩ := o' hl (lle' (z' hl))
  unfold insB
  rw [decide_eq_true_eq]
  exact ⟨errSS_of e e', lowW_mono (d'.mono d (md (z hk) (z' hl))), highW_mono (up'.mono up (mu (z hk) (z' hl)))⟩

/-! ### Inside, in numbers -/
theorem insB_spec {a b c d : Nat} (h : insB a b c d = true) : errS a b = 0 ∧ errS c d = 0 ∧ V c ≤ V a ∧ V b ≤ V d := by
  unfold insB at h
  rw [decide_eq_true_eq] at h
  obtain ⟨e1, e2⟩ := errSS_zero h.1
  exact ⟨e1, e2, h.2⟩

/-! ### products -/
theorem corner_le {p q r s x y z : Int} (h1 : p ≤ x) (h2 : x ≤ q) (h3 : r ≤ y) (h4 : y ≤ s) (a : z ≤ p * r) (b : z ≤ p * s) (c : z ≤ q * r) (d : z ≤ q * s) : z ≤ x * y := by
  have side : ∀ t : Int, z ≤ t * r → z ≤ t * s → z ≤ t * y := fun t e f => by
    by_cases ht : 0 ≤ t
    · exact Int.le_trans e (Int.mul_le_mul_of_nonneg_left h3 ht)
    · exact Int.le_trans f (Int.mul_le_mul_of_nonpos_left (by omega) h4)
  by_cases hy : 0 ≤ y
  · exact Int.le_trans (side p a b) (Int.mul_le_mul_of_nonneg_right h1 hy)
  · exact Int.le_trans (side q c d) (Int.mul_le_mul_of_nonpos_right h2 (by omega))
theorem corner_ge {p q r s x y z : Int} (h1 : p ≤ x) (h2 : x ≤ q) (h3 : r ≤ y) (h4 : y ≤ s) (a : p * r ≤ z) (b : p * s ≤ z) (c : q * r ≤ z) (d : q * s ≤ z) : x * y ≤ z := by
  have := corner_le (p := -q) (q := -p) (x := -x) (z := -z) (by omega) (by omega) h3 h4 (by rw [Int.neg_mul]; omega) (by rw [Int.neg_mul]; omega) (by rw [Int.neg_mul]; omega) (by rw [Int.neg_mul]; omega)
  rw [Int.neg_mul] at this
  omega
def MM : Int := 2 ^ 1074
theorem MM_pos : 0 < MM := Int.pow_pos (by omega)
theorem prod_dn_iff (a b : Nat) (u : Int) : 0 ≤ prodC a b u ↔ u * MM ≤ V a * V b := by
  unfold prodC prodN
  show 0 ≤ V a * V b / MM - u ↔ _
  have := Int.le_ediv_iff_mul_le (a := u) (b := V a * V b) MM_pos
  omega
theorem four_mem {α : Type} {p : α → Prop} {a b c d : α} : (∀ x ∈ [a, b, c, d], p x) ↔ p a ∧ p b ∧ p c ∧ p d := by simp
theorem one_mem {α : Type} {p : α → Prop} {a : α} : (∀ x ∈ [a], p x) ↔ p a := by simp
/-- a product, exact: both fit -/
theorem prod_ex {a b : Nat} (ha : a < 18446744073709551616) (hb : b < 18446744073709551616) (h1 : fitB a = true) (h2 : fitB b = true) : prodN a b * MM = V a * V b := by
  obtain ⟨p, e, N, Z, g, R, -, -, -⟩ := prod_fit a b ha hb h1 h2
  rw [prodN_of R]
  exact R.ex.symm
theorem prod_up_iff {a b : Nat} (ha : a < 18446744073709551616) (hb : b < 18446744073709551616) (h1 : fitB a = true) (h2 : fitB b = true) (u : Int) : prodC a b u ≤ 0 ↔ V a * V b ≤ u * MM := by
  have e := prod_ex ha hb h1 h2
  have p := MM_pos
  unfold prodC
  rw [← e]
  constructor
  · intro h; exact Int.mul_le_mul_of_nonneg_right (by omega) (Int.le_of_lt p)
  · intro h
    have := Int.le_of_mul_le_mul_right h p
    omega
structure Two (a0 b0 a1 b1 c0 d0 c1 d1 : Nat) : Prop where
  la0 : a0 < 18446744073709551616
  lb0 : b0 < 18446744073709551616
  la1 : a1 < 18446744073709551616
  lb1 : b1 < 18446744073709551616
  lc0 : c0 < 18446744073709551616
  ld0 : d0 < 18446744073709551616
  lc1 : c1 < 18446744073709551616
  ld1 : d1 < 18446744073709551616
  i0 : insB a0 b0 c0 d0 = true
  i1 : insB a1 b1 c1 d1 = true
section
variable {a0 b0 a1 b1 c0 d0 c1 d1 : Nat} (T : Two a0 b0 a1 b1 c0 d0 c1 d1)
include T
theorem Two.facts : (fitB a0 = true ∧ fitB b0 = true ∧ V a0 ≤ V b0) ∧ (fitB a1 = true ∧ fitB b1 = true ∧ V a1 ≤ V b1) ∧ (fitB c0 = true ∧ fitB d0 = true ∧ V c0 ≤ V d0) ∧ (fitB c1 = true ∧ fitB d1 = true ∧ V c1 ≤ V d1) ∧ (V c0 ≤ V a0 ∧ V b0 ≤ V d0) ∧ (V c1 ≤ V a1 ∧ V b1 ≤ V d1) := by
  obtain ⟨e1, e2, e3, e4⟩ := insB_spec T.i0
  obtain ⟨f1, f2, f3, f4⟩ := insB_spec T.i1
  exact ⟨errS_zero e1, errS_zero f1, errS_zero e2, errS_zero f2, ⟨e3, e4⟩, f3, f4⟩
theorem add_mono {x y u v : Nat} {k l : Int} (h : OpIs (errSS a0 b0 a1 b1) (fun v => V a0 + V a1 - v) (fun v => V b0 + V b1 - v) (.returned (spanE x y k))) (h' : OpIs (errSS c0 d0 c1 d1) (fun v => V c0 + V c1 - v) (fun v => V d0 + V d1 - v) (.returned (spanE u v l))) : k = 0 → l = 0 → insB x y u v = true := by
  obtain ⟨⟨-, -, o1⟩, ⟨-, -, o2⟩, ⟨-, -, o3⟩, ⟨-, -, o4⟩, ⟨m1, m2⟩, m3, m4⟩ := T.facts
  refine fits_of h.all h'.all (fun _ lo hi d u => ?_) (fun _ lo hi d u => ?_) (fun _ _ u => ?_) (fun _ _ u => ?_)
  · have p := d.le _ (List.mem_singleton.2 rfl)
    replace p : 0 ≤ V a0 + V a1 - V lo := p
    have q := u.ge _ (List.mem_singleton.2 rfl)
    replace q : V b0 + V b1 - V hi ≤ 0 := q
    omega
  · have p := d.le _ (List.mem_singleton.2 rfl)
    replace p : 0 ≤ V c0 + V c1 - V lo := p
    have q := u.ge _ (List.mem_singleton.2 rfl)
    replace q : V d0 + V d1 - V hi ≤ 0 := q
    omega
  · rw [one_mem, one_mem]; intro h; show 0 ≤ V a0 + V a1 - u; have : 0 ≤ V c0 + V c1 - u := h; omega
  · rw [one_mem, one_mem]; intro h; show V b0 + V b1 - u ≤ 0; have : V d0 + V d1 - u ≤ 0 := h; omega
theorem mul_mono {x y u v : Nat} {k l : Int} (h : OpAll (errSS a0 b0 a1 b1) [prodC a0 a1, prodC a0 b1, prodC b0 a1, prodC b0 b1] [prodC a0 a1, prodC a0 b1, prodC b0 a1, prodC b0 b1] (.returned (spanE x y k)))
    (h' : OpAll (errSS c0 d0 c1 d1) [prodC c0 c1, prodC c0 d1, prodC d0 c1, prodC d0 d1] [prodC c0 c1, prodC c0 d1, prodC d0 c1, prodC d0 d1] (.returned (spanE u v l))) : k = 0 → l = 0 → insB x y u v = true := by
  obtain ⟨⟨f1, f2, o1⟩, ⟨f3, f4, o2⟩, ⟨f5, f6, o3⟩, ⟨f7, f8, o4⟩, ⟨m1, m2⟩, m3, m4⟩ := T.facts
  refine fits_of h h' (fun _ lo hi d u => ?_) (fun _ lo hi d u => ?_) (fun _ _ u => ?_) (fun _ _ u => ?_)
  · have p : 0 ≤ prodN a0 a1 - V lo := (four_mem.1 d.le).1
    have q : prodN a0 a1 - V hi ≤ 0 := (four_mem.1 u.ge).1
    omega
  · have p : 0 ≤ prodN c0 c1 - V lo := (four_mem.1 d.le).1
    have q : prodN c0 c1 - V hi ≤ 0 := (four_mem.1 u.ge).1
    omega
  · rw [four_mem, four_mem]
    simp only [prod_dn_iff]
    rintro ⟨z1, z2, z3, z4⟩
    exact ⟨corner_le m1 (by omega) m3 (by omega) z1 z2 z3 z4, corner_le m1 (by omega) (by omega) m4 z1 z2 z3 z4, corner_le (by omega) m2 m3 (by omega) z1 z2 z3 z4, corner_le (by omega) m2 (by omega) m4 z1 z2 z3 z4⟩
  · rw [four_mem, four_mem]
    rw [prod_up_iff T.lc0 T.lc1 f5 f7, prod_up_iff T.lc0 T.ld1 f5 f8, prod_up_iff T.ld0 T.lc1 f6 f7, prod_up_iff T.ld0 T.ld1 f6 f8]
    rw [prod_up_iff T.la0 T.la1 f1 f3, prod_up_iff T.la0 T.lb1 f1 f4, prod_up_iff T.lb0 T.la1 f2 f3, prod_up_iff T.lb0 T.lb1 f2 f4]
    rintro ⟨z1, z2, z3, z4⟩
    exact ⟨corner_ge m1 (by omega) m3 (by omega) z1 z2 z3 z4, corner_ge m1 (by omega) (by omega) m4 z1 z2 z3 z4, corner_ge (by omega) m2 m3 (by omega) z1 z2 z3 z4, corner_ge (by omega) m2 (by omega) m4 z1 z2 z3 z4⟩
end

/-! ### squares and roots -/
structure One (a0 b0 c0 d0 : Nat) : Prop where
  la0 : a0 < 18446744073709551616
  lb0 : b0 < 18446744073709551616
  lc0 : c0 < 18446744073709551616
  ld0 : d0 < 18446744073709551616
  i0 : insB a0 b0 c0 d0 = true
section
variable {a0 b0 c0 d0 : Nat} (T : One a0 b0 c0 d0)
include T
theorem One.facts : (fitB a0 = true ∧ fitB b0 = true ∧ V a0 ≤ V b0) ∧ (fitB c0 = true ∧ fitB d0 = true ∧ V c0 ≤ V d0) ∧ V c0 ≤ V a0 ∧ V b0 ≤ V d0 := by
  obtain ⟨e1, e2, e3, e4⟩ := insB_spec T.i0
  exact ⟨errS_zero e1, errS_zero e2, e3, e4⟩
end
section
variable {a0 b0 c0 d0 : Nat} (T : One a0 b0 c0 d0)
include T
end

/-! ### the law's fits -/
end Go.Proofs.Ytnmadknpkhaolaa

namespace Go.Proofs.Ytnmadknpkhaolaa
open Go.ChangeShapes Go.WideShapes Go.ChangeAt Go.RowKit Ieee.Own

/-- the span from the least to the greatest of three fit numbers, the second of them within -/
structure Abt (l u x : Nat) : Prop where
  ll : l < 18446744073709551616
  lu : u < 18446744073709551616
  ok : errS l u = 0
  lo : V l ≤ V x
  hi : V x ≤ V u
section
variable {sl su tl tu x y : Nat} (S : Abt sl su x) (T : Abt tl tu y)
include S T
end
end Go.Proofs.Ytnmadknpkhaolaa

namespace Go.Proofs.Ytnmadknpkhaolaa
open Ieee.Own

theorem Q_dvd_big {b m : Nat} {x : Rat} (h : x ≤ Q b ∨ Q b ≤ -x) (hx : (((2 ^ (m + 53) : Nat) : Int) : Rat) ≤ x * unit) : (2 : Int) ^ m ∣ V b := by
  refine dvd_big ?_
  have up := Rat.le_of_lt unit_pos
  rcases h with h | h
  · have := Rat.mul_le_mul_of_nonneg_right h up
    rw [Q_unit] at this
    have := Rat.intCast_le_intCast.1 (Rat.le_trans hx this)
    omega
  · have := Rat.mul_le_mul_of_nonneg_right h up
    rw [Q_unit] at this
    have a : (((2 ^ (m + 53) : Nat) : Int) : Rat) ≤ ((-V b : Int) : Rat) := by
      rw [Rat.intCast_neg]; grind
    have := Rat.intCast_le_intCast.1 a
    omega

/-- the near cosine is no small word -/
theorem Rest.cos_far {r : Nat} (h : Rest r) : 1/2 ≤ Q (cosX r) := by
  have N := h.near
  have b := h.Q_bd
  have t := Ply.top_mul b.1 b.2
  have c1 := Ply.c_top t.1 t.2
  have cv : 7/10 ≤ Ply.c Ply.top := by decide +kernel
  have c2 := Ply.c_le_one t.1 t.2
  obtain ⟨l, u, -, -⟩ := N.cn
  have e : mkRat 1 (2 ^ 50) ≤ 1/10 := by decide +kernel
  generalize mkRat 1 (2 ^ 50) = E at *
  grind
theorem Rest.cos_wd {r : Nat} (h : Rest r) : Wd (cosX r) 768 1075 := by
  have N := h.near
  exact ⟨N.cw.fin, Q_dvd_big (x := 1/2) (.inl h.cos_far) (by decide +kernel), N.cw.abs⟩

theorem le_mul_pow {c : Int} (h : c ≠ 0) (n : Nat) : 2 ^ n ≤ 2 ^ n * c.natAbs := Nat.le_mul_of_pos_right _ (by omega)

theorem ab_eq (x : Rat) : (0 ≤ x ∧ Ply.ev [] x = 0 ∧ ab x = x) ∨ (x ≤ 0 ∧ Ply.ev [] x = 0 ∧ ab x = -x) := by
  unfold ab
  rcases Rat.le_total (a := 0) (b := x) with h | h
  · exact .inl ⟨h, rfl, by rw [if_pos h]⟩
  · refine .inr ⟨h, rfl, ?_⟩
    by_cases q : 0 ≤ x
    · have : x = 0 := by grind
      subst this; decide +kernel
    · rw [if_neg q]

/-- the near sine is no small word, or 0 -/
theorem Rest.sin_all {r : Nat} (h : Rest r) : (ab (Q r) ≤ Q (sinX r) ∨ Q (sinX r) ≤ -ab (Q r)) ∧ Wd (sinX r) 768 1075 := by
  have N := h.near
  -- |y| is 6 |r| at least, |s| no less than |r|
  have tq : 6 ≤ Q tauW ∧ Q tauW ≤ 7 := by decide +kernel
  have e : mkRat 1 (2 ^ 53) = 1/9007199254740992 := by decide +kernel
  have ry := N.ry
  have rzp := N.rzp
  have ryzp := N.ryzp
  have rs := N.rs
  unfold Rld at ry rzp ryzp rs
  rw [e] at ry rzp ryzp rs
  obtain ⟨p1, p2⟩ := N.pb
  obtain ⟨z1, z2⟩ := N.zb
  have zp := abs_mul z1 z2 p1 p2
  have g := rzp (1/2) (by grind) (by grind)
  generalize Q (mX (yW r) (mX (zW r) (pW r))) = yzp at *
  generalize Q (mX (zW r) (pW r)) = zpw at *
  have zb : -(51/100) ≤ zpw ∧ zpw ≤ 51/100 := by constructor <;> grind
  have ay := ab_le (Q (yW r))
  have g2 := abs_mul ay.1 ay.2 zb.1 zb.2
  have g3 := ryzp _ g2.1 g2.2
  have y0 : 0 ≤ ab (Q (yW r)) := by rcases ab_eq (Q (yW r)) with q | q <;> grind
  have g4 : -(52/100 * ab (Q (yW r))) ≤ yzp ∧ yzp ≤ 52/100 * ab (Q (yW r)) := by constructor <;> grind
  have g5 := rs (2 * ab (Q (yW r))) (by grind) (by grind)
  have ar := ab_le (Q r)
  have r0 : 0 ≤ ab (Q r) := by rcases ab_eq (Q r) with q | q <;> grind
  have h1 := abs_mul ar.1 ar.2 (by grind : -7 ≤ Q tauW) tq.2
  have h2 := ry _ h1.1 h1.2
  -- the sine is beyond the rest
  have key : ab (Q r) ≤ Q (sinX r) ∨ Q (sinX r) ≤ -ab (Q r) := by
    rcases ab_eq (Q r) with ⟨q1, -, q2⟩ | ⟨q1, -, q2⟩
    · have m := Rat.mul_nonneg q1 (by grind : 0 ≤ Q tauW - 6)
      have yp : 5 * Q r ≤ Q (yW r) := by grind
      left
      rcases ab_eq (Q (yW r)) with ⟨w1, -, w2⟩ | ⟨w1, -, w2⟩ <;> grind
    · have m := Rat.mul_nonneg (by grind : 0 ≤ -Q r) (by grind : 0 ≤ Q tauW - 6)
      have yp : Q (yW r) ≤ 5 * Q r := by grind
      right
      rcases ab_eq (Q (yW r)) with ⟨w1, -, w2⟩ | ⟨w1, -, w2⟩ <;> grind
  refine ⟨key, N.sw.fin, ?_, N.sw.abs⟩
  by_cases v0 : V r = 0
  · -- then all is 0
    have q0 : Q r = 0 := by unfold Q; rw [v0]; decide +kernel
    have a0 : ab (Q r) = 0 := by rw [q0]; decide +kernel
    have yz : Q (yW r) = 0 := by
      rw [q0] at h2 ; rw [q0] at a0; rw [a0] at h2
      grind
    have az : ab (Q (yW r)) = 0 := by rw [yz]; decide +kernel
    have sz : Q (sinX r) = 0 := by rw [az] at g4 g5; grind
    have : V (sinX r) = 0 := by
      have := Q_unit (sinX r)
      rw [sz] at this
      have : ((V (sinX r) : Int) : Rat) = ((0 : Int) : Rat) := by rw [← this]; decide +kernel
      exact Rat.intCast_inj.1 this
    rw [this]; exact Int.dvd_zero _
  · have big : 2 ^ 822 ≤ (V r).natAbs := by
      obtain ⟨c, hc⟩ := h.dvd
      have : c ≠ 0 := by rintro rfl; omega
      rw [hc, Int.natAbs_mul, pw_abs]
      exact le_mul_pow this 822
    refine Q_dvd_big (x := ab (Q r)) key ?_
    have e1 : ab (Q r) * unit = (((V r).natAbs : Int) : Rat) := by
      rcases ab_eq (Q r) with ⟨q1, -, q2⟩ | ⟨q1, -, q2⟩
      · rw [q2, Q_unit]
        have : 0 ≤ V r := by
          have := Rat.mul_nonneg q1 (Rat.le_of_lt unit_pos)
          rw [Q_unit] at this
          exact Rat.intCast_le_intCast.1 this
        congr 1; omega
      · rw [q2]
        have w : Q r * unit ≤ 0 := by
          have := Rat.mul_nonneg (by grind : 0 ≤ -Q r) (Rat.le_of_lt unit_pos)
          grind
        rw [Q_unit] at w
        have : V r ≤ 0 := Rat.intCast_le_intCast.1 w
        have : ((V r).natAbs : Int) = -V r := by omega
        rw [this, Rat.intCast_neg, ← Q_unit]; grind
    rw [e1]
    refine Rat.intCast_le_intCast.2 ?_
    have := two_le (a := 768 + 53) (b := 822) (by omega)
    omega
theorem Rest.sin_far {r : Nat} (h : Rest r) : ab (Q r) ≤ Q (sinX r) ∨ Q (sinX r) ≤ -ab (Q r) := h.sin_all.1
theorem Rest.sin_wd {r : Nat} (h : Rest r) : Wd (sinX r) 768 1075 := h.sin_all.2
theorem Q_zero {b : Nat} (h : Q b = 0) : V b = 0 := by
  have := Q_unit b
  rw [h] at this
  have : ((V b : Int) : Rat) = ((0 : Int) : Rat) := by rw [← this]; decide +kernel
  exact Rat.intCast_inj.1 this

end Go.Proofs.Ytnmadknpkhaolaa

namespace Go.Proofs.Ytnmadknpkhaolaa
open Ieee.Own

/-- a span of words in fractions -/
def sp (a b : Nat) : Sp := (Q a, Q b)

theorem fit_822 {b : Nat} (h : b < 18446744073709551616) (hf : fitB b = true) : (2 : Int) ^ 822 ∣ V b := by
  rcases fit_norm h hf with h0 | ⟨s, m, p, N, p1, p2⟩
  · rw [h0]; exact Int.dvd_zero _
  · exact norm_dvd N p1

/-! ### the factors and Tau as spans -/
/-! ### nothing grows too great -/
/-- the word 2^m, and its opposite -/
def tw (m : Nat) : Nat := (1023 + m) * 4503599627370496
/-- a span within 2^m -/
def Bnd (a b m : Nat) : Prop := (V a).natAbs ≤ 2 ^ (1074 + m) ∧ (V b).natAbs ≤ 2 ^ (1074 + m)
end Go.Proofs.Ytnmadknpkhaolaa

namespace Go.Proofs.Ytnmadknpkhaolaa
open Ieee Ieee.Own

/-- the word of a number made whole -/
def wholeW (way : Toward) (b : Nat) : Nat := double.write ((double.read b).integral way)
/-- the word of a whole number -/
def numW (s : Bool) (n : Nat) : Nat := double.write (.number s n 0)

theorem cut_parts (n d : Nat) : n / 2 ^ min d (n.log2 + 2) = n / 2 ^ d ∧ n % 2 ^ min d (n.log2 + 2) = n % 2 ^ d := by
  by_cases h : d ≤ n.log2 + 2
  · rw [Nat.min_eq_left h]; exact ⟨rfl, rfl⟩
  · have h1 : n < 2 ^ (n.log2 + 2) := by
      by_cases z : n = 0
      · subst z; exact Nat.two_pow_pos _
      · exact Nat.lt_of_lt_of_le ((Nat.log2_eq_iff z).1 rfl).2 (two_le (by omega))
    have h2 : n < 2 ^ d := Nat.lt_of_lt_of_le h1 (two_le (by omega))
    rw [Nat.min_eq_right (by omega), Nat.div_eq_of_lt h1, Nat.div_eq_of_lt h2, Nat.mod_eq_of_lt h1, Nat.mod_eq_of_lt h2]
    exact ⟨rfl, rfl⟩

theorem cut_down (s : Bool) (n d : Nat) : Toward.down.cut s n d = n / 2 ^ d + (s && n % 2 ^ d != 0).toNat := by
  unfold Toward.cut
  simp only [Nat.one_shiftLeft]
  rw [(cut_parts n d).1, (cut_parts n d).2]
theorem cut_up (s : Bool) (n d : Nat) : Toward.up.cut s n d = n / 2 ^ d + (!s && n % 2 ^ d != 0).toNat := by
  unfold Toward.cut
  simp only [Nat.one_shiftLeft]
  rw [(cut_parts n d).1, (cut_parts n d).2]
theorem cut_zero (s : Bool) (n d : Nat) : Toward.zero.cut s n d = n / 2 ^ d := by
  unfold Toward.cut
  simp only [Nat.one_shiftLeft]
  rw [(cut_parts n d).1]; simp

theorem up_aux (m p d : Nat) : m * 2 ^ p / 2 ^ (d + p) = m / 2 ^ d ∧ (m * 2 ^ p % 2 ^ (d + p) = 0 ↔ m % 2 ^ d = 0) := by
  have hp := Nat.two_pow_pos p
  rw [Nat.pow_add, Nat.mul_div_mul_right _ _ hp, Nat.mul_mod_mul_right]
  refine ⟨rfl, ?_⟩
  constructor
  · intro h; rcases Nat.mul_eq_zero.1 h with h | h <;> omega
  · intro h; rw [h]; simp
theorem far_aux (m e : Nat) : m * 2 ^ e / 2 ^ 0 = m * 2 ^ e ∧ m * 2 ^ e % 2 ^ 0 = 0 := by
  rw [Nat.pow_zero, Nat.div_one]; exact ⟨rfl, Nat.mod_one _⟩

/-- the whole number, from the number of units: which way, and is the sign - -/
def wayN (way : Toward) (s : Bool) (n : Nat) : Nat :=
  match way with
  | .even => rne n 1074
  | .down => n / 2 ^ 1074 + (s && n % 2 ^ 1074 != 0).toNat
  | .up => n / 2 ^ 1074 + (!s && n % 2 ^ 1074 != 0).toNat
  | .zero => n / 2 ^ 1074

theorem bne_iff {a b : Nat} (h : a = 0 ↔ b = 0) : (a != 0) = (b != 0) := by
  rw [Bool.eq_iff_iff]; simp only [bne_iff_ne, ne_eq, h]

theorem way_cut (way : Toward) (s : Bool) (m p D : Nat) (hD : D = 1074) : way.cut s (m <<< ((-1074 : Int) + p).toNat) (-((-1074 : Int) + p)).toNat = 
    match way with
    | .even => rne (m * 2 ^ p) D
    | .down => m * 2 ^ p / 2 ^ D + (s && m * 2 ^ p % 2 ^ D != 0).toNat
    | .up => m * 2 ^ p / 2 ^ D + (!s && m * 2 ^ p % 2 ^ D != 0).toNat
    | .zero => m * 2 ^ p / 2 ^ D := by
  rw [Nat.shiftLeft_eq]
  by_cases h : p ≤ D
  · have e1 : ((-1074 : Int) + p).toNat = 0 := by omega
    have e2 : (-((-1074 : Int) + p)).toNat = D - p := by omega
    rw [e1, e2, Nat.pow_zero, Nat.mul_one]
    obtain ⟨d, rfl⟩ : ∃ d, D = d + p := ⟨D - p, by omega⟩
    rw [Nat.add_sub_cancel]
    have u := up_aux m p d
    have b := bne_iff u.2
    cases way with
    | even => dsimp only; rw [cut_rne, rne_scale]
    | down => dsimp only; rw [cut_down, u.1, b]
    | up => dsimp only; rw [cut_up, u.1, b]
    | zero => dsimp only; rw [cut_zero, u.1]
  · obtain ⟨e, rfl⟩ : ∃ e, p = e + D := ⟨p - D, by omega⟩
    have e1 : ((-1074 : Int) + (e + D : Nat)).toNat = e := by omega
    have e2 : (-((-1074 : Int) + (e + D : Nat))).toNat = 0 := by omega
    rw [e1, e2]
    have f := far_aux m e
    have g : m * 2 ^ (e + D) / 2 ^ D = m * 2 ^ e ∧ m * 2 ^ (e + D) % 2 ^ D = 0 := by
      rw [Nat.pow_add, ← Nat.mul_assoc]
      exact ⟨Nat.mul_div_cancel _ (Nat.two_pow_pos D), Nat.mul_mod_left _ _⟩
    cases way with
    | even =>
      dsimp only
      rw [cut_rne, Nat.pow_add, ← Nat.mul_assoc, rne_exact]
      have := rne_exact (m * 2 ^ e) 0
      rwa [Nat.pow_zero, Nat.mul_one] at this
    | down => dsimp only; rw [cut_down, f.1, f.2, g.1, g.2]
    | up => dsimp only; rw [cut_up, f.1, f.2, g.1, g.2]
    | zero => dsimp only; rw [cut_zero, f.1, g.1]

theorem way_cut' (way : Toward) (s : Bool) (m p : Nat) : way.cut s (m <<< ((-1074 : Int) + p).toNat) (-((-1074 : Int) + p)).toNat = wayN way s (m * 2 ^ p) := by
  rw [way_cut way s m p 1074 rfl]; rfl

/-- a whole number of few digits as a word -/
theorem num_spec (s : Bool) (n D : Nat) (hD : D = 1074) (hn : rn n = n) {T : Nat} (hT : T = 2098) (hb : n * 2 ^ D < 2 ^ T) : FinW (numW s n) ∧ V (numW s n) = sv s n D := by
  have hm : n * 2 ^ D = n * 2 ^ D * 2 ^ 0 := by rw [Nat.pow_zero, Nat.mul_one]
  have e : rn (n * 2 ^ D) = n * 2 ^ D := by rw [rn_scale, hn]
  obtain ⟨r, r1, r2, r3⟩ := nearest_rn s n 0 (n * 2 ^ D) D 0 hm (by omega) (by rw [e, ← hT]; exact hb)
  have w : numW s n = double.word s r := r2
  rw [w]
  have v := V_word s r r1
  refine ⟨v.1, ?_⟩
  rw [v.2, r3, e]; unfold sv; rfl

theorem small_top {n k D T : Nat} (hn : n ≤ 2 ^ k) (hD : k + D < T) : n * 2 ^ D < 2 ^ T := Nat.lt_of_le_of_lt (mul_pow hn D) (two_lt hD)
theorem num_small_any (s : Bool) (n D T : Nat) (hD : D = 1074) (hT : T = 2098) (hn : n ≤ 2 ^ 53) : FinW (numW s n) ∧ V (numW s n) = sv s n D := by
  refine num_spec s n D hD (rn_small n hn) hT (small_top (k := 53) hn (by omega))
theorem num_small (s : Bool) (n : Nat) (hn : n ≤ 2 ^ 53) : FinW (numW s n) ∧ V (numW s n) = sv s n 1074 := num_small_any s n 1074 2098 rfl rfl hn

/-- a finite word's number, made whole -/
theorem whole_form (way : Toward) {b : Nat} (h : FinW b) : ∃ s m p, V b = sv s m p ∧ m < 2 ^ 53 ∧ double.read b = .number s m (-1074 + p) ∧ wholeW way b = numW s (wayN way s (m * 2 ^ p)) := by
  obtain ⟨s, m, p, e1, e2, e3, -, -⟩ := read_sv h
  refine ⟨s, m, p, e2, e3, e1, ?_⟩
  unfold wholeW numW
  rw [e1]
  unfold Datum.integral
  dsimp only
  rw [way_cut']

theorem way_le (way : Toward) (s : Bool) (n : Nat) : wayN way s n ≤ n / 2 ^ 1074 + 1 := by
  have t : ∀ b : Bool, b.toNat ≤ 1 := fun b => by cases b <;> simp
  unfold wayN
  cases way <;> dsimp only
  · exact (rne_bounds n 1074).2
  · have := t (s && n % 2 ^ 1074 != 0); omega
  · have := t (!s && n % 2 ^ 1074 != 0); omega
  · omega

theorem div_cap {n k D M : Nat} (hM : M = k + D) (h : n ≤ 2 ^ M) : n / 2 ^ D ≤ 2 ^ k := by
  subst hM
  rw [Nat.pow_add] at h
  exact Nat.div_le_of_le_mul (by rwa [Nat.mul_comm] at h)

/-- the word of a number of 2^52 at most, made whole -/
theorem whole_spec (way : Toward) {b : Nat} (h : FinW b) (hb : (V b).natAbs ≤ 2 ^ 1126) :
    ∃ s m p, V b = sv s m p ∧ wholeW way b = numW s (wayN way s (m * 2 ^ p)) ∧ wayN way s (m * 2 ^ p) ≤ 2 ^ 53 ∧ FinW (wholeW way b) ∧ V (wholeW way b) = sv s (wayN way s (m * 2 ^ p)) 1074 := by
  obtain ⟨s, m, p, e1, e2, -, e3⟩ := whole_form way h
  rw [e1, sv_abs] at hb
  have c := div_cap (k := 52) (D := 1074) (M := 1126) rfl hb
  have l := way_le way s (m * 2 ^ p)
  have q : wayN way s (m * 2 ^ p) ≤ 2 ^ 53 := by omega
  have := num_small s _ q
  rw [← e3] at this
  exact ⟨s, m, p, e1, e3, q, this⟩

theorem sv_int (s : Bool) (n D : Nat) : sv s n D = (if s then -(n : Int) else n) * 2 ^ D := by
  unfold sv
  cases s
  · simp
  · simp [Int.neg_mul]

theorem fdiv_aux (s : Bool) (n T : Nat) (hT : 0 < T) : (if s then -((n : Int)) else n) / (T : Int) = if s then -((n / T + (s && n % T != 0).toNat : Nat) : Int) else ((n / T : Nat) : Int) := by
  cases s
  · simp
  · have h1 := Nat.div_add_mod n T
    have h2 := Nat.mod_lt n hT
    simp only [if_true, Bool.true_and]
    by_cases q : n % T = 0
    · rw [q]
      have e : (n : Int) = (T : Int) * ((n / T : Nat) : Int) := by exact_mod_cast (by omega : n = T * (n / T))
      have e0 : ((0 : Nat) != 0).toNat = 0 := rfl
      rw [e0, Nat.add_zero]
      conv => lhs; rw [e]
      rw [← Int.mul_neg, Int.mul_ediv_cancel_left _ (by omega)]
    · have e0 : (n % T != 0).toNat = 1 := by simp [q]
      rw [e0]
      have e : -(n : Int) = (T : Int) * (-((n / T + 1 : Nat) : Int)) + (T - n % T : Nat) := by
        have a : (n : Int) = (T : Int) * ((n / T : Nat) : Int) + ((n % T : Nat) : Int) := by exact_mod_cast h1.symm
        have b : ((T - n % T : Nat) : Int) = (T : Int) - ((n % T : Nat) : Int) := by omega
        have c : (T : Int) * (-((n / T + 1 : Nat) : Int)) = -((T : Int) * ((n / T : Nat) : Int)) - T := by
          rw [Int.mul_neg, Int.natCast_add, Int.mul_add]; simp; omega
        omega
      rw [e, Int.mul_add_ediv_left _ _ (by omega)]
      have : ((T - n % T : Nat) : Int) / (T : Int) = 0 := Int.ediv_eq_zero_of_lt (by omega) (by omega)
      omega

theorem two_cast (n : Nat) : (2 : Int) ^ n = ((2 ^ n : Nat) : Int) := by rw [Int.natCast_pow]; rfl
theorem fdiv_sv (s : Bool) (m p D : Nat) : sv s m p / 2 ^ D = if s then -((m * 2 ^ p / 2 ^ D + (s && m * 2 ^ p % 2 ^ D != 0).toNat : Nat) : Int) else ((m * 2 ^ p / 2 ^ D : Nat) : Int) := by
  have := fdiv_aux s (m * 2 ^ p) (2 ^ D) (Nat.two_pow_pos D)
  rw [two_cast]
  unfold sv
  exact this

/-- downwards -/
theorem floor_spec {b : Nat} (h : FinW b) (hb : (V b).natAbs ≤ 2 ^ 1126) : FinW (wholeW .down b) ∧ V (wholeW .down b) = V b / 2 ^ 1074 * 2 ^ 1074 := by
  obtain ⟨s, m, p, e1, -, -, f, v⟩ := whole_spec .down h hb
  refine ⟨f, ?_⟩
  rw [v, sv_int, e1, fdiv_sv]
  unfold wayN
  dsimp only
  cases s
  · simp only [Bool.false_eq_true, if_false, Bool.false_and, Bool.toNat_false, Nat.add_zero]
  · simp only [if_true]

theorem kq_nat (n d : Nat) (hd : 0 < d) : kq (2 ^ (d - 1)) (n : Int) = (rne n d : Int) := by
  obtain ⟨e, rfl⟩ : ∃ e, d = e + 1 := ⟨d - 1, by omega⟩
  rw [Nat.add_sub_cancel]
  unfold kq rne
  have t : (2 : Int) * 2 ^ e = ((2 ^ (e + 1) : Nat) : Int) := by rw [← two_cast, Int.pow_succ]; omega
  rw [t]
  have a : ((n : Int) % ((2 ^ (e + 1) : Nat) : Int)) = ((n % 2 ^ (e + 1) : Nat) : Int) := rfl
  have b : ((n : Int) / ((2 ^ (e + 1) : Nat) : Int)) = ((n / 2 ^ (e + 1) : Nat) : Int) := rfl
  rw [a, b]
  have c : (2 : Int) ^ e = ((2 ^ e : Nat) : Int) := two_cast e
  rw [c]
  have g := two_succ e
  generalize 2 ^ (e + 1) = T at *
  generalize 2 ^ e = U at *
  subst g
  split <;> split <;> omega

theorem kq_scale {H v : Int} (hH : 0 < H) : kq (4 * H) (4 * v) = kq H v := by
  have b := rq_bd hH v
  have e : v = 2 * H * kq H v + rq H v := by unfold rq; omega
  refine (kq_uniq (by omega) (k := kq H v) (r := 4 * rq H v) ?_ (by omega) (by omega) ?_).1
  · have : 2 * (4 * H) * kq H v = 4 * (2 * H * kq H v) := by
      rw [show 2 * (4 * H) = 4 * (2 * H) by omega, Int.mul_assoc]
    omega
  · intro h
    exact b.2.2 (by omega)

/-- to the nearest, ties to even -/
theorem even_spec {b : Nat} (h : FinW b) (hb : (V b).natAbs ≤ 2 ^ 1126) : FinW (wholeW .even b) ∧ V (wholeW .even b) = kq (2 ^ 1073) (V b) * 2 ^ 1074 := by
  obtain ⟨s, m, p, e1, -, -, f, v⟩ := whole_spec .even h hb
  refine ⟨f, ?_⟩
  have k := kq_nat (m * 2 ^ p) 1074 (by omega)
  have P : (0 : Int) < 2 ^ 1073 := Int.pow_pos (by omega)
  have n := (kq_neg P ((m * 2 ^ p : Nat) : Int)).1
  rw [show 1074 - 1 = 1073 from rfl] at k
  rw [v, sv_int, e1]
  unfold wayN
  dsimp only
  unfold sv
  cases s
  · simp only [Bool.false_eq_true, if_false]; rw [k]
  · simp only [if_true]; rw [n, k]

theorem div_pow_cancel (a n : Nat) : a * 2 ^ n / 2 ^ n = a := Nat.mul_div_cancel _ (Nat.two_pow_pos n)
theorem sv_k {s : Bool} {m p D : Nat} {K : Int} (h : sv s m p = K * 2 ^ D) : m * 2 ^ p = K.natAbs * 2 ^ D := by
  have := absk h
  rwa [sv_abs] at this
/-- a whole number as an integer -/
theorem int_of {b : Nat} {K : Int} (h : FinW b) (hv : V b = K * 2 ^ 1074) : (double.read b).toInt .zero = some K := by
  obtain ⟨s, m, p, e1, e2, e3, -, -⟩ := read_sv h
  unfold Datum.toInt
  rw [e1]
  unfold Datum.integral
  dsimp only
  rw [way_cut']
  unfold wayN
  dsimp only
  rw [e2] at hv
  rw [sv_k (D := 1074) hv, div_pow_cancel _ 1074]
  unfold signed
  simp only [Nat.shiftLeft_zero]
  have P : (0 : Int) < 2 ^ 1074 := Int.pow_pos (by omega)
  have sg := sv_sign s m p
  cases s
  · have g := sg.2 rfl
    rw [hv] at g
    have : 0 ≤ K := by
      by_cases q : 0 ≤ K
      · exact q
      · have := Int.mul_neg_of_neg_of_pos (show K < 0 by omega) P; omega
    simp only [Bool.false_eq_true, if_false]; congr 1; omega
  · have g := sg.1 rfl
    rw [hv] at g
    have : K ≤ 0 := by
      by_cases q : K ≤ 0
      · exact q
      · have := Int.mul_pos (show 0 < K by omega) P; omega
    simp only [if_true]; congr 1; omega

/-- an integer as a number -/
theorem of_int (K : Int) (hK : K.natAbs ≤ 2 ^ 53) : FinW (FloatKind.f64.nearest K) ∧ V (FloatKind.f64.nearest K) = K * 2 ^ 1074 := by
  have e : FloatKind.f64.nearest K = numW (decide (K < 0)) K.natAbs := rfl
  rw [e]
  have := num_small (decide (K < 0)) K.natAbs hK
  refine ⟨this.1, ?_⟩
  rw [this.2, sv_int]
  congr 1
  by_cases q : K < 0
  · simp [q]; omega
  · simp [q]; omega

end Go.Proofs.Ytnmadknpkhaolaa

namespace Go.Proofs.Ytnmadknpkhaolaa
open Go.ChangeShapes Go.WideShapes Go.ChangeAt Go.RowKit Ieee.Own

/-- has operation i come up? -/
def doneL (L : List (Option Value)) (i : Nat) : Prop := ∃ v, L[i]? = some (some v)
def waitsAt (ops : Array Oper) (i k : Nat) : Bool := ((ops[i]?).map fun o => waits o k).getD false
/-- does i wait for k, at last? -/
def needs (ops : Array Oper) : Nat → Nat → Nat → Bool
  | 0, _, _ => false
  | n + 1, i, k => (List.range ops.size).any fun m => waitsAt ops i m && (m == k || needs ops n m k)
def Closed (ops : Array Oper) (L : List (Option Value)) : Prop := ∀ i k, doneL L i → waitsAt ops i k = true → doneL L k
theorem Closed.needs {ops : Array Oper} {L : List (Option Value)} (C : Closed ops L) : ∀ (n i k : Nat), needs ops n i k = true → doneL L i → doneL L k
  | 0, _, _, h, _ => by simp [Go.Proofs.Ytnmadknpkhaolaa.needs] at h
  | n + 1, i, k, h, d => by
    unfold Go.Proofs.Ytnmadknpkhaolaa.needs at h
    rw [List.any_eq_true] at h
    obtain ⟨m, -, h⟩ := h
    simp only [Bool.and_eq_true, Bool.or_eq_true, beq_iff_eq] at h
    obtain ⟨h1, h2⟩ := h
    have dm := C i m d h1
    rcases h2 with rfl | h2
    · exact dm
    · exact C.needs n m k h2 dm
theorem done_set {L : List (Option Value)} {i : Nat} {v : Value} (hn : L[i]? = some none) (k : Nat) : doneL (L.set i (some v)) k ↔ k = i ∨ doneL L k := by
  unfold doneL
  have hl : i < L.length := (List.getElem?_eq_some_iff.1 hn).1
  by_cases e : k = i
  · subst e; rw [List.getElem?_set_self hl]; simp
  · rw [List.getElem?_set_ne (Ne.symm e)]; simp [e]
theorem Closed.set {ops : Array Oper} {L : List (Option Value)} (C : Closed ops L) {i : Nat} {o : Oper} {v : Value} (ho : ops[i]? = some o) (hn : L[i]? = some none)
    (hd : ∀ e ∈ o.after, Region.binds .any e = true → ∃ v, L[e.on]? = some (some v)) : Closed ops (L.set i (some v)) := by
  intro k m dk wk
  rw [done_set hn] at dk ⊢
  rcases dk with rfl | dk
  · right
    unfold waitsAt at wk
    rw [ho] at wk
    simp only [Option.map_some, Option.getD_some] at wk
    unfold waits at wk
    rw [List.any_eq_true] at wk
    obtain ⟨e, he, h2⟩ := wk
    simp only [Bool.and_eq_true, beq_iff_eq] at h2
    have := hd e (Array.mem_toList_iff.1 he) h2.2
    rw [h2.1] at this
    exact this
  · exact .inr (C k m dk wk)
theorem Closed.none (ops : Array Oper) (n : Nat) : Closed ops (nones n) := by
  intro i k h
  obtain ⟨v, hv⟩ := h
  exact absurd hv (nones_get _ _ _)

/-- what an operation comes to: a value, or a call's answer; but for what it makes, the world stands -/
inductive Came (o : Oper) (a : Act) (w : World) (v : Value) : Prop
  | value (w' : World) (r : (execOp a.eval o).run Try.prog w = .ok (.value v) w') (k : Below w.heap.size w w')
  | call (f : FuncId) (args : Array Value) (r : (execOp a.eval o).run Try.prog w = .ok (.enter f args) w) (k : Calls Try.prog f args w fun e w' => e = .returned v ∧ Below w.heap.size w w')

section
variable {ops : Array Oper} {Q : Exit → Act → World → Prop}
end
end Go.Proofs.Ytnmadknpkhaolaa
