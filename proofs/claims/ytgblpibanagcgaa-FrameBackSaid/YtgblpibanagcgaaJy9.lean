/- Proved here: what the texts Frk, Frm prove, one behind the other. -/
import Derived.Test.YtgblpibanagcgaaJy5
import Derived.Test.YtgblpibanagcgaaJy2
import Derived.Test.YtgblpibanagcgaaJx2
import Derived.Test.YtgblpibanagcgaaJy7

namespace Go.Proofs.Ytgblpibanagcgaa
open Ieee.Own Pol Fma

def qv (v : V3) : R3 := (Q v.1, Q v.2.1, Q v.2.2)
theorem apply_ok {m : M9} {v : V3} (h : (applyR m v).2 = 0) : fitV v = true ∧ (applyR m v).1 = outV m v ∧ fitV (outV m v) = true := by
  unfold applyR at h ⊢
  by_cases c : (fitM m && fitV v) = true
  · rw [if_pos c] at h ⊢
    obtain ⟨f, e⟩ := told_zero h
    simp only [Bool.and_eq_true] at c
    exact ⟨c.2, e, f⟩
  · rw [if_neg c] at h
    exact absurd (show (3 : Int) = 0 from h) (by decide)
theorem add_okR {a b : V3} (h : (addR a b).2 = 0) : fitV a = true ∧ fitV b = true ∧ (addR a b).1 = bV (aX a.1 b.1, aX a.2.1 b.2.1, aX a.2.2 b.2.2) ∧ fitV (addR a b).1 = true := by
  unfold addR at h ⊢
  by_cases c : both3 a b = true
  · rw [if_pos c] at h ⊢
    obtain ⟨f, e⟩ := told_zero h
    obtain ⟨fa, fb⟩ := both_of c
    exact ⟨fa, fb, e, by rw [e]; exact f⟩
  · rw [if_neg c] at h
    exact absurd (show (3 : Int) = 0 from h) (by decide)
theorem sub_okR {a b : V3} (h : (subR a b).2 = 0) : fitV a = true ∧ fitV b = true ∧ (subR a b).1 = bV (lX a.1 b.1, lX a.2.1 b.2.1, lX a.2.2 b.2.2) ∧ fitV (subR a b).1 = true := by
  unfold subR at h ⊢
  by_cases c : both3 a b = true
  · rw [if_pos c] at h ⊢
    obtain ⟨f, e⟩ := told_zero h
    obtain ⟨fa, fb⟩ := both_of c
    exact ⟨fa, fb, e, by rw [e]; exact f⟩
  · rw [if_neg c] at h
    exact absurd (show (3 : Int) = 0 from h) (by decide)
theorem comm_near (u m s : Rat) : s + (u * m + 0) ≤ u * m + s := by grind
/-- a sum, brought to a fit one -/
theorem add_near {x y : Nat} (hx : Wd x 822 1134) (hy : Wd y 822 1134) : mag (Q (bW (aX x y)) - (Q x + Q y)) ≤ uR * (mag (Q x) + mag (Q y)) + sm := by
  obtain ⟨-, w, r⟩ := Wd.add hx hy (by omega)
  have a := rd_of r _ (mag_add (x := Q x) (y := Q y) Rat.le_refl Rat.le_refl)
  have b := mag_add (bW_near w.fin) a
  have e : Q (bW (aX x y)) - Q (aX x y) + (Q (aX x y) - (Q x + Q y)) = Q (bW (aX x y)) - (Q x + Q y) := by grind
  rw [e] at b
  exact Rat.le_trans b (comm_near _ _ _)
theorem sub_near {x y : Nat} (hx : Wd x 822 1134) (hy : Wd y 822 1134) : mag (Q (bW (lX x y)) - (Q x - Q y)) ≤ uR * (mag (Q x) + mag (Q y)) + sm := by
  obtain ⟨o, f, e, -⟩ := sub_ok hx.fin hy.fin hx.abs hy.abs (k := 1135) rfl (by omega)
  have r := rd_of (sub_rel e)
  have a := r _ (mag_sub (x := Q x) (y := Q y) Rat.le_refl Rat.le_refl)
  have b := mag_add (bW_near f) a
  have e : Q (bW (lX x y)) - Q (lX x y) + (Q (lX x y) - (Q x - Q y)) = Q (bW (lX x y)) - (Q x - Q y) := by grind
  rw [e] at b
  exact Rat.le_trans b (comm_near _ _ _)
/-- how far words lie off a vector, number by number -/
structure Off3 (w : V3) (p : R3) (e : Rat) : Prop where
  x : mag (Q w.1 - p.1) ≤ e
  y : mag (Q w.2.1 - p.2.1) ≤ e
  z : mag (Q w.2.2 - p.2.2) ≤ e
theorem Off3.len {w : V3} {p : R3} {e : Rat} (h : Off3 w p e) : Len (subQ (qv w) p) (3 * e) := by
  have := len_of (p := subQ (qv w) p) h.x h.y h.z
  have e3 : e + e + e = 3 * e := by grind
  rw [e3] at this
  exact this
theorem fin_gen {u s p q r A B G X : Rat} (u0 : 0 ≤ u) (p0 : 0 ≤ p) (q0 : 0 ≤ q) (r0 : 0 ≤ r) (hA : A ≤ 2) (hB : B ≤ 2) (hG : G ≤ 2) (h : X ≤ 4 * (u * (A * p + B * q + G * r)) + s) : X ≤ 8 * (u * (p + q + r)) + s := by
  have a := Rat.mul_nonneg (show 0 ≤ 2 - A by grind) p0
  have b := Rat.mul_nonneg (show 0 ≤ 2 - B by grind) q0
  have c := Rat.mul_nonneg (show 0 ≤ 2 - G by grind) r0
  have d := Rat.mul_le_mul_of_nonneg_left (show A * p + B * q + G * r ≤ 2 * (p + q + r) by grind) u0
  grind
set_option maxHeartbeats 1000000 in
theorem turn_near {x sw cw : Nat} {a : Int} (h0 : 0 ≤ a) (h1 : a ≤ 2) (A : Ang x) (T : Trig x sw cw) {v : V3} (hv : W3 v) (fv : fitV v = true) :
    Off3 (outV (tM a (bW sw) (bW cw) (negN (bW sw))) v) (rotQ a (Q (bW sw)) (Q (bW cw)) (qv v)) (8 * (uR * sz3 v) + sm) := by
  obtain ⟨mw, mf, hn⟩ := tM_w A T a
  have C := circ7 A T
  have E := fitV_wd hv fv
  have D := fitM_wd mw mf
  have ns2 : mag (-Q (bW sw)) ≤ 2 := by rw [mag_neg]; exact C.s2
  have x0 := (mag_le (Q v.1)).2.2
  have y0 := (mag_le (Q v.2.1)).2.2
  have z0 := (mag_le (Q v.2.2)).2.2
  have hS : sz3 v = mag (Q v.1) + mag (Q v.2.1) + mag (Q v.2.2) := rfl
  have u0 := uR0
  rw [hS]
  have : a = 0 ∨ a = 1 ∨ a = 2 := by omega
  rcases this with rfl | rfl | rfl
  · rw [tM0] at *
    have n1 := row_near (dot_wd D.d1 E) one_Q7 Q0 Q0 rfl rfl rfl mag1 mag0 mag0
    have n2 := row_near (dot_wd D.d2 E) Q0 rfl hn rfl rfl rfl mag0 C.c2 ns2
    have n3 := row_near (dot_wd D.d3 E) Q0 rfl rfl rfl rfl rfl mag0 C.s2 C.c2
    refine ⟨?_, ?_, ?_⟩
    · have := conv7 (b := Q (outV ((oneW, 0, 0), (0, bW cw, negN (bW sw)), (0, bW sw, bW cw)) v).1 - Q v.1) n1 (by show _ = _; unfold outV bV; dsimp only; grind) rfl
      show mag (_ - Q v.1) ≤ _
      exact fin_gen u0 x0 y0 z0 (by decide +kernel) (by decide +kernel) (by decide +kernel) this
    · have := conv7 (b := Q (outV ((oneW, 0, 0), (0, bW cw, negN (bW sw)), (0, bW sw, bW cw)) v).2.1 - (Q (bW cw) * Q v.2.1 - Q (bW sw) * Q v.2.2)) n2 (by show _ = _; unfold outV bV; dsimp only; grind) rfl
      show mag (_ - (Q (bW cw) * Q v.2.1 - Q (bW sw) * Q v.2.2)) ≤ _
      exact fin_gen u0 x0 y0 z0 (by decide +kernel) (by decide +kernel) (by decide +kernel) this
    · have := conv7 (b := Q (outV ((oneW, 0, 0), (0, bW cw, negN (bW sw)), (0, bW sw, bW cw)) v).2.2 - (Q (bW sw) * Q v.2.1 + Q (bW cw) * Q v.2.2)) n3 (by show _ = _; unfold outV bV; dsimp only; grind) rfl
      show mag (_ - (Q (bW sw) * Q v.2.1 + Q (bW cw) * Q v.2.2)) ≤ _
      exact fin_gen u0 x0 y0 z0 (by decide +kernel) (by decide +kernel) (by decide +kernel) this
  · rw [tM1] at *
    have n1 := row_near (dot_wd D.d1 E) rfl Q0 rfl rfl rfl rfl C.c2 mag0 C.s2
    have n2 := row_near (dot_wd D.d2 E) Q0 one_Q7 Q0 rfl rfl rfl mag0 mag1 mag0
    have n3 := row_near (dot_wd D.d3 E) hn Q0 rfl rfl rfl rfl ns2 mag0 C.c2
    refine ⟨?_, ?_, ?_⟩
    · have := conv7 (b := Q (outV ((bW cw, 0, bW sw), (0, oneW, 0), (negN (bW sw), 0, bW cw)) v).1 - (Q (bW sw) * Q v.2.2 + Q (bW cw) * Q v.1)) n1 (by show _ = _; unfold outV bV; dsimp only; grind) rfl
      show mag (_ - (Q (bW sw) * Q v.2.2 + Q (bW cw) * Q v.1)) ≤ _
      exact fin_gen u0 x0 y0 z0 (by decide +kernel) (by decide +kernel) (by decide +kernel) this
    · have := conv7 (b := Q (outV ((bW cw, 0, bW sw), (0, oneW, 0), (negN (bW sw), 0, bW cw)) v).2.1 - Q v.2.1) n2 (by show _ = _; unfold outV bV; dsimp only; grind) rfl
      show mag (_ - Q v.2.1) ≤ _
      exact fin_gen u0 x0 y0 z0 (by decide +kernel) (by decide +kernel) (by decide +kernel) this
    · have := conv7 (b := Q (outV ((bW cw, 0, bW sw), (0, oneW, 0), (negN (bW sw), 0, bW cw)) v).2.2 - (Q (bW cw) * Q v.2.2 - Q (bW sw) * Q v.1)) n3 (by show _ = _; unfold outV bV; dsimp only; grind) rfl
      show mag (_ - (Q (bW cw) * Q v.2.2 - Q (bW sw) * Q v.1)) ≤ _
      exact fin_gen u0 x0 y0 z0 (by decide +kernel) (by decide +kernel) (by decide +kernel) this
  · rw [tM2] at *
    have n1 := row_near (dot_wd D.d1 E) rfl hn Q0 rfl rfl rfl C.c2 ns2 mag0
    have n2 := row_near (dot_wd D.d2 E) rfl rfl Q0 rfl rfl rfl C.s2 C.c2 mag0
    have n3 := row_near (dot_wd D.d3 E) Q0 Q0 one_Q7 rfl rfl rfl mag0 mag0 mag1
    refine ⟨?_, ?_, ?_⟩
    · have := conv7 (b := Q (outV ((bW cw, negN (bW sw), 0), (bW sw, bW cw, 0), (0, 0, oneW)) v).1 - (Q (bW cw) * Q v.1 - Q (bW sw) * Q v.2.1)) n1 (by show _ = _; unfold outV bV; dsimp only; grind) rfl
      show mag (_ - (Q (bW cw) * Q v.1 - Q (bW sw) * Q v.2.1)) ≤ _
      exact fin_gen u0 x0 y0 z0 (by decide +kernel) (by decide +kernel) (by decide +kernel) this
    · have := conv7 (b := Q (outV ((bW cw, negN (bW sw), 0), (bW sw, bW cw, 0), (0, 0, oneW)) v).2.1 - (Q (bW sw) * Q v.1 + Q (bW cw) * Q v.2.1)) n2 (by show _ = _; unfold outV bV; dsimp only; grind) rfl
      show mag (_ - (Q (bW sw) * Q v.1 + Q (bW cw) * Q v.2.1)) ≤ _
      exact fin_gen u0 x0 y0 z0 (by decide +kernel) (by decide +kernel) (by decide +kernel) this
    · have := conv7 (b := Q (outV ((bW cw, negN (bW sw), 0), (bW sw, bW cw, 0), (0, 0, oneW)) v).2.2 - Q v.2.2) n3 (by show _ = _; unfold outV bV; dsimp only; grind) rfl
      show mag (_ - Q v.2.2) ≤ _
      exact fin_gen u0 x0 y0 z0 (by decide +kernel) (by decide +kernel) (by decide +kernel) this
set_option maxHeartbeats 1000000 in
theorem back_near {x sw cw : Nat} {a : Int} (h0 : 0 ≤ a) (h1 : a ≤ 2) (A : Ang x) (T : Trig x sw cw) {v : V3} (hv : W3 v) (fv : fitV v = true) :
    Off3 (outV (bM (colM (tM a (bW sw) (bW cw) (negN (bW sw))))) v) (rotQ a (-Q (bW sw)) (Q (bW cw)) (qv v)) (8 * (uR * sz3 v) + sm) := by
  obtain ⟨mw, mf, hn⟩ := tM_w A T a
  have C := circ7 A T
  have E := fitV_wd hv fv
  have g := fitM_of (col_fit mf)
  have cw' := col_w mw
  have D1 := D3.bb cw'.w1 g.1
  have D2 := D3.bb cw'.w2 g.2.1
  have D3' := D3.bb cw'.w3 g.2.2
  have ns2 : mag (-Q (bW sw)) ≤ 2 := by rw [mag_neg]; exact C.s2
  have x0 := (mag_le (Q v.1)).2.2
  have y0 := (mag_le (Q v.2.1)).2.2
  have z0 := (mag_le (Q v.2.2)).2.2
  have hS : sz3 v = mag (Q v.1) + mag (Q v.2.1) + mag (Q v.2.2) := rfl
  have u0 := uR0
  rw [hS]
  have : a = 0 ∨ a = 1 ∨ a = 2 := by omega
  rcases this with rfl | rfl | rfl
  · rw [tM0] at *
    have m1 : mag (Q (outV (bM (colM ((oneW, 0, 0), (0, bW cw, negN (bW sw)), (0, bW sw, bW cw)))) v).1 - (1 * Q v.1 + 0 * Q v.2.1 + 0 * Q v.2.2)) ≤ 4 * (uR * (1 * mag (Q v.1) + 0 * mag (Q v.2.1) + 0 * mag (Q v.2.2))) + sm := row_near (dot_wd D1.1 E) ((Q_congr D1.2.1).trans one_Q7) ((Q_congr D1.2.2.1).trans Q0) ((Q_congr D1.2.2.2).trans Q0) rfl rfl rfl mag1 mag0 mag0
    have t1 := conv7 (b := Q (outV (bM (colM ((oneW, 0, 0), (0, bW cw, negN (bW sw)), (0, bW sw, bW cw)))) v).1 - (Q v.1)) m1 (by clear m1; grind) rfl
    have m2 : mag (Q (outV (bM (colM ((oneW, 0, 0), (0, bW cw, negN (bW sw)), (0, bW sw, bW cw)))) v).2.1 - (0 * Q v.1 + Q (bW cw) * Q v.2.1 + Q (bW sw) * Q v.2.2)) ≤ 4 * (uR * (0 * mag (Q v.1) + 2 * mag (Q v.2.1) + 2 * mag (Q v.2.2))) + sm := row_near (dot_wd D2.1 E) ((Q_congr D2.2.1).trans Q0) ((Q_congr D2.2.2.1).trans rfl) ((Q_congr D2.2.2.2).trans rfl) rfl rfl rfl mag0 C.c2 C.s2
    have t2 := conv7 (b := Q (outV (bM (colM ((oneW, 0, 0), (0, bW cw, negN (bW sw)), (0, bW sw, bW cw)))) v).2.1 - (Q (bW cw) * Q v.2.1 - -Q (bW sw) * Q v.2.2)) m2 (by clear m2; grind) rfl
    have m3 : mag (Q (outV (bM (colM ((oneW, 0, 0), (0, bW cw, negN (bW sw)), (0, bW sw, bW cw)))) v).2.2 - (0 * Q v.1 + -Q (bW sw) * Q v.2.1 + Q (bW cw) * Q v.2.2)) ≤ 4 * (uR * (0 * mag (Q v.1) + 2 * mag (Q v.2.1) + 2 * mag (Q v.2.2))) + sm := row_near (dot_wd D3'.1 E) ((Q_congr D3'.2.1).trans Q0) ((Q_congr D3'.2.2.1).trans hn) ((Q_congr D3'.2.2.2).trans rfl) rfl rfl rfl mag0 ns2 C.c2
    have t3 := conv7 (b := Q (outV (bM (colM ((oneW, 0, 0), (0, bW cw, negN (bW sw)), (0, bW sw, bW cw)))) v).2.2 - (-Q (bW sw) * Q v.2.1 + Q (bW cw) * Q v.2.2)) m3 (by clear m3; grind) rfl
    exact ⟨fin_gen u0 x0 y0 z0 (by decide +kernel) (by decide +kernel) (by decide +kernel) t1, fin_gen u0 x0 y0 z0 (by decide +kernel) (by decide +kernel) (by decide +kernel) t2, fin_gen u0 x0 y0 z0 (by decide +kernel) (by decide +kernel) (by decide +kernel) t3⟩
  · rw [tM1] at *
    have m1 : mag (Q (outV (bM (colM ((bW cw, 0, bW sw), (0, oneW, 0), (negN (bW sw), 0, bW cw)))) v).1 - (Q (bW cw) * Q v.1 + 0 * Q v.2.1 + -Q (bW sw) * Q v.2.2)) ≤ 4 * (uR * (2 * mag (Q v.1) + 0 * mag (Q v.2.1) + 2 * mag (Q v.2.2))) + sm := row_near (dot_wd D1.1 E) ((Q_congr D1.2.1).trans rfl) ((Q_congr D1.2.2.1).trans Q0) ((Q_congr D1.2.2.2).trans hn) rfl rfl rfl C.c2 mag0 ns2
    have t1 := conv7 (b := Q (outV (bM (colM ((bW cw, 0, bW sw), (0, oneW, 0), (negN (bW sw), 0, bW cw)))) v).1 - (-Q (bW sw) * Q v.2.2 + Q (bW cw) * Q v.1)) m1 (by clear m1; grind) rfl
    have m2 : mag (Q (outV (bM (colM ((bW cw, 0, bW sw), (0, oneW, 0), (negN (bW sw), 0, bW cw)))) v).2.1 - (0 * Q v.1 + 1 * Q v.2.1 + 0 * Q v.2.2)) ≤ 4 * (uR * (0 * mag (Q v.1) + 1 * mag (Q v.2.1) + 0 * mag (Q v.2.2))) + sm := row_near (dot_wd D2.1 E) ((Q_congr D2.2.1).trans Q0) ((Q_congr D2.2.2.1).trans one_Q7) ((Q_congr D2.2.2.2).trans Q0) rfl rfl rfl mag0 mag1 mag0
    have t2 := conv7 (b := Q (outV (bM (colM ((bW cw, 0, bW sw), (0, oneW, 0), (negN (bW sw), 0, bW cw)))) v).2.1 - (Q v.2.1)) m2 (by clear m2; grind) rfl
    have m3 : mag (Q (outV (bM (colM ((bW cw, 0, bW sw), (0, oneW, 0), (negN (bW sw), 0, bW cw)))) v).2.2 - (Q (bW sw) * Q v.1 + 0 * Q v.2.1 + Q (bW cw) * Q v.2.2)) ≤ 4 * (uR * (2 * mag (Q v.1) + 0 * mag (Q v.2.1) + 2 * mag (Q v.2.2))) + sm := row_near (dot_wd D3'.1 E) ((Q_congr D3'.2.1).trans rfl) ((Q_congr D3'.2.2.1).trans Q0) ((Q_congr D3'.2.2.2).trans rfl) rfl rfl rfl C.s2 mag0 C.c2
    have t3 := conv7 (b := Q (outV (bM (colM ((bW cw, 0, bW sw), (0, oneW, 0), (negN (bW sw), 0, bW cw)))) v).2.2 - (Q (bW cw) * Q v.2.2 - -Q (bW sw) * Q v.1)) m3 (by clear m3; grind) rfl
    exact ⟨fin_gen u0 x0 y0 z0 (by decide +kernel) (by decide +kernel) (by decide +kernel) t1, fin_gen u0 x0 y0 z0 (by decide +kernel) (by decide +kernel) (by decide +kernel) t2, fin_gen u0 x0 y0 z0 (by decide +kernel) (by decide +kernel) (by decide +kernel) t3⟩
  · rw [tM2] at *
    have m1 : mag (Q (outV (bM (colM ((bW cw, negN (bW sw), 0), (bW sw, bW cw, 0), (0, 0, oneW)))) v).1 - (Q (bW cw) * Q v.1 + Q (bW sw) * Q v.2.1 + 0 * Q v.2.2)) ≤ 4 * (uR * (2 * mag (Q v.1) + 2 * mag (Q v.2.1) + 0 * mag (Q v.2.2))) + sm := row_near (dot_wd D1.1 E) ((Q_congr D1.2.1).trans rfl) ((Q_congr D1.2.2.1).trans rfl) ((Q_congr D1.2.2.2).trans Q0) rfl rfl rfl C.c2 C.s2 mag0
    have t1 := conv7 (b := Q (outV (bM (colM ((bW cw, negN (bW sw), 0), (bW sw, bW cw, 0), (0, 0, oneW)))) v).1 - (Q (bW cw) * Q v.1 - -Q (bW sw) * Q v.2.1)) m1 (by clear m1; grind) rfl
    have m2 : mag (Q (outV (bM (colM ((bW cw, negN (bW sw), 0), (bW sw, bW cw, 0), (0, 0, oneW)))) v).2.1 - (-Q (bW sw) * Q v.1 + Q (bW cw) * Q v.2.1 + 0 * Q v.2.2)) ≤ 4 * (uR * (2 * mag (Q v.1) + 2 * mag (Q v.2.1) + 0 * mag (Q v.2.2))) + sm := row_near (dot_wd D2.1 E) ((Q_congr D2.2.1).trans hn) ((Q_congr D2.2.2.1).trans rfl) ((Q_congr D2.2.2.2).trans Q0) rfl rfl rfl ns2 C.c2 mag0
    have t2 := conv7 (b := Q (outV (bM (colM ((bW cw, negN (bW sw), 0), (bW sw, bW cw, 0), (0, 0, oneW)))) v).2.1 - (-Q (bW sw) * Q v.1 + Q (bW cw) * Q v.2.1)) m2 (by clear m2; grind) rfl
    have m3 : mag (Q (outV (bM (colM ((bW cw, negN (bW sw), 0), (bW sw, bW cw, 0), (0, 0, oneW)))) v).2.2 - (0 * Q v.1 + 0 * Q v.2.1 + 1 * Q v.2.2)) ≤ 4 * (uR * (0 * mag (Q v.1) + 0 * mag (Q v.2.1) + 1 * mag (Q v.2.2))) + sm := row_near (dot_wd D3'.1 E) ((Q_congr D3'.2.1).trans Q0) ((Q_congr D3'.2.2.1).trans Q0) ((Q_congr D3'.2.2.2).trans one_Q7) rfl rfl rfl mag0 mag0 mag1
    have t3 := conv7 (b := Q (outV (bM (colM ((bW cw, negN (bW sw), 0), (bW sw, bW cw, 0), (0, 0, oneW)))) v).2.2 - (Q v.2.2)) m3 (by clear m3; grind) rfl
    exact ⟨fin_gen u0 x0 y0 z0 (by decide +kernel) (by decide +kernel) (by decide +kernel) t1, fin_gen u0 x0 y0 z0 (by decide +kernel) (by decide +kernel) (by decide +kernel) t2, fin_gen u0 x0 y0 z0 (by decide +kernel) (by decide +kernel) (by decide +kernel) t3⟩
/-! ### up and down, in lengths -/
def o1n (f : Fr) : Rat := mag (Q f.o1) + mag (Q f.o2) + mag (Q f.o3)
noncomputable def sQ (f : Fr) (d : Nat) : Rat := Q (bW (tS (angW f d)))
noncomputable def cQ (f : Fr) (d : Nat) : Rat := Q (bW (tC (angW f d)))
theorem poly_up {u s A O : Rat} (u0 : 0 ≤ u) (u1 : 1000 * u ≤ 1) (s0 : 0 ≤ s) (A0 : 0 ≤ A) : u * (O + (24 * (u * A) + s + 2 * A)) + s + (24 * (u * A) + s) ≤ 30 * (u * A) + u * O + 3 * s := by
  have b := Rat.mul_nonneg (Rat.mul_nonneg u0 A0) (show 0 ≤ 1 - 1000 * u by grind)
  have c := Rat.mul_nonneg s0 (show 0 ≤ 1 - 1000 * u by grind)
  have d := Rat.mul_nonneg u0 A0
  grind
theorem off_up {u s A O x1 y1 o r e : Rat} (u0 : 0 ≤ u) (u1 : 1000 * u ≤ 1) (s0 : 0 ≤ s) (A0 : 0 ≤ A) (ho : mag o ≤ O) (hr : mag r ≤ 2 * A) (he : e = 24 * (u * A) + s) (h1 : mag (y1 - r) ≤ e) (h2 : mag (x1 - (o + y1)) ≤ u * (mag o + mag y1) + s) :
    mag (x1 - (o + r)) ≤ 30 * (u * A) + u * O + 3 * s := by
  subst he
  have my := mag_add h1 hr
  have e1 : y1 - r + r = y1 := by grind
  rw [e1] at my
  have t := mag_add h2 h1
  have e2 : x1 - (o + y1) + (y1 - r) = x1 - (o + r) := by grind
  rw [e2] at t
  have a := Rat.mul_le_mul_of_nonneg_left (show mag o + mag y1 ≤ O + (24 * (u * A) + s + 2 * A) by clear h2 t h1 e2 e1; grind) u0
  refine Rat.le_trans t (Rat.le_trans ?_ (poly_up u0 u1 s0 A0))
  exact Rat.add_le_add_right.2 (Rat.add_le_add_right.2 a)
theorem rot_mags (a : Int) {s c : Rat} {p : R3} {A : Rat} (h : Len p A) (hc : mag (c * c + s * s - 1) ≤ 33 * uR) : mag (rotQ a s c p).1 ≤ 2 * A ∧ mag (rotQ a s c p).2.1 ≤ 2 * A ∧ mag (rotQ a s c p).2.2 ≤ 2 * A := by
  have := (h.rot a hc).le (B := 2 * A) (by
    have k : 33 * uR ≤ 1 := by decide +kernel
    have := Rat.mul_le_mul_of_nonneg_left k h.1
    generalize uR = u at *
    grind)
  exact this.mags
theorem sz_len {v : V3} {A : Rat} (h : Len (qv v) A) : sz3 v ≤ 3 * A := by
  obtain ⟨a, b, c⟩ := h.mags
  have a : mag (Q v.1) ≤ A := a
  have b : mag (Q v.2.1) ≤ A := b
  have c : mag (Q v.2.2) ≤ A := c
  unfold sz3; grind
/-- one frame's angle, told -/
structure FrA (f : Fr) (d : Nat) : Prop where
  w : FrW f
  a0 : 0 ≤ f.ax
  a1 : f.ax ≤ 2
  a : AngA f d
theorem FrA.circ {f : Fr} {d : Nat} (h : FrA f d) : mag (cQ f d * cQ f d + sQ f d * sQ f d - 1) ≤ 33 * uR := by
  obtain ⟨x, e⟩ := ang_w h.a
  exact (circ7 (errA_ang x e) (trig_of x e)).on
theorem up_off {f : Fr} {d : Nat} {v w : V3} (h : FrA f d) (hv : W3 v) (e : upR f d v = (w, 0)) {A : Rat} (hA : Len (qv v) A) :
    fitV v = true ∧ fitV w = true ∧ W3 w ∧ Off3 w (addQ (qv f.og) (rotQ f.ax (sQ f d) (cQ f d) (qv v))) (30 * (uR * A) + uR * o1n f + 3 * sm) := by
  obtain ⟨x, er⟩ := ang_w h.a
  have AN := errA_ang x er
  have T := trig_of x er
  have AU := ans_up h.w h.a hv (f := f) (d := d)
  rw [e] at AU
  unfold upR at e
  by_cases c : (applyR (turnW f.ax (angW f d)) v).2 = 0
  · rw [if_pos c] at e
    obtain ⟨fv, ey, fy⟩ := apply_ok c
    rw [ey] at e
    have e2 := congrArg Prod.snd e
    obtain ⟨fo, -, ew, fw⟩ := add_okR e2
    rw [e] at ew fw
    have TN := turn_near h.a0 h.a1 AN T hv fv
    have Y : outV (turnW f.ax (angW f d)) v = outV (tM f.ax (bW (tS (angW f d))) (bW (tC (angW f d))) (negN (bW (tS (angW f d))))) v := rfl
    rw [Y] at ew fy
    have WY : W3 (outV (tM f.ax (bW (tS (angW f d))) (bW (tC (angW f d))) (negN (bW (tS (angW f d))))) v) := by
      have := (ans_apply (turnW_ok f.ax x er).1 hv).w
      rw [ey] at this
      exact this
    have DY := fitV_wd WY fy
    have DO := fitV_wd (og_w h.w) fo
    generalize outV (tM f.ax (bW (tS (angW f d))) (bW (tC (angW f d))) (negN (bW (tS (angW f d))))) v = y at *
    have RM := rot_mags f.ax hA h.circ
    have TN : Off3 y (rotQ f.ax (sQ f d) (cQ f d) (qv v)) (8 * (uR * sz3 v) + sm) := TN
    have sz := sz_len hA
    have u0 := uR0
    have u1 : 1000 * uR ≤ 1 := by decide +kernel
    have s0 := sm0
    have he : 8 * (uR * sz3 v) + sm ≤ 24 * (uR * A) + sm := by
      have := Rat.mul_le_mul_of_nonneg_left sz u0
      generalize uR = u at *
      generalize sm = s at *
      grind
    have n1 := add_near DO.w1 DY.w1
    have n2 := add_near DO.w2 DY.w2
    have n3 := add_near DO.w3 DY.w3
    have w1 : bW (aX f.og.1 y.1) = w.1 := (congrArg Prod.fst ew).symm
    have w2 : bW (aX f.og.2.1 y.2.1) = w.2.1 := (congrArg (fun p => p.2.1) ew).symm
    have w3 : bW (aX f.og.2.2 y.2.2) = w.2.2 := (congrArg (fun p => p.2.2) ew).symm
    rw [w1] at n1
    rw [w2] at n2
    rw [w3] at n3
    have m1 := (mag_le (Q f.o1)).2.2
    have m2 := (mag_le (Q f.o2)).2.2
    have m3 := (mag_le (Q f.o3)).2.2
    have b1 : mag (Q f.og.1) ≤ o1n f := by show mag (Q f.o1) ≤ _; unfold o1n; grind
    have b2 : mag (Q f.og.2.1) ≤ o1n f := by show mag (Q f.o2) ≤ _; unfold o1n; grind
    have b3 : mag (Q f.og.2.2) ≤ o1n f := by show mag (Q f.o3) ≤ _; unfold o1n; grind
    exact ⟨fv, fw, AU.w, off_up u0 u1 s0 hA.1 b1 RM.1 rfl (Rat.le_trans TN.x he) n1, off_up u0 u1 s0 hA.1 b2 RM.2.1 rfl (Rat.le_trans TN.y he) n2, off_up u0 u1 s0 hA.1 b3 RM.2.2 rfl (Rat.le_trans TN.z he) n3⟩
  · rw [if_neg c] at e
    exact absurd (congrArg Prod.snd e) c
end Go.Proofs.Ytgblpibanagcgaa

namespace Go.Proofs.Ytgblpibanagcgaa
open Ieee.Own Pol Fma

theorem poly_sub {u s B : Rat} (u0 : 0 ≤ u) (u1 : 1000 * u ≤ 1) (s0 : 0 ≤ s) (B0 : 0 ≤ B) : 8 * (u * (3 * (B + (u * B + s)))) + s ≤ 25 * (u * B) + 2 * s := by
  have b := Rat.mul_nonneg (Rat.mul_nonneg u0 B0) (show 0 ≤ 1 - 1000 * u by grind)
  have c := Rat.mul_nonneg s0 (show 0 ≤ 1 - 1000 * u by grind)
  have d := Rat.mul_nonneg u0 B0
  grind
theorem len_sub_of {p q : R3} {A B : Rat} (h : Len (subQ p q) A) (k : Len q B) : Len p (A + B) := by
  have := h.add k
  have e : addQ (subQ p q) q = p := by unfold addQ subQ; dsimp only; ext <;> grind
  rwa [e] at this
theorem rot_sub (a : Int) (s c : Rat) (p q : R3) : subQ (rotQ a s c p) (rotQ a s c q) = rotQ a s c (subQ p q) := by
  unfold rotQ subQ
  split
  · dsimp only; ext <;> grind
  · split
    · dsimp only; ext <;> grind
    · dsimp only; ext <;> grind
theorem circ_neg {s c d : Rat} (h : mag (c * c + s * s - 1) ≤ d) : mag (c * c + -s * -s - 1) ≤ d := by
  have e : c * c + -s * -s - 1 = c * c + s * s - 1 := by grind
  rw [e]; exact h
theorem down_off {f : Fr} {d : Nat} {u z : V3} (h : FrA f d) (hu : W3 u) (e : downR f d u = (z, 0)) {A : Rat} (hA : Len (qv u) A) :
    W3 z ∧ fitV z = true ∧ Len (subQ (qv z) (rotQ f.ax (-sQ f d) (cQ f d) (subQ (qv u) (qv f.og)))) (81 * (uR * (A + o1n f)) + 12 * sm) := by
  obtain ⟨x, er⟩ := ang_w h.a
  have AN := errA_ang x er
  have T := trig_of x er
  have TW := turnW_ok f.ax x er
  have FL := flip_ok TW.1 TW.2
  have AU := ans_down h.w h.a hu (f := f) (d := d)
  rw [e] at AU
  unfold downR at e
  by_cases c : (subR u f.og).2 = 0
  · rw [if_pos c] at e
    obtain ⟨fu, fo, et, ft⟩ := sub_okR c
    have WT := (ans_sub hu (og_w h.w)).w
    generalize (subR u f.og).1 = t at *
    have e2 : (applyR (bM (colM (turnW f.ax (angW f d)))) t).2 = 0 := by rw [e]
    obtain ⟨-, ez, fz⟩ := apply_ok e2
    rw [e] at ez
    have BN := back_near h.a0 h.a1 AN T WT ft
    have Z : z = outV (bM (colM (tM f.ax (bW (tS (angW f d))) (bW (tC (angW f d))) (negN (bW (tS (angW f d))))))) t := ez
    rw [← Z] at BN
    have BN : Off3 z (rotQ f.ax (-sQ f d) (cQ f d) (qv t)) (8 * (uR * sz3 t) + sm) := BN
    have DU := fitV_wd hu fu
    have DO := fitV_wd (og_w h.w) fo
    have n1 := sub_near DU.w1 DO.w1
    have n2 := sub_near DU.w2 DO.w2
    have n3 := sub_near DU.w3 DO.w3
    have w1 : bW (lX u.1 f.og.1) = t.1 := (congrArg Prod.fst et).symm
    have w2 : bW (lX u.2.1 f.og.2.1) = t.2.1 := (congrArg (fun p => p.2.1) et).symm
    have w3 : bW (lX u.2.2 f.og.2.2) = t.2.2 := (congrArg (fun p => p.2.2) et).symm
    rw [w1] at n1
    rw [w2] at n2
    rw [w3] at n3
    have m1 := (mag_le (Q f.o1)).2.2
    have m2 := (mag_le (Q f.o2)).2.2
    have m3 := (mag_le (Q f.o3)).2.2
    have b1 : mag (Q f.og.1) ≤ o1n f := by show mag (Q f.o1) ≤ _; unfold o1n; grind
    have b2 : mag (Q f.og.2.1) ≤ o1n f := by show mag (Q f.o2) ≤ _; unfold o1n; grind
    have b3 : mag (Q f.og.2.2) ≤ o1n f := by show mag (Q f.o3) ≤ _; unfold o1n; grind
    obtain ⟨a1, a2, a3⟩ := hA.mags
    have a1 : mag (Q u.1) ≤ A := a1
    have a2 : mag (Q u.2.1) ≤ A := a2
    have a3 : mag (Q u.2.2) ≤ A := a3
    have u0 := uR0
    have u1 : 1000 * uR ≤ 1 := by decide +kernel
    have s0 := sm0
    have O0 : 0 ≤ o1n f := Rat.le_trans (mag_le _).2.2 b1
    have B0 : 0 ≤ A + o1n f := Rat.add_nonneg hA.1 O0
    generalize hB : A + o1n f = B at *
    have key : ∀ {a o t : Rat}, mag a ≤ A → mag o ≤ o1n f → mag (t - (a - o)) ≤ uR * (mag a + mag o) + sm → mag (t - (a - o)) ≤ uR * B + sm ∧ mag t ≤ B + (uR * B + sm) := fun {a o t} ha ho hn => by
      have k1 := Rat.mul_le_mul_of_nonneg_left (show mag a + mag o ≤ B by rw [← hB]; exact Rat.le_trans (Rat.add_le_add_right.2 ha) (Rat.add_le_add_left.2 ho)) u0
      have k2 : mag (t - (a - o)) ≤ uR * B + sm := Rat.le_trans hn (Rat.add_le_add_right.2 k1)
      have k3 := mag_add (mag_sub ha ho) k2
      have e3 : a - o + (t - (a - o)) = t := by grind
      rw [e3, hB] at k3
      exact ⟨k2, k3⟩
    obtain ⟨p1, q1⟩ := key a1 b1 n1
    obtain ⟨p2, q2⟩ := key a2 b2 n2
    obtain ⟨p3, q3⟩ := key a3 b3 n3
    have TO : Off3 t (subQ (qv u) (qv f.og)) (uR * B + sm) := ⟨p1, p2, p3⟩
    have sz : sz3 t ≤ 3 * (B + (uR * B + sm)) := by
      unfold sz3
      generalize B + (uR * B + sm) = M at *
      grind
    have he : 8 * (uR * sz3 t) + sm ≤ 25 * (uR * B) + 2 * sm := by
      refine Rat.le_trans ?_ (poly_sub u0 u1 s0 B0)
      have := Rat.mul_le_mul_of_nonneg_left sz u0
      generalize uR * (3 * (B + (uR * B + sm))) = M at *
      generalize uR * sz3 t = M' at *
      generalize sm = s at *
      grind
    have L1 := BN.len
    have L2 := (TO.len).rot f.ax (circ_neg h.circ)
    rw [← rot_sub] at L2
    have L := L1.add L2
    have e4 : addQ (subQ (qv z) (rotQ f.ax (-sQ f d) (cQ f d) (qv t))) (subQ (rotQ f.ax (-sQ f d) (cQ f d) (qv t)) (rotQ f.ax (-sQ f d) (cQ f d) (subQ (qv u) (qv f.og)))) = subQ (qv z) (rotQ f.ax (-sQ f d) (cQ f d) (subQ (qv u) (qv f.og))) := by
      unfold addQ subQ; dsimp only; ext <;> grind
    rw [e4] at L
    refine ⟨AU.w, AU.ok rfl, L.le ?_⟩
    have k33 : 33 * uR ≤ 1 := by decide +kernel
    have uB := Rat.mul_nonneg u0 B0
    generalize uR * B = b at *
    generalize 8 * (uR * sz3 t) + sm = M at *
    generalize uR = u at *
    generalize sm = s at *
    have k4 := Rat.mul_nonneg (show 0 ≤ 3 * (b + s) by grind) (show 0 ≤ 1 - 33 * u by grind)
    clear L L1 L2 TO BN e4 n1 n2 n3 p1 p2 p3 q1 q2 q3 key
    grind
  · rw [if_neg c] at e
    exact absurd (congrArg Prod.snd e) c
def sumO (L : List Fr) : List Nat → Rat
  | [] => 0
  | j :: js => o1n (frAt L j) + sumO L js
theorem o1n_nn (f : Fr) : 0 ≤ o1n f := by
  have m1 := (mag_le (Q f.o1)).2.2
  have m2 := (mag_le (Q f.o2)).2.2
  have m3 := (mag_le (Q f.o3)).2.2
  unfold o1n; grind
theorem sumO_nn (L : List Fr) : ∀ js, 0 ≤ sumO L js
  | [] => Rat.le_refl
  | _ :: js => Rat.add_nonneg (o1n_nn _) (sumO_nn L js)
theorem og_len (f : Fr) : Len (qv f.og) (o1n f) := len_of (p := qv f.og) Rat.le_refl Rat.le_refl Rat.le_refl
/-- the length one frame up -/
theorem up_len {f : Fr} {d : Nat} {v w : V3} (h : FrA f d) (hv : W3 v) (e : upR f d v = (w, 0)) {A R : Rat} (hA : Len (qv v) A) (hR : A ≤ R) (hO : o1n f ≤ R) :
    Len (qv w) (A + o1n f + (130 * (uR * R) + 9 * sm)) := by
  obtain ⟨-, -, -, O⟩ := up_off h hv e hA
  have L := len_sub_of O.len ((og_len f).add (hA.rot f.ax h.circ))
  refine L.le ?_
  have u0 := uR0
  have k1 := Rat.mul_le_mul_of_nonneg_left hR u0
  have k2 := Rat.mul_le_mul_of_nonneg_left hO u0
  have k3 := Rat.mul_nonneg u0 hA.1
  clear L O hA e hv h
  generalize o1n f = o at *
  generalize uR = u at *
  generalize sm = s at *
  grind
/-- one frame forth and back, with what happens above it -/
theorem one_back {f : Fr} {d : Nat} {v w u z : V3} (h : FrA f d) (hv : W3 v) (hu : W3 u) (e1 : upR f d v = (w, 0)) (e2 : downR f d u = (z, 0)) {A D R : Rat} (hA : Len (qv v) A) (hD : Len (subQ (qv u) (qv w)) D)
    (hw : Len (qv w) R) (hR : A ≤ R) (hO : o1n f ≤ R) (hDR : D ≤ R) : Len (subQ (qv z) (qv v)) (D + 33 * (uR * D) + (462 * (uR * R) + 30 * sm)) := by
  obtain ⟨-, -, -, O⟩ := up_off h hv e1 hA
  have LU := (len_sub_of hD hw).le (show D + R ≤ 2 * R by grind)
  obtain ⟨-, -, L1⟩ := down_off h hu e2 LU
  have cn := circ_neg h.circ
  have L2 := hD.rot f.ax cn
  have L3 := (O.len).rot f.ax cn
  have L4 := rot_back f.ax (sQ f d) (cQ f d) (qv v) hA h.circ
  have L := ((L1.add L2).add L3).add L4
  generalize sQ f d = s at *
  generalize cQ f d = c at *
  have e : addQ (addQ (addQ (subQ (qv z) (rotQ f.ax (-s) c (subQ (qv u) (qv f.og)))) (rotQ f.ax (-s) c (subQ (qv u) (qv w)))) (rotQ f.ax (-s) c (subQ (qv w) (addQ (qv f.og) (rotQ f.ax s c (qv v)))))) (subQ (rotQ f.ax (-s) c (rotQ f.ax s c (qv v))) (qv v)) = subQ (qv z) (qv v) := by
    have g1 : rotQ f.ax (-s) c (subQ (qv u) (qv w)) = subQ (rotQ f.ax (-s) c (qv u)) (rotQ f.ax (-s) c (qv w)) := (rot_sub _ _ _ _ _).symm
    have g2 : rotQ f.ax (-s) c (subQ (qv u) (qv f.og)) = subQ (rotQ f.ax (-s) c (qv u)) (rotQ f.ax (-s) c (qv f.og)) := (rot_sub _ _ _ _ _).symm
    have g3 : rotQ f.ax (-s) c (subQ (qv w) (addQ (qv f.og) (rotQ f.ax s c (qv v)))) = subQ (rotQ f.ax (-s) c (qv w)) (addQ (rotQ f.ax (-s) c (qv f.og)) (rotQ f.ax (-s) c (rotQ f.ax s c (qv v)))) := by rw [← rot_lin, rot_sub]
    rw [g1, g2, g3]
    generalize rotQ f.ax (-s) c (qv u) = a1
    generalize rotQ f.ax (-s) c (qv w) = a2
    generalize rotQ f.ax (-s) c (qv f.og) = a3
    generalize rotQ f.ax (-s) c (rotQ f.ax s c (qv v)) = a4
    unfold addQ subQ; dsimp only; ext <;> grind
  rw [e] at L
  refine L.le ?_
  have u0 := uR0
  have k33 : 33 * uR ≤ 1 := by decide +kernel
  have s0 := sm0
  have k1 := Rat.mul_le_mul_of_nonneg_left hR u0
  have k2 := Rat.mul_le_mul_of_nonneg_left hO u0
  have k3 := Rat.mul_nonneg u0 hA.1
  have o0 := o1n_nn f
  have k5 := Rat.mul_nonneg u0 o0
  clear L L1 L2 L3 L4 e LU O cn hD hw hA
  generalize o1n f = o at *
  generalize uR = u at *
  generalize sm = t at *
  have k4 := Rat.mul_nonneg (show 0 ≤ 30 * (u * A) + u * o + 3 * t by grind) (show 0 ≤ 1 - 33 * u by grind)
  grind
def hh (R : Rat) : Rat := 500 * (uR * R) + 40 * sm
def gg (R : Rat) : Rat := 130 * (uR * R) + 9 * sm
theorem poly_ind {u s R D n : Rat} (u0 : 0 ≤ u) (u1 : 1000000 * u ≤ 1) (s0 : 0 ≤ s) (R0 : 0 ≤ R) (n1 : n ≤ 16) (h : D = n * (500 * (u * R) + 40 * s)) : D + 33 * (u * D) + (462 * (u * R) + 30 * s) ≤ D + (500 * (u * R) + 40 * s) := by
  have a : D ≤ 16 * (500 * (u * R) + 40 * s) := by
    have := Rat.mul_nonneg (show 0 ≤ 16 - n by grind) (show 0 ≤ 500 * (u * R) + 40 * s by have := Rat.mul_nonneg u0 R0; grind)
    grind
  have b := Rat.mul_le_mul_of_nonneg_left a u0
  have c := Rat.mul_nonneg (Rat.mul_nonneg u0 R0) (show 0 ≤ 1 - 1000000 * u by grind)
  have d := Rat.mul_nonneg s0 (show 0 ≤ 1 - 1000000 * u by grind)
  clear h a n1
  have e : u * (16 * (500 * (u * R) + 40 * s)) = 8000 * (u * (u * R)) + 640 * (u * s) := by grind
  rw [e] at b
  have f : u * R * (1 - 1000000 * u) = u * R - 1000000 * (u * (u * R)) := by grind
  have g : s * (1 - 1000000 * u) = s - 1000000 * (u * s) := by grind
  rw [f] at c
  rw [g] at d
  have s1 := Rat.mul_nonneg u0 s0
  have y0 := Rat.mul_nonneg u0 R0
  generalize u * (u * R) = x at *
  generalize u * R = y at *
  generalize u * s = z at *
  generalize u * D = q at *
  clear e f g
  grind
theorem poly_sixteen {u s R n : Rat} (u0 : 0 ≤ u) (u1 : 1000000 * u ≤ 1) (s0 : 0 ≤ s) (R0 : 0 ≤ R) (hs : 2000 * s ≤ R) (n1 : n ≤ 16) : n * (500 * (u * R) + 40 * s) ≤ R := by
  have := Rat.mul_nonneg (show 0 ≤ 16 - n by grind) (show 0 ≤ 500 * (u * R) + 40 * s by have := Rat.mul_nonneg u0 R0; grind)
  have c := Rat.mul_nonneg R0 (show 0 ≤ 1 - 1000000 * u by grind)
  grind
theorem back_all {L : List Fr} {d : Nat} {R : Rat} (hR : 2000 * sm ≤ R) : ∀ (js : List Nat) (v w w2 z : V3) (A : Rat), W3 w2 → qv w2 = qv w → js.length ≤ 16 → (∀ j ∈ js, FrA (frAt L j) d) → W3 v → Len (qv v) A → A + sumO L js + (js.length : Rat) * gg R ≤ R →
    rootF L d js v = (w, 0) → intoF L d js w2 = (z, 0) → W3 z ∧ Len (subQ (qv z) (qv v)) ((js.length : Rat) * hh R) ∧ Len (qv w) R
  | [], v, w, w2, z, A, hw2, hq, _, _, _, hA, hb, h1, h2 => by
    have e1 : v = w := congrArg Prod.fst h1
    have e2 : w2 = z := congrArg Prod.fst h2
    subst e1 e2
    refine ⟨hw2, ?_, hA.le ?_⟩
    · rw [hq]
      refine ⟨by simp, ?_⟩
      unfold nsq subQ; dsimp only; simp
      grind
    · have : A + sumO L [] + (([] : List Nat).length : Rat) * gg R = A := by unfold sumO; simp; grind
      rw [this] at hb
      exact hb
  | j :: js, v, w, w2, z, A, hw2, hq, hl, hF, hv, hA, hb, h1, h2 => by
    have u0 := uR0
    have u1 : 1000000 * uR ≤ 1 := by decide +kernel
    have s0 := sm0
    have F := hF j (List.mem_cons_self ..)
    have o0 := o1n_nn (frAt L j)
    have so0 := sumO_nn L js
    have R0 : 0 ≤ R := Rat.le_trans (by decide +kernel) hR
    have g0 : 0 ≤ gg R := by
      have := Rat.mul_nonneg u0 R0
      unfold gg
      generalize uR = u at *
      generalize sm = s at *
      grind
    have nc : (((j :: js).length : Nat) : Rat) = (js.length : Rat) + 1 := by
      rw [List.length_cons, Rat.natCast_add]; rfl
    have n0 : (0 : Rat) ≤ (js.length : Rat) := Rat.natCast_nonneg
    have n1 : (js.length : Rat) ≤ 16 := by
      have : js.length ≤ 16 := by simp at hl; omega
      exact_mod_cast this
    rw [nc] at hb
    have hb : A + (o1n (frAt L j) + sumO L js) + ((js.length : Rat) + 1) * gg R ≤ R := hb
    have ng := Rat.mul_nonneg n0 g0
    have hAR : A ≤ R := by grind
    have hOR : o1n (frAt L j) ≤ R := by have := hA.1; grind
    unfold rootF at h1
    by_cases c1 : (upR (frAt L j) d v).2 = 0
    · rw [if_pos c1] at h1
      obtain ⟨v', hv'⟩ : ∃ v', upR (frAt L j) d v = (v', 0) := ⟨_, by rw [← c1]⟩
      rw [hv'] at h1
      have W' := (up_off F hv hv' hA).2.2.1
      have L' := up_len F hv hv' hA hAR hOR
      have L' : Len (qv v') (A + o1n (frAt L j) + gg R) := L'
      unfold intoF at h2
      by_cases c2 : (intoF L d js w2).2 = 0
      · rw [if_pos c2] at h2
        obtain ⟨u', hu'⟩ : ∃ u', intoF L d js w2 = (u', 0) := ⟨_, by rw [← c2]⟩
        rw [hu'] at h2
        have IH := back_all hR js v' w w2 u' _ hw2 hq (by simp at hl; omega) (fun k hk => hF k (List.mem_cons_of_mem _ hk)) W' L' (by grind) h1 hu'
        obtain ⟨WU, LD, LW⟩ := IH
        have LV : Len (qv v') R := L'.le (by grind)
        have hDR : (js.length : Rat) * hh R ≤ R := by
          unfold hh
          exact poly_sixteen u0 u1 s0 R0 hR n1
        have OB := one_back F hv WU hv' h2 hA LD LV hAR hOR hDR
        refine ⟨(down_off F WU h2 (len_sub_of LD LV)).1, OB.le ?_, LW⟩
        rw [nc]
        have e : ((js.length : Rat) + 1) * hh R = (js.length : Rat) * hh R + hh R := by grind
        rw [e]
        unfold hh
        exact poly_ind u0 u1 s0 R0 n1 rfl
      · rw [if_neg c2] at h2
        exact absurd (congrArg Prod.snd h2) c2
    · rw [if_neg c1] at h1
      exact absurd (congrArg Prod.snd h1) c1
end Go.Proofs.Ytgblpibanagcgaa
