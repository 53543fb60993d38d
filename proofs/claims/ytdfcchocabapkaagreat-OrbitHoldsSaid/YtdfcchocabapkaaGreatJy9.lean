/- Proved here: what the texts Frk, Frm, Frn, Fro prove, one behind the other. -/
import Derived.Test.YtdfcchocabapkaaGreatJy3
import Derived.Test.YtdfcchocabapkaaGreatJy1
import Derived.Test.YtdfcchocabapkaaGreatJx1
import Derived.Test.YtdfcchocabapkaaGreatJy6

set_option maxHeartbeats 1000000
namespace Go.Proofs.YtdfcchocabapkaaGreat
open Ieee.Own Pol Fma

def qv (v : V3) : R3 := (Q v.1, Q v.2.1, Q v.2.2)
theorem apply_ok {m : M9} {v : V3} (h : (applyR m v).2 = 0) : fitV v = true ∧ (applyR m v).1 = outV m v ∧ fitV (outV m v) = true := by
 unfold applyR at h ⊢
 by_cases c : (fitM m && fitV v) = true
 · rw [if_pos c] at h ⊢
   obtain ⟨f, e⟩ := told_zero h
   simp only [Bool.and_eq_true] at c
   exact ⟨c.2, e, f⟩
 · rw [if_neg c] at h
   exact absurd (show (3 : Int) = 0 from h) (by decide)
structure Off3 (w : V3) (p : R3) (e : Rat) : Prop where
 x : mag (Q w.1 - p.1) ≤ e
 y : mag (Q w.2.1 - p.2.1) ≤ e
 z : mag (Q w.2.2 - p.2.2) ≤ e
theorem Off3.len {w : V3} {p : R3} {e : Rat} (h : Off3 w p e) : Len (subQ (qv w) p) (3 * e) := by
 have := len_of (p := subQ (qv w) p) h.x h.y h.z
 have e3 : e + e + e = 3 * e := by grind
 rw [e3] at this
 exact this
theorem fin_gen {u s p q r A B G X : Rat} (u0 : 0 ≤ u) (p0 : 0 ≤ p) (q0 : 0 ≤ q) (r0 : 0 ≤ r) (hA : A ≤ 2) (hB : B ≤ 2) (hG : G ≤ 2) (h : X ≤ 4 * (u * (A * p + B * q + G * r)) + s) : X ≤ 8 * (u * (p + q + r)) + s := by
 have a := Rat.mul_nonneg (show 0 ≤ 2 - A by grind) p0
 have b := Rat.mul_nonneg (show 0 ≤ 2 - B by grind) q0
 have c := Rat.mul_nonneg (show 0 ≤ 2 - G by grind) r0
 have d := Rat.mul_le_mul_of_nonneg_left (show A * p + B * q + G * r ≤ 2 * (p + q + r) by grind) u0
 grind
theorem turn_near {x sw cw : Nat} {a : Int} (h0 : 0 ≤ a) (h1 : a ≤ 2) (A : Ang x) (T : Trig x sw cw) {v : V3} (hv : W3 v) (fv : fitV v = true) :
 Off3 (outV (tM a (bW sw) (bW cw) (negN (bW sw))) v) (rotQ a (Q (bW sw)) (Q (bW cw)) (qv v)) (8 * (uR * sz3 v) + sm) := by
 obtain ⟨mw, mf, hn⟩ := tM_w A T a
 have C := circ7 A T
 have E := fitV_wd hv fv
 have D := fitM_wd mw mf
 have ns2 : mag (-Q (bW sw)) ≤ 2 := by rw [mag_neg]; exact C.s2
 have x0 := (mag_le (Q v.1)).2.2
 have y0 := (mag_le (Q v.2.1)).2.2
 have z0 := (mag_le (Q v.2.2)).2.2
 have hS : sz3 v = mag (Q v.1) + mag (Q v.2.1) + mag (Q v.2.2) := rfl
 have u0 := uR0
 rw [hS]
 have : a = 0 ∨ a = 1 ∨ a = 2 := by omega
 rcases this with rfl | rfl | rfl
 · rw [tM0] at *
   have n1 := row_near (dot_wd D.d1 E) one_Q7 Q0 Q0 rfl rfl rfl mag1 mag0 mag0
   have n2 := row_near (dot_wd D.d2 E) Q0 rfl hn rfl rfl rfl mag0 C.c2 ns2
   have n3 := row_near (dot_wd D.d3 E) Q0 rfl rfl rfl rfl rfl mag0 C.s2 C.c2
   refine ⟨?_, ?_, ?_⟩
   · have := conv7 (b := Q (outV ((oneW, 0, 0), (0, bW cw, negN (bW sw)), (0, bW sw, bW cw)) v).1 - Q v.1) n1 (by show _ = _; unfold outV bV; dsimp only; grind) rfl
     show mag (_ - Q v.1) ≤ _
     exact fin_gen u0 x0 y0 z0 (by decide +kernel) (by decide +kernel) (by decide +kernel) this
   · have := conv7 (b := Q (outV ((oneW, 0, 0), (0, bW cw, negN (bW sw)), (0, bW sw, bW cw)) v).2.1 - (Q (bW cw) * Q v.2.1 - Q (bW sw) * Q v.2.2)) n2 (by show _ = _; unfold outV bV; dsimp only; grind) rfl
     show mag (_ - (Q (bW cw) * Q v.2.1 - Q (bW sw) * Q v.2.2)) ≤ _
     exact fin_gen u0 x0 y0 z0 (by decide +kernel) (by decide +kernel) (by decide +kernel) this
   · have := conv7 (b := Q (outV ((oneW, 0, 0), (0, bW cw, negN (bW sw)), (0, bW sw, bW cw)) v).2.2 - (Q (bW sw) * Q v.2.1 + Q (bW cw) * Q v.2.2)) n3 (by show _ = _; unfold outV bV; dsimp only; grind) rfl
     show mag (_ - (Q (bW sw) * Q v.2.1 + Q (bW cw) * Q v.2.2)) ≤ _
     exact fin_gen u0 x0 y0 z0 (by decide +kernel) (by decide +kernel) (by decide +kernel) this
 · rw [tM1] at *
   have n1 := row_near (dot_wd D.d1 E) rfl Q0 rfl rfl rfl rfl C.c2 mag0 C.s2
   have n2 := row_near (dot_wd D.d2 E) Q0 one_Q7 Q0 rfl rfl rfl mag0 mag1 mag0
   have n3 := row_near (dot_wd D.d3 E) hn Q0 rfl rfl rfl rfl ns2 mag0 C.c2
   refine ⟨?_, ?_, ?_⟩
   · have := conv7 (b := Q (outV ((bW cw, 0, bW sw), (0, oneW, 0), (negN (bW sw), 0, bW cw)) v).1 - (Q (bW sw) * Q v.2.2 + Q (bW cw) * Q v.1)) n1 (by show _ = _; unfold outV bV; dsimp only; grind) rfl
     show mag (_ - (Q (bW sw) * Q v.2.2 + Q (bW cw) * Q v.1)) ≤ _
     exact fin_gen u0 x0 y0 z0 (by decide +kernel) (by decide +kernel) (by decide +kernel) this
   · have := conv7 (b := Q (outV ((bW cw, 0, bW sw), (0, oneW, 0), (negN (bW sw), 0, bW cw)) v).2.1 - Q v.2.1) n2 (by show _ = _; unfold outV bV; dsimp only; grind) rfl
     show mag (_ - Q v.2.1) ≤ _
     exact fin_gen u0 x0 y0 z0 (by decide +kernel) (by decide +kernel) (by decide +kernel) this
   · have := conv7 (b := Q (outV ((bW cw, 0, bW sw), (0, oneW, 0), (negN (bW sw), 0, bW cw)) v).2.2 - (Q (bW cw) * Q v.2.2 - Q (bW sw) * Q v.1)) n3 (by show _ = _; unfold outV bV; dsimp only; grind) rfl
     show mag (_ - (Q (bW cw) * Q v.2.2 - Q (bW sw) * Q v.1)) ≤ _
     exact fin_gen u0 x0 y0 z0 (by decide +kernel) (by decide +kernel) (by decide +kernel) this
 · rw [tM2] at *
   have n1 := row_near (dot_wd D.d1 E) rfl hn Q0 rfl rfl rfl C.c2 ns2 mag0
   have n2 := row_near (dot_wd D.d2 E) rfl rfl Q0 rfl rfl rfl C.s2 C.c2 mag0
   have n3 := row_near (dot_wd D.d3 E) Q0 Q0 one_Q7 rfl rfl rfl mag0 mag0 mag1
   refine ⟨?_, ?_, ?_⟩
   · have := conv7 (b := Q (outV ((bW cw, negN (bW sw), 0), (bW sw, bW cw, 0), (0, 0, oneW)) v).1 - (Q (bW cw) * Q v.1 - Q (bW sw) * Q v.2.1)) n1 (by show _ = _; unfold outV bV; dsimp only; grind) rfl
     show mag (_ - (Q (bW cw) * Q v.1 - Q (bW sw) * Q v.2.1)) ≤ _
     exact fin_gen u0 x0 y0 z0 (by decide +kernel) (by decide +kernel) (by decide +kernel) this
   · have := conv7 (b := Q (outV ((bW cw, negN (bW sw), 0), (bW sw, bW cw, 0), (0, 0, oneW)) v).2.1 - (Q (bW sw) * Q v.1 + Q (bW cw) * Q v.2.1)) n2 (by show _ = _; unfold outV bV; dsimp only; grind) rfl
     show mag (_ - (Q (bW sw) * Q v.1 + Q (bW cw) * Q v.2.1)) ≤ _
     exact fin_gen u0 x0 y0 z0 (by decide +kernel) (by decide +kernel) (by decide +kernel) this
   · have := conv7 (b := Q (outV ((bW cw, negN (bW sw), 0), (bW sw, bW cw, 0), (0, 0, oneW)) v).2.2 - Q v.2.2) n3 (by show _ = _; unfold outV bV; dsimp only; grind) rfl
     show mag (_ - Q v.2.2) ≤ _
     exact fin_gen u0 x0 y0 z0 (by decide +kernel) (by decide +kernel) (by decide +kernel) this
theorem sz_len {v : V3} {A : Rat} (h : Len (qv v) A) : sz3 v ≤ 3 * A := by
 obtain ⟨a, b, c⟩ := h.mags
 have a : mag (Q v.1) ≤ A := a
 have b : mag (Q v.2.1) ≤ A := b
 have c : mag (Q v.2.2) ≤ A := c
 unfold sz3; grind

theorem rot_sub (a : Int) (s c : Rat) (p q : R3) : subQ (rotQ a s c p) (rotQ a s c q) = rotQ a s c (subQ p q) := by
 unfold rotQ subQ
 split
 · dsimp only; ext <;> grind
 · split
   · dsimp only; ext <;> grind
   · dsimp only; ext <;> grind
def hh (R : Rat) : Rat := 500 * (uR * R) + 40 * sm
def gg (R : Rat) : Rat := 130 * (uR * R) + 9 * sm
end Go.Proofs.YtdfcchocabapkaaGreat

namespace Go.Proofs.YtdfcchocabapkaaGreat
open Go.ChangeShapes Go.WideShapes Go.ChangeAt Go.RowKit Ieee.Own Pol Fma


end Go.Proofs.YtdfcchocabapkaaGreat
