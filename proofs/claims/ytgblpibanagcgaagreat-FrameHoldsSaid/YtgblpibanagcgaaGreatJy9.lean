/- Proved here: what the texts Frk, Frm prove, one behind the other. -/
import Derived.Test.YtgblpibanagcgaaGreatJy5
import Derived.Test.YtgblpibanagcgaaGreatJy2
import Derived.Test.YtgblpibanagcgaaGreatJx2
import Derived.Test.YtgblpibanagcgaaGreatJy7

namespace Go.Proofs.YtgblpibanagcgaaGreat
open Ieee.Own Pol Fma

def qv (v : V3) : R3 := (Q v.1, Q v.2.1, Q v.2.2)
theorem apply_ok {m : M9} {v : V3} (h : (applyR m v).2 = 0) : fitV v = true ∧ (applyR m v).1 = outV m v ∧ fitV (outV m v) = true := by
  unfold applyR at h ⊢
  by_cases c : (fitM m && fitV v) = true
  · rw [if_pos c] at h ⊢
    obtain ⟨f, e⟩ := told_zero h
    simp only [Bool.and_eq_true] at c
    exact ⟨c.2, e, f⟩
  · rw [if_neg c] at h
    exact absurd (show (3 : Int) = 0 from h) (by decide)
theorem add_okR {a b : V3} (h : (addR a b).2 = 0) : fitV a = true ∧ fitV b = true ∧ (addR a b).1 = bV (aX a.1 b.1, aX a.2.1 b.2.1, aX a.2.2 b.2.2) ∧ fitV (addR a b).1 = true := by
  unfold addR at h ⊢
  by_cases c : both3 a b = true
  · rw [if_pos c] at h ⊢
    obtain ⟨f, e⟩ := told_zero h
    obtain ⟨fa, fb⟩ := both_of c
    exact ⟨fa, fb, e, by rw [e]; exact f⟩
  · rw [if_neg c] at h
    exact absurd (show (3 : Int) = 0 from h) (by decide)
theorem comm_near (u m s : Rat) : s + (u * m + 0) ≤ u * m + s := by grind
/-- a sum, brought to a fit one -/
theorem add_near {x y : Nat} (hx : Wd x 822 1134) (hy : Wd y 822 1134) : mag (Q (bW (aX x y)) - (Q x + Q y)) ≤ uR * (mag (Q x) + mag (Q y)) + sm := by
  obtain ⟨-, w, r⟩ := Wd.add hx hy (by omega)
  have a := rd_of r _ (mag_add (x := Q x) (y := Q y) Rat.le_refl Rat.le_refl)
  have b := mag_add (bW_near w.fin) a
  have e : Q (bW (aX x y)) - Q (aX x y) + (Q (aX x y) - (Q x + Q y)) = Q (bW (aX x y)) - (Q x + Q y) := by grind
  rw [e] at b
  exact Rat.le_trans b (comm_near _ _ _)
/-- how far words lie off a vector, number by number -/
structure Off3 (w : V3) (p : R3) (e : Rat) : Prop where
  x : mag (Q w.1 - p.1) ≤ e
  y : mag (Q w.2.1 - p.2.1) ≤ e
  z : mag (Q w.2.2 - p.2.2) ≤ e
theorem Off3.len {w : V3} {p : R3} {e : Rat} (h : Off3 w p e) : Len (subQ (qv w) p) (3 * e) := by
  have := len_of (p := subQ (qv w) p) h.x h.y h.z
  have e3 : e + e + e = 3 * e := by grind
  rw [e3] at this
  exact this
theorem fin_gen {u s p q r A B G X : Rat} (u0 : 0 ≤ u) (p0 : 0 ≤ p) (q0 : 0 ≤ q) (r0 : 0 ≤ r) (hA : A ≤ 2) (hB : B ≤ 2) (hG : G ≤ 2) (h : X ≤ 4 * (u * (A * p + B * q + G * r)) + s) : X ≤ 8 * (u * (p + q + r)) + s := by
  have a := Rat.mul_nonneg (show 0 ≤ 2 - A by grind) p0
  have b := Rat.mul_nonneg (show 0 ≤ 2 - B by grind) q0
  have c := Rat.mul_nonneg (show 0 ≤ 2 - G by grind) r0
  have d := Rat.mul_le_mul_of_nonneg_left (show A * p + B * q + G * r ≤ 2 * (p + q + r) by grind) u0
  grind
set_option maxHeartbeats 1000000 in
theorem turn_near {x sw cw : Nat} {a : Int} (h0 : 0 ≤ a) (h1 : a ≤ 2) (A : Ang x) (T : Trig x sw cw) {v : V3} (hv : W3 v) (fv : fitV v = true) :
    Off3 (outV (tM a (bW sw) (bW cw) (negN (bW sw))) v) (rotQ a (Q (bW sw)) (Q (bW cw)) (qv v)) (8 * (uR * sz3 v) + sm) := by
  obtain ⟨mw, mf, hn⟩ := tM_w A T a
  have C := circ7 A T
  have E := fitV_wd hv fv
  have D := fitM_wd mw mf
  have ns2 : mag (-Q (bW sw)) ≤ 2 := by rw [mag_neg]; exact C.s2
  have x0 := (mag_le (Q v.1)).2.2
  have y0 := (mag_le (Q v.2.1)).2.2
  have z0 := (mag_le (Q v.2.2)).2.2
  have hS : sz3 v = mag (Q v.1) + mag (Q v.2.1) + mag (Q v.2.2) := rfl
  have u0 := uR0
  rw [hS]
  have : a = 0 ∨ a = 1 ∨ a = 2 := by omega
  rcases this with rfl | rfl | rfl
  · rw [tM0] at *
    have n1 := row_near (dot_wd D.d1 E) one_Q7 Q0 Q0 rfl rfl rfl mag1 mag0 mag0
    have n2 := row_near (dot_wd D.d2 E) Q0 rfl hn rfl rfl rfl mag0 C.c2 ns2
    have n3 := row_near (dot_wd D.d3 E) Q0 rfl rfl rfl rfl rfl mag0 C.s2 C.c2
    refine ⟨?_, ?_, ?_⟩
    · have := conv7 (b := Q (outV ((oneW, 0, 0), (0, bW cw, negN (bW sw)), (0, bW sw, bW cw)) v).1 - Q v.1) n1 (by show _ = _; unfold outV bV; dsimp only; grind) rfl
      show mag (_ - Q v.1) ≤ _
      exact fin_gen u0 x0 y0 z0 (by decide +kernel) (by decide +kernel) (by decide +kernel) this
    · have := conv7 (b := Q (outV ((oneW, 0, 0), (0, bW cw, negN (bW sw)), (0, bW sw, bW cw)) v).2.1 - (Q (bW cw) * Q v.2.1 - Q (bW sw) * Q v.2.2)) n2 (by show _ = _; unfold outV bV; dsimp only; grind) rfl
      show mag (_ - (Q (bW cw) * Q v.2.1 - Q (bW sw) * Q v.2.2)) ≤ _
      exact fin_gen u0 x0 y0 z0 (by decide +kernel) (by decide +kernel) (by decide +kernel) this
    · have := conv7 (b := Q (outV ((oneW, 0, 0), (0, bW cw, negN (bW sw)), (0, bW sw, bW cw)) v).2.2 - (Q (bW sw) * Q v.2.1 + Q (bW cw) * Q v.2.2)) n3 (by show _ = _; unfold outV bV; dsimp only; grind) rfl
      show mag (_ - (Q (bW sw) * Q v.2.1 + Q (bW cw) * Q v.2.2)) ≤ _
      exact fin_gen u0 x0 y0 z0 (by decide +kernel) (by decide +kernel) (by decide +kernel) this
  · rw [tM1] at *
    have n1 := row_near (dot_wd D.d1 E) rfl Q0 rfl rfl rfl rfl C.c2 mag0 C.s2
    have n2 := row_near (dot_wd D.d2 E) Q0 one_Q7 Q0 rfl rfl rfl mag0 mag1 mag0
    have n3 := row_near (dot_wd D.d3 E) hn Q0 rfl rfl rfl rfl ns2 mag0 C.c2
    refine ⟨?_, ?_, ?_⟩
    · have := conv7 (b := Q (outV ((bW cw, 0, bW sw), (0, oneW, 0), (negN (bW sw), 0, bW cw)) v).1 - (Q (bW sw) * Q v.2.2 + Q (bW cw) * Q v.1)) n1 (by show _ = _; unfold outV bV; dsimp only; grind) rfl
      show mag (_ - (Q (bW sw) * Q v.2.2 + Q (bW cw) * Q v.1)) ≤ _
      exact fin_gen u0 x0 y0 z0 (by decide +kernel) (by decide +kernel) (by decide +kernel) this
    · have := conv7 (b := Q (outV ((bW cw, 0, bW sw), (0, oneW, 0), (negN (bW sw), 0, bW cw)) v).2.1 - Q v.2.1) n2 (by show _ = _; unfold outV bV; dsimp only; grind) rfl
      show mag (_ - Q v.2.1) ≤ _
      exact fin_gen u0 x0 y0 z0 (by decide +kernel) (by decide +kernel) (by decide +kernel) this
    · have := conv7 (b := Q (outV ((bW cw, 0, bW sw), (0, oneW, 0), (negN (bW sw), 0, bW cw)) v).2.2 - (Q (bW cw) * Q v.2.2 - Q (bW sw) * Q v.1)) n3 (by show _ = _; unfold outV bV; dsimp only; grind) rfl
      show mag (_ - (Q (bW cw) * Q v.2.2 - Q (bW sw) * Q v.1)) ≤ _
      exact fin_gen u0 x0 y0 z0 (by decide +kernel) (by decide +kernel) (by decide +kernel) this
  · rw [tM2] at *
    have n1 := row_near (dot_wd D.d1 E) rfl hn Q0 rfl rfl rfl C.c2 ns2 mag0
    have n2 := row_near (dot_wd D.d2 E) rfl rfl Q0 rfl rfl rfl C.s2 C.c2 mag0
    have n3 := row_near (dot_wd D.d3 E) Q0 Q0 one_Q7 rfl rfl rfl mag0 mag0 mag1
    refine ⟨?_, ?_, ?_⟩
    · have := conv7 (b := Q (outV ((bW cw, negN (bW sw), 0), (bW sw, bW cw, 0), (0, 0, oneW)) v).1 - (Q (bW cw) * Q v.1 - Q (bW sw) * Q v.2.1)) n1 (by show _ = _; unfold outV bV; dsimp only; grind) rfl
      show mag (_ - (Q (bW cw) * Q v.1 - Q (bW sw) * Q v.2.1)) ≤ _
      exact fin_gen u0 x0 y0 z0 (by decide +kernel) (by decide +kernel) (by decide +kernel) this
    · have := conv7 (b := Q (outV ((bW cw, negN (bW sw), 0), (bW sw, bW cw, 0), (0, 0, oneW)) v).2.1 - (Q (bW sw) * Q v.1 + Q (bW cw) * Q v.2.1)) n2 (by show _ = _; unfold outV bV; dsimp only; grind) rfl
      show mag (_ - (Q (bW sw) * Q v.1 + Q (bW cw) * Q v.2.1)) ≤ _
      exact fin_gen u0 x0 y0 z0 (by decide +kernel) (by decide +kernel) (by decide +kernel) this
    · have := conv7 (b := Q (outV ((bW cw, negN (bW sw), 0), (bW sw, bW cw, 0), (0, 0, oneW)) v).2.2 - Q v.2.2) n3 (by show _ = _; unfold outV bV; dsimp only; grind) rfl
      show mag (_ - Q v.2.2) ≤ _
      exact fin_gen u0 x0 y0 z0 (by decide +kernel) (by decide +kernel) (by decide +kernel) this
/-! ### up and down, in lengths -/
def o1n (f : Fr) : Rat := mag (Q f.o1) + mag (Q f.o2) + mag (Q f.o3)
noncomputable def sQ (f : Fr) (d : Nat) : Rat := Q (bW (tS (angW f d)))
noncomputable def cQ (f : Fr) (d : Nat) : Rat := Q (bW (tC (angW f d)))
theorem poly_up {u s A O : Rat} (u0 : 0 ≤ u) (u1 : 1000 * u ≤ 1) (s0 : 0 ≤ s) (A0 : 0 ≤ A) : u * (O + (24 * (u * A) + s + 2 * A)) + s + (24 * (u * A) + s) ≤ 30 * (u * A) + u * O + 3 * s := by
  have b := Rat.mul_nonneg (Rat.mul_nonneg u0 A0) (show 0 ≤ 1 - 1000 * u by grind)
  have c := Rat.mul_nonneg s0 (show 0 ≤ 1 - 1000 * u by grind)
  have d := Rat.mul_nonneg u0 A0
  grind
theorem off_up {u s A O x1 y1 o r e : Rat} (u0 : 0 ≤ u) (u1 : 1000 * u ≤ 1) (s0 : 0 ≤ s) (A0 : 0 ≤ A) (ho : mag o ≤ O) (hr : mag r ≤ 2 * A) (he : e = 24 * (u * A) + s) (h1 : mag (y1 - r) ≤ e) (h2 : mag (x1 - (o + y1)) ≤ u * (mag o + mag y1) + s) :
    mag (x1 - (o + r)) ≤ 30 * (u * A) + u * O + 3 * s := by
  subst he
  have my := mag_add h1 hr
  have e1 : y1 - r + r = y1 := by grind
  rw [e1] at my
  have t := mag_add h2 h1
  have e2 : x1 - (o + y1) + (y1 - r) = x1 - (o + r) := by grind
  rw [e2] at t
  have a := Rat.mul_le_mul_of_nonneg_left (show mag o + mag y1 ≤ O + (24 * (u * A) + s + 2 * A) by clear h2 t h1 e2 e1; grind) u0
  refine Rat.le_trans t (Rat.le_trans ?_ (poly_up u0 u1 s0 A0))
  exact Rat.add_le_add_right.2 (Rat.add_le_add_right.2 a)
theorem rot_mags (a : Int) {s c : Rat} {p : R3} {A : Rat} (h : Len p A) (hc : mag (c * c + s * s - 1) ≤ 33 * uR) : mag (rotQ a s c p).1 ≤ 2 * A ∧ mag (rotQ a s c p).2.1 ≤ 2 * A ∧ mag (rotQ a s c p).2.2 ≤ 2 * A := by
  have := (h.rot a hc).le (B := 2 * A) (by
    have k : 33 * uR ≤ 1 := by decide +kernel
    have := Rat.mul_le_mul_of_nonneg_left k h.1
    generalize uR = u at *
    grind)
  exact this.mags
theorem sz_len {v : V3} {A : Rat} (h : Len (qv v) A) : sz3 v ≤ 3 * A := by
  obtain ⟨a, b, c⟩ := h.mags
  have a : mag (Q v.1) ≤ A := a
  have b : mag (Q v.2.1) ≤ A := b
  have c : mag (Q v.2.2) ≤ A := c
  unfold sz3; grind
/-- one frame's angle, told -/
structure FrA (f : Fr) (d : Nat) : Prop where
  w : FrW f
  a0 : 0 ≤ f.ax
  a1 : f.ax ≤ 2
  a : AngA f d
theorem FrA.circ {f : Fr} {d : Nat} (h : FrA f d) : mag (cQ f d * cQ f d + sQ f d * sQ f d - 1) ≤ 33 * uR := by
  obtain ⟨x, e⟩ := ang_w h.a
  exact (circ7 (errA_ang x e) (trig_of x e)).on
theorem up_off {f : Fr} {d : Nat} {v w : V3} (h : FrA f d) (hv : W3 v) (e : upR f d v = (w, 0)) {A : Rat} (hA : Len (qv v) A) :
    fitV v = true ∧ fitV w = true ∧ W3 w ∧ Off3 w (addQ (qv f.og) (rotQ f.ax (sQ f d) (cQ f d) (qv v))) (30 * (uR * A) + uR * o1n f + 3 * sm) := by
  obtain ⟨x, er⟩ := ang_w h.a
  have AN := errA_ang x er
  have T := trig_of x er
  have AU := ans_up h.w h.a hv (f := f) (d := d)
  rw [e] at AU
  unfold upR at e
  by_cases c : (applyR (turnW f.ax (angW f d)) v).2 = 0
  · rw [if_pos c] at e
    obtain ⟨fv, ey, fy⟩ := apply_ok c
    rw [ey] at e
    have e2 := congrArg Prod.snd e
    obtain ⟨fo, -, ew, fw⟩ := add_okR e2
    rw [e] at ew fw
    have TN := turn_near h.a0 h.a1 AN T hv fv
    have Y : outV (turnW f.ax (angW f d)) v = outV (tM f.ax (bW (tS (angW f d))) (bW (tC (angW f d))) (negN (bW (tS (angW f d))))) v := rfl
    rw [Y] at ew fy
    have WY : W3 (outV (tM f.ax (bW (tS (angW f d))) (bW (tC (angW f d))) (negN (bW (tS (angW f d))))) v) := by
      have := (ans_apply (turnW_ok f.ax x er).1 hv).w
      rw [ey] at this
      exact this
    have DY := fitV_wd WY fy
    have DO := fitV_wd (og_w h.w) fo
    generalize outV (tM f.ax (bW (tS (angW f d))) (bW (tC (angW f d))) (negN (bW (tS (angW f d))))) v = y at *
    have RM := rot_mags f.ax hA h.circ
    have TN : Off3 y (rotQ f.ax (sQ f d) (cQ f d) (qv v)) (8 * (uR * sz3 v) + sm) := TN
    have sz := sz_len hA
    have u0 := uR0
    have u1 : 1000 * uR ≤ 1 := by decide +kernel
    have s0 := sm0
    have he : 8 * (uR * sz3 v) + sm ≤ 24 * (uR * A) + sm := by
      have := Rat.mul_le_mul_of_nonneg_left sz u0
      generalize uR = u at *
      generalize sm = s at *
      grind
    have n1 := add_near DO.w1 DY.w1
    have n2 := add_near DO.w2 DY.w2
    have n3 := add_near DO.w3 DY.w3
    have w1 : bW (aX f.og.1 y.1) = w.1 := (congrArg Prod.fst ew).symm
    have w2 : bW (aX f.og.2.1 y.2.1) = w.2.1 := (congrArg (fun p => p.2.1) ew).symm
    have w3 : bW (aX f.og.2.2 y.2.2) = w.2.2 := (congrArg (fun p => p.2.2) ew).symm
    rw [w1] at n1
    rw [w2] at n2
    rw [w3] at n3
    have m1 := (mag_le (Q f.o1)).2.2
    have m2 := (mag_le (Q f.o2)).2.2
    have m3 := (mag_le (Q f.o3)).2.2
    have b1 : mag (Q f.og.1) ≤ o1n f := by show mag (Q f.o1) ≤ _; unfold o1n; grind
    have b2 : mag (Q f.og.2.1) ≤ o1n f := by show mag (Q f.o2) ≤ _; unfold o1n; grind
    have b3 : mag (Q f.og.2.2) ≤ o1n f := by show mag (Q f.o3) ≤ _; unfold o1n; grind
    exact ⟨fv, fw, AU.w, off_up u0 u1 s0 hA.1 b1 RM.1 rfl (Rat.le_trans TN.x he) n1, off_up u0 u1 s0 hA.1 b2 RM.2.1 rfl (Rat.le_trans TN.y he) n2, off_up u0 u1 s0 hA.1 b3 RM.2.2 rfl (Rat.le_trans TN.z he) n3⟩
  · rw [if_neg c] at e
    exact absurd (congrArg Prod.snd e) c
end Go.Proofs.YtgblpibanagcgaaGreat

namespace Go.Proofs.YtgblpibanagcgaaGreat
open Ieee.Own Pol Fma

theorem len_sub_of {p q : R3} {A B : Rat} (h : Len (subQ p q) A) (k : Len q B) : Len p (A + B) := by
  have := h.add k
  have e : addQ (subQ p q) q = p := by unfold addQ subQ; dsimp only; ext <;> grind
  rwa [e] at this
def sumO (L : List Fr) : List Nat → Rat
  | [] => 0
  | j :: js => o1n (frAt L j) + sumO L js
theorem o1n_nn (f : Fr) : 0 ≤ o1n f := by
  have m1 := (mag_le (Q f.o1)).2.2
  have m2 := (mag_le (Q f.o2)).2.2
  have m3 := (mag_le (Q f.o3)).2.2
  unfold o1n; grind
theorem sumO_nn (L : List Fr) : ∀ js, 0 ≤ sumO L js
  | [] => Rat.le_refl
  | _ :: js => Rat.add_nonneg (o1n_nn _) (sumO_nn L js)
theorem og_len (f : Fr) : Len (qv f.og) (o1n f) := len_of (p := qv f.og) Rat.le_refl Rat.le_refl Rat.le_refl
/-- the length one frame up -/
theorem up_len {f : Fr} {d : Nat} {v w : V3} (h : FrA f d) (hv : W3 v) (e : upR f d v = (w, 0)) {A R : Rat} (hA : Len (qv v) A) (hR : A ≤ R) (hO : o1n f ≤ R) :
    Len (qv w) (A + o1n f + (130 * (uR * R) + 9 * sm)) := by
  obtain ⟨-, -, -, O⟩ := up_off h hv e hA
  have L := len_sub_of O.len ((og_len f).add (hA.rot f.ax h.circ))
  refine L.le ?_
  have u0 := uR0
  have k1 := Rat.mul_le_mul_of_nonneg_left hR u0
  have k2 := Rat.mul_le_mul_of_nonneg_left hO u0
  have k3 := Rat.mul_nonneg u0 hA.1
  clear L O hA e hv h
  generalize o1n f = o at *
  generalize uR = u at *
  generalize sm = s at *
  grind
def hh (R : Rat) : Rat := 500 * (uR * R) + 40 * sm
def gg (R : Rat) : Rat := 130 * (uR * R) + 9 * sm
end Go.Proofs.YtgblpibanagcgaaGreat
