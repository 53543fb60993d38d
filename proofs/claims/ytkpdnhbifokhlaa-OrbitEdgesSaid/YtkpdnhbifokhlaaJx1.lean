/- Proved here: what the texts Vbk, Vbl prove, one behind the other. -/
import Derived.Test.YtkpdnhbifokhlaaJv11
import Derived.Test.YtkpdnhbifokhlaaJv5
import Derived.Test.YtkpdnhbifokhlaaJb9

namespace Go.Proofs.Ytkpdnhbifokhlaa
open Ieee.Own Pol

/-! ### the circle -/
theorem sq_circle {y : Rat} (h1 : -Ply.top ≤ y) (h2 : y ≤ Ply.top) (k : Int) : mag (Ply.sq (k + 1) y * Ply.sq (k + 1) y + Ply.sq k y * Ply.sq k y - 1) ≤ Ply.eps := by
  have q := sq_parts k y
  have q' := sq_parts (k + 1) y
  have c := Ply.circle h1 h2
  have k4 : k % 4 = 0 ∨ k % 4 = 1 ∨ k % 4 = 2 ∨ k % 4 = 3 := by omega
  generalize Ply.s y = S at *
  generalize Ply.c y = C at *
  generalize Ply.eps = e at *
  rcases k4 with h | h | h | h
  · rw [q.1 h, q'.2.1 (by omega)]; exact mag_of (by grind) (by grind)
  · rw [q.2.1 h, q'.2.2.1 (by omega)]; exact mag_of (by grind) (by grind)
  · rw [q.2.2.1 h, q'.2.2.2 (by omega)]; exact mag_of (by grind) (by grind)
  · rw [q.2.2.2 h, q'.1 (by omega)]; exact mag_of (by grind) (by grind)
theorem near_sq {x X e : Rat} (e1 : e ≤ 1) (h : mag (x - X) ≤ e) (h1 : mag X ≤ 1) : mag (x * x - X * X) ≤ 2 * e + e * e ∧ mag x ≤ 2 := by
  have a := mag_add h (mag_add h1 h1)
  have e2 : x - X + (X + X) = x + X := by grind
  rw [e2] at a
  have p := mag_mul h a
  have e3 : (x - X) * (x + X) = x * x - X * X := by grind
  rw [e3] at p
  have b := mag_add h h1
  have e4 : x - X + X = x := by grind
  rw [e4] at b
  exact ⟨by grind, by grind⟩
/-! ### two numbers turned forth and back -/
theorem ends {u S σ p e1 e2 d P : Rat} (u0 : 0 ≤ u) (u1 : 1000 * u ≤ 1) (S0 : 0 ≤ S) (s0 : 0 ≤ σ) (hpS : p ≤ S) (hd : d = 33 * u) (he1 : e1 = 4 * (u * (2 * S)) + σ) (he2 : e2 = 4 * (u * (2 * (2 * (2 * S + e1)))) + σ)
    (h : P ≤ d * p + 4 * e1 + e2) : P ≤ 116 * (u * S) + 16 * σ := by
  subst hd he1 he2
  have a := Rat.mul_nonneg u0 S0
  have b := Rat.mul_nonneg a (show 0 ≤ 1 - 1000 * u by grind)
  have c := Rat.mul_nonneg u0 (show 0 ≤ S - p by grind)
  have e := Rat.mul_nonneg s0 (show 0 ≤ 1 - 1000 * u by grind)
  grind
end Go.Proofs.Ytkpdnhbifokhlaa

namespace Go.Proofs.Ytkpdnhbifokhlaa
open Go.ChangeShapes Go.WideShapes Go.ChangeAt Go.RowKit Ieee.Own Pol

theorem D3.bb {p : V3} (hw : W3 p) (f : fitV p = true) : D3 (bV p) ∧ V (bV p).1 = V p.1 ∧ V (bV p).2.1 = V p.2.1 ∧ V (bV p).2.2 = V p.2.2 := by
  have B := fitV_bd hw f
  have fb : fitV (bV p) = true := by unfold fitV bV; rw [vnB_bW B.f1 B.b1, vnB_bW B.f2 B.b2, vnB_bW B.f3 B.b3]; rfl
  unfold fitV at f
  simp only [Bool.and_eq_true] at f
  exact ⟨fitV_wd B.fin.b.w fb, bW_fit B.f1 (vnB_spec hw.l1 f.1.1).2.1, bW_fit B.f2 (vnB_spec hw.l2 f.1.2).2.1, bW_fit B.f3 (vnB_spec hw.l3 f.2).2.1⟩
theorem Q0 : Q 0 = 0 := by decide +kernel
theorem tM_w {x s c : Nat} (A : Ang x) (T : Trig x s c) (a : Int) : W9 (tM a (bW s) (bW c) (negN (bW s))) ∧ fitM (tM a (bW s) (bW c) (negN (bW s))) = true ∧ Q (negN (bW s)) = -Q (bW s) := by
  obtain ⟨⟨f1, i1⟩, ⟨f2, i2⟩, f3, i3, e3⟩ := trig_ok A T
  have g1 := (bW_nz f1).fin
  have g2 := (bW_nz f2).fin
  obtain ⟨-, g3, v3⟩ := negN_spec g1
  have o := one_fin7.1
  have z : (0 : Nat) < 18446744073709551616 := by omega
  rw [e3] at i3
  refine ⟨?_, ?_, Q_neg v3⟩
  · unfold tM
    split
    · exact ⟨⟨o, z, z⟩, ⟨z, g2.1, g3.fin.1⟩, ⟨z, g1.1, g2.1⟩⟩
    · split
      · exact ⟨⟨g2.1, z, g1.1⟩, ⟨z, o, z⟩, ⟨g3.fin.1, z, g2.1⟩⟩
      · exact ⟨⟨g2.1, g3.fin.1, z⟩, ⟨g1.1, g2.1, z⟩, ⟨z, z, o⟩⟩
  · unfold tM
    split
    · unfold fitM fitV; dsimp only; rw [in_one, in_zero, i1, i2, i3]; rfl
    · split
      · unfold fitM fitV; dsimp only; rw [in_one, in_zero, i1, i2, i3]; rfl
      · unfold fitM fitV; dsimp only; rw [in_one, in_zero, i1, i2, i3]; rfl
end Go.Proofs.Ytkpdnhbifokhlaa
