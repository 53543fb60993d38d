/- Proved here: what the texts Vbk, Vbl prove, one behind the other. -/
import Derived.Test.YtkpdnhbifokhlaaJv11
import Derived.Test.YtkpdnhbifokhlaaJv5
import Derived.Test.YtkpdnhbifokhlaaJb9

namespace Go.Proofs.Ytkpdnhbifokhlaa
open Ieee.Own Pol

/-! ### the circle -/
theorem sq_circle {y : Rat} (h1 : -Ply.top ≤ y) (h2 : y ≤ Ply.top) (k : Int) : mag (Ply.sq (k + 1) y * Ply.sq (k + 1) y + Ply.sq k y * Ply.sq k y - 1) ≤ Ply.eps := by
  have q := sq_parts k y
  have q' := sq_parts (k + 1) y
  have c := Ply.circle h1 h2
  have k4 : k % 4 = 0 ∨ k % 4 = 1 ∨ k % 4 = 2 ∨ k % 4 = 3 := by omega
  generalize Ply.s y = S at *
  generalize Ply.c y = C at *
  generalize Ply.eps = e at *
  rcases k4 with h | h | h | h
  · rw [q.1 h, q'.2.1 (by omega)]; exact mag_of (by grind) (by grind)
  · rw [q.2.1 h, q'.2.2.1 (by omega)]; exact mag_of (by grind) (by grind)
  · rw [q.2.2.1 h, q'.2.2.2 (by omega)]; exact mag_of (by grind) (by grind)
  · rw [q.2.2.2 h, q'.1 (by omega)]; exact mag_of (by grind) (by grind)
theorem near_sq {x X e : Rat} (e1 : e ≤ 1) (h : mag (x - X) ≤ e) (h1 : mag X ≤ 1) : mag (x * x - X * X) ≤ 2 * e + e * e ∧ mag x ≤ 2 := by
  have a := mag_add h (mag_add h1 h1)
  have e2 : x - X + (X + X) = x + X := by grind
  rw [e2] at a
  have p := mag_mul h a
  have e3 : (x - X) * (x + X) = x * x - X * X := by grind
  rw [e3] at p
  have b := mag_add h h1
  have e4 : x - X + X = x := by grind
  rw [e4] at b
  exact ⟨by grind, by grind⟩
/-- the words' circle -/
structure Circ (s c : Rat) : Prop where
  on : mag (c * c + s * s - 1) ≤ 33 * uR
  s2 : mag s ≤ 2
  c2 : mag c ≤ 2
theorem circ7 {x s c : Nat} (A : Ang x) (T : Trig x s c) : Circ (Q (bW s)) (Q (bW c)) := by
  obtain ⟨r, R, -, -⟩ := T.ex
  obtain ⟨⟨n1, n2⟩, n3, n4⟩ := trig_near A T R
  have bd := (R.rest A).Q_bd
  have tp := Ply.top_mul bd.1 bd.2
  have o1 := Ply.sq_le_one tp.1 tp.2 (kq eig (V x))
  have o2 := Ply.sq_le_one tp.1 tp.2 (kq eig (V x) + 1)
  have ci := sq_circle tp.1 tp.2 (kq eig (V x))
  have b1 := bW_near T.sz.fin
  have b2 := bW_near T.cz.fin
  generalize Ply.sq (kq eig (V x)) (Ply.tau * Q r) = S at *
  generalize Ply.sq (kq eig (V x) + 1) (Ply.tau * Q r) = C at *
  have e0 : mkRat 1 (2^50) = 8 * uR := by decide +kernel
  rw [e0] at n1 n2 n3 n4
  have d1 := mag_add b1 (mag_of (M := 8 * uR) n1 n2)
  have d2 := mag_add b2 (mag_of (M := 8 * uR) n3 n4)
  have f1 : Q (bW s) - Q s + (Q s - S) = Q (bW s) - S := by grind
  have f2 : Q (bW c) - Q c + (Q c - C) = Q (bW c) - C := by grind
  rw [f1] at d1
  rw [f2] at d2
  have z1 : sm + 8 * uR ≤ 1 := by decide +kernel
  have z2 : (2 * (sm + 8 * uR) + (sm + 8 * uR) * (sm + 8 * uR)) + (2 * (sm + 8 * uR) + (sm + 8 * uR) * (sm + 8 * uR)) + Ply.eps ≤ 33 * uR := by decide +kernel
  obtain ⟨g1, h1⟩ := near_sq z1 d1 (mag_of (M := 1) o1.1 o1.2)
  obtain ⟨g2, h2⟩ := near_sq z1 d2 (mag_of (M := 1) o2.1 o2.2)
  refine ⟨?_, h1, h2⟩
  have t := mag_add (mag_add g2 g1) ci
  have e3 : Q (bW c) * Q (bW c) - C * C + (Q (bW s) * Q (bW s) - S * S) + (C * C + S * S - 1) = Q (bW c) * Q (bW c) + Q (bW s) * Q (bW s) - 1 := by grind
  rw [e3] at t
  exact Rat.le_trans t z2

/-! ### two numbers turned forth and back -/
theorem mag0 : mag 0 ≤ 0 := by decide +kernel
theorem mag1 : mag 1 ≤ 1 := by decide +kernel
/-- a number of a product, brought to a fit one -/
theorem out_near {a b : V3} (D : DotW a b) {S1 S2 S3 : Rat} (h1 : mag (Q a.1 * Q b.1) ≤ S1) (h2 : mag (Q a.2.1 * Q b.2.1) ≤ S2) (h3 : mag (Q a.2.2 * Q b.2.2) ≤ S3) :
    mag (Q (bW (dW a b)) - (Q a.1 * Q b.1 + Q a.2.1 * Q b.2.1 + Q a.2.2 * Q b.2.2)) ≤ 4 * (uR * (S1 + S2 + S3)) + sm := by
  have u2 : 1000 * uR ≤ 1 := by decide +kernel
  have n := dt_near uR0 u2 Rat.le_refl D.dt h1 h2 h3
  have t := mag_add (bW_near D.d.fin) n
  have e : Q (bW (dW a b)) - Q (dW a b) + (Q (dW a b) - (Q a.1 * Q b.1 + Q a.2.1 * Q b.2.1 + Q a.2.2 * Q b.2.2)) = Q (bW (dW a b)) - (Q a.1 * Q b.1 + Q a.2.1 * Q b.2.1 + Q a.2.2 * Q b.2.2) := by grind
  rw [e] at t
  grind
theorem ends {u S σ p e1 e2 d P : Rat} (u0 : 0 ≤ u) (u1 : 1000 * u ≤ 1) (S0 : 0 ≤ S) (s0 : 0 ≤ σ) (hpS : p ≤ S) (hd : d = 33 * u) (he1 : e1 = 4 * (u * (2 * S)) + σ) (he2 : e2 = 4 * (u * (2 * (2 * (2 * S + e1)))) + σ)
    (h : P ≤ d * p + 4 * e1 + e2) : P ≤ 116 * (u * S) + 16 * σ := by
  subst hd he1 he2
  have a := Rat.mul_nonneg u0 S0
  have b := Rat.mul_nonneg a (show 0 ≤ 1 - 1000 * u by grind)
  have c := Rat.mul_nonneg u0 (show 0 ≤ S - p by grind)
  have e := Rat.mul_nonneg s0 (show 0 ≤ 1 - 1000 * u by grind)
  grind
theorem conv7 {a b A B : Rat} (h : mag a ≤ A) (e : a = b) (f : A = B) : mag b ≤ B := by rw [← e, ← f]; exact h
end Go.Proofs.Ytkpdnhbifokhlaa

namespace Go.Proofs.Ytkpdnhbifokhlaa
open Go.ChangeShapes Go.WideShapes Go.ChangeAt Go.RowKit Ieee.Own Pol

theorem D3.bb {p : V3} (hw : W3 p) (f : fitV p = true) : D3 (bV p) ∧ V (bV p).1 = V p.1 ∧ V (bV p).2.1 = V p.2.1 ∧ V (bV p).2.2 = V p.2.2 := by
  have B := fitV_bd hw f
  have fb : fitV (bV p) = true := by unfold fitV bV; rw [vnB_bW B.f1 B.b1, vnB_bW B.f2 B.b2, vnB_bW B.f3 B.b3]; rfl
  unfold fitV at f
  simp only [Bool.and_eq_true] at f
  exact ⟨fitV_wd B.fin.b.w fb, bW_fit B.f1 (vnB_spec hw.l1 f.1.1).2.1, bW_fit B.f2 (vnB_spec hw.l2 f.1.2).2.1, bW_fit B.f3 (vnB_spec hw.l3 f.2).2.1⟩
theorem Q0 : Q 0 = 0 := by decide +kernel
theorem tM_w {x s c : Nat} (A : Ang x) (T : Trig x s c) (a : Int) : W9 (tM a (bW s) (bW c) (negN (bW s))) ∧ fitM (tM a (bW s) (bW c) (negN (bW s))) = true ∧ Q (negN (bW s)) = -Q (bW s) := by
  obtain ⟨⟨f1, i1⟩, ⟨f2, i2⟩, f3, i3, e3⟩ := trig_ok A T
  have g1 := (bW_nz f1).fin
  have g2 := (bW_nz f2).fin
  obtain ⟨-, g3, v3⟩ := negN_spec g1
  have o := one_fin7.1
  have z : (0 : Nat) < 18446744073709551616 := by omega
  rw [e3] at i3
  refine ⟨?_, ?_, Q_neg v3⟩
  · unfold tM
    split
    · exact ⟨⟨o, z, z⟩, ⟨z, g2.1, g3.fin.1⟩, ⟨z, g1.1, g2.1⟩⟩
    · split
      · exact ⟨⟨g2.1, z, g1.1⟩, ⟨z, o, z⟩, ⟨g3.fin.1, z, g2.1⟩⟩
      · exact ⟨⟨g2.1, g3.fin.1, z⟩, ⟨g1.1, g2.1, z⟩, ⟨z, z, o⟩⟩
  · unfold tM
    split
    · unfold fitM fitV; dsimp only; rw [in_one, in_zero, i1, i2, i3]; rfl
    · split
      · unfold fitM fitV; dsimp only; rw [in_one, in_zero, i1, i2, i3]; rfl
      · unfold fitM fitV; dsimp only; rw [in_one, in_zero, i1, i2, i3]; rfl
def outV (m : M9) (v : V3) : V3 := bV (dW m.1 v, dW m.2.1 v, dW m.2.2 v)
/-- a row, with what its numbers are and how great -/
theorem row_near {r v : V3} (D : DotW r v) {α β γ A B G x y z : Rat} (e1 : Q r.1 = α) (e2 : Q r.2.1 = β) (e3 : Q r.2.2 = γ) (k1 : Q v.1 = x) (k2 : Q v.2.1 = y) (k3 : Q v.2.2 = z) (h1 : mag α ≤ A) (h2 : mag β ≤ B) (h3 : mag γ ≤ G) :
    mag (Q (bW (dW r v)) - (α * x + β * y + γ * z)) ≤ 4 * (uR * (A * mag x + B * mag y + G * mag z)) + sm := by
  subst e1 e2 e3 k1 k2 k3
  exact out_near D (mag_mul h1 Rat.le_refl) (mag_mul h2 Rat.le_refl) (mag_mul h3 Rat.le_refl)
def sz3 (v : V3) : Rat := mag (Q v.1) + mag (Q v.2.1) + mag (Q v.2.2)
theorem one_Q7 : Q oneW = 1 := one_Q
end Go.Proofs.Ytkpdnhbifokhlaa
