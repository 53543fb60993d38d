/- Proved here: what the texts Vbk, Vbl prove, one behind the other. -/
import Derived.Test.YtpdkciennccckaaJv11
import Derived.Test.YtpdkciennccckaaJv5
import Derived.Test.YtpdkciennccckaaJb9

namespace Go.Proofs.Ytpdkciennccckaa
open Ieee.Own Pol

/-! ### the circle -/
theorem sq_circle {y : Rat} (h1 : -Ply.top ≤ y) (h2 : y ≤ Ply.top) (k : Int) : mag (Ply.sq (k + 1) y * Ply.sq (k + 1) y + Ply.sq k y * Ply.sq k y - 1) ≤ Ply.eps := by
  have q := sq_parts k y
  have q' := sq_parts (k + 1) y
  have c := Ply.circle h1 h2
  have k4 : k % 4 = 0 ∨ k % 4 = 1 ∨ k % 4 = 2 ∨ k % 4 = 3 := by omega
  generalize Ply.s y = S at *
  generalize Ply.c y = C at *
  generalize Ply.eps = e at *
  rcases k4 with h | h | h | h
  · rw [q.1 h, q'.2.1 (by omega)]; exact mag_of (by grind) (by grind)
  · rw [q.2.1 h, q'.2.2.1 (by omega)]; exact mag_of (by grind) (by grind)
  · rw [q.2.2.1 h, q'.2.2.2 (by omega)]; exact mag_of (by grind) (by grind)
  · rw [q.2.2.2 h, q'.1 (by omega)]; exact mag_of (by grind) (by grind)
theorem near_sq {x X e : Rat} (e1 : e ≤ 1) (h : mag (x - X) ≤ e) (h1 : mag X ≤ 1) : mag (x * x - X * X) ≤ 2 * e + e * e ∧ mag x ≤ 2 := by
  have a := mag_add h (mag_add h1 h1)
  have e2 : x - X + (X + X) = x + X := by grind
  rw [e2] at a
  have p := mag_mul h a
  have e3 : (x - X) * (x + X) = x * x - X * X := by grind
  rw [e3] at p
  have b := mag_add h h1
  have e4 : x - X + X = x := by grind
  rw [e4] at b
  exact ⟨by grind, by grind⟩
/-- the words' circle -/
structure Circ (s c : Rat) : Prop where
  on : mag (c * c + s * s - 1) ≤ 33 * uR
  s2 : mag s ≤ 2
  c2 : mag c ≤ 2
theorem circ7 {x s c : Nat} (A : Ang x) (T : Trig x s c) : Circ (Q (bW s)) (Q (bW c)) := by
  obtain ⟨r, R, -, -⟩ := T.ex
  obtain ⟨⟨n1, n2⟩, n3, n4⟩ := trig_near A T R
  have bd := (R.rest A).Q_bd
  have tp := Ply.top_mul bd.1 bd.2
  have o1 := Ply.sq_le_one tp.1 tp.2 (kq eig (V x))
  have o2 := Ply.sq_le_one tp.1 tp.2 (kq eig (V x) + 1)
  have ci := sq_circle tp.1 tp.2 (kq eig (V x))
  have b1 := bW_near T.sz.fin
  have b2 := bW_near T.cz.fin
  generalize Ply.sq (kq eig (V x)) (Ply.tau * Q r) = S at *
  generalize Ply.sq (kq eig (V x) + 1) (Ply.tau * Q r) = C at *
  have e0 : mkRat 1 (2^50) = 8 * uR := by decide +kernel
  rw [e0] at n1 n2 n3 n4
  have d1 := mag_add b1 (mag_of (M := 8 * uR) n1 n2)
  have d2 := mag_add b2 (mag_of (M := 8 * uR) n3 n4)
  have f1 : Q (bW s) - Q s + (Q s - S) = Q (bW s) - S := by grind
  have f2 : Q (bW c) - Q c + (Q c - C) = Q (bW c) - C := by grind
  rw [f1] at d1
  rw [f2] at d2
  have z1 : sm + 8 * uR ≤ 1 := by decide +kernel
  have z2 : (2 * (sm + 8 * uR) + (sm + 8 * uR) * (sm + 8 * uR)) + (2 * (sm + 8 * uR) + (sm + 8 * uR) * (sm + 8 * uR)) + Ply.eps ≤ 33 * uR := by decide +kernel
  obtain ⟨g1, h1⟩ := near_sq z1 d1 (mag_of (M := 1) o1.1 o1.2)
  obtain ⟨g2, h2⟩ := near_sq z1 d2 (mag_of (M := 1) o2.1 o2.2)
  refine ⟨?_, h1, h2⟩
  have t := mag_add (mag_add g2 g1) ci
  have e3 : Q (bW c) * Q (bW c) - C * C + (Q (bW s) * Q (bW s) - S * S) + (C * C + S * S - 1) = Q (bW c) * Q (bW c) + Q (bW s) * Q (bW s) - 1 := by grind
  rw [e3] at t
  exact Rat.le_trans t z2

/-! ### two numbers turned forth and back -/
theorem turn_back {c s p q w1 w2 p' q' e1 e2 d : Rat} (hc : mag c ≤ 2) (hs : mag s ≤ 2) (hd : mag (c * c + s * s - 1) ≤ d) (h1 : mag (w1 - (c * p - s * q)) ≤ e1) (h2 : mag (w2 - (s * p + c * q)) ≤ e1)
    (h3 : mag (p' - (c * w1 + s * w2)) ≤ e2) (h4 : mag (q' - (c * w2 - s * w1)) ≤ e2) : mag (p' - p) ≤ d * mag p + 4 * e1 + e2 ∧ mag (q' - q) ≤ d * mag q + 4 * e1 + e2 := by
  constructor
  · have a := mag_mul hd (show mag p ≤ mag p from Rat.le_refl)
    have b := mag_add (mag_mul hc h1) (mag_mul hs h2)
    have t := mag_add (mag_add a b) h3
    have e : (c * c + s * s - 1) * p + (c * (w1 - (c * p - s * q)) + s * (w2 - (s * p + c * q))) + (p' - (c * w1 + s * w2)) = p' - p := by grind
    rw [e] at t
    grind
  · have a := mag_mul hd (show mag q ≤ mag q from Rat.le_refl)
    have b := mag_sub (mag_mul hc h2) (mag_mul hs h1)
    have t := mag_add (mag_add a b) h4
    have e : (c * c + s * s - 1) * q + (c * (w2 - (s * p + c * q)) - s * (w1 - (c * p - s * q))) + (q' - (c * w2 - s * w1)) = q' - q := by grind
    rw [e] at t
    grind
theorem mag0 : mag 0 ≤ 0 := by decide +kernel
theorem mag1 : mag 1 ≤ 1 := by decide +kernel
/-- a number of a product, brought to a fit one -/
theorem out_near {a b : V3} (D : DotW a b) {S1 S2 S3 : Rat} (h1 : mag (Q a.1 * Q b.1) ≤ S1) (h2 : mag (Q a.2.1 * Q b.2.1) ≤ S2) (h3 : mag (Q a.2.2 * Q b.2.2) ≤ S3) :
    mag (Q (bW (dW a b)) - (Q a.1 * Q b.1 + Q a.2.1 * Q b.2.1 + Q a.2.2 * Q b.2.2)) ≤ 4 * (uR * (S1 + S2 + S3)) + sm := by
  have u2 : 1000 * uR ≤ 1 := by decide +kernel
  have n := dt_near uR0 u2 Rat.le_refl D.dt h1 h2 h3
  have t := mag_add (bW_near D.d.fin) n
  have e : Q (bW (dW a b)) - Q (dW a b) + (Q (dW a b) - (Q a.1 * Q b.1 + Q a.2.1 * Q b.2.1 + Q a.2.2 * Q b.2.2)) = Q (bW (dW a b)) - (Q a.1 * Q b.1 + Q a.2.1 * Q b.2.1 + Q a.2.2 * Q b.2.2) := by grind
  rw [e] at t
  grind
/-- all in all -/
def bnd (S : Rat) : Rat := 116 * (uR * S) + 16 * sm
theorem sizes {c s p q w1 w2 S E1 : Rat} (hc : mag c ≤ 2) (hs : mag s ≤ 2) (hS : mag p + mag q ≤ S) (h1 : mag (w1 - (c * p - s * q)) ≤ E1) (h2 : mag (w2 - (s * p + c * q)) ≤ E1) : mag w1 ≤ 2 * S + E1 ∧ mag w2 ≤ 2 * S + E1 := by
  have P : mag p ≤ mag p := Rat.le_refl
  have R : mag q ≤ mag q := Rat.le_refl
  have a := mag_add h1 (mag_sub (mag_mul hc P) (mag_mul hs R))
  have b := mag_add h2 (mag_add (mag_mul hs P) (mag_mul hc R))
  have e1 : w1 - (c * p - s * q) + (c * p - s * q) = w1 := by grind
  have e2 : w2 - (s * p + c * q) + (s * p + c * q) = w2 := by grind
  rw [e1] at a
  rw [e2] at b
  exact ⟨by grind, by grind⟩
theorem ends {u S σ p e1 e2 d P : Rat} (u0 : 0 ≤ u) (u1 : 1000 * u ≤ 1) (S0 : 0 ≤ S) (s0 : 0 ≤ σ) (hpS : p ≤ S) (hd : d = 33 * u) (he1 : e1 = 4 * (u * (2 * S)) + σ) (he2 : e2 = 4 * (u * (2 * (2 * (2 * S + e1)))) + σ)
    (h : P ≤ d * p + 4 * e1 + e2) : P ≤ 116 * (u * S) + 16 * σ := by
  subst hd he1 he2
  have a := Rat.mul_nonneg u0 S0
  have b := Rat.mul_nonneg a (show 0 ≤ 1 - 1000 * u by grind)
  have c := Rat.mul_nonneg u0 (show 0 ≤ S - p by grind)
  have e := Rat.mul_nonneg s0 (show 0 ≤ 1 - 1000 * u by grind)
  grind
theorem conv7 {a b A B : Rat} (h : mag a ≤ A) (e : a = b) (f : A = B) : mag b ≤ B := by rw [← e, ← f]; exact h
/-- the two numbers that turn -/
theorem plane {c s p q w1 w2 p' q' S : Rat} (C : Circ s c) (hS : mag p + mag q ≤ S)
    (n1 : mag (w1 - (c * p - s * q)) ≤ 4 * (uR * (2 * mag p + 2 * mag q)) + sm) (n2 : mag (w2 - (s * p + c * q)) ≤ 4 * (uR * (2 * mag p + 2 * mag q)) + sm)
    (m1 : mag (p' - (c * w1 + s * w2)) ≤ 4 * (uR * (2 * mag w1 + 2 * mag w2)) + sm) (m2 : mag (q' - (c * w2 - s * w1)) ≤ 4 * (uR * (2 * mag w1 + 2 * mag w2)) + sm) :
    mag (p' - p) ≤ bnd S ∧ mag (q' - q) ≤ bnd S := by
  obtain ⟨on, s2, c2⟩ := C
  have u0 := uR0
  have u1 : 1000 * uR ≤ 1 := by decide +kernel
  have s0 := sm0
  have p0 := (mag_le p).2.2
  have q0 := (mag_le q).2.2
  unfold bnd
  generalize uR = u at *
  generalize sm = σ at *
  have S0 : 0 ≤ S := by grind
  have a1 := Rat.mul_le_mul_of_nonneg_left (show 2 * mag p + 2 * mag q ≤ 2 * S by grind) u0
  have k1 : mag (w1 - (c * p - s * q)) ≤ 4 * (u * (2 * S)) + σ := by grind
  have k2 : mag (w2 - (s * p + c * q)) ≤ 4 * (u * (2 * S)) + σ := by grind
  obtain ⟨z1, z2⟩ := sizes c2 s2 hS k1 k2
  generalize hE : 4 * (u * (2 * S)) + σ = E1 at *
  have a2 := Rat.mul_le_mul_of_nonneg_left (show 2 * mag w1 + 2 * mag w2 ≤ 2 * (2 * (2 * S + E1)) by grind) u0
  have l1 : mag (p' - (c * w1 + s * w2)) ≤ 4 * (u * (2 * (2 * (2 * S + E1)))) + σ := by grind
  have l2 : mag (q' - (c * w2 - s * w1)) ≤ 4 * (u * (2 * (2 * (2 * S + E1)))) + σ := by grind
  obtain ⟨r1, r2⟩ := turn_back c2 s2 on k1 k2 l1 l2
  exact ⟨ends u0 u1 S0 s0 (by grind) rfl hE.symm rfl r1, ends u0 u1 S0 s0 (by grind) rfl hE.symm rfl r2⟩
/-- the number of the axis -/
theorem axis7 {p w p' S : Rat} (hS : mag p ≤ S) (n : mag (w - p) ≤ 4 * (uR * mag p) + sm) (m : mag (p' - w) ≤ 4 * (uR * mag w) + sm) : mag (p' - p) ≤ bnd S := by
  have u0 := uR0
  have u1 : 1000 * uR ≤ 1 := by decide +kernel
  have s0 := sm0
  have p0 := (mag_le p).2.2
  unfold bnd
  generalize uR = u at *
  generalize sm = σ at *
  have S0 : 0 ≤ S := by grind
  have t := mag_add m n
  have e : p' - w + (w - p) = p' - p := by grind
  rw [e] at t
  have w1 := mag_add n (show mag p ≤ S from hS)
  have e' : w - p + p = w := by grind
  rw [e'] at w1
  have a := Rat.mul_le_mul_of_nonneg_left hS u0
  have uS := Rat.mul_nonneg u0 S0
  have uu := Rat.mul_nonneg uS (show 0 ≤ 1 - 1000 * u by grind)
  have us := Rat.mul_nonneg s0 (show 0 ≤ 1 - 1000 * u by grind)
  have b := Rat.mul_le_mul_of_nonneg_left (show mag w ≤ 4 * (u * S) + σ + S by grind) u0
  grind
end Go.Proofs.Ytpdkciennccckaa

namespace Go.Proofs.Ytpdkciennccckaa
open Go.ChangeShapes Go.WideShapes Go.ChangeAt Go.RowKit Ieee.Own Pol

theorem D3.bb {p : V3} (hw : W3 p) (f : fitV p = true) : D3 (bV p) ∧ V (bV p).1 = V p.1 ∧ V (bV p).2.1 = V p.2.1 ∧ V (bV p).2.2 = V p.2.2 := by
  have B := fitV_bd hw f
  have fb : fitV (bV p) = true := by unfold fitV bV; rw [vnB_bW B.f1 B.b1, vnB_bW B.f2 B.b2, vnB_bW B.f3 B.b3]; rfl
  unfold fitV at f
  simp only [Bool.and_eq_true] at f
  exact ⟨fitV_wd B.fin.b.w fb, bW_fit B.f1 (vnB_spec hw.l1 f.1.1).2.1, bW_fit B.f2 (vnB_spec hw.l2 f.1.2).2.1, bW_fit B.f3 (vnB_spec hw.l3 f.2).2.1⟩
theorem Q0 : Q 0 = 0 := by decide +kernel
theorem Q_bw {x : Nat} (hx : FinW x) (f : fitB x = true) : Q (bW x) = Q x := by unfold Q; rw [bW_fit hx f]
theorem tM_w {x s c : Nat} (A : Ang x) (T : Trig x s c) (a : Int) : W9 (tM a (bW s) (bW c) (negN (bW s))) ∧ fitM (tM a (bW s) (bW c) (negN (bW s))) = true ∧ Q (negN (bW s)) = -Q (bW s) := by
  obtain ⟨⟨f1, i1⟩, ⟨f2, i2⟩, f3, i3, e3⟩ := trig_ok A T
  have g1 := (bW_nz f1).fin
  have g2 := (bW_nz f2).fin
  obtain ⟨-, g3, v3⟩ := negN_spec g1
  have o := one_fin7.1
  have z : (0 : Nat) < 18446744073709551616 := by omega
  rw [e3] at i3
  refine ⟨?_, ?_, Q_neg v3⟩
  · unfold tM
    split
    · exact ⟨⟨o, z, z⟩, ⟨z, g2.1, g3.fin.1⟩, ⟨z, g1.1, g2.1⟩⟩
    · split
      · exact ⟨⟨g2.1, z, g1.1⟩, ⟨z, o, z⟩, ⟨g3.fin.1, z, g2.1⟩⟩
      · exact ⟨⟨g2.1, g3.fin.1, z⟩, ⟨g1.1, g2.1, z⟩, ⟨z, z, o⟩⟩
  · unfold tM
    split
    · unfold fitM fitV; dsimp only; rw [in_one, in_zero, i1, i2, i3]; rfl
    · split
      · unfold fitM fitV; dsimp only; rw [in_one, in_zero, i1, i2, i3]; rfl
      · unfold fitM fitV; dsimp only; rw [in_one, in_zero, i1, i2, i3]; rfl
def outV (m : M9) (v : V3) : V3 := bV (dW m.1 v, dW m.2.1 v, dW m.2.2 v)
/-- a row, with what its numbers are and how great -/
theorem row_near {r v : V3} (D : DotW r v) {α β γ A B G x y z : Rat} (e1 : Q r.1 = α) (e2 : Q r.2.1 = β) (e3 : Q r.2.2 = γ) (k1 : Q v.1 = x) (k2 : Q v.2.1 = y) (k3 : Q v.2.2 = z) (h1 : mag α ≤ A) (h2 : mag β ≤ B) (h3 : mag γ ≤ G) :
    mag (Q (bW (dW r v)) - (α * x + β * y + γ * z)) ≤ 4 * (uR * (A * mag x + B * mag y + G * mag z)) + sm := by
  subst e1 e2 e3 k1 k2 k3
  exact out_near D (mag_mul h1 Rat.le_refl) (mag_mul h2 Rat.le_refl) (mag_mul h3 Rat.le_refl)
structure Back (v u : V3) (S : Rat) : Prop where
  b1 : mag (Q u.1 - Q v.1) ≤ bnd S
  b2 : mag (Q u.2.1 - Q v.2.1) ≤ bnd S
  b3 : mag (Q u.2.2 - Q v.2.2) ≤ bnd S
def sz3 (v : V3) : Rat := mag (Q v.1) + mag (Q v.2.1) + mag (Q v.2.2)
theorem one_Q7 : Q oneW = 1 := one_Q
theorem back0 {x sw cw : Nat} (A : Ang x) (T : Trig x sw cw) {v : V3} (hv : W3 v) (fv : fitV v = true) (fw : fitV (outV (tM 0 (bW sw) (bW cw) (negN (bW sw))) v) = true) :
    Back v (outV (bM (colM (tM 0 (bW sw) (bW cw) (negN (bW sw))))) (outV (tM 0 (bW sw) (bW cw) (negN (bW sw))) v)) (sz3 v) := by
  obtain ⟨mw, mf, hn⟩ := tM_w A T 0
  have C := circ7 A T
  have E := fitV_wd hv fv
  have D := fitM_wd mw mf
  have cw' := col_w mw
  have cf := col_fit mf
  have g := fitM_of cf
  have D1 := D3.bb cw'.w1 g.1
  have D2 := D3.bb cw'.w2 g.2.1
  have D4 := D3.bb cw'.w3 g.2.2
  rw [tM0] at *
  have o1 := dot_wd D.d1 E
  have o2 := dot_wd D.d2 E
  have o3 := dot_wd D.d3 E
  have ww : W3 (outV ((oneW, 0, 0), (0, bW cw, negN (bW sw)), (0, bW sw, bW cw)) v) := (F3.b ⟨o1.d.fin, o2.d.fin, o3.d.fin⟩).w
  have G := fitV_wd ww fw
  have p1 := dot_wd D1.1 G
  have p2 := dot_wd D2.1 G
  have p3 := dot_wd D4.1 G
  have ns2 : mag (-Q (bW sw)) ≤ 2 := by rw [mag_neg]; exact C.s2
  have n1 := row_near o1 one_Q7 Q0 Q0 rfl rfl rfl mag1 mag0 mag0
  have n2 := row_near o2 Q0 rfl hn rfl rfl rfl mag0 C.c2 ns2
  have n3 := row_near o3 Q0 rfl rfl rfl rfl rfl mag0 C.s2 C.c2
  have m1 := row_near p1 ((Q_congr D1.2.1).trans one_Q7) ((Q_congr D1.2.2.1).trans Q0) ((Q_congr D1.2.2.2).trans Q0) rfl rfl rfl mag1 mag0 mag0
  have m2 := row_near p2 ((Q_congr D2.2.1).trans Q0) ((Q_congr D2.2.2.1).trans rfl) ((Q_congr D2.2.2.2).trans rfl) rfl rfl rfl mag0 C.c2 C.s2
  have m3 := row_near p3 ((Q_congr D4.2.1).trans Q0) ((Q_congr D4.2.2.1).trans hn) ((Q_congr D4.2.2.2).trans rfl) rfl rfl rfl mag0 ns2 C.c2
  have n1 : mag ((Q (outV ((oneW, 0, 0), (0, bW cw, negN (bW sw)), (0, bW sw, bW cw)) v).1) - (1 * (Q v.1) + 0 * (Q v.2.1) + 0 * (Q v.2.2))) ≤ 4 * (uR * (1 * mag (Q v.1) + 0 * mag (Q v.2.1) + 0 * mag (Q v.2.2))) + sm := n1
  have m1 : mag ((Q (outV (bM (colM ((oneW, 0, 0), (0, bW cw, negN (bW sw)), (0, bW sw, bW cw)))) (outV ((oneW, 0, 0), (0, bW cw, negN (bW sw)), (0, bW sw, bW cw)) v)).1) - (1 * (Q (outV ((oneW, 0, 0), (0, bW cw, negN (bW sw)), (0, bW sw, bW cw)) v).1) + 0 * (Q (outV ((oneW, 0, 0), (0, bW cw, negN (bW sw)), (0, bW sw, bW cw)) v).2.1) + 0 * (Q (outV ((oneW, 0, 0), (0, bW cw, negN (bW sw)), (0, bW sw, bW cw)) v).2.2))) ≤ 4 * (uR * (1 * mag (Q (outV ((oneW, 0, 0), (0, bW cw, negN (bW sw)), (0, bW sw, bW cw)) v).1) + 0 * mag (Q (outV ((oneW, 0, 0), (0, bW cw, negN (bW sw)), (0, bW sw, bW cw)) v).2.1) + 0 * mag (Q (outV ((oneW, 0, 0), (0, bW cw, negN (bW sw)), (0, bW sw, bW cw)) v).2.2))) + sm := m1
  have n2 : mag ((Q (outV ((oneW, 0, 0), (0, bW cw, negN (bW sw)), (0, bW sw, bW cw)) v).2.1) - (0 * (Q v.1) + (Q (bW cw)) * (Q v.2.1) + (-(Q (bW sw))) * (Q v.2.2))) ≤ 4 * (uR * (0 * mag (Q v.1) + 2 * mag (Q v.2.1) + 2 * mag (Q v.2.2))) + sm := n2
  have m2 : mag ((Q (outV (bM (colM ((oneW, 0, 0), (0, bW cw, negN (bW sw)), (0, bW sw, bW cw)))) (outV ((oneW, 0, 0), (0, bW cw, negN (bW sw)), (0, bW sw, bW cw)) v)).2.1) - (0 * (Q (outV ((oneW, 0, 0), (0, bW cw, negN (bW sw)), (0, bW sw, bW cw)) v).1) + (Q (bW cw)) * (Q (outV ((oneW, 0, 0), (0, bW cw, negN (bW sw)), (0, bW sw, bW cw)) v).2.1) + (Q (bW sw)) * (Q (outV ((oneW, 0, 0), (0, bW cw, negN (bW sw)), (0, bW sw, bW cw)) v).2.2))) ≤ 4 * (uR * (0 * mag (Q (outV ((oneW, 0, 0), (0, bW cw, negN (bW sw)), (0, bW sw, bW cw)) v).1) + 2 * mag (Q (outV ((oneW, 0, 0), (0, bW cw, negN (bW sw)), (0, bW sw, bW cw)) v).2.1) + 2 * mag (Q (outV ((oneW, 0, 0), (0, bW cw, negN (bW sw)), (0, bW sw, bW cw)) v).2.2))) + sm := m2
  have n3 : mag ((Q (outV ((oneW, 0, 0), (0, bW cw, negN (bW sw)), (0, bW sw, bW cw)) v).2.2) - (0 * (Q v.1) + (Q (bW sw)) * (Q v.2.1) + (Q (bW cw)) * (Q v.2.2))) ≤ 4 * (uR * (0 * mag (Q v.1) + 2 * mag (Q v.2.1) + 2 * mag (Q v.2.2))) + sm := n3
  have m3 : mag ((Q (outV (bM (colM ((oneW, 0, 0), (0, bW cw, negN (bW sw)), (0, bW sw, bW cw)))) (outV ((oneW, 0, 0), (0, bW cw, negN (bW sw)), (0, bW sw, bW cw)) v)).2.2) - (0 * (Q (outV ((oneW, 0, 0), (0, bW cw, negN (bW sw)), (0, bW sw, bW cw)) v).1) + (-(Q (bW sw))) * (Q (outV ((oneW, 0, 0), (0, bW cw, negN (bW sw)), (0, bW sw, bW cw)) v).2.1) + (Q (bW cw)) * (Q (outV ((oneW, 0, 0), (0, bW cw, negN (bW sw)), (0, bW sw, bW cw)) v).2.2))) ≤ 4 * (uR * (0 * mag (Q (outV ((oneW, 0, 0), (0, bW cw, negN (bW sw)), (0, bW sw, bW cw)) v).1) + 2 * mag (Q (outV ((oneW, 0, 0), (0, bW cw, negN (bW sw)), (0, bW sw, bW cw)) v).2.1) + 2 * mag (Q (outV ((oneW, 0, 0), (0, bW cw, negN (bW sw)), (0, bW sw, bW cw)) v).2.2))) + sm := m3
  clear o1 o2 o3 p1 p2 p3 D1 D2 D4 G ww D E mw mf cw' cf g fw hn ns2
  have x0 := (mag_le (Q v.1)).2.2
  have y0 := (mag_le (Q v.2.1)).2.2
  have z0 := (mag_le (Q v.2.2)).2.2
  have hS : sz3 v = mag (Q v.1) + mag (Q v.2.1) + mag (Q v.2.2) := rfl
  generalize (Q (outV ((oneW, 0, 0), (0, bW cw, negN (bW sw)), (0, bW sw, bW cw)) v).1) = t1 at *
  generalize (Q (outV ((oneW, 0, 0), (0, bW cw, negN (bW sw)), (0, bW sw, bW cw)) v).2.1) = t2 at *
  generalize (Q (outV ((oneW, 0, 0), (0, bW cw, negN (bW sw)), (0, bW sw, bW cw)) v).2.2) = t3 at *
  have R1 : ∃ z, z = (Q (outV (bM (colM ((oneW, 0, 0), (0, bW cw, negN (bW sw)), (0, bW sw, bW cw)))) (outV ((oneW, 0, 0), (0, bW cw, negN (bW sw)), (0, bW sw, bW cw)) v)).1) := ⟨_, rfl⟩
  obtain ⟨r1, R1⟩ := R1
  rw [← R1] at m1
  have R2 : ∃ z, z = (Q (outV (bM (colM ((oneW, 0, 0), (0, bW cw, negN (bW sw)), (0, bW sw, bW cw)))) (outV ((oneW, 0, 0), (0, bW cw, negN (bW sw)), (0, bW sw, bW cw)) v)).2.1) := ⟨_, rfl⟩
  obtain ⟨r2, R2⟩ := R2
  rw [← R2] at m2
  have R3 : ∃ z, z = (Q (outV (bM (colM ((oneW, 0, 0), (0, bW cw, negN (bW sw)), (0, bW sw, bW cw)))) (outV ((oneW, 0, 0), (0, bW cw, negN (bW sw)), (0, bW sw, bW cw)) v)).2.2) := ⟨_, rfl⟩
  obtain ⟨r3, R3⟩ := R3
  rw [← R3] at m3
  have pl := plane (S := sz3 v) (p := (Q v.2.1)) (q := (Q v.2.2)) (w1 := t2) (w2 := t3) (p' := r2) (q' := r3) C (by rw [hS]; grind) (conv7 n2 (by grind) (by grind)) (conv7 n3 (by grind) (by grind)) (conv7 m2 (by grind) (by grind)) (conv7 m3 (by grind) (by grind))
  have ax := axis7 (S := sz3 v) (p := (Q v.1)) (w := t1) (p' := r1) (by rw [hS]; grind) (conv7 n1 (by grind) (by grind)) (conv7 m1 (by grind) (by grind))
  rw [R2, R3] at pl
  rw [R1] at ax
  exact ⟨ax, pl.1, pl.2⟩
theorem back1 {x sw cw : Nat} (A : Ang x) (T : Trig x sw cw) {v : V3} (hv : W3 v) (fv : fitV v = true) (fw : fitV (outV (tM 1 (bW sw) (bW cw) (negN (bW sw))) v) = true) :
    Back v (outV (bM (colM (tM 1 (bW sw) (bW cw) (negN (bW sw))))) (outV (tM 1 (bW sw) (bW cw) (negN (bW sw))) v)) (sz3 v) := by
  obtain ⟨mw, mf, hn⟩ := tM_w A T 1
  have C := circ7 A T
  have E := fitV_wd hv fv
  have D := fitM_wd mw mf
  have cw' := col_w mw
  have cf := col_fit mf
  have g := fitM_of cf
  have D1 := D3.bb cw'.w1 g.1
  have D2 := D3.bb cw'.w2 g.2.1
  have D4 := D3.bb cw'.w3 g.2.2
  rw [tM1] at *
  have o1 := dot_wd D.d1 E
  have o2 := dot_wd D.d2 E
  have o3 := dot_wd D.d3 E
  have ww : W3 (outV ((bW cw, 0, bW sw), (0, oneW, 0), (negN (bW sw), 0, bW cw)) v) := (F3.b ⟨o1.d.fin, o2.d.fin, o3.d.fin⟩).w
  have G := fitV_wd ww fw
  have p1 := dot_wd D1.1 G
  have p2 := dot_wd D2.1 G
  have p3 := dot_wd D4.1 G
  have ns2 : mag (-Q (bW sw)) ≤ 2 := by rw [mag_neg]; exact C.s2
  have n1 := row_near o1 rfl Q0 rfl rfl rfl rfl C.c2 mag0 C.s2
  have n2 := row_near o2 Q0 one_Q7 Q0 rfl rfl rfl mag0 mag1 mag0
  have n3 := row_near o3 hn Q0 rfl rfl rfl rfl ns2 mag0 C.c2
  have m1 := row_near p1 ((Q_congr D1.2.1).trans rfl) ((Q_congr D1.2.2.1).trans Q0) ((Q_congr D1.2.2.2).trans hn) rfl rfl rfl C.c2 mag0 ns2
  have m2 := row_near p2 ((Q_congr D2.2.1).trans Q0) ((Q_congr D2.2.2.1).trans one_Q7) ((Q_congr D2.2.2.2).trans Q0) rfl rfl rfl mag0 mag1 mag0
  have m3 := row_near p3 ((Q_congr D4.2.1).trans rfl) ((Q_congr D4.2.2.1).trans Q0) ((Q_congr D4.2.2.2).trans rfl) rfl rfl rfl C.s2 mag0 C.c2
  have n1 : mag ((Q (outV ((bW cw, 0, bW sw), (0, oneW, 0), (negN (bW sw), 0, bW cw)) v).1) - ((Q (bW cw)) * (Q v.1) + 0 * (Q v.2.1) + (Q (bW sw)) * (Q v.2.2))) ≤ 4 * (uR * (2 * mag (Q v.1) + 0 * mag (Q v.2.1) + 2 * mag (Q v.2.2))) + sm := n1
  have m1 : mag ((Q (outV (bM (colM ((bW cw, 0, bW sw), (0, oneW, 0), (negN (bW sw), 0, bW cw)))) (outV ((bW cw, 0, bW sw), (0, oneW, 0), (negN (bW sw), 0, bW cw)) v)).1) - ((Q (bW cw)) * (Q (outV ((bW cw, 0, bW sw), (0, oneW, 0), (negN (bW sw), 0, bW cw)) v).1) + 0 * (Q (outV ((bW cw, 0, bW sw), (0, oneW, 0), (negN (bW sw), 0, bW cw)) v).2.1) + (-(Q (bW sw))) * (Q (outV ((bW cw, 0, bW sw), (0, oneW, 0), (negN (bW sw), 0, bW cw)) v).2.2))) ≤ 4 * (uR * (2 * mag (Q (outV ((bW cw, 0, bW sw), (0, oneW, 0), (negN (bW sw), 0, bW cw)) v).1) + 0 * mag (Q (outV ((bW cw, 0, bW sw), (0, oneW, 0), (negN (bW sw), 0, bW cw)) v).2.1) + 2 * mag (Q (outV ((bW cw, 0, bW sw), (0, oneW, 0), (negN (bW sw), 0, bW cw)) v).2.2))) + sm := m1
  have n2 : mag ((Q (outV ((bW cw, 0, bW sw), (0, oneW, 0), (negN (bW sw), 0, bW cw)) v).2.1) - (0 * (Q v.1) + 1 * (Q v.2.1) + 0 * (Q v.2.2))) ≤ 4 * (uR * (0 * mag (Q v.1) + 1 * mag (Q v.2.1) + 0 * mag (Q v.2.2))) + sm := n2
  have m2 : mag ((Q (outV (bM (colM ((bW cw, 0, bW sw), (0, oneW, 0), (negN (bW sw), 0, bW cw)))) (outV ((bW cw, 0, bW sw), (0, oneW, 0), (negN (bW sw), 0, bW cw)) v)).2.1) - (0 * (Q (outV ((bW cw, 0, bW sw), (0, oneW, 0), (negN (bW sw), 0, bW cw)) v).1) + 1 * (Q (outV ((bW cw, 0, bW sw), (0, oneW, 0), (negN (bW sw), 0, bW cw)) v).2.1) + 0 * (Q (outV ((bW cw, 0, bW sw), (0, oneW, 0), (negN (bW sw), 0, bW cw)) v).2.2))) ≤ 4 * (uR * (0 * mag (Q (outV ((bW cw, 0, bW sw), (0, oneW, 0), (negN (bW sw), 0, bW cw)) v).1) + 1 * mag (Q (outV ((bW cw, 0, bW sw), (0, oneW, 0), (negN (bW sw), 0, bW cw)) v).2.1) + 0 * mag (Q (outV ((bW cw, 0, bW sw), (0, oneW, 0), (negN (bW sw), 0, bW cw)) v).2.2))) + sm := m2
  have n3 : mag ((Q (outV ((bW cw, 0, bW sw), (0, oneW, 0), (negN (bW sw), 0, bW cw)) v).2.2) - ((-(Q (bW sw))) * (Q v.1) + 0 * (Q v.2.1) + (Q (bW cw)) * (Q v.2.2))) ≤ 4 * (uR * (2 * mag (Q v.1) + 0 * mag (Q v.2.1) + 2 * mag (Q v.2.2))) + sm := n3
  have m3 : mag ((Q (outV (bM (colM ((bW cw, 0, bW sw), (0, oneW, 0), (negN (bW sw), 0, bW cw)))) (outV ((bW cw, 0, bW sw), (0, oneW, 0), (negN (bW sw), 0, bW cw)) v)).2.2) - ((Q (bW sw)) * (Q (outV ((bW cw, 0, bW sw), (0, oneW, 0), (negN (bW sw), 0, bW cw)) v).1) + 0 * (Q (outV ((bW cw, 0, bW sw), (0, oneW, 0), (negN (bW sw), 0, bW cw)) v).2.1) + (Q (bW cw)) * (Q (outV ((bW cw, 0, bW sw), (0, oneW, 0), (negN (bW sw), 0, bW cw)) v).2.2))) ≤ 4 * (uR * (2 * mag (Q (outV ((bW cw, 0, bW sw), (0, oneW, 0), (negN (bW sw), 0, bW cw)) v).1) + 0 * mag (Q (outV ((bW cw, 0, bW sw), (0, oneW, 0), (negN (bW sw), 0, bW cw)) v).2.1) + 2 * mag (Q (outV ((bW cw, 0, bW sw), (0, oneW, 0), (negN (bW sw), 0, bW cw)) v).2.2))) + sm := m3
  clear o1 o2 o3 p1 p2 p3 D1 D2 D4 G ww D E mw mf cw' cf g fw hn ns2
  have x0 := (mag_le (Q v.1)).2.2
  have y0 := (mag_le (Q v.2.1)).2.2
  have z0 := (mag_le (Q v.2.2)).2.2
  have hS : sz3 v = mag (Q v.1) + mag (Q v.2.1) + mag (Q v.2.2) := rfl
  generalize (Q (outV ((bW cw, 0, bW sw), (0, oneW, 0), (negN (bW sw), 0, bW cw)) v).1) = t1 at *
  generalize (Q (outV ((bW cw, 0, bW sw), (0, oneW, 0), (negN (bW sw), 0, bW cw)) v).2.1) = t2 at *
  generalize (Q (outV ((bW cw, 0, bW sw), (0, oneW, 0), (negN (bW sw), 0, bW cw)) v).2.2) = t3 at *
  have R1 : ∃ z, z = (Q (outV (bM (colM ((bW cw, 0, bW sw), (0, oneW, 0), (negN (bW sw), 0, bW cw)))) (outV ((bW cw, 0, bW sw), (0, oneW, 0), (negN (bW sw), 0, bW cw)) v)).1) := ⟨_, rfl⟩
  obtain ⟨r1, R1⟩ := R1
  rw [← R1] at m1
  have R2 : ∃ z, z = (Q (outV (bM (colM ((bW cw, 0, bW sw), (0, oneW, 0), (negN (bW sw), 0, bW cw)))) (outV ((bW cw, 0, bW sw), (0, oneW, 0), (negN (bW sw), 0, bW cw)) v)).2.1) := ⟨_, rfl⟩
  obtain ⟨r2, R2⟩ := R2
  rw [← R2] at m2
  have R3 : ∃ z, z = (Q (outV (bM (colM ((bW cw, 0, bW sw), (0, oneW, 0), (negN (bW sw), 0, bW cw)))) (outV ((bW cw, 0, bW sw), (0, oneW, 0), (negN (bW sw), 0, bW cw)) v)).2.2) := ⟨_, rfl⟩
  obtain ⟨r3, R3⟩ := R3
  rw [← R3] at m3
  have pl := plane (S := sz3 v) (p := (Q v.2.2)) (q := (Q v.1)) (w1 := t3) (w2 := t1) (p' := r3) (q' := r1) C (by rw [hS]; grind) (conv7 n3 (by grind) (by grind)) (conv7 n1 (by grind) (by grind)) (conv7 m3 (by grind) (by grind)) (conv7 m1 (by grind) (by grind))
  have ax := axis7 (S := sz3 v) (p := (Q v.2.1)) (w := t2) (p' := r2) (by rw [hS]; grind) (conv7 n2 (by grind) (by grind)) (conv7 m2 (by grind) (by grind))
  rw [R3, R1] at pl
  rw [R2] at ax
  exact ⟨pl.2, ax, pl.1⟩
theorem back2 {x sw cw : Nat} (A : Ang x) (T : Trig x sw cw) {v : V3} (hv : W3 v) (fv : fitV v = true) (fw : fitV (outV (tM 2 (bW sw) (bW cw) (negN (bW sw))) v) = true) :
    Back v (outV (bM (colM (tM 2 (bW sw) (bW cw) (negN (bW sw))))) (outV (tM 2 (bW sw) (bW cw) (negN (bW sw))) v)) (sz3 v) := by
  obtain ⟨mw, mf, hn⟩ := tM_w A T 2
  have C := circ7 A T
  have E := fitV_wd hv fv
  have D := fitM_wd mw mf
  have cw' := col_w mw
  have cf := col_fit mf
  have g := fitM_of cf
  have D1 := D3.bb cw'.w1 g.1
  have D2 := D3.bb cw'.w2 g.2.1
  have D4 := D3.bb cw'.w3 g.2.2
  rw [tM2] at *
  have o1 := dot_wd D.d1 E
  have o2 := dot_wd D.d2 E
  have o3 := dot_wd D.d3 E
  have ww : W3 (outV ((bW cw, negN (bW sw), 0), (bW sw, bW cw, 0), (0, 0, oneW)) v) := (F3.b ⟨o1.d.fin, o2.d.fin, o3.d.fin⟩).w
  have G := fitV_wd ww fw
  have p1 := dot_wd D1.1 G
  have p2 := dot_wd D2.1 G
  have p3 := dot_wd D4.1 G
  have ns2 : mag (-Q (bW sw)) ≤ 2 := by rw [mag_neg]; exact C.s2
  have n1 := row_near o1 rfl hn Q0 rfl rfl rfl C.c2 ns2 mag0
  have n2 := row_near o2 rfl rfl Q0 rfl rfl rfl C.s2 C.c2 mag0
  have n3 := row_near o3 Q0 Q0 one_Q7 rfl rfl rfl mag0 mag0 mag1
  have m1 := row_near p1 ((Q_congr D1.2.1).trans rfl) ((Q_congr D1.2.2.1).trans rfl) ((Q_congr D1.2.2.2).trans Q0) rfl rfl rfl C.c2 C.s2 mag0
  have m2 := row_near p2 ((Q_congr D2.2.1).trans hn) ((Q_congr D2.2.2.1).trans rfl) ((Q_congr D2.2.2.2).trans Q0) rfl rfl rfl ns2 C.c2 mag0
  have m3 := row_near p3 ((Q_congr D4.2.1).trans Q0) ((Q_congr D4.2.2.1).trans Q0) ((Q_congr D4.2.2.2).trans one_Q7) rfl rfl rfl mag0 mag0 mag1
  have n1 : mag ((Q (outV ((bW cw, negN (bW sw), 0), (bW sw, bW cw, 0), (0, 0, oneW)) v).1) - ((Q (bW cw)) * (Q v.1) + (-(Q (bW sw))) * (Q v.2.1) + 0 * (Q v.2.2))) ≤ 4 * (uR * (2 * mag (Q v.1) + 2 * mag (Q v.2.1) + 0 * mag (Q v.2.2))) + sm := n1
  have m1 : mag ((Q (outV (bM (colM ((bW cw, negN (bW sw), 0), (bW sw, bW cw, 0), (0, 0, oneW)))) (outV ((bW cw, negN (bW sw), 0), (bW sw, bW cw, 0), (0, 0, oneW)) v)).1) - ((Q (bW cw)) * (Q (outV ((bW cw, negN (bW sw), 0), (bW sw, bW cw, 0), (0, 0, oneW)) v).1) + (Q (bW sw)) * (Q (outV ((bW cw, negN (bW sw), 0), (bW sw, bW cw, 0), (0, 0, oneW)) v).2.1) + 0 * (Q (outV ((bW cw, negN (bW sw), 0), (bW sw, bW cw, 0), (0, 0, oneW)) v).2.2))) ≤ 4 * (uR * (2 * mag (Q (outV ((bW cw, negN (bW sw), 0), (bW sw, bW cw, 0), (0, 0, oneW)) v).1) + 2 * mag (Q (outV ((bW cw, negN (bW sw), 0), (bW sw, bW cw, 0), (0, 0, oneW)) v).2.1) + 0 * mag (Q (outV ((bW cw, negN (bW sw), 0), (bW sw, bW cw, 0), (0, 0, oneW)) v).2.2))) + sm := m1
  have n2 : mag ((Q (outV ((bW cw, negN (bW sw), 0), (bW sw, bW cw, 0), (0, 0, oneW)) v).2.1) - ((Q (bW sw)) * (Q v.1) + (Q (bW cw)) * (Q v.2.1) + 0 * (Q v.2.2))) ≤ 4 * (uR * (2 * mag (Q v.1) + 2 * mag (Q v.2.1) + 0 * mag (Q v.2.2))) + sm := n2
  have m2 : mag ((Q (outV (bM (colM ((bW cw, negN (bW sw), 0), (bW sw, bW cw, 0), (0, 0, oneW)))) (outV ((bW cw, negN (bW sw), 0), (bW sw, bW cw, 0), (0, 0, oneW)) v)).2.1) - ((-(Q (bW sw))) * (Q (outV ((bW cw, negN (bW sw), 0), (bW sw, bW cw, 0), (0, 0, oneW)) v).1) + (Q (bW cw)) * (Q (outV ((bW cw, negN (bW sw), 0), (bW sw, bW cw, 0), (0, 0, oneW)) v).2.1) + 0 * (Q (outV ((bW cw, negN (bW sw), 0), (bW sw, bW cw, 0), (0, 0, oneW)) v).2.2))) ≤ 4 * (uR * (2 * mag (Q (outV ((bW cw, negN (bW sw), 0), (bW sw, bW cw, 0), (0, 0, oneW)) v).1) + 2 * mag (Q (outV ((bW cw, negN (bW sw), 0), (bW sw, bW cw, 0), (0, 0, oneW)) v).2.1) + 0 * mag (Q (outV ((bW cw, negN (bW sw), 0), (bW sw, bW cw, 0), (0, 0, oneW)) v).2.2))) + sm := m2
  have n3 : mag ((Q (outV ((bW cw, negN (bW sw), 0), (bW sw, bW cw, 0), (0, 0, oneW)) v).2.2) - (0 * (Q v.1) + 0 * (Q v.2.1) + 1 * (Q v.2.2))) ≤ 4 * (uR * (0 * mag (Q v.1) + 0 * mag (Q v.2.1) + 1 * mag (Q v.2.2))) + sm := n3
  have m3 : mag ((Q (outV (bM (colM ((bW cw, negN (bW sw), 0), (bW sw, bW cw, 0), (0, 0, oneW)))) (outV ((bW cw, negN (bW sw), 0), (bW sw, bW cw, 0), (0, 0, oneW)) v)).2.2) - (0 * (Q (outV ((bW cw, negN (bW sw), 0), (bW sw, bW cw, 0), (0, 0, oneW)) v).1) + 0 * (Q (outV ((bW cw, negN (bW sw), 0), (bW sw, bW cw, 0), (0, 0, oneW)) v).2.1) + 1 * (Q (outV ((bW cw, negN (bW sw), 0), (bW sw, bW cw, 0), (0, 0, oneW)) v).2.2))) ≤ 4 * (uR * (0 * mag (Q (outV ((bW cw, negN (bW sw), 0), (bW sw, bW cw, 0), (0, 0, oneW)) v).1) + 0 * mag (Q (outV ((bW cw, negN (bW sw), 0), (bW sw, bW cw, 0), (0, 0, oneW)) v).2.1) + 1 * mag (Q (outV ((bW cw, negN (bW sw), 0), (bW sw, bW cw, 0), (0, 0, oneW)) v).2.2))) + sm := m3
  clear o1 o2 o3 p1 p2 p3 D1 D2 D4 G ww D E mw mf cw' cf g fw hn ns2
  have x0 := (mag_le (Q v.1)).2.2
  have y0 := (mag_le (Q v.2.1)).2.2
  have z0 := (mag_le (Q v.2.2)).2.2
  have hS : sz3 v = mag (Q v.1) + mag (Q v.2.1) + mag (Q v.2.2) := rfl
  generalize (Q (outV ((bW cw, negN (bW sw), 0), (bW sw, bW cw, 0), (0, 0, oneW)) v).1) = t1 at *
  generalize (Q (outV ((bW cw, negN (bW sw), 0), (bW sw, bW cw, 0), (0, 0, oneW)) v).2.1) = t2 at *
  generalize (Q (outV ((bW cw, negN (bW sw), 0), (bW sw, bW cw, 0), (0, 0, oneW)) v).2.2) = t3 at *
  have R1 : ∃ z, z = (Q (outV (bM (colM ((bW cw, negN (bW sw), 0), (bW sw, bW cw, 0), (0, 0, oneW)))) (outV ((bW cw, negN (bW sw), 0), (bW sw, bW cw, 0), (0, 0, oneW)) v)).1) := ⟨_, rfl⟩
  obtain ⟨r1, R1⟩ := R1
  rw [← R1] at m1
  have R2 : ∃ z, z = (Q (outV (bM (colM ((bW cw, negN (bW sw), 0), (bW sw, bW cw, 0), (0, 0, oneW)))) (outV ((bW cw, negN (bW sw), 0), (bW sw, bW cw, 0), (0, 0, oneW)) v)).2.1) := ⟨_, rfl⟩
  obtain ⟨r2, R2⟩ := R2
  rw [← R2] at m2
  have R3 : ∃ z, z = (Q (outV (bM (colM ((bW cw, negN (bW sw), 0), (bW sw, bW cw, 0), (0, 0, oneW)))) (outV ((bW cw, negN (bW sw), 0), (bW sw, bW cw, 0), (0, 0, oneW)) v)).2.2) := ⟨_, rfl⟩
  obtain ⟨r3, R3⟩ := R3
  rw [← R3] at m3
  have pl := plane (S := sz3 v) (p := (Q v.1)) (q := (Q v.2.1)) (w1 := t1) (w2 := t2) (p' := r1) (q' := r2) C (by rw [hS]; grind) (conv7 n1 (by grind) (by grind)) (conv7 n2 (by grind) (by grind)) (conv7 m1 (by grind) (by grind)) (conv7 m2 (by grind) (by grind))
  have ax := axis7 (S := sz3 v) (p := (Q v.2.2)) (w := t3) (p' := r3) (by rw [hS]; grind) (conv7 n3 (by grind) (by grind)) (conv7 m3 (by grind) (by grind))
  rw [R1, R2] at pl
  rw [R3] at ax
  exact ⟨pl.1, pl.2, ax⟩
end Go.Proofs.Ytpdkciennccckaa
