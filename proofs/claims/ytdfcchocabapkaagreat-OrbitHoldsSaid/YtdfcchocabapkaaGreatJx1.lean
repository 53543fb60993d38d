/- Proved here: what the texts Vbk, Vbl, Vbn, Vbo, Bg, Vbx, Vby, Vbya, Vbyb, Vbt, Vbv, Vbw, Vob prove, one behind the other. -/
import Derived.Test.YtdfcchocabapkaaGreatJv1
import Derived.Test.YtdfcchocabapkaaGreatJb9
import Derived.Test.YtdfcchocabapkaaGreatJb8
import Derived.Test.YtdfcchocabapkaaGreatJr

set_option maxHeartbeats 8000000
set_option maxRecDepth 100000
namespace Go.Proofs.YtdfcchocabapkaaGreat
open Ieee.Own Pol

theorem sq_circle {y : Rat} (h1 : -Ply.top ≤ y) (h2 : y ≤ Ply.top) (k : Int) : mag (Ply.sq (k + 1) y * Ply.sq (k + 1) y + Ply.sq k y * Ply.sq k y - 1) ≤ Ply.eps := by
 have q := sq_parts k y
 have q' := sq_parts (k + 1) y
 have c := Ply.circle h1 h2
 have k4 : k % 4 = 0 ∨ k % 4 = 1 ∨ k % 4 = 2 ∨ k % 4 = 3 := by omega
 generalize Ply.s y = S at *
 generalize Ply.c y = C at *
 generalize Ply.eps = e at *
 rcases k4 with h | h | h | h
 · rw [q.1 h, q'.2.1 (by omega)]; exact mag_of (by grind) (by grind)
 · rw [q.2.1 h, q'.2.2.1 (by omega)]; exact mag_of (by grind) (by grind)
 · rw [q.2.2.1 h, q'.2.2.2 (by omega)]; exact mag_of (by grind) (by grind)
 · rw [q.2.2.2 h, q'.1 (by omega)]; exact mag_of (by grind) (by grind)
theorem near_sq {x X e : Rat} (e1 : e ≤ 1) (h : mag (x - X) ≤ e) (h1 : mag X ≤ 1) : mag (x * x - X * X) ≤ 2 * e + e * e ∧ mag x ≤ 2 := by
 have a := mag_add h (mag_add h1 h1)
 have e2 : x - X + (X + X) = x + X := by grind
 rw [e2] at a
 have p := mag_mul h a
 have e3 : (x - X) * (x + X) = x * x - X * X := by grind
 rw [e3] at p
 have b := mag_add h h1
 have e4 : x - X + X = x := by grind
 rw [e4] at b
 exact ⟨by grind, by grind⟩
structure Circ (s c : Rat) : Prop where
 on : mag (c * c + s * s - 1) ≤ 33 * uR
 s2 : mag s ≤ 2
 c2 : mag c ≤ 2
theorem circ7 {x s c : Nat} (A : Ang x) (T : Trig x s c) : Circ (Q (bW s)) (Q (bW c)) := by
 obtain ⟨r, R, -, -⟩ := T.ex
 obtain ⟨⟨n1, n2⟩, n3, n4⟩ := trig_near A T R
 have bd := (R.rest A).Q_bd
 have tp := Ply.top_mul bd.1 bd.2
 have o1 := Ply.sq_le_one tp.1 tp.2 (kq eig (V x))
 have o2 := Ply.sq_le_one tp.1 tp.2 (kq eig (V x) + 1)
 have ci := sq_circle tp.1 tp.2 (kq eig (V x))
 have b1 := bW_near T.sz.fin
 have b2 := bW_near T.cz.fin
 generalize Ply.sq (kq eig (V x)) (Ply.tau * Q r) = S at *
 generalize Ply.sq (kq eig (V x) + 1) (Ply.tau * Q r) = C at *
 have e0 : mkRat 1 (2^50) = 8 * uR := by decide +kernel
 rw [e0] at n1 n2 n3 n4
 have d1 := mag_add b1 (mag_of (M := 8 * uR) n1 n2)
 have d2 := mag_add b2 (mag_of (M := 8 * uR) n3 n4)
 have f1 : Q (bW s) - Q s + (Q s - S) = Q (bW s) - S := by grind
 have f2 : Q (bW c) - Q c + (Q c - C) = Q (bW c) - C := by grind
 rw [f1] at d1
 rw [f2] at d2
 have z1 : sm + 8 * uR ≤ 1 := by decide +kernel
 have z2 : (2 * (sm + 8 * uR) + (sm + 8 * uR) * (sm + 8 * uR)) + (2 * (sm + 8 * uR) + (sm + 8 * uR) * (sm + 8 * uR)) + Ply.eps ≤ 33 * uR := by decide +kernel
 obtain ⟨g1, h1⟩ := near_sq z1 d1 (mag_of (M := 1) o1.1 o1.2)
 obtain ⟨g2, h2⟩ := near_sq z1 d2 (mag_of (M := 1) o2.1 o2.2)
 refine ⟨?_, h1, h2⟩
 have t := mag_add (mag_add g2 g1) ci
 have e3 : Q (bW c) * Q (bW c) - C * C + (Q (bW s) * Q (bW s) - S * S) + (C * C + S * S - 1) = Q (bW c) * Q (bW c) + Q (bW s) * Q (bW s) - 1 := by grind
 rw [e3] at t
 exact Rat.le_trans t z2

theorem mag0 : mag 0 ≤ 0 := by decide +kernel
theorem mag1 : mag 1 ≤ 1 := by decide +kernel
theorem out_near {a b : V3} (D : DotW a b) {S1 S2 S3 : Rat} (h1 : mag (Q a.1 * Q b.1) ≤ S1) (h2 : mag (Q a.2.1 * Q b.2.1) ≤ S2) (h3 : mag (Q a.2.2 * Q b.2.2) ≤ S3) :
 mag (Q (bW (dW a b)) - (Q a.1 * Q b.1 + Q a.2.1 * Q b.2.1 + Q a.2.2 * Q b.2.2)) ≤ 4 * (uR * (S1 + S2 + S3)) + sm := by
 have u2 : 1000 * uR ≤ 1 := by decide +kernel
 have n := dt_near uR0 u2 Rat.le_refl D.dt h1 h2 h3
 have t := mag_add (bW_near D.d.fin) n
 have e : Q (bW (dW a b)) - Q (dW a b) + (Q (dW a b) - (Q a.1 * Q b.1 + Q a.2.1 * Q b.2.1 + Q a.2.2 * Q b.2.2)) = Q (bW (dW a b)) - (Q a.1 * Q b.1 + Q a.2.1 * Q b.2.1 + Q a.2.2 * Q b.2.2) := by grind
 rw [e] at t
 grind
theorem ends {u S σ p e1 e2 d P : Rat} (u0 : 0 ≤ u) (u1 : 1000 * u ≤ 1) (S0 : 0 ≤ S) (s0 : 0 ≤ σ) (hpS : p ≤ S) (hd : d = 33 * u) (he1 : e1 = 4 * (u * (2 * S)) + σ) (he2 : e2 = 4 * (u * (2 * (2 * (2 * S + e1)))) + σ)
 (h : P ≤ d * p + 4 * e1 + e2) : P ≤ 116 * (u * S) + 16 * σ := by
 subst hd he1 he2
 have a := Rat.mul_nonneg u0 S0
 have b := Rat.mul_nonneg a (show 0 ≤ 1 - 1000 * u by grind)
 have c := Rat.mul_nonneg u0 (show 0 ≤ S - p by grind)
 have e := Rat.mul_nonneg s0 (show 0 ≤ 1 - 1000 * u by grind)
 grind
theorem conv7 {a b A B : Rat} (h : mag a ≤ A) (e : a = b) (f : A = B) : mag b ≤ B := by rw [← e, ← f]; exact h
end Go.Proofs.YtdfcchocabapkaaGreat

namespace Go.Proofs.YtdfcchocabapkaaGreat
open Go.ChangeShapes Go.WideShapes Go.ChangeAt Go.RowKit Ieee.Own Pol

theorem D3.bb {p : V3} (hw : W3 p) (f : fitV p = true) : D3 (bV p) ∧ V (bV p).1 = V p.1 ∧ V (bV p).2.1 = V p.2.1 ∧ V (bV p).2.2 = V p.2.2 := by
 have B := fitV_bd hw f
 have fb : fitV (bV p) = true := by unfold fitV bV; rw [vnB_bW B.f1 B.b1, vnB_bW B.f2 B.b2, vnB_bW B.f3 B.b3]; rfl
 unfold fitV at f
 simp only [Bool.and_eq_true] at f
 exact ⟨fitV_wd B.fin.b.w fb, bW_fit B.f1 (vnB_spec hw.l1 f.1.1).2.1, bW_fit B.f2 (vnB_spec hw.l2 f.1.2).2.1, bW_fit B.f3 (vnB_spec hw.l3 f.2).2.1⟩
theorem Q0 : Q 0 = 0 := by decide +kernel
theorem tM_w {x s c : Nat} (A : Ang x) (T : Trig x s c) (a : Int) : W9 (tM a (bW s) (bW c) (negN (bW s))) ∧ fitM (tM a (bW s) (bW c) (negN (bW s))) = true ∧ Q (negN (bW s)) = -Q (bW s) := by
 obtain ⟨⟨f1, i1⟩, ⟨f2, i2⟩, f3, i3, e3⟩ := trig_ok A T
 have g1 := (bW_nz f1).fin
 have g2 := (bW_nz f2).fin
 obtain ⟨-, g3, v3⟩ := negN_spec g1
 have o := one_fin7.1
 have z : (0 : Nat) < 18446744073709551616 := by omega
 rw [e3] at i3
 refine ⟨?_, ?_, Q_neg v3⟩
 · unfold tM
   split
   · exact ⟨⟨o, z, z⟩, ⟨z, g2.1, g3.fin.1⟩, ⟨z, g1.1, g2.1⟩⟩
   · split
     · exact ⟨⟨g2.1, z, g1.1⟩, ⟨z, o, z⟩, ⟨g3.fin.1, z, g2.1⟩⟩
     · exact ⟨⟨g2.1, g3.fin.1, z⟩, ⟨g1.1, g2.1, z⟩, ⟨z, z, o⟩⟩
 · unfold tM
   split
   · unfold fitM fitV; dsimp only; rw [in_one, in_zero, i1, i2, i3]; rfl
   · split
     · unfold fitM fitV; dsimp only; rw [in_one, in_zero, i1, i2, i3]; rfl
     · unfold fitM fitV; dsimp only; rw [in_one, in_zero, i1, i2, i3]; rfl
def outV (m : M9) (v : V3) : V3 := bV (dW m.1 v, dW m.2.1 v, dW m.2.2 v)
theorem row_near {r v : V3} (D : DotW r v) {α β γ A B G x y z : Rat} (e1 : Q r.1 = α) (e2 : Q r.2.1 = β) (e3 : Q r.2.2 = γ) (k1 : Q v.1 = x) (k2 : Q v.2.1 = y) (k3 : Q v.2.2 = z) (h1 : mag α ≤ A) (h2 : mag β ≤ B) (h3 : mag γ ≤ G) :
 mag (Q (bW (dW r v)) - (α * x + β * y + γ * z)) ≤ 4 * (uR * (A * mag x + B * mag y + G * mag z)) + sm := by
 subst e1 e2 e3 k1 k2 k3
 exact out_near D (mag_mul h1 Rat.le_refl) (mag_mul h2 Rat.le_refl) (mag_mul h3 Rat.le_refl)
def sz3 (v : V3) : Rat := mag (Q v.1) + mag (Q v.2.1) + mag (Q v.2.2)
theorem one_Q7 : Q oneW = 1 := one_Q

end Go.Proofs.YtdfcchocabapkaaGreat

namespace Go.Proofs.YtdfcchocabapkaaGreat
open Go.ChangeShapes Go.WideShapes Go.ChangeAt Go.RowKit Ieee.Own


theorem tw_all7 : ∀ m, m < 190 → V (tw m) = 2 ^ (1074 + m) ∧ V (ntw m) = -(2 ^ (1074 + m)) ∧
 (tw m < 18446744073709551616 ∧ tw m % 9223372036854775808 < 9218868437227405312) ∧ (ntw m < 18446744073709551616 ∧ ntw m % 9223372036854775808 < 9218868437227405312) ∧
 V (lowW (ntw m)) = -(2 ^ (1074 + m)) ∧ V (highW (tw m)) = 2 ^ (1074 + m) ∧ (2 : Int) ^ (1074 + m) ≤ mostV := by decide +kernel
theorem told_fit7 {er : Int} {cs ds : List (Int → Int)} {x y : Nat} {k : Int} {m : Nat} (h : OpAll er cs ds (.returned (spanE x y k))) (h0 : er = 0) (hm : m < 190)
 (hc : ∀ c ∈ cs, 0 ≤ c (-(2 ^ (1074 + m)))) (hd : ∀ d ∈ ds, d (2 ^ (1074 + m)) ≤ 0) : k = 0 ∧ -(2 ^ (1074 + m)) ≤ V x ∧ V y ≤ 2 ^ (1074 + m) := by
 obtain ⟨t1, t2, t3, t4, t5, t6, t7⟩ := tw_all7 m hm
 obtain ⟨lo, hi, e, d, u⟩ := h.1 h0
 have a := d.top (ntw m) t4 (fun c hcs => by rw [t2]; exact hc c hcs)
 have b := u.low (tw m) t3 (fun c hcs => by rw [t1]; exact hd c hcs)
 have a' := lowW_mono (x := ntw m) (y := lo) a
 have b' := highW_mono (x := hi) (y := tw m) b
 rw [t5] at a'
 rw [t6] at b'
 have e' : toldE lo hi = spanE x y k := (Ending.returned.inj e).symm
 have nb := most_aux a' b' t7
 unfold toldE at e'
 rw [if_neg nb] at e'
 obtain ⟨rfl, rfl, rfl⟩ := spanE_inj e'
 exact ⟨rfl, a', b'⟩
theorem sum_ok7 {a1 a2 b1 b2 x y m : Nat} {k : Int} (ea : errS a1 a2 = 0) (eb : errS b1 b2 = 0) (A : Bnd a1 a2 m) (B : Bnd b1 b2 m) (hm : m + 1 < 190)
 (h : OpIs (errSS a1 a2 b1 b2) (fun v => V a1 + V b1 - v) (fun v => V a2 + V b2 - v) (.returned (spanE x y k))) :
 k = 0 ∧ errS x y = 0 ∧ Bnd x y (m + 1) ∧ AddSp (sp a1 a2) (sp b1 b2) (sp x y) := by
 have h0 := errSS_of' ea eb
 obtain ⟨-, -, l1⟩ := errS_zero ea
 obtain ⟨-, -, l2⟩ := errS_zero eb
 obtain ⟨A1, A2⟩ := A
 obtain ⟨B1, B2⟩ := B
 have p1 := pw_cast A1
 have p2 := pw_cast A2
 have p3 := pw_cast B1
 have p4 := pw_cast B2
 have tw : (2 : Int) ^ (1074 + (m + 1)) = 2 * 2 ^ (1074 + m) := pow_next (1074 + m)
 obtain ⟨k0, b1', b2'⟩ := told_fit7 (m := m + 1) h.all h0 hm
  (by rw [tw]; intro c hc; rw [List.mem_singleton.1 hc]; exact sum_aux1 p1.1 p3.1)
  (by rw [tw]; intro c hc; rw [List.mem_singleton.1 hc]; exact sum_aux2 p2.2 p4.2)
 obtain ⟨f, S⟩ := sum_sp h k0 h0
 have q : Q x ≤ Q y := by
  obtain ⟨s1, s2⟩ := S
  exact q_chain s1 s2 ((Q_le (a := a1) (b := a2)).2 l1) ((Q_le (a := b1) (b := b2)).2 l2)
 have q' := Q_le.1 q
 have pa := pw_abs (1074 + (m + 1))
 have pn : (0 : Int) ≤ 2 ^ (1074 + (m + 1)) := Int.pow_nonneg (by omega)
 exact ⟨k0, errS_of f q', ⟨by omega, by omega⟩, S⟩
theorem prod_ok7 {a1 a2 b1 b2 x y i j : Nat} {k : Int} (ha1 : a1 < 18446744073709551616) (ha2 : a2 < 18446744073709551616) (hb1 : b1 < 18446744073709551616) (hb2 : b2 < 18446744073709551616)
 (ea : errS a1 a2 = 0) (eb : errS b1 b2 = 0) (A : Bnd a1 a2 i) (B : Bnd b1 b2 j) (hm : i + j < 190)
 (h : OpAll (errSS a1 a2 b1 b2) [prodC a1 b1, prodC a1 b2, prodC a2 b1, prodC a2 b2] [prodC a1 b1, prodC a1 b2, prodC a2 b1, prodC a2 b2] (.returned (spanE x y k))) :
 k = 0 ∧ errS x y = 0 ∧ Bnd x y (i + j) ∧ MulSp (sp a1 a2) (sp b1 b2) (sp x y) := by
 have h0 := errSS_of' ea eb
 obtain ⟨f1, f2, -⟩ := errS_zero ea
 obtain ⟨f3, f4, -⟩ := errS_zero eb
 have p1 := pw_cast (prod_bnd ha1 hb1 f1 f3 A.1 B.1)
 have p2 := pw_cast (prod_bnd ha1 hb2 f1 f4 A.1 B.2)
 have p3 := pw_cast (prod_bnd ha2 hb1 f2 f3 A.2 B.1)
 have p4 := pw_cast (prod_bnd ha2 hb2 f2 f4 A.2 B.2)
 obtain ⟨k0, b1', b2'⟩ := told_fit7 (m := i + j) h h0 hm
  (by
   intro c hc
   simp only [List.mem_cons, List.not_mem_nil, or_false] at hc
   rcases hc with rfl | rfl | rfl | rfl
   · exact prod_aux1 p1.1
   · exact prod_aux1 p2.1
   · exact prod_aux1 p3.1
   · exact prod_aux1 p4.1)
  (by
   intro c hc
   simp only [List.mem_cons, List.not_mem_nil, or_false] at hc
   rcases hc with rfl | rfl | rfl | rfl
   · exact prod_aux2 p1.2
   · exact prod_aux2 p2.2
   · exact prod_aux2 p3.2
   · exact prod_aux2 p4.2)
 obtain ⟨f, S⟩ := prod_sp ha1 ha2 hb1 hb2 h k0 h0
 have q := Q_le.1 (Rat.le_trans S.1.1 S.2.1)
 exact ⟨k0, errS_of f q, bnd_aux b1' b2' q (pw_abs _), S⟩
theorem square_ok7 {a b x y i : Nat} {k : Int} (ha : a < 18446744073709551616) (hb : b < 18446744073709551616) (ea : errS a b = 0) (A : Bnd a b i) (hm : i + i < 190)
 (h : OpAll (errS a b) (sqLo a b) (sqHi a b) (.returned (spanE x y k))) : k = 0 ∧ errS x y = 0 ∧ Bnd x y (i + i) ∧ SqSp (sp a b) (sp x y) := by
 obtain ⟨f1, f2, l⟩ := errS_zero ea
 have p1 := pw_cast (prod_bnd ha ha f1 f1 A.1 A.1)
 have p2 := pw_cast (prod_bnd hb hb f2 f2 A.2 A.2)
 have pn : (0 : Int) ≤ 2 ^ (1074 + (i + i)) := Int.pow_nonneg (by omega)
 have lo : ∀ c ∈ sqLo a b, 0 ≤ c (-(2 ^ (1074 + (i + i)))) := by
  intro c hc
  unfold sqLo at hc
  split at hc
  · rw [List.mem_singleton.1 hc]; exact prod_aux1 p1.1
  · split at hc
    · rw [List.mem_singleton.1 hc]; exact prod_aux1 p2.1
    · rw [List.mem_singleton.1 hc]; exact prod_aux1 (n := 0) (by omega)
 have hi : ∀ c ∈ sqHi a b, c (2 ^ (1074 + (i + i))) ≤ 0 := by
  intro c hc
  unfold sqHi at hc
  split at hc
  · rw [List.mem_singleton.1 hc]; exact prod_aux2 p2.2
  · split at hc
    · rw [List.mem_singleton.1 hc]; exact prod_aux2 p1.2
    · simp only [List.mem_cons, List.not_mem_nil, or_false] at hc
      rcases hc with rfl | rfl
      · exact prod_aux2 p1.2
      · exact prod_aux2 p2.2
 obtain ⟨k0, b1', b2'⟩ := told_fit7 (m := i + i) h ea hm lo hi
 obtain ⟨f, S⟩ := square_sp ha hb h k0 ea
 -- a point of the span tells that the ends are in order
 have qa : In (Q a) (sp a b) := ⟨by show Q a ≤ Q a; exact Rat.le_refl, Q_le.2 l⟩
 have m := qa.sq S
 have q := Q_le.1 (Rat.le_trans m.1 m.2)
 exact ⟨k0, errS_of f q, bnd_aux b1' b2' q (pw_abs _), S⟩
theorem add_step7 {p q : Pr} {m : Nat} (hp : Sn p m) (hq : Sn q m) (hm : m + 1 < 190) : ∃ u, Sn u (m + 1) ∧ AddR p q u ∧ AddSp (ps p) (ps q) (ps u) := by
 obtain ⟨f1, f2, -⟩ := hp.fits
 obtain ⟨g1, g2, -⟩ := hq.fits
 obtain ⟨s, e, R, ⟨-, -, K, hK, hs, -⟩, -⟩ := sum_fit p.1 q.1 hp.l1 hq.l1 f1 g1
 obtain ⟨t, d, R', ⟨-, -, K', hK', hs', -⟩, -⟩ := sum_fit p.2 q.2 hp.l2 hq.l2 f2 g2
 have A := sum_dn R (bd_of hs hK)
 have B := sum_up R' (bd_of hs' hK')
 have h0 := errSS_of' hp.ok hq.ok
 obtain ⟨x, y, c, ht⟩ := toldE_span (dnW (V e < 0) s) (upW (0 < V d) t)
 have O : OpIs (errSS p.1 p.2 q.1 q.2) (fun v => V p.1 + V q.1 - v) (fun v => V p.2 + V q.2 - v) (.returned (spanE x y c)) := ⟨fun _ => ⟨_, _, by rw [ht], A, B⟩, fun h => absurd h0 h⟩
 obtain ⟨rfl, e0, b, S⟩ := sum_ok7 hp.ok hq.ok hp.bd hq.bd hm O
 obtain ⟨lx, ly, -⟩ := O.all.bd
 exact ⟨(x, y), ⟨lx, ly, e0, b⟩, O, S⟩
theorem mul_step7 {p q : Pr} {i j : Nat} (hp : Sn p i) (hq : Sn q j) (hm : i + j < 190) : ∃ u, Sn u (i + j) ∧ MulR p q u ∧ MulSp (ps p) (ps q) (ps u) := by
 obtain ⟨f1, f2, -⟩ := hp.fits
 obtain ⟨g1, g2, -⟩ := hq.fits
 obtain ⟨_, _, d1, u1⟩ := corner_ex hp.l1 hq.l1 f1 g1
 obtain ⟨_, _, d2, u2⟩ := corner_ex hp.l1 hq.l2 f1 g2
 obtain ⟨_, _, d3, u3⟩ := corner_ex hp.l2 hq.l1 f2 g1
 obtain ⟨_, _, d4, u4⟩ := corner_ex hp.l2 hq.l2 f2 g2
 have F := four_of d1 d2 d3 d4 u1 u2 u3 u4 (falls_prod _ _) (falls_prod _ _) (falls_prod _ _) (falls_prod _ _)
 have h0 := errSS_of' hp.ok hq.ok
 obtain ⟨x, y, c, ht⟩ := toldE_span _ _
 have O : OpAll (errSS p.1 p.2 q.1 q.2) [prodC p.1 q.1, prodC p.1 q.2, prodC p.2 q.1, prodC p.2 q.2] [prodC p.1 q.1, prodC p.1 q.2, prodC p.2 q.1, prodC p.2 q.2] (.returned (spanE x y c)) := ⟨fun _ => ⟨_, _, by rw [ht], F.lo, F.hi⟩, fun h => absurd h0 h⟩
 obtain ⟨rfl, e0, b, S⟩ := prod_ok7 hp.l1 hp.l2 hq.l1 hq.l2 hp.ok hq.ok hp.bd hq.bd hm O
 obtain ⟨lx, ly, -⟩ := O.bd
 exact ⟨(x, y), ⟨lx, ly, e0, b⟩, O, S⟩
theorem sq_step7 {p : Pr} {i : Nat} (hp : Sn p i) (hm : i + i < 190) : ∃ u, Sn u (i + i) ∧ SqR p u ∧ SqSp (ps p) (ps u) := by
 obtain ⟨lo, A⟩ := sq_dn_ex hp
 obtain ⟨hi, B⟩ := sq_up_ex hp
 obtain ⟨x, y, c, ht⟩ := toldE_span lo hi
 have O : OpAll (errS p.1 p.2) (sqLo p.1 p.2) (sqHi p.1 p.2) (.returned (spanE x y c)) := ⟨fun _ => ⟨lo, hi, by rw [ht], A, B⟩, fun h => absurd hp.ok h⟩
 obtain ⟨rfl, e0, b, S⟩ := square_ok7 hp.l1 hp.l2 hp.ok hp.bd hm O
 obtain ⟨lx, ly, -⟩ := O.bd
 exact ⟨(x, y), ⟨lx, ly, e0, b⟩, O, S⟩
def SubQ (p q u : Pr) : Prop := OpIs (errSS p.1 p.2 q.1 q.2) (fun v => V p.1 - V q.2 - v) (fun v => V p.2 - V q.1 - v) (.returned (spanE u.1 u.2 0))
theorem SubQ.uniq {p q u v : Pr} (h : SubQ p q u) (k : SubQ p q v) : u = v := pair_of (h.all.uniq k.all)
theorem neg_lt64 {b : Nat} (h : b < 18446744073709551616) : negW b < 18446744073709551616 := by unfold negW; split <;> omega
theorem sub_step7 {p q : Pr} {m : Nat} (hp : Sn p m) (hq : Sn q m) (hm : m + 1 < 190) : ∃ u, Sn u (m + 1) ∧ SubQ p q u ∧ (ps u).1 ≤ (ps p).1 - (ps q).2 ∧ (ps p).2 - (ps q).1 ≤ (ps u).2 := by
 obtain ⟨g1, g2, l2⟩ := hq.fits
 have v1 := negW_V (fit_fin hq.l1 g1)
 have v2 := negW_V (fit_fin hq.l2 g2)
 have nq : Sn (negW q.2, negW q.1) m := by
  refine ⟨neg_lt64 hq.l2, neg_lt64 hq.l1, errS_of ⟨?_, ?_⟩ ?_, ?_, ?_⟩
  · rw [fit_neg hq.l2]; exact g2
  · rw [fit_neg hq.l1]; exact g1
  · show V (negW q.2) ≤ V (negW q.1); omega
  · show (V (negW q.2)).natAbs ≤ _; rw [v2, Int.natAbs_neg]; exact hq.bd.2
  · show (V (negW q.1)).natAbs ≤ _; rw [v1, Int.natAbs_neg]; exact hq.bd.1
 obtain ⟨u, w, O, S⟩ := add_step7 hp nq hm
 have e1 := errSS_of' hp.ok hq.ok
 have e2 := errSS_of' hp.ok nq.ok
 dsimp only at e2
 refine ⟨u, w, ?_, ?_⟩
 · unfold AddR at O
   dsimp only at O
   rw [e2, v1, v2, ← Int.sub_eq_add_neg, ← Int.sub_eq_add_neg] at O
   unfold SubQ
   rw [e1]
   exact O
 · obtain ⟨s1, s2⟩ := S
   have q1 : Q (negW q.2) = -Q q.2 := by unfold Q; rw [v2, Rat.intCast_neg]; simp only [Rat.div_def]; grind
   have q2 : Q (negW q.1) = -Q q.1 := by unfold Q; rw [v1, Rat.intCast_neg]; simp only [Rat.div_def]; grind
   unfold ps sp at *
   dsimp only at *
   rw [q1] at s1
   rw [q2] at s2
   exact ⟨by grind, by grind⟩

abbrev B6 := Pr × Pr × Pr
def boxV (b : B6) : Value := .agg #[.float .f64 b.1.1, .float .f64 b.1.2, .float .f64 b.2.1.1, .float .f64 b.2.1.2, .float .f64 b.2.2.1, .float .f64 b.2.2.2]
def boxE (b : B6) (k : Int) : Value := .tuple #[boxV b, .int .i64 k]
structure W2 (p : Pr) : Prop where
 l1 : p.1 < 18446744073709551616
 l2 : p.2 < 18446744073709551616
structure W6 (b : B6) : Prop where
 x : W2 b.1
 y : W2 b.2.1
 z : W2 b.2.2
def z6 : B6 := ((0, 0), (0, 0), (0, 0))
def fitS (p : Pr) : Bool := decide (errS p.1 p.2 = 0) && vnB p.1 && vnB p.2
def fitBx (b : B6) : Bool := fitS b.1 && fitS b.2.1 && fitS b.2.2
theorem vsadd_shape {p1 p2 q1 q2 u1 u2 : Nat} {k : Int} (C : Hid (∀ w, Calls Tryz.prog 122 #[.agg #[.float .f64 p1, .float .f64 p2], .agg #[.float .f64 q1, .float .f64 q2]] w fun e w' => e = .returned (.tuple #[.agg #[.float .f64 u1, .float .f64 u2], .int .i64 k]) ∧ Below w.heap.size w w')) (w : World) : Calls Tryz.prog 134 #[.agg #[.float .f64 p1, .float .f64 p2], .agg #[.float .f64 q1, .float .f64 q2]] w fun e w' => e = .returned (.agg #[.float .f64 u1, .float .f64 u2]) ∧ Below w.heap.size w w' := by
 have K0 := kw3 w 26 26 26 [p1, p2] [q1, q2] [0, 0]
 simp only [objW, List.map_cons, List.map_nil] at K0
 have hst := @fstore
 replace K0 := Lib.hid K0
 go_enter Tryz.func134, Tryz.ntmps134
 go_wp2_with fail
 have K := K0.out
 clear K0
 generalize ((w.alloc _).alloc _).alloc _ = wr at *
 refine (C.out wr).mono ?_
 rintro _ v1 ⟨rfl, hb⟩
 replace K := K.on hb
 clear hb
 replace K := K.new 26 [u1, u2]
 simp only [objW, List.map_cons, List.map_nil, List.cons_append, List.nil_append] at K
 have c2_0 := K.ce 2 0 rfl rfl
 have f2_0 := K.fe 2 0 rfl rfl
 have c2_1 := K.ce 2 1 rfl rfl
 have f2_1 := K.fe 2 1 rfl rfl
 have c3_0 := K.ce 3 0 rfl rfl
 have c3_1 := K.ce 3 1 rfl rfl
 replace K := Lib.hid K
 go_wp2_with fail
 replace K := K.out
 (try simp only [Exit.inBlock, Exit.then])
 refine bodyPost_ret (v := .agg #[.float .f64 u1, .float .f64 u2]) ?_ rfl ⟨rfl, ?_⟩
 · rw [results_cell1 rfl]; go_simp
 · exact ((K.old).setCell (by first | exact Nat.le_refl _ | (dsimp only; omega)) _).setCell (by first | exact Nat.le_refl _ | (dsimp only; omega)) _
theorem vssub_shape {p1 p2 q1 q2 u1 u2 : Nat} {k : Int} (C : Hid (∀ w, Calls Tryz.prog 72 #[.agg #[.float .f64 p1, .float .f64 p2], .agg #[.float .f64 q1, .float .f64 q2]] w fun e w' => e = .returned (.tuple #[.agg #[.float .f64 u1, .float .f64 u2], .int .i64 k]) ∧ Below w.heap.size w w')) (w : World) : Calls Tryz.prog 132 #[.agg #[.float .f64 p1, .float .f64 p2], .agg #[.float .f64 q1, .float .f64 q2]] w fun e w' => e = .returned (.agg #[.float .f64 u1, .float .f64 u2]) ∧ Below w.heap.size w w' := by
 have K0 := kw3 w 26 26 26 [p1, p2] [q1, q2] [0, 0]
 simp only [objW, List.map_cons, List.map_nil] at K0
 have hst := @fstore
 replace K0 := Lib.hid K0
 go_enter Tryz.func132, Tryz.ntmps132
 go_wp2_with fail
 have K := K0.out
 clear K0
 generalize ((w.alloc _).alloc _).alloc _ = wr at *
 refine (C.out wr).mono ?_
 rintro _ v1 ⟨rfl, hb⟩
 replace K := K.on hb
 clear hb
 replace K := K.new 26 [u1, u2]
 simp only [objW, List.map_cons, List.map_nil, List.cons_append, List.nil_append] at K
 have c2_0 := K.ce 2 0 rfl rfl
 have f2_0 := K.fe 2 0 rfl rfl
 have c2_1 := K.ce 2 1 rfl rfl
 have f2_1 := K.fe 2 1 rfl rfl
 have c3_0 := K.ce 3 0 rfl rfl
 have c3_1 := K.ce 3 1 rfl rfl
 replace K := Lib.hid K
 go_wp2_with fail
 replace K := K.out
 (try simp only [Exit.inBlock, Exit.then])
 refine bodyPost_ret (v := .agg #[.float .f64 u1, .float .f64 u2]) ?_ rfl ⟨rfl, ?_⟩
 · rw [results_cell1 rfl]; go_simp
 · exact ((K.old).setCell (by first | exact Nat.le_refl _ | (dsimp only; omega)) _).setCell (by first | exact Nat.le_refl _ | (dsimp only; omega)) _
theorem vsmul_shape {p1 p2 q1 q2 u1 u2 : Nat} {k : Int} (C : Hid (∀ w, Calls Tryz.prog 76 #[.agg #[.float .f64 p1, .float .f64 p2], .agg #[.float .f64 q1, .float .f64 q2]] w fun e w' => e = .returned (.tuple #[.agg #[.float .f64 u1, .float .f64 u2], .int .i64 k]) ∧ Below w.heap.size w w')) (w : World) : Calls Tryz.prog 133 #[.agg #[.float .f64 p1, .float .f64 p2], .agg #[.float .f64 q1, .float .f64 q2]] w fun e w' => e = .returned (.agg #[.float .f64 u1, .float .f64 u2]) ∧ Below w.heap.size w w' := by
 have K0 := kw3 w 26 26 26 [p1, p2] [q1, q2] [0, 0]
 simp only [objW, List.map_cons, List.map_nil] at K0
 have hst := @fstore
 replace K0 := Lib.hid K0
 go_enter Tryz.func133, Tryz.ntmps133
 go_wp2_with fail
 have K := K0.out
 clear K0
 generalize ((w.alloc _).alloc _).alloc _ = wr at *
 refine (C.out wr).mono ?_
 rintro _ v1 ⟨rfl, hb⟩
 replace K := K.on hb
 clear hb
 replace K := K.new 26 [u1, u2]
 simp only [objW, List.map_cons, List.map_nil, List.cons_append, List.nil_append] at K
 have c2_0 := K.ce 2 0 rfl rfl
 have f2_0 := K.fe 2 0 rfl rfl
 have c2_1 := K.ce 2 1 rfl rfl
 have f2_1 := K.fe 2 1 rfl rfl
 have c3_0 := K.ce 3 0 rfl rfl
 have c3_1 := K.ce 3 1 rfl rfl
 replace K := Lib.hid K
 go_wp2_with fail
 replace K := K.out
 (try simp only [Exit.inBlock, Exit.then])
 refine bodyPost_ret (v := .agg #[.float .f64 u1, .float .f64 u2]) ?_ rfl ⟨rfl, ?_⟩
 · rw [results_cell1 rfl]; go_simp
 · exact ((K.old).setCell (by first | exact Nat.le_refl _ | (dsimp only; omega)) _).setCell (by first | exact Nat.le_refl _ | (dsimp only; omega)) _
theorem vfits_run {p : Pr} (h : W2 p) (w : World) : Calls Tryz.prog 172 #[pv p] w fun e w' => e = .returned (.bool (fitS p)) ∧ Below w.heap.size w w' := by
 have C := Lib.hid (fun w => scheck_run p.1 p.2 h.l1 h.l2 w)
 have C1 := fun w => vwithin_run p.1 h.l1 w
 have C2 := fun w => vwithin_run p.2 h.l2 w
 clear h
 unfold fitS
 generalize errS p.1 p.2 = k at *
 generalize vnB p.1 = x at *
 generalize vnB p.2 = y at *
 obtain ⟨p1, p2⟩ := p
 unfold pv spanV at *
 dsimp only at *
 have K0 := kw1 w 26 [p1, p2]
 simp only [objW, List.map_cons, List.map_nil] at K0
 have hst := @fstore
 replace K0 := Lib.hid K0
 by_cases hk : k = 0
 · subst hk
   rw [decide_eq_true rfl]
   cases x <;> (
    go_enter Tryz.func172, Tryz.ntmps172
    go_wp2_with fail
    have K := K0.out
    clear K0
    generalize w.alloc _ = wr at *
    refine (C.out wr).mono ?_
    rintro _ v1 ⟨rfl, hb⟩
    replace K := K.on hb
    clear hb
    have c0_0 := K.ce 0 0 rfl rfl
    have c0_1 := K.ce 0 1 rfl rfl
    replace K := Lib.hid K
    go_wp2_with (first | (go_at_call 177; ((with_reducible refine (C1 _).mono ?_); rintro e w' ⟨rfl, rfl⟩)) | (go_at_call 177; ((with_reducible refine (C2 _).mono ?_); rintro e w' ⟨rfl, rfl⟩)))
    replace K := K.out
    go_ret
    exact ⟨rfl, K.old⟩)
 · have t : (k == 0) = false := by simpa using hk
   rw [decide_eq_false hk]
   clear hk
   go_enter Tryz.func172, Tryz.ntmps172
   go_wp2_with fail
   have K := K0.out
   clear K0
   generalize w.alloc _ = wr at *
   refine (C.out wr).mono ?_
   rintro _ v1 ⟨rfl, hb⟩
   replace K := K.on hb
   clear hb
   replace K := Lib.hid K
   go_wp2_with fail
   replace K := K.out
   go_ret
   exact ⟨rfl, K.old⟩
theorem vfitbox_run {b : B6} (h : W6 b) (w : World) : Calls Tryz.prog 131 #[boxV b] w fun e w' => e = .returned (.bool (fitBx b)) ∧ Below w.heap.size w w' := by
 have C1 := Lib.hid (fun w => vfits_run h.x w)
 have C2 := Lib.hid (fun w => vfits_run h.y w)
 have C3 := Lib.hid (fun w => vfits_run h.z w)
 clear h
 obtain ⟨⟨a1, a2⟩, ⟨a3, a4⟩, a5, a6⟩ := b
 unfold fitBx boxV
 unfold pv spanV at *
 dsimp only at *
 generalize fitS (a1, a2) = x at *
 generalize fitS (a3, a4) = y at *
 generalize fitS (a5, a6) = z at *
 have K0 := kw1 w 33 [a1, a2, a3, a4, a5, a6]
 simp only [objW, List.map_cons, List.map_nil] at K0
 have hst := @fstore
 replace K0 := Lib.hid K0
 cases x
 · go_enter Tryz.func131, Tryz.ntmps131
   go_wp2_with fail
   have K := K0.out
   clear K0
   generalize w.alloc _ = wr at *
   refine (C1.out wr).mono ?_
   rintro _ v1 ⟨rfl, hb⟩
   replace K := K.on hb
   clear hb
   replace K := Lib.hid K
   go_wp2_with fail
   replace K := K.out
   go_ret
   exact ⟨rfl, K.old⟩
 · cases y
   · go_enter Tryz.func131, Tryz.ntmps131
     go_wp2_with fail
     have K := K0.out
     clear K0
     generalize w.alloc _ = wr at *
     refine (C1.out wr).mono ?_
     rintro _ v1 ⟨rfl, hb⟩
     replace K := K.on hb
     clear hb
     have c0_2 := K.ce 0 2 rfl rfl
     have c0_3 := K.ce 0 3 rfl rfl
     replace K := Lib.hid K
     go_wp2_with fail
     replace K := K.out
     refine (C2.out v1).mono ?_
     rintro _ v2 ⟨rfl, hb⟩
     clear c0_2 c0_3
     replace K := K.on hb
     clear hb
     replace K := Lib.hid K
     go_wp2_with fail
     replace K := K.out
     go_ret
     exact ⟨rfl, K.old⟩
   · go_enter Tryz.func131, Tryz.ntmps131
     go_wp2_with fail
     have K := K0.out
     clear K0
     generalize w.alloc _ = wr at *
     refine (C1.out wr).mono ?_
     rintro _ v1 ⟨rfl, hb⟩
     replace K := K.on hb
     clear hb
     have c0_2 := K.ce 0 2 rfl rfl
     have c0_3 := K.ce 0 3 rfl rfl
     replace K := Lib.hid K
     go_wp2_with fail
     replace K := K.out
     refine (C2.out v1).mono ?_
     rintro _ v2 ⟨rfl, hb⟩
     clear c0_2 c0_3
     replace K := K.on hb
     clear hb
     have c0_4 := K.ce 0 4 rfl rfl
     have c0_5 := K.ce 0 5 rfl rfl
     replace K := Lib.hid K
     go_wp2_with fail
     replace K := K.out
     refine (C3.out v2).mono ?_
     rintro _ v3 ⟨rfl, hb⟩
     clear c0_4 c0_5
     replace K := K.on hb
     clear hb
     replace K := Lib.hid K
     go_wp2_with fail
     replace K := K.out
     go_ret
     exact ⟨rfl, K.old⟩

theorem vboxturn0 {p1 p2 a1 a2 a3 a4 a5 a6 s1 s2 c1 c2 m11 m12 m21 m22 m31 m32 m41 m42 y11 y12 y21 y22 e1 e2 : Nat} (C0 : Hid (∀ w, Calls Tryz.prog 130 #[.int .i64 0] w fun e w' => e = .returned (.bool true) ∧ Below w.heap.size w w')) (C1 : Hid (∀ w, Calls Tryz.prog 65 #[.agg #[.float .f64 p1, .float .f64 p2]] w fun e w' => e = .returned (.tuple #[.agg #[.float .f64 s1, .float .f64 s2], .agg #[.float .f64 c1, .float .f64 c2], .int .i64 0]) ∧ Below w.heap.size w w')) (C2 : Hid (∀ w, Calls Tryz.prog 131 #[.agg #[.float .f64 a1, .float .f64 a2, .float .f64 a3, .float .f64 a4, .float .f64 a5, .float .f64 a6]] w fun e w' => e = .returned (.bool true) ∧ Below w.heap.size w w')) (D1 : Hid (∀ w, Calls Tryz.prog 133 #[.agg #[.float .f64 c1, .float .f64 c2], .agg #[.float .f64 a3, .float .f64 a4]] w fun e w' => e = .returned (.agg #[.float .f64 m11, .float .f64 m12]) ∧ Below w.heap.size w w')) (D2 : Hid (∀ w, Calls Tryz.prog 133 #[.agg #[.float .f64 s1, .float .f64 s2], .agg #[.float .f64 a5, .float .f64 a6]] w fun e w' => e = .returned (.agg #[.float .f64 m21, .float .f64 m22]) ∧ Below w.heap.size w w')) (D3' : Hid (∀ w, Calls Tryz.prog 132 #[.agg #[.float .f64 m11, .float .f64 m12], .agg #[.float .f64 m21, .float .f64 m22]] w fun e w' => e = .returned (.agg #[.float .f64 y11, .float .f64 y12]) ∧ Below w.heap.size w w')) (D4 : Hid (∀ w, Calls Tryz.prog 133 #[.agg #[.float .f64 s1, .float .f64 s2], .agg #[.float .f64 a3, .float .f64 a4]] w fun e w' => e = .returned (.agg #[.float .f64 m31, .float .f64 m32]) ∧ Below w.heap.size w w')) (D5 : Hid (∀ w, Calls Tryz.prog 133 #[.agg #[.float .f64 c1, .float .f64 c2], .agg #[.float .f64 a5, .float .f64 a6]] w fun e w' => e = .returned (.agg #[.float .f64 m41, .float .f64 m42]) ∧ Below w.heap.size w w')) (D6 : Hid (∀ w, Calls Tryz.prog 134 #[.agg #[.float .f64 m31, .float .f64 m32], .agg #[.float .f64 m41, .float .f64 m42]] w fun e w' => e = .returned (.agg #[.float .f64 y21, .float .f64 y22]) ∧ Below w.heap.size w w')) (D7 : Hid (∀ w, Calls Tryz.prog 134 #[.agg #[.float .f64 a1, .float .f64 a2], .agg #[.float .f64 0, .float .f64 0]] w fun e w' => e = .returned (.agg #[.float .f64 e1, .float .f64 e2]) ∧ Below w.heap.size w w')) (w : World) : Calls Tryz.prog 75 #[.int .i64 0, .agg #[.float .f64 p1, .float .f64 p2], .agg #[.float .f64 a1, .float .f64 a2, .float .f64 a3, .float .f64 a4, .float .f64 a5, .float .f64 a6]] w fun e w' => e = .returned (.tuple #[.agg #[.float .f64 e1, .float .f64 e2, .float .f64 y11, .float .f64 y12, .float .f64 y21, .float .f64 y22], .int .i64 0]) ∧ Below w.heap.size w w' := by
 have K0 := kw3 w 26 33 33 [p1, p2] [a1, a2, a3, a4, a5, a6] [0, 0, 0, 0, 0, 0]
 simp only [objW, List.map_cons, List.map_nil] at K0
 have hst := @fstore
 replace K0 := Lib.hid K0
 go_enter Tryz.func75, Tryz.ntmps75
 go_wp2_with fail
 have K := K0.out
 clear K0
 generalize ((w.alloc _).alloc _).alloc _ = wr at *
 refine (C0.out wr).mono ?_
 rintro _ v1 ⟨rfl, hb⟩
 replace K := K.on hb
 clear hb
 have c0_0 := K.ce 0 0 rfl rfl
 have c0_1 := K.ce 0 1 rfl rfl
 replace K := Lib.hid K
 go_wp2_with fail
 replace K := K.out
 refine (C1.out v1).mono ?_
 rintro _ v2 ⟨rfl, hb⟩
 clear c0_0 c0_1
 replace K := K.on hb
 clear hb
 replace K := K.new 26 [s1, s2]
 replace K := K.and (n := v2.heap.size + 1) (by simp) 26 [c1, c2]
 simp only [objW, List.map_cons, List.map_nil, List.cons_append, List.nil_append] at K
 have c1_0 := K.ce 1 0 rfl rfl
 have c1_1 := K.ce 1 1 rfl rfl
 have c1_2 := K.ce 1 2 rfl rfl
 have c1_3 := K.ce 1 3 rfl rfl
 have c1_4 := K.ce 1 4 rfl rfl
 have c1_5 := K.ce 1 5 rfl rfl
 replace K := Lib.hid K
 go_wp2_with fail
 replace K := K.out
 generalize (v2.alloc _).alloc _ = u2 at *
 generalize v2.heap.size = g1 at *
 refine (C2.out u2).mono ?_
 rintro _ v3 ⟨rfl, hb⟩
 clear c1_0 c1_1 c1_2 c1_3 c1_4 c1_5
 replace K := K.on hb
 clear hb
 have c1_0 := K.ce 1 0 rfl rfl
 have c1_1 := K.ce 1 1 rfl rfl
 have c1_2 := K.ce 1 2 rfl rfl
 have c1_3 := K.ce 1 3 rfl rfl
 have c1_4 := K.ce 1 4 rfl rfl
 have c1_5 := K.ce 1 5 rfl rfl
 replace K := Lib.hid K
 go_upto_region 10 with fail
 replace K := K.out
 have K := (K.new 96 [a1, a2, a3, a4, a5, a6])
 simp only [objW, List.map_cons, List.map_nil, List.cons_append, List.nil_append] at K
 generalize v3.alloc _ = wr at *
 generalize v3.heap.size = h at *
 replace K := K.more.more
 simp only [List.cons_append, List.nil_append] at K
 generalize hds : ([some 47, some 48, some 49, some 50, some 51, some 52, some 14, some 15, none, none] : List (Option Tmp)) = ds
 have hap : apartL ds = true := by rw [← hds]; decide
 replace hds := hds.symm
 refine wp_region_k (fun hf => [some (w.heap.size, [p1, p2]), some (w.heap.size + 1, [a1, a2, a3, a4, a5, a6]), some (w.heap.size + 1 + 1, [0, 0, 0, 0, 0, 0]), some (g1, [s1, s2]), some (g1 + 1, [c1, c2]), some (h, [a1, a2, a3, a4, a5, a6]), some (hf 6, [a3, a4]), some (hf 7, [a5, a6])]) (fun hf => [some (.int .i64 1), some (.pointer (some ⟨h, 2, none⟩)), some (.agg #[.float .f64 a3, .float .f64 a4]), some (.int .i64 2), some (.pointer (some ⟨h, 4, none⟩)), some (.agg #[.float .f64 a5, .float .f64 a6]), some (ptrV (hf 6)), some (ptrV (hf 7)), some (undef), some (undef)]) [⟨6, 6, 26, [0, 0]⟩, ⟨7, 7, 26, [0, 0]⟩] [⟨8, 6, 0, [a3, a4]⟩, ⟨9, 7, 0, [a5, a6]⟩] [.int .i64 1, .pointer (some ⟨h, 2, none⟩), .agg #[.float .f64 a3, .float .f64 a4], .int .i64 2, .pointer (some ⟨h, 4, none⟩), .agg #[.float .f64 a5, .float .f64 a6], undef, undef, undef, undef] ds (by kernel_rfl) (by rw [hds]; rfl) hap (by decide +kernel) (by decide +kernel) K ?ha ?haj ?hai ?hsi ?hss ?hsa ?hsw ?htg ?hE2 ?hE3 ?hE4 ?hL1 ?hL2 ?hL3 ?alloc ?step ?store ?fin
 case ha => intro al hal; rcases qm2 hal with rfl | rfl <;> rfl
 case haj => exact quq _ _ _ rfl rfl
 case hai => exact qss rfl
 case hsi => exact quq _ _ _ rfl rfl
 case hss => exact qss rfl
 case hsa => exact qsa rfl
 case hsw =>
  intro st hst al hal e
  rcases qm2 hst with rfl | rfl
  · rcases qm2 hal with rfl | rfl
    · change waitsAt _ 8 6 = true; decide +kernel
    · exact qnd e rfl
  · rcases qm2 hal with rfl | rfl
    · exact qnd e rfl
    · change waitsAt _ 9 7 = true; decide +kernel
 case htg =>
  intro st hst
  rcases qm2 hst with rfl | rfl
  · exact .inr ⟨_, qh0, rfl, show 0 + 2 ≤ 2 by decide⟩
  · exact .inr ⟨_, qh1, rfl, show 0 + 2 ≤ 2 by decide⟩
 case hE2 =>
  intro hf j h1 h2
  have n6 : 6 ≠ j := h1 _ qh0
  have n7 : 7 ≠ j := h1 _ qh1
  rcases j with _ | _ | _ | _ | _ | _ | _ | _ | j <;> first | rfl | exact absurd rfl n6 | exact absurd rfl n7
 case hE3 =>
  intro hf st hst g us e
  rcases qm2 hst with rfl | rfl <;> simp at e
 case hE4 =>
  intro hf al hal
  rcases qm2 hal with rfl | rfl
  · refine ⟨fun st hst e => ?_, fun h => absurd rfl (h _ qh0)⟩
    rcases qm2 hst with rfl | rfl
    · rfl
    · exact qnd e rfl
  · refine ⟨fun st hst e => ?_, fun h => absurd rfl (h _ qh1)⟩
    rcases qm2 hst with rfl | rfl
    · exact qnd e rfl
    · rfl
 case hL1 => intro hf; rfl
 case hL2 =>
  intro hf i hi hna
  rcases (ql10 hi) with rfl | rfl | rfl | rfl | rfl | rfl | rfl | rfl | rfl | rfl <;> first | rfl | exact absurd rfl (hna _ qh0) | exact absurd rfl (hna _ qh1)
 case hL3 => intro hf al hal; rcases qm2 hal with rfl | rfl <;> rfl
 case alloc =>
  intro al hal o ρ W ho
  rcases qm2 hal with rfl | rfl
  · obtain rfl := qsj ho; unfold execOp ptrV objW; simp only [List.map_cons, List.map_nil]; go_simp
  · obtain rfl := qsj ho; unfold execOp ptrV objW; simp only [List.map_cons, List.map_nil]; go_simp
 case step =>
  intro L W i o ho hs ha hd hB
  rcases (ql10 (Array.getElem?_eq_some_iff.1 ho).1) with rfl | rfl | rfl | rfl | rfl | rfl | rfl | rfl | rfl | rfl
  · obtain rfl := qsj ho
    refine qvr fun ρ hA => ?_
    have hc := qrc hA
    have h0 : ρ (.tmp 12) = .int .i64 1 := (qpn hA (by rw [hds]; decide)).trans rfl
    clear hA hd hB ho hs ha
    unfold execOp; go_simp
  · obtain rfl := qsj ho
    refine qvr fun ρ hA => ?_
    have hc := qrc hA
    have h0 : ρ (.tmp 11) = .pointer (some ⟨h, 0, none⟩) := (qpn hA (by rw [hds]; decide)).trans rfl
    have h1 : ρ (.tmp 47) = .int .i64 1 := qpe 0 hA hap (by rw [hds]; rfl) (hd 0 (by decide +kernel) (qne rfl)) (show 47 < 85 by decide)
    clear hA hd hB ho hs ha
    unfold execOp; go_simp
  · obtain rfl := qsj ho
    have b := hB 5 _ _ rfl (qns rfl)
    have c2 := b.at_ 2 _ rfl
    have c3 := b.at_ 3 _ rfl
    clear b
    refine qvr fun ρ hA => ?_
    have hc := qrc hA
    have h0 : ρ (.tmp 48) = .pointer (some ⟨h, 2, none⟩) := qpe 1 hA hap (by rw [hds]; rfl) (hd 1 (by decide +kernel) (qne rfl)) (show 48 < 85 by decide)
    clear hA hd hB ho hs ha
    unfold execOp; go_simp
  · obtain rfl := qsj ho
    refine qvr fun ρ hA => ?_
    have hc := qrc hA
    have h0 : ρ (.tmp 13) = .int .i64 2 := (qpn hA (by rw [hds]; decide)).trans rfl
    clear hA hd hB ho hs ha
    unfold execOp; go_simp
  · obtain rfl := qsj ho
    refine qvr fun ρ hA => ?_
    have hc := qrc hA
    have h0 : ρ (.tmp 11) = .pointer (some ⟨h, 0, none⟩) := (qpn hA (by rw [hds]; decide)).trans rfl
    have h1 : ρ (.tmp 50) = .int .i64 2 := qpe 3 hA hap (by rw [hds]; rfl) (hd 3 (by decide +kernel) (qne rfl)) (show 50 < 85 by decide)
    clear hA hd hB ho hs ha
    unfold execOp; go_simp
  · obtain rfl := qsj ho
    have b := hB 5 _ _ rfl (qns rfl)
    have c4 := b.at_ 4 _ rfl
    have c5 := b.at_ 5 _ rfl
    clear b
    refine qvr fun ρ hA => ?_
    have hc := qrc hA
    have h0 : ρ (.tmp 51) = .pointer (some ⟨h, 4, none⟩) := qpe 4 hA hap (by rw [hds]; rfl) (hd 4 (by decide +kernel) (qne rfl)) (show 51 < 85 by decide)
    clear hA hd hB ho hs ha
    unfold execOp; go_simp
  · exact absurd rfl (ha _ qh0)
  · exact absurd rfl (ha _ qh1)
  · exact absurd rfl (hs _ qh0)
  · exact absurd rfl (hs _ qh1)
 case store =>
  intro st hst L W o h us ho hd hal hC b
  rcases qm2 hst with rfl | rfl
  · dsimp only at ho hd hal hC b ⊢
    obtain rfl := qsj ho
    obtain ⟨hl, rfl⟩ := hal _ qh0 rfl
    have c0 := b.at_ 0 _ rfl
    have f0 := b.fr 0 _ rfl
    have c1 := b.at_ 1 _ rfl
    have f1 := b.fr 1 _ rfl
    refine ⟨?_, rfl⟩
    generalize hA : (puts ds L _).eval = ρ
    have h0 : ρ (.tmp 14) = .pointer (some ⟨h, 0, none⟩) := qpe 6 hA hap (by rw [hds]; rfl) hl (show 14 < 85 by decide)
    have h1 : ρ (.tmp 49) = .agg #[.float .f64 a3, .float .f64 a4] := qpe 2 hA hap (by rw [hds]; rfl) (hd 2 (by decide +kernel) (qne rfl)) (show 49 < 85 by decide)
    have hst' := @fstore
    clear hA hd b ho hal hC
    simp only [putW]
    unfold execOp; go_simp
  · dsimp only at ho hd hal hC b ⊢
    obtain rfl := qsj ho
    obtain ⟨hl, rfl⟩ := hal _ qh1 rfl
    have c0 := b.at_ 0 _ rfl
    have f0 := b.fr 0 _ rfl
    have c1 := b.at_ 1 _ rfl
    have f1 := b.fr 1 _ rfl
    refine ⟨?_, rfl⟩
    generalize hA : (puts ds L _).eval = ρ
    have h0 : ρ (.tmp 15) = .pointer (some ⟨h, 0, none⟩) := qpe 7 hA hap (by rw [hds]; rfl) hl (show 15 < 85 by decide)
    have h1 : ρ (.tmp 52) = .agg #[.float .f64 a5, .float .f64 a6] := qpe 5 hA hap (by rw [hds]; rfl) (hd 5 (by decide +kernel) (qne rfl)) (show 52 < 85 by decide)
    have hst' := @fstore
    clear hA hd b ho hal hC
    simp only [putW]
    unfold execOp; go_simp
 case fin =>
  intro hf W0 K
  rw [hds]
  clear hds hap ds
  (try dsimp only at K)
  generalize hf 6 = ga at *
  generalize hf 7 = gb at *
  (try unfold ptrV)
  simp only [List.set_cons_zero, List.set_cons_succ, puts, Act.put, List.setIfInBounds_toArray]
  replace K := Lib.hid K
  go_upto_region 11 with fail
  replace K := K.out
  generalize hds : ([some 53, some 54, some 55, some 56, some 57, some 58, some 59, some 60, some 61, none] : List (Option Tmp)) = ds
  have hap : apartL ds = true := by rw [← hds]; decide
  replace hds := hds.symm
  refine wp_region_k (fun hf => [some (w.heap.size, [p1, p2]), some (w.heap.size + 1, [a1, a2, a3, a4, a5, a6]), some (w.heap.size + 1 + 1, [0, 0, 0, 0, 0, 0]), some (g1, [s1, s2]), some (g1 + 1, [c1, c2]), some (h, [a1, a2, y11, y12, a5, a6]), some (ga, [a3, a4]), some (gb, [a5, a6])]) (fun hf => [some (.int .i64 1), some (.agg #[.float .f64 c1, .float .f64 c2]), some (.agg #[.float .f64 a3, .float .f64 a4]), some (.agg #[.float .f64 m11, .float .f64 m12]), some (.agg #[.float .f64 s1, .float .f64 s2]), some (.agg #[.float .f64 a5, .float .f64 a6]), some (.agg #[.float .f64 m21, .float .f64 m22]), some (.agg #[.float .f64 y11, .float .f64 y12]), some (.pointer (some ⟨h, 2, none⟩)), some (undef)]) [] [⟨9, 5, 2, [y11, y12]⟩] [.int .i64 1, .agg #[.float .f64 c1, .float .f64 c2], .agg #[.float .f64 a3, .float .f64 a4], .agg #[.float .f64 m11, .float .f64 m12], .agg #[.float .f64 s1, .float .f64 s2], .agg #[.float .f64 a5, .float .f64 a6], .agg #[.float .f64 m21, .float .f64 m22], .agg #[.float .f64 y11, .float .f64 y12], .pointer (some ⟨h, 2, none⟩), undef] ds (by kernel_rfl) (by rw [hds]; rfl) hap (by decide +kernel) (by decide +kernel) K ?ha ?haj ?hai ?hsi ?hss ?hsa ?hsw ?htg ?hE2 ?hE3 ?hE4 ?hL1 ?hL2 ?hL3 ?alloc ?step ?store ?fin
  case ha => intro al hal; cases hal
  case haj => intro al hal al' hal' e; cases hal
  case hai => intro al hal; cases hal
  case hsi => exact quq _ _ _ rfl rfl
  case hss => exact qss rfl
  case hsa =>
   intro st hst al hal
   cases hal
  case hsw =>
   intro st hst al hal e
   cases hal
  case htg =>
   intro st hst
   rcases List.mem_singleton.1 hst with rfl
   · exact .inl ⟨_, _, rfl, show 2 + 2 ≤ 6 by decide⟩
  case hE2 =>
   intro hf j h1 h2
   have n5 : 5 ≠ j := h1 _ qh0
   rcases j with _ | _ | _ | _ | _ | _ | _ | _ | j <;> first | rfl | exact absurd rfl n5
  case hE3 =>
   intro hf st hst g us e
   rcases List.mem_singleton.1 hst with rfl
   · obtain ⟨rfl, rfl⟩ := Prod.mk.inj (Option.some.inj (Option.some.inj e)); rfl
  case hE4 =>
   intro hf al hal
   cases hal
  case hL1 => intro hf; rfl
  case hL2 =>
   intro hf i hi hna
   rcases (ql10 hi) with rfl | rfl | rfl | rfl | rfl | rfl | rfl | rfl | rfl | rfl <;> first | rfl
  case hL3 => intro hf al hal; cases hal
  case alloc =>
   intro al hal o ρ W ho
   cases hal
  case step =>
   intro L W i o ho hs ha hd hB
   rcases (ql10 (Array.getElem?_eq_some_iff.1 ho).1) with rfl | rfl | rfl | rfl | rfl | rfl | rfl | rfl | rfl | rfl
   · obtain rfl := qsj ho
     refine qvr fun ρ hA => ?_
     have hc := qrc hA
     have h0 : ρ (.tmp 12) = .int .i64 1 := (qpn hA (by rw [hds]; decide)).trans rfl
     clear hA hd hB ho hs ha
     unfold execOp; go_simp
   · obtain rfl := qsj ho
     have b := hB 4 _ _ rfl (qns rfl)
     have c0 := b.at_ 0 _ rfl
     have c1 := b.at_ 1 _ rfl
     clear b
     refine qvr fun ρ hA => ?_
     have hc := qrc hA
     have h0 : ρ (.tmp 9) = .pointer (some ⟨g1 + 1, 0, none⟩) := (qpn hA (by rw [hds]; decide)).trans rfl
     clear hA hd hB ho hs ha
     unfold execOp; go_simp
   · obtain rfl := qsj ho
     have b := hB 6 _ _ rfl (qns rfl)
     have c0 := b.at_ 0 _ rfl
     have c1 := b.at_ 1 _ rfl
     clear b
     refine qvr fun ρ hA => ?_
     have hc := qrc hA
     have h0 : ρ (.tmp 14) = .pointer (some ⟨ga, 0, none⟩) := (qpn hA (by rw [hds]; decide)).trans rfl
     clear hA hd hB ho hs ha
     unfold execOp; go_simp
   · obtain rfl := qsj ho
     refine .call 133 #[.agg #[.float .f64 c1, .float .f64 c2], .agg #[.float .f64 a3, .float .f64 a4]] ?_ (D1.out W)
     generalize hA : (puts ds L _).eval = ρ
     have hc := qrc hA
     have hg := qrg hA
     have h0 : ρ (.tmp 54) = .agg #[.float .f64 c1, .float .f64 c2] := qpe 1 hA hap (by rw [hds]; rfl) (hd 1 (by decide +kernel) (by intro al hal; cases hal)) (show 54 < 85 by decide)
     have h1 : ρ (.tmp 55) = .agg #[.float .f64 a3, .float .f64 a4] := qpe 2 hA hap (by rw [hds]; rfl) (hd 2 (by decide +kernel) (by intro al hal; cases hal)) (show 55 < 85 by decide)
     have hf := Tryz.func133
     unfold execOp; go_simp
   · obtain rfl := qsj ho
     have b := hB 3 _ _ rfl (qns rfl)
     have c0 := b.at_ 0 _ rfl
     have c1 := b.at_ 1 _ rfl
     clear b
     refine qvr fun ρ hA => ?_
     have hc := qrc hA
     have h0 : ρ (.tmp 8) = .pointer (some ⟨g1, 0, none⟩) := (qpn hA (by rw [hds]; decide)).trans rfl
     clear hA hd hB ho hs ha
     unfold execOp; go_simp
   · obtain rfl := qsj ho
     have b := hB 7 _ _ rfl (qns rfl)
     have c0 := b.at_ 0 _ rfl
     have c1 := b.at_ 1 _ rfl
     clear b
     refine qvr fun ρ hA => ?_
     have hc := qrc hA
     have h0 : ρ (.tmp 15) = .pointer (some ⟨gb, 0, none⟩) := (qpn hA (by rw [hds]; decide)).trans rfl
     clear hA hd hB ho hs ha
     unfold execOp; go_simp
   · obtain rfl := qsj ho
     refine .call 133 #[.agg #[.float .f64 s1, .float .f64 s2], .agg #[.float .f64 a5, .float .f64 a6]] ?_ (D2.out W)
     generalize hA : (puts ds L _).eval = ρ
     have hc := qrc hA
     have hg := qrg hA
     have h0 : ρ (.tmp 57) = .agg #[.float .f64 s1, .float .f64 s2] := qpe 4 hA hap (by rw [hds]; rfl) (hd 4 (by decide +kernel) (by intro al hal; cases hal)) (show 57 < 85 by decide)
     have h1 : ρ (.tmp 58) = .agg #[.float .f64 a5, .float .f64 a6] := qpe 5 hA hap (by rw [hds]; rfl) (hd 5 (by decide +kernel) (by intro al hal; cases hal)) (show 58 < 85 by decide)
     have hf := Tryz.func133
     unfold execOp; go_simp
   · obtain rfl := qsj ho
     refine .call 132 #[.agg #[.float .f64 m11, .float .f64 m12], .agg #[.float .f64 m21, .float .f64 m22]] ?_ (D3'.out W)
     generalize hA : (puts ds L _).eval = ρ
     have hc := qrc hA
     have hg := qrg hA
     have h0 : ρ (.tmp 56) = .agg #[.float .f64 m11, .float .f64 m12] := qpe 3 hA hap (by rw [hds]; rfl) (hd 3 (by decide +kernel) (by intro al hal; cases hal)) (show 56 < 85 by decide)
     have h1 : ρ (.tmp 59) = .agg #[.float .f64 m21, .float .f64 m22] := qpe 6 hA hap (by rw [hds]; rfl) (hd 6 (by decide +kernel) (by intro al hal; cases hal)) (show 59 < 85 by decide)
     have hf := Tryz.func132
     unfold execOp; go_simp
   · obtain rfl := qsj ho
     refine qvr fun ρ hA => ?_
     have hc := qrc hA
     have h0 : ρ (.tmp 11) = .pointer (some ⟨h, 0, none⟩) := (qpn hA (by rw [hds]; decide)).trans rfl
     have h1 : ρ (.tmp 53) = .int .i64 1 := qpe 0 hA hap (by rw [hds]; rfl) (hd 0 (by decide +kernel) (by intro al hal; cases hal)) (show 53 < 85 by decide)
     clear hA hd hB ho hs ha
     unfold execOp; go_simp
   · exact absurd rfl (hs _ qh0)
  case store =>
   intro st hst L W o h us ho hd hal hC b
   rcases List.mem_singleton.1 hst with rfl
   · dsimp only at ho hd hal hC b ⊢
     obtain rfl := qsj ho
     obtain ⟨rfl, rfl⟩ := hC _ _ rfl
     have c0 := b.at_ 2 _ rfl
     have f0 := b.fr 2 _ rfl
     have c1 := b.at_ 3 _ rfl
     have f1 := b.fr 3 _ rfl
     refine ⟨?_, rfl⟩
     generalize hA : (puts ds L _).eval = ρ
     have h0 : ρ (.tmp 61) = .pointer (some ⟨h, 2, none⟩) := qpe 8 hA hap (by rw [hds]; rfl) (hd 8 (by decide +kernel) (by intro al hal; cases hal)) (show 61 < 85 by decide)
     have h1 : ρ (.tmp 60) = .agg #[.float .f64 y11, .float .f64 y12] := qpe 7 hA hap (by rw [hds]; rfl) (hd 7 (by decide +kernel) (by intro al hal; cases hal)) (show 60 < 85 by decide)
     have hst' := @fstore
     clear hA hd b ho hal hC
     simp only [putW]
     unfold execOp; go_simp
  case fin =>
   intro hf W1 K
   rw [hds]
   clear hds hap ds D1 D2 D3'
   (try dsimp only at K)
   simp only [List.set_cons_zero, List.set_cons_succ, puts, Act.put, List.setIfInBounds_toArray]
   replace K := Lib.hid K
   go_upto_region 12 with fail
   replace K := K.out
   generalize hds : ([some 62, some 63, some 64, some 65, some 66, some 67, some 68, some 69, some 70, none] : List (Option Tmp)) = ds
   have hap : apartL ds = true := by rw [← hds]; decide
   replace hds := hds.symm
   refine wp_region_k (fun hf => [some (w.heap.size, [p1, p2]), some (w.heap.size + 1, [a1, a2, a3, a4, a5, a6]), some (w.heap.size + 1 + 1, [0, 0, 0, 0, 0, 0]), some (g1, [s1, s2]), some (g1 + 1, [c1, c2]), some (h, [a1, a2, y11, y12, y21, y22]), some (ga, [a3, a4]), some (gb, [a5, a6])]) (fun hf => [some (.int .i64 2), some (.agg #[.float .f64 s1, .float .f64 s2]), some (.agg #[.float .f64 a3, .float .f64 a4]), some (.agg #[.float .f64 m31, .float .f64 m32]), some (.agg #[.float .f64 c1, .float .f64 c2]), some (.agg #[.float .f64 a5, .float .f64 a6]), some (.agg #[.float .f64 m41, .float .f64 m42]), some (.agg #[.float .f64 y21, .float .f64 y22]), some (.pointer (some ⟨h, 4, none⟩)), some (undef)]) [] [⟨9, 5, 4, [y21, y22]⟩] [.int .i64 2, .agg #[.float .f64 s1, .float .f64 s2], .agg #[.float .f64 a3, .float .f64 a4], .agg #[.float .f64 m31, .float .f64 m32], .agg #[.float .f64 c1, .float .f64 c2], .agg #[.float .f64 a5, .float .f64 a6], .agg #[.float .f64 m41, .float .f64 m42], .agg #[.float .f64 y21, .float .f64 y22], .pointer (some ⟨h, 4, none⟩), undef] ds (by kernel_rfl) (by rw [hds]; rfl) hap (by decide +kernel) (by decide +kernel) K ?ha ?haj ?hai ?hsi ?hss ?hsa ?hsw ?htg ?hE2 ?hE3 ?hE4 ?hL1 ?hL2 ?hL3 ?alloc ?step ?store ?fin
   case ha => intro al hal; cases hal
   case haj => intro al hal al' hal' e; cases hal
   case hai => intro al hal; cases hal
   case hsi => exact quq _ _ _ rfl rfl
   case hss => exact qss rfl
   case hsa =>
        intro st hst al hal
        cases hal
   case hsw =>
        intro st hst al hal e
        cases hal
   case htg =>
        intro st hst
        rcases List.mem_singleton.1 hst with rfl
        · exact .inl ⟨_, _, rfl, show 4 + 2 ≤ 6 by decide⟩
   case hE2 =>
        intro hf j h1 h2
        have n5 : 5 ≠ j := h1 _ qh0
        rcases j with _ | _ | _ | _ | _ | _ | _ | _ | j <;> first | rfl | exact absurd rfl n5
   case hE3 =>
        intro hf st hst g us e
        rcases List.mem_singleton.1 hst with rfl
        · obtain ⟨rfl, rfl⟩ := Prod.mk.inj (Option.some.inj (Option.some.inj e)); rfl
   case hE4 =>
        intro hf al hal
        cases hal
   case hL1 => intro hf; rfl
   case hL2 =>
        intro hf i hi hna
        rcases (ql10 hi) with rfl | rfl | rfl | rfl | rfl | rfl | rfl | rfl | rfl | rfl <;> first | rfl
   case hL3 => intro hf al hal; cases hal
   case alloc =>
        intro al hal o ρ W ho
        cases hal
   case step =>
        intro L W i o ho hs ha hd hB
        rcases (ql10 (Array.getElem?_eq_some_iff.1 ho).1) with rfl | rfl | rfl | rfl | rfl | rfl | rfl | rfl | rfl | rfl
        · obtain rfl := qsj ho
          refine qvr fun ρ hA => ?_
          have hc := qrc hA
          have h0 : ρ (.tmp 13) = .int .i64 2 := (qpn hA (by rw [hds]; decide)).trans rfl
          clear hA hd hB ho hs ha
          unfold execOp; go_simp
        · obtain rfl := qsj ho
          have b := hB 3 _ _ rfl (qns rfl)
          have c0 := b.at_ 0 _ rfl
          have c1 := b.at_ 1 _ rfl
          clear b
          refine qvr fun ρ hA => ?_
          have hc := qrc hA
          have h0 : ρ (.tmp 8) = .pointer (some ⟨g1, 0, none⟩) := (qpn hA (by rw [hds]; decide)).trans rfl
          clear hA hd hB ho hs ha
          unfold execOp; go_simp
        · obtain rfl := qsj ho
          have b := hB 6 _ _ rfl (qns rfl)
          have c0 := b.at_ 0 _ rfl
          have c1 := b.at_ 1 _ rfl
          clear b
          refine qvr fun ρ hA => ?_
          have hc := qrc hA
          have h0 : ρ (.tmp 14) = .pointer (some ⟨ga, 0, none⟩) := (qpn hA (by rw [hds]; decide)).trans rfl
          clear hA hd hB ho hs ha
          unfold execOp; go_simp
        · obtain rfl := qsj ho
          refine .call 133 #[.agg #[.float .f64 s1, .float .f64 s2], .agg #[.float .f64 a3, .float .f64 a4]] ?_ (D4.out W)
          generalize hA : (puts ds L _).eval = ρ
          have hc := qrc hA
          have hg := qrg hA
          have h0 : ρ (.tmp 63) = .agg #[.float .f64 s1, .float .f64 s2] := qpe 1 hA hap (by rw [hds]; rfl) (hd 1 (by decide +kernel) (by intro al hal; cases hal)) (show 63 < 85 by decide)
          have h1 : ρ (.tmp 64) = .agg #[.float .f64 a3, .float .f64 a4] := qpe 2 hA hap (by rw [hds]; rfl) (hd 2 (by decide +kernel) (by intro al hal; cases hal)) (show 64 < 85 by decide)
          have hf := Tryz.func133
          unfold execOp; go_simp
        · obtain rfl := qsj ho
          have b := hB 4 _ _ rfl (qns rfl)
          have c0 := b.at_ 0 _ rfl
          have c1 := b.at_ 1 _ rfl
          clear b
          refine qvr fun ρ hA => ?_
          have hc := qrc hA
          have h0 : ρ (.tmp 9) = .pointer (some ⟨g1 + 1, 0, none⟩) := (qpn hA (by rw [hds]; decide)).trans rfl
          clear hA hd hB ho hs ha
          unfold execOp; go_simp
        · obtain rfl := qsj ho
          have b := hB 7 _ _ rfl (qns rfl)
          have c0 := b.at_ 0 _ rfl
          have c1 := b.at_ 1 _ rfl
          clear b
          refine qvr fun ρ hA => ?_
          have hc := qrc hA
          have h0 : ρ (.tmp 15) = .pointer (some ⟨gb, 0, none⟩) := (qpn hA (by rw [hds]; decide)).trans rfl
          clear hA hd hB ho hs ha
          unfold execOp; go_simp
        · obtain rfl := qsj ho
          refine .call 133 #[.agg #[.float .f64 c1, .float .f64 c2], .agg #[.float .f64 a5, .float .f64 a6]] ?_ (D5.out W)
          generalize hA : (puts ds L _).eval = ρ
          have hc := qrc hA
          have hg := qrg hA
          have h0 : ρ (.tmp 66) = .agg #[.float .f64 c1, .float .f64 c2] := qpe 4 hA hap (by rw [hds]; rfl) (hd 4 (by decide +kernel) (by intro al hal; cases hal)) (show 66 < 85 by decide)
          have h1 : ρ (.tmp 67) = .agg #[.float .f64 a5, .float .f64 a6] := qpe 5 hA hap (by rw [hds]; rfl) (hd 5 (by decide +kernel) (by intro al hal; cases hal)) (show 67 < 85 by decide)
          have hf := Tryz.func133
          unfold execOp; go_simp
        · obtain rfl := qsj ho
          refine .call 134 #[.agg #[.float .f64 m31, .float .f64 m32], .agg #[.float .f64 m41, .float .f64 m42]] ?_ (D6.out W)
          generalize hA : (puts ds L _).eval = ρ
          have hc := qrc hA
          have hg := qrg hA
          have h0 : ρ (.tmp 65) = .agg #[.float .f64 m31, .float .f64 m32] := qpe 3 hA hap (by rw [hds]; rfl) (hd 3 (by decide +kernel) (by intro al hal; cases hal)) (show 65 < 85 by decide)
          have h1 : ρ (.tmp 68) = .agg #[.float .f64 m41, .float .f64 m42] := qpe 6 hA hap (by rw [hds]; rfl) (hd 6 (by decide +kernel) (by intro al hal; cases hal)) (show 68 < 85 by decide)
          have hf := Tryz.func134
          unfold execOp; go_simp
        · obtain rfl := qsj ho
          refine qvr fun ρ hA => ?_
          have hc := qrc hA
          have h0 : ρ (.tmp 11) = .pointer (some ⟨h, 0, none⟩) := (qpn hA (by rw [hds]; decide)).trans rfl
          have h1 : ρ (.tmp 62) = .int .i64 2 := qpe 0 hA hap (by rw [hds]; rfl) (hd 0 (by decide +kernel) (by intro al hal; cases hal)) (show 62 < 85 by decide)
          clear hA hd hB ho hs ha
          unfold execOp; go_simp
        · exact absurd rfl (hs _ qh0)
   case store =>
        intro st hst L W o h us ho hd hal hC b
        rcases List.mem_singleton.1 hst with rfl
        · dsimp only at ho hd hal hC b ⊢
          obtain rfl := qsj ho
          obtain ⟨rfl, rfl⟩ := hC _ _ rfl
          have c0 := b.at_ 4 _ rfl
          have f0 := b.fr 4 _ rfl
          have c1 := b.at_ 5 _ rfl
          have f1 := b.fr 5 _ rfl
          refine ⟨?_, rfl⟩
          generalize hA : (puts ds L _).eval = ρ
          have h0 : ρ (.tmp 70) = .pointer (some ⟨h, 4, none⟩) := qpe 8 hA hap (by rw [hds]; rfl) (hd 8 (by decide +kernel) (by intro al hal; cases hal)) (show 70 < 85 by decide)
          have h1 : ρ (.tmp 69) = .agg #[.float .f64 y21, .float .f64 y22] := qpe 7 hA hap (by rw [hds]; rfl) (hd 7 (by decide +kernel) (by intro al hal; cases hal)) (show 69 < 85 by decide)
          have hst' := @fstore
          clear hA hd b ho hal hC
          simp only [putW]
          unfold execOp; go_simp
   case fin =>
        intro hf W2 K
        rw [hds]
        clear hds hap ds D4 D5 D6
        (try dsimp only at K)
        simp only [List.set_cons_zero, List.set_cons_succ, puts, Act.put, List.setIfInBounds_toArray]
        have c5_0 := K.ce 5 0 rfl rfl
        have c5_1 := K.ce 5 1 rfl rfl
        replace K := Lib.hid K
        go_wp2_with fail
        replace K := K.out
        refine (D7.out W2).mono ?_
        rintro _ v9 ⟨rfl, hb⟩
        clear c5_0 c5_1
        replace K := K.on hb
        clear hb D7
        have c5_0 := K.ce 5 0 rfl rfl
        have f5_0 := K.fe 5 0 rfl rfl
        have c5_1 := K.ce 5 1 rfl rfl
        have f5_1 := K.fe 5 1 rfl rfl
        have c5_2 := K.ce 5 2 rfl rfl
        have f5_2 := K.fe 5 2 rfl rfl
        have c5_3 := K.ce 5 3 rfl rfl
        have f5_3 := K.fe 5 3 rfl rfl
        have c5_4 := K.ce 5 4 rfl rfl
        have f5_4 := K.fe 5 4 rfl rfl
        have c5_5 := K.ce 5 5 rfl rfl
        have f5_5 := K.fe 5 5 rfl rfl
        have c2_0 := K.ce 2 0 rfl rfl
        have f2_0 := K.fe 2 0 rfl rfl
        have c2_1 := K.ce 2 1 rfl rfl
        have f2_1 := K.fe 2 1 rfl rfl
        have c2_2 := K.ce 2 2 rfl rfl
        have f2_2 := K.fe 2 2 rfl rfl
        have c2_3 := K.ce 2 3 rfl rfl
        have f2_3 := K.fe 2 3 rfl rfl
        have c2_4 := K.ce 2 4 rfl rfl
        have f2_4 := K.fe 2 4 rfl rfl
        have c2_5 := K.ce 2 5 rfl rfl
        have f2_5 := K.fe 2 5 rfl rfl
        have hh := Lib.hid (K.blk 5 _ _ rfl).1
        have hn1 : ¬ (w.heap.size + 1 + 1 = h) := fun e => by have := K.inj 2 5 _ _ _ rfl (by rw [e]; rfl); exact absurd this (by decide)
        have hn2 : ¬ (h = w.heap.size + 1 + 1) := fun e => hn1 e.symm
        replace K := Lib.hid K
        go_wp2_with fail
        replace K := K.out
        replace hh := hh.out
        (try simp only [Exit.inBlock, Exit.then])
        refine bodyPost_ret (v := .tuple #[.agg #[.float .f64 e1, .float .f64 e2, .float .f64 y11, .float .f64 y12, .float .f64 y21, .float .f64 y22], .int .i64 0]) ?_ rfl ⟨rfl, ?_⟩
        · rw [results_cell_tmp rfl]; go_simp
        · exact ((((((((K.old).setCell (by first | exact Nat.le_refl _ | (dsimp only; omega)) _).setCell (by first | exact Nat.le_refl _ | (dsimp only; omega)) _).setCell (by first | exact Nat.le_refl _ | (dsimp only; omega)) _).setCell (by first | exact Nat.le_refl _ | (dsimp only; omega)) _).setCell (by first | exact Nat.le_refl _ | (dsimp only; omega)) _).setCell (by first | exact Nat.le_refl _ | (dsimp only; omega)) _).setCell (by first | exact Nat.le_refl _ | (dsimp only; omega)) _).setCell (by first | exact Nat.le_refl _ | (dsimp only; omega)) _


theorem vboxturn2 {p1 p2 a1 a2 a3 a4 a5 a6 s1 s2 c1 c2 m11 m12 m21 m22 m31 m32 m41 m42 y11 y12 y21 y22 e1 e2 : Nat} (C0 : Hid (∀ w, Calls Tryz.prog 130 #[.int .i64 2] w fun e w' => e = .returned (.bool true) ∧ Below w.heap.size w w')) (C1 : Hid (∀ w, Calls Tryz.prog 65 #[.agg #[.float .f64 p1, .float .f64 p2]] w fun e w' => e = .returned (.tuple #[.agg #[.float .f64 s1, .float .f64 s2], .agg #[.float .f64 c1, .float .f64 c2], .int .i64 0]) ∧ Below w.heap.size w w')) (C2 : Hid (∀ w, Calls Tryz.prog 131 #[.agg #[.float .f64 a1, .float .f64 a2, .float .f64 a3, .float .f64 a4, .float .f64 a5, .float .f64 a6]] w fun e w' => e = .returned (.bool true) ∧ Below w.heap.size w w')) (D1 : Hid (∀ w, Calls Tryz.prog 133 #[.agg #[.float .f64 c1, .float .f64 c2], .agg #[.float .f64 a1, .float .f64 a2]] w fun e w' => e = .returned (.agg #[.float .f64 m11, .float .f64 m12]) ∧ Below w.heap.size w w')) (D2 : Hid (∀ w, Calls Tryz.prog 133 #[.agg #[.float .f64 s1, .float .f64 s2], .agg #[.float .f64 a3, .float .f64 a4]] w fun e w' => e = .returned (.agg #[.float .f64 m21, .float .f64 m22]) ∧ Below w.heap.size w w')) (D3' : Hid (∀ w, Calls Tryz.prog 132 #[.agg #[.float .f64 m11, .float .f64 m12], .agg #[.float .f64 m21, .float .f64 m22]] w fun e w' => e = .returned (.agg #[.float .f64 y11, .float .f64 y12]) ∧ Below w.heap.size w w')) (D4 : Hid (∀ w, Calls Tryz.prog 133 #[.agg #[.float .f64 s1, .float .f64 s2], .agg #[.float .f64 a1, .float .f64 a2]] w fun e w' => e = .returned (.agg #[.float .f64 m31, .float .f64 m32]) ∧ Below w.heap.size w w')) (D5 : Hid (∀ w, Calls Tryz.prog 133 #[.agg #[.float .f64 c1, .float .f64 c2], .agg #[.float .f64 a3, .float .f64 a4]] w fun e w' => e = .returned (.agg #[.float .f64 m41, .float .f64 m42]) ∧ Below w.heap.size w w')) (D6 : Hid (∀ w, Calls Tryz.prog 134 #[.agg #[.float .f64 m31, .float .f64 m32], .agg #[.float .f64 m41, .float .f64 m42]] w fun e w' => e = .returned (.agg #[.float .f64 y21, .float .f64 y22]) ∧ Below w.heap.size w w')) (D7 : Hid (∀ w, Calls Tryz.prog 134 #[.agg #[.float .f64 a5, .float .f64 a6], .agg #[.float .f64 0, .float .f64 0]] w fun e w' => e = .returned (.agg #[.float .f64 e1, .float .f64 e2]) ∧ Below w.heap.size w w')) (w : World) : Calls Tryz.prog 75 #[.int .i64 2, .agg #[.float .f64 p1, .float .f64 p2], .agg #[.float .f64 a1, .float .f64 a2, .float .f64 a3, .float .f64 a4, .float .f64 a5, .float .f64 a6]] w fun e w' => e = .returned (.tuple #[.agg #[.float .f64 y11, .float .f64 y12, .float .f64 y21, .float .f64 y22, .float .f64 e1, .float .f64 e2], .int .i64 0]) ∧ Below w.heap.size w w' := by
 have K0 := kw3 w 26 33 33 [p1, p2] [a1, a2, a3, a4, a5, a6] [0, 0, 0, 0, 0, 0]
 simp only [objW, List.map_cons, List.map_nil] at K0
 have hst := @fstore
 replace K0 := Lib.hid K0
 go_enter Tryz.func75, Tryz.ntmps75
 go_wp2_with fail
 have K := K0.out
 clear K0
 generalize ((w.alloc _).alloc _).alloc _ = wr at *
 refine (C0.out wr).mono ?_
 rintro _ v1 ⟨rfl, hb⟩
 replace K := K.on hb
 clear hb
 have c0_0 := K.ce 0 0 rfl rfl
 have c0_1 := K.ce 0 1 rfl rfl
 replace K := Lib.hid K
 go_wp2_with fail
 replace K := K.out
 refine (C1.out v1).mono ?_
 rintro _ v2 ⟨rfl, hb⟩
 clear c0_0 c0_1
 replace K := K.on hb
 clear hb
 replace K := K.new 26 [s1, s2]
 replace K := K.and (n := v2.heap.size + 1) (by simp) 26 [c1, c2]
 simp only [objW, List.map_cons, List.map_nil, List.cons_append, List.nil_append] at K
 have c1_0 := K.ce 1 0 rfl rfl
 have c1_1 := K.ce 1 1 rfl rfl
 have c1_2 := K.ce 1 2 rfl rfl
 have c1_3 := K.ce 1 3 rfl rfl
 have c1_4 := K.ce 1 4 rfl rfl
 have c1_5 := K.ce 1 5 rfl rfl
 replace K := Lib.hid K
 go_wp2_with fail
 replace K := K.out
 generalize (v2.alloc _).alloc _ = u2 at *
 generalize v2.heap.size = g1 at *
 refine (C2.out u2).mono ?_
 rintro _ v3 ⟨rfl, hb⟩
 clear c1_0 c1_1 c1_2 c1_3 c1_4 c1_5
 replace K := K.on hb
 clear hb
 have c1_0 := K.ce 1 0 rfl rfl
 have c1_1 := K.ce 1 1 rfl rfl
 have c1_2 := K.ce 1 2 rfl rfl
 have c1_3 := K.ce 1 3 rfl rfl
 have c1_4 := K.ce 1 4 rfl rfl
 have c1_5 := K.ce 1 5 rfl rfl
 replace K := Lib.hid K
 go_upto_region 10 with fail
 replace K := K.out
 have K := (K.new 96 [a1, a2, a3, a4, a5, a6])
 simp only [objW, List.map_cons, List.map_nil, List.cons_append, List.nil_append] at K
 generalize v3.alloc _ = wr at *
 generalize v3.heap.size = h at *
 replace K := K.more.more
 simp only [List.cons_append, List.nil_append] at K
 generalize hds : ([some 47, some 48, some 49, some 50, some 51, some 52, some 14, some 15, none, none] : List (Option Tmp)) = ds
 have hap : apartL ds = true := by rw [← hds]; decide
 replace hds := hds.symm
 refine wp_region_k (fun hf => [some (w.heap.size, [p1, p2]), some (w.heap.size + 1, [a1, a2, a3, a4, a5, a6]), some (w.heap.size + 1 + 1, [0, 0, 0, 0, 0, 0]), some (g1, [s1, s2]), some (g1 + 1, [c1, c2]), some (h, [a1, a2, a3, a4, a5, a6]), some (hf 6, [a1, a2]), some (hf 7, [a3, a4])]) (fun hf => [some (.int .i64 0), some (.pointer (some ⟨h, 0, none⟩)), some (.agg #[.float .f64 a1, .float .f64 a2]), some (.int .i64 1), some (.pointer (some ⟨h, 2, none⟩)), some (.agg #[.float .f64 a3, .float .f64 a4]), some (ptrV (hf 6)), some (ptrV (hf 7)), some (undef), some (undef)]) [⟨6, 6, 26, [0, 0]⟩, ⟨7, 7, 26, [0, 0]⟩] [⟨8, 6, 0, [a1, a2]⟩, ⟨9, 7, 0, [a3, a4]⟩] [.int .i64 0, .pointer (some ⟨h, 0, none⟩), .agg #[.float .f64 a1, .float .f64 a2], .int .i64 1, .pointer (some ⟨h, 2, none⟩), .agg #[.float .f64 a3, .float .f64 a4], undef, undef, undef, undef] ds (by kernel_rfl) (by rw [hds]; rfl) hap (by decide +kernel) (by decide +kernel) K ?ha ?haj ?hai ?hsi ?hss ?hsa ?hsw ?htg ?hE2 ?hE3 ?hE4 ?hL1 ?hL2 ?hL3 ?alloc ?step ?store ?fin
 case ha => intro al hal; rcases qm2 hal with rfl | rfl <;> rfl
 case haj => exact quq _ _ _ rfl rfl
 case hai => exact qss rfl
 case hsi => exact quq _ _ _ rfl rfl
 case hss => exact qss rfl
 case hsa => exact qsa rfl
 case hsw =>
  intro st hst al hal e
  rcases qm2 hst with rfl | rfl
  · rcases qm2 hal with rfl | rfl
    · change waitsAt _ 8 6 = true; decide +kernel
    · exact qnd e rfl
  · rcases qm2 hal with rfl | rfl
    · exact qnd e rfl
    · change waitsAt _ 9 7 = true; decide +kernel
 case htg =>
  intro st hst
  rcases qm2 hst with rfl | rfl
  · exact .inr ⟨_, qh0, rfl, show 0 + 2 ≤ 2 by decide⟩
  · exact .inr ⟨_, qh1, rfl, show 0 + 2 ≤ 2 by decide⟩
 case hE2 =>
  intro hf j h1 h2
  have n6 : 6 ≠ j := h1 _ qh0
  have n7 : 7 ≠ j := h1 _ qh1
  rcases j with _ | _ | _ | _ | _ | _ | _ | _ | j <;> first | rfl | exact absurd rfl n6 | exact absurd rfl n7
 case hE3 =>
  intro hf st hst g us e
  rcases qm2 hst with rfl | rfl <;> simp at e
 case hE4 =>
  intro hf al hal
  rcases qm2 hal with rfl | rfl
  · refine ⟨fun st hst e => ?_, fun h => absurd rfl (h _ qh0)⟩
    rcases qm2 hst with rfl | rfl
    · rfl
    · exact qnd e rfl
  · refine ⟨fun st hst e => ?_, fun h => absurd rfl (h _ qh1)⟩
    rcases qm2 hst with rfl | rfl
    · exact qnd e rfl
    · rfl
 case hL1 => intro hf; rfl
 case hL2 =>
  intro hf i hi hna
  rcases (ql10 hi) with rfl | rfl | rfl | rfl | rfl | rfl | rfl | rfl | rfl | rfl <;> first | rfl | exact absurd rfl (hna _ qh0) | exact absurd rfl (hna _ qh1)
 case hL3 => intro hf al hal; rcases qm2 hal with rfl | rfl <;> rfl
 case alloc =>
  intro al hal o ρ W ho
  rcases qm2 hal with rfl | rfl
  · obtain rfl := qsj ho; unfold execOp ptrV objW; simp only [List.map_cons, List.map_nil]; go_simp
  · obtain rfl := qsj ho; unfold execOp ptrV objW; simp only [List.map_cons, List.map_nil]; go_simp
 case step =>
  intro L W i o ho hs ha hd hB
  rcases (ql10 (Array.getElem?_eq_some_iff.1 ho).1) with rfl | rfl | rfl | rfl | rfl | rfl | rfl | rfl | rfl | rfl
  · obtain rfl := qsj ho
    refine qvr fun ρ hA => ?_
    have hc := qrc hA
    have h0 : ρ (.tmp 12) = .int .i64 0 := (qpn hA (by rw [hds]; decide)).trans rfl
    clear hA hd hB ho hs ha
    unfold execOp; go_simp
  · obtain rfl := qsj ho
    refine qvr fun ρ hA => ?_
    have hc := qrc hA
    have h0 : ρ (.tmp 11) = .pointer (some ⟨h, 0, none⟩) := (qpn hA (by rw [hds]; decide)).trans rfl
    have h1 : ρ (.tmp 47) = .int .i64 0 := qpe 0 hA hap (by rw [hds]; rfl) (hd 0 (by decide +kernel) (qne rfl)) (show 47 < 85 by decide)
    clear hA hd hB ho hs ha
    unfold execOp; go_simp
  · obtain rfl := qsj ho
    have b := hB 5 _ _ rfl (qns rfl)
    have c0 := b.at_ 0 _ rfl
    have c1 := b.at_ 1 _ rfl
    clear b
    refine qvr fun ρ hA => ?_
    have hc := qrc hA
    have h0 : ρ (.tmp 48) = .pointer (some ⟨h, 0, none⟩) := qpe 1 hA hap (by rw [hds]; rfl) (hd 1 (by decide +kernel) (qne rfl)) (show 48 < 85 by decide)
    clear hA hd hB ho hs ha
    unfold execOp; go_simp
  · obtain rfl := qsj ho
    refine qvr fun ρ hA => ?_
    have hc := qrc hA
    have h0 : ρ (.tmp 13) = .int .i64 1 := (qpn hA (by rw [hds]; decide)).trans rfl
    clear hA hd hB ho hs ha
    unfold execOp; go_simp
  · obtain rfl := qsj ho
    refine qvr fun ρ hA => ?_
    have hc := qrc hA
    have h0 : ρ (.tmp 11) = .pointer (some ⟨h, 0, none⟩) := (qpn hA (by rw [hds]; decide)).trans rfl
    have h1 : ρ (.tmp 50) = .int .i64 1 := qpe 3 hA hap (by rw [hds]; rfl) (hd 3 (by decide +kernel) (qne rfl)) (show 50 < 85 by decide)
    clear hA hd hB ho hs ha
    unfold execOp; go_simp
  · obtain rfl := qsj ho
    have b := hB 5 _ _ rfl (qns rfl)
    have c2 := b.at_ 2 _ rfl
    have c3 := b.at_ 3 _ rfl
    clear b
    refine qvr fun ρ hA => ?_
    have hc := qrc hA
    have h0 : ρ (.tmp 51) = .pointer (some ⟨h, 2, none⟩) := qpe 4 hA hap (by rw [hds]; rfl) (hd 4 (by decide +kernel) (qne rfl)) (show 51 < 85 by decide)
    clear hA hd hB ho hs ha
    unfold execOp; go_simp
  · exact absurd rfl (ha _ qh0)
  · exact absurd rfl (ha _ qh1)
  · exact absurd rfl (hs _ qh0)
  · exact absurd rfl (hs _ qh1)
 case store =>
  intro st hst L W o h us ho hd hal hC b
  rcases qm2 hst with rfl | rfl
  · dsimp only at ho hd hal hC b ⊢
    obtain rfl := qsj ho
    obtain ⟨hl, rfl⟩ := hal _ qh0 rfl
    have c0 := b.at_ 0 _ rfl
    have f0 := b.fr 0 _ rfl
    have c1 := b.at_ 1 _ rfl
    have f1 := b.fr 1 _ rfl
    refine ⟨?_, rfl⟩
    generalize hA : (puts ds L _).eval = ρ
    have h0 : ρ (.tmp 14) = .pointer (some ⟨h, 0, none⟩) := qpe 6 hA hap (by rw [hds]; rfl) hl (show 14 < 85 by decide)
    have h1 : ρ (.tmp 49) = .agg #[.float .f64 a1, .float .f64 a2] := qpe 2 hA hap (by rw [hds]; rfl) (hd 2 (by decide +kernel) (qne rfl)) (show 49 < 85 by decide)
    have hst' := @fstore
    clear hA hd b ho hal hC
    simp only [putW]
    unfold execOp; go_simp
  · dsimp only at ho hd hal hC b ⊢
    obtain rfl := qsj ho
    obtain ⟨hl, rfl⟩ := hal _ qh1 rfl
    have c0 := b.at_ 0 _ rfl
    have f0 := b.fr 0 _ rfl
    have c1 := b.at_ 1 _ rfl
    have f1 := b.fr 1 _ rfl
    refine ⟨?_, rfl⟩
    generalize hA : (puts ds L _).eval = ρ
    have h0 : ρ (.tmp 15) = .pointer (some ⟨h, 0, none⟩) := qpe 7 hA hap (by rw [hds]; rfl) hl (show 15 < 85 by decide)
    have h1 : ρ (.tmp 52) = .agg #[.float .f64 a3, .float .f64 a4] := qpe 5 hA hap (by rw [hds]; rfl) (hd 5 (by decide +kernel) (qne rfl)) (show 52 < 85 by decide)
    have hst' := @fstore
    clear hA hd b ho hal hC
    simp only [putW]
    unfold execOp; go_simp
 case fin =>
  intro hf W0 K
  rw [hds]
  clear hds hap ds
  (try dsimp only at K)
  generalize hf 6 = ga at *
  generalize hf 7 = gb at *
  (try unfold ptrV)
  simp only [List.set_cons_zero, List.set_cons_succ, puts, Act.put, List.setIfInBounds_toArray]
  replace K := Lib.hid K
  go_upto_region 11 with fail
  replace K := K.out
  generalize hds : ([some 53, some 54, some 55, some 56, some 57, some 58, some 59, some 60, some 61, none] : List (Option Tmp)) = ds
  have hap : apartL ds = true := by rw [← hds]; decide
  replace hds := hds.symm
  refine wp_region_k (fun hf => [some (w.heap.size, [p1, p2]), some (w.heap.size + 1, [a1, a2, a3, a4, a5, a6]), some (w.heap.size + 1 + 1, [0, 0, 0, 0, 0, 0]), some (g1, [s1, s2]), some (g1 + 1, [c1, c2]), some (h, [y11, y12, a3, a4, a5, a6]), some (ga, [a1, a2]), some (gb, [a3, a4])]) (fun hf => [some (.int .i64 0), some (.agg #[.float .f64 c1, .float .f64 c2]), some (.agg #[.float .f64 a1, .float .f64 a2]), some (.agg #[.float .f64 m11, .float .f64 m12]), some (.agg #[.float .f64 s1, .float .f64 s2]), some (.agg #[.float .f64 a3, .float .f64 a4]), some (.agg #[.float .f64 m21, .float .f64 m22]), some (.agg #[.float .f64 y11, .float .f64 y12]), some (.pointer (some ⟨h, 0, none⟩)), some (undef)]) [] [⟨9, 5, 0, [y11, y12]⟩] [.int .i64 0, .agg #[.float .f64 c1, .float .f64 c2], .agg #[.float .f64 a1, .float .f64 a2], .agg #[.float .f64 m11, .float .f64 m12], .agg #[.float .f64 s1, .float .f64 s2], .agg #[.float .f64 a3, .float .f64 a4], .agg #[.float .f64 m21, .float .f64 m22], .agg #[.float .f64 y11, .float .f64 y12], .pointer (some ⟨h, 0, none⟩), undef] ds (by kernel_rfl) (by rw [hds]; rfl) hap (by decide +kernel) (by decide +kernel) K ?ha ?haj ?hai ?hsi ?hss ?hsa ?hsw ?htg ?hE2 ?hE3 ?hE4 ?hL1 ?hL2 ?hL3 ?alloc ?step ?store ?fin
  case ha => intro al hal; cases hal
  case haj => intro al hal al' hal' e; cases hal
  case hai => intro al hal; cases hal
  case hsi => exact quq _ _ _ rfl rfl
  case hss => exact qss rfl
  case hsa =>
   intro st hst al hal
   cases hal
  case hsw =>
   intro st hst al hal e
   cases hal
  case htg =>
   intro st hst
   rcases List.mem_singleton.1 hst with rfl
   · exact .inl ⟨_, _, rfl, show 0 + 2 ≤ 6 by decide⟩
  case hE2 =>
   intro hf j h1 h2
   have n5 : 5 ≠ j := h1 _ qh0
   rcases j with _ | _ | _ | _ | _ | _ | _ | _ | j <;> first | rfl | exact absurd rfl n5
  case hE3 =>
   intro hf st hst g us e
   rcases List.mem_singleton.1 hst with rfl
   · obtain ⟨rfl, rfl⟩ := Prod.mk.inj (Option.some.inj (Option.some.inj e)); rfl
  case hE4 =>
   intro hf al hal
   cases hal
  case hL1 => intro hf; rfl
  case hL2 =>
   intro hf i hi hna
   rcases (ql10 hi) with rfl | rfl | rfl | rfl | rfl | rfl | rfl | rfl | rfl | rfl <;> first | rfl
  case hL3 => intro hf al hal; cases hal
  case alloc =>
   intro al hal o ρ W ho
   cases hal
  case step =>
   intro L W i o ho hs ha hd hB
   rcases (ql10 (Array.getElem?_eq_some_iff.1 ho).1) with rfl | rfl | rfl | rfl | rfl | rfl | rfl | rfl | rfl | rfl
   · obtain rfl := qsj ho
     refine qvr fun ρ hA => ?_
     have hc := qrc hA
     have h0 : ρ (.tmp 12) = .int .i64 0 := (qpn hA (by rw [hds]; decide)).trans rfl
     clear hA hd hB ho hs ha
     unfold execOp; go_simp
   · obtain rfl := qsj ho
     have b := hB 4 _ _ rfl (qns rfl)
     have c0 := b.at_ 0 _ rfl
     have c1 := b.at_ 1 _ rfl
     clear b
     refine qvr fun ρ hA => ?_
     have hc := qrc hA
     have h0 : ρ (.tmp 9) = .pointer (some ⟨g1 + 1, 0, none⟩) := (qpn hA (by rw [hds]; decide)).trans rfl
     clear hA hd hB ho hs ha
     unfold execOp; go_simp
   · obtain rfl := qsj ho
     have b := hB 6 _ _ rfl (qns rfl)
     have c0 := b.at_ 0 _ rfl
     have c1 := b.at_ 1 _ rfl
     clear b
     refine qvr fun ρ hA => ?_
     have hc := qrc hA
     have h0 : ρ (.tmp 14) = .pointer (some ⟨ga, 0, none⟩) := (qpn hA (by rw [hds]; decide)).trans rfl
     clear hA hd hB ho hs ha
     unfold execOp; go_simp
   · obtain rfl := qsj ho
     refine .call 133 #[.agg #[.float .f64 c1, .float .f64 c2], .agg #[.float .f64 a1, .float .f64 a2]] ?_ (D1.out W)
     generalize hA : (puts ds L _).eval = ρ
     have hc := qrc hA
     have hg := qrg hA
     have h0 : ρ (.tmp 54) = .agg #[.float .f64 c1, .float .f64 c2] := qpe 1 hA hap (by rw [hds]; rfl) (hd 1 (by decide +kernel) (by intro al hal; cases hal)) (show 54 < 85 by decide)
     have h1 : ρ (.tmp 55) = .agg #[.float .f64 a1, .float .f64 a2] := qpe 2 hA hap (by rw [hds]; rfl) (hd 2 (by decide +kernel) (by intro al hal; cases hal)) (show 55 < 85 by decide)
     have hf := Tryz.func133
     unfold execOp; go_simp
   · obtain rfl := qsj ho
     have b := hB 3 _ _ rfl (qns rfl)
     have c0 := b.at_ 0 _ rfl
     have c1 := b.at_ 1 _ rfl
     clear b
     refine qvr fun ρ hA => ?_
     have hc := qrc hA
     have h0 : ρ (.tmp 8) = .pointer (some ⟨g1, 0, none⟩) := (qpn hA (by rw [hds]; decide)).trans rfl
     clear hA hd hB ho hs ha
     unfold execOp; go_simp
   · obtain rfl := qsj ho
     have b := hB 7 _ _ rfl (qns rfl)
     have c0 := b.at_ 0 _ rfl
     have c1 := b.at_ 1 _ rfl
     clear b
     refine qvr fun ρ hA => ?_
     have hc := qrc hA
     have h0 : ρ (.tmp 15) = .pointer (some ⟨gb, 0, none⟩) := (qpn hA (by rw [hds]; decide)).trans rfl
     clear hA hd hB ho hs ha
     unfold execOp; go_simp
   · obtain rfl := qsj ho
     refine .call 133 #[.agg #[.float .f64 s1, .float .f64 s2], .agg #[.float .f64 a3, .float .f64 a4]] ?_ (D2.out W)
     generalize hA : (puts ds L _).eval = ρ
     have hc := qrc hA
     have hg := qrg hA
     have h0 : ρ (.tmp 57) = .agg #[.float .f64 s1, .float .f64 s2] := qpe 4 hA hap (by rw [hds]; rfl) (hd 4 (by decide +kernel) (by intro al hal; cases hal)) (show 57 < 85 by decide)
     have h1 : ρ (.tmp 58) = .agg #[.float .f64 a3, .float .f64 a4] := qpe 5 hA hap (by rw [hds]; rfl) (hd 5 (by decide +kernel) (by intro al hal; cases hal)) (show 58 < 85 by decide)
     have hf := Tryz.func133
     unfold execOp; go_simp
   · obtain rfl := qsj ho
     refine .call 132 #[.agg #[.float .f64 m11, .float .f64 m12], .agg #[.float .f64 m21, .float .f64 m22]] ?_ (D3'.out W)
     generalize hA : (puts ds L _).eval = ρ
     have hc := qrc hA
     have hg := qrg hA
     have h0 : ρ (.tmp 56) = .agg #[.float .f64 m11, .float .f64 m12] := qpe 3 hA hap (by rw [hds]; rfl) (hd 3 (by decide +kernel) (by intro al hal; cases hal)) (show 56 < 85 by decide)
     have h1 : ρ (.tmp 59) = .agg #[.float .f64 m21, .float .f64 m22] := qpe 6 hA hap (by rw [hds]; rfl) (hd 6 (by decide +kernel) (by intro al hal; cases hal)) (show 59 < 85 by decide)
     have hf := Tryz.func132
     unfold execOp; go_simp
   · obtain rfl := qsj ho
     refine qvr fun ρ hA => ?_
     have hc := qrc hA
     have h0 : ρ (.tmp 11) = .pointer (some ⟨h, 0, none⟩) := (qpn hA (by rw [hds]; decide)).trans rfl
     have h1 : ρ (.tmp 53) = .int .i64 0 := qpe 0 hA hap (by rw [hds]; rfl) (hd 0 (by decide +kernel) (by intro al hal; cases hal)) (show 53 < 85 by decide)
     clear hA hd hB ho hs ha
     unfold execOp; go_simp
   · exact absurd rfl (hs _ qh0)
  case store =>
   intro st hst L W o h us ho hd hal hC b
   rcases List.mem_singleton.1 hst with rfl
   · dsimp only at ho hd hal hC b ⊢
     obtain rfl := qsj ho
     obtain ⟨rfl, rfl⟩ := hC _ _ rfl
     have c0 := b.at_ 0 _ rfl
     have f0 := b.fr 0 _ rfl
     have c1 := b.at_ 1 _ rfl
     have f1 := b.fr 1 _ rfl
     refine ⟨?_, rfl⟩
     generalize hA : (puts ds L _).eval = ρ
     have h0 : ρ (.tmp 61) = .pointer (some ⟨h, 0, none⟩) := qpe 8 hA hap (by rw [hds]; rfl) (hd 8 (by decide +kernel) (by intro al hal; cases hal)) (show 61 < 85 by decide)
     have h1 : ρ (.tmp 60) = .agg #[.float .f64 y11, .float .f64 y12] := qpe 7 hA hap (by rw [hds]; rfl) (hd 7 (by decide +kernel) (by intro al hal; cases hal)) (show 60 < 85 by decide)
     have hst' := @fstore
     clear hA hd b ho hal hC
     simp only [putW]
     unfold execOp; go_simp
  case fin =>
   intro hf W1 K
   rw [hds]
   clear hds hap ds D1 D2 D3'
   (try dsimp only at K)
   simp only [List.set_cons_zero, List.set_cons_succ, puts, Act.put, List.setIfInBounds_toArray]
   replace K := Lib.hid K
   go_upto_region 12 with fail
   replace K := K.out
   generalize hds : ([some 62, some 63, some 64, some 65, some 66, some 67, some 68, some 69, some 70, none] : List (Option Tmp)) = ds
   have hap : apartL ds = true := by rw [← hds]; decide
   replace hds := hds.symm
   refine wp_region_k (fun hf => [some (w.heap.size, [p1, p2]), some (w.heap.size + 1, [a1, a2, a3, a4, a5, a6]), some (w.heap.size + 1 + 1, [0, 0, 0, 0, 0, 0]), some (g1, [s1, s2]), some (g1 + 1, [c1, c2]), some (h, [y11, y12, y21, y22, a5, a6]), some (ga, [a1, a2]), some (gb, [a3, a4])]) (fun hf => [some (.int .i64 1), some (.agg #[.float .f64 s1, .float .f64 s2]), some (.agg #[.float .f64 a1, .float .f64 a2]), some (.agg #[.float .f64 m31, .float .f64 m32]), some (.agg #[.float .f64 c1, .float .f64 c2]), some (.agg #[.float .f64 a3, .float .f64 a4]), some (.agg #[.float .f64 m41, .float .f64 m42]), some (.agg #[.float .f64 y21, .float .f64 y22]), some (.pointer (some ⟨h, 2, none⟩)), some (undef)]) [] [⟨9, 5, 2, [y21, y22]⟩] [.int .i64 1, .agg #[.float .f64 s1, .float .f64 s2], .agg #[.float .f64 a1, .float .f64 a2], .agg #[.float .f64 m31, .float .f64 m32], .agg #[.float .f64 c1, .float .f64 c2], .agg #[.float .f64 a3, .float .f64 a4], .agg #[.float .f64 m41, .float .f64 m42], .agg #[.float .f64 y21, .float .f64 y22], .pointer (some ⟨h, 2, none⟩), undef] ds (by kernel_rfl) (by rw [hds]; rfl) hap (by decide +kernel) (by decide +kernel) K ?ha ?haj ?hai ?hsi ?hss ?hsa ?hsw ?htg ?hE2 ?hE3 ?hE4 ?hL1 ?hL2 ?hL3 ?alloc ?step ?store ?fin
   case ha => intro al hal; cases hal
   case haj => intro al hal al' hal' e; cases hal
   case hai => intro al hal; cases hal
   case hsi => exact quq _ _ _ rfl rfl
   case hss => exact qss rfl
   case hsa =>
        intro st hst al hal
        cases hal
   case hsw =>
        intro st hst al hal e
        cases hal
   case htg =>
        intro st hst
        rcases List.mem_singleton.1 hst with rfl
        · exact .inl ⟨_, _, rfl, show 2 + 2 ≤ 6 by decide⟩
   case hE2 =>
        intro hf j h1 h2
        have n5 : 5 ≠ j := h1 _ qh0
        rcases j with _ | _ | _ | _ | _ | _ | _ | _ | j <;> first | rfl | exact absurd rfl n5
   case hE3 =>
        intro hf st hst g us e
        rcases List.mem_singleton.1 hst with rfl
        · obtain ⟨rfl, rfl⟩ := Prod.mk.inj (Option.some.inj (Option.some.inj e)); rfl
   case hE4 =>
        intro hf al hal
        cases hal
   case hL1 => intro hf; rfl
   case hL2 =>
        intro hf i hi hna
        rcases (ql10 hi) with rfl | rfl | rfl | rfl | rfl | rfl | rfl | rfl | rfl | rfl <;> first | rfl
   case hL3 => intro hf al hal; cases hal
   case alloc =>
        intro al hal o ρ W ho
        cases hal
   case step =>
        intro L W i o ho hs ha hd hB
        rcases (ql10 (Array.getElem?_eq_some_iff.1 ho).1) with rfl | rfl | rfl | rfl | rfl | rfl | rfl | rfl | rfl | rfl
        · obtain rfl := qsj ho
          refine qvr fun ρ hA => ?_
          have hc := qrc hA
          have h0 : ρ (.tmp 13) = .int .i64 1 := (qpn hA (by rw [hds]; decide)).trans rfl
          clear hA hd hB ho hs ha
          unfold execOp; go_simp
        · obtain rfl := qsj ho
          have b := hB 3 _ _ rfl (qns rfl)
          have c0 := b.at_ 0 _ rfl
          have c1 := b.at_ 1 _ rfl
          clear b
          refine qvr fun ρ hA => ?_
          have hc := qrc hA
          have h0 : ρ (.tmp 8) = .pointer (some ⟨g1, 0, none⟩) := (qpn hA (by rw [hds]; decide)).trans rfl
          clear hA hd hB ho hs ha
          unfold execOp; go_simp
        · obtain rfl := qsj ho
          have b := hB 6 _ _ rfl (qns rfl)
          have c0 := b.at_ 0 _ rfl
          have c1 := b.at_ 1 _ rfl
          clear b
          refine qvr fun ρ hA => ?_
          have hc := qrc hA
          have h0 : ρ (.tmp 14) = .pointer (some ⟨ga, 0, none⟩) := (qpn hA (by rw [hds]; decide)).trans rfl
          clear hA hd hB ho hs ha
          unfold execOp; go_simp
        · obtain rfl := qsj ho
          refine .call 133 #[.agg #[.float .f64 s1, .float .f64 s2], .agg #[.float .f64 a1, .float .f64 a2]] ?_ (D4.out W)
          generalize hA : (puts ds L _).eval = ρ
          have hc := qrc hA
          have hg := qrg hA
          have h0 : ρ (.tmp 63) = .agg #[.float .f64 s1, .float .f64 s2] := qpe 1 hA hap (by rw [hds]; rfl) (hd 1 (by decide +kernel) (by intro al hal; cases hal)) (show 63 < 85 by decide)
          have h1 : ρ (.tmp 64) = .agg #[.float .f64 a1, .float .f64 a2] := qpe 2 hA hap (by rw [hds]; rfl) (hd 2 (by decide +kernel) (by intro al hal; cases hal)) (show 64 < 85 by decide)
          have hf := Tryz.func133
          unfold execOp; go_simp
        · obtain rfl := qsj ho
          have b := hB 4 _ _ rfl (qns rfl)
          have c0 := b.at_ 0 _ rfl
          have c1 := b.at_ 1 _ rfl
          clear b
          refine qvr fun ρ hA => ?_
          have hc := qrc hA
          have h0 : ρ (.tmp 9) = .pointer (some ⟨g1 + 1, 0, none⟩) := (qpn hA (by rw [hds]; decide)).trans rfl
          clear hA hd hB ho hs ha
          unfold execOp; go_simp
        · obtain rfl := qsj ho
          have b := hB 7 _ _ rfl (qns rfl)
          have c0 := b.at_ 0 _ rfl
          have c1 := b.at_ 1 _ rfl
          clear b
          refine qvr fun ρ hA => ?_
          have hc := qrc hA
          have h0 : ρ (.tmp 15) = .pointer (some ⟨gb, 0, none⟩) := (qpn hA (by rw [hds]; decide)).trans rfl
          clear hA hd hB ho hs ha
          unfold execOp; go_simp
        · obtain rfl := qsj ho
          refine .call 133 #[.agg #[.float .f64 c1, .float .f64 c2], .agg #[.float .f64 a3, .float .f64 a4]] ?_ (D5.out W)
          generalize hA : (puts ds L _).eval = ρ
          have hc := qrc hA
          have hg := qrg hA
          have h0 : ρ (.tmp 66) = .agg #[.float .f64 c1, .float .f64 c2] := qpe 4 hA hap (by rw [hds]; rfl) (hd 4 (by decide +kernel) (by intro al hal; cases hal)) (show 66 < 85 by decide)
          have h1 : ρ (.tmp 67) = .agg #[.float .f64 a3, .float .f64 a4] := qpe 5 hA hap (by rw [hds]; rfl) (hd 5 (by decide +kernel) (by intro al hal; cases hal)) (show 67 < 85 by decide)
          have hf := Tryz.func133
          unfold execOp; go_simp
        · obtain rfl := qsj ho
          refine .call 134 #[.agg #[.float .f64 m31, .float .f64 m32], .agg #[.float .f64 m41, .float .f64 m42]] ?_ (D6.out W)
          generalize hA : (puts ds L _).eval = ρ
          have hc := qrc hA
          have hg := qrg hA
          have h0 : ρ (.tmp 65) = .agg #[.float .f64 m31, .float .f64 m32] := qpe 3 hA hap (by rw [hds]; rfl) (hd 3 (by decide +kernel) (by intro al hal; cases hal)) (show 65 < 85 by decide)
          have h1 : ρ (.tmp 68) = .agg #[.float .f64 m41, .float .f64 m42] := qpe 6 hA hap (by rw [hds]; rfl) (hd 6 (by decide +kernel) (by intro al hal; cases hal)) (show 68 < 85 by decide)
          have hf := Tryz.func134
          unfold execOp; go_simp
        · obtain rfl := qsj ho
          refine qvr fun ρ hA => ?_
          have hc := qrc hA
          have h0 : ρ (.tmp 11) = .pointer (some ⟨h, 0, none⟩) := (qpn hA (by rw [hds]; decide)).trans rfl
          have h1 : ρ (.tmp 62) = .int .i64 1 := qpe 0 hA hap (by rw [hds]; rfl) (hd 0 (by decide +kernel) (by intro al hal; cases hal)) (show 62 < 85 by decide)
          clear hA hd hB ho hs ha
          unfold execOp; go_simp
        · exact absurd rfl (hs _ qh0)
   case store =>
        intro st hst L W o h us ho hd hal hC b
        rcases List.mem_singleton.1 hst with rfl
        · dsimp only at ho hd hal hC b ⊢
          obtain rfl := qsj ho
          obtain ⟨rfl, rfl⟩ := hC _ _ rfl
          have c0 := b.at_ 2 _ rfl
          have f0 := b.fr 2 _ rfl
          have c1 := b.at_ 3 _ rfl
          have f1 := b.fr 3 _ rfl
          refine ⟨?_, rfl⟩
          generalize hA : (puts ds L _).eval = ρ
          have h0 : ρ (.tmp 70) = .pointer (some ⟨h, 2, none⟩) := qpe 8 hA hap (by rw [hds]; rfl) (hd 8 (by decide +kernel) (by intro al hal; cases hal)) (show 70 < 85 by decide)
          have h1 : ρ (.tmp 69) = .agg #[.float .f64 y21, .float .f64 y22] := qpe 7 hA hap (by rw [hds]; rfl) (hd 7 (by decide +kernel) (by intro al hal; cases hal)) (show 69 < 85 by decide)
          have hst' := @fstore
          clear hA hd b ho hal hC
          simp only [putW]
          unfold execOp; go_simp
   case fin =>
        intro hf W2 K
        rw [hds]
        clear hds hap ds D4 D5 D6
        (try dsimp only at K)
        simp only [List.set_cons_zero, List.set_cons_succ, puts, Act.put, List.setIfInBounds_toArray]
        have c5_4 := K.ce 5 4 rfl rfl
        have c5_5 := K.ce 5 5 rfl rfl
        replace K := Lib.hid K
        go_wp2_with fail
        replace K := K.out
        refine (D7.out W2).mono ?_
        rintro _ v9 ⟨rfl, hb⟩
        clear c5_4 c5_5
        replace K := K.on hb
        clear hb D7
        have c5_0 := K.ce 5 0 rfl rfl
        have f5_0 := K.fe 5 0 rfl rfl
        have c5_1 := K.ce 5 1 rfl rfl
        have f5_1 := K.fe 5 1 rfl rfl
        have c5_2 := K.ce 5 2 rfl rfl
        have f5_2 := K.fe 5 2 rfl rfl
        have c5_3 := K.ce 5 3 rfl rfl
        have f5_3 := K.fe 5 3 rfl rfl
        have c5_4 := K.ce 5 4 rfl rfl
        have f5_4 := K.fe 5 4 rfl rfl
        have c5_5 := K.ce 5 5 rfl rfl
        have f5_5 := K.fe 5 5 rfl rfl
        have c2_0 := K.ce 2 0 rfl rfl
        have f2_0 := K.fe 2 0 rfl rfl
        have c2_1 := K.ce 2 1 rfl rfl
        have f2_1 := K.fe 2 1 rfl rfl
        have c2_2 := K.ce 2 2 rfl rfl
        have f2_2 := K.fe 2 2 rfl rfl
        have c2_3 := K.ce 2 3 rfl rfl
        have f2_3 := K.fe 2 3 rfl rfl
        have c2_4 := K.ce 2 4 rfl rfl
        have f2_4 := K.fe 2 4 rfl rfl
        have c2_5 := K.ce 2 5 rfl rfl
        have f2_5 := K.fe 2 5 rfl rfl
        have hh := Lib.hid (K.blk 5 _ _ rfl).1
        have hn1 : ¬ (w.heap.size + 1 + 1 = h) := fun e => by have := K.inj 2 5 _ _ _ rfl (by rw [e]; rfl); exact absurd this (by decide)
        have hn2 : ¬ (h = w.heap.size + 1 + 1) := fun e => hn1 e.symm
        replace K := Lib.hid K
        go_wp2_with fail
        replace K := K.out
        replace hh := hh.out
        (try simp only [Exit.inBlock, Exit.then])
        refine bodyPost_ret (v := .tuple #[.agg #[.float .f64 y11, .float .f64 y12, .float .f64 y21, .float .f64 y22, .float .f64 e1, .float .f64 e2], .int .i64 0]) ?_ rfl ⟨rfl, ?_⟩
        · rw [results_cell_tmp rfl]; go_simp
        · exact ((((((((K.old).setCell (by first | exact Nat.le_refl _ | (dsimp only; omega)) _).setCell (by first | exact Nat.le_refl _ | (dsimp only; omega)) _).setCell (by first | exact Nat.le_refl _ | (dsimp only; omega)) _).setCell (by first | exact Nat.le_refl _ | (dsimp only; omega)) _).setCell (by first | exact Nat.le_refl _ | (dsimp only; omega)) _).setCell (by first | exact Nat.le_refl _ | (dsimp only; omega)) _).setCell (by first | exact Nat.le_refl _ | (dsimp only; omega)) _).setCell (by first | exact Nat.le_refl _ | (dsimp only; omega)) _
end Go.Proofs.YtdfcchocabapkaaGreat

namespace Go.Proofs.YtdfcchocabapkaaGreat
open Go.ChangeShapes Go.WideShapes Go.ChangeAt Go.RowKit Ieee.Own Pol

theorem errS_self7 {c : Nat} (f : fitB c = true) : errS c c = 0 := errS_of ⟨f, f⟩ (Int.le_refl _)
theorem sof7_run {c : Nat} (hc : c < 18446744073709551616) (f : fitB c = true) (w : World) : Calls Tryz.prog 70 #[.float .f64 c] w fun e w' => e = .returned (spanE (posW c) (posW c) 0) ∧ Below w.heap.size w w' := by
 have M := Lib.hid (fun w => (make_run c c hc hc w).mono fun e w' h => (⟨h.1.trans (congrArg Ending.returned (show makeE c c = spanE (posW c) (posW c) 0 by unfold makeE; rw [if_pos (errS_self7 f)])), h.2⟩ : e = .returned (spanE (posW c) (posW c) 0) ∧ Below w.heap.size w w'))
 unfold spanE at *
 have hst := @fstore
 clear f hc
 generalize posW c = u at *
 have C0 : Cls w [(w.heap.size, 0, 0)] (w.alloc (boxO 0 0)) := (Cls.nil w).new 0 0
 unfold boxO at C0
 replace C0 := Lib.hid C0
 go_enter Tryz.func70, Tryz.ntmps70
 go_wp2_with fail
 have C := C0.out
 clear C0
 generalize w.alloc _ = wr at *
 refine (M.out wr).mono ?_
 rintro _ w1 ⟨rfl, hb⟩
 have C1 := C.on hb
 have c0 := (C1.at_ 0 rfl).lo
 have c1 := (C1.at_ 0 rfl).hi
 have f0 := (C1.at_ 0 rfl).f0
 have f1 := (C1.at_ 0 rfl).f1
 have B := Lib.hid C1.old
 clear C C1 hb M
 go_wp2_with fail
 (try simp only [Exit.inBlock, Exit.then])
 refine bodyPost_ret (v := spanE u u 0) ?_ rfl ⟨rfl, ?_⟩
 · rw [results_cell_tmp rfl]; unfold spanE; go_simp
 · exact (B.out.setCell (by show _ ≤ w.heap.size; omega) _).setCell (by show _ ≤ w.heap.size; omega) _
def ptS7 (c : Nat) : Pr := (posW c, posW c)
theorem Sn.w2 {p : Pr} {m : Nat} (h : Sn p m) : W2 p := ⟨h.l1, h.l2⟩
def BinC (f : FuncId) (p q u : Pr) : Prop := ∀ w, Calls Tryz.prog f #[.agg #[.float .f64 p.1, .float .f64 p.2], .agg #[.float .f64 q.1, .float .f64 q.2]] w fun e w' => e = .returned (.agg #[.float .f64 u.1, .float .f64 u.2]) ∧ Below w.heap.size w w'
theorem vmul7 {p q u : Pr} (hp : W2 p) (hq : W2 q) (R : MulR p q u) : BinC 133 p q u :=
 fun w => vsmul_shape (k := 0) (Lib.hid fun w => (smul_run p.1 p.2 q.1 q.2 hp.l1 hp.l2 hq.l1 hq.l2 w).mono fun _ _ h => ⟨OpAll.uniq h.1 R, h.2⟩) w
theorem vadd7 {p q u : Pr} (hp : W2 p) (hq : W2 q) (R : AddR p q u) : BinC 134 p q u :=
 fun w => vsadd_shape (k := 0) (Lib.hid fun w => (sadd_run p.1 p.2 q.1 q.2 hp.l1 hp.l2 hq.l1 hq.l2 w).mono fun _ _ h => ⟨h.1.all.uniq R.all, h.2⟩) w
theorem vsub7 {p q u : Pr} (hp : W2 p) (hq : W2 q) (R : SubQ p q u) : BinC 132 p q u :=
 fun w => vssub_shape (k := 0) (Lib.hid fun w => (ssub_run p.1 p.2 q.1 q.2 hp.l1 hp.l2 hq.l1 hq.l2 w).mono fun _ _ h => ⟨h.1.all.uniq R.all, h.2⟩) w
theorem In.sub7 {x y : Rat} {A B C : Sp} (hx : In x A) (hy : In y B) (h1 : C.1 ≤ A.1 - B.2) (h2 : A.2 - B.1 ≤ C.2) : In (x - y) C := by
 obtain ⟨a, b⟩ := hx
 obtain ⟨c, d⟩ := hy
 exact ⟨by grind, by grind⟩
structure Pair7 (s c p q m1 m2 m3 m4 y1 y2 : Pr) : Prop where
 w1 : W2 m1
 w2 : W2 m2
 w3 : W2 m3
 w4 : W2 m4
 r1 : MulR c p m1
 r2 : MulR s q m2
 r3 : SubQ m1 m2 y1
 r4 : MulR s p m3
 r5 : MulR c q m4
 r6 : AddR m3 m4 y2
theorem zero_w2 : W2 (0, 0) := ⟨by decide, by decide⟩
theorem trig_true {x s c r : Nat} (A : Ang x) (T : Trig x s c) (R : Rst x r) :
 mag (Q (bW s) - Ply.sq (kq eig (V x)) (Ply.tau * Q r)) ≤ sm + 8 * uR ∧ mag (Q (bW c) - Ply.sq (kq eig (V x) + 1) (Ply.tau * Q r)) ≤ sm + 8 * uR := by
 obtain ⟨⟨n1, n2⟩, n3, n4⟩ := trig_near A T R
 have b1 := bW_near T.sz.fin
 have b2 := bW_near T.cz.fin
 generalize Ply.sq (kq eig (V x)) (Ply.tau * Q r) = S at *
 generalize Ply.sq (kq eig (V x) + 1) (Ply.tau * Q r) = C at *
 have e0 : mkRat 1 (2^50) = 8 * uR := by decide +kernel
 rw [e0] at n1 n2 n3 n4
 have d1 := mag_add b1 (mag_of (M := 8 * uR) n1 n2)
 have d2 := mag_add b2 (mag_of (M := 8 * uR) n3 n4)
 have f1 : Q (bW s) - Q s + (Q s - S) = Q (bW s) - S := by grind
 have f2 : Q (bW c) - Q c + (Q c - C) = Q (bW c) - C := by grind
 rw [f1] at d1
 rw [f2] at d2
 exact ⟨d1, d2⟩
theorem diff_le7 {a b c : Nat} (h : Q a - Q b ≤ Q c) : V a - V b ≤ V c := by
 have := Rat.mul_le_mul_of_nonneg_right h (Rat.le_of_lt unit_pos)
 have e : (Q a - Q b) * unit = Q a * unit - Q b * unit := by grind
 rw [e, Q_unit, Q_unit, Q_unit, ← Rat.intCast_sub] at this
 exact Rat.intCast_le_intCast.1 this
theorem beside_run {a1 a2 a3 a4 a5 a6 v1 v2 v3 d o1 o2 o3 : Nat} (O1 : Hid (∀ w, Calls Tryz.prog 47 #[.agg #[.float .f64 a1, .float .f64 a2], .float .f64 v1] w fun e w' => e = .returned (.float .f64 o1) ∧ Below w.heap.size w w')) (O2 : Hid (∀ w, Calls Tryz.prog 47 #[.agg #[.float .f64 a3, .float .f64 a4], .float .f64 v2] w fun e w' => e = .returned (.float .f64 o2) ∧ Below w.heap.size w w')) (O3 : Hid (∀ w, Calls Tryz.prog 47 #[.agg #[.float .f64 a5, .float .f64 a6], .float .f64 v3] w fun e w' => e = .returned (.float .f64 o3) ∧ Below w.heap.size w w')) (l1 : (FloatKind.f64.format.order o1 d == some Ordering.lt || FloatKind.f64.format.order o1 d == some Ordering.eq) = true) (l2 : (FloatKind.f64.format.order o2 d == some Ordering.lt || FloatKind.f64.format.order o2 d == some Ordering.eq) = true) (l3 : (FloatKind.f64.format.order o3 d == some Ordering.lt || FloatKind.f64.format.order o3 d == some Ordering.eq) = true) (w : World) : Calls Tryz.prog 13 #[.agg #[.float .f64 a1, .float .f64 a2, .float .f64 a3, .float .f64 a4, .float .f64 a5, .float .f64 a6], .agg #[.float .f64 v1, .float .f64 v2, .float .f64 v3], .float .f64 d] w fun e w' => e = .returned (.bool true) ∧ Below w.heap.size w w' := by
 have K0 := kw2 w 33 39 [a1, a2, a3, a4, a5, a6] [v1, v2, v3]
 simp only [objW, List.map_cons, List.map_nil] at K0
 have hst := @fstore
 replace K0 := Lib.hid K0
 go_enter Tryz.func13, Tryz.ntmps13
 go_wp2_with fail
 have K := K0.out
 clear K0
 generalize (w.alloc _).alloc _ = wr at *
 refine (O1.out wr).mono ?_
 rintro _ v1 ⟨rfl, hb⟩
 replace K := K.on hb
 clear hb
 have c0_2 := K.ce 0 2 rfl rfl
 have c0_3 := K.ce 0 3 rfl rfl
 have c1_1 := K.ce 1 1 rfl rfl
 replace K := Lib.hid K
 go_wp2_with fail
 replace K := K.out
 refine (O2.out v1).mono ?_
 rintro _ v2 ⟨rfl, hb⟩
 clear c0_2 c0_3 c1_1
 replace K := K.on hb
 clear hb
 have c0_4 := K.ce 0 4 rfl rfl
 have c0_5 := K.ce 0 5 rfl rfl
 have c1_2 := K.ce 1 2 rfl rfl
 replace K := Lib.hid K
 go_wp2_with fail
 replace K := K.out
 refine (O3.out v2).mono ?_
 rintro _ v3 ⟨rfl, hb⟩
 clear c0_4 c0_5 c1_2
 replace K := K.on hb
 clear hb
 replace K := Lib.hid K
 go_wp2_with fail
 replace K := K.out
 go_ret
 exact ⟨rfl, K.old⟩

def RootR (p u : Pr) (k : Int) : Prop := OpIs (errR p.1 p.2) (rootC p.1) (rootC p.2) (.returned (spanE u.1 u.2 k))
def DivR (p q u : Pr) (k : Int) : Prop := OpAll (errD p.1 p.2 q.1 q.2) [quotC p.1 q.1, quotC p.1 q.2, quotC p.2 q.1, quotC p.2 q.2] [quotC p.1 q.1, quotC p.1 q.2, quotC p.2 q.1, quotC p.2 q.2] (.returned (spanE u.1 u.2 k))
theorem errR_errS {a b : Nat} (h : errR a b = 0) : errS a b = 0 := by
 by_cases c : errS a b = 0
 · exact c
 · unfold errR at h; rw [if_pos c] at h; exact absurd h c
theorem errD_errSS {a b c d : Nat} (h : errD a b c d = 0) : errSS a b c d = 0 := by
 by_cases e : errSS a b c d = 0
 · exact e
 · unfold errD at h; rw [if_pos e] at h; exact absurd h e
theorem root_ex {p : Pr} (h : W2 p) : ∃ u k, RootR p u k := by
 by_cases h0 : errR p.1 p.2 = 0
 · obtain ⟨f1, f2, le⟩ := errS_zero (errR_errS h0)
   have n := errR_zero h0
   obtain ⟨lo, _, d, -, -⟩ := sroot_run h.l1 f1 n
   obtain ⟨_, hi, -, u, -⟩ := sroot_run h.l2 f2 (Int.le_trans n le)
   obtain ⟨x, y, c, ht⟩ := toldE_span lo hi
   have O : OpIs (errR p.1 p.2) (rootC p.1) (rootC p.2) (.returned (spanE x y c)) := ⟨fun _ => ⟨lo, hi, by rw [ht], d, u⟩, fun h => absurd h0 h⟩
   exact ⟨(x, y), c, O⟩
 · have O : OpIs (errR p.1 p.2) (rootC p.1) (rootC p.2) (.returned (spanE 0 0 (errR p.1 p.2))) := ⟨fun h => absurd h h0, fun _ => rfl⟩
   exact ⟨(0, 0), _, O⟩
theorem div_ex {p q : Pr} (hp : W2 p) (hq : W2 q) : ∃ u k, DivR p q u k := by
 by_cases h0 : errD p.1 p.2 q.1 q.2 = 0
 · obtain ⟨e1, e2⟩ := errSS_zero (errD_errSS h0)
   obtain ⟨f1, f2, -⟩ := errS_zero e1
   obtain ⟨f3, f4, le⟩ := errS_zero e2
   have z := errD_zero h0 le
   have z1 : V q.1 ≠ 0 := by omega
   have z2 : V q.2 ≠ 0 := by omega
   obtain ⟨_, _, d1, u1, -⟩ := squot_run hp.l1 hq.l1 f1 f3 z1
   obtain ⟨_, _, d2, u2, -⟩ := squot_run hp.l1 hq.l2 f1 f4 z2
   obtain ⟨_, _, d3, u3, -⟩ := squot_run hp.l2 hq.l1 f2 f3 z1
   obtain ⟨_, _, d4, u4, -⟩ := squot_run hp.l2 hq.l2 f2 f4 z2
   have F := four_of d1 d2 d3 d4 u1 u2 u3 u4 (falls_quot _ _) (falls_quot _ _) (falls_quot _ _) (falls_quot _ _)
   obtain ⟨x, y, c, ht⟩ := toldE_span _ _
   have O : OpAll (errD p.1 p.2 q.1 q.2) [quotC p.1 q.1, quotC p.1 q.2, quotC p.2 q.1, quotC p.2 q.2] [quotC p.1 q.1, quotC p.1 q.2, quotC p.2 q.1, quotC p.2 q.2] (.returned (spanE x y c)) := ⟨fun _ => ⟨_, _, by rw [ht], F.lo, F.hi⟩, fun h => absurd h0 h⟩
   exact ⟨(x, y), c, O⟩
 · have O : OpAll (errD p.1 p.2 q.1 q.2) [quotC p.1 q.1, quotC p.1 q.2, quotC p.2 q.1, quotC p.2 q.2] [quotC p.1 q.1, quotC p.1 q.2, quotC p.2 q.1, quotC p.2 q.2] (.returned (spanE 0 0 (errD p.1 p.2 q.1 q.2))) := ⟨fun h => absurd h h0, fun _ => rfl⟩
   exact ⟨(0, 0), _, O⟩
def w100 : Nat := 4156822456062967808
theorem w100_fin : FinW w100 := by unfold FinW w100; omega
theorem w100_pos : 0 < V w100 := by decide +kernel
theorem w100_sq : V w100 * V w100 ≤ leastV * 2 ^ 1074 := by decide +kernel
theorem w100_low : V (lowW w100) = V w100 := by decide +kernel
structure RootF (t n : Pr) : Prop where
 e : errS t.1 t.2 = 0
 nn : 0 ≤ V t.1
 w : W2 n
 en : errS n.1 n.2 = 0
 ends : ∃ lo hi, Dn (rootC t.1) lo ∧ Up (rootC t.2) hi ∧ n.1 = lowW lo ∧ n.2 = highW hi
theorem RootR.facts {t n : Pr} (h : RootR t n 0) : RootF t n := by
 obtain ⟨l1, l2, z, o⟩ := OpAll.bd h.all
 have z0 := z rfl
 have e := errR_errS z0
 obtain ⟨-, -, le⟩ := errS_zero e
 obtain ⟨lo, hi, d, u, h1, h2, en⟩ := o rfl (fun lo hi d u => root_le le (d.le _ (List.mem_singleton.2 rfl)) (u.ge _ (List.mem_singleton.2 rfl)))
 exact ⟨e, errR_zero z0, ⟨l1, l2⟩, en, lo, hi, ⟨d.fin, d.le _ (List.mem_singleton.2 rfl), fun u hu hc => d.top u hu (fun c hm => by rw [List.mem_singleton.1 hm]; exact hc)⟩,
  ⟨u.fin, u.ge _ (List.mem_singleton.2 rfl), fun v hv hc => u.low v hv (fun c hm => by rw [List.mem_singleton.1 hm]; exact hc)⟩, h1, h2⟩
theorem rootC_lo {a : Nat} {v : Int} (h : 0 ≤ rootC a v) : v < 0 ∨ v * v ≤ V a * 2 ^ 1074 := by
 unfold rootC at h
 by_cases c : v < 0
 · exact .inl c
 · rw [if_neg c] at h; exact .inr (by omega)
theorem rootC_hi {a : Nat} {v : Int} (h : rootC a v ≤ 0) : 0 ≤ v ∧ V a * 2 ^ 1074 ≤ v * v := by
 unfold rootC at h
 by_cases c : v < 0
 · rw [if_pos c] at h; omega
 · rw [if_neg c] at h; exact ⟨by omega, by omega⟩
theorem RootF.low {t n : Pr} (h : RootF t n) (ht : t.1 < 18446744073709551616) (hn : 0 < V n.1) : V w100 ≤ V n.1 := by
 obtain ⟨lo, hi, d, -, e1, -⟩ := h.ends
 obtain ⟨f, -, -⟩ := errS_zero h.e
 have g := fit_fin ht f
 have nn := h.nn
 rcases (fit_iff g).1 f with z | ⟨z, -⟩
 · exfalso
   have l := lowW_le lo
   rw [← e1] at l
   rcases rootC_lo d.le with c | c
   · omega
   · rw [z, Int.zero_mul] at c
     have := Int.mul_pos (show 0 < V lo by omega) (show 0 < V lo by omega)
     omega
 · have z' : leastV ≤ V t.1 := by omega
   have a := Int.mul_le_mul_of_nonneg_right z' (show (0 : Int) ≤ 2 ^ 1074 from Int.le_of_lt (Int.pow_pos (by omega)))
   have b := w100_sq
   have p := w100_pos
   have t1 := d.top w100 w100_fin (by
    unfold rootC
    rw [if_neg (by omega)]
    generalize V t.1 * 2 ^ 1074 = X at *
    generalize leastV * 2 ^ 1074 = Y at *
    omega)
   have t2 := lowW_mono t1
   rw [w100_low, ← e1] at t2
   exact t2
end Go.Proofs.YtdfcchocabapkaaGreat

namespace Go.Proofs.YtdfcchocabapkaaGreat
open Go.ChangeShapes Go.WideShapes Go.ChangeAt Go.RowKit Ieee.Own


end Go.Proofs.YtdfcchocabapkaaGreat
