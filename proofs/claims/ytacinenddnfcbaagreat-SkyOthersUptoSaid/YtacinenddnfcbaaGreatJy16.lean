/- Proved here: what the texts Omj, Omc, Omk, Wvb prove, one behind the other. -/
import Derived.Test.YtacinenddnfcbaaGreatJy15
import Derived.Test.YtacinenddnfcbaaGreatJy2
import Derived.Test.YtacinenddnfcbaaGreatJy4
import Derived.Test.YtacinenddnfcbaaGreatJy7
import Derived.Test.YtacinenddnfcbaaGreatJy5
import Derived.Test.YtacinenddnfcbaaGreatJy11

namespace Go.Proofs.YtacinenddnfcbaaGreat
open Go.ChangeShapes Go.WideShapes Go.ChangeAt Go.RowKit Ieee.Own Pol Fma

theorem trig_wd {x : Nat} (A : Ang x) : Wd (tS x) 768 1075 ∧ Wd (tC x) 768 1075 := by
 obtain ⟨⟨r, R, e, f⟩, sz, cz⟩ := ang_trig A
 have s := (R.rest A).sin_wd
 have c := (R.rest A).cos_wd
 have d : ∀ k : Int, (2 : Int) ^ 768 ∣ vq k (V (sinX r)) (V (cosX r)) ∧ (vq k (V (sinX r)) (V (cosX r))).natAbs ≤ 2 ^ 1075 := fun k => by
  have := s.abs
  have := c.abs
  unfold vq
  repeat' split
  · exact ⟨s.dvd, by omega⟩
  · exact ⟨c.dvd, by omega⟩
  · exact ⟨Int.dvd_neg.2 s.dvd, by omega⟩
  · exact ⟨Int.dvd_neg.2 c.dvd, by omega⟩
 exact ⟨⟨sz.fin, by rw [e]; exact (d _).1, by rw [e]; exact (d _).2⟩, ⟨cz.fin, by rw [f]; exact (d _).1, by rw [f]; exact (d _).2⟩⟩
structure Cir (x : Nat) : Prop where
 on : mag (Q (tC x) * Q (tC x) + Q (tS x) * Q (tS x) - 1) ≤ 33 * uR
 s2 : mag (Q (tS x)) ≤ 2
 c2 : mag (Q (tC x)) ≤ 2
 sn : mag (Q (tS x) - SQ x) ≤ 8 * uR
 cn : mag (Q (tC x) - CQ x) ≤ 8 * uR
theorem cir_of {x : Nat} (A : Ang x) : Cir x := by
 obtain ⟨r, R⟩ := rst_ex A
 obtain ⟨⟨n1, n2⟩, n3, n4⟩ := trig_near A (ang_trig A) R
 obtain ⟨q1, q2⟩ := SQ_of R
 rw [← q1] at n1 n2
 rw [← q2] at n3 n4
 have e0 : mkRat 1 (2^50) = 8 * uR := by decide +kernel
 rw [e0] at n1 n2 n3 n4
 obtain ⟨k, t, ⟨-, b, c⟩, e, f⟩ := SQ_says x
 have tp := Ply.top_mul b c
 have o1 := Ply.sq_le_one tp.1 tp.2 k
 have o2 := Ply.sq_le_one tp.1 tp.2 (k + 1)
 have ci := Ply.sq_circle tp.1 tp.2 k
 rw [← e] at o1 ci
 rw [← f] at o2 ci
 have z1 : 8 * uR ≤ 1 := by decide +kernel
 have z2 : (2 * (8 * uR) + (8 * uR) * (8 * uR)) + (2 * (8 * uR) + (8 * uR) * (8 * uR)) + Ply.eps ≤ 33 * uR := by decide +kernel
 have d1 := mag_of (M := 8 * uR) n1 n2
 have d2 := mag_of (M := 8 * uR) n3 n4
 obtain ⟨g1, h1⟩ := near_sq z1 d1 (mag_of (M := 1) o1.1 o1.2)
 obtain ⟨g2, h2⟩ := near_sq z1 d2 (mag_of (M := 1) o2.1 o2.2)
 refine ⟨?_, h1, h2, d1, d2⟩
 have k := mag_add (mag_add g2 g1) (mag_of (a := CQ x * CQ x + SQ x * SQ x - 1) (M := Ply.eps) (by grind) (by grind))
 have e1 : Q (tC x) * Q (tC x) - CQ x * CQ x + (Q (tS x) * Q (tS x) - SQ x * SQ x) + (CQ x * CQ x + SQ x * SQ x - 1) = Q (tC x) * Q (tC x) + Q (tS x) * Q (tS x) - 1 := by grind
 rw [e1] at k
 exact Rat.le_trans k z2
def rooW (e : Nat) : Nat := rX (lX oneW (mX e e))
structure Roo (e : Nat) : Prop where
 m : Ieee.double.mul e e = some (mX e e)
 s : Ieee.double.sub oneW (mX e e) = some (lX oneW (mX e e))
 r : Ieee.double.sqrt (lX oneW (mX e e)) = some (rooW e)
 wd : Wd (rooW e) 700 1075
 nn : 0 ≤ Q (rooW e)
 le : Q (rooW e) ≤ 2
 sq : mag (Q (rooW e) * Q (rooW e) - (1 - Q e * Q e)) ≤ 6 * uR
theorem roo_low {u E p w : Rat} (u0 : 0 ≤ u) (u1 : 1000000 * u ≤ 1) (e0 : 0 ≤ E) (e1 : E ≤ 49 / 64) (hp : mag (p - E) ≤ u * E) (hw : mag (w - (1 - p)) ≤ u * mag (1 - p)) : 1 / 8 ≤ w ∧ w ≤ 1 + 2 * u ∧ mag (w - (1 - E)) ≤ 3 * u := by
 have a := mag_le (p - E)
 have uE := Rat.mul_le_mul_of_nonneg_left e1 u0
 have m1 : mag (1 - p) ≤ 101 / 100 := mag_of (by grind) (by grind)
 have um := Rat.mul_le_mul_of_nonneg_left m1 u0
 have c := mag_le (w - (1 - p))
 generalize u * E = Y at *
 generalize u * mag (1 - p) = Z at *
 exact ⟨by grind, by grind, mag_of (by grind) (by grind)⟩
theorem roo_poly {u E w b : Rat} (u0 : 0 ≤ u) (u1 : 1000000 * u ≤ 1) (h0 : 1 / 8 ≤ w) (h1 : w ≤ 1 + 2 * u) (hw : mag (w - (1 - E)) ≤ 3 * u) (hb : mag (b * b - w) ≤ 2 * u * (b * b)) : mag (b * b - (1 - E)) ≤ 6 * u ∧ b * b ≤ 2 ∧ 1 / 16 ≤ b * b := by
 have c := mag_le (w - (1 - E))
 have d := mag_le (b * b - w)
 have bb := Pol.sq_nn b
 have ub := Rat.mul_nonneg (show 0 ≤ 1 / 1000000 - u by grind) bb
 have k : (1 / 1000000 - u) * (b * b) = b * b / 1000000 - u * (b * b) := by grind
 rw [k] at ub
 have k2 : 2 * u * (b * b) = 2 * (u * (b * b)) := by grind
 rw [k2] at hb
 have ub0 := Rat.mul_nonneg u0 bb
 have hi : b * b ≤ 11 / 10 := by
  generalize b * b = B at *
  generalize u * B = X at *
  grind
 have ub2 := Rat.mul_le_mul_of_nonneg_left hi u0
 generalize b * b = B at *
 generalize u * B = X at *
 exact ⟨mag_of (by grind) (by grind), by grind, by grind⟩
theorem roo_of {e : Nat} (he : e < 18446744073709551616) (fe : fitB e = true) (e0 : 0 ≤ Q e) (e1 : Q e ≤ 7 / 8) : Roo e := by
 have u0 := uR0
 have u1 := uR1
 have We : Wd e 822 1074 := ⟨fit_fin he fe, fit_822 he fe, by
  have v0 := Q_nn.1 e0
  have c1 : V oneW = 2 ^ 1074 := by decide +kernel
  have q1 : Q oneW = 1 := by decide +kernel
  have : V e ≤ 2 ^ 1074 := by rw [← c1]; exact Q_le.1 (by rw [q1]; grind)
  have ce : ((2 ^ 1074 : Nat) : Int) = 2 ^ 1074 := Int.natCast_pow 2 1074
  omega⟩
 obtain ⟨a1, a2, a3⟩ := We.mul We (by omega) (by omega) (by omega)
 obtain ⟨b1, b2, b3, b4⟩ := sub_ok (i := 1074) (k := 1075) one_wd.fin a2.fin one_wd.abs (a2.le (q := 500) (l := 1074) (by omega) (by omega)).abs rfl (by omega)
 have q1 : Q oneW = 1 := by decide +kernel
 have E1 : Q e * Q e ≤ 49 / 64 := by
  have := sq_mono e0 e1
  grind
 have E0 := Pol.sq_nn (Q e)
 have r1 := rd_of a3 _ (mag_self (Q e))
 have r2 := rd_of (sub_rel b3) _ Rat.le_refl
 rw [Rat.add_zero] at r1 r2
 rw [q1] at r2
 have Ww : Wd (lX oneW (mX e e)) 570 1196 := ⟨b2, by
  rw [b3]
  exact RN_dvd (Int.dvd_sub (one_wd.le (q := 570) (l := 1074) (by omega) (Nat.le_refl _)).dvd (a2.le (q := 570) (l := 1074) (by omega) (by omega)).dvd), Nat.le_trans b4 (two_le (a := 1075) (b := 1196) (by omega))⟩
 obtain ⟨wlo, whi, wn⟩ := roo_low u0 u1 E0 E1 r1 r2
 have wp : 0 < V (lX oneW (mX e e)) := by
  have h0 : 0 ≤ V (lX oneW (mX e e)) := Q_nn.1 (Rat.le_trans (by decide +kernel) wlo)
  have : V (lX oneW (mX e e)) ≠ 0 := fun z => by
   have : Q (lX oneW (mX e e)) = 0 := by unfold Q; rw [z]; decide +kernel
   grind
  omega
 have N := nrm_any Ww (by omega)
 obtain ⟨n0, n1⟩ := nrm_rat N (by omega)
 obtain ⟨p1, p2, p4⟩ := roo_poly u0 u1 wlo whi wn n1
 have b0 : 0 ≤ Q (rooW e) := Rat.le_of_lt n0
 have ble : Q (rooW e) ≤ 2 := by
  have : Q (rooW e) * Q (rooW e) ≤ 2 * 2 := by
   show Q (rX _) * Q (rX _) ≤ _
   grind
  exact Fma.sq_le_of (by decide +kernel) this
 have blo : 1 / 4 ≤ Q (rooW e) := by
  have : (1 / 4 : Rat) * (1 / 4) ≤ Q (rooW e) * Q (rooW e) := by
   show _ ≤ Q (rX _) * Q (rX _)
   grind
  exact Fma.sq_le_of b0 this
 refine ⟨a1, b1, N.run, ⟨N.fin, ?_, ?_⟩, b0, ble, p1⟩
 · exact Q_dvd_big (x := 1 / 4) (.inl blo) (by decide +kernel)
 · have v0 := Q_nn.1 b0
   have c1 : V 4611686018427387904 = 2 ^ 1075 := by decide +kernel
   have q2 : Q 4611686018427387904 = 2 := by decide +kernel
   have : V (rooW e) ≤ 2 ^ 1075 := by rw [← c1]; exact Q_le.1 (by rw [q2]; exact ble)
   have ce : ((2 ^ 1075 : Nat) : Int) = 2 ^ 1075 := Int.natCast_pow 2 1075
   show (V (rooW e)).natAbs ≤ _
   omega
theorem x_poly {u A c e x1 x : Rat} (u0 : 0 ≤ u) (u1 : 1000000 * u ≤ 1) (A0 : 0 ≤ A) (hc : mag c ≤ 101 / 100) (e0 : 0 ≤ e) (e1 : e ≤ 7 / 8) (h1 : mag (x1 - (c - e)) ≤ u * mag (c - e)) (h2 : mag (x - A * x1) ≤ u * mag (A * x1)) : mag (x - A * (c - e)) ≤ 5 * (u * A) ∧ mag x ≤ 3 * A := by
 have m := mag_le c
 have m1 : mag (c - e) ≤ 2 := mag_of (by grind) (by grind)
 have um := Rat.mul_le_mul_of_nonneg_left m1 u0
 have g1 : mag (x1 - (c - e)) ≤ 2 * u := by grind
 have k1 := mag_mul (show mag A ≤ A by unfold mag; rw [if_pos A0]; exact Rat.le_refl) g1
 have x1b := mag_add g1 m1
 rw [show x1 - (c - e) + (c - e) = x1 by grind] at x1b
 have k2 := mag_mul (show mag A ≤ A by unfold mag; rw [if_pos A0]; exact Rat.le_refl) (show mag x1 ≤ 21 / 10 by grind)
 have uk := Rat.mul_le_mul_of_nonneg_left k2 u0
 have b := mag_add (Rat.le_trans h2 uk) k1
 have e2 : x - A * x1 + A * (x1 - (c - e)) = x - A * (c - e) := by grind
 rw [e2] at b
 have uA := Rat.mul_nonneg u0 A0
 have Au := Rat.mul_nonneg (show 0 ≤ 1 / 1000000 - u by grind) A0
 have k3 : (1 / 1000000 - u) * A = A / 1000000 - u * A := by grind
 rw [k3] at Au
 have d := mag_add (Rat.le_trans h2 uk) k2
 rw [show x - A * x1 + A * x1 = x by grind] at d
 have f1 : u * (A * (21 / 10)) = 21 / 10 * (u * A) := by grind
 have f2 : A * (2 * u) = 2 * (u * A) := by grind
 rw [f1] at b d
 rw [f2] at b
 generalize u * A = Z at *
 constructor <;> grind
theorem y_poly {u A b s p y : Rat} (u0 : 0 ≤ u) (u1 : 1000000 * u ≤ 1) (A0 : 0 ≤ A) (hs : mag s ≤ 101 / 100) (b0 : 0 ≤ b) (b1 : b ≤ 2) (h1 : mag (p - A * b) ≤ u * mag (A * b)) (h2 : mag (y - p * s) ≤ u * mag (p * s)) : mag (y - A * (b * s)) ≤ 5 * (u * A) ∧ mag y ≤ 3 * A := by
 have mA : mag A ≤ A := by unfold mag; rw [if_pos A0]; exact Rat.le_refl
 have k0 := mag_mul mA (show mag b ≤ 2 by unfold mag; rw [if_pos b0]; exact b1)
 have uk := Rat.mul_le_mul_of_nonneg_left k0 u0
 have g1 := Rat.le_trans h1 uk
 have k1 := mag_mul g1 hs
 have pb := mag_add g1 k0
 rw [show p - A * b + A * b = p by grind] at pb
 have k2 := mag_mul pb hs
 have uk2 := Rat.mul_le_mul_of_nonneg_left k2 u0
 have d := mag_add (Rat.le_trans h2 uk2) k1
 have e2 : y - p * s + (p - A * b) * s = y - A * (b * s) := by grind
 rw [e2] at d
 have f := mag_add (Rat.le_trans h2 uk2) k2
 rw [show y - p * s + p * s = y by grind] at f
 have uA := Rat.mul_nonneg u0 A0
 have Au := Rat.mul_nonneg (show 0 ≤ 1 / 1000000 - u by grind) A0
 have k3 : (1 / 1000000 - u) * A = A / 1000000 - u * A := by grind
 rw [k3] at Au
 have uuA := Rat.mul_nonneg (show 0 ≤ 1 / 1000000 - u by grind) uA
 have k4 : (1 / 1000000 - u) * (u * A) = u * A / 1000000 - u * (u * A) := by grind
 rw [k4] at uuA
 have f1 : u * ((u * (A * 2) + A * 2) * (101 / 100)) = 202 / 100 * (u * (u * A)) + 202 / 100 * (u * A) := by grind
 have f2 : u * (A * 2) = 2 * (u * A) := by grind
 rw [f1] at d f
 rw [f2] at d f
 generalize u * (u * A) = Z2 at *
 generalize u * A = Z at *
 constructor <;> grind
theorem six {a s z : Rat} (h : a ≤ s + 5 * z) (k : s ≤ z) : a ≤ 6 * z := by grind
def plX (A e c : Nat) : Nat := mX A (lX c e)
def plY (A e s : Nat) : Nat := mX (mX A (rooW e)) s
structure Axi (A : Nat) : Prop where
 lt : A < 18446744073709551616
 fit : fitB A = true
 lo : 1 / 1048576 ≤ Q A
 hi : Q A ≤ 1099511627776
theorem Axi.wd {A : Nat} (h : Axi A) : Wd A 822 1114 := by
 refine ⟨fit_fin h.lt h.fit, fit_822 h.lt h.fit, ?_⟩
 have v0 := Q_nn.1 (Rat.le_trans (show (0 : Rat) ≤ 1 / 1048576 by decide +kernel) h.lo)
 have c1 : V 4787326403894837248 = 2 ^ 1114 := by decide +kernel
 have q2 : Q 4787326403894837248 = 1099511627776 := by decide +kernel
 have : V A ≤ 2 ^ 1114 := by rw [← c1]; exact Q_le.1 (by rw [q2]; exact h.hi)
 have ce : ((2 ^ 1114 : Nat) : Int) = 2 ^ 1114 := Int.natCast_pow 2 1114
 omega
structure Pla (A e s c : Nat) : Prop where
 x1 : Ieee.double.sub c e = some (lX c e)
 x2 : Ieee.double.mul A (lX c e) = some (plX A e c)
 y1 : Ieee.double.mul A (rooW e) = some (mX A (rooW e))
 y2 : Ieee.double.mul (mX A (rooW e)) s = some (plY A e s)
 fx : FinW (plX A e c)
 fy : FinW (plY A e s)
 dx : mag (Q (bW (plX A e c)) - Q A * (Q c - Q e)) ≤ 6 * (uR * Q A)
 dy : mag (Q (bW (plY A e s)) - Q A * (Q (rooW e) * Q s)) ≤ 6 * (uR * Q A)
 bx : mag (Q (plX A e c)) ≤ 3 * Q A
 by_ : mag (Q (plY A e s)) ≤ 3 * Q A
theorem pla_of {A e x : Nat} (hA : Axi A) (he : e < 18446744073709551616) (fe : fitB e = true) (e0 : 0 ≤ Q e) (e1 : Q e ≤ 7 / 8) (X : Ang x) : Pla A e (tS x) (tC x) := by
 have u0 := uR0
 have u1 := uR1
 have A0 := Rat.le_trans (show (0 : Rat) ≤ 1 / 1048576 by decide +kernel) hA.lo
 have R := roo_of he fe e0 e1
 have C := cir_of X
 obtain ⟨Ws, Wc⟩ := trig_wd X
 have WA := hA.wd
 have ct := c_top_ u0 C.on
 have st := c_top_ (c := Q (tS x)) (s := Q (tC x)) u0 (by rw [show Q (tS x) * Q (tS x) + Q (tC x) * Q (tC x) - 1 = Q (tC x) * Q (tC x) + Q (tS x) * Q (tS x) - 1 by grind]; exact C.on)
 have mc : mag (Q (tC x)) ≤ 101 / 100 := mag_of (by grind) (by grind)
 have ms : mag (Q (tS x)) ≤ 101 / 100 := mag_of (by grind) (by grind)
 have We : Wd e 768 1075 := ⟨fit_fin he fe, Int.dvd_trans ⟨2 ^ 54, by rw [← Int.pow_add]⟩ (fit_822 he fe), by
  have v0 := Q_nn.1 e0
  have c1 : V oneW = 2 ^ 1074 := by decide +kernel
  have q1 : Q oneW = 1 := by decide +kernel
  have : V e ≤ 2 ^ 1074 := by rw [← c1]; exact Q_le.1 (by rw [q1]; grind)
  have ce : ((2 ^ 1074 : Nat) : Int) = 2 ^ 1074 := Int.natCast_pow 2 1074
  have := two_le (a := 1074) (b := 1075) (by omega)
  omega⟩
 obtain ⟨a1, a2, a3, a4⟩ := sub_ok (i := 1075) (k := 1076) Wc.fin We.fin Wc.abs We.abs rfl (by omega)
 have W1 : Wd (lX (tC x) e) 768 1076 := ⟨a2, by rw [a3]; exact RN_dvd (Int.dvd_sub Wc.dvd We.dvd), a4⟩
 obtain ⟨b1, b2, b3⟩ := WA.mul W1 (by omega) (by omega) (by omega)
 obtain ⟨c1, c2, c3⟩ := WA.mul R.wd (by omega) (by omega) (by omega)
 obtain ⟨d1, d2, d3⟩ := c2.mul Ws (by omega) (by omega) (by omega)
 have ra := rd_of (sub_rel a3) _ Rat.le_refl
 have rb := rd_of b3 _ Rat.le_refl
 have rc := rd_of c3 _ Rat.le_refl
 have rd := rd_of d3 _ Rat.le_refl
 rw [Rat.add_zero] at ra rb rc rd
 have px := x_poly u0 u1 A0 mc e0 e1 ra rb
 have py := y_poly u0 u1 A0 ms R.nn R.le rc rd
 have sA : sm ≤ uR * Q A := by
  have := Rat.mul_le_mul_of_nonneg_left hA.lo u0
  have k : sm ≤ uR * (1 / 1048576) := by decide +kernel
  grind
 refine ⟨a1, b1, c1, d1, b2.fin, d2.fin, ?_, ?_, px.2, py.2⟩
 · have n := mag_add (bW_near b2.fin) px.1
   have k : Q (bW (mX A (lX (tC x) e))) - Q (mX A (lX (tC x) e)) + (Q (mX A (lX (tC x) e)) - Q A * (Q (tC x) - Q e)) = Q (bW (plX A e (tC x))) - Q A * (Q (tC x) - Q e) := by show _ = Q (bW (mX A (lX (tC x) e))) - _; grind
   rw [k] at n
   exact six n sA
 · have n := mag_add (bW_near d2.fin) py.1
   have k : Q (bW (mX (mX A (rooW e)) (tS x))) - Q (mX (mX A (rooW e)) (tS x)) + (Q (mX (mX A (rooW e)) (tS x)) - Q A * (Q (rooW e) * Q (tS x))) = Q (bW (plY A e (tS x))) - Q A * (Q (rooW e) * Q (tS x)) := by show _ = Q (bW (mX (mX A (rooW e)) (tS x))) - _; grind
   rw [k] at n
   exact six n sA
end Go.Proofs.YtacinenddnfcbaaGreat

namespace Go.Proofs.YtacinenddnfcbaaGreat
open Ieee Ieee.Own

def hlf : Int := 4 * eig
theorem hlf_pos : 0 < hlf := by have := eig_pos; unfold hlf; omega
theorem hlf_two : 2 * hlf = 2 ^ 1074 := by decide +kernel
theorem hlf_is : hlf = 2 ^ 1073 := by decide +kernel
theorem kq_hlf (w : Int) : kq hlf (4 * w) = kq eig w := kq_scale eig_pos
theorem rq_hlf (w : Int) : rq hlf (4 * w) = 4 * rq eig w := by unfold rq; rw [kq_hlf]; unfold hlf; grind
theorem rep_four {w : Int} (h : Rep (4 * w)) : Rep w := by
 obtain ⟨k, e, h1, h2⟩ := h
 rw [Int.natAbs_mul] at h2
 rcases e with _ | _ | e
 · refine ⟨w.natAbs, 0, ?_, by simp⟩
   rw [Nat.pow_zero, Nat.mul_one, show (4 : Int).natAbs = 4 from rfl] at h2
   omega
 · refine ⟨w.natAbs, 0, ?_, by simp⟩
   have : (4 : Int).natAbs = 4 := rfl
   rw [this] at h2
   omega
 · refine ⟨k, e, h1, ?_⟩
   have : (4 : Int).natAbs = 4 := rfl
   rw [this, Nat.pow_succ, Nat.pow_succ] at h2
   generalize hp : k * 2 ^ e = p
   have : k * (2 ^ e * 2 * 2) = 4 * p := by rw [← hp]; grind
   omega
theorem left_rep {v : Int} (h : Rep v) (d : (4 : Int) ∣ v) : Rep (rq hlf v) := by
 obtain ⟨w, rfl⟩ := d
 rw [rq_hlf]
 have := Rep_mul _ 2 (rq_rep (rep_four h))
 rwa [show rq eig w * 2 ^ 2 = 4 * rq eig w by omega] at this
theorem left_more {v N : Int} (h : rq hlf v ≠ hlf ∧ rq hlf v ≠ -hlf) : rq hlf (v + N * 2 ^ 1074) = rq hlf v ∧ kq hlf (v + N * 2 ^ 1074) = kq hlf v + N := by
 have b := rq_bd hlf_pos v
 have e : v = 2 * hlf * kq hlf v + rq hlf v := by unfold rq; omega
 have u := kq_uniq (H := hlf) (v := v + N * 2 ^ 1074) (k := kq hlf v + N) (r := rq hlf v) hlf_pos (by
  rw [← hlf_two]
  generalize kq hlf v = k at *
  generalize rq hlf v = r at *
  rw [e]; grind) b.1 b.2.1 (fun q => absurd q (by omega))
 exact ⟨u.2, u.1⟩
end Go.Proofs.YtacinenddnfcbaaGreat

namespace Go.Proofs.YtacinenddnfcbaaGreat
open Go.ChangeShapes Go.WideShapes Go.ChangeAt Go.RowKit Ieee.Own Pol

structure Frc (x r : Nat) : Prop where
 nz : Nz r
 v : V r = rq hlf (V x)
structure Lft (x : Nat) : Prop where
 fin : FinW x
 dvd : (4 : Int) ∣ V x
 abs : (V x).natAbs ≤ 2 ^ 1124
theorem Frc.more {x y r : Nat} {N : Int} (h : Frc x r) (hn : V r ≠ hlf ∧ V r ≠ -hlf) (e : V y = V x + N * 2 ^ 1074) : Frc y r := by
 refine ⟨h.nz, ?_⟩
 rw [h.v] at hn
 rw [e, (left_more hn).1, h.v]
end Go.Proofs.YtacinenddnfcbaaGreat

namespace Go.Proofs.YtacinenddnfcbaaGreat
open Go.ChangeShapes Go.WideShapes Go.ChangeAt Go.RowKit Ieee.Own Pol

theorem mulA {a b i j k : Nat} (ha : FinW a) (hb : FinW b) (xa : (V a).natAbs ≤ 2 ^ i) (xb : (V b).natAbs ≤ 2 ^ j) (e : i + j = k + 1074) (hk : k < 2098) :
 Ieee.double.mul a b = some (mX a b) ∧ FinW (mX a b) ∧ V (mX a b) = RZ (V a * V b) ∧ (V (mX a b)).natAbs ≤ 2 ^ k := by
 obtain ⟨r, h1, h2, h3, h4⟩ := mulB ha hb xa xb e hk
 have e : mX a b = r := by unfold mX; rw [h1]; rfl
 rw [e]; exact ⟨h1, h2, h3, h4⟩
theorem addA {a b k : Nat} (ha : FinW a) (hb : FinW b) (xa : (V a).natAbs ≤ 2 ^ k) (xb : (V b).natAbs ≤ 2 ^ k) (hk : k < 2000) :
 Ieee.double.add a b = some (aX a b) ∧ FinW (aX a b) ∧ V (aX a b) = RN (V a + V b) ∧ (V (aX a b)).natAbs ≤ 2 ^ (k + 1) := by
 obtain ⟨r, h1, h2, h3, h4⟩ := addW ha hb xa xb hk
 have e : aX a b = r := by unfold aX; rw [h1]; rfl
 rw [e]; exact ⟨h1, h2, h3, h4⟩
def p16 : Nat := 4679240012837945344
def ageW (d : Nat) : Nat := qX d p16
structure AgeOk (d : Nat) : Prop where
 run : Ieee.double.div d p16 = some (ageW d)
 fin : FinW (ageW d)
 v : V (ageW d) * 2 ^ 16 = V d
 abs : (V (ageW d)).natAbs ≤ 2 ^ 1082
theorem cap16 {x z : Int} {n m : Nat} (e : n = m + 16) (h : x * 2 ^ 16 = z) (hz : z.natAbs ≤ 2 ^ n) : x.natAbs ≤ 2 ^ m := by
 subst e
 rw [← h, Int.natAbs_mul, Int.natAbs_pow, show (2 : Int).natAbs = 2 from rfl, Nat.pow_add] at hz
 exact Nat.le_of_mul_le_mul_right hz (Nat.two_pow_pos 16)
theorem age_of {d : Nat} (hd : d < 18446744073709551616) (h : witB g24 d = true) : AgeOk d := by
 obtain ⟨f, g, a⟩ := wit_spec hd v24 h
 by_cases z : V d = 0
 · obtain ⟨r, h1, h2, h3⟩ := div_zero (b := p16) f z (by unfold FinW p16; omega) (by decide +kernel)
   have e : ageW d = r := by unfold ageW qX; rw [h1]; rfl
   refine ⟨by rw [e]; exact h1, by rw [e]; exact h2, by rw [e, h3, z]; decide, by rw [e, h3]; exact Nat.zero_le _⟩
 · have lo := (fit_big f g).resolve_left z
   obtain ⟨r, h1, h2, h3⟩ := div_pow (j := 16) (D := p16) (by decide) f lo (abs_up (k := 1098) (l := 1500) a (by omega)) (by omega)
   have e : ageW d = r := by unfold ageW qX; rw [h1]; rfl
   rw [← e] at h1 h2 h3
   exact ⟨h1, h2, h3, cap16 (n := 1098) (m := 1082) (by omega) h3 a⟩
def Wv.fr (f : Wv) : Fr := ⟨0, 0, f.ph, f.rt, 0, 0, 0⟩
theorem fr_w {f : Wv} (h : WvW f) : FrW f.fr := ⟨h.ph, h.rt, show (0 : Nat) < 18446744073709551616 by decide, show (0 : Nat) < 18446744073709551616 by decide, show (0 : Nat) < 18446744073709551616 by decide⟩
structure WvOk (f : Wv) : Prop where
 w : WvW f
 ax0 : 0 ≤ f.ax
 ax1 : f.ax ≤ 2
 pw0 : 0 ≤ f.pw
 pw1 : f.pw ≤ 2
 am : witB g40 f.am = true
 ph : witB g10 f.ph = true
 rt : witB g10 f.rt = true
theorem wv_ok {f : Wv} (w : WvW f) (h : mayW f = true) : WvOk f := by
 unfold mayW at h
 simp only [Bool.and_eq_true, decide_eq_true_eq] at h
 obtain ⟨a, b, c, d, e, g, k⟩ := h
 exact ⟨w, a, b, c, d, e, g, k⟩
theorem wvs_ok {L : List Wv} (hW : WvsW L) (h : chkV L = 0) : ∀ f ∈ L, WvOk f := fun f hf => wv_ok (hW f hf) (chkV_mem h f hf)
theorem WvOk.ang {f : Wv} {d : Nat} (h : WvOk f) (hd : d < 18446744073709551616) (t : witB g24 d = true) : AngA f.fr d := ang_a (fr_w h.w) hd h.ph h.rt t
theorem ang_ang {f : Fr} {d : Nat} (A : AngA f d) : Ang (angW f d) := by
 unfold angW
 by_cases h : fitB (angA f d) = true
 · rw [if_pos h]; exact ⟨A.fin, fit_822 A.fin.1 h, abs_up (k := 1110) (l := 1114) A.abs (by omega)⟩
 · rw [if_neg h]; exact zero_ang
noncomputable def cosW' (f : Wv) (d : Nat) : Nat := tC (angW f.fr d)
theorem cos_wd' {f : Wv} {d : Nat} (A : AngA f.fr d) : Wd (cosW' f d) 768 1075 := (trig_wd (ang_ang A)).2
def hg (u x : Nat) : Nat → Nat
 | 0 => x
 | k + 1 => mX (hg u x k) u
noncomputable def amc (f : Wv) (d : Nat) : Nat := mX f.am (cosW' f d)
noncomputable def hgt (f : Wv) (d : Nat) : Nat := hg (ageW d) (amc f d) f.pw.toNat
structure HgOk (f : Wv) (d : Nat) : Prop where
 run : Ieee.double.mul f.am (cosW' f d) = some (amc f d)
 v : V (amc f d) = RZ (V f.am * V (cosW' f d))
 st : ∀ k, k < 2 → Ieee.double.mul (hg (ageW d) (amc f d) k) (ageW d) = some (hg (ageW d) (amc f d) (k + 1)) ∧ V (hg (ageW d) (amc f d) (k + 1)) = RZ (V (hg (ageW d) (amc f d) k) * V (ageW d))
 fin : ∀ k, k ≤ 2 → FinW (hg (ageW d) (amc f d) k) ∧ (V (hg (ageW d) (amc f d) k)).natAbs ≤ 2 ^ 1131
theorem WvOk.amw {f : Wv} (h : WvOk f) : Wd f.am 822 1114 := wit_wd h.w.am v40 h.am
theorem hg_ok {f : Wv} {d : Nat} (h : WvOk f) (hd : d < 18446744073709551616) (t : witB g24 d = true) : HgOk f d := by
 have U := age_of hd t
 have A := h.amw
 have C := cos_wd' (h.ang hd t)
 obtain ⟨m1, m2, m3, m4⟩ := mulA (i := 1114) (j := 1075) (k := 1115) A.fin C.fin A.abs C.abs (by omega) (by omega)
 obtain ⟨n1, n2, n3, n4⟩ := mulA (i := 1115) (j := 1082) (k := 1123) m2 U.fin m4 U.abs (by omega) (by omega)
 obtain ⟨q1, q2, q3, q4⟩ := mulA (i := 1123) (j := 1082) (k := 1131) n2 U.fin n4 U.abs (by omega) (by omega)
 refine ⟨m1, m3, fun k hk => ?_, fun k hk => ?_⟩
 · have : k = 0 ∨ k = 1 := by omega
   rcases this with rfl | rfl
   · exact ⟨n1, n3⟩
   · exact ⟨q1, q3⟩
 · have : k = 0 ∨ k = 1 ∨ k = 2 := by omega
   rcases this with rfl | rfl | rfl
   · exact ⟨m2, abs_up (k := 1115) (l := 1131) m4 (by omega)⟩
   · exact ⟨n2, abs_up (k := 1123) (l := 1131) n4 (by omega)⟩
   · exact ⟨q2, q4⟩
theorem WvOk.pw {f : Wv} (h : WvOk f) : f.pw.toNat ≤ 2 ∧ f.pw = (f.pw.toNat : Int) := by
 have a := h.pw0
 have b := h.pw1
 omega
theorem hgt_fin {f : Wv} {d : Nat} (h : WvOk f) (H : HgOk f d) : FinW (hgt f d) ∧ (V (hgt f d)).natAbs ≤ 2 ^ 1131 := by
 have p := h.pw.1
 exact H.fin _ p
def putA (p : V3) (a : Int) (x : Nat) : V3 := if a = 0 then (aX p.1 x, p.2.1, p.2.2) else if a = 1 then (p.1, aX p.2.1 x, p.2.2) else (p.1, p.2.1, aX p.2.2 x)
noncomputable def sumW (d : Nat) : List Wv → V3 → V3
 | [], p => p
 | f :: L, p => sumW d L (putA p f.ax (hgt f d))
structure Sm (p : V3) (i : Nat) : Prop where
 f1 : FinW p.1
 f2 : FinW p.2.1
 f3 : FinW p.2.2
 b1 : (V p.1).natAbs ≤ 2 ^ (1131 + i)
 b2 : (V p.2.1).natAbs ≤ 2 ^ (1131 + i)
 b3 : (V p.2.2).natAbs ≤ 2 ^ (1131 + i)
theorem sm_zero : Sm z3 0 := ⟨zero_fin, zero_fin, zero_fin, by show (V 0).natAbs ≤ _; rw [V_zero]; exact Nat.zero_le _, by show (V 0).natAbs ≤ _; rw [V_zero]; exact Nat.zero_le _, by show (V 0).natAbs ≤ _; rw [V_zero]; exact Nat.zero_le _⟩
theorem up1 {x : Int} {i : Nat} (h : x.natAbs ≤ 2 ^ (1131 + i)) : x.natAbs ≤ 2 ^ (1131 + (i + 1)) := abs_up h (by omega)
theorem add_sm {s x i : Nat} (hi : i < 64) (fs : FinW s) (bs : (V s).natAbs ≤ 2 ^ (1131 + i)) (fx : FinW x) (bx : (V x).natAbs ≤ 2 ^ 1131) :
 Ieee.double.add s x = some (aX s x) ∧ FinW (aX s x) ∧ V (aX s x) = RN (V s + V x) ∧ (V (aX s x)).natAbs ≤ 2 ^ (1131 + (i + 1)) := by
 obtain ⟨h1, h2, h3, h4⟩ := addA (k := 1131 + i) fs fx bs (abs_up (k := 1131) (l := 1131 + i) bx (by omega)) (by omega)
 exact ⟨h1, h2, h3, abs_up h4 (by omega)⟩
theorem Sm.put {p : V3} {i : Nat} (h : Sm p i) (hi : i < 64) (a : Int) {x : Nat} (fx : FinW x) (bx : (V x).natAbs ≤ 2 ^ 1131) : Sm (putA p a x) (i + 1) := by
 unfold putA
 by_cases h0 : a = 0
 · rw [if_pos h0]
   obtain ⟨-, q2, -, q4⟩ := add_sm hi h.f1 h.b1 fx bx
   exact ⟨q2, h.f2, h.f3, q4, up1 h.b2, up1 h.b3⟩
 · rw [if_neg h0]
   by_cases h1 : a = 1
   · rw [if_pos h1]
     obtain ⟨-, q2, -, q4⟩ := add_sm hi h.f2 h.b2 fx bx
     exact ⟨h.f1, q2, h.f3, up1 h.b1, q4, up1 h.b3⟩
   · rw [if_neg h1]
     obtain ⟨-, q2, -, q4⟩ := add_sm hi h.f3 h.b3 fx bx
     exact ⟨h.f1, h.f2, q2, up1 h.b1, up1 h.b2, q4⟩
theorem sum_sm {d : Nat} (hd : d < 18446744073709551616) (t : witB g24 d = true) : ∀ (L : List Wv) (p : V3) (i : Nat), (∀ f ∈ L, WvOk f) → i + L.length ≤ 64 → Sm p i → Sm (sumW d L p) (i + L.length)
 | [], p, i, _, _, h => h
 | f :: L, p, i, hL, hl, h => by
   have hf := hL f (List.mem_cons_self ..)
   obtain ⟨a, b⟩ := hgt_fin hf (hg_ok hf hd t)
   have hl' : i + 1 + L.length ≤ 64 := by rw [List.length_cons] at hl; omega
   have := sum_sm hd t L _ (i + 1) (fun g hg => hL g (List.mem_cons_of_mem _ hg)) hl' (h.put (by omega) f.ax a b)
   rw [List.length_cons, show i + (L.length + 1) = i + 1 + L.length by omega]
   exact this
end Go.Proofs.YtacinenddnfcbaaGreat
