/- Proved here: what the texts Obh, Opo, Obl prove, one behind the other. -/
import Derived.Test.YtkpdnhbifokhlaaJp5
import Derived.Test.YtkpdnhbifokhlaaJy9
import Derived.Test.YtkpdnhbifokhlaaJo4
import Derived.Test.YtkpdnhbifokhlaaJp1
import Derived.Lib.SmallJoins
import Derived.Deep.Slices
import Derived.Deep.Fields
import Derived.ChangeSame
import Derived.Test.YtkpdnhbifokhlaaJp3

namespace Go.Proofs.Ytkpdnhbifokhlaa
open Ieee.Own Pol Fma

theorem sm_small {A : Rat} (h : 1 / 1048576 ≤ A) : sm ≤ uR * A := by
  have := Rat.mul_le_mul_of_nonneg_left h uR0
  have k : sm ≤ uR * (1 / 1048576) := by decide +kernel
  grind
/-- one turn, as words -/
theorem apply_turn {a : Int} {x : Nat} {v : V3} (h0 : 0 ≤ a) (h1 : a ≤ 2) (hx : x < 18446744073709551616) (e : errA x = 0) (hv : W3 v) (k : (applyR (turnW a x) v).2 = 0) :
    fitV v = true ∧ W3 (applyR (turnW a x) v).1 ∧ fitV (applyR (turnW a x) v).1 = true ∧ Off3 (applyR (turnW a x) v).1 (rotQ a (Q (bW (tS x))) (Q (bW (tC x))) (qv v)) (8 * (uR * sz3 v) + sm) ∧ mag (Q (bW (tC x)) * Q (bW (tC x)) + Q (bW (tS x)) * Q (bW (tS x)) - 1) ≤ 33 * uR := by
  have A := errA_ang hx e
  have T := trig_of hx e
  obtain ⟨f, ee, fo⟩ := apply_ok k
  have n := turn_near h0 h1 A T hv f
  have w := (ans_apply (turnW_ok a hx e).1 hv).w
  refine ⟨f, w, by rw [ee]; exact fo, ?_, (circ7 A T).on⟩
  rw [ee]
  exact n
theorem laid_ring {A e : Rat} (A0 : 1 / 1048576 ≤ A) (e0 : 0 ≤ e) (e1 : e ≤ 7 / 8) : ∀ (l : List (Int × Nat)) (v w : V3) (n : Nat), (∀ t ∈ l, 0 ≤ t.1 ∧ t.1 ≤ 2 ∧ t.2 < 18446744073709551616 ∧ errA t.2 = 0) → W3 v →
    Ring (qv v) (A * (1 - e - (n : Rat) * uR)) (A * (1 + e + (n : Rat) * uR)) → n + 300 * l.length ≤ 5000 → laidR l v = (w, 0) → W3 w ∧ Ring (qv w) (A * (1 - e - ((n + 300 * l.length : Nat) : Rat) * uR)) (A * (1 + e + ((n + 300 * l.length : Nat) : Rat) * uR)) ∧ (l ≠ [] → fitV w = true)
  | [], v, w, n, _, hv, R, _, h => by
    obtain rfl : v = w := congrArg Prod.fst h
    exact ⟨hv, R, fun c => absurd rfl c⟩
  | t :: l, v, w, n, ht, hv, R, hn, h => by
    obtain ⟨t0, t1, t2, t3⟩ := ht t (List.mem_cons_self ..)
    by_cases k : (applyR (turnW t.1 t.2) v).2 = 0
    · have g := laid_ok h k
      obtain ⟨fv, w1, fw, off, c⟩ := apply_turn t0 t1 t2 t3 hv k
      have hl : (t :: l).length = l.length + 1 := rfl
      rw [hl] at hn
      have nn : (0 : Rat) ≤ (n : Rat) := Rat.natCast_nonneg
      have n5 : (n : Rat) ≤ 5000 := by
        have : ((n : Nat) : Rat) ≤ ((5000 : Nat) : Rat) := Rat.natCast_le_natCast.2 (by omega)
        exact this
      have R2 := turn_ring t.1 uR0 uR1 (Rat.le_trans (show (0 : Rat) ≤ 1 / 1048576 by decide +kernel) A0) e0 e1 nn n5 R c (sz_len R.hi) (sm_small A0) off.len
      have en : ((n : Rat) + 300) = ((n + 300 : Nat) : Rat) := by rw [Rat.natCast_add]; rfl
      rw [en] at R2
      obtain ⟨a1, a2, a3⟩ := laid_ring A0 e0 e1 l _ w (n + 300) (fun s hs => ht s (List.mem_cons_of_mem _ hs)) w1 R2 (by omega) g
      have el : n + 300 + 300 * l.length = n + 300 * (l.length + 1) := by omega
      rw [el] at a2
      refine ⟨a1, a2, fun _ => ?_⟩
      by_cases z : l = []
      · subst z
        have : (applyR (turnW t.1 t.2) v).1 = w := congrArg Prod.fst g
        rw [← this]; exact fw
      · exact a3 z
    · have g := laid_no h k
      exact absurd (congrArg Prod.snd g) k
theorem at_ring {o : Ob} {d : Nat} {v : V3} (h : ObW o) (hd : d < 18446744073709551616) (k : atR o d = (v, 0)) : ObOk o ∧ W3 v ∧ fitV v = true ∧ Ring (qv v) (Q o.ax * (1 - Q o.ec - 2900 * uR)) (Q o.ax * (1 + Q o.ec + 2900 * uR)) := by
  unfold atR at k
  by_cases c : readyO o (witB g24 d) = 0
  · rw [if_pos c] at k
    obtain ⟨m, t⟩ := readyO_zero c
    have hO := mayO_of m
    have S := at_of h hO hd t
    have X := axi_of h hO
    obtain ⟨g, e0, e1⟩ := ecc_of h.ec hO.ec
    have R := pla_ring X h.ec g e0 e1 S.ang
    have R : Ring (qv (plaV o (placeW o d))) (Q o.ax * (1 - Q o.ec - ((2000 : Nat) : Rat) * uR)) (Q o.ax * (1 + Q o.ec + ((2000 : Nat) : Rat) * uR)) := by
      have e : qv (plaV o (placeW o d)) = (Q (bW (plX o.ax o.ec (tC (placeW o d)))), Q (bW (plY o.ax o.ec (tS (placeW o d)))), 0) := by
        unfold qv plaV
        rw [oW_bW S.pla.fx S.sx, oW_bW S.pla.fy S.sy]
        dsimp only
        rw [Q0]
      rw [e]; exact R
    obtain ⟨a1, a2, a3⟩ := laid_ring X.lo e0 e1 (turnsO o) _ v 2000 (by
      intro t ht
      unfold turnsO at ht
      simp only [List.mem_cons, List.not_mem_nil, or_false] at ht
      rcases ht with rfl | rfl | rfl
      · exact ⟨show (0 : Int) ≤ 2 by decide, show (2 : Int) ≤ 2 by decide, h.pe, tu_ang h.pe hO.pe⟩
      · exact ⟨show (0 : Int) ≤ 0 by decide, show (0 : Int) ≤ 2 by decide, h.ti, tu_ang h.ti hO.ti⟩
      · exact ⟨show (0 : Int) ≤ 2 by decide, show (2 : Int) ≤ 2 by decide, h.no, tu_ang h.no hO.no⟩) S.w R (show 2000 + 300 * 3 ≤ 5000 by decide) k
    have el : 2000 + 300 * (turnsO o).length = 2900 := by
      have : (turnsO o).length = 3 := rfl
      omega
    rw [el] at a2
    exact ⟨hO, a1, a3 (List.cons_ne_nil _ _), a2⟩
  · rw [if_neg c] at k
    exact absurd (congrArg Prod.snd k) c
theorem ring_norm {v : V3} {B A : Rat} (hv : W3 v) (f : fitV v = true) (R : Ring (qv v) B A) (b0 : 0 < B) : normR v = (rX (dW v v), 0) ∧ FinW (rX (dW v v)) ∧ B * (1 - 8 * uR) ≤ Q (rX (dW v v)) ∧ Q (rX (dW v v)) ≤ A * (1 + 8 * uR) := by
  have W := fitV_wd hv f
  have N := nrm_any (dot_wd W W).d (dot_pos W)
  have d2 := dot_sq W
  have es : sq3 v = nsq (qv v) := rfl
  rw [es] at d2
  have pos : 0 < nsq (qv v) := by
    obtain ⟨-, q⟩ := R.lo
    have := Rat.mul_pos b0 b0
    grind
  have dz : V (dW v v) ≠ 0 := fun z => by
    have q0 : Q (dW v v) = 0 := by
      have := Q_congr (a := dW v v) (b := 0) (by rw [z, V_zero])
      rw [this, Q0]
    rw [q0] at d2
    have m := mag_le ((0 : Rat) - nsq (qv v))
    have u1 := uR1
    generalize uR = u at *
    generalize nsq (qv v) = S at *
    have := Rat.mul_nonneg (show 0 ≤ 1 / 1000000 - u by grind) (show 0 ≤ S by grind)
    grind
  obtain ⟨n0, h3⟩ := nrm_rat N dz
  have k := norm_ring uR0 uR1 R (show 0 ≤ Q (rX (dW v v)) by grind) h3 d2
  exact ⟨if_pos f, N.fin, k⟩
/-! ### the law's bounds -/
def w40 : Nat := 4787326403894837248
theorem norm_40 : Norm w40 false 4503599627370496 1062 := by
  have f : FinW w40 := by unfold FinW w40; omega
  have N := norm_of f (by unfold w40; omega)
  rw [show decide (9223372036854775808 ≤ w40) = false by decide] at N
  exact N
structure Elb (A e : Nat) : Prop where
  q : Ieee.double.div A w40 = some (qX A w40)
  s1 : Ieee.double.sub oneW e = some (lX oneW e)
  m1 : Ieee.double.mul A (lX oneW e) = some (mX A (lX oneW e))
  l1 : Ieee.double.sub (mX A (lX oneW e)) (qX A w40) = some (lX (mX A (lX oneW e)) (qX A w40))
  f1 : FinW (lX (mX A (lX oneW e)) (qX A w40))
  s2 : Ieee.double.add oneW e = some (aX oneW e)
  m2 : Ieee.double.mul A (aX oneW e) = some (mX A (aX oneW e))
  l2 : Ieee.double.add (mX A (aX oneW e)) (qX A w40) = some (aX (mX A (aX oneW e)) (qX A w40))
  f2 : FinW (aX (mX A (aX oneW e)) (qX A w40))
  lo : Q (lX (mX A (lX oneW e)) (qX A w40)) ≤ Q A * (1 - Q e - 4000 * uR)
  hi : Q A * (1 + Q e + 4000 * uR) ≤ Q (aX (mX A (aX oneW e)) (qX A w40))
theorem elb_poly {u A e q d1 p1 b1 d2 p2 b2 : Rat} (u0 : 0 ≤ u) (u1 : 1000000 * u ≤ 1) (A0 : 0 ≤ A) (e0 : 0 ≤ e) (e1 : e ≤ 7 / 8) (hq : 8000 * (u * A) ≤ q) (hq2 : q ≤ A)
    (h1 : mag (d1 - (1 - e)) ≤ u * mag (1 - e)) (h2 : mag (p1 - A * d1) ≤ u * mag (A * d1)) (h3 : mag (b1 - (p1 - q)) ≤ u * mag (p1 - q))
    (k1 : mag (d2 - (1 + e)) ≤ u * mag (1 + e)) (k2 : mag (p2 - A * d2) ≤ u * mag (A * d2)) (k3 : mag (b2 - (p2 + q)) ≤ u * mag (p2 + q)) : b1 ≤ A * (1 - e - 4000 * u) ∧ A * (1 + e + 4000 * u) ≤ b2 := by
  have uA := Rat.mul_nonneg u0 A0
  have mA : mag A ≤ A := by unfold mag; rw [if_pos A0]; exact Rat.le_refl
  have m1 : mag (1 - e) ≤ 1 := mag_of (by grind) (by grind)
  have m2 : mag (1 + e) ≤ 2 := mag_of (by grind) (by grind)
  have g1 := Rat.le_trans h1 (Rat.mul_le_mul_of_nonneg_left m1 u0)
  have g2 := Rat.le_trans k1 (Rat.mul_le_mul_of_nonneg_left m2 u0)
  have d1b : mag d1 ≤ 2 := by have := mag_add g1 m1; rw [show d1 - (1 - e) + (1 - e) = d1 by grind] at this; grind
  have d2b : mag d2 ≤ 3 := by have := mag_add g2 m2; rw [show d2 - (1 + e) + (1 + e) = d2 by grind] at this; grind
  have a1 := mag_mul mA d1b
  have a2 := mag_mul mA d2b
  have b1' := Rat.le_trans h2 (Rat.mul_le_mul_of_nonneg_left a1 u0)
  have b2' := Rat.le_trans k2 (Rat.mul_le_mul_of_nonneg_left a2 u0)
  have c1 := mag_mul mA g1
  have c2 := mag_mul mA g2
  have x1 : mag (p1 - A * (1 - e)) ≤ 3 * (u * A) := by
    have := mag_add b1' c1
    rw [show p1 - A * d1 + A * (d1 - (1 - e)) = p1 - A * (1 - e) by grind] at this
    grind
  have x2 : mag (p2 - A * (1 + e)) ≤ 5 * (u * A) := by
    have := mag_add b2' c2
    rw [show p2 - A * d2 + A * (d2 - (1 + e)) = p2 - A * (1 + e) by grind] at this
    grind
  have y1 := mag_le (p1 - A * (1 - e))
  have y2 := mag_le (p2 - A * (1 + e))
  have f1 := mag_le (p1 - q)
  have f2 := mag_le (p2 + q)
  have Ae := Rat.mul_nonneg A0 e0
  have Ae2 := Rat.mul_nonneg A0 (show 0 ≤ 7 / 8 - e by grind)
  have q0 : 0 ≤ q := by grind
  have t1 : mag (p1 - q) ≤ 3 * A := mag_of (by grind) (by grind)
  have t2 : mag (p2 + q) ≤ 4 * A := mag_of (by grind) (by grind)
  have z1 := Rat.le_trans h3 (Rat.mul_le_mul_of_nonneg_left t1 u0)
  have z2 := Rat.le_trans k3 (Rat.mul_le_mul_of_nonneg_left t2 u0)
  have w1 := mag_le (b1 - (p1 - q))
  have w2 := mag_le (b2 - (p2 + q))
  constructor <;> grind
theorem slack_poly {u A q : Rat} (u0 : 0 ≤ u) (A0 : 0 ≤ A) (hi : A ≤ 1099511627776) (c : (8192 : Rat) * u * 1099511627776 = 1) (r : mag (q * 1099511627776 - A) ≤ u * mag (q * 1099511627776)) : mag q ≤ 4398046511104 ∧ 8000 * (u * A) ≤ q ∧ q ≤ A := by
  have m := mag_le (q * 1099511627776 - A)
  have pos : 0 ≤ q * 1099511627776 := by
    rcases Rat.le_total (a := 0) (b := q * 1099511627776) with z | z
    · exact z
    · have k : mag (q * 1099511627776) ≤ -(q * 1099511627776) := mag_of (by grind) (by grind)
      have := Rat.mul_le_mul_of_nonneg_left k u0
      have := Rat.mul_nonneg (show 0 ≤ 1 / 2 - u by grind) (show 0 ≤ -(q * 1099511627776) by grind)
      grind
  have k : mag (q * 1099511627776) ≤ q * 1099511627776 := mag_of (by grind) (by grind)
  have z := Rat.mul_le_mul_of_nonneg_left k u0
  have z2 := Rat.mul_nonneg (show 0 ≤ 1 / 1000000 - u by grind) pos
  have uA := Rat.mul_nonneg u0 A0
  have cA : (8192 * u * 1099511627776) * A = A := by rw [c, Rat.one_mul]
  refine ⟨mag_of (by grind) (by grind), by grind, by grind⟩
theorem elb_of {A e : Nat} (hA : Axi A) (he : e < 18446744073709551616) (fe : fitB e = true) (e0 : 0 ≤ Q e) (e1 : Q e ≤ 7 / 8) : Elb A e := by
  have u0 := uR0
  have u1 := uR1
  have A0 := Rat.le_trans (show (0 : Rat) ≤ 1 / 1048576 by decide +kernel) hA.lo
  obtain ⟨a1, a2, a3⟩ := div_any hA.lt hA.fit norm_40 (by omega) (by omega)
  have r := quo_rat a3
  have q40 : Q w40 = 1099511627776 := by decide +kernel
  rw [q40] at r
  have WA := hA.wd
  have We : Wd e 768 1075 := ⟨fit_fin he fe, Int.dvd_trans ⟨2 ^ 54, by rw [← Int.pow_add]⟩ (fit_822 he fe), by
    have v0 := Q_nn.1 e0
    have c1 : V oneW = 2 ^ 1074 := by decide +kernel
    have q1 : Q oneW = 1 := by decide +kernel
    have : V e ≤ 2 ^ 1074 := by rw [← c1]; exact Q_le.1 (by rw [q1]; grind)
    have ce : ((2 ^ 1074 : Nat) : Int) = 2 ^ 1074 := Int.natCast_pow 2 1074
    have := two_le (a := 1074) (b := 1075) (by omega)
    omega⟩
  have Wo : Wd oneW 768 1075 := one_wd.le (by omega) (by omega)
  obtain ⟨s1, s2, s3, s4⟩ := sub_ok (i := 1075) (k := 1076) Wo.fin We.fin Wo.abs We.abs rfl (by omega)
  have W1 : Wd (lX oneW e) 768 1076 := ⟨s2, by rw [s3]; exact RN_dvd (Int.dvd_sub Wo.dvd We.dvd), s4⟩
  obtain ⟨t1, t2, t3⟩ := Wd.add Wo We (by omega)
  obtain ⟨m1, m2, m3⟩ := WA.mul W1 (by omega) (by omega) (by omega)
  obtain ⟨n1, n2, n3⟩ := WA.mul (t2.le (q := 768) (l := 1076) (by omega) (by omega)) (by omega) (by omega) (by omega)
  have hq : mag (Q (qX A w40)) ≤ 4398046511104 ∧ 8000 * (uR * Q A) ≤ Q (qX A w40) ∧ Q (qX A w40) ≤ Q A := slack_poly u0 A0 hA.hi (by decide +kernel) r
  have aq := q_abs hq.1
  have M2 := m2.le (q := 0) (l := 1117) (by omega) (by omega)
  have N2 := n2.le (q := 0) (l := 1117) (by omega) (by omega)
  have aq2 := Nat.le_trans aq (two_le (a := 1116) (b := 1117) (by omega))
  obtain ⟨x1, x2, x3, -⟩ := sub_ok (i := 1117) (k := 1118) M2.fin a2 M2.abs aq2 rfl (by omega)
  obtain ⟨y1, y2, y3, -⟩ := add_ok (i := 1117) (k := 1118) N2.fin a2 N2.abs aq2 rfl (by omega)
  have ra := rd_of (sub_rel s3) _ Rat.le_refl
  have rb := rd_of m3 _ Rat.le_refl
  have rc := rd_of (sub_rel x3) _ Rat.le_refl
  have rd := rd_of t3 _ Rat.le_refl
  have re := rd_of n3 _ Rat.le_refl
  have rf := rd_of (add_rel y3) _ Rat.le_refl
  rw [Rat.add_zero] at ra rb rc rd re rf
  have q1 : Q oneW = 1 := by decide +kernel
  rw [q1] at ra rd
  obtain ⟨p1, p2⟩ := elb_poly u0 u1 A0 e0 e1 hq.2.1 hq.2.2 ra rb rc rd re rf
  exact ⟨a1, s1, m1, x1, x2, t1, n1, y1, y2, p1, p2⟩
theorem ell_poly {u A e n B C : Rat} (u0 : 0 ≤ u) (u1 : 1000000 * u ≤ 1) (A0 : 0 ≤ A) (e0 : 0 ≤ e) (e1 : e ≤ 7 / 8) (h1 : A * (1 - e - 2900 * u) * (1 - 8 * u) ≤ n) (h2 : n ≤ A * (1 + e + 2900 * u) * (1 + 8 * u)) (hB : B ≤ A * (1 - e - 4000 * u)) (hC : A * (1 + e + 4000 * u) ≤ C) : B ≤ n ∧ n ≤ C := by
  have uA := Rat.mul_nonneg u0 A0
  have uuA := Rat.mul_nonneg u0 uA
  have ue := Rat.mul_nonneg uA e0
  have ue2 := Rat.mul_nonneg uA (show 0 ≤ 7 / 8 - e by grind)
  have k := Rat.mul_nonneg uA (show 0 ≤ 1 / 1000000 - u by grind)
  constructor <;> grind
end Go.Proofs.Ytkpdnhbifokhlaa

namespace Go.Proofs.Ytkpdnhbifokhlaa
open Go.ChangeShapes Go.WideShapes Go.ChangeAt Go.RowKit Go.Joins Go.Deep

section
variable {H : Type} {enc : TypeId × Value → H} {P : Program} {w : World} {base : Nat} {spare : Nat → Bool} {held : Bool}
theorem open_agg7o {r : Reach} {b0 : Nat} {t : TypeId} {f0 f1 f2 f3 f4 f5 f6 : Field} {v : Value} {d : DataW H} {p : List MemPlace} (hs : P.underlying t = some (.struct #[f0, f1, f2, f3, f4, f5, f6])) (hone : oneCellFields P #[f0, f1, f2, f3, f4, f5, f6] = true) (hC : P.cellsOf t = 7)
    (hv : Value.okWide P w r b0 t v) (h : DataW.Trod enc P w base spare held t v d p) :
    ∃ (v0 v1 v2 v3 v4 v5 v6 : Value) (y0 y1 y2 y3 y4 y5 y6 : DataW H × List MemPlace) (n : Nat), v = .agg #[v0, v1, v2, v3, v4, v5, v6] ∧
      DataW.trod enc P w base spare held n f0.type [v0] = some y0 ∧ DataW.trod enc P w base spare held n f1.type [v1] = some y1 ∧ DataW.trod enc P w base spare held n f2.type [v2] = some y2 ∧ DataW.trod enc P w base spare held n f3.type [v3] = some y3 ∧ DataW.trod enc P w base spare held n f4.type [v4] = some y4 ∧ DataW.trod enc P w base spare held n f5.type [v5] = some y5 ∧ DataW.trod enc P w base spare held n f6.type [v6] = some y6 := by
  obtain ⟨cs, rfl, hsz⟩ := okWide_struct hs hv
  obtain ⟨l⟩ := cs
  match l, hsz.trans hC with
  | [c0, c1, c2, c3, c4, c5, c6], _ =>
    obtain ⟨fuel, hf⟩ := h
    obtain ⟨xs, n, _, hx, _, hlen, hg⟩ := DataW.trod_struct hs hf
    obtain ⟨o0, k0⟩ := hone_of hone 0 f0 rfl
    obtain ⟨o1, k1⟩ := hone_of hone 1 f1 rfl
    obtain ⟨o2, k2⟩ := hone_of hone 2 f2 rfl
    obtain ⟨o3, k3⟩ := hone_of hone 3 f3 rfl
    obtain ⟨o4, k4⟩ := hone_of hone 4 f4 rfl
    obtain ⟨o5, k5⟩ := hone_of hone 5 f5 rfl
    obtain ⟨o6, k6⟩ := hone_of hone 6 f6 rfl
    match xs, hlen with
    | [y0, y1, y2, y3, y4, y5, y6], _ =>
      simp only [Prod.mk.injEq] at hx
      exact ⟨c0, c1, c2, c3, c4, c5, c6, y0, y1, y2, y3, y4, y5, y6, n, rfl, by simpa [Value.cells, o0, k0] using hg 0 f0 rfl, by simpa [Value.cells, o1, k1] using hg 1 f1 rfl, by simpa [Value.cells, o2, k2] using hg 2 f2 rfl, by simpa [Value.cells, o3, k3] using hg 3 f3 rfl, by simpa [Value.cells, o4, k4] using hg 4 f4 rfl, by simpa [Value.cells, o5, k5] using hg 5 f5 rfl, by simpa [Value.cells, o6, k6] using hg 6 f6 rfl⟩
end
theorem wf64o {b : Nat} (h : (Lit.float .f64 b).wf = true) : b < 18446744073709551616 := by
  simp only [Lit.wf, decide_eq_true_eq] at h; exact h
set_option maxRecDepth 100000 in
theorem cellsO : Try.prog.cellsOf 24 = 7 := by kernel_rfl
set_option maxRecDepth 100000 in
theorem open_orbit {H : Type} {enc : TypeId × Value → H} {W : World} {base : Nat} {r : Reach} {b0 : Nat} {spare : Nat → Bool} {held : Bool} {v : Value} {d : DataW H} {ps : List MemPlace}
    (hval : Value.okWide Try.prog W r b0 24 v) (h : DataW.Trod enc Try.prog W base spare held 24 v d ps) : ∃ o : Ob, v = obV o ∧ ObW o := by
  obtain ⟨v0, v1, v2, v3, v4, v5, v6, _, _, _, _, _, _, _, n, rfl, t0, t1, t2, t3, t4, t5, t6⟩ := open_agg7o Try.underlying24 (by kernel_rfl) cellsO hval h
  obtain ⟨a0, rfl, h0⟩ := float_cell (e := 22) Try.underlying22 t0
  obtain ⟨a1, rfl, h1⟩ := float_cell (e := 22) Try.underlying22 t1
  obtain ⟨a2, rfl, h2⟩ := float_cell (e := 22) Try.underlying22 t2
  obtain ⟨a3, rfl, h3⟩ := float_cell (e := 22) Try.underlying22 t3
  obtain ⟨a4, rfl, h4⟩ := float_cell (e := 22) Try.underlying22 t4
  obtain ⟨a5, rfl, h5⟩ := float_cell (e := 22) Try.underlying22 t5
  obtain ⟨a6, rfl, h6⟩ := float_cell (e := 22) Try.underlying22 t6
  exact ⟨⟨a0, a1, a2, a3, a4, a5, a6⟩, rfl, h0, h1, h2, h3, h4, h5, h6⟩
end Go.Proofs.Ytkpdnhbifokhlaa

namespace Go.Proofs.Ytkpdnhbifokhlaa
open Go.ChangeShapes Go.WideShapes Go.ChangeAt Go.RowKit Ieee.Own Pol

def awO : Ob := ⟨4621819117588971520, 4602678819172646912, 0, 0, 0, 0, 4607182418800017408⟩
theorem awO_w : ObW awO := ⟨by decide, by decide, by decide, by decide, by decide, by decide, by decide⟩
theorem awO_mean : meanR awO 4598175219545276416 = (4598175219545276416, 0) := by decide +kernel
set_option maxHeartbeats 4000000 in
set_option maxRecDepth 100000 in
theorem awake11 (w : World) : Calls Try.prog 8 #[] w fun e w' => e = .returned (.bool true) ∧ Below w.heap.size w w' := by
  have C := Lib.hid (fun w => omean_run (o := awO) (d := 4598175219545276416) awO_w (by decide) w)
  rw [awO_mean] at C
  unfold obV awO floE2 at C
  dsimp only at C
  have g1 : (FloatKind.f64.format.order 4598175219545276416 4598175219545276416 == some Ordering.eq) = true := by decide +kernel
  go_enter Try.func8, Try.ntmps8
  go_wp2_with fail
  refine (C.out w).mono ?_
  rintro _ w1 ⟨rfl, hb1⟩
  replace hb1 := Lib.hid hb1
  clear C
  go_wp2_with fail
  go_ret
  exact ⟨rfl, hb1.out⟩
theorem abs_fin {t : Nat} (h : FinW t) : FinW (t % 9223372036854775808) := ⟨by omega, by have := h.2; omega⟩
theorem abs_Q {t : Nat} (h : FinW t) : Q (t % 9223372036854775808) = mag (Q t) := by
  by_cases q : t < 9223372036854775808
  · rw [Nat.mod_eq_of_lt q]
    have : 0 ≤ Q t := by
      rw [Q_nn]; unfold V; rw [if_pos q]; exact Int.natCast_nonneg _
    unfold mag; rw [if_pos this]
  · have e : t % 9223372036854775808 = t - 9223372036854775808 := by have := h.1; omega
    have k : Q (t % 9223372036854775808) = -Q t := by
      unfold Q V
      rw [if_pos (by omega), if_neg q, e, Rat.intCast_neg]
      simp only [Rat.div_def]; grind
    have n : 0 ≤ Q (t % 9223372036854775808) := by
      rw [Q_nn]; unfold V; rw [if_pos (by omega)]; exact Int.natCast_nonneg _
    rw [k] at n ⊢
    unfold mag
    by_cases z : 0 ≤ Q t
    · rw [if_pos z]; grind
    · rw [if_neg z]
theorem abs_leW {t c : Nat} (h : FinW t) (hc : FinW c) (b : mag (Q t) ≤ Q c) : (FloatKind.f64.format.order (t % 9223372036854775808) c == some Ordering.lt || FloatKind.f64.format.order (t % 9223372036854775808) c == some Ordering.eq) = true := by
  rw [le_words (abs_fin h) hc, decide_eq_true_eq, ← Q_le, abs_Q h]
  exact b
end Go.Proofs.Ytkpdnhbifokhlaa
