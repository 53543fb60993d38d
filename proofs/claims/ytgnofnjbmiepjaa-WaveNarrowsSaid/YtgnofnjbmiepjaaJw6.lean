/- Proved here: what the texts Wvh, Wvj, Wvk prove, one behind the other. -/
import Derived.Test.YtgnofnjbmiepjaaJw4
import Derived.Test.YtgnofnjbmiepjaaJp
import Derived.Test.YtgnofnjbmiepjaaJy13
import Derived.Test.YtgnofnjbmiepjaaJw2
import Derived.Test.YtgnofnjbmiepjaaJy9
import Derived.Test.YtgnofnjbmiepjaaJx7

namespace Go.Proofs.Ytgnofnjbmiepjaa
open Go.ChangeShapes Go.WideShapes Go.ChangeAt Go.RowKit Ieee.Own Pol Fma

theorem nn14 {w : Rat} (h : 0 ≤ w) : 0 ≤ 14 * w := by grind
theorem mag_z : mag 0 = 0 := by decide +kernel
theorem q_capW {x k : Nat} {w : Nat} {c : Rat} (hw : V w = 2 ^ k) (qw : Q w = c) (h : (V x).natAbs ≤ 2 ^ k) : mag (Q x) ≤ c := by
  have ce := two_cast k
  have a : V x ≤ V w := by rw [hw]; omega
  have b : -V w ≤ V x := by rw [hw]; omega
  have qa := Q_le.2 a
  have nb : -Q w ≤ Q x := by
    have := Rat.intCast_le_intCast.2 b
    have up := unit_pos
    rw [Rat.intCast_neg, ← Q_unit, ← Q_unit] at this
    rcases Rat.le_total (a := -Q w) (b := Q x) with z | z
    · exact z
    · have := Rat.mul_le_mul_of_nonneg_right z (Rat.le_of_lt up)
      have e : (Q x + Q w) * unit = 0 := by grind
      rcases Rat.mul_eq_zero.1 e with e | e <;> grind
  rw [qw] at qa nb
  exact mag_of nb qa
theorem Q_scale {x y k : Nat} {c : Rat} (hc : ((2 ^ k : Int) : Rat) = c) (h : V x * 2 ^ k = V y) : Q x * c = Q y := by
  have e : ((V x * 2 ^ k : Int) : Rat) = (V y : Rat) := by rw [h]
  rw [Rat.intCast_mul, hc, ← Q_unit, ← Q_unit] at e
  have up := unit_pos
  have z : (Q x * c - Q y) * unit = 0 := by grind
  rcases Rat.mul_eq_zero.1 z with z | z <;> grind
theorem age_Q {d : Nat} (U : AgeOk d) : Q (ageW d) = Q d * (1 / 65536) := by
  have := Q_scale (c := 65536) (k := 16) (by decide +kernel) U.v
  grind
theorem age_cap {d : Nat} (U : AgeOk d) : mag (Q d * (1 / 65536)) ≤ 256 := by
  rw [← age_Q U]
  exact q_capW (w := 4643211215818981376) (k := 1082) (by decide +kernel) (by decide +kernel) U.abs
/-- a wave's greatest magnitude -/
def rqW (f : Wv) : Rat := mag (Q f.am) * pq 256 f.pw.toNat
theorem pq_cases {n : Nat} (h : n ≤ 2) (u : Rat) : (n = 0 ∧ pq u n = 1) ∨ (n = 1 ∧ pq u n = u) ∨ (n = 2 ∧ pq u n = u * u) := by
  have : n = 0 ∨ n = 1 ∨ n = 2 := by omega
  rcases this with rfl | rfl | rfl
  · exact .inl ⟨rfl, rfl⟩
  · exact .inr (.inl ⟨rfl, rfl⟩)
  · exact .inr (.inr ⟨rfl, rfl⟩)
theorem pq_pos {n : Nat} (h : n ≤ 2) : 1 ≤ pq 256 n := by
  rcases pq_cases h 256 with ⟨_, e⟩ | ⟨_, e⟩ | ⟨_, e⟩ <;> rw [e] <;> decide +kernel
theorem rqW_nn {f : Wv} (O : WvOk f) : 0 ≤ rqW f := by
  have a := (mag_le (Q f.am)).2.2
  have b := pq_pos O.pw.1
  exact Rat.mul_nonneg a (by grind)
theorem hstep {u t y X U y' r k : Rat} (u0 : 0 ≤ u) (u1 : 1000000 * u ≤ 1) (r0 : 0 ≤ r) (ht : t ≤ u * (u * r)) (k4 : k ≤ 12) (h : mag (y - X) ≤ k * (u * r)) (hX : mag X ≤ r) (hU : mag U ≤ 256) (hr : Rd u t y' (y * U)) : mag (y' - X * U) ≤ (k + 2) * (u * (256 * r)) ∧ mag (X * U) ≤ 256 * r := by
  have W0 := Rat.mul_nonneg u0 r0
  have Z0 := Rat.mul_nonneg u0 W0
  have Z1 := Rat.mul_nonneg (show 0 ≤ 1 - 1000000 * u by grind) W0
  have K1 := Rat.mul_nonneg (show 0 ≤ 12 - k by grind) W0
  have yb := mag_add hX h
  rw [show X + (y - X) = y by grind] at yb
  have p := mag_mul yb hU
  have n := hr _ p
  have q := mag_mul h hU
  have s := mag_add n q
  rw [show y' - y * U + (y - X) * U = y' - X * U by grind] at s
  have x := mag_mul hX hU
  have e1 : u * ((r + k * (u * r)) * 256) = 256 * (u * r) + 256 * (k * (u * (u * r))) := by grind
  rw [e1] at s
  have K2 := Rat.mul_nonneg (show 0 ≤ 12 - k by grind) Z0
  have e2 : (k + 2) * (u * (256 * r)) = 256 * (k * (u * r)) + 512 * (u * r) := by grind
  rw [e2]
  have e3 : (1 - 1000000 * u) * (u * r) = u * r - 1000000 * (u * (u * r)) := by grind
  rw [e3] at Z1
  have e4 : (12 - k) * (u * (u * r)) = 12 * (u * (u * r)) - k * (u * (u * r)) := by grind
  rw [e4] at K2
  generalize u * (u * r) = Z at *
  generalize k * (u * r) = B at *
  generalize k * Z = C at *
  generalize u * r = W at *
  exact ⟨by grind, by grind⟩
/-- a sum that grows -/
theorem sstep {u s S x X R r e s' : Rat} (u0 : 0 ≤ u) (u1 : 1000000 * u ≤ 1) (R0 : 0 ≤ R) (r0 : 0 ≤ r) (e14 : 14 ≤ e) (e1 : e ≤ 100) (h : mag (s - S) ≤ e * (u * R)) (hS : mag S ≤ R) (hx : mag (x - X) ≤ 14 * (u * r)) (hX : mag X ≤ r) (hr : Rd u 0 s' (s + x)) :
    mag (s' - (S + X)) ≤ (e + 2) * (u * (R + r)) ∧ mag (S + X) ≤ R + r := by
  have W0 := Rat.mul_nonneg u0 R0
  have w0 := Rat.mul_nonneg u0 r0
  have Z0 := Rat.mul_nonneg u0 W0
  have z0 := Rat.mul_nonneg u0 w0
  have Z1 := Rat.mul_nonneg (show 0 ≤ 1 - 1000000 * u by grind) W0
  have z1 := Rat.mul_nonneg (show 0 ≤ 1 - 1000000 * u by grind) w0
  have K1 := Rat.mul_nonneg (show 0 ≤ 100 - e by grind) Z0
  have L1 := Rat.mul_nonneg (show 0 ≤ e - 14 by grind) w0
  have sb := mag_add hS h
  rw [show S + (s - S) = s by grind] at sb
  have xb := mag_add hX hx
  rw [show X + (x - X) = x by grind] at xb
  have n := hr _ (mag_add sb xb)
  have q := mag_add n (mag_add h hx)
  rw [show s' - (s + x) + (s - S + (x - X)) = s' - (S + X) by grind] at q
  refine ⟨?_, mag_add hS hX⟩
  refine Rat.le_trans q ?_
  have e2 : u * (R + e * (u * R) + (r + 14 * (u * r))) + 0 + (e * (u * R) + 14 * (u * r)) = u * R + e * (u * (u * R)) + u * r + 14 * (u * (u * r)) + e * (u * R) + 14 * (u * r) := by grind
  have e3 : (e + 2) * (u * (R + r)) = e * (u * R) + 2 * (u * R) + e * (u * r) + 2 * (u * r) := by grind
  have e4 : (1 - 1000000 * u) * (u * R) = u * R - 1000000 * (u * (u * R)) := by grind
  have e5 : (1 - 1000000 * u) * (u * r) = u * r - 1000000 * (u * (u * r)) := by grind
  have e6 : (100 - e) * (u * (u * R)) = 100 * (u * (u * R)) - e * (u * (u * R)) := by grind
  have e7 : (e - 14) * (u * r) = e * (u * r) - 14 * (u * r) := by grind
  rw [e2, e3]
  rw [e4] at Z1
  rw [e5] at z1
  rw [e6] at K1
  rw [e7] at L1
  generalize e * (u * (u * R)) = A at *
  generalize e * (u * R) = B at *
  generalize e * (u * r) = C at *
  generalize u * (u * R) = Z at *
  generalize u * (u * r) = z at *
  generalize u * R = W at *
  generalize u * r = w at *
  grind
/-- .. where nothing is added -/
theorem sstay {u s S R r e : Rat} (u0 : 0 ≤ u) (R0 : 0 ≤ R) (r0 : 0 ≤ r) (e0 : 0 ≤ e) (h : mag (s - S) ≤ e * (u * R)) (hS : mag S ≤ R) : mag (s - S) ≤ (e + 2) * (u * (R + r)) ∧ mag S ≤ R + r := by
  have W0 := Rat.mul_nonneg u0 R0
  have w0 := Rat.mul_nonneg u0 r0
  have E0 := Rat.mul_nonneg e0 w0
  have e3 : (e + 2) * (u * (R + r)) = e * (u * R) + 2 * (u * R) + e * (u * r) + 2 * (u * r) := by grind
  rw [e3]
  exact ⟨by grind, by grind⟩
theorem fit_least {x : Nat} (hx : FinW x) (f : fitB x = true) : Q x = 0 ∨ sm ≤ mag (Q x) := by
  rcases fit_big hx f with h | h
  · left; unfold Q; rw [h]; decide +kernel
  · right
    have c1 : V 3706462493325918208 = 2 ^ 874 := by decide +kernel
    have c2 : V 12929834530180694016 = -(2 ^ 874) := by decide +kernel
    have q1 : Q 3706462493325918208 = sm := by decide +kernel
    have q2 : Q 12929834530180694016 = -sm := by decide +kernel
    have ce := two_cast 874
    have m := mag_le (Q x)
    rcases Int.le_total 0 (V x) with z | z
    · have := Q_le.2 (show V 3706462493325918208 ≤ V x by rw [c1]; omega)
      rw [q1] at this; grind
    · have := Q_le.2 (show V x ≤ V 12929834530180694016 by rw [c2]; omega)
      rw [q2] at this; grind
theorem tR_sm : tR ≤ uR * (uR * sm) := by decide +kernel
theorem small_t {r : Rat} (h : sm ≤ r) : tR ≤ uR * (uR * r) := by
  have u0 := uR0
  have a := Rat.mul_le_mul_of_nonneg_left (Rat.mul_le_mul_of_nonneg_left h u0) u0
  exact Rat.le_trans tR_sm a
theorem cos_near {f : Wv} {d : Nat} (A : AngA f.fr d) : mag (Q (cosW' f d) - CQ (angW f.fr d)) ≤ 8 * uR ∧ mag (CQ (angW f.fr d)) ≤ 1 := by
  have a := ang_ang A
  obtain ⟨r, R⟩ := rst_ex a
  have n := (trig_near a (ang_trig a) R).2
  rw [← (SQ_of R).2] at n
  have e : mkRat 1 (2 ^ 50) = 8 * uR := by decide +kernel
  rw [e] at n
  have bd := (R.rest a).Q_bd
  have tp := Ply.top_mul bd.1 bd.2
  have o := Ply.sq_le_one tp.1 tp.2 (kq eig (V (angW f.fr d)) + 1)
  rw [← (SQ_of R).2] at o
  exact ⟨mag_of n.1 n.2, mag_of o.1 o.2⟩
theorem first_step {u t a c C y A : Rat} (u0 : 0 ≤ u) (u1 : 1000000 * u ≤ 1) (A0 : 0 ≤ A) (ht : t ≤ u * (u * A)) (ha : mag a ≤ A) (hc : mag (c - C) ≤ 8 * u) (hC : mag C ≤ 1) (hr : Rd u t y (a * c)) : mag (y - a * C) ≤ 10 * (u * A) ∧ mag (a * C) ≤ A := by
  have W0 := Rat.mul_nonneg u0 A0
  have Z0 := Rat.mul_nonneg u0 W0
  have Z1 := Rat.mul_nonneg (show 0 ≤ 1 - 1000000 * u by grind) W0
  have cb := mag_add hC hc
  rw [show C + (c - C) = c by grind] at cb
  have n := hr _ (mag_mul ha cb)
  have q := mag_add n (mag_mul ha hc)
  rw [show y - a * c + a * (c - C) = y - a * C by grind] at q
  have x := mag_mul ha hC
  refine ⟨Rat.le_trans q ?_, by grind⟩
  have e1 : u * (A * (1 + 8 * u)) + t + A * (8 * u) = 9 * (u * A) + 8 * (u * (u * A)) + t := by grind
  have e2 : (1 - 1000000 * u) * (u * A) = u * A - 1000000 * (u * (u * A)) := by grind
  rw [e1]
  rw [e2] at Z1
  generalize u * (u * A) = Z at *
  generalize u * A = W at *
  grind
theorem Q_zero_V {x : Nat} (h : Q x = 0) : V x = 0 := by
  have a := (Q_le (a := x) (b := 0)).1 (by rw [h, Q0]; exact Rat.le_refl)
  have b := (Q_le (a := 0) (b := x)).1 (by rw [h, Q0]; exact Rat.le_refl)
  rw [V_zero] at a b
  omega
theorem Q_zero_of {x : Nat} (h : V x = 0) : Q x = 0 := by unfold Q; rw [h]; decide +kernel
theorem RZ_zero' : RZ 0 = 0 := by decide +kernel
/-- a wave's height lies near the true one -/
theorem hgt_near {f : Wv} {d : Nat} (O : WvOk f) (hd : d < 18446744073709551616) (t : witB g24 d = true) : mag (Q (hgt f d) - hgtQ f d) ≤ 14 * (uR * rqW f) ∧ mag (hgtQ f d) ≤ rqW f := by
  have H := hg_ok O hd t
  have U := age_of hd t
  have uc := age_cap U
  have ue := age_Q U
  obtain ⟨c1, c2⟩ := cos_near (O.ang hd t)
  obtain ⟨fa, fitA, -⟩ := wit_spec O.w.am v40 O.am
  have p := O.pw.1
  have a0 := (mag_le (Q f.am)).2.2
  rcases fit_least fa fitA with z | z
  · -- nothing
    have vz : V f.am = 0 := by
      exact Q_zero_V z
    have e0 : V (amc f d) = 0 := by rw [H.v, vz, Int.zero_mul]; exact RZ_zero'
    have ek : ∀ k, k ≤ 2 → V (hg (ageW d) (amc f d) k) = 0 := fun k hk => by
      have : k = 0 ∨ k = 1 ∨ k = 2 := by omega
      rcases this with rfl | rfl | rfl
      · exact e0
      · rw [(H.st 0 (by omega)).2, show V (hg (ageW d) (amc f d) 0) = 0 from e0, Int.zero_mul]; exact RZ_zero'
      · rw [(H.st 1 (by omega)).2, (H.st 0 (by omega)).2, show V (hg (ageW d) (amc f d) 0) = 0 from e0, Int.zero_mul, RZ_zero', Int.zero_mul]; exact RZ_zero'
    have eh : Q (hgt f d) = 0 := Q_zero_of (ek _ p)
    have rz : rqW f = 0 := by unfold rqW; rw [z, mag_z, Rat.zero_mul]
    have hz : hgtQ f d = 0 := by unfold hgtQ; rw [z, Rat.zero_mul, Rat.zero_mul]
    rw [eh, hz, rz]
    exact ⟨by decide +kernel, by decide +kernel⟩
  · have s1 : sm ≤ mag (Q f.am) * 256 := by have := sm0; grind
    have s2 : sm ≤ 256 * (256 * mag (Q f.am)) := by have := sm0; grind
    obtain ⟨g0, b0⟩ := first_step (u := uR) uR0 uR1 a0 (small_t z) (Rat.le_refl (a := mag (Q f.am))) c1 c2 (rd_mul H.v)
    have r1 := rd_mul (H.st 0 (by omega)).2
    have r2 := rd_mul (H.st 1 (by omega)).2
    rw [ue] at r1 r2
    obtain ⟨g1, b1⟩ := hstep (u := uR) uR0 uR1 a0 (small_t z) (by decide +kernel) g0 b0 uc r1
    obtain ⟨g2, b2⟩ := hstep (u := uR) uR0 uR1 (show 0 ≤ 256 * mag (Q f.am) by grind) (small_t (by grind)) (by decide +kernel) g1 b1 uc r2
    have u0 := uR0
    have w0 := Rat.mul_nonneg u0 a0
    unfold rqW hgtQ
    rcases pq_cases p (Q d * (1 / 65536)) with ⟨e, eu⟩ | ⟨e, eu⟩ | ⟨e, eu⟩ <;> rcases pq_cases p 256 with ⟨e', ev⟩ | ⟨e', ev⟩ | ⟨e', ev⟩ <;> first | (exfalso; omega) | skip
    · have eh : hgt f d = amc f d := by unfold hgt; rw [e]; rfl
      rw [eh, eu, ev, Rat.mul_one, Rat.mul_one]
      generalize uR * mag (Q f.am) = w at *
      exact ⟨Rat.le_trans g0 (by grind), b0⟩
    · have eh : hgt f d = hg (ageW d) (amc f d) 1 := by unfold hgt; rw [e]
      rw [eh, eu, ev]
      have e2 : uR * (256 * mag (Q f.am)) = 256 * (uR * mag (Q f.am)) := by grind
      have e3 : uR * (mag (Q f.am) * 256) = 256 * (uR * mag (Q f.am)) := by grind
      rw [e2] at g1
      rw [e3]
      generalize uR * mag (Q f.am) = w at *
      exact ⟨Rat.le_trans g1 (by grind), by grind⟩
    · have eh : hgt f d = hg (ageW d) (amc f d) 2 := by unfold hgt; rw [e]
      rw [eh, eu, ev]
      have e2 : uR * (256 * (256 * mag (Q f.am))) = 65536 * (uR * mag (Q f.am)) := by grind
      have e3 : uR * (mag (Q f.am) * (256 * 256)) = 65536 * (uR * mag (Q f.am)) := by grind
      rw [e2, Rat.mul_assoc (Q f.am * CQ (angW f.fr d))] at g2
      rw [Rat.mul_assoc (Q f.am * CQ (angW f.fr d))] at b2
      rw [e3]
      generalize uR * mag (Q f.am) = w at *
      exact ⟨Rat.le_trans g2 (by grind), by grind⟩
/-! ### sums -/
def eN : Nat → Rat
  | 0 => 14
  | n + 1 => eN n + 2
theorem eN_bd : ∀ n, n < 40 → 14 ≤ eN n ∧ eN n ≤ 100 := by decide +kernel
structure Nr (p : V3) (P : R3) (R e : Rat) : Prop where
  x : mag (Q p.1 - P.1) ≤ e * (uR * R)
  mx : mag P.1 ≤ R
  y : mag (Q p.2.1 - P.2.1) ≤ e * (uR * R)
  my : mag P.2.1 ≤ R
  z : mag (Q p.2.2 - P.2.2) ≤ e * (uR * R)
  mz : mag P.2.2 ≤ R
def rsum : List Wv → Rat → Rat
  | [], R => R
  | f :: L, R => rsum L (R + rqW f)
theorem rsum_nn : ∀ (L : List Wv) (R : Rat), (∀ f ∈ L, WvOk f) → 0 ≤ R → R ≤ rsum L R
  | [], R, _, _ => Rat.le_refl
  | f :: L, R, hL, h => by
    have r := rqW_nn (hL f (List.mem_cons_self ..))
    exact Rat.le_trans (show R ≤ R + rqW f by grind) (rsum_nn L (R + rqW f) (fun x hx => hL x (List.mem_cons_of_mem _ hx)) (by grind))
theorem Nr.put {p : V3} {P : R3} {R : Rat} {i n : Nat} (h : Nr p P R (eN n)) (S : Sm p i) (hi : i < 64) (hn : n < 40) (R0 : 0 ≤ R) (a : Int) {x : Nat} {X r : Rat} (r0 : 0 ≤ r) (fx : FinW x) (bx : (V x).natAbs ≤ 2 ^ 1131) (hx : mag (Q x - X) ≤ 14 * (uR * r)) (hX : mag X ≤ r) :
    Nr (putA p a x) (putQ P a X) (R + r) (eN (n + 1)) := by
  obtain ⟨e14, e1⟩ := eN_bd n hn
  have st : ∀ {s : Nat} {T : Rat}, FinW s → (V s).natAbs ≤ 2 ^ (1131 + i) → mag (Q s - T) ≤ eN n * (uR * R) → mag T ≤ R → mag (Q (aX s x) - (T + X)) ≤ eN (n + 1) * (uR * (R + r)) ∧ mag (T + X) ≤ R + r := fun fs bs h1 h2 => by
    obtain ⟨-, -, v, -⟩ := add_sm hi fs bs fx bx
    exact sstep uR0 uR1 R0 r0 e14 e1 h1 h2 hx hX (rd_of (add_rel v))
  have sy : ∀ {s : Nat} {T : Rat}, mag (Q s - T) ≤ eN n * (uR * R) → mag T ≤ R → mag (Q s - T) ≤ eN (n + 1) * (uR * (R + r)) ∧ mag T ≤ R + r := fun h1 h2 => sstay uR0 R0 r0 (by grind) h1 h2
  have y1 := sy h.x h.mx
  have y2 := sy h.y h.my
  have y3 := sy h.z h.mz
  unfold putA putQ
  by_cases h0 : a = 0
  · rw [if_pos h0, if_pos h0]
    have t := st S.f1 S.b1 h.x h.mx
    exact ⟨t.1, t.2, y2.1, y2.2, y3.1, y3.2⟩
  · rw [if_neg h0, if_neg h0]
    by_cases h1 : a = 1
    · rw [if_pos h1, if_pos h1]
      have t := st S.f2 S.b2 h.y h.my
      exact ⟨y1.1, y1.2, t.1, t.2, y3.1, y3.2⟩
    · rw [if_neg h1, if_neg h1]
      have t := st S.f3 S.b3 h.z h.mz
      exact ⟨y1.1, y1.2, y2.1, y2.2, t.1, t.2⟩
theorem sum_nr {d : Nat} (hd : d < 18446744073709551616) (t : witB g24 d = true) : ∀ (L : List Wv) (p : V3) (P : R3) (R : Rat) (i n : Nat), (∀ f ∈ L, WvOk f) → i + L.length ≤ 64 → n + L.length ≤ 39 → Sm p i → 0 ≤ R → Nr p P R (eN n) → Nr (sumW d L p) (sumQ d L P) (rsum L R) (eN (n + L.length))
  | [], p, P, R, i, n, _, _, _, _, _, h => h
  | f :: L, p, P, R, i, n, hL, hl, hn, S, R0, h => by
    have O := hL f (List.mem_cons_self ..)
    obtain ⟨fx, bx⟩ := hgt_fin O (hg_ok O hd t)
    obtain ⟨g1, g2⟩ := hgt_near O hd t
    have r := rqW_nn O
    rw [List.length_cons] at hl hn
    have := sum_nr hd t L (putA p f.ax (hgt f d)) (putQ P f.ax (hgtQ f d)) (R + rqW f) (i + 1) (n + 1) (fun x hx => hL x (List.mem_cons_of_mem _ hx)) (by omega) (by omega) (S.put (by omega) f.ax fx bx) (by grind) (h.put S (by omega) (by omega) R0 f.ax r fx bx g1 g2)
    rw [List.length_cons, show n + (L.length + 1) = n + 1 + L.length by omega]
    exact this
theorem nr_mk {u e : Rat} {x : Nat} {X R : Rat} (hx : Q x = 0) (hX : X = 0) (hR : R = 0) : mag (Q x - X) ≤ e * (u * R) ∧ mag X ≤ R := by
  subst hX hR
  rw [hx, Rat.mul_zero, Rat.mul_zero, show (0 : Rat) - 0 = 0 by grind, mag_z]
  exact ⟨Rat.le_refl, Rat.le_refl⟩
theorem nr_of {p : V3} {P : R3} {R e : Rat} (h1 : Q p.1 = 0) (h2 : Q p.2.1 = 0) (h3 : Q p.2.2 = 0) (g1 : P.1 = 0) (g2 : P.2.1 = 0) (g3 : P.2.2 = 0) (hR : R = 0) : Nr p P R e :=
  ⟨(nr_mk h1 g1 hR).1, (nr_mk (u := 0) (e := 0) h1 g1 hR).2, (nr_mk h2 g2 hR).1, (nr_mk (u := 0) (e := 0) h2 g2 hR).2, (nr_mk h3 g3 hR).1, (nr_mk (u := 0) (e := 0) h3 g3 hR).2⟩
theorem nr_zero : Nr z3 (0, 0, 0) 0 (eN 0) := nr_of Q0 Q0 Q0 rfl rfl rfl rfl
theorem le_hund {a e w : Rat} (h : a ≤ e * w) (k : 0 ≤ 100 * w - e * w) : a ≤ 100 * w := by grind
theorem zero_mul_of {q u : Rat} (h : mag (q - 0) ≤ 100 * (u * 0)) : q = 0 := by
  have m := mag_le (q - 0)
  rw [Rat.mul_zero, Rat.mul_zero] at h
  grind
/-- the sums of a list of waves -/
theorem sums_near {L : List Wv} {d : Nat} (hL : ∀ f ∈ L, WvOk f) (hl : L.length ≤ 32) (hd : d < 18446744073709551616) (t : witB g24 d = true) : Nr (sumW d L z3) (sumQ d L (0, 0, 0)) (rsum L 0) 100 := by
  have h := sum_nr hd t L z3 (0, 0, 0) 0 0 0 hL (by omega) (by omega) sm_zero (by decide +kernel) nr_zero
  have b := (eN_bd (0 + L.length) (by omega)).2
  have R0 := rsum_nn L 0 hL (by decide +kernel)
  have w := Rat.mul_nonneg uR0 R0
  have k := Rat.mul_nonneg (show 0 ≤ 100 - eN (0 + L.length) by grind) w
  have e : (100 - eN (0 + L.length)) * (uR * rsum L 0) = 100 * (uR * rsum L 0) - eN (0 + L.length) * (uR * rsum L 0) := by grind
  rw [e] at k
  exact ⟨le_hund h.x k, h.mx, le_hund h.y k, h.my, le_hund h.z k, h.mz⟩
/-! ### reach -/
theorem rgt_Q {f : Wv} (O : WvOk f) : Q (rgt f) = rqW f := by
  obtain ⟨A, -, -, -, v⟩ := rgt_ok O
  have p := O.pw.1
  have am := O.amw
  obtain ⟨fw, vw⟩ := abs_word am.fin
  have qa : Q (absW' f.am) = mag (Q f.am) := Q_magW am.fin
  unfold rqW
  rw [← qa]
  have vk := (A.fin _ p).2
  have sc : ∀ {k : Nat} {c : Rat}, ((2 ^ k : Int) : Rat) = c → 8 * f.pw.toNat = k → Q (absW' f.am) * c = Q (rgt f) := fun hc hk => by
    rw [hk] at vk
    exact Q_scale hc vk.symm
  rcases pq_cases p 256 with ⟨e, ev⟩ | ⟨e, ev⟩ | ⟨e, ev⟩
  · rw [ev]; exact (sc (k := 0) (by decide +kernel) (by omega)).symm
  · rw [ev]; exact (sc (k := 8) (by decide +kernel) (by omega)).symm
  · rw [ev]; exact (sc (k := 16) (by decide +kernel) (by omega)).symm
theorem rc_nr : ∀ (L : List Wv) (s : Nat) (R : Rat) (i n : Nat), (∀ f ∈ L, WvOk f) → i + L.length ≤ 64 → n + L.length ≤ 39 → Rm s i → 0 ≤ R → mag (Q s - R) ≤ eN n * (uR * R) → mag (Q (rcF L s) - rsum L R) ≤ eN (n + L.length) * (uR * rsum L R)
  | [], s, R, i, n, _, _, _, _, _, h => h
  | f :: L, s, R, i, n, hL, hl, hn, S, R0, h => by
    have O := hL f (List.mem_cons_self ..)
    obtain ⟨-, fx, bx, nx, -⟩ := rgt_ok O
    have r := rqW_nn O
    obtain ⟨-, S', v⟩ := S.put (by rw [List.length_cons] at hl; omega) fx nx bx
    obtain ⟨e14, e1⟩ := eN_bd n (by rw [List.length_cons] at hn; omega)
    have mr : mag R ≤ R := Pol.mag_nn R0
    have m2 : mag (rqW f) ≤ rqW f := Pol.mag_nn r
    have hx : mag (Q (rgt f) - rqW f) ≤ 14 * (uR * rqW f) := by
      rw [rgt_Q O, show rqW f - rqW f = 0 by grind]
      have w := Rat.mul_nonneg uR0 r
      rw [mag_z]; exact nn14 w
    have t := (sstep (u := uR) uR0 uR1 R0 r e14 e1 h mr hx m2 (rd_of (add_rel v))).1
    rw [List.length_cons] at hl hn
    have := rc_nr L (aX s (rgt f)) (R + rqW f) (i + 1) (n + 1) (fun x hx => hL x (List.mem_cons_of_mem _ hx)) (by omega) (by omega) S' (by grind) t
    rw [List.length_cons, show n + (L.length + 1) = n + 1 + L.length by omega]
    exact this
theorem rsum_least : ∀ (L : List Wv) (R : Rat), (∀ f ∈ L, WvOk f) → (R = 0 ∨ sm ≤ R) → rsum L R = 0 ∨ sm ≤ rsum L R
  | [], R, _, h => h
  | f :: L, R, hL, h => by
    have O := hL f (List.mem_cons_self ..)
    have r := rqW_nn O
    obtain ⟨fa, fitA, -⟩ := wit_spec O.w.am v40 O.am
    have p := pq_pos O.pw.1
    refine rsum_least L (R + rqW f) (fun x hx => hL x (List.mem_cons_of_mem _ hx)) ?_
    have s0 := sm0
    have rr : rqW f = 0 ∨ sm ≤ rqW f := by
      unfold rqW at r ⊢
      rcases fit_least fa fitA with z | z
      · left; rw [z, mag_z, Rat.zero_mul]
      · right
        have a := Rat.mul_nonneg (show 0 ≤ mag (Q f.am) by grind) (show 0 ≤ pq 256 f.pw.toNat - 1 by grind)
        grind
    rcases h with h | h <;> rcases rr with k | k
    · left; rw [h, k]; decide +kernel
    · right; grind
    · right; grind
    · right; grind
theorem rc_poly {u t s c R q : Rat} (u0 : 0 ≤ u) (u1 : 1000000 * u ≤ 1) (R0 : 0 ≤ R) (ht : t ≤ u * R) (hs : mag (s - R) ≤ 100 * (u * R)) (hc : c = 1 + 1 / 1024) (hq : Rd u t q (s * c)) : (1 + 1 / 2048) * R ≤ q := by
  have w := Rat.mul_nonneg u0 R0
  have w1 := Rat.mul_nonneg (show 0 ≤ 1 - 1000000 * u by grind) R0
  have e : (1 - 1000000 * u) * R = R - 1000000 * (u * R) := by grind
  rw [e] at w1
  have m := mag_le (s - R)
  have sb : mag (s * c) ≤ 2 * R := by rw [hc]; exact mag_of (by grind) (by grind)
  have n := hq _ sb
  have k := mag_le (q - s * c)
  rw [hc] at k n
  have e2 : u * (2 * R) = 2 * (u * R) := by grind
  rw [e2] at n
  generalize u * R = W at *
  grind
theorem cRc_Q : Q cRc = 1 + 1 / 1024 := by decide +kernel
/-- Reach is a little more than all the magnitudes -/
theorem reach_low {L : List Wv} (hL : ∀ f ∈ L, WvOk f) (hl : L.length ≤ 32) : (1 + 1 / 2048) * rsum L 0 ≤ Q (rcW L) ∧ 0 ≤ rsum L 0 ∧ mag (Q (rcF L 0) - rsum L 0) ≤ 100 * (uR * rsum L 0) := by
  have R0 := rsum_nn L 0 hL (by decide +kernel)
  have h := rc_nr L 0 0 0 0 hL (by omega) (by omega) rm_zero (by decide +kernel) (nr_mk Q0 rfl rfl).1
  have b := (eN_bd (0 + L.length) (by omega)).2
  have w := Rat.mul_nonneg uR0 R0
  have k := Rat.mul_nonneg (show 0 ≤ 100 - eN (0 + L.length) by grind) w
  have e : (100 - eN (0 + L.length)) * (uR * rsum L 0) = 100 * (uR * rsum L 0) - eN (0 + L.length) * (uR * rsum L 0) := by grind
  rw [e] at k
  have h1 : mag (Q (rcF L 0) - rsum L 0) ≤ 100 * (uR * rsum L 0) := le_hund h k
  obtain ⟨-, -, v, -⟩ := rc_mul hL hl
  refine ⟨?_, R0, h1⟩
  rcases rsum_least L 0 hL (.inl rfl) with z | z
  · have vz : V (rcF L 0) = 0 := by
      rw [z] at h1
      exact Q_zero_V (zero_mul_of h1)
    rw [z, Q_zero_of (x := rcW L) (by rw [v, vz, Int.zero_mul]; exact RZ_zero')]
    decide +kernel
  · have t := small_t z
    have u1 := uR1
    have s0 := sm0
    have ww := Rat.mul_nonneg (show 0 ≤ 1 - uR by have := uR0; grind) w
    have t2 : tR ≤ uR * rsum L 0 := by
      have e : (1 - uR) * (uR * rsum L 0) = uR * rsum L 0 - uR * (uR * rsum L 0) := by grind
      rw [e] at ww
      grind
    exact rc_poly uR0 uR1 R0 t2 h1 cRc_Q (rd_mul v)
end Go.Proofs.Ytgnofnjbmiepjaa

namespace Go.Proofs.Ytgnofnjbmiepjaa
open Go.ChangeShapes Go.WideShapes Go.ChangeAt Go.RowKit Go.Deep Ieee.Own

set_option maxRecDepth 100000 in
theorem recW : RecT 22 49 5 40 (.agg #[.int .i64 0, .int .i64 0, .float .f64 0, .float .f64 0, .float .f64 0]) := ⟨Try.underlying22, by kernel_rfl, rfl, by decide⟩
theorem array5 {α : Type} {cs : List α} (h : cs.length = 5) : ∃ c0 c1 c2 c3 c4, cs = [c0, c1, c2, c3, c4] := by
  match cs, h with
  | [c0, c1, c2, c3, c4], _ => exact ⟨c0, c1, c2, c3, c4, rfl⟩
set_option maxHeartbeats 4000000 in
set_option maxRecDepth 100000 in
theorem wv_cells {H : Type} {enc : TypeId × Value → H} {W : World} (n : Nat) (cs : List Value) (y : DataW H × List MemPlace) (hl : cs.length = 5)
    (h : DataW.trod enc Try.prog W 0 (fun _ => true) true n 49 cs = some y) : ∃ f : Wv, cs = wvC f ∧ WvW f := by
  obtain ⟨c0, c1, c2, c3, c4, rfl⟩ := array5 hl
  obtain ⟨xs, n', -, -, -, hx0, hf⟩ := DataW.trod_struct Try.underlying49 h
  have e1 : Try.prog.cellsOf 3 = 1 := by kernel_rfl
  have e2 : Try.prog.cellsOf 23 = 1 := by kernel_rfl
  have key : ∀ {t : TypeId} {k m : Nat} {cs' : List Value} {z : Option (DataW H × List MemPlace)}, Try.prog.cellsOf t = m → (([c0, c1, c2, c3, c4].drop k).take m) = cs' → m ≤ cs'.length → 0 < m → z = DataW.trod enc Try.prog W 0 (fun _ => true) true n' t (([c0, c1, c2, c3, c4].drop k).take (Try.prog.cellsOf t)) → (∃ q, z = some q) → ∃ q, DataW.trod enc Try.prog W 0 (fun _ => true) true n' t cs' = some q := fun h1 h2 _ _ h3 h4 => by
    rw [h1, h2] at h3
    obtain ⟨q, hq⟩ := h4
    exact ⟨q, by rw [← h3, hq]⟩
  have hx : xs.length = 5 := hx0
  have g0 := hf 0 _ rfl
  have g1 := hf 1 _ rfl
  have g2 := hf 2 _ rfl
  have g3 := hf 3 _ rfl
  have g4 := hf 4 _ rfl
  obtain ⟨q0, h0⟩ := key (k := 0) (m := 1) (cs' := [c0]) e1 rfl (by simp) (by omega) g0.symm ⟨_, List.getElem?_eq_getElem (by omega)⟩
  obtain ⟨q1, h1⟩ := key (k := 1) (m := 1) (cs' := [c1]) e1 rfl (by simp) (by omega) g1.symm ⟨_, List.getElem?_eq_getElem (by omega)⟩
  obtain ⟨q2, h2⟩ := key (k := 2) (m := 1) (cs' := [c2]) e2 rfl (by simp) (by omega) g2.symm ⟨_, List.getElem?_eq_getElem (by omega)⟩
  obtain ⟨q3, h3⟩ := key (k := 3) (m := 1) (cs' := [c3]) e2 rfl (by simp) (by omega) g3.symm ⟨_, List.getElem?_eq_getElem (by omega)⟩
  obtain ⟨q4, h4⟩ := key (k := 4) (m := 1) (cs' := [c4]) e2 rfl (by simp) (by omega) g4.symm ⟨_, List.getElem?_eq_getElem (by omega)⟩
  obtain ⟨a, ha, -⟩ := DataW.trod_int Try.underlying3 h0
  obtain ⟨b, hb, -⟩ := DataW.trod_int Try.underlying3 h1
  simp only [List.cons.injEq, and_true] at ha hb
  subst ha hb
  obtain ⟨p, rfl, hp⟩ := float_cell Try.underlying23 h2
  obtain ⟨q, rfl, hq⟩ := float_cell Try.underlying23 h3
  obtain ⟨r, rfl, hr⟩ := float_cell Try.underlying23 h4
  exact ⟨⟨a, b, p, q, r⟩, rfl, hp, hq, hr⟩
set_option maxRecDepth 100000 in
/-- a list of waves that came in, opened -/
theorem open_waves {H : Type} {enc : TypeId × Value → H} {W : World} {v : Value} {d : DataW H} {ps : List MemPlace}
    (hval : ∃ ao n c, v = .slice ao n c) (h : DataW.Trod enc Try.prog W 0 (fun _ => true) true 22 v d ps) :
    ∃ ao cap L, v = .slice ao (List.length L) cap ∧ L.length ≤ cap ∧ cap ≤ maxLen ∧ VAt W ao L ∧ WvsW L ∧ ((ao = none ∧ cap = 0) ∨ ((∃ a, ao = some a) ∧ ∃ es sp : List (DataW H), d = .slice es sp ∧ es.length + sp.length = cap)) := by
  obtain ⟨ao, cap, R, h1, h2, h3, h4, h5, h6⟩ := open_rows (m := 5) (fun cs => ∃ f : Wv, cs = wvC f ∧ WvW f) Try.underlying22 (by kernel_rfl) (by omega) (fun n cs y hl hy => wv_cells n cs y hl hy) hval h
  have : ∃ L : List Wv, R = L.map wvC ∧ WvsW L := by
    clear h1 h2 h3 h4 h6
    induction R with
    | nil => exact ⟨[], rfl, fun f hf => by cases hf⟩
    | cons r R ih =>
      obtain ⟨L, rfl, hL⟩ := ih (fun x hx => h5 x (List.mem_cons_of_mem _ hx))
      obtain ⟨⟨f, rfl, hf⟩, -⟩ := h5 r (List.mem_cons_self ..)
      exact ⟨f :: L, rfl, fun g hg => by
        rcases List.mem_cons.1 hg with rfl | hg
        · exact hf
        · exact hL g hg⟩
  obtain ⟨L, rfl, hL⟩ := this
  rw [List.length_map] at h1 h2
  exact ⟨ao, cap, L, h1, h2, h3, h4, hL, h6⟩
/-! ### awake -/
def awW12 : Wv := ⟨1, 0, 4613937818241073152, 0, 0⟩
def halfW12 : Nat := 4602678819172646912
theorem zero_trig : Trig 0 0 oneW := by
  refine ⟨⟨0, ⟨⟨zero_fin, by omega⟩, by decide +kernel⟩, by decide +kernel, by decide +kernel⟩, ⟨zero_fin, by omega⟩, ⟨one_wd.fin, by unfold oneW; omega⟩⟩
theorem aw12_at : atV [awW12] halfW12 = ((0, 4613937818241073152, 0), 0) := by
  have e1 : readyV [awW12] (witB g24 halfW12) = 0 := by decide +kernel
  have e2 : angW awW12.fr halfW12 = 0 := by decide +kernel
  have e3 : amc awW12 halfW12 = 4613937818241073152 := by
    unfold amc cosW'
    rw [e2, (tS_eq zero_trig).2]
    decide +kernel
  have e4 : hgt awW12 halfW12 = 4613937818241073152 := by
    unfold hgt
    rw [e3]
    rfl
  have e5 : sumW halfW12 [awW12] z3 = (0, 4613937818241073152, 0) := by
    unfold sumW
    rw [e4]
    unfold sumW
    decide +kernel
  unfold atV
  rw [if_pos e1, e5]
  decide +kernel
set_option maxHeartbeats 4000000 in
set_option maxRecDepth 100000 in
theorem awake12 (w : World) : Calls Try.prog 8 #[] w fun e w' => e = .returned (.bool true) ∧ Below w.heap.size w w' := by
  have C : Hid (∀ W ao, VAt W ao [awW12] → Calls Try.prog 9 #[.slice ao 1 1, .float .f64 4602678819172646912] W fun e w' => e = .returned (.tuple #[.agg #[.float .f64 0, .float .f64 4613937818241073152, .float .f64 0], .int .i64 0]) ∧ Below W.heap.size W w') :=
    Lib.hid fun W ao ha => by
      have hW : WvsW [awW12] := fun f hf => by rw [List.mem_singleton.1 hf]; exact ⟨by decide, by decide, by decide⟩
      have := wat_run ao 1 1 halfW12 W (L := [awW12]) rfl (by omega) hW ha (by unfold halfW12; omega)
      rw [aw12_at] at this
      exact this
  have t2 : (FloatKind.f64.format.order 4613937818241073152 4613937818241073152 == some Ordering.eq) = true := by decide +kernel
  have t3 : (FloatKind.f64.format.order 0 0 == some Ordering.eq) = true := by decide +kernel
  have hst := @fstore
  have heq := feq_run
  have B := BV.box w 49 (wvC awW12)
  have b1 := (Below.refl w.heap.size w).alloc (Nat.le_refl _) (objV 49 (wvC awW12))
  have FA : VAt (w.alloc (objV 49 (wvC awW12))) (some ⟨w.heap.size, 0, none⟩) [awW12] := by
    intro j r hj
    have j0 : j = 0 := by
      have := (List.getElem?_eq_some_iff.1 hj).1
      simpa using this
    subst j0
    simp at hj
    subst hj
    refine ⟨_, _, rfl, B.lt, fun k u hu => ?_⟩
    rw [Nat.zero_mul, Nat.zero_add]
    exact B.at_ k u hu
  have C1 := Lib.hid (C.out _ _ FA)
  clear C B FA
  replace b1 := Lib.hid b1
  go_enter Try.func8, Try.ntmps8
  go_wp2_with fail
  refine C1.out.mono ?_
  rintro _ w2 ⟨rfl, hb⟩
  replace hb := Lib.hid (b1.out.trans (hb.mono b1.out.size))
  clear C1 b1
  go_wp2_with fail
  go_ret
  exact ⟨rfl, hb.out.alloc (hb.out.size) _⟩
end Go.Proofs.Ytgnofnjbmiepjaa

namespace Go.Proofs.Ytgnofnjbmiepjaa
open Go.ChangeShapes Go.WideShapes Go.ChangeAt Go.RowKit Ieee.Own Pol Fma

/-! ### reach -/
theorem fn_finW {x : Nat} (h : FinW x) : FinW (fnW x) := by unfold fnW; split; exact h; exact zero_fin
/-! ### boxes -/
/-! ### beside -/
/-- numbers that aren't fit are small -/
theorem unfitW {x : Nat} (hx : FinW x) (f : fitB x = false) (b : (V x).natAbs ≤ 2 ^ 1200) : (V x).natAbs < 2 ^ 874 := by
  unfold fitB at f
  rw [decide_eq_false_iff_not] at f
  rw [V_abs' x hx] at b ⊢
  have e : val 52 3706462493325918208 = 2 ^ 874 := by decide +kernel
  have e2 : val 52 5507902344274116608 = 2 ^ 1274 := by decide +kernel
  by_cases q : x % 9223372036854775808 < 3706462493325918208
  · rw [← e]; exact val_lt q
  · exfalso
    have q2 : 5507902344274116608 < x % 9223372036854775808 := by omega
    have := val_lt (F := 52) q2
    rw [e2] at this
    exact absurd (Nat.lt_of_lt_of_le this (Nat.le_trans b (two_le (a := 1200) (b := 1274) (by omega)))) (Nat.lt_irrefl _)
theorem fn_offW {x : Nat} (hx : FinW x) (b : (V x).natAbs ≤ 2 ^ 1200) : mag (Q (fnW x) - Q x) ≤ sm := by
  unfold fnW
  by_cases h : fitB x = true
  · rw [if_pos h, show Q x - Q x = 0 by grind, mag_z]; exact sm0
  · rw [if_neg h]
    have s := unfitW hx (Bool.eq_false_iff.2 h) b
    have c1 : V 3706462493325918208 = 2 ^ 874 := by decide +kernel
    have c2 : V 12929834530180694016 = -(2 ^ 874) := by decide +kernel
    have q1 : Q 3706462493325918208 = sm := by decide +kernel
    have q2 : Q 12929834530180694016 = -sm := by decide +kernel
    have e := two_cast 874
    have h1 : Q x ≤ sm := by rw [← q1]; exact Q_le.2 (by rw [c1]; omega)
    have h2 : -sm ≤ Q x := by rw [← q2]; exact Q_le.2 (by rw [c2]; omega)
    rw [Q0]
    exact mag_of (by grind) (by grind)
theorem fn_absW {x : Nat} {k : Nat} (b : (V x).natAbs ≤ 2 ^ k) : (V (fnW x)).natAbs ≤ 2 ^ k := by
  unfold fnW
  split
  · exact b
  · rw [V_zero]; exact Nat.zero_le _
/-- a power of two's share, exactly -/
theorem share_of {r j D : Nat} (fr : FinW r) (b : (V r).natAbs ≤ 2 ^ 1400) (hD : D = (1023 + j) * 4503599627370496) (hj : j ≤ 60) (h : V r = 0 ∨ 2 ^ 874 ≤ (V r).natAbs) (fD : FinW D) (vD : V D ≠ 0) : Ieee.double.div r D = some (qX r D) ∧ FinW (qX r D) ∧ V (qX r D) * 2 ^ j = V r ∧ (V (qX r D)).natAbs ≤ 2 ^ 1400 := by
  have cap : ∀ {x : Int}, x * 2 ^ j = V r → x.natAbs ≤ 2 ^ 1400 := fun {x} e => by
    rw [← e, Int.natAbs_mul] at b
    have p : 1 ≤ ((2 : Int) ^ j).natAbs := by rw [Int.natAbs_pow]; exact Nat.one_le_two_pow
    have := Nat.mul_le_mul_left x.natAbs p
    rw [Nat.mul_one] at this
    exact Nat.le_trans this b
  rcases h with h | h
  · obtain ⟨q, h1, h2, h3⟩ := div_zero fr h fD vD
    have e : qX r D = q := by unfold qX; rw [h1]; rfl
    have v : V q * 2 ^ j = V r := by rw [h3, h, Int.zero_mul]
    rw [e]; exact ⟨h1, h2, v, cap v⟩
  · obtain ⟨q, h1, h2, h3⟩ := div_pow (j := j) (D := D) hD fr h (abs_up (k := 1400) (l := 1500) b (by omega)) hj
    have e : qX r D = q := by unfold qX; rw [h1]; rfl
    rw [e]; exact ⟨h1, h2, h3, cap h3⟩
theorem rc_big {L : List Wv} (hL : ∀ f ∈ L, WvOk f) (hl : L.length ≤ 32) : V (rcW L) = 0 ∨ 2 ^ 874 ≤ (V (rcW L)).natAbs := by
  obtain ⟨low, R0, h1⟩ := reach_low hL hl
  obtain ⟨-, -, v, -⟩ := rc_mul hL hl
  rcases rsum_least L 0 hL (.inl rfl) with z | z
  · left
    rw [z] at h1
    rw [v, Q_zero_V (zero_mul_of h1), Int.zero_mul]; exact RZ_zero'
  · right
    have q1 : Q 3706462493325918208 = sm := by decide +kernel
    have c1 : V 3706462493325918208 = 2 ^ 874 := by decide +kernel
    have e := two_cast 874
    have := Q_le.1 (show Q 3706462493325918208 ≤ Q (rcW L) by rw [q1]; have := sm0; grind)
    rw [c1] at this
    omega
end Go.Proofs.Ytgnofnjbmiepjaa
