/- Proved here: what the texts Vbn, Vbo prove, one behind the other. -/
import Derived.Test.YtpdkciennccckaaJx1

namespace Go.Proofs.Ytpdkciennccckaa
open Go.ChangeShapes Go.WideShapes Go.ChangeAt Go.RowKit Ieee.Own Pol

theorem div_norm {a n m q : Nat} (fa : FinW a) (hN : V a = 0 ∨ ∃ s m p, Norm a s m p ∧ 760 ≤ p ∧ p ≤ 1222) (N : Norm n false m q) (h1 : 760 ≤ q) (h2 : q ≤ 1100) :
    Ieee.double.div a n = some (qX a n) ∧ FinW (qX a n) ∧ 2 ^ 53 * (V (qX a n) * V n - V a * 2 ^ 1074).natAbs ≤ (V (qX a n) * V n).natAbs := by
  have vn := N.val
  rw [sv_pos] at vn
  rcases hN with z | ⟨s, m', p, N', p1, p2⟩
  · have nz : V n ≠ 0 := by
      rw [vn]
      have := N.lo
      exact Int.ne_of_gt (Int.mul_pos (by omega) (Int.pow_pos (by decide)))
    obtain ⟨r, q1, q2, q3⟩ := div_zero fa z N.fin nz
    have er : qX a n = r := by unfold qX; rw [q1]; rfl
    rw [er]
    refine ⟨q1, q2, ?_⟩
    rw [q3, z, Int.zero_mul, Int.zero_mul]
    decide
  · obtain ⟨r, Q, u, q1, q2, q3, u1, u2, Q1, Q2, i1, i2⟩ := div_spec N' N (by omega) (by omega)
    have er : qX a n = r := by unfold qX; rw [q1]; rfl
    rw [er]
    refine ⟨q1, q2, ?_⟩
    have key : 2 ^ 53 * (((Q * m : Nat) : Int) - ((m' * 2 ^ u : Nat) : Int)).natAbs ≤ Q * m := by
      have k1 : 2 * (((Q * m : Nat) : Int) - ((m' * 2 ^ u : Nat) : Int)).natAbs ≤ m := by
        generalize Q * m = X at *
        generalize m' * 2 ^ u = Y at *
        omega
      have k2 : 2 ^ 52 * m ≤ Q * m := Nat.mul_le_mul_right _ Q1
      generalize Q * m = X at *
      generalize m' * 2 ^ u = Y at *
      omega
    have x0 : (s ^^ false) = s := by cases s <;> rfl
    rw [x0] at q3
    have e1 : 1074 + p - q - u + q = 1074 + p - u := by omega
    have va := N'.val
    have sg : ∀ (s : Bool) (A B : Nat), sv s A B = (if s then -1 else 1) * ((A : Int) * 2 ^ B) := fun s A B => by
      unfold sv; cases s <;> simp
    rw [sg] at q3 va
    have x1 : V r * V n = (if s then -1 else 1) * ((Q * m : Nat) : Int) * 2 ^ (1074 + p - u) := by
      rw [q3, vn, Int.mul_assoc, prod_merge _ _ e1, Int.natCast_mul]
      generalize (2 : Int) ^ (1074 + p - u) = z
      ac_rfl
    have x2 : V a * 2 ^ 1074 = (if s then -1 else 1) * ((m' * 2 ^ u : Nat) : Int) * 2 ^ (1074 + p - u) := by
      rw [va, Int.natCast_mul, Int.natCast_pow, Int.mul_assoc, pow_merge (m' : Int) (p := p) (k := 1074) (j := 1074 + p - u) (u := u) (by omega)]
      rw [show ((2 : Nat) : Int) = 2 from rfl]
      generalize (2 : Int) ^ (1074 + p - u) = z
      ac_rfl
    refine scale_nat x1 x2 ?_
    rw [← Int.mul_sub, Int.natAbs_mul, Int.natAbs_mul]
    have o : (if s = true then (-1 : Int) else 1).natAbs = 1 := by cases s <;> rfl
    rw [o, Nat.one_mul, Nat.one_mul, Int.natAbs_natCast]
    exact key
theorem wd_norm {a : Nat} (W : Wd a 822 1140) : V a = 0 ∨ ∃ s m p, Norm a s m p ∧ 760 ≤ p ∧ p ≤ 1222 := by
  by_cases z : V a = 0
  · exact .inl z
  · have lo := pow_abs_dvd W.dvd z
    obtain ⟨s, m, p, N⟩ := is_norm W.fin lo (by omega)
    obtain ⟨p1, p2⟩ := norm_pl N lo W.abs (by omega) (by omega)
    exact .inr ⟨s, m, p, N, by omega, by omega⟩
def p46 : Nat := 4814348001659060224
def c190w : Nat := 3751498489599623168
theorem p46_norm : ∃ m q, Norm p46 false m q ∧ 760 ≤ q ∧ q ≤ 1100 := by
  have f : FinW p46 := by unfold FinW p46; omega
  have N := norm_of f (by unfold p46; omega)
  rw [show decide (9223372036854775808 ≤ p46) = false by decide] at N
  exact ⟨_, _, N, by decide, by decide⟩
theorem p46_Q : Q p46 * (128 * uR) = 1 := by decide +kernel
theorem c190w_Q : Q c190w = 1024 * sm := by decide +kernel
theorem c190w_fin : FinW c190w := by unfold FinW c190w; omega
def absW (x : Nat) : Nat := x % 9223372036854775808
theorem abs_wd {x : Nat} (W : Wd x 822 1134) : Wd (absW x) 822 1134 ∧ Q (absW x) = mag (Q x) := by
  have f := W.fin
  have fm : FinW (absW x) := ⟨by unfold absW; omega, by have := f.2; unfold absW; omega⟩
  have v : V (absW x) = ((V x).natAbs : Int) := by
    rw [V_abs' x f]
    unfold V absW
    rw [if_pos (by omega)]
  have q : Q (absW x) = mag (Q x) := by
    rcases Int.le_total 0 (V x) with h | h
    · have e : V (absW x) = V x := by omega
      have e' : Q (absW x) = Q x := Q_congr e
      have n : 0 ≤ Q x := by
        have := (Q_le (a := 0) (b := x)).2 (by rw [V_zero]; exact h)
        rwa [Q0] at this
      rw [e']; unfold mag; rw [if_pos n]
    · have e : V (absW x) = -V x := by omega
      have e' : Q (absW x) = -Q x := Q_neg e
      have n : Q x ≤ 0 := by
        have := (Q_le (a := x) (b := 0)).2 (by rw [V_zero]; exact h)
        rwa [Q0] at this
      rw [e']; unfold mag; split <;> grind
  refine ⟨⟨fm, ?_, ?_⟩, q⟩
  · rw [v]
    rcases Int.le_total 0 (V x) with h | h
    · rw [show ((V x).natAbs : Int) = V x by omega]; exact W.dvd
    · rw [show ((V x).natAbs : Int) = -V x by omega]; exact Int.dvd_neg.2 W.dvd
  · rw [v, Int.natAbs_natCast]; exact W.abs
def szW (v : V3) : Nat := aX (aX (absW v.1) (absW v.2.1)) (absW v.2.2)
def limW (v : V3) : Nat := aX (qX (szW v) p46) c190w
/-- the bound -/
structure Lim (v : V3) : Prop where
  s1 : Ieee.double.add (absW v.1) (absW v.2.1) = some (aX (absW v.1) (absW v.2.1))
  s2 : Ieee.double.add (aX (absW v.1) (absW v.2.1)) (absW v.2.2) = some (szW v)
  q : Ieee.double.div (szW v) p46 = some (qX (szW v) p46)
  a : Ieee.double.add (qX (szW v) p46) c190w = some (limW v)
  fin : FinW (limW v)
  lim : bnd (sz3 v) * (1 + uR) ≤ Q (limW v)
theorem lim_aux {u σ X Y Z s1 s2 q P d : Rat} (up : 0 < u) (u1 : 1000 * u ≤ 1) (s0 : 0 ≤ σ) (x0 : 0 ≤ X) (y0 : 0 ≤ Y) (z0 : 0 ≤ Z) (hP : P * (128 * u) = 1)
    (h1 : mag (s1 - (X + Y)) ≤ u * (X + Y)) (h2 : mag (s2 - (s1 + Z)) ≤ u * mag (s1 + Z)) (h3 : mag (q * P - s2) ≤ u * mag (q * P)) (h4 : mag (d - (q + 1024 * σ)) ≤ u * mag (q + 1024 * σ)) :
    (116 * (u * (X + Y + Z)) + 16 * σ) * (1 + u) ≤ d := by
  have u0 := Rat.le_of_lt up
  have a1 := mag_le (s1 - (X + Y))
  have a2 := mag_le (s2 - (s1 + Z))
  have a3 := mag_le (q * P - s2)
  have a4 := mag_le (d - (q + 1024 * σ))
  have uu := Rat.mul_nonneg u0 (show 0 ≤ 1 - 1000 * u by grind)
  have xy := Rat.mul_nonneg u0 (show 0 ≤ X + Y by grind)
  have b1 : (1 - u) * (X + Y) ≤ s1 := by grind
  have s1n : 0 ≤ s1 := by
    have := Rat.mul_nonneg (show 0 ≤ 1 - u by grind) (show 0 ≤ X + Y by grind)
    grind
  have m1 : mag (s1 + Z) = s1 + Z := by unfold mag; rw [if_pos (by grind)]
  rw [m1] at h2
  have b2 : (1 - u) * (s1 + Z) ≤ s2 := by grind
  have S0 : 0 ≤ X + Y + Z := by grind
  have b3 : (1 - 2 * u) * (X + Y + Z) ≤ s2 := by
    have e1 := Rat.mul_le_mul_of_nonneg_left (show (1 - u) * (X + Y) + Z ≤ s1 + Z by grind) (show 0 ≤ 1 - u by grind)
    have e2 := Rat.mul_nonneg uu (show 0 ≤ X + Y by grind)
    have e3 := Rat.mul_nonneg u0 z0
    have e4 := Rat.mul_nonneg (Rat.mul_nonneg u0 u0) (show 0 ≤ X + Y by grind)
    grind
  have s2n : 0 ≤ s2 := by
    have := Rat.mul_nonneg (show 0 ≤ 1 - 2 * u by grind) S0
    grind
  have qP : 0 ≤ q * P := by
    by_cases c : 0 ≤ q * P
    · exact c
    · exfalso
      have m : mag (q * P) = -(q * P) := by unfold mag; rw [if_neg c]
      rw [m] at h3
      have := Rat.mul_nonneg (show 0 ≤ -(q * P) by grind) (show 0 ≤ 1 - 1000 * u by grind)
      grind
  have m3 : mag (q * P) = q * P := by unfold mag; rw [if_pos qP]
  rw [m3] at h3
  have b4 : s2 ≤ q * P * (1 + u) := by grind
  have b5 : s2 * (1 - u) ≤ q * P := by
    have e1 := Rat.mul_le_mul_of_nonneg_right b4 (show 0 ≤ 1 - u by grind)
    have e2 := Rat.mul_nonneg (Rat.mul_nonneg u0 u0) qP
    grind
  have b6 : (1 - 2 * u) * (X + Y + Z) * (1 - u) ≤ q * P := by
    have e1 := Rat.mul_le_mul_of_nonneg_right b3 (show 0 ≤ 1 - u by grind)
    grind
  have b7 : (1 - 3 * u) * (X + Y + Z) ≤ q * P := by
    have e1 := Rat.mul_nonneg (Rat.mul_nonneg u0 u0) S0
    grind
  -- q itself
  have b8 : (1 - 3 * u) * (X + Y + Z) * (128 * u) ≤ q := by
    have e1 := Rat.mul_le_mul_of_nonneg_right b7 (show 0 ≤ 128 * u by grind)
    have e2 : q * P * (128 * u) = q := by
      have : q * P * (128 * u) = q * (P * (128 * u)) := by grind
      rw [this, hP]; grind
    rw [e2] at e1; exact e1
  have qn : 0 ≤ q := by
    have e1 := Rat.mul_nonneg (Rat.mul_nonneg (show 0 ≤ 1 - 3 * u by grind) S0) (show 0 ≤ 128 * u by grind)
    grind
  have m4 : mag (q + 1024 * σ) = q + 1024 * σ := by unfold mag; rw [if_pos (by grind)]
  rw [m4] at h4
  have b9 : (1 - u) * (q + 1024 * σ) ≤ d := by grind
  have c1 := Rat.mul_le_mul_of_nonneg_left b8 (show 0 ≤ 1 - u by grind)
  generalize hS : X + Y + Z = S at *
  have uS := Rat.mul_nonneg u0 S0
  have c2 := Rat.mul_nonneg uS (show 0 ≤ 1 - 1000 * u by grind)
  have c3 := Rat.mul_nonneg (Rat.mul_nonneg uS u0) u0
  have c4 := Rat.mul_nonneg s0 (show 0 ≤ 1 - 1000 * u by grind)
  clear h1 h2 h3 h4 a1 a2 a3 a4 m1 m3 m4 b1 b2 b3 b4 b5 b6 b7 hP xy s1n s2n qP
  grind
theorem quo_cap {q y i j k l : Nat} (e : j + k + 1 ≤ i + l) (h : q * 2 ^ i ≤ 2 * (y * 2 ^ j)) (hy : y ≤ 2 ^ k) : q ≤ 2 ^ l := by
  refine Nat.le_of_mul_le_mul_right ?_ (Nat.two_pow_pos i)
  refine Nat.le_trans h (Nat.le_trans (Nat.mul_le_mul_left 2 (Nat.mul_le_mul_right _ hy)) ?_)
  rw [← Nat.pow_add, ← Nat.pow_add]
  have : 2 * 2 ^ (k + j) = 2 ^ (k + j + 1) := by rw [Nat.pow_succ]; omega
  rw [this]
  exact two_le (by omega)
theorem quo_cap7 {q y : Int} {i j k l : Nat} (e : j + k + 1 ≤ i + l) (h : (q * 2 ^ i).natAbs ≤ 2 * (y * 2 ^ j).natAbs) (hy : y.natAbs ≤ 2 ^ k) : q.natAbs ≤ 2 ^ l := by
  rw [Int.natAbs_mul, Int.natAbs_mul, Int.natAbs_pow, Int.natAbs_pow] at h
  exact quo_cap e h hy
theorem lim_of {v : V3} (D : D3 v) : Lim v := by
  obtain ⟨w1, q1⟩ := abs_wd D.w1
  obtain ⟨w2, q2⟩ := abs_wd D.w2
  obtain ⟨w3, q3⟩ := abs_wd D.w3
  obtain ⟨s1, g1, r1⟩ := Wd.add w1 w2 (by omega)
  obtain ⟨s2, g2, r2⟩ := Wd.add g1 (w3.le (q := 822) (l := 1134 + 1) (by omega) (by omega)) (by omega)
  have gz : Wd (szW v) 822 1140 := Wd.le g2 (by omega) (by omega)
  obtain ⟨m, q, N, n1, n2⟩ := p46_norm
  obtain ⟨o3, g3, e3⟩ := div_norm gz.fin (wd_norm gz) N n1 n2
  have r3 := quo_rat e3
  have qb : (V (qX (szW v) p46)).natAbs ≤ 2 ^ 1400 := by
    have h : 2 ^ 53 * (V (qX (szW v) p46) * V p46 - V (szW v) * 2 ^ 1074).natAbs ≤ (V (qX (szW v) p46) * V p46).natAbs := e3
    have b := gz.abs
    have p : V p46 = 2 ^ 1120 := by decide +kernel
    have aux : ∀ {x y : Int}, 2 ^ 53 * (x - y).natAbs ≤ x.natAbs → x.natAbs ≤ 2 * y.natAbs := fun h => by omega
    have k := aux h
    rw [p] at k
    exact quo_cap7 (i := 1120) (j := 1074) (k := 1140) (l := 1400) (by omega) k b
  have cb : (V c190w).natAbs ≤ 2 ^ 884 := by decide +kernel
  obtain ⟨o4, g4, v4, -⟩ := add_ok g3 c190w_fin qb (abs_up (k := 884) (l := 1400) cb (by omega)) (k := 1401) rfl (by omega)
  refine ⟨s1, s2, o3, o4, g4, ?_⟩
  have d1 := rd_of r1
  have d2 := rd_of r2
  have d4 := rd_of (add_rel v4)
  have up : 0 < uR := by decide +kernel
  have u1 : 1000 * uR ≤ 1 := by decide +kernel
  rw [q1, q2] at d1
  rw [q3] at d2
  rw [c190w_Q] at d4
  have x0 := (mag_le (Q v.1)).2.2
  have y0 := (mag_le (Q v.2.1)).2.2
  have z0 := (mag_le (Q v.2.2)).2.2
  have m0 : mag (mag (Q v.1) + mag (Q v.2.1)) ≤ mag (Q v.1) + mag (Q v.2.1) := by
    generalize mag (Q v.1) = x at *
    generalize mag (Q v.2.1) = y at *
    unfold mag; rw [if_pos (by grind)]; exact Rat.le_refl
  have k1 := d1 _ m0
  have k2 := d2 _ Rat.le_refl
  have k4 := d4 _ Rat.le_refl
  have t1 : ∀ x : Rat, x + 0 = x := fun x => by grind
  rw [t1] at k1 k2 k4
  exact lim_aux up u1 sm0 x0 y0 z0 p46_Q k1 k2 r3 k4
end Go.Proofs.Ytpdkciennccckaa

namespace Go.Proofs.Ytpdkciennccckaa
open Go.ChangeShapes Go.WideShapes Go.ChangeAt Go.RowKit Ieee.Own

set_option maxHeartbeats 4000000 in
set_option maxRecDepth 100000 in
theorem size_run {a1 a2 a3 x1 x2 x3 y z : Nat} (A1 : ∀ w, Calls Try.prog 50 #[.float .f64 a1] w fun e w' => e = .returned (.float .f64 x1) ∧ w = w') (A2 : ∀ w, Calls Try.prog 50 #[.float .f64 a2] w fun e w' => e = .returned (.float .f64 x2) ∧ w = w') (A3 : ∀ w, Calls Try.prog 50 #[.float .f64 a3] w fun e w' => e = .returned (.float .f64 x3) ∧ w = w') (r1 : (∀ t w, (binOp .add t (.float .f64 x1) (.float .f64 x2)).run Try.prog w = .ok (.float .f64 y) w)) (r2 : (∀ t w, (binOp .add t (.float .f64 y) (.float .f64 x3)).run Try.prog w = .ok (.float .f64 z) w)) (w : World) : Calls Try.prog 46 #[.agg #[.float .f64 a1, .float .f64 a2, .float .f64 a3]] w fun e w' => e = .returned (.float .f64 z) ∧ Below w.heap.size w w' := by
  have B1 : ∀ w, Calls Try.prog 50 #[.float .f64 a1] w fun e w' => e = .returned (.float .f64 x1) ∧ Below w.heap.size w w' := fun w => (A1 w).mono fun e w' h => ⟨h.1, h.2 ▸ Below.refl _ _⟩
  have B2 : ∀ w, Calls Try.prog 50 #[.float .f64 a2] w fun e w' => e = .returned (.float .f64 x2) ∧ Below w.heap.size w w' := fun w => (A2 w).mono fun e w' h => ⟨h.1, h.2 ▸ Below.refl _ _⟩
  have B3 : ∀ w, Calls Try.prog 50 #[.float .f64 a3] w fun e w' => e = .returned (.float .f64 x3) ∧ Below w.heap.size w w' := fun w => (A3 w).mono fun e w' h => ⟨h.1, h.2 ▸ Below.refl _ _⟩
  clear A1 A2 A3
  have K0 := kw1 w 24 [a1, a2, a3]
  simp only [objW, List.map_cons, List.map_nil] at K0
  have hst := @fstore
  replace K0 := Lib.hid K0
  go_enter Try.func46, Try.ntmps46
  go_upto_region 1 with fail
  have K := K0.out
  clear K0
  generalize w.alloc _ = wr at *
  generalize hds : ([some 3, some 4, some 5, some 6, some 7, some 8, some 9, some 10, some 11, some 12, some 13, some 2] : List (Option Tmp)) = ds
  have hap : apartL ds = true := by rw [← hds]; decide
  replace hds := hds.symm
  refine wp_region_det (by kernel_rfl) ds (by rw [hds]; rfl) hap (by decide +kernel) [.pointer (some ⟨w.heap.size, 0, none⟩), .float .f64 a1, .float .f64 x1, .pointer (some ⟨w.heap.size, 1, none⟩), .float .f64 a2, .float .f64 x2, .float .f64 y, .pointer (some ⟨w.heap.size, 2, none⟩), .float .f64 a3, .float .f64 x3, .float .f64 z, .float .f64 z] rfl (fun W => Kw w [some (w.heap.size, [a1, a2, a3])] W) K.draws ?step ?fin
  case step =>
    intro L W i o ho hd hS
    have hi : i < 12 := (Array.getElem?_eq_some_iff.1 ho).1
    have : i = 0 ∨ i = 1 ∨ i = 2 ∨ i = 3 ∨ i = 4 ∨ i = 5 ∨ i = 6 ∨ i = 7 ∨ i = 8 ∨ i = 9 ∨ i = 10 ∨ i = 11 := by omega
    rcases this with rfl | rfl | rfl | rfl | rfl | rfl | rfl | rfl | rfl | rfl | rfl | rfl
    · -- 0
      obtain rfl := Option.some.inj ho
      refine .value rfl W ?_ hS
      generalize hA : (puts ds L _).eval = ρ
      have hc : ∀ v, ρ (.const v) = v := fun v => by rw [← hA]; rfl
      have hg : ∀ g, ρ (.func g) = .func (.func g) #[] #[] := fun v => by rw [← hA]; rfl
      have h0 : ρ (.tmp 1) = .pointer (some ⟨w.heap.size, 0, none⟩) := by rw [← hA]; exact (puts_old ds L _ (by rw [hds]; decide)).trans rfl
      clear hA hd ho
      unfold execOp
      go_simp
    · -- 1
      obtain rfl := Option.some.inj ho
      have b := hS.at_ 0 rfl
      have c0 := b.at_ 0 _ rfl
      clear b
      refine .value rfl W ?_ hS
      generalize hA : (puts ds L _).eval = ρ
      have hc : ∀ v, ρ (.const v) = v := fun v => by rw [← hA]; rfl
      have hg : ∀ g, ρ (.func g) = .func (.func g) #[] #[] := fun v => by rw [← hA]; rfl
      have h0 : ρ (.tmp 3) = .pointer (some ⟨w.heap.size, 0, none⟩) := by rw [← hA]; exact puts_get 0 ds L _ hap (by rw [hds]; rfl) (hd 0 (by decide +kernel)) (show 3 < 14 by decide)
      clear hA hd ho
      unfold execOp
      go_simp
    · -- 2
      obtain rfl := Option.some.inj ho
      refine .call rfl 50 #[.float .f64 a1] ?_ ((B1 W).mono fun e w' h => ⟨h.1, hS.on h.2⟩)
      generalize hA : (puts ds L _).eval = ρ
      have hc : ∀ v, ρ (.const v) = v := fun v => by rw [← hA]; rfl
      have hg : ∀ g, ρ (.func g) = .func (.func g) #[] #[] := fun v => by rw [← hA]; rfl
      have h0 : ρ (.tmp 4) = .float .f64 a1 := by rw [← hA]; exact puts_get 1 ds L _ hap (by rw [hds]; rfl) (hd 1 (by decide +kernel)) (show 4 < 14 by decide)
      have hf := Try.func50
      unfold execOp
      go_simp
    · -- 3
      obtain rfl := Option.some.inj ho
      refine .value rfl W ?_ hS
      generalize hA : (puts ds L _).eval = ρ
      have hc : ∀ v, ρ (.const v) = v := fun v => by rw [← hA]; rfl
      have hg : ∀ g, ρ (.func g) = .func (.func g) #[] #[] := fun v => by rw [← hA]; rfl
      have h0 : ρ (.tmp 1) = .pointer (some ⟨w.heap.size, 0, none⟩) := by rw [← hA]; exact (puts_old ds L _ (by rw [hds]; decide)).trans rfl
      clear hA hd ho
      unfold execOp
      go_simp
    · -- 4
      obtain rfl := Option.some.inj ho
      have b := hS.at_ 0 rfl
      have c1 := b.at_ 1 _ rfl
      clear b
      refine .value rfl W ?_ hS
      generalize hA : (puts ds L _).eval = ρ
      have hc : ∀ v, ρ (.const v) = v := fun v => by rw [← hA]; rfl
      have hg : ∀ g, ρ (.func g) = .func (.func g) #[] #[] := fun v => by rw [← hA]; rfl
      have h0 : ρ (.tmp 6) = .pointer (some ⟨w.heap.size, 1, none⟩) := by rw [← hA]; exact puts_get 3 ds L _ hap (by rw [hds]; rfl) (hd 3 (by decide +kernel)) (show 6 < 14 by decide)
      clear hA hd ho
      unfold execOp
      go_simp
    · -- 5
      obtain rfl := Option.some.inj ho
      refine .call rfl 50 #[.float .f64 a2] ?_ ((B2 W).mono fun e w' h => ⟨h.1, hS.on h.2⟩)
      generalize hA : (puts ds L _).eval = ρ
      have hc : ∀ v, ρ (.const v) = v := fun v => by rw [← hA]; rfl
      have hg : ∀ g, ρ (.func g) = .func (.func g) #[] #[] := fun v => by rw [← hA]; rfl
      have h0 : ρ (.tmp 7) = .float .f64 a2 := by rw [← hA]; exact puts_get 4 ds L _ hap (by rw [hds]; rfl) (hd 4 (by decide +kernel)) (show 7 < 14 by decide)
      have hf := Try.func50
      unfold execOp
      go_simp
    · -- 6
      obtain rfl := Option.some.inj ho
      refine .value rfl W ?_ hS
      generalize hA : (puts ds L _).eval = ρ
      have hc : ∀ v, ρ (.const v) = v := fun v => by rw [← hA]; rfl
      have hg : ∀ g, ρ (.func g) = .func (.func g) #[] #[] := fun v => by rw [← hA]; rfl
      have h0 : ρ (.tmp 5) = .float .f64 x1 := by rw [← hA]; exact puts_get 2 ds L _ hap (by rw [hds]; rfl) (hd 2 (by decide +kernel)) (show 5 < 14 by decide)
      have h1 : ρ (.tmp 8) = .float .f64 x2 := by rw [← hA]; exact puts_get 5 ds L _ hap (by rw [hds]; rfl) (hd 5 (by decide +kernel)) (show 8 < 14 by decide)
      clear hA hd ho
      unfold execOp
      go_simp
    · -- 7
      obtain rfl := Option.some.inj ho
      refine .value rfl W ?_ hS
      generalize hA : (puts ds L _).eval = ρ
      have hc : ∀ v, ρ (.const v) = v := fun v => by rw [← hA]; rfl
      have hg : ∀ g, ρ (.func g) = .func (.func g) #[] #[] := fun v => by rw [← hA]; rfl
      have h0 : ρ (.tmp 1) = .pointer (some ⟨w.heap.size, 0, none⟩) := by rw [← hA]; exact (puts_old ds L _ (by rw [hds]; decide)).trans rfl
      clear hA hd ho
      unfold execOp
      go_simp
    · -- 8
      obtain rfl := Option.some.inj ho
      have b := hS.at_ 0 rfl
      have c2 := b.at_ 2 _ rfl
      clear b
      refine .value rfl W ?_ hS
      generalize hA : (puts ds L _).eval = ρ
      have hc : ∀ v, ρ (.const v) = v := fun v => by rw [← hA]; rfl
      have hg : ∀ g, ρ (.func g) = .func (.func g) #[] #[] := fun v => by rw [← hA]; rfl
      have h0 : ρ (.tmp 10) = .pointer (some ⟨w.heap.size, 2, none⟩) := by rw [← hA]; exact puts_get 7 ds L _ hap (by rw [hds]; rfl) (hd 7 (by decide +kernel)) (show 10 < 14 by decide)
      clear hA hd ho
      unfold execOp
      go_simp
    · -- 9
      obtain rfl := Option.some.inj ho
      refine .call rfl 50 #[.float .f64 a3] ?_ ((B3 W).mono fun e w' h => ⟨h.1, hS.on h.2⟩)
      generalize hA : (puts ds L _).eval = ρ
      have hc : ∀ v, ρ (.const v) = v := fun v => by rw [← hA]; rfl
      have hg : ∀ g, ρ (.func g) = .func (.func g) #[] #[] := fun v => by rw [← hA]; rfl
      have h0 : ρ (.tmp 11) = .float .f64 a3 := by rw [← hA]; exact puts_get 8 ds L _ hap (by rw [hds]; rfl) (hd 8 (by decide +kernel)) (show 11 < 14 by decide)
      have hf := Try.func50
      unfold execOp
      go_simp
    · -- 10
      obtain rfl := Option.some.inj ho
      refine .value rfl W ?_ hS
      generalize hA : (puts ds L _).eval = ρ
      have hc : ∀ v, ρ (.const v) = v := fun v => by rw [← hA]; rfl
      have hg : ∀ g, ρ (.func g) = .func (.func g) #[] #[] := fun v => by rw [← hA]; rfl
      have h0 : ρ (.tmp 9) = .float .f64 y := by rw [← hA]; exact puts_get 6 ds L _ hap (by rw [hds]; rfl) (hd 6 (by decide +kernel)) (show 9 < 14 by decide)
      have h1 : ρ (.tmp 12) = .float .f64 x3 := by rw [← hA]; exact puts_get 9 ds L _ hap (by rw [hds]; rfl) (hd 9 (by decide +kernel)) (show 12 < 14 by decide)
      clear hA hd ho
      unfold execOp
      go_simp
    · -- 11
      obtain rfl := Option.some.inj ho
      refine .value rfl W ?_ hS
      generalize hA : (puts ds L _).eval = ρ
      have hc : ∀ v, ρ (.const v) = v := fun v => by rw [← hA]; rfl
      have hg : ∀ g, ρ (.func g) = .func (.func g) #[] #[] := fun v => by rw [← hA]; rfl
      have h0 : ρ (.tmp 13) = .float .f64 z := by rw [← hA]; exact puts_get 10 ds L _ hap (by rw [hds]; rfl) (hd 10 (by decide +kernel)) (show 13 < 14 by decide)
      clear hA hd ho
      unfold execOp
      go_simp
  case fin =>
    intro W0 K
    rw [hds]
    clear hds hap ds B1 B2 B3
    simp only [List.map_cons, List.map_nil, puts, Act.put, List.setIfInBounds_toArray]
    replace K := Lib.hid K
    go_wp2_with fail
    go_ret
    exact ⟨rfl, K.out.old⟩
end Go.Proofs.Ytpdkciennccckaa
