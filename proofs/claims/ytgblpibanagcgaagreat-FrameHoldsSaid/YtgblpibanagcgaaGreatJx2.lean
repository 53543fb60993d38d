/- Proved here: what the texts Vbn, Vbo prove, one behind the other. -/
import Derived.Test.YtgblpibanagcgaaGreatJx1

namespace Go.Proofs.YtgblpibanagcgaaGreat
open Go.ChangeShapes Go.WideShapes Go.ChangeAt Go.RowKit Ieee.Own Pol

theorem div_norm {a n m q : Nat} (fa : FinW a) (hN : V a = 0 ∨ ∃ s m p, Norm a s m p ∧ 760 ≤ p ∧ p ≤ 1222) (N : Norm n false m q) (h1 : 760 ≤ q) (h2 : q ≤ 1100) :
    Ieee.double.div a n = some (qX a n) ∧ FinW (qX a n) ∧ 2 ^ 53 * (V (qX a n) * V n - V a * 2 ^ 1074).natAbs ≤ (V (qX a n) * V n).natAbs := by
  have vn := N.val
  rw [sv_pos] at vn
  rcases hN with z | ⟨s, m', p, N', p1, p2⟩
  · have nz : V n ≠ 0 := by
      rw [vn]
      have := N.lo
      exact Int.ne_of_gt (Int.mul_pos (by omega) (Int.pow_pos (by decide)))
    obtain ⟨r, q1, q2, q3⟩ := div_zero fa z N.fin nz
    have er : qX a n = r := by unfold qX; rw [q1]; rfl
    rw [er]
    refine ⟨q1, q2, ?_⟩
    rw [q3, z, Int.zero_mul, Int.zero_mul]
    decide
  · obtain ⟨r, Q, u, q1, q2, q3, u1, u2, Q1, Q2, i1, i2⟩ := div_spec N' N (by omega) (by omega)
    have er : qX a n = r := by unfold qX; rw [q1]; rfl
    rw [er]
    refine ⟨q1, q2, ?_⟩
    have key : 2 ^ 53 * (((Q * m : Nat) : Int) - ((m' * 2 ^ u : Nat) : Int)).natAbs ≤ Q * m := by
      have k1 : 2 * (((Q * m : Nat) : Int) - ((m' * 2 ^ u : Nat) : Int)).natAbs ≤ m := by
        generalize Q * m = X at *
        generalize m' * 2 ^ u = Y at *
        omega
      have k2 : 2 ^ 52 * m ≤ Q * m := Nat.mul_le_mul_right _ Q1
      generalize Q * m = X at *
      generalize m' * 2 ^ u = Y at *
      omega
    have x0 : (s ^^ false) = s := by cases s <;> rfl
    rw [x0] at q3
    have e1 : 1074 + p - q - u + q = 1074 + p - u := by omega
    have va := N'.val
    have sg : ∀ (s : Bool) (A B : Nat), sv s A B = (if s then -1 else 1) * ((A : Int) * 2 ^ B) := fun s A B => by
      unfold sv; cases s <;> simp
    rw [sg] at q3 va
    have x1 : V r * V n = (if s then -1 else 1) * ((Q * m : Nat) : Int) * 2 ^ (1074 + p - u) := by
      rw [q3, vn, Int.mul_assoc, prod_merge _ _ e1, Int.natCast_mul]
      generalize (2 : Int) ^ (1074 + p - u) = z
      ac_rfl
    have x2 : V a * 2 ^ 1074 = (if s then -1 else 1) * ((m' * 2 ^ u : Nat) : Int) * 2 ^ (1074 + p - u) := by
      rw [va, Int.natCast_mul, Int.natCast_pow, Int.mul_assoc, pow_merge (m' : Int) (p := p) (k := 1074) (j := 1074 + p - u) (u := u) (by omega)]
      rw [show ((2 : Nat) : Int) = 2 from rfl]
      generalize (2 : Int) ^ (1074 + p - u) = z
      ac_rfl
    refine scale_nat x1 x2 ?_
    rw [← Int.mul_sub, Int.natAbs_mul, Int.natAbs_mul]
    have o : (if s = true then (-1 : Int) else 1).natAbs = 1 := by cases s <;> rfl
    rw [o, Nat.one_mul, Nat.one_mul, Int.natAbs_natCast]
    exact key
def absW (x : Nat) : Nat := x % 9223372036854775808
theorem abs_wd {x : Nat} (W : Wd x 822 1134) : Wd (absW x) 822 1134 ∧ Q (absW x) = mag (Q x) := by
  have f := W.fin
  have fm : FinW (absW x) := ⟨by unfold absW; omega, by have := f.2; unfold absW; omega⟩
  have v : V (absW x) = ((V x).natAbs : Int) := by
    rw [V_abs' x f]
    unfold V absW
    rw [if_pos (by omega)]
  have q : Q (absW x) = mag (Q x) := by
    rcases Int.le_total 0 (V x) with h | h
    · have e : V (absW x) = V x := by omega
      have e' : Q (absW x) = Q x := Q_congr e
      have n : 0 ≤ Q x := by
        have := (Q_le (a := 0) (b := x)).2 (by rw [V_zero]; exact h)
        rwa [Q0] at this
      rw [e']; unfold mag; rw [if_pos n]
    · have e : V (absW x) = -V x := by omega
      have e' : Q (absW x) = -Q x := Q_neg e
      have n : Q x ≤ 0 := by
        have := (Q_le (a := x) (b := 0)).2 (by rw [V_zero]; exact h)
        rwa [Q0] at this
      rw [e']; unfold mag; split <;> grind
  refine ⟨⟨fm, ?_, ?_⟩, q⟩
  · rw [v]
    rcases Int.le_total 0 (V x) with h | h
    · rw [show ((V x).natAbs : Int) = V x by omega]; exact W.dvd
    · rw [show ((V x).natAbs : Int) = -V x by omega]; exact Int.dvd_neg.2 W.dvd
  · rw [v, Int.natAbs_natCast]; exact W.abs
def szW (v : V3) : Nat := aX (aX (absW v.1) (absW v.2.1)) (absW v.2.2)
theorem quo_cap {q y i j k l : Nat} (e : j + k + 1 ≤ i + l) (h : q * 2 ^ i ≤ 2 * (y * 2 ^ j)) (hy : y ≤ 2 ^ k) : q ≤ 2 ^ l := by
  refine Nat.le_of_mul_le_mul_right ?_ (Nat.two_pow_pos i)
  refine Nat.le_trans h (Nat.le_trans (Nat.mul_le_mul_left 2 (Nat.mul_le_mul_right _ hy)) ?_)
  rw [← Nat.pow_add, ← Nat.pow_add]
  have : 2 * 2 ^ (k + j) = 2 ^ (k + j + 1) := by rw [Nat.pow_succ]; omega
  rw [this]
  exact two_le (by omega)
end Go.Proofs.YtgblpibanagcgaaGreat

namespace Go.Proofs.YtgblpibanagcgaaGreat
open Go.ChangeShapes Go.WideShapes Go.ChangeAt Go.RowKit Ieee.Own

set_option maxHeartbeats 4000000 in
set_option maxRecDepth 100000 in
theorem size_run {a1 a2 a3 x1 x2 x3 y z : Nat} (A1 : ∀ w, Calls Tryz.prog 45 #[.float .f64 a1] w fun e w' => e = .returned (.float .f64 x1) ∧ w = w') (A2 : ∀ w, Calls Tryz.prog 45 #[.float .f64 a2] w fun e w' => e = .returned (.float .f64 x2) ∧ w = w') (A3 : ∀ w, Calls Tryz.prog 45 #[.float .f64 a3] w fun e w' => e = .returned (.float .f64 x3) ∧ w = w') (r1 : (∀ t w, (binOp .add t (.float .f64 x1) (.float .f64 x2)).run Tryz.prog w = .ok (.float .f64 y) w)) (r2 : (∀ t w, (binOp .add t (.float .f64 y) (.float .f64 x3)).run Tryz.prog w = .ok (.float .f64 z) w)) (w : World) : Calls Tryz.prog 25 #[.agg #[.float .f64 a1, .float .f64 a2, .float .f64 a3]] w fun e w' => e = .returned (.float .f64 z) ∧ Below w.heap.size w w' := by
  have B1 : ∀ w, Calls Tryz.prog 45 #[.float .f64 a1] w fun e w' => e = .returned (.float .f64 x1) ∧ Below w.heap.size w w' := fun w => (A1 w).mono fun e w' h => ⟨h.1, h.2 ▸ Below.refl _ _⟩
  have B2 : ∀ w, Calls Tryz.prog 45 #[.float .f64 a2] w fun e w' => e = .returned (.float .f64 x2) ∧ Below w.heap.size w w' := fun w => (A2 w).mono fun e w' h => ⟨h.1, h.2 ▸ Below.refl _ _⟩
  have B3 : ∀ w, Calls Tryz.prog 45 #[.float .f64 a3] w fun e w' => e = .returned (.float .f64 x3) ∧ Below w.heap.size w w' := fun w => (A3 w).mono fun e w' h => ⟨h.1, h.2 ▸ Below.refl _ _⟩
  clear A1 A2 A3
  have K0 := kw1 w 25 [a1, a2, a3]
  simp only [objW, List.map_cons, List.map_nil] at K0
  have hst := @fstore
  replace K0 := Lib.hid K0
  go_enter Tryz.func25, Tryz.ntmps25
  go_upto_region 1 with fail
  have K := K0.out
  clear K0
  generalize w.alloc _ = wr at *
  generalize hds : ([some 3, some 4, some 5, some 6, some 7, some 8, some 9, some 10, some 11, some 12, some 13, some 2] : List (Option Tmp)) = ds
  have hap : apartL ds = true := by rw [← hds]; decide
  replace hds := hds.symm
  refine wp_region_det (by kernel_rfl) ds (by rw [hds]; rfl) hap (by decide +kernel) [.pointer (some ⟨w.heap.size, 0, none⟩), .float .f64 a1, .float .f64 x1, .pointer (some ⟨w.heap.size, 1, none⟩), .float .f64 a2, .float .f64 x2, .float .f64 y, .pointer (some ⟨w.heap.size, 2, none⟩), .float .f64 a3, .float .f64 x3, .float .f64 z, .float .f64 z] rfl (fun W => Kw w [some (w.heap.size, [a1, a2, a3])] W) K.draws ?step ?fin
  case step =>
    intro L W i o ho hd hS
    have hi : i < 12 := (Array.getElem?_eq_some_iff.1 ho).1
    have : i = 0 ∨ i = 1 ∨ i = 2 ∨ i = 3 ∨ i = 4 ∨ i = 5 ∨ i = 6 ∨ i = 7 ∨ i = 8 ∨ i = 9 ∨ i = 10 ∨ i = 11 := by omega
    rcases this with rfl | rfl | rfl | rfl | rfl | rfl | rfl | rfl | rfl | rfl | rfl | rfl
    · -- 0
      obtain rfl := Option.some.inj ho
      refine .value rfl W ?_ hS
      generalize hA : (puts ds L _).eval = ρ
      have hc : ∀ v, ρ (.const v) = v := fun v => by rw [← hA]; rfl
      have hg : ∀ g, ρ (.func g) = .func (.func g) #[] #[] := fun v => by rw [← hA]; rfl
      have h0 : ρ (.tmp 1) = .pointer (some ⟨w.heap.size, 0, none⟩) := by rw [← hA]; exact (puts_old ds L _ (by rw [hds]; decide)).trans rfl
      clear hA hd ho
      unfold execOp
      go_simp
    · -- 1
      obtain rfl := Option.some.inj ho
      have b := hS.at_ 0 rfl
      have c0 := b.at_ 0 _ rfl
      clear b
      refine .value rfl W ?_ hS
      generalize hA : (puts ds L _).eval = ρ
      have hc : ∀ v, ρ (.const v) = v := fun v => by rw [← hA]; rfl
      have hg : ∀ g, ρ (.func g) = .func (.func g) #[] #[] := fun v => by rw [← hA]; rfl
      have h0 : ρ (.tmp 3) = .pointer (some ⟨w.heap.size, 0, none⟩) := by rw [← hA]; exact puts_get 0 ds L _ hap (by rw [hds]; rfl) (hd 0 (by decide +kernel)) (show 3 < 14 by decide)
      clear hA hd ho
      unfold execOp
      go_simp
    · -- 2
      obtain rfl := Option.some.inj ho
      refine .call rfl 45 #[.float .f64 a1] ?_ ((B1 W).mono fun e w' h => ⟨h.1, hS.on h.2⟩)
      generalize hA : (puts ds L _).eval = ρ
      have hc : ∀ v, ρ (.const v) = v := fun v => by rw [← hA]; rfl
      have hg : ∀ g, ρ (.func g) = .func (.func g) #[] #[] := fun v => by rw [← hA]; rfl
      have h0 : ρ (.tmp 4) = .float .f64 a1 := by rw [← hA]; exact puts_get 1 ds L _ hap (by rw [hds]; rfl) (hd 1 (by decide +kernel)) (show 4 < 14 by decide)
      have hf := Tryz.func45
      unfold execOp
      go_simp
    · -- 3
      obtain rfl := Option.some.inj ho
      refine .value rfl W ?_ hS
      generalize hA : (puts ds L _).eval = ρ
      have hc : ∀ v, ρ (.const v) = v := fun v => by rw [← hA]; rfl
      have hg : ∀ g, ρ (.func g) = .func (.func g) #[] #[] := fun v => by rw [← hA]; rfl
      have h0 : ρ (.tmp 1) = .pointer (some ⟨w.heap.size, 0, none⟩) := by rw [← hA]; exact (puts_old ds L _ (by rw [hds]; decide)).trans rfl
      clear hA hd ho
      unfold execOp
      go_simp
    · -- 4
      obtain rfl := Option.some.inj ho
      have b := hS.at_ 0 rfl
      have c1 := b.at_ 1 _ rfl
      clear b
      refine .value rfl W ?_ hS
      generalize hA : (puts ds L _).eval = ρ
      have hc : ∀ v, ρ (.const v) = v := fun v => by rw [← hA]; rfl
      have hg : ∀ g, ρ (.func g) = .func (.func g) #[] #[] := fun v => by rw [← hA]; rfl
      have h0 : ρ (.tmp 6) = .pointer (some ⟨w.heap.size, 1, none⟩) := by rw [← hA]; exact puts_get 3 ds L _ hap (by rw [hds]; rfl) (hd 3 (by decide +kernel)) (show 6 < 14 by decide)
      clear hA hd ho
      unfold execOp
      go_simp
    · -- 5
      obtain rfl := Option.some.inj ho
      refine .call rfl 45 #[.float .f64 a2] ?_ ((B2 W).mono fun e w' h => ⟨h.1, hS.on h.2⟩)
      generalize hA : (puts ds L _).eval = ρ
      have hc : ∀ v, ρ (.const v) = v := fun v => by rw [← hA]; rfl
      have hg : ∀ g, ρ (.func g) = .func (.func g) #[] #[] := fun v => by rw [← hA]; rfl
      have h0 : ρ (.tmp 7) = .float .f64 a2 := by rw [← hA]; exact puts_get 4 ds L _ hap (by rw [hds]; rfl) (hd 4 (by decide +kernel)) (show 7 < 14 by decide)
      have hf := Tryz.func45
      unfold execOp
      go_simp
    · -- 6
      obtain rfl := Option.some.inj ho
      refine .value rfl W ?_ hS
      generalize hA : (puts ds L _).eval = ρ
      have hc : ∀ v, ρ (.const v) = v := fun v => by rw [← hA]; rfl
      have hg : ∀ g, ρ (.func g) = .func (.func g) #[] #[] := fun v => by rw [← hA]; rfl
      have h0 : ρ (.tmp 5) = .float .f64 x1 := by rw [← hA]; exact puts_get 2 ds L _ hap (by rw [hds]; rfl) (hd 2 (by decide +kernel)) (show 5 < 14 by decide)
      have h1 : ρ (.tmp 8) = .float .f64 x2 := by rw [← hA]; exact puts_get 5 ds L _ hap (by rw [hds]; rfl) (hd 5 (by decide +kernel)) (show 8 < 14 by decide)
      clear hA hd ho
      unfold execOp
      go_simp
    · -- 7
      obtain rfl := Option.some.inj ho
      refine .value rfl W ?_ hS
      generalize hA : (puts ds L _).eval = ρ
      have hc : ∀ v, ρ (.const v) = v := fun v => by rw [← hA]; rfl
      have hg : ∀ g, ρ (.func g) = .func (.func g) #[] #[] := fun v => by rw [← hA]; rfl
      have h0 : ρ (.tmp 1) = .pointer (some ⟨w.heap.size, 0, none⟩) := by rw [← hA]; exact (puts_old ds L _ (by rw [hds]; decide)).trans rfl
      clear hA hd ho
      unfold execOp
      go_simp
    · -- 8
      obtain rfl := Option.some.inj ho
      have b := hS.at_ 0 rfl
      have c2 := b.at_ 2 _ rfl
      clear b
      refine .value rfl W ?_ hS
      generalize hA : (puts ds L _).eval = ρ
      have hc : ∀ v, ρ (.const v) = v := fun v => by rw [← hA]; rfl
      have hg : ∀ g, ρ (.func g) = .func (.func g) #[] #[] := fun v => by rw [← hA]; rfl
      have h0 : ρ (.tmp 10) = .pointer (some ⟨w.heap.size, 2, none⟩) := by rw [← hA]; exact puts_get 7 ds L _ hap (by rw [hds]; rfl) (hd 7 (by decide +kernel)) (show 10 < 14 by decide)
      clear hA hd ho
      unfold execOp
      go_simp
    · -- 9
      obtain rfl := Option.some.inj ho
      refine .call rfl 45 #[.float .f64 a3] ?_ ((B3 W).mono fun e w' h => ⟨h.1, hS.on h.2⟩)
      generalize hA : (puts ds L _).eval = ρ
      have hc : ∀ v, ρ (.const v) = v := fun v => by rw [← hA]; rfl
      have hg : ∀ g, ρ (.func g) = .func (.func g) #[] #[] := fun v => by rw [← hA]; rfl
      have h0 : ρ (.tmp 11) = .float .f64 a3 := by rw [← hA]; exact puts_get 8 ds L _ hap (by rw [hds]; rfl) (hd 8 (by decide +kernel)) (show 11 < 14 by decide)
      have hf := Tryz.func45
      unfold execOp
      go_simp
    · -- 10
      obtain rfl := Option.some.inj ho
      refine .value rfl W ?_ hS
      generalize hA : (puts ds L _).eval = ρ
      have hc : ∀ v, ρ (.const v) = v := fun v => by rw [← hA]; rfl
      have hg : ∀ g, ρ (.func g) = .func (.func g) #[] #[] := fun v => by rw [← hA]; rfl
      have h0 : ρ (.tmp 9) = .float .f64 y := by rw [← hA]; exact puts_get 6 ds L _ hap (by rw [hds]; rfl) (hd 6 (by decide +kernel)) (show 9 < 14 by decide)
      have h1 : ρ (.tmp 12) = .float .f64 x3 := by rw [← hA]; exact puts_get 9 ds L _ hap (by rw [hds]; rfl) (hd 9 (by decide +kernel)) (show 12 < 14 by decide)
      clear hA hd ho
      unfold execOp
      go_simp
    · -- 11
      obtain rfl := Option.some.inj ho
      refine .value rfl W ?_ hS
      generalize hA : (puts ds L _).eval = ρ
      have hc : ∀ v, ρ (.const v) = v := fun v => by rw [← hA]; rfl
      have hg : ∀ g, ρ (.func g) = .func (.func g) #[] #[] := fun v => by rw [← hA]; rfl
      have h0 : ρ (.tmp 13) = .float .f64 z := by rw [← hA]; exact puts_get 10 ds L _ hap (by rw [hds]; rfl) (hd 10 (by decide +kernel)) (show 13 < 14 by decide)
      clear hA hd ho
      unfold execOp
      go_simp
  case fin =>
    intro W0 K
    rw [hds]
    clear hds hap ds B1 B2 B3
    simp only [List.map_cons, List.map_nil, puts, Act.put, List.setIfInBounds_toArray]
    replace K := Lib.hid K
    go_wp2_with fail
    go_ret
    exact ⟨rfl, K.out.old⟩
end Go.Proofs.YtgblpibanagcgaaGreat
