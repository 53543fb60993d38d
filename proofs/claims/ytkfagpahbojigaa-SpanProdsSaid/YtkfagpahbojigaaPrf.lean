/- Proved here: products of fit numbers as exact ones in units of the long sum; products, squares, quotients and roots of numbers within lie within what the operations tell. -/
import Derived.Test.YtkfagpahbojigaaAbf
namespace Go.Proofs.Ytkfagpahbojigaa
open Go.ChangeShapes Go.WideShapes Go.ChangeAt Go.RowKit Ieee.Own

theorem z_bound {Z P : Int} {a c : Nat} (h : P = Z * 2 ^ c) (hP : P.natAbs ≤ 2 ^ (a + c)) : Z.natAbs ≤ 2 ^ a := by
  have e : P.natAbs = Z.natAbs * 2 ^ c := by rw [h]; exact scale_abs _ _
  rw [e, Nat.pow_add] at hP
  exact Nat.le_of_mul_le_mul_right hP (Nat.two_pow_pos c)
theorem mul_abs_le {x y : Int} {a b n : Nat} (hx : x.natAbs ≤ 2 ^ a) (hy : y.natAbs ≤ 2 ^ b) (hn : a + b = n) : (x * y).natAbs ≤ 2 ^ n := by
  subst hn
  rw [Int.natAbs_mul, Nat.pow_add]
  exact Nat.mul_le_mul hx hy
theorem prod_bound {x y Z : Int} {a c : Nat} (h : x * y = Z * 2 ^ c) (hx : x.natAbs ≤ 2 ^ a) (hy : y.natAbs ≤ 2 ^ a) (h1 : c ≤ a + a) (h2 : a + a ≤ 1500 + c) : ∃ K, K ≤ 1500 ∧ Z.natAbs ≤ 2 ^ K :=
  ⟨a + a - c, by omega, z_bound h (mul_abs_le hx hy (by omega))⟩
theorem fit_prod {a b : Nat} (ha : a < 18446744073709551616) (hb : b < 18446744073709551616) (h1 : fitB a = true) (h2 : fitB b = true) : ∃ Z : Int, prodN a b = Z * 2 ^ 50 ∧ V a * V b = Z * 2 ^ 1124 ∧ (∃ K, K ≤ 1500 ∧ Z.natAbs ≤ 2 ^ K) ∧
    ∀ k z ws w, Holds k w z ws → Calls Try.prog 30 #[.pointer (some ⟨k, 0, none⟩), .float .f64 a, .float .f64 b] w (PutPost k w (z + Z)) := by
  obtain ⟨p, e, N, Z, g, R, ⟨n1, n2, n3⟩, -, -⟩ := prod_fit a b ha hb h1 h2
  refine ⟨Z, by rw [prodN_of R]; exact n1, n2, prod_bound n2 (fit_abs (k := 1275) ha h1 (Nat.le_refl _)) (fit_abs (k := 1275) hb h2 (Nat.le_refl _)) (by omega) (by omega), fun k z ws w H => prod_any k a b g Z z ws w (fit_fin ha h1) (fit_fin hb h2) n2 n3 H⟩
section
variable {sl su x : Nat} (S : Abt sl su x) (hx : x < 18446744073709551616) (fx : fitB x = true)
include S hx fx
theorem mul_in {tl tu y u v : Nat} {k : Int} (T : Abt tl tu y) (hy : y < 18446744073709551616) (fy : fitB y = true)
    (h : OpAll (errSS sl su tl tu) [prodC sl tl, prodC sl tu, prodC su tl, prodC su tu] [prodC sl tl, prodC sl tu, prodC su tl, prodC su tu] (.returned (spanE u v k))) (hk : k = 0) : (fitB u = true ∧ fitB v = true) ∧ V u ≤ prodN x y ∧ prodN x y ≤ V v := by
  obtain ⟨f1, f2, -⟩ := S.fits
  obtain ⟨f3, f4, -⟩ := T.fits
  obtain ⟨f, lo, hi, d, up, e1, e2⟩ := h.told hk (fun _ lo hi d u => by
    have p : 0 ≤ prodN sl tl - V lo := (four_mem.1 d.le).1
    have q : prodN sl tl - V hi ≤ 0 := (four_mem.1 u.ge).1
    omega)
  have p := four_mem.1 d.le
  have q := four_mem.1 up.ge
  simp only [prod_dn_iff] at p
  rw [prod_up_iff S.ll T.ll f1 f3, prod_up_iff S.ll T.lu f1 f4, prod_up_iff S.lu T.ll f2 f3, prod_up_iff S.lu T.lu f2 f4] at q
  obtain ⟨p1, p2, p3, p4⟩ := p
  obtain ⟨q1, q2, q3, q4⟩ := q
  have a := (prod_dn_iff x y _).2 (corner_le S.lo S.hi T.lo T.hi p1 p2 p3 p4)
  have b := (prod_up_iff hx hy fx fy _).2 (corner_ge S.lo S.hi T.lo T.hi q1 q2 q3 q4)
  rw [le_prodN_iff] at a
  rw [prodN_le_iff] at b
  exact ⟨f, by omega, by omega⟩
omit hx fx in
theorem square_in {u v : Nat} {k : Int} (h : OpAll (errS sl su) (sqLo sl su) (sqHi sl su) (.returned (spanE u v k))) (hk : k = 0) : (fitB u = true ∧ fitB v = true) ∧ V u ≤ prodN x x ∧ prodN x x ≤ V v := by
  obtain ⟨f1, f2, le⟩ := S.fits
  obtain ⟨f, lo, hi, d, up, e1, e2⟩ := h.told hk (fun _ => sq_le_of le)
  have a := sq_dn (a0 := x) (b0 := x) (Int.le_refl _) S.lo S.hi (V lo) d.le
  have b := sq_up (a0 := x) (b0 := x) (Int.le_refl _) S.lo S.hi (V hi) up.ge
  have q1 : sqLo x x = [prodC x x] := by
    unfold sqLo
    by_cases c : 0 ≤ V x
    · rw [if_pos c]
    · rw [if_neg c, if_pos (by omega)]
  have q2 : sqHi x x = [prodC x x] := by
    unfold sqHi
    by_cases c : 0 ≤ V x
    · rw [if_pos c]
    · rw [if_neg c, if_pos (by omega)]
  rw [q1, one_mem, le_prodN_iff] at a
  rw [q2, one_mem, prodN_le_iff] at b
  exact ⟨f, by omega, by omega⟩
end
end Go.Proofs.Ytkfagpahbojigaa
