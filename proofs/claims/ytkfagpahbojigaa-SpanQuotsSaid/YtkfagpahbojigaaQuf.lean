/- Proved here: quotients and roots of numbers within lie within what the operations tell, in units of the long sum. -/
import Derived.Test.YtkfagpahbojigaaPrf
namespace Go.Proofs.Ytkfagpahbojigaa
open Go.ChangeShapes Go.WideShapes Go.ChangeAt Go.RowKit Ieee.Own

theorem z_sign {Z X P v : Int} (h1 : P = Z * 2 ^ 1124) (h2 : -v = X * 2 ^ 50) : (P ≤ v * MM → 0 + Z + X ≤ 0) ∧ (v * MM ≤ P → 0 ≤ 0 + Z + X) := by
  have e : (2 : Int) ^ 1124 = 2 ^ 50 * MM := by unfold MM; rw [← Int.pow_add]
  have hp := MM_pos
  rw [e] at h1
  have e2 : v * MM = -(X * (2 ^ 50 * MM)) := by rw [← Int.mul_assoc, ← h2, Int.neg_mul, Int.neg_neg]
  have hq : 0 < 2 ^ 50 * MM := Int.mul_pos (by decide) hp
  rw [e2, h1, Int.zero_add]
  clear e e2 h1 h2
  generalize 2 ^ 50 * MM = q at *
  have hs : Z * q + X * q = (Z + X) * q := (Int.add_mul _ _ _).symm
  constructor
  · intro h
    refine Int.not_lt.1 fun hlt => ?_
    have := Int.mul_pos hlt hq
    omega
  · intro h
    refine Int.not_lt.1 fun hlt => ?_
    have := Int.mul_neg_of_neg_of_pos hlt hq
    omega
theorem sign_le {z : Int} (h : z ≤ 0) : decide (signI z > 0) = false ∧ decide (signI z ≤ 0) = true := by
  unfold signI
  constructor
  · refine decide_eq_false ?_; split <;> (try split) <;> omega
  · refine decide_eq_true ?_; split <;> (try split) <;> omega
theorem sign_ge {z : Int} (h : 0 ≤ z) : decide (signI z < 0) = false ∧ decide (signI z ≥ 0) = true := by
  unfold signI
  constructor
  · refine decide_eq_false ?_; split <;> (try split) <;> omega
  · refine decide_eq_true ?_; split <;> (try split) <;> omega
section
variable {sl su x : Nat} (S : Abt sl su x)
include S
theorem div_in {tl tu y u v : Nat} {k : Int} (T : Abt tl tu y)
    (h : OpAll (errD sl su tl tu) [quotC sl tl, quotC sl tu, quotC su tl, quotC su tu] [quotC sl tl, quotC sl tu, quotC su tl, quotC su tu] (.returned (spanE u v k))) (hk : k = 0) :
    (fitB u = true ∧ fitB v = true) ∧ (0 < V y ∧ V u * V y ≤ V x * MM ∧ V x * MM ≤ V v * V y ∨ V y < 0 ∧ V x * MM ≤ V u * V y ∧ V v * V y ≤ V x * MM) := by
  obtain ⟨-, -, le⟩ := T.fits
  have z := errD_zero (h.bd.2.2.1 hk) le
  obtain ⟨f, lo, hi, d, up, e1, e2⟩ := h.told hk (fun _ lo hi d u => quot_lu' (a := sl) (b := tl) (by omega) (d.le _ (by simp)) (u.ge _ (by simp)))
  have p := four_mem.1 d.le
  have q := four_mem.1 up.ge
  have n1 := MM_mono S.lo
  have n2 := MM_mono S.hi
  have t1 := T.lo
  have t2 := T.hi
  refine ⟨f, ?_⟩
  rcases z with ⟨p1, p2⟩ | ⟨p1, p2⟩
  · left
    rw [quot_lo_pos p1, quot_lo_pos p2, quot_lo_pos p1, quot_lo_pos p2] at p
    rw [quot_up_pos p1, quot_up_pos p2, quot_up_pos p1, quot_up_pos p2] at q
    have y1 := lin_le t1 t2 p.1 p.2.1
    have y2 := lin_ge t1 t2 q.2.2.1 q.2.2.2
    have m1 := Int.mul_le_mul_of_nonneg_right e1 (show 0 ≤ V y by omega)
    have m2 := Int.mul_le_mul_of_nonneg_right e2 (show 0 ≤ V y by omega)
    exact ⟨by omega, by omega, by omega⟩
  · right
    rw [quot_lo_neg p1, quot_lo_neg p2, quot_lo_neg p1, quot_lo_neg p2] at p
    rw [quot_up_neg p1, quot_up_neg p2, quot_up_neg p1, quot_up_neg p2] at q
    have y1 := lin_ge t1 t2 p.2.2.1 p.2.2.2
    have y2 := lin_le t1 t2 q.1 q.2.1
    have m1 := Int.mul_le_mul_of_nonpos_right e1 (show V y ≤ 0 by omega)
    have m2 := Int.mul_le_mul_of_nonpos_right e2 (show V y ≤ 0 by omega)
    exact ⟨by omega, by omega, by omega⟩
theorem root_in {u v : Nat} {k : Int} (h : OpIs (errR sl su) (rootC sl) (rootC su) (.returned (spanE u v k))) (hk : k = 0) : (fitB u = true ∧ fitB v = true) ∧ 0 ≤ V u ∧ V u * V u ≤ V x * MM ∧ V x * MM ≤ V v * V v := by
  obtain ⟨-, -, le⟩ := S.fits
  obtain ⟨b1, b2, z, o⟩ := h.all.bd
  have h0 := errR_zero (z hk)
  obtain ⟨lo, hi, d, up, rfl, rfl, e⟩ := o hk (fun lo hi d u => root_le le (d.le _ (List.mem_singleton.2 rfl)) (u.ge _ (List.mem_singleton.2 rfl)))
  obtain ⟨f1, f2, -⟩ := errS_zero e
  have n1 := MM_mono S.lo
  have n2 := MM_mono S.hi
  have hm : 0 ≤ V sl * MM := Int.mul_nonneg h0 (Int.le_of_lt MM_pos)
  have l0 : 0 ≤ V lo := by
    have := d.top 0 zero_fin (by rw [one_mem]; unfold rootC; rw [V_zero, if_neg (by omega)]; unfold MM at hm; omega)
    rwa [V_zero] at this
  have u0 : 0 ≤ V (lowW lo) := by
    have := lowW_mono (x := 0) (y := lo) (by rw [V_zero]; exact l0)
    rw [show lowW 0 = 0 by decide +kernel, V_zero] at this
    exact this
  have p := d.le _ (List.mem_singleton.2 rfl)
  have q := up.ge _ (List.mem_singleton.2 rfl)
  have hn : ¬ V hi < 0 := fun c => by unfold rootC at q; rw [if_pos c] at q; omega
  unfold rootC at p q
  rw [if_neg (by omega)] at p
  rw [if_neg hn] at q
  have s1 := sq_le u0 (lowW_le lo)
  have s2 := sq_le (x := V hi) (by omega) (highW_ge hi)
  unfold MM at *
  exact ⟨⟨f1, f2⟩, u0, by omega, by omega⟩
end
/-- small enough that the long sum tells it -/
def Sm (z : Int) : Prop := z.natAbs < 2 ^ 1535
theorem sign_sm {k : Nat} {z : Int} {w : World} (hz : Sm z) (H : ∃ ws, Holds k w z ws) : Calls Try.prog 32 #[.pointer (some ⟨k, 0, none⟩)] w fun e w' => e = .returned (.int .i64 (signI z)) ∧ w = w' := sign_run hz H
theorem zz_bound {Z X : Int} {K : Nat} (hZ : Z.natAbs ≤ 2 ^ K) (hK : K ≤ 1500) (hX : X.natAbs ≤ 2 ^ 1275) {n : Nat} (hn : n = 1535) : (0 + Z + X).natAbs < 2 ^ n := by
  rw [Int.zero_add]
  exact add_bound hZ hX (by omega) (by omega)
/-- a product, put to a long sum -/
def AddsProd (a b : Nat) (Z : Int) : Prop := ∀ k z ws w, Holds k w z ws → Calls Try.prog 30 #[.pointer (some ⟨k, 0, none⟩), .float .f64 a, .float .f64 b] w (PutPost k w (z + Z))
structure Told (u v a b c d : Nat) (X Z1 Z2 : Int) : Prop where
  fu : fitB u = true
  fv : fitB v = true
  lu : u < 18446744073709551616
  lv : v < 18446744073709551616
  p1 : AddsProd a b Z1
  p2 : AddsProd c d Z2
  b1 : Sm (0 + Z1 + X)
  b2 : Sm (0 + Z2 + X)
theorem told_of {u v a b c d x : Nat} {X : Int} (hX : -V x = X * 2 ^ 50) (bX : X.natAbs ≤ 2 ^ 1275) (fu : fitB u = true) (fv : fitB v = true) (lu : u < 18446744073709551616) (lv : v < 18446744073709551616)
    (ha : a < 18446744073709551616) (hb : b < 18446744073709551616) (hc : c < 18446744073709551616) (hd : d < 18446744073709551616) (f1 : fitB a = true) (f2 : fitB b = true) (f3 : fitB c = true) (f4 : fitB d = true) :
    ∃ Z1 Z2, Told u v a b c d X Z1 Z2 ∧ ((V a * V b ≤ V x * MM → 0 + Z1 + X ≤ 0) ∧ (V x * MM ≤ V a * V b → 0 ≤ 0 + Z1 + X)) ∧ ((V c * V d ≤ V x * MM → 0 + Z2 + X ≤ 0) ∧ (V x * MM ≤ V c * V d → 0 ≤ 0 + Z2 + X)) := by
  obtain ⟨Z1, -, e1, ⟨K1, k1, b1⟩, C1⟩ := fit_prod ha hb f1 f2
  obtain ⟨Z2, -, e2, ⟨K2, k2, b2⟩, C2⟩ := fit_prod hc hd f3 f4
  exact ⟨Z1, Z2, ⟨fu, fv, lu, lv, C1, C2, zz_bound (n := 1535) b1 k1 bX rfl, zz_bound (n := 1535) b2 k2 bX rfl⟩, z_sign e1 hX, z_sign e2 hX⟩
theorem quot_told {sl su tl tu x y u v : Nat} {X k : Int} (S : Abt sl su x) (T : Abt tl tu y) (hy : y < 18446744073709551616) (fy : fitB y = true) (hX : -V x = X * 2 ^ 50) (bX : X.natAbs ≤ 2 ^ 1275)
    (h : OpAll (errD sl su tl tu) [quotC sl tl, quotC sl tu, quotC su tl, quotC su tu] [quotC sl tl, quotC sl tu, quotC su tl, quotC su tu] (.returned (spanE u v k))) (hk : k = 0) :
    ∃ Z1 Z2, Told u v u y v y X Z1 Z2 ∧ (0 < V y ∧ decide (signI (0 + Z1 + X) > 0) = false ∧ decide (signI (0 + Z2 + X) < 0) = false ∨ V y < 0 ∧ decide (signI (0 + Z1 + X) < 0) = false ∧ decide (signI (0 + Z2 + X) > 0) = false) := by
  obtain ⟨l1, l2, -, -⟩ := h.bd
  obtain ⟨⟨f1, f2⟩, hy2⟩ := div_in S T h hk
  obtain ⟨Z1, Z2, W, ⟨a1, a2⟩, b1, b2⟩ := told_of hX bX f1 f2 l1 l2 l1 hy l2 hy f1 fy f2 fy
  refine ⟨Z1, Z2, W, ?_⟩
  rcases hy2 with ⟨p, q, r⟩ | ⟨p, q, r⟩
  · exact Or.inl ⟨p, (sign_le (a1 q)).1, (sign_ge (b2 r)).1⟩
  · exact Or.inr ⟨p, (sign_ge (a2 q)).1, (sign_le (b1 r)).1⟩
theorem root_told {sl su x u v : Nat} {X k : Int} (S : Abt sl su x) (hX : -V x = X * 2 ^ 50) (bX : X.natAbs ≤ 2 ^ 1275)
    (h : OpIs (errR sl su) (rootC sl) (rootC su) (.returned (spanE u v k))) (hk : k = 0) :
    ∃ Z1 Z2, Told u v u u v v X Z1 Z2 ∧ (FloatKind.f64.format.order u 0 == some Ordering.lt) = false ∧ decide (signI (0 + Z1 + X) ≤ 0) = true ∧ decide (signI (0 + Z2 + X) ≥ 0) = true := by
  obtain ⟨l1, l2, -, -⟩ := h.all.bd
  obtain ⟨⟨f1, f2⟩, u0, q, r⟩ := root_in S h hk
  obtain ⟨Z1, Z2, W, ⟨a1, a2⟩, b1, b2⟩ := told_of hX bX f1 f2 l1 l2 l1 l1 l2 l2 f1 f1 f2 f2
  refine ⟨Z1, Z2, W, ?_, (sign_le (a1 q)).2, (sign_ge (b2 r)).2⟩
  rw [lt_words (fit_fin l1 f1) zero_fin, V_zero, decide_eq_false (by omega)]
end Go.Proofs.Ytkfagpahbojigaa
