/- Proved here: what twain's calls and the reference's Sum, Prod, Quot, Root answer, over the translated code. -/
import Derived.Test.YtkfagpahbojigaaNxs
namespace Go.Proofs.Ytkfagpahbojigaa
open Go.ChangeShapes Go.WideShapes Go.ChangeAt Go.RowKit Ieee.Own

/-- three results: two numbers and an error's number -/
def ffi (a b : Nat) (c : Int) : Value := .tuple #[.float .f64 a, .float .f64 b, .int .i64 c]
theorem sum_unfit (a b : Nat) (ha : a < 18446744073709551616) (hb : b < 18446744073709551616) (h : fitB a = false ∨ fitB b = false) (w : World) :
    Calls Try.prog 68 #[.float .f64 a, .float .f64 b] w fun e w' => e = .returned (ffi 0 0 3) ∧ w = w' := by
  have C1 := fun w => fit_any a ha w
  have C2 := fun w => fit_any b hb w
  clear ha hb
  by_cases h1 : fitB a = false
  · rw [h1] at C1
    clear h h1
    go_enter Try.func68, Try.ntmps68
    go_wp2_with (first | (go_at_call 79; ((with_reducible refine (C1 _).mono ?_); rintro e w' ⟨rfl, rfl⟩)) | (go_at_call 79; ((with_reducible refine (C2 _).mono ?_); rintro e w' ⟨rfl, rfl⟩)))
    go_ret3
    exact ⟨rfl, rfl⟩
  · have h2 : fitB b = false := h.resolve_left h1
    rw [Bool.not_eq_false] at h1
    rw [h1] at C1
    rw [h2] at C2
    clear h h1 h2
    go_enter Try.func68, Try.ntmps68
    go_wp2_with (first | (go_at_call 79; ((with_reducible refine (C1 _).mono ?_); rintro e w' ⟨rfl, rfl⟩)) | (go_at_call 79; ((with_reducible refine (C2 _).mono ?_); rintro e w' ⟨rfl, rfl⟩)))
    go_ret3
    exact ⟨rfl, rfl⟩
/-- a sum's results -/
structure SumRes (a b s e : Nat) : Prop where
  op : Ieee.double.add a b = some s
  fs : FinW s
  fe : FinW e
  vs : V s = RN (V a + V b)
  ve : V e = V a + V b - V s
theorem sum_fit (a b : Nat) (ha : a < 18446744073709551616) (hb : b < 18446744073709551616) (h1 : fitB a = true) (h2 : fitB b = true) :
    ∃ s e, SumRes a b s e ∧ ((2 : Int) ^ 500 ∣ V s ∧ (2 : Int) ^ 500 ∣ V e ∧ ∃ K, K ≤ 1490 ∧ (V s).natAbs ≤ 2 ^ K ∧ (V e).natAbs ≤ 2 ^ K) ∧ ∀ w, Calls Try.prog 68 #[.float .f64 a, .float .f64 b] w fun en w' => en = .returned (ffi s e 0) ∧ w = w' := by
  obtain ⟨s, c, t1, t2, t3, e, o1, o2, o3, o4, o5, o6, f1, f2, v1, v2⟩ := two_sum_words (k := 1275) (fit_fin ha h1) (fit_fin hb h2) (fit_abs (k := 1275) ha h1 (Nat.le_refl _)) (fit_abs (k := 1275) hb h2 (Nat.le_refl _)) (by omega)
  obtain ⟨z1, z2, z3, z4⟩ := sum_facts (k := 1275) v1 v2 (fit_dvd ha h1) (fit_dvd hb h2) (fit_abs (k := 1275) ha h1 (Nat.le_refl _)) (fit_abs (k := 1275) hb h2 (Nat.le_refl _))
  refine ⟨s, e, ⟨o1, f1, f2, v1, v2⟩, ⟨z1, z2, _, by decide, z3, z4⟩, fun w => ?_⟩
  clear z1 z2 z3 z4
  have C1 := fun w => fit_any a ha w
  have C2 := fun w => fit_any b hb w
  rw [h1] at C1
  rw [h2] at C2
  have r1 := run_add _ _ _ o1
  have r2 := run_sub _ _ _ o2
  have r3 := run_sub _ _ _ o3
  have r4 := run_sub _ _ _ o4
  have r5 := run_sub _ _ _ o5
  have r6 := run_add _ _ _ o6
  clear o1 o2 o3 o4 o5 o6 f1 f2 v1 v2 ha hb h1 h2
  go_enter Try.func68, Try.ntmps68
  go_wp2_with (first | (go_at_call 79; ((with_reducible refine (C1 _).mono ?_); rintro e w' ⟨rfl, rfl⟩)) | (go_at_call 79; ((with_reducible refine (C2 _).mono ?_); rintro e w' ⟨rfl, rfl⟩)))
  go_ret3
  exact ⟨rfl, rfl⟩
theorem halves_run {a c d h l : Nat} (o1 : Ieee.double.mul 4728779608772575232 a = some c) (o2 : Ieee.double.sub c a = some d) (o3 : Ieee.double.sub c d = some h) (o4 : Ieee.double.sub a h = some l) (w : World) :
    Calls Try.prog 97 #[.float .f64 a] w fun e w' => e = .returned (ff h l) ∧ w = w' := by
  have r1 := run_mul _ _ _ o1
  have r2 := run_sub _ _ _ o2
  have r3 := run_sub _ _ _ o3
  have r4 := run_sub _ _ _ o4
  clear o1 o2 o3 o4
  go_enter Try.func97, Try.ntmps97
  go_wp2
  go_ret2
  exact ⟨rfl, rfl⟩
/-- a product's results, in units: a b = N -/
structure ProdRes (a b p e : Nat) (N : Int) : Prop where
  op : Ieee.double.mul a b = some p
  fp : FinW p
  fe : FinW e
  ex : V a * V b = N * 2 ^ 1074
  vp : V p = RN N
  ve : V e = N - V p
theorem product_any {a b p q k : Nat} {A B : Int} (ha : Nr a A p) (hb : Nr b B q) (hp : p < 1900) (hq : q < 1900) (hk : p + q = k + 1074) (hk2 : k < 1700) :
    ∃ r e, ProdRes a b r e (A * B * 2 ^ k) ∧ V r = RN (A * B) * 2 ^ k ∧ V e = (A * B - RN (A * B)) * 2 ^ k ∧ (A * B - RN (A * B)).natAbs ≤ 2 ^ 53 ∧
      ∀ w, Calls Try.prog 89 #[.float .f64 a, .float .f64 b] w fun en w' => en = .returned (ff r e) ∧ w = w' := by
  obtain ⟨r, c, d, ah, al, c', d', bh, bl, m1, e1, m2, e2, m3, e3, m4, e4, o1, ⟨s1, s2, s3, s4⟩, ⟨z1, z2, z3, z4⟩, p1, p2, p3, p4, p5, p6, p7, p8, f1, f2, v1, v2, v3⟩ := times_words ha hb hp hq hk hk2
  refine ⟨r, e4, ⟨o1, f1, f2, nr_mul ha hb hk, by rw [v1, RN_scale], by rw [v2, v1, Int.sub_mul]⟩, v1, v2, v3, fun w => ?_⟩
  have H1 := fun w => halves_run s1 s2 s3 s4 w
  have H2 := fun w => halves_run z1 z2 z3 z4 w
  have q0 := run_mul _ _ _ o1
  have q1 := run_mul _ _ _ p1
  have q2 := run_sub _ _ _ p2
  have q3 := run_mul _ _ _ p3
  have q4 := run_add _ _ _ p4
  have q5 := run_mul _ _ _ p5
  have q6 := run_add _ _ _ p6
  have q7 := run_mul _ _ _ p7
  have q8 := run_add _ _ _ p8
  clear o1 s1 s2 s3 s4 z1 z2 z3 z4 p1 p2 p3 p4 p5 p6 p7 p8 f1 f2 v1 v2 v3 hp hq hk hk2 ha hb
  go_enter Try.func89, Try.ntmps89
  go_wp2_with (first | (go_at_call 97; ((with_reducible refine (H1 _).mono ?_); rintro e w' ⟨rfl, rfl⟩; unfold ff)) | (go_at_call 97; ((with_reducible refine (H2 _).mono ?_); rintro e w' ⟨rfl, rfl⟩; unfold ff)))
  go_ret2
  exact ⟨rfl, rfl⟩
theorem prod_unfit (a b : Nat) (ha : a < 18446744073709551616) (hb : b < 18446744073709551616) (h : fitB a = false ∨ fitB b = false) (w : World) :
    Calls Try.prog 76 #[.float .f64 a, .float .f64 b] w fun e w' => e = .returned (ffi 0 0 3) ∧ w = w' := by
  have C1 := fun w => fit_any a ha w
  have C2 := fun w => fit_any b hb w
  clear ha hb
  by_cases h1 : fitB a = false
  · rw [h1] at C1
    clear h h1
    go_enter Try.func76, Try.ntmps76
    go_wp2_with (first | (go_at_call 79; ((with_reducible refine (C1 _).mono ?_); rintro e w' ⟨rfl, rfl⟩)) | (go_at_call 79; ((with_reducible refine (C2 _).mono ?_); rintro e w' ⟨rfl, rfl⟩)))
    go_ret3
    exact ⟨rfl, rfl⟩
  · have h2 : fitB b = false := h.resolve_left h1
    rw [Bool.not_eq_false] at h1
    rw [h1] at C1
    rw [h2] at C2
    clear h h1 h2
    go_enter Try.func76, Try.ntmps76
    go_wp2_with (first | (go_at_call 79; ((with_reducible refine (C1 _).mono ?_); rintro e w' ⟨rfl, rfl⟩)) | (go_at_call 79; ((with_reducible refine (C2 _).mono ?_); rintro e w' ⟨rfl, rfl⟩)))
    go_ret3
    exact ⟨rfl, rfl⟩
theorem prod_fit (a b : Nat) (ha : a < 18446744073709551616) (hb : b < 18446744073709551616) (h1 : fitB a = true) (h2 : fitB b = true) :
    ∃ p e N Z g, ProdRes a b p e N ∧ (N = Z * 2 ^ 50 ∧ V a * V b = Z * 2 ^ 1124 ∧ ((mg 52 (a % 9223372036854775808) = 0 ∨ mg 52 (b % 9223372036854775808) = 0) ∨ ex 52 (a % 9223372036854775808) + ex 52 (b % 9223372036854775808) = g + 1124 ∧ g < 1408)) ∧ ((2 : Int) ^ 500 ∣ V p ∧ (2 : Int) ^ 500 ∣ V e ∧ ∃ K, K ≤ 1490 ∧ (V p).natAbs ≤ 2 ^ K ∧ (V e).natAbs ≤ 2 ^ K) ∧
      ∀ w, Calls Try.prog 76 #[.float .f64 a, .float .f64 b] w fun en w' => en = .returned (ffi p e 0) ∧ w = w' := by
  obtain ⟨A, i, na, i1, i2⟩ := fit_nr ha h1
  obtain ⟨B, j, nb, j1, j2⟩ := fit_nr hb h2
  obtain ⟨k, hk⟩ : ∃ k, i + j = k + 1074 := ⟨i + j - 1074, by omega⟩
  obtain ⟨p, e, R, v1, v2, v3, C⟩ := product_any na nb (by omega) (by omega) hk (by omega)
  have bAB : (RN (A * B)).natAbs ≤ 2 ^ 107 := RN_bound (Nat.le_trans (abs_mul_le (Nat.le_of_lt na.hi) (Nat.le_of_lt nb.hi)) (by decide))
  have hZ := unit_parts na nb hk (by omega)
  have hg := ex_parts na nb (by omega) (by omega) hk (by omega) (by omega)
  refine ⟨p, e, _, A * B * 2 ^ (k - 50), k - 50, R, ⟨hZ.1, hZ.2, hg⟩, ⟨?_, ?_, 107 + k, by omega, ?_, ?_⟩, fun w => ?_⟩
  clear hZ hg
  · rw [v1]; exact Int.dvd_trans (pow_dvd (show 500 ≤ k by omega)) (Int.dvd_mul_left _ _)
  · rw [v2]; exact Int.dvd_trans (pow_dvd (show 500 ≤ k by omega)) (Int.dvd_mul_left _ _)
  · rw [v1]; exact scale_le bAB
  · rw [v2]; exact scale_le (abs_up (l := 107) v3 (by decide))
  have C1 := fun w => fit_any a ha w
  have C2 := fun w => fit_any b hb w
  rw [h1] at C1
  rw [h2] at C2
  clear R v1 v2 v3 bAB na nb hk ha hb h1 h2 i1 i2 j1 j2
  go_enter Try.func76, Try.ntmps76
  go_wp2_with (first | (go_at_call 79; ((with_reducible refine (C1 _).mono ?_); rintro e w' ⟨rfl, rfl⟩)) | (go_at_call 79; ((with_reducible refine (C2 _).mono ?_); rintro e w' ⟨rfl, rfl⟩)) | (go_at_call 89; ((with_reducible refine (C _).mono ?_); rintro e w' ⟨rfl, rfl⟩; unfold ff)))
  go_ret3
  exact ⟨rfl, rfl⟩
theorem remainder_run {a x y r e x1 x2 : Nat} (C : ∀ w, Calls Try.prog 89 #[.float .f64 x, .float .f64 y] w fun en w' => en = .returned (ff r e) ∧ w = w')
    (y1 : Ieee.double.sub a r = some x1) (y2 : Ieee.double.sub x1 e = some x2) (w : World) :
    Calls Try.prog 91 #[.float .f64 a, .float .f64 x, .float .f64 y] w fun en w' => en = .returned (.float .f64 x2) ∧ w = w' := by
  have r2 := run_sub _ _ _ y1
  have r3 := run_sub _ _ _ y2
  clear y1 y2
  go_enter Try.func91, Try.ntmps91
  go_wp2_with (go_at_call 89; ((with_reducible refine (C _).mono ?_); rintro e w' ⟨rfl, rfl⟩; unfold ff))
  go_ret
  exact ⟨rfl, rfl⟩
/-! ### quotients -/
theorem quot_unfit (a b : Nat) (ha : a < 18446744073709551616) (hb : b < 18446744073709551616) (h : fitB a = false ∨ fitB b = false) (w : World) :
    Calls Try.prog 78 #[.float .f64 a, .float .f64 b] w fun e w' => e = .returned (ffi 0 0 3) ∧ w = w' := by
  have C1 := fun w => fit_any a ha w
  have C2 := fun w => fit_any b hb w
  clear ha hb
  by_cases h1 : fitB a = false
  · rw [h1] at C1
    clear h h1
    go_enter Try.func78, Try.ntmps78
    go_wp2_with (first | (go_at_call 79; ((with_reducible refine (C1 _).mono ?_); rintro e w' ⟨rfl, rfl⟩)) | (go_at_call 79; ((with_reducible refine (C2 _).mono ?_); rintro e w' ⟨rfl, rfl⟩)))
    go_ret3
    exact ⟨rfl, rfl⟩
  · have h2 : fitB b = false := h.resolve_left h1
    rw [Bool.not_eq_false] at h1
    rw [h1] at C1
    rw [h2] at C2
    clear h h1 h2
    go_enter Try.func78, Try.ntmps78
    go_wp2_with (first | (go_at_call 79; ((with_reducible refine (C1 _).mono ?_); rintro e w' ⟨rfl, rfl⟩)) | (go_at_call 79; ((with_reducible refine (C2 _).mono ?_); rintro e w' ⟨rfl, rfl⟩)))
    go_ret3
    exact ⟨rfl, rfl⟩
theorem quot_zero (a b : Nat) (ha : a < 18446744073709551616) (hb : b < 18446744073709551616) (h1 : fitB a = true) (h2 : fitB b = true) (h0 : V b = 0) (w : World) :
    Calls Try.prog 78 #[.float .f64 a, .float .f64 b] w fun e w' => e = .returned (ffi 0 0 4) ∧ w = w' := by
  have C1 := fun w => fit_any a ha w
  have C2 := fun w => fit_any b hb w
  have e0 := eq_zero b (fit_fin hb h2)
  rw [decide_eq_true h0] at e0
  rw [h1] at C1
  rw [h2] at C2
  clear ha hb h1 h2 h0
  go_enter Try.func78, Try.ntmps78
  go_wp2_with (first | (go_at_call 79; ((with_reducible refine (C1 _).mono ?_); rintro e w' ⟨rfl, rfl⟩)) | (go_at_call 79; ((with_reducible refine (C2 _).mono ?_); rintro e w' ⟨rfl, rfl⟩)))
  go_ret3
  exact ⟨rfl, rfl⟩
/-- what a quotient (or a root) and what it leaves are to the laws: the product c d of the result is N -/
structure RemRes (a c d q r : Nat) (N Z : Int) (g : Nat) : Prop where
  fq : FinW q
  fr : FinW r
  exn : N = Z * 2 ^ 50
  exz : V c * V d = Z * 2 ^ 1124
  par : (mg 52 (c % 9223372036854775808) = 0 ∨ mg 52 (d % 9223372036854775808) = 0) ∨ ex 52 (c % 9223372036854775808) + ex 52 (d % 9223372036854775808) = g + 1124 ∧ g < 1408
  vr : V r = V a - N
  dq : (2 : Int) ^ 500 ∣ V q
  dr : (2 : Int) ^ 500 ∣ V r
  bd : ∃ K, K ≤ 1490 ∧ (V q).natAbs ≤ 2 ^ K ∧ (V r).natAbs ≤ 2 ^ K
theorem nr_facts {w E : Nat} {A : Int} (h : Nr w A E) (hE : 560 ≤ E) (hE2 : E ≤ 1430) : (2 : Int) ^ 500 ∣ V w ∧ (V w).natAbs ≤ 2 ^ (53 + E) := by
  rw [h.val]
  exact ⟨Int.dvd_trans (pow_dvd (show 500 ≤ E by omega)) (Int.dvd_mul_left _ _), scale_le (Nat.le_of_lt h.hi)⟩
theorem zero_zero_mul (x : Int) (k : Nat) : (0 : Int) - 0 * x * 2 ^ k = 0 := by simp
theorem quot_fit (a b : Nat) (ha : a < 18446744073709551616) (hb : b < 18446744073709551616) (h1 : fitB a = true) (h2 : fitB b = true) (h0 : V b ≠ 0) :
    ∃ q r N Z g, Ieee.double.div a b = some q ∧ RemRes a q b q r N Z g ∧ ∀ w, Calls Try.prog 78 #[.float .f64 a, .float .f64 b] w fun en w' => en = .returned (ffi q r 0) ∧ w = w' := by
  obtain ⟨t, n, j, nb, j1, j2⟩ := (fit_norm hb h2).resolve_left h0
  have key : ∃ q A E r e x1 x2, Ieee.double.div a b = some q ∧ Nr q A E ∧ 560 ≤ E ∧ E ≤ 1430 ∧ (E + j = E + j - 1074 + 1074 ∧ 50 ≤ E + j - 1074 ∧ E + j - 1074 < 1458) ∧
      (∀ w, Calls Try.prog 89 #[.float .f64 q, .float .f64 b] w fun en w' => en = .returned (ff r e) ∧ w = w') ∧ Ieee.double.sub a r = some x1 ∧ Ieee.double.sub x1 e = some x2 ∧ FinW x2 ∧
      V x2 = V a - A * sv t n 0 * 2 ^ (E + j - 1074) ∧ (2 : Int) ^ 500 ∣ V x2 ∧ ∃ K, K ≤ 1400 ∧ (V x2).natAbs ≤ 2 ^ K := by
    rcases fit_norm ha h1 with z | ⟨s, m, i, na, i1, i2⟩
    · obtain ⟨q, d1, d2, d3⟩ := div_zero (fit_fin ha h1) z (fit_fin hb h2) h0
      have nq : Nr q 0 822 := Nr.zero d2 d3 822
      obtain ⟨r, e, R, v1, v2, v3, C⟩ := product_any nq (Nr.of nb) (by omega) (by omega) (show 822 + j = 822 + j - 1074 + 1074 by omega) (by omega)
      obtain ⟨x1, x2, y1, y2, y3, y4⟩ := rem_words (T := 0) (P := RN (0 * sv t n 0)) (M := 0 * sv t n 0) (fit_fin ha h1) R.fp R.fe (by rw [z]; simp) v1 v2
        (by rw [Int.zero_mul, RN_zero]; exact Rep_zero) (by rw [Int.zero_mul]; exact Rep_zero) (by decide) (by rw [Int.zero_mul, RN_zero]; decide) (by rw [Int.zero_mul]; decide) (show 822 + j - 1074 < 1700 by omega)
      rw [Int.zero_mul, Int.sub_self, Int.zero_mul] at y4
      exact ⟨q, 0, 822, r, e, x1, x2, d1, nq, by omega, by omega, ⟨by omega, by omega, by omega⟩, C, y1, y2, y3, by rw [y4, z, zero_zero_mul], by rw [y4]; exact Int.dvd_zero _, 0, by omega, by rw [y4]; decide⟩
    · obtain ⟨q, A, E, d1, nq, E1, E2, E3, E4, F⟩ := quot_words na nb (by omega) (by omega) (by omega) (by omega)
      obtain ⟨r, e, R, v1, v2, v3, C⟩ := product_any nq (Nr.of nb) (by omega) (by omega) (show E + j = E + j - 1074 + 1074 by omega) (by omega)
      obtain ⟨x1, x2, y1, y2, y3, y4, y5, y6⟩ := F r e R.fp R.fe v1 v2
      exact ⟨q, A, E, r, e, x1, x2, d1, nq, by omega, by omega, ⟨by omega, by omega, by omega⟩, C, y1, y2, y3, y4, y5, 1400, by omega, y6⟩
  obtain ⟨q, A, E, r, e, x1, x2, d1, nq, E1, E2, ⟨E3, E4, E5⟩, C, y1, y2, y3, y4, y5, K, hK, y6⟩ := key
  obtain ⟨u1, u2⟩ := nr_facts nq E1 E2
  have hZ := unit_parts nq (Nr.of nb) E3 E4
  have hg := ex_parts nq (Nr.of nb) (by omega) (by omega) E3 E4 E5
  refine ⟨q, x2, _, _, _, d1, ⟨nq.fin, y3, hZ.1, hZ.2, hg, y4, u1, y5, 1490, by omega, abs_up (l := 1490) u2 (by omega), abs_up (l := 1490) y6 (by omega)⟩, fun w => ?_⟩
  have C1 := fun w => fit_any a ha w
  have C2 := fun w => fit_any b hb w
  have e0 := eq_zero b (fit_fin hb h2)
  rw [decide_eq_false h0] at e0
  rw [h1] at C1
  rw [h2] at C2
  have r1 := run_div _ _ _ d1
  have R := fun w => remainder_run C y1 y2 w
  clear C
  clear ha hb h1 h2 h0 nb j1 j2 d1 nq E1 E2 E3 E4 E5 y1 y2 y3 y4 y5 y6 hK u1 u2 hZ hg
  go_enter Try.func78, Try.ntmps78
  go_wp2_with (first | (go_at_call 79; ((with_reducible refine (C1 _).mono ?_); rintro e w' ⟨rfl, rfl⟩)) | (go_at_call 79; ((with_reducible refine (C2 _).mono ?_); rintro e w' ⟨rfl, rfl⟩)) | (go_at_call 91; ((with_reducible refine (R _).mono ?_); rintro e w' ⟨rfl, rfl⟩)))
  go_ret3
  exact ⟨rfl, rfl⟩
/-! ### roots -/
theorem xsqrt (a r : Nat) (h : Ieee.double.sqrt a = some r) (w : World) : (callFunc 93 #[.float .f64 a]).run Try.prog w = .ok (.value (.float .f64 r)) w := by
  rw [run_callFunc_extern (e := Extern.MathSqrt.sqrt) Try.func93 (by kernel_rfl) (by kernel_rfl) (by kernel_rfl) (by kernel_rfl)]
  have h' : FloatKind.f64.format.sqrt a = some r := h
  have e : Extern.MathSqrt.sqrt #[.float .f64 a] = (match FloatKind.f64.format.sqrt a with
    | some r => pure (.float .f64 r)
    | none => do pure (.float .f64 (← choose (.nanBits .f64 a a)))) := rfl
  rw [e, h']; rfl
theorem sqrt_any (a r : Nat) (h : Ieee.double.sqrt a = some r) (w : World) :
    Calls Try.prog 81 #[.float .f64 a] w fun e w' => e = .returned (.float .f64 r) ∧ w = w' := by
  have X := xsqrt a r h
  clear h
  go_enter Try.func81, Try.ntmps81
  go_wp2
  go_ret
  exact ⟨rfl, rfl⟩
theorem root_unfit (a : Nat) (ha : a < 18446744073709551616) (h : fitB a = false) (w : World) :
    Calls Try.prog 80 #[.float .f64 a] w fun e w' => e = .returned (ffi 0 0 3) ∧ w = w' := by
  have C1 := fun w => fit_any a ha w
  rw [h] at C1
  clear ha h
  go_enter Try.func80, Try.ntmps80
  go_wp2_with (go_at_call 79; ((with_reducible refine (C1 _).mono ?_); rintro e w' ⟨rfl, rfl⟩))
  go_ret3
  exact ⟨rfl, rfl⟩
theorem root_neg (a : Nat) (ha : a < 18446744073709551616) (h : fitB a = true) (h0 : V a < 0) (w : World) :
    Calls Try.prog 80 #[.float .f64 a] w fun e w' => e = .returned (ffi 0 0 6) ∧ w = w' := by
  have C1 := fun w => fit_any a ha w
  have e0 := lt_zero a (fit_fin ha h)
  rw [decide_eq_true h0] at e0
  rw [h] at C1
  clear ha h h0
  go_enter Try.func80, Try.ntmps80
  go_wp2_with (go_at_call 79; ((with_reducible refine (C1 _).mono ?_); rintro e w' ⟨rfl, rfl⟩))
  go_ret3
  exact ⟨rfl, rfl⟩
theorem root_fit (a : Nat) (ha : a < 18446744073709551616) (h1 : fitB a = true) (h0 : 0 ≤ V a) :
    ∃ q r N Z g, Ieee.double.sqrt a = some q ∧ RemRes a q q q r N Z g ∧ ∀ w, Calls Try.prog 80 #[.float .f64 a] w fun en w' => en = .returned (ffi q r 0) ∧ w = w' := by
  have key : ∃ q A E r e x1 x2, Ieee.double.sqrt a = some q ∧ Nr q A E ∧ 560 ≤ E ∧ E ≤ 1430 ∧ (E + E = E + E - 1074 + 1074 ∧ 50 ≤ E + E - 1074 ∧ E + E - 1074 < 1458) ∧
      (∀ w, Calls Try.prog 89 #[.float .f64 q, .float .f64 q] w fun en w' => en = .returned (ff r e) ∧ w = w') ∧ Ieee.double.sub a r = some x1 ∧ Ieee.double.sub x1 e = some x2 ∧ FinW x2 ∧
      V x2 = V a - A * A * 2 ^ (E + E - 1074) ∧ (2 : Int) ^ 500 ∣ V x2 ∧ ∃ K, K ≤ 1400 ∧ (V x2).natAbs ≤ 2 ^ K := by
    rcases fit_norm ha h1 with z | ⟨s, m, i, na, i1, i2⟩
    · obtain ⟨q, d1, d2, d3⟩ := sqrt_zero (fit_fin ha h1) z
      obtain ⟨E0, hE0⟩ : ∃ E0 : Nat, E0 = 822 := ⟨822, rfl⟩
      have nq : Nr q 0 E0 := Nr.zero d2 d3 E0
      obtain ⟨r, e, R, v1, v2, v3, C⟩ := product_any nq nq (by omega) (by omega) (show E0 + E0 = E0 + E0 - 1074 + 1074 by omega) (by omega)
      obtain ⟨x1, x2, y1, y2, y3, y4⟩ := rem_words (T := 0) (P := RN (0 * 0)) (M := 0 * 0) (fit_fin ha h1) R.fp R.fe (by rw [z]; simp) v1 v2
        (by rw [Int.zero_mul, RN_zero]; exact Rep_zero) (by rw [Int.zero_mul]; exact Rep_zero) (by decide) (by rw [Int.zero_mul, RN_zero]; decide) (by rw [Int.zero_mul]; decide) (show E0 + E0 - 1074 < 1700 by omega)
      rw [Int.zero_mul, Int.sub_self, Int.zero_mul] at y4
      exact ⟨q, 0, E0, r, e, x1, x2, d1, nq, by omega, by omega, ⟨by omega, by omega, by omega⟩, C, y1, y2, y3, by rw [y4, z, zero_zero_mul], by rw [y4]; exact Int.dvd_zero _, 0, by omega, by rw [y4]; decide⟩
    · have hs : s = false := by
        have hv := na.val
        have hp : 0 < m * 2 ^ i := Nat.mul_pos (by have := na.lo; omega) (Nat.two_pow_pos i)
        cases s
        · rfl
        · unfold sv at hv; rw [if_pos rfl] at hv
          generalize m * 2 ^ i = x at *
          omega
      subst hs
      obtain ⟨q, A, E, d1, nq, E1, E2, E3, E4, F⟩ := root_words na (by omega) (by omega)
      obtain ⟨r, e, R, v1, v2, v3, C⟩ := product_any nq nq (by omega) (by omega) (show E + E = E + E - 1074 + 1074 by omega) (by omega)
      obtain ⟨x1, x2, y1, y2, y3, y4, y5, y6⟩ := F r e R.fp R.fe v1 v2
      exact ⟨q, A, E, r, e, x1, x2, d1, nq, by omega, by omega, ⟨by omega, by omega, by omega⟩, C, y1, y2, y3, y4, y5, 1400, by omega, y6⟩
  obtain ⟨q, A, E, r, e, x1, x2, d1, nq, E1, E2, ⟨E3, E4, E5⟩, C, y1, y2, y3, y4, y5, K, hK, y6⟩ := key
  obtain ⟨u1, u2⟩ := nr_facts nq E1 E2
  have hZ := unit_parts nq nq E3 E4
  have hg := ex_parts nq nq (by omega) (by omega) E3 E4 E5
  refine ⟨q, x2, _, _, _, d1, ⟨nq.fin, y3, hZ.1, hZ.2, hg, y4, u1, y5, 1490, by omega, abs_up (l := 1490) u2 (by omega), abs_up (l := 1490) y6 (by omega)⟩, fun w => ?_⟩
  have C1 := fun w => fit_any a ha w
  have e0 := lt_zero a (fit_fin ha h1)
  rw [decide_eq_false (by omega)] at e0
  rw [h1] at C1
  have S := sqrt_any a q d1
  have R := fun w => remainder_run C y1 y2 w
  clear C
  clear ha h1 h0 d1 nq E1 E2 E3 E4 E5 y1 y2 y3 y4 y5 y6 hK u1 u2 hZ hg
  go_enter Try.func80, Try.ntmps80
  go_wp2_with (first | (go_at_call 79; ((with_reducible refine (C1 _).mono ?_); rintro e w' ⟨rfl, rfl⟩)) | (go_at_call 81; ((with_reducible refine (S _).mono ?_); rintro e w' ⟨rfl, rfl⟩)) | (go_at_call 91; ((with_reducible refine (R _).mono ?_); rintro e w' ⟨rfl, rfl⟩)))
  go_ret3
  exact ⟨rfl, rfl⟩
theorem rfit2 (a b : Nat) (ha : a < 18446744073709551616) (hb : b < 18446744073709551616) (w : World) :
    Calls Try.prog 70 #[.float .f64 a, .float .f64 b] w fun e w' => e = .returned (.bool (fitB a && fitB b)) ∧ w = w' := by
  have C1 := fun w => rfit_any a ha w
  have C2 := fun w => rfit_any b hb w
  clear ha hb
  cases h1 : fitB a <;> cases h2 : fitB b
  all_goals
    rw [h1] at C1
    rw [h2] at C2
    clear h1 h2
    go_enter Try.func70, Try.ntmps70
    go_wp2_with (first | (go_at_call 31; ((with_reducible refine (C1 _).mono ?_); rintro e w' ⟨rfl, rfl⟩)) | (go_at_call 31; ((with_reducible refine (C2 _).mono ?_); rintro e w' ⟨rfl, rfl⟩)))
    go_ret
    exact ⟨rfl, rfl⟩
theorem rfit2_f (a b : Nat) (ha : a < 18446744073709551616) (hb : b < 18446744073709551616) (h : fitB a = false ∨ fitB b = false) (w : World) :
    Calls Try.prog 70 #[.float .f64 a, .float .f64 b] w fun e w' => e = .returned (.bool false) ∧ w = w' :=
  (rfit2 a b ha hb w).mono fun _ _ ⟨he, hw⟩ => ⟨by rw [he]; rcases h with h | h <;> rw [h] <;> simp, hw⟩
theorem rfit2_t (a b : Nat) (ha : a < 18446744073709551616) (hb : b < 18446744073709551616) (h1 : fitB a = true) (h2 : fitB b = true) (w : World) :
    Calls Try.prog 70 #[.float .f64 a, .float .f64 b] w fun e w' => e = .returned (.bool true) ∧ w = w' :=
  (rfit2 a b ha hb w).mono fun _ _ ⟨he, hw⟩ => ⟨by rw [he, h1, h2]; rfl, hw⟩
theorem rsum_unfit (a b : Nat) (ha : a < 18446744073709551616) (hb : b < 18446744073709551616) (h : fitB a = false ∨ fitB b = false) (w : World) :
    Calls Try.prog 48 #[.float .f64 a, .float .f64 b] w fun e w' => e = .returned (ffi 0 0 3) ∧ w = w' := by
  have C1 := fun w => rfit2_f a b ha hb h w
  clear ha hb h
  go_enter Try.func48, Try.ntmps48
  go_wp2_with ((go_at_call 70; ((with_reducible refine (C1 _).mono ?_); rintro e w' ⟨rfl, rfl⟩)))
  go_ret3
  exact ⟨rfl, rfl⟩
theorem rprod_unfit (a b : Nat) (ha : a < 18446744073709551616) (hb : b < 18446744073709551616) (h : fitB a = false ∨ fitB b = false) (w : World) :
    Calls Try.prog 55 #[.float .f64 a, .float .f64 b] w fun e w' => e = .returned (ffi 0 0 3) ∧ w = w' := by
  have C1 := fun w => rfit2_f a b ha hb h w
  clear ha hb h
  go_enter Try.func55, Try.ntmps55
  go_wp2_with ((go_at_call 70; ((with_reducible refine (C1 _).mono ?_); rintro e w' ⟨rfl, rfl⟩)))
  go_ret3
  exact ⟨rfl, rfl⟩
theorem rquot_unfit (a b : Nat) (ha : a < 18446744073709551616) (hb : b < 18446744073709551616) (h : fitB a = false ∨ fitB b = false) (w : World) :
    Calls Try.prog 57 #[.float .f64 a, .float .f64 b] w fun e w' => e = .returned (ffi 0 0 3) ∧ w = w' := by
  have C1 := fun w => rfit2_f a b ha hb h w
  clear ha hb h
  go_enter Try.func57, Try.ntmps57
  go_wp2_with ((go_at_call 70; ((with_reducible refine (C1 _).mono ?_); rintro e w' ⟨rfl, rfl⟩)))
  go_ret3
  exact ⟨rfl, rfl⟩
theorem rsum_fit (a b : Nat) (ha : a < 18446744073709551616) (hb : b < 18446744073709551616) (h1 : fitB a = true) (h2 : fitB b = true) :
    ∃ s e, SumRes a b s e ∧ ((2 : Int) ^ 500 ∣ V s ∧ (2 : Int) ^ 500 ∣ V e ∧ ∃ K, K ≤ 1490 ∧ (V s).natAbs ≤ 2 ^ K ∧ (V e).natAbs ≤ 2 ^ K) ∧ ∀ w, Calls Try.prog 48 #[.float .f64 a, .float .f64 b] w fun en w' => en = .returned (ffi s e 0) ∧ w = w' := by
  obtain ⟨s, c, t1, t2, t3, e, o1, o2, o3, o4, o5, o6, f1, f2, v1, v2⟩ := two_sum_words (k := 1275) (fit_fin ha h1) (fit_fin hb h2) (fit_abs (k := 1275) ha h1 (Nat.le_refl _)) (fit_abs (k := 1275) hb h2 (Nat.le_refl _)) (by omega)
  obtain ⟨z1, z2, z3, z4⟩ := sum_facts (k := 1275) v1 v2 (fit_dvd ha h1) (fit_dvd hb h2) (fit_abs (k := 1275) ha h1 (Nat.le_refl _)) (fit_abs (k := 1275) hb h2 (Nat.le_refl _))
  refine ⟨s, e, ⟨o1, f1, f2, v1, v2⟩, ⟨z1, z2, _, by decide, z3, z4⟩, fun w => ?_⟩
  clear z1 z2 z3 z4
  have C1 := fun w => rfit2_t a b ha hb h1 h2 w
  have r1 := run_add _ _ _ o1
  have r2 := run_sub _ _ _ o2
  have r3 := run_sub _ _ _ o3
  have r4 := run_sub _ _ _ o4
  have r5 := run_sub _ _ _ o5
  have r6 := run_add _ _ _ o6
  clear o1 o2 o3 o4 o5 o6 f1 f2 v1 v2 ha hb h1 h2
  have R : ∀ w, Calls Try.prog 71 #[.float .f64 a, .float .f64 b] w fun en w' => en = .returned (.tuple #[.float .f64 s, .float .f64 e]) ∧ w = w' := by
    intro w
    go_enter Try.func71, Try.ntmps71
    go_wp2
    go_ret2
    exact ⟨rfl, rfl⟩
  clear r1 r2 r3 r4 r5 r6
  go_enter Try.func48, Try.ntmps48
  go_wp2_with (first | (go_at_call 70; ((with_reducible refine (C1 _).mono ?_); rintro e w' ⟨rfl, rfl⟩)) | (go_at_call 71; ((with_reducible refine (R _).mono ?_); rintro e w' ⟨rfl, rfl⟩)))
  go_ret3
  exact ⟨rfl, rfl⟩
theorem rhalves_run {a c d h l : Nat} (o1 : Ieee.double.mul 4728779608772575232 a = some c) (o2 : Ieee.double.sub c a = some d) (o3 : Ieee.double.sub c d = some h) (o4 : Ieee.double.sub a h = some l) (w : World) :
    Calls Try.prog 90 #[.float .f64 a] w fun e w' => e = .returned (ff h l) ∧ w = w' := by
  have r1 := run_mul _ _ _ o1
  have r2 := run_sub _ _ _ o2
  have r3 := run_sub _ _ _ o3
  have r4 := run_sub _ _ _ o4
  clear o1 o2 o3 o4
  go_enter Try.func90, Try.ntmps90
  go_wp2
  go_ret2
  exact ⟨rfl, rfl⟩
theorem rproduct_any {a b p q k : Nat} {A B : Int} (ha : Nr a A p) (hb : Nr b B q) (hp : p < 1900) (hq : q < 1900) (hk : p + q = k + 1074) (hk2 : k < 1700) :
    ∃ r e, ProdRes a b r e (A * B * 2 ^ k) ∧ V r = RN (A * B) * 2 ^ k ∧ V e = (A * B - RN (A * B)) * 2 ^ k ∧ (A * B - RN (A * B)).natAbs ≤ 2 ^ 53 ∧
      ∀ w, Calls Try.prog 77 #[.float .f64 a, .float .f64 b] w fun en w' => en = .returned (ff r e) ∧ w = w' := by
  obtain ⟨r, c, d, ah, al, c', d', bh, bl, m1, e1, m2, e2, m3, e3, m4, e4, o1, ⟨s1, s2, s3, s4⟩, ⟨z1, z2, z3, z4⟩, p1, p2, p3, p4, p5, p6, p7, p8, f1, f2, v1, v2, v3⟩ := times_words ha hb hp hq hk hk2
  refine ⟨r, e4, ⟨o1, f1, f2, nr_mul ha hb hk, by rw [v1, RN_scale], by rw [v2, v1, Int.sub_mul]⟩, v1, v2, v3, fun w => ?_⟩
  have H1 := fun w => rhalves_run s1 s2 s3 s4 w
  have H2 := fun w => rhalves_run z1 z2 z3 z4 w
  have q0 := run_mul _ _ _ o1
  have q1 := run_mul _ _ _ p1
  have q2 := run_sub _ _ _ p2
  have q3 := run_mul _ _ _ p3
  have q4 := run_add _ _ _ p4
  have q5 := run_mul _ _ _ p5
  have q6 := run_add _ _ _ p6
  have q7 := run_mul _ _ _ p7
  have q8 := run_add _ _ _ p8
  clear o1 s1 s2 s3 s4 z1 z2 z3 z4 p1 p2 p3 p4 p5 p6 p7 p8 f1 f2 v1 v2 v3 hp hq hk hk2 ha hb
  go_enter Try.func77, Try.ntmps77
  go_wp2_with (first | (go_at_call 90; ((with_reducible refine (H1 _).mono ?_); rintro e w' ⟨rfl, rfl⟩; unfold ff)) | (go_at_call 90; ((with_reducible refine (H2 _).mono ?_); rintro e w' ⟨rfl, rfl⟩; unfold ff)))
  go_ret2
  exact ⟨rfl, rfl⟩
theorem rprod_fit (a b : Nat) (ha : a < 18446744073709551616) (hb : b < 18446744073709551616) (h1 : fitB a = true) (h2 : fitB b = true) :
    ∃ p e N Z g, ProdRes a b p e N ∧ (N = Z * 2 ^ 50 ∧ V a * V b = Z * 2 ^ 1124 ∧ ((mg 52 (a % 9223372036854775808) = 0 ∨ mg 52 (b % 9223372036854775808) = 0) ∨ ex 52 (a % 9223372036854775808) + ex 52 (b % 9223372036854775808) = g + 1124 ∧ g < 1408)) ∧ ((2 : Int) ^ 500 ∣ V p ∧ (2 : Int) ^ 500 ∣ V e ∧ ∃ K, K ≤ 1490 ∧ (V p).natAbs ≤ 2 ^ K ∧ (V e).natAbs ≤ 2 ^ K) ∧
      ∀ w, Calls Try.prog 55 #[.float .f64 a, .float .f64 b] w fun en w' => en = .returned (ffi p e 0) ∧ w = w' := by
  obtain ⟨A, i, na, i1, i2⟩ := fit_nr ha h1
  obtain ⟨B, j, nb, j1, j2⟩ := fit_nr hb h2
  obtain ⟨k, hk⟩ : ∃ k, i + j = k + 1074 := ⟨i + j - 1074, by omega⟩
  obtain ⟨p, e, R, v1, v2, v3, C⟩ := rproduct_any na nb (by omega) (by omega) hk (by omega)
  have bAB : (RN (A * B)).natAbs ≤ 2 ^ 107 := RN_bound (Nat.le_trans (abs_mul_le (Nat.le_of_lt na.hi) (Nat.le_of_lt nb.hi)) (by decide))
  have hZ := unit_parts na nb hk (by omega)
  have hg := ex_parts na nb (by omega) (by omega) hk (by omega) (by omega)
  refine ⟨p, e, _, A * B * 2 ^ (k - 50), k - 50, R, ⟨hZ.1, hZ.2, hg⟩, ⟨?_, ?_, 107 + k, by omega, ?_, ?_⟩, fun w => ?_⟩
  clear hZ hg
  · rw [v1]; exact Int.dvd_trans (pow_dvd (show 500 ≤ k by omega)) (Int.dvd_mul_left _ _)
  · rw [v2]; exact Int.dvd_trans (pow_dvd (show 500 ≤ k by omega)) (Int.dvd_mul_left _ _)
  · rw [v1]; exact scale_le bAB
  · rw [v2]; exact scale_le (abs_up (l := 107) v3 (by decide))
  have C1 := fun w => rfit2_t a b ha hb h1 h2 w
  clear R v1 v2 v3 bAB na nb hk ha hb h1 h2 i1 i2 j1 j2
  go_enter Try.func55, Try.ntmps55
  go_wp2_with (first | (go_at_call 70; ((with_reducible refine (C1 _).mono ?_); rintro e w' ⟨rfl, rfl⟩)) | (go_at_call 77; ((with_reducible refine (C _).mono ?_); rintro e w' ⟨rfl, rfl⟩; unfold ff)))
  go_ret3
  exact ⟨rfl, rfl⟩
theorem rquot_zero (a b : Nat) (ha : a < 18446744073709551616) (hb : b < 18446744073709551616) (h1 : fitB a = true) (h2 : fitB b = true) (h0 : V b = 0) (w : World) :
    Calls Try.prog 57 #[.float .f64 a, .float .f64 b] w fun e w' => e = .returned (ffi 0 0 4) ∧ w = w' := by
  have C1 := fun w => rfit2_t a b ha hb h1 h2 w
  have e0 := eq_zero b (fit_fin hb h2)
  rw [decide_eq_true h0] at e0
  clear ha hb h1 h2 h0
  go_enter Try.func57, Try.ntmps57
  go_wp2_with ((go_at_call 70; ((with_reducible refine (C1 _).mono ?_); rintro e w' ⟨rfl, rfl⟩)))
  go_ret3
  exact ⟨rfl, rfl⟩
theorem rquot_fit (a b : Nat) (ha : a < 18446744073709551616) (hb : b < 18446744073709551616) (h1 : fitB a = true) (h2 : fitB b = true) (h0 : V b ≠ 0) :
    ∃ q r N Z g, Ieee.double.div a b = some q ∧ RemRes a q b q r N Z g ∧ ∀ w, Calls Try.prog 57 #[.float .f64 a, .float .f64 b] w fun en w' => en = .returned (ffi q r 0) ∧ w = w' := by
  obtain ⟨t, n, j, nb, j1, j2⟩ := (fit_norm hb h2).resolve_left h0
  have key : ∃ q A E r e x1 x2, Ieee.double.div a b = some q ∧ Nr q A E ∧ 560 ≤ E ∧ E ≤ 1430 ∧ (E + j = E + j - 1074 + 1074 ∧ 50 ≤ E + j - 1074 ∧ E + j - 1074 < 1458) ∧
      (∀ w, Calls Try.prog 77 #[.float .f64 q, .float .f64 b] w fun en w' => en = .returned (ff r e) ∧ w = w') ∧ Ieee.double.sub a r = some x1 ∧ Ieee.double.sub x1 e = some x2 ∧ FinW x2 ∧
      V x2 = V a - A * sv t n 0 * 2 ^ (E + j - 1074) ∧ (2 : Int) ^ 500 ∣ V x2 ∧ ∃ K, K ≤ 1400 ∧ (V x2).natAbs ≤ 2 ^ K := by
    rcases fit_norm ha h1 with z | ⟨s, m, i, na, i1, i2⟩
    · obtain ⟨q, d1, d2, d3⟩ := div_zero (fit_fin ha h1) z (fit_fin hb h2) h0
      have nq : Nr q 0 822 := Nr.zero d2 d3 822
      obtain ⟨r, e, R, v1, v2, v3, C⟩ := rproduct_any nq (Nr.of nb) (by omega) (by omega) (show 822 + j = 822 + j - 1074 + 1074 by omega) (by omega)
      obtain ⟨x1, x2, y1, y2, y3, y4⟩ := rem_words (T := 0) (P := RN (0 * sv t n 0)) (M := 0 * sv t n 0) (fit_fin ha h1) R.fp R.fe (by rw [z]; simp) v1 v2
        (by rw [Int.zero_mul, RN_zero]; exact Rep_zero) (by rw [Int.zero_mul]; exact Rep_zero) (by decide) (by rw [Int.zero_mul, RN_zero]; decide) (by rw [Int.zero_mul]; decide) (show 822 + j - 1074 < 1700 by omega)
      rw [Int.zero_mul, Int.sub_self, Int.zero_mul] at y4
      exact ⟨q, 0, 822, r, e, x1, x2, d1, nq, by omega, by omega, ⟨by omega, by omega, by omega⟩, C, y1, y2, y3, by rw [y4, z, zero_zero_mul], by rw [y4]; exact Int.dvd_zero _, 0, by omega, by rw [y4]; decide⟩
    · obtain ⟨q, A, E, d1, nq, E1, E2, E3, E4, F⟩ := quot_words na nb (by omega) (by omega) (by omega) (by omega)
      obtain ⟨r, e, R, v1, v2, v3, C⟩ := rproduct_any nq (Nr.of nb) (by omega) (by omega) (show E + j = E + j - 1074 + 1074 by omega) (by omega)
      obtain ⟨x1, x2, y1, y2, y3, y4, y5, y6⟩ := F r e R.fp R.fe v1 v2
      exact ⟨q, A, E, r, e, x1, x2, d1, nq, by omega, by omega, ⟨by omega, by omega, by omega⟩, C, y1, y2, y3, y4, y5, 1400, by omega, y6⟩
  obtain ⟨q, A, E, r, e, x1, x2, d1, nq, E1, E2, ⟨E3, E4, E5⟩, C, y1, y2, y3, y4, y5, K, hK, y6⟩ := key
  obtain ⟨u1, u2⟩ := nr_facts nq E1 E2
  have hZ := unit_parts nq (Nr.of nb) E3 E4
  have hg := ex_parts nq (Nr.of nb) (by omega) (by omega) E3 E4 E5
  refine ⟨q, x2, _, _, _, d1, ⟨nq.fin, y3, hZ.1, hZ.2, hg, y4, u1, y5, 1490, by omega, abs_up (l := 1490) u2 (by omega), abs_up (l := 1490) y6 (by omega)⟩, fun w => ?_⟩
  have C1 := fun w => rfit2_t a b ha hb h1 h2 w
  have e0 := eq_zero b (fit_fin hb h2)
  rw [decide_eq_false h0] at e0
  have r1 := run_div _ _ _ d1
  have r2 := run_sub _ _ _ y1
  have r3 := run_sub _ _ _ y2
  clear ha hb h1 h2 h0 nb j1 j2 d1 nq E1 E2 E3 E4 E5 y1 y2 y3 y4 y5 y6 hK u1 u2 hZ hg
  go_enter Try.func57, Try.ntmps57
  go_wp2_with (first | (go_at_call 70; ((with_reducible refine (C1 _).mono ?_); rintro e w' ⟨rfl, rfl⟩)) | (go_at_call 77; ((with_reducible refine (C _).mono ?_); rintro e w' ⟨rfl, rfl⟩; unfold ff)))
  go_ret3
  exact ⟨rfl, rfl⟩
theorem rroot_unfit (a : Nat) (ha : a < 18446744073709551616) (h : fitB a = false) (w : World) :
    Calls Try.prog 60 #[.float .f64 a] w fun e w' => e = .returned (ffi 0 0 3) ∧ w = w' := by
  have C1 := fun w => rfit_any a ha w
  rw [h] at C1
  clear ha h
  go_enter Try.func60, Try.ntmps60
  go_wp2_with (go_at_call 31; ((with_reducible refine (C1 _).mono ?_); rintro e w' ⟨rfl, rfl⟩))
  go_ret3
  exact ⟨rfl, rfl⟩
theorem rroot_neg (a : Nat) (ha : a < 18446744073709551616) (h : fitB a = true) (h0 : V a < 0) (w : World) :
    Calls Try.prog 60 #[.float .f64 a] w fun e w' => e = .returned (ffi 0 0 6) ∧ w = w' := by
  have C1 := fun w => rfit_any a ha w
  have e0 := lt_zero a (fit_fin ha h)
  rw [decide_eq_true h0] at e0
  rw [h] at C1
  clear ha h h0
  go_enter Try.func60, Try.ntmps60
  go_wp2_with (go_at_call 31; ((with_reducible refine (C1 _).mono ?_); rintro e w' ⟨rfl, rfl⟩))
  go_ret3
  exact ⟨rfl, rfl⟩
theorem rroot_fit (a : Nat) (ha : a < 18446744073709551616) (h1 : fitB a = true) (h0 : 0 ≤ V a) :
    ∃ q r N Z g, Ieee.double.sqrt a = some q ∧ RemRes a q q q r N Z g ∧ ∀ w, Calls Try.prog 60 #[.float .f64 a] w fun en w' => en = .returned (ffi q r 0) ∧ w = w' := by
  have key : ∃ q A E r e x1 x2, Ieee.double.sqrt a = some q ∧ Nr q A E ∧ 560 ≤ E ∧ E ≤ 1430 ∧ (E + E = E + E - 1074 + 1074 ∧ 50 ≤ E + E - 1074 ∧ E + E - 1074 < 1458) ∧
      (∀ w, Calls Try.prog 77 #[.float .f64 q, .float .f64 q] w fun en w' => en = .returned (ff r e) ∧ w = w') ∧ Ieee.double.sub a r = some x1 ∧ Ieee.double.sub x1 e = some x2 ∧ FinW x2 ∧
      V x2 = V a - A * A * 2 ^ (E + E - 1074) ∧ (2 : Int) ^ 500 ∣ V x2 ∧ ∃ K, K ≤ 1400 ∧ (V x2).natAbs ≤ 2 ^ K := by
    rcases fit_norm ha h1 with z | ⟨s, m, i, na, i1, i2⟩
    · obtain ⟨q, d1, d2, d3⟩ := sqrt_zero (fit_fin ha h1) z
      obtain ⟨E0, hE0⟩ : ∃ E0 : Nat, E0 = 822 := ⟨822, rfl⟩
      have nq : Nr q 0 E0 := Nr.zero d2 d3 E0
      obtain ⟨r, e, R, v1, v2, v3, C⟩ := rproduct_any nq nq (by omega) (by omega) (show E0 + E0 = E0 + E0 - 1074 + 1074 by omega) (by omega)
      obtain ⟨x1, x2, y1, y2, y3, y4⟩ := rem_words (T := 0) (P := RN (0 * 0)) (M := 0 * 0) (fit_fin ha h1) R.fp R.fe (by rw [z]; simp) v1 v2
        (by rw [Int.zero_mul, RN_zero]; exact Rep_zero) (by rw [Int.zero_mul]; exact Rep_zero) (by decide) (by rw [Int.zero_mul, RN_zero]; decide) (by rw [Int.zero_mul]; decide) (show E0 + E0 - 1074 < 1700 by omega)
      rw [Int.zero_mul, Int.sub_self, Int.zero_mul] at y4
      exact ⟨q, 0, E0, r, e, x1, x2, d1, nq, by omega, by omega, ⟨by omega, by omega, by omega⟩, C, y1, y2, y3, by rw [y4, z, zero_zero_mul], by rw [y4]; exact Int.dvd_zero _, 0, by omega, by rw [y4]; decide⟩
    · have hs : s = false := by
        have hv := na.val
        have hp : 0 < m * 2 ^ i := Nat.mul_pos (by have := na.lo; omega) (Nat.two_pow_pos i)
        cases s
        · rfl
        · unfold sv at hv; rw [if_pos rfl] at hv
          generalize m * 2 ^ i = x at *
          omega
      subst hs
      obtain ⟨q, A, E, d1, nq, E1, E2, E3, E4, F⟩ := root_words na (by omega) (by omega)
      obtain ⟨r, e, R, v1, v2, v3, C⟩ := rproduct_any nq nq (by omega) (by omega) (show E + E = E + E - 1074 + 1074 by omega) (by omega)
      obtain ⟨x1, x2, y1, y2, y3, y4, y5, y6⟩ := F r e R.fp R.fe v1 v2
      exact ⟨q, A, E, r, e, x1, x2, d1, nq, by omega, by omega, ⟨by omega, by omega, by omega⟩, C, y1, y2, y3, y4, y5, 1400, by omega, y6⟩
  obtain ⟨q, A, E, r, e, x1, x2, d1, nq, E1, E2, ⟨E3, E4, E5⟩, C, y1, y2, y3, y4, y5, K, hK, y6⟩ := key
  obtain ⟨u1, u2⟩ := nr_facts nq E1 E2
  have hZ := unit_parts nq nq E3 E4
  have hg := ex_parts nq nq (by omega) (by omega) E3 E4 E5
  refine ⟨q, x2, _, _, _, d1, ⟨nq.fin, y3, hZ.1, hZ.2, hg, y4, u1, y5, 1490, by omega, abs_up (l := 1490) u2 (by omega), abs_up (l := 1490) y6 (by omega)⟩, fun w => ?_⟩
  have C1 := fun w => rfit_any a ha w
  have e0 := lt_zero a (fit_fin ha h1)
  rw [decide_eq_false (by omega)] at e0
  rw [h1] at C1
  have S := sqrt_any a q d1
  have r2 := run_sub _ _ _ y1
  have r3 := run_sub _ _ _ y2
  clear ha h1 h0 d1 nq E1 E2 E3 E4 E5 y1 y2 y3 y4 y5 y6 hK u1 u2 hZ hg
  go_enter Try.func60, Try.ntmps60
  go_wp2_with (first | (go_at_call 31; ((with_reducible refine (C1 _).mono ?_); rintro e w' ⟨rfl, rfl⟩)) | (go_at_call 81; ((with_reducible refine (S _).mono ?_); rintro e w' ⟨rfl, rfl⟩)) | (go_at_call 77; ((with_reducible refine (C _).mono ?_); rintro e w' ⟨rfl, rfl⟩; unfold ff)))
  go_ret3
  exact ⟨rfl, rfl⟩
end Go.Proofs.Ytkfagpahbojigaa
