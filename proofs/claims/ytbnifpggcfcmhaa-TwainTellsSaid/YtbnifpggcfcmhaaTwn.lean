/- Proved here: what twain's calls answer, over the translated code; each under the conditions of its theorem. -/
import Derived.Test.YtbnifpggcfcmhaaFlo
import Derived.Test.YtbnifpggcfcmhaaWrd
namespace Go.Proofs.Ytbnifpggcfcmhaa
open Go.ChangeShapes Go.WideShapes Go.ChangeAt Go.RowKit Ieee.Own

/-! ### fit -/
theorem fit_any (b : Nat) (hb : b < 18446744073709551616) (w : World) :
    Calls Try.prog 28 #[.float .f64 b] w fun e w' => e = .returned (.bool (fitB b)) ∧ w = w' := by
  have hm : b % 9223372036854775808 < 9223372036854775808 := by omega
  have e1 := o_eql (b % 9223372036854775808) 0 (by omega) (by omega)
  have e2 := o_leq 3706462493325918208 (b % 9223372036854775808) (by omega) (by omega)
  have e3 := o_leq (b % 9223372036854775808) 5507902344274116608 (by omega) (by omega)
  rw [key_low hm, key_low (by omega)] at e1 e2 e3
  have HA := fun w => abs_any b hb w
  unfold fitB
  clear hb
  generalize b % 9223372036854775808 = m at *
  by_cases c1 : m = 0
  · rw [decide_eq_true (by unfold nn; omega)] at e1
    rw [decide_eq_true (Or.inl c1)]
    clear hm e2 e3 c1
    go_enter Try.func28, Try.ntmps28
    go_wp2_with (go_at_call 26; ((with_reducible refine (HA _).mono ?_); rintro e w' ⟨rfl, rfl⟩))
    go_ret
    exact ⟨rfl, rfl⟩
  · rw [decide_eq_false (by omega)] at e1
    by_cases c2 : 3706462493325918208 ≤ m ∧ m ≤ 9218868437227405312
    · rw [decide_eq_true (by unfold nn; omega)] at e2
      by_cases c3 : m ≤ 5507902344274116608
      · rw [decide_eq_true (by unfold nn; omega)] at e3
        rw [decide_eq_true (by omega)]
        clear hm c1 c2 c3
        go_enter Try.func28, Try.ntmps28
        go_wp2_with (go_at_call 26; ((with_reducible refine (HA _).mono ?_); rintro e w' ⟨rfl, rfl⟩))
        go_ret
        exact ⟨rfl, rfl⟩
      · rw [decide_eq_false (by unfold nn; omega)] at e3
        rw [decide_eq_false (by omega)]
        clear hm c1 c2 c3
        go_enter Try.func28, Try.ntmps28
        go_wp2_with (go_at_call 26; ((with_reducible refine (HA _).mono ?_); rintro e w' ⟨rfl, rfl⟩))
        go_ret
        exact ⟨rfl, rfl⟩
    · rw [decide_eq_false (by unfold nn; omega)] at e2
      rw [decide_eq_false (by omega)]
      clear hm c1 c2 e3
      go_enter Try.func28, Try.ntmps28
      go_wp2_with (go_at_call 26; ((with_reducible refine (HA _).mono ?_); rintro e w' ⟨rfl, rfl⟩))
      go_ret
      exact ⟨rfl, rfl⟩

theorem rfit_any (b : Nat) (hb : b < 18446744073709551616) (w : World) :
    Calls Try.prog 20 #[.float .f64 b] w fun e w' => e = .returned (.bool (fitB b)) ∧ w = w' := by
  have H := andn63 b hb
  unfold fitB
  clear hb
  generalize b % 9223372036854775808 = m at *
  by_cases c1 : m = 0
  · rw [decide_eq_true (by omega)]
    subst c1
    go_enter Try.func20, Try.ntmps20
    go_wp2_with (simp only [x34])
    go_ret
    exact ⟨rfl, rfl⟩
  have t1 : ((m : Int) == 0) = false := ieq_f (by omega)
  by_cases c2 : 3706462493325918208 ≤ m
  · have t2 : decide ((m : Int) ≥ 3706462493325918208) = true := decide_eq_true (by omega)
    by_cases c3 : m ≤ 5507902344274116608
    · have t3 : decide ((m : Int) ≤ 5507902344274116608) = true := decide_eq_true (by omega)
      rw [decide_eq_true (by omega)]
      clear c1 c2 c3
      go_enter Try.func20, Try.ntmps20
      go_wp2_with (simp only [x34])
      go_ret
      exact ⟨rfl, rfl⟩
    · have t3 : decide ((m : Int) ≤ 5507902344274116608) = false := decide_eq_false (by omega)
      rw [decide_eq_false (by omega)]
      clear c1 c2 c3
      go_enter Try.func20, Try.ntmps20
      go_wp2_with (simp only [x34])
      go_ret
      exact ⟨rfl, rfl⟩
  · have t2 : decide ((m : Int) ≥ 3706462493325918208) = false := decide_eq_false (by omega)
    rw [decide_eq_false (by omega)]
    clear c1 c2
    go_enter Try.func20, Try.ntmps20
    go_wp2_with (simp only [x34])
    go_ret
    exact ⟨rfl, rfl⟩

/-! ### the operations, as the walk takes them -/
theorem run_add (x y r : Nat) (h : Ieee.double.add x y = some r) (t : TypeId) (w : World) : (binOp .add t (.float .f64 x) (.float .f64 y)).run Try.prog w = .ok (.float .f64 r) w :=
  run_float_arith w .add t .f64 x y r h
theorem run_sub (x y r : Nat) (h : Ieee.double.sub x y = some r) (t : TypeId) (w : World) : (binOp .sub t (.float .f64 x) (.float .f64 y)).run Try.prog w = .ok (.float .f64 r) w :=
  run_float_arith w .sub t .f64 x y r h
theorem run_mul (x y r : Nat) (h : Ieee.double.mul x y = some r) (t : TypeId) (w : World) : (binOp .mul t (.float .f64 x) (.float .f64 y)).run Try.prog w = .ok (.float .f64 r) w :=
  run_float_arith w .mul t .f64 x y r h
theorem run_div (x y r : Nat) (h : Ieee.double.div x y = some r) (t : TypeId) (w : World) : (binOp .quo t (.float .f64 x) (.float .f64 y)).run Try.prog w = .ok (.float .f64 r) w :=
  run_float_arith w .quo t .f64 x y r h

/-- three results: two numbers and an error's number -/
def ffi (a b : Nat) (c : Int) : Value := .tuple #[.float .f64 a, .float .f64 b, .int .i64 c]

theorem sum_unfit (a b : Nat) (ha : a < 18446744073709551616) (hb : b < 18446744073709551616) (h : fitB a = false ∨ fitB b = false) (w : World) :
    Calls Try.prog 11 #[.float .f64 a, .float .f64 b] w fun e w' => e = .returned (ffi 0 0 3) ∧ w = w' := by
  have C1 := fun w => fit_any a ha w
  have C2 := fun w => fit_any b hb w
  clear ha hb
  by_cases h1 : fitB a = false
  · rw [h1] at C1
    clear h h1
    go_enter Try.func11, Try.ntmps11
    go_wp2_with (first | (go_at_call 28; ((with_reducible refine (C1 _).mono ?_); rintro e w' ⟨rfl, rfl⟩)) | (go_at_call 28; ((with_reducible refine (C2 _).mono ?_); rintro e w' ⟨rfl, rfl⟩)))
    go_ret3
    exact ⟨rfl, rfl⟩
  · have h2 : fitB b = false := h.resolve_left h1
    rw [Bool.not_eq_false] at h1
    rw [h1] at C1
    rw [h2] at C2
    clear h h1 h2
    go_enter Try.func11, Try.ntmps11
    go_wp2_with (first | (go_at_call 28; ((with_reducible refine (C1 _).mono ?_); rintro e w' ⟨rfl, rfl⟩)) | (go_at_call 28; ((with_reducible refine (C2 _).mono ?_); rintro e w' ⟨rfl, rfl⟩)))
    go_ret3
    exact ⟨rfl, rfl⟩

/-- a sum's results -/
structure SumRes (a b s e : Nat) : Prop where
  op : Ieee.double.add a b = some s
  fs : FinW s
  fe : FinW e
  vs : V s = RN (V a + V b)
  ve : V e = V a + V b - V s

theorem sum_fit (a b : Nat) (ha : a < 18446744073709551616) (hb : b < 18446744073709551616) (h1 : fitB a = true) (h2 : fitB b = true) :
    ∃ s e, SumRes a b s e ∧ ((2 : Int) ^ 500 ∣ V s ∧ (2 : Int) ^ 500 ∣ V e ∧ ∃ K, K ≤ 1490 ∧ (V s).natAbs ≤ 2 ^ K ∧ (V e).natAbs ≤ 2 ^ K) ∧ ∀ w, Calls Try.prog 11 #[.float .f64 a, .float .f64 b] w fun en w' => en = .returned (ffi s e 0) ∧ w = w' := by
  obtain ⟨s, c, t1, t2, t3, e, o1, o2, o3, o4, o5, o6, f1, f2, v1, v2⟩ := two_sum_words (k := 1275) (fit_fin ha h1) (fit_fin hb h2) (fit_abs (k := 1275) ha h1 (Nat.le_refl _)) (fit_abs (k := 1275) hb h2 (Nat.le_refl _)) (by omega)
  obtain ⟨z1, z2, z3, z4⟩ := sum_facts (k := 1275) v1 v2 (fit_dvd ha h1) (fit_dvd hb h2) (fit_abs (k := 1275) ha h1 (Nat.le_refl _)) (fit_abs (k := 1275) hb h2 (Nat.le_refl _))
  refine ⟨s, e, ⟨o1, f1, f2, v1, v2⟩, ⟨z1, z2, _, by decide, z3, z4⟩, fun w => ?_⟩
  clear z1 z2 z3 z4
  have C1 := fun w => fit_any a ha w
  have C2 := fun w => fit_any b hb w
  rw [h1] at C1
  rw [h2] at C2
  have r1 := run_add _ _ _ o1
  have r2 := run_sub _ _ _ o2
  have r3 := run_sub _ _ _ o3
  have r4 := run_sub _ _ _ o4
  have r5 := run_sub _ _ _ o5
  have r6 := run_add _ _ _ o6
  clear o1 o2 o3 o4 o5 o6 f1 f2 v1 v2 ha hb h1 h2
  go_enter Try.func11, Try.ntmps11
  go_wp2_with (first | (go_at_call 28; ((with_reducible refine (C1 _).mono ?_); rintro e w' ⟨rfl, rfl⟩)) | (go_at_call 28; ((with_reducible refine (C2 _).mono ?_); rintro e w' ⟨rfl, rfl⟩)))
  go_ret3
  exact ⟨rfl, rfl⟩
end Go.Proofs.Ytbnifpggcfcmhaa
