/- Proved here: what the short calls on whole numbers of the calendar answer, the program's and the reference's, over the translated code. -/
import Derived.Test.YtppggaibhfajjaaDam
import Derived.WalkKit
import Derived.ProofKit
import Derived.OpenShut
import Derived.IntWalk
import Derived.Deep.QuietTactic
import Derived.BigQuiet
import Derived.OwnWalk
import Derived.Carry
import Derived.SizedLaws
namespace Go.Proofs.Ytppggaibhfajjaa
open Go.ChangeShapes Go.WideShapes Go.ChangeAt Go.RowKit

theorem ret_i {k : IntKind} {a b : Int} (h : a = b) : Ending.returned (.int k a) = .returned (.int k b) := by rw [h]
theorem ret_bo {a b : Bool} (h : a = b) : Ending.returned (.bool a) = .returned (.bool b) := by rw [h]

theorem floor_run (a b : Int) (hb : 0 < b) (hb2 : b ≤ 67108864) (h1 : -9000000000000000000 ≤ a) (h2 : a ≤ 9000000000000000000) (w : World) :
    Calls Try.prog 28 #[.int .i64 a, .int .i64 b] w fun e w' => e = .returned (.int .i64 (a / b)) ∧ w = w' := by
  obtain ⟨q1, q2⟩ := ediv_in hb h1 h2
  have b0 : (b == 0) = false := by simp; omega
  by_cases h : a.tmod b < 0
  · obtain ⟨e, _⟩ := floor_neg hb h
    go_enter Try.func28, Try.ntmps28
    go_wp2
    go_ret
    exact ⟨rfl, rfl⟩
  · obtain ⟨e, _⟩ := floor_pos hb h
    go_enter Try.func28, Try.ntmps28
    go_wp2
    go_ret
    exact ⟨rfl, rfl⟩
/-- the reference's floor: the quotient and the rest -/
theorem rfloor_run (a b : Int) (hb : 0 < b) (hb2 : b ≤ 67108864) (h1 : -9000000000000000000 ≤ a) (h2 : a ≤ 9000000000000000000) (w : World) :
    Calls Try.prog 29 #[.int .i64 a, .int .i64 b] w fun e w' => e = .returned (.tuple #[.int .i64 (a / b), .int .i64 (a % b)]) ∧ ∃ n, w' = w.drewN n := by
  obtain ⟨q1, q2⟩ := ediv_in hb h1 h2
  have m1 := Int.emod_nonneg a (b := b) (by omega)
  have m2 := Int.emod_lt_of_pos a hb
  have b0 : (b == 0) = false := by simp; omega
  by_cases h : a.tmod b < 0
  · obtain ⟨e, e'⟩ := floor_neg hb h
    go_enter Try.func29, Try.ntmps29
    go_wp2_with fail
    go_quiet (fail)
    go_wp2_with fail
    go_ret2
    exact ⟨rfl, ⟨_, rfl⟩⟩
  · obtain ⟨e, e'⟩ := floor_pos hb h
    go_enter Try.func29, Try.ntmps29
    go_wp2_with fail
    go_quiet (fail)
    go_wp2_with fail
    go_ret2
    exact ⟨rfl, ⟨_, rfl⟩⟩
theorem isinst_run (t : Int) (w : World) : Calls Try.prog 30 #[.int .i64 t] w fun e w' => e = .returned (.bool (isI t)) ∧ w = w' := by
  by_cases h1 : -1125899906842624 ≤ t
  · have t1 : decide (-1125899906842624 ≤ t) = true := decide_eq_true h1
    by_cases h2 : t ≤ 1125899906842624
    · have t2 : decide (t ≤ 1125899906842624) = true := decide_eq_true h2
      rw [isI_t h1 h2]
      go_enter Try.func30, Try.ntmps30
      go_wp2_with go_in
      go_ret
      exact ⟨rfl, rfl⟩
    · have t2 : decide (t ≤ 1125899906842624) = false := decide_eq_false h2
      rw [isI_f (by omega)]
      go_enter Try.func30, Try.ntmps30
      go_wp2_with go_in
      go_ret
      exact ⟨rfl, rfl⟩
  · have t1 : decide (-1125899906842624 ≤ t) = false := decide_eq_false h1
    rw [isI_f (by omega)]
    go_enter Try.func30, Try.ntmps30
    go_wp2_with go_in
    go_ret
    exact ⟨rfl, rfl⟩
theorem within_run (x a b : Int) (w : World) : Calls Try.prog 35 #[.int .i64 x, .int .i64 a, .int .i64 b] w fun e w' => e = .returned (.bool (decide (a ≤ x) && decide (x ≤ b))) ∧ w = w' := by
  by_cases h1 : a ≤ x
  · have t1 : decide (a ≤ x) = true := decide_eq_true h1
    by_cases h2 : x ≤ b
    · have t2 : decide (x ≤ b) = true := decide_eq_true h2
      rw [t1, t2]
      clear h1 h2
      go_enter Try.func35, Try.ntmps35
      go_wp2
      go_ret
      exact ⟨rfl, rfl⟩
    · have t2 : decide (x ≤ b) = false := decide_eq_false h2
      rw [t1, t2]
      clear h1 h2
      go_enter Try.func35, Try.ntmps35
      go_wp2
      go_ret
      exact ⟨rfl, rfl⟩
  · have t1 : decide (a ≤ x) = false := decide_eq_false h1
    rw [t1]
    clear h1
    go_enter Try.func35, Try.ntmps35
    go_wp2
    go_ret
    exact ⟨rfl, rfl⟩
/-- the same, answered by a word that is known -/
theorem within_t {x a b : Int} (h1 : a ≤ x) (h2 : x ≤ b) (w : World) : Calls Try.prog 35 #[.int .i64 x, .int .i64 a, .int .i64 b] w fun e w' => e = .returned (.bool true) ∧ w = w' :=
  (within_run x a b w).mono fun e w' ⟨he, hw⟩ => ⟨by rw [he, decide_eq_true h1, decide_eq_true h2]; rfl, hw⟩
theorem within_f {x a b : Int} (h : x < a ∨ b < x) (w : World) : Calls Try.prog 35 #[.int .i64 x, .int .i64 a, .int .i64 b] w fun e w' => e = .returned (.bool false) ∧ w = w' := by
  refine (within_run x a b w).mono fun e w' ⟨he, hw⟩ => ⟨?_, hw⟩
  rw [he]
  rcases h with h | h
  · rw [decide_eq_false (by omega : ¬ a ≤ x)]; rfl
  · rw [decide_eq_false (by omega : ¬ x ≤ b), Bool.and_false]

theorem long_run (y : Int) (w : World) : Calls Try.prog 10 #[.int .i64 y] w fun e w' => e = .returned (.bool (lng y)) ∧ w = w' := by
  obtain ⟨m1, m2⟩ := tmod33 y
  have e := lng_tmod y
  unfold lng
  rw [← e]
  clear e
  have h33 : ((33 : Int) == 0) = false := rfl
  have C := fun w => floor_run (8 * y.tmod 33 + 5) 33 (by decide) (by decide) (by omega) (by omega) w
  have F : Hid (decide (25 ≤ 8 * y.tmod 33 + 5 - 33 * ((8 * y.tmod 33 + 5) / 33)) = decide (25 ≤ (8 * y.tmod 33 + 5) % 33)) := by
    refine decide_eq_decide.2 ?_; omega
  have q1 : -9 ≤ (8 * y.tmod 33 + 5) / 33 := by omega
  have q2 : (8 * y.tmod 33 + 5) / 33 ≤ 9 := by omega
  go_enter Try.func10, Try.ntmps10
  go_wp2_with (go_at_call 28; ((with_reducible refine (C _).mono ?_); rintro e w' ⟨rfl, rfl⟩))
  go_ret
  exact ⟨ret_bo F.out, rfl⟩
theorem rlong_run (y : Int) (w : World) : Calls Try.prog 11 #[.int .i64 y] w fun e w' => e = .returned (.bool (lng y)) ∧ ∃ n, w' = w.drewN n := by
  obtain ⟨m1, m2⟩ := tmod33 y
  have e := lng_tmod y
  unfold lng
  rw [← e]
  clear e
  have C := fun w => rfloor_run (8 * y.tmod 33 + 5) 33 (by decide) (by decide) (by omega) (by omega) w
  go_enter Try.func11, Try.ntmps11
  go_wp2_with (go_at_call 29; ((with_reducible refine (C _).mono ?_); rintro e w' ⟨rfl, ⟨n, rfl⟩⟩))
  go_ret
  exact ⟨rfl, ⟨_, rfl⟩⟩
theorem yearof_run (d : Int) (h1 : -100000000 ≤ d) (h2 : d ≤ 100000000) (w : World) : Calls Try.prog 31 #[.int .i64 d] w fun e w' => e = .returned (.int .i64 (yof d)) ∧ w = w' := by
  unfold yof
  have C := fun w => floor_run (33 * (d + 1) - 6) 12053 (by decide) (by decide) (by omega) (by omega) w
  go_enter Try.func31, Try.ntmps31
  go_wp2_with (go_at_call 28; ((with_reducible refine (C _).mono ?_); rintro e w' ⟨rfl, rfl⟩))
  go_ret
  exact ⟨rfl, rfl⟩
theorem firstday_run (y : Int) (h1 : -100000000 ≤ y) (h2 : y ≤ 100000000) (w : World) : Calls Try.prog 32 #[.int .i64 y] w fun e w' => e = .returned (.int .i64 (fdy y)) ∧ w = w' := by
  unfold fdy
  have C := fun w => floor_run (12053 * y + 5) 33 (by decide) (by decide) (by omega) (by omega) w
  go_enter Try.func32, Try.ntmps32
  go_wp2_with (go_at_call 28; ((with_reducible refine (C _).mono ?_); rintro e w' ⟨rfl, rfl⟩))
  go_ret
  exact ⟨rfl, rfl⟩
theorem before_run (y : Int) (h1 : -100000000 ≤ y) (h2 : y ≤ 100000000) (w : World) : Calls Try.prog 33 #[.int .i64 y] w fun e w' => e = .returned (.int .i64 (fdy y)) ∧ ∃ n, w' = w.drewN n := by
  rw [← before_is]
  have C := fun w => rfloor_run (8 * y + 5) 33 (by decide) (by decide) (by omega) (by omega) w
  have q1 : -900000000 ≤ (8 * y + 5) / 33 := by omega
  have q2 : (8 * y + 5) / 33 ≤ 900000000 := by omega
  go_enter Try.func33, Try.ntmps33
  go_wp2_with (go_at_call 29; ((with_reducible refine (C _).mono ?_); rintro e w' ⟨rfl, ⟨n, rfl⟩⟩))
  go_ret
  exact ⟨rfl, ⟨_, rfl⟩⟩
theorem daysof_run (y m : Int) (w : World) : Calls Try.prog 40 #[.int .i64 y, .int .i64 m] w fun e w' => e = .returned (.int .i64 (mLen y m)) ∧ w = w' := by
  unfold mLen
  have C := fun w => long_run y w
  by_cases h : m < 14
  · rw [if_pos h]
    go_enter Try.func40, Try.ntmps40
    go_wp2_with fail
    go_ret
    exact ⟨rfl, rfl⟩
  · rw [if_neg h]
    cases hl : lng y with
    | true =>
      rw [hl] at C
      rw [if_pos rfl]
      clear hl
      go_enter Try.func40, Try.ntmps40
      go_wp2_with (go_at_call 10; ((with_reducible refine (C _).mono ?_); rintro e w' ⟨rfl, rfl⟩))
      go_ret
      exact ⟨rfl, rfl⟩
    | false =>
      rw [hl] at C
      rw [if_neg (by decide)]
      clear hl
      go_enter Try.func40, Try.ntmps40
      go_wp2_with (go_at_call 10; ((with_reducible refine (C _).mono ?_); rintro e w' ⟨rfl, rfl⟩))
      go_ret
      exact ⟨rfl, rfl⟩
end Go.Proofs.Ytppggaibhfajjaa
