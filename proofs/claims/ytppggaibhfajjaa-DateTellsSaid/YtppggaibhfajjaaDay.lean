/- Proved here: what Days answers on both sides: one and the same word, or the error, over the translated code. -/
import Derived.Test.YtppggaibhfajjaaDac
import Derived.Laws.FloatArith
import Derived.Laws.FloatBits
import Derived.WalkLawsBesides
import Derived.Laws.Externs
namespace Go.Proofs.Ytppggaibhfajjaa
open Go.ChangeShapes Go.WideShapes Go.ChangeAt Go.RowKit

theorem not_nan (neg : Bool) (r : Nat) (h : r ≤ 9218868437227405312) : (Ieee.double.read (Ieee.double.word neg r)).isNaN = false := by
  have e1 : Ieee.double.signWeight = 9223372036854775808 := by decide
  have e2 : Ieee.double.infRung = 9218868437227405312 := by decide
  have e3 : (if neg = true then 9223372036854775808 + r else r) % 9223372036854775808 = r := by split <;> omega
  unfold Ieee.Format.read Ieee.Format.word
  rw [e1, e2]
  simp only [e3]
  by_cases h1 : r < Ieee.double.binade
  · rw [if_pos h1]; rfl
  · rw [if_neg h1]
    by_cases h2 : r < 9218868437227405312
    · rw [if_pos h2]; rfl
    · rw [if_neg h2, if_pos (by omega)]; rfl
theorem near_not_nan (t : Int) : (Ieee.double.read (FloatKind.f64.nearest t)).isNaN = false := by
  show (Ieee.double.read (Ieee.double.nearest (decide (t < 0)) t.natAbs 0)).isNaN = false
  unfold Ieee.Format.nearest
  split
  · exact not_nan _ 0 (by decide)
  · have e2 : Ieee.double.infRung = 9218868437227405312 := by decide
    rw [e2]
    exact not_nan _ _ (Nat.min_le_right _ _)
theorem days_word (t : Int) : ∃ r, Ieee.double.div (FloatKind.f64.nearest t) 4724276009111650304 = some r := by
  have h := near_not_nan t
  have e : Ieee.double.read 4724276009111650304 = .number false 4503599627370496 (-26) := by decide +kernel
  unfold Ieee.Format.div
  rw [e]
  revert h
  generalize Ieee.double.read (FloatKind.f64.nearest t) = D
  intro h
  cases D with
  | nan s f => cases h
  | infinity s => exact ⟨_, rfl⟩
  | number s m i =>
    unfold Ieee.Datum.quotient
    simp only
    rw [if_neg (by decide)]
    exact ⟨_, rfl⟩
theorem run_div8 (x y r : Nat) (h : Ieee.double.div x y = some r) (t : TypeId) (w : World) : (binOp .quo t (.float .f64 x) (.float .f64 y)).run Try.prog w = .ok (.float .f64 r) w :=
  run_float_arith w .quo t .f64 x y r h
theorem x36d (b : Nat) (w : World) : (callFunc 36 #[.float .f64 b]).run Try.prog w = .ok (.value (.int .u64 (b : Int))) w := by
  rw [run_callFunc_extern (e := Extern.MathFloatBits.float64bits) Try.func36 (by kernel_rfl) (by kernel_rfl) (by kernel_rfl) (by kernel_rfl)]; rfl
theorem same_word (a : Nat) (w : World) : Calls Try.prog 18 #[.float .f64 a, .float .f64 a] w fun e w' => e = .returned (.bool true) ∧ w = w' := by
  have t : ((a : Int) == (a : Int)) = true := by simp
  go_enter Try.func18, Try.ntmps18
  go_wp2_with (simp only [x36d])
  go_ret
  exact ⟨rfl, rfl⟩
/-- a word and an error for both -/
theorem days_run (t : Int) : ∃ (r : Nat) (k : Int), ∀ w, (Calls Try.prog 16 #[.int .i64 t] w fun e w' => e = .returned (.tuple #[.float .f64 r, .int .i64 k]) ∧ w = w') ∧ (Calls Try.prog 17 #[.int .i64 t] w fun e w' => e = .returned (.tuple #[.float .f64 r, .int .i64 k]) ∧ w = w') := by
  cases hI : isI t with
  | true =>
    obtain ⟨g1, g2⟩ := isI_b hI
    obtain ⟨r, hr⟩ := days_word t
    refine ⟨r, 0, fun w => ⟨?_, ?_⟩⟩
    · have I := fun w => isinst_run t w
      rw [hI] at I
      have D := fun T w => run_div8 (floatOfInt FloatKind.f64 t) _ _ hr T w
      clear hr g1 g2 hI
      go_enter Try.func16, Try.ntmps16
      go_wp2_with (go_at_call 30; ((with_reducible refine (I _).mono ?_); rintro e w' ⟨rfl, rfl⟩))
      go_ret2
      exact ⟨rfl, rfl⟩
    · have t1 : decide (t < -1125899906842624) = false := decide_eq_false (by omega)
      have t2 : decide (1125899906842624 < t) = false := decide_eq_false (by omega)
      have D := fun T w => run_div8 (floatOfInt FloatKind.f64 t) _ _ hr T w
      clear hr g1 g2 hI
      go_enter Try.func17, Try.ntmps17
      go_wp2_with fail
      go_ret2
      exact ⟨rfl, rfl⟩
  | false =>
    refine ⟨0, 80, fun w => ⟨?_, ?_⟩⟩
    · have I := fun w => isinst_run t w
      rw [hI] at I
      clear hI
      go_enter Try.func16, Try.ntmps16
      go_wp2_with (go_at_call 30; ((with_reducible refine (I _).mono ?_); rintro e w' ⟨rfl, rfl⟩))
      go_ret2
      exact ⟨rfl, rfl⟩
    · have t12 : decide (t < -1125899906842624) = true ∨ (decide (t < -1125899906842624) = false ∧ decide (1125899906842624 < t) = true) := by
        rcases isI_n hI with h | h
        · exact .inl (decide_eq_true h)
        · exact .inr ⟨decide_eq_false (by omega), decide_eq_true h⟩
      clear hI
      rcases t12 with t1 | ⟨t1, t2⟩
      all_goals
        go_enter Try.func17, Try.ntmps17
        go_wp2_with fail
        go_ret2
        exact ⟨rfl, rfl⟩
end Go.Proofs.Ytppggaibhfajjaa
