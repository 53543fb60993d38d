/- Proved here: what the laws of layer 2 have in common: the fixed fact, a negated number, a long sum at its start. -/
import Derived.Test.YtbnifpggcfcmhaaTwp
namespace Go.Proofs.Ytbnifpggcfcmhaa
open Go.ChangeShapes Go.WideShapes Go.ChangeAt Go.RowKit Ieee.Own

theorem xneg (b : Nat) (hb : b < 18446744073709551616) (w : World) : (Op.unary .neg (.float .f64 b)).run Try.prog w = .ok (.float .f64 (negW b)) w := by
  unfold negW; rw [← xor_top64 b hb]; rfl
theorem sum_at (w : World) : Calls Try.prog 11 #[.float .f64 4607182418800017408, .float .f64 4336966441157787648] w fun e w' => e = .returned (ffi 4607182418800017408 4336966441157787648 0) ∧ w = w' := by
  have F0 := fun w => fit_any 4607182418800017408 (by omega) w
  have F1 := fun w => fit_any 4336966441157787648 (by omega) w
  rw [show fitB 4607182418800017408 = true by decide] at F0
  rw [show fitB 4336966441157787648 = true by decide] at F1
  have r1 := run_add 4607182418800017408 4336966441157787648 4607182418800017408 (by decide +kernel)
  have r2 := run_sub 4607182418800017408 4607182418800017408 0 (by decide +kernel)
  have r3 := run_sub 4607182418800017408 0 4607182418800017408 (by decide +kernel)
  have r4 := run_sub 4336966441157787648 0 4336966441157787648 (by decide +kernel)
  have r5 := run_add 0 4336966441157787648 4336966441157787648 (by decide +kernel)
  go_enter Try.func11, Try.ntmps11
  go_wp2_with (first | (go_at_call 28; ((with_reducible refine (F0 _).mono ?_); rintro e w' ⟨rfl, rfl⟩)) | (go_at_call 28; ((with_reducible refine (F1 _).mono ?_); rintro e w' ⟨rfl, rfl⟩)))
  go_ret3
  exact ⟨rfl, rfl⟩
theorem awake_any (w : World) : Calls Try.prog 10 #[] w fun e w' => e = .returned (.bool true) ∧ w = w' := by
  have e1 : (FloatKind.f64.format.order 4607182418800017408 4607182418800017408 == some Ordering.eq) = true := by decide +kernel
  have e2 : (FloatKind.f64.format.order 4336966441157787648 4336966441157787648 == some Ordering.eq) = true := by decide +kernel
  go_enter Try.func10, Try.ntmps10
  go_wp2_with (go_at_call 11; ((with_reducible refine (sum_at _).mono ?_); rintro e w' ⟨rfl, rfl⟩; unfold ffi))
  go_ret
  exact ⟨rfl, rfl⟩
theorem start_holds (w : World) : Holds w.heap.size (w.alloc (.cells #[.int .u64 0, .int .u64 0, .int .u64 0, .int .u64 0, .int .u64 0, .int .u64 0, .int .u64 0, .int .u64 0, .int .u64 0, .int .u64 0, .int .u64 0, .int .u64 0, .int .u64 0, .int .u64 0, .int .u64 0, .int .u64 0, .int .u64 0, .int .u64 0, .int .u64 0, .int .u64 0, .int .u64 0, .int .u64 0, .int .u64 0, .int .u64 0] 33)) 0 (fun _ => 0) := by
  refine ⟨fun _ => by omega, by simp, ?_, ?_, ?_⟩
  · intro i hi
    rw [World.cell?_alloc_at _ _ _ _ rfl]
    have : i = 0 ∨ i = 1 ∨ i = 2 ∨ i = 3 ∨ i = 4 ∨ i = 5 ∨ i = 6 ∨ i = 7 ∨ i = 8 ∨ i = 9 ∨ i = 10 ∨ i = 11 ∨ i = 12 ∨ i = 13 ∨ i = 14 ∨ i = 15 ∨ i = 16 ∨ i = 17 ∨ i = 18 ∨ i = 19 ∨ i = 20 ∨ i = 21 ∨ i = 22 ∨ i = 23 := by omega
    rcases this with rfl | rfl | rfl | rfl | rfl | rfl | rfl | rfl | rfl | rfl | rfl | rfl | rfl | rfl | rfl | rfl | rfl | rfl | rfl | rfl | rfl | rfl | rfl | rfl <;> rfl
  · intro i hi; exact World.frozen?_alloc_at _ _ _ _ rfl
  · rw [sumW_of_zero _ 24 (fun _ _ => rfl), Int.sub_zero]; exact Int.dvd_zero _

/-- what is asked of a word that is put to a long sum, negated -/
theorem neg_good {b k : Nat} (hb : FinW b) (hd : (2 : Int) ^ 500 ∣ V b) (hu : (V b).natAbs ≤ 2 ^ k) (hk : k ≤ 1490) :
    FinW (negW b) ∧ ∃ X, V (negW b) = X * 2 ^ 50 ∧ V b = -X * 2 ^ 50 ∧ (mg 52 (negW b % 9223372036854775808) = 0 ∨ 50 ≤ ex 52 (negW b % 9223372036854775808) ∧ ex 52 (negW b % 9223372036854775808) < 1522) := by
  have f := negW_fin hb
  have v := negW_V hb
  obtain ⟨⟨X, x⟩, y, -⟩ := good (k := k) f (by rw [v]; exact Int.dvd_neg.2 hd) (by rw [v, Int.natAbs_neg]; exact hu) hk
  exact ⟨f, X, x, by rw [Int.neg_mul, ← x, v]; omega, y⟩
theorem eq_self (s : Nat) (h : FinW s) : (FloatKind.f64.format.order s s == some Ordering.eq) = true := by
  rw [o_eql s s h.1 h.1]
  exact decide_eq_true ⟨by have := h.2; unfold nn; omega, by have := h.2; unfold nn; omega, rfl⟩
end Go.Proofs.Ytbnifpggcfcmhaa
