/- Proved here: what the reference's and the library's small calls on numbers answer, over the translated code; each under the conditions of its theorem. -/
import Derived.Test.YtbnifpggcfcmhaaAccP
namespace Go.Proofs.Ytbnifpggcfcmhaa
open Go.ChangeShapes Go.WideShapes Go.ChangeAt Go.RowKit Ieee.Own

theorem ret_f {k : FloatKind} {a b : Nat} (h : a = b) : Ending.returned (.float k a) = .returned (.float k b) := by rw [h]
theorem ret_b {a b : Bool} (h : a = b) : Ending.returned (.bool a) = .returned (.bool b) := by rw [h]
theorem x40 (n : Int) (w : World) : (callFunc 41 #[.int .u64 n]).run Try.prog w = .ok (.value (.float .f64 n.toNat)) w := by
  rw [run_callFunc_extern (e := Extern.MathFloatBits.float64frombits) Try.func41 (by kernel_rfl) (by kernel_rfl) (by kernel_rfl) (by kernel_rfl)]; rfl

/-! ### comparisons in plain numbers -/
def nn (a : Nat) : Prop := a % 9223372036854775808 ≤ 9218868437227405312
instance (a : Nat) : Decidable (nn a) := inferInstanceAs (Decidable (_ ≤ _))
theorem o_lss (a b : Nat) (ha : a < 18446744073709551616) (hb : b < 18446744073709551616) :
    (FloatKind.f64.format.order a b == some Ordering.lt) = decide (nn a ∧ nn b ∧ key64 a < key64 b) := by
  show (Ieee.double.order a b == some Ordering.lt) = _
  by_cases h : nn a ∧ nn b
  · rw [order64 a b ha hb h.1 h.2, cmp_lt]; simp [h]
  · rw [order64_nan a b (by unfold nn at h; omega)]; symm; simp; intro h1 h2; exact absurd ⟨h1, h2⟩ h
theorem o_gtr (a b : Nat) (ha : a < 18446744073709551616) (hb : b < 18446744073709551616) :
    (FloatKind.f64.format.order a b == some Ordering.gt) = decide (nn a ∧ nn b ∧ key64 b < key64 a) := by
  show (Ieee.double.order a b == some Ordering.gt) = _
  by_cases h : nn a ∧ nn b
  · rw [order64 a b ha hb h.1 h.2, cmp_gt]; simp [h]
  · rw [order64_nan a b (by unfold nn at h; omega)]; symm; simp; intro h1 h2; exact absurd ⟨h1, h2⟩ h
theorem o_eql (a b : Nat) (ha : a < 18446744073709551616) (hb : b < 18446744073709551616) :
    (FloatKind.f64.format.order a b == some Ordering.eq) = decide (nn a ∧ nn b ∧ key64 a = key64 b) := by
  show (Ieee.double.order a b == some Ordering.eq) = _
  by_cases h : nn a ∧ nn b
  · rw [order64 a b ha hb h.1 h.2, cmp_eq]; simp [h]
  · rw [order64_nan a b (by unfold nn at h; omega)]; symm; simp; intro h1 h2; exact absurd ⟨h1, h2⟩ h
theorem o_neq (a b : Nat) (ha : a < 18446744073709551616) (hb : b < 18446744073709551616) :
    (FloatKind.f64.format.order a b != some Ordering.eq) = !decide (nn a ∧ nn b ∧ key64 a = key64 b) := by
  rw [← o_eql a b ha hb]; rfl
theorem o_leq (a b : Nat) (ha : a < 18446744073709551616) (hb : b < 18446744073709551616) :
    (FloatKind.f64.format.order a b == some Ordering.lt || FloatKind.f64.format.order a b == some Ordering.eq) = decide (nn a ∧ nn b ∧ key64 a ≤ key64 b) := by
  rw [o_lss a b ha hb, o_eql a b ha hb, Bool.eq_iff_iff]
  simp only [Bool.or_eq_true, decide_eq_true_eq]
  constructor
  · rintro (⟨h1, h2, h3⟩ | ⟨h1, h2, h3⟩)
    · exact ⟨h1, h2, by omega⟩
    · exact ⟨h1, h2, by omega⟩
  · rintro ⟨h1, h2, h3⟩
    by_cases h : key64 a < key64 b
    · exact Or.inl ⟨h1, h2, h⟩
    · exact Or.inr ⟨h1, h2, by omega⟩
theorem o_geq (a b : Nat) (ha : a < 18446744073709551616) (hb : b < 18446744073709551616) :
    (FloatKind.f64.format.order a b == some Ordering.gt || FloatKind.f64.format.order a b == some Ordering.eq) = decide (nn a ∧ nn b ∧ key64 b ≤ key64 a) := by
  rw [o_gtr a b ha hb, o_eql a b ha hb, Bool.eq_iff_iff]
  simp only [Bool.or_eq_true, decide_eq_true_eq]
  constructor
  · rintro (⟨h1, h2, h3⟩ | ⟨h1, h2, h3⟩)
    · exact ⟨h1, h2, by omega⟩
    · exact ⟨h1, h2, by omega⟩
  · rintro ⟨h1, h2, h3⟩
    by_cases h : key64 b < key64 a
    · exact Or.inl ⟨h1, h2, h⟩
    · exact Or.inr ⟨h1, h2, by omega⟩
theorem key_low {m : Nat} (h : m < 9223372036854775808) : key64 m = m := by unfold key64; simp [h]

theorem abs_any (b : Nat) (h : b < 18446744073709551616) (w : World) :
    Calls Try.prog 26 #[.float .f64 b] w fun e w' => e = .returned (.float .f64 (b % 9223372036854775808)) ∧ w = w' := by
  have H := Lib.hid (andn63 b h)
  go_enter Try.func26, Try.ntmps26
  go_wp2_with (simp only [x34, x40])
  go_ret
  exact ⟨ret_f (by rw [H.out]; rfl), rfl⟩

/-! ### Ldexp, where it is called -/
theorem ldexp_lo (w : World) : Calls Try.prog 36 #[.float .f64 4607182418800017408, .int .i64 (-900)] w fun e w' => e = .returned (.float .f64 553942754166571008) ∧ w = w' := by
  have A : ∀ w, Calls Try.prog 26 #[.float .f64 4607182418800017408] w fun e w' => e = .returned (.float .f64 4607182418800017408) ∧ w = w' := fun w => abs_any _ (by omega) w
  have e1 : (FloatKind.f64.format.order 4607182418800017408 0 == some Ordering.eq) = false := by decide +kernel
  have e2 : (FloatKind.f64.format.order 4607182418800017408 9218868437227405311 == some Ordering.gt) = false := by decide +kernel
  have e3 : (FloatKind.f64.format.order 4607182418800017408 4607182418800017408 != some Ordering.eq) = false := by decide +kernel
  have e4 : (FloatKind.f64.format.order 4607182418800017408 4503599627370496 == some Ordering.lt) = false := by decide +kernel
  have e5 : ∀ t w, (binOp .mul t (.float .f64 4607182418800017408) (.float .f64 553942754166571008)).run Try.prog w = .ok (.float .f64 553942754166571008) w := fun t w => run_float_arith w .mul t .f64 _ _ _ (by decide +kernel)
  have k1 : bits BinOp.and IntKind.i64 1023 2047 = 1023 := by decide +kernel
  have k2 : bits BinOp.andNot IntKind.u64 4607182418800017408 9218868437227405312 = 0 := by decide +kernel
  have k3 : bits BinOp.or IntKind.u64 0 553942754166571008 = 553942754166571008 := by decide +kernel
  go_enter Try.func36, Try.ntmps36
  go_wp2_with (first | (go_at_call 26; ((with_reducible refine (A _).mono ?_); rintro e w' ⟨rfl, rfl⟩)) | simp only [x34, x40] | go_in)
  go_ret
  exact ⟨rfl, rfl⟩
theorem ldexp_hi (w : World) : Calls Try.prog 36 #[.float .f64 4607182418800017408, .int .i64 (420)] w fun e w' => e = .returned (.float .f64 6498694262295625728) ∧ w = w' := by
  have A : ∀ w, Calls Try.prog 26 #[.float .f64 4607182418800017408] w fun e w' => e = .returned (.float .f64 4607182418800017408) ∧ w = w' := fun w => abs_any _ (by omega) w
  have e1 : (FloatKind.f64.format.order 4607182418800017408 0 == some Ordering.eq) = false := by decide +kernel
  have e2 : (FloatKind.f64.format.order 4607182418800017408 9218868437227405311 == some Ordering.gt) = false := by decide +kernel
  have e3 : (FloatKind.f64.format.order 4607182418800017408 4607182418800017408 != some Ordering.eq) = false := by decide +kernel
  have e4 : (FloatKind.f64.format.order 4607182418800017408 4503599627370496 == some Ordering.lt) = false := by decide +kernel
  have e5 : ∀ t w, (binOp .mul t (.float .f64 4607182418800017408) (.float .f64 6498694262295625728)).run Try.prog w = .ok (.float .f64 6498694262295625728) w := fun t w => run_float_arith w .mul t .f64 _ _ _ (by decide +kernel)
  have k1 : bits BinOp.and IntKind.i64 1023 2047 = 1023 := by decide +kernel
  have k2 : bits BinOp.andNot IntKind.u64 4607182418800017408 9218868437227405312 = 0 := by decide +kernel
  have k3 : bits BinOp.or IntKind.u64 0 6498694262295625728 = 6498694262295625728 := by decide +kernel
  go_enter Try.func36, Try.ntmps36
  go_wp2_with (first | (go_at_call 26; ((with_reducible refine (A _).mono ?_); rintro e w' ⟨rfl, rfl⟩)) | simp only [x34, x40] | go_in)
  go_ret
  exact ⟨rfl, rfl⟩

theorem sv_lo : val 52 553942754166571008 = 2 ^ 174 := by decide +kernel
theorem sv_hi : val 52 6498694262295625728 = 2 ^ 1494 := by decide +kernel
theorem V_abs (b : Nat) (hb : FinW b) : (V b).natAbs = val 52 (b % 9223372036854775808) := by
  rw [V_mg b hb]; unfold val; split <;> omega

theorem plain_true (b : Nat) (hb : FinW b) (h : V b = 0 ∨ 2 ^ 174 ≤ (V b).natAbs ∧ (V b).natAbs ≤ 2 ^ 1494) (w : World) :
    Calls Try.prog 21 #[.float .f64 b] w fun e w' => e = .returned (.bool true) ∧ w = w' := by
  have hm : b % 9223372036854775808 = 0 ∨ 553942754166571008 ≤ b % 9223372036854775808 ∧ b % 9223372036854775808 ≤ 6498694262295625728 := by
    rcases h with h | ⟨h1, h2⟩
    · left
      have := V_abs b hb
      rw [h] at this
      exact (val_zero_iff 52 _).1 this.symm
    · right
      rw [V_abs b hb, ← sv_lo] at h1
      rw [V_abs b hb, ← sv_hi] at h2
      have a1 := val_lt_iff 52 (b % 9223372036854775808) 553942754166571008
      have a2 := val_lt_iff 52 6498694262295625728 (b % 9223372036854775808)
      omega
  have hb1 := hb.1
  have e1 := o_eql b 0 hb1 (by omega)
  have e2 := o_geq (b % 9223372036854775808) 553942754166571008 (by omega) (by omega)
  have e3 := o_leq (b % 9223372036854775808) 6498694262295625728 (by omega) (by omega)
  have A := fun w => abs_any b hb1 w
  have h2 := hb.2
  rw [key_low (by omega), key_low (by omega)] at e2 e3
  by_cases h0 : b % 9223372036854775808 = 0
  · rw [decide_eq_true (by unfold nn key64; split <;> omega)] at e1
    clear h0 hm h h2 hb hb1 e2 e3 A
    go_enter Try.func21, Try.ntmps21
    go_wp2
    go_ret
    exact ⟨rfl, rfl⟩
  · rw [decide_eq_false (by unfold nn key64; split <;> omega)] at e1
    rw [decide_eq_true (by unfold nn; omega)] at e2 e3
    clear h0 hm h h2 hb hb1
    generalize b % 9223372036854775808 = m at *
    go_enter Try.func21, Try.ntmps21
    go_wp2_with (first | (go_at_call 26; ((with_reducible refine (A _).mono ?_); rintro e w' ⟨rfl, rfl⟩)) | (go_at_call 36; ((with_reducible refine (ldexp_lo _).mono ?_); rintro e w' ⟨rfl, rfl⟩)) | (go_at_call 36; ((with_reducible refine (ldexp_hi _).mono ?_); rintro e w' ⟨rfl, rfl⟩)))
    go_ret
    exact ⟨rfl, rfl⟩
end Go.Proofs.Ytbnifpggcfcmhaa
