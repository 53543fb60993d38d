/- Proved here: what comparisons, signs, fitness and single operations on words come to, over the translated code; what layer 3 needs of layer 2's texts. -/
import Derived.Test.YtkfagpahbojigaaAccP
import Derived.Test.YtkfagpahbojigaaAccS
import Derived.Test.YtkfagpahbojigaaWrd
namespace Go.Proofs.Ytkfagpahbojigaa
open Go.ChangeShapes Go.WideShapes Go.ChangeAt Go.RowKit Ieee.Own

theorem ret_f {k : FloatKind} {a b : Nat} (h : a = b) : Ending.returned (.float k a) = .returned (.float k b) := by rw [h]
theorem x40 (n : Int) (w : World) : (callFunc 86 #[.int .u64 n]).run Try.prog w = .ok (.value (.float .f64 n.toNat)) w := by
  rw [run_callFunc_extern (e := Extern.MathFloatBits.float64frombits) Try.func86 (by kernel_rfl) (by kernel_rfl) (by kernel_rfl) (by kernel_rfl)]; rfl

/-! ### comparisons in plain numbers -/
def nn (a : Nat) : Prop := a % 9223372036854775808 ≤ 9218868437227405312
instance (a : Nat) : Decidable (nn a) := inferInstanceAs (Decidable (_ ≤ _))
theorem o_lss (a b : Nat) (ha : a < 18446744073709551616) (hb : b < 18446744073709551616) :
    (FloatKind.f64.format.order a b == some Ordering.lt) = decide (nn a ∧ nn b ∧ key64 a < key64 b) := by
  show (Ieee.double.order a b == some Ordering.lt) = _
  by_cases h : nn a ∧ nn b
  · rw [order64 a b ha hb h.1 h.2, cmp_lt]; simp [h]
  · rw [order64_nan a b (by unfold nn at h; omega)]; symm; simp; intro h1 h2; exact absurd ⟨h1, h2⟩ h
theorem o_gtr (a b : Nat) (ha : a < 18446744073709551616) (hb : b < 18446744073709551616) :
    (FloatKind.f64.format.order a b == some Ordering.gt) = decide (nn a ∧ nn b ∧ key64 b < key64 a) := by
  show (Ieee.double.order a b == some Ordering.gt) = _
  by_cases h : nn a ∧ nn b
  · rw [order64 a b ha hb h.1 h.2, cmp_gt]; simp [h]
  · rw [order64_nan a b (by unfold nn at h; omega)]; symm; simp; intro h1 h2; exact absurd ⟨h1, h2⟩ h
theorem o_eql (a b : Nat) (ha : a < 18446744073709551616) (hb : b < 18446744073709551616) :
    (FloatKind.f64.format.order a b == some Ordering.eq) = decide (nn a ∧ nn b ∧ key64 a = key64 b) := by
  show (Ieee.double.order a b == some Ordering.eq) = _
  by_cases h : nn a ∧ nn b
  · rw [order64 a b ha hb h.1 h.2, cmp_eq]; simp [h]
  · rw [order64_nan a b (by unfold nn at h; omega)]; symm; simp; intro h1 h2; exact absurd ⟨h1, h2⟩ h
theorem o_neq (a b : Nat) (ha : a < 18446744073709551616) (hb : b < 18446744073709551616) :
    (FloatKind.f64.format.order a b != some Ordering.eq) = !decide (nn a ∧ nn b ∧ key64 a = key64 b) := by
  rw [← o_eql a b ha hb]; rfl
theorem o_leq (a b : Nat) (ha : a < 18446744073709551616) (hb : b < 18446744073709551616) :
    (FloatKind.f64.format.order a b == some Ordering.lt || FloatKind.f64.format.order a b == some Ordering.eq) = decide (nn a ∧ nn b ∧ key64 a ≤ key64 b) := by
  rw [o_lss a b ha hb, o_eql a b ha hb, Bool.eq_iff_iff]
  simp only [Bool.or_eq_true, decide_eq_true_eq]
  constructor
  · rintro (⟨h1, h2, h3⟩ | ⟨h1, h2, h3⟩)
    · exact ⟨h1, h2, by omega⟩
    · exact ⟨h1, h2, by omega⟩
  · rintro ⟨h1, h2, h3⟩
    by_cases h : key64 a < key64 b
    · exact Or.inl ⟨h1, h2, h⟩
    · exact Or.inr ⟨h1, h2, by omega⟩
theorem o_geq (a b : Nat) (ha : a < 18446744073709551616) (hb : b < 18446744073709551616) :
    (FloatKind.f64.format.order a b == some Ordering.gt || FloatKind.f64.format.order a b == some Ordering.eq) = decide (nn a ∧ nn b ∧ key64 b ≤ key64 a) := by
  rw [o_gtr a b ha hb, o_eql a b ha hb, Bool.eq_iff_iff]
  simp only [Bool.or_eq_true, decide_eq_true_eq]
  constructor
  · rintro (⟨h1, h2, h3⟩ | ⟨h1, h2, h3⟩)
    · exact ⟨h1, h2, by omega⟩
    · exact ⟨h1, h2, by omega⟩
  · rintro ⟨h1, h2, h3⟩
    by_cases h : key64 b < key64 a
    · exact Or.inl ⟨h1, h2, h⟩
    · exact Or.inr ⟨h1, h2, by omega⟩
theorem key_low {m : Nat} (h : m < 9223372036854775808) : key64 m = m := by unfold key64; simp [h]

theorem abs_any (b : Nat) (h : b < 18446744073709551616) (w : World) :
    Calls Try.prog 92 #[.float .f64 b] w fun e w' => e = .returned (.float .f64 (b % 9223372036854775808)) ∧ w = w' := by
  have H := Lib.hid (andn63 b h)
  go_enter Try.func92, Try.ntmps92
  go_wp2_with (simp only [x34, x40])
  go_ret
  exact ⟨ret_f (by rw [H.out]; rfl), rfl⟩

/-! ### fit -/
theorem fit_any (b : Nat) (hb : b < 18446744073709551616) (w : World) :
    Calls Try.prog 79 #[.float .f64 b] w fun e w' => e = .returned (.bool (fitB b)) ∧ w = w' := by
  have hm : b % 9223372036854775808 < 9223372036854775808 := by omega
  have e1 := o_eql (b % 9223372036854775808) 0 (by omega) (by omega)
  have e2 := o_leq 3706462493325918208 (b % 9223372036854775808) (by omega) (by omega)
  have e3 := o_leq (b % 9223372036854775808) 5507902344274116608 (by omega) (by omega)
  rw [key_low hm, key_low (by omega)] at e1 e2 e3
  have HA := fun w => abs_any b hb w
  unfold fitB
  clear hb
  generalize b % 9223372036854775808 = m at *
  by_cases c1 : m = 0
  · rw [decide_eq_true (by unfold nn; omega)] at e1
    rw [decide_eq_true (Or.inl c1)]
    clear hm e2 e3 c1
    go_enter Try.func79, Try.ntmps79
    go_wp2_with (go_at_call 92; ((with_reducible refine (HA _).mono ?_); rintro e w' ⟨rfl, rfl⟩))
    go_ret
    exact ⟨rfl, rfl⟩
  · rw [decide_eq_false (by omega)] at e1
    by_cases c2 : 3706462493325918208 ≤ m ∧ m ≤ 9218868437227405312
    · rw [decide_eq_true (by unfold nn; omega)] at e2
      by_cases c3 : m ≤ 5507902344274116608
      · rw [decide_eq_true (by unfold nn; omega)] at e3
        rw [decide_eq_true (by omega)]
        clear hm c1 c2 c3
        go_enter Try.func79, Try.ntmps79
        go_wp2_with (go_at_call 92; ((with_reducible refine (HA _).mono ?_); rintro e w' ⟨rfl, rfl⟩))
        go_ret
        exact ⟨rfl, rfl⟩
      · rw [decide_eq_false (by unfold nn; omega)] at e3
        rw [decide_eq_false (by omega)]
        clear hm c1 c2 c3
        go_enter Try.func79, Try.ntmps79
        go_wp2_with (go_at_call 92; ((with_reducible refine (HA _).mono ?_); rintro e w' ⟨rfl, rfl⟩))
        go_ret
        exact ⟨rfl, rfl⟩
    · rw [decide_eq_false (by unfold nn; omega)] at e2
      rw [decide_eq_false (by omega)]
      clear hm c1 c2 e3
      go_enter Try.func79, Try.ntmps79
      go_wp2_with (go_at_call 92; ((with_reducible refine (HA _).mono ?_); rintro e w' ⟨rfl, rfl⟩))
      go_ret
      exact ⟨rfl, rfl⟩

theorem rfit_any (b : Nat) (hb : b < 18446744073709551616) (w : World) :
    Calls Try.prog 31 #[.float .f64 b] w fun e w' => e = .returned (.bool (fitB b)) ∧ w = w' := by
  have H := andn63 b hb
  unfold fitB
  clear hb
  generalize b % 9223372036854775808 = m at *
  by_cases c1 : m = 0
  · rw [decide_eq_true (by omega)]
    subst c1
    go_enter Try.func31, Try.ntmps31
    go_wp2_with (simp only [x34])
    go_ret
    exact ⟨rfl, rfl⟩
  have t1 : ((m : Int) == 0) = false := ieq_f (by omega)
  by_cases c2 : 3706462493325918208 ≤ m
  · have t2 : decide ((m : Int) ≥ 3706462493325918208) = true := decide_eq_true (by omega)
    by_cases c3 : m ≤ 5507902344274116608
    · have t3 : decide ((m : Int) ≤ 5507902344274116608) = true := decide_eq_true (by omega)
      rw [decide_eq_true (by omega)]
      clear c1 c2 c3
      go_enter Try.func31, Try.ntmps31
      go_wp2_with (simp only [x34])
      go_ret
      exact ⟨rfl, rfl⟩
    · have t3 : decide ((m : Int) ≤ 5507902344274116608) = false := decide_eq_false (by omega)
      rw [decide_eq_false (by omega)]
      clear c1 c2 c3
      go_enter Try.func31, Try.ntmps31
      go_wp2_with (simp only [x34])
      go_ret
      exact ⟨rfl, rfl⟩
  · have t2 : decide ((m : Int) ≥ 3706462493325918208) = false := decide_eq_false (by omega)
    rw [decide_eq_false (by omega)]
    clear c1 c2
    go_enter Try.func31, Try.ntmps31
    go_wp2_with (simp only [x34])
    go_ret
    exact ⟨rfl, rfl⟩

/-! ### the operations, as the walk takes them -/
theorem run_add (x y r : Nat) (h : Ieee.double.add x y = some r) (t : TypeId) (w : World) : (binOp .add t (.float .f64 x) (.float .f64 y)).run Try.prog w = .ok (.float .f64 r) w :=
  run_float_arith w .add t .f64 x y r h
theorem run_sub (x y r : Nat) (h : Ieee.double.sub x y = some r) (t : TypeId) (w : World) : (binOp .sub t (.float .f64 x) (.float .f64 y)).run Try.prog w = .ok (.float .f64 r) w :=
  run_float_arith w .sub t .f64 x y r h
theorem run_mul (x y r : Nat) (h : Ieee.double.mul x y = some r) (t : TypeId) (w : World) : (binOp .mul t (.float .f64 x) (.float .f64 y)).run Try.prog w = .ok (.float .f64 r) w :=
  run_float_arith w .mul t .f64 x y r h
theorem run_div (x y r : Nat) (h : Ieee.double.div x y = some r) (t : TypeId) (w : World) : (binOp .quo t (.float .f64 x) (.float .f64 y)).run Try.prog w = .ok (.float .f64 r) w :=
  run_float_arith w .quo t .f64 x y r h
theorem nr_mul {a b p q k : Nat} {A B : Int} (ha : Nr a A p) (hb : Nr b B q) (hk : p + q = k + 1074) : V a * V b = (A * B * 2 ^ k) * 2 ^ 1074 := by
  have e : (2 : Int) ^ p * 2 ^ q = 2 ^ k * 2 ^ 1074 := by rw [← Int.pow_add, hk, Int.pow_add]
  rw [ha.val, hb.val, Int.mul_assoc (A * B), ← e]
  generalize (2 : Int) ^ p = u
  generalize (2 : Int) ^ q = v
  ac_rfl

theorem pow_split' {k : Nat} (h : 50 ≤ k) (x : Int) : x * 2 ^ k = x * 2 ^ (k - 50) * 2 ^ 50 := by
  rw [Int.mul_assoc, ← Int.pow_add, show k - 50 + 50 = k by omega]
theorem units_mul (x : Int) (i j : Nat) : x * 2 ^ i * 2 ^ j = x * 2 ^ (i + j) := by rw [Int.mul_assoc, ← Int.pow_add]
theorem unit_parts {a b p q k : Nat} {A B : Int} (ha : Nr a A p) (hb : Nr b B q) (hk : p + q = k + 1074) (h : 50 ≤ k) :
    A * B * 2 ^ k = A * B * 2 ^ (k - 50) * 2 ^ 50 ∧ V a * V b = A * B * 2 ^ (k - 50) * 2 ^ 1124 := by
  refine ⟨pow_split' h _, ?_⟩
  rw [nr_mul ha hb hk, units_mul, units_mul]
  rw [show k + 1074 = k - 50 + 1124 by omega]
theorem ex_parts {a b p q k : Nat} {A B : Int} (ha : Nr a A p) (hb : Nr b B q) (hp : 1 ≤ p) (hq : 1 ≤ q) (hk : p + q = k + 1074) (h : 50 ≤ k) (h2 : k < 1458) :
    (mg 52 (a % 9223372036854775808) = 0 ∨ mg 52 (b % 9223372036854775808) = 0) ∨ ex 52 (a % 9223372036854775808) + ex 52 (b % 9223372036854775808) = k - 50 + 1124 ∧ k - 50 < 1408 := by
  rcases nr_ex ha hp with h0 | h0
  · exact Or.inl (Or.inl h0)
  rcases nr_ex hb hq with h1 | h1
  · exact Or.inl (Or.inr h1)
  · right; omega

/-- a fit word by its digits and a place from 822 to 1222 -/
theorem fit_nr {b : Nat} (h : b < 18446744073709551616) (hf : fitB b = true) : ∃ A p, Nr b A p ∧ 822 ≤ p ∧ p ≤ 1222 := by
  rcases fit_norm h hf with h0 | ⟨s, m, p, hn, h1, h2⟩
  · exact ⟨0, 822, Nr.zero (fit_fin h hf) h0 822, by omega, by omega⟩
  · exact ⟨_, p, Nr.of hn, h1, h2⟩

theorem eq_zero (b : Nat) (hb : FinW b) : (FloatKind.f64.format.order b 0 == some Ordering.eq) = decide (V b = 0) := by
  rw [o_eql b 0 hb.1 (by omega), decide_eq_decide]
  have h1 := hb.1
  have h2 := hb.2
  have hz : V b = 0 ↔ b % 9223372036854775808 = 0 := by
    have := V_abs' b hb
    constructor
    · intro h; rw [h] at this; exact (val_zero_iff 52 _).1 this.symm
    · intro h; rw [h, val_zero] at this; omega
  rw [hz]
  unfold nn key64
  split <;> split <;> omega

theorem lt_zero (b : Nat) (hb : FinW b) : (FloatKind.f64.format.order b 0 == some Ordering.lt) = decide (V b < 0) := by
  rw [o_lss b 0 hb.1 (by omega), decide_eq_decide]
  have h1 := hb.1
  have h2 := hb.2
  have hz : val 52 (b % 9223372036854775808) = 0 ↔ b % 9223372036854775808 = 0 := val_zero_iff 52 _
  unfold V nn key64
  by_cases h : b < 9223372036854775808
  · rw [if_pos h, if_pos h]
    constructor
    · rintro ⟨-, -, h3⟩; split at h3 <;> omega
    · intro h3; omega
  · rw [show b % 9223372036854775808 = b - 9223372036854775808 by omega] at hz
    rw [if_neg h, if_neg h, if_pos (by omega)]
    constructor
    · rintro ⟨-, -, h3⟩; omega
    · intro h3; exact ⟨by omega, by omega, by omega⟩

theorem V_key {a b : Nat} (ha : FinW a) (hb : FinW b) (h : V a = V b) : key64 a = key64 b := by
  have a1 := ha.1
  have b1 := hb.1
  unfold V at h
  unfold key64
  by_cases h1 : a < 9223372036854775808 <;> by_cases h2 : b < 9223372036854775808
  · rw [if_pos h1, if_pos h2] at h
    have := (val_eq_iff 52 a b).1 (by omega)
    rw [this]
  · rw [if_pos h1, if_neg h2] at h
    have x := (val_zero_iff 52 a).1 (by omega)
    have y := (val_zero_iff 52 (b - 9223372036854775808)).1 (by omega)
    rw [if_pos h1, if_neg h2]; omega
  · rw [if_neg h1, if_pos h2] at h
    have x := (val_zero_iff 52 (a - 9223372036854775808)).1 (by omega)
    have y := (val_zero_iff 52 b).1 (by omega)
    rw [if_neg h1, if_pos h2]; omega
  · rw [if_neg h1, if_neg h2] at h
    have := (val_eq_iff 52 (a - 9223372036854775808) (b - 9223372036854775808)).1 (by omega)
    rw [if_neg h1, if_neg h2]; omega
theorem eq_val {a b : Nat} (ha : FinW a) (hb : FinW b) (h : V a = V b) : (FloatKind.f64.format.order a b == some Ordering.eq) = true := by
  rw [o_eql a b ha.1 hb.1]
  exact decide_eq_true ⟨by have := ha.2; unfold nn; omega, by have := hb.2; unfold nn; omega, V_key ha hb h⟩

theorem RN_zero_iff {z : Int} (h : RN z = 0) : z = 0 := by
  have h1 := RN_abs z
  rw [h] at h1
  by_cases h0 : z = 0
  · exact h0
  · have := rn_mono (show 1 ≤ z.natAbs by omega)
    rw [rn_small 1 (by omega)] at this
    simp at h1
    omega

theorem same_self (a : Nat) (w : World) : Calls Try.prog 75 #[.float .f64 a, .float .f64 a] w fun e w' => e = .returned (.bool true) ∧ w = w' := by
  go_enter Try.func75, Try.ntmps75
  go_wp2_with (simp only [x34])
  go_ret
  exact ⟨ret_b (by simp), rfl⟩
def ff (a b : Nat) : Value := .tuple #[.float .f64 a, .float .f64 b]
/-- a number and an error's number -/
def fe (a : Nat) (c : Int) : Value := .tuple #[.float .f64 a, .int .i64 c]
theorem eq_neg (a b : Nat) : (FloatKind.f64.format.order a b != some Ordering.eq) = !(FloatKind.f64.format.order a b == some Ordering.eq) := rfl
/-- two words of one value that is no nought are one word -/
theorem V_inj {a b : Nat} (ha : FinW a) (hb : FinW b) (h : V a = V b) (h0 : V a ≠ 0) : a = b := by
  have k := V_key ha hb h
  have a1 := ha.1
  have b1 := hb.1
  have za : a % 9223372036854775808 ≠ 0 := by
    intro hz
    have := V_abs' a ha
    rw [hz, val_zero] at this; omega
  unfold key64 at k
  split at k <;> split at k <;> omega
end Go.Proofs.Ytkfagpahbojigaa
