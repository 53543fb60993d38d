/- Proved here: what the calls of math and of grain's and the reference's kinds answer, over the translated code; each under the conditions of its theorem. -/
import Derived.Test.YtfbhgckjaoldnaaRows
import Derived.Test.YtfbhgckjaoldnaaIeee
import Derived.WalkKit
import Derived.WalkLawsBesides
import Derived.ProofKit
import Derived.OpenShut
import Derived.Laws.Externs
import Derived.Lib.Hide
import Derived.IntWalk
import Derived.Laws.BitsAllLaws
namespace Go.Proofs.Ytfbhgckjaoldnaa
open Go.ChangeShapes Go.WideShapes Go.ChangeAt Go.RowKit

/-! ### the library's calls between words and numbers -/
theorem x39 (b : Nat) (w : World) : (callFunc 39 #[.float .f64 b]).run Try.prog w = .ok (.value (.int .u64 (b : Int))) w := by
  rw [run_callFunc_extern (e := Extern.MathFloatBits.float64bits) Try.func39 (by kernel_rfl) (by kernel_rfl) (by kernel_rfl) (by kernel_rfl)]; rfl
theorem x10 (n : Int) (w : World) : (callFunc 10 #[.int .u64 n]).run Try.prog w = .ok (.value (.float .f64 n.toNat)) w := by
  rw [run_callFunc_extern (e := Extern.MathFloatBits.float64frombits) Try.func10 (by kernel_rfl) (by kernel_rfl) (by kernel_rfl) (by kernel_rfl)]; rfl
theorem x28 (b : Nat) (w : World) : (callFunc 28 #[.float .f32 b]).run Try.prog w = .ok (.value (.int .u32 (b : Int))) w := by
  rw [run_callFunc_extern (e := Extern.MathFloatBits.float32bits) Try.func28 (by kernel_rfl) (by kernel_rfl) (by kernel_rfl) (by kernel_rfl)]; rfl
theorem x11 (n : Int) (w : World) : (callFunc 11 #[.int .u32 n]).run Try.prog w = .ok (.value (.float .f32 n.toNat)) w := by
  rw [run_callFunc_extern (e := Extern.MathFloatBits.float32frombits) Try.func11 (by kernel_rfl) (by kernel_rfl) (by kernel_rfl) (by kernel_rfl)]; rfl
theorem xneg (b : Nat) (hb : b < 18446744073709551616) (w : World) : (Op.unary .neg (.float .f64 b)).run Try.prog w = .ok (.float .f64 (if b < 9223372036854775808 then b + 9223372036854775808 else b - 9223372036854775808)) w := by
  rw [← Ieee.Own.xor_top64 b hb]; rfl

/-! ### numbers by their words -/
theorem andn63 (b : Nat) (hb : b < 18446744073709551616) : bits BinOp.andNot IntKind.u64 (b : Int) 9223372036854775808 = ((b % 9223372036854775808 : Nat) : Int) := by
  rw [show (9223372036854775808 : Int) = ((9223372036854775808 : Nat) : Int) from rfl, u64_andNot_nat b 9223372036854775808 hb (by omega)]
  exact congrArg _ (Nat.and_two_pow_sub_one_eq_mod b 63)
theorem and52 (b : Nat) (hb : b < 18446744073709551616) : bits BinOp.and IntKind.u64 (b : Int) 4503599627370495 = ((b % 4503599627370496 : Nat) : Int) := by
  rw [show (4503599627370495 : Int) = ((4503599627370495 : Nat) : Int) from rfl, u64_and_nat b 4503599627370495 hb (by omega)]
  exact congrArg _ (Nat.and_two_pow_sub_one_eq_mod b 52)
theorem and11 (b : Nat) (hb : b < 18446744073709551616) : bits BinOp.and IntKind.u64 ((b : Int) / 4503599627370496) 2047 = ((b / 4503599627370496 % 2048 : Nat) : Int) := by
  rw [show (2047 : Int) = ((2047 : Nat) : Int) from rfl, show ((b : Int) / 4503599627370496) = ((b / 4503599627370496 : Nat) : Int) by omega, u64_and_nat _ 2047 (by omega) (by omega)]
  exact congrArg _ (Nat.and_two_pow_sub_one_eq_mod _ 11)
theorem andn31 (b : Nat) (hb : b < 4294967296) : bits BinOp.andNot IntKind.u32 (b : Int) 2147483648 = ((b % 2147483648 : Nat) : Int) := by
  rw [show (2147483648 : Int) = ((2147483648 : Nat) : Int) from rfl, u32_andNot_nat b 2147483648 hb (by omega)]
  exact congrArg _ (Nat.and_two_pow_sub_one_eq_mod b 31)
theorem and23 (b : Nat) (hb : b < 4294967296) : bits BinOp.and IntKind.u32 (b : Int) 8388607 = ((b % 8388608 : Nat) : Int) := by
  rw [show (8388607 : Int) = ((8388607 : Nat) : Int) from rfl, u32_and_nat b 8388607 hb (by omega)]
  exact congrArg _ (Nat.and_two_pow_sub_one_eq_mod b 23)
theorem and8 (b : Nat) (hb : b < 4294967296) : bits BinOp.and IntKind.u32 ((b : Int) / 8388608) 255 = ((b / 8388608 % 256 : Nat) : Int) := by
  rw [show (255 : Int) = ((255 : Nat) : Int) from rfl, show ((b : Int) / 8388608) = ((b / 8388608 : Nat) : Int) by omega, u32_and_nat _ 255 (by omega) (by omega)]
  exact congrArg _ (Nat.and_two_pow_sub_one_eq_mod _ 8)

def nanB (b : Nat) : Bool := decide (9218868437227405312 < b % 9223372036854775808)
def clsN (b : Nat) : Int :=
  if b % 9223372036854775808 = 0 then 1 else if b % 9223372036854775808 < 4503599627370496 then 2
  else if b % 9223372036854775808 < 9218868437227405312 then 3 else if b % 9223372036854775808 = 9218868437227405312 then 4 else 5
def cls32 (b : Nat) : Int :=
  if b % 2147483648 = 0 then 1 else if b % 2147483648 < 8388608 then 2
  else if b % 2147483648 < 2139095040 then 3 else if b % 2147483648 = 2139095040 then 4 else 5
def fitB (b : Nat) : Bool := decide (b % 9223372036854775808 = 0 ∨ 3706462493325918208 ≤ b % 9223372036854775808 ∧ b % 9223372036854775808 ≤ 5507902344274116608)
def canW (b : Nat) : Nat := if 9218868437227405312 < b % 9223372036854775808 then 9221120237041090560 else b

theorem ret_i {k : IntKind} {a b : Int} (h : a = b) : Ending.returned (.int k a) = .returned (.int k b) := by rw [h]
theorem ret_f {k : FloatKind} {a b : Nat} (h : a = b) : Ending.returned (.float k a) = .returned (.float k b) := by rw [h]
theorem ret_b {a b : Bool} (h : a = b) : Ending.returned (.bool a) = .returned (.bool b) := by rw [h]

theorem ord_self (b : Nat) (hb : b < 18446744073709551616) : (FloatKind.f64.format.order b b != some Ordering.eq) = nanB b := by
  show (Ieee.double.order b b != some Ordering.eq) = nanB b
  unfold nanB
  by_cases h : 9218868437227405312 < b % 9223372036854775808
  · rw [Ieee.Own.order64_nan b b (Or.inl h)]; simp [h]
  · rw [Ieee.Own.order64 b b hb hb (by omega) (by omega)]
    simp [h, bne]

theorem isnan_any (b : Nat) (hb : b < 18446744073709551616) (w : World) :
    Calls Try.prog 41 #[.float .f64 b] w fun e w' => e = .returned (.bool (nanB b)) ∧ w = w' := by
  have h := Lib.hid (ord_self b hb)
  clear hb
  go_enter Try.func41, Try.ntmps41
  go_wp2
  go_ret
  exact ⟨ret_b h.out, rfl⟩
theorem isnan_t (b : Nat) (hb : b < 18446744073709551616) (h : nanB b = true) (w : World) :
    Calls Try.prog 41 #[.float .f64 b] w fun e w' => e = .returned (.bool true) ∧ w = w' :=
  (isnan_any b hb w).mono fun _ _ ⟨he, hw⟩ => ⟨by rw [he, h], hw⟩
theorem isnan_f (b : Nat) (hb : b < 18446744073709551616) (h : nanB b = false) (w : World) :
    Calls Try.prog 41 #[.float .f64 b] w fun e w' => e = .returned (.bool false) ∧ w = w' :=
  (isnan_any b hb w).mono fun _ _ ⟨he, hw⟩ => ⟨by rw [he, h], hw⟩

theorem abs_any (b : Nat) (h : b < 18446744073709551616) (w : World) :
    Calls Try.prog 38 #[.float .f64 b] w fun e w' => e = .returned (.float .f64 (b % 9223372036854775808)) ∧ w = w' := by
  have H := Lib.hid (andn63 b h)
  go_enter Try.func38, Try.ntmps38
  go_wp2_with (simp only [x39, x10])
  go_ret
  exact ⟨ret_f (by rw [H.out]; rfl), rfl⟩

def kindOf (a b c : Int) : Int := if a = c then if b = 0 then 4 else 5 else if a = 0 then if b = 0 then 1 else 2 else 3
theorem kind_any (a b c : Int) (w : World) :
    Calls Try.prog 40 #[.int .u64 a, .int .u64 b, .int .u64 c] w fun e w' => e = .returned (.int .i64 (kindOf a b c)) ∧ w = w' := by
  by_cases h1 : a = c <;> by_cases h2 : b = 0 <;> by_cases h3 : a = 0
  all_goals
    go_enter Try.func40, Try.ntmps40
    go_wp2
    go_ret
    exact ⟨ret_i (by simp [kindOf, *]), rfl⟩

/-! ### comparisons of binary64 in plain numbers -/
def nn (a : Nat) : Prop := a % 9223372036854775808 ≤ 9218868437227405312
instance (a : Nat) : Decidable (nn a) := inferInstanceAs (Decidable (_ ≤ _))
theorem o_lss (a b : Nat) (ha : a < 18446744073709551616) (hb : b < 18446744073709551616) :
    (FloatKind.f64.format.order a b == some Ordering.lt) = decide (nn a ∧ nn b ∧ Ieee.Own.key64 a < Ieee.Own.key64 b) := by
  show (Ieee.double.order a b == some Ordering.lt) = _
  by_cases h : nn a ∧ nn b
  · rw [Ieee.Own.order64 a b ha hb h.1 h.2, Ieee.Own.cmp_lt]; simp [h]
  · rw [Ieee.Own.order64_nan a b (by unfold nn at h; omega)]; symm; simp; intro h1 h2; exact absurd ⟨h1, h2⟩ h
theorem o_gtr (a b : Nat) (ha : a < 18446744073709551616) (hb : b < 18446744073709551616) :
    (FloatKind.f64.format.order a b == some Ordering.gt) = decide (nn a ∧ nn b ∧ Ieee.Own.key64 b < Ieee.Own.key64 a) := by
  show (Ieee.double.order a b == some Ordering.gt) = _
  by_cases h : nn a ∧ nn b
  · rw [Ieee.Own.order64 a b ha hb h.1 h.2, Ieee.Own.cmp_gt]; simp [h]
  · rw [Ieee.Own.order64_nan a b (by unfold nn at h; omega)]; symm; simp; intro h1 h2; exact absurd ⟨h1, h2⟩ h
theorem o_eql (a b : Nat) (ha : a < 18446744073709551616) (hb : b < 18446744073709551616) :
    (FloatKind.f64.format.order a b == some Ordering.eq) = decide (nn a ∧ nn b ∧ Ieee.Own.key64 a = Ieee.Own.key64 b) := by
  show (Ieee.double.order a b == some Ordering.eq) = _
  by_cases h : nn a ∧ nn b
  · rw [Ieee.Own.order64 a b ha hb h.1 h.2, Ieee.Own.cmp_eq]; simp [h]
  · rw [Ieee.Own.order64_nan a b (by unfold nn at h; omega)]; symm; simp; intro h1 h2; exact absurd ⟨h1, h2⟩ h
theorem o_neq (a b : Nat) (ha : a < 18446744073709551616) (hb : b < 18446744073709551616) :
    (FloatKind.f64.format.order a b != some Ordering.eq) = !decide (nn a ∧ nn b ∧ Ieee.Own.key64 a = Ieee.Own.key64 b) := by
  rw [← o_eql a b ha hb]; rfl
theorem o_leq (a b : Nat) (ha : a < 18446744073709551616) (hb : b < 18446744073709551616) :
    (FloatKind.f64.format.order a b == some Ordering.lt || FloatKind.f64.format.order a b == some Ordering.eq) = decide (nn a ∧ nn b ∧ Ieee.Own.key64 a ≤ Ieee.Own.key64 b) := by
  rw [o_lss a b ha hb, o_eql a b ha hb, Bool.eq_iff_iff]
  simp only [Bool.or_eq_true, decide_eq_true_eq]
  constructor
  · rintro (⟨h1, h2, h3⟩ | ⟨h1, h2, h3⟩)
    · exact ⟨h1, h2, by omega⟩
    · exact ⟨h1, h2, by omega⟩
  · rintro ⟨h1, h2, h3⟩
    by_cases h : Ieee.Own.key64 a < Ieee.Own.key64 b
    · exact Or.inl ⟨h1, h2, h⟩
    · exact Or.inr ⟨h1, h2, by omega⟩

theorem key_low {m : Nat} (h : m < 9223372036854775808) : Ieee.Own.key64 m = m := by unfold Ieee.Own.key64; simp [h]

theorem class_any (b : Nat) (hb : b < 18446744073709551616) (w : World) :
    Calls Try.prog 13 #[.float .f64 b] w fun e w' => e = .returned (.int .i64 (clsN b)) ∧ w = w' := by
  have H1 := Lib.hid (and11 b hb)
  have H2 := Lib.hid (and52 b hb)
  go_enter Try.func13, Try.ntmps13
  go_wp2_with (first | simp only [x39] | (go_at_call 40; refine (kind_any _ _ _ _).mono ?_; rintro e w' ⟨rfl, rfl⟩))
  go_ret
  refine ⟨ret_i ?_, rfl⟩
  rw [H1.out, H2.out]; unfold clsN kindOf
  clear H1 H2
  repeat' split
  all_goals first | rfl | omega

theorem class32_any (b : Nat) (hb : b < 4294967296) (w : World) :
    Calls Try.prog 15 #[.float .f32 b] w fun e w' => e = .returned (.int .i64 (cls32 b)) ∧ w = w' := by
  have H1 := Lib.hid (and8 b hb)
  have H2 := Lib.hid (and23 b hb)
  go_enter Try.func15, Try.ntmps15
  go_wp2_with (first | simp only [x28] | (go_at_call 40; refine (kind_any _ _ _ _).mono ?_; rintro e w' ⟨rfl, rfl⟩))
  go_ret
  refine ⟨ret_i ?_, rfl⟩
  have q1 : IntKind.u64.wrap ((b / 8388608 % 256 : Nat) : Int) = ((b / 8388608 % 256 : Nat) : Int) := by apply IntWalk.u64_in <;> omega
  have q2 : IntKind.u64.wrap ((b % 8388608 : Nat) : Int) = ((b % 8388608 : Nat) : Int) := by apply IntWalk.u64_in <;> omega
  rw [H1.out, H2.out, q1, q2]; unfold cls32 kindOf; clear q1 q2
  clear H1 H2
  repeat' split
  all_goals first | rfl | omega

theorem fit_any (b : Nat) (hb : b < 18446744073709551616) (w : World) :
    Calls Try.prog 17 #[.float .f64 b] w fun e w' => e = .returned (.bool (fitB b)) ∧ w = w' := by
  have hm : b % 9223372036854775808 < 9223372036854775808 := by omega
  have e1 := o_eql (b % 9223372036854775808) 0 (by omega) (by omega)
  have e2 := o_leq 3706462493325918208 (b % 9223372036854775808) (by omega) (by omega)
  have e3 := o_leq (b % 9223372036854775808) 5507902344274116608 (by omega) (by omega)
  rw [key_low hm, key_low (by omega)] at e1 e2 e3
  have hF : fitB b = decide (b % 9223372036854775808 = 0 ∨ 3706462493325918208 ≤ b % 9223372036854775808 ∧ b % 9223372036854775808 ≤ 5507902344274116608) := rfl
  have HA := fun w => abs_any b hb w
  generalize b % 9223372036854775808 = m at *
  by_cases c1 : m = 0
  · rw [decide_eq_true (by unfold nn; omega)] at e1
    have hF' : fitB b = true := by rw [hF]; simp [c1]
    rw [hF']
    clear hF hF' hm e2 e3 c1
    go_enter Try.func17, Try.ntmps17
    go_wp2_with (go_at_call 38; refine (HA _).mono ?_; rintro e w' ⟨rfl, rfl⟩)
    go_ret
    exact ⟨rfl, rfl⟩
  · rw [decide_eq_false (by omega)] at e1
    by_cases c2 : 3706462493325918208 ≤ m ∧ m ≤ 9218868437227405312
    · rw [decide_eq_true (by unfold nn; omega)] at e2
      by_cases c3 : m ≤ 5507902344274116608
      · rw [decide_eq_true (by unfold nn; omega)] at e3
        have hF' : fitB b = true := by rw [hF]; simp; omega
        rw [hF']
        clear hF hF' hm c1 c2 c3
        go_enter Try.func17, Try.ntmps17
        go_wp2_with (go_at_call 38; refine (HA _).mono ?_; rintro e w' ⟨rfl, rfl⟩)
        go_ret
        exact ⟨rfl, rfl⟩
      · rw [decide_eq_false (by unfold nn; omega)] at e3
        have hF' : fitB b = false := by rw [hF]; simp; omega
        rw [hF']
        clear hF hF' hm c1 c2 c3
        go_enter Try.func17, Try.ntmps17
        go_wp2_with (go_at_call 38; refine (HA _).mono ?_; rintro e w' ⟨rfl, rfl⟩)
        go_ret
        exact ⟨rfl, rfl⟩
    · rw [decide_eq_false (by unfold nn; omega)] at e2
      have hF' : fitB b = false := by rw [hF]; simp; omega
      rw [hF']
      clear hF hF' hm c1 c2 e3
      go_enter Try.func17, Try.ntmps17
      go_wp2_with (go_at_call 38; refine (HA _).mono ?_; rintro e w' ⟨rfl, rfl⟩)
      go_ret
      exact ⟨rfl, rfl⟩
end Go.Proofs.Ytfbhgckjaoldnaa
