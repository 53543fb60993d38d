/- Proved here: what the texts Accm, AccRm, Put, Acc, Add, Mul, AccP, AccS, Flt, Nxs, Ftw, Adj, Adq, Spr, Spf, Spa prove, one behind the other. -/
import Derived.Test.YtdfcchocabapkaaGreatRows
import Derived.WalkKit
import Derived.WalkLawsBesides
import Derived.ProofKit
import Derived.OpenShut
import Derived.Laws.Externs
import Derived.Lib.Hide
import Derived.IntWalk
import Derived.Laws.BitsAllLaws
import Derived.Shelf.Spec.BitsCarry
import Derived.Deep.RegionLaw
import Derived.Test.YtdfcchocabapkaaGreatJb1
import Derived.Shelf.Bits.Mul64
import Derived.WalkSmall
import Derived.Laws.ResultCell
import Derived.SizedLaws
import Derived.Carry
import Derived.Lib.SmallJoins

set_option maxRecDepth 100000
namespace Ieee.Own

def sumW (ws : Nat → Nat) : Nat → Nat
 | 0 => 0
 | n + 1 => sumW ws n + ws n * 2 ^ (64 * n)

theorem pow64 (n : Nat) : 2 ^ (64 * (n + 1)) = 18446744073709551616 * 2 ^ (64 * n) := by
 rw [show 64 * (n + 1) = 64 + 64 * n by omega, Nat.pow_add]

theorem sumW_lt (ws : Nat → Nat) (h : ∀ i, ws i < 18446744073709551616) (n : Nat) : sumW ws n < 2 ^ (64 * n) := by
 induction n with
 | zero => simp [sumW]
 | succ n ih =>
   simp only [sumW]
   rw [pow64]
   have : (ws n + 1) * 2 ^ (64 * n) ≤ 18446744073709551616 * 2 ^ (64 * n) := Nat.mul_le_mul_right _ (h n)
   rw [Nat.add_mul] at this
   omega
end Ieee.Own

namespace Ieee.Own

end Ieee.Own

namespace Go.Proofs.YtdfcchocabapkaaGreat
open Go.ChangeShapes Go.WideShapes Go.ChangeAt Go.RowKit Ieee.Own


theorem x34 (b : Nat) (w : World) : (callFunc 61 #[.float .f64 b]).run Tryz.prog w = .ok (.value (.int .u64 (b : Int))) w := by
 rw [run_callFunc_extern (e := Extern.MathFloatBits.float64bits) Tryz.func61 (by kernel_rfl) (by kernel_rfl) (by kernel_rfl) (by kernel_rfl)]; rfl
theorem andn63 (b : Nat) (hb : b < 18446744073709551616) : bits BinOp.andNot IntKind.u64 (b : Int) 9223372036854775808 = ((b % 9223372036854775808 : Nat) : Int) := by
 rw [show (9223372036854775808 : Int) = ((9223372036854775808 : Nat) : Int) from rfl, u64_andNot_nat b 9223372036854775808 hb (by omega)]
 exact congrArg _ (Nat.and_two_pow_sub_one_eq_mod b 63)

end Go.Proofs.YtdfcchocabapkaaGreat

namespace Go.Proofs.YtdfcchocabapkaaGreat
open Go.Shelf Go.RowKit

end Go.Proofs.YtdfcchocabapkaaGreat

namespace Go.Proofs.YtdfcchocabapkaaGreat
open Go.ChangeShapes Go.WideShapes Go.ChangeAt Go.RowKit Ieee.Own


theorem ret_b {a b : Bool} (h : a = b) : Ending.returned (.bool a) = .returned (.bool b) := by rw [h]


theorem ret_f {k : FloatKind} {a b : Nat} (h : a = b) : Ending.returned (.float k a) = .returned (.float k b) := by rw [h]
theorem x40 (n : Int) (w : World) : (callFunc 111 #[.int .u64 n]).run Tryz.prog w = .ok (.value (.float .f64 n.toNat)) w := by
 rw [run_callFunc_extern (e := Extern.MathFloatBits.float64frombits) Tryz.func111 (by kernel_rfl) (by kernel_rfl) (by kernel_rfl) (by kernel_rfl)]; rfl

def nn (a : Nat) : Prop := a % 9223372036854775808 ≤ 9218868437227405312
instance (a : Nat) : Decidable (nn a) := inferInstanceAs (Decidable (_ ≤ _))
theorem o_lss (a b : Nat) (ha : a < 18446744073709551616) (hb : b < 18446744073709551616) :
 (FloatKind.f64.format.order a b == some Ordering.lt) = decide (nn a ∧ nn b ∧ key64 a < key64 b) := by
 show (Ieee.double.order a b == some Ordering.lt) = _
 by_cases h : nn a ∧ nn b
 · rw [order64 a b ha hb h.1 h.2, cmp_lt]; simp [h]
 · rw [order64_nan a b (by unfold nn at h; omega)]; symm; simp; intro h1 h2; exact absurd ⟨h1, h2⟩ h
theorem o_gtr (a b : Nat) (ha : a < 18446744073709551616) (hb : b < 18446744073709551616) :
 (FloatKind.f64.format.order a b == some Ordering.gt) = decide (nn a ∧ nn b ∧ key64 b < key64 a) := by
 show (Ieee.double.order a b == some Ordering.gt) = _
 by_cases h : nn a ∧ nn b
 · rw [order64 a b ha hb h.1 h.2, cmp_gt]; simp [h]
 · rw [order64_nan a b (by unfold nn at h; omega)]; symm; simp; intro h1 h2; exact absurd ⟨h1, h2⟩ h
theorem o_eql (a b : Nat) (ha : a < 18446744073709551616) (hb : b < 18446744073709551616) :
 (FloatKind.f64.format.order a b == some Ordering.eq) = decide (nn a ∧ nn b ∧ key64 a = key64 b) := by
 show (Ieee.double.order a b == some Ordering.eq) = _
 by_cases h : nn a ∧ nn b
 · rw [order64 a b ha hb h.1 h.2, cmp_eq]; simp [h]
 · rw [order64_nan a b (by unfold nn at h; omega)]; symm; simp; intro h1 h2; exact absurd ⟨h1, h2⟩ h
theorem o_leq (a b : Nat) (ha : a < 18446744073709551616) (hb : b < 18446744073709551616) :
 (FloatKind.f64.format.order a b == some Ordering.lt || FloatKind.f64.format.order a b == some Ordering.eq) = decide (nn a ∧ nn b ∧ key64 a ≤ key64 b) := by
 rw [o_lss a b ha hb, o_eql a b ha hb, Bool.eq_iff_iff]
 simp only [Bool.or_eq_true, decide_eq_true_eq]
 constructor
 · rintro (⟨h1, h2, h3⟩ | ⟨h1, h2, h3⟩)
   · exact ⟨h1, h2, by omega⟩
   · exact ⟨h1, h2, by omega⟩
 · rintro ⟨h1, h2, h3⟩
   by_cases h : key64 a < key64 b
   · exact Or.inl ⟨h1, h2, h⟩
   · exact Or.inr ⟨h1, h2, by omega⟩
theorem o_geq (a b : Nat) (ha : a < 18446744073709551616) (hb : b < 18446744073709551616) :
 (FloatKind.f64.format.order a b == some Ordering.gt || FloatKind.f64.format.order a b == some Ordering.eq) = decide (nn a ∧ nn b ∧ key64 b ≤ key64 a) := by
 rw [o_gtr a b ha hb, o_eql a b ha hb, Bool.eq_iff_iff]
 simp only [Bool.or_eq_true, decide_eq_true_eq]
 constructor
 · rintro (⟨h1, h2, h3⟩ | ⟨h1, h2, h3⟩)
   · exact ⟨h1, h2, by omega⟩
   · exact ⟨h1, h2, by omega⟩
 · rintro ⟨h1, h2, h3⟩
   by_cases h : key64 b < key64 a
   · exact Or.inl ⟨h1, h2, h⟩
   · exact Or.inr ⟨h1, h2, by omega⟩
theorem key_low {m : Nat} (h : m < 9223372036854775808) : key64 m = m := by unfold key64; simp [h]

theorem abs_any (b : Nat) (h : b < 18446744073709551616) (w : World) :
 Calls Tryz.prog 101 #[.float .f64 b] w fun e w' => e = .returned (.float .f64 (b % 9223372036854775808)) ∧ w = w' := by
 have H := Lib.hid (andn63 b h)
 go_enter Tryz.func101, Tryz.ntmps101
 go_wp2_with (simp only [x34, x40])
 go_ret
 exact ⟨ret_f (by rw [H.out]; rfl), rfl⟩

theorem fit_any (b : Nat) (hb : b < 18446744073709551616) (w : World) :
 Calls Tryz.prog 51 #[.float .f64 b] w fun e w' => e = .returned (.bool (fitB b)) ∧ w = w' := by
 have hm : b % 9223372036854775808 < 9223372036854775808 := by omega
 have e1 := o_eql (b % 9223372036854775808) 0 (by omega) (by omega)
 have e2 := o_leq 3706462493325918208 (b % 9223372036854775808) (by omega) (by omega)
 have e3 := o_leq (b % 9223372036854775808) 5507902344274116608 (by omega) (by omega)
 rw [key_low hm, key_low (by omega)] at e1 e2 e3
 have HA := fun w => abs_any b hb w
 unfold fitB
 clear hb
 generalize b % 9223372036854775808 = m at *
 by_cases c1 : m = 0
 · rw [decide_eq_true (by unfold nn; omega)] at e1
   rw [decide_eq_true (Or.inl c1)]
   clear hm e2 e3 c1
   go_enter Tryz.func51, Tryz.ntmps51
   go_wp2_with (go_at_call 101; ((with_reducible refine (HA _).mono ?_); rintro e w' ⟨rfl, rfl⟩))
   go_ret
   exact ⟨rfl, rfl⟩
 · rw [decide_eq_false (by omega)] at e1
   by_cases c2 : 3706462493325918208 ≤ m ∧ m ≤ 9218868437227405312
   · rw [decide_eq_true (by unfold nn; omega)] at e2
     by_cases c3 : m ≤ 5507902344274116608
     · rw [decide_eq_true (by unfold nn; omega)] at e3
       rw [decide_eq_true (by omega)]
       clear hm c1 c2 c3
       go_enter Tryz.func51, Tryz.ntmps51
       go_wp2_with (go_at_call 101; ((with_reducible refine (HA _).mono ?_); rintro e w' ⟨rfl, rfl⟩))
       go_ret
       exact ⟨rfl, rfl⟩
     · rw [decide_eq_false (by unfold nn; omega)] at e3
       rw [decide_eq_false (by omega)]
       clear hm c1 c2 c3
       go_enter Tryz.func51, Tryz.ntmps51
       go_wp2_with (go_at_call 101; ((with_reducible refine (HA _).mono ?_); rintro e w' ⟨rfl, rfl⟩))
       go_ret
       exact ⟨rfl, rfl⟩
   · rw [decide_eq_false (by unfold nn; omega)] at e2
     rw [decide_eq_false (by omega)]
     clear hm c1 c2 e3
     go_enter Tryz.func51, Tryz.ntmps51
     go_wp2_with (go_at_call 101; ((with_reducible refine (HA _).mono ?_); rintro e w' ⟨rfl, rfl⟩))
     go_ret
     exact ⟨rfl, rfl⟩

theorem run_add (x y r : Nat) (h : Ieee.double.add x y = some r) (t : TypeId) (w : World) : (binOp .add t (.float .f64 x) (.float .f64 y)).run Tryz.prog w = .ok (.float .f64 r) w :=
 run_float_arith w .add t .f64 x y r h
theorem run_sub (x y r : Nat) (h : Ieee.double.sub x y = some r) (t : TypeId) (w : World) : (binOp .sub t (.float .f64 x) (.float .f64 y)).run Tryz.prog w = .ok (.float .f64 r) w :=
 run_float_arith w .sub t .f64 x y r h
theorem run_mul (x y r : Nat) (h : Ieee.double.mul x y = some r) (t : TypeId) (w : World) : (binOp .mul t (.float .f64 x) (.float .f64 y)).run Tryz.prog w = .ok (.float .f64 r) w :=
 run_float_arith w .mul t .f64 x y r h
theorem run_div (x y r : Nat) (h : Ieee.double.div x y = some r) (t : TypeId) (w : World) : (binOp .quo t (.float .f64 x) (.float .f64 y)).run Tryz.prog w = .ok (.float .f64 r) w :=
 run_float_arith w .quo t .f64 x y r h
theorem nr_mul {a b p q k : Nat} {A B : Int} (ha : Nr a A p) (hb : Nr b B q) (hk : p + q = k + 1074) : V a * V b = (A * B * 2 ^ k) * 2 ^ 1074 := by
 have e : (2 : Int) ^ p * 2 ^ q = 2 ^ k * 2 ^ 1074 := by rw [← Int.pow_add, hk, Int.pow_add]
 rw [ha.val, hb.val, Int.mul_assoc (A * B), ← e]
 generalize (2 : Int) ^ p = u
 generalize (2 : Int) ^ q = v
 ac_rfl

theorem pow_split' {k : Nat} (h : 50 ≤ k) (x : Int) : x * 2 ^ k = x * 2 ^ (k - 50) * 2 ^ 50 := by
 rw [Int.mul_assoc, ← Int.pow_add, show k - 50 + 50 = k by omega]
theorem units_mul (x : Int) (i j : Nat) : x * 2 ^ i * 2 ^ j = x * 2 ^ (i + j) := by rw [Int.mul_assoc, ← Int.pow_add]
theorem unit_parts {a b p q k : Nat} {A B : Int} (ha : Nr a A p) (hb : Nr b B q) (hk : p + q = k + 1074) (h : 50 ≤ k) :
 A * B * 2 ^ k = A * B * 2 ^ (k - 50) * 2 ^ 50 ∧ V a * V b = A * B * 2 ^ (k - 50) * 2 ^ 1124 := by
 refine ⟨pow_split' h _, ?_⟩
 rw [nr_mul ha hb hk, units_mul, units_mul]
 rw [show k + 1074 = k - 50 + 1124 by omega]
theorem ex_parts {a b p q k : Nat} {A B : Int} (ha : Nr a A p) (hb : Nr b B q) (hp : 1 ≤ p) (hq : 1 ≤ q) (hk : p + q = k + 1074) (h : 50 ≤ k) (h2 : k < 1458) :
 (mg 52 (a % 9223372036854775808) = 0 ∨ mg 52 (b % 9223372036854775808) = 0) ∨ ex 52 (a % 9223372036854775808) + ex 52 (b % 9223372036854775808) = k - 50 + 1124 ∧ k - 50 < 1408 := by
 rcases nr_ex ha hp with h0 | h0
 · exact Or.inl (Or.inl h0)
 rcases nr_ex hb hq with h1 | h1
 · exact Or.inl (Or.inr h1)
 · right; omega

theorem fit_nr {b : Nat} (h : b < 18446744073709551616) (hf : fitB b = true) : ∃ A p, Nr b A p ∧ 822 ≤ p ∧ p ≤ 1222 := by
 rcases fit_norm h hf with h0 | ⟨s, m, p, hn, h1, h2⟩
 · exact ⟨0, 822, Nr.zero (fit_fin h hf) h0 822, by omega, by omega⟩
 · exact ⟨_, p, Nr.of hn, h1, h2⟩

theorem eq_zero (b : Nat) (hb : FinW b) : (FloatKind.f64.format.order b 0 == some Ordering.eq) = decide (V b = 0) := by
 rw [o_eql b 0 hb.1 (by omega), decide_eq_decide]
 have h1 := hb.1
 have h2 := hb.2
 have hz : V b = 0 ↔ b % 9223372036854775808 = 0 := by
  have := V_abs' b hb
  constructor
  · intro h; rw [h] at this; exact (val_zero_iff 52 _).1 this.symm
  · intro h; rw [h, val_zero] at this; omega
 rw [hz]
 unfold nn key64
 split <;> split <;> omega

theorem lt_zero (b : Nat) (hb : FinW b) : (FloatKind.f64.format.order b 0 == some Ordering.lt) = decide (V b < 0) := by
 rw [o_lss b 0 hb.1 (by omega), decide_eq_decide]
 have h1 := hb.1
 have h2 := hb.2
 have hz : val 52 (b % 9223372036854775808) = 0 ↔ b % 9223372036854775808 = 0 := val_zero_iff 52 _
 unfold V nn key64
 by_cases h : b < 9223372036854775808
 · rw [if_pos h, if_pos h]
   constructor
   · rintro ⟨-, -, h3⟩; split at h3 <;> omega
   · intro h3; omega
 · rw [show b % 9223372036854775808 = b - 9223372036854775808 by omega] at hz
   rw [if_neg h, if_neg h, if_pos (by omega)]
   constructor
   · rintro ⟨-, -, h3⟩; omega
   · intro h3; exact ⟨by omega, by omega, by omega⟩

theorem V_key {a b : Nat} (ha : FinW a) (hb : FinW b) (h : V a = V b) : key64 a = key64 b := by
 have a1 := ha.1
 have b1 := hb.1
 unfold V at h
 unfold key64
 by_cases h1 : a < 9223372036854775808 <;> by_cases h2 : b < 9223372036854775808
 · rw [if_pos h1, if_pos h2] at h
   have := (val_eq_iff 52 a b).1 (by omega)
   rw [this]
 · rw [if_pos h1, if_neg h2] at h
   have x := (val_zero_iff 52 a).1 (by omega)
   have y := (val_zero_iff 52 (b - 9223372036854775808)).1 (by omega)
   rw [if_pos h1, if_neg h2]; omega
 · rw [if_neg h1, if_pos h2] at h
   have x := (val_zero_iff 52 (a - 9223372036854775808)).1 (by omega)
   have y := (val_zero_iff 52 b).1 (by omega)
   rw [if_neg h1, if_pos h2]; omega
 · rw [if_neg h1, if_neg h2] at h
   have := (val_eq_iff 52 (a - 9223372036854775808) (b - 9223372036854775808)).1 (by omega)
   rw [if_neg h1, if_neg h2]; omega
def ff (a b : Nat) : Value := .tuple #[.float .f64 a, .float .f64 b]
def fe (a : Nat) (c : Int) : Value := .tuple #[.float .f64 a, .int .i64 c]
theorem V_inj {a b : Nat} (ha : FinW a) (hb : FinW b) (h : V a = V b) (h0 : V a ≠ 0) : a = b := by
 have k := V_key ha hb h
 have a1 := ha.1
 have b1 := hb.1
 have za : a % 9223372036854775808 ≠ 0 := by
  intro hz
  have := V_abs' a ha
  rw [hz, val_zero] at this; omega
 unfold key64 at k
 split at k <;> split at k <;> omega

theorem x39 (b : Nat) (w : World) : (callFunc 61 #[.float .f64 b]).run Tryz.prog w = .ok (.value (.int .u64 (b : Int))) w := by
 rw [run_callFunc_extern (e := Extern.MathFloatBits.float64bits) Tryz.func61 (by kernel_rfl) (by kernel_rfl) (by kernel_rfl) (by kernel_rfl)]; rfl
theorem x10 (n : Int) (w : World) : (callFunc 111 #[.int .u64 n]).run Tryz.prog w = .ok (.value (.float .f64 n.toNat)) w := by
 rw [run_callFunc_extern (e := Extern.MathFloatBits.float64frombits) Tryz.func111 (by kernel_rfl) (by kernel_rfl) (by kernel_rfl) (by kernel_rfl)]; rfl
theorem xneg (b : Nat) (hb : b < 18446744073709551616) (w : World) : (Op.unary .neg (.float .f64 b)).run Tryz.prog w = .ok (.float .f64 (if b < 9223372036854775808 then b + 9223372036854775808 else b - 9223372036854775808)) w := by
 rw [← Ieee.Own.xor_top64 b hb]; rfl
def nanB (b : Nat) : Bool := decide (9218868437227405312 < b % 9223372036854775808)
theorem ord_self (b : Nat) (hb : b < 18446744073709551616) : (FloatKind.f64.format.order b b != some Ordering.eq) = nanB b := by
 show (Ieee.double.order b b != some Ordering.eq) = nanB b
 unfold nanB
 by_cases h : 9218868437227405312 < b % 9223372036854775808
 · rw [Ieee.Own.order64_nan b b (Or.inl h)]; simp [h]
 · rw [Ieee.Own.order64 b b hb hb (by omega) (by omega)]
   simp [h, bne]
theorem isnan_any (b : Nat) (hb : b < 18446744073709551616) (w : World) :
 Calls Tryz.prog 150 #[.float .f64 b] w fun e w' => e = .returned (.bool (nanB b)) ∧ w = w' := by
 have h := Lib.hid (ord_self b hb)
 clear hb
 go_enter Tryz.func150, Tryz.ntmps150
 go_wp2
 go_ret
 exact ⟨ret_b h.out, rfl⟩
theorem isnan_t (b : Nat) (hb : b < 18446744073709551616) (h : nanB b = true) (w : World) :
 Calls Tryz.prog 150 #[.float .f64 b] w fun e w' => e = .returned (.bool true) ∧ w = w' :=
 (isnan_any b hb w).mono fun _ _ ⟨he, hw⟩ => ⟨by rw [he, h], hw⟩
theorem isnan_f (b : Nat) (hb : b < 18446744073709551616) (h : nanB b = false) (w : World) :
 Calls Tryz.prog 150 #[.float .f64 b] w fun e w' => e = .returned (.bool false) ∧ w = w' :=
 (isnan_any b hb w).mono fun _ _ ⟨he, hw⟩ => ⟨by rw [he, h], hw⟩
theorem canon_nan (b : Nat) (hb : b < 18446744073709551616) (h : nanB b = true) (w : World) :
 Calls Tryz.prog 151 #[.float .f64 b] w fun e w' => e = .returned (.float .f64 9221120237041090560) ∧ w = w' := by
 have C := fun w => isnan_t b hb h w
 clear h hb
 go_enter Tryz.func151, Tryz.ntmps151
 go_wp2_with (first | simp only [x10] | (go_at_call 150; refine (C _).mono ?_; rintro e w' ⟨rfl, rfl⟩))
 go_ret
 exact ⟨rfl, rfl⟩
theorem isinf_up (b : Nat) (hb : b < 18446744073709551616) (w : World) :
 Calls Tryz.prog 152 #[.float .f64 b, .int .i64 1] w fun e w' => e = .returned (.bool (decide (b = 9218868437227405312))) ∧ w = w' := by
 have H := Lib.hid (o_gtr b 9218868437227405311 hb (by omega))
 clear hb
 go_enter Tryz.func152, Tryz.ntmps152
 go_wp2
 go_ret
 refine ⟨ret_b ?_, rfl⟩
 rw [H.out]
 clear H
 simp only [decide_eq_decide]
 unfold nn Ieee.Own.key64
 split <;> split <;> omega
def nextW (b : Nat) : Nat :=
 if 9218868437227405312 < b % 9223372036854775808 then 9221120237041090560 else if b = 9218868437227405312 then b
 else if b % 9223372036854775808 = 0 then 1 else if b < 9223372036854775808 then b + 1 else b - 1
def prevW (b : Nat) : Nat :=
 if 9218868437227405312 < b % 9223372036854775808 then 9221120237041090560 else if b = 18442240474082181120 then b
 else if b % 9223372036854775808 = 0 then 9223372036854775809 else if b < 9223372036854775808 then b - 1 else b + 1
theorem next_any (b : Nat) (hb : b < 18446744073709551616) (w : World) :
 Calls Tryz.prog 103 #[.float .f64 b] w fun e w' => e = .returned (.float .f64 (nextW b)) ∧ w = w' := by
 unfold nextW
 by_cases h1 : 9218868437227405312 < b % 9223372036854775808
 · have C1 := fun w => isnan_t b hb (decide_eq_true h1) w
   have C2 := fun w => canon_nan b hb (decide_eq_true h1) w
   rw [if_pos h1]
   clear h1 hb
   go_enter Tryz.func103, Tryz.ntmps103
   go_wp2_with (first | (go_at_call 150; refine (C1 _).mono ?_; rintro e w' ⟨rfl, rfl⟩) | (go_at_call 151; refine (C2 _).mono ?_; rintro e w' ⟨rfl, rfl⟩))
   go_ret
   exact ⟨rfl, rfl⟩
 have C1 := fun w => isnan_f b hb (decide_eq_false h1) w
 have C2 := fun w => isinf_up b hb w
 rw [if_neg h1]
 by_cases h2 : b = 9218868437227405312
 · rw [decide_eq_true h2] at C2
   rw [if_pos h2]
   clear h1 h2 hb
   go_enter Tryz.func103, Tryz.ntmps103
   go_wp2_with (first | (go_at_call 150; refine (C1 _).mono ?_; rintro e w' ⟨rfl, rfl⟩) | (go_at_call 152; refine (C2 _).mono ?_; rintro e w' ⟨rfl, rfl⟩))
   go_ret
   exact ⟨rfl, rfl⟩
 rw [decide_eq_false h2] at C2
 rw [if_neg h2]
 have e1 := o_eql b 0 hb (by omega)
 have e2 := o_gtr b 0 hb (by omega)
 by_cases h3 : b % 9223372036854775808 = 0
 · rw [if_pos h3]
   rw [decide_eq_true (by unfold nn Ieee.Own.key64; split <;> omega)] at e1
   clear h1 h2 h3 hb e2
   go_enter Tryz.func103, Tryz.ntmps103
   go_wp2_with (first | (go_at_call 150; refine (C1 _).mono ?_; rintro e w' ⟨rfl, rfl⟩) | (go_at_call 152; refine (C2 _).mono ?_; rintro e w' ⟨rfl, rfl⟩) | simp only [x10])
   go_ret
   exact ⟨rfl, rfl⟩
 rw [if_neg h3]
 rw [decide_eq_false (by unfold nn Ieee.Own.key64; split <;> omega)] at e1
 by_cases h4 : b < 9223372036854775808
 · rw [if_pos h4]
   rw [decide_eq_true (by unfold nn Ieee.Own.key64; split <;> omega)] at e2
   have q : IntKind.u64.wrap ((b : Int) + 1) = ((b + 1 : Nat) : Int) := by rw [show ((b + 1 : Nat) : Int) = (b : Int) + 1 by omega]; apply IntWalk.u64_in <;> omega
   clear h1 h2 h3 hb h4
   go_enter Tryz.func103, Tryz.ntmps103
   go_wp2_with (first | (go_at_call 150; refine (C1 _).mono ?_; rintro e w' ⟨rfl, rfl⟩) | (go_at_call 152; refine (C2 _).mono ?_; rintro e w' ⟨rfl, rfl⟩) | simp only [x10, x39])
   go_ret
   exact ⟨rfl, rfl⟩
 · rw [if_neg h4]
   rw [decide_eq_false (by unfold nn Ieee.Own.key64; split <;> omega)] at e2
   have q : IntKind.u64.wrap ((b : Int) - 1) = ((b - 1 : Nat) : Int) := by rw [show ((b - 1 : Nat) : Int) = (b : Int) - 1 by omega]; apply IntWalk.u64_in <;> omega
   clear h1 h2 h3 hb h4
   go_enter Tryz.func103, Tryz.ntmps103
   go_wp2_with (first | (go_at_call 150; refine (C1 _).mono ?_; rintro e w' ⟨rfl, rfl⟩) | (go_at_call 152; refine (C2 _).mono ?_; rintro e w' ⟨rfl, rfl⟩) | simp only [x10, x39])
   go_ret
   exact ⟨rfl, rfl⟩
theorem negW_lt (b : Nat) (hb : b < 18446744073709551616) : negW b < 18446744073709551616 := by unfold negW; split <;> omega
theorem nextW_lt (b : Nat) (hb : b < 18446744073709551616) : nextW b < 18446744073709551616 := by unfold nextW; repeat' split
                                                                                                  all_goals omega
theorem prevW_lt (b : Nat) (hb : b < 18446744073709551616) : prevW b < 18446744073709551616 := by unfold prevW; repeat' split
                                                                                                  all_goals omega
theorem prev_by (b : Nat) (hb : b < 18446744073709551616) (h : ¬ 9218868437227405312 < b % 9223372036854775808) : negW (nextW (negW b)) = prevW b := by
 unfold nextW
 by_cases h1 : b = 18442240474082181120
 · subst h1; decide
 have e : negW b % 9223372036854775808 = b % 9223372036854775808 := by unfold negW; split <;> omega
 rw [e, if_neg h]
 have e2 : ¬ negW b = 9218868437227405312 := by unfold negW; split <;> omega
 rw [if_neg e2]
 unfold prevW
 rw [if_neg h, if_neg h1]
 unfold negW
 repeat' split
 all_goals omega
theorem prev_any (b : Nat) (hb : b < 18446744073709551616) (w : World) :
 Calls Tryz.prog 189 #[.float .f64 b] w fun e w' => e = .returned (.float .f64 (prevW b)) ∧ w = w' := by
 by_cases h1 : 9218868437227405312 < b % 9223372036854775808
 · have C1 := fun w => isnan_t b hb (decide_eq_true h1) w
   have C2 := fun w => canon_nan b hb (decide_eq_true h1) w
   unfold prevW
   rw [if_pos h1]
   clear h1 hb
   go_enter Tryz.func189, Tryz.ntmps189
   go_wp2_with (first | (go_at_call 150; refine (C1 _).mono ?_; rintro e w' ⟨rfl, rfl⟩) | (go_at_call 151; refine (C2 _).mono ?_; rintro e w' ⟨rfl, rfl⟩))
   go_ret
   exact ⟨rfl, rfl⟩
 have C1 := fun w => isnan_f b hb (decide_eq_false h1) w
 have N1 : ∀ w, (Op.unary .neg (.float .f64 b)).run Tryz.prog w = .ok (.float .f64 (negW b)) w := fun w => xneg b hb w
 have C2 := fun w => next_any (negW b) (negW_lt b hb) w
 have N2 : ∀ w, (Op.unary .neg (.float .f64 (nextW (negW b)))).run Tryz.prog w = .ok (.float .f64 (negW (nextW (negW b)))) w := fun w => xneg _ (nextW_lt _ (negW_lt b hb)) w
 rw [prev_by b hb h1] at N2
 clear h1 hb
 generalize prevW b = p at *
 generalize nextW (negW b) = n at *
 generalize negW b = m at *
 go_enter Tryz.func189, Tryz.ntmps189
 go_wp2_with (first | (go_at_call 150; refine (C1 _).mono ?_; rintro e w' ⟨rfl, rfl⟩) | (go_at_call 103; refine (C2 _).mono ?_; rintro e w' ⟨rfl, rfl⟩))
 go_ret
 exact ⟨rfl, rfl⟩

def ffi (a b : Nat) (c : Int) : Value := .tuple #[.float .f64 a, .float .f64 b, .int .i64 c]
structure SumRes (a b s e : Nat) : Prop where
 op : Ieee.double.add a b = some s
 fs : FinW s
 fe : FinW e
 vs : V s = RN (V a + V b)
 ve : V e = V a + V b - V s
theorem sum_fit (a b : Nat) (ha : a < 18446744073709551616) (hb : b < 18446744073709551616) (h1 : fitB a = true) (h2 : fitB b = true) :
 ∃ s e, SumRes a b s e ∧ ((2 : Int) ^ 500 ∣ V s ∧ (2 : Int) ^ 500 ∣ V e ∧ ∃ K, K ≤ 1490 ∧ (V s).natAbs ≤ 2 ^ K ∧ (V e).natAbs ≤ 2 ^ K) ∧ ∀ w, Calls Tryz.prog 165 #[.float .f64 a, .float .f64 b] w fun en w' => en = .returned (ffi s e 0) ∧ w = w' := by
 obtain ⟨s, c, t1, t2, t3, e, o1, o2, o3, o4, o5, o6, f1, f2, v1, v2⟩ := two_sum_words (k := 1275) (fit_fin ha h1) (fit_fin hb h2) (fit_abs (k := 1275) ha h1 (Nat.le_refl _)) (fit_abs (k := 1275) hb h2 (Nat.le_refl _)) (by omega)
 obtain ⟨z1, z2, z3, z4⟩ := sum_facts (k := 1275) v1 v2 (fit_dvd ha h1) (fit_dvd hb h2) (fit_abs (k := 1275) ha h1 (Nat.le_refl _)) (fit_abs (k := 1275) hb h2 (Nat.le_refl _))
 refine ⟨s, e, ⟨o1, f1, f2, v1, v2⟩, ⟨z1, z2, _, by decide, z3, z4⟩, fun w => ?_⟩
 clear z1 z2 z3 z4
 have C1 := fun w => fit_any a ha w
 have C2 := fun w => fit_any b hb w
 rw [h1] at C1
 rw [h2] at C2
 have r1 := run_add _ _ _ o1
 have r2 := run_sub _ _ _ o2
 have r3 := run_sub _ _ _ o3
 have r4 := run_sub _ _ _ o4
 have r5 := run_sub _ _ _ o5
 have r6 := run_add _ _ _ o6
 clear o1 o2 o3 o4 o5 o6 f1 f2 v1 v2 ha hb h1 h2
 go_enter Tryz.func165, Tryz.ntmps165
 go_wp2_with (first | (go_at_call 51; ((with_reducible refine (C1 _).mono ?_); rintro e w' ⟨rfl, rfl⟩)) | (go_at_call 51; ((with_reducible refine (C2 _).mono ?_); rintro e w' ⟨rfl, rfl⟩)))
 go_ret3
 exact ⟨rfl, rfl⟩
theorem halves_run {a c d h l : Nat} (o1 : Ieee.double.mul 4728779608772575232 a = some c) (o2 : Ieee.double.sub c a = some d) (o3 : Ieee.double.sub c d = some h) (o4 : Ieee.double.sub a h = some l) (w : World) :
 Calls Tryz.prog 202 #[.float .f64 a] w fun e w' => e = .returned (ff h l) ∧ w = w' := by
 have r1 := run_mul _ _ _ o1
 have r2 := run_sub _ _ _ o2
 have r3 := run_sub _ _ _ o3
 have r4 := run_sub _ _ _ o4
 clear o1 o2 o3 o4
 go_enter Tryz.func202, Tryz.ntmps202
 go_wp2
 go_ret2
 exact ⟨rfl, rfl⟩
structure ProdRes (a b p e : Nat) (N : Int) : Prop where
 op : Ieee.double.mul a b = some p
 fp : FinW p
 fe : FinW e
 ex : V a * V b = N * 2 ^ 1074
 vp : V p = RN N
 ve : V e = N - V p
theorem product_any {a b p q k : Nat} {A B : Int} (ha : Nr a A p) (hb : Nr b B q) (hp : p < 1900) (hq : q < 1900) (hk : p + q = k + 1074) (hk2 : k < 1700) :
 ∃ r e, ProdRes a b r e (A * B * 2 ^ k) ∧ V r = RN (A * B) * 2 ^ k ∧ V e = (A * B - RN (A * B)) * 2 ^ k ∧ (A * B - RN (A * B)).natAbs ≤ 2 ^ 53 ∧
   ∀ w, Calls Tryz.prog 194 #[.float .f64 a, .float .f64 b] w fun en w' => en = .returned (ff r e) ∧ w = w' := by
 obtain ⟨r, c, d, ah, al, c', d', bh, bl, m1, e1, m2, e2, m3, e3, m4, e4, o1, ⟨s1, s2, s3, s4⟩, ⟨z1, z2, z3, z4⟩, p1, p2, p3, p4, p5, p6, p7, p8, f1, f2, v1, v2, v3⟩ := times_words ha hb hp hq hk hk2
 refine ⟨r, e4, ⟨o1, f1, f2, nr_mul ha hb hk, by rw [v1, RN_scale], by rw [v2, v1, Int.sub_mul]⟩, v1, v2, v3, fun w => ?_⟩
 have H1 := fun w => halves_run s1 s2 s3 s4 w
 have H2 := fun w => halves_run z1 z2 z3 z4 w
 have q0 := run_mul _ _ _ o1
 have q1 := run_mul _ _ _ p1
 have q2 := run_sub _ _ _ p2
 have q3 := run_mul _ _ _ p3
 have q4 := run_add _ _ _ p4
 have q5 := run_mul _ _ _ p5
 have q6 := run_add _ _ _ p6
 have q7 := run_mul _ _ _ p7
 have q8 := run_add _ _ _ p8
 clear o1 s1 s2 s3 s4 z1 z2 z3 z4 p1 p2 p3 p4 p5 p6 p7 p8 f1 f2 v1 v2 v3 hp hq hk hk2 ha hb
 go_enter Tryz.func194, Tryz.ntmps194
 go_wp2_with (first | (go_at_call 202; ((with_reducible refine (H1 _).mono ?_); rintro e w' ⟨rfl, rfl⟩; unfold ff)) | (go_at_call 202; ((with_reducible refine (H2 _).mono ?_); rintro e w' ⟨rfl, rfl⟩; unfold ff)))
 go_ret2
 exact ⟨rfl, rfl⟩
theorem prod_fit (a b : Nat) (ha : a < 18446744073709551616) (hb : b < 18446744073709551616) (h1 : fitB a = true) (h2 : fitB b = true) :
 ∃ p e N Z g, ProdRes a b p e N ∧ (N = Z * 2 ^ 50 ∧ V a * V b = Z * 2 ^ 1124 ∧ ((mg 52 (a % 9223372036854775808) = 0 ∨ mg 52 (b % 9223372036854775808) = 0) ∨ ex 52 (a % 9223372036854775808) + ex 52 (b % 9223372036854775808) = g + 1124 ∧ g < 1408)) ∧ ((2 : Int) ^ 500 ∣ V p ∧ (2 : Int) ^ 500 ∣ V e ∧ ∃ K, K ≤ 1490 ∧ (V p).natAbs ≤ 2 ^ K ∧ (V e).natAbs ≤ 2 ^ K) ∧
   ∀ w, Calls Tryz.prog 171 #[.float .f64 a, .float .f64 b] w fun en w' => en = .returned (ffi p e 0) ∧ w = w' := by
 obtain ⟨A, i, na, i1, i2⟩ := fit_nr ha h1
 obtain ⟨B, j, nb, j1, j2⟩ := fit_nr hb h2
 obtain ⟨k, hk⟩ : ∃ k, i + j = k + 1074 := ⟨i + j - 1074, by omega⟩
 obtain ⟨p, e, R, v1, v2, v3, C⟩ := product_any na nb (by omega) (by omega) hk (by omega)
 have bAB : (RN (A * B)).natAbs ≤ 2 ^ 107 := RN_bound (Nat.le_trans (abs_mul_le (Nat.le_of_lt na.hi) (Nat.le_of_lt nb.hi)) (by decide))
 have hZ := unit_parts na nb hk (by omega)
 have hg := ex_parts na nb (by omega) (by omega) hk (by omega) (by omega)
 refine ⟨p, e, _, A * B * 2 ^ (k - 50), k - 50, R, ⟨hZ.1, hZ.2, hg⟩, ⟨?_, ?_, 107 + k, by omega, ?_, ?_⟩, fun w => ?_⟩
 clear hZ hg
 · rw [v1]; exact Int.dvd_trans (pow_dvd (show 500 ≤ k by omega)) (Int.dvd_mul_left _ _)
 · rw [v2]; exact Int.dvd_trans (pow_dvd (show 500 ≤ k by omega)) (Int.dvd_mul_left _ _)
 · rw [v1]; exact scale_le bAB
 · rw [v2]; exact scale_le (abs_up (l := 107) v3 (by decide))
 have C1 := fun w => fit_any a ha w
 have C2 := fun w => fit_any b hb w
 rw [h1] at C1
 rw [h2] at C2
 clear R v1 v2 v3 bAB na nb hk ha hb h1 h2 i1 i2 j1 j2
 go_enter Tryz.func171, Tryz.ntmps171
 go_wp2_with (first | (go_at_call 51; ((with_reducible refine (C1 _).mono ?_); rintro e w' ⟨rfl, rfl⟩)) | (go_at_call 51; ((with_reducible refine (C2 _).mono ?_); rintro e w' ⟨rfl, rfl⟩)) | (go_at_call 194; ((with_reducible refine (C _).mono ?_); rintro e w' ⟨rfl, rfl⟩; unfold ff)))
 go_ret3
 exact ⟨rfl, rfl⟩
theorem remainder_run {a x y r e x1 x2 : Nat} (C : ∀ w, Calls Tryz.prog 194 #[.float .f64 x, .float .f64 y] w fun en w' => en = .returned (ff r e) ∧ w = w')
 (y1 : Ieee.double.sub a r = some x1) (y2 : Ieee.double.sub x1 e = some x2) (w : World) :
 Calls Tryz.prog 193 #[.float .f64 a, .float .f64 x, .float .f64 y] w fun en w' => en = .returned (.float .f64 x2) ∧ w = w' := by
 have r2 := run_sub _ _ _ y1
 have r3 := run_sub _ _ _ y2
 clear y1 y2
 go_enter Tryz.func193, Tryz.ntmps193
 go_wp2_with (go_at_call 194; ((with_reducible refine (C _).mono ?_); rintro e w' ⟨rfl, rfl⟩; unfold ff))
 go_ret
 exact ⟨rfl, rfl⟩
structure RemRes (a c d q r : Nat) (N Z : Int) (g : Nat) : Prop where
 fq : FinW q
 fr : FinW r
 exn : N = Z * 2 ^ 50
 exz : V c * V d = Z * 2 ^ 1124
 par : (mg 52 (c % 9223372036854775808) = 0 ∨ mg 52 (d % 9223372036854775808) = 0) ∨ ex 52 (c % 9223372036854775808) + ex 52 (d % 9223372036854775808) = g + 1124 ∧ g < 1408
 vr : V r = V a - N
 dq : (2 : Int) ^ 500 ∣ V q
 dr : (2 : Int) ^ 500 ∣ V r
 bd : ∃ K, K ≤ 1490 ∧ (V q).natAbs ≤ 2 ^ K ∧ (V r).natAbs ≤ 2 ^ K
theorem nr_facts {w E : Nat} {A : Int} (h : Nr w A E) (hE : 560 ≤ E) (hE2 : E ≤ 1430) : (2 : Int) ^ 500 ∣ V w ∧ (V w).natAbs ≤ 2 ^ (53 + E) := by
 rw [h.val]
 exact ⟨Int.dvd_trans (pow_dvd (show 500 ≤ E by omega)) (Int.dvd_mul_left _ _), scale_le (Nat.le_of_lt h.hi)⟩
theorem zero_zero_mul (x : Int) (k : Nat) : (0 : Int) - 0 * x * 2 ^ k = 0 := by simp
theorem quot_fit (a b : Nat) (ha : a < 18446744073709551616) (hb : b < 18446744073709551616) (h1 : fitB a = true) (h2 : fitB b = true) (h0 : V b ≠ 0) :
 ∃ q r N Z g, Ieee.double.div a b = some q ∧ RemRes a q b q r N Z g ∧ ∀ w, Calls Tryz.prog 195 #[.float .f64 a, .float .f64 b] w fun en w' => en = .returned (ffi q r 0) ∧ w = w' := by
 obtain ⟨t, n, j, nb, j1, j2⟩ := (fit_norm hb h2).resolve_left h0
 have key : ∃ q A E r e x1 x2, Ieee.double.div a b = some q ∧ Nr q A E ∧ 560 ≤ E ∧ E ≤ 1430 ∧ (E + j = E + j - 1074 + 1074 ∧ 50 ≤ E + j - 1074 ∧ E + j - 1074 < 1458) ∧
  (∀ w, Calls Tryz.prog 194 #[.float .f64 q, .float .f64 b] w fun en w' => en = .returned (ff r e) ∧ w = w') ∧ Ieee.double.sub a r = some x1 ∧ Ieee.double.sub x1 e = some x2 ∧ FinW x2 ∧
  V x2 = V a - A * sv t n 0 * 2 ^ (E + j - 1074) ∧ (2 : Int) ^ 500 ∣ V x2 ∧ ∃ K, K ≤ 1400 ∧ (V x2).natAbs ≤ 2 ^ K := by
  rcases fit_norm ha h1 with z | ⟨s, m, i, na, i1, i2⟩
  · obtain ⟨q, d1, d2, d3⟩ := div_zero (fit_fin ha h1) z (fit_fin hb h2) h0
    have nq : Nr q 0 822 := Nr.zero d2 d3 822
    obtain ⟨r, e, R, v1, v2, v3, C⟩ := product_any nq (Nr.of nb) (by omega) (by omega) (show 822 + j = 822 + j - 1074 + 1074 by omega) (by omega)
    obtain ⟨x1, x2, y1, y2, y3, y4⟩ := rem_words (T := 0) (P := RN (0 * sv t n 0)) (M := 0 * sv t n 0) (fit_fin ha h1) R.fp R.fe (by rw [z]; simp) v1 v2
        (by rw [Int.zero_mul, RN_zero]; exact Rep_zero) (by rw [Int.zero_mul]; exact Rep_zero) (by decide) (by rw [Int.zero_mul, RN_zero]; decide) (by rw [Int.zero_mul]; decide) (show 822 + j - 1074 < 1700 by omega)
    rw [Int.zero_mul, Int.sub_self, Int.zero_mul] at y4
    exact ⟨q, 0, 822, r, e, x1, x2, d1, nq, by omega, by omega, ⟨by omega, by omega, by omega⟩, C, y1, y2, y3, by rw [y4, z, zero_zero_mul], by rw [y4]; exact Int.dvd_zero _, 0, by omega, by rw [y4]; decide⟩
  · obtain ⟨q, A, E, d1, nq, E1, E2, E3, E4, F⟩ := quot_words na nb (by omega) (by omega) (by omega) (by omega)
    obtain ⟨r, e, R, v1, v2, v3, C⟩ := product_any nq (Nr.of nb) (by omega) (by omega) (show E + j = E + j - 1074 + 1074 by omega) (by omega)
    obtain ⟨x1, x2, y1, y2, y3, y4, y5, y6⟩ := F r e R.fp R.fe v1 v2
    exact ⟨q, A, E, r, e, x1, x2, d1, nq, by omega, by omega, ⟨by omega, by omega, by omega⟩, C, y1, y2, y3, y4, y5, 1400, by omega, y6⟩
 obtain ⟨q, A, E, r, e, x1, x2, d1, nq, E1, E2, ⟨E3, E4, E5⟩, C, y1, y2, y3, y4, y5, K, hK, y6⟩ := key
 obtain ⟨u1, u2⟩ := nr_facts nq E1 E2
 have hZ := unit_parts nq (Nr.of nb) E3 E4
 have hg := ex_parts nq (Nr.of nb) (by omega) (by omega) E3 E4 E5
 refine ⟨q, x2, _, _, _, d1, ⟨nq.fin, y3, hZ.1, hZ.2, hg, y4, u1, y5, 1490, by omega, abs_up (l := 1490) u2 (by omega), abs_up (l := 1490) y6 (by omega)⟩, fun w => ?_⟩
 have C1 := fun w => fit_any a ha w
 have C2 := fun w => fit_any b hb w
 have e0 := eq_zero b (fit_fin hb h2)
 rw [decide_eq_false h0] at e0
 rw [h1] at C1
 rw [h2] at C2
 have r1 := run_div _ _ _ d1
 have R := fun w => remainder_run C y1 y2 w
 clear C
 clear ha hb h1 h2 h0 nb j1 j2 d1 nq E1 E2 E3 E4 E5 y1 y2 y3 y4 y5 y6 hK u1 u2 hZ hg
 go_enter Tryz.func195, Tryz.ntmps195
 go_wp2_with (first | (go_at_call 51; ((with_reducible refine (C1 _).mono ?_); rintro e w' ⟨rfl, rfl⟩)) | (go_at_call 51; ((with_reducible refine (C2 _).mono ?_); rintro e w' ⟨rfl, rfl⟩)) | (go_at_call 193; ((with_reducible refine (R _).mono ?_); rintro e w' ⟨rfl, rfl⟩)))
 go_ret3
 exact ⟨rfl, rfl⟩
theorem xsqrt (a r : Nat) (h : Ieee.double.sqrt a = some r) (w : World) : (callFunc 96 #[.float .f64 a]).run Tryz.prog w = .ok (.value (.float .f64 r)) w := by
 rw [run_callFunc_extern (e := Extern.MathSqrt.sqrt) Tryz.func96 (by kernel_rfl) (by kernel_rfl) (by kernel_rfl) (by kernel_rfl)]
 have h' : FloatKind.f64.format.sqrt a = some r := h
 have e : Extern.MathSqrt.sqrt #[.float .f64 a] = (match FloatKind.f64.format.sqrt a with
  | some r => pure (.float .f64 r)
  | none => do pure (.float .f64 (← choose (.nanBits .f64 a a)))) := rfl
 rw [e, h']; rfl
theorem sqrt_any (a r : Nat) (h : Ieee.double.sqrt a = some r) (w : World) :
 Calls Tryz.prog 44 #[.float .f64 a] w fun e w' => e = .returned (.float .f64 r) ∧ w = w' := by
 have X := xsqrt a r h
 clear h
 go_enter Tryz.func44, Tryz.ntmps44
 go_wp2
 go_ret
 exact ⟨rfl, rfl⟩
theorem root_fit (a : Nat) (ha : a < 18446744073709551616) (h1 : fitB a = true) (h0 : 0 ≤ V a) :
 ∃ q r N Z g, Ieee.double.sqrt a = some q ∧ RemRes a q q q r N Z g ∧ ∀ w, Calls Tryz.prog 170 #[.float .f64 a] w fun en w' => en = .returned (ffi q r 0) ∧ w = w' := by
 have key : ∃ q A E r e x1 x2, Ieee.double.sqrt a = some q ∧ Nr q A E ∧ 560 ≤ E ∧ E ≤ 1430 ∧ (E + E = E + E - 1074 + 1074 ∧ 50 ≤ E + E - 1074 ∧ E + E - 1074 < 1458) ∧
  (∀ w, Calls Tryz.prog 194 #[.float .f64 q, .float .f64 q] w fun en w' => en = .returned (ff r e) ∧ w = w') ∧ Ieee.double.sub a r = some x1 ∧ Ieee.double.sub x1 e = some x2 ∧ FinW x2 ∧
  V x2 = V a - A * A * 2 ^ (E + E - 1074) ∧ (2 : Int) ^ 500 ∣ V x2 ∧ ∃ K, K ≤ 1400 ∧ (V x2).natAbs ≤ 2 ^ K := by
  rcases fit_norm ha h1 with z | ⟨s, m, i, na, i1, i2⟩
  · obtain ⟨q, d1, d2, d3⟩ := sqrt_zero (fit_fin ha h1) z
    obtain ⟨E0, hE0⟩ : ∃ E0 : Nat, E0 = 822 := ⟨822, rfl⟩
    have nq : Nr q 0 E0 := Nr.zero d2 d3 E0
    obtain ⟨r, e, R, v1, v2, v3, C⟩ := product_any nq nq (by omega) (by omega) (show E0 + E0 = E0 + E0 - 1074 + 1074 by omega) (by omega)
    obtain ⟨x1, x2, y1, y2, y3, y4⟩ := rem_words (T := 0) (P := RN (0 * 0)) (M := 0 * 0) (fit_fin ha h1) R.fp R.fe (by rw [z]; simp) v1 v2
        (by rw [Int.zero_mul, RN_zero]; exact Rep_zero) (by rw [Int.zero_mul]; exact Rep_zero) (by decide) (by rw [Int.zero_mul, RN_zero]; decide) (by rw [Int.zero_mul]; decide) (show E0 + E0 - 1074 < 1700 by omega)
    rw [Int.zero_mul, Int.sub_self, Int.zero_mul] at y4
    exact ⟨q, 0, E0, r, e, x1, x2, d1, nq, by omega, by omega, ⟨by omega, by omega, by omega⟩, C, y1, y2, y3, by rw [y4, z, zero_zero_mul], by rw [y4]; exact Int.dvd_zero _, 0, by omega, by rw [y4]; decide⟩
  · have hs : s = false := by
        have hv := na.val
        have hp : 0 < m * 2 ^ i := Nat.mul_pos (by have := na.lo; omega) (Nat.two_pow_pos i)
        cases s
        · rfl
        · unfold sv at hv; rw [if_pos rfl] at hv
          generalize m * 2 ^ i = x at *
          omega
    subst hs
    obtain ⟨q, A, E, d1, nq, E1, E2, E3, E4, F⟩ := root_words na (by omega) (by omega)
    obtain ⟨r, e, R, v1, v2, v3, C⟩ := product_any nq nq (by omega) (by omega) (show E + E = E + E - 1074 + 1074 by omega) (by omega)
    obtain ⟨x1, x2, y1, y2, y3, y4, y5, y6⟩ := F r e R.fp R.fe v1 v2
    exact ⟨q, A, E, r, e, x1, x2, d1, nq, by omega, by omega, ⟨by omega, by omega, by omega⟩, C, y1, y2, y3, y4, y5, 1400, by omega, y6⟩
 obtain ⟨q, A, E, r, e, x1, x2, d1, nq, E1, E2, ⟨E3, E4, E5⟩, C, y1, y2, y3, y4, y5, K, hK, y6⟩ := key
 obtain ⟨u1, u2⟩ := nr_facts nq E1 E2
 have hZ := unit_parts nq nq E3 E4
 have hg := ex_parts nq nq (by omega) (by omega) E3 E4 E5
 refine ⟨q, x2, _, _, _, d1, ⟨nq.fin, y3, hZ.1, hZ.2, hg, y4, u1, y5, 1490, by omega, abs_up (l := 1490) u2 (by omega), abs_up (l := 1490) y6 (by omega)⟩, fun w => ?_⟩
 have C1 := fun w => fit_any a ha w
 have e0 := lt_zero a (fit_fin ha h1)
 rw [decide_eq_false (by omega)] at e0
 rw [h1] at C1
 have S := sqrt_any a q d1
 have R := fun w => remainder_run C y1 y2 w
 clear C
 clear ha h1 h0 d1 nq E1 E2 E3 E4 E5 y1 y2 y3 y4 y5 y6 hK u1 u2 hZ hg
 go_enter Tryz.func170, Tryz.ntmps170
 go_wp2_with (first | (go_at_call 51; ((with_reducible refine (C1 _).mono ?_); rintro e w' ⟨rfl, rfl⟩)) | (go_at_call 44; ((with_reducible refine (S _).mono ?_); rintro e w' ⟨rfl, rfl⟩)) | (go_at_call 193; ((with_reducible refine (R _).mono ?_); rintro e w' ⟨rfl, rfl⟩)))
 go_ret3
 exact ⟨rfl, rfl⟩
end Go.Proofs.YtdfcchocabapkaaGreat

namespace Go.Proofs.YtdfcchocabapkaaGreat
open Ieee.Own

theorem V_lt_key {a b : Nat} (ha : FinW a) (hb : FinW b) : V a < V b ↔ key64 a < key64 b := by
 have a1 := ha.1
 have b1 := hb.1
 unfold V key64
 by_cases h1 : a < 9223372036854775808 <;> by_cases h2 : b < 9223372036854775808
 · rw [if_pos h1, if_pos h1, if_pos h2, if_pos h2]
   have := val_lt_iff 52 a b
   omega
 · rw [if_pos h1, if_pos h1, if_neg h2, if_neg h2]; omega
 · rw [if_neg h1, if_neg h1, if_pos h2, if_pos h2]
   have x := val_zero_iff 52 (a - 9223372036854775808)
   have y := val_zero_iff 52 b
   omega
 · rw [if_neg h1, if_neg h1, if_neg h2, if_neg h2]
   have := val_lt_iff 52 (b - 9223372036854775808) (a - 9223372036854775808)
   omega

theorem small_word {b : Nat} (hb : FinW b) (h : (V b).natAbs ≤ 2 ^ 1500) : b % 9223372036854775808 < 9218868437227405311 := by
 rw [V_abs' b hb] at h
 have : val 52 (b % 9223372036854775808) < val 52 9218868437227405311 := Nat.lt_of_le_of_lt h (by decide +kernel)
 exact (val_lt_iff 52 _ _).1 this

theorem next_spec {b : Nat} (hb : FinW b) (h : (V b).natAbs ≤ 2 ^ 1500) : FinW (nextW b) ∧ V b < V (nextW b) ∧ ∀ u, FinW u → V b < V u → V (nextW b) ≤ V u := by
 have h1 := small_word hb h
 have b1 := hb.1
 have hf : FinW (nextW b) := by
  unfold FinW nextW
  repeat' split
  all_goals omega
 have hk : key64 (nextW b) = key64 b + 1 := by
  unfold key64 nextW
  repeat' split
  all_goals omega
 refine ⟨hf, (V_lt_key hb hf).2 (by omega), fun u hu hlt => ?_⟩
 have := (V_lt_key hb hu).1 hlt
 exact Int.not_lt.1 fun hc => by have := (V_lt_key hu hf).1 hc; omega
theorem prev_spec {b : Nat} (hb : FinW b) (h : (V b).natAbs ≤ 2 ^ 1500) : FinW (prevW b) ∧ V (prevW b) < V b ∧ ∀ u, FinW u → V u < V b → V u ≤ V (prevW b) := by
 have h1 := small_word hb h
 have b1 := hb.1
 have hf : FinW (prevW b) := by
  unfold FinW prevW
  repeat' split
  all_goals omega
 have hk : key64 (prevW b) = key64 b - 1 := by
  unfold key64 prevW
  repeat' split
  all_goals omega
 refine ⟨hf, (V_lt_key hf hb).2 (by omega), fun u hu hlt => ?_⟩
 have := (V_lt_key hu hb).1 hlt
 exact Int.not_lt.1 fun hc => by have := (V_lt_key hf hu).1 hc; omega

structure Adj (c : Int → Int) (s : Nat) : Prop where
 fin : FinW s
 bd : (V s).natAbs ≤ 2 ^ 1500
 lo : ∀ u, FinW u → V u < V s → 0 < c (V u)
 hi : ∀ u, FinW u → V s < V u → c (V u) < 0
structure Dn (c : Int → Int) (w : Nat) : Prop where
 fin : FinW w
 le : 0 ≤ c (V w)
 top : ∀ u, FinW u → 0 ≤ c (V u) → V u ≤ V w
structure Up (c : Int → Int) (w : Nat) : Prop where
 fin : FinW w
 ge : c (V w) ≤ 0
 low : ∀ u, FinW u → c (V u) ≤ 0 → V w ≤ V u
theorem Dn.uniq {c : Int → Int} {w x : Nat} (h : Dn c w) (k : Dn c x) : V w = V x := by
 have := h.top x k.fin k.le
 have := k.top w h.fin h.le
 omega
theorem Up.uniq {c : Int → Int} {w x : Nat} (h : Up c w) (k : Up c x) : V w = V x := by
 have := h.low x k.fin k.ge
 have := k.low w h.fin h.ge
 omega

def dnW (neg : Prop) [Decidable neg] (s : Nat) : Nat := if neg then prevW s else s
def upW (pos : Prop) [Decidable pos] (s : Nat) : Nat := if pos then nextW s else s
theorem Adj.dn {c : Int → Int} {s : Nat} (A : Adj c s) {p : Prop} [Decidable p] (h : p ↔ c (V s) < 0) : Dn c (dnW p s) := by
 unfold dnW
 by_cases hc : p
 · rw [if_pos hc]
   obtain ⟨p1, p2, p3⟩ := prev_spec A.fin A.bd
   refine ⟨p1, Int.le_of_lt (A.lo _ p1 p2), fun u hu h0 => p3 u hu ?_⟩
   refine Int.not_le.1 fun h1 => ?_
   have h2 := h.1 hc
   by_cases e : V u = V s
   · rw [e] at h0; omega
   · have := A.hi u hu (by omega); omega
 · rw [if_neg hc]
   refine ⟨A.fin, ?_, fun u hu h0 => ?_⟩
   · have := mt h.2 hc; omega
   · refine Int.not_lt.1 fun h1 => ?_
     have := A.hi u hu h1; omega
theorem Adj.upp {c : Int → Int} {s : Nat} (A : Adj c s) {p : Prop} [Decidable p] (h : p ↔ 0 < c (V s)) : Up c (upW p s) := by
 unfold upW
 by_cases hc : p
 · rw [if_pos hc]
   obtain ⟨p1, p2, p3⟩ := next_spec A.fin A.bd
   refine ⟨p1, Int.le_of_lt (A.hi _ p1 p2), fun u hu h0 => p3 u hu ?_⟩
   refine Int.not_le.1 fun h1 => ?_
   have h2 := h.1 hc
   by_cases e : V u = V s
   · rw [e] at h0; omega
   · have := A.lo u hu (by omega); omega
 · rw [if_neg hc]
   refine ⟨A.fin, ?_, fun u hu h0 => ?_⟩
   · have := mt h.2 hc; omega
   · refine Int.not_lt.1 fun h1 => ?_
     have := A.lo u hu h1; omega

theorem adj_rn {z : Int} {s : Nat} (hs : FinW s) (hv : V s = RN z) (hb : (V s).natAbs ≤ 2 ^ 1500) : Adj (fun v => z - v) s := by
 refine ⟨hs, hb, fun u hu h => ?_, fun u hu h => ?_⟩
 · have := RN_near z (V u) (Rep_V u)
   rw [hv] at h
   show 0 < z - V u
   omega
 · have := RN_near z (V u) (Rep_V u)
   rw [hv] at h
   show z - V u < 0
   omega

theorem gap {u x : Int} {Q E : Nat} (hu : Rep u) (hx : x.natAbs = Q * 2 ^ (E + 1)) (hQ : 2 ^ 52 ≤ Q) (hne : u ≠ x) : 2 ^ E ≤ (u - x).natAbs := by
 obtain ⟨k, e, hk, he⟩ := hu
 by_cases hc : E ≤ e
 · have d1 : (2 : Int) ^ E ∣ u := by
    refine Int.natAbs_dvd_natAbs.1 ?_
    rw [he, Int.natAbs_pow]
    exact Nat.dvd_trans (Nat.pow_dvd_pow 2 hc) (Nat.dvd_mul_left _ _)
   have d2 : (2 : Int) ^ E ∣ x := by
    refine Int.natAbs_dvd_natAbs.1 ?_
    rw [hx, Int.natAbs_pow]
    exact Nat.dvd_trans (Nat.pow_dvd_pow 2 (by omega)) (Nat.dvd_mul_left _ _)
   exact pow_abs_dvd (Int.dvd_sub d1 d2) (by omega)
 · have h1 : u.natAbs ≤ 2 ^ 53 * 2 ^ (E - 1) := by
    rw [he]
    exact Nat.mul_le_mul hk (two_le (by omega))
   have h2 : 2 ^ 52 * 2 ^ (E + 1) ≤ x.natAbs := by rw [hx]; exact Nat.mul_le_mul_right _ hQ
   obtain ⟨f, rfl⟩ : ∃ f, E = f + 1 := ⟨E - 1, by omega⟩
   rw [show f + 1 - 1 = f by omega] at h1
   have e1 : 2 ^ (f + 1) = 2 * 2 ^ f := two_succ f
   have e2 : 2 ^ (f + 1 + 1) = 2 * 2 ^ (f + 1) := two_succ (f + 1)
   rw [e2, e1] at h2
   rw [e1]
   generalize 2 ^ f = y at *
   omega

theorem mul_le_r {a b c : Int} (h : a ≤ b) (hc : 0 ≤ c) : a * c ≤ b * c := Int.mul_le_mul_of_nonneg_right h hc
theorem adj_quot {s : Nat} {X Y : Int} {Q E : Nat} (hs : FinW s) (hv : (V s).natAbs = Q * 2 ^ (E + 1)) (hQ : 2 ^ 52 ≤ Q) (hb : (V s).natAbs ≤ 2 ^ 1500)
 (hr : (X - V s * Y).natAbs < 2 ^ E * Y.natAbs) : Adj (fun v => (X - v * Y) * (if Y < 0 then -1 else 1)) s := by
 obtain ⟨G, hG⟩ : ∃ G : Int, G = ((2 ^ E : Nat) : Int) := ⟨_, rfl⟩
 have hr' : ((X - V s * Y).natAbs : Int) < G * (Y.natAbs : Int) := by rw [hG]; exact_mod_cast hr
 have key : ∀ u, FinW u → V u ≠ V s → G ≤ ((V u - V s).natAbs : Int) := fun u hu hne => by
  rw [hG]
  have := gap (Rep_V u) hv hQ hne
  omega
 have lin : ∀ v, X - v * Y = (X - V s * Y) - (v - V s) * Y := fun v => by rw [Int.sub_mul]; omega
 have ab : ∀ v, ((v - V s) * Y).natAbs = (v - V s).natAbs * Y.natAbs := fun v => Int.natAbs_mul _ _
 refine ⟨hs, hb, fun u hu h => ?_, fun u hu h => ?_⟩
 · have hg := key u hu (by omega)
   have h2 := mul_le_r hg (show (0 : Int) ≤ (Y.natAbs : Int) by omega)
   show 0 < (X - V u * Y) * _
   rw [lin]
   by_cases hy : Y < 0
   · rw [if_pos hy]
     have hp : 0 ≤ (V u - V s) * Y := Int.mul_nonneg_of_nonpos_of_nonpos (by omega) (by omega)
     have := ab (V u)
     have e : (((V u - V s).natAbs : Int) * (Y.natAbs : Int)) = (V u - V s) * Y := by rw [← Int.natCast_mul, ← this]; omega
     omega
   · rw [if_neg hy]
     have hp : (V u - V s) * Y ≤ 0 := Int.mul_nonpos_of_nonpos_of_nonneg (by omega) (by omega)
     have := ab (V u)
     have e : (((V u - V s).natAbs : Int) * (Y.natAbs : Int)) = -((V u - V s) * Y) := by rw [← Int.natCast_mul, ← this]; omega
     omega
 · have hg := key u hu (by omega)
   have h2 := mul_le_r hg (show (0 : Int) ≤ (Y.natAbs : Int) by omega)
   show (X - V u * Y) * _ < 0
   rw [lin]
   by_cases hy : Y < 0
   · rw [if_pos hy]
     have hp : (V u - V s) * Y ≤ 0 := Int.mul_nonpos_of_nonneg_of_nonpos (by omega) (by omega)
     have := ab (V u)
     have e : (((V u - V s).natAbs : Int) * (Y.natAbs : Int)) = -((V u - V s) * Y) := by rw [← Int.natCast_mul, ← this]; omega
     omega
   · rw [if_neg hy]
     have hp : 0 ≤ (V u - V s) * Y := Int.mul_nonneg (by omega) (by omega)
     have := ab (V u)
     have e : (((V u - V s).natAbs : Int) * (Y.natAbs : Int)) = (V u - V s) * Y := by rw [← Int.natCast_mul, ← this]; omega
     omega

theorem adj_quot0 {s : Nat} {Y : Int} (hs : FinW s) (hY : Y ≠ 0) (hv : V s = 0) : Adj (fun v => (0 - v * Y) * (if Y < 0 then -1 else 1)) s := by
 refine ⟨hs, by rw [hv]; exact Nat.zero_le _, fun u hu h => ?_, fun u hu h => ?_⟩
 · show 0 < (0 - V u * Y) * _
   by_cases hy : Y < 0
   · rw [if_pos hy]
     have := Int.mul_pos_of_neg_of_neg (show V u < 0 by omega) hy
     omega
   · rw [if_neg hy]
     have := Int.mul_neg_of_neg_of_pos (show V u < 0 by omega) (show 0 < Y by omega)
     omega
 · show (0 - V u * Y) * _ < 0
   by_cases hy : Y < 0
   · rw [if_pos hy]
     have := Int.mul_neg_of_pos_of_neg (show 0 < V u by omega) hy
     omega
   · rw [if_neg hy]
     have := Int.mul_pos (show 0 < V u by omega) (show 0 < Y by omega)
     omega

theorem no_tie {m n Q u : Nat} (hn : 0 < n) (n2 : n < 2 ^ 53) (hu : 52 ≤ u) : 2 * (Q * n) ≠ 2 * (m * 2 ^ u) + n ∧ 2 * (m * 2 ^ u) ≠ 2 * (Q * n) + n := by
 obtain ⟨f, rfl⟩ : ∃ f, u = 52 + f := ⟨u - 52, by omega⟩
 have e : 2 * (m * 2 ^ (52 + f)) = 9007199254740992 * (m * 2 ^ f) := by
  rw [Nat.pow_add, show (2 : Nat) ^ 52 = 4503599627370496 from rfl]
  generalize 2 ^ f = y
  rw [show m * (4503599627370496 * y) = 4503599627370496 * (m * y) by ac_rfl]
  omega
 rw [e]
 generalize m * 2 ^ f = z
 -- n times an odd number would be a multiple of 2^53
 have odd : ∀ k : Nat, n * (2 * k + 1) = 9007199254740992 * z → False := fun k h => by
  have hc : Nat.Coprime (2 ^ 53) (2 * k + 1) := Nat.Coprime.pow_left 53 (by
   rw [Nat.coprime_iff_gcd_eq_one, Nat.gcd_rec]
   have : (2 * k + 1) % 2 = 1 := by omega
   rw [this]; rfl)
  have hd : 2 ^ 53 ∣ n * (2 * k + 1) := ⟨z, by rw [h]⟩
  have := Nat.le_of_dvd hn (hc.dvd_of_dvd_mul_right hd)
  omega
 constructor
 · intro h
   have hQ : 0 < Q := by
    refine Nat.pos_of_ne_zero fun h0 => ?_
    rw [h0] at h; omega
   obtain ⟨k, rfl⟩ : ∃ k, Q = k + 1 := ⟨Q - 1, by omega⟩
   refine odd k ?_
   rw [Nat.add_mul] at h
   rw [Nat.mul_add, show n * (2 * k) = 2 * (k * n) by ac_rfl]
   omega
 · intro h
   refine odd Q ?_
   rw [Nat.mul_add, show n * (2 * Q) = 2 * (Q * n) by ac_rfl]
   omega

theorem adj_root {s : Nat} {X : Int} {Q E : Nat} (hs : FinW s) (hv : V s = ((Q * 2 ^ (E + 1) : Nat) : Int)) (hQ : 2 ^ 52 ≤ Q) (hb : (V s).natAbs ≤ 2 ^ 1500)
 (h1 : (((2 * Q - 1) * 2 ^ E * ((2 * Q - 1) * 2 ^ E) : Nat) : Int) < X) (h2 : X < (((2 * Q + 1) * 2 ^ E * ((2 * Q + 1) * 2 ^ E) : Nat) : Int)) :
 Adj (fun v => if v < 0 then 1 else X - v * v) s := by
 have ex : Q * 2 ^ (E + 1) = 2 * Q * 2 ^ E := by rw [two_succ]; ac_rfl
 have key : ∀ u, FinW u → V u ≠ V s → 2 ^ E ≤ (V u - V s).natAbs := fun u hu hne => gap (Rep_V u) (by rw [hv]; rfl) hQ hne
 rw [ex] at hv
 refine ⟨hs, hb, fun u hu h => ?_, fun u hu h => ?_⟩
 · show 0 < ite _ _ _
   by_cases hn : V u < 0
   · rw [if_pos hn]; omega
   · rw [if_neg hn]
     have hg := key u hu (by omega)
     obtain ⟨x, hx⟩ : ∃ x : Nat, V u = (x : Int) := ⟨(V u).natAbs, by omega⟩
     rw [hx] at hg hn ⊢
     have hxl : x ≤ (2 * Q - 1) * 2 ^ E := by
        rw [Nat.sub_mul, Nat.one_mul]
        rw [hx] at h
        rw [hv] at h hg
        generalize 2 * Q * 2 ^ E = y at *
        generalize 2 ^ E = z at *
        omega
     have := Nat.mul_le_mul hxl hxl
     rw [← Int.natCast_mul]
     omega
 · show ite _ _ _ < 0
   have hn : ¬ V u < 0 := by omega
   rw [if_neg hn]
   have hg := key u hu (by omega)
   obtain ⟨x, hx⟩ : ∃ x : Nat, V u = (x : Int) := ⟨(V u).natAbs, by omega⟩
   rw [hx] at hg hn ⊢
   have hxl : (2 * Q + 1) * 2 ^ E ≤ x := by
    rw [Nat.add_mul, Nat.one_mul]
    rw [hx] at h
    rw [hv] at h hg
    generalize 2 * Q * 2 ^ E = y at *
    generalize 2 ^ E = z at *
    omega
   have := Nat.mul_le_mul hxl hxl
   rw [← Int.natCast_mul]
   omega
theorem adj_root0 {s : Nat} (hs : FinW s) (hv : V s = 0) : Adj (fun v => if v < 0 then 1 else 0 - v * v) s := by
 refine ⟨hs, by rw [hv]; exact Nat.zero_le _, fun u hu h => ?_, fun u hu h => ?_⟩
 · show 0 < ite _ _ _
   rw [if_pos (by omega)]; omega
 · show ite _ _ _ < 0
   rw [if_neg (by omega)]
   have := Int.mul_pos (show 0 < V u by omega) (show 0 < V u by omega)
   omega

theorem sv_up (s : Bool) (m p k : Nat) : sv s m p * 2 ^ k = sv s m (p + k) := by
 unfold sv
 cases s
 · rw [if_neg (by simp), if_neg (by simp), Nat.pow_add, ← Nat.mul_assoc]; simp
 · rw [if_pos rfl, if_pos rfl, Nat.pow_add, ← Nat.mul_assoc]; simp [Int.neg_mul]
theorem sv_diff (s : Bool) (x y k : Nat) : (sv s x k - sv s y k).natAbs = ((x : Int) - y).natAbs * 2 ^ k := by
 have h : (((x : Int) - y) * 2 ^ k).natAbs = ((x : Int) - y).natAbs * 2 ^ k := scale_abs _ _
 rw [← h, Int.sub_mul]
 unfold sv
 cases s
 · rw [if_neg (by simp), if_neg (by simp)]; simp
 · rw [if_pos rfl, if_pos rfl]; simp; omega

def quotC (a b : Nat) (v : Int) : Int := (V a * 2 ^ 1074 - v * V b) * (if V b < 0 then -1 else 1)
theorem quot_adj {a b q : Nat} (ha : a < 18446744073709551616) (hb : b < 18446744073709551616) (h1 : fitB a = true) (h2 : fitB b = true) (h0 : V b ≠ 0) (hq : Ieee.double.div a b = some q) (bd : (V q).natAbs ≤ 2 ^ 1500) : Adj (quotC a b) q := by
 obtain ⟨t, n, j, nb, j1, j2⟩ := (fit_norm hb h2).resolve_left h0
 rcases fit_norm ha h1 with z | ⟨s, m, i, na, i1, i2⟩
 · obtain ⟨q', d1, d2, d3⟩ := div_zero (fit_fin ha h1) z (fit_fin hb h2) h0
   obtain rfl : q' = q := Option.some.inj (d1.symm.trans hq)
   have := adj_quot0 d2 h0 d3
   unfold quotC
   rw [z, Int.zero_mul]
   exact this
 · obtain ⟨q', Q, u, d1, d2, d3, u1, u2, Q1, Q2, g1, g2⟩ := div_spec na nb (by omega) (by omega)
   obtain rfl : q' = q := Option.some.inj (d1.symm.trans hq)
   obtain ⟨n1, n2⟩ := no_tie (m := m) (Q := Q) (u := u) (n := n) (by have := nb.lo; omega) nb.hi u1
   obtain ⟨E, hE⟩ : ∃ E, 1074 + i - j - u = E + 1 := ⟨1074 + i - j - u - 1, by omega⟩
   rw [hE] at d3
   refine adj_quot (Q := Q) (E := E) d2 (by rw [d3, sv_abs]) Q1 bd ?_
   rw [na.val, nb.val] at *
   rw [d3, sv_mul, sv_up, show ((s ^^ t) ^^ t) = s by cases s <;> cases t <;> rfl]
   have e1 : sv s m (i + 1074) = sv s (m * 2 ^ u) (E + j + 1) := by rw [sv_scale]; congr 1; omega
   rw [e1, show E + 1 + j = E + j + 1 by omega, sv_diff, sv_abs]
   have e2 : 2 ^ E * (n * 2 ^ j) = n * 2 ^ (E + j) := by rw [Nat.pow_add]; ac_rfl
   rw [e2, two_succ, ← Nat.mul_assoc]
   refine (Nat.mul_lt_mul_right (Nat.two_pow_pos _)).2 ?_
   omega

theorem four_pow (x y : Nat) : 2 ^ (2 + x + (y + y)) = 4 * 2 ^ x * (2 ^ y * 2 ^ y) := by rw [Nat.pow_add, Nat.pow_add, Nat.pow_add, show (2 : Nat) ^ 2 = 4 from rfl]
theorem units_mul' (x : Int) {i j k : Nat} (h : i + j = k) : x * 2 ^ i * 2 ^ j = x * 2 ^ k := by subst h; exact units_mul x i j
def rootC (a : Nat) (v : Int) : Int := if v < 0 then 1 else V a * 2 ^ 1074 - v * v
theorem root_adj {a q : Nat} (ha : a < 18446744073709551616) (h1 : fitB a = true) (h0 : 0 ≤ V a) (hq : Ieee.double.sqrt a = some q) (bd : (V q).natAbs ≤ 2 ^ 1500) : Adj (rootC a) q ∧ 0 ≤ V q := by
 rcases fit_norm ha h1 with z | ⟨s, m, i, na, i1, i2⟩
 · obtain ⟨q', d1, d2, d3⟩ := sqrt_zero (fit_fin ha h1) z
   obtain rfl : q' = q := Option.some.inj (d1.symm.trans hq)
   have := adj_root0 d2 d3
   refine ⟨?_, by omega⟩
   unfold rootC
   rw [z, Int.zero_mul]
   exact this
 · have hs : s = false := by
    have hv := na.val
    have hp : 0 < m * 2 ^ i := Nat.mul_pos (by have := na.lo; omega) (Nat.two_pow_pos i)
    cases s
    · rfl
    · unfold sv at hv; rw [if_pos rfl] at hv
      generalize m * 2 ^ i = x at *
      omega
   subst hs
   obtain ⟨q', Q, d1, d2, d3, Q1, Q2, g1, g2⟩ := sqrt_spec na (by omega)
   obtain rfl : q' = q := Option.some.inj (d1.symm.trans hq)
   obtain ⟨E, hE⟩ : ∃ E, 511 + i / 2 = E + 1 := ⟨510 + i / 2, by omega⟩
   rw [hE] at d3
   have hv : V q' = ((Q * 2 ^ (E + 1) : Nat) : Int) := by rw [d3]; unfold sv; simp
   have hN : m * 2 ^ (i + 1074) = 4 * (m * 2 ^ (52 + i % 2)) * (2 ^ E * 2 ^ E) := by
    rw [show i + 1074 = 2 + (52 + i % 2) + (E + E) by omega, four_pow]
    generalize 2 ^ (52 + i % 2) = x
    generalize 2 ^ E = y
    ac_rfl
   have hX : V a * 2 ^ 1074 = ((4 * (m * 2 ^ (52 + i % 2)) * (2 ^ E * 2 ^ E) : Nat) : Int) := by
    rw [na.val, sv_up, ← hN]
    exact if_neg (by simp)
   refine ⟨?_, by rw [hv]; exact Int.natCast_nonneg _⟩
   refine adj_root (Q := Q) (E := E) d2 hv Q1 bd ?_ ?_
   · rw [hX]
     have e : (2 * Q - 1) * 2 ^ E * ((2 * Q - 1) * 2 ^ E) = (2 * Q - 1) * (2 * Q - 1) * (2 ^ E * 2 ^ E) := by ac_rfl
     rw [e]
     have hp : 0 < 2 ^ E * 2 ^ E := Nat.mul_pos (Nat.two_pow_pos _) (Nat.two_pow_pos _)
     refine Int.ofNat_lt.2 ((Nat.mul_lt_mul_right hp).2 ?_)
     obtain ⟨P, rfl⟩ : ∃ P, Q = P + 1 := ⟨Q - 1, by omega⟩
     have x1 : (2 * (P + 1) - 1) * (2 * (P + 1) - 1) = 4 * (P * P) + 4 * P + 1 := by
        rw [show 2 * (P + 1) - 1 = 2 * P + 1 by omega, Nat.add_mul, Nat.mul_add, show 2 * P * (2 * P) = 4 * (P * P) by rw [show (4 : Nat) = 2 * 2 from rfl]; ac_rfl]; omega
     have x2 : (P + 1) * (P + 1) = P * P + 2 * P + 1 := by rw [Nat.add_mul, Nat.mul_add]; omega
     rw [x1]
     omega
   · rw [hX]
     have e : (2 * Q + 1) * 2 ^ E * ((2 * Q + 1) * 2 ^ E) = (2 * Q + 1) * (2 * Q + 1) * (2 ^ E * 2 ^ E) := by ac_rfl
     rw [e]
     have hp : 0 < 2 ^ E * 2 ^ E := Nat.mul_pos (Nat.two_pow_pos _) (Nat.two_pow_pos _)
     refine Int.ofNat_lt.2 ((Nat.mul_lt_mul_right hp).2 ?_)
     have x1 : (2 * Q + 1) * (2 * Q + 1) = 4 * (Q * Q) + 4 * Q + 1 := by
        rw [Nat.add_mul, Nat.mul_add, show 2 * Q * (2 * Q) = 4 * (Q * Q) by rw [show (4 : Nat) = 2 * 2 from rfl]; ac_rfl]; omega
     rw [x1]
     omega

theorem prod_adj {a b p e : Nat} {N : Int} (R : ProdRes a b p e N) (bd : (V p).natAbs ≤ 2 ^ 1500) : Adj (fun v => N - v) p := adj_rn R.fp R.vp bd
theorem cut_sign {x : Int} (k : Nat) : (x * 2 ^ k < 0 ↔ x < 0) ∧ (0 < x * 2 ^ k ↔ 0 < x) := by
 have hp : (0 : Int) < 2 ^ k := Int.pow_pos (by omega)
 constructor
 · constructor
   · intro h; exact Int.not_le.1 fun hc => by have := Int.mul_nonneg hc (Int.le_of_lt hp); omega
   · intro h; exact Int.mul_neg_of_neg_of_pos h hp
 · constructor
   · intro h; exact Int.not_le.1 fun hc => by have := Int.mul_nonpos_of_nonpos_of_nonneg hc (Int.le_of_lt hp); omega
   · intro h; exact Int.mul_pos h hp
theorem rem_c {a q b r g : Nat} {N Z : Int} (R : RemRes a q b q r N Z g) : V a * 2 ^ 1074 - V q * V b = V r * 2 ^ 1074 := by
 have h := R.exz
 rw [R.vr, R.exn, Int.sub_mul, h, units_mul' Z (i := 50) (j := 1074) (k := 1124) rfl]
theorem quot_c {a q b r g : Nat} {N Z : Int} (R : RemRes a q b q r N Z g) : quotC a b (V q) = (if V b < 0 then -V r else V r) * 2 ^ 1074 := by
 unfold quotC
 rw [rem_c R]
 split
 · rw [Int.mul_neg, Int.mul_one, Int.neg_mul]
 · rw [Int.mul_one]
theorem root_c {a q r g : Nat} {N Z : Int} (R : RemRes a q q q r N Z g) (h0 : 0 ≤ V q) : rootC a (V q) = V r * 2 ^ 1074 := by
 unfold rootC
 rw [if_neg (by omega)]
 exact rem_c R
theorem RemRes.bd' {a c d q r g : Nat} {N Z : Int} (R : RemRes a c d q r N Z g) : (V q).natAbs ≤ 2 ^ 1500 := by
 obtain ⟨K, hK, h, -⟩ := R.bd
 exact Nat.le_trans h (two_le (a := K) (b := 1500) (by omega))
end Go.Proofs.YtdfcchocabapkaaGreat

namespace Go.Proofs.YtdfcchocabapkaaGreat
open Go.ChangeShapes Go.WideShapes Go.ChangeAt Go.RowKit Ieee.Own

theorem fin_nn {a : Nat} (h : FinW a) : nn a := by have := h.2; unfold nn; omega
theorem lt_words {a b : Nat} (ha : FinW a) (hb : FinW b) : (FloatKind.f64.format.order a b == some Ordering.lt) = decide (V a < V b) := by
 rw [o_lss a b ha.1 hb.1, decide_eq_decide]
 have := V_lt_key ha hb
 exact ⟨fun h => this.2 h.2.2, fun h => ⟨fin_nn ha, fin_nn hb, this.1 h⟩⟩
theorem gt_words {a b : Nat} (ha : FinW a) (hb : FinW b) : (FloatKind.f64.format.order a b == some Ordering.gt) = decide (V b < V a) := by
 rw [o_gtr a b ha.1 hb.1, decide_eq_decide]
 have := V_lt_key hb ha
 exact ⟨fun h => this.2 h.2.2, fun h => ⟨fin_nn ha, fin_nn hb, this.1 h⟩⟩
theorem le_words {a b : Nat} (ha : FinW a) (hb : FinW b) : (FloatKind.f64.format.order a b == some Ordering.lt || FloatKind.f64.format.order a b == some Ordering.eq) = decide (V a ≤ V b) := by
 rw [o_leq a b ha.1 hb.1, decide_eq_decide]
 have := V_lt_key hb ha
 exact ⟨fun h => Int.not_lt.1 fun h' => by have := this.1 h'; omega, fun h => ⟨fin_nn ha, fin_nn hb, Int.not_lt.1 fun h' => by have := this.2 h'; omega⟩⟩
theorem ge_words {a b : Nat} (ha : FinW a) (hb : FinW b) : (FloatKind.f64.format.order a b == some Ordering.gt || FloatKind.f64.format.order a b == some Ordering.eq) = decide (V b ≤ V a) := by
 rw [o_geq a b ha.1 hb.1, decide_eq_decide]
 have := V_lt_key ha hb
 exact ⟨fun h => Int.not_lt.1 fun h' => by have := this.1 h'; omega, fun h => ⟨fin_nn ha, fin_nn hb, Int.not_lt.1 fun h' => by have := this.2 h'; omega⟩⟩
theorem zero_fin : FinW 0 := ⟨by omega, by omega⟩
theorem V_zero : V 0 = 0 := by decide +kernel

def leastV : Int := V 3706462493325918208
def mostV : Int := V 5507902344274116608
theorem leastV_pos : 0 < leastV := by decide +kernel
theorem least_fin : FinW 3706462493325918208 := ⟨by omega, by omega⟩
theorem nleast_fin : FinW 12929834530180694016 := ⟨by omega, by omega⟩
theorem nleast_V : V 12929834530180694016 = -leastV := by decide +kernel
def lowW (x : Nat) : Nat := if 0 ≤ V x ∧ V x < leastV then 0 else if V x < 0 ∧ -leastV < V x then 12929834530180694016 else x
def highW (x : Nat) : Nat := if V x ≤ 0 ∧ -leastV < V x then 0 else if 0 < V x ∧ V x < leastV then 3706462493325918208 else x
theorem lowW_fin {x : Nat} (h : FinW x) : FinW (lowW x) := by
 unfold lowW; split
 · exact zero_fin
 · split
   · exact nleast_fin
   · exact h
theorem highW_fin {x : Nat} (h : FinW x) : FinW (highW x) := by
 unfold highW; split
 · exact zero_fin
 · split
   · exact least_fin
   · exact h
theorem lowW_congr {x y : Nat} (hx : FinW x) (hy : FinW y) (h : V x = V y) : lowW x = lowW y := by
 unfold lowW
 rw [h]
 by_cases c1 : 0 ≤ V y ∧ V y < leastV
 · rw [if_pos c1, if_pos c1]
 · rw [if_neg c1, if_neg c1]
   by_cases c2 : V y < 0 ∧ -leastV < V y
   · rw [if_pos c2, if_pos c2]
   · rw [if_neg c2, if_neg c2]
     exact V_inj hx hy h (by have := leastV_pos; omega)
theorem highW_congr {x y : Nat} (hx : FinW x) (hy : FinW y) (h : V x = V y) : highW x = highW y := by
 unfold highW
 rw [h]
 by_cases c1 : V y ≤ 0 ∧ -leastV < V y
 · rw [if_pos c1, if_pos c1]
 · rw [if_neg c1, if_neg c1]
   by_cases c2 : 0 < V y ∧ V y < leastV
   · rw [if_pos c2, if_pos c2]
   · rw [if_neg c2, if_neg c2]
     exact V_inj hx hy h (by have := leastV_pos; omega)

theorem fin_top {b : Nat} (h : FinW b) : (V b).natAbs < 2 ^ 2098 := by
 rw [V_abs' b h, ← top64']
 exact (val_lt_iff 52 _ _).2 h.2
theorem xneg' (b : Nat) (hb : b < 18446744073709551616) (w : World) : (Op.unary .neg (.float .f64 b)).run Tryz.prog w = .ok (.float .f64 (negW b)) w := xneg b hb w
def spanE (lo hi : Nat) (c : Int) : Value := .tuple #[.agg #[.float .f64 lo, .float .f64 hi], .int .i64 c]
def toldE (lo hi : Nat) : Value := if V (lowW lo) < -mostV ∨ mostV < V (highW hi) then spanE 0 0 3 else spanE (lowW lo) (highW hi) 0
theorem toldE_congr {a b c d : Nat} (ha : FinW a) (hb : FinW b) (hc : FinW c) (hd : FinW d) (h : V a = V b) (k : V c = V d) : toldE a c = toldE b d := by
 unfold toldE; rw [lowW_congr ha hb h, highW_congr hc hd k]

theorem fstore (a : Addr) (b : Nat) (m : Mode) (x : World) : (store a (.float .f64 b) m).run Tryz.prog x = stored Tryz.prog x a (.float .f64 b) m := run_store _ x a _ m rfl
def errS (a b : Nat) : Int := if fitB a = true ∧ fitB b = true then (if V b < V a then 5 else 0) else 3
def spanV (a b : Nat) : Value := .agg #[.float .f64 a, .float .f64 b]

theorem float_cell {H : Type} {enc : TypeId × Value → H} {P : Program} {w : World} {base : Nat} {spare : Nat → Bool} {held : Bool} {n : Nat} {e : TypeId} {v : Value} {x : DataW H × List MemPlace}
 (he : P.underlying e = some (.float .f64)) (h : DataW.trod enc P w base spare held n e [v] = some x) : ∃ b, v = .float .f64 b ∧ b < 18446744073709551616 := by
 cases n with
 | zero => simp [DataW.trod] at h
 | succ n =>
   simp only [DataW.trod, he] at h
   cases v with
   | float k b =>
     cases k with
     | f64 => exact ⟨b, rfl, by
      by_cases hw : (Lit.float .f64 b).wf = true
      · simpa only [Lit.wf, decide_eq_true_eq] using hw
      · simp [hw] at h⟩
     | f32 => simp at h
   | _ => simp at h

def boxO (a b : Nat) : Obj := .cells #[.float .f64 a, .float .f64 b] 26 (0, 0)
structure Blocks (w : World) (os : List Obj) (wr : World) : Prop where
 old : Below w.heap.size w wr
 more : w.heap.size + os.length ≤ wr.heap.size
 at_ : ∀ j o, os[j]? = some o → wr.heap[w.heap.size + j]? = some o
theorem Blocks.nil (w : World) : Blocks w [] w := ⟨Below.refl _ w, by simp, by intro j o h; simp at h⟩
theorem Blocks.alloc {w wr : World} {os : List Obj} (S : Blocks w os wr) (h : wr.heap.size = w.heap.size + os.length) (o : Obj) : Blocks w (os ++ [o]) (wr.alloc o) := by
 refine ⟨S.old.alloc (by omega) o, by simp; omega, fun j p hj => ?_⟩
 by_cases hl : j < os.length
 · rw [heap_alloc_old wr o (by omega)]
   rw [List.getElem?_append_left hl] at hj
   exact S.at_ j p hj
 · have hj' : j = os.length := by
    have := (List.getElem?_eq_some_iff.1 hj).1
    simp at this
    omega
   subst hj'
   rw [← h, heap_alloc_new]
   simpa using hj
theorem Blocks.on {w wr w' : World} {os : List Obj} (S : Blocks w os wr) (h : Below wr.heap.size wr w') : Blocks w os w' := by
 refine ⟨S.old.trans (h.mono S.old.size), Nat.le_trans S.more h.size, fun j o hj => ?_⟩
 have hl := (List.getElem?_eq_some_iff.1 hj).1
 have := S.more
 rw [h.block _ (by omega)]
 exact S.at_ j o hj
theorem Blocks.cell {w wr : World} {os : List Obj} (S : Blocks w os wr) (j : Nat) {cs : Array Value} {t : TypeId} {fr : Nat × Nat} (h : os[j]? = some (.cells cs t fr)) (i k : Nat) (hk : k = w.heap.size + j) : wr.cell? ⟨k, i, none⟩ = cs[i]? := by
 subst hk
 exact cell_of_row wr _ i cs t fr (S.at_ j _ h)
theorem Blocks.free {w wr : World} {os : List Obj} (S : Blocks w os wr) (j : Nat) {cs : Array Value} {t : TypeId} (h : os[j]? = some (.cells cs t (0, 0))) (i k : Nat) (hk : k = w.heap.size + j) : wr.frozen? ⟨k, i, none⟩ = false := by
 subst hk
 exact frozen_of_row wr _ i cs t (S.at_ j _ h)

def errSS (a1 a2 b1 b2 : Nat) : Int := if errS a1 a2 ≠ 0 then errS a1 a2 else errS b1 b2
end Go.Proofs.YtdfcchocabapkaaGreat
