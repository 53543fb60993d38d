/- Proved here: what the texts Flt, Nxs, Ftw, Adj, Spr, Spa, Sadd, Adq, Sun, Ssq, Spm, Spo, Sps, Spn, Rop, Mm, Cor, Smu, Sdv, Sin, Smd, Cls, Acv, Win, Lab, Ssqs, Sml4 prove, one behind the other. -/
import Derived.Test.YtacinenddnfcbaaGreatJy2
import Derived.Test.YtacinenddnfcbaaGreatJy1
import Derived.Laws.Externs
import Derived.Laws.ResultCell
import Derived.Deep.RegionHeld3
import Derived.BigQuiet
import Derived.Deep.CutRange
import Derived.Deep.RegionHeld
import Derived.Deep.MidRow
import Derived.Deep.WholeRow
import Derived.Laws.IdiomCopy

set_option maxRecDepth 100000
namespace Go.Proofs.YtacinenddnfcbaaGreat
open Go.ChangeShapes Go.WideShapes Go.ChangeAt Go.RowKit Ieee.Own

theorem ret_f {k : FloatKind} {a b : Nat} (h : a = b) : Ending.returned (.float k a) = .returned (.float k b) := by rw [h]
theorem x40 (n : Int) (w : World) : (callFunc 67 #[.int .u64 n]).run Tryz.prog w = .ok (.value (.float .f64 n.toNat)) w := by
 rw [run_callFunc_extern (e := Extern.MathFloatBits.float64frombits) Tryz.func67 (by kernel_rfl) (by kernel_rfl) (by kernel_rfl) (by kernel_rfl)]; rfl

def nn (a : Nat) : Prop := a % 9223372036854775808 ≤ 9218868437227405312
instance (a : Nat) : Decidable (nn a) := inferInstanceAs (Decidable (_ ≤ _))
theorem o_lss (a b : Nat) (ha : a < 18446744073709551616) (hb : b < 18446744073709551616) :
 (FloatKind.f64.format.order a b == some Ordering.lt) = decide (nn a ∧ nn b ∧ key64 a < key64 b) := by
 show (Ieee.double.order a b == some Ordering.lt) = _
 by_cases h : nn a ∧ nn b
 · rw [order64 a b ha hb h.1 h.2, cmp_lt]; simp [h]
 · rw [order64_nan a b (by unfold nn at h; omega)]; symm; simp; intro h1 h2; exact absurd ⟨h1, h2⟩ h
theorem o_gtr (a b : Nat) (ha : a < 18446744073709551616) (hb : b < 18446744073709551616) :
 (FloatKind.f64.format.order a b == some Ordering.gt) = decide (nn a ∧ nn b ∧ key64 b < key64 a) := by
 show (Ieee.double.order a b == some Ordering.gt) = _
 by_cases h : nn a ∧ nn b
 · rw [order64 a b ha hb h.1 h.2, cmp_gt]; simp [h]
 · rw [order64_nan a b (by unfold nn at h; omega)]; symm; simp; intro h1 h2; exact absurd ⟨h1, h2⟩ h
theorem o_eql (a b : Nat) (ha : a < 18446744073709551616) (hb : b < 18446744073709551616) :
 (FloatKind.f64.format.order a b == some Ordering.eq) = decide (nn a ∧ nn b ∧ key64 a = key64 b) := by
 show (Ieee.double.order a b == some Ordering.eq) = _
 by_cases h : nn a ∧ nn b
 · rw [order64 a b ha hb h.1 h.2, cmp_eq]; simp [h]
 · rw [order64_nan a b (by unfold nn at h; omega)]; symm; simp; intro h1 h2; exact absurd ⟨h1, h2⟩ h
theorem o_leq (a b : Nat) (ha : a < 18446744073709551616) (hb : b < 18446744073709551616) :
 (FloatKind.f64.format.order a b == some Ordering.lt || FloatKind.f64.format.order a b == some Ordering.eq) = decide (nn a ∧ nn b ∧ key64 a ≤ key64 b) := by
 rw [o_lss a b ha hb, o_eql a b ha hb, Bool.eq_iff_iff]
 simp only [Bool.or_eq_true, decide_eq_true_eq]
 constructor
 · rintro (⟨h1, h2, h3⟩ | ⟨h1, h2, h3⟩)
   · exact ⟨h1, h2, by omega⟩
   · exact ⟨h1, h2, by omega⟩
 · rintro ⟨h1, h2, h3⟩
   by_cases h : key64 a < key64 b
   · exact Or.inl ⟨h1, h2, h⟩
   · exact Or.inr ⟨h1, h2, by omega⟩
theorem o_geq (a b : Nat) (ha : a < 18446744073709551616) (hb : b < 18446744073709551616) :
 (FloatKind.f64.format.order a b == some Ordering.gt || FloatKind.f64.format.order a b == some Ordering.eq) = decide (nn a ∧ nn b ∧ key64 b ≤ key64 a) := by
 rw [o_gtr a b ha hb, o_eql a b ha hb, Bool.eq_iff_iff]
 simp only [Bool.or_eq_true, decide_eq_true_eq]
 constructor
 · rintro (⟨h1, h2, h3⟩ | ⟨h1, h2, h3⟩)
   · exact ⟨h1, h2, by omega⟩
   · exact ⟨h1, h2, by omega⟩
 · rintro ⟨h1, h2, h3⟩
   by_cases h : key64 b < key64 a
   · exact Or.inl ⟨h1, h2, h⟩
   · exact Or.inr ⟨h1, h2, by omega⟩
theorem key_low {m : Nat} (h : m < 9223372036854775808) : key64 m = m := by unfold key64; simp [h]

theorem abs_any (b : Nat) (h : b < 18446744073709551616) (w : World) :
 Calls Tryz.prog 37 #[.float .f64 b] w fun e w' => e = .returned (.float .f64 (b % 9223372036854775808)) ∧ w = w' := by
 have H := Lib.hid (andn63 b h)
 go_enter Tryz.func37, Tryz.ntmps37
 go_wp2_with (simp only [x34, x40])
 go_ret
 exact ⟨ret_f (by rw [H.out]; rfl), rfl⟩

theorem fit_any (b : Nat) (hb : b < 18446744073709551616) (w : World) :
 Calls Tryz.prog 72 #[.float .f64 b] w fun e w' => e = .returned (.bool (fitB b)) ∧ w = w' := by
 have hm : b % 9223372036854775808 < 9223372036854775808 := by omega
 have e1 := o_eql (b % 9223372036854775808) 0 (by omega) (by omega)
 have e2 := o_leq 3706462493325918208 (b % 9223372036854775808) (by omega) (by omega)
 have e3 := o_leq (b % 9223372036854775808) 5507902344274116608 (by omega) (by omega)
 rw [key_low hm, key_low (by omega)] at e1 e2 e3
 have HA := fun w => abs_any b hb w
 unfold fitB
 clear hb
 generalize b % 9223372036854775808 = m at *
 by_cases c1 : m = 0
 · rw [decide_eq_true (by unfold nn; omega)] at e1
   rw [decide_eq_true (Or.inl c1)]
   clear hm e2 e3 c1
   go_enter Tryz.func72, Tryz.ntmps72
   go_wp2_with (go_at_call 37; ((with_reducible refine (HA _).mono ?_); rintro e w' ⟨rfl, rfl⟩))
   go_ret
   exact ⟨rfl, rfl⟩
 · rw [decide_eq_false (by omega)] at e1
   by_cases c2 : 3706462493325918208 ≤ m ∧ m ≤ 9218868437227405312
   · rw [decide_eq_true (by unfold nn; omega)] at e2
     by_cases c3 : m ≤ 5507902344274116608
     · rw [decide_eq_true (by unfold nn; omega)] at e3
       rw [decide_eq_true (by omega)]
       clear hm c1 c2 c3
       go_enter Tryz.func72, Tryz.ntmps72
       go_wp2_with (go_at_call 37; ((with_reducible refine (HA _).mono ?_); rintro e w' ⟨rfl, rfl⟩))
       go_ret
       exact ⟨rfl, rfl⟩
     · rw [decide_eq_false (by unfold nn; omega)] at e3
       rw [decide_eq_false (by omega)]
       clear hm c1 c2 c3
       go_enter Tryz.func72, Tryz.ntmps72
       go_wp2_with (go_at_call 37; ((with_reducible refine (HA _).mono ?_); rintro e w' ⟨rfl, rfl⟩))
       go_ret
       exact ⟨rfl, rfl⟩
   · rw [decide_eq_false (by unfold nn; omega)] at e2
     rw [decide_eq_false (by omega)]
     clear hm c1 c2 e3
     go_enter Tryz.func72, Tryz.ntmps72
     go_wp2_with (go_at_call 37; ((with_reducible refine (HA _).mono ?_); rintro e w' ⟨rfl, rfl⟩))
     go_ret
     exact ⟨rfl, rfl⟩

theorem rfit_any (b : Nat) (hb : b < 18446744073709551616) (w : World) :
 Calls Tryz.prog 39 #[.float .f64 b] w fun e w' => e = .returned (.bool (fitB b)) ∧ w = w' := by
 have H := andn63 b hb
 unfold fitB
 clear hb
 generalize b % 9223372036854775808 = m at *
 by_cases c1 : m = 0
 · rw [decide_eq_true (by omega)]
   subst c1
   go_enter Tryz.func39, Tryz.ntmps39
   go_wp2_with (simp only [x34])
   go_ret
   exact ⟨rfl, rfl⟩
 have t1 : ((m : Int) == 0) = false := ieq_f (by omega)
 by_cases c2 : 3706462493325918208 ≤ m
 · have t2 : decide ((m : Int) ≥ 3706462493325918208) = true := decide_eq_true (by omega)
   by_cases c3 : m ≤ 5507902344274116608
   · have t3 : decide ((m : Int) ≤ 5507902344274116608) = true := decide_eq_true (by omega)
     rw [decide_eq_true (by omega)]
     clear c1 c2 c3
     go_enter Tryz.func39, Tryz.ntmps39
     go_wp2_with (simp only [x34])
     go_ret
     exact ⟨rfl, rfl⟩
   · have t3 : decide ((m : Int) ≤ 5507902344274116608) = false := decide_eq_false (by omega)
     rw [decide_eq_false (by omega)]
     clear c1 c2 c3
     go_enter Tryz.func39, Tryz.ntmps39
     go_wp2_with (simp only [x34])
     go_ret
     exact ⟨rfl, rfl⟩
 · have t2 : decide ((m : Int) ≥ 3706462493325918208) = false := decide_eq_false (by omega)
   rw [decide_eq_false (by omega)]
   clear c1 c2
   go_enter Tryz.func39, Tryz.ntmps39
   go_wp2_with (simp only [x34])
   go_ret
   exact ⟨rfl, rfl⟩

theorem run_add (x y r : Nat) (h : Ieee.double.add x y = some r) (t : TypeId) (w : World) : (binOp .add t (.float .f64 x) (.float .f64 y)).run Tryz.prog w = .ok (.float .f64 r) w :=
 run_float_arith w .add t .f64 x y r h
theorem run_sub (x y r : Nat) (h : Ieee.double.sub x y = some r) (t : TypeId) (w : World) : (binOp .sub t (.float .f64 x) (.float .f64 y)).run Tryz.prog w = .ok (.float .f64 r) w :=
 run_float_arith w .sub t .f64 x y r h
theorem run_mul (x y r : Nat) (h : Ieee.double.mul x y = some r) (t : TypeId) (w : World) : (binOp .mul t (.float .f64 x) (.float .f64 y)).run Tryz.prog w = .ok (.float .f64 r) w :=
 run_float_arith w .mul t .f64 x y r h
theorem run_div (x y r : Nat) (h : Ieee.double.div x y = some r) (t : TypeId) (w : World) : (binOp .quo t (.float .f64 x) (.float .f64 y)).run Tryz.prog w = .ok (.float .f64 r) w :=
 run_float_arith w .quo t .f64 x y r h
theorem lt_zero (b : Nat) (hb : FinW b) : (FloatKind.f64.format.order b 0 == some Ordering.lt) = decide (V b < 0) := by
 rw [o_lss b 0 hb.1 (by omega), decide_eq_decide]
 have h1 := hb.1
 have h2 := hb.2
 have hz : val 52 (b % 9223372036854775808) = 0 ↔ b % 9223372036854775808 = 0 := val_zero_iff 52 _
 unfold V nn key64
 by_cases h : b < 9223372036854775808
 · rw [if_pos h, if_pos h]
   constructor
   · rintro ⟨-, -, h3⟩; split at h3 <;> omega
   · intro h3; omega
 · rw [show b % 9223372036854775808 = b - 9223372036854775808 by omega] at hz
   rw [if_neg h, if_neg h, if_pos (by omega)]
   constructor
   · rintro ⟨-, -, h3⟩; omega
   · intro h3; exact ⟨by omega, by omega, by omega⟩

theorem V_key {a b : Nat} (ha : FinW a) (hb : FinW b) (h : V a = V b) : key64 a = key64 b := by
 have a1 := ha.1
 have b1 := hb.1
 unfold V at h
 unfold key64
 by_cases h1 : a < 9223372036854775808 <;> by_cases h2 : b < 9223372036854775808
 · rw [if_pos h1, if_pos h2] at h
   have := (val_eq_iff 52 a b).1 (by omega)
   rw [this]
 · rw [if_pos h1, if_neg h2] at h
   have x := (val_zero_iff 52 a).1 (by omega)
   have y := (val_zero_iff 52 (b - 9223372036854775808)).1 (by omega)
   rw [if_pos h1, if_neg h2]; omega
 · rw [if_neg h1, if_pos h2] at h
   have x := (val_zero_iff 52 (a - 9223372036854775808)).1 (by omega)
   have y := (val_zero_iff 52 b).1 (by omega)
   rw [if_neg h1, if_pos h2]; omega
 · rw [if_neg h1, if_neg h2] at h
   have := (val_eq_iff 52 (a - 9223372036854775808) (b - 9223372036854775808)).1 (by omega)
   rw [if_neg h1, if_neg h2]; omega
theorem RN_zero_iff {z : Int} (h : RN z = 0) : z = 0 := by
 have h1 := RN_abs z
 rw [h] at h1
 by_cases h0 : z = 0
 · exact h0
 · have := rn_mono (show 1 ≤ z.natAbs by omega)
   rw [rn_small 1 (by omega)] at this
   simp at h1
   omega

def ff (a b : Nat) : Value := .tuple #[.float .f64 a, .float .f64 b]
def fe (a : Nat) (c : Int) : Value := .tuple #[.float .f64 a, .int .i64 c]
theorem V_inj {a b : Nat} (ha : FinW a) (hb : FinW b) (h : V a = V b) (h0 : V a ≠ 0) : a = b := by
 have k := V_key ha hb h
 have a1 := ha.1
 have b1 := hb.1
 have za : a % 9223372036854775808 ≠ 0 := by
  intro hz
  have := V_abs' a ha
  rw [hz, val_zero] at this; omega
 unfold key64 at k
 split at k <;> split at k <;> omega
end Go.Proofs.YtacinenddnfcbaaGreat

namespace Go.Proofs.YtacinenddnfcbaaGreat
open Go.ChangeShapes Go.WideShapes Go.ChangeAt Go.RowKit Ieee.Own

theorem x39 (b : Nat) (w : World) : (callFunc 68 #[.float .f64 b]).run Tryz.prog w = .ok (.value (.int .u64 (b : Int))) w := by
 rw [run_callFunc_extern (e := Extern.MathFloatBits.float64bits) Tryz.func68 (by kernel_rfl) (by kernel_rfl) (by kernel_rfl) (by kernel_rfl)]; rfl
theorem x10 (n : Int) (w : World) : (callFunc 67 #[.int .u64 n]).run Tryz.prog w = .ok (.value (.float .f64 n.toNat)) w := by
 rw [run_callFunc_extern (e := Extern.MathFloatBits.float64frombits) Tryz.func67 (by kernel_rfl) (by kernel_rfl) (by kernel_rfl) (by kernel_rfl)]; rfl
theorem xneg (b : Nat) (hb : b < 18446744073709551616) (w : World) : (Op.unary .neg (.float .f64 b)).run Tryz.prog w = .ok (.float .f64 (if b < 9223372036854775808 then b + 9223372036854775808 else b - 9223372036854775808)) w := by
 rw [← Ieee.Own.xor_top64 b hb]; rfl
def nanB (b : Nat) : Bool := decide (9218868437227405312 < b % 9223372036854775808)
theorem ord_self (b : Nat) (hb : b < 18446744073709551616) : (FloatKind.f64.format.order b b != some Ordering.eq) = nanB b := by
 show (Ieee.double.order b b != some Ordering.eq) = nanB b
 unfold nanB
 by_cases h : 9218868437227405312 < b % 9223372036854775808
 · rw [Ieee.Own.order64_nan b b (Or.inl h)]; simp [h]
 · rw [Ieee.Own.order64 b b hb hb (by omega) (by omega)]
   simp [h, bne]
theorem isnan_any (b : Nat) (hb : b < 18446744073709551616) (w : World) :
 Calls Tryz.prog 251 #[.float .f64 b] w fun e w' => e = .returned (.bool (nanB b)) ∧ w = w' := by
 have h := Lib.hid (ord_self b hb)
 clear hb
 go_enter Tryz.func251, Tryz.ntmps251
 go_wp2
 go_ret
 exact ⟨ret_b h.out, rfl⟩
theorem isnan_t (b : Nat) (hb : b < 18446744073709551616) (h : nanB b = true) (w : World) :
 Calls Tryz.prog 251 #[.float .f64 b] w fun e w' => e = .returned (.bool true) ∧ w = w' :=
 (isnan_any b hb w).mono fun _ _ ⟨he, hw⟩ => ⟨by rw [he, h], hw⟩
theorem isnan_f (b : Nat) (hb : b < 18446744073709551616) (h : nanB b = false) (w : World) :
 Calls Tryz.prog 251 #[.float .f64 b] w fun e w' => e = .returned (.bool false) ∧ w = w' :=
 (isnan_any b hb w).mono fun _ _ ⟨he, hw⟩ => ⟨by rw [he, h], hw⟩
theorem canon_nan (b : Nat) (hb : b < 18446744073709551616) (h : nanB b = true) (w : World) :
 Calls Tryz.prog 259 #[.float .f64 b] w fun e w' => e = .returned (.float .f64 9221120237041090560) ∧ w = w' := by
 have C := fun w => isnan_t b hb h w
 clear h hb
 go_enter Tryz.func259, Tryz.ntmps259
 go_wp2_with (first | simp only [x10] | (go_at_call 251; refine (C _).mono ?_; rintro e w' ⟨rfl, rfl⟩))
 go_ret
 exact ⟨rfl, rfl⟩
theorem canon_num (b : Nat) (hb : b < 18446744073709551616) (h : nanB b = false) (w : World) :
 Calls Tryz.prog 259 #[.float .f64 b] w fun e w' => e = .returned (.float .f64 b) ∧ w = w' := by
 have C := fun w => isnan_f b hb h w
 clear h hb
 go_enter Tryz.func259, Tryz.ntmps259
 go_wp2_with (go_at_call 251; refine (C _).mono ?_; rintro e w' ⟨rfl, rfl⟩)
 go_ret
 exact ⟨rfl, rfl⟩
end Go.Proofs.YtacinenddnfcbaaGreat

namespace Go.Proofs.YtacinenddnfcbaaGreat
open Go.ChangeShapes Go.WideShapes Go.ChangeAt Go.RowKit Ieee.Own

theorem xsqrt (a r : Nat) (h : Ieee.double.sqrt a = some r) (w : World) : (callFunc 180 #[.float .f64 a]).run Tryz.prog w = .ok (.value (.float .f64 r)) w := by
 rw [run_callFunc_extern (e := Extern.MathSqrt.sqrt) Tryz.func180 (by kernel_rfl) (by kernel_rfl) (by kernel_rfl) (by kernel_rfl)]
 have h' : FloatKind.f64.format.sqrt a = some r := h
 have e : Extern.MathSqrt.sqrt #[.float .f64 a] = (match FloatKind.f64.format.sqrt a with
  | some r => pure (.float .f64 r)
  | none => do pure (.float .f64 (← choose (.nanBits .f64 a a)))) := rfl
 rw [e, h']; rfl
theorem sqrt_any (a r : Nat) (h : Ieee.double.sqrt a = some r) (w : World) :
 Calls Tryz.prog 105 #[.float .f64 a] w fun e w' => e = .returned (.float .f64 r) ∧ w = w' := by
 have X := xsqrt a r h
 clear h
 go_enter Tryz.func105, Tryz.ntmps105
 go_wp2
 go_ret
 exact ⟨rfl, rfl⟩
end Go.Proofs.YtacinenddnfcbaaGreat

namespace Go.Proofs.YtacinenddnfcbaaGreat
open Ieee.Own

theorem V_lt_key {a b : Nat} (ha : FinW a) (hb : FinW b) : V a < V b ↔ key64 a < key64 b := by
 have a1 := ha.1
 have b1 := hb.1
 unfold V key64
 by_cases h1 : a < 9223372036854775808 <;> by_cases h2 : b < 9223372036854775808
 · rw [if_pos h1, if_pos h1, if_pos h2, if_pos h2]
   have := val_lt_iff 52 a b
   omega
 · rw [if_pos h1, if_pos h1, if_neg h2, if_neg h2]; omega
 · rw [if_neg h1, if_neg h1, if_pos h2, if_pos h2]
   have x := val_zero_iff 52 (a - 9223372036854775808)
   have y := val_zero_iff 52 b
   omega
 · rw [if_neg h1, if_neg h1, if_neg h2, if_neg h2]
   have := val_lt_iff 52 (b - 9223372036854775808) (a - 9223372036854775808)
   omega

structure Adj (c : Int → Int) (s : Nat) : Prop where
 fin : FinW s
 bd : (V s).natAbs ≤ 2 ^ 1500
 lo : ∀ u, FinW u → V u < V s → 0 < c (V u)
 hi : ∀ u, FinW u → V s < V u → c (V u) < 0
structure Dn (c : Int → Int) (w : Nat) : Prop where
 fin : FinW w
 le : 0 ≤ c (V w)
 top : ∀ u, FinW u → 0 ≤ c (V u) → V u ≤ V w
structure Up (c : Int → Int) (w : Nat) : Prop where
 fin : FinW w
 ge : c (V w) ≤ 0
 low : ∀ u, FinW u → c (V u) ≤ 0 → V w ≤ V u
theorem Dn.uniq {c : Int → Int} {w x : Nat} (h : Dn c w) (k : Dn c x) : V w = V x := by
 have := h.top x k.fin k.le
 have := k.top w h.fin h.le
 omega
theorem Up.uniq {c : Int → Int} {w x : Nat} (h : Up c w) (k : Up c x) : V w = V x := by
 have := h.low x k.fin k.ge
 have := k.low w h.fin h.ge
 omega

end Go.Proofs.YtacinenddnfcbaaGreat

namespace Go.Proofs.YtacinenddnfcbaaGreat
open Go.ChangeShapes Go.WideShapes Go.ChangeAt Go.RowKit Ieee.Own

theorem fin_nn {a : Nat} (h : FinW a) : nn a := by have := h.2; unfold nn; omega
theorem lt_words {a b : Nat} (ha : FinW a) (hb : FinW b) : (FloatKind.f64.format.order a b == some Ordering.lt) = decide (V a < V b) := by
 rw [o_lss a b ha.1 hb.1, decide_eq_decide]
 have := V_lt_key ha hb
 exact ⟨fun h => this.2 h.2.2, fun h => ⟨fin_nn ha, fin_nn hb, this.1 h⟩⟩
theorem gt_words {a b : Nat} (ha : FinW a) (hb : FinW b) : (FloatKind.f64.format.order a b == some Ordering.gt) = decide (V b < V a) := by
 rw [o_gtr a b ha.1 hb.1, decide_eq_decide]
 have := V_lt_key hb ha
 exact ⟨fun h => this.2 h.2.2, fun h => ⟨fin_nn ha, fin_nn hb, this.1 h⟩⟩
theorem le_words {a b : Nat} (ha : FinW a) (hb : FinW b) : (FloatKind.f64.format.order a b == some Ordering.lt || FloatKind.f64.format.order a b == some Ordering.eq) = decide (V a ≤ V b) := by
 rw [o_leq a b ha.1 hb.1, decide_eq_decide]
 have := V_lt_key hb ha
 exact ⟨fun h => Int.not_lt.1 fun h' => by have := this.1 h'; omega, fun h => ⟨fin_nn ha, fin_nn hb, Int.not_lt.1 fun h' => by have := this.2 h'; omega⟩⟩
theorem ge_words {a b : Nat} (ha : FinW a) (hb : FinW b) : (FloatKind.f64.format.order a b == some Ordering.gt || FloatKind.f64.format.order a b == some Ordering.eq) = decide (V b ≤ V a) := by
 rw [o_geq a b ha.1 hb.1, decide_eq_decide]
 have := V_lt_key ha hb
 exact ⟨fun h => Int.not_lt.1 fun h' => by have := this.1 h'; omega, fun h => ⟨fin_nn ha, fin_nn hb, Int.not_lt.1 fun h' => by have := this.2 h'; omega⟩⟩
theorem zero_fin : FinW 0 := ⟨by omega, by omega⟩
theorem V_zero : V 0 = 0 := by decide +kernel

def leastV : Int := V 3706462493325918208
def mostV : Int := V 5507902344274116608
theorem fin_top {b : Nat} (h : FinW b) : (V b).natAbs < 2 ^ 2098 := by
 rw [V_abs' b h, ← top64']
 exact (val_lt_iff 52 _ _).2 h.2
theorem xneg' (b : Nat) (hb : b < 18446744073709551616) (w : World) : (Op.unary .neg (.float .f64 b)).run Tryz.prog w = .ok (.float .f64 (negW b)) w := xneg b hb w
theorem fstore (a : Addr) (b : Nat) (m : Mode) (x : World) : (store a (.float .f64 b) m).run Tryz.prog x = stored Tryz.prog x a (.float .f64 b) m := run_store _ x a _ m rfl
def errS (a b : Nat) : Int := if fitB a = true ∧ fitB b = true then (if V b < V a then 5 else 0) else 3
end Go.Proofs.YtacinenddnfcbaaGreat

namespace Go.Proofs.YtacinenddnfcbaaGreat
open Go.ChangeShapes Go.WideShapes Go.ChangeAt Go.RowKit Ieee.Own

def boxO (a b : Nat) : Obj := .cells #[.float .f64 a, .float .f64 b] 28 (0, 0)
structure Blocks (w : World) (os : List Obj) (wr : World) : Prop where
 old : Below w.heap.size w wr
 more : w.heap.size + os.length ≤ wr.heap.size
 at_ : ∀ j o, os[j]? = some o → wr.heap[w.heap.size + j]? = some o
theorem Blocks.nil (w : World) : Blocks w [] w := ⟨Below.refl _ w, by simp, by intro j o h; simp at h⟩
theorem Blocks.alloc {w wr : World} {os : List Obj} (S : Blocks w os wr) (h : wr.heap.size = w.heap.size + os.length) (o : Obj) : Blocks w (os ++ [o]) (wr.alloc o) := by
 refine ⟨S.old.alloc (by omega) o, by simp; omega, fun j p hj => ?_⟩
 by_cases hl : j < os.length
 · rw [heap_alloc_old wr o (by omega)]
   rw [List.getElem?_append_left hl] at hj
   exact S.at_ j p hj
 · have hj' : j = os.length := by
    have := (List.getElem?_eq_some_iff.1 hj).1
    simp at this
    omega
   subst hj'
   rw [← h, heap_alloc_new]
   simpa using hj
theorem Blocks.on {w wr w' : World} {os : List Obj} (S : Blocks w os wr) (h : Below wr.heap.size wr w') : Blocks w os w' := by
 refine ⟨S.old.trans (h.mono S.old.size), Nat.le_trans S.more h.size, fun j o hj => ?_⟩
 have hl := (List.getElem?_eq_some_iff.1 hj).1
 have := S.more
 rw [h.block _ (by omega)]
 exact S.at_ j o hj
theorem Blocks.cell {w wr : World} {os : List Obj} (S : Blocks w os wr) (j : Nat) {cs : Array Value} {t : TypeId} {fr : Nat × Nat} (h : os[j]? = some (.cells cs t fr)) (i k : Nat) (hk : k = w.heap.size + j) : wr.cell? ⟨k, i, none⟩ = cs[i]? := by
 subst hk
 exact cell_of_row wr _ i cs t fr (S.at_ j _ h)
theorem Blocks.free {w wr : World} {os : List Obj} (S : Blocks w os wr) (j : Nat) {cs : Array Value} {t : TypeId} (h : os[j]? = some (.cells cs t (0, 0))) (i k : Nat) (hk : k = w.heap.size + j) : wr.frozen? ⟨k, i, none⟩ = false := by
 subst hk
 exact frozen_of_row wr _ i cs t (S.at_ j _ h)

def errSS (a1 a2 b1 b2 : Nat) : Int := if errS a1 a2 ≠ 0 then errS a1 a2 else errS b1 b2
end Go.Proofs.YtacinenddnfcbaaGreat

namespace Go.Proofs.YtacinenddnfcbaaGreat
open Go.ChangeShapes Go.WideShapes Go.ChangeAt Go.RowKit Ieee.Own

theorem errS_zero {a b : Nat} (h : errS a b = 0) : fitB a = true ∧ fitB b = true ∧ V a ≤ V b := by
 unfold errS at h
 by_cases c : fitB a = true ∧ fitB b = true
 · rw [if_pos c] at h
   by_cases d : V b < V a
   · rw [if_pos d] at h; omega
   · exact ⟨c.1, c.2, by omega⟩
 · rw [if_neg c] at h; omega
def zeroO : Obj := .cells #[.float .f64 0, .float .f64 0] 28 (0, 0)
end Go.Proofs.YtacinenddnfcbaaGreat

namespace Go.Proofs.YtacinenddnfcbaaGreat
open Ieee.Own

theorem sv_up (s : Bool) (m p k : Nat) : sv s m p * 2 ^ k = sv s m (p + k) := by
 unfold sv
 cases s
 · rw [if_neg (by simp), if_neg (by simp), Nat.pow_add, ← Nat.mul_assoc]; simp
 · rw [if_pos rfl, if_pos rfl, Nat.pow_add, ← Nat.mul_assoc]; simp [Int.neg_mul]
end Go.Proofs.YtacinenddnfcbaaGreat

namespace Go.Proofs.YtacinenddnfcbaaGreat
open Go.ChangeShapes Go.WideShapes Go.ChangeAt Go.RowKit Ieee.Own

theorem errSS_of {a1 a2 b1 b2 : Nat} (h : errS a1 a2 = 0) (k : errS b1 b2 = 0) : errSS a1 a2 b1 b2 = 0 := by unfold errSS; rw [if_neg (by simpa using h), k]
end Go.Proofs.YtacinenddnfcbaaGreat

namespace Go.Proofs.YtacinenddnfcbaaGreat
open Go.ChangeShapes Go.WideShapes Go.ChangeAt Go.RowKit Ieee.Own

structure DnAll (cs : List (Int → Int)) (w : Nat) : Prop where
 fin : FinW w
 le : ∀ c ∈ cs, 0 ≤ c (V w)
 top : ∀ u, FinW u → (∀ c ∈ cs, 0 ≤ c (V u)) → V u ≤ V w
structure UpAll (cs : List (Int → Int)) (w : Nat) : Prop where
 fin : FinW w
 ge : ∀ c ∈ cs, c (V w) ≤ 0
 low : ∀ u, FinW u → (∀ c ∈ cs, c (V u) ≤ 0) → V w ≤ V u
def Falls (c : Int → Int) : Prop := ∀ u v, u ≤ v → c v ≤ c u
theorem Dn.all {c : Int → Int} {w : Nat} (h : Dn c w) : DnAll [c] w :=
 ⟨h.fin, fun d hd => by rw [List.mem_singleton.1 hd]; exact h.le, fun u hu hc => h.top u hu (hc c (List.mem_singleton.2 rfl))⟩
theorem Up.all {c : Int → Int} {w : Nat} (h : Up c w) : UpAll [c] w :=
 ⟨h.fin, fun d hd => by rw [List.mem_singleton.1 hd]; exact h.ge, fun u hu hc => h.low u hu (hc c (List.mem_singleton.2 rfl))⟩
def minW (y x : Nat) : Nat := if V y < V x then y else x
def maxW (y x : Nat) : Nat := if V x < V y then y else x
theorem minW_V (y x : Nat) : V (minW y x) ≤ V x ∧ V (minW y x) ≤ V y ∧ (V (minW y x) = V x ∨ V (minW y x) = V y) := by unfold minW; split <;> omega
theorem maxW_V (y x : Nat) : V x ≤ V (maxW y x) ∧ V y ≤ V (maxW y x) ∧ (V (maxW y x) = V x ∨ V (maxW y x) = V y) := by unfold maxW; split <;> omega
theorem DnAll.more {cs : List (Int → Int)} {c : Int → Int} {x y : Nat} (h : DnAll cs x) (k : Dn c y) (hcs : ∀ d ∈ cs, Falls d) (hc : Falls c) : DnAll (cs ++ [c]) (minW y x) := by
 obtain ⟨m1, m2, m3⟩ := minW_V y x
 refine ⟨by unfold minW; split; exact k.fin; exact h.fin, fun d hd => ?_, fun u hu hall => ?_⟩
 · rcases List.mem_append.1 hd with hd | hd
   · exact Int.le_trans (h.le d hd) (hcs d hd _ _ m1)
   · rw [List.mem_singleton.1 hd]; exact Int.le_trans k.le (hc _ _ m2)
 · have a := h.top u hu fun d hd => hall d (List.mem_append_left _ hd)
   have b := k.top u hu (hall c (List.mem_append_right _ (List.mem_singleton.2 rfl)))
   omega
theorem UpAll.more {cs : List (Int → Int)} {c : Int → Int} {x y : Nat} (h : UpAll cs x) (k : Up c y) (hcs : ∀ d ∈ cs, Falls d) (hc : Falls c) : UpAll (cs ++ [c]) (maxW y x) := by
 obtain ⟨m1, m2, m3⟩ := maxW_V y x
 refine ⟨by unfold maxW; split; exact k.fin; exact h.fin, fun d hd => ?_, fun u hu hall => ?_⟩
 · rcases List.mem_append.1 hd with hd | hd
   · exact Int.le_trans (hcs d hd _ _ m1) (h.ge d hd)
   · rw [List.mem_singleton.1 hd]; exact Int.le_trans (hc _ _ m2) k.ge
 · have a := h.low u hu fun d hd => hall d (List.mem_append_left _ hd)
   have b := k.low u hu (hall c (List.mem_append_right _ (List.mem_singleton.2 rfl)))
   omega
theorem DnAll.uniq {cs : List (Int → Int)} {w x : Nat} (h : DnAll cs w) (k : DnAll cs x) : V w = V x := by
 have := h.top x k.fin k.le
 have := k.top w h.fin h.le
 omega
theorem UpAll.uniq {cs : List (Int → Int)} {w x : Nat} (h : UpAll cs w) (k : UpAll cs x) : V w = V x := by
 have := h.low x k.fin k.ge
 have := k.low w h.fin h.ge
 omega
def prodN (a b : Nat) : Int := V a * V b / 2 ^ 1074
def prodC (a b : Nat) (v : Int) : Int := prodN a b - v
def sqLo (a b : Nat) : List (Int → Int) := if 0 ≤ V a then [prodC a a] else if V b ≤ 0 then [prodC b b] else [fun v => 0 - v]
def sqHi (a b : Nat) : List (Int → Int) := if 0 ≤ V a then [prodC b b] else if V b ≤ 0 then [prodC a a] else [prodC a a, prodC b b]
end Go.Proofs.YtacinenddnfcbaaGreat

namespace Go.Proofs.YtacinenddnfcbaaGreat
open Go.ChangeShapes Go.WideShapes Go.ChangeAt Go.RowKit Ieee.Own

theorem DnAll.mono {cs ds : List (Int → Int)} {w x : Nat} (h : DnAll cs w) (k : DnAll ds x) (hcd : ∀ u, (∀ c ∈ cs, 0 ≤ c u) → ∀ d ∈ ds, 0 ≤ d u) : V w ≤ V x := k.top w h.fin (hcd _ h.le)
theorem UpAll.mono {cs ds : List (Int → Int)} {w x : Nat} (h : UpAll cs w) (k : UpAll ds x) (hcd : ∀ u, (∀ c ∈ cs, c u ≤ 0) → ∀ d ∈ ds, d u ≤ 0) : V x ≤ V w := k.low w h.fin (hcd _ h.ge)
end Go.Proofs.YtacinenddnfcbaaGreat

namespace Go.Proofs.YtacinenddnfcbaaGreat
open Go.ChangeShapes Go.WideShapes Go.ChangeAt Go.RowKit Ieee.Own

theorem results_cell1 {fn : Func} {p : Tmp} {ty : TypeId} (h : fn.results = #[.cell p ty]) (tmps : Array Value) (P : Program) (w : World) :
 (results fn tmps).run P w = ((asAddr (tmps.getD p undef)).run P w).andThen fun a w₁ => (loadVar ty a).run P w₁ := by
 simp only [results, h]
 simp [Sem.run_bind, Result.andThen]
def posW (x : Nat) : Nat := if x = 9223372036854775808 then 0 else x
theorem posW_V (x : Nat) : V (posW x) = V x := by
 unfold posW; split
 · rename_i h; rw [h]; decide +kernel
 · rfl
theorem posW_fin {x : Nat} (h : FinW x) : FinW (posW x) := by
 unfold posW; split
 · exact zero_fin
 · exact h
theorem V_zero_iff {x : Nat} (h : FinW x) : V x = 0 ↔ x % 9223372036854775808 = 0 := by
 have := V_abs' x h
 have := val_zero_iff 52 (x % 9223372036854775808)
 omega
theorem pos_add {x : Nat} (h : FinW x) : Ieee.double.add x 0 = some (posW x) := by
 by_cases h0 : V x = 0
 · have hz := (V_zero_iff h).1 h0
   have : x = 0 ∨ x = 9223372036854775808 := by have := h.1; omega
   rcases this with rfl | rfl <;> decide +kernel
 · have hr : RN (V x + V 0) = V x := by rw [V_zero, Int.add_zero, RN_exact (Rep_V x)]
   obtain ⟨r, h1, h2, h3⟩ := add_spec h zero_fin (by rw [hr]; exact fin_top h)
   rw [hr] at h3
   have hp : posW x = x := by
    unfold posW; rw [if_neg]
    intro e; exact h0 ((V_zero_iff h).2 (by rw [e]))
   rw [h1, hp, V_inj h2 h h3 (by rw [h3]; exact h0)]
theorem fit_iff {x : Nat} (h : FinW x) : fitB x = true ↔ V x = 0 ∨ leastV ≤ ((V x).natAbs : Int) ∧ ((V x).natAbs : Int) ≤ mostV := by
 have a := V_abs' x h
 have z := V_zero_iff h
 have e1 : leastV = (val 52 3706462493325918208 : Int) := by decide +kernel
 have e2 : mostV = (val 52 5507902344274116608 : Int) := by decide +kernel
 have c1 := val_lt_iff 52 (x % 9223372036854775808) 3706462493325918208
 have c2 := val_lt_iff 52 5507902344274116608 (x % 9223372036854775808)
 unfold fitB
 rw [decide_eq_true_eq, z, a, e1, e2]
 omega
end Go.Proofs.YtacinenddnfcbaaGreat

namespace Go.Proofs.YtacinenddnfcbaaGreat
open Go.ChangeShapes Go.WideShapes Go.ChangeAt Go.RowKit Ieee.Own

end Go.Proofs.YtacinenddnfcbaaGreat

namespace Go.Proofs.YtacinenddnfcbaaGreat
open Go.ChangeShapes Go.WideShapes Go.ChangeAt Go.RowKit Ieee.Own

theorem Blocks.drew {w wr : World} {os : List Obj} (S : Blocks w os wr) : Blocks w os wr.drew := ⟨S.old.drew, S.more, S.at_⟩
end Go.Proofs.YtacinenddnfcbaaGreat

namespace Go.Proofs.YtacinenddnfcbaaGreat
open Go.ChangeShapes Go.WideShapes Go.ChangeAt Go.RowKit Ieee.Own

theorem step_value {P : Program} {o : Oper} {a : Act} {w w' : World} {K : Act → World → Prop} {Q : Exit → Act → World → Prop} {v : Value} (h : (execOp a.eval o).run P w = .ok (.value v) w') (k : K (a.put o.dst v) w') : o.wp P a w K Q := by
 unfold Oper.wp; rw [h]; exact k
theorem step_skip {P : Program} {o : Oper} {a : Act} {w w' : World} {K : Act → World → Prop} {Q : Exit → Act → World → Prop} (h : (execOp a.eval o).run P w = .ok .skip w') (k : K (a.put o.dst undef) w') : o.wp P a w K Q := by
 unfold Oper.wp; rw [h]; exact k
end Go.Proofs.YtacinenddnfcbaaGreat

namespace Go.Proofs.YtacinenddnfcbaaGreat
open Go.ChangeShapes Go.WideShapes Go.ChangeAt Go.RowKit Ieee.Own

def mxW (x y : Nat) : Nat := match FloatKind.f64.format.order x y with
 | some .lt => y
 | some .gt => x
 | _ => if (FloatKind.f64.decode x).neg then y else x
def mnW (x y : Nat) : Nat := match FloatKind.f64.format.order x y with
 | some .lt => x
 | some .gt => y
 | _ => if (FloatKind.f64.decode x).neg then x else y
theorem order_some {x y : Nat} (hx : FinW x) (hy : FinW y) : ∃ o, FloatKind.f64.format.order x y = some o := ⟨_, order64 x y hx.1 hy.1 (fin_nn hx) (fin_nn hy)⟩
theorem order_V {x y : Nat} (hx : FinW x) (hy : FinW y) : (FloatKind.f64.format.order x y = some .lt ↔ V x < V y) ∧ (FloatKind.f64.format.order x y = some .gt ↔ V y < V x) := by
 have a := lt_words hx hy
 have b := gt_words hx hy
 constructor
 · constructor
   · intro h; rw [h] at a; exact of_decide_eq_true (a.symm.trans rfl)
   · intro h; rw [decide_eq_true h] at a; exact eq_of_beq a
 · constructor
   · intro h; rw [h] at b; exact of_decide_eq_true (b.symm.trans rfl)
   · intro h; rw [decide_eq_true h] at b; exact eq_of_beq b
theorem mxW_spec {x y : Nat} (hx : FinW x) (hy : FinW y) : (mxW x y = x ∨ mxW x y = y) ∧ V x ≤ V (mxW x y) ∧ V y ≤ V (mxW x y) := by
 obtain ⟨o, h⟩ := order_some hx hy
 obtain ⟨a, b⟩ := order_V hx hy
 unfold mxW
 rw [h] at a b ⊢
 cases o with
 | lt => have := a.1 rfl; exact ⟨Or.inr rfl, by show V x ≤ V y; omega, Int.le_refl _⟩
 | gt => have := b.1 rfl; exact ⟨Or.inl rfl, Int.le_refl _, by show V y ≤ V x; omega⟩
 | eq =>
   have n1 : ¬ V x < V y := fun h => by have := a.2 h; simp at this
   have n2 : ¬ V y < V x := fun h => by have := b.2 h; simp at this
   show ((if _ then y else x) = x ∨ (if _ then y else x) = y) ∧ V x ≤ V (if _ then y else x) ∧ V y ≤ V (if _ then y else x)
   split
   · exact ⟨Or.inr rfl, by omega, by omega⟩
   · exact ⟨Or.inl rfl, by omega, by omega⟩
theorem mnW_spec {x y : Nat} (hx : FinW x) (hy : FinW y) : (mnW x y = x ∨ mnW x y = y) ∧ V (mnW x y) ≤ V x ∧ V (mnW x y) ≤ V y := by
 obtain ⟨o, h⟩ := order_some hx hy
 obtain ⟨a, b⟩ := order_V hx hy
 unfold mnW
 rw [h] at a b ⊢
 cases o with
 | lt => have := a.1 rfl; exact ⟨Or.inl rfl, Int.le_refl _, by show V x ≤ V y; omega⟩
 | gt => have := b.1 rfl; exact ⟨Or.inr rfl, by show V y ≤ V x; omega, Int.le_refl _⟩
 | eq =>
   have n1 : ¬ V x < V y := fun h => by have := a.2 h; simp at this
   have n2 : ¬ V y < V x := fun h => by have := b.2 h; simp at this
   show ((if _ then x else y) = x ∨ (if _ then x else y) = y) ∧ V (if _ then x else y) ≤ V x ∧ V (if _ then x else y) ≤ V y
   split
   · exact ⟨Or.inl rfl, by omega, by omega⟩
   · exact ⟨Or.inr rfl, by omega, by omega⟩
theorem mxW_fin {x y : Nat} (hx : FinW x) (hy : FinW y) : FinW (mxW x y) := by
 rcases (mxW_spec hx hy).1 with h | h <;> rw [h] <;> assumption
theorem mnW_fin {x y : Nat} (hx : FinW x) (hy : FinW y) : FinW (mnW x y) := by
 rcases (mnW_spec hx hy).1 with h | h <;> rw [h] <;> assumption
section
variable {P : Program} {x y z u : Nat} (hx : FinW x) (hy : FinW y) (hz : FinW z) (hu : FinW u) (ts : Array TypeId) (t : TypeId) (w : World)
include hx hy
include hz
include hu
end
end Go.Proofs.YtacinenddnfcbaaGreat

namespace Go.Proofs.YtacinenddnfcbaaGreat
open Go.ChangeShapes Go.WideShapes Go.ChangeAt Go.RowKit Ieee.Own

structure Blk (w : World) (g x y : Nat) : Prop where
 lt : g < w.heap.size
 lo : w.cell? ⟨g, 0, none⟩ = some (.float .f64 x)
 hi : w.cell? ⟨g, 1, none⟩ = some (.float .f64 y)
 f0 : w.frozen? ⟨g, 0, none⟩ = false
 f1 : w.frozen? ⟨g, 1, none⟩ = false
theorem cell_on {B : Nat} {w w' : World} (h : Below B w w') (a : Addr) (hb : a.block < B) : w'.cell? a = w.cell? a := by
 unfold World.cell?; rw [h.block _ hb]
theorem frozen_on {B : Nat} {w w' : World} (h : Below B w w') (a : Addr) (hb : a.block < B) : w'.frozen? a = w.frozen? a := by
 unfold World.frozen?; rw [h.block _ hb]
theorem Blk.on {w w' : World} {g x y : Nat} (b : Blk w g x y) (h : Below w.heap.size w w') : Blk w' g x y :=
 ⟨Nat.lt_of_lt_of_le b.lt h.size, (cell_on h _ b.lt).trans b.lo, (cell_on h _ b.lt).trans b.hi, (frozen_on h _ b.lt).trans b.f0, (frozen_on h _ b.lt).trans b.f1⟩
theorem Blk.new (w : World) : Blk (w.alloc zeroO) w.heap.size 0 0 := by
 have S : Blocks w [zeroO] (w.alloc zeroO) := (Blocks.nil w).alloc (by simp) _
 unfold zeroO at S
 exact ⟨by simp, S.cell 0 rfl 0 w.heap.size rfl, S.cell 0 rfl 1 w.heap.size rfl, S.free 0 rfl 0 w.heap.size rfl, S.free 0 rfl 1 w.heap.size rfl⟩
def put2 (w : World) (g s t : Nat) : World := (w.setCell ⟨g, 0, none⟩ (.float .f64 s)).setCell ⟨g, 1, none⟩ (.float .f64 t)
theorem put2_size (w : World) (g s t : Nat) : (put2 w g s t).heap.size = w.heap.size := by unfold put2; simp
theorem Blk.put {w : World} {g x y : Nat} (b : Blk w g x y) (s t : Nat) : Blk (put2 w g s t) g s t := by
 obtain ⟨v0, h0⟩ := cell?_setCell_some (w := w) (p := ⟨g, 0, none⟩) (x := .float .f64 s) (q := ⟨g, 1, none⟩) (v := _) b.hi
 refine ⟨by rw [put2_size]; exact b.lt, ?_, ?_, ?_, ?_⟩
 · unfold put2
   rw [World.cell?_setCell_other _ _ _ _ (by simp)]
   exact World.cell?_setCell_same _ _ _ b.lo
 · unfold put2
   exact World.cell?_setCell_same _ _ _ h0
 · unfold put2; rw [World.frozen?_setCell, World.frozen?_setCell]; exact b.f0
 · unfold put2; rw [World.frozen?_setCell, World.frozen?_setCell]; exact b.f1
theorem Blk.other {w : World} {g h x y : Nat} (b : Blk w g x y) (hg : g ≠ h) (s t : Nat) : Blk (put2 w h s t) g x y := by
 refine ⟨by rw [put2_size]; exact b.lt, ?_, ?_, ?_, ?_⟩
 · unfold put2
   rw [World.cell?_setCell_other _ _ _ _ (by simp), World.cell?_setCell_other _ _ _ _ (by simp)]
   exact b.lo
 · unfold put2
   rw [World.cell?_setCell_other _ _ _ _ (by simp), World.cell?_setCell_other _ _ _ _ (by simp)]
   exact b.hi
 · unfold put2; rw [World.frozen?_setCell, World.frozen?_setCell]; exact b.f0
 · unfold put2; rw [World.frozen?_setCell, World.frozen?_setCell]; exact b.f1
theorem put2_below {B : Nat} {u w : World} (h : Below B u w) {g : Nat} (hg : B ≤ g) (s t : Nat) : Below B u (put2 w g s t) := (h.setCell hg _).setCell hg _

section
variable {g : FuncId} {wz a1 a2 b1 b2 : Nat} {es : List (Nat × Nat)} {w1 w w' : World} {L : List (Option Value)}
end

theorem nones_get (n i : Nat) (v : Value) : (nones n)[i]? ≠ some (some v) := by unfold nones; simp [List.getElem?_replicate]
theorem all_some {n : Nat} {L : List (Option Value)} (hL : L.length = n) (h : ∀ i, i < n → ∃ v, L[i]? = some (some v)) : ∃ f : Nat → Value, L = (List.range n).map (fun i => some (f i)) ∧ ∀ i, i < n → L[i]? = some (some (f i)) := by
 refine ⟨fun i => if hi : i < n then Classical.choose (h i hi) else undef, ?_, fun i hi => ?_⟩
 · refine List.ext_getElem? fun i => ?_
   by_cases hi : i < n
   · rw [Classical.choose_spec (h i hi)]
     simp [hi]
   · rw [List.getElem?_eq_none (by omega), List.getElem?_eq_none (by simp; omega)]
 · rw [Classical.choose_spec (h i hi)]
   simp [hi]

end Go.Proofs.YtacinenddnfcbaaGreat

namespace Go.Proofs.YtacinenddnfcbaaGreat
open Go.ChangeShapes Go.WideShapes Go.ChangeAt Go.RowKit Ieee.Own

def Drawn (w w' : World) : Prop := ∃ m, w' = w.drewN m
theorem Drawn.refl (w : World) : Drawn w w := ⟨0, rfl⟩
theorem Drawn.more {w w' : World} (h : Drawn w w') (n : Nat) : Drawn w (w'.drewN n) := by
 obtain ⟨m, rfl⟩ := h; exact ⟨m + n, by rw [World.drewN_drewN]⟩
theorem Drawn.below {w w' : World} (d : Drawn w w') (B : Nat) : Below B w w' := by
 obtain ⟨m, rfl⟩ := d; exact ⟨rfl, rfl, rfl, Nat.le_refl _, fun _ _ => rfl⟩
theorem Drawn.cell {w w' : World} (d : Drawn w w') (a : Addr) : w'.cell? a = w.cell? a := by obtain ⟨m, rfl⟩ := d; rfl
end Go.Proofs.YtacinenddnfcbaaGreat

namespace Go.Proofs.YtacinenddnfcbaaGreat
open Go.ChangeShapes Go.WideShapes Go.ChangeAt Go.RowKit Ieee.Own

end Go.Proofs.YtacinenddnfcbaaGreat

namespace Go.Proofs.YtacinenddnfcbaaGreat
open Go.ChangeShapes Go.WideShapes Go.ChangeAt Go.RowKit Ieee.Own

def insB (a b c d : Nat) : Bool := decide (errSS a b c d = 0 ∧ V c ≤ V a ∧ V b ≤ V d)
end Go.Proofs.YtacinenddnfcbaaGreat

namespace Go.Proofs.YtacinenddnfcbaaGreat
open Go.ChangeShapes Go.WideShapes Go.ChangeAt Go.RowKit Ieee.Own

def hasB (a b x : Nat) : Bool := decide (errS a b = 0 ∧ nn x ∧ key64 a ≤ key64 x ∧ key64 x ≤ key64 b)
theorem DnAll.congr {cs : List (Int → Int)} {x y : Nat} (h : DnAll cs x) (hy : FinW y) (e : V y = V x) : DnAll cs y := ⟨hy, by rw [e]; exact h.le, by rw [e]; exact h.top⟩
theorem UpAll.congr {cs : List (Int → Int)} {x y : Nat} (h : UpAll cs x) (hy : FinW y) (e : V y = V x) : UpAll cs y := ⟨hy, by rw [e]; exact h.ge, by rw [e]; exact h.low⟩
theorem UpAll.mx {cs : List (Int → Int)} {c : Int → Int} {x y : Nat} (h : UpAll cs x) (k : Up c y) (hcs : ∀ d ∈ cs, Falls d) (hc : Falls c) : UpAll (cs ++ [c]) (mxW x y) := by
 obtain ⟨a, b, d⟩ := mxW_spec h.fin k.fin
 obtain ⟨m1, m2, m3⟩ := maxW_V y x
 refine (h.more k hcs hc).congr (mxW_fin h.fin k.fin) ?_
 rcases a with a | a <;> rw [a] at b d ⊢ <;> omega
end Go.Proofs.YtacinenddnfcbaaGreat

namespace Go.Proofs.YtacinenddnfcbaaGreat
open Go.ChangeShapes Go.WideShapes Go.ChangeAt Go.RowKit Ieee.Own

structure Cls (w0 : World) (L : List (Nat × Nat × Nat)) (w : World) : Prop where
 old : Below w0.heap.size w0 w
 blk : ∀ (j g x y : Nat), L[j]? = some (g, x, y) → w0.heap.size ≤ g ∧ Blk w g x y
 inj : ∀ (i j g x y u v : Nat), L[i]? = some (g, x, y) → L[j]? = some (g, u, v) → i = j
theorem Cls.nil (w : World) : Cls w [] w := ⟨Below.refl _ w, fun j g x y h => by simp at h, fun i j g x y u v h => by simp at h⟩
theorem Cls.on {w0 w w' : World} {L : List (Nat × Nat × Nat)} (C : Cls w0 L w) (h : Below w.heap.size w w') : Cls w0 L w' :=
 ⟨C.old.trans (h.mono C.old.size), fun j g x y hj => ⟨(C.blk j g x y hj).1, (C.blk j g x y hj).2.on h⟩, C.inj⟩
theorem Blk.box (w : World) (a b : Nat) : Blk (w.alloc (boxO a b)) w.heap.size a b := by
 have S : Blocks w [boxO a b] (w.alloc (boxO a b)) := (Blocks.nil w).alloc (by simp) _
 unfold boxO at S
 exact ⟨by simp, S.cell 0 rfl 0 w.heap.size rfl, S.cell 0 rfl 1 w.heap.size rfl, S.free 0 rfl 0 w.heap.size rfl, S.free 0 rfl 1 w.heap.size rfl⟩
theorem Cls.new {w0 w : World} {L : List (Nat × Nat × Nat)} (C : Cls w0 L w) (a b : Nat) : Cls w0 (L ++ [(w.heap.size, a, b)]) (w.alloc (boxO a b)) := by
 have hb : Below w.heap.size w (w.alloc (boxO a b)) := (Below.refl _ w).alloc (Nat.le_refl _) _
 refine ⟨C.old.trans (hb.mono C.old.size), fun j g x y hj => ?_, fun i j g x y u v hi hj => ?_⟩
 · by_cases hl : j < L.length
   · rw [List.getElem?_append_left hl] at hj
     exact ⟨(C.blk j g x y hj).1, (C.blk j g x y hj).2.on hb⟩
   · have hj' : j = L.length := by
        have := (List.getElem?_eq_some_iff.1 hj).1
        simp at this; omega
     subst hj'
     simp at hj
     obtain ⟨rfl, rfl, rfl⟩ := hj
     exact ⟨C.old.size, Blk.box w _ _⟩
 · have key : ∀ k, k < L.length → ∀ x y, L[k]? = some (g, x, y) → g < w.heap.size := fun k _ x y h => (C.blk k g x y h).2.lt
   have last : ∀ k x y, (L ++ [(w.heap.size, a, b)])[k]? = some (g, x, y) → ¬ k < L.length → k = L.length ∧ g = w.heap.size := fun k x y h hk => by
    have h1 := (List.getElem?_eq_some_iff.1 h).1
    simp at h1
    have hk' : k = L.length := by omega
    subst hk'
    simp at h
    exact ⟨rfl, h.1.symm⟩
   by_cases hil : i < L.length <;> by_cases hjl : j < L.length
   · rw [List.getElem?_append_left hil] at hi
     rw [List.getElem?_append_left hjl] at hj
     exact C.inj i j g x y u v hi hj
   · obtain ⟨-, e⟩ := last j u v hj hjl
     rw [List.getElem?_append_left hil] at hi
     have := key i hil x y hi
     omega
   · obtain ⟨-, e⟩ := last i x y hi hil
     rw [List.getElem?_append_left hjl] at hj
     have := key j hjl u v hj
     omega
   · have := (last i x y hi hil).1
     have := (last j u v hj hjl).1
     omega
theorem Cls.put {w0 w : World} {L : List (Nat × Nat × Nat)} (C : Cls w0 L w) (j : Nat) {g x y : Nat} (hj : L[j]? = some (g, x, y)) (s t : Nat) : Cls w0 (L.set j (g, s, t)) (put2 w g s t) := by
 have hl := (List.getElem?_eq_some_iff.1 hj).1
 have hg := C.blk j g x y hj
 refine ⟨put2_below C.old hg.1 s t, fun k h p q hk => ?_, fun i k h p q u v hi hk => ?_⟩
 · by_cases hjk : j = k
   · subst hjk
     rw [List.getElem?_set_self hl] at hk
     simp at hk
     obtain ⟨rfl, rfl, rfl⟩ := hk
     exact ⟨hg.1, hg.2.put _ _⟩
   · rw [List.getElem?_set_ne hjk] at hk
     refine ⟨(C.blk k h p q hk).1, (C.blk k h p q hk).2.other (fun e => ?_) _ _⟩
     subst e
     exact hjk (C.inj j k _ _ _ _ _ hj hk)
 · have back : ∀ n p q, (L.set j (g, s, t))[n]? = some (h, p, q) → ∃ p' q', L[n]? = some (h, p', q') := fun n p q hn => by
    by_cases hjn : j = n
    · subst hjn
      rw [List.getElem?_set_self hl] at hn
      simp at hn
      rw [← hn.1]
      exact ⟨_, _, hj⟩
    · rw [List.getElem?_set_ne hjn] at hn; exact ⟨_, _, hn⟩
   obtain ⟨p1, q1, h1⟩ := back i p q hi
   obtain ⟨p2, q2, h2⟩ := back k u v hk
   exact C.inj i k h _ _ _ _ h1 h2
theorem Cls.at_ {w0 w : World} {L : List (Nat × Nat × Nat)} (C : Cls w0 L w) (j : Nat) {g x y : Nat} (hj : L[j]? = some (g, x, y)) : Blk w g x y := (C.blk j g x y hj).2
theorem Cls.draws {w0 w : World} {L : List (Nat × Nat × Nat)} (C : Cls w0 L w) : Cls w0 L w.drew := ⟨C.old.drew, fun j g x y h => ⟨(C.blk j g x y h).1, ⟨(C.at_ j h).1, (C.at_ j h).2, (C.at_ j h).3, (C.at_ j h).4, (C.at_ j h).5⟩⟩, C.inj⟩

end Go.Proofs.YtacinenddnfcbaaGreat

namespace Ieee.Own
theorem two_succ' {a b : Nat} (h : a = b + 1) : 2 ^ a = 2 * 2 ^ b := by subst h; exact two_succ b
theorem told {ws : Nat → Nat} (hw : ∀ i, ws i < 18446744073709551616) {z : Int} (hz : z.natAbs < 2 ^ 1535) (h : ((2 ^ (64 * 24) : Nat) : Int) ∣ (sumW ws 24 : Int) - z) :
 (0 ≤ z → (sumW ws 24 : Int) = z) ∧ (z < 0 → (sumW ws 24 : Int) = z + ((2 ^ 1536 : Nat) : Int)) := by
 have hl := sumW_lt ws hw 24
 have e : (2 ^ 1536 : Nat) = 2 * 2 ^ 1535 := two_succ' (a := 1536) (b := 1535) rfl
 rw [show 64 * 24 = 1536 from rfl] at h hl
 obtain ⟨c, hc⟩ := h
 rw [e] at hc hl ⊢
 generalize (2 ^ 1535 : Nat) = K at *
 generalize sumW ws 24 = S at *
 have hK : ((2 * K : Nat) : Int) * c = 2 * ((K : Int) * c) := by rw [Int.natCast_mul, Int.mul_assoc]; rfl
 rw [hK] at hc
 have hKp : 0 < K := by omega
 have hc3 : c = 0 ∨ c = 1 ∨ c ≤ -1 ∨ 2 ≤ c := by omega
 rcases hc3 with rfl | rfl | h | h
 · simp at hc; constructor <;> intro h <;> omega
 · simp at hc; constructor <;> intro h <;> omega
 · have := Int.mul_le_mul_of_nonneg_left h (show (0 : Int) ≤ K by omega)
   rw [Int.mul_neg, Int.mul_one] at this
   constructor <;> intro h <;> omega
 · have := Int.mul_le_mul_of_nonneg_left h (show (0 : Int) ≤ K by omega)
   constructor <;> intro h <;> omega

end Ieee.Own
namespace Go.Proofs.YtacinenddnfcbaaGreat
open Go.ChangeShapes Go.WideShapes Go.ChangeAt Go.RowKit Ieee.Own

structure Copy (w : World) (bs : Nat → Nat) (wr : World) : Prop where
 old : Below w.heap.size w wr
 size : w.heap.size < wr.heap.size
 cell : ∀ i, i < 24 → wr.cell? ⟨w.heap.size, i, none⟩ = some (.int .u64 (bs i))
 free : ∀ i, i < 24 → wr.frozen? ⟨w.heap.size, i, none⟩ = false
theorem Blk.heap {g x y : Nat} {w w' : World} (b : Blk w g x y) (h : w'.heap[g]? = w.heap[g]?) (hs : w.heap.size ≤ w'.heap.size) : Blk w' g x y :=
 ⟨Nat.lt_of_lt_of_le b.lt hs, by rw [← b.lo]; unfold World.cell?; rw [h], by rw [← b.hi]; unfold World.cell?; rw [h], by rw [← b.f0]; unfold World.frozen?; rw [h], by rw [← b.f1]; unfold World.frozen?; rw [h]⟩
section
variable {w0 w w' : World} {L : List (Nat × Nat × Nat)} {A : List (Nat × Int)}
end

end Go.Proofs.YtacinenddnfcbaaGreat

namespace Go.Proofs.YtacinenddnfcbaaGreat
open Go.ChangeShapes Go.WideShapes Go.ChangeAt Go.RowKit Ieee.Own

def ptr (g : Nat) : Value := .pointer (some ⟨g, 0, none⟩)
section
variable {w : World} {LS : List (Nat × Nat × Nat)} {a0 : Nat} {z : Int} {ws : Nat → Nat} {L : List (Option Value)} {wx : World}
end
end Go.Proofs.YtacinenddnfcbaaGreat

namespace Go.Proofs.YtacinenddnfcbaaGreat
open Go.ChangeShapes Go.WideShapes Go.ChangeAt Go.RowKit Ieee.Own

theorem Blk.setLo {w : World} {g x y : Nat} (b : Blk w g x y) (s : Nat) : Blk (w.setCell ⟨g, 0, none⟩ (.float .f64 s)) g s y :=
 ⟨by simp; exact b.lt, World.cell?_setCell_same _ _ _ b.lo, by rw [World.cell?_setCell_other _ _ _ _ (by simp)]; exact b.hi, by rw [World.frozen?_setCell]; exact b.f0, by rw [World.frozen?_setCell]; exact b.f1⟩
theorem Blk.setHi {w : World} {g x y : Nat} (b : Blk w g x y) (s : Nat) : Blk (w.setCell ⟨g, 1, none⟩ (.float .f64 s)) g x s :=
 ⟨by simp; exact b.lt, by rw [World.cell?_setCell_other _ _ _ _ (by simp)]; exact b.lo, World.cell?_setCell_same _ _ _ b.hi, by rw [World.frozen?_setCell]; exact b.f0, by rw [World.frozen?_setCell]; exact b.f1⟩
theorem Blk.setOther {w : World} {g x y h i : Nat} (b : Blk w g x y) (hg : g ≠ h) (v : Value) : Blk (w.setCell ⟨h, i, none⟩ v) g x y := by
 have e : (w.setCell ⟨h, i, none⟩ v).heap[g]? = w.heap[g]? := Below.heap_setCell _ _ _ _ hg
 exact ⟨by simp; exact b.lt, by rw [← b.lo]; unfold World.cell?; rw [e], by rw [← b.hi]; unfold World.cell?; rw [e], by rw [World.frozen?_setCell]; exact b.f0, by rw [World.frozen?_setCell]; exact b.f1⟩
theorem Cls.one {w0 w : World} {L : List (Nat × Nat × Nat)} (C : Cls w0 L w) (j : Nat) {g x y s t i : Nat} {v : Value} (hj : L[j]? = some (g, x, y)) (hb : Blk (w.setCell ⟨g, i, none⟩ v) g s t) : Cls w0 (L.set j (g, s, t)) (w.setCell ⟨g, i, none⟩ v) := by
 have hl := (List.getElem?_eq_some_iff.1 hj).1
 have hg := C.blk j g x y hj
 refine ⟨C.old.setCell hg.1 _, fun k h p q hk => ?_, fun i k h p q u v hi hk => ?_⟩
 · by_cases hjk : j = k
   · subst hjk
     rw [List.getElem?_set_self hl] at hk
     simp at hk
     obtain ⟨rfl, rfl, rfl⟩ := hk
     exact ⟨hg.1, hb⟩
   · rw [List.getElem?_set_ne hjk] at hk
     refine ⟨(C.blk k h p q hk).1, (C.blk k h p q hk).2.setOther (fun e => ?_) _⟩
     subst e
     exact hjk (C.inj j k _ _ _ _ _ hj hk)
 · have back : ∀ n p q, (L.set j (g, s, t))[n]? = some (h, p, q) → ∃ p' q', L[n]? = some (h, p', q') := fun n p q hn => by
    by_cases hjn : j = n
    · subst hjn
      rw [List.getElem?_set_self hl] at hn
      simp at hn
      rw [← hn.1]
      exact ⟨_, _, hj⟩
    · rw [List.getElem?_set_ne hjn] at hn; exact ⟨_, _, hn⟩
   obtain ⟨p1, q1, h1⟩ := back i p q hi
   obtain ⟨p2, q2, h2⟩ := back k u v hk
   exact C.inj i k h _ _ _ _ h1 h2
theorem Cls.lo {w0 w : World} {L : List (Nat × Nat × Nat)} (C : Cls w0 L w) (j : Nat) {g x y : Nat} (hj : L[j]? = some (g, x, y)) (s : Nat) : Cls w0 (L.set j (g, s, y)) (w.setCell ⟨g, 0, none⟩ (.float .f64 s)) :=
 C.one j hj ((C.at_ j hj).setLo s)
theorem Cls.hi {w0 w : World} {L : List (Nat × Nat × Nat)} (C : Cls w0 L w) (j : Nat) {g x y : Nat} (hj : L[j]? = some (g, x, y)) (s : Nat) : Cls w0 (L.set j (g, x, s)) (w.setCell ⟨g, 1, none⟩ (.float .f64 s)) :=
 C.one j hj ((C.at_ j hj).setHi s)

end Go.Proofs.YtacinenddnfcbaaGreat

namespace Go.Proofs.YtacinenddnfcbaaGreat
open Go.ChangeShapes Go.WideShapes Go.ChangeAt Go.RowKit Ieee.Own

theorem prodN_le {a b c d : Nat} (h : V a * V b ≤ V c * V d) : prodN a b ≤ prodN c d := by
 unfold prodN
 exact Int.ediv_le_ediv (Int.pow_pos (by omega)) h
theorem sq_le {x y : Int} (h0 : 0 ≤ x) (h : x ≤ y) : x * x ≤ y * y := Int.mul_le_mul h h h0 (by omega)
end Go.Proofs.YtacinenddnfcbaaGreat

namespace Go.Proofs.YtacinenddnfcbaaGreat
open Go.ChangeShapes Go.WideShapes Go.ChangeAt Go.RowKit Ieee.Own

structure Two (a0 b0 a1 b1 c0 d0 c1 d1 : Nat) : Prop where
 la0 : a0 < 18446744073709551616
 lb0 : b0 < 18446744073709551616
 la1 : a1 < 18446744073709551616
 lb1 : b1 < 18446744073709551616
 lc0 : c0 < 18446744073709551616
 ld0 : d0 < 18446744073709551616
 lc1 : c1 < 18446744073709551616
 ld1 : d1 < 18446744073709551616
 i0 : insB a0 b0 c0 d0 = true
 i1 : insB a1 b1 c1 d1 = true
section
variable {a0 b0 a1 b1 c0 d0 c1 d1 : Nat} (T : Two a0 b0 a1 b1 c0 d0 c1 d1)
include T
end

structure One (a0 b0 c0 d0 : Nat) : Prop where
 la0 : a0 < 18446744073709551616
 lb0 : b0 < 18446744073709551616
 lc0 : c0 < 18446744073709551616
 ld0 : d0 < 18446744073709551616
 i0 : insB a0 b0 c0 d0 = true
section
variable {a0 b0 c0 d0 : Nat} (T : One a0 b0 c0 d0)
include T
end
theorem sq_ge {x y : Int} (h0 : y ≤ 0) (h : x ≤ y) : y * y ≤ x * x := by
 have := sq_le (x := -y) (y := -x) (by omega) (by omega)
 rwa [Int.neg_mul_neg, Int.neg_mul_neg] at this
theorem prodN_nn (a : Nat) : 0 ≤ prodN a a := by
 unfold prodN
 refine Int.ediv_nonneg ?_ (Int.le_of_lt (Int.pow_pos (by omega)))
 by_cases h : 0 ≤ V a
 · exact Int.mul_nonneg h h
 · exact Int.mul_nonneg_of_nonpos_of_nonpos (by omega) (by omega)
theorem prodN_le_iff {a b : Nat} {u : Int} : prodC a b u ≤ 0 ↔ prodN a b ≤ u := by unfold prodC; omega
theorem le_prodN_iff {a b : Nat} {u : Int} : 0 ≤ prodC a b u ↔ u ≤ prodN a b := by unfold prodC; omega
theorem sq_le_of {a b : Nat} (le : V a ≤ V b) (lo hi : Nat) (d : DnAll (sqLo a b) lo) (u : UpAll (sqHi a b) hi) : V lo ≤ V hi := by
 unfold sqLo at d
 unfold sqHi at u
 by_cases c1 : 0 ≤ V a
 · rw [if_pos c1] at d u
   have p := le_prodN_iff.1 (d.le _ (List.mem_singleton.2 rfl))
   have q := prodN_le_iff.1 (u.ge _ (List.mem_singleton.2 rfl))
   have := prodN_le (a := a) (b := a) (c := b) (d := b) (sq_le c1 le)
   omega
 · rw [if_neg c1] at d u
   by_cases c2 : V b ≤ 0
   · rw [if_pos c2] at d u
     have p := le_prodN_iff.1 (d.le _ (List.mem_singleton.2 rfl))
     have q := prodN_le_iff.1 (u.ge _ (List.mem_singleton.2 rfl))
     have := prodN_le (a := b) (b := b) (c := a) (d := a) (sq_ge c2 le)
     omega
   · rw [if_neg c2] at d u
     have p := d.le _ (List.mem_singleton.2 rfl)
     replace p : 0 ≤ 0 - V lo := p
     have q := prodN_le_iff.1 (u.ge (prodC a a) (by simp))
     have := prodN_nn a
     omega
section
variable {a0 b0 c0 d0 : Nat} (T : One a0 b0 c0 d0)
include T
end

end Go.Proofs.YtacinenddnfcbaaGreat
