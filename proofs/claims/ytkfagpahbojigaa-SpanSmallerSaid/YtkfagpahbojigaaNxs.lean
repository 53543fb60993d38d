/- Proved here: what the calls of grain's and the reference's Next and Prev answer, over the translated code. -/
import Derived.Test.YtkfagpahbojigaaFlt
import Derived.Test.YtkfagpahbojigaaWrd
import Derived.Laws.Externs
namespace Go.Proofs.Ytkfagpahbojigaa
open Go.ChangeShapes Go.WideShapes Go.ChangeAt Go.RowKit Ieee.Own

/-! ### the library's calls between words and numbers -/
theorem x39 (b : Nat) (w : World) : (callFunc 65 #[.float .f64 b]).run Try.prog w = .ok (.value (.int .u64 (b : Int))) w := by
  rw [run_callFunc_extern (e := Extern.MathFloatBits.float64bits) Try.func65 (by kernel_rfl) (by kernel_rfl) (by kernel_rfl) (by kernel_rfl)]; rfl
theorem x10 (n : Int) (w : World) : (callFunc 86 #[.int .u64 n]).run Try.prog w = .ok (.value (.float .f64 n.toNat)) w := by
  rw [run_callFunc_extern (e := Extern.MathFloatBits.float64frombits) Try.func86 (by kernel_rfl) (by kernel_rfl) (by kernel_rfl) (by kernel_rfl)]; rfl
theorem xneg (b : Nat) (hb : b < 18446744073709551616) (w : World) : (Op.unary .neg (.float .f64 b)).run Try.prog w = .ok (.float .f64 (if b < 9223372036854775808 then b + 9223372036854775808 else b - 9223372036854775808)) w := by
  rw [← Ieee.Own.xor_top64 b hb]; rfl
theorem and11 (b : Nat) (hb : b < 18446744073709551616) : bits BinOp.and IntKind.u64 ((b : Int) / 4503599627370496) 2047 = ((b / 4503599627370496 % 2048 : Nat) : Int) := by
  rw [show (2047 : Int) = ((2047 : Nat) : Int) from rfl, show ((b : Int) / 4503599627370496) = ((b / 4503599627370496 : Nat) : Int) by omega, u64_and_nat _ 2047 (by omega) (by omega)]
  exact congrArg _ (Nat.and_two_pow_sub_one_eq_mod _ 11)
def nanB (b : Nat) : Bool := decide (9218868437227405312 < b % 9223372036854775808)
def clsN (b : Nat) : Int :=
  if b % 9223372036854775808 = 0 then 1 else if b % 9223372036854775808 < 4503599627370496 then 2
  else if b % 9223372036854775808 < 9218868437227405312 then 3 else if b % 9223372036854775808 = 9218868437227405312 then 4 else 5
def canW (b : Nat) : Nat := if 9218868437227405312 < b % 9223372036854775808 then 9221120237041090560 else b
theorem ord_self (b : Nat) (hb : b < 18446744073709551616) : (FloatKind.f64.format.order b b != some Ordering.eq) = nanB b := by
  show (Ieee.double.order b b != some Ordering.eq) = nanB b
  unfold nanB
  by_cases h : 9218868437227405312 < b % 9223372036854775808
  · rw [Ieee.Own.order64_nan b b (Or.inl h)]; simp [h]
  · rw [Ieee.Own.order64 b b hb hb (by omega) (by omega)]
    simp [h, bne]
theorem isnan_any (b : Nat) (hb : b < 18446744073709551616) (w : World) :
    Calls Try.prog 94 #[.float .f64 b] w fun e w' => e = .returned (.bool (nanB b)) ∧ w = w' := by
  have h := Lib.hid (ord_self b hb)
  clear hb
  go_enter Try.func94, Try.ntmps94
  go_wp2
  go_ret
  exact ⟨ret_b h.out, rfl⟩
theorem isnan_t (b : Nat) (hb : b < 18446744073709551616) (h : nanB b = true) (w : World) :
    Calls Try.prog 94 #[.float .f64 b] w fun e w' => e = .returned (.bool true) ∧ w = w' :=
  (isnan_any b hb w).mono fun _ _ ⟨he, hw⟩ => ⟨by rw [he, h], hw⟩
theorem isnan_f (b : Nat) (hb : b < 18446744073709551616) (h : nanB b = false) (w : World) :
    Calls Try.prog 94 #[.float .f64 b] w fun e w' => e = .returned (.bool false) ∧ w = w' :=
  (isnan_any b hb w).mono fun _ _ ⟨he, hw⟩ => ⟨by rw [he, h], hw⟩
theorem rclass (b : Nat) (hb : b < 18446744073709551616) (c : Int) (h : clsN b = c) (w : World) :
    Calls Try.prog 84 #[.float .f64 b] w fun e w' => e = .returned (.int .i64 c) ∧ w = w' := by
  have H := andn63 b hb
  subst h
  unfold clsN
  clear hb
  generalize b % 9223372036854775808 = m at *
  by_cases h1 : m = 0
  · subst h1
    go_enter Try.func84, Try.ntmps84
    go_wp2_with (simp only [x39])
    go_ret
    exact ⟨rfl, rfl⟩
  have t1 : ((m : Int) == 0) = false := ieq_f (by omega)
  by_cases h2 : m < 4503599627370496
  · have t2 : decide ((m : Int) < 4503599627370496) = true := decide_eq_true (by omega)
    rw [if_neg h1, if_pos h2]
    clear h1 h2
    go_enter Try.func84, Try.ntmps84
    go_wp2_with (simp only [x39])
    go_ret
    exact ⟨rfl, rfl⟩
  have t2 : decide ((m : Int) < 4503599627370496) = false := decide_eq_false (by omega)
  by_cases h3 : m < 9218868437227405312
  · have t3 : decide ((m : Int) < 9218868437227405312) = true := decide_eq_true (by omega)
    rw [if_neg h1, if_neg h2, if_pos h3]
    clear h1 h2 h3
    go_enter Try.func84, Try.ntmps84
    go_wp2_with (simp only [x39])
    go_ret
    exact ⟨rfl, rfl⟩
  have t3 : decide ((m : Int) < 9218868437227405312) = false := decide_eq_false (by omega)
  by_cases h4 : m = 9218868437227405312
  · have t4 : ((m : Int) == 9218868437227405312) = true := ieq_t (by omega)
    rw [if_neg h1, if_neg h2, if_neg h3, if_pos h4]
    clear h1 h2 h3 h4
    go_enter Try.func84, Try.ntmps84
    go_wp2_with (simp only [x39])
    go_ret
    exact ⟨rfl, rfl⟩
  · have t4 : ((m : Int) == 9218868437227405312) = false := ieq_f (by omega)
    rw [if_neg h1, if_neg h2, if_neg h3, if_neg h4]
    clear h1 h2 h3 h4
    go_enter Try.func84, Try.ntmps84
    go_wp2_with (simp only [x39])
    go_ret
    exact ⟨rfl, rfl⟩
/-! ### Canon -/
theorem canon_nan (b : Nat) (hb : b < 18446744073709551616) (h : nanB b = true) (w : World) :
    Calls Try.prog 95 #[.float .f64 b] w fun e w' => e = .returned (.float .f64 9221120237041090560) ∧ w = w' := by
  have C := fun w => isnan_t b hb h w
  clear h hb
  go_enter Try.func95, Try.ntmps95
  go_wp2_with (first | simp only [x10] | (go_at_call 94; refine (C _).mono ?_; rintro e w' ⟨rfl, rfl⟩))
  go_ret
  exact ⟨rfl, rfl⟩
theorem canon_num (b : Nat) (hb : b < 18446744073709551616) (h : nanB b = false) (w : World) :
    Calls Try.prog 95 #[.float .f64 b] w fun e w' => e = .returned (.float .f64 b) ∧ w = w' := by
  have C := fun w => isnan_f b hb h w
  clear h hb
  go_enter Try.func95, Try.ntmps95
  go_wp2_with (go_at_call 94; refine (C _).mono ?_; rintro e w' ⟨rfl, rfl⟩)
  go_ret
  exact ⟨rfl, rfl⟩
theorem canon_any (b : Nat) (hb : b < 18446744073709551616) (w : World) :
    Calls Try.prog 95 #[.float .f64 b] w fun e w' => e = .returned (.float .f64 (canW b)) ∧ w = w' := by
  by_cases h : 9218868437227405312 < b % 9223372036854775808
  · refine (canon_nan b hb (decide_eq_true h) w).mono fun e w' ⟨he, hw⟩ => ⟨by rw [he]; unfold canW; rw [if_pos h], hw⟩
  · refine (canon_num b hb (decide_eq_false h) w).mono fun e w' ⟨he, hw⟩ => ⟨by rw [he]; unfold canW; rw [if_neg h], hw⟩
theorem cls_five (b : Nat) : clsN b = 5 ↔ 9218868437227405312 < b % 9223372036854775808 := by
  unfold clsN; repeat' split
  all_goals omega
theorem rcanon_any (b : Nat) (hb : b < 18446744073709551616) (w : World) :
    Calls Try.prog 85 #[.float .f64 b] w fun e w' => e = .returned (.float .f64 (canW b)) ∧ w = w' := by
  have hc := cls_five b
  by_cases h : 9218868437227405312 < b % 9223372036854775808
  · have hF : canW b = 9221120237041090560 := if_pos h
    have C := fun w => rclass b hb 5 (hc.2 h) w
    rw [hF]
    clear hF hc h hb
    go_enter Try.func85, Try.ntmps85
    go_wp2_with (first | simp only [x10] | (go_at_call 84; refine (C _).mono ?_; rintro e w' ⟨rfl, rfl⟩))
    go_ret
    exact ⟨rfl, rfl⟩
  · have hF : canW b = b := if_neg h
    have C := fun w => rclass b hb _ rfl w
    have t : (clsN b == 5) = false := ieq_f (fun e => h (hc.1 e))
    rw [hF]
    clear hF hc h hb
    go_enter Try.func85, Try.ntmps85
    go_wp2_with (go_at_call 84; refine (C _).mono ?_; rintro e w' ⟨rfl, rfl⟩)
    go_ret
    exact ⟨rfl, rfl⟩
/-! ### infinities -/
theorem isinf_up (b : Nat) (hb : b < 18446744073709551616) (w : World) :
    Calls Try.prog 96 #[.float .f64 b, .int .i64 1] w fun e w' => e = .returned (.bool (decide (b = 9218868437227405312))) ∧ w = w' := by
  have H := Lib.hid (o_gtr b 9218868437227405311 hb (by omega))
  clear hb
  go_enter Try.func96, Try.ntmps96
  go_wp2
  go_ret
  refine ⟨ret_b ?_, rfl⟩
  rw [H.out]
  clear H
  simp only [decide_eq_decide]
  unfold nn Ieee.Own.key64
  split <;> split <;> omega
theorem isinf_any (b : Nat) (hb : b < 18446744073709551616) (w : World) :
    Calls Try.prog 96 #[.float .f64 b, .int .i64 0] w fun e w' => e = .returned (.bool (decide (b % 9223372036854775808 = 9218868437227405312))) ∧ w = w' := by
  have C := fun w => abs_any b hb w
  have H := Lib.hid (o_gtr (b % 9223372036854775808) 9218868437227405311 (by omega) (by omega))
  have hm := Lib.hid (show b % 9223372036854775808 < 9223372036854775808 by omega)
  clear hb
  generalize b % 9223372036854775808 = m at *
  go_enter Try.func96, Try.ntmps96
  go_wp2_with (go_at_call 92; refine (C _).mono ?_; rintro e w' ⟨rfl, rfl⟩)
  go_ret
  refine ⟨ret_b ?_, rfl⟩
  have hm := hm.out
  rw [H.out]
  clear H
  simp only [decide_eq_decide]
  unfold nn Ieee.Own.key64
  split <;> (try split) <;> omega
theorem isinf_down (b : Nat) (hb : b < 18446744073709551616) (w : World) :
    Calls Try.prog 96 #[.float .f64 b, .int .i64 (-1)] w fun e w' => e = .returned (.bool (decide (b = 18442240474082181120))) ∧ w = w' := by
  have N := fun w => xneg b hb w
  have hb' := Lib.hid hb
  obtain ⟨c, hc⟩ : ∃ c, c = if b < 9223372036854775808 then b + 9223372036854775808 else b - 9223372036854775808 := ⟨_, rfl⟩
  have hc' := Lib.hid hc
  rw [← hc] at N
  have H := Lib.hid (o_gtr c 9218868437227405311 (by rw [hc]; split <;> omega) (by omega))
  clear hb hc
  go_enter Try.func96, Try.ntmps96
  go_wp2_with (simp only [N])
  go_ret
  refine ⟨ret_b ?_, rfl⟩
  rw [H.out]
  have hb := hb'.out
  have hc := hc'.out
  clear H hb' hc'
  simp only [decide_eq_decide]
  unfold nn Ieee.Own.key64
  split at hc <;> split <;> split <;> omega
/-! ### neighbours -/
def nextW (b : Nat) : Nat :=
  if 9218868437227405312 < b % 9223372036854775808 then 9221120237041090560 else if b = 9218868437227405312 then b
  else if b % 9223372036854775808 = 0 then 1 else if b < 9223372036854775808 then b + 1 else b - 1
def prevW (b : Nat) : Nat :=
  if 9218868437227405312 < b % 9223372036854775808 then 9221120237041090560 else if b = 18442240474082181120 then b
  else if b % 9223372036854775808 = 0 then 9223372036854775809 else if b < 9223372036854775808 then b - 1 else b + 1
theorem next_any (b : Nat) (hb : b < 18446744073709551616) (w : World) :
    Calls Try.prog 88 #[.float .f64 b] w fun e w' => e = .returned (.float .f64 (nextW b)) ∧ w = w' := by
  unfold nextW
  by_cases h1 : 9218868437227405312 < b % 9223372036854775808
  · have C1 := fun w => isnan_t b hb (decide_eq_true h1) w
    have C2 := fun w => canon_nan b hb (decide_eq_true h1) w
    rw [if_pos h1]
    clear h1 hb
    go_enter Try.func88, Try.ntmps88
    go_wp2_with (first | (go_at_call 94; refine (C1 _).mono ?_; rintro e w' ⟨rfl, rfl⟩) | (go_at_call 95; refine (C2 _).mono ?_; rintro e w' ⟨rfl, rfl⟩))
    go_ret
    exact ⟨rfl, rfl⟩
  have C1 := fun w => isnan_f b hb (decide_eq_false h1) w
  have C2 := fun w => isinf_up b hb w
  rw [if_neg h1]
  by_cases h2 : b = 9218868437227405312
  · rw [decide_eq_true h2] at C2
    rw [if_pos h2]
    clear h1 h2 hb
    go_enter Try.func88, Try.ntmps88
    go_wp2_with (first | (go_at_call 94; refine (C1 _).mono ?_; rintro e w' ⟨rfl, rfl⟩) | (go_at_call 96; refine (C2 _).mono ?_; rintro e w' ⟨rfl, rfl⟩))
    go_ret
    exact ⟨rfl, rfl⟩
  rw [decide_eq_false h2] at C2
  rw [if_neg h2]
  have e1 := o_eql b 0 hb (by omega)
  have e2 := o_gtr b 0 hb (by omega)
  by_cases h3 : b % 9223372036854775808 = 0
  · rw [if_pos h3]
    rw [decide_eq_true (by unfold nn Ieee.Own.key64; split <;> omega)] at e1
    clear h1 h2 h3 hb e2
    go_enter Try.func88, Try.ntmps88
    go_wp2_with (first | (go_at_call 94; refine (C1 _).mono ?_; rintro e w' ⟨rfl, rfl⟩) | (go_at_call 96; refine (C2 _).mono ?_; rintro e w' ⟨rfl, rfl⟩) | simp only [x10])
    go_ret
    exact ⟨rfl, rfl⟩
  rw [if_neg h3]
  rw [decide_eq_false (by unfold nn Ieee.Own.key64; split <;> omega)] at e1
  by_cases h4 : b < 9223372036854775808
  · rw [if_pos h4]
    rw [decide_eq_true (by unfold nn Ieee.Own.key64; split <;> omega)] at e2
    have q : IntKind.u64.wrap ((b : Int) + 1) = ((b + 1 : Nat) : Int) := by rw [show ((b + 1 : Nat) : Int) = (b : Int) + 1 by omega]; apply IntWalk.u64_in <;> omega
    clear h1 h2 h3 hb h4
    go_enter Try.func88, Try.ntmps88
    go_wp2_with (first | (go_at_call 94; refine (C1 _).mono ?_; rintro e w' ⟨rfl, rfl⟩) | (go_at_call 96; refine (C2 _).mono ?_; rintro e w' ⟨rfl, rfl⟩) | simp only [x10, x39])
    go_ret
    exact ⟨rfl, rfl⟩
  · rw [if_neg h4]
    rw [decide_eq_false (by unfold nn Ieee.Own.key64; split <;> omega)] at e2
    have q : IntKind.u64.wrap ((b : Int) - 1) = ((b - 1 : Nat) : Int) := by rw [show ((b - 1 : Nat) : Int) = (b : Int) - 1 by omega]; apply IntWalk.u64_in <;> omega
    clear h1 h2 h3 hb h4
    go_enter Try.func88, Try.ntmps88
    go_wp2_with (first | (go_at_call 94; refine (C1 _).mono ?_; rintro e w' ⟨rfl, rfl⟩) | (go_at_call 96; refine (C2 _).mono ?_; rintro e w' ⟨rfl, rfl⟩) | simp only [x10, x39])
    go_ret
    exact ⟨rfl, rfl⟩
theorem rnext_any (b : Nat) (hb : b < 18446744073709551616) (w : World) :
    Calls Try.prog 66 #[.float .f64 b] w fun e w' => e = .returned (.float .f64 (nextW b)) ∧ w = w' := by
  unfold nextW
  have hc := cls_five b
  by_cases h1 : 9218868437227405312 < b % 9223372036854775808
  · have C1 := fun w => rclass b hb 5 (hc.2 h1) w
    have C2 := fun w => rcanon_any b hb w
    rw [show canW b = 9221120237041090560 from if_pos h1] at C2
    rw [if_pos h1]
    clear h1 hb hc
    go_enter Try.func66, Try.ntmps66
    go_wp2_with (first | simp only [x39] | (go_at_call 84; refine (C1 _).mono ?_; rintro e w' ⟨rfl, rfl⟩) | (go_at_call 85; refine (C2 _).mono ?_; rintro e w' ⟨rfl, rfl⟩))
    go_ret
    exact ⟨rfl, rfl⟩
  have C1 := fun w => rclass b hb _ rfl w
  have t1 : (clsN b == 5) = false := ieq_f (fun e => h1 (hc.1 e))
  rw [if_neg h1]
  by_cases h2 : b = 9218868437227405312
  · have t2 : ((b : Int) == 9218868437227405312) = true := ieq_t (by omega)
    rw [if_pos h2]
    clear h1 h2 hb hc
    go_enter Try.func66, Try.ntmps66
    go_wp2_with (first | simp only [x39] | (go_at_call 84; refine (C1 _).mono ?_; rintro e w' ⟨rfl, rfl⟩))
    go_ret
    exact ⟨rfl, rfl⟩
  have t2 : ((b : Int) == 9218868437227405312) = false := ieq_f (by omega)
  rw [if_neg h2]
  have H := andn63 b hb
  by_cases h3 : b % 9223372036854775808 = 0
  · rw [if_pos h3]
    have t3 : (((b % 9223372036854775808 : Nat) : Int) == 0) = true := ieq_t (by omega)
    clear h1 h2 h3 hb hc
    generalize b % 9223372036854775808 = m at *
    go_enter Try.func66, Try.ntmps66
    go_wp2_with (first | simp only [x39, x10] | (go_at_call 84; refine (C1 _).mono ?_; rintro e w' ⟨rfl, rfl⟩))
    go_ret
    exact ⟨rfl, rfl⟩
  rw [if_neg h3]
  have t3 : (((b % 9223372036854775808 : Nat) : Int) == 0) = false := ieq_f (by omega)
  by_cases h4 : b < 9223372036854775808
  · rw [if_pos h4]
    have t4 : decide ((b : Int) < 9223372036854775808) = true := decide_eq_true (by omega)
    have q : IntKind.u64.wrap ((b : Int) + 1) = ((b + 1 : Nat) : Int) := by rw [show ((b + 1 : Nat) : Int) = (b : Int) + 1 by omega]; apply IntWalk.u64_in <;> omega
    clear h1 h2 h3 hb hc h4
    generalize b % 9223372036854775808 = m at *
    go_enter Try.func66, Try.ntmps66
    go_wp2_with (first | simp only [x39, x10] | (go_at_call 84; refine (C1 _).mono ?_; rintro e w' ⟨rfl, rfl⟩))
    go_ret
    exact ⟨rfl, rfl⟩
  · rw [if_neg h4]
    have t4 : decide ((b : Int) < 9223372036854775808) = false := decide_eq_false (by omega)
    have q : IntKind.u64.wrap ((b : Int) - 1) = ((b - 1 : Nat) : Int) := by rw [show ((b - 1 : Nat) : Int) = (b : Int) - 1 by omega]; apply IntWalk.u64_in <;> omega
    clear h1 h2 h3 hb hc h4
    generalize b % 9223372036854775808 = m at *
    go_enter Try.func66, Try.ntmps66
    go_wp2_with (first | simp only [x39, x10] | (go_at_call 84; refine (C1 _).mono ?_; rintro e w' ⟨rfl, rfl⟩))
    go_ret
    exact ⟨rfl, rfl⟩
theorem rprev_any (b : Nat) (hb : b < 18446744073709551616) (w : World) :
    Calls Try.prog 74 #[.float .f64 b] w fun e w' => e = .returned (.float .f64 (prevW b)) ∧ w = w' := by
  unfold prevW
  have hc := cls_five b
  by_cases h1 : 9218868437227405312 < b % 9223372036854775808
  · have C1 := fun w => rclass b hb 5 (hc.2 h1) w
    have C2 := fun w => rcanon_any b hb w
    rw [show canW b = 9221120237041090560 from if_pos h1] at C2
    rw [if_pos h1]
    clear h1 hb hc
    go_enter Try.func74, Try.ntmps74
    go_wp2_with (first | simp only [x39] | (go_at_call 84; refine (C1 _).mono ?_; rintro e w' ⟨rfl, rfl⟩) | (go_at_call 85; refine (C2 _).mono ?_; rintro e w' ⟨rfl, rfl⟩))
    go_ret
    exact ⟨rfl, rfl⟩
  have C1 := fun w => rclass b hb _ rfl w
  have t1 : (clsN b == 5) = false := ieq_f (fun e => h1 (hc.1 e))
  rw [if_neg h1]
  by_cases h2 : b = 18442240474082181120
  · have t2 : ((b : Int) == 18442240474082181120) = true := ieq_t (by omega)
    rw [if_pos h2]
    clear h1 h2 hb hc
    go_enter Try.func74, Try.ntmps74
    go_wp2_with (first | simp only [x39] | (go_at_call 84; refine (C1 _).mono ?_; rintro e w' ⟨rfl, rfl⟩))
    go_ret
    exact ⟨rfl, rfl⟩
  have t2 : ((b : Int) == 18442240474082181120) = false := ieq_f (by omega)
  rw [if_neg h2]
  have H := andn63 b hb
  by_cases h3 : b % 9223372036854775808 = 0
  · rw [if_pos h3]
    have t3 : (((b % 9223372036854775808 : Nat) : Int) == 0) = true := ieq_t (by omega)
    clear h1 h2 h3 hb hc
    generalize b % 9223372036854775808 = m at *
    go_enter Try.func74, Try.ntmps74
    go_wp2_with (first | simp only [x39, x10] | (go_at_call 84; refine (C1 _).mono ?_; rintro e w' ⟨rfl, rfl⟩))
    go_ret
    exact ⟨rfl, rfl⟩
  rw [if_neg h3]
  have t3 : (((b % 9223372036854775808 : Nat) : Int) == 0) = false := ieq_f (by omega)
  by_cases h4 : b < 9223372036854775808
  · rw [if_pos h4]
    have t4 : decide ((b : Int) < 9223372036854775808) = true := decide_eq_true (by omega)
    have q : IntKind.u64.wrap ((b : Int) - 1) = ((b - 1 : Nat) : Int) := by rw [show ((b - 1 : Nat) : Int) = (b : Int) - 1 by omega]; apply IntWalk.u64_in <;> omega
    clear h1 h2 h3 hb hc h4
    generalize b % 9223372036854775808 = m at *
    go_enter Try.func74, Try.ntmps74
    go_wp2_with (first | simp only [x39, x10] | (go_at_call 84; refine (C1 _).mono ?_; rintro e w' ⟨rfl, rfl⟩))
    go_ret
    exact ⟨rfl, rfl⟩
  · rw [if_neg h4]
    have t4 : decide ((b : Int) < 9223372036854775808) = false := decide_eq_false (by omega)
    have q : IntKind.u64.wrap ((b : Int) + 1) = ((b + 1 : Nat) : Int) := by rw [show ((b + 1 : Nat) : Int) = (b : Int) + 1 by omega]; apply IntWalk.u64_in <;> omega
    clear h1 h2 h3 hb hc h4
    generalize b % 9223372036854775808 = m at *
    go_enter Try.func74, Try.ntmps74
    go_wp2_with (first | simp only [x39, x10] | (go_at_call 84; refine (C1 _).mono ?_; rintro e w' ⟨rfl, rfl⟩))
    go_ret
    exact ⟨rfl, rfl⟩
theorem negW_lt (b : Nat) (hb : b < 18446744073709551616) : negW b < 18446744073709551616 := by unfold negW; split <;> omega
theorem nextW_lt (b : Nat) (hb : b < 18446744073709551616) : nextW b < 18446744073709551616 := by unfold nextW; repeat' split
                                                                                                  all_goals omega
theorem prevW_lt (b : Nat) (hb : b < 18446744073709551616) : prevW b < 18446744073709551616 := by unfold prevW; repeat' split
                                                                                                  all_goals omega
theorem prev_by (b : Nat) (hb : b < 18446744073709551616) (h : ¬ 9218868437227405312 < b % 9223372036854775808) : negW (nextW (negW b)) = prevW b := by
  unfold nextW
  by_cases h1 : b = 18442240474082181120
  · subst h1; decide
  have e : negW b % 9223372036854775808 = b % 9223372036854775808 := by unfold negW; split <;> omega
  rw [e, if_neg h]
  have e2 : ¬ negW b = 9218868437227405312 := by unfold negW; split <;> omega
  rw [if_neg e2]
  unfold prevW
  rw [if_neg h, if_neg h1]
  unfold negW
  repeat' split
  all_goals omega
theorem prev_any (b : Nat) (hb : b < 18446744073709551616) (w : World) :
    Calls Try.prog 87 #[.float .f64 b] w fun e w' => e = .returned (.float .f64 (prevW b)) ∧ w = w' := by
  by_cases h1 : 9218868437227405312 < b % 9223372036854775808
  · have C1 := fun w => isnan_t b hb (decide_eq_true h1) w
    have C2 := fun w => canon_nan b hb (decide_eq_true h1) w
    unfold prevW
    rw [if_pos h1]
    clear h1 hb
    go_enter Try.func87, Try.ntmps87
    go_wp2_with (first | (go_at_call 94; refine (C1 _).mono ?_; rintro e w' ⟨rfl, rfl⟩) | (go_at_call 95; refine (C2 _).mono ?_; rintro e w' ⟨rfl, rfl⟩))
    go_ret
    exact ⟨rfl, rfl⟩
  have C1 := fun w => isnan_f b hb (decide_eq_false h1) w
  have N1 : ∀ w, (Op.unary .neg (.float .f64 b)).run Try.prog w = .ok (.float .f64 (negW b)) w := fun w => xneg b hb w
  have C2 := fun w => next_any (negW b) (negW_lt b hb) w
  have N2 : ∀ w, (Op.unary .neg (.float .f64 (nextW (negW b)))).run Try.prog w = .ok (.float .f64 (negW (nextW (negW b)))) w := fun w => xneg _ (nextW_lt _ (negW_lt b hb)) w
  rw [prev_by b hb h1] at N2
  clear h1 hb
  generalize prevW b = p at *
  generalize nextW (negW b) = n at *
  generalize negW b = m at *
  go_enter Try.func87, Try.ntmps87
  go_wp2_with (first | (go_at_call 94; refine (C1 _).mono ?_; rintro e w' ⟨rfl, rfl⟩) | (go_at_call 88; refine (C2 _).mono ?_; rintro e w' ⟨rfl, rfl⟩))
  go_ret
  exact ⟨rfl, rfl⟩
end Go.Proofs.Ytkfagpahbojigaa
