/- Proved here: what Ulp, Order, Narrow (where Go leaves nothing open) and the law's fixed fact answer, over the translated code; each under the conditions of its theorem. -/
import Derived.Test.YtfbhgckjaoldnaaNext
import Derived.Laws.DeepNot64
namespace Go.Proofs.Ytfbhgckjaoldnaa
open Go.ChangeShapes Go.WideShapes Go.ChangeAt Go.RowKit

/-! ### the step -/
def ulpW (b : Nat) : Nat :=
  if 9218868437227405312 ≤ b % 9223372036854775808 then 9221120237041090560
  else if b % 9223372036854775808 = 9218868437227405311 then (Ieee.double.sub 9218868437227405311 9218868437227405310).getD 0
  else (Ieee.double.sub (b % 9223372036854775808 + 1) (b % 9223372036854775808)).getD 0

theorem run_sub (x y r : Nat) (h : Ieee.double.sub x y = some r) (t : TypeId) (w : World) : (binOp .sub t (.float .f64 x) (.float .f64 y)).run Try.prog w = .ok (.float .f64 r) w :=
  run_float_arith w .sub t .f64 x y r h

theorem ulp_any (b : Nat) (hb : b < 18446744073709551616) (w : World) :
    Calls Try.prog 26 #[.float .f64 b] w fun e w' => e = .returned (.float .f64 (ulpW b)) ∧ w = w' := by
  have C0 := fun w => abs_any b hb w
  unfold ulpW
  have hm : b % 9223372036854775808 < 9223372036854775808 := by omega
  clear hb
  generalize b % 9223372036854775808 = m at *
  have hm2 : m % 9223372036854775808 = m := by omega
  by_cases h1 : 9218868437227405312 < m
  · rw [if_pos (by omega)]
    have C1 := fun w => isnan_t m (by omega) (decide_eq_true (by omega)) w
    clear h1 hm hm2
    go_enter Try.func26, Try.ntmps26
    go_wp2_with (first | (go_at_call 38; refine (C0 _).mono ?_; rintro e w' ⟨rfl, rfl⟩) | (go_at_call 41; refine (C1 _).mono ?_; rintro e w' ⟨rfl, rfl⟩) | simp only [x10])
    go_ret
    exact ⟨rfl, rfl⟩
  have C1 := fun w => isnan_f m (by omega) (decide_eq_false (by omega)) w
  have C2 := fun w => isinf_up m (by omega) w
  by_cases h2 : m = 9218868437227405312
  · rw [if_pos (by omega)]
    rw [decide_eq_true h2] at C2
    clear h1 h2 hm hm2
    go_enter Try.func26, Try.ntmps26
    go_wp2_with (first | (go_at_call 38; refine (C0 _).mono ?_; rintro e w' ⟨rfl, rfl⟩) | (go_at_call 41; refine (C1 _).mono ?_; rintro e w' ⟨rfl, rfl⟩) | (go_at_call 35; refine (C2 _).mono ?_; rintro e w' ⟨rfl, rfl⟩) | simp only [x10])
    go_ret
    exact ⟨rfl, rfl⟩
  rw [decide_eq_false h2] at C2
  rw [if_neg (by omega)]
  have e1 := o_eql m 9218868437227405311 (by omega) (by omega)
  by_cases h3 : m = 9218868437227405311
  · rw [if_pos h3]
    rw [decide_eq_true (by unfold nn Ieee.Own.key64; split <;> omega)] at e1
    have C3 := fun w => prev_any m (by omega) w
    rw [show prevW m = 9218868437227405310 by unfold prevW; rw [if_neg (by omega), if_neg (by omega), if_neg (by omega), if_pos (by omega)]; omega] at C3
    obtain ⟨r, hr⟩ := Ieee.Own.sub64_some 9218868437227405311 9218868437227405310 (by omega) (by omega)
    rw [hr]
    rw [← h3] at hr
    have S := run_sub _ _ r hr
    clear h1 h2 h3 hm hm2 hr
    go_enter Try.func26, Try.ntmps26
    go_wp2_with (first | (go_at_call 38; refine (C0 _).mono ?_; rintro e w' ⟨rfl, rfl⟩) | (go_at_call 41; refine (C1 _).mono ?_; rintro e w' ⟨rfl, rfl⟩) | (go_at_call 35; refine (C2 _).mono ?_; rintro e w' ⟨rfl, rfl⟩) | (go_at_call 24; refine (C3 _).mono ?_; rintro e w' ⟨rfl, rfl⟩))
    go_ret
    exact ⟨rfl, rfl⟩
  · rw [if_neg h3]
    rw [decide_eq_false (by unfold nn Ieee.Own.key64; split <;> omega)] at e1
    have C3 := fun w => next_any m (by omega) w
    rw [show nextW m = m + 1 by unfold nextW; rw [if_neg (by omega), if_neg (by omega)]; split <;> (try split) <;> omega] at C3
    obtain ⟨r, hr⟩ := Ieee.Own.sub64_some (m + 1) m (by omega) (by omega)
    rw [hr]
    have S := run_sub _ _ r hr
    clear h1 h2 h3 hm hm2 hr
    generalize m + 1 = m1 at *
    go_enter Try.func26, Try.ntmps26
    go_wp2_with (first | (go_at_call 38; refine (C0 _).mono ?_; rintro e w' ⟨rfl, rfl⟩) | (go_at_call 41; refine (C1 _).mono ?_; rintro e w' ⟨rfl, rfl⟩) | (go_at_call 35; refine (C2 _).mono ?_; rintro e w' ⟨rfl, rfl⟩) | (go_at_call 22; refine (C3 _).mono ?_; rintro e w' ⟨rfl, rfl⟩))
    go_ret
    exact ⟨rfl, rfl⟩

theorem cls_four (b : Nat) : 4 ≤ clsN b ↔ 9218868437227405312 ≤ b % 9223372036854775808 := by
  unfold clsN; repeat' split
  all_goals omega

theorem rulp_any (b : Nat) (hb : b < 18446744073709551616) (w : World) :
    Calls Try.prog 27 #[.float .f64 b] w fun e w' => e = .returned (.float .f64 (ulpW b)) ∧ w = w' := by
  have C0 := fun w => rclass b hb _ rfl w
  have hc := cls_four b
  have H := andn63 b hb
  unfold ulpW
  have hm : b % 9223372036854775808 < 9223372036854775808 := by omega
  clear hb
  generalize b % 9223372036854775808 = m at *
  by_cases h1 : 9218868437227405312 ≤ m
  · rw [if_pos (by omega)]
    have t : decide (clsN b ≥ 4) = true := decide_eq_true (hc.2 h1)
    clear h1 hm hc
    go_enter Try.func27, Try.ntmps27
    go_wp2_with (first | (go_at_call 14; refine (C0 _).mono ?_; rintro e w' ⟨rfl, rfl⟩) | simp only [x10])
    go_ret
    exact ⟨rfl, rfl⟩
  rw [if_neg (by omega)]
  have t : decide (clsN b ≥ 4) = false := decide_eq_false (fun h => h1 (hc.1 h))
  by_cases h3 : m = 9218868437227405311
  · rw [if_pos h3]
    obtain ⟨r, hr⟩ := Ieee.Own.sub64_some 9218868437227405311 9218868437227405310 (by omega) (by omega)
    rw [hr]
    have S := run_sub _ _ r hr
    subst h3
    clear h1 hm hr hc
    go_enter Try.func27, Try.ntmps27
    go_wp2_with (first | (go_at_call 14; refine (C0 _).mono ?_; rintro e w' ⟨rfl, rfl⟩) | simp only [x39] | simp only [x10])
    go_ret
    exact ⟨rfl, rfl⟩
  · rw [if_neg h3]
    obtain ⟨r, hr⟩ := Ieee.Own.sub64_some (m + 1) m (by omega) (by omega)
    rw [hr]
    have S := run_sub _ _ r hr
    have q : IntKind.u64.wrap ((m : Int) + 1) = ((m + 1 : Nat) : Int) := by rw [show ((m + 1 : Nat) : Int) = (m : Int) + 1 by omega]; apply IntWalk.u64_in <;> omega
    have t3 : ((m : Int) == 9218868437227405311) = false := ieq_f (by omega)
    clear h1 hm hr hc h3
    generalize m + 1 = m1 at *
    go_enter Try.func27, Try.ntmps27
    go_wp2_with (first | (go_at_call 14; refine (C0 _).mono ?_; rintro e w' ⟨rfl, rfl⟩) | simp only [x39] | simp only [x10])
    go_ret
    exact ⟨rfl, rfl⟩

/-! ### the order -/
def cmpI (x y : Int) : Int := if x < y then -1 else if y < x then 1 else 0
def placeI (b : Nat) : Int := if canW b < 9223372036854775808 then (canW b : Int) else 9223372036854775807 - (canW b : Int)
theorem canW_lt (b : Nat) (hb : b < 18446744073709551616) : canW b < 18446744073709551616 := by unfold canW; split <;> omega

theorem isnan_int (a : Int) (w : World) :
    Calls Try.prog 46 #[.int .i64 a] w fun e w' => e = .returned (.bool false) ∧ w = w' := by
  go_enter Try.func46, Try.ntmps46
  go_wp2
  go_ret
  exact ⟨rfl, rfl⟩
theorem compare_any (x y : Int) (w : World) :
    Calls Try.prog 43 #[.int .i64 x, .int .i64 y] w fun e w' => e = .returned (.int .i64 (cmpI x y)) ∧ w = w' := by
  unfold cmpI
  by_cases h1 : x < y
  · rw [if_pos h1]
    have t1 : decide (x < y) = true := decide_eq_true h1
    clear h1
    go_enter Try.func43, Try.ntmps43
    go_wp2_with (go_at_call 46; refine (isnan_int _ _).mono ?_; rintro e w' ⟨rfl, rfl⟩)
    go_ret
    exact ⟨rfl, rfl⟩
  rw [if_neg h1]
  have t1 : decide (x < y) = false := decide_eq_false h1
  by_cases h2 : y < x
  · rw [if_pos h2]
    have t2 : decide (x > y) = true := decide_eq_true h2
    clear h1 h2
    go_enter Try.func43, Try.ntmps43
    go_wp2_with (go_at_call 46; refine (isnan_int _ _).mono ?_; rintro e w' ⟨rfl, rfl⟩)
    go_ret
    exact ⟨rfl, rfl⟩
  · rw [if_neg h2]
    have t2 : decide (x > y) = false := decide_eq_false h2
    clear h1 h2
    go_enter Try.func43, Try.ntmps43
    go_wp2_with (go_at_call 46; refine (isnan_int _ _).mono ?_; rintro e w' ⟨rfl, rfl⟩)
    go_ret
    exact ⟨rfl, rfl⟩

theorem wrap64_low (c : Nat) (h : c < 9223372036854775808) : wrap64 (c : Int) = (c : Int) := by unfold wrap64; omega
theorem xor_max (c : Nat) (h : c < 18446744073709551616) : 18446744073709551615 ^^^ c = 18446744073709551615 - c := by
  have := BitVec.toNat_not (x := BitVec.ofNat 64 c)
  have e : ~~~ (BitVec.ofNat 64 c) = BitVec.allOnes 64 ^^^ BitVec.ofNat 64 c := BitVec.allOnes_xor.symm
  rw [e, BitVec.toNat_xor] at this
  simp at this
  rw [Nat.mod_eq_of_lt h] at this
  exact this
theorem not_u64 (c : Nat) (h : c < 18446744073709551616) : bits BinOp.xor IntKind.u64 IntKind.u64.max (c : Int) = 18446744073709551615 - (c : Int) := by
  rw [show IntKind.u64.max = ((18446744073709551615 : Nat) : Int) from rfl, u64_xor_nat _ c (by omega) h, xor_max c h]
  omega
theorem or_top (c : Nat) (h : c < 9223372036854775808) : bits BinOp.or IntKind.u64 (c : Int) 9223372036854775808 = (c : Int) + 9223372036854775808 := by
  rw [show (9223372036854775808 : Int) = ((9223372036854775808 : Nat) : Int) from rfl, u64_or_nat c _ (by omega) (by omega)]
  have := Nat.two_pow_add_eq_or_of_lt (i := 63) (b := c) (by omega) 1
  rw [Nat.or_comm]
  simp at this
  omega

theorem place_any (b : Nat) (hb : b < 18446744073709551616) (w : World) :
    Calls Try.prog 44 #[.float .f64 b] w fun e w' => e = .returned (.int .i64 (placeI b)) ∧ w = w' := by
  have C := fun w => canon_any b hb w
  have hc := canW_lt b hb
  unfold placeI
  clear hb
  generalize canW b = c at *
  by_cases h : c < 9223372036854775808
  · rw [if_pos h]
    have t : ((c : Int) / 9223372036854775808 == 1) = false := ieq_f (by omega)
    have q := Lib.hid (wrap64_low c h)
    clear h hc
    go_enter Try.func44, Try.ntmps44
    go_wp2_with (first | (go_at_call 20; refine (C _).mono ?_; rintro e w' ⟨rfl, rfl⟩) | simp only [x39])
    go_ret
    exact ⟨ret_i q.out, rfl⟩
  · rw [if_neg h]
    have t : ((c : Int) / 9223372036854775808 == 1) = true := ieq_t (by omega)
    have H := andn63 c hc
    have H2 := Lib.hid (i64_not (c % 9223372036854775808) (by omega))
    have hh : c % 9223372036854775808 + 9223372036854775808 = c := by omega
    have hh := Lib.hid hh
    clear h hc
    go_enter Try.func44, Try.ntmps44
    go_wp2_with (first | (go_at_call 20; refine (C _).mono ?_; rintro e w' ⟨rfl, rfl⟩) | simp only [x39])
    go_ret
    refine ⟨ret_i ?_, rfl⟩
    have hh := hh.out
    have H2 := H2.out
    simp only [Int.natCast_emod] at H2
    refine Eq.trans H2 ?_
    omega

def rankI (b : Nat) : Int := if canW b < 9223372036854775808 then (canW b : Int) + 9223372036854775808 else 18446744073709551615 - (canW b : Int)
theorem rank_any (b : Nat) (hb : b < 18446744073709551616) (w : World) :
    Calls Try.prog 45 #[.float .f64 b] w fun e w' => e = .returned (.int .u64 (rankI b)) ∧ w = w' := by
  have C := fun w => rcanon_any b hb w
  have hc := canW_lt b hb
  unfold rankI
  clear hb
  generalize canW b = c at *
  by_cases h : c < 9223372036854775808
  · rw [if_pos h]
    have t : decide ((c : Int) ≥ 9223372036854775808) = false := decide_eq_false (by omega)
    have q := or_top c h
    clear h hc
    go_enter Try.func45, Try.ntmps45
    go_wp2_with (first | (go_at_call 21; refine (C _).mono ?_; rintro e w' ⟨rfl, rfl⟩) | simp only [x39])
    go_ret
    exact ⟨rfl, rfl⟩
  · rw [if_neg h]
    have t : decide ((c : Int) ≥ 9223372036854775808) = true := decide_eq_true (by omega)
    have q := not_u64 c hc
    clear h hc
    go_enter Try.func45, Try.ntmps45
    go_wp2_with (first | (go_at_call 21; refine (C _).mono ?_; rintro e w' ⟨rfl, rfl⟩) | simp only [x39])
    go_ret
    exact ⟨rfl, rfl⟩

theorem order_any (a b : Nat) (ha : a < 18446744073709551616) (hb : b < 18446744073709551616) (w : World) :
    Calls Try.prog 36 #[.float .f64 a, .float .f64 b] w fun e w' => e = .returned (.int .i64 (cmpI (placeI a) (placeI b))) ∧ w = w' := by
  have C1 := fun w => place_any a ha w
  have C2 := fun w => place_any b hb w
  clear ha hb
  go_enter Try.func36, Try.ntmps36
  go_wp2_with (first | (go_at_call 44; ((with_reducible refine (C1 _).mono ?_); rintro e w' ⟨rfl, rfl⟩)) | (go_at_call 44; ((with_reducible refine (C2 _).mono ?_); rintro e w' ⟨rfl, rfl⟩)) | (go_at_call 43; ((with_reducible refine (compare_any _ _ _).mono ?_); rintro e w' ⟨rfl, rfl⟩)))
  go_ret
  exact ⟨rfl, rfl⟩

theorem rank_place (b : Nat) (hb : b < 18446744073709551616) : rankI b = placeI b + 9223372036854775808 := by
  have := canW_lt b hb
  unfold rankI placeI; split <;> omega
theorem cmp_rank (a b : Nat) (ha : a < 18446744073709551616) (hb : b < 18446744073709551616) : cmpI (rankI a) (rankI b) = cmpI (placeI a) (placeI b) := by
  rw [rank_place a ha, rank_place b hb]; unfold cmpI; repeat' split
  all_goals omega

theorem rorder_any (a b : Nat) (ha : a < 18446744073709551616) (hb : b < 18446744073709551616) (w : World) :
    Calls Try.prog 37 #[.float .f64 a, .float .f64 b] w fun e w' => e = .returned (.int .i64 (cmpI (placeI a) (placeI b))) ∧ w = w' := by
  have C1 := fun w => rank_any a ha w
  have C2 := fun w => rank_any b hb w
  rw [← cmp_rank a b ha hb]
  clear ha hb
  generalize rankI a = x at *
  generalize rankI b = y at *
  unfold cmpI
  by_cases h1 : x < y
  · rw [if_pos h1]
    have t1 : decide (x < y) = true := decide_eq_true h1
    clear h1
    go_enter Try.func37, Try.ntmps37
    go_wp2_with (first | (go_at_call 45; ((with_reducible refine (C1 _).mono ?_); rintro e w' ⟨rfl, rfl⟩)) | (go_at_call 45; ((with_reducible refine (C2 _).mono ?_); rintro e w' ⟨rfl, rfl⟩)))
    go_ret
    exact ⟨rfl, rfl⟩
  rw [if_neg h1]
  have t1 : decide (x < y) = false := decide_eq_false h1
  by_cases h2 : y < x
  · rw [if_pos h2]
    have t2 : decide (x > y) = true := decide_eq_true h2
    clear h1 h2
    go_enter Try.func37, Try.ntmps37
    go_wp2_with (first | (go_at_call 45; ((with_reducible refine (C1 _).mono ?_); rintro e w' ⟨rfl, rfl⟩)) | (go_at_call 45; ((with_reducible refine (C2 _).mono ?_); rintro e w' ⟨rfl, rfl⟩)))
    go_ret
    exact ⟨rfl, rfl⟩
  · rw [if_neg h2]
    have t2 : decide (x > y) = false := decide_eq_false h2
    clear h1 h2
    go_enter Try.func37, Try.ntmps37
    go_wp2_with (first | (go_at_call 45; ((with_reducible refine (C1 _).mono ?_); rintro e w' ⟨rfl, rfl⟩)) | (go_at_call 45; ((with_reducible refine (C2 _).mono ?_); rintro e w' ⟨rfl, rfl⟩)))
    go_ret
    exact ⟨rfl, rfl⟩

/-! ### Narrow where nothing is left open, and the fixed fact -/
theorem narrow_num (b r : Nat) (hb : b < 18446744073709551616) (h : floatToFloatBits .f64 b .f32 = some r) (hn : nanB b = false) (w : World) :
    Calls Try.prog 29 #[.float .f64 b] w fun e w' => e = .returned (.float .f32 r) ∧ w = w' := by
  have hc : ∀ w, (convert 24 26 (.float .f64 b)).run Try.prog w = .ok (.float .f32 r) w := fun w => run_convert_float_float w 24 26 .f64 .f32 b r (by rw [Try.underlying24]; rfl) Try.underlying26 h
  have C1 := fun w => isnan_f b hb hn w
  clear h hn hb
  go_enter Try.func29, Try.ntmps29
  go_wp2_with (go_at_call 41; refine (C1 _).mono ?_; rintro e w' ⟨rfl, rfl⟩)
  go_ret
  exact ⟨rfl, rfl⟩

theorem awake_any (w : World) :
    Calls Try.prog 12 #[] w fun e w' => e = .returned (.bool true) ∧ w = w' := by
  have C1 := fun w => class_any 4607182418800017408 (by omega) w
  rw [show clsN 4607182418800017408 = 3 from by decide +kernel] at C1
  have C2 := fun w => next_any 4607182418800017408 (by omega) w
  rw [show nextW 4607182418800017408 = 4607182418800017409 from by decide +kernel] at C2
  have C3 := fun w => order_any 4607182418800017408 4611686018427387904 (by omega) (by omega) w
  rw [show cmpI (placeI 4607182418800017408) (placeI 4611686018427387904) = -1 from by decide +kernel] at C3
  have C4 := fun w => narrow_num 4591870180066957722 1036831949 (by omega) (by decide +kernel) (by decide +kernel) w
  go_enter Try.func12, Try.ntmps12
  go_wp2_with (first | (go_at_call 13; refine (C1 _).mono ?_; rintro e w' ⟨rfl, rfl⟩) | (go_at_call 22; refine (C2 _).mono ?_; rintro e w' ⟨rfl, rfl⟩) | (go_at_call 36; refine (C3 _).mono ?_; rintro e w' ⟨rfl, rfl⟩) | (go_at_call 29; refine (C4 _).mono ?_; rintro e w' ⟨rfl, rfl⟩) | simp only [x39] | simp only [x28])
  go_ret
  exact ⟨rfl, rfl⟩
theorem same_any (a b : Nat) (w : World) :
    Calls Try.prog 19 #[.float .f64 a, .float .f64 b] w fun e w' => e = .returned (.bool ((a : Int) == (b : Int))) ∧ w = w' := by
  go_enter Try.func19, Try.ntmps19
  go_wp2_with (simp only [x39])
  go_ret
  exact ⟨rfl, rfl⟩
theorem same_self (a : Nat) (w : World) :
    Calls Try.prog 19 #[.float .f64 a, .float .f64 a] w fun e w' => e = .returned (.bool true) ∧ w = w' :=
  (same_any a a w).mono fun e w' ⟨he, hw⟩ => ⟨by rw [he]; simp, hw⟩
theorem rfit_any (b : Nat) (hb : b < 18446744073709551616) (w : World) :
    Calls Try.prog 18 #[.float .f64 b] w fun e w' => e = .returned (.bool (fitB b)) ∧ w = w' := by
  have H := andn63 b hb
  unfold fitB
  clear hb
  generalize b % 9223372036854775808 = m at *
  by_cases c1 : m = 0
  · rw [decide_eq_true (by omega)]
    subst c1
    go_enter Try.func18, Try.ntmps18
    go_wp2_with (simp only [x39])
    go_ret
    exact ⟨rfl, rfl⟩
  have t1 : ((m : Int) == 0) = false := ieq_f (by omega)
  by_cases c2 : 3706462493325918208 ≤ m
  · have t2 : decide ((m : Int) ≥ 3706462493325918208) = true := decide_eq_true (by omega)
    by_cases c3 : m ≤ 5507902344274116608
    · have t3 : decide ((m : Int) ≤ 5507902344274116608) = true := decide_eq_true (by omega)
      rw [decide_eq_true (by omega)]
      clear c1 c2 c3
      go_enter Try.func18, Try.ntmps18
      go_wp2_with (simp only [x39])
      go_ret
      exact ⟨rfl, rfl⟩
    · have t3 : decide ((m : Int) ≤ 5507902344274116608) = false := decide_eq_false (by omega)
      rw [decide_eq_false (by omega)]
      clear c1 c2 c3
      go_enter Try.func18, Try.ntmps18
      go_wp2_with (simp only [x39])
      go_ret
      exact ⟨rfl, rfl⟩
  · have t2 : decide ((m : Int) ≥ 3706462493325918208) = false := decide_eq_false (by omega)
    rw [decide_eq_false (by omega)]
    clear c1 c2
    go_enter Try.func18, Try.ntmps18
    go_wp2_with (simp only [x39])
    go_ret
    exact ⟨rfl, rfl⟩

/-! ### arguments -/
theorem nat_u64 (a : Int) (h : (Lit.int .u64 a).wf = true) : ∃ b : Nat, a = (b : Int) ∧ b < 18446744073709551616 := by
  simp [Lit.wf, IntKind.min, IntKind.max, IntKind.signed, IntKind.bits] at h
  exact ⟨a.toNat, by omega, by omega⟩
theorem nat_u32 (a : Int) (h : (Lit.int .u32 a).wf = true) : ∃ b : Nat, a = (b : Int) ∧ b < 4294967296 := by
  simp [Lit.wf, IntKind.min, IntKind.max, IntKind.signed, IntKind.bits] at h
  exact ⟨a.toNat, by omega, by omega⟩
end Go.Proofs.Ytfbhgckjaoldnaa
