/- Proved here: what the texts Sfg prove, one behind the other. -/
import Derived.Test.YtocnpcjpkieogaaGreatDoorJs1
import Derived.Test.YtocnpcjpkieogaaGreatDoorJs3

namespace Go.Proofs.YtocnpcjpkieogaaGreatDoor
open Go.ChangeShapes Go.WideShapes Go.ChangeAt Go.RowKit Ieee.Own

/-! ### the tests -/
theorem fg_gtr (b : Nat) (hb : b < 18446744073709551616) (hf : fitB b = true) : (FloatKind.f64.format.order b 4742290407621132288 == some Ordering.gt) = decide (4742290407621132288 < b ∧ b < 9223372036854775808) := by
  unfold fitB at hf
  rw [decide_eq_true_eq] at hf
  rw [o_gtr b _ hb (by omega), key_low (m := 4742290407621132288) (by omega)]
  apply decide_eq_decide.2
  unfold nn key64
  split <;> omega
theorem fg_lss (b : Nat) (hb : b < 18446744073709551616) (hf : fitB b = true) : (FloatKind.f64.format.order b 13965662444475908096 == some Ordering.lt) = decide (13965662444475908096 < b) := by
  unfold fitB at hf
  rw [decide_eq_true_eq] at hf
  rw [o_lss b _ hb (by omega)]
  apply decide_eq_decide.2
  unfold nn key64
  rw [if_neg (show ¬ 13965662444475908096 < 9223372036854775808 by omega)]
  split <;> omega
theorem fg_neg (b : Nat) (hb : b < 18446744073709551616) (hf : fitB b = true) : (FloatKind.f64.format.order b 0 == some Ordering.lt) = decide (9223372036854775808 < b) := by
  unfold fitB at hf
  rw [decide_eq_true_eq] at hf
  rw [o_lss b _ hb (by omega), key_low (m := 0) (by omega)]
  apply decide_eq_decide.2
  unfold nn key64
  split <;> omega

/-- is the number one that Figure takes? -/
def figB (b : Nat) : Bool := fitB b && decide (b % 9223372036854775808 ≤ 4742290407621132288)
/-- how many digits -/
def wdN (n : Nat) : Nat := if n < 10 then 1 else wdN (n / 10) + 1
termination_by n
theorem wdN_low {n : Nat} (h : n < 10) : wdN n = 1 := by rw [wdN]; exact if_pos h
theorem wdN_high {n : Nat} (h : ¬ n < 10) : wdN n = wdN (n / 10) + 1 := by rw [wdN]; exact if_neg h
theorem wdN_le : ∀ (k n : Nat), 1 ≤ k → n < 10 ^ k → wdN n ≤ k := by
  intro k
  induction k with
  | zero => intro n h _; omega
  | succ k ih =>
    intro n _ h
    by_cases h1 : n < 10
    · rw [wdN_low h1]; omega
    · rw [wdN_high h1]
      have : k ≠ 0 := by rintro rfl; rw [show (10 : Nat) ^ (0 + 1) = 10 by decide] at h; omega
      have := ih (n / 10) (by omega) (by rw [Nat.pow_succ] at h; omega)
      omega
theorem wdN_pos (n : Nat) : 1 ≤ wdN n := by
  rw [wdN]; split <;> omega
/-- a number's text -/
def sgS (b n : Nat) : ByteArray := if 9223372036854775808 < b ∧ 0 < n then ⟨#[45]⟩ else ⟨#[]⟩
def figS (b p : Nat) : ByteArray :=
  if 0 < p then sgS b (scN b p) ++ dgS (wdN (scN b p / tenN p)) (scN b p / tenN p) ++ (⟨#[46]⟩ ++ dgS p (scN b p % tenN p))
  else sgS b (scN b p) ++ dgS (wdN (scN b p / tenN p)) (scN b p / tenN p)
def figV (b : Nat) (p : Int) : Value :=
  if p < 0 ∨ 9 < p then .tuple #[.string ⟨#[]⟩, .int .i64 1]
  else if figB b = true then .tuple #[.string (figS b p.toNat), .int .i64 0] else .tuple #[.string ⟨#[]⟩, .int .i64 3]

set_option maxRecDepth 100000 in
theorem rfig_arg (b : Nat) (p : Int) (h : p < 0 ∨ 9 < p) (u : World) :
    Calls Tryz.prog 6 #[.float .f64 b, .int .i64 p] u fun e u' => e = .returned (figV b p) ∧ u = u' := by
  have R : Hid (figV b p = .tuple #[.string ⟨#[]⟩, .int .i64 1]) := if_pos h
  by_cases h1 : p < 0
  · have g1 : decide (p < 0) = true := decide_eq_true h1
    clear h h1
    go_enter Tryz.func6, Tryz.ntmps6
    go_wp2_with fail
    go_ret2
    rw [R.out]
    exact ⟨rfl, rfl⟩
  · have g1 : decide (p < 0) = false := decide_eq_false h1
    have g2 : decide (9 < p) = true := decide_eq_true (by omega)
    clear h h1
    go_enter Tryz.func6, Tryz.ntmps6
    go_wp2_with fail
    go_ret2
    rw [R.out]
    exact ⟨rfl, rfl⟩
set_option maxRecDepth 100000 in
theorem rfig_fit (b p : Nat) (hb : b < 18446744073709551616) (hp : p ≤ 9) (h : figB b = false) (u : World) :
    Calls Tryz.prog 6 #[.float .f64 b, .int .i64 (p : Int)] u fun e u' => e = .returned (figV b p) ∧ u = u' := by
  have R : Hid (figV b p = .tuple #[.string ⟨#[]⟩, .int .i64 3]) := by
    show _ = _
    unfold figV
    rw [if_neg (by omega), if_neg (by rw [h]; decide)]
  have F := Lib.hid (fun u => rfit_any b hb u)
  have g1 : decide ((p : Int) < 0) = false := decide_eq_false (by omega)
  have g2 : decide (9 < (p : Int)) = false := decide_eq_false (by omega)
  by_cases h1 : fitB b = true
  · have A := fg_gtr b hb h1
    have B := fg_lss b hb h1
    unfold figB at h
    rw [h1, Bool.true_and, decide_eq_false_iff_not] at h
    rw [h1] at F
    by_cases h2 : b < 9223372036854775808
    · rw [decide_eq_true (by omega)] at A
      clear B h h1 h2 hb hp
      go_enter Tryz.func6, Tryz.ntmps6
      go_wp2_with (go_at_call 16; ((with_reducible refine (F.out _).mono ?_); rintro e w' ⟨rfl, rfl⟩))
      go_wp2_with fail
      go_ret2
      rw [R.out]
      exact ⟨rfl, rfl⟩
    · rw [decide_eq_false (by omega)] at A
      rw [decide_eq_true (by omega)] at B
      clear h h1 h2 hb hp
      go_enter Tryz.func6, Tryz.ntmps6
      go_wp2_with (go_at_call 16; ((with_reducible refine (F.out _).mono ?_); rintro e w' ⟨rfl, rfl⟩))
      go_wp2_with fail
      go_ret2
      rw [R.out]
      exact ⟨rfl, rfl⟩
  · rw [Bool.not_eq_true] at h1
    rw [h1] at F
    clear h h1 hb hp
    go_enter Tryz.func6, Tryz.ntmps6
    go_wp2_with (go_at_call 16; ((with_reducible refine (F.out _).mono ?_); rintro e w' ⟨rfl, rfl⟩))
    go_wp2_with fail
    go_ret2
    rw [R.out]
    exact ⟨rfl, rfl⟩
theorem scN_le (b p : Nat) (hp : p ≤ 9) (hf : b % 9223372036854775808 = 0 ∨ b % 9223372036854775808 ≤ 4742290407621132288) : scN b p < 4611686018427387904 := by
  unfold scN
  split
  · omega
  · have ht : tenN p ≤ 1000000000 := by have := tenN_le hp; rw [show tenN 9 = 1000000000 by decide] at this; exact this
    have hM : (b % 4503599627370496 + 4503599627370496) * tenN p ≤ 9007199254740991 * 1000000000 := Nat.mul_le_mul (by omega) ht
    have hk : 22 ≤ 1075 - b % 9223372036854775808 / 4503599627370496 := by omega
    generalize (b % 4503599627370496 + 4503599627370496) * tenN p = M at *
    generalize 1075 - b % 9223372036854775808 / 4503599627370496 = k at *
    have h1 : 2 ^ 22 ≤ 2 ^ k := Nat.pow_le_pow_right (by decide) hk
    rw [show (2 : Nat) ^ 22 = 4194304 by decide] at h1
    have h2 : M / 2 ^ k ≤ M / 4194304 := Nat.div_le_div_left h1 (by decide)
    unfold rneN
    have h3 : M / 4194304 ≤ 2305843009213693952 := by omega
    split <;> omega
theorem dgS_size (w n : Nat) : (dgS w n).size = w := by
  unfold dgS strOfNums
  have := dgI_len w n
  simp [ByteArray.size, this]
set_option maxRecDepth 100000 in
set_option maxHeartbeats 2000000 in
theorem rfig_ok (b p : Nat) (hb : b < 18446744073709551616) (hp : p ≤ 9) (h : figB b = true) (u : World) :
    Calls Tryz.prog 6 #[.float .f64 b, .int .i64 (p : Int)] u fun e u' => e = .returned (figV b p) ∧ Below u.heap.size u u' := by
  unfold figB at h
  rw [Bool.and_eq_true, decide_eq_true_eq] at h
  obtain ⟨h1, h2⟩ := h
  have hf := h1
  unfold fitB at hf
  rw [decide_eq_true_eq] at hf
  have R : figV b p = .tuple #[.string (figS b p), .int .i64 0] := by
    unfold figV
    rw [if_neg (by omega), if_pos (by unfold figB; rw [h1]; simpa using h2)]
    rfl
  have F := Lib.hid (fun u => rfit_any b hb u)
  rw [h1] at F
  have g1 : decide ((p : Int) < 0) = false := decide_eq_false (by omega)
  have g2 : decide (9 < (p : Int)) = false := decide_eq_false (by omega)
  have A := fg_gtr b hb h1
  have B := fg_lss b hb h1
  have C := fg_neg b hb h1
  rw [decide_eq_false (by omega)] at A B
  have S := Lib.hid (fun u => rscaled_run b p hb hp (by omega) u)
  have T := Lib.hid (fun u => rten_run p (by omega) u)
  have hn := scN_le b p hp (by omega)
  have ht := tenN_pos p
  unfold figS at R
  have Z1 : (sgS b (scN b p)).size ≤ 1 := by unfold sgS; split <;> decide
  have Z : sgS b (scN b p) = if 9223372036854775808 < b ∧ 0 < scN b p then ⟨#[45]⟩ else ⟨#[]⟩ := rfl
  generalize sgS b (scN b p) = s1 at *
  generalize scN b p = n at *
  have hq : n / tenN p < 4611686018427387904 := Nat.lt_of_le_of_lt (Nat.div_le_self _ _) hn
  have hr : n % tenN p < 4611686018427387904 := Nat.lt_of_le_of_lt (Nat.mod_le _ _) hn
  have eq1 : (n : Int) / (tenN p : Int) = ((n / tenN p : Nat) : Int) := by simp
  have eq2 : (n : Int) % (tenN p : Int) = ((n % tenN p : Nat) : Int) := by simp
  have ht0 : ((tenN p : Int) == 0) = false := by simp; omega
  have ht1 : ¬ ((tenN p : Int) = 0) := by omega
  generalize n / tenN p = q at *
  generalize n % tenN p = r at *
  generalize tenN p = t at *
  have hw : wdN q ≤ 19 := wdN_le 19 q (by omega) (by rw [show (10 : Nat) ^ 19 = 10000000000000000000 by decide]; omega)
  have hw1 := wdN_pos q
  have D1 := Lib.hid (fun u => rdigits_run q (wdN q) (by omega) (by omega) u)
  have D2 := Lib.hid (fun u => rdigits_run r p (by omega) (by omega) u)
  have z1 := dgS_size (wdN q) q
  have z2 := dgS_size p r
  generalize hA1 : dgS (wdN q) q = A1 at *
  generalize hA2 : dgS p r = A2 at *
  have P1 := fun w => run_string_add_sum (P := Tryz.prog) w s1 A1 (by omega)
  have z3 : (s1 ++ A1).size ≤ 20 := by rw [ByteArray.size_append]; omega
  have P2 := fun w => run_string_add_sum (P := Tryz.prog) w ⟨#[46]⟩ A2 (by have : (⟨#[46]⟩ : ByteArray).size = 1 := rfl; omega)
  have z4 : ((⟨#[46]⟩ : ByteArray) ++ A2).size ≤ 10 := by rw [ByteArray.size_append]; have : (⟨#[46]⟩ : ByteArray).size = 1 := rfl; omega
  have P3 := fun w => run_string_add_sum (P := Tryz.prog) w (s1 ++ A1) (⟨#[46]⟩ ++ A2) (by omega)
  generalize hA3 : s1 ++ A1 = A3 at *
  generalize hA4 : (⟨#[46]⟩ : ByteArray) ++ A2 = A4 at *
  have hn' : (n : Int) ≤ 4611686018427387904 := by omega
  have hq' : (q : Int) ≤ 4611686018427387904 := by omega
  have hwq := Lib.hid hw
  have hwq1 := Lib.hid hw1
  replace R := Lib.hid R
  have hp0 : p = 0 ∨ 0 < p := by omega
  have K : (decide (9223372036854775808 < b) = false ∧ s1 = ⟨#[]⟩) ∨ (decide (9223372036854775808 < b) = true ∧ (n : Int) ≤ 0 ∧ s1 = ⟨#[]⟩) ∨ (decide (9223372036854775808 < b) = true ∧ 1 ≤ (n : Int) ∧ s1 = ⟨#[45]⟩) := by
    by_cases c1 : 9223372036854775808 < b
    · by_cases c2 : 0 < n
      · exact Or.inr (Or.inr ⟨decide_eq_true c1, by omega, by rw [Z, if_pos ⟨c1, c2⟩]⟩)
      · exact Or.inr (Or.inl ⟨decide_eq_true c1, by omega, by rw [Z, if_neg (fun h => c2 h.2)]⟩)
    · exact Or.inl ⟨decide_eq_false c1, by rw [Z, if_neg (fun h => c1 h.1)]⟩
  clear Z Z1 z1 z2 z3 z4 hA1 hA2 hA4 hf h2 h1 hb hn ht hq hr hw hw1
  rcases K with ⟨k1, rfl⟩ | ⟨k1, k2, rfl⟩ | ⟨k1, k2, rfl⟩
  all_goals
    rw [k1] at C
    clear k1 hA3
    rcases hp0 with hp1 | hp1
    all_goals
      first
      | (have g3 : (p : Int) ≤ 0 := by omega
         have R2 : Hid (figV b p = .tuple #[.string A3, .int .i64 0]) := by have := R.out; rw [if_neg (by omega)] at this; exact this
         clear hp1
         replace R := R2
         clear R2)
      | (have g3 : 1 ≤ (p : Int) := by omega
         have R2 : Hid (figV b p = .tuple #[.string (A3 ++ A4), .int .i64 0]) := by have := R.out; rw [if_pos (by omega)] at this; exact this
         clear hp1
         replace R := R2
         clear R2)
      go_enter Tryz.func6, Tryz.ntmps6
      go_wp2_with (first | (go_at_call 16; ((with_reducible refine (F.out _).mono ?_); rintro e w' ⟨rfl, rfl⟩)) | (go_at_call 17; ((with_reducible refine (S.out _).mono ?_); rintro e w' ⟨rfl, rfl⟩)) | (go_at_call 18; ((with_reducible refine (T.out _).mono ?_); rintro e w' ⟨rfl, rfl⟩)))
      go_wp2_with (first | (go_at_call 16; ((with_reducible refine (F.out _).mono ?_); rintro e w' ⟨rfl, rfl⟩)) | (go_at_call 17; ((with_reducible refine (S.out _).mono ?_); rintro e w' ⟨rfl, rfl⟩)) | (go_at_call 18; ((with_reducible refine (T.out _).mono ?_); rintro e w' ⟨rfl, rfl⟩)))
      try (go_wp2_with fail)
      clear A B C F S T g1 g2
      go_loop [10, 11] (fun wv xv => ∃ m j : Nat, j + wdN m = wdN q + 1 ∧ j ≤ 20 ∧ m ≤ 4611686018427387904 ∧ wv = .int .i64 (j : Int) ∧ xv = .int .u64 (m : Int)) (fun _ xv => (intOf xv).toNat)
      case atStart => exact ⟨q, 1, by omega, by omega, by omega, rfl, rfl⟩
      case round =>
        obtain ⟨m, j, hj, hj2, hm, rfl, rfl⟩ := hrel
        by_cases hlt : m < 10
        · rw [wdN_low hlt] at hj
          obtain rfl : j = wdN q := by omega
          clear hj hj2
          go_wp2_with fail
          refine (D1.out u).mono ?_
          rintro _ v1 ⟨rfl, hb1⟩
          replace hb1 := Lib.hid hb1
          clear D1
          go_wp2_with fail
          first
          | (refine (D2.out v1).mono ?_
             rintro _ v2 ⟨rfl, hb2⟩
             replace hb2 := Lib.hid (hb1.out.trans (hb2.mono hb1.out.size))
             clear D2 hb1
             go_wp2_with fail
             go_ret2
             rw [R.out]
             exact ⟨rfl, hb2.out⟩)
          | (go_ret2
             rw [R.out]
             exact ⟨rfl, hb1.out⟩)
        · have hj3 := wdN_high hlt
          have hj4 := wdN_pos (m / 10)
          have hj5 := hwq.out
          have hj6 : Hid ((j + 1) + wdN (m / 10) = wdN q + 1 ∧ j + 1 ≤ 20 ∧ m / 10 ≤ 4611686018427387904) := by show _ ∧ _; omega
          clear hj hj3 hj4 hj5
          go_wp2_with fail
          go_round
          case rel => exact ⟨m / 10, j + 1, hj6.out.1, hj6.out.2.1, hj6.out.2.2, by go_num, by go_num⟩
          case measure => first | (simp [intOf]; done) | (simp [intOf]; omega)
set_option maxRecDepth 100000 in
/-- Figure, for any number and any places -/
theorem rfigure_run (b : Nat) (p : Int) (hb : b < 18446744073709551616) (u : World) :
    Calls Tryz.prog 6 #[.float .f64 b, .int .i64 p] u fun e u' => e = .returned (figV b p) ∧ Below u.heap.size u u' := by
  by_cases h : p < 0 ∨ 9 < p
  · exact (rfig_arg b p h u).mono fun e u' ⟨he, hu⟩ => ⟨he, hu ▸ Below.refl _ _⟩
  · obtain ⟨q, rfl⟩ : ∃ q : Nat, p = (q : Int) := ⟨p.toNat, by omega⟩
    by_cases hf : figB b = true
    · exact rfig_ok b q hb (by omega) hf u
    · exact (rfig_fit b q hb (by omega) (by rwa [Bool.not_eq_true] at hf) u).mono fun e u' ⟨he, hu⟩ => ⟨he, hu ▸ Below.refl _ _⟩
end Go.Proofs.YtocnpcjpkieogaaGreatDoor
