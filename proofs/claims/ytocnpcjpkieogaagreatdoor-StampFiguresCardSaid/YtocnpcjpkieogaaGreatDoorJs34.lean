/- Proved here: what the texts Ldx, Sqh prove, one behind the other. -/
import Derived.Test.YtocnpcjpkieogaaGreatDoorJs33
import Derived.Test.YtocnpcjpkieogaaGreatDoorJs21

namespace Go.Proofs.YtocnpcjpkieogaaGreatDoor
open Go.ChangeShapes Go.WideShapes Go.ChangeAt Go.RowKit Ieee.Own

/-- the word with field f and mantissa m -/
def wf_ (f m : Nat) : Nat := f * 4503599627370496 + m
theorem wf_fin {f m : Nat} (hf : f ≤ 2046) (hm : m < 4503599627370496) : FinW (wf_ f m) := by unfold FinW wf_; omega
theorem wf_V {f m : Nat} (h1 : 1 ≤ f) (hf : f ≤ 2046) (hm : m < 4503599627370496) : V (wf_ f m) = ((4503599627370496 + m : Nat) : Int) * 2 ^ (f - 1) := by
  have h : wf_ f m < 9223372036854775808 := by unfold wf_; omega
  unfold V
  rw [if_pos h]
  have hv : val 52 (wf_ f m) = (4503599627370496 + m) * 2 ^ (f - 1) := by
    unfold val mg ex
    have e1 : ¬ wf_ f m < 2 ^ 52 := by unfold wf_; omega
    have e2 : wf_ f m / 2 ^ 52 = f := by unfold wf_; omega
    have e3 : wf_ f m % 2 ^ 52 = m := by unfold wf_; omega
    rw [if_neg e1, if_neg e1, e2, e3]
  rw [hv, Int.natCast_mul, Int.natCast_pow]; rfl
/-- 1 times a number -/
theorem one_mul_word {r : Nat} (hr : FinW r) (h0 : V r ≠ 0) : Ieee.double.mul 4607182418800017408 r = some r := by
  have f1 : FinW 4607182418800017408 := by unfold FinW; omega
  have v1 : V 4607182418800017408 = 2 ^ 1074 := by decide +kernel
  have hb : (RN (V r)).natAbs < 2 ^ 2098 := by
    rw [RN_exact (Rep_V r), V_abs' r hr]
    have := hr.2
    rw [← top64', val_lt_iff]; exact this
  obtain ⟨x, h1, h2, h3⟩ := mul_spec f1 hr (N := V r) (by rw [v1, Int.mul_comm]) hb
  rw [RN_exact (Rep_V r)] at h3
  rw [h1, V_inj h2 hr h3 (by rw [h3]; exact h0)]

theorem and_f : ∀ f : Nat, f ≤ 1100 → bits BinOp.and IntKind.i64 (f : Int) 2047 = (f : Int) := by
  intro f hf
  have h : ∀ i : Fin 1101, bits BinOp.and IntKind.i64 ((i.val : Nat) : Int) 2047 = ((i.val : Nat) : Int) := by decide +kernel
  exact h ⟨f, by omega⟩
theorem drop_f {f m : Nat} (hf : f ≤ 1100) (hm : m < 4503599627370496) : bits BinOp.andNot IntKind.u64 ((wf_ f m : Nat) : Int) 9218868437227405312 = (m : Int) := by
  have hw : wf_ f m < 2 ^ 63 := by unfold wf_; omega
  rw [show (9218868437227405312 : Int) = ((9218868437227405312 : Nat) : Int) from rfl, u64_andNot_nat _ 9218868437227405312 (by omega) (by omega)]
  have h0 : wf_ f m &&& 2 ^ 63 = 0 := by
    apply Nat.eq_of_testBit_eq
    intro i
    rw [Nat.testBit_and, Nat.zero_testBit, Nat.testBit_two_pow]
    by_cases h : 63 = i
    · subst h; rw [Nat.testBit_lt_two_pow hw]; rfl
    · simp [h]
  congr 1
  rw [show 18446744073709551615 - 9218868437227405312 = 2 ^ 63 ||| (2 ^ 52 - 1) by decide, Nat.and_or_distrib_left, h0, Nat.and_two_pow_sub_one_eq_mod, Nat.zero_or]
  unfold wf_; omega
theorem put_g {g m : Nat} (hg : g ≤ 1900) (hm : m < 4503599627370496) : bits BinOp.or IntKind.u64 (m : Int) ((g : Int) * 4503599627370496) = ((wf_ g m : Nat) : Int) := by
  rw [show (g : Int) * 4503599627370496 = ((g * 4503599627370496 : Nat) : Int) by simp, u64_or_nat m _ (by omega) (by omega), Nat.or_comm]
  have := Nat.two_pow_add_eq_or_of_lt (i := 52) (b := m) (by omega) g
  congr 1
  unfold wf_
  rw [Nat.mul_comm]
  rw [show (2 : Nat) ^ 52 = 4503599627370496 from rfl] at this
  exact this.symm

set_option maxRecDepth 100000 in
theorem ldexp_any (f m g : Nat) (E : Int) (h1 : 1000 ≤ f) (h2 : f ≤ 1100) (hm : m < 4503599627370496) (hg : (f : Int) + E = g) (g1 : 100 ≤ g) (g2 : g ≤ 1900) (w : World) :
    Calls Tryz.prog 41 #[.float .f64 (wf_ f m), .int .i64 E] w fun e w' => e = .returned (.float .f64 (wf_ g m)) ∧ w = w' := by
  have hw : wf_ f m < 9223372036854775808 := by unfold wf_; omega
  have A : ∀ w, Calls Tryz.prog 12 #[.float .f64 (wf_ f m)] w fun e w' => e = .returned (.float .f64 (wf_ f m)) ∧ w = w' := by
    intro w
    have := abs_any (wf_ f m) (by omega) w
    rwa [Nat.mod_eq_of_lt hw] at this
  have hfin := wf_fin (f := f) (m := m) (by omega) hm
  have e1 := o_eql (wf_ f m) 0 (by omega) (by omega)
  have e2 := o_gtr (wf_ f m) 9218868437227405311 (by omega) (by omega)
  have e3 := o_neq (wf_ f m) (wf_ f m) (by omega) (by omega)
  have e4 := o_lss (wf_ f m) 4503599627370496 (by omega) (by omega)
  rw [key_low hw, key_low (by omega)] at e1 e2 e4
  have hn : nn (wf_ f m) := by unfold nn; have := hfin.2; omega
  have hb : 4503599627370496 ≤ wf_ f m ∧ wf_ f m ≤ 9218868437227405311 := by unfold wf_; omega
  rw [decide_eq_false (by omega)] at e1 e2 e4
  rw [decide_eq_true ⟨hn, hn, rfl⟩] at e3
  have hgf := wf_fin (f := g) (m := m) (by omega) hm
  have hg0 : V (wf_ g m) ≠ 0 := by
    rw [wf_V (by omega) (by omega) hm]
    have := Int.pow_pos (n := 2) (m := g - 1) (by omega)
    exact Int.ne_of_gt (Int.mul_pos (by omega) this)
  have e5 := fun t w => run_float_arith (P := Tryz.prog) w .mul t .f64 _ _ _ (one_mul_word hgf hg0)
  have k1 := and_f f h2
  have k2 := drop_f h2 hm
  have k3 := put_g g2 hm
  have x1 : E + ((f : Int) - 1023) = (g : Int) - 1023 := by omega
  have x2 : (g : Int) - 1023 + 1023 = (g : Int) := by omega
  have x3 : (-1000 : Int) ≤ E := by omega
  have x4 : E ≤ 1000 := by omega
  have k0 : ((wf_ f m : Nat) : Int) / 4503599627370496 = (f : Int) := by unfold wf_; omega
  clear hg hfin hgf hg0 hn hb hw hm
  generalize wf_ f m = wa at *
  generalize wf_ g m = wb at *
  go_enter Tryz.func41, Tryz.ntmps41
  go_wp2_with (first | (go_at_call 12; ((with_reducible refine (A _).mono ?_); rintro e w' ⟨rfl, rfl⟩)) | simp only [x34, x40] | go_in)
  go_ret
  exact ⟨rfl, rfl⟩
end Go.Proofs.YtocnpcjpkieogaaGreatDoor

namespace Go.Proofs.YtocnpcjpkieogaaGreatDoor
open Go.ChangeShapes Go.WideShapes Go.ChangeAt Go.RowKit Ieee.Own

theorem val_wf {f m : Nat} (h1 : 1 ≤ f) (hm : m < 4503599627370496) : val 52 (wf_ f m) = (4503599627370496 + m) * 2 ^ (f - 1) := by
  unfold val mg ex
  have e1 : ¬ wf_ f m < 2 ^ 52 := by unfold wf_; omega
  have e2 : wf_ f m / 2 ^ 52 = f := by unfold wf_; omega
  have e3 : wf_ f m % 2 ^ 52 = m := by unfold wf_; omega
  rw [if_neg e1, if_neg e1, e2, e3]
theorem val_wf' {f m k : Nat} (h1 : 1 ≤ f) (hm : m < 4503599627370496) (hk : f - 1 = k) : val 52 (wf_ f m) = (4503599627370496 + m) * 2 ^ k := by rw [val_wf h1 hm, hk]
/-- a whole number of just 53 digits (or 2^53) as a float, times a power of two -/
theorem float_int {n : Nat} (h1 : 4503599627370496 ≤ n) (h2 : n < 9007199254740992) : floatOfInt .f64 (n : Int) = wf_ 1075 (n - 4503599627370496) := by
  show Ieee.double.nearest (decide ((n : Int) < 0)) (n : Int).natAbs 0 = _
  rw [decide_eq_false (by omega), Int.natAbs_natCast]
  have hw : wf_ 1075 (n - 4503599627370496) < Ieee.double.infRung := by rw [inf64]; unfold wf_; omega
  have hv : n * 2 ^ 1074 = val 52 (wf_ 1075 (n - 4503599627370496)) * 2 ^ 0 := by
    rw [Nat.pow_zero, Nat.mul_one, val_wf' (f := 1075) (k := 1074) (by omega) (by omega) rfl, show 4503599627370496 + (n - 4503599627370496) = n by omega]
  have := nearest_exact Ieee.double false n 0 (wf_ 1075 (n - 4503599627370496)) 1074 0 hw hv (by rw [least64']; omega)
  rw [this]
  unfold Ieee.Format.word
  simp
theorem float_top : floatOfInt .f64 9007199254740992 = wf_ 1076 0 := by decide +kernel

set_option maxRecDepth 100000 in
theorem ldexp_int (n g : Nat) (E : Int) (h1 : 4503599627370496 ≤ n) (h2 : n ≤ 9007199254740992) (hg : E + 1075 = g) (g1 : 100 ≤ g) (g2 : g ≤ 1800) :
    ∃ r, FinW r ∧ r < 9223372036854775808 ∧ V r = (n : Int) * 2 ^ (g - 1) ∧ ∀ w, Calls Tryz.prog 41 #[.float .f64 (floatOfInt .f64 (n : Int)), .int .i64 E] w fun e w' => e = .returned (.float .f64 r) ∧ w = w' := by
  by_cases h : n < 9007199254740992
  · rw [float_int h1 h]
    refine ⟨wf_ g (n - 4503599627370496), wf_fin (by omega) (by omega), by unfold wf_; omega, ?_, fun w => ldexp_any 1075 (n - 4503599627370496) g E (by omega) (by omega) (by omega) (by omega) g1 (by omega) w⟩
    rw [wf_V (by omega) (by omega) (by omega), show 4503599627370496 + (n - 4503599627370496) = n by omega]
  · obtain rfl : n = 9007199254740992 := by omega
    have hf : floatOfInt .f64 ((9007199254740992 : Nat) : Int) = wf_ 1076 0 := float_top
    rw [hf]
    refine ⟨wf_ (g + 1) 0, wf_fin (by omega) (by omega), by unfold wf_; omega, ?_, fun w => ldexp_any 1076 0 (g + 1) E (by omega) (by omega) (by omega) (by omega) (by omega) (by omega) w⟩
    rw [wf_V (by omega) (by omega) (by omega)]
    obtain ⟨k, rfl⟩ : ∃ k, g = k + 1 := ⟨g - 1, by omega⟩
    rw [show k + 1 + 1 - 1 = k + 1 by omega, show k + 1 - 1 = k by omega, Int.pow_succ]
    generalize (2 : Int) ^ k = p
    omega


theorem n3_eq (a b c : Nat) : n3 a b c = a * 340282366920938463463374607431768211456 + b * 18446744073709551616 + c := by
  unfold n3
  rw [Nat.add_mul, Nat.mul_assoc]
theorem rquot_math {n p q r q1 r1 q2 r2 F L M : Nat} (a : 10 ^ p * q + r = n) (b : 10 ^ p * q1 + r1 = r * 18446744073709551616) (c : 10 ^ p * q2 + r2 = r1 * 18446744073709551616) (hr : r2 < 10 ^ p)
    (hF : F = n3 q q1 q2) (hL1 : 2 ^ L ≤ F) (hL2 : F < 2 ^ (L + 1)) (hL : 53 ≤ L)
    (hM : M = F / 2 ^ (L - 52) + (if F / 2 ^ (L - 53) % 2 = 1 ∧ ((F % 2 ^ (L - 53) ≠ 0 ∨ r2 ≠ 0) ∨ F / 2 ^ (L - 52) % 2 = 1) then 1 else 0)) :
    F = n * 340282366920938463463374607431768211456 / 10 ^ p ∧ M = rneD (n * 340282366920938463463374607431768211456) (10 ^ p * 2 ^ (L - 52)) ∧ 4503599627370496 ≤ M ∧ M ≤ 9007199254740992 := by
  have t0 := ten_pos p
  have hN := quo_words a b c
  rw [show q * 340282366920938463463374607431768211456 + q1 * 18446744073709551616 + q2 = F by rw [hF]; exact (n3_eq _ _ _).symm] at hN
  have e1 : F = n * 340282366920938463463374607431768211456 / 10 ^ p := by
    rw [hN, Nat.mul_comm F, Nat.mul_add_div t0, Nat.div_eq_of_lt hr, Nat.add_zero]
  have e2 : M = rneD (n * 340282366920938463463374607431768211456) (10 ^ p * 2 ^ (L - 52)) := by
    have up := bits_up (F := F) (m := F / 2 ^ (L - 52)) (k := L - 53) (by rw [show L - 53 + 1 = L - 52 by omega])
    have := quo_round (m := F / 2 ^ (L - 52)) (b := F / 2 ^ (L - 53) % 2) (low := F % 2 ^ (L - 53)) t0 hN hr (j := L - 52) (by omega)
      (by rw [show L - 52 - 1 = L - 53 by omega, ← up, Nat.mul_comm]; exact (Nat.div_add_mod _ _).symm) (by omega)
      (by rw [show L - 52 - 1 = L - 53 by omega]; exact Nat.mod_lt _ (Nat.two_pow_pos _))
    rw [this, hM]
  refine ⟨e1, e2, ?_⟩
  have pd : 0 < 10 ^ p * 2 ^ (L - 52) := Nat.mul_pos t0 (Nat.two_pow_pos _)
  rw [e2, show (9007199254740992 : Nat) = 2 * 4503599627370496 by decide]
  rw [e1, Nat.le_div_iff_mul_le t0, show 2 ^ L = 4503599627370496 * 2 ^ (L - 52) by rw [show (4503599627370496 : Nat) = 2 ^ 52 by decide, ← Nat.pow_add]; congr 1; omega] at hL1
  rw [e1, Nat.div_lt_iff_lt_mul t0, show 2 ^ (L + 1) = 2 * 4503599627370496 * 2 ^ (L - 52) by rw [show 2 * 4503599627370496 = 2 ^ 53 by decide, ← Nat.pow_add]; congr 1; omega] at hL2
  refine rneD_range pd ?_ ?_
  · rw [Nat.mul_comm (10 ^ p), ← Nat.mul_assoc]; exact hL1
  · rw [Nat.mul_comm (10 ^ p), ← Nat.mul_assoc]; exact hL2

set_option maxRecDepth 100000 in
theorem rquot_run (n p : Nat) (n0 : n ≠ 0) (hp : p ≤ 9) (hn : n ≤ 1073741824 * 10 ^ p) :
    ∃ x k, NearK n p k x ∧ x < 9223372036854775808 ∧ ∀ w, Calls Tryz.prog 24 #[.int .u64 (n : Int), .int .u64 ((10 ^ p : Nat) : Int)] w fun e w' => e = .returned (.float .f64 x) ∧ Below w.heap.size w w' := by
  have t0 := ten_pos p
  have t9 : 10 ^ p ≤ 10 ^ 9 := Nat.pow_le_pow_right (by decide) hp
  rw [show (10 : Nat) ^ 9 = 1000000000 by decide] at t9
  obtain ⟨d, hd⟩ : ∃ d, d = 10 ^ p := ⟨_, rfl⟩
  obtain ⟨q, hq⟩ : ∃ q, q = n / d := ⟨_, rfl⟩
  obtain ⟨r, hr⟩ : ∃ r, r = n % d := ⟨_, rfl⟩
  obtain ⟨q1, hq1⟩ : ∃ q1, q1 = r * 18446744073709551616 / d := ⟨_, rfl⟩
  obtain ⟨r1, hr1⟩ : ∃ r1, r1 = r * 18446744073709551616 % d := ⟨_, rfl⟩
  obtain ⟨q2, hq2⟩ : ∃ q2, q2 = r1 * 18446744073709551616 / d := ⟨_, rfl⟩
  obtain ⟨r2, hr2⟩ : ∃ r2, r2 = r1 * 18446744073709551616 % d := ⟨_, rfl⟩
  obtain ⟨F, hF⟩ : ∃ F, F = n3 q q1 q2 := ⟨_, rfl⟩
  have a : 10 ^ p * q + r = n := by rw [hq, hr, ← hd]; exact Nat.div_add_mod _ _
  have b : 10 ^ p * q1 + r1 = r * 18446744073709551616 := by rw [hq1, hr1, ← hd]; exact Nat.div_add_mod _ _
  have c : 10 ^ p * q2 + r2 = r1 * 18446744073709551616 := by rw [hq2, hr2, ← hd]; exact Nat.div_add_mod _ _
  have d0 : 0 < d := by rw [hd]; exact t0
  have r2d : r2 < 10 ^ p := by rw [hr2, ← hd]; exact Nat.mod_lt _ d0
  have hN := quo_words a b c
  have hF' : q * 340282366920938463463374607431768211456 + q1 * 18446744073709551616 + q2 = F := by rw [hF]; exact (n3_eq _ _ _).symm
  rw [hF'] at hN
  have e1 : F = n * 340282366920938463463374607431768211456 / 10 ^ p := by
    rw [hN, Nat.mul_comm F, Nat.mul_add_div t0, Nat.div_eq_of_lt r2d, Nat.add_zero]
  have big : 2 ^ 97 ≤ F := by
    rw [e1, Nat.le_div_iff_mul_le t0, show (2 : Nat) ^ 97 = 158456325028528675187087900672 by decide]; omega
  have less : F < 2 ^ 159 := by
    rw [e1, Nat.div_lt_iff_lt_mul t0, show (2 : Nat) ^ 159 = 730750818665451459101842416358141509827966271488 by decide]; omega
  have f0 : F ≠ 0 := by
    intro h; rw [h] at big; exact absurd big (by decide)
  obtain ⟨L, hL⟩ : ∃ L, L = F.log2 := ⟨_, rfl⟩
  have hL1 : 2 ^ L ≤ F := by rw [hL]; exact Nat.log2_self_le f0
  have hL2 : F < 2 ^ (L + 1) := by rw [hL]; exact Nat.lt_log2_self
  have l1 : 97 < L + 1 := (Nat.pow_lt_pow_iff_right (a := 2) (by decide)).1 (Nat.lt_of_le_of_lt big hL2)
  have l2 : L < 159 := (Nat.pow_lt_pow_iff_right (a := 2) (by decide)).1 (Nat.lt_of_le_of_lt hL1 less)
  obtain ⟨M, hM⟩ : ∃ M, M = F / 2 ^ (L - 52) + (if F / 2 ^ (L - 53) % 2 = 1 ∧ ((F % 2 ^ (L - 53) ≠ 0 ∨ r2 ≠ 0) ∨ F / 2 ^ (L - 52) % 2 = 1) then 1 else 0) := ⟨_, rfl⟩
  obtain ⟨_, e2, m1, m2⟩ := rquot_math a b c r2d hF hL1 hL2 (by omega) hM
  obtain ⟨x, x1, x2, x3, LD⟩ := ldexp_int M (L + 895) ((L : Int) - 64 - 52 - 64) m1 m2 (by omega) (by omega) (by omega)
  have hx : x % 9223372036854775808 = M + (1074 - (180 - L)) * 4503599627370496 := by
    rw [show 1074 - (180 - L) = L + 895 - 1 by omega]
    refine word_at x1 ?_ m1 m2
    rw [x3, show (2 : Int) = ((2 : Nat) : Int) from rfl, ← Int.natCast_pow, ← Int.natCast_mul, Int.natAbs_natCast]
  refine ⟨x, 180 - L, quo_near (by rw [← e1]; exact hL1) (by rw [← e1]; exact hL2) (by omega) (by omega) e2 hx, x2, fun w => ?_⟩
  rw [← hd]
  exact rquot_walk n d q r q1 r1 q2 r2 F L M x n0 (by omega) d0 (by omega) hq hr hq1 hr1 hq2 hr2 hF hL1 hL2 (by omega) (by omega) hM LD w
set_option maxRecDepth 100000 in
theorem rquot_zero (d : Nat) (w : World) : Calls Tryz.prog 24 #[.int .u64 0, .int .u64 (d : Int)] w fun e w' => e = .returned (.float .f64 0) ∧ Below w.heap.size w w' := by
  have t0 : ((0 : Int) == 0) = true := rfl
  go_enter Tryz.func24, Tryz.ntmps24
  go_wp2_with fail
  go_ret
  exact ⟨rfl, Below.refl _ _⟩
set_option maxRecDepth 100000 in
theorem rquot_all (n p : Nat) (hp : p ≤ 9) (hn : n ≤ 1073741824 * 10 ^ p) :
    ∃ x, x < 9223372036854775808 ∧ (n = 0 ∧ x = 0 ∨ n ≠ 0 ∧ ∃ k, NearK n p k x) ∧ ∀ w, Calls Tryz.prog 24 #[.int .u64 (n : Int), .int .u64 ((10 ^ p : Nat) : Int)] w fun e w' => e = .returned (.float .f64 x) ∧ Below w.heap.size w w' := by
  by_cases h : n = 0
  · subst h
    exact ⟨0, by decide, .inl ⟨rfl, rfl⟩, fun w => rquot_zero _ w⟩
  · obtain ⟨x, k, h1, h2, h3⟩ := rquot_run n p h hp hn
    exact ⟨x, h2, .inr ⟨h, k, h1⟩, h3⟩
end Go.Proofs.YtocnpcjpkieogaaGreatDoor
