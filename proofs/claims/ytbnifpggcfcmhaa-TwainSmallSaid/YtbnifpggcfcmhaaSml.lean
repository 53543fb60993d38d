/- Proved here: what rounding leaves is at most half a step of what was rounded, as the reference tells steps; over the translated code. -/
import Derived.Test.YtbnifpggcfcmhaaPair
namespace Go.Proofs.Ytbnifpggcfcmhaa
open Go.ChangeShapes Go.WideShapes Go.ChangeAt Go.RowKit Ieee.Own

theorem val_succ (r : Nat) : val 52 (r + 1) = val 52 r + 2 ^ ex 52 r := by
  unfold val mg ex
  by_cases h : r + 1 < 2 ^ 52
  · rw [if_pos h, if_pos h, if_pos (by omega), if_pos (by omega)]; omega
  · by_cases h1 : r < 2 ^ 52
    · obtain rfl : r = 2 ^ 52 - 1 := by omega
      decide
    · rw [if_neg h, if_neg h, if_neg h1, if_neg h1]
      obtain ⟨q, hq⟩ : ∃ q, r / 2 ^ 52 = q + 1 := ⟨r / 2 ^ 52 - 1, by omega⟩
      by_cases h2 : r % 2 ^ 52 + 1 < 2 ^ 52
      · have e1 : (r + 1) / 2 ^ 52 = q + 1 := by omega
        have e2 : (r + 1) % 2 ^ 52 = r % 2 ^ 52 + 1 := by omega
        rw [e1, e2, hq, ← Nat.add_assoc, Nat.add_mul _ 1, Nat.one_mul]
      · have e1 : (r + 1) / 2 ^ 52 = q + 2 := by omega
        have e2 : (r + 1) % 2 ^ 52 = 0 := by omega
        have e3 : r % 2 ^ 52 = 2 ^ 52 - 1 := by omega
        rw [e1, e2, e3, hq, show q + 2 - 1 = q + 1 by omega, show q + 1 - 1 = q by omega, Nat.pow_succ 2 q]
        generalize 2 ^ q = g
        omega

theorem RN_zero_iff {z : Int} (h : RN z = 0) : z = 0 := by
  have h1 := RN_abs z
  rw [h] at h1
  by_cases h0 : z = 0
  · exact h0
  · have := rn_mono (show 1 ≤ z.natAbs by omega)
    rw [rn_small 1 (by omega)] at this
    simp at h1
    omega

theorem ulp_fin (b : Nat) (hb : FinW b) (hm : b % 9223372036854775808 < 9218868437227405311) :
    ∃ u, Ieee.double.sub (b % 9223372036854775808 + 1) (b % 9223372036854775808) = some u ∧ FinW u ∧ V u = ((2 ^ ex 52 (b % 9223372036854775808) : Nat) : Int) ∧
      ∀ w, Calls Try.prog 27 #[.float .f64 b] w fun e w' => e = .returned (.float .f64 u) ∧ w = w' := by
  have H := andn63 b hb.1
  have hc : ∀ w, ∃ c : Int, c < 4 ∧ Calls Try.prog 42 #[.float .f64 b] w fun e w' => e = .returned (.int .i64 c) ∧ w = w' := by
    intro w
    have hm' := hm
    have hb' := hb.1
    generalize hM : b % 9223372036854775808 = m at *
    by_cases h1 : m = 0
    · subst h1
      refine ⟨1, by omega, ?_⟩
      clear hm hm' hb hb' hM
      go_enter Try.func42, Try.ntmps42
      go_wp2_with (simp only [x34])
      go_ret
      exact ⟨rfl, rfl⟩
    have t1 : ((m : Int) == 0) = false := ieq_f (by omega)
    by_cases h2 : m < 4503599627370496
    · have t2 : decide ((m : Int) < 4503599627370496) = true := decide_eq_true (by omega)
      refine ⟨2, by omega, ?_⟩
      clear h1 h2 hm hm' hb hb' hM
      go_enter Try.func42, Try.ntmps42
      go_wp2_with (simp only [x34])
      go_ret
      exact ⟨rfl, rfl⟩
    · have t2 : decide ((m : Int) < 4503599627370496) = false := decide_eq_false (by omega)
      have t3 : decide ((m : Int) < 9218868437227405312) = true := decide_eq_true (by omega)
      refine ⟨3, by omega, ?_⟩
      clear h1 h2 hm hm' hb hb' hM
      go_enter Try.func42, Try.ntmps42
      go_wp2_with (simp only [x34])
      go_ret
      exact ⟨rfl, rfl⟩
  have f1 : FinW (b % 9223372036854775808 + 1) := ⟨by omega, by omega⟩
  have f0 : FinW (b % 9223372036854775808) := ⟨by omega, by omega⟩
  generalize b % 9223372036854775808 = m at *
  have v1 : V (m + 1) = (val 52 (m + 1) : Int) := if_pos (by have := f1.2; omega)
  have v0 : V m = (val 52 m : Int) := if_pos (by omega)
  have hd : V (m + 1) - V m = ((2 ^ ex 52 m : Nat) : Int) := by rw [v1, v0, val_succ]; omega
  have hr : RN (V (m + 1) - V m) = ((2 ^ ex 52 m : Nat) : Int) := by rw [hd]; exact RN_exact (Rep_pow _)
  have hx : ex 52 m < 2098 := by unfold ex; split <;> omega
  obtain ⟨u, u1, u2, u3⟩ := sub_spec f1 f0 (by rw [hr, Int.natAbs_natCast]; exact two_lt (a := ex 52 m) (b := 2098) hx)
  refine ⟨u, u1, u2, by rw [u3, hr], fun w => ?_⟩
  obtain ⟨c, hc1, hc2⟩ := hc w
  have t : decide (c ≥ 4) = false := decide_eq_false (by omega)
  have t2 : ((m : Int) == 9218868437227405311) = false := ieq_f (by omega)
  have q : IntKind.u64.wrap ((m : Int) + 1) = ((m + 1 : Nat) : Int) := by rw [show ((m + 1 : Nat) : Int) = (m : Int) + 1 by omega]; apply IntWalk.u64_in <;> omega
  have S := run_sub _ _ _ u1
  clear hc hm hb f1 f0 v1 v0 hd hr hx u1 u2 u3 hc1
  generalize m + 1 = m1 at *
  go_enter Try.func27, Try.ntmps27
  go_wp2_with (first | (go_at_call 42; ((with_reducible refine hc2.mono ?_); rintro e w' ⟨rfl, rfl⟩)) | simp only [x34] | simp only [x40])
  go_ret
  exact ⟨rfl, rfl⟩

/-- a power of two, halved -/
theorem half_pow (u x : Nat) (hu : FinW u) (hv : V u = ((2 ^ x : Nat) : Int)) (h1 : 60 ≤ x) (h2 : x ≤ 2000) :
    ∃ h, Ieee.double.div u 4611686018427387904 = some h ∧ FinW h ∧ V h = ((2 ^ (x - 1) : Nat) : Int) := by
  have hm : 4503599627370496 ≤ u % 9223372036854775808 := by
    refine Nat.le_of_not_lt fun hlt => ?_
    have a := val_lt (F := 52) hlt
    have c : val 52 4503599627370496 = 2 ^ 52 := by decide
    have d := V_abs' u hu
    rw [hv, Int.natAbs_natCast] at d
    rw [← d, c] at a
    have := two_le (a := 52) (b := x) (by omega)
    omega
  have n0 := norm_of hu hm
  generalize decide (9223372036854775808 ≤ u) = s at *
  generalize 4503599627370496 + u % 4503599627370496 = m at *
  generalize u % 9223372036854775808 / 4503599627370496 - 1 = p at *
  have ha := sv_abs s m p
  rw [← n0.val, hv, Int.natAbs_natCast] at ha
  have lm : m.log2 = 52 := (Nat.log2_eq_iff (by have := n0.lo; omega)).2 ⟨n0.lo, n0.hi⟩
  have hp : 52 + p = x := by
    have a := log2_shift m p (by have := n0.lo; omega)
    rw [← ha, Nat.log2_two_pow, lm] at a
    omega
  have hm2 : m = 2 ^ 52 := by
    rw [← hp, Nat.pow_add] at ha
    exact (Nat.eq_of_mul_eq_mul_right (Nat.two_pow_pos p) ha).symm
  have hs : s = false := by
    have hv2 := n0.val
    rw [hv] at hv2
    have hpos := Nat.two_pow_pos x
    cases s
    · rfl
    · unfold sv at hv2; rw [if_pos rfl] at hv2
      have : 0 < m * 2 ^ p := Nat.mul_pos (by have := n0.lo; omega) (Nat.two_pow_pos p)
      generalize m * 2 ^ p = y at *
      generalize (2 ^ x : Nat) = z at *
      omega
  have n2 := norm_of (b := 4611686018427387904) ⟨by omega, by omega⟩ (by omega)
  rw [show decide (9223372036854775808 ≤ 4611686018427387904) = false by decide, show 4503599627370496 + 4611686018427387904 % 4503599627370496 = 2 ^ 52 by decide, show 4611686018427387904 % 9223372036854775808 / 4503599627370496 - 1 = 1023 by decide] at n2
  subst hs hm2
  obtain ⟨r, Q, t, d1, d2, d3, t1, t2, Q1, Q2, i1, i2⟩ := div_spec n0 n2 (by omega) (by omega)
  have hQ : Q = 2 ^ t := by
    have : t = 52 ∨ t = 53 := by omega
    rcases this with rfl | rfl <;> omega
  refine ⟨r, d1, d2, ?_⟩
  rw [d3, hQ]
  unfold sv
  simp only [Bool.xor_self, Bool.false_eq_true, if_false]
  rw [← Nat.pow_add]
  congr 2
  omega

theorem small_core {s e K : Nat} {N : Int} (fs : FinW s) (fe : FinW e) (hs : V s = RN N) (he : V e = N - V s) (ds : (2 : Int) ^ 500 ∣ V s) (bs : (V s).natAbs ≤ 2 ^ K) (hK : K ≤ 1490) :
    ∃ u h, (∀ w, Calls Try.prog 27 #[.float .f64 s] w fun e w' => e = .returned (.float .f64 u) ∧ w = w') ∧ Ieee.double.div u 4611686018427387904 = some h ∧
      (FloatKind.f64.format.order (e % 9223372036854775808) h == some Ordering.lt || FloatKind.f64.format.order (e % 9223372036854775808) h == some Ordering.eq) = true := by
  have fa : e % 9223372036854775808 < 9218868437227405312 := fe.2
  have ve := V_abs' e fe
  by_cases h0 : V s = 0
  · have hN : N = 0 := RN_zero_iff (by rw [← hs]; exact h0)
    have hs0 : s % 9223372036854775808 = 0 := by
      have a := V_abs' s fs
      rw [h0] at a
      exact (val_zero_iff 52 _).1 a.symm
    have he0 : e % 9223372036854775808 = 0 := by
      rw [he, hN, h0] at ve
      exact (val_zero_iff 52 _).1 ve.symm
    obtain ⟨u, u1, u2, u3, C⟩ := ulp_fin s fs (by omega)
    rw [hs0] at u1
    have hu : u = 1 := Option.some.inj (u1.symm.trans (by decide +kernel))
    subst hu
    refine ⟨1, 0, C, by decide +kernel, ?_⟩
    rw [he0]; decide +kernel
  · have hx := (good fs ds bs hK).2.1
    have hsr := V_abs' s fs
    have hmz : mg 52 (s % 9223372036854775808) ≠ 0 := by
      intro h
      have : s % 9223372036854775808 = 0 := (mg_zero _).1 h
      rw [this, val_zero] at hsr
      omega
    have hx2 := hx.resolve_left hmz
    -- the place is high, since 2^500 divides
    have hge : 448 ≤ ex 52 (s % 9223372036854775808) := by
      have a := pow_abs_dvd ds h0
      rw [hsr] at a
      unfold val at a
      refine Nat.le_of_not_lt fun hlt => ?_
      have b := Nat.mul_lt_mul_of_pos_right (mg_lt 52 (s % 9223372036854775808)) (Nat.two_pow_pos (ex 52 (s % 9223372036854775808)))
      rw [← Nat.pow_add] at b
      have c := two_le (a := 52 + 1 + ex 52 (s % 9223372036854775808)) (b := 500) (by omega)
      exact absurd a (Nat.not_le.2 (Nat.lt_of_lt_of_le b c))
    have hmax : s % 9223372036854775808 < 9218868437227405311 := by
      have := hx2.2
      unfold ex at this
      split at this <;> omega
    obtain ⟨u, u1, u2, u3, C⟩ := ulp_fin s fs hmax
    obtain ⟨h, g1, g2, g3⟩ := half_pow u _ u2 u3 (by omega) (by omega)
    refine ⟨u, h, C, g1, ?_⟩
    -- the rest's size
    have hN : N.natAbs < 2 ^ (53 + ex 52 (s % 9223372036854775808)) := by
      refine Nat.lt_of_not_le fun hle => ?_
      have e1 := rn_mono hle
      have e2 : rn (2 ^ (53 + ex 52 (s % 9223372036854775808))) = 2 ^ (53 + ex 52 (s % 9223372036854775808)) := by
        have := rn_exact 1 (53 + ex 52 (s % 9223372036854775808)) (by omega)
        simpa using this
      rw [e2, ← RN_abs, ← hs, hsr] at e1
      unfold val at e1
      have b := Nat.mul_lt_mul_of_pos_right (mg_lt 52 (s % 9223372036854775808)) (Nat.two_pow_pos (ex 52 (s % 9223372036854775808)))
      rw [← Nat.pow_add] at b
      exact absurd e1 (Nat.not_le.2 b)
    have herr := RN_err hN
    rw [← hs, show V s - N = -V e by omega, Int.natAbs_neg] at herr
    generalize ex 52 (s % 9223372036854775808) = x at *
    obtain ⟨y, rfl⟩ : ∃ y, x = y + 1 := ⟨x - 1, by omega⟩
    rw [two_succ, ve] at herr
    rw [show y + 1 - 1 = y by omega] at g3
    have hh : h < 9223372036854775808 := by
      refine Nat.lt_of_not_le fun hle => ?_
      have := Nat.two_pow_pos y
      unfold V at g3
      rw [if_neg (by omega)] at g3
      generalize val 52 (h - 9223372036854775808) = z at *
      generalize (2 ^ y : Nat) = z2 at *
      omega
    have hvh : val 52 h = 2 ^ y := by
      unfold V at g3; rw [if_pos hh] at g3
      generalize (2 ^ y : Nat) = z2 at *
      omega
    have hle : ¬ h < e % 9223372036854775808 := by
      intro hlt
      have := val_lt (F := 52) hlt
      rw [hvh] at this
      generalize (2 ^ y : Nat) = z2 at *
      omega
    rw [o_leq _ _ (by omega) g2.1]
    have g2' := g2.2
    exact decide_eq_true ⟨by unfold nn; omega, by unfold nn; omega, by rw [key_low (by omega), key_low hh]; omega⟩
end Go.Proofs.Ytbnifpggcfcmhaa
