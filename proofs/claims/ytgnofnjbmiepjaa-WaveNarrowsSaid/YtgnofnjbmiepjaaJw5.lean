/- Proved here: what the texts Wvg prove, one behind the other. -/
import Derived.Test.YtgnofnjbmiepjaaJw2
import Derived.Test.YtgnofnjbmiepjaaJb1

namespace Go.Proofs.Ytgnofnjbmiepjaa
open Go.ChangeShapes Go.WideShapes Go.ChangeAt Go.RowKit Ieee.Own

theorem word_mod (f : Ieee.Format) (s : Bool) (r : Nat) (h : r < f.signWeight) : f.word s r % f.signWeight = r := by
  unfold Ieee.Format.word
  cases s
  · simp [Nat.mod_eq_of_lt h]
  · simp [Nat.mod_eq_of_lt h]
theorem word_div (f : Ieee.Format) (s : Bool) (r : Nat) (h : r < f.signWeight) : (f.word s r / f.signWeight % 2 == 1) = s := by
  unfold Ieee.Format.word
  cases s
  · simp [Nat.div_eq_of_lt h]
  · simp [Nat.add_div_left r (show 0 < f.signWeight by omega), Nat.div_eq_of_lt h]
theorem least32 : Ieee.single.leastPlace = -149 := by decide +kernel
theorem least64 : Ieee.double.leastPlace = -1074 := by decide +kernel
theorem frac32 : Ieee.single.fractionBits = 23 := rfl
theorem frac64 : Ieee.double.fractionBits = 52 := rfl
theorem top32 : val 23 2139095040 = 2 ^ 277 := by decide +kernel
theorem top64 : val 52 9218868437227405312 = 2 ^ 2098 := by decide +kernel
theorem pow_chain (v a b c : Nat) (h : v < 2 ^ a) (hc : a + b ≤ c) : v * 2 ^ b < 2 ^ c := by
  have h2 : v * 2 ^ b < 2 ^ a * 2 ^ b := Nat.mul_lt_mul_of_pos_right h (Nat.two_pow_pos _)
  rw [← Nat.pow_add] at h2
  exact Nat.lt_of_lt_of_le h2 (Nat.pow_le_pow_right (by omega) hc)
theorem wide_num (f : Nat) (hf : f < 4294967296) (hn : f % 2147483648 < 2139095040) :
    ∃ W, W < 18446744073709551616 ∧ W % 9223372036854775808 < 9218868437227405312 ∧ floatToFloatBits .f32 f .f64 = some W ∧
      floatToFloatBits .f64 W .f32 = some f ∧ val 52 (W % 9223372036854775808) = val 23 (f % 2147483648) * 2 ^ 925 ∧ (W < 9223372036854775808 ↔ f < 2147483648) := by
  obtain ⟨s, hs⟩ : ∃ s, s = (f / Ieee.single.signWeight % 2 == 1) := ⟨_, rfl⟩
  have hfw : f = Ieee.single.word s (f % 2147483648) := by
    rw [hs]; unfold Ieee.Format.word; rw [sw32]
    by_cases h : f < 2147483648
    · have e1 : f / 2147483648 = 0 := by omega
      rw [e1]; simp; omega
    · have e1 : f / 2147483648 = 1 := by omega
      rw [e1]; simp; omega
  have hsf : s = false ↔ f < 2147483648 := by
    rw [hs, sw32]
    by_cases h : f < 2147483648
    · have e1 : f / 2147483648 = 0 := by omega
      rw [e1]; simp [h]
    · have e1 : f / 2147483648 = 1 := by omega
      rw [e1]; simp [h]
  have hread : Ieee.single.read f = .number s (mg 23 (f % 2147483648)) (-149 + (ex 23 (f % 2147483648) : Nat)) := by
    rw [read_num Ieee.single f (by rw [sw32, inf32]; exact hn), ← hs, least32, frac32, sw32]
  generalize f % 2147483648 = p at *
  have hmg := mg_lt 23 p
  obtain ⟨r, hr⟩ := rep 52 (val 23 p * 2 ^ 925) (mg 23 p) (ex 23 p + 925) (by unfold val; rw [Nat.pow_add, Nat.mul_assoc])
    (Nat.lt_of_lt_of_le hmg (Nat.pow_le_pow_right (by omega) (by omega)))
  have hri : r < 9218868437227405312 := by
    rw [← val_lt_iff 52, hr, top64]
    have : val 23 p < 2 ^ 277 := by rw [← top32]; exact val_lt hn
    exact pow_chain _ 277 925 2098 this (by omega)
  have hne : Ieee.double.nearest s (mg 23 p) (-149 + (ex 23 p : Nat)) = Ieee.double.word s r := by
    refine nearest_exact Ieee.double s _ _ r (ex 23 p + 925) 0 (by rw [inf64]; exact hri) ?_ (by rw [least64]; omega)
    rw [frac64, hr]; unfold val; rw [Nat.pow_add, ← Nat.mul_assoc, Nat.pow_zero, Nat.mul_one]
  have hrs : r < Ieee.double.signWeight := by rw [sw64]; omega
  have hWm : Ieee.double.word s r % Ieee.double.signWeight = r := word_mod _ _ _ hrs
  have hWd : (Ieee.double.word s r / Ieee.double.signWeight % 2 == 1) = s := word_div _ _ _ hrs
  have hrd : Ieee.double.read (Ieee.double.word s r) = .number s (mg 52 r) (-1074 + (ex 52 r : Nat)) := by
    rw [read_num Ieee.double _ (by rw [hWm, inf64]; exact hri), hWm, hWd, least64, frac64]
  have hps : p < Ieee.single.signWeight := by rw [sw32]; omega
  have hback : Ieee.single.nearest s (mg 52 r) (-1074 + (ex 52 r : Nat)) = Ieee.single.word s p := by
    refine nearest_exact Ieee.single s _ _ p (ex 52 r) 925 (by rw [inf32]; exact hn) ?_ (by rw [least32]; omega)
    rw [frac32]; exact hr
  have hrb : Ieee.single.read (Ieee.single.word s p) = .number s (mg 23 p) (-149 + (ex 23 p : Nat)) := by rw [← hfw]; exact hread
  refine ⟨Ieee.double.word s r, ?_, ?_, ?_, ?_, ?_, ?_⟩
  · unfold Ieee.Format.word; rw [sw64]; split <;> omega
  · rw [← sw64, hWm]; exact hri
  · unfold floatToFloatBits
    rw [if_neg (by decide)]
    simp only [FloatKind.decode, FloatKind.encode, FloatKind.format, hread, Ieee.Format.write, hne, hrd, Ieee.Datum.isInfinity]
    rfl
  · unfold floatToFloatBits
    rw [if_neg (by decide)]
    simp only [FloatKind.decode, FloatKind.encode, FloatKind.format, hrd, Ieee.Format.write, hback, hrb, Ieee.Datum.isInfinity]
    rw [← hfw]; rfl
  · rw [← sw64, hWm]; exact hr
  · rw [← hsf]; unfold Ieee.Format.word; rw [sw64]
    cases s <;> simp <;> omega
/-- the infinities -/
theorem wide_up : floatToFloatBits .f32 2139095040 .f64 = some 9218868437227405312 := by decide +kernel
theorem wide_down : floatToFloatBits .f32 4286578688 .f64 = some 18442240474082181120 := by decide +kernel
theorem back_up : floatToFloatBits .f64 9218868437227405312 .f32 = some 2139095040 := by decide +kernel
theorem back_down : floatToFloatBits .f64 18442240474082181120 .f32 = some 4286578688 := by decide +kernel
/-- the widened number's word; of a NaN the NaN -/
def wideW (f : Nat) : Nat := if 2139095040 < f % 2147483648 then 9221120237041090560 else (floatToFloatBits .f32 f .f64).getD 0
theorem wide_spec (f : Nat) (hf : f < 4294967296) (hn : ¬ 2139095040 < f % 2147483648) :
    wideW f < 18446744073709551616 ∧ wideW f % 9223372036854775808 ≤ 9218868437227405312 ∧ floatToFloatBits .f32 f .f64 = some (wideW f) ∧ floatToFloatBits .f64 (wideW f) .f32 = some f ∧
    (wideW f % 9223372036854775808 = 9218868437227405312 ↔ f % 2147483648 = 2139095040) ∧ (wideW f < 9223372036854775808 ↔ f < 2147483648) ∧
    (f % 2147483648 < 2139095040 → val 52 (wideW f % 9223372036854775808) = val 23 (f % 2147483648) * 2 ^ 925) := by
  by_cases h : f % 2147483648 < 2139095040
  · obtain ⟨W, h1, h2, h3, h4, h5, h6⟩ := wide_num f hf h
    have e : wideW f = W := by unfold wideW; rw [if_neg hn, h3]; rfl
    rw [e]
    exact ⟨h1, by omega, h3, h4, by omega, h6, fun _ => h5⟩
  · have h2 : f = 2139095040 ∨ f = 4286578688 := by omega
    rcases h2 with rfl | rfl
    · have e : wideW 2139095040 = 9218868437227405312 := by unfold wideW; rw [if_neg hn, wide_up]; rfl
      rw [e]
      exact ⟨by omega, by omega, wide_up, back_up, by omega, by omega, fun h' => absurd h' h⟩
    · have e : wideW 4286578688 = 18442240474082181120 := by unfold wideW; rw [if_neg hn, wide_down]; rfl
      rw [e]
      exact ⟨by omega, by omega, wide_down, back_down, by omega, by omega, fun h' => absurd h' h⟩
set_option maxRecDepth 100000 in
theorem wide_any (f : Nat) (hf : f < 4294967296) (hn : ¬ 2139095040 < f % 2147483648) (w : World) :
    Calls Try.prog 45 #[.float .f32 f] w fun e w' => e = .returned (.float .f64 (wideW f)) ∧ w = w' := by
  obtain ⟨a1, a2, a3, -, -, -, -⟩ := wide_spec f hf hn
  have hc : ∀ w, (convert 74 23 (.float .f32 f)).run Try.prog w = .ok (.float .f64 (wideW f)) w := fun w => run_convert_float_float w 74 23 .f32 .f64 f _ (by rw [Try.underlying74]; rfl) Try.underlying23 a3
  have C := fun w => canon_num (wideW f) a1 (decide_eq_false (by omega)) w
  clear a1 a2 a3 hn hf
  generalize wideW f = W at *
  go_enter Try.func45, Try.ntmps45
  go_wp2_with (go_at_call 65; ((with_reducible refine (C _).mono ?_); rintro e w' ⟨rfl, rfl⟩))
  go_ret
  exact ⟨rfl, rfl⟩
set_option maxRecDepth 100000 in
theorem narrow_num (b r : Nat) (hb : b < 18446744073709551616) (h : floatToFloatBits .f64 b .f32 = some r) (hn : nanB b = false) (w : World) :
    Calls Try.prog 46 #[.float .f64 b] w fun e w' => e = .returned (.float .f32 r) ∧ w = w' := by
  have hc : ∀ w, (convert 23 74 (.float .f64 b)).run Try.prog w = .ok (.float .f32 r) w := fun w => run_convert_float_float w 23 74 .f64 .f32 b r (by rw [Try.underlying23]; rfl) Try.underlying74 h
  have C1 := fun w => isnan_f b hb hn w
  clear h hn hb
  go_enter Try.func46, Try.ntmps46
  go_wp2_with (go_at_call 60; refine (C1 _).mono ?_; rintro e w' ⟨rfl, rfl⟩)
  go_ret
  exact ⟨rfl, rfl⟩
/-! ### rounded to 24 digits -/
theorem rung_val32 (d k : Nat) (h : k ≤ 2 ^ 24) (h' : 0 < d → 2 ^ 23 ≤ k) : val 23 (d * 2 ^ 23 + k) = k * 2 ^ d := by
  by_cases h1 : k < 2 ^ 23
  · have : d = 0 := by omega
    subst this
    unfold val mg ex
    simp [h1]
  · unfold val mg ex
    have hge : ¬ d * 2 ^ 23 + k < 2 ^ 23 := by omega
    simp only [hge, if_false]
    by_cases h2 : k = 2 ^ 24
    · have e1 : (d * 2 ^ 23 + k) / 2 ^ 23 = d + 2 := by omega
      have e2 : (d * 2 ^ 23 + k) % 2 ^ 23 = 0 := by omega
      rw [e1, e2, h2, show d + 2 - 1 = d + 1 by omega, Nat.pow_succ 2 d]
      generalize 2 ^ d = g
      omega
    · have e1 : (d * 2 ^ 23 + k) / 2 ^ 23 = d + 1 := by omega
      have e2 : (d * 2 ^ 23 + k) % 2 ^ 23 = k - 2 ^ 23 := by omega
      rw [e1, e2, show d + 1 - 1 = d by omega, show 2 ^ 23 + (k - 2 ^ 23) = k by omega]
/-- where a number of 2^-1074 units is rounded -/
def d32 (n : Nat) : Nat := max (n.log2 - 23) 925
def r32 (n : Nat) : Nat := rne n (d32 n) * 2 ^ (d32 n - 925)
theorem d32_lt (n : Nat) : n < 2 ^ (24 + d32 n) := by
  by_cases h : n = 0
  · subst h; exact Nat.two_pow_pos _
  · have := ((Nat.log2_eq_iff h).1 rfl).2
    exact Nat.lt_of_lt_of_le this (Nat.pow_le_pow_right (by omega) (by unfold d32; omega))
theorem r32_range (n : Nat) : rne n (d32 n) ≤ 2 ^ 24 ∧ (0 < d32 n - 925 → 2 ^ 23 ≤ rne n (d32 n)) := by
  have b := rne_bounds n (d32 n)
  constructor
  · have := Ieee.Own.div_cap (k := 24) (d32_lt n)
    omega
  · intro h
    have e : d32 n = n.log2 - 23 := by unfold d32 at h ⊢; omega
    have h0 : n ≠ 0 := by intro z; subst z; revert h; decide
    have : 2 ^ 23 ≤ n / 2 ^ d32 n := by
      rw [Nat.le_div_iff_mul_le (Nat.two_pow_pos _), ← Nat.pow_add]
      refine Nat.le_trans (Nat.pow_le_pow_right (by omega) ?_) ((Nat.log2_eq_iff h0).1 rfl).1
      unfold d32 at h e ⊢; omega
    omega
theorem r32_units (n : Nat) : r32 n * 2 ^ 925 = rne n (d32 n) * 2 ^ d32 n := by
  unfold r32
  exact Ieee.Own.shift_pow (x := rne n (d32 n)) (d := d32 n) (k := 925) (by unfold d32; omega)
theorem r32_twice (n : Nat) : r32 n * 2 ^ 925 ≤ 2 * n := by
  rw [r32_units]
  have u := rne_up n (d32 n)
  generalize rne n (d32 n) = k at *
  generalize 2 ^ d32 n = g at *
  by_cases h : k = 0
  · subst h; rw [Nat.zero_mul]; exact Nat.zero_le _
  · have := Nat.mul_le_mul_right g (show 1 ≤ k by omega)
    rw [Nat.one_mul] at this
    omega
theorem r32_cap {n : Nat} (h : n ≤ 2 ^ 1114) : r32 n ≤ 2 ^ 189 := by
  have d1 : d32 n ≤ 1114 := by
    by_cases h0 : n = 0
    · subst h0; decide
    · have : n.log2 < 1115 := (Nat.log2_lt h0).2 (Nat.lt_of_le_of_lt h (two_lt (a := 1114) (b := 1115) (by omega)))
      unfold d32; omega
  have d0 : 925 ≤ d32 n := by unfold d32; omega
  unfold r32
  generalize d32 n = d at *
  have c := rne_cap (n := n) (d := d) (k := 1114 - d) (by rw [show 1114 - d + d = 1114 by omega]; exact h)
  have := Nat.mul_le_mul_right (2 ^ (d - 925)) c
  rwa [← Nat.pow_add, show 1114 - d + (d - 925) = 189 by omega] at this
theorem r32_all {n B a b : Nat} (hB : B = a + b) (h : r32 n ≤ 2 ^ a) : r32 n * 2 ^ b ≤ 2 ^ B := by
  subst hB
  rw [Nat.pow_add]
  exact Nat.mul_le_mul_right _ h
theorem nearest_32 (s : Bool) (m : Nat) (place : Int) (n a : Nat) (hm : m * 2 ^ a = n) (hp : place = -1074 + a) (hn : r32 n < 2 ^ 277) :
    ∃ r, r < 2139095040 ∧ Ieee.single.nearest s m place = Ieee.single.word s r ∧ val 23 r = r32 n := by
  by_cases h0 : m = 0
  · subst h0
    obtain rfl : n = 0 := by omega
    refine ⟨0, by omega, by unfold Ieee.Format.nearest; rw [if_pos rfl], ?_⟩
    rw [val_zero]
    have : rne 0 (d32 0) = 0 := by simpa using rne_exact 0 (d32 0)
    unfold r32
    rw [this, Nat.zero_mul]
  have hlog : m.log2 + a = n.log2 := by rw [← log2_shift m a h0, hm]
  have hlast : max (place + m.log2 - Ieee.single.fractionBits) Ieee.single.leastPlace = -1074 + d32 n := by
    rw [frac32, least32]; unfold d32; omega
  have hk : Ieee.Toward.even.cut s (m <<< (place - (-1074 + d32 n)).toNat) (-1074 + d32 n - place).toNat = rne n (d32 n) := by
    rw [Nat.shiftLeft_eq, cut_rne]
    generalize d32 n = d at *
    by_cases hac : d ≤ a
    · have e1 : (place - (-1074 + (d : Int))).toNat = a - d := by omega
      have e2 : (-1074 + (d : Int) - place).toNat = 0 := by omega
      rw [e1, e2]
      have hq : n = (m * 2 ^ (a - d)) * 2 ^ d := by
        rw [Nat.mul_assoc, ← Nat.pow_add, show a - d + d = a by omega]; exact hm.symm
      have g1 : rne n d = m * 2 ^ (a - d) := by rw [hq]; exact rne_exact _ d
      rw [g1]
      have := rne_exact (m * 2 ^ (a - d)) 0
      simpa using this
    · have e1 : (place - (-1074 + (d : Int))).toNat = 0 := by omega
      have e2 : (-1074 + (d : Int) - place).toNat = d - a := by omega
      rw [e1, e2, Nat.pow_zero, Nat.mul_one, ← hm, ← rne_scale m (d - a) a]
      congr 1; omega
  have hv : val 23 ((d32 n - 925) * 2 ^ 23 + rne n (d32 n)) = r32 n := rung_val32 _ _ (r32_range n).1 (r32_range n).2
  have hr : (d32 n - 925) * 2 ^ 23 + rne n (d32 n) < 2139095040 := by
    rw [← val_lt_iff 23, hv, top32]; exact hn
  refine ⟨(d32 n - 925) * 2 ^ 23 + rne n (d32 n), hr, ?_, hv⟩
  have hd : 925 ≤ d32 n := by unfold d32; omega
  unfold Ieee.Format.nearest
  rw [if_neg h0]
  dsimp only
  rw [hlast, hk, least32, show (-1074 + (d32 n : Int) - -149).toNat = d32 n - 925 by omega, inf32]
  rw [show Ieee.single.binade = 2 ^ 23 from rfl, Nat.min_eq_left (Nat.le_of_lt hr)]
def narW (b : Nat) : Nat := (floatToFloatBits .f64 b .f32).getD 0
structure NarOk (b : Nat) : Prop where
  run : floatToFloatBits .f64 b .f32 = some (narW b)
  lt : narW b < 4294967296
  num : narW b % 2147483648 < 2139095040
  fin : FinW (wideW (narW b))
  abs : (V (wideW (narW b))).natAbs ≤ 2 ^ 1114
  twice : (V (wideW (narW b))).natAbs ≤ 2 * (V b).natAbs
  dvd : 2 ^ 925 ∣ (V (wideW (narW b))).natAbs
theorem nar_ok {b : Nat} (hb : FinW b) (h : (V b).natAbs ≤ 2 ^ 1114) : NarOk b := by
  obtain ⟨s, hs⟩ : ∃ s, s = (b / Ieee.double.signWeight % 2 == 1) := ⟨_, rfl⟩
  have hread : Ieee.double.read b = .number s (mg 52 (b % 9223372036854775808)) (-1074 + (ex 52 (b % 9223372036854775808) : Nat)) := by
    rw [read_num Ieee.double b (by rw [sw64, inf64]; exact hb.2), ← hs, least64, frac64, sw64]
  have hv := V_abs' b hb
  have hn : val 52 (b % 9223372036854775808) ≤ 2 ^ 1114 := by rw [← hv]; exact h
  obtain ⟨r, h1, h2, h3⟩ := nearest_32 s (mg 52 (b % 9223372036854775808)) (-1074 + (ex 52 (b % 9223372036854775808) : Nat)) (val 52 (b % 9223372036854775808)) (ex 52 (b % 9223372036854775808)) rfl rfl
    (Nat.lt_of_le_of_lt (r32_cap hn) (two_lt (a := 189) (b := 277) (by omega)))
  have hrs : r < Ieee.single.signWeight := by rw [sw32]; omega
  have hm : Ieee.single.word s r % Ieee.single.signWeight = r := word_mod _ _ _ hrs
  have hrd : Ieee.single.read (Ieee.single.word s r) = .number s (mg 23 r) (-149 + (ex 23 r : Nat)) := by
    rw [read_num Ieee.single _ (by rw [hm, inf32]; exact h1), hm, word_div _ _ _ hrs, least32, frac32]
  have run : floatToFloatBits .f64 b .f32 = some (Ieee.single.word s r) := by
    unfold floatToFloatBits
    rw [if_neg (by decide)]
    simp only [FloatKind.decode, FloatKind.encode, FloatKind.format, hread, Ieee.Format.write, h2, hrd, Ieee.Datum.isInfinity]
    rfl
  have e : narW b = Ieee.single.word s r := by unfold narW; rw [run]; rfl
  have lt : narW b < 4294967296 := by rw [e]; unfold Ieee.Format.word; rw [sw32]; cases s <;> simp <;> omega
  have mod : narW b % 2147483648 = r := by rw [e, ← sw32]; exact hm
  obtain ⟨a1, a2, -, -, a3, -, a5⟩ := wide_spec (narW b) lt (by omega)
  have a6 := a5 (by omega)
  rw [mod, h3] at a6
  have fin : FinW (wideW (narW b)) := ⟨a1, by omega⟩
  have wv := V_abs' _ fin
  rw [a6] at wv
  refine ⟨by rw [e]; exact run, lt, by omega, fin, ?_, ?_, ?_⟩
  · rw [wv]
    exact r32_all (a := 189) (b := 925) (B := 1114) (by omega) (r32_cap hn)
  · rw [wv, hv]; exact r32_twice _
  · rw [wv]; exact Nat.dvd_mul_left _ _
def nrA (b : Nat) : Nat := aX (wideW (narW b)) 0
def nrw (f : Wv) : Wv := ⟨f.ax, f.pw, nrA f.am, aX f.ph 0, aX f.rt 0⟩
theorem wit_of {c x k : Nat} (fx : FinW x) (hf : fitB x = true) (hc : val 52 c = 2 ^ k) (h : (V x).natAbs ≤ 2 ^ k) : witB c x = true := by
  unfold witB
  rw [decide_eq_true_eq]
  refine ⟨hf, ?_⟩
  rw [V_abs' x fx, ← hc] at h
  by_cases q : x % 9223372036854775808 ≤ c
  · exact q
  · exact absurd h (Nat.not_le.2 (val_lt (by omega)))
theorem fitV_eq' {x y : Nat} (hx : FinW x) (hy : FinW y) (h : V x = V y) : fitB x = fitB y := by
  rw [Bool.eq_iff_iff, fit_iff hx, fit_iff hy, h]
structure NrwOk (f : Wv) : Prop where
  n : NarOk f.am
  p1 : Ieee.double.add (wideW (narW f.am)) 0 = some (nrA f.am)
  p2 : Ieee.double.add f.ph 0 = some (aX f.ph 0)
  p3 : Ieee.double.add f.rt 0 = some (aX f.rt 0)
  v1 : V (nrA f.am) = V (wideW (narW f.am))
  v2 : V (aX f.ph 0) = V f.ph
  v3 : V (aX f.rt 0) = V f.rt
  ok : WvOk (nrw f)
theorem nrw_ok {f : Wv} (O : WvOk f) : NrwOk f := by
  have A := O.amw
  have W1 := wit_spec O.w.ph v10 O.ph
  have W2 := wit_spec O.w.rt v10 O.rt
  have n := nar_ok A.fin A.abs
  obtain ⟨q1, f1, v1⟩ := plus0 n.fin
  obtain ⟨q2, f2, v2⟩ := plus0 W1.1
  obtain ⟨q3, f3, v3⟩ := plus0 W2.1
  have fit : fitB (nrA f.am) = true := by
    have lv : leastV = 2 ^ 874 := by decide +kernel
    have mv : mostV = 2 ^ 1274 := by decide +kernel
    show fitB (aX (wideW (narW f.am)) 0) = true
    rw [fit_iff f1, v1]
    by_cases z : V (wideW (narW f.am)) = 0
    · exact .inl z
    · right
      have h1 : 2 ^ 925 ≤ (V (wideW (narW f.am))).natAbs := Nat.le_of_dvd (by omega) n.dvd
      have h2 := n.abs
      have c1 := two_le (a := 874) (b := 925) (by omega)
      have c2 := two_le (a := 1114) (b := 1274) (by omega)
      rw [lv, mv, two_cast, two_cast]
      exact ⟨Int.ofNat_le.2 (Nat.le_trans c1 h1), Int.ofNat_le.2 (Nat.le_trans h2 c2)⟩
  refine ⟨n, q1, q2, q3, v1, v2, v3, ⟨⟨f1.1, f2.1, f3.1⟩, O.ax0, O.ax1, O.pw0, O.pw1, ?_, ?_, ?_⟩⟩
  · exact wit_of f1 fit v40 (by show (V (nrA f.am)).natAbs ≤ _; rw [show V (nrA f.am) = _ from v1]; exact n.abs)
  · exact wit_of f2 (by show fitB (aX f.ph 0) = true; rw [fitV_eq' f2 W1.1 v2]; exact W1.2.1) v10 (by show (V (aX f.ph 0)).natAbs ≤ _; rw [v2]; exact W1.2.2)
  · exact wit_of f3 (by show fitB (aX f.rt 0) = true; rw [fitV_eq' f3 W2.1 v3]; exact W2.2.1) v10 (by show (V (aX f.rt 0)).natAbs ≤ _; rw [v3]; exact W2.2.2)
set_option maxHeartbeats 4000000 in
set_option maxRecDepth 100000 in
theorem wnarrowed_shape {ax pw : Int} {am ph rt n m0 m p r : Nat} (CN : ∀ w, Calls Try.prog 46 #[.float .f64 am] w fun e w' => e = .returned (.float .f32 n) ∧ w = w') (CW : ∀ w, Calls Try.prog 45 #[.float .f32 n] w fun e w' => e = .returned (.float .f64 m0) ∧ w = w')
    (r1 : ∀ ty w, (binOp .add ty (.float .f64 m0) (.float .f64 0)).run Try.prog w = .ok (.float .f64 m) w) (r2 : ∀ ty w, (binOp .add ty (.float .f64 ph) (.float .f64 0)).run Try.prog w = .ok (.float .f64 p) w) (r3 : ∀ ty w, (binOp .add ty (.float .f64 rt) (.float .f64 0)).run Try.prog w = .ok (.float .f64 r) w) (w : World) :
    Calls Try.prog 29 #[.agg #[.int .i64 ax, .int .i64 pw, .float .f64 am, .float .f64 ph, .float .f64 rt]] w fun e w' => e = .returned (.agg #[.int .i64 ax, .int .i64 pw, .float .f64 m, .float .f64 p, .float .f64 r]) ∧ Below w.heap.size w w' := by
  have hst := @fstore
  go_enter Try.func29, Try.ntmps29
  go_wp2_with (first | (go_at_call 46; ((with_reducible refine (CN _).mono ?_); rintro e w' ⟨rfl, rfl⟩)) | (go_at_call 45; ((with_reducible refine (CW _).mono ?_); rintro e w' ⟨rfl, rfl⟩)))
  (try simp only [Exit.inBlock, Exit.then])
  refine bodyPost_ret (v := .agg #[.int .i64 ax, .int .i64 pw, .float .f64 m, .float .f64 p, .float .f64 r]) ?_ rfl ⟨rfl, ((Below.refl _ w).alloc (Nat.le_refl _) _).alloc (by simp) _⟩
  rw [results_cell1 rfl]; go_simp
set_option maxRecDepth 100000 in
theorem wnarrowed_run {f : Wv} (O : WvOk f) (w : World) : Calls Try.prog 29 #[wvV f] w fun e w' => e = .returned (wvV (nrw f)) ∧ Below w.heap.size w w' := by
  have H := nrw_ok O
  have A := O.amw
  exact wnarrowed_shape (fun w => narrow_num _ _ A.fin.1 H.n.run (decide_eq_false (by have := A.fin.2; omega)) w) (fun w => wide_any _ H.n.lt (by have := H.n.num; omega) w) (run_add _ _ _ H.p1) (run_add _ _ _ H.p2) (run_add _ _ _ H.p3) w
end Go.Proofs.Ytgnofnjbmiepjaa
