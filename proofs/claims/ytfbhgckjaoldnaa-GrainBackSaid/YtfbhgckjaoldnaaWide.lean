/- Proved here: what Wide, Narrow of a widened number, and Rest of it answer, over the translated code; each under the conditions of its theorem. -/
import Derived.Test.YtfbhgckjaoldnaaExact
import Derived.Test.YtfbhgckjaoldnaaOrder
namespace Go.Proofs.Ytfbhgckjaoldnaa
open Go.ChangeShapes Go.WideShapes Go.ChangeAt Go.RowKit Ieee.Own

theorem word_mod (f : Ieee.Format) (s : Bool) (r : Nat) (h : r < f.signWeight) : f.word s r % f.signWeight = r := by
  unfold Ieee.Format.word
  cases s
  · simp [Nat.mod_eq_of_lt h]
  · simp [Nat.mod_eq_of_lt h]
theorem word_div (f : Ieee.Format) (s : Bool) (r : Nat) (h : r < f.signWeight) : (f.word s r / f.signWeight % 2 == 1) = s := by
  unfold Ieee.Format.word
  cases s
  · simp [Nat.div_eq_of_lt h]
  · simp [Nat.add_div_left r (show 0 < f.signWeight by omega), Nat.div_eq_of_lt h]

theorem least32 : Ieee.single.leastPlace = -149 := by decide +kernel
theorem least64 : Ieee.double.leastPlace = -1074 := by decide +kernel
theorem frac32 : Ieee.single.fractionBits = 23 := rfl
theorem frac64 : Ieee.double.fractionBits = 52 := rfl
theorem top32 : val 23 2139095040 = 2 ^ 277 := by decide +kernel
theorem top64 : val 52 9218868437227405312 = 2 ^ 2098 := by decide +kernel

theorem pow_chain (v a b c : Nat) (h : v < 2 ^ a) (hc : a + b ≤ c) : v * 2 ^ b < 2 ^ c := by
  have h2 : v * 2 ^ b < 2 ^ a * 2 ^ b := Nat.mul_lt_mul_of_pos_right h (Nat.two_pow_pos _)
  rw [← Nat.pow_add] at h2
  exact Nat.lt_of_lt_of_le h2 (Nat.pow_le_pow_right (by omega) hc)
theorem mul_lt_iff (x y z : Nat) (hz : 0 < z) : x * z < y * z ↔ x < y :=
  ⟨fun h => Nat.lt_of_mul_lt_mul_right h, fun h => Nat.mul_lt_mul_of_pos_right h hz⟩

theorem wide_num (f : Nat) (hf : f < 4294967296) (hn : f % 2147483648 < 2139095040) :
    ∃ W, W < 18446744073709551616 ∧ W % 9223372036854775808 < 9218868437227405312 ∧ floatToFloatBits .f32 f .f64 = some W ∧
      floatToFloatBits .f64 W .f32 = some f ∧ val 52 (W % 9223372036854775808) = val 23 (f % 2147483648) * 2 ^ 925 ∧ (W < 9223372036854775808 ↔ f < 2147483648) := by
  obtain ⟨s, hs⟩ : ∃ s, s = (f / Ieee.single.signWeight % 2 == 1) := ⟨_, rfl⟩
  have hfw : f = Ieee.single.word s (f % 2147483648) := by
    rw [hs]; unfold Ieee.Format.word; rw [sw32]
    by_cases h : f < 2147483648
    · have e1 : f / 2147483648 = 0 := by omega
      rw [e1]; simp; omega
    · have e1 : f / 2147483648 = 1 := by omega
      rw [e1]; simp; omega
  have hsf : s = false ↔ f < 2147483648 := by
    rw [hs, sw32]
    by_cases h : f < 2147483648
    · have e1 : f / 2147483648 = 0 := by omega
      rw [e1]; simp [h]
    · have e1 : f / 2147483648 = 1 := by omega
      rw [e1]; simp [h]
  have hread : Ieee.single.read f = .number s (mg 23 (f % 2147483648)) (-149 + (ex 23 (f % 2147483648) : Nat)) := by
    rw [read_num Ieee.single f (by rw [sw32, inf32]; exact hn), ← hs, least32, frac32, sw32]
  generalize f % 2147483648 = p at *
  have hmg := mg_lt 23 p
  obtain ⟨r, hr⟩ := rep 52 (val 23 p * 2 ^ 925) (mg 23 p) (ex 23 p + 925) (by unfold val; rw [Nat.pow_add, Nat.mul_assoc])
    (Nat.lt_of_lt_of_le hmg (Nat.pow_le_pow_right (by omega) (by omega)))
  have hri : r < 9218868437227405312 := by
    rw [← val_lt_iff 52, hr, top64]
    have : val 23 p < 2 ^ 277 := by rw [← top32]; exact val_lt hn
    exact pow_chain _ 277 925 2098 this (by omega)
  have hne : Ieee.double.nearest s (mg 23 p) (-149 + (ex 23 p : Nat)) = Ieee.double.word s r := by
    refine nearest_exact Ieee.double s _ _ r (ex 23 p + 925) 0 (by rw [inf64]; exact hri) ?_ (by rw [least64]; omega)
    rw [frac64, hr]; unfold val; rw [Nat.pow_add, ← Nat.mul_assoc, Nat.pow_zero, Nat.mul_one]
  have hrs : r < Ieee.double.signWeight := by rw [sw64]; omega
  have hWm : Ieee.double.word s r % Ieee.double.signWeight = r := word_mod _ _ _ hrs
  have hWd : (Ieee.double.word s r / Ieee.double.signWeight % 2 == 1) = s := word_div _ _ _ hrs
  have hrd : Ieee.double.read (Ieee.double.word s r) = .number s (mg 52 r) (-1074 + (ex 52 r : Nat)) := by
    rw [read_num Ieee.double _ (by rw [hWm, inf64]; exact hri), hWm, hWd, least64, frac64]
  have hps : p < Ieee.single.signWeight := by rw [sw32]; omega
  have hback : Ieee.single.nearest s (mg 52 r) (-1074 + (ex 52 r : Nat)) = Ieee.single.word s p := by
    refine nearest_exact Ieee.single s _ _ p (ex 52 r) 925 (by rw [inf32]; exact hn) ?_ (by rw [least32]; omega)
    rw [frac32]; exact hr
  have hrb : Ieee.single.read (Ieee.single.word s p) = .number s (mg 23 p) (-149 + (ex 23 p : Nat)) := by rw [← hfw]; exact hread
  refine ⟨Ieee.double.word s r, ?_, ?_, ?_, ?_, ?_, ?_⟩
  · unfold Ieee.Format.word; rw [sw64]; split <;> omega
  · rw [← sw64, hWm]; exact hri
  · unfold floatToFloatBits
    rw [if_neg (by decide)]
    simp only [FloatKind.decode, FloatKind.encode, FloatKind.format, hread, Ieee.Format.write, hne, hrd, Ieee.Datum.isInfinity]
    rfl
  · unfold floatToFloatBits
    rw [if_neg (by decide)]
    simp only [FloatKind.decode, FloatKind.encode, FloatKind.format, hrd, Ieee.Format.write, hback, hrb, Ieee.Datum.isInfinity]
    rw [← hfw]; rfl
  · rw [← sw64, hWm]; exact hr
  · rw [← hsf]; unfold Ieee.Format.word; rw [sw64]
    cases s <;> simp <;> omega

/-- the infinities -/
theorem wide_up : floatToFloatBits .f32 2139095040 .f64 = some 9218868437227405312 := by decide +kernel
theorem wide_down : floatToFloatBits .f32 4286578688 .f64 = some 18442240474082181120 := by decide +kernel
theorem back_up : floatToFloatBits .f64 9218868437227405312 .f32 = some 2139095040 := by decide +kernel
theorem back_down : floatToFloatBits .f64 18442240474082181120 .f32 = some 4286578688 := by decide +kernel

/-- the widened number's word; of a NaN the NaN -/
def wideW (f : Nat) : Nat := if 2139095040 < f % 2147483648 then 9221120237041090560 else (floatToFloatBits .f32 f .f64).getD 0

theorem wide_spec (f : Nat) (hf : f < 4294967296) (hn : ¬ 2139095040 < f % 2147483648) :
    wideW f < 18446744073709551616 ∧ wideW f % 9223372036854775808 ≤ 9218868437227405312 ∧ floatToFloatBits .f32 f .f64 = some (wideW f) ∧ floatToFloatBits .f64 (wideW f) .f32 = some f ∧
    (wideW f % 9223372036854775808 = 9218868437227405312 ↔ f % 2147483648 = 2139095040) ∧ (wideW f < 9223372036854775808 ↔ f < 2147483648) ∧
    (f % 2147483648 < 2139095040 → val 52 (wideW f % 9223372036854775808) = val 23 (f % 2147483648) * 2 ^ 925) := by
  by_cases h : f % 2147483648 < 2139095040
  · obtain ⟨W, h1, h2, h3, h4, h5, h6⟩ := wide_num f hf h
    have e : wideW f = W := by unfold wideW; rw [if_neg hn, h3]; rfl
    rw [e]
    exact ⟨h1, by omega, h3, h4, by omega, h6, fun _ => h5⟩
  · have h2 : f = 2139095040 ∨ f = 4286578688 := by omega
    rcases h2 with rfl | rfl
    · have e : wideW 2139095040 = 9218868437227405312 := by unfold wideW; rw [if_neg hn, wide_up]; rfl
      rw [e]
      exact ⟨by omega, by omega, wide_up, back_up, by omega, by omega, fun h' => absurd h' h⟩
    · have e : wideW 4286578688 = 18442240474082181120 := by unfold wideW; rw [if_neg hn, wide_down]; rfl
      rw [e]
      exact ⟨by omega, by omega, wide_down, back_down, by omega, by omega, fun h' => absurd h' h⟩

/-- the order stays -/
theorem wide_order (f g : Nat) (hf : f < 4294967296) (hg : g < 4294967296) (nf : ¬ 2139095040 < f % 2147483648) (ng : ¬ 2139095040 < g % 2147483648) :
    key64 (wideW f) < key64 (wideW g) ↔ key32 f < key32 g := by
  obtain ⟨a1, a2, _, _, a3, a4, a5⟩ := wide_spec f hf nf
  obtain ⟨b1, b2, _, _, b3, b4, b5⟩ := wide_spec g hg ng
  have hp : (wideW f % 9223372036854775808 < wideW g % 9223372036854775808 ↔ f % 2147483648 < g % 2147483648) ∧ (wideW g % 9223372036854775808 < wideW f % 9223372036854775808 ↔ g % 2147483648 < f % 2147483648) := by
    by_cases h1 : f % 2147483648 < 2139095040 <;> by_cases h2 : g % 2147483648 < 2139095040
    · have q1 := val_lt_iff 52 (wideW f % 9223372036854775808) (wideW g % 9223372036854775808)
      have q2 := val_lt_iff 52 (wideW g % 9223372036854775808) (wideW f % 9223372036854775808)
      rw [a5 h1, b5 h2, mul_lt_iff _ _ _ (Nat.two_pow_pos 925), val_lt_iff] at q1 q2
      exact ⟨q1.symm, q2.symm⟩
    · omega
    · omega
    · omega
  have z1 : wideW f % 9223372036854775808 = 0 ↔ f % 2147483648 = 0 := by
    by_cases h1 : f % 2147483648 < 2139095040
    · rw [← val_zero_iff 52, a5 h1, ← val_zero_iff 23 (f % _)]
      have hz := Nat.two_pow_pos 925
      generalize 2 ^ 925 = z at *
      constructor
      · intro h; rcases Nat.mul_eq_zero.1 h with h | h <;> omega
      · intro h; simp [h]
    · omega
  have z2 : wideW g % 9223372036854775808 = 0 ↔ g % 2147483648 = 0 := by
    by_cases h1 : g % 2147483648 < 2139095040
    · rw [← val_zero_iff 52, b5 h1, ← val_zero_iff 23 (g % _)]
      have hz := Nat.two_pow_pos 925
      generalize 2 ^ 925 = z at *
      constructor
      · intro h; rcases Nat.mul_eq_zero.1 h with h | h <;> omega
      · intro h; simp [h]
    · omega
  clear a5 b5 a3 b3
  unfold key64 key32
  generalize wideW f = A at *
  generalize wideW g = B at *
  repeat' split
  all_goals omega

/-! ### the calls -/
theorem wide_any (f : Nat) (hf : f < 4294967296) (hn : ¬ 2139095040 < f % 2147483648) (w : World) :
    Calls Try.prog 31 #[.float .f32 f] w fun e w' => e = .returned (.float .f64 (wideW f)) ∧ w = w' := by
  obtain ⟨a1, a2, a3, -, -, -, -⟩ := wide_spec f hf hn
  have hc : ∀ w, (convert 26 24 (.float .f32 f)).run Try.prog w = .ok (.float .f64 (wideW f)) w := fun w => run_convert_float_float w 26 24 .f32 .f64 f _ (by rw [Try.underlying26]; rfl) Try.underlying24 a3
  have C := fun w => canon_num (wideW f) a1 (decide_eq_false (by omega)) w
  clear a1 a2 a3 hn hf
  generalize wideW f = W at *
  go_enter Try.func31, Try.ntmps31
  go_wp2_with (go_at_call 20; ((with_reducible refine (C _).mono ?_); rintro e w' ⟨rfl, rfl⟩))
  go_ret
  exact ⟨rfl, rfl⟩

theorem conv_nan (f : Nat) (h : 2139095040 < f % 2147483648) (w : World) :
    ∃ X, X < 18446744073709551616 ∧ nanB X = true ∧ (convert 26 24 (.float .f32 f)).run Try.prog w = .ok (.float .f64 X) w.drew := by
  have hr := read_nan Ieee.single (by decide) f (by rw [sw32, inf32]; exact h)
  have key : ∀ t : Nat, (t % 2) * 2 ^ 63 + 0x7ff0000000000000 + 1 + (t / 2) % (2 ^ 52 - 1) < 18446744073709551616 ∧ nanB ((t % 2) * 2 ^ 63 + 0x7ff0000000000000 + 1 + (t / 2) % (2 ^ 52 - 1)) = true := by
    intro t
    constructor
    · omega
    · unfold nanB; rw [decide_eq_true_eq]
      have hv : (t / 2) % (2 ^ 52 - 1) < 2 ^ 52 - 1 := Nat.mod_lt _ (by omega)
      generalize (t / 2) % (2 ^ 52 - 1) = v at *
      have hu : t % 2 = 0 ∨ t % 2 = 1 := by omega
      rcases hu with hu | hu <;> rw [hu] <;> omega
  refine ⟨_, (key (w.tape w.drawn (.nanConv .f64 f))).1, (key (w.tape w.drawn (.nanConv .f64 f))).2, ?_⟩
  simp [convert, run_underlying Try.underlying26, run_underlying Try.underlying24, Conv.floatToFloat, FloatKind.decode, FloatKind.format, hr, Question.forced, Question.cut]

theorem wide_nan (f : Nat) (h : 2139095040 < f % 2147483648) (w : World) :
    Calls Try.prog 31 #[.float .f32 f] w fun e w' => e = .returned (.float .f64 9221120237041090560) ∧ w.drew = w' := by
  obtain ⟨X, h1, h2, h3⟩ := conv_nan f h w
  have C := fun w => canon_nan X h1 h2 w
  clear h1 h2 h
  go_enter Try.func31, Try.ntmps31
  go_wp2_with (go_at_call 20; ((with_reducible refine (C _).mono ?_); rintro e w' ⟨rfl, rfl⟩))
  go_ret
  exact ⟨rfl, rfl⟩

theorem narrow_nan (b : Nat) (hb : b < 18446744073709551616) (hn : nanB b = true) (w : World) :
    Calls Try.prog 29 #[.float .f64 b] w fun e w' => e = .returned (.float .f32 2143289344) ∧ w = w' := by
  have C1 := fun w => isnan_t b hb hn w
  clear hn hb
  go_enter Try.func29, Try.ntmps29
  go_wp2_with (first | (go_at_call 41; refine (C1 _).mono ?_; rintro e w' ⟨rfl, rfl⟩) | simp only [x11])
  go_ret
  exact ⟨rfl, rfl⟩

def signed' (s : Bool) (m k : Nat) : Int := Ieee.signed s m k + Ieee.signed (!s) m k
theorem sub_self (W : Nat) (h : W % 9223372036854775808 < 9218868437227405312) : Ieee.double.sub W W = some 0 := by
  unfold Ieee.Format.sub
  rw [read_num Ieee.double W (by rw [sw64, inf64]; exact h)]
  generalize (W / Ieee.double.signWeight % 2 == 1) = s
  have ht : ∀ m k, signed' s m k = 0 := by
    intro m k; unfold signed'; simp only [signed_eq]; cases s <;> simp <;> omega
  unfold signed' at ht
  simp only [Ieee.Datum.opposite, Ieee.Datum.sum, ht]
  cases s <;> simp [Ieee.Format.write, Ieee.Format.nearest, Ieee.Format.word]

theorem rest_wide (f : Nat) (hf : f < 4294967296) (hn : ¬ 2139095040 < f % 2147483648) (w : World) :
    Calls Try.prog 33 #[.float .f64 (wideW f)] w fun e w' => e = .returned (.float .f64 0) ∧ w = w' := by
  obtain ⟨a1, a2, -, a4, -, -, -⟩ := wide_spec f hf hn
  have C1 := fun w => narrow_num (wideW f) f a1 a4 (decide_eq_false (by omega)) w
  have C2 := fun w => wide_any f hf hn w
  have C3 := fun w => isnan_f (wideW f) a1 (decide_eq_false (by omega)) w
  have C4 := fun w => isinf_any (wideW f) a1 w
  by_cases hi : wideW f % 9223372036854775808 = 9218868437227405312
  · rw [decide_eq_true hi] at C4
    clear a1 a2 a4 hi hn hf
    generalize wideW f = W at *
    go_enter Try.func33, Try.ntmps33
    go_wp2_with (first | (go_at_call 29; ((with_reducible refine (C1 _).mono ?_); rintro e w' ⟨rfl, rfl⟩)) | (go_at_call 31; ((with_reducible refine (C2 _).mono ?_); rintro e w' ⟨rfl, rfl⟩)) | (go_at_call 41; ((with_reducible refine (C3 _).mono ?_); rintro e w' ⟨rfl, rfl⟩)) | (go_at_call 35; ((with_reducible refine (C4 _).mono ?_); rintro e w' ⟨rfl, rfl⟩)))
    go_ret
    exact ⟨rfl, rfl⟩
  · rw [decide_eq_false hi] at C4
    have S := run_sub _ _ 0 (sub_self (wideW f) (by omega))
    clear a1 a2 a4 hi hn hf
    generalize wideW f = W at *
    go_enter Try.func33, Try.ntmps33
    go_wp2_with (first | (go_at_call 29; ((with_reducible refine (C1 _).mono ?_); rintro e w' ⟨rfl, rfl⟩)) | (go_at_call 31; ((with_reducible refine (C2 _).mono ?_); rintro e w' ⟨rfl, rfl⟩)) | (go_at_call 41; ((with_reducible refine (C3 _).mono ?_); rintro e w' ⟨rfl, rfl⟩)) | (go_at_call 35; ((with_reducible refine (C4 _).mono ?_); rintro e w' ⟨rfl, rfl⟩)))
    go_ret
    exact ⟨rfl, rfl⟩

/-! ### comparisons of binary32 -/
theorem o32_neq (a : Nat) (ha : a < 4294967296) : (FloatKind.f32.format.order a a != some Ordering.eq) = decide (2139095040 < a % 2147483648) := by
  show (Ieee.single.order a a != some Ordering.eq) = _
  by_cases h : 2139095040 < a % 2147483648
  · rw [order32_nan a a (Or.inl h)]; simp [h]
  · rw [order32 a a ha ha (by omega) (by omega)]
    simp [h, bne]
theorem o32_lss (a b : Nat) (ha : a < 4294967296) (hb : b < 4294967296) (na : ¬ 2139095040 < a % 2147483648) (nb : ¬ 2139095040 < b % 2147483648) :
    (FloatKind.f32.format.order a b == some Ordering.lt) = decide (key32 a < key32 b) := by
  show (Ieee.single.order a b == some Ordering.lt) = _
  rw [order32 a b ha hb (by omega) (by omega), cmp_lt]
end Go.Proofs.Ytfbhgckjaoldnaa
