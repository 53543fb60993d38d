/- Proved here: what the words of a long sum tell of the number, negated words, the highest digit, a number of 53 digits as a float; what 'Round' adds up to. -/
import Derived.Test.YthgpdgajmpocfaaAccR
import Derived.Test.YthgpdgajmpocfaaAccRn
import Derived.Test.YthgpdgajmpocfaaLdx
import Derived.Test.YthgpdgajmpocfaaLz
import Derived.Deep.MidRow
import Derived.Deep.WholeRow
namespace Ieee.Own

theorem two_succ' {a b : Nat} (h : a = b + 1) : 2 ^ a = 2 * 2 ^ b := by subst h; exact two_succ b
/-- the number that the words tell, where it is small enough -/
theorem told {ws : Nat → Nat} (hw : ∀ i, ws i < 18446744073709551616) {z : Int} (hz : z.natAbs < 2 ^ 1535) (h : ((2 ^ (64 * 24) : Nat) : Int) ∣ (sumW ws 24 : Int) - z) :
    (0 ≤ z → (sumW ws 24 : Int) = z) ∧ (z < 0 → (sumW ws 24 : Int) = z + ((2 ^ 1536 : Nat) : Int)) := by
  have hl := sumW_lt ws hw 24
  have e : (2 ^ 1536 : Nat) = 2 * 2 ^ 1535 := two_succ' (a := 1536) (b := 1535) rfl
  rw [show 64 * 24 = 1536 from rfl] at h hl
  obtain ⟨c, hc⟩ := h
  rw [e] at hc hl ⊢
  generalize (2 ^ 1535 : Nat) = K at *
  generalize sumW ws 24 = S at *
  have hK : ((2 * K : Nat) : Int) * c = 2 * ((K : Int) * c) := by rw [Int.natCast_mul, Int.mul_assoc]; rfl
  rw [hK] at hc
  have hKp : 0 < K := by omega
  have hc3 : c = 0 ∨ c = 1 ∨ c ≤ -1 ∨ 2 ≤ c := by omega
  rcases hc3 with rfl | rfl | h | h
  · simp at hc; constructor <;> intro h <;> omega
  · simp at hc; constructor <;> intro h <;> omega
  · have := Int.mul_le_mul_of_nonneg_left h (show (0 : Int) ≤ K by omega)
    rw [Int.mul_neg, Int.mul_one] at this
    constructor <;> intro h <;> omega
  · have := Int.mul_le_mul_of_nonneg_left h (show (0 : Int) ≤ K by omega)
    constructor <;> intro h <;> omega

/-- negated words -/
def cyN (ws : Nat → Nat) : Nat → Nat
  | 0 => 0
  | i + 1 => stepC true 0 (ws i) (cyN ws i)
def nwN (ws : Nat → Nat) (i : Nat) : Nat := stepS true 0 (ws i) (cyN ws i)
theorem cyN_le (ws : Nat → Nat) (h : ∀ i, ws i < 18446744073709551616) : ∀ i, cyN ws i ≤ 1 := by
  intro i
  induction i with
  | zero => unfold cyN; omega
  | succ i ih => unfold cyN; exact stepC_le _ _ _ _ (by omega) (h i) ih
theorem nwN_lt (ws : Nat → Nat) (i : Nat) : nwN ws i < 18446744073709551616 := by
  unfold nwN stepS; split <;> exact Nat.mod_lt _ (by omega)
theorem neg_words (ws : Nat → Nat) (hw : ∀ i, ws i < 18446744073709551616) (n : Nat) : sumW (nwN ws) n + sumW ws n = cyN ws n * 2 ^ (64 * n) := by
  induction n with
  | zero => simp [sumW, cyN]
  | succ n ih =>
    simp only [sumW, cyN]
    have h := step_sub 0 (ws n) (cyN ws n) (by omega) (hw n) (cyN_le ws hw n)
    rw [pow64]
    unfold nwN
    generalize stepS true 0 (ws n) (cyN ws n) = s at *
    generalize stepC true 0 (ws n) (cyN ws n) = t at *
    have h2 : (s + ws n + cyN ws n) * 2 ^ (64 * n) = (0 + t * 18446744073709551616) * 2 ^ (64 * n) := by rw [h]
    rw [Nat.add_mul, Nat.add_mul, Nat.zero_add, Nat.mul_assoc] at h2
    unfold nwN at ih
    omega
theorem neg_told {ws : Nat → Nat} (hw : ∀ i, ws i < 18446744073709551616) {z : Int} (hz : z.natAbs < 2 ^ 1535) (h0 : z < 0) (h : ((2 ^ (64 * 24) : Nat) : Int) ∣ (sumW ws 24 : Int) - z) : sumW (nwN ws) 24 = z.natAbs := by
  have h1 := (told hw hz h).2 h0
  have h2 := neg_words ws hw 24
  have h3 := cyN_le ws hw 24
  have e : (2 ^ 1536 : Nat) = 2 * 2 ^ 1535 := two_succ' (a := 1536) (b := 1535) rfl
  rw [show 64 * 24 = 1536 from rfl] at h2
  rw [e] at h1 h2
  generalize (2 ^ 1535 : Nat) = K at *
  have h4 : cyN ws 24 = 0 ∨ cyN ws 24 = 1 := by omega
  rcases h4 with h4 | h4
  · rw [h4] at h2; omega
  · rw [h4] at h2; omega

theorem sumW_above (ws : Nat → Nat) (t n : Nat) (ht : t < n) (h : ∀ j, t < j → j < n → ws j = 0) : sumW ws n = sumW ws t + ws t * 2 ^ (64 * t) := by
  induction n with
  | zero => omega
  | succ n ih =>
    simp only [sumW]
    by_cases e : t = n
    · subst e; rfl
    · rw [ih (by omega) (fun j h1 h2 => h j h1 (by omega)), h n (by omega) (by omega)]; simp
theorem top_log {ws : Nat → Nat} (hw : ∀ i, ws i < 18446744073709551616) (t : Nat) (ht : t < 24) (h0 : ws t ≠ 0) (h : ∀ j, t < j → j < 24 → ws j = 0) : (sumW ws 24).log2 = 64 * t + (ws t).log2 := by
  have hl := sumW_lt ws hw t
  have hlog := (Nat.log2_eq_iff h0).1 rfl
  have hne : sumW ws 24 ≠ 0 := fun hz => h0 (sumW_zero ws 24 hz t ht)
  rw [Nat.log2_eq_iff hne, sumW_above ws t 24 ht h]
  generalize (ws t).log2 = l at *
  have a := Nat.mul_le_mul_right (2 ^ (64 * t)) hlog.1
  have b := Nat.mul_le_mul_right (2 ^ (64 * t)) (show ws t + 1 ≤ 2 ^ (l + 1) from hlog.2)
  rw [Nat.add_mul, Nat.one_mul] at b
  rw [show 64 * t + l + 1 = (l + 1) + 64 * t by omega, Nat.add_comm (64 * t) l, Nat.pow_add, Nat.pow_add]
  omega
end Ieee.Own

namespace Go.Proofs.Ythgpdgajmpocfaa
open Go.ChangeShapes Go.WideShapes Go.ChangeAt Go.RowKit Ieee.Own

theorem Holds.sign {b : Nat} {w : World} {z : Int} {ws : Nat → Nat} (H : Holds b w z ws) (hz : z.natAbs < 2 ^ 1535) : (z < 0 ↔ ws 23 / 9223372036854775808 = 1) ∧ (z = 0 ↔ ∀ i, i < 24 → ws i = 0) := by
  obtain ⟨h1, h2⟩ := told H.lt hz H.val
  have ht := top_word ws H.lt 23
  have e : (2 ^ 1536 : Nat) = 2 * 2 ^ 1535 := two_succ' (a := 1536) (b := 1535) rfl
  rw [show 64 * 23 + 63 = 1535 from rfl] at ht
  rw [show (9223372036854775808 : Nat) = 2 ^ 63 from rfl, ht]
  rw [e] at h2
  have hp := Nat.two_pow_pos 1535
  have hpos := sumW_pos ws 24
  generalize (2 ^ 1535 : Nat) = K at *
  constructor
  · constructor
    · intro h; have := h2 h; show K ≤ sumW ws 24; omega
    · intro h
      refine Classical.byContradiction fun hn => ?_
      have := h1 (by omega)
      have h' : K ≤ sumW ws 24 := h
      omega
  · constructor
    · intro h
      have := h1 (by omega)
      exact sumW_zero ws 24 (by omega)
    · intro h
      have h3 : sumW ws 24 = 0 := sumW_of_zero ws 24 h
      by_cases hn : z < 0
      · have := h2 hn; omega
      · have := h1 (by omega); omega

theorem val_wf {f m : Nat} (h1 : 1 ≤ f) (hm : m < 4503599627370496) : val 52 (wf_ f m) = (4503599627370496 + m) * 2 ^ (f - 1) := by
  unfold val mg ex
  have e1 : ¬ wf_ f m < 2 ^ 52 := by unfold wf_; omega
  have e2 : wf_ f m / 2 ^ 52 = f := by unfold wf_; omega
  have e3 : wf_ f m % 2 ^ 52 = m := by unfold wf_; omega
  rw [if_neg e1, if_neg e1, e2, e3]
theorem val_wf' {f m k : Nat} (h1 : 1 ≤ f) (hm : m < 4503599627370496) (hk : f - 1 = k) : val 52 (wf_ f m) = (4503599627370496 + m) * 2 ^ k := by rw [val_wf h1 hm, hk]
/-- a whole number of just 53 digits (or 2^53) as a float, times a power of two -/
theorem float_int {n : Nat} (h1 : 4503599627370496 ≤ n) (h2 : n < 9007199254740992) : floatOfInt .f64 (n : Int) = wf_ 1075 (n - 4503599627370496) := by
  show Ieee.double.nearest (decide ((n : Int) < 0)) (n : Int).natAbs 0 = _
  rw [decide_eq_false (by omega), Int.natAbs_natCast]
  have hw : wf_ 1075 (n - 4503599627370496) < Ieee.double.infRung := by rw [inf64]; unfold wf_; omega
  have hv : n * 2 ^ 1074 = val 52 (wf_ 1075 (n - 4503599627370496)) * 2 ^ 0 := by
    rw [Nat.pow_zero, Nat.mul_one, val_wf' (f := 1075) (k := 1074) (by omega) (by omega) rfl, show 4503599627370496 + (n - 4503599627370496) = n by omega]
  have := nearest_exact Ieee.double false n 0 (wf_ 1075 (n - 4503599627370496)) 1074 0 hw hv (by rw [least64']; omega)
  rw [this]
  unfold Ieee.Format.word
  simp
theorem float_top : floatOfInt .f64 9007199254740992 = wf_ 1076 0 := by decide +kernel

theorem ldexp_int (n g : Nat) (E : Int) (h1 : 4503599627370496 ≤ n) (h2 : n ≤ 9007199254740992) (hg : E + 1075 = g) (g1 : 100 ≤ g) (g2 : g ≤ 1800) :
    ∃ r, FinW r ∧ r < 9223372036854775808 ∧ V r = (n : Int) * 2 ^ (g - 1) ∧ ∀ w, Calls Try.prog 60 #[.float .f64 (floatOfInt .f64 (n : Int)), .int .i64 E] w fun e w' => e = .returned (.float .f64 r) ∧ w = w' := by
  by_cases h : n < 9007199254740992
  · rw [float_int h1 h]
    refine ⟨wf_ g (n - 4503599627370496), wf_fin (by omega) (by omega), by unfold wf_; omega, ?_, fun w => ldexp_any 1075 (n - 4503599627370496) g E (by omega) (by omega) (by omega) (by omega) g1 (by omega) w⟩
    rw [wf_V (by omega) (by omega) (by omega), show 4503599627370496 + (n - 4503599627370496) = n by omega]
  · obtain rfl : n = 9007199254740992 := by omega
    have hf : floatOfInt .f64 ((9007199254740992 : Nat) : Int) = wf_ 1076 0 := float_top
    rw [hf]
    refine ⟨wf_ (g + 1) 0, wf_fin (by omega) (by omega), by unfold wf_; omega, ?_, fun w => ldexp_any 1076 0 (g + 1) E (by omega) (by omega) (by omega) (by omega) (by omega) (by omega) w⟩
    rw [wf_V (by omega) (by omega) (by omega)]
    obtain ⟨k, rfl⟩ : ∃ k, g = k + 1 := ⟨g - 1, by omega⟩
    rw [show k + 1 + 1 - 1 = k + 1 by omega, show k + 1 - 1 = k by omega, Int.pow_succ]
    generalize (2 : Int) ^ k = p
    omega

/-- the last step of Round: 53 digits and the digit behind -/
def incOf (M h : Nat) : Prop := M / 2 ^ (h - 53) % 2 = 1 ∧ (M / 2 ^ (h - 52) % 2 = 1 ∨ M % 2 ^ (h - 53) ≠ 0)
theorem round_end {M h n : Nat} (h0 : M ≠ 0) (hh : M.log2 = h) (h1 : 53 ≤ h) (hn : n = M / 2 ^ (h - 52) + 1 ∧ incOf M h ∨ n = M / 2 ^ (h - 52) ∧ ¬ incOf M h) :
    4503599627370496 ≤ n ∧ n ≤ 9007199254740992 ∧ (n : Int) * 2 ^ (h - 1 - 1) = RN ((M : Int) * 2 ^ 50) := by
  have hr := (round_digits M h h0 hh).1 h1
  have hb := (Nat.log2_eq_iff h0).1 hh
  have hp := Nat.two_pow_pos (h - 52)
  have q1 : 2 ^ 52 ≤ M / 2 ^ (h - 52) := by
    rw [Nat.le_div_iff_mul_le hp, ← Nat.pow_add, show 52 + (h - 52) = h by omega]; exact hb.1
  have q2 : M / 2 ^ (h - 52) < 2 ^ 53 := by
    rw [Nat.div_lt_iff_lt_mul hp, ← Nat.pow_add, show 53 + (h - 52) = h + 1 by omega]; exact hb.2
  have hrn : rn M = n * 2 ^ (h - 52) := by
    rw [hr]
    unfold incOf at hn
    rcases hn with ⟨h2, h3⟩ | ⟨h2, h3⟩
    · rw [if_pos h3, h2]
    · rw [if_neg h3, h2, Nat.add_zero]
  refine ⟨by omega, by omega, ?_⟩
  rw [RN_scale, RN_pos, hrn, Int.natCast_mul, Int.natCast_pow]
  rw [Int.mul_assoc, show ((2 : Nat) : Int) = 2 from rfl, ← Int.pow_add, show h - 52 + 50 = h - 1 - 1 by omega]
end Go.Proofs.Ythgpdgajmpocfaa
