/- Proved here: what the texts Usn, Uhf, Vbk, Vbl, Vbn, Hcb, Hna prove, one behind the other. -/
import Derived.Test.YtnmadknpkhaolaaJz14
import Derived.Test.YtnmadknpkhaolaaJz12
import Derived.Test.YtnmadknpkhaolaaJz2
import Derived.Test.YtnmadknpkhaolaaJz0
import Derived.Test.YtnmadknpkhaolaaJz8
import Derived.Test.YtnmadknpkhaolaaJz6

namespace Go.Proofs.Ytnmadknpkhaolaa
open Go.ChangeShapes Go.WideShapes Go.ChangeAt Go.RowKit Ieee.Own

/-! ### whatever the span -/
def hullP (p q : Pr) : Pr := (posW (mnW p.1 q.1), posW (mxW p.2 q.2))
/-- what Spans answers -/
structure SpRes (Y p q : Pr) (k : Int) : Prop where
  err : k = errT Y.1 Y.2
  no : k ≠ 0 → p = (0, 0) ∧ q = (0, 0)
  ok : k = 0 → ∃ m, FinW m ∧ Up (fun u => V Y.2 - V Y.1 - u) m ∧ (V oneW ≤ V m → p = (noneW, oneW) ∧ q = (noneW, oneW)) ∧
    (¬ V oneW ≤ V m → ∃ S C T D, PtH Y.1 S C ∧ PtH Y.2 T D ∧ p = stP (hullP S T) (passB Y.1 Y.2 1) (passB Y.1 Y.2 3) ∧ q = stP (hullP C D) (passB Y.1 Y.2 0) (passB Y.1 Y.2 2))
theorem SpRes.uniq {Y p q p' q' : Pr} {k l : Int} (h : SpRes Y p q k) (j : SpRes Y p' q' l) : p = p' ∧ q = q' ∧ k = l := by
  have e : k = l := by rw [h.err, j.err]
  subst e
  by_cases hk : k = 0
  · obtain ⟨m, -, u, a, b⟩ := h.ok hk
    obtain ⟨m', -, u', a', b'⟩ := j.ok hk
    have ev := Up.uniq u u'
    by_cases c : V oneW ≤ V m
    · obtain ⟨rfl, rfl⟩ := a c
      obtain ⟨rfl, rfl⟩ := a' (by omega)
      exact ⟨rfl, rfl, rfl⟩
    · obtain ⟨S, C, T, D, H, H', rfl, rfl⟩ := b c
      obtain ⟨S2, C2, T2, D2, J, J', rfl, rfl⟩ := b' (by omega)
      obtain ⟨rfl, rfl⟩ := H.rel.uniq J.rel
      obtain ⟨rfl, rfl⟩ := H'.rel.uniq J'.rel
      exact ⟨rfl, rfl, rfl⟩
  · obtain ⟨rfl, rfl⟩ := h.no hk
    obtain ⟨rfl, rfl⟩ := j.no hk
    exact ⟨rfl, rfl, rfl⟩
end Go.Proofs.Ytnmadknpkhaolaa

namespace Go.Proofs.Ytnmadknpkhaolaa
open Go.ChangeShapes Go.WideShapes Go.ChangeAt Go.RowKit Ieee.Own

/-! ### Spans -/
end Go.Proofs.Ytnmadknpkhaolaa

namespace Go.Proofs.Ytnmadknpkhaolaa
open Ieee.Own Pol

/-! ### the circle -/
/-! ### two numbers turned forth and back -/
end Go.Proofs.Ytnmadknpkhaolaa

namespace Go.Proofs.Ytnmadknpkhaolaa
open Go.ChangeShapes Go.WideShapes Go.ChangeAt Go.RowKit Ieee.Own Pol

theorem D3.bb {p : V3} (hw : W3 p) (f : fitV p = true) : D3 (bV p) ∧ V (bV p).1 = V p.1 ∧ V (bV p).2.1 = V p.2.1 ∧ V (bV p).2.2 = V p.2.2 := by
  have B := fitV_bd hw f
  have fb : fitV (bV p) = true := by unfold fitV bV; rw [vnB_bW B.f1 B.b1, vnB_bW B.f2 B.b2, vnB_bW B.f3 B.b3]; rfl
  unfold fitV at f
  simp only [Bool.and_eq_true] at f
  exact ⟨fitV_wd B.fin.b.w fb, bW_fit B.f1 (vnB_spec hw.l1 f.1.1).2.1, bW_fit B.f2 (vnB_spec hw.l2 f.1.2).2.1, bW_fit B.f3 (vnB_spec hw.l3 f.2).2.1⟩
end Go.Proofs.Ytnmadknpkhaolaa

namespace Go.Proofs.Ytnmadknpkhaolaa
open Go.ChangeShapes Go.WideShapes Go.ChangeAt Go.RowKit Ieee.Own Pol

theorem div_norm {a n m q : Nat} (fa : FinW a) (hN : V a = 0 ∨ ∃ s m p, Norm a s m p ∧ 760 ≤ p ∧ p ≤ 1222) (N : Norm n false m q) (h1 : 760 ≤ q) (h2 : q ≤ 1100) :
    Ieee.double.div a n = some (qX a n) ∧ FinW (qX a n) ∧ 2 ^ 53 * (V (qX a n) * V n - V a * 2 ^ 1074).natAbs ≤ (V (qX a n) * V n).natAbs := by
  have vn := N.val
  rw [sv_pos] at vn
  rcases hN with z | ⟨s, m', p, N', p1, p2⟩
  · have nz : V n ≠ 0 := by
      rw [vn]
      have := N.lo
      exact Int.ne_of_gt (Int.mul_pos (by omega) (Int.pow_pos (by decide)))
    obtain ⟨r, q1, q2, q3⟩ := div_zero fa z N.fin nz
    have er : qX a n = r := by unfold qX; rw [q1]; rfl
    rw [er]
    refine ⟨q1, q2, ?_⟩
    rw [q3, z, Int.zero_mul, Int.zero_mul]
    decide
  · obtain ⟨r, Q, u, q1, q2, q3, u1, u2, Q1, Q2, i1, i2⟩ := div_spec N' N (by omega) (by omega)
    have er : qX a n = r := by unfold qX; rw [q1]; rfl
    rw [er]
    refine ⟨q1, q2, ?_⟩
    have key : 2 ^ 53 * (((Q * m : Nat) : Int) - ((m' * 2 ^ u : Nat) : Int)).natAbs ≤ Q * m := by
      have k1 : 2 * (((Q * m : Nat) : Int) - ((m' * 2 ^ u : Nat) : Int)).natAbs ≤ m := by
        generalize Q * m = X at *
        generalize m' * 2 ^ u = Y at *
        omega
      have k2 : 2 ^ 52 * m ≤ Q * m := Nat.mul_le_mul_right _ Q1
      generalize Q * m = X at *
      generalize m' * 2 ^ u = Y at *
      omega
    have x0 : (s ^^ false) = s := by cases s <;> rfl
    rw [x0] at q3
    have e1 : 1074 + p - q - u + q = 1074 + p - u := by omega
    have va := N'.val
    have sg : ∀ (s : Bool) (A B : Nat), sv s A B = (if s then -1 else 1) * ((A : Int) * 2 ^ B) := fun s A B => by
      unfold sv; cases s <;> simp
    rw [sg] at q3 va
    have x1 : V r * V n = (if s then -1 else 1) * ((Q * m : Nat) : Int) * 2 ^ (1074 + p - u) := by
      rw [q3, vn, Int.mul_assoc, prod_merge _ _ e1, Int.natCast_mul]
      generalize (2 : Int) ^ (1074 + p - u) = z
      ac_rfl
    have x2 : V a * 2 ^ 1074 = (if s then -1 else 1) * ((m' * 2 ^ u : Nat) : Int) * 2 ^ (1074 + p - u) := by
      rw [va, Int.natCast_mul, Int.natCast_pow, Int.mul_assoc, pow_merge (m' : Int) (p := p) (k := 1074) (j := 1074 + p - u) (u := u) (by omega)]
      rw [show ((2 : Nat) : Int) = 2 from rfl]
      generalize (2 : Int) ^ (1074 + p - u) = z
      ac_rfl
    refine scale_nat x1 x2 ?_
    rw [← Int.mul_sub, Int.natAbs_mul, Int.natAbs_mul]
    have o : (if s = true then (-1 : Int) else 1).natAbs = 1 := by cases s <;> rfl
    rw [o, Nat.one_mul, Nat.one_mul, Int.natAbs_natCast]
    exact key
theorem wd_norm {a : Nat} (W : Wd a 822 1140) : V a = 0 ∨ ∃ s m p, Norm a s m p ∧ 760 ≤ p ∧ p ≤ 1222 := by
  by_cases z : V a = 0
  · exact .inl z
  · have lo := pow_abs_dvd W.dvd z
    obtain ⟨s, m, p, N⟩ := is_norm W.fin lo (by omega)
    obtain ⟨p1, p2⟩ := norm_pl N lo W.abs (by omega) (by omega)
    exact .inr ⟨s, m, p, N, by omega, by omega⟩
end Go.Proofs.Ytnmadknpkhaolaa

namespace Go.Proofs.Ytnmadknpkhaolaa
open Ieee.Own

theorem V_pos_eq {a b : Nat} (fa : FinW a) (fb : FinW b) (h : V a = V b) (h0 : V a ≠ 0) : a = b := by
  have pa : Nz a := Nz.of fa h0
  have pb : Nz b := Nz.of fb (by rw [← h]; exact h0)
  exact pa.uniq pb h
structure NmOk (a : Nat) : Prop where
  fin : FinW a
  nm : V a = 0 ∨ ∃ s m p, Norm a s m p ∧ 760 ≤ p ∧ p ≤ 1222
theorem sv_t (m p : Nat) : sv true m p = -((m * 2 ^ p : Nat) : Int) := by unfold sv; simp
theorem sv_f (m p : Nat) : sv false m p = ((m * 2 ^ p : Nat) : Int) := by unfold sv; simp
end Go.Proofs.Ytnmadknpkhaolaa

namespace Go.Proofs.Ytnmadknpkhaolaa
open Go.ChangeShapes Go.WideShapes Go.ChangeAt Go.RowKit Ieee.Own

theorem word_mod (f : Ieee.Format) (s : Bool) (r : Nat) (h : r < f.signWeight) : f.word s r % f.signWeight = r := by
  unfold Ieee.Format.word
  cases s
  · simp [Nat.mod_eq_of_lt h]
  · simp [Nat.mod_eq_of_lt h]
theorem word_div (f : Ieee.Format) (s : Bool) (r : Nat) (h : r < f.signWeight) : (f.word s r / f.signWeight % 2 == 1) = s := by
  unfold Ieee.Format.word
  cases s
  · simp [Nat.div_eq_of_lt h]
  · simp [Nat.add_div_left r (show 0 < f.signWeight by omega), Nat.div_eq_of_lt h]
theorem least32 : Ieee.single.leastPlace = -149 := by decide +kernel
theorem least64 : Ieee.double.leastPlace = -1074 := by decide +kernel
theorem frac32 : Ieee.single.fractionBits = 23 := rfl
theorem frac64 : Ieee.double.fractionBits = 52 := rfl
theorem top32 : val 23 2139095040 = 2 ^ 277 := by decide +kernel
theorem top64 : val 52 9218868437227405312 = 2 ^ 2098 := by decide +kernel
theorem pow_chain (v a b c : Nat) (h : v < 2 ^ a) (hc : a + b ≤ c) : v * 2 ^ b < 2 ^ c := by
  have h2 : v * 2 ^ b < 2 ^ a * 2 ^ b := Nat.mul_lt_mul_of_pos_right h (Nat.two_pow_pos _)
  rw [← Nat.pow_add] at h2
  exact Nat.lt_of_lt_of_le h2 (Nat.pow_le_pow_right (by omega) hc)
theorem wide_num (f : Nat) (hf : f < 4294967296) (hn : f % 2147483648 < 2139095040) :
    ∃ W, W < 18446744073709551616 ∧ W % 9223372036854775808 < 9218868437227405312 ∧ floatToFloatBits .f32 f .f64 = some W ∧
      floatToFloatBits .f64 W .f32 = some f ∧ val 52 (W % 9223372036854775808) = val 23 (f % 2147483648) * 2 ^ 925 ∧ (W < 9223372036854775808 ↔ f < 2147483648) := by
  obtain ⟨s, hs⟩ : ∃ s, s = (f / Ieee.single.signWeight % 2 == 1) := ⟨_, rfl⟩
  have hfw : f = Ieee.single.word s (f % 2147483648) := by
    rw [hs]; unfold Ieee.Format.word; rw [sw32]
    by_cases h : f < 2147483648
    · have e1 : f / 2147483648 = 0 := by omega
      rw [e1]; simp; omega
    · have e1 : f / 2147483648 = 1 := by omega
      rw [e1]; simp; omega
  have hsf : s = false ↔ f < 2147483648 := by
    rw [hs, sw32]
    by_cases h : f < 2147483648
    · have e1 : f / 2147483648 = 0 := by omega
      rw [e1]; simp [h]
    · have e1 : f / 2147483648 = 1 := by omega
      rw [e1]; simp [h]
  have hread : Ieee.single.read f = .number s (mg 23 (f % 2147483648)) (-149 + (ex 23 (f % 2147483648) : Nat)) := by
    rw [read_num Ieee.single f (by rw [sw32, inf32]; exact hn), ← hs, least32, frac32, sw32]
  generalize f % 2147483648 = p at *
  have hmg := mg_lt 23 p
  obtain ⟨r, hr⟩ := rep 52 (val 23 p * 2 ^ 925) (mg 23 p) (ex 23 p + 925) (by unfold val; rw [Nat.pow_add, Nat.mul_assoc])
    (Nat.lt_of_lt_of_le hmg (Nat.pow_le_pow_right (by omega) (by omega)))
  have hri : r < 9218868437227405312 := by
    rw [← val_lt_iff 52, hr, top64]
    have : val 23 p < 2 ^ 277 := by rw [← top32]; exact val_lt hn
    exact pow_chain _ 277 925 2098 this (by omega)
  have hne : Ieee.double.nearest s (mg 23 p) (-149 + (ex 23 p : Nat)) = Ieee.double.word s r := by
    refine nearest_exact Ieee.double s _ _ r (ex 23 p + 925) 0 (by rw [inf64]; exact hri) ?_ (by rw [least64]; omega)
    rw [frac64, hr]; unfold val; rw [Nat.pow_add, ← Nat.mul_assoc, Nat.pow_zero, Nat.mul_one]
  have hrs : r < Ieee.double.signWeight := by rw [sw64]; omega
  have hWm : Ieee.double.word s r % Ieee.double.signWeight = r := word_mod _ _ _ hrs
  have hWd : (Ieee.double.word s r / Ieee.double.signWeight % 2 == 1) = s := word_div _ _ _ hrs
  have hrd : Ieee.double.read (Ieee.double.word s r) = .number s (mg 52 r) (-1074 + (ex 52 r : Nat)) := by
    rw [read_num Ieee.double _ (by rw [hWm, inf64]; exact hri), hWm, hWd, least64, frac64]
  have hps : p < Ieee.single.signWeight := by rw [sw32]; omega
  have hback : Ieee.single.nearest s (mg 52 r) (-1074 + (ex 52 r : Nat)) = Ieee.single.word s p := by
    refine nearest_exact Ieee.single s _ _ p (ex 52 r) 925 (by rw [inf32]; exact hn) ?_ (by rw [least32]; omega)
    rw [frac32]; exact hr
  have hrb : Ieee.single.read (Ieee.single.word s p) = .number s (mg 23 p) (-149 + (ex 23 p : Nat)) := by rw [← hfw]; exact hread
  refine ⟨Ieee.double.word s r, ?_, ?_, ?_, ?_, ?_, ?_⟩
  · unfold Ieee.Format.word; rw [sw64]; split <;> omega
  · rw [← sw64, hWm]; exact hri
  · unfold floatToFloatBits
    rw [if_neg (by decide)]
    simp only [FloatKind.decode, FloatKind.encode, FloatKind.format, hread, Ieee.Format.write, hne, hrd, Ieee.Datum.isInfinity]
    rfl
  · unfold floatToFloatBits
    rw [if_neg (by decide)]
    simp only [FloatKind.decode, FloatKind.encode, FloatKind.format, hrd, Ieee.Format.write, hback, hrb, Ieee.Datum.isInfinity]
    rw [← hfw]; rfl
  · rw [← sw64, hWm]; exact hr
  · rw [← hsf]; unfold Ieee.Format.word; rw [sw64]
    cases s <;> simp <;> omega
/-- the infinities -/
theorem wide_up : floatToFloatBits .f32 2139095040 .f64 = some 9218868437227405312 := by decide +kernel
theorem wide_down : floatToFloatBits .f32 4286578688 .f64 = some 18442240474082181120 := by decide +kernel
theorem back_up : floatToFloatBits .f64 9218868437227405312 .f32 = some 2139095040 := by decide +kernel
theorem back_down : floatToFloatBits .f64 18442240474082181120 .f32 = some 4286578688 := by decide +kernel
/-- the widened number's word; of a NaN the NaN -/
def wideW (f : Nat) : Nat := if 2139095040 < f % 2147483648 then 9221120237041090560 else (floatToFloatBits .f32 f .f64).getD 0
theorem wide_spec (f : Nat) (hf : f < 4294967296) (hn : ¬ 2139095040 < f % 2147483648) :
    wideW f < 18446744073709551616 ∧ wideW f % 9223372036854775808 ≤ 9218868437227405312 ∧ floatToFloatBits .f32 f .f64 = some (wideW f) ∧ floatToFloatBits .f64 (wideW f) .f32 = some f ∧
    (wideW f % 9223372036854775808 = 9218868437227405312 ↔ f % 2147483648 = 2139095040) ∧ (wideW f < 9223372036854775808 ↔ f < 2147483648) ∧
    (f % 2147483648 < 2139095040 → val 52 (wideW f % 9223372036854775808) = val 23 (f % 2147483648) * 2 ^ 925) := by
  by_cases h : f % 2147483648 < 2139095040
  · obtain ⟨W, h1, h2, h3, h4, h5, h6⟩ := wide_num f hf h
    have e : wideW f = W := by unfold wideW; rw [if_neg hn, h3]; rfl
    rw [e]
    exact ⟨h1, by omega, h3, h4, by omega, h6, fun _ => h5⟩
  · have h2 : f = 2139095040 ∨ f = 4286578688 := by omega
    rcases h2 with rfl | rfl
    · have e : wideW 2139095040 = 9218868437227405312 := by unfold wideW; rw [if_neg hn, wide_up]; rfl
      rw [e]
      exact ⟨by omega, by omega, wide_up, back_up, by omega, by omega, fun h' => absurd h' h⟩
    · have e : wideW 4286578688 = 18442240474082181120 := by unfold wideW; rw [if_neg hn, wide_down]; rfl
      rw [e]
      exact ⟨by omega, by omega, wide_down, back_down, by omega, by omega, fun h' => absurd h' h⟩
set_option maxRecDepth 100000 in
theorem wide_any (f : Nat) (hf : f < 4294967296) (hn : ¬ 2139095040 < f % 2147483648) (w : World) :
    Calls Try.prog 72 #[.float .f32 f] w fun e w' => e = .returned (.float .f64 (wideW f)) ∧ w = w' := by
  obtain ⟨a1, a2, a3, -, -, -, -⟩ := wide_spec f hf hn
  have hc : ∀ w, (convert 57 30 (.float .f32 f)).run Try.prog w = .ok (.float .f64 (wideW f)) w := fun w => run_convert_float_float w 57 30 .f32 .f64 f _ (by rw [Try.underlying57]; rfl) Try.underlying30 a3
  have C := fun w => canon_num (wideW f) a1 (decide_eq_false (by omega)) w
  clear a1 a2 a3 hn hf
  generalize wideW f = W at *
  go_enter Try.func72, Try.ntmps72
  go_wp2_with (go_at_call 88; ((with_reducible refine (C _).mono ?_); rintro e w' ⟨rfl, rfl⟩))
  go_ret
  exact ⟨rfl, rfl⟩
set_option maxRecDepth 100000 in
theorem conv_nan (f : Nat) (h : 2139095040 < f % 2147483648) (w : World) :
    ∃ X, X < 18446744073709551616 ∧ nanB X = true ∧ (convert 57 30 (.float .f32 f)).run Try.prog w = .ok (.float .f64 X) w.drew := by
  have hr := read_nan Ieee.single (by decide) f (by rw [sw32, inf32]; exact h)
  have key : ∀ t : Nat, (t % 2) * 2 ^ 63 + 0x7ff0000000000000 + 1 + (t / 2) % (2 ^ 52 - 1) < 18446744073709551616 ∧ nanB ((t % 2) * 2 ^ 63 + 0x7ff0000000000000 + 1 + (t / 2) % (2 ^ 52 - 1)) = true := by
    intro t
    constructor
    · omega
    · unfold nanB; rw [decide_eq_true_eq]
      have hv : (t / 2) % (2 ^ 52 - 1) < 2 ^ 52 - 1 := Nat.mod_lt _ (by omega)
      generalize (t / 2) % (2 ^ 52 - 1) = v at *
      have hu : t % 2 = 0 ∨ t % 2 = 1 := by omega
      rcases hu with hu | hu <;> rw [hu] <;> omega
  refine ⟨_, (key (w.tape w.drawn (.nanConv .f64 f))).1, (key (w.tape w.drawn (.nanConv .f64 f))).2, ?_⟩
  simp [convert, run_underlying Try.underlying57, run_underlying Try.underlying30, Conv.floatToFloat, FloatKind.decode, FloatKind.format, hr, Question.forced, Question.cut]

set_option maxRecDepth 100000 in
theorem wide_nan (f : Nat) (h : 2139095040 < f % 2147483648) (w : World) :
    Calls Try.prog 72 #[.float .f32 f] w fun e w' => e = .returned (.float .f64 9221120237041090560) ∧ w.drew = w' := by
  obtain ⟨X, h1, h2, h3⟩ := conv_nan f h w
  have C := fun w => canon_nan X h1 h2 w
  clear h1 h2 h
  go_enter Try.func72, Try.ntmps72
  go_wp2_with (go_at_call 88; ((with_reducible refine (C _).mono ?_); rintro e w' ⟨rfl, rfl⟩))
  go_ret
  exact ⟨rfl, rfl⟩

/-! ### rounded to 24 digits -/
theorem rung_val32 (d k : Nat) (h : k ≤ 2 ^ 24) (h' : 0 < d → 2 ^ 23 ≤ k) : val 23 (d * 2 ^ 23 + k) = k * 2 ^ d := by
  by_cases h1 : k < 2 ^ 23
  · have : d = 0 := by omega
    subst this
    unfold val mg ex
    simp [h1]
  · unfold val mg ex
    have hge : ¬ d * 2 ^ 23 + k < 2 ^ 23 := by omega
    simp only [hge, if_false]
    by_cases h2 : k = 2 ^ 24
    · have e1 : (d * 2 ^ 23 + k) / 2 ^ 23 = d + 2 := by omega
      have e2 : (d * 2 ^ 23 + k) % 2 ^ 23 = 0 := by omega
      rw [e1, e2, h2, show d + 2 - 1 = d + 1 by omega, Nat.pow_succ 2 d]
      generalize 2 ^ d = g
      omega
    · have e1 : (d * 2 ^ 23 + k) / 2 ^ 23 = d + 1 := by omega
      have e2 : (d * 2 ^ 23 + k) % 2 ^ 23 = k - 2 ^ 23 := by omega
      rw [e1, e2, show d + 1 - 1 = d by omega, show 2 ^ 23 + (k - 2 ^ 23) = k by omega]
/-- where a number of 2^-1074 units is rounded -/
def d32 (n : Nat) : Nat := max (n.log2 - 23) 925
def r32 (n : Nat) : Nat := rne n (d32 n) * 2 ^ (d32 n - 925)
theorem d32_lt (n : Nat) : n < 2 ^ (24 + d32 n) := by
  by_cases h : n = 0
  · subst h; exact Nat.two_pow_pos _
  · have := ((Nat.log2_eq_iff h).1 rfl).2
    exact Nat.lt_of_lt_of_le this (Nat.pow_le_pow_right (by omega) (by unfold d32; omega))
theorem r32_range (n : Nat) : rne n (d32 n) ≤ 2 ^ 24 ∧ (0 < d32 n - 925 → 2 ^ 23 ≤ rne n (d32 n)) := by
  have b := rne_bounds n (d32 n)
  constructor
  · have := Ieee.Own.div_cap (k := 24) (d32_lt n)
    omega
  · intro h
    have e : d32 n = n.log2 - 23 := by unfold d32 at h ⊢; omega
    have h0 : n ≠ 0 := by intro z; subst z; revert h; decide
    have : 2 ^ 23 ≤ n / 2 ^ d32 n := by
      rw [Nat.le_div_iff_mul_le (Nat.two_pow_pos _), ← Nat.pow_add]
      refine Nat.le_trans (Nat.pow_le_pow_right (by omega) ?_) ((Nat.log2_eq_iff h0).1 rfl).1
      unfold d32 at h e ⊢; omega
    omega
theorem r32_units (n : Nat) : r32 n * 2 ^ 925 = rne n (d32 n) * 2 ^ d32 n := by
  unfold r32
  exact Ieee.Own.shift_pow (x := rne n (d32 n)) (d := d32 n) (k := 925) (by unfold d32; omega)
theorem r32_twice (n : Nat) : r32 n * 2 ^ 925 ≤ 2 * n := by
  rw [r32_units]
  have u := rne_up n (d32 n)
  generalize rne n (d32 n) = k at *
  generalize 2 ^ d32 n = g at *
  by_cases h : k = 0
  · subst h; rw [Nat.zero_mul]; exact Nat.zero_le _
  · have := Nat.mul_le_mul_right g (show 1 ≤ k by omega)
    rw [Nat.one_mul] at this
    omega
theorem r32_cap {n : Nat} (h : n ≤ 2 ^ 1114) : r32 n ≤ 2 ^ 189 := by
  have d1 : d32 n ≤ 1114 := by
    by_cases h0 : n = 0
    · subst h0; decide
    · have : n.log2 < 1115 := (Nat.log2_lt h0).2 (Nat.lt_of_le_of_lt h (two_lt (a := 1114) (b := 1115) (by omega)))
      unfold d32; omega
  have d0 : 925 ≤ d32 n := by unfold d32; omega
  unfold r32
  generalize d32 n = d at *
  have c := rne_cap (n := n) (d := d) (k := 1114 - d) (by rw [show 1114 - d + d = 1114 by omega]; exact h)
  have := Nat.mul_le_mul_right (2 ^ (d - 925)) c
  rwa [← Nat.pow_add, show 1114 - d + (d - 925) = 189 by omega] at this
theorem r32_all {n B a b : Nat} (hB : B = a + b) (h : r32 n ≤ 2 ^ a) : r32 n * 2 ^ b ≤ 2 ^ B := by
  subst hB
  rw [Nat.pow_add]
  exact Nat.mul_le_mul_right _ h
theorem nearest_32 (s : Bool) (m : Nat) (place : Int) (n a : Nat) (hm : m * 2 ^ a = n) (hp : place = -1074 + a) (hn : r32 n < 2 ^ 277) :
    ∃ r, r < 2139095040 ∧ Ieee.single.nearest s m place = Ieee.single.word s r ∧ val 23 r = r32 n := by
  by_cases h0 : m = 0
  · subst h0
    obtain rfl : n = 0 := by omega
    refine ⟨0, by omega, by unfold Ieee.Format.nearest; rw [if_pos rfl], ?_⟩
    rw [val_zero]
    have : rne 0 (d32 0) = 0 := by simpa using rne_exact 0 (d32 0)
    unfold r32
    rw [this, Nat.zero_mul]
  have hlog : m.log2 + a = n.log2 := by rw [← log2_shift m a h0, hm]
  have hlast : max (place + m.log2 - Ieee.single.fractionBits) Ieee.single.leastPlace = -1074 + d32 n := by
    rw [frac32, least32]; unfold d32; omega
  have hk : Ieee.Toward.even.cut s (m <<< (place - (-1074 + d32 n)).toNat) (-1074 + d32 n - place).toNat = rne n (d32 n) := by
    rw [Nat.shiftLeft_eq, cut_rne]
    generalize d32 n = d at *
    by_cases hac : d ≤ a
    · have e1 : (place - (-1074 + (d : Int))).toNat = a - d := by omega
      have e2 : (-1074 + (d : Int) - place).toNat = 0 := by omega
      rw [e1, e2]
      have hq : n = (m * 2 ^ (a - d)) * 2 ^ d := by
        rw [Nat.mul_assoc, ← Nat.pow_add, show a - d + d = a by omega]; exact hm.symm
      have g1 : rne n d = m * 2 ^ (a - d) := by rw [hq]; exact rne_exact _ d
      rw [g1]
      have := rne_exact (m * 2 ^ (a - d)) 0
      simpa using this
    · have e1 : (place - (-1074 + (d : Int))).toNat = 0 := by omega
      have e2 : (-1074 + (d : Int) - place).toNat = d - a := by omega
      rw [e1, e2, Nat.pow_zero, Nat.mul_one, ← hm, ← rne_scale m (d - a) a]
      congr 1; omega
  have hv : val 23 ((d32 n - 925) * 2 ^ 23 + rne n (d32 n)) = r32 n := rung_val32 _ _ (r32_range n).1 (r32_range n).2
  have hr : (d32 n - 925) * 2 ^ 23 + rne n (d32 n) < 2139095040 := by
    rw [← val_lt_iff 23, hv, top32]; exact hn
  refine ⟨(d32 n - 925) * 2 ^ 23 + rne n (d32 n), hr, ?_, hv⟩
  have hd : 925 ≤ d32 n := by unfold d32; omega
  unfold Ieee.Format.nearest
  rw [if_neg h0]
  dsimp only
  rw [hlast, hk, least32, show (-1074 + (d32 n : Int) - -149).toNat = d32 n - 925 by omega, inf32]
  rw [show Ieee.single.binade = 2 ^ 23 from rfl, Nat.min_eq_left (Nat.le_of_lt hr)]
def narW (b : Nat) : Nat := (floatToFloatBits .f64 b .f32).getD 0
structure NarOk (b : Nat) : Prop where
  run : floatToFloatBits .f64 b .f32 = some (narW b)
  lt : narW b < 4294967296
  num : narW b % 2147483648 < 2139095040
  fin : FinW (wideW (narW b))
  abs : (V (wideW (narW b))).natAbs ≤ 2 ^ 1114
  twice : (V (wideW (narW b))).natAbs ≤ 2 * (V b).natAbs
  dvd : 2 ^ 925 ∣ (V (wideW (narW b))).natAbs
theorem nar_ok {b : Nat} (hb : FinW b) (h : (V b).natAbs ≤ 2 ^ 1114) : NarOk b := by
  obtain ⟨s, hs⟩ : ∃ s, s = (b / Ieee.double.signWeight % 2 == 1) := ⟨_, rfl⟩
  have hread : Ieee.double.read b = .number s (mg 52 (b % 9223372036854775808)) (-1074 + (ex 52 (b % 9223372036854775808) : Nat)) := by
    rw [read_num Ieee.double b (by rw [sw64, inf64]; exact hb.2), ← hs, least64, frac64, sw64]
  have hv := V_abs' b hb
  have hn : val 52 (b % 9223372036854775808) ≤ 2 ^ 1114 := by rw [← hv]; exact h
  obtain ⟨r, h1, h2, h3⟩ := nearest_32 s (mg 52 (b % 9223372036854775808)) (-1074 + (ex 52 (b % 9223372036854775808) : Nat)) (val 52 (b % 9223372036854775808)) (ex 52 (b % 9223372036854775808)) rfl rfl
    (Nat.lt_of_le_of_lt (r32_cap hn) (two_lt (a := 189) (b := 277) (by omega)))
  have hrs : r < Ieee.single.signWeight := by rw [sw32]; omega
  have hm : Ieee.single.word s r % Ieee.single.signWeight = r := word_mod _ _ _ hrs
  have hrd : Ieee.single.read (Ieee.single.word s r) = .number s (mg 23 r) (-149 + (ex 23 r : Nat)) := by
    rw [read_num Ieee.single _ (by rw [hm, inf32]; exact h1), hm, word_div _ _ _ hrs, least32, frac32]
  have run : floatToFloatBits .f64 b .f32 = some (Ieee.single.word s r) := by
    unfold floatToFloatBits
    rw [if_neg (by decide)]
    simp only [FloatKind.decode, FloatKind.encode, FloatKind.format, hread, Ieee.Format.write, h2, hrd, Ieee.Datum.isInfinity]
    rfl
  have e : narW b = Ieee.single.word s r := by unfold narW; rw [run]; rfl
  have lt : narW b < 4294967296 := by rw [e]; unfold Ieee.Format.word; rw [sw32]; cases s <;> simp <;> omega
  have mod : narW b % 2147483648 = r := by rw [e, ← sw32]; exact hm
  obtain ⟨a1, a2, -, -, a3, -, a5⟩ := wide_spec (narW b) lt (by omega)
  have a6 := a5 (by omega)
  rw [mod, h3] at a6
  have fin : FinW (wideW (narW b)) := ⟨a1, by omega⟩
  have wv := V_abs' _ fin
  rw [a6] at wv
  refine ⟨by rw [e]; exact run, lt, by omega, fin, ?_, ?_, ?_⟩
  · rw [wv]
    exact r32_all (a := 189) (b := 925) (B := 1114) (by omega) (r32_cap hn)
  · rw [wv, hv]; exact r32_twice _
  · rw [wv]; exact Nat.dvd_mul_left _ _

set_option maxRecDepth 100000 in
/-- Wide, whatever the number -/
theorem wide_all (f : Nat) (hf : f < 4294967296) (w : World) : Calls Try.prog 72 #[.float .f32 f] w fun e w' => e = .returned (.float .f64 (wideW f)) ∧ Drawn w w' := by
  by_cases hn : 2139095040 < f % 2147483648
  · refine (wide_nan f hn w).mono ?_
    rintro e w' ⟨rfl, rfl⟩
    exact ⟨by unfold wideW; rw [if_pos hn], ⟨1, rfl⟩⟩
  · refine (wide_any f hf hn w).mono ?_
    rintro e w' ⟨rfl, rfl⟩
    exact ⟨rfl, Drawn.refl _⟩
theorem wideW_lt (f : Nat) (hf : f < 4294967296) : wideW f < 18446744073709551616 := by
  by_cases hn : 2139095040 < f % 2147483648
  · unfold wideW; rw [if_pos hn]; omega
  · exact (wide_spec f hf hn).1
end Go.Proofs.Ytnmadknpkhaolaa
