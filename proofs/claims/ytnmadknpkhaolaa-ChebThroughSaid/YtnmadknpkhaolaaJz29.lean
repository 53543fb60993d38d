/- Proved here: what the texts Htj, Hrd, Pcn, Plw, Hcm, Hsa, Hsb prove, one behind the other. -/
import Derived.Test.YtnmadknpkhaolaaJz23
import Derived.Test.YtnmadknpkhaolaaJz24
import Derived.Test.YtnmadknpkhaolaaJz25
import Derived.Test.YtnmadknpkhaolaaJz26
import Derived.Test.YtnmadknpkhaolaaJz27
import Derived.Test.YtnmadknpkhaolaaJz28
import Derived.Test.YtnmadknpkhaolaaJz15
import Derived.Test.YtnmadknpkhaolaaJz20
import Derived.Test.YtnmadknpkhaolaaJz17
import Derived.Test.YtnmadknpkhaolaaJz21
import Derived.Test.YtnmadknpkhaolaaJz13
import Derived.Test.YtnmadknpkhaolaaJz22

namespace Go.Proofs.Ytnmadknpkhaolaa
open Go.ChangeShapes Go.WideShapes Go.ChangeAt Go.RowKit Ieee.Own Pol

theorem q_cap1' {x : Nat} (h : (V x).natAbs ≤ 2 ^ 1074) : mag (Q x) ≤ 1 := by
  have v1 := oneW_V.2
  have v2 := moneW_V.2
  have q1 : Q oneW = 1 := by decide +kernel
  have q2 : Q moneW = -1 := by decide +kernel
  have t := two_cast 1074
  have a : Q x ≤ Q oneW := Q_le.2 (by rw [v1]; omega)
  have b : Q moneW ≤ Q x := Q_le.2 (by rw [v2]; omega)
  rw [q1] at a
  rw [q2] at b
  exact mag_of b a
theorem cOk_all {n : Nat} (h0 : 0 < n) (hn : n ≤ 16) : cOk n = true := by
  have a := cOkA
  have b := cOkB
  have c := cOkC
  have d := cOkD
  have e := cOkE
  simp only [List.all_cons, List.all_nil, Bool.and_true, Bool.and_eq_true] at a b c d e
  have : n = 1 ∨ n = 2 ∨ n = 3 ∨ n = 4 ∨ n = 5 ∨ n = 6 ∨ n = 7 ∨ n = 8 ∨ n = 9 ∨ n = 10 ∨ n = 11 ∨ n = 12 ∨ n = 13 ∨ n = 14 ∨ n = 15 ∨ n = 16 := by omega
  rcases this with rfl | rfl | rfl | rfl | rfl | rfl | rfl | rfl | rfl | rfl | rfl | rfl | rfl | rfl | rfl | rfl <;> simp only [a, b, c, d, e]
theorem cs_tab {n j i : Nat} (h0 : 0 < n) (hn : n ≤ 16) (hj : j < max n 2) (hi : i < n) : csN (angW (j * (2 * i + 1)) n) = cAt n j i := by
  have h := cOk_all h0 hn
  unfold cOk at h
  rw [List.all_eq_true] at h
  have h1 := h j (List.mem_range.2 hj)
  rw [List.all_eq_true] at h1
  have h2 := h1 i (List.mem_range.2 hi)
  simp only [Bool.and_eq_true, beq_iff_eq] at h2
  have b : j * (2 * i + 1) ≤ 465 := Nat.le_trans (Nat.mul_le_mul (show j ≤ 15 by omega) (show 2 * i + 1 ≤ 31 by omega)) (by decide)
  rw [cs_of (ago b h0 hn) h2.1, h2.2]
theorem c_one {n j i : Nat} (hn : n ≤ 16) (hj : j < n) (hi : i < n) : mag (Q (cAt n j i)) ≤ 1 := by
  have h := qOkAll
  rw [List.all_eq_true] at h
  have h0 := h n (List.mem_range.2 (by omega))
  unfold qOk at h0
  rw [List.all_eq_true] at h0
  have h1 := h0 j (List.mem_range.2 hj)
  rw [List.all_eq_true] at h1
  have h2 := h1 i (List.mem_range.2 hi)
  rw [decide_eq_true_eq] at h2
  exact q_cap1' h2
/-! ### sums -/
/-- the cosines of a row, from the k-th on -/
def xsF (n j : Nat) : Nat → Nat → List Rat
  | _, 0 => []
  | k, m + 1 => Q (cAt n j k) :: xsF n j (k + 1) m
theorem rd_up {u t w v : Rat} (t0 : 0 ≤ t) (h : Rd u 0 w v) : Rd u t w v := fun M hM => by
  have := h M hM
  grind
theorem sum_nearF {n j : Nat} (hj : j < n) (hn : n ≤ 16) : ∀ (L : List Nat) (k s : Nat) (S W : Rat), (∀ v ∈ L, Fc v) → k + L.length = n → Fs s k → 0 ≤ W → mag (Q s - S) ≤ 3 * (k : Rat) * (uR * W) + 2 * (k : Rat) * tR → mag S ≤ W →
    mag (Q (sumF j n L k s) - (S + dot (L.map Q) (xsF n j k L.length))) ≤ 3 * (n : Rat) * (uR * (W + Pol.sm (L.map Q))) + 2 * (n : Rat) * tR
  | [], k, s, S, W, _, h, _, _, hs, _ => by
    have e : k = n := by simpa using h
    subst e
    show mag (Q s - (S + 0)) ≤ 3 * (k : Rat) * (uR * (W + 0)) + 2 * (k : Rat) * tR
    rw [Rat.add_zero, Rat.add_zero]
    exact hs
  | v :: L, k, s, S, W, hv, h, F, W0, hs, hS => by
    have hk : k < n := by simp at h; omega
    have b : j * (2 * k + 1) ≤ 465 := Nat.le_trans (Nat.mul_le_mul (show j ≤ 15 by omega) (show 2 * k + 1 ≤ 31 by omega)) (by decide)
    have A := ago b (show 0 < n by omega) hn
    have Fv := hv v (List.mem_cons_self ..)
    have R := fs_step F (by omega) Fv (csN_wd A)
    have ec := cs_tab (n := n) (j := j) (i := k) (by omega) hn (by omega) hk
    have hp := ((fc_wd Fv).mul (csN_wd A) (by omega) (by omega) (by omega)).2.2
    have ha := (F.wd.add (((fc_wd Fv).mul (csN_wd A) (by omega) (by omega) (by omega)).2.1.le (q := 516) (l := 1116 + k) (by omega) (by omega)) (by omega)).2.2
    have c1 := c_one hn hj hk
    rw [ec] at hp ha
    have k0 : (0 : Rat) ≤ (k : Rat) := Rat.intCast_nonneg.2 (by omega : (0 : Int) ≤ (k : Int))
    have k1 : (k : Rat) ≤ 16 := by
      have : ((k : Int) : Rat) ≤ ((16 : Int) : Rat) := Rat.intCast_le_intCast.2 (by omega)
      exact this
    have hp' : Rd uR tR (Q (mX v (cAt n j k))) (Q v * Q (cAt n j k)) := rd_up tR0 (rd_of hp)
    obtain ⟨d1, d2⟩ := dstep uR0 uR1 tR0 W0 k0 k1 hs hS c1 hp' (rd_of ha)
    have kk : ((k + 1 : Nat) : Rat) = (k : Rat) + 1 := by
      show (((k + 1 : Nat) : Int) : Rat) = ((k : Int) : Rat) + 1
      rw [Int.natCast_add, Rat.intCast_add]; rfl
    have v0 := (mag_le (Q v)).2.2
    have ih := sum_nearF hj hn L (k + 1) (aX s (mX v (cAt n j k))) (S + Q v * Q (cAt n j k)) (W + mag (Q v)) (fun u hu => hv u (List.mem_cons_of_mem _ hu)) (by simp at h; omega) (by rw [← ec]; exact R.f) (by grind) (by rw [kk]; exact d1) d2
    have es : sumF j n (v :: L) k s = sumF j n L (k + 1) (aX s (mX v (cAt n j k))) := by
      show sumF j n L (k + 1) (aX s (mX v (csN (angW (j * (2 * k + 1)) n)))) = _
      rw [ec]
    rw [es]
    show mag (Q _ - (S + (Q v * Q (cAt n j k) + dot (L.map Q) (xsF n j (k + 1) L.length)))) ≤ 3 * (n : Rat) * (uR * (W + (mag (Q v) + Pol.sm (L.map Q)))) + _
    rw [← Rat.add_assoc, ← Rat.add_assoc]
    exact ih
end Go.Proofs.Ytnmadknpkhaolaa

namespace Go.Proofs.Ytnmadknpkhaolaa
open Go.ChangeShapes Go.WideShapes Go.ChangeAt Go.RowKit Ieee.Own Pol

set_option maxRecDepth 100000 in
theorem rasked_zero (ao : Option Addr) (cap n : Nat) (L : List Nat) (x : Nat) (w : World) (hn : n = L.length) (hm : n ≤ 4611686018427387904) (hw : Words L) (ha : At w ao L) (hx : x < 18446744073709551616) (h0 : errX m00 L x = 0) :
    Calls Try.prog 52 #[.slice ao n cap, .float .f64 x, .float .f64 4607182418800017408] w fun e w' => e = .returned (.int .i64 0) ∧ w = w' := by
  have K := rpcheck_run ao cap n L w hn hm hw ha
  obtain ⟨hC, hX⟩ := errX_zero h0
  rw [hC] at K
  have CF := fun w => rfit_any x hx w
  have g1 := o_gtr x 4607182418800017408 hx (by omega)
  have g2 := o_lss x 13830554455654793216 hx (by omega)
  have hneg : ∀ w, (Op.unary .neg (.float .f64 4607182418800017408)).run Try.prog w = .ok (.float .f64 13830554455654793216) w := fun w => rfl
  unfold inM m00 at hX
  rw [decide_eq_true_eq] at hX
  obtain ⟨h1, hx2⟩ := hX
  have k2 : key64 4607182418800017408 = 4607182418800017408 := by decide
  have k3 : key64 13830554455654793216 = -4607182418800017408 := by decide
  rw [k2] at g1
  rw [k3] at g2
  have kx : key64 x = if x < 9223372036854775808 then (x : Int) else 9223372036854775808 - (x : Int) := rfl
  rw [decide_eq_false (fun h => by have := h.2.2; split at kx <;> omega)] at g1
  rw [decide_eq_false (fun h => by have := h.2.2; split at kx <;> omega)] at g2
  rw [h1] at CF
  clear hn hm hw ha hx h0 hC h1 hx2 k2 k3 kx
  go_enter Try.func52, Try.ntmps52
  go_wp2_with (first | (go_at_call 27; ((with_reducible refine K.mono ?_); rintro e w' ⟨rfl, rfl⟩)) | (go_at_call 51; ((with_reducible refine (CF _).mono ?_); rintro e w' ⟨rfl, rfl⟩)))
  go_ret
  exact ⟨rfl, rfl⟩
set_option maxHeartbeats 1000000 in
set_option maxRecDepth 100000 in
theorem rcheb_some (ao : Option Addr) (cap n : Nat) (L : List Nat) (x : Nat) (w : World) (hn : n = L.length) (hp : 0 < n) (hw : Words L) (ha : At w ao L) (hx : x < 18446744073709551616) (hm : n ≤ 4611686018427387904) (h0 : errX m00 L x = 0) :
    Calls Try.prog 28 #[.slice ao n cap, .float .f64 x] w fun e w' => e = .returned (fe (posW (chW x L)) 0) ∧ w = w' := by
  have K := rasked_zero ao cap n L x w hn hm hw ha hx h0
  obtain ⟨hC, hX⟩ := errX_zero h0
  obtain ⟨hl16, hfc⟩ := errC_zero hw hC
  obtain ⟨fx, bx⟩ := inM_x00 hx hX
  have CS := cl_parts fx bx hfc hn (by omega) hp
  have rd := run_add _ _ _ CS.dbl
  have CS := Lib.hid CS
  replace hn := Lib.hid hn
  replace ha := Lib.hid ha
  have n16 : n ≤ 16 := by have := hn.out; omega
  have tw : IntKind.i64.wrap ((n : Int) - 1) = (n : Int) - 1 := by rw [IntKind.wrap_i64]; omega
  have tn : ((n : Int) == 0) = false := by simp; omega
  clear hw hx h0 hC hX hl16 hfc fx bx hm
  go_enter Try.func28, Try.ntmps28
  go_wp2_with (go_at_call 52; ((with_reducible refine K.mono ?_); rintro e w' ⟨rfl, rfl⟩))
  clear K
  go_loop [7, 8, 9] (fun bv dv iv => ∃ i : Nat, i ≤ n - 1 ∧ iv = .int .i64 ((n : Int) - 1 - i) ∧ bv = .float .f64 (clW x (L.tail.drop (n - 1 - i))).1 ∧ dv = .float .f64 (clW x (L.tail.drop (n - 1 - i))).2) (fun _ _ iv => (intOf iv).toNat)
  case atStart => exact ⟨0, Nat.zero_le _, by simp, by rw [Nat.sub_zero, CS.out.a8], by rw [Nat.sub_zero, CS.out.a8]⟩
  case round =>
    obtain ⟨i, hi, rfl, rfl, rfl⟩ := hrel
    by_cases hlt : i < n - 1
    · obtain ⟨⟨r1, r2, r3⟩, nx⟩ := CS.out.step i hlt
      obtain ⟨b, o, rfl, hc⟩ := ha.out (n - 1 - i) (by have := hn.out; omega)
      have r1 := run_mul _ _ _ r1
      have r2 := run_sub _ _ _ r2
      have r3 := run_add _ _ _ r3
      have hge : 1 ≤ (n : Int) - 1 - (i : Int) := by omega
      obtain ⟨u, hu⟩ : ∃ u, u = L.getD (n - 1 - i) 0 := ⟨_, rfl⟩
      rw [← hu] at hc r3 nx
      generalize (clW x (L.tail.drop (n - 1 - i))).1 = s at *
      generalize (clW x (L.tail.drop (n - 1 - i))).2 = d at *
      replace nx := Lib.hid nx
      generalize lX (mX (aX x x) s) d = l at *
      generalize mX (aX x x) s = m at *
      obtain ⟨y, hy⟩ : ∃ y, y = aX l u := ⟨_, rfl⟩
      rw [← hy] at r3 nx
      have e0 : (i : Int) ≤ (n : Int) - 1 := by omega
      have e2 : (n : Int) - 1 - (i : Int) < (n : Int) := by omega
      have e3 : ((n : Int) - 1 - (i : Int)).toNat = n - 1 - i := by omega
      clear hu hy CS
      generalize aX x x = xx at *
      go_wp2_with fail
      go_round
      case rel => exact ⟨i + 1, by omega, by go_num, by rw [nx.out], by rw [nx.out]⟩
      case measure => simp [intOf]; omega
    · obtain rfl : i = n - 1 := by omega
      obtain ⟨b, o, rfl, hc⟩ := ha.out 0 (by have := hn.out; omega)
      have r1 := run_mul _ _ _ CS.out.m
      have r2 := run_sub _ _ _ CS.out.l
      have r3 := run_add _ _ _ CS.out.s
      have r4 := run_add _ _ _ CS.out.p
      have ei : (n : Int) - 1 - ((n - 1 : Nat) : Int) = 0 := by omega
      rw [Nat.sub_self, List.drop_zero, ei]
      rw [Nat.add_zero] at hc
      have hpi : (0 : Int) < (n : Int) := by omega
      obtain ⟨u, hu⟩ : ∃ u, u = L.getD 0 0 := ⟨_, rfl⟩
      rw [← hu] at hc r3
      generalize (clW x L.tail).1 = s at *
      generalize (clW x L.tail).2 = d at *
      generalize lX (mX x s) d = l at *
      generalize mX x s = m at *
      obtain ⟨y, hy⟩ : ∃ y, y = chW x L := ⟨_, rfl⟩
      rw [← hy] at r3 r4
      replace hy := Lib.hid hy
      clear hu CS rd
      go_wp2_with fail
      go_ret2
      exact ⟨by rw [← hy.out]; rfl, rfl⟩
set_option maxRecDepth 100000 in
theorem rcheb_nil (ao : Option Addr) (cap n : Nat) (L : List Nat) (x : Nat) (w : World) (hn : n = L.length) (hz : n = 0) (hw : Words L) (ha : At w ao L) (hx : x < 18446744073709551616) (h0 : errX m00 L x = 0) :
    Calls Try.prog 28 #[.slice ao n cap, .float .f64 x] w fun e w' => e = .returned (fe 0 0) ∧ w = w' := by
  have K := rasked_zero ao cap n L x w hn (by omega) hw ha hx h0
  subst hz
  clear h0 hn hw ha hx
  go_enter Try.func28, Try.ntmps28
  go_wp2_with (go_at_call 52; ((with_reducible refine K.mono ?_); rintro e w' ⟨rfl, rfl⟩))
  go_ret2
  exact ⟨rfl, rfl⟩
set_option maxRecDepth 100000 in
theorem rcheb_ok (ao : Option Addr) (cap n : Nat) (L : List Nat) (x : Nat) (w : World) (hn : n = L.length) (hm : n ≤ 4611686018427387904) (hw : Words L) (ha : At w ao L) (hx : x < 18446744073709551616) (h0 : errX m00 L x = 0) :
    Calls Try.prog 28 #[.slice ao n cap, .float .f64 x] w fun e w' => e = .returned (fe (posW (chW x L)) 0) ∧ w = w' := by
  by_cases hz : n = 0
  · have := rcheb_nil ao cap n L x w hn hz hw ha hx h0
    have e : L = [] := List.eq_nil_of_length_eq_zero (by omega)
    rw [e]
    exact this
  · exact rcheb_some ao cap n L x w hn (by omega) hw ha hx hm h0
end Go.Proofs.Ytnmadknpkhaolaa

namespace Go.Proofs.Ytnmadknpkhaolaa
open Go.ChangeShapes Go.WideShapes Go.ChangeAt Go.RowKit Ieee.Own

end Go.Proofs.Ytnmadknpkhaolaa

namespace Go.Proofs.Ytnmadknpkhaolaa
open Go.ChangeShapes Go.WideShapes Go.ChangeAt Go.RowKit Ieee.Own

end Go.Proofs.Ytnmadknpkhaolaa

namespace Go.Proofs.Ytnmadknpkhaolaa
open Go.ChangeShapes Go.WideShapes Go.ChangeAt Go.RowKit Ieee.Own Pol

/-! ### the span of values -/
/-! ### hulls -/
/-! ### which part of a row -/
/-! ### the rows' spans, hulled -/
structure RkOk (L : List Nat) : Prop where
  w : Ws32 L
  may : mayB L = true
theorem RkOk.fc {L : List Nat} (h : RkOk L) : (L.map wideW).length ≤ 16 ∧ ∀ c ∈ L.map wideW, Fc c := errC_zero (ws_wide h.w) (mayB_true h.may).2
/-! ### the sum of magnitudes -/
def totL : List Nat → Nat → Nat
  | [], s => s
  | c :: cs, s => totL cs (aX s (c % 9223372036854775808))
theorem low_step {u T c k s s' : Rat} (u0 : 0 ≤ u) (u1 : 1000000 * u ≤ 1) (k0 : 0 ≤ k) (_k1 : k ≤ 2000) (T0 : 0 ≤ T) (c0 : 0 ≤ c) (h : T * (1 - k * u) ≤ s) (hr : Rd u 0 s' (s + c)) (hs : 0 ≤ s) : (T + c) * (1 - (k + 1) * u) ≤ s' := by
  have m := hr (s + c) (mag_nn (by grind))
  have l := (mag_le (s' - (s + c))).1
  have w1 := Rat.mul_nonneg u0 T0
  have w2 := Rat.mul_nonneg u0 c0
  have w3 := Rat.mul_nonneg u0 hs
  have x := Rat.mul_le_mul_of_nonneg_left h (show 0 ≤ 1 - u by grind)
  have y1 := Rat.mul_nonneg k0 w1
  have y2 := Rat.mul_nonneg u0 y1
  have y3 := Rat.mul_nonneg k0 w2
  have e1 : (1 - u) * (T * (1 - k * u)) = T - k * (u * T) - u * T + u * (k * (u * T)) := by grind
  have e2 : (T + c) * (1 - (k + 1) * u) = T + c - k * (u * T) - u * T - k * (u * c) - u * c := by grind
  have e3 : (1 - u) * s = s - u * s := by grind
  rw [e1, e3] at x
  rw [e2]
  have e4 : u * (s + c) + 0 = u * s + u * c := by grind
  rw [e4] at m
  generalize k * (u * T) = A at *
  generalize u * A = B at *
  generalize k * (u * c) = C at *
  generalize u * T = D at *
  generalize u * c = E at *
  generalize u * s = F at *
  grind
theorem rep_k {k : Nat} (h : k ≤ 2 ^ 53) (j : Nat) : Rep ((k : Int) * 2 ^ j) := ⟨k, j, h, by rw [Int.natAbs_mul, Int.natAbs_pow]; rfl⟩
theorem nat_small {v : Int} {k j l m : Nat} (e : m = j + l) (h0 : 0 ≤ v) (h : v ≤ (k : Int) * 2 ^ j) (hk : k ≤ 2 ^ l) : v.natAbs ≤ 2 ^ m := by
  subst e
  have a : (k : Int) * 2 ^ j ≤ ((2 ^ l : Nat) : Int) * 2 ^ j := Int.mul_le_mul_of_nonneg_right (Int.ofNat_le.2 hk) (Int.le_of_lt (pow1 j))
  have e : ((2 ^ l : Nat) : Int) * 2 ^ j = ((2 ^ (j + l) : Nat) : Int) := by
    rw [two_cast j, ← Int.natCast_mul, Nat.pow_add, Nat.mul_comm]
  rw [e] at a
  have b := Int.le_trans h a
  omega
/-! ### what is added at both ends -/
/-! ### Box along an axis -/
theorem uR_53h : uR * 9007199254740992 = 1 := by decide +kernel
theorem q_cap1 {x : Nat} (h : (V x).natAbs ≤ 2 ^ 1074) : mag (Q x) ≤ 1 := by
  have v1 := oneW_V.2
  have v2 := moneW_V.2
  have q1 : Q oneW = 1 := by decide +kernel
  have q2 : Q moneW = -1 := by decide +kernel
  have t := two_cast 1074
  have a : Q x ≤ Q oneW := Q_le.2 (by rw [v1]; omega)
  have b : Q moneW ≤ Q x := Q_le.2 (by rw [v2]; omega)
  rw [q1] at a
  rw [q2] at b
  exact mag_of b a
end Go.Proofs.Ytnmadknpkhaolaa

namespace Go.Proofs.Ytnmadknpkhaolaa
open Go.ChangeShapes Go.WideShapes Go.ChangeAt Go.RowKit Ieee.Own Pol

/-! ### +0 in binary32 -/
theorem signed_nat (s : Bool) (m e : Nat) : Ieee.signed s m e = if s then -((m * 2 ^ e : Nat) : Int) else ((m * 2 ^ e : Nat) : Int) := by
  unfold Ieee.signed
  rw [Nat.shiftLeft_eq]
theorem read_zero32 : Ieee.single.read 0 = .number false 0 (-149 + ((0 : Nat) : Int)) := by decide +kernel
theorem sum_zero32 (s : Bool) (m e : Nat) : ((Ieee.Datum.number s m (-149 + (e : Int))).sum (.number false 0 (-149 + ((0 : Nat) : Int)))) = some (.number (if m * 2 ^ e = 0 then false else s) (m * 2 ^ e) (-149)) := by
  unfold Ieee.Datum.sum
  have b : min (-149 + (e : Int)) (-149 + ((0 : Nat) : Int)) = -149 := by omega
  have e1 : (-149 + (e : Int) - -149).toNat = e := by omega
  have e2 : (-149 + ((0 : Nat) : Int) - -149).toNat = 0 := by omega
  have z : Ieee.signed false 0 0 = 0 := by decide
  dsimp only
  rw [b, e1, e2, z, Int.add_zero, signed_nat]
  generalize m * 2 ^ e = n
  cases s
  · by_cases h : n = 0
    · subst h; rfl
    · simp [h]
  · by_cases h : n = 0
    · subst h; rfl
    · have : ¬ (-(n : Int) = 0) := by omega
      simp [h]
      omega
def nz32 (x : Nat) : Nat := if x % 2147483648 = 0 then 0 else x
theorem add32_zero {x : Nat} (hx : x < 4294967296) (hn : x % 2147483648 < 2139095040) : Ieee.single.add x 0 = some (nz32 x) := by
  have hread : Ieee.single.read x = .number (x / Ieee.single.signWeight % 2 == 1) (mg 23 (x % 2147483648)) (-149 + (ex 23 (x % 2147483648) : Nat)) := by
    rw [read_num Ieee.single x (by rw [sw32, inf32]; exact hn), least32, frac32, sw32]
  obtain ⟨s, hs⟩ : ∃ s, s = (x / Ieee.single.signWeight % 2 == 1) := ⟨_, rfl⟩
  rw [← hs] at hread
  have hfw : x = Ieee.single.word s (x % 2147483648) := by
    rw [hs]; unfold Ieee.Format.word; rw [sw32]
    by_cases h : x < 2147483648
    · have e1 : x / 2147483648 = 0 := by omega
      rw [e1]; simp; omega
    · have e1 : x / 2147483648 = 1 := by omega
      rw [e1]; simp; omega
  unfold Ieee.Format.add
  rw [hread, read_zero32, sum_zero32]
  have v : mg 23 (x % 2147483648) * 2 ^ ex 23 (x % 2147483648) = val 23 (x % 2147483648) := rfl
  rw [v]
  have ne : Ieee.single.nearest (if val 23 (x % 2147483648) = 0 then false else s) (val 23 (x % 2147483648)) (-149) = Ieee.single.word (if val 23 (x % 2147483648) = 0 then false else s) (x % 2147483648) := by
    refine nearest_exact Ieee.single _ _ _ (x % 2147483648) 0 0 (by rw [inf32]; exact hn) ?_ (by rw [least32]; omega)
    rw [frac32, Nat.pow_zero, Nat.mul_one]
  show some (Ieee.single.nearest _ _ _) = _
  rw [ne]
  unfold nz32
  by_cases h : x % 2147483648 = 0
  · rw [if_pos h, h, val_zero, if_pos rfl]; rfl
  · have : val 23 (x % 2147483648) ≠ 0 := fun e => h ((val_zero_iff 23 _).1 e)
    rw [if_neg h, if_neg this, ← hfw]
/-! ### what a coefficient becomes -/
def pkW (c : Nat) : Nat := nz32 (narW c)
def rsW (c : Nat) : Nat := lX c (wideW (narW c))
theorem wide_zeros : wideW 0 = 0 ∧ V (wideW 2147483648) = 0 := by decide +kernel
structure PkOk (c : Nat) : Prop where
  n : NarOk c
  add : Ieee.single.add (narW c) 0 = some (pkW c)
  lt : pkW c < 4294967296
  v : V (wideW (pkW c)) = V (wideW (narW c))
  wfin : FinW (wideW (pkW c))
  run : Ieee.double.sub c (wideW (narW c)) = some (rsW c)
  rfin : FinW (rsW c)
  rv : V (rsW c) = RN (V c - V (wideW (narW c)))
  rabs : (V (rsW c)).natAbs ≤ 2 ^ 1115
theorem pk_ok {c : Nat} (h : Fc c) : PkOk c := by
  have fc := fit_fin h.lt h.fit
  have N := nar_ok fc h.bd
  obtain ⟨s1, s2, s3, s4⟩ := sub_ok (i := 1114) (k := 1115) fc N.fin h.bd N.abs (by omega) (by omega)
  have lt : pkW c < 4294967296 := by
    unfold pkW nz32
    split
    · omega
    · exact N.lt
  have v : V (wideW (pkW c)) = V (wideW (narW c)) ∧ FinW (wideW (pkW c)) := by
    by_cases z : narW c % 2147483648 = 0
    · have e : pkW c = 0 := if_pos z
      rw [e]
      have := N.lt
      have k : narW c = 0 ∨ narW c = 2147483648 := by omega
      rw [wide_zeros.1]
      refine ⟨?_, zero_fin⟩
      rcases k with k | k
      · rw [k, wide_zeros.1]
      · rw [k, wide_zeros.2, V_zero]
    · have e : pkW c = narW c := if_neg z
      rw [e]
      exact ⟨rfl, N.fin⟩
  exact ⟨N, add32_zero N.lt N.num, lt, v.1, v.2, s1, s2, s3, s4⟩
/-! ### sums of magnitudes from below -/
structure Sq (B : Int) (s k : Nat) (T : Rat) : Prop where
  fin : FinW s
  nn : 0 ≤ V s
  hi : V s ≤ (k : Int) * 2 ^ 1115
  low : T * (1 - (k : Rat) * uR) ≤ Q s
  t0 : 0 ≤ T
  z : V s = 0 ∨ B ≤ V s
theorem sqm_zero (B : Int) : Sq B 0 0 0 := ⟨zero_fin, by decide +kernel, by rw [V_zero, Int.natCast_zero, Int.zero_mul]; exact Int.le_refl _, by rw [Rat.zero_mul]; decide +kernel, by decide +kernel, .inl V_zero⟩
theorem sqm_step {B : Int} {s k c : Nat} {T : Rat} (RB : RN B = B) (S : Sq B s k T) (hk : k < 1500) (fc : FinW c) (bc0 : (V c).natAbs ≤ 2 ^ 1115) (zc : V c = 0 ∨ B ≤ ((V c).natAbs : Int)) : Sq B (aX s (c % 9223372036854775808)) (k + 1) (T + mag (Q c)) ∧ Ieee.double.add s (c % 9223372036854775808) = some (aX s (c % 9223372036854775808)) := by
  obtain ⟨fa, va⟩ := abs_word fc
  have bs : (V s).natAbs ≤ 2 ^ 1126 := nat_small (j := 1115) (l := 11) (m := 1126) (by omega) S.nn S.hi (by omega)
  have bc : (V (c % 9223372036854775808)).natAbs ≤ 2 ^ 1126 := by
    rw [va, Int.natAbs_natCast]; exact Nat.le_trans bc0 (two_le (a := 1115) (b := 1126) (by omega))
  obtain ⟨r, h1, h2, h3, -⟩ := addW (k := 1126) S.fin fa bs bc (by omega)
  have e : aX s (c % 9223372036854775808) = r := by unfold aX; rw [h1]; rfl
  rw [e]
  have cap : V (c % 9223372036854775808) ≤ 2 ^ 1115 := by
    rw [va, two_cast]; exact Int.ofNat_le.2 bc0
  have cn : 0 ≤ V (c % 9223372036854775808) := by rw [va]; exact Int.natCast_nonneg _
  have sum : V s + V (c % 9223372036854775808) ≤ ((k + 1 : Nat) : Int) * 2 ^ 1115 := by
    have := S.hi
    rw [Int.natCast_add, Int.add_mul]
    have e1 : ((1 : Nat) : Int) * 2 ^ 1115 = 2 ^ 1115 := Int.one_mul _
    rw [e1]
    exact Int.add_le_add this cap
  have zz : V r = 0 ∨ B ≤ V r := by
    rw [← va] at zc
    have up : B ≤ V s + V (c % 9223372036854775808) → B ≤ V r := fun h => by
      have := RN_mono h
      rw [RB] at this
      rw [h3]; exact this
    rcases S.z with z1 | z1
    · by_cases z2 : V (c % 9223372036854775808) = 0
      · left; rw [h3, z1, z2]; decide
      · right
        refine up ?_
        rcases zc with zc | zc
        · exfalso
          rw [va, zc] at z2
          exact z2 rfl
        · omega
    · right; exact up (by omega)
  refine ⟨⟨h2, ?_, ?_, ?_, ?_, zz⟩, h1⟩
  · rw [h3]; exact (RN_sign _).1 (by have := S.nn; omega)
  · have m := RN_mono sum
    rw [RN_exact (rep_k (by omega) 1115)] at m
    rw [h3]; exact m
  · have qm := Q_magW fc
    have R := rd_of (add_rel h3)
    rw [qm] at R
    have kk : ((k + 1 : Nat) : Rat) = (k : Rat) + 1 := by
      show (((k + 1 : Nat) : Int) : Rat) = ((k : Int) : Rat) + 1
      rw [Int.natCast_add, Rat.intCast_add]; rfl
    have k0 : (0 : Rat) ≤ (k : Rat) := Rat.intCast_nonneg.2 (by omega : (0 : Int) ≤ (k : Int))
    have k1 : (k : Rat) ≤ 2000 := by
      have : ((k : Int) : Rat) ≤ ((2000 : Int) : Rat) := Rat.intCast_le_intCast.2 (by omega)
      exact this
    rw [kk]
    exact low_step uR0 uR1 k0 k1 S.t0 (mag_le _).2.2 S.low R (Q_nnW S.nn)
  · have := S.t0
    have := (mag_le (Q c)).2.2
    grind
theorem sqm_all {B : Int} (RB : RN B = B) : ∀ (cs : List Nat) (s k : Nat) (T : Rat), Sq B s k T → (∀ c ∈ cs, FinW c ∧ (V c).natAbs ≤ 2 ^ 1115 ∧ (V c = 0 ∨ B ≤ ((V c).natAbs : Int))) → k + cs.length < 1500 → Sq B (totL cs s) (k + cs.length) (T + Pol.sm (cs.map Q))
  | [], s, k, T, S, _, _ => by
    show Sq B s k (T + 0)
    rw [Rat.add_zero]; exact S
  | c :: cs, s, k, T, S, hc, hk => by
    have hk' : k + 1 + cs.length < 1500 := by simp at hk; omega
    obtain ⟨a, b, d⟩ := hc c (List.mem_cons_self ..)
    have := sqm_all RB cs _ (k + 1) _ (sqm_step RB S (by omega) a b d).1 (fun d hd => hc d (List.mem_cons_of_mem _ hd)) hk'
    rw [show k + 1 + cs.length = k + (c :: cs).length by simp; omega] at this
    show Sq B (totL cs _) _ (T + (mag (Q c) + Pol.sm (cs.map Q)))
    rwa [← Rat.add_assoc]
/-! ### how far the numbers move -/
/-! ### what Pack tells -/
def p40 : Nat := 4787326403894837248
def ofW (L : List Nat) : Nat := totL (L.map rsW) 0
def ttW (L : List Nat) : Nat := totL L 0
def tdW (L : List Nat) : Nat := aX (ofW L) (qX (ttW L) p40)
structure TdOk (L : List Nat) : Prop where
  off : Sq 0 (ofW L) L.length (Pol.sm ((L.map rsW).map Q))
  tot : Sq (2 ^ 874) (ttW L) L.length (Pol.sm (L.map Q))
  q : Ieee.double.div (ttW L) p40 = some (qX (ttW L) p40)
  qf : FinW (qX (ttW L) p40)
  qv : Q (qX (ttW L) p40) * 1099511627776 = Q (ttW L)
  a : Ieee.double.add (ofW L) (qX (ttW L) p40) = some (tdW L)
  af : FinW (tdW L)
  av : V (tdW L) = RN (V (ofW L) + V (qX (ttW L) p40))
  nn : 0 ≤ V (tdW L)
  hi : (V (tdW L)).natAbs ≤ 2 ^ 1127
theorem rep874 : RN (2 ^ 874) = (2 ^ 874 : Int) := by
  have := RN_exact (rep_k (k := 1) (by omega) 874)
  rwa [Int.natCast_one, Int.one_mul] at this
theorem td_ok {L : List Nat} (h : ∀ c ∈ L, Fc c) (hl : L.length ≤ 16) : TdOk L := by
  have S1 := sqm_all (B := 0) (by decide) (L.map rsW) 0 0 0 (sqm_zero 0) (fun c hc => by
    obtain ⟨d, hd, rfl⟩ := List.mem_map.1 hc
    have P := pk_ok (h d hd)
    exact ⟨P.rfin, P.rabs, .inr (Int.natCast_nonneg _)⟩) (by simp; omega)
  have S2 := sqm_all (B := 2 ^ 874) rep874 L 0 0 0 (sqm_zero _) (fun c hc => by
    have F := h c hc
    have fc := fit_fin F.lt F.fit
    refine ⟨fc, Nat.le_trans F.bd (two_le (a := 1114) (b := 1115) (by omega)), ?_⟩
    rcases (fit_iff fc).1 F.fit with z | z
    · exact .inl z
    · right
      have : (2 ^ 874 : Int) ≤ leastV := by decide +kernel
      exact Int.le_trans this z.1) (by omega)
  rw [Nat.zero_add, Rat.zero_add] at S1 S2
  rw [List.length_map] at S1
  have b1 : (V (ofW L)).natAbs ≤ 2 ^ 1126 := nat_small (j := 1115) (l := 11) (m := 1126) (by omega) S1.nn S1.hi (by omega)
  have b2 : (V (ttW L)).natAbs ≤ 2 ^ 1126 := nat_small (j := 1115) (l := 11) (m := 1126) (by omega) S2.nn S2.hi (by omega)
  have f40 : FinW p40 := by unfold FinW p40; omega
  have n40 : V p40 ≠ 0 := by decide +kernel
  have key : ∃ r, Ieee.double.div (ttW L) p40 = some r ∧ FinW r ∧ V r * 2 ^ 40 = V (ttW L) := by
    by_cases z : V (ttW L) = 0
    · obtain ⟨r, h1, h2, h3⟩ := div_zero S2.fin z f40 n40
      exact ⟨r, h1, h2, by rw [h3, z]; rfl⟩
    · have lo : 2 ^ 874 ≤ (V (ttW L)).natAbs := nat_pow (k := 874) (S2.z.resolve_left z)
      exact div_pow' (j := 40) (k := 874) rfl (by decide) S2.fin lo (abs_up (k := 1126) (l := 1500) b2 (by omega)) (by omega)
  obtain ⟨r, h1, h2, h3⟩ := key
  have er : qX (ttW L) p40 = r := by unfold qX; rw [h1]; rfl
  have rn : 0 ≤ V r := by
    by_cases c : 0 ≤ V r
    · exact c
    · exfalso
      have := Int.mul_neg_of_neg_of_pos (show V r < 0 by omega) (pow1 40)
      have n2 : 0 ≤ V (ttW L) := S2.nn
      omega
  have rb : (V r).natAbs ≤ 2 ^ 1126 := by
    have : (V r).natAbs ≤ (V (ttW L)).natAbs := by
      rw [← h3, Int.natAbs_mul]
      exact Nat.le_mul_of_pos_right _ (by decide)
    exact Nat.le_trans this b2
  have qs : Q r * 1099511627776 = Q (ttW L) := by
    have e : ((V r * 2 ^ 40 : Int) : Rat) = (V (ttW L) : Rat) := by rw [h3]
    have c : ((2 ^ 40 : Int) : Rat) = 1099511627776 := by decide +kernel
    rw [Rat.intCast_mul, c, ← Q_unit, ← Q_unit] at e
    have up := unit_pos
    have z : (Q r * 1099511627776 - Q (ttW L)) * unit = 0 := by grind
    rcases Rat.mul_eq_zero.1 z with z | z <;> grind
  obtain ⟨a, g1, g2, g3, g4⟩ := addW (k := 1126) S1.fin h2 b1 rb (by omega)
  have g1' : Ieee.double.add (ofW L) r = some a := g1
  have ea : tdW L = a := by unfold tdW aX; rw [er, g1']; rfl
  refine ⟨S1, S2, by rw [er]; exact h1, by rw [er]; exact h2, by rw [er]; exact qs, by rw [ea, er]; exact g1, by rw [ea]; exact g2, by rw [ea, er]; exact g3, ?_, by rw [ea]; exact abs_up (k := 1126 + 1) (l := 1127) g4 (by omega)⟩
  rw [ea, g3]
  exact (RN_sign _).1 (by have := S1.nn; have : 0 ≤ V (ofW L) := this; omega)
end Go.Proofs.Ytnmadknpkhaolaa

namespace Go.Proofs.Ytnmadknpkhaolaa
open Go.ChangeShapes Go.WideShapes Go.ChangeAt Go.RowKit Ieee.Own Pol

theorem int_of_Q {a b c d : Nat} (h : Q a - Q b ≤ Q c + Q d) : V a - V b ≤ V c + V d := by
  refine Rat.intCast_le_intCast.1 ?_
  rw [Rat.intCast_sub, Rat.intCast_add, ← Q_unit, ← Q_unit, ← Q_unit, ← Q_unit]
  have := Rat.mul_le_mul_of_nonneg_right h (Rat.le_of_lt unit_pos)
  generalize unit = w at *
  grind
theorem abs_RN {z s : Int} (h1 : z ≤ s) (h2 : -z ≤ s) : ((RN z).natAbs : Int) ≤ RN s := by
  have a := RN_mono h1
  have b := RN_mono (show -s ≤ z by omega)
  rw [RN_neg] at b
  omega
theorem lenR {n : Nat} (h : n ≤ 16) : (n : Rat) ≤ 16 ∧ 0 ≤ (n : Rat) := by
  have : ((n : Int) : Rat) ≤ ((16 : Int) : Rat) := Rat.intCast_le_intCast.2 (by omega)
  exact ⟨this, Rat.intCast_nonneg.2 (by omega : (0 : Int) ≤ (n : Int))⟩
end Go.Proofs.Ytnmadknpkhaolaa
