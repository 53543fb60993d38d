/- Proved here: what the texts Hcf prove, one behind the other. -/
import Derived.Test.YtnmadknpkhaolaaJz15
import Derived.Test.YtnmadknpkhaolaaJz17
import Derived.Test.YtnmadknpkhaolaaJz9

namespace Go.Proofs.Ytnmadknpkhaolaa
open Go.ChangeShapes Go.WideShapes Go.ChangeAt Go.RowKit Ieee.Own

def twoW : Nat := 4611686018427387904
def moneW : Nat := 13830554455654793216
theorem twoW_V : FinW twoW ∧ V twoW = 2 * 2 ^ 1074 := ⟨by unfold FinW twoW; omega, by decide +kernel⟩
theorem oneW_V : FinW oneW ∧ V oneW = 2 ^ 1074 := ⟨by unfold FinW oneW; omega, by decide +kernel⟩
theorem moneW_V : FinW moneW ∧ V moneW = -2 ^ 1074 := ⟨by unfold FinW moneW; omega, by decide +kernel⟩
theorem oneW_ne : V oneW ≠ 0 := by decide +kernel
theorem m24_V : val 52 m24 = 2 ^ 1098 := by decide +kernel
theorem le_key {a b : Nat} (fa : FinW a) (fb : FinW b) (h : key64 a ≤ key64 b) : V a ≤ V b := by
  have g := o_leq a b fa.1 fb.1
  have l := le_words fa fb
  have e : decide (nn a ∧ nn b ∧ key64 a ≤ key64 b) = decide (V a ≤ V b) := g.symm.trans l
  rw [decide_eq_true (⟨fin_nn fa, fin_nn fb, h⟩ : nn a ∧ nn b ∧ key64 a ≤ key64 b)] at e
  exact of_decide_eq_true e.symm
structure StOk (x : Nat) : Prop where
  fin : FinW x
  lo : 2 ^ 1064 ≤ V x
  hi : V x ≤ 2 ^ 1098
theorem st_ok {x : Nat} (hx : x < 18446744073709551616) (h1 : lowB x = true) (h2 : topB x = true) : StOk x := by
  have a := of_decide_eq_true h1
  have b := of_decide_eq_true h2
  have ks : key64 s10 = 4562146422526312448 := by decide
  have km : key64 m24 = 4715268809856909312 := by decide
  have kx : key64 x = if x < 9223372036854775808 then (x : Int) else 9223372036854775808 - (x : Int) := rfl
  have fin : FinW x := by
    unfold FinW
    rw [ks] at a
    rw [km] at b
    split at kx <;> omega
  have f1 : FinW s10 := by unfold FinW s10; omega
  have f2 : FinW m24 := by unfold FinW m24; omega
  have v1 : V s10 = 2 ^ 1064 := by decide +kernel
  have v2 : V m24 = 2 ^ 1098 := by decide +kernel
  have l := le_key f1 fin a.2.2
  have u := le_key fin f2 b.2.2
  rw [v1] at l
  rw [v2] at u
  exact ⟨fin, l, u⟩
theorem nat_pow {z : Int} {k : Nat} (h : 2 ^ k ≤ z) : 2 ^ k ≤ z.natAbs := by
  have := two_cast k
  omega
theorem nat_cap {z : Int} {k : Nat} (h0 : 0 ≤ z) (h : z ≤ 2 ^ k) : z.natAbs ≤ 2 ^ k := by
  have := two_cast k
  omega
theorem pow1 (k : Nat) : (0 : Int) < 2 ^ k := Int.pow_pos (by decide)
theorem st_norm {x : Nat} (S : StOk x) : ∃ m q, Norm x false m q ∧ 1011 ≤ q ∧ q ≤ 1046 := by
  have p0 := pow1 1064
  have l := nat_pow S.lo
  have u := nat_cap (z := V x) (by have := S.lo; omega) S.hi
  obtain ⟨s, m, p, N⟩ := is_norm S.fin l (by omega)
  obtain ⟨p1, p2⟩ := norm_pl N l u (by omega) (by omega)
  have et : s = false := by
    cases s
    · rfl
    · have v := N.val
      have g := (sv_sign true m p).1 rfl
      have := S.lo
      omega
  subst et
  exact ⟨m, p, N, by omega, by omega⟩
/-! ### the quotient -/
def yH (t : Tb) (d : Nat) : Nat := qX (lX d t.fr) t.st
structure TmOk (d : Nat) : Prop where
  fin : FinW d
  dvd : (2 : Int) ^ 822 ∣ V d
  abs : (V d).natAbs ≤ 2 ^ 1098
theorem tm_ok {d : Nat} (hd : d < 18446744073709551616) (h : inM m24 d = true) : TmOk d := by
  obtain ⟨a, b, c⟩ := inM_bd hd h
  rw [m24_V] at c
  exact ⟨a, fit_822 hd b, c⟩
structure YOk (t : Tb) (d : Nat) : Prop where
  s : Ieee.double.sub d t.fr = some (lX d t.fr)
  v : V (lX d t.fr) = RN (V d - V t.fr)
  nm : NmOk (lX d t.fr)
  q : Ieee.double.div (lX d t.fr) t.st = some (yH t d)
  fin : FinW (yH t d)
  abs : (V (yH t d)).natAbs ≤ 2 ^ 1126
theorem abs_shift {a : Int} {j k : Nat} (ha : a.natAbs ≤ 2 ^ j) : (a * 2 ^ k).natAbs ≤ 2 ^ (j + k) := by
  rw [Int.natAbs_mul, Int.natAbs_pow, Nat.pow_add]
  exact Nat.mul_le_mul_right _ ha
theorem abs_quo {a y n : Int} {i j : Nat} (hn : 2 ^ i ≤ n) (ha : a.natAbs ≤ 2 ^ j) (h : 2 ^ 53 * (y * n - a * 2 ^ 1074).natAbs ≤ (y * n).natAbs) {k : Nat} (hk : j + 1075 ≤ i + k) : y.natAbs ≤ 2 ^ k := by
  have hn' := nat_pow hn
  rw [Int.natAbs_mul] at h
  have e : (a * 2 ^ 1074).natAbs ≤ 2 ^ (j + 1074) := abs_shift ha
  have b : y.natAbs * n.natAbs ≤ 2 * 2 ^ (j + 1074) := by
    have k1 : (y * n).natAbs ≤ (y * n - a * 2 ^ 1074).natAbs + (a * 2 ^ 1074).natAbs := by omega
    rw [Int.natAbs_mul] at k1
    generalize y.natAbs * n.natAbs = A at *
    generalize (y * n - a * 2 ^ 1074).natAbs = B at *
    generalize (a * 2 ^ 1074).natAbs = C at *
    omega
  have c : y.natAbs * 2 ^ i ≤ 2 ^ (j + 1075) := by
    have := Nat.mul_le_mul_left y.natAbs hn'
    rw [show j + 1075 = j + 1074 + 1 by omega, Nat.pow_succ]
    omega
  have d : 2 ^ (j + 1075) ≤ 2 ^ (i + k) := two_le hk
  rw [Nat.pow_add 2 i k, Nat.mul_comm (2 ^ i)] at d
  exact Nat.le_of_mul_le_mul_right (Nat.le_trans c d) (Nat.two_pow_pos i)
theorem y_ok {t : Tb} {d : Nat} (K : TbOk t) (hW : TbW t) (hd : d < 18446744073709551616) (hm : inM m24 d = true) : YOk t d := by
  have D := tm_ok hd hm
  have F := tm_ok hW.fr K.fr
  have S := st_ok hW.st K.lo K.hi
  obtain ⟨s1, s2, s3, s4⟩ := sub_ok (i := 1098) (k := 1099) D.fin F.fin D.abs F.abs (by omega) (by omega)
  have W : Wd (lX d t.fr) 822 1140 := ⟨s2, by rw [s3]; exact RN_dvd (Int.dvd_sub D.dvd F.dvd), abs_up (k := 1099) (l := 1140) s4 (by omega)⟩
  have nm : NmOk (lX d t.fr) := ⟨s2, wd_norm W⟩
  obtain ⟨m, q, N, n1, n2⟩ := st_norm S
  obtain ⟨q1, q2, q3⟩ := div_norm s2 (wd_norm W) N (by omega) (by omega)
  exact ⟨s1, s3, nm, q1, q2, abs_quo (i := 1064) (j := 1099) (k := 1126) S.lo s4 q3 (by omega)⟩
/-! ### the place in a row -/
def fH (y : Nat) : Nat := lX (mX (lX y (wholeW .down y)) twoW) oneW
structure FOk (y : Nat) : Prop where
  wf : FinW (wholeW .down y)
  wv : V (wholeW .down y) = V y / 2 ^ 1074 * 2 ^ 1074
  s : Ieee.double.sub y (wholeW .down y) = some (lX y (wholeW .down y))
  sf : FinW (lX y (wholeW .down y))
  sv : V (lX y (wholeW .down y)) = RN (V y - V y / 2 ^ 1074 * 2 ^ 1074)
  m : Ieee.double.mul (lX y (wholeW .down y)) twoW = some (mX (lX y (wholeW .down y)) twoW)
  mv : V (mX (lX y (wholeW .down y)) twoW) = RN (2 * V (lX y (wholeW .down y)))
  l : Ieee.double.sub (mX (lX y (wholeW .down y)) twoW) oneW = some (fH y)
  v : V (fH y) = RN (V (mX (lX y (wholeW .down y)) twoW) - 2 ^ 1074)
  nz : Nz (fH y)
  lo : -2 ^ 1074 ≤ V (fH y)
  hi : V (fH y) ≤ 2 ^ 1074
theorem rep_one : Rep (2 ^ 1074 : Int) := by have := Rep_V oneW; rwa [oneW_V.2] at this
theorem rep_two : Rep (2 * 2 ^ 1074 : Int) := by have := Rep_V twoW; rwa [twoW_V.2] at this
theorem f_step {U y r s m v : Int} (hU : 0 < U) (r1 : Rep U) (r2 : Rep (2 * U)) (r3 : Rep (-U)) (hr : r = y - y / U * U) (hs : s = RN r) (hm : m = RN (2 * s)) (hv : v = RN (m - U)) :
    0 ≤ s ∧ s ≤ U ∧ 0 ≤ m ∧ m ≤ 2 * U ∧ -U ≤ v ∧ v ≤ U := by
  have h1 := Int.emod_nonneg y (show U ≠ 0 by omega)
  have h2 := Int.emod_lt_of_pos y hU
  have h3 := Int.mul_ediv_add_emod y U
  have e : r = y % U := by rw [hr, Int.mul_comm]; omega
  have s0 : 0 ≤ s := by rw [hs]; exact (RN_sign _).1 (by omega)
  have s1 : s ≤ U := by
    have := RN_mono (x := r) (y := U) (by omega)
    rw [RN_exact r1] at this
    omega
  have m0 : 0 ≤ m := by rw [hm]; exact (RN_sign _).1 (by omega)
  have m1 : m ≤ 2 * U := by
    have := RN_mono (x := 2 * s) (y := 2 * U) (by omega)
    rw [RN_exact r2] at this
    omega
  have v0 : -U ≤ v := by
    have := RN_mono (x := -U) (y := m - U) (by omega)
    rw [RN_exact r3] at this
    omega
  have v1 : v ≤ U := by
    have := RN_mono (x := m - U) (y := U) (by omega)
    rw [RN_exact r1] at this
    omega
  exact ⟨s0, s1, m0, m1, v0, v1⟩
theorem floor_abs {y U : Int} {B : Nat} (hU : 0 < U) (h0 : 0 ≤ y) (h : y.natAbs ≤ B) : (y / U * U).natAbs ≤ B := by
  have h1 := Int.emod_nonneg y (show U ≠ 0 by omega)
  have h3 := Int.mul_ediv_add_emod y U
  rw [Int.mul_comm] at h3
  have h4 : 0 ≤ y / U * U := Int.mul_nonneg (Int.ediv_nonneg h0 (by omega)) (by omega)
  omega
theorem one_self : Ieee.double.sub oneW oneW = some 0 := sub_self oneW_V.1
theorem dbl_le {z : Int} {k l : Nat} (e : l = k + 1) (h : z.natAbs ≤ 2 ^ k) : (2 * z).natAbs ≤ 2 ^ l := by
  subst e
  rw [Int.natAbs_mul, Nat.pow_succ]
  have e : (2 : Int).natAbs = 2 := rfl
  rw [e]
  omega
theorem cap_dbl {x : Int} {k l : Nat} (e : l = k + 1) (h0 : 0 ≤ x) (h : x ≤ 2 * 2 ^ k) : x.natAbs ≤ 2 ^ l := by
  subst e
  have := two_cast k
  rw [Nat.pow_succ]
  omega
theorem f_ok {y : Nat} (fy : FinW y) (by_ : (V y).natAbs ≤ 2 ^ 1126) (h0 : 0 ≤ V y) : FOk y := by
  obtain ⟨wf, wv⟩ := floor_spec fy by_
  have U0 := pow1 1074
  have r3 : Rep (-2 ^ 1074 : Int) := by have := Rep_V moneW; rwa [moneW_V.2] at this
  have fl := f_step U0 rep_one rep_two r3 (y := V y) rfl rfl rfl rfl
  have wb : (V (wholeW .down y)).natAbs ≤ 2 ^ 1126 := by
    rw [wv]
    exact floor_abs U0 h0 by_
  obtain ⟨s1, s2, s3, -⟩ := sub_ok (i := 1126) (k := 1127) fy wf by_ wb (by omega) (by omega)
  rw [wv] at s3
  have sb : (V (lX y (wholeW .down y))).natAbs ≤ 2 ^ 1074 := nat_cap (k := 1074) (by rw [s3]; exact fl.1) (by rw [s3]; exact fl.2.1)
  have hN : V (lX y (wholeW .down y)) * V twoW = (2 * V (lX y (wholeW .down y))) * 2 ^ 1074 := by
    rw [twoW_V.2, ← Int.mul_assoc, Int.mul_comm _ 2]
  have hb : (2 * V (lX y (wholeW .down y))).natAbs ≤ 2 ^ 1075 := dbl_le (k := 1074) (l := 1075) (by omega) sb
  obtain ⟨r, m1, m2, m3⟩ := mulW s2 twoW_V.1 hN hb (by omega)
  have er : mX (lX y (wholeW .down y)) twoW = r := by unfold mX; rw [m1]; rfl
  rw [← er] at m1 m2 m3
  rw [← s3, ← m3] at fl
  have mb : (V (mX (lX y (wholeW .down y)) twoW)).natAbs ≤ 2 ^ 1075 := cap_dbl (k := 1074) (l := 1075) (by omega) fl.2.2.1 fl.2.2.2.1
  have ob : (V oneW).natAbs ≤ 2 ^ 1075 := by decide +kernel
  obtain ⟨l1, l2, l3, -⟩ := sub_ok (i := 1075) (k := 1076) m2 oneW_V.1 mb ob (by omega) (by omega)
  rw [oneW_V.2] at l3
  have nz : Nz (fH y) := by
    by_cases z : V (fH y) = 0
    · have e : V (mX (lX y (wholeW .down y)) twoW) = V oneW := by
        have k : RN (V (mX (lX y (wholeW .down y)) twoW) - 2 ^ 1074) = 0 := l3.symm.trans z
        have := RN_zero_iff k
        rw [oneW_V.2]; omega
      have e2 := V_pos_eq m2 oneW_V.1 e (by rw [e]; exact oneW_ne)
      have e3 : fH y = 0 := by
        show lX (mX (lX y (wholeW .down y)) twoW) oneW = 0
        rw [e2]
        unfold lX
        rw [one_self]; rfl
      rw [e3]
      exact ⟨zero_fin, by omega⟩
    · exact Nz.of l2 z
  have e4 : V (fH y) = RN (V (mX (lX y (wholeW .down y)) twoW) - 2 ^ 1074) := l3
  exact ⟨wf, wv, s1, s2, s3, m1, m3, l1, e4, nz, by rw [e4]; exact fl.2.2.2.2.1, by rw [e4]; exact fl.2.2.2.2.2⟩
/-! ### brought to a fit one -/
theorem bg_fit (x : Nat) : fitB (bgW x) = true := by
  unfold bgW
  by_cases h : fitB x = true
  · rw [if_pos h]; exact h
  · rw [if_neg h]; decide
theorem bg_nz {x : Nat} (h : Nz x) : Nz (bgW x) := by
  unfold bgW
  by_cases c : fitB x = true
  · rw [if_pos c]; exact h
  · rw [if_neg c]; exact ⟨zero_fin, by omega⟩
theorem most1200 : ((2 ^ 1200 : Nat) : Int) ≤ mostV := by decide +kernel
theorem bg_cases {x : Nat} (h : FinW x) (b : (V x).natAbs ≤ 2 ^ 1200) : V (bgW x) = V x ∨ (V (bgW x) = 0 ∧ ((V x).natAbs : Int) < leastV) := by
  unfold bgW
  by_cases c : fitB x = true
  · rw [if_pos c]; exact .inl rfl
  · rw [if_neg c]
    rw [fit_iff h] at c
    have := most1200
    by_cases z : V x = 0
    · left; rw [z]; exact V_zero
    · right
      exact ⟨V_zero, by
        by_cases q : leastV ≤ ((V x).natAbs : Int)
        · exact absurd (.inr ⟨q, by omega⟩) c
        · omega⟩
/-! ### the place -/
def plc (t : Tb) (d : Nat) : Nat × Nat :=
  if V (yH t d) ≤ 0 then (0, moneW) else if (t.rows.length : Int) * 2 ^ 1074 ≤ V (yH t d) then (t.rows.length - 1, oneW) else ((V (yH t d) / 2 ^ 1074).toNat, bgW (fH (yH t d)))
theorem plc_one {t : Tb} {d : Nat} (h : V (yH t d) ≤ 0) : plc t d = (0, moneW) := if_pos h
theorem plc_two {t : Tb} {d : Nat} (h : ¬ V (yH t d) ≤ 0) (h2 : (t.rows.length : Int) * 2 ^ 1074 ≤ V (yH t d)) : plc t d = (t.rows.length - 1, oneW) := by unfold plc; rw [if_neg h, if_pos h2]
theorem plc_three {t : Tb} {d : Nat} (h : ¬ V (yH t d) ≤ 0) (h2 : ¬ (t.rows.length : Int) * 2 ^ 1074 ≤ V (yH t d)) : plc t d = ((V (yH t d) / 2 ^ 1074).toNat, bgW (fH (yH t d))) := by unfold plc; rw [if_neg h, if_neg h2]
theorem one_fit : fitB oneW = true := by decide +kernel
structure PlOk (t : Tb) (p : Nat × Nat) : Prop where
  row : p.1 < t.rows.length
  nz : Nz p.2
  fit : fitB p.2 = true
  lo : -2 ^ 1074 ≤ V p.2
  hi : V p.2 ≤ 2 ^ 1074
theorem floor_lt {y U n : Int} (hU : 0 < U) (h0 : 0 ≤ y) (h : ¬ n * U ≤ y) : 0 ≤ y / U ∧ y / U < n := by
  refine ⟨Int.ediv_nonneg h0 (by omega), Int.ediv_lt_of_lt_mul hU (by omega)⟩
theorem toNat_lt {q : Int} {n : Nat} (h : 0 ≤ q) (g : q < n) : q.toNat < n := by omega
theorem bound_up {k : Nat} {z : Int} (h1 : -2 ^ k ≤ z) (h2 : z ≤ 2 ^ k) : z.natAbs ≤ 2 ^ k := by
  have := two_cast k
  omega
theorem pl_ok {t : Tb} {d : Nat} (Y : YOk t d) (hn : 0 < t.rows.length) : PlOk t (plc t d) := by
  have U0 := pow1 1074
  by_cases h : V (yH t d) ≤ 0
  · rw [plc_one h]
    refine ⟨hn, Nz.of moneW_V.1 (by decide +kernel), by decide +kernel, ?_, ?_⟩
    · show -2 ^ 1074 ≤ V moneW; rw [moneW_V.2]; exact Int.le_refl _
    · show V moneW ≤ 2 ^ 1074; rw [moneW_V.2]; omega
  · by_cases h2 : (t.rows.length : Int) * 2 ^ 1074 ≤ V (yH t d)
    · rw [plc_two h h2]
      refine ⟨by show t.rows.length - 1 < _; omega, Nz.of oneW_V.1 oneW_ne, one_fit, ?_, ?_⟩
      · show -2 ^ 1074 ≤ V oneW; rw [oneW_V.2]; omega
      · show V oneW ≤ 2 ^ 1074; rw [oneW_V.2]; exact Int.le_refl _
    · rw [plc_three h h2]
      have F := f_ok Y.fin Y.abs (by omega)
      have fl := floor_lt U0 (show 0 ≤ V (yH t d) by omega) h2
      have b := bound_up F.lo F.hi
      have c := bg_cases F.nz.fin (abs_up (k := 1074) (l := 1200) b (by omega))
      refine ⟨by show (V (yH t d) / 2 ^ 1074).toNat < _; exact toNat_lt fl.1 fl.2, bg_nz F.nz, bg_fit _, ?_, ?_⟩
      · show -2 ^ 1074 ≤ V (bgW _)
        have := F.lo
        rcases c with c | ⟨c, -⟩ <;> rw [c] <;> omega
      · show V (bgW _) ≤ 2 ^ 1074
        have := F.hi
        rcases c with c | ⟨c, -⟩ <;> rw [c] <;> omega
end Go.Proofs.Ytnmadknpkhaolaa
