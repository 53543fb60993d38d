/- Proved here: what the texts Hcf, Hta, Pwt, Pfn, Psm, Pho, Pnm, Hcg, Htb, Htc prove, one behind the other. -/
import Derived.Test.YtnmadknpkhaolaaJz15
import Derived.Test.YtnmadknpkhaolaaJz17
import Derived.Test.YtnmadknpkhaolaaJz9
import Derived.Test.YtnmadknpkhaolaaJz16
import Derived.Test.YtnmadknpkhaolaaJz8

namespace Go.Proofs.Ytnmadknpkhaolaa
open Go.ChangeShapes Go.WideShapes Go.ChangeAt Go.RowKit Ieee.Own

def twoW : Nat := 4611686018427387904
def moneW : Nat := 13830554455654793216
theorem twoW_V : FinW twoW ∧ V twoW = 2 * 2 ^ 1074 := ⟨by unfold FinW twoW; omega, by decide +kernel⟩
theorem oneW_V : FinW oneW ∧ V oneW = 2 ^ 1074 := ⟨by unfold FinW oneW; omega, by decide +kernel⟩
theorem moneW_V : FinW moneW ∧ V moneW = -2 ^ 1074 := ⟨by unfold FinW moneW; omega, by decide +kernel⟩
theorem oneW_ne : V oneW ≠ 0 := by decide +kernel
theorem m24_V : val 52 m24 = 2 ^ 1098 := by decide +kernel
theorem le_key {a b : Nat} (fa : FinW a) (fb : FinW b) (h : key64 a ≤ key64 b) : V a ≤ V b := by
  have g := o_leq a b fa.1 fb.1
  have l := le_words fa fb
  have e : decide (nn a ∧ nn b ∧ key64 a ≤ key64 b) = decide (V a ≤ V b) := g.symm.trans l
  rw [decide_eq_true (⟨fin_nn fa, fin_nn fb, h⟩ : nn a ∧ nn b ∧ key64 a ≤ key64 b)] at e
  exact of_decide_eq_true e.symm
structure StOk (x : Nat) : Prop where
  fin : FinW x
  lo : 2 ^ 1064 ≤ V x
  hi : V x ≤ 2 ^ 1098
theorem st_ok {x : Nat} (hx : x < 18446744073709551616) (h1 : lowB x = true) (h2 : topB x = true) : StOk x := by
  have a := of_decide_eq_true h1
  have b := of_decide_eq_true h2
  have ks : key64 s10 = 4562146422526312448 := by decide
  have km : key64 m24 = 4715268809856909312 := by decide
  have kx : key64 x = if x < 9223372036854775808 then (x : Int) else 9223372036854775808 - (x : Int) := rfl
  have fin : FinW x := by
    unfold FinW
    rw [ks] at a
    rw [km] at b
    split at kx <;> omega
  have f1 : FinW s10 := by unfold FinW s10; omega
  have f2 : FinW m24 := by unfold FinW m24; omega
  have v1 : V s10 = 2 ^ 1064 := by decide +kernel
  have v2 : V m24 = 2 ^ 1098 := by decide +kernel
  have l := le_key f1 fin a.2.2
  have u := le_key fin f2 b.2.2
  rw [v1] at l
  rw [v2] at u
  exact ⟨fin, l, u⟩
theorem nat_pow {z : Int} {k : Nat} (h : 2 ^ k ≤ z) : 2 ^ k ≤ z.natAbs := by
  have := two_cast k
  omega
theorem nat_cap {z : Int} {k : Nat} (h0 : 0 ≤ z) (h : z ≤ 2 ^ k) : z.natAbs ≤ 2 ^ k := by
  have := two_cast k
  omega
theorem pow1 (k : Nat) : (0 : Int) < 2 ^ k := Int.pow_pos (by decide)
theorem st_norm {x : Nat} (S : StOk x) : ∃ m q, Norm x false m q ∧ 1011 ≤ q ∧ q ≤ 1046 := by
  have p0 := pow1 1064
  have l := nat_pow S.lo
  have u := nat_cap (z := V x) (by have := S.lo; omega) S.hi
  obtain ⟨s, m, p, N⟩ := is_norm S.fin l (by omega)
  obtain ⟨p1, p2⟩ := norm_pl N l u (by omega) (by omega)
  have et : s = false := by
    cases s
    · rfl
    · have v := N.val
      have g := (sv_sign true m p).1 rfl
      have := S.lo
      omega
  subst et
  exact ⟨m, p, N, by omega, by omega⟩
/-! ### the quotient -/
def yH (t : Tb) (d : Nat) : Nat := qX (lX d t.fr) t.st
structure TmOk (d : Nat) : Prop where
  fin : FinW d
  dvd : (2 : Int) ^ 822 ∣ V d
  abs : (V d).natAbs ≤ 2 ^ 1098
theorem tm_ok {d : Nat} (hd : d < 18446744073709551616) (h : inM m24 d = true) : TmOk d := by
  obtain ⟨a, b, c⟩ := inM_bd hd h
  rw [m24_V] at c
  exact ⟨a, fit_822 hd b, c⟩
structure YOk (t : Tb) (d : Nat) : Prop where
  s : Ieee.double.sub d t.fr = some (lX d t.fr)
  v : V (lX d t.fr) = RN (V d - V t.fr)
  nm : NmOk (lX d t.fr)
  q : Ieee.double.div (lX d t.fr) t.st = some (yH t d)
  fin : FinW (yH t d)
  abs : (V (yH t d)).natAbs ≤ 2 ^ 1126
theorem abs_shift {a : Int} {j k : Nat} (ha : a.natAbs ≤ 2 ^ j) : (a * 2 ^ k).natAbs ≤ 2 ^ (j + k) := by
  rw [Int.natAbs_mul, Int.natAbs_pow, Nat.pow_add]
  exact Nat.mul_le_mul_right _ ha
theorem abs_quo {a y n : Int} {i j : Nat} (hn : 2 ^ i ≤ n) (ha : a.natAbs ≤ 2 ^ j) (h : 2 ^ 53 * (y * n - a * 2 ^ 1074).natAbs ≤ (y * n).natAbs) {k : Nat} (hk : j + 1075 ≤ i + k) : y.natAbs ≤ 2 ^ k := by
  have hn' := nat_pow hn
  rw [Int.natAbs_mul] at h
  have e : (a * 2 ^ 1074).natAbs ≤ 2 ^ (j + 1074) := abs_shift ha
  have b : y.natAbs * n.natAbs ≤ 2 * 2 ^ (j + 1074) := by
    have k1 : (y * n).natAbs ≤ (y * n - a * 2 ^ 1074).natAbs + (a * 2 ^ 1074).natAbs := by omega
    rw [Int.natAbs_mul] at k1
    generalize y.natAbs * n.natAbs = A at *
    generalize (y * n - a * 2 ^ 1074).natAbs = B at *
    generalize (a * 2 ^ 1074).natAbs = C at *
    omega
  have c : y.natAbs * 2 ^ i ≤ 2 ^ (j + 1075) := by
    have := Nat.mul_le_mul_left y.natAbs hn'
    rw [show j + 1075 = j + 1074 + 1 by omega, Nat.pow_succ]
    omega
  have d : 2 ^ (j + 1075) ≤ 2 ^ (i + k) := two_le hk
  rw [Nat.pow_add 2 i k, Nat.mul_comm (2 ^ i)] at d
  exact Nat.le_of_mul_le_mul_right (Nat.le_trans c d) (Nat.two_pow_pos i)
theorem y_ok {t : Tb} {d : Nat} (K : TbOk t) (hW : TbW t) (hd : d < 18446744073709551616) (hm : inM m24 d = true) : YOk t d := by
  have D := tm_ok hd hm
  have F := tm_ok hW.fr K.fr
  have S := st_ok hW.st K.lo K.hi
  obtain ⟨s1, s2, s3, s4⟩ := sub_ok (i := 1098) (k := 1099) D.fin F.fin D.abs F.abs (by omega) (by omega)
  have W : Wd (lX d t.fr) 822 1140 := ⟨s2, by rw [s3]; exact RN_dvd (Int.dvd_sub D.dvd F.dvd), abs_up (k := 1099) (l := 1140) s4 (by omega)⟩
  have nm : NmOk (lX d t.fr) := ⟨s2, wd_norm W⟩
  obtain ⟨m, q, N, n1, n2⟩ := st_norm S
  obtain ⟨q1, q2, q3⟩ := div_norm s2 (wd_norm W) N (by omega) (by omega)
  exact ⟨s1, s3, nm, q1, q2, abs_quo (i := 1064) (j := 1099) (k := 1126) S.lo s4 q3 (by omega)⟩
/-! ### the place in a row -/
def fH (y : Nat) : Nat := lX (mX (lX y (wholeW .down y)) twoW) oneW
structure FOk (y : Nat) : Prop where
  wf : FinW (wholeW .down y)
  wv : V (wholeW .down y) = V y / 2 ^ 1074 * 2 ^ 1074
  s : Ieee.double.sub y (wholeW .down y) = some (lX y (wholeW .down y))
  sf : FinW (lX y (wholeW .down y))
  sv : V (lX y (wholeW .down y)) = RN (V y - V y / 2 ^ 1074 * 2 ^ 1074)
  m : Ieee.double.mul (lX y (wholeW .down y)) twoW = some (mX (lX y (wholeW .down y)) twoW)
  mv : V (mX (lX y (wholeW .down y)) twoW) = RN (2 * V (lX y (wholeW .down y)))
  l : Ieee.double.sub (mX (lX y (wholeW .down y)) twoW) oneW = some (fH y)
  v : V (fH y) = RN (V (mX (lX y (wholeW .down y)) twoW) - 2 ^ 1074)
  nz : Nz (fH y)
  lo : -2 ^ 1074 ≤ V (fH y)
  hi : V (fH y) ≤ 2 ^ 1074
theorem rep_one : Rep (2 ^ 1074 : Int) := by have := Rep_V oneW; rwa [oneW_V.2] at this
theorem rep_two : Rep (2 * 2 ^ 1074 : Int) := by have := Rep_V twoW; rwa [twoW_V.2] at this
theorem f_step {U y r s m v : Int} (hU : 0 < U) (r1 : Rep U) (r2 : Rep (2 * U)) (r3 : Rep (-U)) (hr : r = y - y / U * U) (hs : s = RN r) (hm : m = RN (2 * s)) (hv : v = RN (m - U)) :
    0 ≤ s ∧ s ≤ U ∧ 0 ≤ m ∧ m ≤ 2 * U ∧ -U ≤ v ∧ v ≤ U := by
  have h1 := Int.emod_nonneg y (show U ≠ 0 by omega)
  have h2 := Int.emod_lt_of_pos y hU
  have h3 := Int.mul_ediv_add_emod y U
  have e : r = y % U := by rw [hr, Int.mul_comm]; omega
  have s0 : 0 ≤ s := by rw [hs]; exact (RN_sign _).1 (by omega)
  have s1 : s ≤ U := by
    have := RN_mono (x := r) (y := U) (by omega)
    rw [RN_exact r1] at this
    omega
  have m0 : 0 ≤ m := by rw [hm]; exact (RN_sign _).1 (by omega)
  have m1 : m ≤ 2 * U := by
    have := RN_mono (x := 2 * s) (y := 2 * U) (by omega)
    rw [RN_exact r2] at this
    omega
  have v0 : -U ≤ v := by
    have := RN_mono (x := -U) (y := m - U) (by omega)
    rw [RN_exact r3] at this
    omega
  have v1 : v ≤ U := by
    have := RN_mono (x := m - U) (y := U) (by omega)
    rw [RN_exact r1] at this
    omega
  exact ⟨s0, s1, m0, m1, v0, v1⟩
theorem floor_abs {y U : Int} {B : Nat} (hU : 0 < U) (h0 : 0 ≤ y) (h : y.natAbs ≤ B) : (y / U * U).natAbs ≤ B := by
  have h1 := Int.emod_nonneg y (show U ≠ 0 by omega)
  have h3 := Int.mul_ediv_add_emod y U
  rw [Int.mul_comm] at h3
  have h4 : 0 ≤ y / U * U := Int.mul_nonneg (Int.ediv_nonneg h0 (by omega)) (by omega)
  omega
theorem one_self : Ieee.double.sub oneW oneW = some 0 := sub_self oneW_V.1
theorem dbl_le {z : Int} {k l : Nat} (e : l = k + 1) (h : z.natAbs ≤ 2 ^ k) : (2 * z).natAbs ≤ 2 ^ l := by
  subst e
  rw [Int.natAbs_mul, Nat.pow_succ]
  have e : (2 : Int).natAbs = 2 := rfl
  rw [e]
  omega
theorem cap_dbl {x : Int} {k l : Nat} (e : l = k + 1) (h0 : 0 ≤ x) (h : x ≤ 2 * 2 ^ k) : x.natAbs ≤ 2 ^ l := by
  subst e
  have := two_cast k
  rw [Nat.pow_succ]
  omega
theorem f_ok {y : Nat} (fy : FinW y) (by_ : (V y).natAbs ≤ 2 ^ 1126) (h0 : 0 ≤ V y) : FOk y := by
  obtain ⟨wf, wv⟩ := floor_spec fy by_
  have U0 := pow1 1074
  have r3 : Rep (-2 ^ 1074 : Int) := by have := Rep_V moneW; rwa [moneW_V.2] at this
  have fl := f_step U0 rep_one rep_two r3 (y := V y) rfl rfl rfl rfl
  have wb : (V (wholeW .down y)).natAbs ≤ 2 ^ 1126 := by
    rw [wv]
    exact floor_abs U0 h0 by_
  obtain ⟨s1, s2, s3, -⟩ := sub_ok (i := 1126) (k := 1127) fy wf by_ wb (by omega) (by omega)
  rw [wv] at s3
  have sb : (V (lX y (wholeW .down y))).natAbs ≤ 2 ^ 1074 := nat_cap (k := 1074) (by rw [s3]; exact fl.1) (by rw [s3]; exact fl.2.1)
  have hN : V (lX y (wholeW .down y)) * V twoW = (2 * V (lX y (wholeW .down y))) * 2 ^ 1074 := by
    rw [twoW_V.2, ← Int.mul_assoc, Int.mul_comm _ 2]
  have hb : (2 * V (lX y (wholeW .down y))).natAbs ≤ 2 ^ 1075 := dbl_le (k := 1074) (l := 1075) (by omega) sb
  obtain ⟨r, m1, m2, m3⟩ := mulW s2 twoW_V.1 hN hb (by omega)
  have er : mX (lX y (wholeW .down y)) twoW = r := by unfold mX; rw [m1]; rfl
  rw [← er] at m1 m2 m3
  rw [← s3, ← m3] at fl
  have mb : (V (mX (lX y (wholeW .down y)) twoW)).natAbs ≤ 2 ^ 1075 := cap_dbl (k := 1074) (l := 1075) (by omega) fl.2.2.1 fl.2.2.2.1
  have ob : (V oneW).natAbs ≤ 2 ^ 1075 := by decide +kernel
  obtain ⟨l1, l2, l3, -⟩ := sub_ok (i := 1075) (k := 1076) m2 oneW_V.1 mb ob (by omega) (by omega)
  rw [oneW_V.2] at l3
  have nz : Nz (fH y) := by
    by_cases z : V (fH y) = 0
    · have e : V (mX (lX y (wholeW .down y)) twoW) = V oneW := by
        have k : RN (V (mX (lX y (wholeW .down y)) twoW) - 2 ^ 1074) = 0 := l3.symm.trans z
        have := RN_zero_iff k
        rw [oneW_V.2]; omega
      have e2 := V_pos_eq m2 oneW_V.1 e (by rw [e]; exact oneW_ne)
      have e3 : fH y = 0 := by
        show lX (mX (lX y (wholeW .down y)) twoW) oneW = 0
        rw [e2]
        unfold lX
        rw [one_self]; rfl
      rw [e3]
      exact ⟨zero_fin, by omega⟩
    · exact Nz.of l2 z
  have e4 : V (fH y) = RN (V (mX (lX y (wholeW .down y)) twoW) - 2 ^ 1074) := l3
  exact ⟨wf, wv, s1, s2, s3, m1, m3, l1, e4, nz, by rw [e4]; exact fl.2.2.2.2.1, by rw [e4]; exact fl.2.2.2.2.2⟩
/-! ### brought to a fit one -/
theorem bg_fit (x : Nat) : fitB (bgW x) = true := by
  unfold bgW
  by_cases h : fitB x = true
  · rw [if_pos h]; exact h
  · rw [if_neg h]; decide
theorem bg_nz {x : Nat} (h : Nz x) : Nz (bgW x) := by
  unfold bgW
  by_cases c : fitB x = true
  · rw [if_pos c]; exact h
  · rw [if_neg c]; exact ⟨zero_fin, by omega⟩
theorem most1200 : ((2 ^ 1200 : Nat) : Int) ≤ mostV := by decide +kernel
theorem bg_cases {x : Nat} (h : FinW x) (b : (V x).natAbs ≤ 2 ^ 1200) : V (bgW x) = V x ∨ (V (bgW x) = 0 ∧ ((V x).natAbs : Int) < leastV) := by
  unfold bgW
  by_cases c : fitB x = true
  · rw [if_pos c]; exact .inl rfl
  · rw [if_neg c]
    rw [fit_iff h] at c
    have := most1200
    by_cases z : V x = 0
    · left; rw [z]; exact V_zero
    · right
      exact ⟨V_zero, by
        by_cases q : leastV ≤ ((V x).natAbs : Int)
        · exact absurd (.inr ⟨q, by omega⟩) c
        · omega⟩
/-! ### the place -/
def plc (t : Tb) (d : Nat) : Nat × Nat :=
  if V (yH t d) ≤ 0 then (0, moneW) else if (t.rows.length : Int) * 2 ^ 1074 ≤ V (yH t d) then (t.rows.length - 1, oneW) else ((V (yH t d) / 2 ^ 1074).toNat, bgW (fH (yH t d)))
theorem plc_one {t : Tb} {d : Nat} (h : V (yH t d) ≤ 0) : plc t d = (0, moneW) := if_pos h
theorem plc_two {t : Tb} {d : Nat} (h : ¬ V (yH t d) ≤ 0) (h2 : (t.rows.length : Int) * 2 ^ 1074 ≤ V (yH t d)) : plc t d = (t.rows.length - 1, oneW) := by unfold plc; rw [if_neg h, if_pos h2]
theorem plc_three {t : Tb} {d : Nat} (h : ¬ V (yH t d) ≤ 0) (h2 : ¬ (t.rows.length : Int) * 2 ^ 1074 ≤ V (yH t d)) : plc t d = ((V (yH t d) / 2 ^ 1074).toNat, bgW (fH (yH t d))) := by unfold plc; rw [if_neg h, if_neg h2]
theorem one_fit : fitB oneW = true := by decide +kernel
structure PlOk (t : Tb) (p : Nat × Nat) : Prop where
  row : p.1 < t.rows.length
  nz : Nz p.2
  fit : fitB p.2 = true
  lo : -2 ^ 1074 ≤ V p.2
  hi : V p.2 ≤ 2 ^ 1074
theorem floor_lt {y U n : Int} (hU : 0 < U) (h0 : 0 ≤ y) (h : ¬ n * U ≤ y) : 0 ≤ y / U ∧ y / U < n := by
  refine ⟨Int.ediv_nonneg h0 (by omega), Int.ediv_lt_of_lt_mul hU (by omega)⟩
theorem toNat_lt {q : Int} {n : Nat} (h : 0 ≤ q) (g : q < n) : q.toNat < n := by omega
theorem bound_up {k : Nat} {z : Int} (h1 : -2 ^ k ≤ z) (h2 : z ≤ 2 ^ k) : z.natAbs ≤ 2 ^ k := by
  have := two_cast k
  omega
theorem pl_ok {t : Tb} {d : Nat} (Y : YOk t d) (hn : 0 < t.rows.length) : PlOk t (plc t d) := by
  have U0 := pow1 1074
  by_cases h : V (yH t d) ≤ 0
  · rw [plc_one h]
    refine ⟨hn, Nz.of moneW_V.1 (by decide +kernel), by decide +kernel, ?_, ?_⟩
    · show -2 ^ 1074 ≤ V moneW; rw [moneW_V.2]; exact Int.le_refl _
    · show V moneW ≤ 2 ^ 1074; rw [moneW_V.2]; omega
  · by_cases h2 : (t.rows.length : Int) * 2 ^ 1074 ≤ V (yH t d)
    · rw [plc_two h h2]
      refine ⟨by show t.rows.length - 1 < _; omega, Nz.of oneW_V.1 oneW_ne, one_fit, ?_, ?_⟩
      · show -2 ^ 1074 ≤ V oneW; rw [oneW_V.2]; omega
      · show V oneW ≤ 2 ^ 1074; rw [oneW_V.2]; exact Int.le_refl _
    · rw [plc_three h h2]
      have F := f_ok Y.fin Y.abs (by omega)
      have fl := floor_lt U0 (show 0 ≤ V (yH t d) by omega) h2
      have b := bound_up F.lo F.hi
      have c := bg_cases F.nz.fin (abs_up (k := 1074) (l := 1200) b (by omega))
      refine ⟨by show (V (yH t d) / 2 ^ 1074).toNat < _; exact toNat_lt fl.1 fl.2, bg_nz F.nz, bg_fit _, ?_, ?_⟩
      · show -2 ^ 1074 ≤ V (bgW _)
        have := F.lo
        rcases c with c | ⟨c, -⟩ <;> rw [c] <;> omega
      · show V (bgW _) ≤ 2 ^ 1074
        have := F.hi
        rcases c with c | ⟨c, -⟩ <;> rw [c] <;> omega
end Go.Proofs.Ytnmadknpkhaolaa

namespace Ieee.Own
open Ieee Go.Proofs.Ytnmadknpkhaolaa
theorem add_zero_w {a b : Nat} (ha : FinW a) (hb : FinW b) (h : V a + V b = 0) (hz : a < 9223372036854775808 ∨ b < 9223372036854775808) : double.add a b = some 0 := by
  have hsign : ∀ {c : Nat}, FinW c → ∀ {s : Bool} {m : Nat} {p : Int}, double.read c = .number s m p → (s = true ↔ 9223372036854775808 ≤ c) := by
    intro c hc s m p hr
    rw [read_num double c (by rw [sw64, inf64]; exact hc.2)] at hr
    simp only [Datum.number.injEq] at hr
    have h1 := hc.1
    rw [sw64] at hr
    rw [← hr.1]
    simp; omega
  obtain ⟨s, m, p, hr, hV, -⟩ := read_sv ha
  obtain ⟨t, n, q, hr', hV', -⟩ := read_sv hb
  have s1 := hsign ha hr
  have s2 := hsign hb hr'
  have hst : (s && t) = false := by
    cases s
    · rfl
    · cases t
      · rfl
      · have := s1.1 rfl; have := s2.1 rfl; omega
  unfold Format.add
  rw [hr, hr']
  simp only [Datum.sum, Option.map]
  have hal : _ = sv s m p + sv t n q := signed_align s t m n p q
  rw [← hV, ← hV', h] at hal
  generalize signed s m (-1074 + (p : Int) - min (-1074 + (p : Int)) (-1074 + (q : Int))).toNat + signed t n (-1074 + (q : Int) - min (-1074 + (p : Int)) (-1074 + (q : Int))).toNat = T at *
  have hT : T = 0 := by
    have hp : (0 : Int) < 2 ^ (min p q) := Int.pow_pos (by omega)
    rcases Int.mul_eq_zero.1 hal with h | h
    · exact h
    · omega
  subst hT
  simp only [if_true, hst]
  simp only [Format.write, Format.nearest, Int.natAbs_zero, if_true]
  congr 1
end Ieee.Own
namespace Go.Proofs.Ytnmadknpkhaolaa
open Go.ChangeShapes Go.WideShapes Go.ChangeAt Go.RowKit Ieee.Own Pol

/-! ### angles -/
def nrN (n : Nat) : Nat := FloatKind.f64.nearest (n : Int)
def angW (m n : Nat) : Nat := qX (nrN m) (nrN (4 * n))
def angB (m n : Nat) : Bool := decide (Ieee.double.div (nrN m) (nrN (4 * n)) = some (angW m n)) && decide (angW m n < 18446744073709551616) && decide (errA (angW m n) = 0)
theorem ang_all : ((List.range 16).all fun n => (List.range 466).all fun m => angB m (n + 1)) = true := by decide +kernel
structure AgO (m n : Nat) : Prop where
  run : Ieee.double.div (nrN m) (nrN (4 * n)) = some (angW m n)
  lt : angW m n < 18446744073709551616
  er : errA (angW m n) = 0
theorem ago {m n : Nat} (hm : m ≤ 465) (h0 : 0 < n) (hn : n ≤ 16) : AgO m n := by
  have h := ang_all
  rw [List.all_eq_true] at h
  have h1 := h (n - 1) (List.mem_range.2 (by omega))
  rw [List.all_eq_true] at h1
  have h2 := h1 m (List.mem_range.2 (by omega))
  rw [show n - 1 + 1 = n by omega] at h2
  unfold angB at h2
  simp only [Bool.and_eq_true, decide_eq_true_eq] at h2
  exact ⟨h2.1.1, h2.1.2, h2.2⟩
/-! ### cosines -/
open Classical in
noncomputable def csN (x : Nat) : Nat := if h : ∃ c s k, BothR x s c k then h.choose else 0
theorem csN_eq {x s c : Nat} {k : Int} (B : BothR x s c k) : csN x = c := by
  have e : ∃ c s k, BothR x s c k := ⟨c, s, k, B⟩
  unfold csN
  rw [dif_pos e]
  obtain ⟨t, l, D⟩ := e.choose_spec
  exact (D.uniq B).2.1
theorem trig_c {x s c : Nat} (A : Ang x) (T : Trig x s c) : Wd c 768 1075 := by
  obtain ⟨⟨r, R, e, f⟩, sz, cz⟩ := T
  have s := (R.rest A).sin_wd
  have c := (R.rest A).cos_wd
  have d : ∀ k : Int, (2 : Int) ^ 768 ∣ vq k (V (sinX r)) (V (cosX r)) ∧ (vq k (V (sinX r)) (V (cosX r))).natAbs ≤ 2 ^ 1075 := fun k => by
    have := s.abs
    have := c.abs
    unfold vq
    repeat' split
    · exact ⟨s.dvd, by omega⟩
    · exact ⟨c.dvd, by omega⟩
    · exact ⟨Int.dvd_neg.2 s.dvd, by omega⟩
    · exact ⟨Int.dvd_neg.2 c.dvd, by omega⟩
  exact ⟨cz.fin, by rw [f]; exact (d _).1, by rw [f]; exact (d _).2⟩
theorem csN_wd {m n : Nat} (A : AgO m n) : Wd (csN (angW m n)) 768 1075 := by
  obtain ⟨s, c, k, B, -⟩ := uboth_run A.lt
  rw [csN_eq B]
  have k0 : k = 0 := by rw [B.err, A.er]
  exact trig_c (errA_ang A.lt A.er) (B.ok k0)
/-! ### products both ways round -/
theorem mul_comm64 (a b : Nat) : Ieee.double.mul a b = Ieee.double.mul b a := by
  unfold Ieee.Format.mul
  congr 1
  generalize Ieee.double.read a = x
  generalize Ieee.double.read b = y
  cases x with
  | nan => cases y <;> rfl
  | infinity s =>
    cases y with
    | nan => rfl
    | infinity t => cases s <;> cases t <;> rfl
    | number t n i => simp only [Ieee.Datum.product]
  | number s m i =>
    cases y with
    | nan => rfl
    | infinity t => simp only [Ieee.Datum.product]
    | number t n j => simp only [Ieee.Datum.product, Bool.xor_comm, Nat.mul_comm, Int.add_comm]
/-! ### sums -/
structure Fs (s i : Nat) : Prop where
  wd : Wd s 516 (1116 + i)
  nz : Nz s
theorem fs_zero : Fs 0 0 := ⟨⟨zero_fin, by rw [V_zero]; exact Int.dvd_zero _, by rw [V_zero]; exact Nat.zero_le _⟩, ⟨zero_fin, by omega⟩⟩
theorem fc_wd {v : Nat} (h : Fc v) : Wd v 822 1114 := ⟨fit_fin h.lt h.fit, fit_822 h.lt h.fit, h.bd⟩
theorem V_le_of {a : Nat} (h : 9223372036854775808 ≤ a) : V a ≤ 0 := by
  unfold V
  rw [if_neg (by omega)]
  omega
theorem wd_z {r a b : Nat} (h : Nz a) (fb : FinW b) (e : Ieee.double.add a b = some r) (f : FinW r) (v : V r = RN (V a + V b)) : Nz r := by
  by_cases z : V r = 0
  · have s := RN_zero_iff (v.symm.trans z)
    have key : a < 9223372036854775808 ∨ b < 9223372036854775808 := by
      by_cases c : a < 9223372036854775808
      · exact .inl c
      · by_cases d : b < 9223372036854775808
        · exact .inr d
        · exfalso
          have ga := V_le_of (a := a) (by omega)
          have gb := V_le_of (a := b) (by omega)
          have za : V a = 0 := by omega
          have := h.zero za
          omega
    rw [add_zero_w h.fin fb s key] at e
    have : r = 0 := (Option.some.inj e).symm
    rw [this]
    exact ⟨zero_fin, by omega⟩
  · exact Nz.of f z
structure FsR (s v c i : Nat) : Prop where
  m : Ieee.double.mul v c = some (mX v c)
  a : Ieee.double.add s (mX v c) = some (aX s (mX v c))
  f : Fs (aX s (mX v c)) (i + 1)
theorem fs_step {s v c i : Nat} (S : Fs s i) (hi : i ≤ 20) (hv : Fc v) (hc : Wd c 768 1075) : FsR s v c i := by
  obtain ⟨m1, m2, -⟩ := (fc_wd hv).mul hc (by omega) (by omega) (by omega)
  have m3 : Wd (mX v c) 516 (1116 + i) := m2.le (by omega) (by omega)
  obtain ⟨a1, a2, -⟩ := S.wd.add m3 (by omega)
  obtain ⟨r, h1, h2, h3, -⟩ := addW S.wd.fin m3.fin S.wd.abs m3.abs (by omega)
  have er : aX s (mX v c) = r := by unfold aX; rw [h1]; rfl
  exact ⟨m1, a1, ⟨a2, wd_z S.nz m3.fin a1 a2.fin (by rw [er]; exact h3)⟩⟩
/-- twice a sum -/
theorem two_wd : Wd twoW 1075 1075 := ⟨twoW_V.1, by decide +kernel, by decide +kernel⟩
structure FsD (s : Nat) : Prop where
  m : Ieee.double.mul s twoW = some (mX s twoW)
  m2 : Ieee.double.mul twoW s = some (mX s twoW)
  wd : Wd (mX s twoW) 516 1140
  nz : Nz s → Nz (mX s twoW)
theorem fs_two {s i : Nat} (S : Fs s i) (hi : i ≤ 20) : FsD s := by
  obtain ⟨m1, m2, -⟩ := S.wd.mul two_wd (by omega) (by omega) (by omega)
  refine ⟨m1, by rw [mul_comm64]; exact m1, m2.le (by omega) (by omega), fun N => ?_⟩
  obtain ⟨r, h1, h2, h3⟩ := mulW S.wd.fin twoW_V.1 (N := 2 * V s) (by rw [twoW_V.2, ← Int.mul_assoc, Int.mul_comm _ 2]) (dbl_le (k := 1136) (l := 1137) (by omega) (Nat.le_trans S.wd.abs (two_le (a := 1116 + i) (b := 1136) (by omega)))) (by omega)
  have er : mX s twoW = r := by unfold mX; rw [h1]; rfl
  by_cases z : V (mX s twoW) = 0
  · have zz : RN (2 * V s) = 0 := by rw [← h3, ← er]; exact z
    have := RN_zero_iff zz
    have zs : V s = 0 := by omega
    have := N.zero zs
    subst this
    have e0 : mX 0 twoW = 0 := by decide +kernel
    rw [e0]
    exact ⟨zero_fin, by omega⟩
  · exact Nz.of m2.fin z
theorem nat_sc {n k : Nat} : ((n : Int) * 2 ^ k).natAbs = n * 2 ^ k := by rw [Int.natAbs_mul, Int.natAbs_pow]; rfl
theorem scale_lo {n k : Nat} (h : 0 < n) : 2 ^ k ≤ n * 2 ^ k := Nat.le_mul_of_pos_left _ h
theorem scale_bd {n k l m : Nat} (e : m = k + l) (h : n ≤ 2 ^ l) : n * 2 ^ k ≤ 2 ^ m := by
  subst e
  rw [Nat.pow_add, Nat.mul_comm]
  exact Nat.mul_le_mul_left _ h
/-- a whole number's word, normal -/
theorem nr_norm {n : Nat} (h0 : 0 < n) (hn : n ≤ 16) : ∃ k q, Norm (nrN n) false k q ∧ 1000 ≤ q ∧ q ≤ 1046 := by
  obtain ⟨f, v⟩ := of_int (n : Int) (by omega)
  have hv : V (nrN n) = (n : Int) * 2 ^ 1074 := v
  have f' : FinW (nrN n) := f
  have lo : 2 ^ 1074 ≤ (V (nrN n)).natAbs := by
    rw [hv, nat_sc]
    exact scale_lo (k := 1074) h0
  have hi : (V (nrN n)).natAbs ≤ 2 ^ 1080 := by
    rw [hv, nat_sc]
    exact scale_bd (k := 1074) (l := 6) (m := 1080) (by omega) (by omega)
  obtain ⟨s, m, p, N⟩ := is_norm f' lo (by omega)
  obtain ⟨p1, p2⟩ := norm_pl N lo hi (by omega) (by omega)
  have et : s = false := by
    cases s
    · rfl
    · have w := N.val
      have g := (sv_sign true m p).1 rfl
      have p0 := pow1 1074
      have : 0 < V (nrN n) := by rw [hv]; exact Int.mul_pos (by omega) p0
      omega
  subst et
  exact ⟨m, p, N, by omega, by omega⟩
structure FsQ (s n : Nat) : Prop where
  q : Ieee.double.div s (nrN n) = some (qX s (nrN n))
  nz : Nz (qX s (nrN n))
theorem fs_quo {s n : Nat} (W : Wd s 516 1140) (N : Nz s) (h0 : 0 < n) (hn : n ≤ 16) : FsQ s n := by
  obtain ⟨k, q, D, d1, d2⟩ := nr_norm h0 hn
  by_cases z : V s = 0
  · have := N.zero z
    subst this
    have nz : V (nrN n) ≠ 0 := by
      have w := D.val
      rw [sv_f] at w
      rw [w]
      have := Nat.mul_pos (show 0 < k by have := D.lo; omega) (Nat.two_pow_pos q)
      omega
    obtain ⟨r, h1, h2, h3⟩ := div_zero zero_fin V_zero D.fin nz
    have er : qX 0 (nrN n) = r := by unfold qX; rw [h1]; rfl
    have all : ((List.range 16).all fun m => decide (qX 0 (nrN (m + 1)) = 0)) = true := by decide +kernel
    rw [List.all_eq_true] at all
    have e0 := all (n - 1) (List.mem_range.2 (by omega))
    rw [show n - 1 + 1 = n by omega, decide_eq_true_eq] at e0
    refine ⟨by rw [er]; exact h1, ?_⟩
    rw [e0]
    exact ⟨zero_fin, by omega⟩
  · have lo := pow_abs_dvd W.dvd z
    obtain ⟨t, m, p, M⟩ := is_norm W.fin lo (by omega)
    obtain ⟨p1, p2⟩ := norm_pl M lo W.abs (by omega) (by omega)
    obtain ⟨r, Q, u, q1, q2, q3, u1, u2, Q1, Q2, -, -⟩ := div_spec M D (by omega) (by omega)
    have er : qX s (nrN n) = r := by unfold qX; rw [q1]; rfl
    refine ⟨by rw [er]; exact q1, ?_⟩
    rw [er]
    refine Nz.of q2 ?_
    rw [q3]
    have c2 := Nat.mul_pos (show 0 < Q by omega) (Nat.two_pow_pos (1074 + p - q - u))
    cases (t ^^ false)
    · rw [sv_f]; omega
    · rw [sv_t]; omega
/-! ### what Fit answers -/
noncomputable def sumF (j n : Nat) : List Nat → Nat → Nat → Nat
  | [], _, s => s
  | v :: vs, k, s => sumF j n vs (k + 1) (aX s (mX v (csN (angW (j * (2 * k + 1)) n))))
noncomputable def ftS (j : Nat) (L : List Nat) : Nat := sumF j L.length L 0 0
noncomputable def ftW (j : Nat) (L : List Nat) : Nat := bgW (qX (if 0 < j then mX (ftS j L) twoW else ftS j L) (nrN L.length))
noncomputable def ftL (L : List Nat) : List Nat := (List.range L.length).map fun j => ftW j L
theorem sumF_fs {j n : Nat} (hj : j < n) (hn : n ≤ 16) : ∀ (L : List Nat) (k s : Nat), (∀ v ∈ L, Fc v) → k + L.length = n → Fs s k → Fs (sumF j n L k s) n
  | [], k, s, _, h, S => by
    have : k = n := by simpa using h
    rw [← this]; exact S
  | v :: L, k, s, hv, h, S => by
    have hk : k < n := by simp at h; omega
    have b : j * (2 * k + 1) ≤ 465 := Nat.le_trans (Nat.mul_le_mul (show j ≤ 15 by omega) (show 2 * k + 1 ≤ 31 by omega)) (by decide)
    exact sumF_fs hj hn L (k + 1) _ (fun u hu => hv u (List.mem_cons_of_mem _ hu)) (by simp at h; omega) (fs_step S (by omega) (hv v (List.mem_cons_self ..)) (csN_wd (ago b (by omega) hn))).f
structure FtO (j : Nat) (L : List Nat) : Prop where
  s : Fs (ftS j L) L.length
  d : FsD (ftS j L)
  q : FsQ (if 0 < j then mX (ftS j L) twoW else ftS j L) L.length
  q1 : Ieee.double.div (mX (ftS j L) twoW) (nrN L.length) = some (qX (mX (ftS j L) twoW) (nrN L.length))
  nz : Nz (ftW j L)
theorem ft_ok {j : Nat} {L : List Nat} (h : ∀ v ∈ L, Fc v) (hl : L.length ≤ 16) (hj : j < L.length) : FtO j L := by
  have S := sumF_fs hj hl L 0 0 h (by omega) fs_zero
  have D := fs_two S (by omega)
  have Q1 := fs_quo D.wd (D.nz S.nz) (show 0 < L.length by omega) hl
  have Q : FsQ (if 0 < j then mX (ftS j L) twoW else ftS j L) L.length := by
    by_cases c : 0 < j
    · rw [if_pos c]; exact Q1
    · rw [if_neg c]; exact fs_quo (S.wd.le (by omega) (by omega)) S.nz (by omega) hl
  exact ⟨S, D, Q, Q1.q, bg_nz Q.nz⟩
end Go.Proofs.Ytnmadknpkhaolaa

namespace Pol
open Go.Proofs.Ytnmadknpkhaolaa
end Pol
namespace Go.Proofs.Ytnmadknpkhaolaa
open Go.ChangeShapes Go.WideShapes Go.ChangeAt Go.RowKit Ieee.Own Pol

end Go.Proofs.Ytnmadknpkhaolaa

namespace Ieee.Own
end Ieee.Own
namespace Go.Proofs.Ytnmadknpkhaolaa
open Go.ChangeShapes Go.WideShapes Go.ChangeAt Go.RowKit Ieee.Own Pol

/-! ### the limits -/
end Go.Proofs.Ytnmadknpkhaolaa

namespace Go.Proofs.Ytnmadknpkhaolaa
open Go.ChangeShapes Go.WideShapes Go.ChangeAt Go.RowKit Ieee.Own Pol

/-- one span in another -/
structure InP (p q : Pr) : Prop where
  l1 : p.1 < 18446744073709551616
  l2 : p.2 < 18446744073709551616
  l3 : q.1 < 18446744073709551616
  l4 : q.2 < 18446744073709551616
  i : insB p.1 p.2 q.1 q.2 = true
theorem InP.two {p q r s : Pr} (h : InP p q) (g : InP r s) : Two p.1 p.2 r.1 r.2 q.1 q.2 s.1 s.2 := ⟨h.l1, h.l2, g.l1, g.l2, h.l3, h.l4, g.l3, g.l4, h.i, g.i⟩
theorem InP.add {p q r s u v : Pr} (h : InP p q) (g : InP r s) (a : AddR p r u) (b : AddR q s v) : InP u v := by
  have x := OpAll.bd a.all
  have y := OpAll.bd b.all
  exact ⟨x.1, x.2.1, y.1, y.2.1, add_mono (h.two g) a b rfl rfl⟩
theorem InP.mul {p q r s u v : Pr} (h : InP p q) (g : InP r s) (a : MulR p r u) (b : MulR q s v) : InP u v := by
  have x := OpAll.bd a
  have y := OpAll.bd b
  exact ⟨x.1, x.2.1, y.1, y.2.1, mul_mono (h.two g) a b rfl rfl⟩
theorem InP.sub {p q r s u v : Pr} (h : InP p q) (g : InP r s) (a : SubR p r u) (b : SubR q s v) : InP u v := by
  have x := OpAll.bd a.all
  have y := OpAll.bd b.all
  refine ⟨x.1, x.2.1, y.1, y.2.1, ?_⟩
  obtain ⟨⟨-, -, o1⟩, ⟨-, -, o2⟩, ⟨-, -, o3⟩, ⟨-, -, o4⟩, ⟨m1, m2⟩, m3, m4⟩ := (h.two g).facts
  refine fits_of a.all b.all (fun _ lo hi d u => ?_) (fun _ lo hi d u => ?_) (fun _ _ u => ?_) (fun _ _ u => ?_) rfl rfl
  · have p' := d.le _ (List.mem_singleton.2 rfl)
    replace p' : 0 ≤ V p.1 - V r.2 - V lo := p'
    have q' := u.ge _ (List.mem_singleton.2 rfl)
    replace q' : V p.2 - V r.1 - V hi ≤ 0 := q'
    omega
  · have p' := d.le _ (List.mem_singleton.2 rfl)
    replace p' : 0 ≤ V q.1 - V s.2 - V lo := p'
    have q' := u.ge _ (List.mem_singleton.2 rfl)
    replace q' : V q.2 - V s.1 - V hi ≤ 0 := q'
    omega
  · rw [one_mem, one_mem]; intro h; show 0 ≤ V p.1 - V r.2 - u; have : 0 ≤ V q.1 - V s.2 - u := h; omega
  · rw [one_mem, one_mem]; intro h; show V p.2 - V r.1 - u ≤ 0; have : V q.2 - V s.1 - u ≤ 0 := h; omega
end Go.Proofs.Ytnmadknpkhaolaa

namespace Go.Proofs.Ytnmadknpkhaolaa
open Go.ChangeShapes Go.WideShapes Go.ChangeAt Go.RowKit Ieee.Own Pol

theorem least_pow : leastV = ((2 ^ (820 + 53 + 1) : Nat) : Int) := by decide +kernel
theorem Fc.fw {c : Nat} (h : Fc c) : Fw c := by
  have f := fit_fin h.lt h.fit
  refine ⟨⟨f, h.bd⟩, ?_⟩
  rcases (fit_iff f).1 h.fit with z | z
  · exact .inl z
  · right
    have := z.1
    rw [least_pow] at this
    exact Int.ofNat_le.1 this
end Go.Proofs.Ytnmadknpkhaolaa

namespace Go.Proofs.Ytnmadknpkhaolaa
open Go.ChangeShapes Go.WideShapes Go.ChangeAt Go.RowKit Ieee.Own

theorem drop_cons {L : List Nat} {k : Nat} (h : k < L.length) : L.drop k = L.getD k 0 :: L.drop (k + 1) := by
  rw [List.drop_eq_getElem_cons h]
  simp [List.getD, h]
theorem fc_cw {L : List Nat} (h : ∀ c ∈ L, Fc c) : ∀ c ∈ L, Cw c := fun c hc => (h c hc).fw.toCw
theorem mem_drop {P : Nat → Prop} {L : List Nat} (h : ∀ c ∈ L, P c) (k : Nat) : ∀ c ∈ L.drop k, P c := fun c hc => h c (List.mem_of_mem_drop hc)
theorem inM_x00 {x : Nat} (hx : x < 18446744073709551616) (h : inM m00 x = true) : FinW x ∧ (V x).natAbs ≤ 2 ^ 1074 := by
  have := inM_bd hx h
  rw [m00_V] at this
  exact ⟨this.1, this.2.2⟩
/-- what Cheb wants of a list that isn't empty -/
structure ClS (x : Nat) (L : List Nat) (n : Nat) : Prop where
  dbl : Ieee.double.add x x = some (aX x x)
  step : ∀ i, i < n - 1 → Cl2 x (L.getD (n - 1 - i) 0) (clW x (L.tail.drop (n - 1 - i))).1 (clW x (L.tail.drop (n - 1 - i))).2 ∧ clW x (L.tail.drop (n - 1 - (i + 1))) = (aX (lX (mX (aX x x) (clW x (L.tail.drop (n - 1 - i))).1) (clW x (L.tail.drop (n - 1 - i))).2) (L.getD (n - 1 - i) 0), (clW x (L.tail.drop (n - 1 - i))).1)
  a8 : clW x (L.tail.drop (n - 1)) = (0, 0)
  m : Ieee.double.mul x (clW x L.tail).1 = some (mX x (clW x L.tail).1)
  l : Ieee.double.sub (mX x (clW x L.tail).1) (clW x L.tail).2 = some (lX (mX x (clW x L.tail).1) (clW x L.tail).2)
  s : Ieee.double.add (lX (mX x (clW x L.tail).1) (clW x L.tail).2) (L.getD 0 0) = some (chW x L)
  p : Ieee.double.add (chW x L) 0 = some (posW (chW x L))
theorem cl_parts {x n : Nat} {L : List Nat} (fx : FinW x) (bx : (V x).natAbs ≤ 2 ^ 1074) (hc : ∀ c ∈ L, Fc c) (hn : n = L.length) (hl : n ≤ 16) (hp : 0 < n) : ClS x L n := by
  cases L with
  | nil => simp at hn; omega
  | cons c cs =>
    have e : n - 1 = cs.length := by simp at hn; omega
    obtain ⟨fa, -, -, st⟩ := ch_wd fx bx (c :: cs) (fc_cw hc) (by omega)
    obtain ⟨s1, s2, s3⟩ := st c cs rfl
    refine ⟨(dbl_wd fx bx).1, fun i hi => ?_, ?_, s1, s2, s3, pos_add fa⟩
    · rw [e] at hi ⊢
      have hc' : ∀ c ∈ cs, Cw c := fun a h => fc_cw hc a (List.mem_cons_of_mem _ h)
      obtain ⟨-, -, -, st⟩ := cl_wd fx bx (cs.drop (cs.length - 1 - i)) (mem_drop hc' _) (by simp; omega)
      have d := drop_cons (L := cs) (k := cs.length - 1 - i) (by omega)
      have g := st _ _ d
      have e1 : cs.length - 1 - i + 1 = cs.length - i := by omega
      have e2 : cs.length - (i + 1) = cs.length - 1 - i := by omega
      have e3 : (c :: cs).getD (cs.length - i) 0 = cs.getD (cs.length - 1 - i) 0 := by rw [← e1, List.getD_cons_succ]
      rw [e1] at g d
      rw [e3, e2]
      refine ⟨g, ?_⟩
      show clW x (cs.drop (cs.length - 1 - i)) = _
      rw [d]; rfl
    · rw [e]
      show clW x (cs.drop cs.length) = _
      rw [List.drop_length]; rfl

set_option maxRecDepth 100000 in
theorem pcheb_nil (ao : Option Addr) (cap n : Nat) (L : List Nat) (x : Nat) (w : World) (hn : n = L.length) (hz : n = 0) (hw : Words L) (ha : At w ao L) (hx : x < 18446744073709551616) (h0 : errX m00 L x = 0) :
    Calls Try.prog 69 #[.slice ao n cap, .float .f64 x] w fun e w' => e = .returned (fe 0 0) ∧ w = w' := by
  have K := checkAt_run m00 (by decide) ao cap n L x w hn (by omega) hw ha hx
  rw [h0] at K
  subst hz
  clear h0 hn hw ha hx
  unfold m00 at K
  go_enter Try.func69, Try.ntmps69
  go_wp2_with (go_at_call 87; ((with_reducible refine K.mono ?_); rintro e w' ⟨rfl, rfl⟩))
  go_ret2
  exact ⟨rfl, rfl⟩

set_option maxHeartbeats 1000000 in
set_option maxRecDepth 100000 in
theorem pcheb_some (ao : Option Addr) (cap n : Nat) (L : List Nat) (x : Nat) (w : World) (hn : n = L.length) (hp : 0 < n) (hw : Words L) (ha : At w ao L) (hx : x < 18446744073709551616) (hm : n ≤ 4611686018427387904) (h0 : errX m00 L x = 0) :
    Calls Try.prog 69 #[.slice ao n cap, .float .f64 x] w fun e w' => e = .returned (fe (posW (chW x L)) 0) ∧ w = w' := by
  have K := checkAt_run m00 (by decide) ao cap n L x w hn hm hw ha hx
  rw [h0] at K
  unfold m00 at K
  obtain ⟨hC, hX⟩ := errX_zero h0
  obtain ⟨hl16, hfc⟩ := errC_zero hw hC
  obtain ⟨fx, bx⟩ := inM_x00 hx hX
  have CS := cl_parts fx bx hfc hn (by omega) hp
  have rd := run_add _ _ _ CS.dbl
  have CS := Lib.hid CS
  replace hn := Lib.hid hn
  replace ha := Lib.hid ha
  have n16 : n ≤ 16 := by have := hn.out; omega
  have tw : IntKind.i64.wrap ((n : Int) - 1) = (n : Int) - 1 := by rw [IntKind.wrap_i64]; omega
  have tn : ((n : Int) == 0) = false := by simp; omega
  clear hw hx h0 hC hX hl16 hfc fx bx hm
  go_enter Try.func69, Try.ntmps69
  go_wp2_with (go_at_call 87; ((with_reducible refine K.mono ?_); rintro e w' ⟨rfl, rfl⟩))
  clear K
  go_loop [7, 8, 24] (fun bv dv iv => ∃ i : Nat, i ≤ n - 1 ∧ iv = .int .i64 i ∧ bv = .float .f64 (clW x (L.tail.drop (n - 1 - i))).1 ∧ dv = .float .f64 (clW x (L.tail.drop (n - 1 - i))).2) (fun _ _ iv => n - 1 - (intOf iv).toNat)
  case atStart => exact ⟨0, Nat.zero_le _, rfl, by rw [Nat.sub_zero, CS.out.a8], by rw [Nat.sub_zero, CS.out.a8]⟩
  case round =>
    obtain ⟨i, hi, rfl, rfl, rfl⟩ := hrel
    by_cases hlt : i < n - 1
    · obtain ⟨⟨r1, r2, r3⟩, nx⟩ := CS.out.step i hlt
      obtain ⟨b, o, rfl, hc⟩ := ha.out (n - 1 - i) (by have := hn.out; omega)
      have r1 := run_mul _ _ _ r1
      have r2 := run_sub _ _ _ r2
      have r3 := run_add _ _ _ r3
      have hlt' : (i : Int) < (n : Int) - 1 := by omega
      obtain ⟨u, hu⟩ : ∃ u, u = L.getD (n - 1 - i) 0 := ⟨_, rfl⟩
      rw [← hu] at hc r3 nx
      generalize (clW x (L.tail.drop (n - 1 - i))).1 = s at *
      generalize (clW x (L.tail.drop (n - 1 - i))).2 = d at *
      replace nx := Lib.hid nx
      generalize lX (mX (aX x x) s) d = l at *
      generalize mX (aX x x) s = m at *
      obtain ⟨y, hy⟩ : ∃ y, y = aX l u := ⟨_, rfl⟩
      rw [← hy] at r3 nx
      have e : IntKind.i64.wrap ((n : Int) - 1 - (i : Int)) = (n : Int) - 1 - (i : Int) := by rw [IntKind.wrap_i64]; omega
      have e0 : (i : Int) ≤ (n : Int) - 1 := by omega
      have e2 : (n : Int) - 1 - (i : Int) < (n : Int) := by omega
      have e3 : ((n : Int) - 1 - (i : Int)).toNat = n - 1 - i := by omega
      clear hu hy CS
      generalize aX x x = xx at *
      go_wp2_with fail
      go_round
      case rel => exact ⟨i + 1, by omega, by go_num, by rw [nx.out], by rw [nx.out]⟩
      case measure => simp [intOf]; omega
    · obtain rfl : i = n - 1 := by omega
      obtain ⟨b, o, rfl, hc⟩ := ha.out 0 (by have := hn.out; omega)
      have r1 := run_mul _ _ _ CS.out.m
      have r2 := run_sub _ _ _ CS.out.l
      have r3 := run_add _ _ _ CS.out.s
      have r4 := run_add _ _ _ CS.out.p
      have ei : ((n - 1 : Nat) : Int) = (n : Int) - 1 := by omega
      rw [Nat.sub_self, List.drop_zero, ei]
      rw [Nat.add_zero] at hc
      have hpi : (0 : Int) < (n : Int) := by omega
      obtain ⟨u, hu⟩ : ∃ u, u = L.getD 0 0 := ⟨_, rfl⟩
      rw [← hu] at hc r3
      generalize (clW x L.tail).1 = s at *
      generalize (clW x L.tail).2 = d at *
      generalize lX (mX x s) d = l at *
      generalize mX x s = m at *
      obtain ⟨y, hy⟩ : ∃ y, y = chW x L := ⟨_, rfl⟩
      rw [← hy] at r3 r4
      replace hy := Lib.hid hy
      clear hu CS rd
      go_wp2_with fail
      go_ret2
      exact ⟨by rw [← hy.out]; rfl, rfl⟩
set_option maxRecDepth 100000 in
theorem pcheb_ok (ao : Option Addr) (cap n : Nat) (L : List Nat) (x : Nat) (w : World) (hn : n = L.length) (hm : n ≤ 4611686018427387904) (hw : Words L) (ha : At w ao L) (hx : x < 18446744073709551616) (h0 : errX m00 L x = 0) :
    Calls Try.prog 69 #[.slice ao n cap, .float .f64 x] w fun e w' => e = .returned (fe (posW (chW x L)) 0) ∧ w = w' := by
  by_cases hz : n = 0
  · have := pcheb_nil ao cap n L x w hn hz hw ha hx h0
    have e : L = [] := List.eq_nil_of_length_eq_zero (by omega)
    rw [e]
    exact this
  · exact pcheb_some ao cap n L x w hn (by omega) hw ha hx hm h0

/-! ### the fixed fact -/
end Go.Proofs.Ytnmadknpkhaolaa

namespace Go.Proofs.Ytnmadknpkhaolaa
open Go.ChangeShapes Go.WideShapes Go.ChangeAt Go.RowKit Ieee.Own Pol

def rdyT (t : Tb) (b : Bool) : Int := if chkT t ≠ 0 then chkT t else if b = false ∨ t.rows.length = 0 then 80 else 0
theorem rdyT_zero {t : Tb} {b : Bool} (h : rdyT t b = 0) : chkT t = 0 ∧ b = true ∧ 0 < t.rows.length := by
  unfold rdyT at h
  by_cases c : chkT t ≠ 0
  · rw [if_pos c] at h; exact absurd h c
  · rw [if_neg c] at h
    by_cases d : b = false ∨ t.rows.length = 0
    · rw [if_pos d] at h; omega
    · refine ⟨by omega, ?_, by omega⟩
      cases b
      · exact absurd (.inl rfl) d
      · rfl
set_option maxHeartbeats 4000000 in
set_option maxRecDepth 100000 in
theorem cready_run {t : Tb} (b : Bool) (ao : Option Addr) (cap : Nat) (w : World) (hm : t.rows.length ≤ 4611686018427387904) (hW : TbW t) (ha : TbAt w ao t.rows) :
    Calls Try.prog 45 #[tbV t ao cap, .bool b] w fun e w' => e = .returned (.int .i64 (rdyT t b)) ∧ Below w.heap.size w w' := by
  have CC : Hid (∀ W, Below w.heap.size w W → Calls Try.prog 17 #[tbV t ao cap] W fun e w' => e = .returned (.int .i64 (chkT t)) ∧ Below W.heap.size W w') := Lib.hid fun W hb => ccheck_run ao cap W hm hW (ha.on hb)
  unfold rdyT
  unfold tbV at CC ⊢
  generalize chkT t = k at *
  clear ha hW
  obtain ⟨fr, st, R⟩ := t
  dsimp only at *
  generalize R.length = n at *
  have hst := @fstore
  have K := kv1 w 34 [.float .f64 fr, .float .f64 st, .slice ao n cap]
  simp only [objV] at K
  have k0 := (K.at_ 0 rfl).at_ 0 _ rfl
  have k1 := (K.at_ 0 rfl).at_ 1 _ rfl
  have k2 := (K.at_ 0 rfl).at_ 2 _ rfl
  replace K := Lib.hid K
  by_cases hk : k = 0
  · subst hk
    rw [if_neg (by simp)]
    cases b with
    | false =>
      rw [if_pos (.inl rfl)]
      go_enter Try.func45, Try.ntmps45
      go_wp2_with fail
      have K := K.out
      clear k0 k1 k2
      generalize w.alloc _ = wr at *
      refine (CC.out wr K.old).mono ?_
      rintro _ w1 ⟨rfl, hb⟩
      replace K := K.on hb
      clear hb CC
      have k2 := (K.at_ 0 rfl).at_ 2 _ rfl
      replace K := Lib.hid K
      go_wp2_with fail
      go_ret
      exact ⟨rfl, K.out.old⟩
    | true =>
      by_cases hn : n = 0
      · subst hn
        rw [if_pos (.inr rfl)]
        go_enter Try.func45, Try.ntmps45
        go_wp2_with fail
        have K := K.out
        clear k0 k1 k2
        generalize w.alloc _ = wr at *
        refine (CC.out wr K.old).mono ?_
        rintro _ w1 ⟨rfl, hb⟩
        replace K := K.on hb
        clear hb CC
        have k2 := (K.at_ 0 rfl).at_ 2 _ rfl
        replace K := Lib.hid K
        go_wp2_with fail
        go_ret
        exact ⟨rfl, K.out.old⟩
      · rw [if_neg (by simp [hn])]
        have t0 : ((n : Int) == 0) = false := by simp; omega
        go_enter Try.func45, Try.ntmps45
        go_wp2_with fail
        have K := K.out
        clear k0 k1 k2
        generalize w.alloc _ = wr at *
        refine (CC.out wr K.old).mono ?_
        rintro _ w1 ⟨rfl, hb⟩
        replace K := K.on hb
        clear hb CC
        have k2 := (K.at_ 0 rfl).at_ 2 _ rfl
        replace K := Lib.hid K
        go_wp2_with fail
        go_ret
        exact ⟨rfl, K.out.old⟩
  · rw [if_pos hk]
    have t0 : (k != 0) = true := by simpa using hk
    go_enter Try.func45, Try.ntmps45
    go_wp2_with fail
    have K := K.out
    clear k0 k1 k2
    generalize w.alloc _ = wr at *
    refine (CC.out wr K.old).mono ?_
    rintro _ w1 ⟨rfl, hb⟩
    replace K := K.on hb
    clear hb CC
    have k2 := (K.at_ 0 rfl).at_ 2 _ rfl
    replace K := Lib.hid K
    go_wp2_with fail
    go_ret
    exact ⟨rfl, K.out.old⟩
/-- what place answers -/
def plcE (p : Nat × Nat) : Value := .tuple #[.int .i64 (p.1 : Int), .float .f64 p.2]
theorem small_k {q : Int} {k n : Nat} (hk : k = q.toNat) (_h : 0 ≤ q) (g : q < n) (hn : n ≤ 64) : (k : Int).natAbs ≤ 2 ^ 62 := by omega
theorem to_nat_of {q : Int} (h : 0 ≤ q) : ((q.toNat : Nat) : Int) = q := Int.toNat_of_nonneg h
set_option maxRecDepth 100000 in
theorem conv_fl {b : Nat} {K : Int} (h : floatToIntVal .f64 b .i64 = some K) (w : World) : (convert 30 3 (.float .f64 b)).run Try.prog w = .ok (.int .i64 K) w :=
  run_convert_float_int w 30 3 .f64 .i64 b K (by rw [Try.underlying30]; rfl) Try.underlying3 h
set_option maxRecDepth 100000 in
theorem conv_if (n : Nat) (w : World) : (convert 3 30 (.int .i64 (n : Int))).run Try.prog w = .ok (.float .f64 (FloatKind.f64.nearest (n : Int))) w :=
  run_convert_int_float w 3 30 .i64 .f64 (n : Int) (by rw [Try.underlying3]; rfl) Try.underlying30
set_option maxHeartbeats 4000000 in
set_option maxRecDepth 100000 in
theorem cplace_run {t : Tb} {d : Nat} (ao : Option Addr) (cap : Nat) (w : World) (hn : t.rows.length ≤ 64) (h0 : 0 < t.rows.length) (Y : YOk t d) :
    Calls Try.prog 46 #[tbV t ao cap, .float .f64 d] w fun e w' => e = .returned (plcE (plc t d)) ∧ Below w.heap.size w w' := by
  have r1 := run_sub _ _ _ Y.s
  have r2 := run_div _ _ _ Y.q
  have l1 := le_words Y.fin zero_fin
  have U0 := pow1 1074
  obtain ⟨nf, nv⟩ := of_int (t.rows.length : Int) (by omega)
  have l2 := ge_words Y.fin nf
  rw [nv] at l2
  rw [V_zero] at l1
  have cv := fun w => conv_if t.rows.length w
  have ec : (((t.rows.length - 1 : Nat)) : Int) = (t.rows.length : Int) - 1 := by omega
  unfold tbV plcE
  by_cases c1 : V (yH t d) ≤ 0
  · rw [plc_one c1]
    rw [decide_eq_true c1] at l1
    clear l2 nf nv cv ec Y c1 hn h0
    generalize yH t d = y at *
    generalize lX d t.fr = x at *
    unfold moneW
    obtain ⟨fr, st, R⟩ := t
    dsimp only at *
    generalize R.length = n at *
    have hst := @fstore
    have K := kv1 w 34 [.float .f64 fr, .float .f64 st, .slice ao n cap]
    simp only [objV] at K
    have k0 := (K.at_ 0 rfl).at_ 0 _ rfl
    have k1 := (K.at_ 0 rfl).at_ 1 _ rfl
    have k2 := (K.at_ 0 rfl).at_ 2 _ rfl
    replace K := Lib.hid K
    go_enter Try.func46, Try.ntmps46
    go_wp2_with fail
    go_ret2
    exact ⟨rfl, K.out.old⟩
  · rw [decide_eq_false c1] at l1
    by_cases c2 : (t.rows.length : Int) * 2 ^ 1074 ≤ V (yH t d)
    · rw [plc_two c1 c2]
      rw [decide_eq_true c2] at l2
      dsimp only
      rw [ec]
      have w1 : IntKind.i64.wrap ((t.rows.length : Int) - 1) = (t.rows.length : Int) - 1 := by rw [IntKind.wrap_i64]; omega
      clear nf nv ec Y c1 c2
      generalize yH t d = y at *
      generalize lX d t.fr = x at *
      unfold oneW
      obtain ⟨fr, st, R⟩ := t
      dsimp only at *
      generalize R.length = n at *
      generalize FloatKind.f64.nearest (n : Int) = fn at *
      have hst := @fstore
      have K := kv1 w 34 [.float .f64 fr, .float .f64 st, .slice ao n cap]
      simp only [objV] at K
      have k0 := (K.at_ 0 rfl).at_ 0 _ rfl
      have k1 := (K.at_ 0 rfl).at_ 1 _ rfl
      have k2 := (K.at_ 0 rfl).at_ 2 _ rfl
      replace K := Lib.hid K
      go_enter Try.func46, Try.ntmps46
      go_wp2_with fail
      go_ret2
      exact ⟨rfl, K.out.old⟩
    · rw [plc_three c1 c2]
      rw [decide_eq_false c2] at l2
      have F := f_ok Y.fin Y.abs (by omega)
      have FL := fun w => floor_run Y.fin w
      have fl := floor_lt U0 (show 0 ≤ V (yH t d) by omega) c2
      obtain ⟨k, hk⟩ : ∃ k : Nat, k = (V (yH t d) / 2 ^ 1074).toNat := ⟨_, rfl⟩
      have ck := fun w => conv_fl (K := (k : Int)) (to_int64 F.wf (by rw [F.wv, hk, to_nat_of fl.1]) (small_k hk fl.1 fl.2 hn)) w
      have r3 := run_sub _ _ _ F.s
      have r4 := run_mul _ _ _ F.m
      have r5 := run_sub _ _ _ F.l
      have CB := fun w => cbrought_run (fH (yH t d)) F.nz.fin.1 w
      rw [← hk]
      unfold twoW at r4 r5
      unfold oneW at r5
      clear nf nv ec Y c1 c2 F fl hk
      generalize bgW (fH (yH t d)) = z at *
      generalize fH (yH t d) = z0 at *
      generalize yH t d = y at *
      generalize lX d t.fr = x at *
      generalize wholeW .down y = wy at *
      generalize lX y wy = q1 at *
      generalize mX q1 4611686018427387904 = q2 at *
      obtain ⟨fr, st, R⟩ := t
      dsimp only at *
      generalize R.length = n at *
      generalize FloatKind.f64.nearest (n : Int) = fn at *
      have hst := @fstore
      have K := kv1 w 34 [.float .f64 fr, .float .f64 st, .slice ao n cap]
      simp only [objV] at K
      have k0 := (K.at_ 0 rfl).at_ 0 _ rfl
      have k1 := (K.at_ 0 rfl).at_ 1 _ rfl
      have k2 := (K.at_ 0 rfl).at_ 2 _ rfl
      replace K := Lib.hid K
      go_enter Try.func46, Try.ntmps46
      go_wp2_with (first | (go_at_call 68; ((with_reducible refine (FL _).mono ?_); rintro e w' ⟨rfl, rfl⟩)) | (go_at_call 65; ((with_reducible refine (CB _).mono ?_); rintro e w' ⟨rfl, rfl⟩)))
      go_ret2
      exact ⟨rfl, K.out.old⟩
end Go.Proofs.Ytnmadknpkhaolaa

namespace Go.Proofs.Ytnmadknpkhaolaa
open Go.ChangeShapes Go.WideShapes Go.ChangeAt Go.RowKit Ieee.Own Pol

theorem node_cap {j k : Nat} (hj : j ≤ 15) (hk : k ≤ 15) : j * (2 * k + 1) ≤ 465 := Nat.le_trans (Nat.mul_le_mul hj (show 2 * k + 1 ≤ 31 by omega)) (by decide)
set_option maxRecDepth 100000 in
theorem catnode_run {j k n : Nat} (hj : j ≤ 15) (hk : k ≤ 15) (h0 : 0 < n) (hn : n ≤ 16) (w : World) :
    Calls Try.prog 36 #[.int .i64 (j : Int), .int .i64 (k : Int), .int .i64 (n : Int)] w fun e w' => e = .returned (.float .f64 (csN (angW (j * (2 * k + 1)) n))) ∧ Below w.heap.size w w' := by
  have cap := node_cap hj hk
  have A := ago cap h0 hn
  obtain ⟨s, c, e, B, C⟩ := uboth_run A.lt
  have e0 : e = 0 := by rw [B.err, A.er]
  subst e0
  rw [csN_eq B]
  have CC := Lib.hid (fun w => ucos_run (Lib.hid C) w)
  obtain ⟨m, hm⟩ : ∃ m, m = j * (2 * k + 1) := ⟨_, rfl⟩
  rw [← hm] at CC A cap
  have em : (j : Int) * (2 * (k : Int) + 1) = (m : Int) := by rw [hm]; simp
  have r1 := run_div _ _ _ A.run
  have cv1 := fun w => conv_if m w
  have cv2 : ∀ w, (convert 3 30 (.int .i64 (4 * (n : Int)))).run Try.prog w = .ok (.float .f64 (nrN (4 * n))) w := fun w => conv_if (4 * n) w
  have w1 : IntKind.i64.wrap (2 * (k : Int)) = 2 * (k : Int) := by rw [IntKind.wrap_i64]; omega
  have w2 : IntKind.i64.wrap (2 * (k : Int) + 1) = 2 * (k : Int) + 1 := by rw [IntKind.wrap_i64]; omega
  have w3 : IntKind.i64.wrap (m : Int) = (m : Int) := by rw [IntKind.wrap_i64]; omega
  have w4 : IntKind.i64.wrap (4 * (n : Int)) = 4 * (n : Int) := by rw [IntKind.wrap_i64]; omega
  have CS := fun w => csure_run c 0 w
  have en : FloatKind.f64.nearest (m : Int) = nrN m := rfl
  rw [en] at cv1
  clear B C A hm cap en
  generalize angW m n = x at *
  generalize nrN m = y at *
  generalize nrN (4 * n) = z at *
  go_enter Try.func36, Try.ntmps36
  go_wp2_with fail
  refine (CC.out w).mono ?_
  rintro _ w1 ⟨rfl, hb⟩
  replace hb := Lib.hid hb
  clear CC
  go_wp2_with (go_at_call 61; ((with_reducible refine (CS _).mono ?_); rintro e w' ⟨rfl, rfl⟩))
  go_ret
  exact ⟨rfl, hb.out⟩
set_option maxHeartbeats 1000000 in
set_option maxRecDepth 100000 in
theorem cfitted_run {j : Nat} {L : List Nat} (ao : Option Addr) (cap n : Nat) (w : World) (hn : n = L.length) (hj : j < n) (h : ∀ v ∈ L, Fc v) (hl : n ≤ 16) (ha : At w ao L) :
    Calls Try.prog 39 #[.slice ao n cap, .int .i64 (j : Int)] w fun e w' => e = .returned (.float .f64 (ftW j L)) ∧ Below w.heap.size w w' := by
  have O := ft_ok h (by omega) (show j < L.length by omega)
  obtain ⟨z, hz⟩ : ∃ z, z = ftW j L := ⟨_, rfl⟩
  have CB := fun w => cbrought_run (qX (if 0 < j then mX (ftS j L) twoW else ftS j L) (nrN L.length)) O.q.nz.fin.1 w
  have rm := run_mul _ _ _ O.d.m
  have rq := run_div _ _ _ O.q.q
  have ez : bgW (qX (if 0 < j then mX (ftS j L) twoW else ftS j L) (nrN L.length)) = z := by rw [hz]; rfl
  rw [ez] at CB
  rw [← hz]
  obtain ⟨A, hA⟩ : ∃ A, A = ftS j L := ⟨_, rfl⟩
  have A0 : Hid (sumF j n L 0 0 = A) := Lib.hid (by rw [hA, hn]; rfl)
  rw [← hA] at rm rq CB
  unfold twoW at rm rq CB
  have lt0 : Hid (∀ b o, ao = some ⟨b, o, none⟩ → 0 < L.length → b < w.heap.size) := Lib.hid ha.lt
  have cvn : ∀ w, (convert 3 30 (.int .i64 (n : Int))).run Try.prog w = .ok (.float .f64 (nrN n)) w := fun w => conv_if n w
  rw [← hn] at rq CB
  replace hn := Lib.hid hn
  replace ha := Lib.hid ha
  replace h := Lib.hid h
  replace rm := Lib.hid rm
  replace rq := Lib.hid rq
  replace CB := Lib.hid CB
  replace cvn := Lib.hid cvn
  clear O hz ez hA
  go_enter Try.func39, Try.ntmps39
  go_wp2_with fail
  go_loopw [6, 11] (fun sv iv wr => ∃ k s : Nat, k ≤ n ∧ iv = .int .i64 k ∧ sv = .float .f64 s ∧ sumF j n (L.drop k) k s = A ∧ Fs s k ∧ Below w.heap.size w wr) (fun _ iv _ => n - (intOf iv).toNat)
  case atStart => exact ⟨0, 0, Nat.zero_le _, rfl, rfl, A0.out, fs_zero, Below.refl _ _⟩
  case round =>
    obtain ⟨k, s, hk, rfl, rfl, hS, F, hb⟩ := hrel
    by_cases hlt : k < n
    · have hkl : k < L.length := by have := hn.out; omega
      obtain ⟨b, o, rfl, hc0⟩ := ha.out k hkl
      have hbl := lt0.out b o rfl (by omega)
      have hc : wr.cell? ⟨b, o + k, none⟩ = some (.float .f64 (L.getD k 0)) := (World.cell?_of_block (a := ⟨b, o + k, none⟩) (hb.block b hbl)).trans hc0
      have hd : L.drop k = L.getD k 0 :: L.drop (k + 1) := by
        rw [List.drop_eq_getElem_cons hkl]; simp [List.getD, hkl]
      rw [hd] at hS
      unfold sumF at hS
      have Fv : Fc (L.getD k 0) := h.out _ (by simp [List.getD, hkl])
      have R := fs_step F (by omega) Fv (csN_wd (ago (node_cap (show j ≤ 15 by omega) (show k ≤ 15 by omega)) (by omega) hl))
      have r1 := run_mul _ _ _ R.m
      have r2 := run_add _ _ _ R.a
      have C := Lib.hid (fun w => catnode_run (j := j) (k := k) (n := n) (by omega) (by omega) (by omega) hl w)
      have F2 := Lib.hid R.f
      have hi2 : (k : Int) < (n : Int) := by omega
      have hwl : b < wr.heap.size := Nat.lt_of_lt_of_le hbl hb.size
      clear R F Fv hd hkl hc0 hbl
      generalize csN (angW (j * (2 * k + 1)) n) = c at *
      generalize L.getD k 0 = v at *
      generalize mX v c = p at *
      generalize aX s p = s2 at *
      replace hS := Lib.hid hS
      replace hb := Lib.hid hb
      replace hwl := Lib.hid hwl
      go_wp2_with fail
      go_region_held3 (fun x => x.cell? ⟨b, o + k, none⟩ = some (.float .f64 v)) (first | exact hc | exact hd0 | go_keep)
        (first | (go_at_call 36; ((with_reducible refine (C.out wr.drew).mono ?_); rintro _ wa ⟨rfl, hba⟩; have hd0 : wa.cell? ⟨b, o + k, none⟩ = some (.float .f64 v) := (World.cell?_of_block (a := ⟨b, o + k, none⟩) (hba.block b hwl.out)).trans hc; have hbb := Lib.hid (hb.out.trans ((((Below.refl wr.heap.size wr).drew).trans hba).mono hb.out.size)); clear hba)))
      all_goals
        go_wp2_with fail
        go_roundw
        case rel => exact ⟨k + 1, s2, by omega, by go_num, rfl, hS.out, F2.out, hbb.out⟩
        case measure => simp [intOf]; omega
    · obtain rfl : k = n := by omega
      have eS : s = A := by
        rw [List.drop_eq_nil_of_le (by have := hn.out; omega)] at hS
        exact hS
      subst eS
      have RM := rm.out
      have RQ := rq.out
      have B1 := CB.out
      have CV := cvn.out
      replace hb := Lib.hid hb
      clear hS F
      by_cases c : 0 < j
      · have tj : decide ((0 : Int) < (j : Int)) = true := decide_eq_true (by omega)
        rw [if_pos c] at RQ B1
        generalize nrN k = q at *
        go_wp2_with (go_at_call 65; ((with_reducible refine (B1 _).mono ?_); rintro e w' ⟨rfl, rfl⟩))
        go_ret
        exact ⟨rfl, hb.out⟩
      · have j0 : j = 0 := by omega
        subst j0
        rw [if_neg c] at RQ B1
        generalize nrN k = q at *
        go_wp2_with (go_at_call 65; ((with_reducible refine (B1 _).mono ?_); rintro e w' ⟨rfl, rfl⟩))
        go_ret
        exact ⟨rfl, hb.out⟩
end Go.Proofs.Ytnmadknpkhaolaa

namespace Go.Proofs.Ytnmadknpkhaolaa
open Go.ChangeShapes Go.WideShapes Go.ChangeAt Go.RowKit Ieee.Own Pol

theorem ft_get {L : List Nat} {j : Nat} (h : j < L.length) : (ftL L).getD j 0 = ftW j L := by unfold ftL; simp [List.getD, h]
theorem ft_len (L : List Nat) : (ftL L).length = L.length := by unfold ftL; simp
noncomputable def ndL (n : Nat) : List Nat := (List.range n).map fun k => csN (angW (1 * (2 * k + 1)) n)
theorem nd_get {n k : Nat} (h : k < n) : (ndL n).getD k 0 = csN (angW (1 * (2 * k + 1)) n) := by unfold ndL; simp [List.getD, h]
theorem nd_len (n : Nat) : (ndL n).length = n := by unfold ndL; simp
theorem lay_all {w : World} {g n : Nat} {L : List Nat} (hn : n = L.length) (h : BV w g (lay L n n)) : BV w g (L.map (Value.float .f64)) := by
  have e : lay L n n = L.map (Value.float .f64) := by
    unfold lay
    rw [Nat.sub_self, List.replicate_zero, List.append_nil, hn, List.take_length]
  rwa [e] at h
set_option maxHeartbeats 1000000 in
set_option maxRecDepth 100000 in
theorem cfit_no {L : List Nat} (ao : Option Addr) (cap n : Nat) (w : World) (hn : n = L.length) (hm : n ≤ 4611686018427387904) (hw : Words L) (ha : At w ao L) (h0 : errC L ≠ 0) :
    Calls Try.prog 14 #[.slice ao n cap] w fun e w' => e = .returned (.tuple #[.slice none 0 0, .int .i64 (errC L)]) ∧ w = w' := by
  have K := pcheck_run ao cap n L w hn hm hw ha
  have t : (errC L != 0) = true := by simpa using h0
  clear h0 hn hm hw ha
  generalize errC L = er at *
  go_enter Try.func14, Try.ntmps14
  go_wp2_with (go_at_call 38; ((with_reducible refine K.mono ?_); rintro e w' ⟨rfl, rfl⟩))
  go_ret2
  exact ⟨rfl, rfl⟩
set_option maxHeartbeats 1000000 in
set_option maxRecDepth 100000 in
theorem cfit_ok {L : List Nat} (ao : Option Addr) (cap n : Nat) (w : World) (hn : n = L.length) (hw : Words L) (ha : At w ao L) (h0 : errC L = 0) :
    Calls Try.prog 14 #[.slice ao n cap] w fun e w' => e = .returned (.tuple #[.slice (some ⟨w.heap.size, 0, none⟩) n n, .int .i64 0]) ∧ BV w' w.heap.size ((ftL L).map (Value.float .f64)) ∧ Below w.heap.size w w' := by
  obtain ⟨hl16, hfc⟩ := errC_zero hw h0
  have n16 : n ≤ 16 := by omega
  have K := pcheck_run ao cap n L w hn (by omega) hw ha
  rw [h0] at K
  have mk := make64 n n16
  have hst := @fstore
  obtain ⟨M, hM⟩ : ∃ M, M = ftL L := ⟨_, rfl⟩
  have hnM : Hid (n = M.length) := Lib.hid (by rw [hM, ft_len]; exact hn)
  rw [← hM]
  have B0 : Hid (BV (w.alloc (.cells (madeCells #[.float .f64 0] n) 30)) w.heap.size (lay M 0 n)) := Lib.hid (by rw [lay_zero]; exact madeB _ _ _ _)
  have b0 : Hid (Below w.heap.size w (w.alloc (.cells (madeCells #[.float .f64 0] n) 30))) := Lib.hid ((Below.refl _ w).alloc (Nat.le_refl _) _)
  have lt0 : Hid (∀ b o, ao = some ⟨b, o, none⟩ → 0 < L.length → b < w.heap.size) := Lib.hid ha.lt
  replace hn := Lib.hid hn
  replace hM := Lib.hid hM
  replace ha := Lib.hid ha
  replace hfc := Lib.hid hfc
  clear hw h0
  go_enter Try.func14, Try.ntmps14
  go_wp2_with (go_at_call 38; ((with_reducible refine K.mono ?_); rintro e w' ⟨rfl, rfl⟩))
  clear K
  go_loopw [17] (fun iv wr => ∃ i : Nat, i ≤ n ∧ iv = .int .i64 i ∧ BV wr w.heap.size (lay M i n) ∧ Below w.heap.size w wr) (fun iv _ => n - (intOf iv).toNat)
  case atStart => exact ⟨0, Nat.zero_le _, rfl, B0.out, b0.out⟩
  case round =>
    obtain ⟨i, hi, rfl, B, hb⟩ := hrel
    by_cases hlt : i < n
    · have A2 : At wr ao L := ha.out.later hb (fun b o e h => lt0.out b o e h)
      have C := Lib.hid (cfitted_run (j := i) ao cap n wr hn.out hlt hfc.out n16 A2)
      have eM : Hid (M.getD i 0 = ftW i L) := Lib.hid (by rw [hM.out]; exact ft_get (by have := hn.out; omega))
      generalize ftW i L = u at *
      have hi2 : (i : Int) < (n : Int) := by omega
      replace B := Lib.hid B
      replace hb := Lib.hid hb
      clear A2
      go_wp2_with fail
      refine C.out.mono ?_
      rintro _ w2 ⟨rfl, hd⟩
      have B2 := B.out.on hd
      have b2 := hb.out.trans (hd.mono hb.out.size)
      have c1 := B2.at_ i _ (lay_at hnM.out hlt)
      have f1 := B2.fr i _ (lay_at hnM.out hlt)
      have B3 := B2.set1 (lay_at hnM.out hlt) (.float .f64 u)
      rw [← eM.out, lay_set hnM.out hlt, eM.out] at B3
      replace B3 := Lib.hid B3
      have b3 := Lib.hid (b2.setCell (p := ⟨w.heap.size, i, none⟩) (Nat.le_refl _) (.float .f64 u))
      clear B B2 hb C hd b2
      go_wp2_with fail
      go_roundw
      case rel => exact ⟨i + 1, hlt, by go_num, B3.out, b3.out⟩
      case measure => simp [intOf]; omega
    · obtain rfl : i = n := by omega
      replace B := Lib.hid B
      replace hb := Lib.hid hb
      go_wp2_with fail
      go_ret2
      exact ⟨rfl, lay_all hnM.out B.out, hb.out⟩
set_option maxHeartbeats 1000000 in
set_option maxRecDepth 100000 in
theorem cnodes_no {n : Int} (w : World) (h : n < 1 ∨ 16 < n) :
    Calls Try.prog 11 #[.int .i64 n] w fun e w' => e = .returned (.tuple #[.slice none 0 0, .int .i64 1]) ∧ w = w' := by
  by_cases c : n < 1
  · go_enter Try.func11, Try.ntmps11
    go_wp2_with fail
    go_ret2
    exact ⟨rfl, rfl⟩
  · have d : 16 < n := by omega
    go_enter Try.func11, Try.ntmps11
    go_wp2_with fail
    go_ret2
    exact ⟨rfl, rfl⟩
set_option maxHeartbeats 1000000 in
set_option maxRecDepth 100000 in
theorem cnodes_ok {n : Nat} (w : World) (h0 : 0 < n) (n16 : n ≤ 16) :
    Calls Try.prog 11 #[.int .i64 (n : Int)] w fun e w' => e = .returned (.tuple #[.slice (some ⟨w.heap.size, 0, none⟩) n n, .int .i64 0]) ∧ BV w' w.heap.size ((ndL n).map (Value.float .f64)) ∧ Below w.heap.size w w' := by
  have mk := make64 n n16
  have hst := @fstore
  obtain ⟨M, hM⟩ : ∃ M, M = ndL n := ⟨_, rfl⟩
  have hnM : Hid (n = M.length) := Lib.hid (by rw [hM, nd_len])
  rw [← hM]
  have B0 : Hid (BV (w.alloc (.cells (madeCells #[.float .f64 0] n) 30)) w.heap.size (lay M 0 n)) := Lib.hid (by rw [lay_zero]; exact madeB _ _ _ _)
  have b0 : Hid (Below w.heap.size w (w.alloc (.cells (madeCells #[.float .f64 0] n) 30))) := Lib.hid ((Below.refl _ w).alloc (Nat.le_refl _) _)
  have t1 : decide ((n : Int) < 1) = false := decide_eq_false (by omega)
  have t2 : decide ((16 : Int) < (n : Int)) = false := decide_eq_false (by omega)
  replace hM := Lib.hid hM
  go_enter Try.func11, Try.ntmps11
  go_wp2_with fail
  go_loopw [15] (fun iv wr => ∃ i : Nat, i ≤ n ∧ iv = .int .i64 i ∧ BV wr w.heap.size (lay M i n) ∧ Below w.heap.size w wr) (fun iv _ => n - (intOf iv).toNat)
  case atStart => exact ⟨0, Nat.zero_le _, rfl, B0.out, b0.out⟩
  case round =>
    obtain ⟨i, hi, rfl, B, hb⟩ := hrel
    by_cases hlt : i < n
    · have C := Lib.hid (catnode_run (j := 1) (k := i) (n := n) (by omega) (by omega) h0 n16 wr)
      have eM : Hid (M.getD i 0 = csN (angW (1 * (2 * i + 1)) n)) := Lib.hid (by rw [hM.out]; exact nd_get hlt)
      generalize csN (angW (1 * (2 * i + 1)) n) = u at *
      have hi2 : (i : Int) < (n : Int) := by omega
      replace B := Lib.hid B
      replace hb := Lib.hid hb
      go_wp2_with fail
      refine C.out.mono ?_
      rintro _ w2 ⟨rfl, hd⟩
      have B2 := B.out.on hd
      have b2 := hb.out.trans (hd.mono hb.out.size)
      have c1 := B2.at_ i _ (lay_at hnM.out hlt)
      have f1 := B2.fr i _ (lay_at hnM.out hlt)
      have B3 := B2.set1 (lay_at hnM.out hlt) (.float .f64 u)
      rw [← eM.out, lay_set hnM.out hlt, eM.out] at B3
      replace B3 := Lib.hid B3
      have b3 := Lib.hid (b2.setCell (p := ⟨w.heap.size, i, none⟩) (Nat.le_refl _) (.float .f64 u))
      clear B B2 hb C hd b2
      go_wp2_with fail
      go_roundw
      case rel => exact ⟨i + 1, hlt, by go_num, B3.out, b3.out⟩
      case measure => simp [intOf]; omega
    · obtain rfl : i = n := by omega
      replace B := Lib.hid B
      replace hb := Lib.hid hb
      go_wp2_with fail
      go_ret2
      exact ⟨rfl, lay_all hnM.out B.out, hb.out⟩
end Go.Proofs.Ytnmadknpkhaolaa
