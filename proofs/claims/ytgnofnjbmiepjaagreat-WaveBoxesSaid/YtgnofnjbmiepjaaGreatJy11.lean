/- Proved here: what the texts Frp, Frq prove, one behind the other. -/
import Derived.Test.YtgnofnjbmiepjaaGreatJy3
import Derived.Test.YtgnofnjbmiepjaaGreatJx1
import Derived.Test.YtgnofnjbmiepjaaGreatJy1

set_option maxHeartbeats 4000000
set_option maxRecDepth 100000
namespace Go.Proofs.YtgnofnjbmiepjaaGreat
open Go.ChangeShapes Go.WideShapes Go.ChangeAt Go.RowKit Ieee.Own

def timB (p : Pr) : Bool := decide (errS p.1 p.2 = 0) && witB g24 p.1 && witB g24 p.2
theorem ftimes_run {p : Pr} (h : W2 p) (w : World) : Calls Tryz.prog 13 #[pv p] w fun e w' => e = .returned (.bool (timB p)) ∧ Below w.heap.size w w' := by
 have C := Lib.hid (fun w => scheck_run p.1 p.2 h.l1 h.l2 w)
 have C1 := fun w => ftime_run p.1 h.l1 w
 have C2 := fun w => ftime_run p.2 h.l2 w
 clear h
 unfold timB
 generalize errS p.1 p.2 = k at *
 generalize witB g24 p.1 = x at *
 generalize witB g24 p.2 = y at *
 obtain ⟨p1, p2⟩ := p
 unfold pv spanV at *
 dsimp only at *
 have K0 := kv1 w 25 [.float .f64 p1, .float .f64 p2]
 simp only [objV] at K0
 have hst := @fstore
 replace K0 := Lib.hid K0
 by_cases hk : k = 0
 · subst hk
   rw [decide_eq_true rfl]
   cases x <;> cases y <;> (
    go_enter Tryz.func13, Tryz.ntmps13
    go_wp2_with fail
    have K := K0.out
    clear K0
    generalize w.alloc _ = wr at *
    refine (C.out wr).mono ?_
    rintro _ v1 ⟨rfl, hb⟩
    replace K := K.on hb
    clear hb
    have c0_0 := (K.at_ 0 rfl).at_ 0 _ rfl
    have c0_1 := (K.at_ 0 rfl).at_ 1 _ rfl
    replace K := Lib.hid K
    go_wp2_with (first | (go_at_call 26; ((with_reducible refine (C1 _).mono ?_); rintro e w' ⟨rfl, rfl⟩)) | (go_at_call 26; ((with_reducible refine (C2 _).mono ?_); rintro e w' ⟨rfl, rfl⟩)))
    replace K := K.out
    go_ret
    exact ⟨rfl, K.old⟩)
 · have t : (k == 0) = false := by simpa using hk
   rw [decide_eq_false hk]
   clear hk
   go_enter Tryz.func13, Tryz.ntmps13
   go_wp2_with fail
   have K := K0.out
   clear K0
   generalize w.alloc _ = wr at *
   refine (C.out wr).mono ?_
   rintro _ v1 ⟨rfl, hb⟩
   replace K := K.on hb
   clear hb
   replace K := Lib.hid K
   go_wp2_with fail
   replace K := K.out
   go_ret
   exact ⟨rfl, K.old⟩
end Go.Proofs.YtgnofnjbmiepjaaGreat

namespace Go.Proofs.YtgnofnjbmiepjaaGreat
open Go.ChangeShapes Go.WideShapes Go.ChangeAt Go.RowKit Ieee.Own Pol Fma

theorem rz_shiftF (n k : Nat) (hk : k = 1074) : rz (n * 2 ^ k) = rn n := by
 by_cases h : n = 0
 · subst h; rw [Nat.zero_mul, rz_zero, rn_zero]
 · have hl : (n * 2 ^ k).log2 = n.log2 + k := log2_shift n k h
   have hd : dz (n * 2 ^ k) = dr n + k := by unfold dz dr; rw [hl]; omega
   unfold rz rn
   rw [hd, rne_scale, ← hk, Nat.add_sub_cancel]
theorem RZ_wholeF {N : Int} : RZ (N * 2 ^ 1074) = RN N := by
 have key := rz_shiftF N.natAbs 1074 rfl
 unfold RZ Ieee.Own.RN
 rw [Int.natAbs_mul, Int.natAbs_pow, show (2 : Int).natAbs = 2 from rfl, key]
 have hp : (0 : Int) < 2 ^ 1074 := Int.pow_pos (by omega)
 have i : N * 2 ^ 1074 < 0 ↔ N < 0 := by
  generalize (2 : Int) ^ 1074 = T at *
  constructor
  · intro h
    refine Int.not_le.1 fun c => ?_
    have := Int.mul_nonneg c (Int.le_of_lt hp)
    omega
  · intro h; exact Int.mul_neg_of_neg_of_pos h hp
 by_cases c : N < 0
 · rw [if_pos c, if_pos (i.2 c)]
 · rw [if_neg c, if_neg (fun h => c (i.1 h))]
theorem pow_tw {p q r s : Nat} (h : p + q = r + s) : (2 : Int) ^ p * 2 ^ q = 2 ^ r * 2 ^ s := by rw [← Int.pow_add, h, Int.pow_add]
theorem mX_N {a b : Nat} (ha : Wd a 822 1100) (hb : Wd b 822 1100) (hm : V (mX a b) = RZ (V a * V b)) : ∃ N : Int, V a * V b = N * 2 ^ 1074 ∧ V (mX a b) = RN N := by
 obtain ⟨c, hc⟩ := ha.dvd
 obtain ⟨d, hd⟩ := hb.dvd
 have e : V a * V b = (2 ^ 570 * (c * d)) * 2 ^ 1074 := by
  rw [hc, hd]
  have : (2 : Int) ^ 822 * c * (2 ^ 822 * d) = 2 ^ 822 * 2 ^ 822 * (c * d) := by
   generalize (2 : Int) ^ 822 = p
   grind
  rw [this, pow_tw (p := 822) (q := 822) (r := 570) (s := 1074) rfl]
  generalize (2 : Int) ^ 570 = p
  generalize (2 : Int) ^ 1074 = q
  grind
 exact ⟨_, e, by rw [hm, e]; exact RZ_wholeF⟩
theorem prod_Q {a b : Nat} {N : Int} (h : V a * V b = N * 2 ^ 1074) : Q a * Q b = (N : Rat) / unit := by
 have u := unit_pos
 have e1 := Q_unit a
 have e2 := Q_unit b
 have k : (Q a * Q b) * unit * unit = (N : Rat) * unit := by
  have : (Q a * Q b) * unit * unit = (Q a * unit) * (Q b * unit) := by grind
  rw [this, e1, e2, ← Rat.intCast_mul, h, Rat.intCast_mul, unit_int]
 have un : unit ≠ 0 := by grind
 rw [Rat.div_def]
 generalize hc : (Q a * Q b) * unit = c at k
 have k2 : c = (N : Rat) := by
  have : c * unit * unit⁻¹ = (N : Rat) * unit * unit⁻¹ := by rw [k]
  rw [Rat.mul_assoc, Rat.mul_inv_cancel _ un, Rat.mul_one, Rat.mul_assoc, Rat.mul_inv_cancel _ un, Rat.mul_one] at this
  exact this
 rw [← k2, ← hc, Rat.mul_assoc, Rat.mul_inv_cancel _ un, Rat.mul_one]
theorem int_div_le {a b : Int} : (a : Rat) / unit ≤ (b : Rat) / unit ↔ a ≤ b := by
 constructor
 · intro h
   have := Rat.mul_le_mul_of_nonneg_right h (Rat.le_of_lt unit_pos)
   rw [mul_unit, mul_unit] at this
   exact Rat.intCast_le_intCast.1 this
 · intro h; exact div_le (Rat.intCast_le_intCast.2 h)
theorem between_mul {a b lo hi : Nat} (ha : Wd a 822 1100) (hb : Wd b 822 1100) (hm : V (mX a b) = RZ (V a * V b)) (h : In (Q a * Q b) (sp lo hi)) : V lo ≤ V (mX a b) ∧ V (mX a b) ≤ V hi := by
 obtain ⟨N, e1, e2⟩ := mX_N ha hb hm
 obtain ⟨h1, h2⟩ := h
 rw [prod_Q e1] at h1 h2
 have k1 : V lo ≤ N := int_div_le.1 h1
 have k2 : N ≤ V hi := int_div_le.1 h2
 rw [e2]
 constructor
 · rw [← RN_exact (Rep_V lo)]; exact RN_mono k1
 · rw [← RN_exact (Rep_V hi)]; exact RN_mono k2
theorem between_add {a b lo hi x : Nat} (hx : V x = RN (V a + V b)) (h : In (Q a + Q b) (sp lo hi)) : V lo ≤ V x ∧ V x ≤ V hi := by
 obtain ⟨h1, h2⟩ := h
 rw [Q_sum] at h1 h2
 have k1 : V lo ≤ V a + V b := int_div_le.1 h1
 have k2 : V a + V b ≤ V hi := int_div_le.1 h2
 rw [hx]
 constructor
 · rw [← RN_exact (Rep_V lo)]; exact RN_mono k1
 · rw [← RN_exact (Rep_V hi)]; exact RN_mono k2
theorem fit_big {x : Nat} (hx : FinW x) (f : fitB x = true) : V x = 0 ∨ 2 ^ 874 ≤ (V x).natAbs := by
 unfold fitB at f
 rw [decide_eq_true_eq] at f
 rcases f with h | ⟨h, -⟩
 · exact .inl ((V_zero_iff hx).2 h)
 · right
   rw [V_abs' x hx]
   have e : val 52 3706462493325918208 = 2 ^ 874 := by decide +kernel
   rw [← e]
   by_cases q : x % 9223372036854775808 = 3706462493325918208
   · rw [q]; exact Nat.le_refl _
   · exact Nat.le_of_lt (val_lt (by omega))
theorem unfit_small {x : Nat} (hx : FinW x) (f : fitB x = false) (b : (V x).natAbs ≤ 2 ^ 1110) : (V x).natAbs < 2 ^ 874 := by
 unfold fitB at f
 rw [decide_eq_false_iff_not] at f
 rw [V_abs' x hx] at b ⊢
 have e : val 52 3706462493325918208 = 2 ^ 874 := by decide +kernel
 have e2 : val 52 5507902344274116608 = 2 ^ 1274 := by decide +kernel
 by_cases q : x % 9223372036854775808 < 3706462493325918208
 · rw [← e]; exact val_lt q
 · exfalso
   have q2 : 5507902344274116608 < x % 9223372036854775808 := by omega
   have := val_lt (F := 52) q2
   rw [e2] at this
   exact absurd (Nat.lt_of_lt_of_le this (Nat.le_trans b (two_le (a := 1110) (b := 1274) (by omega)))) (Nat.lt_irrefl _)
theorem zero_between {l h a : Int} {T : Nat} (hl : l = 0 ∨ T ≤ l.natAbs) (hh : h = 0 ∨ T ≤ h.natAbs) (ha : a.natAbs < T) (h1 : l ≤ a) (h2 : a ≤ h) : l ≤ 0 ∧ 0 ≤ h := by omega
theorem tim_sn {t : Pr} (h : W2 t) (e : timB t = true) : Sn t 24 := by
 unfold timB at e
 simp only [Bool.and_eq_true, decide_eq_true_eq] at e
 obtain ⟨⟨e1, e2⟩, e3⟩ := e
 have A := wit_wd h.l1 v24 e2
 have B := wit_wd h.l2 v24 e3
 have A2 := A.le (q := 822) (l := 1074 + 24) (Nat.le_refl _) (by omega)
 have B2 := B.le (q := 822) (l := 1074 + 24) (Nat.le_refl _) (by omega)
 exact ⟨h.l1, h.l2, e1, A2.abs, B2.abs⟩
def InB (p : R3) (b : B6) : Prop := In p.1 (ps b.1) ∧ In p.2.1 (ps b.2.1) ∧ In p.2.2 (ps b.2.2)
def SQ (x : Nat) : Rat := Ply.sq (kq eig (V x)) (Ply.tau * ((rq eig (V x) : Rat) / unit))
def CQ (x : Nat) : Rat := Ply.sq (kq eig (V x) + 1) (Ply.tau * ((rq eig (V x) : Rat) / unit))
theorem SQ_of {x r : Nat} (R : Rst x r) : SQ x = Ply.sq (kq eig (V x)) (Ply.tau * Q r) ∧ CQ x = Ply.sq (kq eig (V x) + 1) (Ply.tau * Q r) := by
 unfold SQ CQ Q
 rw [R.v]
 exact ⟨rfl, rfl⟩
theorem rst_ex {x : Nat} (h : Ang x) : ∃ r, Rst x r := by
 obtain ⟨r, R, -⟩ := uquarter_run h
 exact ⟨r, R⟩
structure Sn3 (b : B6) (k : Nat) : Prop where
 x : Sn b.1 k
 y : Sn b.2.1 k
 z : Sn b.2.2 k
theorem Sn3.w6 {b : B6} {k : Nat} (h : Sn3 b k) : W6 b := ⟨h.x.w2, h.y.w2, h.z.w2⟩
end Go.Proofs.YtgnofnjbmiepjaaGreat
