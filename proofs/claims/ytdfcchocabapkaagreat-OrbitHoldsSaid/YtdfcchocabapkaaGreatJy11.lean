/- Proved here: what the texts Frp, Frq prove, one behind the other. -/
import Derived.Test.YtdfcchocabapkaaGreatJy3
import Derived.Test.YtdfcchocabapkaaGreatJx1
import Derived.Test.YtdfcchocabapkaaGreatJy1

set_option maxHeartbeats 4000000
set_option maxRecDepth 100000
namespace Go.Proofs.YtdfcchocabapkaaGreat
open Go.ChangeShapes Go.WideShapes Go.ChangeAt Go.RowKit Ieee.Own

def timB (p : Pr) : Bool := decide (errS p.1 p.2 = 0) && witB g24 p.1 && witB g24 p.2
theorem ftimes_run {p : Pr} (h : W2 p) (w : World) : Calls Tryz.prog 25 #[pv p] w fun e w' => e = .returned (.bool (timB p)) ∧ Below w.heap.size w w' := by
 have C := Lib.hid (fun w => scheck_run p.1 p.2 h.l1 h.l2 w)
 have C1 := fun w => ftime_run p.1 h.l1 w
 have C2 := fun w => ftime_run p.2 h.l2 w
 clear h
 unfold timB
 generalize errS p.1 p.2 = k at *
 generalize witB g24 p.1 = x at *
 generalize witB g24 p.2 = y at *
 obtain ⟨p1, p2⟩ := p
 unfold pv spanV at *
 dsimp only at *
 have K0 := kv1 w 26 [.float .f64 p1, .float .f64 p2]
 simp only [objV] at K0
 have hst := @fstore
 replace K0 := Lib.hid K0
 by_cases hk : k = 0
 · subst hk
   rw [decide_eq_true rfl]
   cases x <;> cases y <;> (
    go_enter Tryz.func25, Tryz.ntmps25
    go_wp2_with fail
    have K := K0.out
    clear K0
    generalize w.alloc _ = wr at *
    refine (C.out wr).mono ?_
    rintro _ v1 ⟨rfl, hb⟩
    replace K := K.on hb
    clear hb
    have c0_0 := K.ce 0 0 rfl rfl
    have c0_1 := K.ce 0 1 rfl rfl
    replace K := Lib.hid K
    go_wp2_with (first | (go_at_call 48; ((with_reducible refine (C1 _).mono ?_); rintro e w' ⟨rfl, rfl⟩)) | (go_at_call 48; ((with_reducible refine (C2 _).mono ?_); rintro e w' ⟨rfl, rfl⟩)))
    replace K := K.out
    go_ret
    exact ⟨rfl, K.old⟩)
 · have t : (k == 0) = false := by simpa using hk
   rw [decide_eq_false hk]
   clear hk
   go_enter Tryz.func25, Tryz.ntmps25
   go_wp2_with fail
   have K := K0.out
   clear K0
   generalize w.alloc _ = wr at *
   refine (C.out wr).mono ?_
   rintro _ v1 ⟨rfl, hb⟩
   replace K := K.on hb
   clear hb
   replace K := Lib.hid K
   go_wp2_with fail
   replace K := K.out
   go_ret
   exact ⟨rfl, K.old⟩
end Go.Proofs.YtdfcchocabapkaaGreat

namespace Go.Proofs.YtdfcchocabapkaaGreat
open Go.ChangeShapes Go.WideShapes Go.ChangeAt Go.RowKit Ieee.Own Pol Fma

theorem rz_shiftF (n k : Nat) (hk : k = 1074) : rz (n * 2 ^ k) = rn n := by
 by_cases h : n = 0
 · subst h; rw [Nat.zero_mul, rz_zero, rn_zero]
 · have hl : (n * 2 ^ k).log2 = n.log2 + k := log2_shift n k h
   have hd : dz (n * 2 ^ k) = dr n + k := by unfold dz dr; rw [hl]; omega
   unfold rz rn
   rw [hd, rne_scale, ← hk, Nat.add_sub_cancel]
theorem RZ_wholeF {N : Int} : RZ (N * 2 ^ 1074) = RN N := by
 have key := rz_shiftF N.natAbs 1074 rfl
 unfold RZ Ieee.Own.RN
 rw [Int.natAbs_mul, Int.natAbs_pow, show (2 : Int).natAbs = 2 from rfl, key]
 have hp : (0 : Int) < 2 ^ 1074 := Int.pow_pos (by omega)
 have i : N * 2 ^ 1074 < 0 ↔ N < 0 := by
  generalize (2 : Int) ^ 1074 = T at *
  constructor
  · intro h
    refine Int.not_le.1 fun c => ?_
    have := Int.mul_nonneg c (Int.le_of_lt hp)
    omega
  · intro h; exact Int.mul_neg_of_neg_of_pos h hp
 by_cases c : N < 0
 · rw [if_pos c, if_pos (i.2 c)]
 · rw [if_neg c, if_neg (fun h => c (i.1 h))]
theorem fit_big {x : Nat} (hx : FinW x) (f : fitB x = true) : V x = 0 ∨ 2 ^ 874 ≤ (V x).natAbs := by
 unfold fitB at f
 rw [decide_eq_true_eq] at f
 rcases f with h | ⟨h, -⟩
 · exact .inl ((V_zero_iff hx).2 h)
 · right
   rw [V_abs' x hx]
   have e : val 52 3706462493325918208 = 2 ^ 874 := by decide +kernel
   rw [← e]
   by_cases q : x % 9223372036854775808 = 3706462493325918208
   · rw [q]; exact Nat.le_refl _
   · exact Nat.le_of_lt (val_lt (by omega))
theorem unfit_small {x : Nat} (hx : FinW x) (f : fitB x = false) (b : (V x).natAbs ≤ 2 ^ 1110) : (V x).natAbs < 2 ^ 874 := by
 unfold fitB at f
 rw [decide_eq_false_iff_not] at f
 rw [V_abs' x hx] at b ⊢
 have e : val 52 3706462493325918208 = 2 ^ 874 := by decide +kernel
 have e2 : val 52 5507902344274116608 = 2 ^ 1274 := by decide +kernel
 by_cases q : x % 9223372036854775808 < 3706462493325918208
 · rw [← e]; exact val_lt q
 · exfalso
   have q2 : 5507902344274116608 < x % 9223372036854775808 := by omega
   have := val_lt (F := 52) q2
   rw [e2] at this
   exact absurd (Nat.lt_of_lt_of_le this (Nat.le_trans b (two_le (a := 1110) (b := 1274) (by omega)))) (Nat.lt_irrefl _)
theorem tim_sn {t : Pr} (h : W2 t) (e : timB t = true) : Sn t 24 := by
 unfold timB at e
 simp only [Bool.and_eq_true, decide_eq_true_eq] at e
 obtain ⟨⟨e1, e2⟩, e3⟩ := e
 have A := wit_wd h.l1 v24 e2
 have B := wit_wd h.l2 v24 e3
 have A2 := A.le (q := 822) (l := 1074 + 24) (Nat.le_refl _) (by omega)
 have B2 := B.le (q := 822) (l := 1074 + 24) (Nat.le_refl _) (by omega)
 exact ⟨h.l1, h.l2, e1, A2.abs, B2.abs⟩
def InB (p : R3) (b : B6) : Prop := In p.1 (ps b.1) ∧ In p.2.1 (ps b.2.1) ∧ In p.2.2 (ps b.2.2)
def SQ (x : Nat) : Rat := Ply.sq (kq eig (V x)) (Ply.tau * ((rq eig (V x) : Rat) / unit))
def CQ (x : Nat) : Rat := Ply.sq (kq eig (V x) + 1) (Ply.tau * ((rq eig (V x) : Rat) / unit))
theorem SQ_of {x r : Nat} (R : Rst x r) : SQ x = Ply.sq (kq eig (V x)) (Ply.tau * Q r) ∧ CQ x = Ply.sq (kq eig (V x) + 1) (Ply.tau * Q r) := by
 unfold SQ CQ Q
 rw [R.v]
 exact ⟨rfl, rfl⟩
theorem rst_ex {x : Nat} (h : Ang x) : ∃ r, Rst x r := by
 obtain ⟨r, R, -⟩ := uquarter_run h
 exact ⟨r, R⟩
structure Sn3 (b : B6) (k : Nat) : Prop where
 x : Sn b.1 k
 y : Sn b.2.1 k
 z : Sn b.2.2 k
theorem Sn3.w6 {b : B6} {k : Nat} (h : Sn3 b k) : W6 b := ⟨h.x.w2, h.y.w2, h.z.w2⟩
end Go.Proofs.YtdfcchocabapkaaGreat
