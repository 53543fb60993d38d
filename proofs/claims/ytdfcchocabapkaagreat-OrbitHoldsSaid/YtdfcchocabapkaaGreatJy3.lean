/- Proved here: what the texts Fra, Frb, Frc, Frd prove, one behind the other. -/
import Derived.Test.YtdfcchocabapkaaGreatJy1
import Derived.Test.YtdfcchocabapkaaGreatJv1
import Derived.Test.YtdfcchocabapkaaGreatJx1

set_option maxHeartbeats 4000000
set_option maxRecDepth 100000
namespace Go.Proofs.YtdfcchocabapkaaGreat
open Go.ChangeShapes Go.WideShapes Go.ChangeAt Go.RowKit Ieee.Own

def witB (c x : Nat) : Bool := decide (fitB x = true ∧ x % 9223372036854775808 ≤ c)
def g40 : Nat := 4787326403894837248
def g24 : Nat := 4715268809856909312
theorem fwit_run (c x : Nat) (hc : c < 9218868437227405312) (hx : x < 18446744073709551616) (w : World) :
 Calls Tryz.prog 100 #[.float .f64 x, .float .f64 c] w fun e w' => e = .returned (.bool (witB c x)) ∧ w = w' := by
 have CF := fun w => fit_any x hx w
 have CA := fun w => abs_any x hx w
 have g := o_leq (x % 9223372036854775808) c (by omega) (by omega)
 by_cases h1 : fitB x = true
 · have fn := fit_fin hx h1
   have m := fn.2
   rw [key_low (by omega), key_low (by omega)] at g
   rw [h1] at CF
   by_cases h2 : x % 9223372036854775808 ≤ c
   · have e : witB c x = true := by unfold witB; rw [decide_eq_true_eq]; exact ⟨h1, h2⟩
     rw [e]
     rw [decide_eq_true (by unfold nn; omega)] at g
     clear hx h1 fn m h2 e hc
     generalize x % 9223372036854775808 = y at *
     go_enter Tryz.func100, Tryz.ntmps100
     go_wp2_with (first | (go_at_call 51; ((with_reducible refine (CF _).mono ?_); rintro e w' ⟨rfl, rfl⟩)) | (go_at_call 101; ((with_reducible refine (CA _).mono ?_); rintro e w' ⟨rfl, rfl⟩)))
     go_ret
     exact ⟨rfl, rfl⟩
   · have e : witB c x = false := by unfold witB; rw [decide_eq_false_iff_not]; exact fun h => h2 h.2
     rw [e]
     rw [decide_eq_false (by omega)] at g
     clear hx h1 fn m h2 e hc
     generalize x % 9223372036854775808 = y at *
     go_enter Tryz.func100, Tryz.ntmps100
     go_wp2_with (first | (go_at_call 51; ((with_reducible refine (CF _).mono ?_); rintro e w' ⟨rfl, rfl⟩)) | (go_at_call 101; ((with_reducible refine (CA _).mono ?_); rintro e w' ⟨rfl, rfl⟩)))
     go_ret
     exact ⟨rfl, rfl⟩
 · have e : witB c x = false := by unfold witB; rw [decide_eq_false_iff_not]; exact fun h => h1 h.1
   rw [Bool.not_eq_true] at h1
   rw [h1] at CF
   rw [e]
   clear hx h1 e g hc
   go_enter Tryz.func100, Tryz.ntmps100
   go_wp2_with (first | (go_at_call 51; ((with_reducible refine (CF _).mono ?_); rintro e w' ⟨rfl, rfl⟩)) | (go_at_call 101; ((with_reducible refine (CA _).mono ?_); rintro e w' ⟨rfl, rfl⟩)))
   go_ret
   exact ⟨rfl, rfl⟩
theorem ftime_run (x : Nat) (hx : x < 18446744073709551616) (w : World) :
 Calls Tryz.prog 48 #[.float .f64 x] w fun e w' => e = .returned (.bool (witB g24 x)) ∧ w = w' := by
 have C := fun w => fwit_run 4715268809856909312 x (by omega) hx w
 unfold g24
 generalize witB 4715268809856909312 x = b at *
 clear hx
 go_enter Tryz.func48, Tryz.ntmps48
 go_wp2_with (go_at_call 100; ((with_reducible refine (C _).mono ?_); rintro e w' ⟨rfl, rfl⟩))
 go_ret
 exact ⟨rfl, rfl⟩



theorem wit_spec {c x k : Nat} (hx : x < 18446744073709551616) (hc : val 52 c = 2 ^ k) (h : witB c x = true) : FinW x ∧ fitB x = true ∧ (V x).natAbs ≤ 2 ^ k := by
 unfold witB at h
 rw [decide_eq_true_eq] at h
 have f := fit_fin hx h.1
 refine ⟨f, h.1, ?_⟩
 rw [V_abs' x f, ← hc]
 by_cases q : x % 9223372036854775808 = c
 · rw [q]; exact Nat.le_refl _
 · exact Nat.le_of_lt (val_lt (by omega))
theorem v24 : val 52 g24 = 2 ^ 1098 := by decide +kernel
theorem v40 : val 52 g40 = 2 ^ 1114 := by decide +kernel
theorem wit_wd {c x k : Nat} (hx : x < 18446744073709551616) (hc : val 52 c = 2 ^ k) (h : witB c x = true) : Wd x 822 k := by
 obtain ⟨f, g, b⟩ := wit_spec hx hc h
 exact ⟨f, fit_822 hx g, b⟩
theorem err_small {x : Nat} (hx : FinW x) (f : fitB x = true) (h : (V x).natAbs ≤ 2 ^ 1114) : errA x = 0 := by
 unfold errA
 rw [if_pos]
 refine ⟨f, ?_⟩
 rw [V_abs' x hx] at h
 have e : val 52 4787326403894837248 = 2 ^ 1114 := v40
 rw [← e] at h
 by_cases q : x % 9223372036854775808 ≤ 4787326403894837248
 · exact q
 · have k : val 52 4787326403894837248 < val 52 (x % 9223372036854775808) := val_lt (by omega)
   exact absurd h (Nat.not_le.2 k)
open Classical in
noncomputable def tS (x : Nat) : Nat := if h : ∃ s c, Trig x s c then h.choose else 0
open Classical in
noncomputable def tC (x : Nat) : Nat := if h : ∃ s c, Trig x s c then h.choose_spec.choose else 0
theorem trig_ex {x : Nat} (h : ∃ s c, Trig x s c) : Trig x (tS x) (tC x) := by
 unfold tS tC
 rw [dif_pos h, dif_pos h]
 exact h.choose_spec.choose_spec
theorem Trig.congr {x y s c : Nat} (T : Trig x s c) (h : V x = V y) : Trig y s c := by
 obtain ⟨⟨r, R, a, b⟩, sz, cz⟩ := T
 exact ⟨⟨r, ⟨R.nz, by rw [← h]; exact R.v⟩, by rw [← h]; exact a, by rw [← h]; exact b⟩, sz, cz⟩
theorem tS_eq {x s c : Nat} (T : Trig x s c) : tS x = s ∧ tC x = c := by
 have := (trig_ex ⟨s, c, T⟩).uniq T
 exact this
theorem t_congr {x y : Nat} (h : V x = V y) : tS x = tS y ∧ tC x = tC y := by
 by_cases e : ∃ s c, Trig x s c
 · have T := trig_ex e
   have U := trig_ex ⟨_, _, T.congr h⟩
   exact (T.congr h).uniq U
 · have e' : ¬ ∃ s c, Trig y s c := fun ⟨s, c, T⟩ => e ⟨s, c, T.congr h.symm⟩
   unfold tS tC
   rw [dif_neg e, dif_neg e', dif_neg e, dif_neg e']
   exact ⟨rfl, rfl⟩
theorem trig_of {x : Nat} (hx : x < 18446744073709551616) (e : errA x = 0) : Trig x (tS x) (tC x) := by
 obtain ⟨s, c, T, -⟩ := uboth_ok hx e
 exact trig_ex ⟨s, c, T⟩
noncomputable def turnW (a : Int) (x : Nat) : M9 := tM a (bW (tS x)) (bW (tC x)) (negN (bW (tS x)))
theorem vturned_run {a : Int} {x : Nat} (h0 : 0 ≤ a) (h1 : a ≤ 2) (hx : x < 18446744073709551616) (e : errA x = 0) (w : World) : Calls Tryz.prog 97 #[.int .i64 a, .float .f64 x] w fun e w' => e = .returned (matE (turnW a x) 0) ∧ Below w.heap.size w w' := by
 have C1 := fun w => vaxis_run a w
 rw [decide_eq_true ⟨h0, h1⟩] at C1
 obtain ⟨s, c, k, B, CB⟩ := uboth_run hx
 have hk : k = 0 := by rw [B.err, e]
 subst hk
 have A := errA_ang hx e
 have T := B.ok rfl
 obtain ⟨e1, e2⟩ := tS_eq T
 unfold turnW
 rw [e1, e2]
 obtain ⟨F, et⟩ := turned_told A T a
 have C3 := fun w => vtoldmat_any F w
 rw [et] at C3
 have N := fun w => xneg' s T.sz.fin.1 w
 have : a = 0 ∨ a = 1 ∨ a = 2 := by omega
 rcases this with rfl | rfl | rfl
 · exact vturned_ok0 (Lib.hid C1) (Lib.hid CB) N (Lib.hid C3) w
 · exact vturned_ok1 (Lib.hid C1) (Lib.hid CB) N (Lib.hid C3) w
 · exact vturned_ok2 (Lib.hid C1) (Lib.hid CB) N (Lib.hid C3) w
theorem turnW_ok {x : Nat} (a : Int) (hx : x < 18446744073709551616) (e : errA x = 0) : W9 (turnW a x) ∧ fitM (turnW a x) = true := by
 have := tM_w (errA_ang hx e) (trig_of hx e) a
 exact ⟨this.1, this.2.1⟩
structure Ans3 (r : V3 × Int) : Prop where
 w : W3 r.1
 ok : r.2 = 0 → fitV r.1 = true
theorem z3_w : W3 z3 := ⟨by decide, by decide, by decide⟩
theorem ans_bad {k : Int} (h : k ≠ 0) : Ans3 (z3, k) := ⟨z3_w, fun e => absurd e h⟩
theorem ans_told {p : V3} (h : F3 p) : Ans3 (toldR p) := by
 unfold toldR
 by_cases e : fitV (bV p) = true
 · rw [if_pos e]; exact ⟨h.b.w, fun _ => e⟩
 · rw [if_neg e]; exact ans_bad (by decide)
theorem ans_apply {m : M9} {v : V3} (hm : W9 m) (hv : W3 v) : Ans3 (applyR m v) := by
 unfold applyR
 by_cases h : (fitM m && fitV v) = true
 · rw [if_pos h]
   simp only [Bool.and_eq_true] at h
   have E := fitV_wd hv h.2
   have D := fitM_wd hm h.1
   exact ans_told ⟨(dot_wd D.d1 E).d.fin, (dot_wd D.d2 E).d.fin, (dot_wd D.d3 E).d.fin⟩
 · rw [if_neg h]; exact ans_bad (by decide)
end Go.Proofs.YtdfcchocabapkaaGreat
