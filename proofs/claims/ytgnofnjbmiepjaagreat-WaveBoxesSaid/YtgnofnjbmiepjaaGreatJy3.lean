/- Proved here: what the texts Fra, Frb, Frc, Frd prove, one behind the other. -/
import Derived.Test.YtgnofnjbmiepjaaGreatJy1
import Derived.Test.YtgnofnjbmiepjaaGreatJv1
import Derived.Test.YtgnofnjbmiepjaaGreatJx1

set_option maxHeartbeats 4000000
set_option maxRecDepth 100000
namespace Go.Proofs.YtgnofnjbmiepjaaGreat
open Go.ChangeShapes Go.WideShapes Go.ChangeAt Go.RowKit Ieee.Own

structure Fr where
 up : Int
 ax : Int
 ph : Nat
 rt : Nat
 o1 : Nat
 o2 : Nat
 o3 : Nat
structure FrW (f : Fr) : Prop where
 ph : f.ph < 18446744073709551616
 rt : f.rt < 18446744073709551616
 o1 : f.o1 < 18446744073709551616
 o2 : f.o2 < 18446744073709551616
 o3 : f.o3 < 18446744073709551616
def witB (c x : Nat) : Bool := decide (fitB x = true ∧ x % 9223372036854775808 ≤ c)
def g10 : Nat := 4652218415073722368
def g40 : Nat := 4787326403894837248
def g24 : Nat := 4715268809856909312
theorem fwit_run (c x : Nat) (hc : c < 9218868437227405312) (hx : x < 18446744073709551616) (w : World) :
 Calls Tryz.prog 51 #[.float .f64 x, .float .f64 c] w fun e w' => e = .returned (.bool (witB c x)) ∧ w = w' := by
 have CF := fun w => fit_any x hx w
 have CA := fun w => abs_any x hx w
 have g := o_leq (x % 9223372036854775808) c (by omega) (by omega)
 by_cases h1 : fitB x = true
 · have fn := fit_fin hx h1
   have m := fn.2
   rw [key_low (by omega), key_low (by omega)] at g
   rw [h1] at CF
   by_cases h2 : x % 9223372036854775808 ≤ c
   · have e : witB c x = true := by unfold witB; rw [decide_eq_true_eq]; exact ⟨h1, h2⟩
     rw [e]
     rw [decide_eq_true (by unfold nn; omega)] at g
     clear hx h1 fn m h2 e hc
     generalize x % 9223372036854775808 = y at *
     go_enter Tryz.func51, Tryz.ntmps51
     go_wp2_with (first | (go_at_call 54; ((with_reducible refine (CF _).mono ?_); rintro e w' ⟨rfl, rfl⟩)) | (go_at_call 89; ((with_reducible refine (CA _).mono ?_); rintro e w' ⟨rfl, rfl⟩)))
     go_ret
     exact ⟨rfl, rfl⟩
   · have e : witB c x = false := by unfold witB; rw [decide_eq_false_iff_not]; exact fun h => h2 h.2
     rw [e]
     rw [decide_eq_false (by omega)] at g
     clear hx h1 fn m h2 e hc
     generalize x % 9223372036854775808 = y at *
     go_enter Tryz.func51, Tryz.ntmps51
     go_wp2_with (first | (go_at_call 54; ((with_reducible refine (CF _).mono ?_); rintro e w' ⟨rfl, rfl⟩)) | (go_at_call 89; ((with_reducible refine (CA _).mono ?_); rintro e w' ⟨rfl, rfl⟩)))
     go_ret
     exact ⟨rfl, rfl⟩
 · have e : witB c x = false := by unfold witB; rw [decide_eq_false_iff_not]; exact fun h => h1 h.1
   rw [Bool.not_eq_true] at h1
   rw [h1] at CF
   rw [e]
   clear hx h1 e g hc
   go_enter Tryz.func51, Tryz.ntmps51
   go_wp2_with (first | (go_at_call 54; ((with_reducible refine (CF _).mono ?_); rintro e w' ⟨rfl, rfl⟩)) | (go_at_call 89; ((with_reducible refine (CA _).mono ?_); rintro e w' ⟨rfl, rfl⟩)))
   go_ret
   exact ⟨rfl, rfl⟩
theorem ftime_run (x : Nat) (hx : x < 18446744073709551616) (w : World) :
 Calls Tryz.prog 26 #[.float .f64 x] w fun e w' => e = .returned (.bool (witB g24 x)) ∧ w = w' := by
 have C := fun w => fwit_run 4715268809856909312 x (by omega) hx w
 unfold g24
 generalize witB 4715268809856909312 x = b at *
 clear hx
 go_enter Tryz.func26, Tryz.ntmps26
 go_wp2_with (go_at_call 51; ((with_reducible refine (C _).mono ?_); rintro e w' ⟨rfl, rfl⟩))
 go_ret
 exact ⟨rfl, rfl⟩
end Go.Proofs.YtgnofnjbmiepjaaGreat

namespace Go.Proofs.YtgnofnjbmiepjaaGreat
open Go.ChangeShapes Go.WideShapes Go.ChangeAt Go.RowKit Ieee.Own

end Go.Proofs.YtgnofnjbmiepjaaGreat

namespace Go.Proofs.YtgnofnjbmiepjaaGreat
open Go.ChangeShapes Go.WideShapes Go.ChangeAt Go.RowKit Ieee.Own

end Go.Proofs.YtgnofnjbmiepjaaGreat

namespace Go.Proofs.YtgnofnjbmiepjaaGreat
open Go.ChangeShapes Go.WideShapes Go.ChangeAt Go.RowKit Ieee.Own

theorem wit_spec {c x k : Nat} (hx : x < 18446744073709551616) (hc : val 52 c = 2 ^ k) (h : witB c x = true) : FinW x ∧ fitB x = true ∧ (V x).natAbs ≤ 2 ^ k := by
 unfold witB at h
 rw [decide_eq_true_eq] at h
 have f := fit_fin hx h.1
 refine ⟨f, h.1, ?_⟩
 rw [V_abs' x f, ← hc]
 by_cases q : x % 9223372036854775808 = c
 · rw [q]; exact Nat.le_refl _
 · exact Nat.le_of_lt (val_lt (by omega))
theorem v10 : val 52 g10 = 2 ^ 1084 := by decide +kernel
theorem v24 : val 52 g24 = 2 ^ 1098 := by decide +kernel
theorem v40 : val 52 g40 = 2 ^ 1114 := by decide +kernel
theorem wit_wd {c x k : Nat} (hx : x < 18446744073709551616) (hc : val 52 c = 2 ^ k) (h : witB c x = true) : Wd x 822 k := by
 obtain ⟨f, g, b⟩ := wit_spec hx hc h
 exact ⟨f, fit_822 hx g, b⟩
def angA (f : Fr) (d : Nat) : Nat := aX f.ph (mX f.rt d)
def angW (f : Fr) (d : Nat) : Nat := if fitB (angA f d) = true then angA f d else 0
structure AngA (f : Fr) (d : Nat) : Prop where
 mul : Ieee.double.mul f.rt d = some (mX f.rt d)
 add : Ieee.double.add f.ph (mX f.rt d) = some (angA f d)
 fm : FinW (mX f.rt d)
 vm : V (mX f.rt d) = RZ (V f.rt * V d)
 fin : FinW (angA f d)
 va : V (angA f d) = RN (V f.ph + V (mX f.rt d))
 abs : (V (angA f d)).natAbs ≤ 2 ^ 1110
theorem ang_a {f : Fr} {d : Nat} (wf : FrW f) (hd : d < 18446744073709551616) (h1 : witB g10 f.ph = true) (h2 : witB g10 f.rt = true) (h3 : witB g24 d = true) : AngA f d := by
 have W1 := wit_wd wf.ph v10 h1
 have W2 := wit_wd wf.rt v10 h2
 have W3 := wit_wd hd v24 h3
 obtain ⟨q1, M, -⟩ := W2.mul W3 (by omega) (by omega) (by omega)
 obtain ⟨q2, A, -⟩ := Wd.add (p := 570) (k := 1109) (W1.le (by omega) (by omega)) (M.le (by omega) (by omega)) (by omega)
 obtain ⟨-, -, v1, -⟩ := mul_ok (i := 1098) (k := 1122) W2.fin W3.fin (abs_up (k := 1084) (l := 1098) W2.abs (by omega)) W3.abs rfl (by omega)
 obtain ⟨-, -, v2, -⟩ := add_ok (i := 1109) (k := 1110) W1.fin M.fin (abs_up (k := 1084) (l := 1109) W1.abs (by omega)) (M.le (q := 0) (l := 1109) (by omega) (by omega)).abs rfl (by omega)
 exact ⟨q1, q2, M.fin, v1, A.fin, v2, (A.le (q := 0) (l := 1110) (by omega) (by omega)).abs⟩
theorem err_small {x : Nat} (hx : FinW x) (f : fitB x = true) (h : (V x).natAbs ≤ 2 ^ 1114) : errA x = 0 := by
 unfold errA
 rw [if_pos]
 refine ⟨f, ?_⟩
 rw [V_abs' x hx] at h
 have e : val 52 4787326403894837248 = 2 ^ 1114 := v40
 rw [← e] at h
 by_cases q : x % 9223372036854775808 ≤ 4787326403894837248
 · exact q
 · have k : val 52 4787326403894837248 < val 52 (x % 9223372036854775808) := val_lt (by omega)
   exact absurd h (Nat.not_le.2 k)
theorem ang_w {f : Fr} {d : Nat} (A : AngA f d) : angW f d < 18446744073709551616 ∧ errA (angW f d) = 0 := by
 unfold angW
 by_cases h : fitB (angA f d) = true
 · rw [if_pos h]
   exact ⟨A.fin.1, err_small A.fin h (abs_up (k := 1110) (l := 1114) A.abs (by omega))⟩
 · rw [if_neg h]
   exact ⟨by decide, by decide⟩
open Classical in
noncomputable def tS (x : Nat) : Nat := if h : ∃ s c, Trig x s c then h.choose else 0
open Classical in
noncomputable def tC (x : Nat) : Nat := if h : ∃ s c, Trig x s c then h.choose_spec.choose else 0
theorem trig_ex {x : Nat} (h : ∃ s c, Trig x s c) : Trig x (tS x) (tC x) := by
 unfold tS tC
 rw [dif_pos h, dif_pos h]
 exact h.choose_spec.choose_spec
theorem Trig.congr {x y s c : Nat} (T : Trig x s c) (h : V x = V y) : Trig y s c := by
 obtain ⟨⟨r, R, a, b⟩, sz, cz⟩ := T
 exact ⟨⟨r, ⟨R.nz, by rw [← h]; exact R.v⟩, by rw [← h]; exact a, by rw [← h]; exact b⟩, sz, cz⟩
theorem tS_eq {x s c : Nat} (T : Trig x s c) : tS x = s ∧ tC x = c := by
 have := (trig_ex ⟨s, c, T⟩).uniq T
 exact this
end Go.Proofs.YtgnofnjbmiepjaaGreat
