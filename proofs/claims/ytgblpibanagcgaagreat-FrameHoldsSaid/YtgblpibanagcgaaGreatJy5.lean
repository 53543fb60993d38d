/- Proved here: what the texts Frd prove, one behind the other. -/
import Derived.Test.YtgblpibanagcgaaGreatJy4
import Derived.Test.YtgblpibanagcgaaGreatJx1

namespace Go.Proofs.YtgblpibanagcgaaGreat
open Go.ChangeShapes Go.WideShapes Go.ChangeAt Go.RowKit Ieee.Own

theorem wit_spec {c x k : Nat} (hx : x < 18446744073709551616) (hc : val 52 c = 2 ^ k) (h : witB c x = true) : FinW x ∧ fitB x = true ∧ (V x).natAbs ≤ 2 ^ k := by
  unfold witB at h
  rw [decide_eq_true_eq] at h
  have f := fit_fin hx h.1
  refine ⟨f, h.1, ?_⟩
  rw [V_abs' x f, ← hc]
  by_cases q : x % 9223372036854775808 = c
  · rw [q]; exact Nat.le_refl _
  · exact Nat.le_of_lt (val_lt (by omega))
theorem v10 : val 52 g10 = 2 ^ 1084 := by decide +kernel
theorem v24 : val 52 g24 = 2 ^ 1098 := by decide +kernel
theorem v40 : val 52 g40 = 2 ^ 1114 := by decide +kernel
theorem wit_wd {c x k : Nat} (hx : x < 18446744073709551616) (hc : val 52 c = 2 ^ k) (h : witB c x = true) : Wd x 822 k := by
  obtain ⟨f, g, b⟩ := wit_spec hx hc h
  exact ⟨f, fit_822 hx g, b⟩
/-- what may be, told -/
structure FrOk (f : Fr) (i : Int) : Prop where
  up0 : -1 ≤ f.up
  up1 : f.up < i
  ax0 : 0 ≤ f.ax
  ax1 : f.ax ≤ 2
  ph : witB g10 f.ph = true
  rt : witB g10 f.rt = true
  o1 : witB g40 f.o1 = true
  o2 : witB g40 f.o2 = true
  o3 : witB g40 f.o3 = true
theorem may_of {f : Fr} {i : Int} (h : mayB f i = true) : FrOk f i := by
  unfold mayB at h
  simp only [Bool.and_eq_true, decide_eq_true_eq] at h
  obtain ⟨a, b, c, d, e, g, h1, h2, h3⟩ := h
  exact ⟨a, b, c, d, e, g, h1, h2, h3⟩
/-! ### the angle -/
def angA (f : Fr) (d : Nat) : Nat := aX f.ph (mX f.rt d)
def angW (f : Fr) (d : Nat) : Nat := if fitB (angA f d) = true then angA f d else 0
structure AngA (f : Fr) (d : Nat) : Prop where
  mul : Ieee.double.mul f.rt d = some (mX f.rt d)
  add : Ieee.double.add f.ph (mX f.rt d) = some (angA f d)
  fm : FinW (mX f.rt d)
  vm : V (mX f.rt d) = RZ (V f.rt * V d)
  fin : FinW (angA f d)
  va : V (angA f d) = RN (V f.ph + V (mX f.rt d))
  abs : (V (angA f d)).natAbs ≤ 2 ^ 1110
theorem ang_a {f : Fr} {d : Nat} (wf : FrW f) (hd : d < 18446744073709551616) (h1 : witB g10 f.ph = true) (h2 : witB g10 f.rt = true) (h3 : witB g24 d = true) : AngA f d := by
  have W1 := wit_wd wf.ph v10 h1
  have W2 := wit_wd wf.rt v10 h2
  have W3 := wit_wd hd v24 h3
  obtain ⟨q1, M, -⟩ := W2.mul W3 (by omega) (by omega) (by omega)
  obtain ⟨q2, A, -⟩ := Wd.add (p := 570) (k := 1109) (W1.le (by omega) (by omega)) (M.le (by omega) (by omega)) (by omega)
  obtain ⟨-, -, v1, -⟩ := mul_ok (i := 1098) (k := 1122) W2.fin W3.fin (abs_up (k := 1084) (l := 1098) W2.abs (by omega)) W3.abs rfl (by omega)
  obtain ⟨-, -, v2, -⟩ := add_ok (i := 1109) (k := 1110) W1.fin M.fin (abs_up (k := 1084) (l := 1109) W1.abs (by omega)) (M.le (q := 0) (l := 1109) (by omega) (by omega)).abs rfl (by omega)
  exact ⟨q1, q2, M.fin, v1, A.fin, v2, (A.le (q := 0) (l := 1110) (by omega) (by omega)).abs⟩
theorem err_small {x : Nat} (hx : FinW x) (f : fitB x = true) (h : (V x).natAbs ≤ 2 ^ 1114) : errA x = 0 := by
  unfold errA
  rw [if_pos]
  refine ⟨f, ?_⟩
  rw [V_abs' x hx] at h
  have e : val 52 4787326403894837248 = 2 ^ 1114 := v40
  rw [← e] at h
  by_cases q : x % 9223372036854775808 ≤ 4787326403894837248
  · exact q
  · have k : val 52 4787326403894837248 < val 52 (x % 9223372036854775808) := val_lt (by omega)
    exact absurd h (Nat.not_le.2 k)
theorem ang_w {f : Fr} {d : Nat} (A : AngA f d) : angW f d < 18446744073709551616 ∧ errA (angW f d) = 0 := by
  unfold angW
  by_cases h : fitB (angA f d) = true
  · rw [if_pos h]
    exact ⟨A.fin.1, err_small A.fin h (abs_up (k := 1110) (l := 1114) A.abs (by omega))⟩
  · rw [if_neg h]
    exact ⟨by decide, by decide⟩
set_option maxHeartbeats 4000000 in
set_option maxRecDepth 100000 in
theorem fang_run {f : Fr} {d : Nat} (A : AngA f d) (w : World) : Calls Tryz.prog 33 #[frV f, .float .f64 d] w fun e w' => e = .returned (.float .f64 (angW f d)) ∧ Below w.heap.size w w' :=
  fang_shape (run_mul _ _ _ A.mul) (run_add _ _ _ A.add) (fun w => fit_any _ A.fin.1 w) w
/-! ### the matrix -/
open Classical in
noncomputable def tS (x : Nat) : Nat := if h : ∃ s c, Trig x s c then h.choose else 0
open Classical in
noncomputable def tC (x : Nat) : Nat := if h : ∃ s c, Trig x s c then h.choose_spec.choose else 0
theorem trig_ex {x : Nat} (h : ∃ s c, Trig x s c) : Trig x (tS x) (tC x) := by
  unfold tS tC
  rw [dif_pos h, dif_pos h]
  exact h.choose_spec.choose_spec
theorem tS_eq {x s c : Nat} (T : Trig x s c) : tS x = s ∧ tC x = c := by
  have := (trig_ex ⟨s, c, T⟩).uniq T
  exact this
theorem trig_of {x : Nat} (hx : x < 18446744073709551616) (e : errA x = 0) : Trig x (tS x) (tC x) := by
  obtain ⟨s, c, T, -⟩ := uboth_ok hx e
  exact trig_ex ⟨s, c, T⟩
noncomputable def turnW (a : Int) (x : Nat) : M9 := tM a (bW (tS x)) (bW (tC x)) (negN (bW (tS x)))
set_option maxHeartbeats 4000000 in
set_option maxRecDepth 100000 in
theorem vturned_run {a : Int} {x : Nat} (h0 : 0 ≤ a) (h1 : a ≤ 2) (hx : x < 18446744073709551616) (e : errA x = 0) (w : World) : Calls Tryz.prog 32 #[.int .i64 a, .float .f64 x] w fun e w' => e = .returned (matE (turnW a x) 0) ∧ Below w.heap.size w w' := by
  have C1 := fun w => vaxis_run a w
  rw [decide_eq_true ⟨h0, h1⟩] at C1
  obtain ⟨s, c, k, B, CB⟩ := uboth_run hx
  have hk : k = 0 := by rw [B.err, e]
  subst hk
  have A := errA_ang hx e
  have T := B.ok rfl
  obtain ⟨e1, e2⟩ := tS_eq T
  unfold turnW
  rw [e1, e2]
  obtain ⟨F, et⟩ := turned_told A T a
  have C3 := fun w => vtoldmat_any F w
  rw [et] at C3
  have N := fun w => xneg' s T.sz.fin.1 w
  have : a = 0 ∨ a = 1 ∨ a = 2 := by omega
  rcases this with rfl | rfl | rfl
  · exact vturned_ok0 (Lib.hid C1) (Lib.hid CB) N (Lib.hid C3) w
  · exact vturned_ok1 (Lib.hid C1) (Lib.hid CB) N (Lib.hid C3) w
  · exact vturned_ok2 (Lib.hid C1) (Lib.hid CB) N (Lib.hid C3) w
theorem turnW_ok {x : Nat} (a : Int) (hx : x < 18446744073709551616) (e : errA x = 0) : W9 (turnW a x) ∧ fitM (turnW a x) = true := by
  have := tM_w (errA_ang hx e) (trig_of hx e) a
  exact ⟨this.1, this.2.1⟩
/-! ### up and down -/
noncomputable def upR (f : Fr) (d : Nat) (v : V3) : V3 × Int :=
  if (applyR (turnW f.ax (angW f d)) v).2 = 0 then addR f.og (applyR (turnW f.ax (angW f d)) v).1 else (z3, (applyR (turnW f.ax (angW f d)) v).2)
noncomputable def downR (f : Fr) (d : Nat) (v : V3) : V3 × Int :=
  if (subR v f.og).2 = 0 then applyR (bM (colM (turnW f.ax (angW f d)))) (subR v f.og).1 else (z3, (subR v f.og).2)
/-- an answer: words; no error: the words may be a vector's -/
structure Ans3 (r : V3 × Int) : Prop where
  w : W3 r.1
  ok : r.2 = 0 → fitV r.1 = true
theorem z3_w : W3 z3 := ⟨by decide, by decide, by decide⟩
theorem ans_bad {k : Int} (h : k ≠ 0) : Ans3 (z3, k) := ⟨z3_w, fun e => absurd e h⟩
theorem ans_told {p : V3} (h : F3 p) : Ans3 (toldR p) := by
  unfold toldR
  by_cases e : fitV (bV p) = true
  · rw [if_pos e]; exact ⟨h.b.w, fun _ => e⟩
  · rw [if_neg e]; exact ans_bad (by decide)
theorem ans_add {a b : V3} (ha : W3 a) (hb : W3 b) : Ans3 (addR a b) := by
  unfold addR
  by_cases h : both3 a b = true
  · rw [if_pos h]
    obtain ⟨fa, fb⟩ := both_of h
    have A := fitV_bd ha fa
    have B := fitV_bd hb fb
    obtain ⟨-, f1, -, -⟩ := add_ok A.f1 B.f1 A.b1 B.b1 (k := 1135) rfl (by omega)
    obtain ⟨-, f2, -, -⟩ := add_ok A.f2 B.f2 A.b2 B.b2 (k := 1135) rfl (by omega)
    obtain ⟨-, f3, -, -⟩ := add_ok A.f3 B.f3 A.b3 B.b3 (k := 1135) rfl (by omega)
    exact ans_told ⟨f1, f2, f3⟩
  · rw [if_neg h]; exact ans_bad (by decide)
theorem ans_apply {m : M9} {v : V3} (hm : W9 m) (hv : W3 v) : Ans3 (applyR m v) := by
  unfold applyR
  by_cases h : (fitM m && fitV v) = true
  · rw [if_pos h]
    simp only [Bool.and_eq_true] at h
    have E := fitV_wd hv h.2
    have D := fitM_wd hm h.1
    exact ans_told ⟨(dot_wd D.d1 E).d.fin, (dot_wd D.d2 E).d.fin, (dot_wd D.d3 E).d.fin⟩
  · rw [if_neg h]; exact ans_bad (by decide)
theorem og_w {f : Fr} (h : FrW f) : W3 f.og := ⟨h.o1, h.o2, h.o3⟩
theorem ans_up {f : Fr} {d : Nat} {v : V3} (wf : FrW f) (A : AngA f d) (hv : W3 v) : Ans3 (upR f d v) := by
  unfold upR
  obtain ⟨x, e⟩ := ang_w A
  by_cases h : (applyR (turnW f.ax (angW f d)) v).2 = 0
  · rw [if_pos h]; exact ans_add (og_w wf) (ans_apply (turnW_ok _ x e).1 hv).w
  · rw [if_neg h]; exact ans_bad h
set_option maxHeartbeats 4000000 in
set_option maxRecDepth 100000 in
theorem fup_run {f : Fr} {d : Nat} {v : V3} (wf : FrW f) (h0 : 0 ≤ f.ax) (h1 : f.ax ≤ 2) (A : AngA f d) (hv : W3 v) (w : World) : Calls Tryz.prog 17 #[frV f, .float .f64 d, vecV v] w fun e w' => e = .returned (vecE (upR f d v).1 (upR f d v).2) ∧ Below w.heap.size w w' := by
  obtain ⟨x, e⟩ := ang_w A
  have T := turnW_ok f.ax x e
  have CA := fun w => fang_run A w
  have CT := fun w => vturned_run h0 h1 x e w
  have CP := fun w => vapply_any T.1 hv w
  have Y := ans_apply T.1 hv
  unfold upR
  by_cases h : (applyR (turnW f.ax (angW f d)) v).2 = 0
  · rw [if_pos h]
    rw [h] at CP
    have CD := fun w => vadd_any (og_w wf) Y.w w
    exact fup_ok (Lib.hid CA) (Lib.hid CT) (Lib.hid CP) (Lib.hid CD) w
  · rw [if_neg h]
    exact fup_no (by simpa using h) (Lib.hid CA) (Lib.hid CT) (Lib.hid CP) w
set_option maxHeartbeats 4000000 in
set_option maxRecDepth 100000 in
theorem fstill_run {v : V3} (hv : W3 v) (w : World) : Calls Tryz.prog 16 #[vecV v] w fun e w' => e = .returned (vecE (addR v z3).1 (addR v z3).2) ∧ Below w.heap.size w w' := by
  have C := fun w => vadd_any hv z3_w w
  exact fstill_shape (Lib.hid C) w
end Go.Proofs.YtgblpibanagcgaaGreat
