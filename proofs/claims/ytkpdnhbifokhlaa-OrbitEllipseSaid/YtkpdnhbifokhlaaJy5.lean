/- Proved here: what the texts Frd prove, one behind the other. -/
import Derived.Test.YtkpdnhbifokhlaaJy4
import Derived.Test.YtkpdnhbifokhlaaJx1

namespace Go.Proofs.Ytkpdnhbifokhlaa
open Go.ChangeShapes Go.WideShapes Go.ChangeAt Go.RowKit Ieee.Own

theorem wit_spec {c x k : Nat} (hx : x < 18446744073709551616) (hc : val 52 c = 2 ^ k) (h : witB c x = true) : FinW x ∧ fitB x = true ∧ (V x).natAbs ≤ 2 ^ k := by
  unfold witB at h
  rw [decide_eq_true_eq] at h
  have f := fit_fin hx h.1
  refine ⟨f, h.1, ?_⟩
  rw [V_abs' x f, ← hc]
  by_cases q : x % 9223372036854775808 = c
  · rw [q]; exact Nat.le_refl _
  · exact Nat.le_of_lt (val_lt (by omega))
theorem v24 : val 52 g24 = 2 ^ 1098 := by decide +kernel
theorem v40 : val 52 g40 = 2 ^ 1114 := by decide +kernel
theorem wit_wd {c x k : Nat} (hx : x < 18446744073709551616) (hc : val 52 c = 2 ^ k) (h : witB c x = true) : Wd x 822 k := by
  obtain ⟨f, g, b⟩ := wit_spec hx hc h
  exact ⟨f, fit_822 hx g, b⟩
/-- what may be, told -/
structure FrOk (f : Fr) (i : Int) : Prop where
  up0 : -1 ≤ f.up
  up1 : f.up < i
  ax0 : 0 ≤ f.ax
  ax1 : f.ax ≤ 2
  ph : witB g10 f.ph = true
  rt : witB g10 f.rt = true
  o1 : witB g40 f.o1 = true
  o2 : witB g40 f.o2 = true
  o3 : witB g40 f.o3 = true
/-! ### the angle -/
def angA (f : Fr) (d : Nat) : Nat := aX f.ph (mX f.rt d)
def angW (f : Fr) (d : Nat) : Nat := if fitB (angA f d) = true then angA f d else 0
theorem err_small {x : Nat} (hx : FinW x) (f : fitB x = true) (h : (V x).natAbs ≤ 2 ^ 1114) : errA x = 0 := by
  unfold errA
  rw [if_pos]
  refine ⟨f, ?_⟩
  rw [V_abs' x hx] at h
  have e : val 52 4787326403894837248 = 2 ^ 1114 := v40
  rw [← e] at h
  by_cases q : x % 9223372036854775808 ≤ 4787326403894837248
  · exact q
  · have k : val 52 4787326403894837248 < val 52 (x % 9223372036854775808) := val_lt (by omega)
    exact absurd h (Nat.not_le.2 k)
/-! ### the matrix -/
open Classical in
noncomputable def tS (x : Nat) : Nat := if h : ∃ s c, Trig x s c then h.choose else 0
open Classical in
noncomputable def tC (x : Nat) : Nat := if h : ∃ s c, Trig x s c then h.choose_spec.choose else 0
theorem trig_ex {x : Nat} (h : ∃ s c, Trig x s c) : Trig x (tS x) (tC x) := by
  unfold tS tC
  rw [dif_pos h, dif_pos h]
  exact h.choose_spec.choose_spec
theorem Trig.congr {x y s c : Nat} (T : Trig x s c) (h : V x = V y) : Trig y s c := by
  obtain ⟨⟨r, R, a, b⟩, sz, cz⟩ := T
  exact ⟨⟨r, ⟨R.nz, by rw [← h]; exact R.v⟩, by rw [← h]; exact a, by rw [← h]; exact b⟩, sz, cz⟩
theorem tS_eq {x s c : Nat} (T : Trig x s c) : tS x = s ∧ tC x = c := by
  have := (trig_ex ⟨s, c, T⟩).uniq T
  exact this
theorem t_congr {x y : Nat} (h : V x = V y) : tS x = tS y ∧ tC x = tC y := by
  by_cases e : ∃ s c, Trig x s c
  · have T := trig_ex e
    have U := trig_ex ⟨_, _, T.congr h⟩
    exact (T.congr h).uniq U
  · have e' : ¬ ∃ s c, Trig y s c := fun ⟨s, c, T⟩ => e ⟨s, c, T.congr h.symm⟩
    unfold tS tC
    rw [dif_neg e, dif_neg e', dif_neg e, dif_neg e']
    exact ⟨rfl, rfl⟩
theorem trig_of {x : Nat} (hx : x < 18446744073709551616) (e : errA x = 0) : Trig x (tS x) (tC x) := by
  obtain ⟨s, c, T, -⟩ := uboth_ok hx e
  exact trig_ex ⟨s, c, T⟩
noncomputable def turnW (a : Int) (x : Nat) : M9 := tM a (bW (tS x)) (bW (tC x)) (negN (bW (tS x)))
set_option maxHeartbeats 4000000 in
set_option maxRecDepth 100000 in
theorem vturned_run {a : Int} {x : Nat} (h0 : 0 ≤ a) (h1 : a ≤ 2) (hx : x < 18446744073709551616) (e : errA x = 0) (w : World) : Calls Try.prog 71 #[.int .i64 a, .float .f64 x] w fun e w' => e = .returned (matE (turnW a x) 0) ∧ Below w.heap.size w w' := by
  have C1 := fun w => vaxis_run a w
  rw [decide_eq_true ⟨h0, h1⟩] at C1
  obtain ⟨s, c, k, B, CB⟩ := uboth_run hx
  have hk : k = 0 := by rw [B.err, e]
  subst hk
  have A := errA_ang hx e
  have T := B.ok rfl
  obtain ⟨e1, e2⟩ := tS_eq T
  unfold turnW
  rw [e1, e2]
  obtain ⟨F, et⟩ := turned_told A T a
  have C3 := fun w => vtoldmat_any F w
  rw [et] at C3
  have N := fun w => xneg' s T.sz.fin.1 w
  have : a = 0 ∨ a = 1 ∨ a = 2 := by omega
  rcases this with rfl | rfl | rfl
  · exact vturned_ok0 (Lib.hid C1) (Lib.hid CB) N (Lib.hid C3) w
  · exact vturned_ok1 (Lib.hid C1) (Lib.hid CB) N (Lib.hid C3) w
  · exact vturned_ok2 (Lib.hid C1) (Lib.hid CB) N (Lib.hid C3) w
theorem turnW_ok {x : Nat} (a : Int) (hx : x < 18446744073709551616) (e : errA x = 0) : W9 (turnW a x) ∧ fitM (turnW a x) = true := by
  have := tM_w (errA_ang hx e) (trig_of hx e) a
  exact ⟨this.1, this.2.1⟩
/-! ### up and down -/
noncomputable def upR (f : Fr) (d : Nat) (v : V3) : V3 × Int :=
  if (applyR (turnW f.ax (angW f d)) v).2 = 0 then addR f.og (applyR (turnW f.ax (angW f d)) v).1 else (z3, (applyR (turnW f.ax (angW f d)) v).2)
noncomputable def downR (f : Fr) (d : Nat) (v : V3) : V3 × Int :=
  if (subR v f.og).2 = 0 then applyR (bM (colM (turnW f.ax (angW f d)))) (subR v f.og).1 else (z3, (subR v f.og).2)
/-- an answer: words; no error: the words may be a vector's -/
structure Ans3 (r : V3 × Int) : Prop where
  w : W3 r.1
  ok : r.2 = 0 → fitV r.1 = true
theorem z3_w : W3 z3 := ⟨by decide, by decide, by decide⟩
theorem ans_bad {k : Int} (h : k ≠ 0) : Ans3 (z3, k) := ⟨z3_w, fun e => absurd e h⟩
theorem ans_told {p : V3} (h : F3 p) : Ans3 (toldR p) := by
  unfold toldR
  by_cases e : fitV (bV p) = true
  · rw [if_pos e]; exact ⟨h.b.w, fun _ => e⟩
  · rw [if_neg e]; exact ans_bad (by decide)
theorem ans_apply {m : M9} {v : V3} (hm : W9 m) (hv : W3 v) : Ans3 (applyR m v) := by
  unfold applyR
  by_cases h : (fitM m && fitV v) = true
  · rw [if_pos h]
    simp only [Bool.and_eq_true] at h
    have E := fitV_wd hv h.2
    have D := fitM_wd hm h.1
    exact ans_told ⟨(dot_wd D.d1 E).d.fin, (dot_wd D.d2 E).d.fin, (dot_wd D.d3 E).d.fin⟩
  · rw [if_neg h]; exact ans_bad (by decide)
end Go.Proofs.Ytkpdnhbifokhlaa
