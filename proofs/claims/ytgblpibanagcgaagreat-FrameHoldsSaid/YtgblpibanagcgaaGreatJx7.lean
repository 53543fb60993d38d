/- Proved here: what the texts Vbt prove, one behind the other. -/
import Derived.Test.YtgblpibanagcgaaGreatJx4
import Derived.Test.YtgblpibanagcgaaGreatJx5
import Derived.Test.YtgblpibanagcgaaGreatJx6
import Derived.Test.YtgblpibanagcgaaGreatJx2
import Derived.Test.YtgblpibanagcgaaGreatJb9
import Derived.Test.YtgblpibanagcgaaGreatJr

namespace Go.Proofs.YtgblpibanagcgaaGreat
open Go.ChangeShapes Go.WideShapes Go.ChangeAt Go.RowKit Ieee.Own Pol

theorem errS_self7 {c : Nat} (f : fitB c = true) : errS c c = 0 := errS_of ⟨f, f⟩ (Int.le_refl _)
set_option maxHeartbeats 4000000 in
set_option maxRecDepth 100000 in
theorem sof7_run {c : Nat} (hc : c < 18446744073709551616) (f : fitB c = true) (w : World) : Calls Tryz.prog 93 #[.float .f64 c] w fun e w' => e = .returned (spanE (posW c) (posW c) 0) ∧ Below w.heap.size w w' := by
  have M := Lib.hid (fun w => (make_run c c hc hc w).mono fun e w' h => (⟨h.1.trans (congrArg Ending.returned (show makeE c c = spanE (posW c) (posW c) 0 by unfold makeE; rw [if_pos (errS_self7 f)])), h.2⟩ : e = .returned (spanE (posW c) (posW c) 0) ∧ Below w.heap.size w w'))
  unfold spanE at *
  have hst := @fstore
  clear f hc
  generalize posW c = u at *
  have C0 : Cls w [(w.heap.size, 0, 0)] (w.alloc (boxO 0 0)) := (Cls.nil w).new 0 0
  unfold boxO at C0
  replace C0 := Lib.hid C0
  go_enter Tryz.func93, Tryz.ntmps93
  go_wp2_with fail
  have C := C0.out
  clear C0
  generalize w.alloc _ = wr at *
  refine (M.out wr).mono ?_
  rintro _ w1 ⟨rfl, hb⟩
  have C1 := C.on hb
  have c0 := (C1.at_ 0 rfl).lo
  have c1 := (C1.at_ 0 rfl).hi
  have f0 := (C1.at_ 0 rfl).f0
  have f1 := (C1.at_ 0 rfl).f1
  have B := Lib.hid C1.old
  clear C C1 hb M
  go_wp2_with fail
  (try simp only [Exit.inBlock, Exit.then])
  refine bodyPost_ret (v := spanE u u 0) ?_ rfl ⟨rfl, ?_⟩
  · rw [results_cell_tmp rfl]; unfold spanE; go_simp
  · exact (B.out.setCell (by show _ ≤ w.heap.size; omega) _).setCell (by show _ ≤ w.heap.size; omega) _
theorem up60 {x : Nat} (m : Nat) (hm : 60 ≤ m) (h : (V x).natAbs ≤ 2 ^ 1134) : (V x).natAbs ≤ 2 ^ (1074 + m) := abs_up (k := 1134) (l := 1074 + m) h (by clear h; omega)
def ptS7 (c : Nat) : Pr := (posW c, posW c)
def ptB (v : V3) : B6 := (ptS7 v.1, ptS7 v.2.1, ptS7 v.2.2)
theorem pt_ok {x : Nat} (hx : x < 18446744073709551616) (h : vnB x = true) : Sn (ptS7 x) 60 ∧ ps (ptS7 x) = (Q x, Q x) ∧ fitS (ptS7 x) = true := by
  obtain ⟨fx, f, b⟩ := vnB_spec hx h
  obtain ⟨f', l⟩ := pos_fit hx f
  have v := posW_V x
  have e := errS_self7 f'
  have b' := Nat.le_trans (Nat.le_of_eq (congrArg Int.natAbs v)) b
  have b2 := up60 60 (Nat.le_refl _) b'
  refine ⟨⟨l, l, e, b2, b2⟩, ?_, ?_⟩
  · show ((Q (posW x), Q (posW x)) : Rat × Rat) = (Q x, Q x)
    rw [Q_congr v]
  · have k := vnB_small (fit_fin l f') f' b'
    unfold fitS ptS7
    dsimp only
    rw [e, k]
    rfl
theorem Sn.w2 {p : Pr} {m : Nat} (h : Sn p m) : W2 p := ⟨h.l1, h.l2⟩
def BinC (f : FuncId) (p q u : Pr) : Prop := ∀ w, Calls Tryz.prog f #[.agg #[.float .f64 p.1, .float .f64 p.2], .agg #[.float .f64 q.1, .float .f64 q.2]] w fun e w' => e = .returned (.agg #[.float .f64 u.1, .float .f64 u.2]) ∧ Below w.heap.size w w'
set_option maxHeartbeats 4000000 in
set_option maxRecDepth 100000 in
theorem vmul7 {p q u : Pr} (hp : W2 p) (hq : W2 q) (R : MulR p q u) : BinC 66 p q u :=
  fun w => vsmul_shape (k := 0) (Lib.hid fun w => (smul_run p.1 p.2 q.1 q.2 hp.l1 hp.l2 hq.l1 hq.l2 w).mono fun _ _ h => ⟨OpAll.uniq h.1 R, h.2⟩) w
set_option maxHeartbeats 4000000 in
set_option maxRecDepth 100000 in
theorem vadd7 {p q u : Pr} (hp : W2 p) (hq : W2 q) (R : AddR p q u) : BinC 40 p q u :=
  fun w => vsadd_shape (k := 0) (Lib.hid fun w => (sadd_run p.1 p.2 q.1 q.2 hp.l1 hp.l2 hq.l1 hq.l2 w).mono fun _ _ h => ⟨h.1.all.uniq R.all, h.2⟩) w
set_option maxHeartbeats 4000000 in
set_option maxRecDepth 100000 in
theorem vsub7 {p q u : Pr} (hp : W2 p) (hq : W2 q) (R : SubQ p q u) : BinC 65 p q u :=
  fun w => vssub_shape (k := 0) (Lib.hid fun w => (ssub_run p.1 p.2 q.1 q.2 hp.l1 hp.l2 hq.l1 hq.l2 w).mono fun _ _ h => ⟨h.1.all.uniq R.all, h.2⟩) w
def boxOfR (v : V3) : B6 × Int := if fitV v = true then (ptB v, 0) else (z6, 3)
set_option maxHeartbeats 4000000 in
set_option maxRecDepth 100000 in
theorem vboxof_any {v : V3} (hv : W3 v) (w : World) : Calls Tryz.prog 43 #[vecV v] w fun e w' => e = .returned (boxE (boxOfR v).1 (boxOfR v).2) ∧ Below w.heap.size w w' := by
  have C := fun w => vfit_run hv w
  by_cases h : fitV v = true
  · have e : boxOfR v = (ptB v, 0) := if_pos h
    rw [e]
    rw [h] at C
    have h' := h
    unfold fitV at h'
    simp only [Bool.and_eq_true] at h'
    have K : ∀ {x : Nat}, x < 18446744073709551616 → vnB x = true → Hid (∀ w, Calls Tryz.prog 67 #[.float .f64 x] w fun e w' => e = .returned (.agg #[.float .f64 (posW x), .float .f64 (posW x)]) ∧ Below w.heap.size w w') := fun hx hb => Lib.hid fun w => vspt_shape (k := 0) (Lib.hid fun w => sof7_run hx (vnB_spec hx hb).2.1 w) w
    exact vboxof_ok (Lib.hid C) (K hv.l1 h'.1.1) (K hv.l2 h'.1.2) (K hv.l3 h'.2) w
  · have e : boxOfR v = (z6, 3) := if_neg h
    rw [e]
    rw [Bool.eq_false_iff.2 h] at C
    exact vboxof_no (Lib.hid C) w

/-! ### what the turned box holds -/
structure Held (p : Pr) (t : Rat) : Prop where
  sn : Sn p 62
  i : In t (ps p)
theorem In.sub7 {x y : Rat} {A B C : Sp} (hx : In x A) (hy : In y B) (h1 : C.1 ≤ A.1 - B.2) (h2 : A.2 - B.1 ≤ C.2) : In (x - y) C := by
  obtain ⟨a, b⟩ := hx
  obtain ⟨c, d⟩ := hy
  exact ⟨by grind, by grind⟩
structure Pair7 (s c p q m1 m2 m3 m4 y1 y2 : Pr) : Prop where
  w1 : W2 m1
  w2 : W2 m2
  w3 : W2 m3
  w4 : W2 m4
  r1 : MulR c p m1
  r2 : MulR s q m2
  r3 : SubQ m1 m2 y1
  r4 : MulR s p m3
  r5 : MulR c q m4
  r6 : AddR m3 m4 y2
theorem zero_w2 : W2 (0, 0) := ⟨by decide, by decide⟩
theorem trig_true {x s c r : Nat} (A : Ang x) (T : Trig x s c) (R : Rst x r) :
    mag (Q (bW s) - Ply.sq (kq eig (V x)) (Ply.tau * Q r)) ≤ sm + 8 * uR ∧ mag (Q (bW c) - Ply.sq (kq eig (V x) + 1) (Ply.tau * Q r)) ≤ sm + 8 * uR := by
  obtain ⟨⟨n1, n2⟩, n3, n4⟩ := trig_near A T R
  have b1 := bW_near T.sz.fin
  have b2 := bW_near T.cz.fin
  generalize Ply.sq (kq eig (V x)) (Ply.tau * Q r) = S at *
  generalize Ply.sq (kq eig (V x) + 1) (Ply.tau * Q r) = C at *
  have e0 : mkRat 1 (2^50) = 8 * uR := by decide +kernel
  rw [e0] at n1 n2 n3 n4
  have d1 := mag_add b1 (mag_of (M := 8 * uR) n1 n2)
  have d2 := mag_add b2 (mag_of (M := 8 * uR) n3 n4)
  have f1 : Q (bW s) - Q s + (Q s - S) = Q (bW s) - S := by grind
  have f2 : Q (bW c) - Q c + (Q c - C) = Q (bW c) - C := by grind
  rw [f1] at d1
  rw [f2] at d2
  exact ⟨d1, d2⟩
/-- how far a word lies off a span -/
structure By1 (p : Pr) (w : Nat) (S : Rat) : Prop where
  sn : Sn p 62
  lo : Q p.1 - Q w ≤ bnd S
  hi : Q w - Q p.2 ≤ bnd S
theorem By1.of {p : Pr} {w : Nat} {t S : Rat} (h : Held p t) (n : mag (Q w - t) ≤ bnd S) : By1 p w S := by
  obtain ⟨a, b⟩ := h.i
  replace a : Q p.1 ≤ t := a
  replace b : t ≤ Q p.2 := b
  have m := mag_le (Q w - t)
  refine ⟨h.sn, ?_, ?_⟩ <;> grind
theorem diff_le7 {a b c : Nat} (h : Q a - Q b ≤ Q c) : V a - V b ≤ V c := by
  have := Rat.mul_le_mul_of_nonneg_right h (Rat.le_of_lt unit_pos)
  have e : (Q a - Q b) * unit = Q a * unit - Q b * unit := by grind
  rw [e, Q_unit, Q_unit, Q_unit, ← Rat.intCast_sub] at this
  exact Rat.intCast_le_intCast.1 this
set_option maxHeartbeats 4000000 in
set_option maxRecDepth 100000 in
theorem beside_run {a1 a2 a3 a4 a5 a6 v1 v2 v3 d o1 o2 o3 : Nat} (O1 : Hid (∀ w, Calls Tryz.prog 24 #[.agg #[.float .f64 a1, .float .f64 a2], .float .f64 v1] w fun e w' => e = .returned (.float .f64 o1) ∧ Below w.heap.size w w')) (O2 : Hid (∀ w, Calls Tryz.prog 24 #[.agg #[.float .f64 a3, .float .f64 a4], .float .f64 v2] w fun e w' => e = .returned (.float .f64 o2) ∧ Below w.heap.size w w')) (O3 : Hid (∀ w, Calls Tryz.prog 24 #[.agg #[.float .f64 a5, .float .f64 a6], .float .f64 v3] w fun e w' => e = .returned (.float .f64 o3) ∧ Below w.heap.size w w')) (l1 : (FloatKind.f64.format.order o1 d == some Ordering.lt || FloatKind.f64.format.order o1 d == some Ordering.eq) = true) (l2 : (FloatKind.f64.format.order o2 d == some Ordering.lt || FloatKind.f64.format.order o2 d == some Ordering.eq) = true) (l3 : (FloatKind.f64.format.order o3 d == some Ordering.lt || FloatKind.f64.format.order o3 d == some Ordering.eq) = true) (w : World) : Calls Tryz.prog 9 #[.agg #[.float .f64 a1, .float .f64 a2, .float .f64 a3, .float .f64 a4, .float .f64 a5, .float .f64 a6], .agg #[.float .f64 v1, .float .f64 v2, .float .f64 v3], .float .f64 d] w fun e w' => e = .returned (.bool true) ∧ Below w.heap.size w w' := by
  have K0 := kw2 w 33 25 [a1, a2, a3, a4, a5, a6] [v1, v2, v3]
  simp only [objW, List.map_cons, List.map_nil] at K0
  have hst := @fstore
  replace K0 := Lib.hid K0
  go_enter Tryz.func9, Tryz.ntmps9
  go_wp2_with fail
  have K := K0.out
  clear K0
  generalize (w.alloc _).alloc _ = wr at *
  refine (O1.out wr).mono ?_
  rintro _ v1 ⟨rfl, hb⟩
  replace K := K.on hb
  clear hb
  have c0_2 := (K.at_ 0 rfl).at_ 2 _ rfl
  have c0_3 := (K.at_ 0 rfl).at_ 3 _ rfl
  have c1_1 := (K.at_ 1 rfl).at_ 1 _ rfl
  replace K := Lib.hid K
  go_wp2_with fail
  replace K := K.out
  refine (O2.out v1).mono ?_
  rintro _ v2 ⟨rfl, hb⟩
  clear c0_2 c0_3 c1_1
  replace K := K.on hb
  clear hb
  have c0_4 := (K.at_ 0 rfl).at_ 4 _ rfl
  have c0_5 := (K.at_ 0 rfl).at_ 5 _ rfl
  have c1_2 := (K.at_ 1 rfl).at_ 2 _ rfl
  replace K := Lib.hid K
  go_wp2_with fail
  replace K := K.out
  refine (O3.out v2).mono ?_
  rintro _ v3 ⟨rfl, hb⟩
  clear c0_4 c0_5 c1_2
  replace K := K.on hb
  clear hb
  replace K := Lib.hid K
  go_wp2_with fail
  replace K := K.out
  go_ret
  exact ⟨rfl, K.old⟩
end Go.Proofs.YtgblpibanagcgaaGreat
