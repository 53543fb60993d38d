/- Proved here: what the texts Vbt prove, one behind the other. -/
import Derived.Test.YtpdkciennccckaaJx4
import Derived.Test.YtpdkciennccckaaJx5
import Derived.Test.YtpdkciennccckaaJx6
import Derived.Test.YtpdkciennccckaaJx2
import Derived.Test.YtpdkciennccckaaJb9
import Derived.Test.YtpdkciennccckaaJr

namespace Go.Proofs.Ytpdkciennccckaa
open Go.ChangeShapes Go.WideShapes Go.ChangeAt Go.RowKit Ieee.Own Pol

theorem errS_self7 {c : Nat} (f : fitB c = true) : errS c c = 0 := errS_of ⟨f, f⟩ (Int.le_refl _)
set_option maxHeartbeats 4000000 in
set_option maxRecDepth 100000 in
theorem sof7_run {c : Nat} (hc : c < 18446744073709551616) (f : fitB c = true) (w : World) : Calls Try.prog 107 #[.float .f64 c] w fun e w' => e = .returned (spanE (posW c) (posW c) 0) ∧ Below w.heap.size w w' := by
  have M := Lib.hid (fun w => (make_run c c hc hc w).mono fun e w' h => (⟨h.1.trans (congrArg Ending.returned (show makeE c c = spanE (posW c) (posW c) 0 by unfold makeE; rw [if_pos (errS_self7 f)])), h.2⟩ : e = .returned (spanE (posW c) (posW c) 0) ∧ Below w.heap.size w w'))
  unfold spanE at *
  have hst := @fstore
  clear f hc
  generalize posW c = u at *
  have C0 : Cls w [(w.heap.size, 0, 0)] (w.alloc (boxO 0 0)) := (Cls.nil w).new 0 0
  unfold boxO at C0
  replace C0 := Lib.hid C0
  go_enter Try.func107, Try.ntmps107
  go_wp2_with fail
  have C := C0.out
  clear C0
  generalize w.alloc _ = wr at *
  refine (M.out wr).mono ?_
  rintro _ w1 ⟨rfl, hb⟩
  have C1 := C.on hb
  have c0 := (C1.at_ 0 rfl).lo
  have c1 := (C1.at_ 0 rfl).hi
  have f0 := (C1.at_ 0 rfl).f0
  have f1 := (C1.at_ 0 rfl).f1
  have B := Lib.hid C1.old
  clear C C1 hb M
  go_wp2_with fail
  (try simp only [Exit.inBlock, Exit.then])
  refine bodyPost_ret (v := spanE u u 0) ?_ rfl ⟨rfl, ?_⟩
  · rw [results_cell_tmp rfl]; unfold spanE; go_simp
  · exact (B.out.setCell (by show _ ≤ w.heap.size; omega) _).setCell (by show _ ≤ w.heap.size; omega) _
theorem up60 {x : Nat} (m : Nat) (hm : 60 ≤ m) (h : (V x).natAbs ≤ 2 ^ 1134) : (V x).natAbs ≤ 2 ^ (1074 + m) := abs_up (k := 1134) (l := 1074 + m) h (by clear h; omega)
def ptS7 (c : Nat) : Pr := (posW c, posW c)
def ptB (v : V3) : B6 := (ptS7 v.1, ptS7 v.2.1, ptS7 v.2.2)
theorem pt_ok {x : Nat} (hx : x < 18446744073709551616) (h : vnB x = true) : Sn (ptS7 x) 60 ∧ ps (ptS7 x) = (Q x, Q x) ∧ fitS (ptS7 x) = true := by
  obtain ⟨fx, f, b⟩ := vnB_spec hx h
  obtain ⟨f', l⟩ := pos_fit hx f
  have v := posW_V x
  have e := errS_self7 f'
  have b' := Nat.le_trans (Nat.le_of_eq (congrArg Int.natAbs v)) b
  have b2 := up60 60 (Nat.le_refl _) b'
  refine ⟨⟨l, l, e, b2, b2⟩, ?_, ?_⟩
  · show ((Q (posW x), Q (posW x)) : Rat × Rat) = (Q x, Q x)
    rw [Q_congr v]
  · have k := vnB_small (fit_fin l f') f' b'
    unfold fitS ptS7
    dsimp only
    rw [e, k]
    rfl
theorem Sn.w2 {p : Pr} {m : Nat} (h : Sn p m) : W2 p := ⟨h.l1, h.l2⟩
def BinC (f : FuncId) (p q u : Pr) : Prop := ∀ w, Calls Try.prog f #[.agg #[.float .f64 p.1, .float .f64 p.2], .agg #[.float .f64 q.1, .float .f64 q.2]] w fun e w' => e = .returned (.agg #[.float .f64 u.1, .float .f64 u.2]) ∧ Below w.heap.size w w'
set_option maxHeartbeats 4000000 in
set_option maxRecDepth 100000 in
theorem vmul7 {p q u : Pr} (hp : W2 p) (hq : W2 q) (R : MulR p q u) : BinC 77 p q u :=
  fun w => vsmul_shape (k := 0) (Lib.hid fun w => (smul_run p.1 p.2 q.1 q.2 hp.l1 hp.l2 hq.l1 hq.l2 w).mono fun _ _ h => ⟨OpAll.uniq h.1 R, h.2⟩) w
set_option maxHeartbeats 4000000 in
set_option maxRecDepth 100000 in
theorem vadd7 {p q u : Pr} (hp : W2 p) (hq : W2 q) (R : AddR p q u) : BinC 73 p q u :=
  fun w => vsadd_shape (k := 0) (Lib.hid fun w => (sadd_run p.1 p.2 q.1 q.2 hp.l1 hp.l2 hq.l1 hq.l2 w).mono fun _ _ h => ⟨h.1.all.uniq R.all, h.2⟩) w
set_option maxHeartbeats 4000000 in
set_option maxRecDepth 100000 in
theorem vsub7 {p q u : Pr} (hp : W2 p) (hq : W2 q) (R : SubQ p q u) : BinC 74 p q u :=
  fun w => vssub_shape (k := 0) (Lib.hid fun w => (ssub_run p.1 p.2 q.1 q.2 hp.l1 hp.l2 hq.l1 hq.l2 w).mono fun _ _ h => ⟨h.1.all.uniq R.all, h.2⟩) w
def boxOfR (v : V3) : B6 × Int := if fitV v = true then (ptB v, 0) else (z6, 3)
set_option maxHeartbeats 4000000 in
set_option maxRecDepth 100000 in
theorem vboxof_any {v : V3} (hv : W3 v) (w : World) : Calls Try.prog 47 #[vecV v] w fun e w' => e = .returned (boxE (boxOfR v).1 (boxOfR v).2) ∧ Below w.heap.size w w' := by
  have C := fun w => vfit_run hv w
  by_cases h : fitV v = true
  · have e : boxOfR v = (ptB v, 0) := if_pos h
    rw [e]
    rw [h] at C
    have h' := h
    unfold fitV at h'
    simp only [Bool.and_eq_true] at h'
    have K : ∀ {x : Nat}, x < 18446744073709551616 → vnB x = true → Hid (∀ w, Calls Try.prog 80 #[.float .f64 x] w fun e w' => e = .returned (.agg #[.float .f64 (posW x), .float .f64 (posW x)]) ∧ Below w.heap.size w w') := fun hx hb => Lib.hid fun w => vspt_shape (k := 0) (Lib.hid fun w => sof7_run hx (vnB_spec hx hb).2.1 w) w
    exact vboxof_ok (Lib.hid C) (K hv.l1 h'.1.1) (K hv.l2 h'.1.2) (K hv.l3 h'.2) w
  · have e : boxOfR v = (z6, 3) := if_neg h
    rw [e]
    rw [Bool.eq_false_iff.2 h] at C
    exact vboxof_no (Lib.hid C) w

/-! ### what the turned box holds -/
structure Held (p : Pr) (t : Rat) : Prop where
  sn : Sn p 62
  i : In t (ps p)
theorem In.sub7 {x y : Rat} {A B C : Sp} (hx : In x A) (hy : In y B) (h1 : C.1 ≤ A.1 - B.2) (h2 : A.2 - B.1 ≤ C.2) : In (x - y) C := by
  obtain ⟨a, b⟩ := hx
  obtain ⟨c, d⟩ := hy
  exact ⟨by grind, by grind⟩
structure Pair7 (s c p q m1 m2 m3 m4 y1 y2 : Pr) : Prop where
  w1 : W2 m1
  w2 : W2 m2
  w3 : W2 m3
  w4 : W2 m4
  r1 : MulR c p m1
  r2 : MulR s q m2
  r3 : SubQ m1 m2 y1
  r4 : MulR s p m3
  r5 : MulR c q m4
  r6 : AddR m3 m4 y2
theorem pair7 {s c p q : Pr} {S C X Y : Rat} (hs : Sn s 0) (hc : Sn c 0) (hp : Sn p 60) (hq : Sn q 60) (is : In S (ps s)) (ic : In C (ps c)) (ip : In X (ps p)) (iq : In Y (ps q)) :
    ∃ m1 m2 m3 m4 y1 y2, Pair7 s c p q m1 m2 m3 m4 y1 y2 ∧ Held y1 (C * X - S * Y) ∧ Held y2 (S * X + C * Y) := by
  obtain ⟨m1, n1, r1, k1⟩ := mul_step7 hc hp (by omega)
  obtain ⟨m2, n2, r2, k2⟩ := mul_step7 hs hq (by omega)
  obtain ⟨m3, n3, r3, k3⟩ := mul_step7 hs hp (by omega)
  obtain ⟨m4, n4, r4, k4⟩ := mul_step7 hc hq (by omega)
  obtain ⟨y1, e1, q1, a1, a2⟩ := sub_step7 n1 n2 (by omega)
  obtain ⟨y2, e2, q2, a3⟩ := add_step7 n3 n4 (by omega)
  exact ⟨m1, m2, m3, m4, y1, y2, ⟨n1.w2, n2.w2, n3.w2, n4.w2, r1, r2, q1, r3, r4, q2⟩, ⟨e1.le (by omega), (ic.mul ip k1).sub7 (is.mul iq k2) a1 a2⟩, ⟨e2.le (by omega), (is.mul ip k3).add (ic.mul iq k4) a3⟩⟩
theorem zero_w2 : W2 (0, 0) := ⟨by decide, by decide⟩
theorem axis_held {p : Pr} {X : Rat} (hp : Sn p 60) (ip : In X (ps p)) : ∃ u, AddR p (0, 0) u ∧ Held u X := by
  have z : Sn (0, 0) 60 := sn_zero.le (by omega)
  obtain ⟨u, e, r, k⟩ := add_step7 hp z (by omega)
  have i0 : In 0 (ps (0, 0)) := by
    have e0 : ps (0, 0) = (0, 0) := by show ((Q 0, Q 0) : Rat × Rat) = (0, 0); rw [Q0]
    rw [e0]; exact ⟨Rat.le_refl, Rat.le_refl⟩
  have t := ip.add i0 k
  have e1 : X + 0 = X := by grind
  rw [e1] at t
  exact ⟨u, r, e.le (by omega), t⟩
theorem trig_true {x s c r : Nat} (A : Ang x) (T : Trig x s c) (R : Rst x r) :
    mag (Q (bW s) - Ply.sq (kq eig (V x)) (Ply.tau * Q r)) ≤ sm + 8 * uR ∧ mag (Q (bW c) - Ply.sq (kq eig (V x) + 1) (Ply.tau * Q r)) ≤ sm + 8 * uR := by
  obtain ⟨⟨n1, n2⟩, n3, n4⟩ := trig_near A T R
  have b1 := bW_near T.sz.fin
  have b2 := bW_near T.cz.fin
  generalize Ply.sq (kq eig (V x)) (Ply.tau * Q r) = S at *
  generalize Ply.sq (kq eig (V x) + 1) (Ply.tau * Q r) = C at *
  have e0 : mkRat 1 (2^50) = 8 * uR := by decide +kernel
  rw [e0] at n1 n2 n3 n4
  have d1 := mag_add b1 (mag_of (M := 8 * uR) n1 n2)
  have d2 := mag_add b2 (mag_of (M := 8 * uR) n3 n4)
  have f1 : Q (bW s) - Q s + (Q s - S) = Q (bW s) - S := by grind
  have f2 : Q (bW c) - Q c + (Q c - C) = Q (bW c) - C := by grind
  rw [f1] at d1
  rw [f2] at d2
  exact ⟨d1, d2⟩
theorem true_aux {u σ Z p q e t : Rat} (u0 : 0 ≤ u) (s0 : 0 ≤ σ) (su : σ ≤ u) (p0 : 0 ≤ p) (q0 : 0 ≤ q) (hS : p + q ≤ Z) (he : e = σ + 8 * u) (h : t ≤ (4 * (u * (2 * p + 2 * q)) + σ) + (e * p + e * q)) : t ≤ 116 * (u * Z) + 16 * σ := by
  subst he
  have a := Rat.mul_nonneg u0 (show 0 ≤ Z - (p + q) by grind)
  have b := Rat.mul_nonneg (show 0 ≤ u - σ by grind) (show 0 ≤ p + q by grind)
  have c := Rat.mul_nonneg u0 (show 0 ≤ p + q by grind)
  grind
theorem sm_uR : sm ≤ uR := by decide +kernel
theorem near_minus {s c S C p q w Z : Rat} (hs : mag (s - S) ≤ sm + 8 * uR) (hc : mag (c - C) ≤ sm + 8 * uR) (hS : mag p + mag q ≤ Z) (n : mag (w - (c * p - s * q)) ≤ 4 * (uR * (2 * mag p + 2 * mag q)) + sm) : mag (w - (C * p - S * q)) ≤ bnd Z := by
  have a := mag_mul hc (show mag p ≤ mag p from Rat.le_refl)
  have b := mag_mul hs (show mag q ≤ mag q from Rat.le_refl)
  have t := mag_add n (mag_sub a b)
  have e : w - (c * p - s * q) + ((c - C) * p - (s - S) * q) = w - (C * p - S * q) := by grind
  rw [e] at t
  exact true_aux uR0 sm0 sm_uR (mag_le p).2.2 (mag_le q).2.2 hS rfl t
theorem near_plus {s c S C p q w Z : Rat} (hs : mag (s - S) ≤ sm + 8 * uR) (hc : mag (c - C) ≤ sm + 8 * uR) (hS : mag p + mag q ≤ Z) (n : mag (w - (s * p + c * q)) ≤ 4 * (uR * (2 * mag p + 2 * mag q)) + sm) : mag (w - (S * p + C * q)) ≤ bnd Z := by
  have a := mag_mul hs (show mag p ≤ mag p from Rat.le_refl)
  have b := mag_mul hc (show mag q ≤ mag q from Rat.le_refl)
  have t := mag_add n (mag_add a b)
  have e : w - (s * p + c * q) + ((s - S) * p + (c - C) * q) = w - (S * p + C * q) := by grind
  rw [e] at t
  exact true_aux uR0 sm0 sm_uR (mag_le p).2.2 (mag_le q).2.2 hS rfl t
theorem near_axis {p w Z : Rat} (hS : mag p ≤ Z) (n : mag (w - p) ≤ 4 * (uR * mag p) + sm) : mag (w - p) ≤ bnd Z := by
  have u0 := uR0
  have s0 := sm0
  have p0 := (mag_le p).2.2
  unfold bnd
  generalize uR = u at *
  generalize sm = σ at *
  have a := Rat.mul_nonneg u0 (show 0 ≤ Z - mag p by grind)
  have b := Rat.mul_nonneg u0 p0
  grind
/-- how far a word lies off a span -/
structure By1 (p : Pr) (w : Nat) (S : Rat) : Prop where
  sn : Sn p 62
  lo : Q p.1 - Q w ≤ bnd S
  hi : Q w - Q p.2 ≤ bnd S
theorem By1.of {p : Pr} {w : Nat} {t S : Rat} (h : Held p t) (n : mag (Q w - t) ≤ bnd S) : By1 p w S := by
  obtain ⟨a, b⟩ := h.i
  replace a : Q p.1 ≤ t := a
  replace b : t ≤ Q p.2 := b
  have m := mag_le (Q w - t)
  refine ⟨h.sn, ?_, ?_⟩ <;> grind
structure ByB (P : B6) (w : V3) (S : Rat) : Prop where
  x : By1 P.1 w.1 S
  y : By1 P.2.1 w.2.1 S
  z : By1 P.2.2 w.2.2 S
theorem errT_self {x : Nat} (f : fitB x = true) (e : errA x = 0) : errT x x = 0 := by
  unfold errT
  rw [if_neg (by rw [errS_self7 f]; simp), if_neg (by rw [e]; simp), e]
theorem fix00 {w x y z u σ : Rat} (n : mag (w - (1 * x + 0 * y + 0 * z)) ≤ 4 * (u * (1 * mag x + 0 * mag y + 0 * mag z)) + σ) : mag (w - x) ≤ 4 * (u * mag x) + σ := conv7 n (by congr 1; grind) (by grind)
theorem fix01 {w x y z u σ c s : Rat} (n : mag (w - (0 * x + c * y + (-s) * z)) ≤ 4 * (u * (0 * mag x + 2 * mag y + 2 * mag z)) + σ) : mag (w - (c * y - s * z)) ≤ 4 * (u * (2 * mag y + 2 * mag z)) + σ := conv7 n (by congr 1; grind) (by grind)
theorem fix02 {w x y z u σ c s : Rat} (n : mag (w - (0 * x + s * y + c * z)) ≤ 4 * (u * (0 * mag x + 2 * mag y + 2 * mag z)) + σ) : mag (w - (s * y + c * z)) ≤ 4 * (u * (2 * mag y + 2 * mag z)) + σ := conv7 n (by congr 1; grind) (by grind)
theorem fix10 {w x y z u σ c s : Rat} (n : mag (w - (c * x + 0 * y + s * z)) ≤ 4 * (u * (2 * mag x + 0 * mag y + 2 * mag z)) + σ) : mag (w - (s * z + c * x)) ≤ 4 * (u * (2 * mag z + 2 * mag x)) + σ := conv7 n (by congr 1; grind) (by grind)
theorem fix11 {w x y z u σ : Rat} (n : mag (w - (0 * x + 1 * y + 0 * z)) ≤ 4 * (u * (0 * mag x + 1 * mag y + 0 * mag z)) + σ) : mag (w - y) ≤ 4 * (u * mag y) + σ := conv7 n (by congr 1; grind) (by grind)
theorem fix12 {w x y z u σ c s : Rat} (n : mag (w - ((-s) * x + 0 * y + c * z)) ≤ 4 * (u * (2 * mag x + 0 * mag y + 2 * mag z)) + σ) : mag (w - (c * z - s * x)) ≤ 4 * (u * (2 * mag z + 2 * mag x)) + σ := conv7 n (by congr 1; grind) (by grind)
theorem fix20 {w x y z u σ c s : Rat} (n : mag (w - (c * x + (-s) * y + 0 * z)) ≤ 4 * (u * (2 * mag x + 2 * mag y + 0 * mag z)) + σ) : mag (w - (c * x - s * y)) ≤ 4 * (u * (2 * mag x + 2 * mag y)) + σ := conv7 n (by congr 1; grind) (by grind)
theorem fix21 {w x y z u σ c s : Rat} (n : mag (w - (s * x + c * y + 0 * z)) ≤ 4 * (u * (2 * mag x + 2 * mag y + 0 * mag z)) + σ) : mag (w - (s * x + c * y)) ≤ 4 * (u * (2 * mag x + 2 * mag y)) + σ := conv7 n (by congr 1; grind) (by grind)
theorem fix22 {w x y z u σ : Rat} (n : mag (w - (0 * x + 0 * y + 1 * z)) ≤ 4 * (u * (0 * mag x + 0 * mag y + 1 * mag z)) + σ) : mag (w - z) ≤ 4 * (u * mag z) + σ := conv7 n (by congr 1; grind) (by grind)
set_option maxHeartbeats 4000000 in
set_option maxRecDepth 100000 in
theorem holds0 {x sw cw : Nat} {v : V3} (hx : x < 18446744073709551616) (fx : fitB x = true) (e : errA x = 0) (T : Trig x sw cw) (hv : W3 v) (fv : fitV v = true) :
    ∃ P : B6, (∀ w, Calls Try.prog 48 #[.int .i64 0, .agg #[.float .f64 x, .float .f64 x], boxV (ptB v)] w fun e w' => e = .returned (boxE P 0) ∧ Below w.heap.size w w') ∧ ByB P (outV (tM 0 (bW sw) (bW cw) (negN (bW sw))) v) (sz3 v) := by
  have A := errA_ang hx e
  obtain ⟨r, R, -, -⟩ := T.ex
  obtain ⟨u1, u2, k, SR, CS⟩ := uspans_run hx hx
  have hk : k = 0 := by have := SR.err; rw [this]; exact errT_self fx e
  subst hk
  obtain ⟨U1, U2, i1, i2⟩ := spans_in A R SR (Int.le_refl _) (Int.le_refl _)
  obtain ⟨t1, t2⟩ := trig_true A T R
  generalize Ply.sq (kq eig (V x)) (Ply.tau * Q r) = S at *
  generalize Ply.sq (kq eig (V x) + 1) (Ply.tau * Q r) = Co at *
  have C := circ7 A T
  have h' := fv
  unfold fitV at h'
  simp only [Bool.and_eq_true] at h'
  obtain ⟨s1, b1, f1⟩ := pt_ok hv.l1 h'.1.1
  obtain ⟨s2, b2, f2⟩ := pt_ok hv.l2 h'.1.2
  obtain ⟨s3, b3, f3⟩ := pt_ok hv.l3 h'.2
  have j1 : In (Q v.1) (ps (ptS7 v.1)) := by rw [b1]; exact ⟨Rat.le_refl, Rat.le_refl⟩
  have j2 : In (Q v.2.1) (ps (ptS7 v.2.1)) := by rw [b2]; exact ⟨Rat.le_refl, Rat.le_refl⟩
  have j3 : In (Q v.2.2) (ps (ptS7 v.2.2)) := by rw [b3]; exact ⟨Rat.le_refl, Rat.le_refl⟩
  obtain ⟨m1, m2, m3, m4, y1, y2, PR, H1, H2⟩ := pair7 (unit_sn U1) (unit_sn U2) s2 s3 i1 i2 j2 j3
  obtain ⟨u, ar, H3⟩ := axis_held s1 j1
  obtain ⟨mw, mf, hn⟩ := tM_w A T 0
  have E := fitV_wd hv fv
  have DD := fitM_wd mw mf
  rw [tM0] at *
  have o1 := dot_wd DD.d1 E
  have o2 := dot_wd DD.d2 E
  have o3 := dot_wd DD.d3 E
  have ns2 : mag (-Q (bW sw)) ≤ 2 := by rw [mag_neg]; exact C.s2
  have n1 := fix00 (row_near o1 one_Q7 Q0 Q0 rfl rfl rfl mag1 mag0 mag0)
  have n2 := fix01 (row_near o2 Q0 rfl hn rfl rfl rfl mag0 C.c2 ns2)
  have n3 := fix02 (row_near o3 Q0 rfl rfl rfl rfl rfl mag0 C.s2 C.c2)
  have x0 := (mag_le (Q v.1)).2.2
  have y0 := (mag_le (Q v.2.1)).2.2
  have z0 := (mag_le (Q v.2.2)).2.2
  have hS : sz3 v = mag (Q v.1) + mag (Q v.2.1) + mag (Q v.2.2) := rfl
  have g2 := near_minus (Z := sz3 v) (p := Q v.2.1) (q := Q v.2.2) t1 t2 (by rw [hS]; grind) n2
  have g3 := near_plus (Z := sz3 v) (p := Q v.2.1) (q := Q v.2.2) t1 t2 (by rw [hS]; grind) n3
  have g1 := near_axis (Z := sz3 v) (p := Q v.1) (by rw [hS]; grind) n1
  have AX := fun w => vaxis_run 0 w
  rw [decide_eq_true (by omega)] at AX
  have FB := fun w => vfitbox_run (b := ptB v) ⟨s1.w2, s2.w2, s3.w2⟩ w
  have fb : fitBx (ptB v) = true := by unfold fitBx ptB; dsimp only; rw [f1, f2, f3]; rfl
  rw [fb] at FB
  refine ⟨(u, y1, y2), ?_, ⟨By1.of H3 g1, By1.of H1 g2, By1.of H2 g3⟩⟩
  have d1 := vmul7 (unit_sn U2).w2 s2.w2 PR.r1
  have d2 := vmul7 (unit_sn U1).w2 s3.w2 PR.r2
  have d3 := vsub7 PR.w1 PR.w2 PR.r3
  have d4 := vmul7 (unit_sn U1).w2 s2.w2 PR.r4
  have d5 := vmul7 (unit_sn U2).w2 s3.w2 PR.r5
  have d6 := vadd7 PR.w3 PR.w4 PR.r6
  have d7 := vadd7 s1.w2 zero_w2 ar
  exact fun w => vboxturn0 (Lib.hid AX) (Lib.hid CS) (Lib.hid FB) (Lib.hid d1) (Lib.hid d2) (Lib.hid d3) (Lib.hid d4) (Lib.hid d5) (Lib.hid d6) (Lib.hid d7) w
set_option maxHeartbeats 4000000 in
set_option maxRecDepth 100000 in
theorem holds1 {x sw cw : Nat} {v : V3} (hx : x < 18446744073709551616) (fx : fitB x = true) (e : errA x = 0) (T : Trig x sw cw) (hv : W3 v) (fv : fitV v = true) :
    ∃ P : B6, (∀ w, Calls Try.prog 48 #[.int .i64 1, .agg #[.float .f64 x, .float .f64 x], boxV (ptB v)] w fun e w' => e = .returned (boxE P 0) ∧ Below w.heap.size w w') ∧ ByB P (outV (tM 1 (bW sw) (bW cw) (negN (bW sw))) v) (sz3 v) := by
  have A := errA_ang hx e
  obtain ⟨r, R, -, -⟩ := T.ex
  obtain ⟨u1, u2, k, SR, CS⟩ := uspans_run hx hx
  have hk : k = 0 := by have := SR.err; rw [this]; exact errT_self fx e
  subst hk
  obtain ⟨U1, U2, i1, i2⟩ := spans_in A R SR (Int.le_refl _) (Int.le_refl _)
  obtain ⟨t1, t2⟩ := trig_true A T R
  generalize Ply.sq (kq eig (V x)) (Ply.tau * Q r) = S at *
  generalize Ply.sq (kq eig (V x) + 1) (Ply.tau * Q r) = Co at *
  have C := circ7 A T
  have h' := fv
  unfold fitV at h'
  simp only [Bool.and_eq_true] at h'
  obtain ⟨s1, b1, f1⟩ := pt_ok hv.l1 h'.1.1
  obtain ⟨s2, b2, f2⟩ := pt_ok hv.l2 h'.1.2
  obtain ⟨s3, b3, f3⟩ := pt_ok hv.l3 h'.2
  have j1 : In (Q v.1) (ps (ptS7 v.1)) := by rw [b1]; exact ⟨Rat.le_refl, Rat.le_refl⟩
  have j2 : In (Q v.2.1) (ps (ptS7 v.2.1)) := by rw [b2]; exact ⟨Rat.le_refl, Rat.le_refl⟩
  have j3 : In (Q v.2.2) (ps (ptS7 v.2.2)) := by rw [b3]; exact ⟨Rat.le_refl, Rat.le_refl⟩
  obtain ⟨m1, m2, m3, m4, y1, y2, PR, H1, H2⟩ := pair7 (unit_sn U1) (unit_sn U2) s3 s1 i1 i2 j3 j1
  obtain ⟨u, ar, H3⟩ := axis_held s2 j2
  obtain ⟨mw, mf, hn⟩ := tM_w A T 1
  have E := fitV_wd hv fv
  have DD := fitM_wd mw mf
  rw [tM1] at *
  have o1 := dot_wd DD.d1 E
  have o2 := dot_wd DD.d2 E
  have o3 := dot_wd DD.d3 E
  have ns2 : mag (-Q (bW sw)) ≤ 2 := by rw [mag_neg]; exact C.s2
  have n1 := fix10 (row_near o1 rfl Q0 rfl rfl rfl rfl C.c2 mag0 C.s2)
  have n2 := fix11 (row_near o2 Q0 one_Q7 Q0 rfl rfl rfl mag0 mag1 mag0)
  have n3 := fix12 (row_near o3 hn Q0 rfl rfl rfl rfl ns2 mag0 C.c2)
  have x0 := (mag_le (Q v.1)).2.2
  have y0 := (mag_le (Q v.2.1)).2.2
  have z0 := (mag_le (Q v.2.2)).2.2
  have hS : sz3 v = mag (Q v.1) + mag (Q v.2.1) + mag (Q v.2.2) := rfl
  have g3 := near_minus (Z := sz3 v) (p := Q v.2.2) (q := Q v.1) t1 t2 (by rw [hS]; grind) n3
  have g1 := near_plus (Z := sz3 v) (p := Q v.2.2) (q := Q v.1) t1 t2 (by rw [hS]; grind) n1
  have g2 := near_axis (Z := sz3 v) (p := Q v.2.1) (by rw [hS]; grind) n2
  have AX := fun w => vaxis_run 1 w
  rw [decide_eq_true (by omega)] at AX
  have FB := fun w => vfitbox_run (b := ptB v) ⟨s1.w2, s2.w2, s3.w2⟩ w
  have fb : fitBx (ptB v) = true := by unfold fitBx ptB; dsimp only; rw [f1, f2, f3]; rfl
  rw [fb] at FB
  refine ⟨(y2, u, y1), ?_, ⟨By1.of H2 g1, By1.of H3 g2, By1.of H1 g3⟩⟩
  have d1 := vmul7 (unit_sn U2).w2 s3.w2 PR.r1
  have d2 := vmul7 (unit_sn U1).w2 s1.w2 PR.r2
  have d3 := vsub7 PR.w1 PR.w2 PR.r3
  have d4 := vmul7 (unit_sn U1).w2 s3.w2 PR.r4
  have d5 := vmul7 (unit_sn U2).w2 s1.w2 PR.r5
  have d6 := vadd7 PR.w3 PR.w4 PR.r6
  have d7 := vadd7 s2.w2 zero_w2 ar
  exact fun w => vboxturn1 (Lib.hid AX) (Lib.hid CS) (Lib.hid FB) (Lib.hid d1) (Lib.hid d2) (Lib.hid d3) (Lib.hid d4) (Lib.hid d5) (Lib.hid d6) (Lib.hid d7) w
set_option maxHeartbeats 4000000 in
set_option maxRecDepth 100000 in
theorem holds2 {x sw cw : Nat} {v : V3} (hx : x < 18446744073709551616) (fx : fitB x = true) (e : errA x = 0) (T : Trig x sw cw) (hv : W3 v) (fv : fitV v = true) :
    ∃ P : B6, (∀ w, Calls Try.prog 48 #[.int .i64 2, .agg #[.float .f64 x, .float .f64 x], boxV (ptB v)] w fun e w' => e = .returned (boxE P 0) ∧ Below w.heap.size w w') ∧ ByB P (outV (tM 2 (bW sw) (bW cw) (negN (bW sw))) v) (sz3 v) := by
  have A := errA_ang hx e
  obtain ⟨r, R, -, -⟩ := T.ex
  obtain ⟨u1, u2, k, SR, CS⟩ := uspans_run hx hx
  have hk : k = 0 := by have := SR.err; rw [this]; exact errT_self fx e
  subst hk
  obtain ⟨U1, U2, i1, i2⟩ := spans_in A R SR (Int.le_refl _) (Int.le_refl _)
  obtain ⟨t1, t2⟩ := trig_true A T R
  generalize Ply.sq (kq eig (V x)) (Ply.tau * Q r) = S at *
  generalize Ply.sq (kq eig (V x) + 1) (Ply.tau * Q r) = Co at *
  have C := circ7 A T
  have h' := fv
  unfold fitV at h'
  simp only [Bool.and_eq_true] at h'
  obtain ⟨s1, b1, f1⟩ := pt_ok hv.l1 h'.1.1
  obtain ⟨s2, b2, f2⟩ := pt_ok hv.l2 h'.1.2
  obtain ⟨s3, b3, f3⟩ := pt_ok hv.l3 h'.2
  have j1 : In (Q v.1) (ps (ptS7 v.1)) := by rw [b1]; exact ⟨Rat.le_refl, Rat.le_refl⟩
  have j2 : In (Q v.2.1) (ps (ptS7 v.2.1)) := by rw [b2]; exact ⟨Rat.le_refl, Rat.le_refl⟩
  have j3 : In (Q v.2.2) (ps (ptS7 v.2.2)) := by rw [b3]; exact ⟨Rat.le_refl, Rat.le_refl⟩
  obtain ⟨m1, m2, m3, m4, y1, y2, PR, H1, H2⟩ := pair7 (unit_sn U1) (unit_sn U2) s1 s2 i1 i2 j1 j2
  obtain ⟨u, ar, H3⟩ := axis_held s3 j3
  obtain ⟨mw, mf, hn⟩ := tM_w A T 2
  have E := fitV_wd hv fv
  have DD := fitM_wd mw mf
  rw [tM2] at *
  have o1 := dot_wd DD.d1 E
  have o2 := dot_wd DD.d2 E
  have o3 := dot_wd DD.d3 E
  have ns2 : mag (-Q (bW sw)) ≤ 2 := by rw [mag_neg]; exact C.s2
  have n1 := fix20 (row_near o1 rfl hn Q0 rfl rfl rfl C.c2 ns2 mag0)
  have n2 := fix21 (row_near o2 rfl rfl Q0 rfl rfl rfl C.s2 C.c2 mag0)
  have n3 := fix22 (row_near o3 Q0 Q0 one_Q7 rfl rfl rfl mag0 mag0 mag1)
  have x0 := (mag_le (Q v.1)).2.2
  have y0 := (mag_le (Q v.2.1)).2.2
  have z0 := (mag_le (Q v.2.2)).2.2
  have hS : sz3 v = mag (Q v.1) + mag (Q v.2.1) + mag (Q v.2.2) := rfl
  have g1 := near_minus (Z := sz3 v) (p := Q v.1) (q := Q v.2.1) t1 t2 (by rw [hS]; grind) n1
  have g2 := near_plus (Z := sz3 v) (p := Q v.1) (q := Q v.2.1) t1 t2 (by rw [hS]; grind) n2
  have g3 := near_axis (Z := sz3 v) (p := Q v.2.2) (by rw [hS]; grind) n3
  have AX := fun w => vaxis_run 2 w
  rw [decide_eq_true (by omega)] at AX
  have FB := fun w => vfitbox_run (b := ptB v) ⟨s1.w2, s2.w2, s3.w2⟩ w
  have fb : fitBx (ptB v) = true := by unfold fitBx ptB; dsimp only; rw [f1, f2, f3]; rfl
  rw [fb] at FB
  refine ⟨(y1, y2, u), ?_, ⟨By1.of H1 g1, By1.of H2 g2, By1.of H3 g3⟩⟩
  have d1 := vmul7 (unit_sn U2).w2 s1.w2 PR.r1
  have d2 := vmul7 (unit_sn U1).w2 s2.w2 PR.r2
  have d3 := vsub7 PR.w1 PR.w2 PR.r3
  have d4 := vmul7 (unit_sn U1).w2 s1.w2 PR.r4
  have d5 := vmul7 (unit_sn U2).w2 s2.w2 PR.r5
  have d6 := vadd7 PR.w3 PR.w4 PR.r6
  have d7 := vadd7 s3.w2 zero_w2 ar
  exact fun w => vboxturn2 (Lib.hid AX) (Lib.hid CS) (Lib.hid FB) (Lib.hid d1) (Lib.hid d2) (Lib.hid d3) (Lib.hid d4) (Lib.hid d5) (Lib.hid d6) (Lib.hid d7) w
theorem diff_le7 {a b c : Nat} (h : Q a - Q b ≤ Q c) : V a - V b ≤ V c := by
  have := Rat.mul_le_mul_of_nonneg_right h (Rat.le_of_lt unit_pos)
  have e : (Q a - Q b) * unit = Q a * unit - Q b * unit := by grind
  rw [e, Q_unit, Q_unit, Q_unit, ← Rat.intCast_sub] at this
  exact Rat.intCast_le_intCast.1 this
theorem bnd_pos {S : Rat} (h : 0 ≤ S) : 0 ≤ bnd S ∧ bnd S ≤ bnd S * (1 + uR) := by
  have a := Rat.mul_nonneg uR0 h
  have b := sm0
  have c : 0 ≤ bnd S := by
    unfold bnd
    generalize uR = u at *
    generalize sm = σ at *
    grind
  have d := Rat.mul_nonneg c uR0
  generalize bnd S = B at *
  generalize uR = u at *
  exact ⟨c, by grind⟩
theorem sz3_pos (v : V3) : 0 ≤ sz3 v := by
  have x0 := (mag_le (Q v.1)).2.2
  have y0 := (mag_le (Q v.2.1)).2.2
  have z0 := (mag_le (Q v.2.2)).2.2
  unfold sz3; grind
set_option maxRecDepth 100000 in
theorem off7 {p : Pr} {y : Nat} {v : V3} (D : D3 v) (hy : Wd y 822 1134) (B : By1 p y (sz3 v)) :
    ∃ o, ((FloatKind.f64.format.order o (limW v) == some Ordering.lt || FloatKind.f64.format.order o (limW v) == some Ordering.eq) = true) ∧ ∀ w, Calls Try.prog 83 #[.agg #[.float .f64 p.1, .float .f64 p.2], .float .f64 y] w fun e w' => e = .returned (.float .f64 o) ∧ Below w.heap.size w w' := by
  obtain ⟨f1, f2, -⟩ := B.sn.fits
  obtain ⟨b1, b2⟩ := B.sn.bd
  have L := lim_of D
  have c := bnd_pos (sz3_pos v)
  have l := L.lim
  have b := B.lo
  have d := B.hi
  have e1 := diff_le7 (Rat.le_trans b (Rat.le_trans c.2 l))
  have e2 := diff_le7 (Rat.le_trans d (Rat.le_trans c.2 l))
  have n0 : 0 ≤ V (limW v) := by
    have := (Q_le (a := 0) (b := limW v)).1 (by rw [Q0]; exact Rat.le_trans c.1 (Rat.le_trans c.2 l))
    rwa [V_zero] at this
  obtain ⟨o, fo, ho, C⟩ := off_any (fit_fin B.sn.l1 f1) (fit_fin B.sn.l2 f2) hy.fin (abs_up (k := 1074 + 62) (l := 1400) b1 (by omega)) (abs_up (k := 1074 + 62) (l := 1400) b2 (by omega)) (abs_up (k := 1134) (l := 1400) hy.abs (by omega))
  have le := ho _ n0 e1 e2
  rw [RN_exact (Rep_V _)] at le
  have w := le_words fo L.fin
  rw [decide_eq_true le] at w
  exact ⟨o, w, C⟩
set_option maxHeartbeats 4000000 in
set_option maxRecDepth 100000 in
theorem beside_run {a1 a2 a3 a4 a5 a6 v1 v2 v3 d o1 o2 o3 : Nat} (O1 : Hid (∀ w, Calls Try.prog 83 #[.agg #[.float .f64 a1, .float .f64 a2], .float .f64 v1] w fun e w' => e = .returned (.float .f64 o1) ∧ Below w.heap.size w w')) (O2 : Hid (∀ w, Calls Try.prog 83 #[.agg #[.float .f64 a3, .float .f64 a4], .float .f64 v2] w fun e w' => e = .returned (.float .f64 o2) ∧ Below w.heap.size w w')) (O3 : Hid (∀ w, Calls Try.prog 83 #[.agg #[.float .f64 a5, .float .f64 a6], .float .f64 v3] w fun e w' => e = .returned (.float .f64 o3) ∧ Below w.heap.size w w')) (l1 : (FloatKind.f64.format.order o1 d == some Ordering.lt || FloatKind.f64.format.order o1 d == some Ordering.eq) = true) (l2 : (FloatKind.f64.format.order o2 d == some Ordering.lt || FloatKind.f64.format.order o2 d == some Ordering.eq) = true) (l3 : (FloatKind.f64.format.order o3 d == some Ordering.lt || FloatKind.f64.format.order o3 d == some Ordering.eq) = true) (w : World) : Calls Try.prog 49 #[.agg #[.float .f64 a1, .float .f64 a2, .float .f64 a3, .float .f64 a4, .float .f64 a5, .float .f64 a6], .agg #[.float .f64 v1, .float .f64 v2, .float .f64 v3], .float .f64 d] w fun e w' => e = .returned (.bool true) ∧ Below w.heap.size w w' := by
  have K0 := kw2 w 50 24 [a1, a2, a3, a4, a5, a6] [v1, v2, v3]
  simp only [objW, List.map_cons, List.map_nil] at K0
  have hst := @fstore
  replace K0 := Lib.hid K0
  go_enter Try.func49, Try.ntmps49
  go_wp2_with fail
  have K := K0.out
  clear K0
  generalize (w.alloc _).alloc _ = wr at *
  refine (O1.out wr).mono ?_
  rintro _ v1 ⟨rfl, hb⟩
  replace K := K.on hb
  clear hb
  have c0_2 := (K.at_ 0 rfl).at_ 2 _ rfl
  have c0_3 := (K.at_ 0 rfl).at_ 3 _ rfl
  have c1_1 := (K.at_ 1 rfl).at_ 1 _ rfl
  replace K := Lib.hid K
  go_wp2_with fail
  replace K := K.out
  refine (O2.out v1).mono ?_
  rintro _ v2 ⟨rfl, hb⟩
  clear c0_2 c0_3 c1_1
  replace K := K.on hb
  clear hb
  have c0_4 := (K.at_ 0 rfl).at_ 4 _ rfl
  have c0_5 := (K.at_ 0 rfl).at_ 5 _ rfl
  have c1_2 := (K.at_ 1 rfl).at_ 2 _ rfl
  replace K := Lib.hid K
  go_wp2_with fail
  replace K := K.out
  refine (O3.out v2).mono ?_
  rintro _ v3 ⟨rfl, hb⟩
  clear c0_4 c0_5 c1_2
  replace K := K.on hb
  clear hb
  replace K := Lib.hid K
  go_wp2_with fail
  replace K := K.out
  go_ret
  exact ⟨rfl, K.old⟩
end Go.Proofs.Ytpdkciennccckaa
