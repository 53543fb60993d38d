/- Proved here: what the texts Vsh, Vss, Vpo, Vsn prove, one behind the other. -/
import Derived.Test.YtbhohpobpecepaaGreatJb9
import Derived.Deep.CutRange
import Derived.BigQuiet

namespace Go.Proofs.YtbhohpobpecepaaGreat
open Go.ChangeShapes Go.WideShapes Go.ChangeAt Go.RowKit Ieee.Own

theorem vmul_run {p q u : Pr} (hp1 : p.1 < 18446744073709551616) (hp2 : p.2 < 18446744073709551616) (hq1 : q.1 < 18446744073709551616) (hq2 : q.2 < 18446744073709551616) (R : MulR p q u) (w : World) :
    Calls Tryz.prog 19 #[pv p, pv q] w fun e w' => e = .returned (pv u) ∧ Below w.heap.size w w' := by
  obtain ⟨p1, p2⟩ := p
  obtain ⟨q1, q2⟩ := q
  obtain ⟨u1, u2⟩ := u
  have SM := Lib.hid (fun w => (rmul_run p1 p2 q1 q2 hp1 hp2 hq1 hq2 w).mono fun e w' h => (⟨OpAll.uniq h.1 R, h.2⟩ : e = .returned (spanE u1 u2 0) ∧ Below w.heap.size w w'))
  have C0 : Cls w [(w.heap.size, p1, p2), (w.heap.size + 1, q1, q2), (w.heap.size + 1 + 1, 0, 0)] (((w.alloc (boxO p1 p2)).alloc (boxO q1 q2)).alloc (boxO 0 0)) := by
    have := (((Cls.nil w).new p1 p2).new q1 q2).new 0 0
    simp only [List.nil_append, List.cons_append] at this
    rw [show (w.alloc (boxO p1 p2)).heap.size = w.heap.size + 1 by simp, show ((w.alloc (boxO p1 p2)).alloc (boxO q1 q2)).heap.size = w.heap.size + 1 + 1 by simp] at this
    exact this
  have hst := @fstore
  unfold boxO at C0
  unfold pv spanV spanE at *
  dsimp only at *
  replace C0 := Lib.hid C0
  clear hp1 hp2 hq1 hq2 R
  go_enter Tryz.func19, Tryz.ntmps19
  go_wp2_with fail
  have C := C0.out
  clear C0
  generalize ((w.alloc _).alloc _).alloc _ = wr at *
  refine (SM.out wr).mono ?_
  rintro _ w1 ⟨rfl, hb⟩
  have C1 := (C.on hb).new u1 u2
  unfold boxO at C1
  have c0 := (C1.at_ 2 rfl).lo
  have c1 := (C1.at_ 2 rfl).hi
  have f0 := (C1.at_ 2 rfl).f0
  have f1 := (C1.at_ 2 rfl).f1
  have d0 := (C1.at_ 3 rfl).lo
  have d1 := (C1.at_ 3 rfl).hi
  have B := Lib.hid C1.old
  clear C C1 hb SM
  go_wp2_with fail
  (try simp only [Exit.inBlock, Exit.then])
  refine bodyPost_ret (v := spanV u1 u2) ?_ rfl ⟨rfl, ?_⟩
  · rw [results_cell1 rfl]; unfold spanV; go_simp
  · exact (B.out.setCell (by show _ ≤ w.heap.size + 1 + 1; omega) _).setCell (by show _ ≤ w.heap.size + 1 + 1; omega) _
theorem vadd_run {p q u : Pr} (hp1 : p.1 < 18446744073709551616) (hp2 : p.2 < 18446744073709551616) (hq1 : q.1 < 18446744073709551616) (hq2 : q.2 < 18446744073709551616) (R : AddR p q u) (w : World) :
    Calls Tryz.prog 22 #[pv p, pv q] w fun e w' => e = .returned (pv u) ∧ Below w.heap.size w w' := by
  obtain ⟨p1, p2⟩ := p
  obtain ⟨q1, q2⟩ := q
  obtain ⟨u1, u2⟩ := u
  have SM := Lib.hid (fun w => (radd_run p1 p2 q1 q2 hp1 hp2 hq1 hq2 w).mono fun e w' h => (⟨h.1.all.uniq R.all, h.2⟩ : e = .returned (spanE u1 u2 0) ∧ Below w.heap.size w w'))
  have C0 : Cls w [(w.heap.size, p1, p2), (w.heap.size + 1, q1, q2), (w.heap.size + 1 + 1, 0, 0)] (((w.alloc (boxO p1 p2)).alloc (boxO q1 q2)).alloc (boxO 0 0)) := by
    have := (((Cls.nil w).new p1 p2).new q1 q2).new 0 0
    simp only [List.nil_append, List.cons_append] at this
    rw [show (w.alloc (boxO p1 p2)).heap.size = w.heap.size + 1 by simp, show ((w.alloc (boxO p1 p2)).alloc (boxO q1 q2)).heap.size = w.heap.size + 1 + 1 by simp] at this
    exact this
  have hst := @fstore
  unfold boxO at C0
  unfold pv spanV spanE at *
  dsimp only at *
  replace C0 := Lib.hid C0
  clear hp1 hp2 hq1 hq2 R
  go_enter Tryz.func22, Tryz.ntmps22
  go_wp2_with fail
  have C := C0.out
  clear C0
  generalize ((w.alloc _).alloc _).alloc _ = wr at *
  refine (SM.out wr).mono ?_
  rintro _ w1 ⟨rfl, hb⟩
  have C1 := (C.on hb).new u1 u2
  unfold boxO at C1
  have c0 := (C1.at_ 2 rfl).lo
  have c1 := (C1.at_ 2 rfl).hi
  have f0 := (C1.at_ 2 rfl).f0
  have f1 := (C1.at_ 2 rfl).f1
  have d0 := (C1.at_ 3 rfl).lo
  have d1 := (C1.at_ 3 rfl).hi
  have B := Lib.hid C1.old
  clear C C1 hb SM
  go_wp2_with fail
  (try simp only [Exit.inBlock, Exit.then])
  refine bodyPost_ret (v := spanV u1 u2) ?_ rfl ⟨rfl, ?_⟩
  · rw [results_cell1 rfl]; unfold spanV; go_simp
  · exact (B.out.setCell (by show _ ≤ w.heap.size + 1 + 1; omega) _).setCell (by show _ ≤ w.heap.size + 1 + 1; omega) _
theorem vabout_run {a : Nat} (ha : a < 18446744073709551616) (w : World) :
    Calls Tryz.prog 61 #[.float .f64 a] w fun e w' => e = .returned (pv (facS a)) ∧ Below w.heap.size w w' := by
  have P1 := fun w => rprev_any a ha w
  have P2 := fun w => rnext_any a ha w
  have hst := @fstore
  unfold pv spanV facS
  dsimp only
  clear ha
  generalize prevW a = x at *
  generalize nextW a = y at *
  go_enter Tryz.func61, Tryz.ntmps61
  go_wp2_with (first | (go_at_call 89; ((with_reducible refine (P1 _).mono ?_); rintro e w' ⟨rfl, rfl⟩)) | (go_at_call 20; ((with_reducible refine (P2 _).mono ?_); rintro e w' ⟨rfl, rfl⟩)))
  (try simp only [Exit.inBlock, Exit.then])
  refine bodyPost_ret (v := spanV x y) ?_ rfl ⟨rfl, ?_⟩
  · rw [results_cell1 rfl]; unfold spanV; go_simp
  · exact (Below.refl _ w).alloc (Nat.le_refl _) _
theorem vclip_run {p u : Pr} (T : Sets p.1 p.2 noneW oneW) (hu : u = cutP p) (w : World) :
    Calls Tryz.prog 25 #[pv p] w fun e w' => e = .returned (pv u) ∧ Below w.heap.size w w' := by
  obtain ⟨p1, p2⟩ := p
  obtain ⟨u1, u2⟩ := u
  obtain ⟨e1, e2⟩ := Prod.mk.inj hu
  dsimp only at e1 e2 T
  have SM : ∀ w, Calls Tryz.prog 62 #[spanV p1 p2, .agg #[.float .f64 13830554455654793216, .float .f64 4607182418800017408]] w fun e w' => e = .returned (.tuple #[spanV (meetX p1 p2 noneW oneW) (meetY p1 p2 noneW oneW), .bool (meetB p1 p2 noneW oneW), .int .i64 0]) ∧ Below w.heap.size w w' := fun w => rmeet_ok T w
  rw [← e1, ← e2] at SM
  replace SM := Lib.hid SM
  generalize meetB p1 p2 noneW oneW = mb at *
  have C0 : Cls w [(w.heap.size, p1, p2), (w.heap.size + 1, 0, 0)] ((w.alloc (boxO p1 p2)).alloc (boxO 0 0)) := by
    have := ((Cls.nil w).new p1 p2).new 0 0
    simp only [List.nil_append, List.cons_append] at this
    rw [show (w.alloc (boxO p1 p2)).heap.size = w.heap.size + 1 by simp] at this
    exact this
  have hst := @fstore
  unfold boxO at C0
  unfold pv spanV at *
  dsimp only at *
  replace C0 := Lib.hid C0
  clear T e1 e2 hu
  go_enter Tryz.func25, Tryz.ntmps25
  go_wp2_with fail
  have C := C0.out
  clear C0
  generalize (w.alloc _).alloc _ = wr at *
  refine (SM.out wr).mono ?_
  rintro _ w1 ⟨rfl, hb⟩
  have C1 := (C.on hb).new u1 u2
  unfold boxO at C1
  have c0 := (C1.at_ 1 rfl).lo
  have c1 := (C1.at_ 1 rfl).hi
  have f0 := (C1.at_ 1 rfl).f0
  have f1 := (C1.at_ 1 rfl).f1
  have d0 := (C1.at_ 2 rfl).lo
  have d1 := (C1.at_ 2 rfl).hi
  have B := Lib.hid C1.old
  clear C C1 hb SM
  go_wp2_with fail
  (try simp only [Exit.inBlock, Exit.then])
  refine bodyPost_ret (v := spanV u1 u2) ?_ rfl ⟨rfl, ?_⟩
  · rw [results_cell1 rfl]; unfold spanV; go_simp
  · exact (B.out.setCell (by show _ ≤ w.heap.size + 1; omega) _).setCell (by show _ ≤ w.heap.size + 1; omega) _

/-- what told answers of the smaller lower end and the greater upper one -/
theorem hull_told {p q : Pr} {lo hi : Nat} (lp1 : p.1 < 18446744073709551616) (lp2 : p.2 < 18446744073709551616) (lq1 : q.1 < 18446744073709551616) (lq2 : q.2 < 18446744073709551616) (h0 : errSS p.1 p.2 q.1 q.2 = 0)
    (h1 : lo = p.1 ∨ lo = q.1) (h2 : V lo ≤ V p.1) (h3 : V lo ≤ V q.1) (k1 : hi = p.2 ∨ hi = q.2) (k2 : V p.2 ≤ V hi) (k3 : V q.2 ≤ V hi) :
    toldE lo hi = spanE (hullP p q).1 (hullP p q).2 0 ∧ FinW lo ∧ FinW hi := by
  obtain ⟨z1, z2⟩ := errSS_zero h0
  obtain ⟨f1, f2, le⟩ := errS_zero z1
  obtain ⟨f3, f4, le'⟩ := errS_zero z2
  have g1 := fit_fin lp1 f1
  have g2 := fit_fin lp2 f2
  have g3 := fit_fin lq1 f3
  have g4 := fit_fin lq2 f4
  have el := min_of g1 g3 h1 h2 h3
  have eh := max_of g2 g4 k1 k2 k3
  have mf := mn_fit lp1 lq1 f1 f3
  have nf := mx_fit lp2 lq2 f2 f4
  have mF := mnW_fin g1 g3
  have nF := mxW_fin g2 g4
  have lF : FinW lo := by rcases h1 with rfl | rfl <;> assumption
  have hF : FinW hi := by rcases k1 with rfl | rfl <;> assumption
  have ml := fit_low mF.1 mf
  have nl := fit_low nF.1 nf
  have c1 := lowW_congr lF mF el
  have c2 := highW_congr hF nF eh
  have mm := fit_most mF.1 mf
  have nm := fit_most nF.1 nf
  refine ⟨?_, lF, hF⟩
  unfold hullP
  dsimp only
  rw [ml.1, nl.2.1]
  unfold toldE
  rw [c1, c2, if_neg (by rw [ml.2.2.1, nl.2.2.2]; omega)]

set_option maxHeartbeats 2000000 in
theorem rhull_walk {a0 b0 a1 b1 lo hi x y : Nat} {c1 c2 : Bool} (BO : Hid (∀ w, Calls Tryz.prog 84 #[spanV a0 b0, spanV a1 b1] w fun e w' => e = .returned (.int .i64 0) ∧ Below w.heap.size w w'))
    (TO : Hid (∀ w, Calls Tryz.prog 56 #[.float .f64 lo, .float .f64 hi] w fun e w' => e = .returned (spanE x y 0) ∧ Below w.heap.size w w'))
    (t1 : (FloatKind.f64.format.order a1 a0 == some Ordering.lt) = c1) (t2 : (FloatKind.f64.format.order b1 b0 == some Ordering.gt) = c2)
    (hl : lo = if c1 then a1 else a0) (hh : hi = if c2 then b1 else b0) (w : World) :
    Calls Tryz.prog 68 #[spanV a0 b0, spanV a1 b1] w fun e w' => e = .returned (spanE x y 0) ∧ Below w.heap.size w w' := by
  have C0 : Cls w [(w.heap.size, a0, b0), (w.heap.size + 1, a1, b1), (w.heap.size + 1 + 1, 0, 0)] (((w.alloc (boxO a0 b0)).alloc (boxO a1 b1)).alloc (boxO 0 0)) := by
    have := (((Cls.nil w).new a0 b0).new a1 b1).new 0 0
    simp only [List.nil_append, List.cons_append] at this
    rw [show (w.alloc (boxO a0 b0)).heap.size = w.heap.size + 1 by simp, show ((w.alloc (boxO a0 b0)).alloc (boxO a1 b1)).heap.size = w.heap.size + 1 + 1 by simp] at this
    exact this
  have hst := @fstore
  unfold boxO at C0
  unfold spanV spanE at *
  replace C0 := Lib.hid C0
  cases c1 <;> cases c2
  · replace hl : lo = a0 := hl
    replace hh : hi = b0 := hh
    subst hl hh
    go_enter Tryz.func68, Tryz.ntmps68
    go_wp2_with fail
    have C := C0.out
    clear C0
    generalize ((w.alloc _).alloc _).alloc _ = wr at *
    refine (BO.out wr).mono ?_
    rintro _ w1 ⟨rfl, hb⟩
    have C1 := C.on hb
    have p0 := (C1.at_ 0 rfl).lo
    have p1 := (C1.at_ 0 rfl).hi
    have q0 := (C1.at_ 1 rfl).lo
    have q1 := (C1.at_ 1 rfl).hi
    replace C1 := Lib.hid C1
    clear C hb BO
    go_wp2_with fail
    go_quiet (fail)
    have C2 := C1.out.on (below_drewN (Below.refl _ w1) nq)
    have p0 := (C2.at_ 0 rfl).lo
    have p1 := (C2.at_ 0 rfl).hi
    have q0 := (C2.at_ 1 rfl).lo
    have q1 := (C2.at_ 1 rfl).hi
    replace C2 := Lib.hid C2
    clear C1
    generalize w1.drewN nq = wd at *
    go_wp2_with fail
    have C3 := C2.out
    clear p0 p1 q0 q1 C2
    refine (TO.out wd).mono ?_
    rintro _ w2 ⟨rfl, hb⟩
    have C4 := C3.on hb
    have r0 := (C4.at_ 2 rfl).lo
    have r1 := (C4.at_ 2 rfl).hi
    have f0 := (C4.at_ 2 rfl).f0
    have f1 := (C4.at_ 2 rfl).f1
    have O := Lib.hid C4.old
    clear C3 C4 hb TO
    go_wp2_with fail
    (try simp only [Exit.inBlock, Exit.then])
    refine bodyPost_ret (v := .tuple #[spanV x y, .int .i64 0]) ?_ rfl ⟨rfl, ?_⟩
    · rw [results_cell_tmp rfl]; unfold spanV; go_simp
    · exact (O.out.setCell (by show _ ≤ w.heap.size + 1 + 1; omega) _).setCell (by show _ ≤ w.heap.size + 1 + 1; omega) _
  · replace hl : lo = a0 := hl
    replace hh : hi = b1 := hh
    subst hl hh
    go_enter Tryz.func68, Tryz.ntmps68
    go_wp2_with fail
    have C := C0.out
    clear C0
    generalize ((w.alloc _).alloc _).alloc _ = wr at *
    refine (BO.out wr).mono ?_
    rintro _ w1 ⟨rfl, hb⟩
    have C1 := C.on hb
    have p0 := (C1.at_ 0 rfl).lo
    have p1 := (C1.at_ 0 rfl).hi
    have q0 := (C1.at_ 1 rfl).lo
    have q1 := (C1.at_ 1 rfl).hi
    replace C1 := Lib.hid C1
    clear C hb BO
    go_wp2_with fail
    go_quiet (fail)
    have C2 := C1.out.on (below_drewN (Below.refl _ w1) nq)
    have p0 := (C2.at_ 0 rfl).lo
    have p1 := (C2.at_ 0 rfl).hi
    have q0 := (C2.at_ 1 rfl).lo
    have q1 := (C2.at_ 1 rfl).hi
    replace C2 := Lib.hid C2
    clear C1
    generalize w1.drewN nq = wd at *
    go_wp2_with fail
    have C3 := C2.out
    clear p0 p1 q0 q1 C2
    refine (TO.out wd).mono ?_
    rintro _ w2 ⟨rfl, hb⟩
    have C4 := C3.on hb
    have r0 := (C4.at_ 2 rfl).lo
    have r1 := (C4.at_ 2 rfl).hi
    have f0 := (C4.at_ 2 rfl).f0
    have f1 := (C4.at_ 2 rfl).f1
    have O := Lib.hid C4.old
    clear C3 C4 hb TO
    go_wp2_with fail
    (try simp only [Exit.inBlock, Exit.then])
    refine bodyPost_ret (v := .tuple #[spanV x y, .int .i64 0]) ?_ rfl ⟨rfl, ?_⟩
    · rw [results_cell_tmp rfl]; unfold spanV; go_simp
    · exact (O.out.setCell (by show _ ≤ w.heap.size + 1 + 1; omega) _).setCell (by show _ ≤ w.heap.size + 1 + 1; omega) _
  · replace hl : lo = a1 := hl
    replace hh : hi = b0 := hh
    subst hl hh
    go_enter Tryz.func68, Tryz.ntmps68
    go_wp2_with fail
    have C := C0.out
    clear C0
    generalize ((w.alloc _).alloc _).alloc _ = wr at *
    refine (BO.out wr).mono ?_
    rintro _ w1 ⟨rfl, hb⟩
    have C1 := C.on hb
    have p0 := (C1.at_ 0 rfl).lo
    have p1 := (C1.at_ 0 rfl).hi
    have q0 := (C1.at_ 1 rfl).lo
    have q1 := (C1.at_ 1 rfl).hi
    replace C1 := Lib.hid C1
    clear C hb BO
    go_wp2_with fail
    go_quiet (fail)
    have C2 := C1.out.on (below_drewN (Below.refl _ w1) nq)
    have p0 := (C2.at_ 0 rfl).lo
    have p1 := (C2.at_ 0 rfl).hi
    have q0 := (C2.at_ 1 rfl).lo
    have q1 := (C2.at_ 1 rfl).hi
    replace C2 := Lib.hid C2
    clear C1
    generalize w1.drewN nq = wd at *
    go_wp2_with fail
    have C3 := C2.out
    clear p0 p1 q0 q1 C2
    refine (TO.out wd).mono ?_
    rintro _ w2 ⟨rfl, hb⟩
    have C4 := C3.on hb
    have r0 := (C4.at_ 2 rfl).lo
    have r1 := (C4.at_ 2 rfl).hi
    have f0 := (C4.at_ 2 rfl).f0
    have f1 := (C4.at_ 2 rfl).f1
    have O := Lib.hid C4.old
    clear C3 C4 hb TO
    go_wp2_with fail
    (try simp only [Exit.inBlock, Exit.then])
    refine bodyPost_ret (v := .tuple #[spanV x y, .int .i64 0]) ?_ rfl ⟨rfl, ?_⟩
    · rw [results_cell_tmp rfl]; unfold spanV; go_simp
    · exact (O.out.setCell (by show _ ≤ w.heap.size + 1 + 1; omega) _).setCell (by show _ ≤ w.heap.size + 1 + 1; omega) _
  · replace hl : lo = a1 := hl
    replace hh : hi = b1 := hh
    subst hl hh
    go_enter Tryz.func68, Tryz.ntmps68
    go_wp2_with fail
    have C := C0.out
    clear C0
    generalize ((w.alloc _).alloc _).alloc _ = wr at *
    refine (BO.out wr).mono ?_
    rintro _ w1 ⟨rfl, hb⟩
    have C1 := C.on hb
    have p0 := (C1.at_ 0 rfl).lo
    have p1 := (C1.at_ 0 rfl).hi
    have q0 := (C1.at_ 1 rfl).lo
    have q1 := (C1.at_ 1 rfl).hi
    replace C1 := Lib.hid C1
    clear C hb BO
    go_wp2_with fail
    go_quiet (fail)
    have C2 := C1.out.on (below_drewN (Below.refl _ w1) nq)
    have p0 := (C2.at_ 0 rfl).lo
    have p1 := (C2.at_ 0 rfl).hi
    have q0 := (C2.at_ 1 rfl).lo
    have q1 := (C2.at_ 1 rfl).hi
    replace C2 := Lib.hid C2
    clear C1
    generalize w1.drewN nq = wd at *
    go_wp2_with fail
    have C3 := C2.out
    clear p0 p1 q0 q1 C2
    refine (TO.out wd).mono ?_
    rintro _ w2 ⟨rfl, hb⟩
    have C4 := C3.on hb
    have r0 := (C4.at_ 2 rfl).lo
    have r1 := (C4.at_ 2 rfl).hi
    have f0 := (C4.at_ 2 rfl).f0
    have f1 := (C4.at_ 2 rfl).f1
    have O := Lib.hid C4.old
    clear C3 C4 hb TO
    go_wp2_with fail
    (try simp only [Exit.inBlock, Exit.then])
    refine bodyPost_ret (v := .tuple #[spanV x y, .int .i64 0]) ?_ rfl ⟨rfl, ?_⟩
    · rw [results_cell_tmp rfl]; unfold spanV; go_simp
    · exact (O.out.setCell (by show _ ≤ w.heap.size + 1 + 1; omega) _).setCell (by show _ ≤ w.heap.size + 1 + 1; omega) _
theorem rhull_ok {p q : Pr} (lp1 : p.1 < 18446744073709551616) (lp2 : p.2 < 18446744073709551616) (lq1 : q.1 < 18446744073709551616) (lq2 : q.2 < 18446744073709551616) (h0 : errSS p.1 p.2 q.1 q.2 = 0) (w : World) :
    Calls Tryz.prog 68 #[pv p, pv q] w fun e w' => e = .returned (spanE (hullP p q).1 (hullP p q).2 0) ∧ Below w.heap.size w w' := by
  obtain ⟨z1, z2⟩ := errSS_zero h0
  obtain ⟨f1, f2, -⟩ := errS_zero z1
  obtain ⟨f3, f4, -⟩ := errS_zero z2
  have g1 := fit_fin lp1 f1
  have g2 := fit_fin lp2 f2
  have g3 := fit_fin lq1 f3
  have g4 := fit_fin lq2 f4
  have BO := Lib.hid (fun w => rboth_run p.1 p.2 q.1 q.2 lp1 lp2 lq1 lq2 w)
  rw [h0] at BO
  have t1 := lt_words g3 g1
  have t2 := gt_words g4 g2
  have key := hull_told (lo := if decide (V q.1 < V p.1) then q.1 else p.1) (hi := if decide (V p.2 < V q.2) then q.2 else p.2) lp1 lp2 lq1 lq2 h0 (by split <;> simp) (by split <;> rename_i h <;> simp at h <;> omega) (by split <;> rename_i h <;> simp at h <;> omega) (by split <;> simp) (by split <;> rename_i h <;> simp at h <;> omega) (by split <;> rename_i h <;> simp at h <;> omega)
  generalize hl : (if decide (V q.1 < V p.1) = true then q.1 else p.1) = lo at *
  generalize hh : (if decide (V p.2 < V q.2) = true then q.2 else p.2) = hi at *
  obtain ⟨k1, k4, k5⟩ := key
  refine rhull_walk (lo := lo) (hi := hi) BO (Lib.hid fun w => ?_) t1 t2 hl.symm hh.symm w
  have := told_run lo hi k4 k5 w
  rw [k1] at this
  exact this

theorem rwidth_ok {a b : Nat} (ha : a < 18446744073709551616) (hb : b < 18446744073709551616) (h0 : errS a b = 0) : ∃ m, (FinW m ∧ Up (fun u => V b - V a - u) m) ∧ ∀ w, Calls Tryz.prog 33 #[spanV a b] w fun e w' => e = .returned (.tuple #[.float .f64 m, .int .i64 0]) ∧ Below w.heap.size w w' := by
  obtain ⟨f1, f2, le⟩ := errS_zero h0
  obtain ⟨s, e, R, ⟨-, -, K, hK, hs, -⟩, AX⟩ := rsum_fit b (negW a) hb (negW_lt64 ha) f2 (by rw [fit_neg ha]; exact f1)
  have hU := sum_up R (bd_of hs hK)
  rw [negW_V (fit_fin ha f1), ← Int.sub_eq_add_neg] at hU
  refine ⟨upW (0 < V e) s, ⟨hU.fin, hU⟩, fun w => ?_⟩
  have UX := Lib.hid (fun w => up_run s e R.fs R.fe w)
  have N1 := fun w => xneg' a ha w
  replace AX := Lib.hid AX
  unfold ffi at AX
  generalize upW (0 < V e) s = m at *
  generalize negW a = na at *
  have CB := Lib.hid (fun w => rscheck_run a b ha hb w)
  have C0 : Cls w [(w.heap.size, a, b)] (w.alloc (boxO a b)) := (Cls.nil w).new a b
  unfold boxO at C0
  unfold spanV at *
  replace C0 := Lib.hid C0
  rw [h0] at CB
  clear h0 f1 f2 le ha hb hU R hs hK
  go_enter Tryz.func33, Tryz.ntmps33
  go_wp2_with fail
  have C := C0.out
  clear C0
  generalize w.alloc _ = wr at *
  refine (CB.out wr).mono ?_
  rintro _ w1 ⟨rfl, hb1⟩
  have C1 := C.on hb1
  have c00 := (C1.at_ 0 rfl).lo
  have c01 := (C1.at_ 0 rfl).hi
  have B1 := Lib.hid C1.old
  clear C C1 hb1 CB
  go_wp2_with (first | (go_at_call 67; ((with_reducible refine (AX.out _).mono ?_); rintro e w' ⟨rfl, rfl⟩)) | (go_at_call 58; ((with_reducible refine (UX.out _).mono ?_); rintro e w' ⟨rfl, rfl⟩)))
  go_ret2
  exact ⟨rfl, B1.out⟩

set_option maxHeartbeats 2000000 in
theorem vpasses_run {a b : Nat} (ha : Ang a) (hb : Ang b) (k : Int) (hk : 0 ≤ k ∧ k < 4) (w : World) :
    Calls Tryz.prog 69 #[spanV a b, .int .i64 k] w fun e w' => e = .returned (.bool (passB a b k)) ∧ Below w.heap.size w w' := by
  obtain ⟨o1, f1, v1⟩ := four_x ha
  obtain ⟨o2, f2, v2⟩ := four_x hb
  have c := ceil_spec f1 (by rw [v1]; exact four_bd ha)
  rw [v1] at c
  have s1 := top_small ha
  have x1 : floatToIntVal .f64 (wholeW .up (mX fourW a)) .i64 = some (topN a) := to_int64 c.1 c.2 (by omega)
  have X1 := fun w => xconv x1 w
  have K1 := fun w => ceil_run f1 w
  have r1 := run_mul _ _ _ o1
  have r2 := run_mul _ _ _ o2
  have C0 : Cls w [(w.heap.size, a, b)] (w.alloc (boxO a b)) := (Cls.nil w).new a b
  have n0 : 0 ≤ (k - topN a) % 4 ∧ (k - topN a) % 4 < 4 := by omega
  obtain ⟨n1, n2⟩ := of_int (topN a + (k - topN a) % 4) (by omega)
  have t9 : (FloatKind.f64.format.order (FloatKind.f64.nearest (topN a + (k - topN a) % 4)) (mX fourW b) == some Ordering.lt || FloatKind.f64.format.order (FloatKind.f64.nearest (topN a + (k - topN a) % 4)) (mX fourW b) == some Ordering.eq) = passB a b k := by
    rw [le_words n1 f2, n2, v2]
    unfold passB botN
    rw [decide_eq_decide]
    exact (Int.le_ediv_iff_mul_le (Int.pow_pos (by omega))).symm
  have en : ∀ k, floatOfInt .f64 k = FloatKind.f64.nearest k := fun k => rfl
  have hA := @i64_and3
  unfold boxO at C0
  unfold spanV
  generalize passB a b k = pb at *
  have p0 := (C0.at_ 0 rfl).lo
  have p1 := (C0.at_ 0 rfl).hi
  have B := Lib.hid C0.old
  unfold fourW at *
  clear C0 ha hb o1 f1 v1 o2 f2 v2 c x1 n1 n2
  generalize wholeW .up (mX 4616189618054758400 a) = u1 at *
  generalize mX 4616189618054758400 a = m1 at *
  generalize mX 4616189618054758400 b = m2 at *
  generalize topN a = t1 at *
  generalize hj : (k - t1) % 4 = j at *
  replace t9 := Lib.hid t9
  replace hA := Lib.hid hA
  replace p1 := Lib.hid p1
  go_enter Tryz.func69, Tryz.ntmps69
  go_wp2_with (go_at_call 92; ((with_reducible refine (K1 _).mono ?_); rintro e w' ⟨rfl, rfl⟩))
  generalize w.alloc _ = wq at *
  go_loopw [5] (fun s5 wr => wr = wq ∧ ∃ (i : Nat), (i : Int) ≤ j ∧ s5 = .int .i64 (t1 + (i : Int))) (fun s5 _ => (t1 + j - intOf s5).toNat)
  case atStart => exact ⟨rfl, 0, by omega, by simp⟩
  case round =>
    obtain ⟨rfl, i, hi, rfl⟩ := hrel
    have a3 := hA.out (t1 + (i : Int))
    have p1 := p1.out
    by_cases hlt : (i : Int) < j
    · have w2 : IntKind.i64.wrap (t1 + (i : Int) + 1) = t1 + (i : Int) + 1 := by rw [IntKind.wrap_i64]; omega
      have q : ((t1 + (i : Int)) % 4 != k) = true := by rw [bne_iff_ne]; omega
      clear t9 hA
      go_wp2_with fail
      refine ⟨⟨by first | rfl | trivial, i + 1, by omega, by congr 1; omega⟩, by simp only [intOf]; omega⟩
    · have ej : (i : Int) = j := by omega
      have q : ((t1 + (i : Int)) % 4 != k) = false := by
        have : (t1 + (i : Int)) % 4 = k := by omega
        rw [this]; exact bne_self_eq_false k
      have t9 := t9.out
      rw [ej] at a3 q ⊢
      clear hA
      go_wp2_with (simp only)
      go_ret
      exact ⟨by first | rfl | trivial, B.out⟩

set_option maxHeartbeats 1000000 in
theorem vspread_run {x p q h u : Pr} {t1 t2 : Int} {b1 b2 : Bool} (KH : Hid (∀ w, Calls Tryz.prog 68 #[pv p, pv q] w fun e w' => e = .returned (spanE h.1 h.2 0) ∧ Below w.heap.size w w')) (hu : u = stP h b1 b2) (K1 : Hid (∀ w, Calls Tryz.prog 69 #[pv x, .int .i64 t1] w fun e w' => e = .returned (.bool b1) ∧ Below w.heap.size w w'))
    (K2 : Hid (∀ w, Calls Tryz.prog 69 #[pv x, .int .i64 t2] w fun e w' => e = .returned (.bool b2) ∧ Below w.heap.size w w')) (w : World) :
    Calls Tryz.prog 34 #[pv x, pv p, pv q, .int .i64 t1, .int .i64 t2] w fun e w' => e = .returned (pv u) ∧ Below w.heap.size w w' := by
  obtain ⟨p1, p2⟩ := p
  obtain ⟨q1, q2⟩ := q
  obtain ⟨x1, x2⟩ := x
  obtain ⟨u1, u2⟩ := u
  obtain ⟨h1, h2⟩ := h
  unfold pv spanE spanV at *
  dsimp only at *
  have C0 : Cls w [(w.heap.size, x1, x2), (w.heap.size + 1, p1, p2), (w.heap.size + 1 + 1, q1, q2), (w.heap.size + 1 + 1 + 1, 0, 0)] ((((w.alloc (boxO x1 x2)).alloc (boxO p1 p2)).alloc (boxO q1 q2)).alloc (boxO 0 0)) := by
    have := ((((Cls.nil w).new x1 x2).new p1 p2).new q1 q2).new 0 0
    simp only [List.nil_append, List.cons_append] at this
    rw [show (w.alloc (boxO x1 x2)).heap.size = w.heap.size + 1 by simp, show ((w.alloc (boxO x1 x2)).alloc (boxO p1 p2)).heap.size = w.heap.size + 1 + 1 by simp, show (((w.alloc (boxO x1 x2)).alloc (boxO p1 p2)).alloc (boxO q1 q2)).heap.size = w.heap.size + 1 + 1 + 1 by simp] at this
    exact this
  have hst := @fstore
  unfold boxO at C0
  replace C0 := Lib.hid C0
  cases b1 <;> cases b2
  · obtain ⟨rfl, rfl⟩ : h1 = u1 ∧ h2 = u2 := ⟨(Prod.mk.inj hu).1.symm, (Prod.mk.inj hu).2.symm⟩
    clear hu
    go_enter Tryz.func34, Tryz.ntmps34
    go_wp2_with fail
    have C := C0.out
    clear C0
    generalize (((w.alloc _).alloc _).alloc _).alloc _ = wr at *
    refine (KH.out wr).mono ?_
    rintro _ w0 ⟨rfl, hb⟩
    have C1 := (C.on hb).new h1 h2
    simp only [List.cons_append, List.nil_append] at C1
    unfold boxO at C1
    have a0 := (C1.at_ 0 rfl).lo
    have a1 := (C1.at_ 0 rfl).hi
    replace C1 := Lib.hid C1
    clear C hb KH
    go_wp2_with fail
    have C := C1.out
    clear C1 a0 a1
    generalize w0.alloc _ = wr at *
    generalize w0.heap.size = g at *
    refine (K1.out wr).mono ?_
    rintro _ w1 ⟨rfl, hb⟩
    have C1 := C.on hb
    have a0 := (C1.at_ 4 rfl).lo
    have a1 := (C1.at_ 4 rfl).hi
    have a2 := (C1.at_ 4 rfl).f0
    have a3 := (C1.at_ 4 rfl).f1
    have b0 := (C1.at_ 0 rfl).lo
    have b1 := (C1.at_ 0 rfl).hi
    have C2 := C1
    replace C2 := Lib.hid C2
    clear C C1 hb K1
    go_wp2_with fail
    have C3 := C2.out
    clear a0 a1 a2 a3 b0 b1 C2
    refine (K2.out w1).mono ?_
    rintro _ w2 ⟨rfl, hb⟩
    have C4 := C3.on hb
    have a0 := (C4.at_ 4 rfl).lo
    have a1 := (C4.at_ 4 rfl).hi
    have a2 := (C4.at_ 4 rfl).f0
    have a3 := (C4.at_ 4 rfl).f1
    have r0 := (C4.at_ 3 rfl).lo
    have r1 := (C4.at_ 3 rfl).hi
    have r2 := (C4.at_ 3 rfl).f0
    have r3 := (C4.at_ 3 rfl).f1
    have C5 := C4
    have O := Lib.hid C5.old
    clear C3 C4 C5 hb K2
    go_wp2_with fail
    (try simp only [Exit.inBlock, Exit.then])
    refine bodyPost_ret (v := spanV h1 h2) ?_ rfl ⟨rfl, ?_⟩
    · rw [results_cell1 rfl]; unfold spanV; go_simp
    · exact (O.out.setCell (by show _ ≤ w.heap.size + 1 + 1 + 1; omega) _).setCell (by show _ ≤ w.heap.size + 1 + 1 + 1; omega) _
  · obtain ⟨rfl, rfl⟩ : 13830554455654793216 = u1 ∧ h2 = u2 := ⟨(Prod.mk.inj hu).1.symm, (Prod.mk.inj hu).2.symm⟩
    clear hu
    go_enter Tryz.func34, Tryz.ntmps34
    go_wp2_with fail
    have C := C0.out
    clear C0
    generalize (((w.alloc _).alloc _).alloc _).alloc _ = wr at *
    refine (KH.out wr).mono ?_
    rintro _ w0 ⟨rfl, hb⟩
    have C1 := (C.on hb).new h1 h2
    simp only [List.cons_append, List.nil_append] at C1
    unfold boxO at C1
    have a0 := (C1.at_ 0 rfl).lo
    have a1 := (C1.at_ 0 rfl).hi
    replace C1 := Lib.hid C1
    clear C hb KH
    go_wp2_with fail
    have C := C1.out
    clear C1 a0 a1
    generalize w0.alloc _ = wr at *
    generalize w0.heap.size = g at *
    refine (K1.out wr).mono ?_
    rintro _ w1 ⟨rfl, hb⟩
    have C1 := C.on hb
    have a0 := (C1.at_ 4 rfl).lo
    have a1 := (C1.at_ 4 rfl).hi
    have a2 := (C1.at_ 4 rfl).f0
    have a3 := (C1.at_ 4 rfl).f1
    have b0 := (C1.at_ 0 rfl).lo
    have b1 := (C1.at_ 0 rfl).hi
    have C2 := C1
    replace C2 := Lib.hid C2
    clear C C1 hb K1
    go_wp2_with fail
    have C3 := C2.out
    clear a0 a1 a2 a3 b0 b1 C2
    refine (K2.out w1).mono ?_
    rintro _ w2 ⟨rfl, hb⟩
    have C4 := C3.on hb
    have a0 := (C4.at_ 4 rfl).lo
    have a1 := (C4.at_ 4 rfl).hi
    have a2 := (C4.at_ 4 rfl).f0
    have a3 := (C4.at_ 4 rfl).f1
    have r0 := (C4.at_ 3 rfl).lo
    have r1 := (C4.at_ 3 rfl).hi
    have r2 := (C4.at_ 3 rfl).f0
    have r3 := (C4.at_ 3 rfl).f1
    have C5 := C4.put0 4 rfl 13830554455654793216
    simp only [List.set_cons_zero, List.set_cons_succ] at C5
    have a0' := (C5.at_ 4 rfl).lo
    have a1' := (C5.at_ 4 rfl).hi
    have r0' := (C5.at_ 3 rfl).lo
    have r1' := (C5.at_ 3 rfl).hi
    have r2' := (C5.at_ 3 rfl).f0
    have r3' := (C5.at_ 3 rfl).f1
    have O := Lib.hid C5.old
    clear C3 C4 C5 hb K2
    go_wp2_with fail
    (try simp only [Exit.inBlock, Exit.then])
    refine bodyPost_ret (v := spanV 13830554455654793216 h2) ?_ rfl ⟨rfl, ?_⟩
    · rw [results_cell1 rfl]; unfold spanV; go_simp
    · exact (O.out.setCell (by show _ ≤ w.heap.size + 1 + 1 + 1; omega) _).setCell (by show _ ≤ w.heap.size + 1 + 1 + 1; omega) _
  · obtain ⟨rfl, rfl⟩ : h1 = u1 ∧ 4607182418800017408 = u2 := ⟨(Prod.mk.inj hu).1.symm, (Prod.mk.inj hu).2.symm⟩
    clear hu
    go_enter Tryz.func34, Tryz.ntmps34
    go_wp2_with fail
    have C := C0.out
    clear C0
    generalize (((w.alloc _).alloc _).alloc _).alloc _ = wr at *
    refine (KH.out wr).mono ?_
    rintro _ w0 ⟨rfl, hb⟩
    have C1 := (C.on hb).new h1 h2
    simp only [List.cons_append, List.nil_append] at C1
    unfold boxO at C1
    have a0 := (C1.at_ 0 rfl).lo
    have a1 := (C1.at_ 0 rfl).hi
    replace C1 := Lib.hid C1
    clear C hb KH
    go_wp2_with fail
    have C := C1.out
    clear C1 a0 a1
    generalize w0.alloc _ = wr at *
    generalize w0.heap.size = g at *
    refine (K1.out wr).mono ?_
    rintro _ w1 ⟨rfl, hb⟩
    have C1 := C.on hb
    have a0 := (C1.at_ 4 rfl).lo
    have a1 := (C1.at_ 4 rfl).hi
    have a2 := (C1.at_ 4 rfl).f0
    have a3 := (C1.at_ 4 rfl).f1
    have b0 := (C1.at_ 0 rfl).lo
    have b1 := (C1.at_ 0 rfl).hi
    have C2 := C1.put1 4 rfl 4607182418800017408
    simp only [List.set_cons_zero, List.set_cons_succ] at C2
    have b0 := (C2.at_ 0 rfl).lo
    have b1 := (C2.at_ 0 rfl).hi
    replace C2 := Lib.hid C2
    clear C C1 hb K1
    go_wp2_with fail
    have C3 := C2.out
    clear a0 a1 a2 a3 b0 b1 C2
    generalize World.setCell _ _ _ = wq at *
    refine (K2.out wq).mono ?_
    rintro _ w2 ⟨rfl, hb⟩
    have C4 := C3.on hb
    have a0 := (C4.at_ 4 rfl).lo
    have a1 := (C4.at_ 4 rfl).hi
    have a2 := (C4.at_ 4 rfl).f0
    have a3 := (C4.at_ 4 rfl).f1
    have r0 := (C4.at_ 3 rfl).lo
    have r1 := (C4.at_ 3 rfl).hi
    have r2 := (C4.at_ 3 rfl).f0
    have r3 := (C4.at_ 3 rfl).f1
    have C5 := C4
    have O := Lib.hid C5.old
    clear C3 C4 C5 hb K2
    go_wp2_with fail
    (try simp only [Exit.inBlock, Exit.then])
    refine bodyPost_ret (v := spanV h1 4607182418800017408) ?_ rfl ⟨rfl, ?_⟩
    · rw [results_cell1 rfl]; unfold spanV; go_simp
    · exact (O.out.setCell (by show _ ≤ w.heap.size + 1 + 1 + 1; omega) _).setCell (by show _ ≤ w.heap.size + 1 + 1 + 1; omega) _
  · obtain ⟨rfl, rfl⟩ : 13830554455654793216 = u1 ∧ 4607182418800017408 = u2 := ⟨(Prod.mk.inj hu).1.symm, (Prod.mk.inj hu).2.symm⟩
    clear hu
    go_enter Tryz.func34, Tryz.ntmps34
    go_wp2_with fail
    have C := C0.out
    clear C0
    generalize (((w.alloc _).alloc _).alloc _).alloc _ = wr at *
    refine (KH.out wr).mono ?_
    rintro _ w0 ⟨rfl, hb⟩
    have C1 := (C.on hb).new h1 h2
    simp only [List.cons_append, List.nil_append] at C1
    unfold boxO at C1
    have a0 := (C1.at_ 0 rfl).lo
    have a1 := (C1.at_ 0 rfl).hi
    replace C1 := Lib.hid C1
    clear C hb KH
    go_wp2_with fail
    have C := C1.out
    clear C1 a0 a1
    generalize w0.alloc _ = wr at *
    generalize w0.heap.size = g at *
    refine (K1.out wr).mono ?_
    rintro _ w1 ⟨rfl, hb⟩
    have C1 := C.on hb
    have a0 := (C1.at_ 4 rfl).lo
    have a1 := (C1.at_ 4 rfl).hi
    have a2 := (C1.at_ 4 rfl).f0
    have a3 := (C1.at_ 4 rfl).f1
    have b0 := (C1.at_ 0 rfl).lo
    have b1 := (C1.at_ 0 rfl).hi
    have C2 := C1.put1 4 rfl 4607182418800017408
    simp only [List.set_cons_zero, List.set_cons_succ] at C2
    have b0 := (C2.at_ 0 rfl).lo
    have b1 := (C2.at_ 0 rfl).hi
    replace C2 := Lib.hid C2
    clear C C1 hb K1
    go_wp2_with fail
    have C3 := C2.out
    clear a0 a1 a2 a3 b0 b1 C2
    generalize World.setCell _ _ _ = wq at *
    refine (K2.out wq).mono ?_
    rintro _ w2 ⟨rfl, hb⟩
    have C4 := C3.on hb
    have a0 := (C4.at_ 4 rfl).lo
    have a1 := (C4.at_ 4 rfl).hi
    have a2 := (C4.at_ 4 rfl).f0
    have a3 := (C4.at_ 4 rfl).f1
    have r0 := (C4.at_ 3 rfl).lo
    have r1 := (C4.at_ 3 rfl).hi
    have r2 := (C4.at_ 3 rfl).f0
    have r3 := (C4.at_ 3 rfl).f1
    have C5 := C4.put0 4 rfl 13830554455654793216
    simp only [List.set_cons_zero, List.set_cons_succ] at C5
    have a0' := (C5.at_ 4 rfl).lo
    have a1' := (C5.at_ 4 rfl).hi
    have r0' := (C5.at_ 3 rfl).lo
    have r1' := (C5.at_ 3 rfl).hi
    have r2' := (C5.at_ 3 rfl).f0
    have r3' := (C5.at_ 3 rfl).f1
    have O := Lib.hid C5.old
    clear C3 C4 C5 hb K2
    go_wp2_with fail
    (try simp only [Exit.inBlock, Exit.then])
    refine bodyPost_ret (v := spanV 13830554455654793216 4607182418800017408) ?_ rfl ⟨rfl, ?_⟩
    · rw [results_cell1 rfl]; unfold spanV; go_simp
    · exact (O.out.setCell (by show _ ≤ w.heap.size + 1 + 1 + 1; omega) _).setCell (by show _ ≤ w.heap.size + 1 + 1 + 1; omega) _
end Go.Proofs.YtbhohpobpecepaaGreat

namespace Go.Proofs.YtbhohpobpecepaaGreat
open Go.ChangeShapes Go.WideShapes Go.ChangeAt Go.RowKit Ieee.Own

set_option maxHeartbeats 4000000 in
theorem vss17 {Z P : Pr} (hz : Z.1 < 18446744073709551616 ∧ Z.2 < 18446744073709551616) (hP : SerR Z sinW P) (w : World) : Calls Tryz.prog 23 #[pv Z, .int .i64 3, .int .i64 17] w fun e w' => e = .returned (pv P) ∧ Below w.heap.size w w' := by
  have F := Lib.hid (fun w => rfac_run w)
  obtain ⟨L0, hL⟩ : ∃ L, L = rfacL := ⟨_, rfl⟩
  have len : L0.length = 16 := by rw [hL]; rfl
  have lt : Hid (∀ i, L0.getD i 0 < 18446744073709551616) := by
    intro i
    rw [hL]
    by_cases h : i < 16
    · have : ∀ i, i < 16 → rfacL.getD i 0 < 18446744073709551616 := by decide
      exact this i h
    · rw [List.getD_eq_getElem?_getD, List.getElem?_eq_none (by show 16 ≤ i; omega)]; decide
  have step : Hid (∀ i, i < 8 → ∃ P1 M P2, SerR Z (sinW.drop (8 - i)) P1 ∧ MulR Z P1 M ∧ AddR (facS (L0.getD (15 - 2 * i) 0)) M P2 ∧ SerR Z (sinW.drop (7 - i)) P2) := by
    intro i hi
    obtain ⟨P1, M, P2, k1, k2, k3, k4⟩ := ser_back sinW P hP i hi
    have e : L0.getD (15 - 2 * i) 0 = sinW.getD (7 - i) 0 := by
      rw [hL]
      have : i = 0 ∨ i = 1 ∨ i = 2 ∨ i = 3 ∨ i = 4 ∨ i = 5 ∨ i = 6 ∨ i = 7 := by omega
      rcases this with rfl | rfl | rfl | rfl | rfl | rfl | rfl | rfl <;> rfl
    exact ⟨P1, M, P2, k1, k2, by rw [e]; exact k3, k4⟩
  have at0 : Hid (SerR Z (sinW.drop 0) P) := hP
  have at8 : Hid (SerR Z (sinW.drop 8) (0, 0)) := rfl
  have hsn := rfac_store L0 len
  have hfl : (flV L0).length = L0.length := flV_len L0
  rw [len] at hfl
  rw [← hL] at F
  have C0 : Cls w [(w.heap.size, Z.1, Z.2), (w.heap.size + 1, 0, 0)] ((w.alloc (boxO Z.1 Z.2)).alloc (boxO 0 0)) := by
    have := ((Cls.nil w).new Z.1 Z.2).new 0 0
    simp only [List.nil_append, List.cons_append] at this
    rw [show (w.alloc (boxO Z.1 Z.2)).heap.size = w.heap.size + 1 by simp] at this
    exact this
  have hst := @fstore
  generalize hW : sinW = W at *
  obtain ⟨z1, z2⟩ := Z
  dsimp only at *
  clear hL hW hP
  unfold boxO at C0
  have epz : pv (z1, z2) = .agg #[.float .f64 z1, .float .f64 z2] := rfl
  rw [epz]
  replace C0 := Lib.hid C0
  replace len := Lib.hid len
  replace hz := Lib.hid hz
  clear epz
  go_enter Tryz.func23, Tryz.ntmps23
  go_wp2_with fail
  have C := C0.out
  clear C0
  generalize (w.alloc _).alloc _ = wr at *
  refine (F.out wr).mono ?_
  rintro _ w1 ⟨rfl, hb1⟩
  have C1 := C.on hb1
  have ba : Below w1.heap.size w1 (w1.alloc (.cells (flV L0).toArray 68)) := (Below.refl _ w1).alloc (Nat.le_refl _) _
  have R : Arr (w1.alloc (.cells (flV L0).toArray 68)) w1.heap.size L0 := ⟨by simp, fun i hi => fl_at (range_alloc w1 (flV L0) 68) i hi⟩
  have gne : Hid (w1.heap.size ≠ (w1.alloc (.cells (flV L0).toArray 68)).heap.size) := by show _ ≠ _; simp
  have C2 := C1.on ba
  have C3 := C2.new 0 0
  have R3 := R.on ((Below.refl _ _).alloc (Nat.le_refl _) (boxO 0 0))
  unfold boxO at C3 R3
  simp only [List.cons_append, List.nil_append] at C3
  replace C3 := Lib.hid C3
  replace R3 := Lib.hid R3
  clear C C1 C2 R ba hb1 F
  go_wp2_with fail
  rw [show (w1.alloc (.cells (flV L0).toArray 68)).heap.size = w1.heap.size + 1 by simp] at C3
  clear gne hsn hfl hst
  generalize (w1.alloc _).alloc _ = wq at *
  generalize w1.heap.size = g at *
  go_loopw [9] (fun s9 wr => ∃ (i : Nat) (P1 : Pr), i ≤ 8 ∧ s9 = .int .i64 (17 - 2 * (i : Int)) ∧ SerR (z1, z2) (W.drop (8 - i)) P1 ∧ Cls w [(w.heap.size, z1, z2), (w.heap.size + 1, 0, 0), (g + 1, P1.1, P1.2)] wr ∧ Arr wr g L0) (fun s9 _ => (intOf s9).toNat)
  case atStart => exact ⟨0, (0, 0), by omega, rfl, at8.out, C3.out, R3.out⟩
  case round =>
    obtain ⟨i, P1, hi, rfl, hS, hC, hR⟩ := hrel
    by_cases hlt : i < 8
    · obtain ⟨P1', M, P2, k1, k2, k3, k4⟩ := step.out i hlt
      obtain rfl := hS.uniq k1
      have ha := lt.out (15 - 2 * i)
      have hk : 15 - 2 * i < L0.length := by have := len.out; omega
      have hp := ser_lt k1
      have hm := mul_lt k2
      have k4 := Lib.hid k4
      replace hC := Lib.hid hC
      replace hR := Lib.hid hR
      replace k2 := Lib.hid k2
      replace k3 := Lib.hid k3
      replace hp := Lib.hid hp
      replace hm := Lib.hid hm
      replace ha := Lib.hid ha
      replace hk := Lib.hid hk
      clear hS k1 step at0
      go_upto_region 6 with fail
      generalize hds : ([some 17, some 18, some 19, some 20, some 21, some 22, some 23, some 24, some 25, none] : List (Option Tmp)) = ds
      have hap : apartL ds = true := by rw [← hds]; decide
      have hds := hds.symm
      refine wp_region_sts [(w.heap.size, z1, z2), (w.heap.size + 1, 0, 0), (g + 1, P2.1, P2.2)] [⟨9, 2, g + 1, P2.1, P2.2⟩] [.int .i64 (17 - 2 * (i : Int)), .int .i64 (15 - 2 * (i : Int)), .pointer (some ⟨g, 15 - 2 * i, none⟩), .float .f64 (L0.getD (15 - 2 * i) 0), pv (facS (L0.getD (15 - 2 * i) 0)), pv (z1, z2), pv P1, pv M, pv P2, undef]
        ds (by kernel_rfl) (by rw [hds]; rfl) hap (by decide +kernel) (by decide +kernel) rfl hC.out ?hE2 ?hE3 ?hj ?hi ?his (fun W => Arr W g L0) hR.out.drew (fun _ _ A h => A.on h) ?hJs ?step ?store ?fin
      case hE2 =>
        intro j h
        have n0 : 2 ≠ j := h _ (List.mem_cons_self ..)
        rcases j with _ | _ | _ | j
        · rfl
        · rfl
        · exact absurd rfl n0
        · rfl
      case hE3 => intro st h; simp only [List.mem_cons, List.not_mem_nil, or_false] at h; rcases h with rfl <;> rfl
      case hj => intro st h; simp only [List.mem_cons, List.not_mem_nil, or_false] at h; rcases h with rfl <;> exact ⟨_, _, rfl⟩
      case hi => intro st h st' h' _; simp only [List.mem_cons, List.not_mem_nil, or_false] at h; rcases h with rfl; simp only [List.mem_cons, List.not_mem_nil, or_false] at h'; rcases h' with rfl; rfl
      case his => intro st h; simp only [List.mem_cons, List.not_mem_nil, or_false] at h; rcases h with rfl
                  · show 9 < 10; decide
      case hJs => intro st h W A; obtain rfl := List.mem_singleton.1 h; exact A.put (by show g ≠ g + 1; omega)
      case step =>
        intro L W i o ho hs hd hB hJ
        have hi : i < 10 := (Array.getElem?_eq_some_iff.1 ho).1
        have : i = 0 ∨ i = 1 ∨ i = 2 ∨ i = 3 ∨ i = 4 ∨ i = 5 ∨ i = 6 ∨ i = 7 ∨ i = 8 ∨ i = 9 := by omega
        rcases this with rfl | rfl | rfl | rfl | rfl | rfl | rfl | rfl | rfl | rfl
        · -- 0
          obtain rfl := Option.some.inj ho
          refine .value W ?_ (Below.refl _ _)
          generalize hA : (puts ds L _).eval = ρ
          have h0 : ρ (.tmp 9) = .int .i64 (17 - 2 * (i : Int)) := by rw [← hA]; exact (puts_old ds L _ (by rw [hds]; decide)).trans rfl
          exact ex_move W rfl h0
        · -- 1
          obtain rfl := Option.some.inj ho
          refine .value W ?_ (Below.refl _ _)
          generalize hA : (puts ds L _).eval = ρ
          have hc : ∀ v, ρ (.const v) = v := fun v => by rw [← hA]; rfl
          have h0 : ρ (.tmp 17) = .int .i64 (17 - 2 * (i : Int)) := by rw [← hA]; exact puts_get 0 ds L _ hap (by rw [hds]; rfl) (hd 0 (by decide +kernel)) (show 17 < 27 by decide)
          have e : IntKind.i64.wrap (17 - 2 * (i : Int) - 2) = 15 - 2 * (i : Int) := by rw [IntKind.wrap_i64]; omega
          unfold execOp
          go_simp
        · -- 2
          obtain rfl := Option.some.inj ho
          refine .value W ?_ (Below.refl _ _)
          generalize hA : (puts ds L _).eval = ρ
          have hc : ∀ v, ρ (.const v) = v := fun v => by rw [← hA]; rfl
          have h0 : ρ (.tmp 7) = .pointer (some ⟨g, 0, none⟩) := by rw [← hA]; exact (puts_old ds L _ (by rw [hds]; decide)).trans rfl
          have h1 : ρ (.tmp 18) = .int .i64 (15 - 2 * (i : Int)) := by rw [← hA]; exact puts_get 1 ds L _ hap (by rw [hds]; rfl) (hd 1 (by decide +kernel)) (show 18 < 27 by decide)
          have e1 : 2 * (i : Int) ≤ 15 := by omega
          have e2 : 15 - 2 * (i : Int) < 16 := by omega
          have e3 : (15 - 2 * (i : Int)).toNat = 15 - 2 * i := by omega
          unfold execOp
          go_simp
        · -- 3
          obtain rfl := Option.some.inj ho
          refine .value W ?_ (Below.refl _ _)
          generalize hA : (puts ds L _).eval = ρ
          have hc : ∀ v, ρ (.const v) = v := fun v => by rw [← hA]; rfl
          have h0 : ρ (.tmp 19) = .pointer (some ⟨g, 15 - 2 * i, none⟩) := by rw [← hA]; exact puts_get 2 ds L _ hap (by rw [hds]; rfl) (hd 2 (by decide +kernel)) (show 19 < 27 by decide)
          have c := hJ.at_ _ hk.out
          unfold execOp
          go_simp
        · -- 4
          obtain rfl := Option.some.inj ho
          refine .call 61 #[.float .f64 (L0.getD (15 - 2 * i) 0)] ?_ (vabout_run ha.out W)
          generalize hA : (puts ds L _).eval = ρ
          have hc : ∀ v, ρ (.const v) = v := fun v => by rw [← hA]; rfl
          have hg : ∀ g, ρ (.func g) = .func (.func g) #[] #[] := fun v => by rw [← hA]; rfl
          have h0 : ρ (.tmp 20) = .float .f64 (L0.getD (15 - 2 * i) 0) := by rw [← hA]; exact puts_get 3 ds L _ hap (by rw [hds]; rfl) (hd 3 (by decide +kernel)) (show 20 < 27 by decide)
          have hf := Tryz.func61
          unfold execOp
          go_simp
        · -- 5
          obtain rfl := Option.some.inj ho
          have b := hB 0 _ _ _ rfl (by
            intro st hst e
            simp only [List.mem_cons, List.not_mem_nil, or_false] at hst
            rcases hst with rfl
            · exact absurd e (show ¬ 2 = 0 by decide))
          refine .value W ?_ (Below.refl _ _)
          generalize hA : (puts ds L _).eval = ρ
          have h0 : ρ (.tmp 3) = .pointer (some ⟨w.heap.size, 0, none⟩) := by rw [← hA]; exact (puts_old ds L _ (by rw [hds]; decide)).trans rfl
          exact ex_loads rfl h0 b.lo b.hi
        · -- 6
          obtain rfl := Option.some.inj ho
          have b := hB 2 _ _ _ rfl (by
            intro st hst e
            simp only [List.mem_cons, List.not_mem_nil, or_false] at hst
            rcases hst with rfl
            · change needs _ _ 9 6 = true; decide +kernel)
          refine .value W ?_ (Below.refl _ _)
          generalize hA : (puts ds L _).eval = ρ
          have h0 : ρ (.tmp 8) = .pointer (some ⟨g + 1, 0, none⟩) := by rw [← hA]; exact (puts_old ds L _ (by rw [hds]; decide)).trans rfl
          exact ex_loads rfl h0 b.lo b.hi
        · -- 7
          obtain rfl := Option.some.inj ho
          refine .call 19 #[pv (z1, z2), pv P1] ?_ (vmul_run hz.out.1 hz.out.2 hp.out.1 hp.out.2 k2.out W)
          generalize hA : (puts ds L _).eval = ρ
          have hc : ∀ v, ρ (.const v) = v := fun v => by rw [← hA]; rfl
          have hg : ∀ g, ρ (.func g) = .func (.func g) #[] #[] := fun v => by rw [← hA]; rfl
          have h0 : ρ (.tmp 22) = pv (z1, z2) := by rw [← hA]; exact puts_get 5 ds L _ hap (by rw [hds]; rfl) (hd 5 (by decide +kernel)) (show 22 < 27 by decide)
          have h1 : ρ (.tmp 23) = pv P1 := by rw [← hA]; exact puts_get 6 ds L _ hap (by rw [hds]; rfl) (hd 6 (by decide +kernel)) (show 23 < 27 by decide)
          have hf := Tryz.func19
          unfold execOp
          go_simp
        · -- 8
          obtain rfl := Option.some.inj ho
          refine .call 22 #[pv (facS (L0.getD (15 - 2 * i) 0)), pv M] ?_ (vadd_run (facS_lt ha.out).1 (facS_lt ha.out).2 hm.out.1 hm.out.2 k3.out W)
          generalize hA : (puts ds L _).eval = ρ
          have hc : ∀ v, ρ (.const v) = v := fun v => by rw [← hA]; rfl
          have hg : ∀ g, ρ (.func g) = .func (.func g) #[] #[] := fun v => by rw [← hA]; rfl
          have h0 : ρ (.tmp 21) = pv (facS (L0.getD (15 - 2 * i) 0)) := by rw [← hA]; exact puts_get 4 ds L _ hap (by rw [hds]; rfl) (hd 4 (by decide +kernel)) (show 21 < 27 by decide)
          have h1 : ρ (.tmp 24) = pv M := by rw [← hA]; exact puts_get 7 ds L _ hap (by rw [hds]; rfl) (hd 7 (by decide +kernel)) (show 24 < 27 by decide)
          have hf := Tryz.func22
          unfold execOp
          go_simp
        · -- 9
          exact absurd rfl (hs _ (List.mem_cons_self ..))
      case store =>
        intro st hst L W o x y ho hd b
        generalize hA : (puts ds L _).eval = ρ
        simp only [List.mem_cons, List.not_mem_nil, or_false] at hst
        rcases hst with rfl
        · dsimp only at ho b ⊢
          obtain rfl := Option.some.inj ho
          have h0 : ρ (.tmp 8) = .pointer (some ⟨g + 1, 0, none⟩) := by rw [← hA]; exact (puts_old ds L _ (by rw [hds]; decide)).trans rfl
          have h1 : ρ (.tmp 25) = pv P2 := by rw [← hA]; exact puts_get 8 ds L _ hap (by rw [hds]; rfl) (hd 8 (by decide +kernel)) (show 25 < 27 by decide)
          exact ⟨ex_store rfl h0 h1 b.lo b.hi b.f0 b.f1, rfl⟩
      case fin =>
        intro w' hC' hR'
        rw [hds]
        clear hds hap k2 k3 hp hm ha hk hR hC lt
        simp only [List.map_cons, List.map_nil, puts, Act.put, List.setIfInBounds_toArray, List.set_cons_zero, List.set_cons_succ]
        go_wp2_with fail
        have e8 : 8 - (i + 1) = 7 - i := by omega
        refine ⟨⟨i + 1, P2, by omega, by congr 1; omega, ?_, hC', hR'⟩, by simp only [intOf]; omega⟩
        rw [e8]; exact k4.out
    · obtain rfl : i = 8 := by omega
      obtain rfl := hS.uniq at0.out
      have c0 := (hC.at_ 2 rfl).lo
      have c1 := (hC.at_ 2 rfl).hi
      have d0 := (hC.at_ 1 rfl).lo
      have d1 := (hC.at_ 1 rfl).hi
      have f0 := (hC.at_ 1 rfl).f0
      have f1 := (hC.at_ 1 rfl).f1
      have B := Lib.hid hC.old
      have hst := @fstore
      obtain ⟨x1, x2⟩ := P1
      dsimp only at c0 c1
      clear hC hR hS at0 at8 step C3 R3
      go_wp2_with fail
      (try simp only [Exit.inBlock, Exit.then])
      refine bodyPost_ret (v := spanV x1 x2) ?_ rfl ⟨rfl, ?_⟩
      · rw [results_cell1 rfl]; unfold spanV; go_simp
      · exact (B.out.setCell (by show _ ≤ w.heap.size + 1; omega) _).setCell (by show _ ≤ w.heap.size + 1; omega) _
set_option maxHeartbeats 4000000 in
theorem vss16 {Z P : Pr} (hz : Z.1 < 18446744073709551616 ∧ Z.2 < 18446744073709551616) (hP : SerR Z cosW P) (w : World) : Calls Tryz.prog 23 #[pv Z, .int .i64 2, .int .i64 16] w fun e w' => e = .returned (pv P) ∧ Below w.heap.size w w' := by
  have F := Lib.hid (fun w => rfac_run w)
  obtain ⟨L0, hL⟩ : ∃ L, L = rfacL := ⟨_, rfl⟩
  have len : L0.length = 16 := by rw [hL]; rfl
  have lt : Hid (∀ i, L0.getD i 0 < 18446744073709551616) := by
    intro i
    rw [hL]
    by_cases h : i < 16
    · have : ∀ i, i < 16 → rfacL.getD i 0 < 18446744073709551616 := by decide
      exact this i h
    · rw [List.getD_eq_getElem?_getD, List.getElem?_eq_none (by show 16 ≤ i; omega)]; decide
  have step : Hid (∀ i, i < 8 → ∃ P1 M P2, SerR Z (cosW.drop (8 - i)) P1 ∧ MulR Z P1 M ∧ AddR (facS (L0.getD (14 - 2 * i) 0)) M P2 ∧ SerR Z (cosW.drop (7 - i)) P2) := by
    intro i hi
    obtain ⟨P1, M, P2, k1, k2, k3, k4⟩ := ser_back cosW P hP i hi
    have e : L0.getD (14 - 2 * i) 0 = cosW.getD (7 - i) 0 := by
      rw [hL]
      have : i = 0 ∨ i = 1 ∨ i = 2 ∨ i = 3 ∨ i = 4 ∨ i = 5 ∨ i = 6 ∨ i = 7 := by omega
      rcases this with rfl | rfl | rfl | rfl | rfl | rfl | rfl | rfl <;> rfl
    exact ⟨P1, M, P2, k1, k2, by rw [e]; exact k3, k4⟩
  have at0 : Hid (SerR Z (cosW.drop 0) P) := hP
  have at8 : Hid (SerR Z (cosW.drop 8) (0, 0)) := rfl
  have hsn := rfac_store L0 len
  have hfl : (flV L0).length = L0.length := flV_len L0
  rw [len] at hfl
  rw [← hL] at F
  have C0 : Cls w [(w.heap.size, Z.1, Z.2), (w.heap.size + 1, 0, 0)] ((w.alloc (boxO Z.1 Z.2)).alloc (boxO 0 0)) := by
    have := ((Cls.nil w).new Z.1 Z.2).new 0 0
    simp only [List.nil_append, List.cons_append] at this
    rw [show (w.alloc (boxO Z.1 Z.2)).heap.size = w.heap.size + 1 by simp] at this
    exact this
  have hst := @fstore
  generalize hW : cosW = W at *
  obtain ⟨z1, z2⟩ := Z
  dsimp only at *
  clear hL hW hP
  unfold boxO at C0
  have epz : pv (z1, z2) = .agg #[.float .f64 z1, .float .f64 z2] := rfl
  rw [epz]
  replace C0 := Lib.hid C0
  replace len := Lib.hid len
  replace hz := Lib.hid hz
  clear epz
  go_enter Tryz.func23, Tryz.ntmps23
  go_wp2_with fail
  have C := C0.out
  clear C0
  generalize (w.alloc _).alloc _ = wr at *
  refine (F.out wr).mono ?_
  rintro _ w1 ⟨rfl, hb1⟩
  have C1 := C.on hb1
  have ba : Below w1.heap.size w1 (w1.alloc (.cells (flV L0).toArray 68)) := (Below.refl _ w1).alloc (Nat.le_refl _) _
  have R : Arr (w1.alloc (.cells (flV L0).toArray 68)) w1.heap.size L0 := ⟨by simp, fun i hi => fl_at (range_alloc w1 (flV L0) 68) i hi⟩
  have gne : Hid (w1.heap.size ≠ (w1.alloc (.cells (flV L0).toArray 68)).heap.size) := by show _ ≠ _; simp
  have C2 := C1.on ba
  have C3 := C2.new 0 0
  have R3 := R.on ((Below.refl _ _).alloc (Nat.le_refl _) (boxO 0 0))
  unfold boxO at C3 R3
  simp only [List.cons_append, List.nil_append] at C3
  replace C3 := Lib.hid C3
  replace R3 := Lib.hid R3
  clear C C1 C2 R ba hb1 F
  go_wp2_with fail
  rw [show (w1.alloc (.cells (flV L0).toArray 68)).heap.size = w1.heap.size + 1 by simp] at C3
  clear gne hsn hfl hst
  generalize (w1.alloc _).alloc _ = wq at *
  generalize w1.heap.size = g at *
  go_loopw [9] (fun s9 wr => ∃ (i : Nat) (P1 : Pr), i ≤ 8 ∧ s9 = .int .i64 (16 - 2 * (i : Int)) ∧ SerR (z1, z2) (W.drop (8 - i)) P1 ∧ Cls w [(w.heap.size, z1, z2), (w.heap.size + 1, 0, 0), (g + 1, P1.1, P1.2)] wr ∧ Arr wr g L0) (fun s9 _ => (intOf s9).toNat)
  case atStart => exact ⟨0, (0, 0), by omega, rfl, at8.out, C3.out, R3.out⟩
  case round =>
    obtain ⟨i, P1, hi, rfl, hS, hC, hR⟩ := hrel
    by_cases hlt : i < 8
    · obtain ⟨P1', M, P2, k1, k2, k3, k4⟩ := step.out i hlt
      obtain rfl := hS.uniq k1
      have ha := lt.out (14 - 2 * i)
      have hk : 14 - 2 * i < L0.length := by have := len.out; omega
      have hp := ser_lt k1
      have hm := mul_lt k2
      have k4 := Lib.hid k4
      replace hC := Lib.hid hC
      replace hR := Lib.hid hR
      replace k2 := Lib.hid k2
      replace k3 := Lib.hid k3
      replace hp := Lib.hid hp
      replace hm := Lib.hid hm
      replace ha := Lib.hid ha
      replace hk := Lib.hid hk
      clear hS k1 step at0
      go_upto_region 6 with fail
      generalize hds : ([some 17, some 18, some 19, some 20, some 21, some 22, some 23, some 24, some 25, none] : List (Option Tmp)) = ds
      have hap : apartL ds = true := by rw [← hds]; decide
      have hds := hds.symm
      refine wp_region_sts [(w.heap.size, z1, z2), (w.heap.size + 1, 0, 0), (g + 1, P2.1, P2.2)] [⟨9, 2, g + 1, P2.1, P2.2⟩] [.int .i64 (16 - 2 * (i : Int)), .int .i64 (14 - 2 * (i : Int)), .pointer (some ⟨g, 14 - 2 * i, none⟩), .float .f64 (L0.getD (14 - 2 * i) 0), pv (facS (L0.getD (14 - 2 * i) 0)), pv (z1, z2), pv P1, pv M, pv P2, undef]
        ds (by kernel_rfl) (by rw [hds]; rfl) hap (by decide +kernel) (by decide +kernel) rfl hC.out ?hE2 ?hE3 ?hj ?hi ?his (fun W => Arr W g L0) hR.out.drew (fun _ _ A h => A.on h) ?hJs ?step ?store ?fin
      case hE2 =>
        intro j h
        have n0 : 2 ≠ j := h _ (List.mem_cons_self ..)
        rcases j with _ | _ | _ | j
        · rfl
        · rfl
        · exact absurd rfl n0
        · rfl
      case hE3 => intro st h; simp only [List.mem_cons, List.not_mem_nil, or_false] at h; rcases h with rfl <;> rfl
      case hj => intro st h; simp only [List.mem_cons, List.not_mem_nil, or_false] at h; rcases h with rfl <;> exact ⟨_, _, rfl⟩
      case hi => intro st h st' h' _; simp only [List.mem_cons, List.not_mem_nil, or_false] at h; rcases h with rfl; simp only [List.mem_cons, List.not_mem_nil, or_false] at h'; rcases h' with rfl; rfl
      case his => intro st h; simp only [List.mem_cons, List.not_mem_nil, or_false] at h; rcases h with rfl
                  · show 9 < 10; decide
      case hJs => intro st h W A; obtain rfl := List.mem_singleton.1 h; exact A.put (by show g ≠ g + 1; omega)
      case step =>
        intro L W i o ho hs hd hB hJ
        have hi : i < 10 := (Array.getElem?_eq_some_iff.1 ho).1
        have : i = 0 ∨ i = 1 ∨ i = 2 ∨ i = 3 ∨ i = 4 ∨ i = 5 ∨ i = 6 ∨ i = 7 ∨ i = 8 ∨ i = 9 := by omega
        rcases this with rfl | rfl | rfl | rfl | rfl | rfl | rfl | rfl | rfl | rfl
        · -- 0
          obtain rfl := Option.some.inj ho
          refine .value W ?_ (Below.refl _ _)
          generalize hA : (puts ds L _).eval = ρ
          have h0 : ρ (.tmp 9) = .int .i64 (16 - 2 * (i : Int)) := by rw [← hA]; exact (puts_old ds L _ (by rw [hds]; decide)).trans rfl
          exact ex_move W rfl h0
        · -- 1
          obtain rfl := Option.some.inj ho
          refine .value W ?_ (Below.refl _ _)
          generalize hA : (puts ds L _).eval = ρ
          have hc : ∀ v, ρ (.const v) = v := fun v => by rw [← hA]; rfl
          have h0 : ρ (.tmp 17) = .int .i64 (16 - 2 * (i : Int)) := by rw [← hA]; exact puts_get 0 ds L _ hap (by rw [hds]; rfl) (hd 0 (by decide +kernel)) (show 17 < 27 by decide)
          have e : IntKind.i64.wrap (16 - 2 * (i : Int) - 2) = 14 - 2 * (i : Int) := by rw [IntKind.wrap_i64]; omega
          unfold execOp
          go_simp
        · -- 2
          obtain rfl := Option.some.inj ho
          refine .value W ?_ (Below.refl _ _)
          generalize hA : (puts ds L _).eval = ρ
          have hc : ∀ v, ρ (.const v) = v := fun v => by rw [← hA]; rfl
          have h0 : ρ (.tmp 7) = .pointer (some ⟨g, 0, none⟩) := by rw [← hA]; exact (puts_old ds L _ (by rw [hds]; decide)).trans rfl
          have h1 : ρ (.tmp 18) = .int .i64 (14 - 2 * (i : Int)) := by rw [← hA]; exact puts_get 1 ds L _ hap (by rw [hds]; rfl) (hd 1 (by decide +kernel)) (show 18 < 27 by decide)
          have e1 : 2 * (i : Int) ≤ 14 := by omega
          have e2 : 14 - 2 * (i : Int) < 16 := by omega
          have e3 : (14 - 2 * (i : Int)).toNat = 14 - 2 * i := by omega
          unfold execOp
          go_simp
        · -- 3
          obtain rfl := Option.some.inj ho
          refine .value W ?_ (Below.refl _ _)
          generalize hA : (puts ds L _).eval = ρ
          have hc : ∀ v, ρ (.const v) = v := fun v => by rw [← hA]; rfl
          have h0 : ρ (.tmp 19) = .pointer (some ⟨g, 14 - 2 * i, none⟩) := by rw [← hA]; exact puts_get 2 ds L _ hap (by rw [hds]; rfl) (hd 2 (by decide +kernel)) (show 19 < 27 by decide)
          have c := hJ.at_ _ hk.out
          unfold execOp
          go_simp
        · -- 4
          obtain rfl := Option.some.inj ho
          refine .call 61 #[.float .f64 (L0.getD (14 - 2 * i) 0)] ?_ (vabout_run ha.out W)
          generalize hA : (puts ds L _).eval = ρ
          have hc : ∀ v, ρ (.const v) = v := fun v => by rw [← hA]; rfl
          have hg : ∀ g, ρ (.func g) = .func (.func g) #[] #[] := fun v => by rw [← hA]; rfl
          have h0 : ρ (.tmp 20) = .float .f64 (L0.getD (14 - 2 * i) 0) := by rw [← hA]; exact puts_get 3 ds L _ hap (by rw [hds]; rfl) (hd 3 (by decide +kernel)) (show 20 < 27 by decide)
          have hf := Tryz.func61
          unfold execOp
          go_simp
        · -- 5
          obtain rfl := Option.some.inj ho
          have b := hB 0 _ _ _ rfl (by
            intro st hst e
            simp only [List.mem_cons, List.not_mem_nil, or_false] at hst
            rcases hst with rfl
            · exact absurd e (show ¬ 2 = 0 by decide))
          refine .value W ?_ (Below.refl _ _)
          generalize hA : (puts ds L _).eval = ρ
          have h0 : ρ (.tmp 3) = .pointer (some ⟨w.heap.size, 0, none⟩) := by rw [← hA]; exact (puts_old ds L _ (by rw [hds]; decide)).trans rfl
          exact ex_loads rfl h0 b.lo b.hi
        · -- 6
          obtain rfl := Option.some.inj ho
          have b := hB 2 _ _ _ rfl (by
            intro st hst e
            simp only [List.mem_cons, List.not_mem_nil, or_false] at hst
            rcases hst with rfl
            · change needs _ _ 9 6 = true; decide +kernel)
          refine .value W ?_ (Below.refl _ _)
          generalize hA : (puts ds L _).eval = ρ
          have h0 : ρ (.tmp 8) = .pointer (some ⟨g + 1, 0, none⟩) := by rw [← hA]; exact (puts_old ds L _ (by rw [hds]; decide)).trans rfl
          exact ex_loads rfl h0 b.lo b.hi
        · -- 7
          obtain rfl := Option.some.inj ho
          refine .call 19 #[pv (z1, z2), pv P1] ?_ (vmul_run hz.out.1 hz.out.2 hp.out.1 hp.out.2 k2.out W)
          generalize hA : (puts ds L _).eval = ρ
          have hc : ∀ v, ρ (.const v) = v := fun v => by rw [← hA]; rfl
          have hg : ∀ g, ρ (.func g) = .func (.func g) #[] #[] := fun v => by rw [← hA]; rfl
          have h0 : ρ (.tmp 22) = pv (z1, z2) := by rw [← hA]; exact puts_get 5 ds L _ hap (by rw [hds]; rfl) (hd 5 (by decide +kernel)) (show 22 < 27 by decide)
          have h1 : ρ (.tmp 23) = pv P1 := by rw [← hA]; exact puts_get 6 ds L _ hap (by rw [hds]; rfl) (hd 6 (by decide +kernel)) (show 23 < 27 by decide)
          have hf := Tryz.func19
          unfold execOp
          go_simp
        · -- 8
          obtain rfl := Option.some.inj ho
          refine .call 22 #[pv (facS (L0.getD (14 - 2 * i) 0)), pv M] ?_ (vadd_run (facS_lt ha.out).1 (facS_lt ha.out).2 hm.out.1 hm.out.2 k3.out W)
          generalize hA : (puts ds L _).eval = ρ
          have hc : ∀ v, ρ (.const v) = v := fun v => by rw [← hA]; rfl
          have hg : ∀ g, ρ (.func g) = .func (.func g) #[] #[] := fun v => by rw [← hA]; rfl
          have h0 : ρ (.tmp 21) = pv (facS (L0.getD (14 - 2 * i) 0)) := by rw [← hA]; exact puts_get 4 ds L _ hap (by rw [hds]; rfl) (hd 4 (by decide +kernel)) (show 21 < 27 by decide)
          have h1 : ρ (.tmp 24) = pv M := by rw [← hA]; exact puts_get 7 ds L _ hap (by rw [hds]; rfl) (hd 7 (by decide +kernel)) (show 24 < 27 by decide)
          have hf := Tryz.func22
          unfold execOp
          go_simp
        · -- 9
          exact absurd rfl (hs _ (List.mem_cons_self ..))
      case store =>
        intro st hst L W o x y ho hd b
        generalize hA : (puts ds L _).eval = ρ
        simp only [List.mem_cons, List.not_mem_nil, or_false] at hst
        rcases hst with rfl
        · dsimp only at ho b ⊢
          obtain rfl := Option.some.inj ho
          have h0 : ρ (.tmp 8) = .pointer (some ⟨g + 1, 0, none⟩) := by rw [← hA]; exact (puts_old ds L _ (by rw [hds]; decide)).trans rfl
          have h1 : ρ (.tmp 25) = pv P2 := by rw [← hA]; exact puts_get 8 ds L _ hap (by rw [hds]; rfl) (hd 8 (by decide +kernel)) (show 25 < 27 by decide)
          exact ⟨ex_store rfl h0 h1 b.lo b.hi b.f0 b.f1, rfl⟩
      case fin =>
        intro w' hC' hR'
        rw [hds]
        clear hds hap k2 k3 hp hm ha hk hR hC lt
        simp only [List.map_cons, List.map_nil, puts, Act.put, List.setIfInBounds_toArray, List.set_cons_zero, List.set_cons_succ]
        go_wp2_with fail
        have e8 : 8 - (i + 1) = 7 - i := by omega
        refine ⟨⟨i + 1, P2, by omega, by congr 1; omega, ?_, hC', hR'⟩, by simp only [intOf]; omega⟩
        rw [e8]; exact k4.out
    · obtain rfl : i = 8 := by omega
      obtain rfl := hS.uniq at0.out
      have c0 := (hC.at_ 2 rfl).lo
      have c1 := (hC.at_ 2 rfl).hi
      have d0 := (hC.at_ 1 rfl).lo
      have d1 := (hC.at_ 1 rfl).hi
      have f0 := (hC.at_ 1 rfl).f0
      have f1 := (hC.at_ 1 rfl).f1
      have B := Lib.hid hC.old
      have hst := @fstore
      obtain ⟨x1, x2⟩ := P1
      dsimp only at c0 c1
      clear hC hR hS at0 at8 step C3 R3
      go_wp2_with fail
      (try simp only [Exit.inBlock, Exit.then])
      refine bodyPost_ret (v := spanV x1 x2) ?_ rfl ⟨rfl, ?_⟩
      · rw [results_cell1 rfl]; unfold spanV; go_simp
      · exact (B.out.setCell (by show _ ≤ w.heap.size + 1; omega) _).setCell (by show _ ≤ w.heap.size + 1; omega) _
end Go.Proofs.YtbhohpobpecepaaGreat

namespace Go.Proofs.YtbhohpobpecepaaGreat
open Go.ChangeShapes Go.WideShapes Go.ChangeAt Go.RowKit Ieee.Own

theorem pvE (p : Pr) : pv p = .agg #[.float .f64 p.1, .float .f64 p.2] := rfl
set_option maxHeartbeats 8000000 in
theorem vpoint_walk {x r : Nat} {k j : Int} {Y Z P1 M N W1 S P2 M2 W2 C nS nC P Q A1 A2 : Pr} (hr : r < 18446744073709551616) (U : Sur r Y Z P1 M N W1 S P2 M2 W2 C) (B : SurB Y Z P1 M N W1 S P2 M2 W2 C)
    (K1 : ∀ w, Calls Tryz.prog 17 #[.float .f64 x] w fun e w' => e = .returned (.int .i64 0) ∧ w = w')
    (K2 : ∀ w, Calls Tryz.prog 18 #[.float .f64 x] w fun e w' => e = .returned (.tuple #[.int .i64 k, .float .f64 r]) ∧ w = w')
    (KN : Hid (∀ w, Calls Tryz.prog 24 #[pv S] w fun e w' => e = .returned (spanE nS.1 nS.2 0) ∧ Below w.heap.size w w'))
    (KD : Hid (∀ w, Calls Tryz.prog 24 #[pv C] w fun e w' => e = .returned (spanE nC.1 nC.2 0) ∧ Below w.heap.size w w'))
    (a3 : bits .and .i64 k 3 = j) (hj : Hid (j = 0 ∨ j = 1 ∨ j = 2 ∨ j = 3)) (hP : Hid (P = qsP j S C nS nC)) (hQ : Hid (Q = qcP j S C nS nC))
    (K5 : Hid (∀ w, Calls Tryz.prog 25 #[pv P] w fun e w' => e = .returned (pv A1) ∧ Below w.heap.size w w'))
    (K6 : Hid (∀ w, Calls Tryz.prog 25 #[pv Q] w fun e w' => e = .returned (pv A2) ∧ Below w.heap.size w w')) (w : World) :
    Calls Tryz.prog 6 #[.float .f64 x] w fun e w' => e = .returned (ppi A1 A2 0) ∧ Below w.heap.size w w' := by
  have SM := Lib.hid (fun w => vmul_run (p := (r, r)) hr hr sn_tau.l1 sn_tau.l2 U.y w)
  have SZ := Lib.hid (fun w => (rsquare_run Y.1 Y.2 B.y.l1 B.y.l2 w).mono fun e w' h => (⟨OpAll.uniq h.1 U.z, h.2⟩ : e = .returned (spanE Z.1 Z.2 0) ∧ Below w.heap.size w w'))
  have KS := Lib.hid (fun w => vadd_run B.w.l1 B.w.l2 sn_epsS.l1 sn_epsS.l2 U.s w)
  have KC := Lib.hid (fun w => vadd_run B.w2.l1 B.w2.l2 sn_epsC.l1 sn_epsC.l2 U.c w)
  have NX := Lib.hid (fun w => rnext_any 4618760256179416344 (by decide) w)
  have C0 : Cls w [(w.heap.size, 0, 0), (w.heap.size + 1, 0, 0)] ((w.alloc (boxO 0 0)).alloc (boxO 0 0)) := by
    have := ((Cls.nil w).new 0 0).new 0 0
    simp only [List.nil_append, List.cons_append] at this
    rw [show (w.alloc (boxO 0 0)).heap.size = w.heap.size + 1 by simp] at this
    exact this
  have hst := @fstore
  have tauE : pv tauS = .agg #[.float .f64 4618760256179416344, .float .f64 (nextW 4618760256179416344)] := rfl
  have rE : pv (r, r) = .agg #[.float .f64 r, .float .f64 r] := rfl
  have eS : pv epsS = .agg #[.float .f64 13546827679130451968, .float .f64 4323455642275676160] := rfl
  have eC : pv epsC = .agg #[.float .f64 13569345677267304448, .float .f64 4345973640412528640] := rfl
  rw [tauE, rE, pvE Y] at SM
  rw [eS, pvE W1, pvE S] at KS
  rw [eC, pvE W2, pvE C] at KC
  unfold boxO at C0
  unfold spanE at SZ KN KD
  unfold spanV at SZ
  rw [pvE S] at KN
  rw [pvE C] at KD
  replace C0 := Lib.hid C0
  replace U := Lib.hid U
  replace B := Lib.hid B
  replace a3 := Lib.hid a3
  clear tauE rE hr eS eC
  generalize nextW 4618760256179416344 = tn at *
  go_enter Tryz.func6, Tryz.ntmps6
  go_wp2_with (first | (go_at_call 17; ((with_reducible refine (K1 _).mono ?_); rintro e w' ⟨rfl, rfl⟩)) | (go_at_call 18; ((with_reducible refine (K2 _).mono ?_); rintro e w' ⟨rfl, rfl⟩)) | (go_at_call 20; ((with_reducible refine (NX.out _).mono ?_); rintro e w' ⟨rfl, rfl⟩)))
  have C1 := C0.out
  clear C0 NX K1 K2
  generalize (w.alloc _).alloc _ = wr at *
  refine (SM.out wr).mono ?_
  rintro _ w1 ⟨rfl, hb⟩
  replace C1 := (C1.on hb).new Y.1 Y.2
  unfold boxO at C1
  simp only [List.cons_append, List.nil_append] at C1
  have d0 := (C1.at_ 2 rfl).lo
  have d1 := (C1.at_ 2 rfl).hi
  replace C1 := Lib.hid C1
  clear hb SM
  go_wp2_with fail
  have C1 := C1.out
  clear d0 d1
  generalize w1.alloc _ = wq at *
  generalize w1.heap.size = gy at *
  refine (SZ.out wq).mono ?_
  rintro _ w2 ⟨rfl, hb⟩
  replace C1 := (C1.on hb).new Z.1 Z.2
  unfold boxO at C1
  simp only [List.cons_append, List.nil_append] at C1
  replace C1 := Lib.hid C1
  clear hb SZ
  go_upto_region 7 with fail
  have C1 := C1.out
  generalize w2.alloc _ = wp at *
  generalize w2.heap.size = gz at *
  generalize hn : w.heap.size = n at *
  replace hn := Lib.hid hn
  have U := U.out
  have B := B.out
  generalize hds : ([some 40, some 41, some 42, some 43, some 44, some 45, some 46, some 47, some 11, none] : List (Option Tmp)) = ds
  have hap : apartL ds = true := by rw [← hds]; decide
  replace hds := hds.symm
  refine wp_region_var 8 9 W1.1 W1.2 [pv Y, pv Y, pv Z, pv Z, pv P1, pv M, pv N, pv W1, undef, undef]
    ds (by kernel_rfl) (by rw [hds]; rfl) hap (by decide +kernel) (by decide +kernel) rfl C1 (by decide +kernel) (by decide) (by decide) ?alloc ?step ?store ?fin
  case alloc => intro o ho; obtain rfl := Option.some.inj ho; rfl
  case step =>
    intro L W i o ho hia his hd hB
    have hi : i < 10 := (Array.getElem?_eq_some_iff.1 ho).1
    have : i = 0 ∨ i = 1 ∨ i = 2 ∨ i = 3 ∨ i = 4 ∨ i = 5 ∨ i = 6 ∨ i = 7 ∨ i = 8 ∨ i = 9 := by omega
    rcases this with rfl | rfl | rfl | rfl | rfl | rfl | rfl | rfl | rfl | rfl
    · -- 0
      obtain rfl := Option.some.inj ho
      have b := hB 2 _ _ _ rfl
      refine .value W ?_ (Below.refl _ _)
      generalize hA : (puts ds L _).eval = ρ
      have h0 : ρ (.tmp 8) = .pointer (some ⟨gy, 0, none⟩) := by rw [← hA]; exact (puts_old ds L _ (by rw [hds]; decide)).trans rfl
      exact ex_loads rfl h0 b.lo b.hi
    · -- 1
      obtain rfl := Option.some.inj ho
      have b := hB 2 _ _ _ rfl
      refine .value W ?_ (Below.refl _ _)
      generalize hA : (puts ds L _).eval = ρ
      have h0 : ρ (.tmp 8) = .pointer (some ⟨gy, 0, none⟩) := by rw [← hA]; exact (puts_old ds L _ (by rw [hds]; decide)).trans rfl
      exact ex_loads rfl h0 b.lo b.hi
    · -- 2
      obtain rfl := Option.some.inj ho
      have b := hB 3 _ _ _ rfl
      refine .value W ?_ (Below.refl _ _)
      generalize hA : (puts ds L _).eval = ρ
      have h0 : ρ (.tmp 9) = .pointer (some ⟨gz, 0, none⟩) := by rw [← hA]; exact (puts_old ds L _ (by rw [hds]; decide)).trans rfl
      exact ex_loads rfl h0 b.lo b.hi
    · -- 3
      obtain rfl := Option.some.inj ho
      have b := hB 3 _ _ _ rfl
      refine .value W ?_ (Below.refl _ _)
      generalize hA : (puts ds L _).eval = ρ
      have h0 : ρ (.tmp 9) = .pointer (some ⟨gz, 0, none⟩) := by rw [← hA]; exact (puts_old ds L _ (by rw [hds]; decide)).trans rfl
      exact ex_loads rfl h0 b.lo b.hi
    · -- 4
      obtain rfl := Option.some.inj ho
      refine .call 23 #[pv Z, .int .i64 3, .int .i64 17] ?_ (vss17 ⟨B.z.l1, B.z.l2⟩ U.p W)
      generalize hA : (puts ds L _).eval = ρ
      have hc : ∀ v, ρ (.const v) = v := fun v => by rw [← hA]; rfl
      have hg : ∀ g, ρ (.func g) = .func (.func g) #[] #[] := fun v => by rw [← hA]; rfl
      have h0 : ρ (.tmp 43) = pv Z := by rw [← hA]; exact puts_get 3 ds L _ hap (by rw [hds]; rfl) (hd 3 (by decide +kernel) (by decide)) (show 43 < 88 by decide)
      have hf := Tryz.func23
      unfold execOp
      go_simp
    · -- 5
      obtain rfl := Option.some.inj ho
      refine .call 19 #[pv Z, pv P1] ?_ (vmul_run B.z.l1 B.z.l2 B.p.l1 B.p.l2 U.m W)
      generalize hA : (puts ds L _).eval = ρ
      have hc : ∀ v, ρ (.const v) = v := fun v => by rw [← hA]; rfl
      have hg : ∀ g, ρ (.func g) = .func (.func g) #[] #[] := fun v => by rw [← hA]; rfl
      have h0 : ρ (.tmp 42) = pv Z := by rw [← hA]; exact puts_get 2 ds L _ hap (by rw [hds]; rfl) (hd 2 (by decide +kernel) (by decide)) (show 42 < 88 by decide)
      have h1 : ρ (.tmp 44) = pv P1 := by rw [← hA]; exact puts_get 4 ds L _ hap (by rw [hds]; rfl) (hd 4 (by decide +kernel) (by decide)) (show 44 < 88 by decide)
      have hf := Tryz.func19
      unfold execOp
      go_simp
    · -- 6
      obtain rfl := Option.some.inj ho
      refine .call 19 #[pv Y, pv M] ?_ (vmul_run B.y.l1 B.y.l2 B.m.l1 B.m.l2 U.n W)
      generalize hA : (puts ds L _).eval = ρ
      have hc : ∀ v, ρ (.const v) = v := fun v => by rw [← hA]; rfl
      have hg : ∀ g, ρ (.func g) = .func (.func g) #[] #[] := fun v => by rw [← hA]; rfl
      have h0 : ρ (.tmp 41) = pv Y := by rw [← hA]; exact puts_get 1 ds L _ hap (by rw [hds]; rfl) (hd 1 (by decide +kernel) (by decide)) (show 41 < 88 by decide)
      have h1 : ρ (.tmp 45) = pv M := by rw [← hA]; exact puts_get 5 ds L _ hap (by rw [hds]; rfl) (hd 5 (by decide +kernel) (by decide)) (show 45 < 88 by decide)
      have hf := Tryz.func19
      unfold execOp
      go_simp
    · -- 7
      obtain rfl := Option.some.inj ho
      refine .call 22 #[pv Y, pv N] ?_ (vadd_run B.y.l1 B.y.l2 B.n.l1 B.n.l2 U.w W)
      generalize hA : (puts ds L _).eval = ρ
      have hc : ∀ v, ρ (.const v) = v := fun v => by rw [← hA]; rfl
      have hg : ∀ g, ρ (.func g) = .func (.func g) #[] #[] := fun v => by rw [← hA]; rfl
      have h0 : ρ (.tmp 40) = pv Y := by rw [← hA]; exact puts_get 0 ds L _ hap (by rw [hds]; rfl) (hd 0 (by decide +kernel) (by decide)) (show 40 < 88 by decide)
      have h1 : ρ (.tmp 46) = pv N := by rw [← hA]; exact puts_get 6 ds L _ hap (by rw [hds]; rfl) (hd 6 (by decide +kernel) (by decide)) (show 46 < 88 by decide)
      have hf := Tryz.func22
      unfold execOp
      go_simp
    · -- 8
      exact absurd rfl hia
    · -- 9
      exact absurd rfl his
  case store =>
    intro L W o h x y ho hd hl b
    generalize hA : (puts ds L _).eval = ρ
    obtain rfl := Option.some.inj ho
    have h0 : ρ (.tmp 11) = .pointer (some ⟨h, 0, none⟩) := by rw [← hA]; exact puts_get 8 ds L _ hap (by rw [hds]; rfl) hl (show 11 < 88 by decide)
    have h1 : ρ (.tmp 47) = pv W1 := by rw [← hA]; exact puts_get 7 ds L _ hap (by rw [hds]; rfl) (hd 7 (by decide +kernel) (by decide)) (show 47 < 88 by decide)
    exact ⟨ex_store rfl h0 h1 b.lo b.hi b.f0 b.f1, rfl⟩
  case fin =>
    intro h3 w3 C3
    rw [hds]
    clear hds hap C1 ds
    simp only [List.cons_append, List.nil_append] at C3
    replace U := Lib.hid U
    replace B := Lib.hid B
    have d0 := (C3.at_ 4 rfl).lo
    have d1 := (C3.at_ 4 rfl).hi
    replace C3 := Lib.hid C3
    simp only [List.map_cons, List.map_nil, List.set_cons_zero, List.set_cons_succ, puts, Act.put, List.setIfInBounds_toArray]
    go_wp2_with fail
    clear d0 d1
    refine (KS.out w3).mono ?_
    rintro _ w4 ⟨rfl, hb⟩
    have C4 := C3.out.on hb
    have d0 := (C4.at_ 4 rfl).lo
    have d1 := (C4.at_ 4 rfl).hi
    have d2 := (C4.at_ 4 rfl).f0
    have d3 := (C4.at_ 4 rfl).f1
    have C5 := C4.put 4 rfl S.1 S.2
    simp only [List.set_cons_zero, List.set_cons_succ] at C5
    unfold put2 at C5
    replace C5 := Lib.hid C5
    clear C3 C4 hb KS
    go_upto_region 9 with fail
    have C5 := C5.out
    clear d0 d1 d2 d3
    generalize World.setCell _ _ _ = wp2 at *
    have U := U.out
    have B := B.out
    generalize hds : ([some 51, some 52, some 53, some 54, some 55, some 56, some 12, none] : List (Option Tmp)) = ds
    have hap : apartL ds = true := by rw [← hds]; decide
    replace hds := hds.symm
    refine wp_region_var 6 7 W2.1 W2.2 [pv oneS, pv Z, pv Z, pv P2, pv M2, pv W2, undef, undef]
      ds (by kernel_rfl) (by rw [hds]; rfl) hap (by decide +kernel) (by decide +kernel) rfl C5 (by decide +kernel) (by decide) (by decide) ?alloc ?step ?store ?fin
    case alloc => intro o ho; obtain rfl := Option.some.inj ho; rfl
    case step =>
      intro L W i o ho hia his hd hB
      have hi : i < 8 := (Array.getElem?_eq_some_iff.1 ho).1
      have : i = 0 ∨ i = 1 ∨ i = 2 ∨ i = 3 ∨ i = 4 ∨ i = 5 ∨ i = 6 ∨ i = 7 := by omega
      rcases this with rfl | rfl | rfl | rfl | rfl | rfl | rfl | rfl
      · -- 0
        obtain rfl := Option.some.inj ho
        refine .value W ?_ (Below.refl _ _)
        generalize hA : (puts ds L _).eval = ρ
        have hc : ∀ v, ρ (.const v) = v := fun v => by rw [← hA]; rfl
        unfold execOp
        go_simp
        rfl
      · -- 1
        obtain rfl := Option.some.inj ho
        have b := hB 3 _ _ _ rfl
        refine .value W ?_ (Below.refl _ _)
        generalize hA : (puts ds L _).eval = ρ
        have h0 : ρ (.tmp 9) = .pointer (some ⟨gz, 0, none⟩) := by rw [← hA]; exact (puts_old ds L _ (by rw [hds]; decide)).trans rfl
        exact ex_loads rfl h0 b.lo b.hi
      · -- 2
        obtain rfl := Option.some.inj ho
        have b := hB 3 _ _ _ rfl
        refine .value W ?_ (Below.refl _ _)
        generalize hA : (puts ds L _).eval = ρ
        have h0 : ρ (.tmp 9) = .pointer (some ⟨gz, 0, none⟩) := by rw [← hA]; exact (puts_old ds L _ (by rw [hds]; decide)).trans rfl
        exact ex_loads rfl h0 b.lo b.hi
      · -- 3
        obtain rfl := Option.some.inj ho
        refine .call 23 #[pv Z, .int .i64 2, .int .i64 16] ?_ (vss16 ⟨B.z.l1, B.z.l2⟩ U.p2 W)
        generalize hA : (puts ds L _).eval = ρ
        have hc : ∀ v, ρ (.const v) = v := fun v => by rw [← hA]; rfl
        have hg : ∀ g, ρ (.func g) = .func (.func g) #[] #[] := fun v => by rw [← hA]; rfl
        have h0 : ρ (.tmp 53) = pv Z := by rw [← hA]; exact puts_get 2 ds L _ hap (by rw [hds]; rfl) (hd 2 (by decide +kernel) (by decide)) (show 53 < 88 by decide)
        have hf := Tryz.func23
        unfold execOp
        go_simp
      · -- 4
        obtain rfl := Option.some.inj ho
        refine .call 19 #[pv Z, pv P2] ?_ (vmul_run B.z.l1 B.z.l2 B.p2.l1 B.p2.l2 U.m2 W)
        generalize hA : (puts ds L _).eval = ρ
        have hc : ∀ v, ρ (.const v) = v := fun v => by rw [← hA]; rfl
        have hg : ∀ g, ρ (.func g) = .func (.func g) #[] #[] := fun v => by rw [← hA]; rfl
        have h0 : ρ (.tmp 52) = pv Z := by rw [← hA]; exact puts_get 1 ds L _ hap (by rw [hds]; rfl) (hd 1 (by decide +kernel) (by decide)) (show 52 < 88 by decide)
        have h1 : ρ (.tmp 54) = pv P2 := by rw [← hA]; exact puts_get 3 ds L _ hap (by rw [hds]; rfl) (hd 3 (by decide +kernel) (by decide)) (show 54 < 88 by decide)
        have hf := Tryz.func19
        unfold execOp
        go_simp
      · -- 5
        obtain rfl := Option.some.inj ho
        refine .call 22 #[pv oneS, pv M2] ?_ (vadd_run sn_one.l1 sn_one.l2 B.m2.l1 B.m2.l2 U.w2 W)
        generalize hA : (puts ds L _).eval = ρ
        have hc : ∀ v, ρ (.const v) = v := fun v => by rw [← hA]; rfl
        have hg : ∀ g, ρ (.func g) = .func (.func g) #[] #[] := fun v => by rw [← hA]; rfl
        have h0 : ρ (.tmp 51) = pv oneS := by rw [← hA]; exact puts_get 0 ds L _ hap (by rw [hds]; rfl) (hd 0 (by decide +kernel) (by decide)) (show 51 < 88 by decide)
        have h1 : ρ (.tmp 55) = pv M2 := by rw [← hA]; exact puts_get 4 ds L _ hap (by rw [hds]; rfl) (hd 4 (by decide +kernel) (by decide)) (show 55 < 88 by decide)
        have hf := Tryz.func22
        unfold execOp
        go_simp
      · -- 6
        exact absurd rfl hia
      · -- 7
        exact absurd rfl his
    case store =>
      intro L W o h x y ho hd hl b
      generalize hA : (puts ds L _).eval = ρ
      obtain rfl := Option.some.inj ho
      have h0 : ρ (.tmp 12) = .pointer (some ⟨h, 0, none⟩) := by rw [← hA]; exact puts_get 6 ds L _ hap (by rw [hds]; rfl) hl (show 12 < 88 by decide)
      have h1 : ρ (.tmp 56) = pv W2 := by rw [← hA]; exact puts_get 5 ds L _ hap (by rw [hds]; rfl) (hd 5 (by decide +kernel) (by decide)) (show 56 < 88 by decide)
      exact ⟨ex_store rfl h0 h1 b.lo b.hi b.f0 b.f1, rfl⟩
    case fin =>
      intro h4 w5 C6
      rw [hds]
      clear hds hap C5 ds U B
      simp only [List.cons_append, List.nil_append] at C6
      have d0 := (C6.at_ 5 rfl).lo
      have d1 := (C6.at_ 5 rfl).hi
      replace C6 := Lib.hid C6
      simp only [List.map_cons, List.map_nil, List.set_cons_zero, List.set_cons_succ, puts, Act.put, List.setIfInBounds_toArray]
      go_wp2_with fail
      clear d0 d1
      refine (KC.out w5).mono ?_
      rintro _ w6 ⟨rfl, hb⟩
      have C7 := C6.out.on hb
      have d0 := (C7.at_ 5 rfl).lo
      have d1 := (C7.at_ 5 rfl).hi
      have d2 := (C7.at_ 5 rfl).f0
      have d3 := (C7.at_ 5 rfl).f1
      have C8 := C7.put 5 rfl C.1 C.2
      simp only [List.set_cons_zero, List.set_cons_succ] at C8
      unfold put2 at C8
      have b0 := (C8.at_ 4 rfl).lo
      have b1 := (C8.at_ 4 rfl).hi
      replace C8 := Lib.hid C8
      clear C6 C7 hb KC
      go_wp2_with fail
      have C8 := C8.out
      clear d0 d1 d2 d3 b0 b1
      generalize World.setCell _ _ _ = wp3 at *
      refine (KN.out wp3).mono ?_
      rintro _ w7 ⟨rfl, hb⟩
      replace C8 := (C8.on hb).new nS.1 nS.2
      unfold boxO at C8
      simp only [List.cons_append, List.nil_append] at C8
      have d0 := (C8.at_ 5 rfl).lo
      have d1 := (C8.at_ 5 rfl).hi
      replace C8 := Lib.hid C8
      clear hb KN
      go_wp2_with fail
      have C8 := C8.out
      clear d0 d1
      generalize w7.alloc _ = wp4 at *
      generalize w7.heap.size = g13 at *
      refine (KD.out wp4).mono ?_
      rintro _ w8 ⟨rfl, hb⟩
      replace C8 := (C8.on hb).new nC.1 nC.2
      unfold boxO at C8
      simp only [List.cons_append, List.nil_append] at C8
      replace C8 := Lib.hid C8
      clear hb KD
      have aa := a3.out
      clear a3
      rcases hj.out with rfl | rfl | rfl | rfl
      · obtain rfl : S = P := (by rw [hP.out]; simp [qsP])
        obtain rfl : C = Q := (by rw [hQ.out]; simp [qcP])
        clear hP hQ hj
        go_upto_region 20 with fail
        have C8 := C8.out
        generalize w8.alloc _ = wp5 at *
        generalize w8.heap.size = g15 at *
        generalize hds : ([some 84, some 85, some 86, some 87, none, none, some 4] : List (Option Tmp)) = ds
        have hap : apartL ds = true := by rw [← hds]; decide
        replace hds := hds.symm
        refine wp_region_sts [(n, A1.1, A1.2), (n + 1, A2.1, A2.2), (gy, Y.1, Y.2), (gz, Z.1, Z.2), (h3, S.1, S.2), (h4, C.1, C.2), (g13, nS.1, nS.2), (g15, nC.1, nC.2)] [⟨4, 0, n, A1.1, A1.2⟩, ⟨5, 1, n + 1, A2.1, A2.2⟩] [pv S, pv A1, pv C, pv A2, undef, undef, .int .i64 0]
          ds (by kernel_rfl) (by rw [hds]; rfl) hap (by decide +kernel) (by decide +kernel) rfl C8 ?hE2 ?hE3 ?hj ?hi ?his (fun _ => True) trivial (fun _ _ _ _ => trivial) (fun _ _ _ _ => trivial) ?step ?store ?fin
        case hE2 =>
          intro j h
          have n0 : 0 ≠ j := h _ (List.mem_cons_self ..)
          have n1 : 1 ≠ j := h _ (List.mem_cons_of_mem _ (List.mem_cons_self ..))
          rcases j with _ | _ | _ | _ | _ | _ | _ | _ | j
          · exact absurd rfl n0
          · exact absurd rfl n1
          · rfl
          · rfl
          · rfl
          · rfl
          · rfl
          · rfl
          · rfl
        case hE3 => intro st h; simp only [List.mem_cons, List.not_mem_nil, or_false] at h; rcases h with rfl | rfl <;> rfl
        case hj => intro st h; simp only [List.mem_cons, List.not_mem_nil, or_false] at h; rcases h with rfl | rfl <;> exact ⟨_, _, rfl⟩
        case hi =>
          intro st h st' h' e
          simp only [List.mem_cons, List.not_mem_nil, or_false] at h; rcases h with rfl | rfl <;> (simp only [List.mem_cons, List.not_mem_nil, or_false] at h'; rcases h' with rfl | rfl) <;> first | rfl | (exfalso; revert e; simp)
        case his => intro st h; simp only [List.mem_cons, List.not_mem_nil, or_false] at h; rcases h with rfl | rfl
                    · show 4 < 7; decide
                    · show 5 < 7; decide
        case step =>
          intro L W i o ho hs hd hB hJ
          have hi : i < 7 := (Array.getElem?_eq_some_iff.1 ho).1
          have : i = 0 ∨ i = 1 ∨ i = 2 ∨ i = 3 ∨ i = 4 ∨ i = 5 ∨ i = 6 := by omega
          rcases this with rfl | rfl | rfl | rfl | rfl | rfl | rfl
          · -- 0
            obtain rfl := Option.some.inj ho
            have b := hB 4 _ _ _ rfl (by
              intro st hst e
              simp only [List.mem_cons, List.not_mem_nil, or_false] at hst
              rcases hst with rfl | rfl
              · exact absurd e (show ¬ 0 = 4 by decide)
              · exact absurd e (show ¬ 1 = 4 by decide))
            refine .value W ?_ (Below.refl _ _)
            generalize hA : (puts ds L _).eval = ρ
            have h0 : ρ (.tmp 11) = .pointer (some ⟨h3, 0, none⟩) := by rw [← hA]; exact (puts_old ds L _ (by rw [hds]; decide)).trans rfl
            exact ex_loads rfl h0 b.lo b.hi
          · -- 1
            obtain rfl := Option.some.inj ho
            refine .call 25 #[pv S] ?_ (K5.out W)
            generalize hA : (puts ds L _).eval = ρ
            have hc : ∀ v, ρ (.const v) = v := fun v => by rw [← hA]; rfl
            have hg : ∀ g, ρ (.func g) = .func (.func g) #[] #[] := fun v => by rw [← hA]; rfl
            have h0 : ρ (.tmp 84) = pv S := by rw [← hA]; exact puts_get 0 ds L _ hap (by rw [hds]; rfl) (hd 0 (by decide +kernel)) (show 84 < 88 by decide)
            have hf := Tryz.func25
            unfold execOp
            go_simp
          · -- 2
            obtain rfl := Option.some.inj ho
            have b := hB 5 _ _ _ rfl (by
              intro st hst e
              simp only [List.mem_cons, List.not_mem_nil, or_false] at hst
              rcases hst with rfl | rfl
              · exact absurd e (show ¬ 0 = 5 by decide)
              · exact absurd e (show ¬ 1 = 5 by decide))
            refine .value W ?_ (Below.refl _ _)
            generalize hA : (puts ds L _).eval = ρ
            have h0 : ρ (.tmp 12) = .pointer (some ⟨h4, 0, none⟩) := by rw [← hA]; exact (puts_old ds L _ (by rw [hds]; decide)).trans rfl
            exact ex_loads rfl h0 b.lo b.hi
          · -- 3
            obtain rfl := Option.some.inj ho
            refine .call 25 #[pv C] ?_ (K6.out W)
            generalize hA : (puts ds L _).eval = ρ
            have hc : ∀ v, ρ (.const v) = v := fun v => by rw [← hA]; rfl
            have hg : ∀ g, ρ (.func g) = .func (.func g) #[] #[] := fun v => by rw [← hA]; rfl
            have h0 : ρ (.tmp 86) = pv C := by rw [← hA]; exact puts_get 2 ds L _ hap (by rw [hds]; rfl) (hd 2 (by decide +kernel)) (show 86 < 88 by decide)
            have hf := Tryz.func25
            unfold execOp
            go_simp
          · -- 4
            exact absurd rfl (hs _ (List.mem_cons_self ..))
          · -- 5
            exact absurd rfl (hs _ (List.mem_cons_of_mem _ (List.mem_cons_self ..)))
          · -- 6
            obtain rfl := Option.some.inj ho
            refine .value W ?_ (Below.refl _ _)
            generalize hA : (puts ds L _).eval = ρ
            have hc : ∀ v, ρ (.const v) = v := fun v => by rw [← hA]; rfl
            unfold execOp
            go_simp
        case store =>
          intro st hst L W o x y ho hd b
          generalize hA : (puts ds L _).eval = ρ
          simp only [List.mem_cons, List.not_mem_nil, or_false] at hst
          rcases hst with rfl | rfl
          · dsimp only at ho b ⊢
            obtain rfl := Option.some.inj ho
            have h0 : ρ (.tmp 2) = .pointer (some ⟨n, 0, none⟩) := by rw [← hA]; exact (puts_old ds L _ (by rw [hds]; decide)).trans rfl
            have h1 : ρ (.tmp 85) = pv A1 := by rw [← hA]; exact puts_get 1 ds L _ hap (by rw [hds]; rfl) (hd 1 (by decide +kernel)) (show 85 < 88 by decide)
            exact ⟨ex_store rfl h0 h1 b.lo b.hi b.f0 b.f1, rfl⟩
          · dsimp only at ho b ⊢
            obtain rfl := Option.some.inj ho
            have h0 : ρ (.tmp 3) = .pointer (some ⟨n + 1, 0, none⟩) := by rw [← hA]; exact (puts_old ds L _ (by rw [hds]; decide)).trans rfl
            have h1 : ρ (.tmp 87) = pv A2 := by rw [← hA]; exact puts_get 3 ds L _ hap (by rw [hds]; rfl) (hd 3 (by decide +kernel)) (show 87 < 88 by decide)
            exact ⟨ex_store rfl h0 h1 b.lo b.hi b.f0 b.f1, rfl⟩
        case fin =>
          intro w9 C9 _
          rw [hds]
          clear hds hap C8 ds K5 K6
          obtain ⟨u1, u2⟩ := A1
          obtain ⟨v1, v2⟩ := A2
          have l0 := (C9.at_ 0 rfl).lo
          have l1 := (C9.at_ 0 rfl).hi
          have m0 := (C9.at_ 1 rfl).lo
          have m1 := (C9.at_ 1 rfl).hi
          have O := Lib.hid C9.old
          dsimp only at l0 l1 m0 m1
          clear C9
          simp only [List.map_cons, List.map_nil, List.set_cons_zero, List.set_cons_succ, puts, Act.put, List.setIfInBounds_toArray]
          go_wp2_with fail
          (try simp only [Exit.inBlock, Exit.then])
          refine bodyPost_ret (v := .tuple #[spanV u1 u2, spanV v1 v2, .int .i64 0]) ?_ rfl ⟨rfl, ?_⟩
          · rw [results_cells2t rfl]; unfold spanV; go_simp
          · exact O.out
      · obtain rfl : C = P := (by rw [hP.out]; simp [qsP])
        obtain rfl : nS = Q := (by rw [hQ.out]; simp [qcP])
        clear hP hQ hj
        go_upto_region 15 with fail
        have C8 := C8.out
        generalize w8.alloc _ = wp5 at *
        generalize w8.heap.size = g15 at *
        generalize hds : ([some 74, some 75, none, none] : List (Option Tmp)) = ds
        have hap : apartL ds = true := by rw [← hds]; decide
        replace hds := hds.symm
        refine wp_region_sts [(n, 0, 0), (n + 1, 0, 0), (gy, Y.1, Y.2), (gz, Z.1, Z.2), (h3, C.1, C.2), (h4, nS.1, nS.2), (g13, nS.1, nS.2), (g15, nC.1, nC.2)] [⟨2, 4, h3, C.1, C.2⟩, ⟨3, 5, h4, nS.1, nS.2⟩] [pv C, pv nS, undef, undef]
          ds (by kernel_rfl) (by rw [hds]; rfl) hap (by decide +kernel) (by decide +kernel) rfl C8 ?hE2 ?hE3 ?hj ?hi ?his (fun _ => True) trivial (fun _ _ _ _ => trivial) (fun _ _ _ _ => trivial) ?step ?store ?fin
        case hE2 =>
          intro j h
          have n0 : 4 ≠ j := h _ (List.mem_cons_self ..)
          have n1 : 5 ≠ j := h _ (List.mem_cons_of_mem _ (List.mem_cons_self ..))
          rcases j with _ | _ | _ | _ | _ | _ | _ | _ | j
          · rfl
          · rfl
          · rfl
          · rfl
          · exact absurd rfl n0
          · exact absurd rfl n1
          · rfl
          · rfl
          · rfl
        case hE3 => intro st h; simp only [List.mem_cons, List.not_mem_nil, or_false] at h; rcases h with rfl | rfl <;> rfl
        case hj => intro st h; simp only [List.mem_cons, List.not_mem_nil, or_false] at h; rcases h with rfl | rfl <;> exact ⟨_, _, rfl⟩
        case hi =>
          intro st h st' h' e
          simp only [List.mem_cons, List.not_mem_nil, or_false] at h; rcases h with rfl | rfl <;> (simp only [List.mem_cons, List.not_mem_nil, or_false] at h'; rcases h' with rfl | rfl) <;> first | rfl | (exfalso; revert e; simp)
        case his => intro st h; simp only [List.mem_cons, List.not_mem_nil, or_false] at h; rcases h with rfl | rfl
                    · show 2 < 4; decide
                    · show 3 < 4; decide
        case step =>
          intro L W i o ho hs hd hB hJ
          have hi : i < 4 := (Array.getElem?_eq_some_iff.1 ho).1
          have : i = 0 ∨ i = 1 ∨ i = 2 ∨ i = 3 := by omega
          rcases this with rfl | rfl | rfl | rfl
          · -- 0
            obtain rfl := Option.some.inj ho
            have b := hB 5 _ _ _ rfl (by
              intro st hst e
              simp only [List.mem_cons, List.not_mem_nil, or_false] at hst
              rcases hst with rfl | rfl
              · exact absurd e (show ¬ 4 = 5 by decide)
              · change needs _ _ 3 0 = true; decide +kernel)
            refine .value W ?_ (Below.refl _ _)
            generalize hA : (puts ds L _).eval = ρ
            have h0 : ρ (.tmp 12) = .pointer (some ⟨h4, 0, none⟩) := by rw [← hA]; exact (puts_old ds L _ (by rw [hds]; decide)).trans rfl
            exact ex_loads rfl h0 b.lo b.hi
          · -- 1
            obtain rfl := Option.some.inj ho
            have b := hB 6 _ _ _ rfl (by
              intro st hst e
              simp only [List.mem_cons, List.not_mem_nil, or_false] at hst
              rcases hst with rfl | rfl
              · exact absurd e (show ¬ 4 = 6 by decide)
              · exact absurd e (show ¬ 5 = 6 by decide))
            refine .value W ?_ (Below.refl _ _)
            generalize hA : (puts ds L _).eval = ρ
            have h0 : ρ (.tmp 13) = .pointer (some ⟨g13, 0, none⟩) := by rw [← hA]; exact (puts_old ds L _ (by rw [hds]; decide)).trans rfl
            exact ex_loads rfl h0 b.lo b.hi
          · -- 2
            exact absurd rfl (hs _ (List.mem_cons_self ..))
          · -- 3
            exact absurd rfl (hs _ (List.mem_cons_of_mem _ (List.mem_cons_self ..)))
        case store =>
          intro st hst L W o x y ho hd b
          generalize hA : (puts ds L _).eval = ρ
          simp only [List.mem_cons, List.not_mem_nil, or_false] at hst
          rcases hst with rfl | rfl
          · dsimp only at ho b ⊢
            obtain rfl := Option.some.inj ho
            have h0 : ρ (.tmp 11) = .pointer (some ⟨h3, 0, none⟩) := by rw [← hA]; exact (puts_old ds L _ (by rw [hds]; decide)).trans rfl
            have h1 : ρ (.tmp 74) = pv C := by rw [← hA]; exact puts_get 0 ds L _ hap (by rw [hds]; rfl) (hd 0 (by decide +kernel)) (show 74 < 88 by decide)
            exact ⟨ex_store rfl h0 h1 b.lo b.hi b.f0 b.f1, rfl⟩
          · dsimp only at ho b ⊢
            obtain rfl := Option.some.inj ho
            have h0 : ρ (.tmp 12) = .pointer (some ⟨h4, 0, none⟩) := by rw [← hA]; exact (puts_old ds L _ (by rw [hds]; decide)).trans rfl
            have h1 : ρ (.tmp 75) = pv nS := by rw [← hA]; exact puts_get 1 ds L _ hap (by rw [hds]; rfl) (hd 1 (by decide +kernel)) (show 75 < 88 by decide)
            exact ⟨ex_store rfl h0 h1 b.lo b.hi b.f0 b.f1, rfl⟩
        case fin =>
          intro wa CA _
          rw [hds]
          clear hds hap C8 ds
          replace CA := Lib.hid CA
          simp only [List.map_cons, List.map_nil, List.set_cons_zero, List.set_cons_succ, puts, Act.put, List.setIfInBounds_toArray]
          go_upto_region 20 with fail
          have CA := CA.out
          generalize hds : ([some 84, some 85, some 86, some 87, none, none, some 4] : List (Option Tmp)) = ds
          have hap : apartL ds = true := by rw [← hds]; decide
          replace hds := hds.symm
          refine wp_region_sts [(n, A1.1, A1.2), (n + 1, A2.1, A2.2), (gy, Y.1, Y.2), (gz, Z.1, Z.2), (h3, C.1, C.2), (h4, nS.1, nS.2), (g13, nS.1, nS.2), (g15, nC.1, nC.2)] [⟨4, 0, n, A1.1, A1.2⟩, ⟨5, 1, n + 1, A2.1, A2.2⟩] [pv C, pv A1, pv nS, pv A2, undef, undef, .int .i64 0]
            ds (by kernel_rfl) (by rw [hds]; rfl) hap (by decide +kernel) (by decide +kernel) rfl CA ?hE2 ?hE3 ?hj ?hi ?his (fun _ => True) trivial (fun _ _ _ _ => trivial) (fun _ _ _ _ => trivial) ?step ?store ?fin
          case hE2 =>
            intro j h
            have n0 : 0 ≠ j := h _ (List.mem_cons_self ..)
            have n1 : 1 ≠ j := h _ (List.mem_cons_of_mem _ (List.mem_cons_self ..))
            rcases j with _ | _ | _ | _ | _ | _ | _ | _ | j
            · exact absurd rfl n0
            · exact absurd rfl n1
            · rfl
            · rfl
            · rfl
            · rfl
            · rfl
            · rfl
            · rfl
          case hE3 => intro st h; simp only [List.mem_cons, List.not_mem_nil, or_false] at h; rcases h with rfl | rfl <;> rfl
          case hj => intro st h; simp only [List.mem_cons, List.not_mem_nil, or_false] at h; rcases h with rfl | rfl <;> exact ⟨_, _, rfl⟩
          case hi =>
            intro st h st' h' e
            simp only [List.mem_cons, List.not_mem_nil, or_false] at h; rcases h with rfl | rfl <;> (simp only [List.mem_cons, List.not_mem_nil, or_false] at h'; rcases h' with rfl | rfl) <;> first | rfl | (exfalso; revert e; simp)
          case his => intro st h; simp only [List.mem_cons, List.not_mem_nil, or_false] at h; rcases h with rfl | rfl
                      · show 4 < 7; decide
                      · show 5 < 7; decide
          case step =>
            intro L W i o ho hs hd hB hJ
            have hi : i < 7 := (Array.getElem?_eq_some_iff.1 ho).1
            have : i = 0 ∨ i = 1 ∨ i = 2 ∨ i = 3 ∨ i = 4 ∨ i = 5 ∨ i = 6 := by omega
            rcases this with rfl | rfl | rfl | rfl | rfl | rfl | rfl
            · -- 0
              obtain rfl := Option.some.inj ho
              have b := hB 4 _ _ _ rfl (by
                intro st hst e
                simp only [List.mem_cons, List.not_mem_nil, or_false] at hst
                rcases hst with rfl | rfl
                · exact absurd e (show ¬ 0 = 4 by decide)
                · exact absurd e (show ¬ 1 = 4 by decide))
              refine .value W ?_ (Below.refl _ _)
              generalize hA : (puts ds L _).eval = ρ
              have h0 : ρ (.tmp 11) = .pointer (some ⟨h3, 0, none⟩) := by rw [← hA]; exact (puts_old ds L _ (by rw [hds]; decide)).trans rfl
              exact ex_loads rfl h0 b.lo b.hi
            · -- 1
              obtain rfl := Option.some.inj ho
              refine .call 25 #[pv C] ?_ (K5.out W)
              generalize hA : (puts ds L _).eval = ρ
              have hc : ∀ v, ρ (.const v) = v := fun v => by rw [← hA]; rfl
              have hg : ∀ g, ρ (.func g) = .func (.func g) #[] #[] := fun v => by rw [← hA]; rfl
              have h0 : ρ (.tmp 84) = pv C := by rw [← hA]; exact puts_get 0 ds L _ hap (by rw [hds]; rfl) (hd 0 (by decide +kernel)) (show 84 < 88 by decide)
              have hf := Tryz.func25
              unfold execOp
              go_simp
            · -- 2
              obtain rfl := Option.some.inj ho
              have b := hB 5 _ _ _ rfl (by
                intro st hst e
                simp only [List.mem_cons, List.not_mem_nil, or_false] at hst
                rcases hst with rfl | rfl
                · exact absurd e (show ¬ 0 = 5 by decide)
                · exact absurd e (show ¬ 1 = 5 by decide))
              refine .value W ?_ (Below.refl _ _)
              generalize hA : (puts ds L _).eval = ρ
              have h0 : ρ (.tmp 12) = .pointer (some ⟨h4, 0, none⟩) := by rw [← hA]; exact (puts_old ds L _ (by rw [hds]; decide)).trans rfl
              exact ex_loads rfl h0 b.lo b.hi
            · -- 3
              obtain rfl := Option.some.inj ho
              refine .call 25 #[pv nS] ?_ (K6.out W)
              generalize hA : (puts ds L _).eval = ρ
              have hc : ∀ v, ρ (.const v) = v := fun v => by rw [← hA]; rfl
              have hg : ∀ g, ρ (.func g) = .func (.func g) #[] #[] := fun v => by rw [← hA]; rfl
              have h0 : ρ (.tmp 86) = pv nS := by rw [← hA]; exact puts_get 2 ds L _ hap (by rw [hds]; rfl) (hd 2 (by decide +kernel)) (show 86 < 88 by decide)
              have hf := Tryz.func25
              unfold execOp
              go_simp
            · -- 4
              exact absurd rfl (hs _ (List.mem_cons_self ..))
            · -- 5
              exact absurd rfl (hs _ (List.mem_cons_of_mem _ (List.mem_cons_self ..)))
            · -- 6
              obtain rfl := Option.some.inj ho
              refine .value W ?_ (Below.refl _ _)
              generalize hA : (puts ds L _).eval = ρ
              have hc : ∀ v, ρ (.const v) = v := fun v => by rw [← hA]; rfl
              unfold execOp
              go_simp
          case store =>
            intro st hst L W o x y ho hd b
            generalize hA : (puts ds L _).eval = ρ
            simp only [List.mem_cons, List.not_mem_nil, or_false] at hst
            rcases hst with rfl | rfl
            · dsimp only at ho b ⊢
              obtain rfl := Option.some.inj ho
              have h0 : ρ (.tmp 2) = .pointer (some ⟨n, 0, none⟩) := by rw [← hA]; exact (puts_old ds L _ (by rw [hds]; decide)).trans rfl
              have h1 : ρ (.tmp 85) = pv A1 := by rw [← hA]; exact puts_get 1 ds L _ hap (by rw [hds]; rfl) (hd 1 (by decide +kernel)) (show 85 < 88 by decide)
              exact ⟨ex_store rfl h0 h1 b.lo b.hi b.f0 b.f1, rfl⟩
            · dsimp only at ho b ⊢
              obtain rfl := Option.some.inj ho
              have h0 : ρ (.tmp 3) = .pointer (some ⟨n + 1, 0, none⟩) := by rw [← hA]; exact (puts_old ds L _ (by rw [hds]; decide)).trans rfl
              have h1 : ρ (.tmp 87) = pv A2 := by rw [← hA]; exact puts_get 3 ds L _ hap (by rw [hds]; rfl) (hd 3 (by decide +kernel)) (show 87 < 88 by decide)
              exact ⟨ex_store rfl h0 h1 b.lo b.hi b.f0 b.f1, rfl⟩
          case fin =>
            intro w9 C9 _
            rw [hds]
            clear hds hap CA ds K5 K6
            obtain ⟨u1, u2⟩ := A1
            obtain ⟨v1, v2⟩ := A2
            have l0 := (C9.at_ 0 rfl).lo
            have l1 := (C9.at_ 0 rfl).hi
            have m0 := (C9.at_ 1 rfl).lo
            have m1 := (C9.at_ 1 rfl).hi
            have O := Lib.hid C9.old
            dsimp only at l0 l1 m0 m1
            clear C9
            simp only [List.map_cons, List.map_nil, List.set_cons_zero, List.set_cons_succ, puts, Act.put, List.setIfInBounds_toArray]
            go_wp2_with fail
            (try simp only [Exit.inBlock, Exit.then])
            refine bodyPost_ret (v := .tuple #[spanV u1 u2, spanV v1 v2, .int .i64 0]) ?_ rfl ⟨rfl, ?_⟩
            · rw [results_cells2t rfl]; unfold spanV; go_simp
            · exact O.out
      · obtain rfl : nS = P := (by rw [hP.out]; simp [qsP])
        obtain rfl : nC = Q := (by rw [hQ.out]; simp [qcP])
        clear hP hQ hj
        go_upto_region 17 with fail
        have C8 := C8.out
        generalize w8.alloc _ = wp5 at *
        generalize w8.heap.size = g15 at *
        generalize hds : ([some 78, some 79, none, none] : List (Option Tmp)) = ds
        have hap : apartL ds = true := by rw [← hds]; decide
        replace hds := hds.symm
        refine wp_region_sts [(n, 0, 0), (n + 1, 0, 0), (gy, Y.1, Y.2), (gz, Z.1, Z.2), (h3, nS.1, nS.2), (h4, nC.1, nC.2), (g13, nS.1, nS.2), (g15, nC.1, nC.2)] [⟨2, 4, h3, nS.1, nS.2⟩, ⟨3, 5, h4, nC.1, nC.2⟩] [pv nS, pv nC, undef, undef]
          ds (by kernel_rfl) (by rw [hds]; rfl) hap (by decide +kernel) (by decide +kernel) rfl C8 ?hE2 ?hE3 ?hj ?hi ?his (fun _ => True) trivial (fun _ _ _ _ => trivial) (fun _ _ _ _ => trivial) ?step ?store ?fin
        case hE2 =>
          intro j h
          have n0 : 4 ≠ j := h _ (List.mem_cons_self ..)
          have n1 : 5 ≠ j := h _ (List.mem_cons_of_mem _ (List.mem_cons_self ..))
          rcases j with _ | _ | _ | _ | _ | _ | _ | _ | j
          · rfl
          · rfl
          · rfl
          · rfl
          · exact absurd rfl n0
          · exact absurd rfl n1
          · rfl
          · rfl
          · rfl
        case hE3 => intro st h; simp only [List.mem_cons, List.not_mem_nil, or_false] at h; rcases h with rfl | rfl <;> rfl
        case hj => intro st h; simp only [List.mem_cons, List.not_mem_nil, or_false] at h; rcases h with rfl | rfl <;> exact ⟨_, _, rfl⟩
        case hi =>
          intro st h st' h' e
          simp only [List.mem_cons, List.not_mem_nil, or_false] at h; rcases h with rfl | rfl <;> (simp only [List.mem_cons, List.not_mem_nil, or_false] at h'; rcases h' with rfl | rfl) <;> first | rfl | (exfalso; revert e; simp)
        case his => intro st h; simp only [List.mem_cons, List.not_mem_nil, or_false] at h; rcases h with rfl | rfl
                    · show 2 < 4; decide
                    · show 3 < 4; decide
        case step =>
          intro L W i o ho hs hd hB hJ
          have hi : i < 4 := (Array.getElem?_eq_some_iff.1 ho).1
          have : i = 0 ∨ i = 1 ∨ i = 2 ∨ i = 3 := by omega
          rcases this with rfl | rfl | rfl | rfl
          · -- 0
            obtain rfl := Option.some.inj ho
            have b := hB 6 _ _ _ rfl (by
              intro st hst e
              simp only [List.mem_cons, List.not_mem_nil, or_false] at hst
              rcases hst with rfl | rfl
              · exact absurd e (show ¬ 4 = 6 by decide)
              · exact absurd e (show ¬ 5 = 6 by decide))
            refine .value W ?_ (Below.refl _ _)
            generalize hA : (puts ds L _).eval = ρ
            have h0 : ρ (.tmp 13) = .pointer (some ⟨g13, 0, none⟩) := by rw [← hA]; exact (puts_old ds L _ (by rw [hds]; decide)).trans rfl
            exact ex_loads rfl h0 b.lo b.hi
          · -- 1
            obtain rfl := Option.some.inj ho
            have b := hB 7 _ _ _ rfl (by
              intro st hst e
              simp only [List.mem_cons, List.not_mem_nil, or_false] at hst
              rcases hst with rfl | rfl
              · exact absurd e (show ¬ 4 = 7 by decide)
              · exact absurd e (show ¬ 5 = 7 by decide))
            refine .value W ?_ (Below.refl _ _)
            generalize hA : (puts ds L _).eval = ρ
            have h0 : ρ (.tmp 15) = .pointer (some ⟨g15, 0, none⟩) := by rw [← hA]; exact (puts_old ds L _ (by rw [hds]; decide)).trans rfl
            exact ex_loads rfl h0 b.lo b.hi
          · -- 2
            exact absurd rfl (hs _ (List.mem_cons_self ..))
          · -- 3
            exact absurd rfl (hs _ (List.mem_cons_of_mem _ (List.mem_cons_self ..)))
        case store =>
          intro st hst L W o x y ho hd b
          generalize hA : (puts ds L _).eval = ρ
          simp only [List.mem_cons, List.not_mem_nil, or_false] at hst
          rcases hst with rfl | rfl
          · dsimp only at ho b ⊢
            obtain rfl := Option.some.inj ho
            have h0 : ρ (.tmp 11) = .pointer (some ⟨h3, 0, none⟩) := by rw [← hA]; exact (puts_old ds L _ (by rw [hds]; decide)).trans rfl
            have h1 : ρ (.tmp 78) = pv nS := by rw [← hA]; exact puts_get 0 ds L _ hap (by rw [hds]; rfl) (hd 0 (by decide +kernel)) (show 78 < 88 by decide)
            exact ⟨ex_store rfl h0 h1 b.lo b.hi b.f0 b.f1, rfl⟩
          · dsimp only at ho b ⊢
            obtain rfl := Option.some.inj ho
            have h0 : ρ (.tmp 12) = .pointer (some ⟨h4, 0, none⟩) := by rw [← hA]; exact (puts_old ds L _ (by rw [hds]; decide)).trans rfl
            have h1 : ρ (.tmp 79) = pv nC := by rw [← hA]; exact puts_get 1 ds L _ hap (by rw [hds]; rfl) (hd 1 (by decide +kernel)) (show 79 < 88 by decide)
            exact ⟨ex_store rfl h0 h1 b.lo b.hi b.f0 b.f1, rfl⟩
        case fin =>
          intro wa CA _
          rw [hds]
          clear hds hap C8 ds
          replace CA := Lib.hid CA
          simp only [List.map_cons, List.map_nil, List.set_cons_zero, List.set_cons_succ, puts, Act.put, List.setIfInBounds_toArray]
          go_upto_region 20 with fail
          have CA := CA.out
          generalize hds : ([some 84, some 85, some 86, some 87, none, none, some 4] : List (Option Tmp)) = ds
          have hap : apartL ds = true := by rw [← hds]; decide
          replace hds := hds.symm
          refine wp_region_sts [(n, A1.1, A1.2), (n + 1, A2.1, A2.2), (gy, Y.1, Y.2), (gz, Z.1, Z.2), (h3, nS.1, nS.2), (h4, nC.1, nC.2), (g13, nS.1, nS.2), (g15, nC.1, nC.2)] [⟨4, 0, n, A1.1, A1.2⟩, ⟨5, 1, n + 1, A2.1, A2.2⟩] [pv nS, pv A1, pv nC, pv A2, undef, undef, .int .i64 0]
            ds (by kernel_rfl) (by rw [hds]; rfl) hap (by decide +kernel) (by decide +kernel) rfl CA ?hE2 ?hE3 ?hj ?hi ?his (fun _ => True) trivial (fun _ _ _ _ => trivial) (fun _ _ _ _ => trivial) ?step ?store ?fin
          case hE2 =>
            intro j h
            have n0 : 0 ≠ j := h _ (List.mem_cons_self ..)
            have n1 : 1 ≠ j := h _ (List.mem_cons_of_mem _ (List.mem_cons_self ..))
            rcases j with _ | _ | _ | _ | _ | _ | _ | _ | j
            · exact absurd rfl n0
            · exact absurd rfl n1
            · rfl
            · rfl
            · rfl
            · rfl
            · rfl
            · rfl
            · rfl
          case hE3 => intro st h; simp only [List.mem_cons, List.not_mem_nil, or_false] at h; rcases h with rfl | rfl <;> rfl
          case hj => intro st h; simp only [List.mem_cons, List.not_mem_nil, or_false] at h; rcases h with rfl | rfl <;> exact ⟨_, _, rfl⟩
          case hi =>
            intro st h st' h' e
            simp only [List.mem_cons, List.not_mem_nil, or_false] at h; rcases h with rfl | rfl <;> (simp only [List.mem_cons, List.not_mem_nil, or_false] at h'; rcases h' with rfl | rfl) <;> first | rfl | (exfalso; revert e; simp)
          case his => intro st h; simp only [List.mem_cons, List.not_mem_nil, or_false] at h; rcases h with rfl | rfl
                      · show 4 < 7; decide
                      · show 5 < 7; decide
          case step =>
            intro L W i o ho hs hd hB hJ
            have hi : i < 7 := (Array.getElem?_eq_some_iff.1 ho).1
            have : i = 0 ∨ i = 1 ∨ i = 2 ∨ i = 3 ∨ i = 4 ∨ i = 5 ∨ i = 6 := by omega
            rcases this with rfl | rfl | rfl | rfl | rfl | rfl | rfl
            · -- 0
              obtain rfl := Option.some.inj ho
              have b := hB 4 _ _ _ rfl (by
                intro st hst e
                simp only [List.mem_cons, List.not_mem_nil, or_false] at hst
                rcases hst with rfl | rfl
                · exact absurd e (show ¬ 0 = 4 by decide)
                · exact absurd e (show ¬ 1 = 4 by decide))
              refine .value W ?_ (Below.refl _ _)
              generalize hA : (puts ds L _).eval = ρ
              have h0 : ρ (.tmp 11) = .pointer (some ⟨h3, 0, none⟩) := by rw [← hA]; exact (puts_old ds L _ (by rw [hds]; decide)).trans rfl
              exact ex_loads rfl h0 b.lo b.hi
            · -- 1
              obtain rfl := Option.some.inj ho
              refine .call 25 #[pv nS] ?_ (K5.out W)
              generalize hA : (puts ds L _).eval = ρ
              have hc : ∀ v, ρ (.const v) = v := fun v => by rw [← hA]; rfl
              have hg : ∀ g, ρ (.func g) = .func (.func g) #[] #[] := fun v => by rw [← hA]; rfl
              have h0 : ρ (.tmp 84) = pv nS := by rw [← hA]; exact puts_get 0 ds L _ hap (by rw [hds]; rfl) (hd 0 (by decide +kernel)) (show 84 < 88 by decide)
              have hf := Tryz.func25
              unfold execOp
              go_simp
            · -- 2
              obtain rfl := Option.some.inj ho
              have b := hB 5 _ _ _ rfl (by
                intro st hst e
                simp only [List.mem_cons, List.not_mem_nil, or_false] at hst
                rcases hst with rfl | rfl
                · exact absurd e (show ¬ 0 = 5 by decide)
                · exact absurd e (show ¬ 1 = 5 by decide))
              refine .value W ?_ (Below.refl _ _)
              generalize hA : (puts ds L _).eval = ρ
              have h0 : ρ (.tmp 12) = .pointer (some ⟨h4, 0, none⟩) := by rw [← hA]; exact (puts_old ds L _ (by rw [hds]; decide)).trans rfl
              exact ex_loads rfl h0 b.lo b.hi
            · -- 3
              obtain rfl := Option.some.inj ho
              refine .call 25 #[pv nC] ?_ (K6.out W)
              generalize hA : (puts ds L _).eval = ρ
              have hc : ∀ v, ρ (.const v) = v := fun v => by rw [← hA]; rfl
              have hg : ∀ g, ρ (.func g) = .func (.func g) #[] #[] := fun v => by rw [← hA]; rfl
              have h0 : ρ (.tmp 86) = pv nC := by rw [← hA]; exact puts_get 2 ds L _ hap (by rw [hds]; rfl) (hd 2 (by decide +kernel)) (show 86 < 88 by decide)
              have hf := Tryz.func25
              unfold execOp
              go_simp
            · -- 4
              exact absurd rfl (hs _ (List.mem_cons_self ..))
            · -- 5
              exact absurd rfl (hs _ (List.mem_cons_of_mem _ (List.mem_cons_self ..)))
            · -- 6
              obtain rfl := Option.some.inj ho
              refine .value W ?_ (Below.refl _ _)
              generalize hA : (puts ds L _).eval = ρ
              have hc : ∀ v, ρ (.const v) = v := fun v => by rw [← hA]; rfl
              unfold execOp
              go_simp
          case store =>
            intro st hst L W o x y ho hd b
            generalize hA : (puts ds L _).eval = ρ
            simp only [List.mem_cons, List.not_mem_nil, or_false] at hst
            rcases hst with rfl | rfl
            · dsimp only at ho b ⊢
              obtain rfl := Option.some.inj ho
              have h0 : ρ (.tmp 2) = .pointer (some ⟨n, 0, none⟩) := by rw [← hA]; exact (puts_old ds L _ (by rw [hds]; decide)).trans rfl
              have h1 : ρ (.tmp 85) = pv A1 := by rw [← hA]; exact puts_get 1 ds L _ hap (by rw [hds]; rfl) (hd 1 (by decide +kernel)) (show 85 < 88 by decide)
              exact ⟨ex_store rfl h0 h1 b.lo b.hi b.f0 b.f1, rfl⟩
            · dsimp only at ho b ⊢
              obtain rfl := Option.some.inj ho
              have h0 : ρ (.tmp 3) = .pointer (some ⟨n + 1, 0, none⟩) := by rw [← hA]; exact (puts_old ds L _ (by rw [hds]; decide)).trans rfl
              have h1 : ρ (.tmp 87) = pv A2 := by rw [← hA]; exact puts_get 3 ds L _ hap (by rw [hds]; rfl) (hd 3 (by decide +kernel)) (show 87 < 88 by decide)
              exact ⟨ex_store rfl h0 h1 b.lo b.hi b.f0 b.f1, rfl⟩
          case fin =>
            intro w9 C9 _
            rw [hds]
            clear hds hap CA ds K5 K6
            obtain ⟨u1, u2⟩ := A1
            obtain ⟨v1, v2⟩ := A2
            have l0 := (C9.at_ 0 rfl).lo
            have l1 := (C9.at_ 0 rfl).hi
            have m0 := (C9.at_ 1 rfl).lo
            have m1 := (C9.at_ 1 rfl).hi
            have O := Lib.hid C9.old
            dsimp only at l0 l1 m0 m1
            clear C9
            simp only [List.map_cons, List.map_nil, List.set_cons_zero, List.set_cons_succ, puts, Act.put, List.setIfInBounds_toArray]
            go_wp2_with fail
            (try simp only [Exit.inBlock, Exit.then])
            refine bodyPost_ret (v := .tuple #[spanV u1 u2, spanV v1 v2, .int .i64 0]) ?_ rfl ⟨rfl, ?_⟩
            · rw [results_cells2t rfl]; unfold spanV; go_simp
            · exact O.out
      · obtain rfl : nC = P := (by rw [hP.out]; simp [qsP])
        obtain rfl : S = Q := (by rw [hQ.out]; simp [qcP])
        clear hP hQ hj
        have C8 := C8.out
        have d0 := (C8.at_ 7 rfl).lo
        have d1 := (C8.at_ 7 rfl).hi
        have b0 := (C8.at_ 4 rfl).lo
        have b1 := (C8.at_ 4 rfl).hi
        have b2 := (C8.at_ 4 rfl).f0
        have b3 := (C8.at_ 4 rfl).f1
        have CX := C8.put 4 rfl nC.1 nC.2
        simp only [List.set_cons_zero, List.set_cons_succ] at CX
        unfold put2 at CX
        have c0 := (CX.at_ 5 rfl).lo
        have c1 := (CX.at_ 5 rfl).hi
        have c2 := (CX.at_ 5 rfl).f0
        have c3 := (CX.at_ 5 rfl).f1
        have e0 := (C8.at_ 5 rfl).lo
        have e1 := (C8.at_ 5 rfl).hi
        have e2 := (C8.at_ 5 rfl).f0
        have e3 := (C8.at_ 5 rfl).f1
        have CA := CX.put 5 rfl S.1 S.2
        simp only [List.set_cons_zero, List.set_cons_succ] at CA
        unfold put2 at CA
        replace CA := Lib.hid CA
        clear CX C8
        go_upto_region 20 with fail
        have CA := CA.out
        clear d0 d1 b0 b1 b2 b3 c0 c1 c2 c3 e0 e1 e2 e3
        generalize World.setCell _ _ _ = wp5 at *
        generalize w8.heap.size = g15 at *
        generalize hds : ([some 84, some 85, some 86, some 87, none, none, some 4] : List (Option Tmp)) = ds
        have hap : apartL ds = true := by rw [← hds]; decide
        replace hds := hds.symm
        refine wp_region_sts [(n, A1.1, A1.2), (n + 1, A2.1, A2.2), (gy, Y.1, Y.2), (gz, Z.1, Z.2), (h3, nC.1, nC.2), (h4, S.1, S.2), (g13, nS.1, nS.2), (g15, nC.1, nC.2)] [⟨4, 0, n, A1.1, A1.2⟩, ⟨5, 1, n + 1, A2.1, A2.2⟩] [pv nC, pv A1, pv S, pv A2, undef, undef, .int .i64 0]
          ds (by kernel_rfl) (by rw [hds]; rfl) hap (by decide +kernel) (by decide +kernel) rfl CA ?hE2 ?hE3 ?hj ?hi ?his (fun _ => True) trivial (fun _ _ _ _ => trivial) (fun _ _ _ _ => trivial) ?step ?store ?fin
        case hE2 =>
          intro j h
          have n0 : 0 ≠ j := h _ (List.mem_cons_self ..)
          have n1 : 1 ≠ j := h _ (List.mem_cons_of_mem _ (List.mem_cons_self ..))
          rcases j with _ | _ | _ | _ | _ | _ | _ | _ | j
          · exact absurd rfl n0
          · exact absurd rfl n1
          · rfl
          · rfl
          · rfl
          · rfl
          · rfl
          · rfl
          · rfl
        case hE3 => intro st h; simp only [List.mem_cons, List.not_mem_nil, or_false] at h; rcases h with rfl | rfl <;> rfl
        case hj => intro st h; simp only [List.mem_cons, List.not_mem_nil, or_false] at h; rcases h with rfl | rfl <;> exact ⟨_, _, rfl⟩
        case hi =>
          intro st h st' h' e
          simp only [List.mem_cons, List.not_mem_nil, or_false] at h; rcases h with rfl | rfl <;> (simp only [List.mem_cons, List.not_mem_nil, or_false] at h'; rcases h' with rfl | rfl) <;> first | rfl | (exfalso; revert e; simp)
        case his => intro st h; simp only [List.mem_cons, List.not_mem_nil, or_false] at h; rcases h with rfl | rfl
                    · show 4 < 7; decide
                    · show 5 < 7; decide
        case step =>
          intro L W i o ho hs hd hB hJ
          have hi : i < 7 := (Array.getElem?_eq_some_iff.1 ho).1
          have : i = 0 ∨ i = 1 ∨ i = 2 ∨ i = 3 ∨ i = 4 ∨ i = 5 ∨ i = 6 := by omega
          rcases this with rfl | rfl | rfl | rfl | rfl | rfl | rfl
          · -- 0
            obtain rfl := Option.some.inj ho
            have b := hB 4 _ _ _ rfl (by
              intro st hst e
              simp only [List.mem_cons, List.not_mem_nil, or_false] at hst
              rcases hst with rfl | rfl
              · exact absurd e (show ¬ 0 = 4 by decide)
              · exact absurd e (show ¬ 1 = 4 by decide))
            refine .value W ?_ (Below.refl _ _)
            generalize hA : (puts ds L _).eval = ρ
            have h0 : ρ (.tmp 11) = .pointer (some ⟨h3, 0, none⟩) := by rw [← hA]; exact (puts_old ds L _ (by rw [hds]; decide)).trans rfl
            exact ex_loads rfl h0 b.lo b.hi
          · -- 1
            obtain rfl := Option.some.inj ho
            refine .call 25 #[pv nC] ?_ (K5.out W)
            generalize hA : (puts ds L _).eval = ρ
            have hc : ∀ v, ρ (.const v) = v := fun v => by rw [← hA]; rfl
            have hg : ∀ g, ρ (.func g) = .func (.func g) #[] #[] := fun v => by rw [← hA]; rfl
            have h0 : ρ (.tmp 84) = pv nC := by rw [← hA]; exact puts_get 0 ds L _ hap (by rw [hds]; rfl) (hd 0 (by decide +kernel)) (show 84 < 88 by decide)
            have hf := Tryz.func25
            unfold execOp
            go_simp
          · -- 2
            obtain rfl := Option.some.inj ho
            have b := hB 5 _ _ _ rfl (by
              intro st hst e
              simp only [List.mem_cons, List.not_mem_nil, or_false] at hst
              rcases hst with rfl | rfl
              · exact absurd e (show ¬ 0 = 5 by decide)
              · exact absurd e (show ¬ 1 = 5 by decide))
            refine .value W ?_ (Below.refl _ _)
            generalize hA : (puts ds L _).eval = ρ
            have h0 : ρ (.tmp 12) = .pointer (some ⟨h4, 0, none⟩) := by rw [← hA]; exact (puts_old ds L _ (by rw [hds]; decide)).trans rfl
            exact ex_loads rfl h0 b.lo b.hi
          · -- 3
            obtain rfl := Option.some.inj ho
            refine .call 25 #[pv S] ?_ (K6.out W)
            generalize hA : (puts ds L _).eval = ρ
            have hc : ∀ v, ρ (.const v) = v := fun v => by rw [← hA]; rfl
            have hg : ∀ g, ρ (.func g) = .func (.func g) #[] #[] := fun v => by rw [← hA]; rfl
            have h0 : ρ (.tmp 86) = pv S := by rw [← hA]; exact puts_get 2 ds L _ hap (by rw [hds]; rfl) (hd 2 (by decide +kernel)) (show 86 < 88 by decide)
            have hf := Tryz.func25
            unfold execOp
            go_simp
          · -- 4
            exact absurd rfl (hs _ (List.mem_cons_self ..))
          · -- 5
            exact absurd rfl (hs _ (List.mem_cons_of_mem _ (List.mem_cons_self ..)))
          · -- 6
            obtain rfl := Option.some.inj ho
            refine .value W ?_ (Below.refl _ _)
            generalize hA : (puts ds L _).eval = ρ
            have hc : ∀ v, ρ (.const v) = v := fun v => by rw [← hA]; rfl
            unfold execOp
            go_simp
        case store =>
          intro st hst L W o x y ho hd b
          generalize hA : (puts ds L _).eval = ρ
          simp only [List.mem_cons, List.not_mem_nil, or_false] at hst
          rcases hst with rfl | rfl
          · dsimp only at ho b ⊢
            obtain rfl := Option.some.inj ho
            have h0 : ρ (.tmp 2) = .pointer (some ⟨n, 0, none⟩) := by rw [← hA]; exact (puts_old ds L _ (by rw [hds]; decide)).trans rfl
            have h1 : ρ (.tmp 85) = pv A1 := by rw [← hA]; exact puts_get 1 ds L _ hap (by rw [hds]; rfl) (hd 1 (by decide +kernel)) (show 85 < 88 by decide)
            exact ⟨ex_store rfl h0 h1 b.lo b.hi b.f0 b.f1, rfl⟩
          · dsimp only at ho b ⊢
            obtain rfl := Option.some.inj ho
            have h0 : ρ (.tmp 3) = .pointer (some ⟨n + 1, 0, none⟩) := by rw [← hA]; exact (puts_old ds L _ (by rw [hds]; decide)).trans rfl
            have h1 : ρ (.tmp 87) = pv A2 := by rw [← hA]; exact puts_get 3 ds L _ hap (by rw [hds]; rfl) (hd 3 (by decide +kernel)) (show 87 < 88 by decide)
            exact ⟨ex_store rfl h0 h1 b.lo b.hi b.f0 b.f1, rfl⟩
        case fin =>
          intro w9 C9 _
          rw [hds]
          clear hds hap CA ds K5 K6
          obtain ⟨u1, u2⟩ := A1
          obtain ⟨v1, v2⟩ := A2
          have l0 := (C9.at_ 0 rfl).lo
          have l1 := (C9.at_ 0 rfl).hi
          have m0 := (C9.at_ 1 rfl).lo
          have m1 := (C9.at_ 1 rfl).hi
          have O := Lib.hid C9.old
          dsimp only at l0 l1 m0 m1
          clear C9
          simp only [List.map_cons, List.map_nil, List.set_cons_zero, List.set_cons_succ, puts, Act.put, List.setIfInBounds_toArray]
          go_wp2_with fail
          (try simp only [Exit.inBlock, Exit.then])
          refine bodyPost_ret (v := .tuple #[spanV u1 u2, spanV v1 v2, .int .i64 0]) ?_ rfl ⟨rfl, ?_⟩
          · rw [results_cells2t rfl]; unfold spanV; go_simp
          · exact O.out

theorem vpoint_ok {x : Nat} (hx : x < 18446744073709551616) (h0 : errA x = 0) : ∃ p q, PtH x p q ∧ ∀ w, Calls Tryz.prog 6 #[.float .f64 x] w fun e w' => e = .returned (ppi p q 0) ∧ Below w.heap.size w w' := by
  have h := errA_ang hx h0
  obtain ⟨r, R, K2⟩ := ruquarter_run h
  obtain ⟨Y, Z, P, M, N, W, S, P2, M2, W2, C, nS, nC, E⟩ := pt_ex hx h0 R
  have k4 : kq eig (V x) % 4 = 0 ∨ kq eig (V x) % 4 = 1 ∨ kq eig (V x) % 4 = 2 ∨ kq eig (V x) % 4 = 3 := by omega
  have s := qs_sn E.sn.s E.sn.c E.s1 E.s2 k4
  refine ⟨_, _, E.h, fun w => ?_⟩
  refine vpoint_walk (P := qsP (kq eig (V x) % 4) S C nS nC) (Q := qcP (kq eig (V x) % 4) S C nS nC) E.rest.fin.1 E.sur E.sn (fun w => h0 ▸ rucheck_run x hx w) K2
    (Lib.hid fun w => (rneg_run S.1 S.2 E.sn.s.l1 E.sn.s.l2 w).mono fun e w' h => ⟨h.1.all.uniq E.n1.all, h.2⟩)
    (Lib.hid fun w => (rneg_run C.1 C.2 E.sn.c.l1 E.sn.c.l2 w).mono fun e w' h => ⟨h.1.all.uniq E.n2.all, h.2⟩)
    (i64_and3 _) (Lib.hid k4) (Lib.hid rfl) (Lib.hid rfl) (Lib.hid fun w => vclip_run (sets_one s.1) rfl w) (Lib.hid fun w => vclip_run (sets_one s.2) rfl w) w
theorem vpoint_no {x : Nat} (hx : x < 18446744073709551616) (h0 : errA x ≠ 0) (w : World) : Calls Tryz.prog 6 #[.float .f64 x] w fun e w' => e = .returned (ppi (0, 0) (0, 0) 3) ∧ Below w.heap.size w w' := by
  have C1 := fun w => rucheck_run x hx w
  have e : errA x = 3 := by rcases errA_cases x with h | h <;> omega
  rw [e] at C1
  have hst := @fstore
  have B := Lib.hid (((Below.refl _ w).alloc (Nat.le_refl _) (boxO 0 0)).alloc (by simp) (boxO 0 0))
  have C0 : Cls w [(w.heap.size, 0, 0), (w.heap.size + 1, 0, 0)] ((w.alloc (boxO 0 0)).alloc (boxO 0 0)) := by
    have := ((Cls.nil w).new 0 0).new 0 0
    simp only [List.nil_append, List.cons_append] at this
    rw [show (w.alloc (boxO 0 0)).heap.size = w.heap.size + 1 by simp] at this
    exact this
  unfold boxO at B
  clear hx h0 e C0
  go_enter Tryz.func6, Tryz.ntmps6
  go_wp2_with (go_at_call 17; ((with_reducible refine (C1 _).mono ?_); rintro e w' ⟨rfl, rfl⟩))
  (try simp only [Exit.inBlock, Exit.then])
  refine bodyPost_ret (v := .tuple #[spanV 0 0, spanV 0 0, .int .i64 3]) ?_ rfl ⟨rfl, ?_⟩
  · rw [results_cells2t rfl]; unfold spanV; go_simp
  · exact B.out
theorem vpoint_run {x : Nat} (hx : x < 18446744073709551616) : ∃ p q k, PtRes x p q k ∧ ∀ w, Calls Tryz.prog 6 #[.float .f64 x] w fun e w' => e = .returned (ppi p q k) ∧ Below w.heap.size w w' := by
  by_cases h : errA x = 0
  · obtain ⟨p, q, T, C⟩ := vpoint_ok hx h
    exact ⟨p, q, 0, ⟨h.symm, fun _ => T, fun h => absurd rfl h⟩, C⟩
  · refine ⟨(0, 0), (0, 0), 3, ⟨?_, fun h => by omega, fun _ => ⟨rfl, rfl⟩⟩, fun w => vpoint_no hx h w⟩
    rcases errA_cases x with e | e <;> omega
theorem PtRes.uniq {x : Nat} {p q p' q' : Pr} {k l : Int} (h : PtRes x p q k) (j : PtRes x p' q' l) : p = p' ∧ q = q' ∧ k = l := by
  have e : k = l := by rw [h.err, j.err]
  subst e
  by_cases hk : k = 0
  · obtain ⟨a, b⟩ := (h.ok hk).rel.uniq (j.ok hk).rel
    exact ⟨a, b, rfl⟩
  · obtain ⟨rfl, rfl⟩ := h.no hk
    obtain ⟨rfl, rfl⟩ := j.no hk
    exact ⟨rfl, rfl, rfl⟩
end Go.Proofs.YtbhohpobpecepaaGreat

namespace Go.Proofs.YtbhohpobpecepaaGreat
open Go.ChangeShapes Go.WideShapes Go.ChangeAt Go.RowKit Ieee.Own

theorem vspans_no {Y : Pr} {k : Int} (hk : k ≠ 0) (K0 : Hid (∀ w, Calls Tryz.prog 32 #[pv Y] w fun e w' => e = .returned (.int .i64 k) ∧ Below w.heap.size w w')) (w : World) :
    Calls Tryz.prog 9 #[pv Y] w fun e w' => e = .returned (ppi (0, 0) (0, 0) k) ∧ Below w.heap.size w w' := by
  have tk : (k != 0) = true := by simpa using hk
  have C0 : Cls w [(w.heap.size, Y.1, Y.2), (w.heap.size + 1, 0, 0), (w.heap.size + 1 + 1, 0, 0)] (((w.alloc (boxO Y.1 Y.2)).alloc (boxO 0 0)).alloc (boxO 0 0)) := by
    have := (((Cls.nil w).new Y.1 Y.2).new 0 0).new 0 0
    simp only [List.nil_append, List.cons_append] at this
    rw [show (w.alloc (boxO Y.1 Y.2)).heap.size = w.heap.size + 1 by simp, show ((w.alloc (boxO Y.1 Y.2)).alloc (boxO 0 0)).heap.size = w.heap.size + 1 + 1 by simp] at this
    exact this
  have hst := @fstore
  have yE : pv Y = .agg #[.float .f64 Y.1, .float .f64 Y.2] := rfl
  unfold boxO at C0
  replace C0 := Lib.hid C0
  rw [yE] at K0 ⊢
  clear yE hk
  go_enter Tryz.func9, Tryz.ntmps9
  go_wp2_with fail
  have C := C0.out
  clear C0
  generalize ((w.alloc _).alloc _).alloc _ = wr at *
  refine (K0.out wr).mono ?_
  rintro _ w1 ⟨rfl, hb⟩
  have C1 := C.on hb
  have p0 := (C1.at_ 0 rfl).lo
  have p1 := (C1.at_ 0 rfl).hi
  have r0 := (C1.at_ 1 rfl).lo
  have r1 := (C1.at_ 1 rfl).hi
  have r2 := (C1.at_ 1 rfl).f0
  have r3 := (C1.at_ 1 rfl).f1
  have s0 := (C1.at_ 2 rfl).lo
  have s1 := (C1.at_ 2 rfl).hi
  have s2 := (C1.at_ 2 rfl).f0
  have s3 := (C1.at_ 2 rfl).f1
  replace C1 := Lib.hid C1
  clear C hb K0
  go_wp2_with fail
  (try simp only [Exit.inBlock, Exit.then])
  refine bodyPost_ret (v := .tuple #[spanV 0 0, spanV 0 0, .int .i64 k]) ?_ rfl ⟨rfl, ?_⟩
  · rw [results_cells2t rfl]; unfold spanV; go_simp
  · exact (((((C1.out).old).setCell (by show _ ≤ w.heap.size + 1; omega) _).setCell (by show _ ≤ w.heap.size + 1; omega) _).setCell (by show _ ≤ w.heap.size + 1 + 1; omega) _).setCell (by show _ ≤ w.heap.size + 1 + 1; omega) _

theorem vspans_low {Y : Pr} (t1 : (FloatKind.f64.format.order Y.1 14010698440749613056 == some Ordering.lt) = true) (K0 : Hid (∀ w, Calls Tryz.prog 32 #[pv Y] w fun e w' => e = .returned (.int .i64 0) ∧ Below w.heap.size w w')) (w : World) :
    Calls Tryz.prog 9 #[pv Y] w fun e w' => e = .returned (ppi (0, 0) (0, 0) 3) ∧ Below w.heap.size w w' := by
  have C0 : Cls w [(w.heap.size, Y.1, Y.2), (w.heap.size + 1, 0, 0), (w.heap.size + 1 + 1, 0, 0)] (((w.alloc (boxO Y.1 Y.2)).alloc (boxO 0 0)).alloc (boxO 0 0)) := by
    have := (((Cls.nil w).new Y.1 Y.2).new 0 0).new 0 0
    simp only [List.nil_append, List.cons_append] at this
    rw [show (w.alloc (boxO Y.1 Y.2)).heap.size = w.heap.size + 1 by simp, show ((w.alloc (boxO Y.1 Y.2)).alloc (boxO 0 0)).heap.size = w.heap.size + 1 + 1 by simp] at this
    exact this
  have hst := @fstore
  have yE : pv Y = .agg #[.float .f64 Y.1, .float .f64 Y.2] := rfl
  unfold boxO at C0
  replace C0 := Lib.hid C0
  rw [yE] at K0 ⊢
  clear yE
  go_enter Tryz.func9, Tryz.ntmps9
  go_wp2_with fail
  have C := C0.out
  clear C0
  generalize ((w.alloc _).alloc _).alloc _ = wr at *
  refine (K0.out wr).mono ?_
  rintro _ w1 ⟨rfl, hb⟩
  have C1 := C.on hb
  have p0 := (C1.at_ 0 rfl).lo
  have p1 := (C1.at_ 0 rfl).hi
  have r0 := (C1.at_ 1 rfl).lo
  have r1 := (C1.at_ 1 rfl).hi
  have r2 := (C1.at_ 1 rfl).f0
  have r3 := (C1.at_ 1 rfl).f1
  have s0 := (C1.at_ 2 rfl).lo
  have s1 := (C1.at_ 2 rfl).hi
  have s2 := (C1.at_ 2 rfl).f0
  have s3 := (C1.at_ 2 rfl).f1
  replace C1 := Lib.hid C1
  clear C hb K0
  go_wp2_with fail
  (try simp only [Exit.inBlock, Exit.then])
  refine bodyPost_ret (v := .tuple #[spanV 0 0, spanV 0 0, .int .i64 3]) ?_ rfl ⟨rfl, ?_⟩
  · rw [results_cells2t rfl]; unfold spanV; go_simp
  · exact (((((C1.out).old).setCell (by show _ ≤ w.heap.size + 1; omega) _).setCell (by show _ ≤ w.heap.size + 1; omega) _).setCell (by show _ ≤ w.heap.size + 1 + 1; omega) _).setCell (by show _ ≤ w.heap.size + 1 + 1; omega) _

theorem vspans_high {Y : Pr} (t1 : (FloatKind.f64.format.order Y.1 14010698440749613056 == some Ordering.lt) = false) (t2 : (FloatKind.f64.format.order Y.2 4787326403894837248 == some Ordering.gt) = true) (K0 : Hid (∀ w, Calls Tryz.prog 32 #[pv Y] w fun e w' => e = .returned (.int .i64 0) ∧ Below w.heap.size w w')) (w : World) :
    Calls Tryz.prog 9 #[pv Y] w fun e w' => e = .returned (ppi (0, 0) (0, 0) 3) ∧ Below w.heap.size w w' := by
  have C0 : Cls w [(w.heap.size, Y.1, Y.2), (w.heap.size + 1, 0, 0), (w.heap.size + 1 + 1, 0, 0)] (((w.alloc (boxO Y.1 Y.2)).alloc (boxO 0 0)).alloc (boxO 0 0)) := by
    have := (((Cls.nil w).new Y.1 Y.2).new 0 0).new 0 0
    simp only [List.nil_append, List.cons_append] at this
    rw [show (w.alloc (boxO Y.1 Y.2)).heap.size = w.heap.size + 1 by simp, show ((w.alloc (boxO Y.1 Y.2)).alloc (boxO 0 0)).heap.size = w.heap.size + 1 + 1 by simp] at this
    exact this
  have hst := @fstore
  have yE : pv Y = .agg #[.float .f64 Y.1, .float .f64 Y.2] := rfl
  unfold boxO at C0
  replace C0 := Lib.hid C0
  rw [yE] at K0 ⊢
  clear yE
  go_enter Tryz.func9, Tryz.ntmps9
  go_wp2_with fail
  have C := C0.out
  clear C0
  generalize ((w.alloc _).alloc _).alloc _ = wr at *
  refine (K0.out wr).mono ?_
  rintro _ w1 ⟨rfl, hb⟩
  have C1 := C.on hb
  have p0 := (C1.at_ 0 rfl).lo
  have p1 := (C1.at_ 0 rfl).hi
  have r0 := (C1.at_ 1 rfl).lo
  have r1 := (C1.at_ 1 rfl).hi
  have r2 := (C1.at_ 1 rfl).f0
  have r3 := (C1.at_ 1 rfl).f1
  have s0 := (C1.at_ 2 rfl).lo
  have s1 := (C1.at_ 2 rfl).hi
  have s2 := (C1.at_ 2 rfl).f0
  have s3 := (C1.at_ 2 rfl).f1
  replace C1 := Lib.hid C1
  clear C hb K0
  go_wp2_with fail
  (try simp only [Exit.inBlock, Exit.then])
  refine bodyPost_ret (v := .tuple #[spanV 0 0, spanV 0 0, .int .i64 3]) ?_ rfl ⟨rfl, ?_⟩
  · rw [results_cells2t rfl]; unfold spanV; go_simp
  · exact (((((C1.out).old).setCell (by show _ ≤ w.heap.size + 1; omega) _).setCell (by show _ ≤ w.heap.size + 1; omega) _).setCell (by show _ ≤ w.heap.size + 1 + 1; omega) _).setCell (by show _ ≤ w.heap.size + 1 + 1; omega) _

theorem vspans_wide {Y : Pr} {m : Nat} (t1 : (FloatKind.f64.format.order Y.1 14010698440749613056 == some Ordering.lt) = false) (t2 : (FloatKind.f64.format.order Y.2 4787326403894837248 == some Ordering.gt) = false) (tm : (FloatKind.f64.format.order m 4607182418800017408 == some Ordering.gt || FloatKind.f64.format.order m 4607182418800017408 == some Ordering.eq) = true) (K0 : Hid (∀ w, Calls Tryz.prog 32 #[pv Y] w fun e w' => e = .returned (.int .i64 0) ∧ Below w.heap.size w w')) (K1 : Hid (∀ w, Calls Tryz.prog 33 #[pv Y] w fun e w' => e = .returned (.tuple #[.float .f64 m, .int .i64 0]) ∧ Below w.heap.size w w')) (w : World) :
    Calls Tryz.prog 9 #[pv Y] w fun e w' => e = .returned (ppi (noneW, oneW) (noneW, oneW) 0) ∧ Below w.heap.size w w' := by
  have C0 : Cls w [(w.heap.size, Y.1, Y.2), (w.heap.size + 1, 0, 0), (w.heap.size + 1 + 1, 0, 0)] (((w.alloc (boxO Y.1 Y.2)).alloc (boxO 0 0)).alloc (boxO 0 0)) := by
    have := (((Cls.nil w).new Y.1 Y.2).new 0 0).new 0 0
    simp only [List.nil_append, List.cons_append] at this
    rw [show (w.alloc (boxO Y.1 Y.2)).heap.size = w.heap.size + 1 by simp, show ((w.alloc (boxO Y.1 Y.2)).alloc (boxO 0 0)).heap.size = w.heap.size + 1 + 1 by simp] at this
    exact this
  have hst := @fstore
  have yE : pv Y = .agg #[.float .f64 Y.1, .float .f64 Y.2] := rfl
  unfold boxO at C0
  replace C0 := Lib.hid C0
  rw [yE] at K0 K1 ⊢
  clear yE
  go_enter Tryz.func9, Tryz.ntmps9
  go_wp2_with fail
  have C := C0.out
  clear C0
  generalize ((w.alloc _).alloc _).alloc _ = wr at *
  refine (K0.out wr).mono ?_
  rintro _ w1 ⟨rfl, hb⟩
  have C1 := C.on hb
  have p0 := (C1.at_ 0 rfl).lo
  have p1 := (C1.at_ 0 rfl).hi
  have r0 := (C1.at_ 1 rfl).lo
  have r1 := (C1.at_ 1 rfl).hi
  have r2 := (C1.at_ 1 rfl).f0
  have r3 := (C1.at_ 1 rfl).f1
  have s0 := (C1.at_ 2 rfl).lo
  have s1 := (C1.at_ 2 rfl).hi
  have s2 := (C1.at_ 2 rfl).f0
  have s3 := (C1.at_ 2 rfl).f1
  replace C1 := Lib.hid C1
  clear C hb K0
  go_wp2_with fail
  clear p0 p1 r0 r1 r2 r3 s0 s1 s2 s3
  refine (K1.out w1).mono ?_
  rintro _ w2 ⟨rfl, hb⟩
  replace C1 := C1.out.on hb
  have p0 := (C1.at_ 0 rfl).lo
  have p1 := (C1.at_ 0 rfl).hi
  have r0 := (C1.at_ 1 rfl).lo
  have r1 := (C1.at_ 1 rfl).hi
  have r2 := (C1.at_ 1 rfl).f0
  have r3 := (C1.at_ 1 rfl).f1
  have s0 := (C1.at_ 2 rfl).lo
  have s1 := (C1.at_ 2 rfl).hi
  have s2 := (C1.at_ 2 rfl).f0
  have s3 := (C1.at_ 2 rfl).f1
  replace C1 := Lib.hid C1
  clear hb K1
  go_wp2_with fail
  (try simp only [Exit.inBlock, Exit.then])
  refine bodyPost_ret (v := .tuple #[spanV 13830554455654793216 4607182418800017408, spanV 13830554455654793216 4607182418800017408, .int .i64 0]) ?_ rfl ⟨rfl, ?_⟩
  · rw [results_cells2t rfl]; unfold spanV; go_simp
  · exact (((((C1.out).old).setCell (by show _ ≤ w.heap.size + 1; omega) _).setCell (by show _ ≤ w.heap.size + 1; omega) _).setCell (by show _ ≤ w.heap.size + 1 + 1; omega) _).setCell (by show _ ≤ w.heap.size + 1 + 1; omega) _

set_option maxHeartbeats 4000000 in
theorem vspans_slim {Y S C T D U1 U2 : Pr} {m : Nat} (t1 : (FloatKind.f64.format.order Y.1 14010698440749613056 == some Ordering.lt) = false) (t2 : (FloatKind.f64.format.order Y.2 4787326403894837248 == some Ordering.gt) = false) (tm : (FloatKind.f64.format.order m 4607182418800017408 == some Ordering.gt || FloatKind.f64.format.order m 4607182418800017408 == some Ordering.eq) = false) (K0 : Hid (∀ w, Calls Tryz.prog 32 #[pv Y] w fun e w' => e = .returned (.int .i64 0) ∧ Below w.heap.size w w')) (K1 : Hid (∀ w, Calls Tryz.prog 33 #[pv Y] w fun e w' => e = .returned (.tuple #[.float .f64 m, .int .i64 0]) ∧ Below w.heap.size w w'))
    (KA : Hid (∀ w, Calls Tryz.prog 6 #[.float .f64 Y.1] w fun e w' => e = .returned (ppi S C 0) ∧ Below w.heap.size w w'))
    (KB : Hid (∀ w, Calls Tryz.prog 6 #[.float .f64 Y.2] w fun e w' => e = .returned (ppi T D 0) ∧ Below w.heap.size w w'))
    (K4 : Hid (∀ w, Calls Tryz.prog 34 #[pv Y, pv S, pv T, .int .i64 1, .int .i64 3] w fun e w' => e = .returned (pv U1) ∧ Below w.heap.size w w'))
    (K6 : Hid (∀ w, Calls Tryz.prog 34 #[pv Y, pv C, pv D, .int .i64 0, .int .i64 2] w fun e w' => e = .returned (pv U2) ∧ Below w.heap.size w w')) (w : World) :
    Calls Tryz.prog 9 #[pv Y] w fun e w' => e = .returned (ppi U1 U2 0) ∧ Below w.heap.size w w' := by
  have C0 : Cls w [(w.heap.size, Y.1, Y.2), (w.heap.size + 1, 0, 0), (w.heap.size + 1 + 1, 0, 0)] (((w.alloc (boxO Y.1 Y.2)).alloc (boxO 0 0)).alloc (boxO 0 0)) := by
    have := (((Cls.nil w).new Y.1 Y.2).new 0 0).new 0 0
    simp only [List.nil_append, List.cons_append] at this
    rw [show (w.alloc (boxO Y.1 Y.2)).heap.size = w.heap.size + 1 by simp, show ((w.alloc (boxO Y.1 Y.2)).alloc (boxO 0 0)).heap.size = w.heap.size + 1 + 1 by simp] at this
    exact this
  have hst := @fstore
  have yE : pv Y = .agg #[.float .f64 Y.1, .float .f64 Y.2] := rfl
  unfold boxO at C0
  replace C0 := Lib.hid C0
  rw [yE] at K0 K1 ⊢
  unfold ppi at KA KB
  rw [pvE S, pvE C] at KA
  rw [pvE T, pvE D] at KB
  clear yE
  go_enter Tryz.func9, Tryz.ntmps9
  go_wp2_with fail
  have C := C0.out
  clear C0
  generalize ((w.alloc _).alloc _).alloc _ = wr at *
  refine (K0.out wr).mono ?_
  rintro _ w1 ⟨rfl, hb⟩
  have C1 := C.on hb
  have p0 := (C1.at_ 0 rfl).lo
  have p1 := (C1.at_ 0 rfl).hi
  have r0 := (C1.at_ 1 rfl).lo
  have r1 := (C1.at_ 1 rfl).hi
  have r2 := (C1.at_ 1 rfl).f0
  have r3 := (C1.at_ 1 rfl).f1
  have s0 := (C1.at_ 2 rfl).lo
  have s1 := (C1.at_ 2 rfl).hi
  have s2 := (C1.at_ 2 rfl).f0
  have s3 := (C1.at_ 2 rfl).f1
  replace C1 := Lib.hid C1
  clear C hb K0
  go_wp2_with fail
  clear p0 p1 r0 r1 r2 r3 s0 s1 s2 s3
  refine (K1.out w1).mono ?_
  rintro _ w2 ⟨rfl, hb⟩
  replace C1 := C1.out.on hb
  have p0 := (C1.at_ 0 rfl).lo
  replace C1 := Lib.hid C1
  clear hb K1
  go_wp2_with fail
  clear p0
  refine (KA.out w2).mono ?_
  rintro _ w3 ⟨rfl, hb⟩
  replace C1 := ((C1.out.on hb).new S.1 S.2).new C.1 C.2
  simp only [List.nil_append, List.cons_append] at C1
  rw [show (w3.alloc (boxO S.1 S.2)).heap.size = w3.heap.size + 1 by simp] at C1
  unfold boxO at C1
  have p0 := (C1.at_ 0 rfl).hi
  replace C1 := Lib.hid C1
  clear hb KA
  go_wp2_with fail
  clear p0
  generalize (w3.alloc _).alloc _ = wq at *
  generalize w3.heap.size = g at *
  refine (KB.out wq).mono ?_
  rintro _ w4 ⟨rfl, hb⟩
  replace C1 := ((C1.out.on hb).new T.1 T.2).new D.1 D.2
  simp only [List.nil_append, List.cons_append] at C1
  rw [show (w4.alloc (boxO T.1 T.2)).heap.size = w4.heap.size + 1 by simp] at C1
  unfold boxO at C1
  replace C1 := Lib.hid C1
  clear hb KB
  go_upto_region 11 with fail
  have C3 := C1.out
  clear C1
  generalize (w4.alloc _).alloc _ = wp at *
  generalize w4.heap.size = h at *
  generalize hn : w.heap.size = n at *
  replace hn := Lib.hid hn
  generalize hds : ([some 54, some 55, some 56, some 57, some 58, some 59, some 60, some 61, none, none, some 4] : List (Option Tmp)) = ds
  have hap : apartL ds = true := by rw [← hds]; decide
  replace hds := hds.symm
  refine wp_region_sts [(n, Y.1, Y.2), (n + 1, U1.1, U1.2), (n + 1 + 1, U2.1, U2.2), (g, S.1, S.2), (g + 1, C.1, C.2), (h, T.1, T.2), (h + 1, D.1, D.2)] [⟨8, 1, n + 1, U1.1, U1.2⟩, ⟨9, 2, n + 1 + 1, U2.1, U2.2⟩] [pv Y, pv S, pv T, pv U1, pv Y, pv C, pv D, pv U2, undef, undef, .int .i64 0]
    ds (by kernel_rfl) (by rw [hds]; rfl) hap (by decide +kernel) (by decide +kernel) rfl C3 ?hE2 ?hE3 ?hj ?hi ?his (fun _ => True) trivial (fun _ _ _ _ => trivial) (fun _ _ _ _ => trivial) ?step ?store ?fin
  case hE2 =>
    intro j h
    have n0 : 1 ≠ j := h _ (List.mem_cons_self ..)
    have n1 : 2 ≠ j := h _ (List.mem_cons_of_mem _ (List.mem_cons_self ..))
    rcases j with _ | _ | _ | _ | _ | _ | _ | j
    · rfl
    · exact absurd rfl n0
    · exact absurd rfl n1
    · rfl
    · rfl
    · rfl
    · rfl
    · rfl
  case hE3 => intro st h; simp only [List.mem_cons, List.not_mem_nil, or_false] at h; rcases h with rfl | rfl <;> rfl
  case hj => intro st h; simp only [List.mem_cons, List.not_mem_nil, or_false] at h; rcases h with rfl | rfl <;> exact ⟨_, _, rfl⟩
  case hi =>
    intro st h st' h' e
    simp only [List.mem_cons, List.not_mem_nil, or_false] at h; rcases h with rfl | rfl <;> (simp only [List.mem_cons, List.not_mem_nil, or_false] at h'; rcases h' with rfl | rfl) <;> first | rfl | (exfalso; revert e; simp)
  case his => intro st h; simp only [List.mem_cons, List.not_mem_nil, or_false] at h; rcases h with rfl | rfl
              · show 8 < 11; decide
              · show 9 < 11; decide
  case step =>
    intro L W i o ho hs hd hB hJ
    have hi : i < 11 := (Array.getElem?_eq_some_iff.1 ho).1
    have : i = 0 ∨ i = 1 ∨ i = 2 ∨ i = 3 ∨ i = 4 ∨ i = 5 ∨ i = 6 ∨ i = 7 ∨ i = 8 ∨ i = 9 ∨ i = 10 := by omega
    rcases this with rfl | rfl | rfl | rfl | rfl | rfl | rfl | rfl | rfl | rfl | rfl
    · -- 0
      obtain rfl := Option.some.inj ho
      have b := hB 0 _ _ _ rfl (by
        intro st hst e
        simp only [List.mem_cons, List.not_mem_nil, or_false] at hst
        rcases hst with rfl | rfl
        · exact absurd e (show ¬ 1 = 0 by decide)
        · exact absurd e (show ¬ 2 = 0 by decide))
      refine .value W ?_ (Below.refl _ _)
      generalize hA : (puts ds L _).eval = ρ
      have h0 : ρ (.tmp 1) = .pointer (some ⟨n, 0, none⟩) := by rw [← hA]; exact (puts_old ds L _ (by rw [hds]; decide)).trans rfl
      exact ex_loads rfl h0 b.lo b.hi
    · -- 1
      obtain rfl := Option.some.inj ho
      have b := hB 3 _ _ _ rfl (by
        intro st hst e
        simp only [List.mem_cons, List.not_mem_nil, or_false] at hst
        rcases hst with rfl | rfl
        · exact absurd e (show ¬ 1 = 3 by decide)
        · exact absurd e (show ¬ 2 = 3 by decide))
      refine .value W ?_ (Below.refl _ _)
      generalize hA : (puts ds L _).eval = ρ
      have h0 : ρ (.tmp 8) = .pointer (some ⟨g, 0, none⟩) := by rw [← hA]; exact (puts_old ds L _ (by rw [hds]; decide)).trans rfl
      exact ex_loads rfl h0 b.lo b.hi
    · -- 2
      obtain rfl := Option.some.inj ho
      have b := hB 5 _ _ _ rfl (by
        intro st hst e
        simp only [List.mem_cons, List.not_mem_nil, or_false] at hst
        rcases hst with rfl | rfl
        · exact absurd e (show ¬ 1 = 5 by decide)
        · exact absurd e (show ¬ 2 = 5 by decide))
      refine .value W ?_ (Below.refl _ _)
      generalize hA : (puts ds L _).eval = ρ
      have h0 : ρ (.tmp 11) = .pointer (some ⟨h, 0, none⟩) := by rw [← hA]; exact (puts_old ds L _ (by rw [hds]; decide)).trans rfl
      exact ex_loads rfl h0 b.lo b.hi
    · -- 3
      obtain rfl := Option.some.inj ho
      refine .call 34 #[pv Y, pv S, pv T, .int .i64 1, .int .i64 3] ?_ (K4.out W)
      generalize hA : (puts ds L _).eval = ρ
      have hc : ∀ v, ρ (.const v) = v := fun v => by rw [← hA]; rfl
      have hg : ∀ g, ρ (.func g) = .func (.func g) #[] #[] := fun v => by rw [← hA]; rfl
      have h0 : ρ (.tmp 54) = pv Y := by rw [← hA]; exact puts_get 0 ds L _ hap (by rw [hds]; rfl) (hd 0 (by decide +kernel)) (show 54 < 62 by decide)
      have h1 : ρ (.tmp 55) = pv S := by rw [← hA]; exact puts_get 1 ds L _ hap (by rw [hds]; rfl) (hd 1 (by decide +kernel)) (show 55 < 62 by decide)
      have h2 : ρ (.tmp 56) = pv T := by rw [← hA]; exact puts_get 2 ds L _ hap (by rw [hds]; rfl) (hd 2 (by decide +kernel)) (show 56 < 62 by decide)
      have hf := Tryz.func34
      unfold execOp
      go_simp
    · -- 4
      obtain rfl := Option.some.inj ho
      have b := hB 0 _ _ _ rfl (by
        intro st hst e
        simp only [List.mem_cons, List.not_mem_nil, or_false] at hst
        rcases hst with rfl | rfl
        · exact absurd e (show ¬ 1 = 0 by decide)
        · exact absurd e (show ¬ 2 = 0 by decide))
      refine .value W ?_ (Below.refl _ _)
      generalize hA : (puts ds L _).eval = ρ
      have h0 : ρ (.tmp 1) = .pointer (some ⟨n, 0, none⟩) := by rw [← hA]; exact (puts_old ds L _ (by rw [hds]; decide)).trans rfl
      exact ex_loads rfl h0 b.lo b.hi
    · -- 5
      obtain rfl := Option.some.inj ho
      have b := hB 4 _ _ _ rfl (by
        intro st hst e
        simp only [List.mem_cons, List.not_mem_nil, or_false] at hst
        rcases hst with rfl | rfl
        · exact absurd e (show ¬ 1 = 4 by decide)
        · exact absurd e (show ¬ 2 = 4 by decide))
      refine .value W ?_ (Below.refl _ _)
      generalize hA : (puts ds L _).eval = ρ
      have h0 : ρ (.tmp 9) = .pointer (some ⟨g + 1, 0, none⟩) := by rw [← hA]; exact (puts_old ds L _ (by rw [hds]; decide)).trans rfl
      exact ex_loads rfl h0 b.lo b.hi
    · -- 6
      obtain rfl := Option.some.inj ho
      have b := hB 6 _ _ _ rfl (by
        intro st hst e
        simp only [List.mem_cons, List.not_mem_nil, or_false] at hst
        rcases hst with rfl | rfl
        · exact absurd e (show ¬ 1 = 6 by decide)
        · exact absurd e (show ¬ 2 = 6 by decide))
      refine .value W ?_ (Below.refl _ _)
      generalize hA : (puts ds L _).eval = ρ
      have h0 : ρ (.tmp 12) = .pointer (some ⟨h + 1, 0, none⟩) := by rw [← hA]; exact (puts_old ds L _ (by rw [hds]; decide)).trans rfl
      exact ex_loads rfl h0 b.lo b.hi
    · -- 7
      obtain rfl := Option.some.inj ho
      refine .call 34 #[pv Y, pv C, pv D, .int .i64 0, .int .i64 2] ?_ (K6.out W)
      generalize hA : (puts ds L _).eval = ρ
      have hc : ∀ v, ρ (.const v) = v := fun v => by rw [← hA]; rfl
      have hg : ∀ g, ρ (.func g) = .func (.func g) #[] #[] := fun v => by rw [← hA]; rfl
      have h0 : ρ (.tmp 58) = pv Y := by rw [← hA]; exact puts_get 4 ds L _ hap (by rw [hds]; rfl) (hd 4 (by decide +kernel)) (show 58 < 62 by decide)
      have h1 : ρ (.tmp 59) = pv C := by rw [← hA]; exact puts_get 5 ds L _ hap (by rw [hds]; rfl) (hd 5 (by decide +kernel)) (show 59 < 62 by decide)
      have h2 : ρ (.tmp 60) = pv D := by rw [← hA]; exact puts_get 6 ds L _ hap (by rw [hds]; rfl) (hd 6 (by decide +kernel)) (show 60 < 62 by decide)
      have hf := Tryz.func34
      unfold execOp
      go_simp
    · -- 8
      exact absurd rfl (hs _ (List.mem_cons_self ..))
    · -- 9
      exact absurd rfl (hs _ (List.mem_cons_of_mem _ (List.mem_cons_self ..)))
    · -- 10
      obtain rfl := Option.some.inj ho
      refine .value W ?_ (Below.refl _ _)
      generalize hA : (puts ds L _).eval = ρ
      have hc : ∀ v, ρ (.const v) = v := fun v => by rw [← hA]; rfl
      unfold execOp
      go_simp
  case store =>
    intro st hst L W o x y ho hd b
    generalize hA : (puts ds L _).eval = ρ
    simp only [List.mem_cons, List.not_mem_nil, or_false] at hst
    rcases hst with rfl | rfl
    · dsimp only at ho b ⊢
      obtain rfl := Option.some.inj ho
      have h0 : ρ (.tmp 2) = .pointer (some ⟨n + 1, 0, none⟩) := by rw [← hA]; exact (puts_old ds L _ (by rw [hds]; decide)).trans rfl
      have h1 : ρ (.tmp 57) = pv U1 := by rw [← hA]; exact puts_get 3 ds L _ hap (by rw [hds]; rfl) (hd 3 (by decide +kernel)) (show 57 < 62 by decide)
      exact ⟨ex_store rfl h0 h1 b.lo b.hi b.f0 b.f1, rfl⟩
    · dsimp only at ho b ⊢
      obtain rfl := Option.some.inj ho
      have h0 : ρ (.tmp 3) = .pointer (some ⟨n + 1 + 1, 0, none⟩) := by rw [← hA]; exact (puts_old ds L _ (by rw [hds]; decide)).trans rfl
      have h1 : ρ (.tmp 61) = pv U2 := by rw [← hA]; exact puts_get 7 ds L _ hap (by rw [hds]; rfl) (hd 7 (by decide +kernel)) (show 61 < 62 by decide)
      exact ⟨ex_store rfl h0 h1 b.lo b.hi b.f0 b.f1, rfl⟩
  case fin =>
    intro w5 C5 _
    rw [hds]
    clear hds hap C3 ds K4 K6
    obtain ⟨u1, u2⟩ := U1
    obtain ⟨v1, v2⟩ := U2
    have l0 := (C5.at_ 1 rfl).lo
    have l1 := (C5.at_ 1 rfl).hi
    have m0 := (C5.at_ 2 rfl).lo
    have m1 := (C5.at_ 2 rfl).hi
    have O := Lib.hid C5.old
    dsimp only at l0 l1 m0 m1
    clear C5
    simp only [List.map_cons, List.map_nil, List.set_cons_zero, List.set_cons_succ, puts, Act.put, List.setIfInBounds_toArray]
    go_wp2_with fail
    (try simp only [Exit.inBlock, Exit.then])
    refine bodyPost_ret (v := .tuple #[spanV u1 u2, spanV v1 v2, .int .i64 0]) ?_ rfl ⟨rfl, ?_⟩
    · rw [results_cells2t rfl]; unfold spanV; go_simp
    · exact O.out

/-! ### whatever the span -/
theorem far_out {a b : Nat} (ha : a < 18446744073709551616) (hb : b < 18446744073709551616) (e : errS a b = 0) (h : errT a b ≠ 0) : errT a b = 3 ∧ (V a < V 14010698440749613056 ∨ V 4787326403894837248 < V b) := by
  obtain ⟨f1, f2, le⟩ := errS_zero e
  have g1 := fit_fin ha f1
  have g2 := fit_fin hb f2
  have e1 : V 14010698440749613056 = -(2 ^ 1114) := by decide +kernel
  have e2 : V 4787326403894837248 = 2 ^ 1114 := by decide +kernel
  have vv : (val 52 4787326403894837248 : Int) = 2 ^ 1114 := by decide +kernel
  have big : ∀ y, y < 18446744073709551616 → fitB y = true → FinW y → errA y ≠ 0 → (2 : Int) ^ 1114 < ((V y).natAbs : Int) := by
    intro y hy fy gy h
    have c : 4787326403894837248 < y % 9223372036854775808 := by
      by_cases q : y % 9223372036854775808 ≤ 4787326403894837248
      · exact absurd (if_pos ⟨fy, q⟩) h
      · omega
    rw [V_abs' y gy, ← vv]
    exact Int.ofNat_lt.2 (val_lt c)
  unfold errT at h ⊢
  rw [if_neg (by omega)] at h ⊢
  rw [e1, e2]
  generalize (2 : Int) ^ 1114 = T at *
  by_cases q : errA a = 0
  · rw [if_neg (by omega)] at h ⊢
    have := big b hb f2 g2 h
    exact ⟨by rcases errA_cases b with x | x <;> omega, by omega⟩
  · rw [if_pos q] at h ⊢
    have := big a ha f1 g1 q
    exact ⟨by rcases errA_cases a with x | x <;> omega, by omega⟩
theorem far_in {x : Nat} (A : Ang x) : ¬ V x < V 14010698440749613056 ∧ ¬ V 4787326403894837248 < V x := by
  have e1 : V 14010698440749613056 = -(2 ^ 1114) := by decide +kernel
  have e2 : V 4787326403894837248 = 2 ^ 1114 := by decide +kernel
  have ax := pw_cast A.abs
  rw [e1, e2]
  generalize (2 : Int) ^ 1114 = T at *
  omega
theorem farl_fin : FinW 14010698440749613056 := by unfold FinW; omega
theorem farh_fin : FinW 4787326403894837248 := by unfold FinW; omega
theorem vspans_run {a b : Nat} (ha : a < 18446744073709551616) (hb : b < 18446744073709551616) : ∃ p q k, SpRes (a, b) p q k ∧ ∀ w, Calls Tryz.prog 9 #[pv (a, b)] w fun e w' => e = .returned (ppi p q k) ∧ Below w.heap.size w w' := by
  have K0 : Hid (∀ w, Calls Tryz.prog 32 #[pv (a, b)] w fun e w' => e = .returned (.int .i64 (errS a b)) ∧ Below w.heap.size w w') := Lib.hid (fun w => rscheck_run a b ha hb w)
  by_cases hS : errS a b = 0
  · obtain ⟨f1, f2, -⟩ := errS_zero hS
    have t1 := lt_words (fit_fin ha f1) farl_fin
    have t2 := gt_words (fit_fin hb f2) farh_fin
    rw [hS] at K0
    by_cases h : errT a b = 0
    · obtain ⟨-, e2, e3⟩ := errT_zero h
      have A := errA_ang ha e2
      have B := errA_ang hb e3
      rw [decide_eq_false (far_in A).1] at t1
      rw [decide_eq_false (far_in B).2] at t2
      obtain ⟨m, ⟨fm, U⟩, K1'⟩ := rwidth_ok ha hb hS
      have K1 : ∀ w, Calls Tryz.prog 33 #[pv (a, b)] w fun e w' => e = .returned (.tuple #[.float .f64 m, .int .i64 0]) ∧ Below w.heap.size w w' := K1'
      have tm := ge_words fm (show FinW oneW by unfold FinW oneW; omega)
      by_cases c : V oneW ≤ V m
      · rw [decide_eq_true c] at tm
        exact ⟨_, _, 0, mk_wide h fm U c, fun w => vspans_wide t1 t2 tm K0 (Lib.hid K1) w⟩
      · rw [decide_eq_false c] at tm
        obtain ⟨S, C, HA, KA⟩ := vpoint_ok ha e2
        obtain ⟨T, D, HB, KB⟩ := vpoint_ok hb e3
        have h1 := errSS_of' HA.up.ok HB.up.ok
        have h2 := errSS_of' HA.uq.ok HB.uq.ok
        have P : ∀ k, 0 ≤ k ∧ k < 4 → Hid (∀ w, Calls Tryz.prog 69 #[pv (a, b), .int .i64 k] w fun e w' => e = .returned (.bool (passB a b k)) ∧ Below w.heap.size w w') := fun k hk => Lib.hid (fun w => vpasses_run A B k hk w)
        refine ⟨_, _, 0, mk_slim h fm U c HA HB, fun w => ?_⟩
        exact vspans_slim t1 t2 tm K0 (Lib.hid K1) (Lib.hid KA) (Lib.hid KB) (Lib.hid fun w => vspread_run (Lib.hid fun w => rhull_ok HA.up.l1 HA.up.l2 HB.up.l1 HB.up.l2 h1 w) rfl (P 1 (by omega)) (P 3 (by omega)) w)
          (Lib.hid fun w => vspread_run (Lib.hid fun w => rhull_ok HA.uq.l1 HA.uq.l2 HB.uq.l1 HB.uq.l2 h2 w) rfl (P 0 (by omega)) (P 2 (by omega)) w) w
    · obtain ⟨e3, o⟩ := far_out ha hb hS h
      refine ⟨(0, 0), (0, 0), errT a b, mk_no h, fun w => ?_⟩
      rw [e3]
      by_cases c : V a < V 14010698440749613056
      · rw [decide_eq_true c] at t1
        exact vspans_low t1 K0 w
      · rw [decide_eq_false c] at t1
        rw [decide_eq_true (o.resolve_left c)] at t2
        exact vspans_high t1 t2 K0 w
  · have e : errT a b = errS a b := by unfold errT; rw [if_pos hS]
    refine ⟨(0, 0), (0, 0), errT a b, mk_no (by rw [e]; exact hS), fun w => ?_⟩
    rw [e]
    exact vspans_no hS K0 w
end Go.Proofs.YtbhohpobpecepaaGreat
