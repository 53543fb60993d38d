/- Proved here: what the texts Vsh, Vss prove, one behind the other. -/
import Derived.Test.YtgnofnjbmiepjaaGreatJb9
import Derived.Deep.CutRange
import Derived.BigQuiet

set_option maxRecDepth 100000
set_option maxHeartbeats 4000000
namespace Go.Proofs.YtgnofnjbmiepjaaGreat
open Go.ChangeShapes Go.WideShapes Go.ChangeAt Go.RowKit Ieee.Own

theorem vmul_run {p q u : Pr} (hp1 : p.1 < 18446744073709551616) (hp2 : p.2 < 18446744073709551616) (hq1 : q.1 < 18446744073709551616) (hq2 : q.2 < 18446744073709551616) (R : MulR p q u) (w : World) :
 Calls Tryz.prog 81 #[pv p, pv q] w fun e w' => e = .returned (pv u) ∧ Below w.heap.size w w' := by
 obtain ⟨p1, p2⟩ := p
 obtain ⟨q1, q2⟩ := q
 obtain ⟨u1, u2⟩ := u
 have SM := Lib.hid (fun w => (rmul_run p1 p2 q1 q2 hp1 hp2 hq1 hq2 w).mono fun e w' h => (⟨OpAll.uniq h.1 R, h.2⟩ : e = .returned (spanE u1 u2 0) ∧ Below w.heap.size w w'))
 have C0 : Cls w [(w.heap.size, p1, p2), (w.heap.size + 1, q1, q2), (w.heap.size + 1 + 1, 0, 0)] (((w.alloc (boxO p1 p2)).alloc (boxO q1 q2)).alloc (boxO 0 0)) := by
  have := (((Cls.nil w).new p1 p2).new q1 q2).new 0 0
  simp only [List.nil_append, List.cons_append] at this
  rw [show (w.alloc (boxO p1 p2)).heap.size = w.heap.size + 1 by simp, show ((w.alloc (boxO p1 p2)).alloc (boxO q1 q2)).heap.size = w.heap.size + 1 + 1 by simp] at this
  exact this
 have hst := @fstore
 unfold boxO at C0
 unfold pv spanV spanE at *
 dsimp only at *
 replace C0 := Lib.hid C0
 clear hp1 hp2 hq1 hq2 R
 go_enter Tryz.func81, Tryz.ntmps81
 go_wp2_with fail
 have C := C0.out
 clear C0
 generalize ((w.alloc _).alloc _).alloc _ = wr at *
 refine (SM.out wr).mono ?_
 rintro _ w1 ⟨rfl, hb⟩
 have C1 := (C.on hb).new u1 u2
 unfold boxO at C1
 have c0 := (C1.at_ 2 rfl).lo
 have c1 := (C1.at_ 2 rfl).hi
 have f0 := (C1.at_ 2 rfl).f0
 have f1 := (C1.at_ 2 rfl).f1
 have d0 := (C1.at_ 3 rfl).lo
 have d1 := (C1.at_ 3 rfl).hi
 have B := Lib.hid C1.old
 clear C C1 hb SM
 go_wp2_with fail
 (try simp only [Exit.vnBlock, Exit.then])
 refine bodyPost_ret (v := spanV u1 u2) ?_ rfl ⟨rfl, ?_⟩
 · rw [results_cell1 rfl]; unfold spanV; go_simp
 · exact (B.out.setCell (by show _ ≤ w.heap.size + 1 + 1; omega) _).setCell (by show _ ≤ w.heap.size + 1 + 1; omega) _
theorem vadd_run {p q u : Pr} (hp1 : p.1 < 18446744073709551616) (hp2 : p.2 < 18446744073709551616) (hq1 : q.1 < 18446744073709551616) (hq2 : q.2 < 18446744073709551616) (R : AddR p q u) (w : World) :
 Calls Tryz.prog 82 #[pv p, pv q] w fun e w' => e = .returned (pv u) ∧ Below w.heap.size w w' := by
 obtain ⟨p1, p2⟩ := p
 obtain ⟨q1, q2⟩ := q
 obtain ⟨u1, u2⟩ := u
 have SM := Lib.hid (fun w => (radd_run p1 p2 q1 q2 hp1 hp2 hq1 hq2 w).mono fun e w' h => (⟨h.1.all.uniq R.all, h.2⟩ : e = .returned (spanE u1 u2 0) ∧ Below w.heap.size w w'))
 have C0 : Cls w [(w.heap.size, p1, p2), (w.heap.size + 1, q1, q2), (w.heap.size + 1 + 1, 0, 0)] (((w.alloc (boxO p1 p2)).alloc (boxO q1 q2)).alloc (boxO 0 0)) := by
  have := (((Cls.nil w).new p1 p2).new q1 q2).new 0 0
  simp only [List.nil_append, List.cons_append] at this
  rw [show (w.alloc (boxO p1 p2)).heap.size = w.heap.size + 1 by simp, show ((w.alloc (boxO p1 p2)).alloc (boxO q1 q2)).heap.size = w.heap.size + 1 + 1 by simp] at this
  exact this
 have hst := @fstore
 unfold boxO at C0
 unfold pv spanV spanE at *
 dsimp only at *
 replace C0 := Lib.hid C0
 clear hp1 hp2 hq1 hq2 R
 go_enter Tryz.func82, Tryz.ntmps82
 go_wp2_with fail
 have C := C0.out
 clear C0
 generalize ((w.alloc _).alloc _).alloc _ = wr at *
 refine (SM.out wr).mono ?_
 rintro _ w1 ⟨rfl, hb⟩
 have C1 := (C.on hb).new u1 u2
 unfold boxO at C1
 have c0 := (C1.at_ 2 rfl).lo
 have c1 := (C1.at_ 2 rfl).hi
 have f0 := (C1.at_ 2 rfl).f0
 have f1 := (C1.at_ 2 rfl).f1
 have d0 := (C1.at_ 3 rfl).lo
 have d1 := (C1.at_ 3 rfl).hi
 have B := Lib.hid C1.old
 clear C C1 hb SM
 go_wp2_with fail
 (try simp only [Exit.vnBlock, Exit.then])
 refine bodyPost_ret (v := spanV u1 u2) ?_ rfl ⟨rfl, ?_⟩
 · rw [results_cell1 rfl]; unfold spanV; go_simp
 · exact (B.out.setCell (by show _ ≤ w.heap.size + 1 + 1; omega) _).setCell (by show _ ≤ w.heap.size + 1 + 1; omega) _
theorem vabout_run {a : Nat} (ha : a < 18446744073709551616) (w : World) :
 Calls Tryz.prog 112 #[.float .f64 a] w fun e w' => e = .returned (pv (facS a)) ∧ Below w.heap.size w w' := by
 have P1 := fun w => rprev_any a ha w
 have P2 := fun w => rnext_any a ha w
 have hst := @fstore
 unfold pv spanV facS
 dsimp only
 clear ha
 generalize prevW a = x at *
 generalize nextW a = y at *
 go_enter Tryz.func112, Tryz.ntmps112
 go_wp2_with (first | (go_at_call 74; ((with_reducible refine (P1 _).mono ?_); rintro e w' ⟨rfl, rfl⟩)) | (go_at_call 75; ((with_reducible refine (P2 _).mono ?_); rintro e w' ⟨rfl, rfl⟩)))
 (try simp only [Exit.vnBlock, Exit.then])
 refine bodyPost_ret (v := spanV x y) ?_ rfl ⟨rfl, ?_⟩
 · rw [results_cell1 rfl]; unfold spanV; go_simp
 · exact (Below.refl _ w).alloc (Nat.le_refl _) _
theorem vclip_run {p u : Pr} (T : Sets p.1 p.2 noneW oneW) (hu : u = cutP p) (w : World) :
 Calls Tryz.prog 85 #[pv p] w fun e w' => e = .returned (pv u) ∧ Below w.heap.size w w' := by
 obtain ⟨p1, p2⟩ := p
 obtain ⟨u1, u2⟩ := u
 obtain ⟨e1, e2⟩ := Prod.mk.inj hu
 dsimp only at e1 e2 T
 have SM : ∀ w, Calls Tryz.prog 113 #[spanV p1 p2, .agg #[.float .f64 13830554455654793216, .float .f64 4607182418800017408]] w fun e w' => e = .returned (.tuple #[spanV (meetX p1 p2 noneW oneW) (meetY p1 p2 noneW oneW), .bool (meetB p1 p2 noneW oneW), .int .i64 0]) ∧ Below w.heap.size w w' := fun w => rmeet_ok T w
 rw [← e1, ← e2] at SM
 replace SM := Lib.hid SM
 generalize meetB p1 p2 noneW oneW = mb at *
 have C0 : Cls w [(w.heap.size, p1, p2), (w.heap.size + 1, 0, 0)] ((w.alloc (boxO p1 p2)).alloc (boxO 0 0)) := by
  have := ((Cls.nil w).new p1 p2).new 0 0
  simp only [List.nil_append, List.cons_append] at this
  rw [show (w.alloc (boxO p1 p2)).heap.size = w.heap.size + 1 by simp] at this
  exact this
 have hst := @fstore
 unfold boxO at C0
 unfold pv spanV at *
 dsimp only at *
 replace C0 := Lib.hid C0
 clear T e1 e2 hu
 go_enter Tryz.func85, Tryz.ntmps85
 go_wp2_with fail
 have C := C0.out
 clear C0
 generalize (w.alloc _).alloc _ = wr at *
 refine (SM.out wr).mono ?_
 rintro _ w1 ⟨rfl, hb⟩
 have C1 := (C.on hb).new u1 u2
 unfold boxO at C1
 have c0 := (C1.at_ 1 rfl).lo
 have c1 := (C1.at_ 1 rfl).hi
 have f0 := (C1.at_ 1 rfl).f0
 have f1 := (C1.at_ 1 rfl).f1
 have d0 := (C1.at_ 2 rfl).lo
 have d1 := (C1.at_ 2 rfl).hi
 have B := Lib.hid C1.old
 clear C C1 hb SM
 go_wp2_with fail
 (try simp only [Exit.vnBlock, Exit.then])
 refine bodyPost_ret (v := spanV u1 u2) ?_ rfl ⟨rfl, ?_⟩
 · rw [results_cell1 rfl]; unfold spanV; go_simp
 · exact (B.out.setCell (by show _ ≤ w.heap.size + 1; omega) _).setCell (by show _ ≤ w.heap.size + 1; omega) _

theorem hull_told {p q : Pr} {lo hi : Nat} (lp1 : p.1 < 18446744073709551616) (lp2 : p.2 < 18446744073709551616) (lq1 : q.1 < 18446744073709551616) (lq2 : q.2 < 18446744073709551616) (h0 : errSS p.1 p.2 q.1 q.2 = 0)
 (h1 : lo = p.1 ∨ lo = q.1) (h2 : V lo ≤ V p.1) (h3 : V lo ≤ V q.1) (k1 : hi = p.2 ∨ hi = q.2) (k2 : V p.2 ≤ V hi) (k3 : V q.2 ≤ V hi) :
 toldE lo hi = spanE (hullP p q).1 (hullP p q).2 0 ∧ FinW lo ∧ FinW hi := by
 obtain ⟨z1, z2⟩ := errSS_zero h0
 obtain ⟨f1, f2, le⟩ := errS_zero z1
 obtain ⟨f3, f4, le'⟩ := errS_zero z2
 have g1 := fit_fin lp1 f1
 have g2 := fit_fin lp2 f2
 have g3 := fit_fin lq1 f3
 have g4 := fit_fin lq2 f4
 have el := min_of g1 g3 h1 h2 h3
 have eh := max_of g2 g4 k1 k2 k3
 have mf := mn_fit lp1 lq1 f1 f3
 have nf := mx_fit lp2 lq2 f2 f4
 have mF := mnW_fin g1 g3
 have nF := mxW_fin g2 g4
 have lF : FinW lo := by rcases h1 with rfl | rfl <;> assumption
 have hF : FinW hi := by rcases k1 with rfl | rfl <;> assumption
 have ml := fit_low mF.1 mf
 have nl := fit_low nF.1 nf
 have c1 := lowW_congr lF mF el
 have c2 := highW_congr hF nF eh
 have mm := fit_most mF.1 mf
 have nm := fit_most nF.1 nf
 refine ⟨?_, lF, hF⟩
 unfold hullP
 dsimp only
 rw [ml.1, nl.2.1]
 unfold toldE
 rw [c1, c2, if_neg (by rw [ml.2.2.1, nl.2.2.2]; omega)]

theorem rhull_walk {a0 b0 a1 b1 lo hi x y : Nat} {c1 c2 : Bool} (BO : Hid (∀ w, Calls Tryz.prog 40 #[spanV a0 b0, spanV a1 b1] w fun e w' => e = .returned (.int .i64 0) ∧ Below w.heap.size w w'))
 (TO : Hid (∀ w, Calls Tryz.prog 44 #[.float .f64 lo, .float .f64 hi] w fun e w' => e = .returned (spanE x y 0) ∧ Below w.heap.size w w'))
 (t1 : (FloatKind.f64.format.order a1 a0 == some Ordering.lt) = c1) (t2 : (FloatKind.f64.format.order b1 b0 == some Ordering.gt) = c2)
 (hl : lo = if c1 then a1 else a0) (hh : hi = if c2 then b1 else b0) (w : World) :
 Calls Tryz.prog 86 #[spanV a0 b0, spanV a1 b1] w fun e w' => e = .returned (spanE x y 0) ∧ Below w.heap.size w w' := by
 have C0 : Cls w [(w.heap.size, a0, b0), (w.heap.size + 1, a1, b1), (w.heap.size + 1 + 1, 0, 0)] (((w.alloc (boxO a0 b0)).alloc (boxO a1 b1)).alloc (boxO 0 0)) := by
  have := (((Cls.nil w).new a0 b0).new a1 b1).new 0 0
  simp only [List.nil_append, List.cons_append] at this
  rw [show (w.alloc (boxO a0 b0)).heap.size = w.heap.size + 1 by simp, show ((w.alloc (boxO a0 b0)).alloc (boxO a1 b1)).heap.size = w.heap.size + 1 + 1 by simp] at this
  exact this
 have hst := @fstore
 unfold boxO at C0
 unfold spanV spanE at *
 replace C0 := Lib.hid C0
 cases c1 <;> cases c2
 · replace hl : lo = a0 := hl
   replace hh : hi = b0 := hh
   subst hl hh
   go_enter Tryz.func86, Tryz.ntmps86
   go_wp2_with fail
   have C := C0.out
   clear C0
   generalize ((w.alloc _).alloc _).alloc _ = wr at *
   refine (BO.out wr).mono ?_
   rintro _ w1 ⟨rfl, hb⟩
   have C1 := C.on hb
   have p0 := (C1.at_ 0 rfl).lo
   have p1 := (C1.at_ 0 rfl).hi
   have q0 := (C1.at_ 1 rfl).lo
   have q1 := (C1.at_ 1 rfl).hi
   replace C1 := Lib.hid C1
   clear C hb BO
   go_wp2_with fail
   go_quiet (fail)
   have C2 := C1.out.on (below_drewN (Below.refl _ w1) nq)
   have p0 := (C2.at_ 0 rfl).lo
   have p1 := (C2.at_ 0 rfl).hi
   have q0 := (C2.at_ 1 rfl).lo
   have q1 := (C2.at_ 1 rfl).hi
   replace C2 := Lib.hid C2
   clear C1
   generalize w1.drewN nq = wd at *
   go_wp2_with fail
   have C3 := C2.out
   clear p0 p1 q0 q1 C2
   refine (TO.out wd).mono ?_
   rintro _ w2 ⟨rfl, hb⟩
   have C4 := C3.on hb
   have r0 := (C4.at_ 2 rfl).lo
   have r1 := (C4.at_ 2 rfl).hi
   have f0 := (C4.at_ 2 rfl).f0
   have f1 := (C4.at_ 2 rfl).f1
   have O := Lib.hid C4.old
   clear C3 C4 hb TO
   go_wp2_with fail
   (try simp only [Exit.vnBlock, Exit.then])
   refine bodyPost_ret (v := .tuple #[spanV x y, .int .i64 0]) ?_ rfl ⟨rfl, ?_⟩
   · rw [results_cell_tmp rfl]; unfold spanV; go_simp
   · exact (O.out.setCell (by show _ ≤ w.heap.size + 1 + 1; omega) _).setCell (by show _ ≤ w.heap.size + 1 + 1; omega) _
 · replace hl : lo = a0 := hl
   replace hh : hi = b1 := hh
   subst hl hh
   go_enter Tryz.func86, Tryz.ntmps86
   go_wp2_with fail
   have C := C0.out
   clear C0
   generalize ((w.alloc _).alloc _).alloc _ = wr at *
   refine (BO.out wr).mono ?_
   rintro _ w1 ⟨rfl, hb⟩
   have C1 := C.on hb
   have p0 := (C1.at_ 0 rfl).lo
   have p1 := (C1.at_ 0 rfl).hi
   have q0 := (C1.at_ 1 rfl).lo
   have q1 := (C1.at_ 1 rfl).hi
   replace C1 := Lib.hid C1
   clear C hb BO
   go_wp2_with fail
   go_quiet (fail)
   have C2 := C1.out.on (below_drewN (Below.refl _ w1) nq)
   have p0 := (C2.at_ 0 rfl).lo
   have p1 := (C2.at_ 0 rfl).hi
   have q0 := (C2.at_ 1 rfl).lo
   have q1 := (C2.at_ 1 rfl).hi
   replace C2 := Lib.hid C2
   clear C1
   generalize w1.drewN nq = wd at *
   go_wp2_with fail
   have C3 := C2.out
   clear p0 p1 q0 q1 C2
   refine (TO.out wd).mono ?_
   rintro _ w2 ⟨rfl, hb⟩
   have C4 := C3.on hb
   have r0 := (C4.at_ 2 rfl).lo
   have r1 := (C4.at_ 2 rfl).hi
   have f0 := (C4.at_ 2 rfl).f0
   have f1 := (C4.at_ 2 rfl).f1
   have O := Lib.hid C4.old
   clear C3 C4 hb TO
   go_wp2_with fail
   (try simp only [Exit.vnBlock, Exit.then])
   refine bodyPost_ret (v := .tuple #[spanV x y, .int .i64 0]) ?_ rfl ⟨rfl, ?_⟩
   · rw [results_cell_tmp rfl]; unfold spanV; go_simp
   · exact (O.out.setCell (by show _ ≤ w.heap.size + 1 + 1; omega) _).setCell (by show _ ≤ w.heap.size + 1 + 1; omega) _
 · replace hl : lo = a1 := hl
   replace hh : hi = b0 := hh
   subst hl hh
   go_enter Tryz.func86, Tryz.ntmps86
   go_wp2_with fail
   have C := C0.out
   clear C0
   generalize ((w.alloc _).alloc _).alloc _ = wr at *
   refine (BO.out wr).mono ?_
   rintro _ w1 ⟨rfl, hb⟩
   have C1 := C.on hb
   have p0 := (C1.at_ 0 rfl).lo
   have p1 := (C1.at_ 0 rfl).hi
   have q0 := (C1.at_ 1 rfl).lo
   have q1 := (C1.at_ 1 rfl).hi
   replace C1 := Lib.hid C1
   clear C hb BO
   go_wp2_with fail
   go_quiet (fail)
   have C2 := C1.out.on (below_drewN (Below.refl _ w1) nq)
   have p0 := (C2.at_ 0 rfl).lo
   have p1 := (C2.at_ 0 rfl).hi
   have q0 := (C2.at_ 1 rfl).lo
   have q1 := (C2.at_ 1 rfl).hi
   replace C2 := Lib.hid C2
   clear C1
   generalize w1.drewN nq = wd at *
   go_wp2_with fail
   have C3 := C2.out
   clear p0 p1 q0 q1 C2
   refine (TO.out wd).mono ?_
   rintro _ w2 ⟨rfl, hb⟩
   have C4 := C3.on hb
   have r0 := (C4.at_ 2 rfl).lo
   have r1 := (C4.at_ 2 rfl).hi
   have f0 := (C4.at_ 2 rfl).f0
   have f1 := (C4.at_ 2 rfl).f1
   have O := Lib.hid C4.old
   clear C3 C4 hb TO
   go_wp2_with fail
   (try simp only [Exit.vnBlock, Exit.then])
   refine bodyPost_ret (v := .tuple #[spanV x y, .int .i64 0]) ?_ rfl ⟨rfl, ?_⟩
   · rw [results_cell_tmp rfl]; unfold spanV; go_simp
   · exact (O.out.setCell (by show _ ≤ w.heap.size + 1 + 1; omega) _).setCell (by show _ ≤ w.heap.size + 1 + 1; omega) _
 · replace hl : lo = a1 := hl
   replace hh : hi = b1 := hh
   subst hl hh
   go_enter Tryz.func86, Tryz.ntmps86
   go_wp2_with fail
   have C := C0.out
   clear C0
   generalize ((w.alloc _).alloc _).alloc _ = wr at *
   refine (BO.out wr).mono ?_
   rintro _ w1 ⟨rfl, hb⟩
   have C1 := C.on hb
   have p0 := (C1.at_ 0 rfl).lo
   have p1 := (C1.at_ 0 rfl).hi
   have q0 := (C1.at_ 1 rfl).lo
   have q1 := (C1.at_ 1 rfl).hi
   replace C1 := Lib.hid C1
   clear C hb BO
   go_wp2_with fail
   go_quiet (fail)
   have C2 := C1.out.on (below_drewN (Below.refl _ w1) nq)
   have p0 := (C2.at_ 0 rfl).lo
   have p1 := (C2.at_ 0 rfl).hi
   have q0 := (C2.at_ 1 rfl).lo
   have q1 := (C2.at_ 1 rfl).hi
   replace C2 := Lib.hid C2
   clear C1
   generalize w1.drewN nq = wd at *
   go_wp2_with fail
   have C3 := C2.out
   clear p0 p1 q0 q1 C2
   refine (TO.out wd).mono ?_
   rintro _ w2 ⟨rfl, hb⟩
   have C4 := C3.on hb
   have r0 := (C4.at_ 2 rfl).lo
   have r1 := (C4.at_ 2 rfl).hi
   have f0 := (C4.at_ 2 rfl).f0
   have f1 := (C4.at_ 2 rfl).f1
   have O := Lib.hid C4.old
   clear C3 C4 hb TO
   go_wp2_with fail
   (try simp only [Exit.vnBlock, Exit.then])
   refine bodyPost_ret (v := .tuple #[spanV x y, .int .i64 0]) ?_ rfl ⟨rfl, ?_⟩
   · rw [results_cell_tmp rfl]; unfold spanV; go_simp
   · exact (O.out.setCell (by show _ ≤ w.heap.size + 1 + 1; omega) _).setCell (by show _ ≤ w.heap.size + 1 + 1; omega) _
theorem rhull_ok {p q : Pr} (lp1 : p.1 < 18446744073709551616) (lp2 : p.2 < 18446744073709551616) (lq1 : q.1 < 18446744073709551616) (lq2 : q.2 < 18446744073709551616) (h0 : errSS p.1 p.2 q.1 q.2 = 0) (w : World) :
 Calls Tryz.prog 86 #[pv p, pv q] w fun e w' => e = .returned (spanE (hullP p q).1 (hullP p q).2 0) ∧ Below w.heap.size w w' := by
 obtain ⟨z1, z2⟩ := errSS_zero h0
 obtain ⟨f1, f2, -⟩ := errS_zero z1
 obtain ⟨f3, f4, -⟩ := errS_zero z2
 have g1 := fit_fin lp1 f1
 have g2 := fit_fin lp2 f2
 have g3 := fit_fin lq1 f3
 have g4 := fit_fin lq2 f4
 have BO := Lib.hid (fun w => rboth_run p.1 p.2 q.1 q.2 lp1 lp2 lq1 lq2 w)
 rw [h0] at BO
 have t1 := lt_words g3 g1
 have t2 := gt_words g4 g2
 have key := hull_told (lo := if decide (V q.1 < V p.1) then q.1 else p.1) (hi := if decide (V p.2 < V q.2) then q.2 else p.2) lp1 lp2 lq1 lq2 h0 (by split <;> simp) (by split <;> rename_i h <;> simp at h <;> omega) (by split <;> rename_i h <;> simp at h <;> omega) (by split <;> simp) (by split <;> rename_i h <;> simp at h <;> omega) (by split <;> rename_i h <;> simp at h <;> omega)
 generalize hl : (if decide (V q.1 < V p.1) = true then q.1 else p.1) = lo at *
 generalize hh : (if decide (V p.2 < V q.2) = true then q.2 else p.2) = hi at *
 obtain ⟨k1, k4, k5⟩ := key
 refine rhull_walk (lo := lo) (hi := hi) BO (Lib.hid fun w => ?_) t1 t2 hl.symm hh.symm w
 have := told_run lo hi k4 k5 w
 rw [k1] at this
 exact this

theorem rwidth_ok {a b : Nat} (ha : a < 18446744073709551616) (hb : b < 18446744073709551616) (h0 : errS a b = 0) : ∃ m, (FinW m ∧ Up (fun u => V b - V a - u) m) ∧ ∀ w, Calls Tryz.prog 47 #[spanV a b] w fun e w' => e = .returned (.tuple #[.float .f64 m, .int .i64 0]) ∧ Below w.heap.size w w' := by
 obtain ⟨f1, f2, le⟩ := errS_zero h0
 obtain ⟨s, e, R, ⟨-, -, K, hK, hs, -⟩, AX⟩ := rsum_fit b (negW a) hb (negW_lt64 ha) f2 (by rw [fit_neg ha]; exact f1)
 have hU := sum_up R (bd_of hs hK)
 rw [negW_V (fit_fin ha f1), ← Int.sub_eq_add_neg] at hU
 refine ⟨upW (0 < V e) s, ⟨hU.fin, hU⟩, fun w => ?_⟩
 have UX := Lib.hid (fun w => up_run s e R.fs R.fe w)
 have N1 := fun w => xneg' a ha w
 replace AX := Lib.hid AX
 unfold ffi at AX
 generalize upW (0 < V e) s = m at *
 generalize negW a = na at *
 have CB := Lib.hid (fun w => rscheck_run a b ha hb w)
 have C0 : Cls w [(w.heap.size, a, b)] (w.alloc (boxO a b)) := (Cls.nil w).new a b
 unfold boxO at C0
 unfold spanV at *
 replace C0 := Lib.hid C0
 rw [h0] at CB
 clear h0 f1 f2 le ha hb hU R hs hK
 go_enter Tryz.func47, Tryz.ntmps47
 go_wp2_with fail
 have C := C0.out
 clear C0
 generalize w.alloc _ = wr at *
 refine (CB.out wr).mono ?_
 rintro _ w1 ⟨rfl, hb1⟩
 have C1 := C.on hb1
 have c00 := (C1.at_ 0 rfl).lo
 have c01 := (C1.at_ 0 rfl).hi
 have B1 := Lib.hid C1.old
 clear C C1 hb1 CB
 go_wp2_with (first | (go_at_call 46; ((with_reducible refine (AX.out _).mono ?_); rintro e w' ⟨rfl, rfl⟩)) | (go_at_call 43; ((with_reducible refine (UX.out _).mono ?_); rintro e w' ⟨rfl, rfl⟩)))
 go_ret2
 exact ⟨rfl, B1.out⟩

theorem vpasses_run {a b : Nat} (ha : Ang a) (hb : Ang b) (k : Int) (hk : 0 ≤ k ∧ k < 4) (w : World) :
 Calls Tryz.prog 87 #[spanV a b, .int .i64 k] w fun e w' => e = .returned (.bool (passB a b k)) ∧ Below w.heap.size w w' := by
 obtain ⟨o1, f1, v1⟩ := four_x ha
 obtain ⟨o2, f2, v2⟩ := four_x hb
 have c := ceil_spec f1 (by rw [v1]; exact four_bd ha)
 rw [v1] at c
 have s1 := top_small ha
 have x1 : floatToIntVal .f64 (wholeW .up (mX fourW a)) .i64 = some (topN a) := to_int64 c.1 c.2 (by omega)
 have X1 := fun w => xconv x1 w
 have K1 := fun w => ceil_run f1 w
 have r1 := run_mul _ _ _ o1
 have r2 := run_mul _ _ _ o2
 have C0 : Cls w [(w.heap.size, a, b)] (w.alloc (boxO a b)) := (Cls.nil w).new a b
 have n0 : 0 ≤ (k - topN a) % 4 ∧ (k - topN a) % 4 < 4 := by omega
 obtain ⟨n1, n2⟩ := of_int (topN a + (k - topN a) % 4) (by omega)
 have t9 : (FloatKind.f64.format.order (FloatKind.f64.nearest (topN a + (k - topN a) % 4)) (mX fourW b) == some Ordering.lt || FloatKind.f64.format.order (FloatKind.f64.nearest (topN a + (k - topN a) % 4)) (mX fourW b) == some Ordering.eq) = passB a b k := by
  rw [le_words n1 f2, n2, v2]
  unfold passB botN
  rw [decide_eq_decide]
  exact (Int.le_ediv_iff_mul_le (Int.pow_pos (by omega))).symm
 have en : ∀ k, floatOfInt .f64 k = FloatKind.f64.nearest k := fun k => rfl
 have hA := @i64_and3
 unfold boxO at C0
 unfold spanV
 generalize passB a b k = pb at *
 have p0 := (C0.at_ 0 rfl).lo
 have p1 := (C0.at_ 0 rfl).hi
 have B := Lib.hid C0.old
 unfold fourW at *
 clear C0 ha hb o1 f1 v1 o2 f2 v2 c x1 n1 n2
 generalize wholeW .up (mX 4616189618054758400 a) = u1 at *
 generalize mX 4616189618054758400 a = m1 at *
 generalize mX 4616189618054758400 b = m2 at *
 generalize topN a = t1 at *
 generalize hj : (k - t1) % 4 = j at *
 replace t9 := Lib.hid t9
 replace hA := Lib.hid hA
 replace p1 := Lib.hid p1
 go_enter Tryz.func87, Tryz.ntmps87
 go_wp2_with (go_at_call 114; ((with_reducible refine (K1 _).mono ?_); rintro e w' ⟨rfl, rfl⟩))
 generalize w.alloc _ = wq at *
 go_loopw [5] (fun s5 wr => wr = wq ∧ ∃ (i : Nat), (i : Int) ≤ j ∧ s5 = .int .i64 (t1 + (i : Int))) (fun s5 _ => (t1 + j - intOf s5).toNat)
 case atStart => exact ⟨rfl, 0, by omega, by simp⟩
 case round =>
  obtain ⟨rfl, i, hi, rfl⟩ := hrel
  have a3 := hA.out (t1 + (i : Int))
  have p1 := p1.out
  by_cases hlt : (i : Int) < j
  · have w2 : IntKind.i64.wrap (t1 + (i : Int) + 1) = t1 + (i : Int) + 1 := by rw [IntKind.wrap_i64]; omega
    have q : ((t1 + (i : Int)) % 4 != k) = true := by rw [bne_iff_ne]; omega
    clear t9 hA
    go_wp2_with fail
    refine ⟨⟨by first | rfl | trivial, i + 1, by omega, by congr 1; omega⟩, by simp only [intOf]; omega⟩
  · have ej : (i : Int) = j := by omega
    have q : ((t1 + (i : Int)) % 4 != k) = false := by
        have : (t1 + (i : Int)) % 4 = k := by omega
        rw [this]; exact bne_self_eq_false k
    have t9 := t9.out
    rw [ej] at a3 q ⊢
    clear hA
    go_wp2_with (simp only)
    go_ret
    exact ⟨by first | rfl | trivial, B.out⟩

theorem vspread_run {x p q h u : Pr} {t1 t2 : Int} {b1 b2 : Bool} (KH : Hid (∀ w, Calls Tryz.prog 86 #[pv p, pv q] w fun e w' => e = .returned (spanE h.1 h.2 0) ∧ Below w.heap.size w w')) (hu : u = stP h b1 b2) (K1 : Hid (∀ w, Calls Tryz.prog 87 #[pv x, .int .i64 t1] w fun e w' => e = .returned (.bool b1) ∧ Below w.heap.size w w'))
 (K2 : Hid (∀ w, Calls Tryz.prog 87 #[pv x, .int .i64 t2] w fun e w' => e = .returned (.bool b2) ∧ Below w.heap.size w w')) (w : World) :
 Calls Tryz.prog 49 #[pv x, pv p, pv q, .int .i64 t1, .int .i64 t2] w fun e w' => e = .returned (pv u) ∧ Below w.heap.size w w' := by
 obtain ⟨p1, p2⟩ := p
 obtain ⟨q1, q2⟩ := q
 obtain ⟨x1, x2⟩ := x
 obtain ⟨u1, u2⟩ := u
 obtain ⟨h1, h2⟩ := h
 unfold pv spanE spanV at *
 dsimp only at *
 have C0 : Cls w [(w.heap.size, x1, x2), (w.heap.size + 1, p1, p2), (w.heap.size + 1 + 1, q1, q2), (w.heap.size + 1 + 1 + 1, 0, 0)] ((((w.alloc (boxO x1 x2)).alloc (boxO p1 p2)).alloc (boxO q1 q2)).alloc (boxO 0 0)) := by
  have := ((((Cls.nil w).new x1 x2).new p1 p2).new q1 q2).new 0 0
  simp only [List.nil_append, List.cons_append] at this
  rw [show (w.alloc (boxO x1 x2)).heap.size = w.heap.size + 1 by simp, show ((w.alloc (boxO x1 x2)).alloc (boxO p1 p2)).heap.size = w.heap.size + 1 + 1 by simp, show (((w.alloc (boxO x1 x2)).alloc (boxO p1 p2)).alloc (boxO q1 q2)).heap.size = w.heap.size + 1 + 1 + 1 by simp] at this
  exact this
 have hst := @fstore
 unfold boxO at C0
 replace C0 := Lib.hid C0
 cases b1 <;> cases b2
 · obtain ⟨rfl, rfl⟩ : h1 = u1 ∧ h2 = u2 := ⟨(Prod.mk.inj hu).1.symm, (Prod.mk.inj hu).2.symm⟩
   clear hu
   go_enter Tryz.func49, Tryz.ntmps49
   go_wp2_with fail
   have C := C0.out
   clear C0
   generalize (((w.alloc _).alloc _).alloc _).alloc _ = wr at *
   refine (KH.out wr).mono ?_
   rintro _ w0 ⟨rfl, hb⟩
   have C1 := (C.on hb).new h1 h2
   simp only [List.cons_append, List.nil_append] at C1
   unfold boxO at C1
   have a0 := (C1.at_ 0 rfl).lo
   have a1 := (C1.at_ 0 rfl).hi
   replace C1 := Lib.hid C1
   clear C hb KH
   go_wp2_with fail
   have C := C1.out
   clear C1 a0 a1
   generalize w0.alloc _ = wr at *
   generalize w0.heap.size = g at *
   refine (K1.out wr).mono ?_
   rintro _ w1 ⟨rfl, hb⟩
   have C1 := C.on hb
   have a0 := (C1.at_ 4 rfl).lo
   have a1 := (C1.at_ 4 rfl).hi
   have a2 := (C1.at_ 4 rfl).f0
   have a3 := (C1.at_ 4 rfl).f1
   have b0 := (C1.at_ 0 rfl).lo
   have b1 := (C1.at_ 0 rfl).hi
   have C2 := C1
   replace C2 := Lib.hid C2
   clear C C1 hb K1
   go_wp2_with fail
   have C3 := C2.out
   clear a0 a1 a2 a3 b0 b1 C2
   refine (K2.out w1).mono ?_
   rintro _ w2 ⟨rfl, hb⟩
   have C4 := C3.on hb
   have a0 := (C4.at_ 4 rfl).lo
   have a1 := (C4.at_ 4 rfl).hi
   have a2 := (C4.at_ 4 rfl).f0
   have a3 := (C4.at_ 4 rfl).f1
   have r0 := (C4.at_ 3 rfl).lo
   have r1 := (C4.at_ 3 rfl).hi
   have r2 := (C4.at_ 3 rfl).f0
   have r3 := (C4.at_ 3 rfl).f1
   have C5 := C4
   have O := Lib.hid C5.old
   clear C3 C4 C5 hb K2
   go_wp2_with fail
   (try simp only [Exit.vnBlock, Exit.then])
   refine bodyPost_ret (v := spanV h1 h2) ?_ rfl ⟨rfl, ?_⟩
   · rw [results_cell1 rfl]; unfold spanV; go_simp
   · exact (O.out.setCell (by show _ ≤ w.heap.size + 1 + 1 + 1; omega) _).setCell (by show _ ≤ w.heap.size + 1 + 1 + 1; omega) _
 · obtain ⟨rfl, rfl⟩ : 13830554455654793216 = u1 ∧ h2 = u2 := ⟨(Prod.mk.inj hu).1.symm, (Prod.mk.inj hu).2.symm⟩
   clear hu
   go_enter Tryz.func49, Tryz.ntmps49
   go_wp2_with fail
   have C := C0.out
   clear C0
   generalize (((w.alloc _).alloc _).alloc _).alloc _ = wr at *
   refine (KH.out wr).mono ?_
   rintro _ w0 ⟨rfl, hb⟩
   have C1 := (C.on hb).new h1 h2
   simp only [List.cons_append, List.nil_append] at C1
   unfold boxO at C1
   have a0 := (C1.at_ 0 rfl).lo
   have a1 := (C1.at_ 0 rfl).hi
   replace C1 := Lib.hid C1
   clear C hb KH
   go_wp2_with fail
   have C := C1.out
   clear C1 a0 a1
   generalize w0.alloc _ = wr at *
   generalize w0.heap.size = g at *
   refine (K1.out wr).mono ?_
   rintro _ w1 ⟨rfl, hb⟩
   have C1 := C.on hb
   have a0 := (C1.at_ 4 rfl).lo
   have a1 := (C1.at_ 4 rfl).hi
   have a2 := (C1.at_ 4 rfl).f0
   have a3 := (C1.at_ 4 rfl).f1
   have b0 := (C1.at_ 0 rfl).lo
   have b1 := (C1.at_ 0 rfl).hi
   have C2 := C1
   replace C2 := Lib.hid C2
   clear C C1 hb K1
   go_wp2_with fail
   have C3 := C2.out
   clear a0 a1 a2 a3 b0 b1 C2
   refine (K2.out w1).mono ?_
   rintro _ w2 ⟨rfl, hb⟩
   have C4 := C3.on hb
   have a0 := (C4.at_ 4 rfl).lo
   have a1 := (C4.at_ 4 rfl).hi
   have a2 := (C4.at_ 4 rfl).f0
   have a3 := (C4.at_ 4 rfl).f1
   have r0 := (C4.at_ 3 rfl).lo
   have r1 := (C4.at_ 3 rfl).hi
   have r2 := (C4.at_ 3 rfl).f0
   have r3 := (C4.at_ 3 rfl).f1
   have C5 := C4.put0 4 rfl 13830554455654793216
   simp only [List.set_cons_zero, List.set_cons_succ] at C5
   have a0' := (C5.at_ 4 rfl).lo
   have a1' := (C5.at_ 4 rfl).hi
   have r0' := (C5.at_ 3 rfl).lo
   have r1' := (C5.at_ 3 rfl).hi
   have r2' := (C5.at_ 3 rfl).f0
   have r3' := (C5.at_ 3 rfl).f1
   have O := Lib.hid C5.old
   clear C3 C4 C5 hb K2
   go_wp2_with fail
   (try simp only [Exit.vnBlock, Exit.then])
   refine bodyPost_ret (v := spanV 13830554455654793216 h2) ?_ rfl ⟨rfl, ?_⟩
   · rw [results_cell1 rfl]; unfold spanV; go_simp
   · exact (O.out.setCell (by show _ ≤ w.heap.size + 1 + 1 + 1; omega) _).setCell (by show _ ≤ w.heap.size + 1 + 1 + 1; omega) _
 · obtain ⟨rfl, rfl⟩ : h1 = u1 ∧ 4607182418800017408 = u2 := ⟨(Prod.mk.inj hu).1.symm, (Prod.mk.inj hu).2.symm⟩
   clear hu
   go_enter Tryz.func49, Tryz.ntmps49
   go_wp2_with fail
   have C := C0.out
   clear C0
   generalize (((w.alloc _).alloc _).alloc _).alloc _ = wr at *
   refine (KH.out wr).mono ?_
   rintro _ w0 ⟨rfl, hb⟩
   have C1 := (C.on hb).new h1 h2
   simp only [List.cons_append, List.nil_append] at C1
   unfold boxO at C1
   have a0 := (C1.at_ 0 rfl).lo
   have a1 := (C1.at_ 0 rfl).hi
   replace C1 := Lib.hid C1
   clear C hb KH
   go_wp2_with fail
   have C := C1.out
   clear C1 a0 a1
   generalize w0.alloc _ = wr at *
   generalize w0.heap.size = g at *
   refine (K1.out wr).mono ?_
   rintro _ w1 ⟨rfl, hb⟩
   have C1 := C.on hb
   have a0 := (C1.at_ 4 rfl).lo
   have a1 := (C1.at_ 4 rfl).hi
   have a2 := (C1.at_ 4 rfl).f0
   have a3 := (C1.at_ 4 rfl).f1
   have b0 := (C1.at_ 0 rfl).lo
   have b1 := (C1.at_ 0 rfl).hi
   have C2 := C1.put1 4 rfl 4607182418800017408
   simp only [List.set_cons_zero, List.set_cons_succ] at C2
   have b0 := (C2.at_ 0 rfl).lo
   have b1 := (C2.at_ 0 rfl).hi
   replace C2 := Lib.hid C2
   clear C C1 hb K1
   go_wp2_with fail
   have C3 := C2.out
   clear a0 a1 a2 a3 b0 b1 C2
   generalize World.setCell _ _ _ = wq at *
   refine (K2.out wq).mono ?_
   rintro _ w2 ⟨rfl, hb⟩
   have C4 := C3.on hb
   have a0 := (C4.at_ 4 rfl).lo
   have a1 := (C4.at_ 4 rfl).hi
   have a2 := (C4.at_ 4 rfl).f0
   have a3 := (C4.at_ 4 rfl).f1
   have r0 := (C4.at_ 3 rfl).lo
   have r1 := (C4.at_ 3 rfl).hi
   have r2 := (C4.at_ 3 rfl).f0
   have r3 := (C4.at_ 3 rfl).f1
   have C5 := C4
   have O := Lib.hid C5.old
   clear C3 C4 C5 hb K2
   go_wp2_with fail
   (try simp only [Exit.vnBlock, Exit.then])
   refine bodyPost_ret (v := spanV h1 4607182418800017408) ?_ rfl ⟨rfl, ?_⟩
   · rw [results_cell1 rfl]; unfold spanV; go_simp
   · exact (O.out.setCell (by show _ ≤ w.heap.size + 1 + 1 + 1; omega) _).setCell (by show _ ≤ w.heap.size + 1 + 1 + 1; omega) _
 · obtain ⟨rfl, rfl⟩ : 13830554455654793216 = u1 ∧ 4607182418800017408 = u2 := ⟨(Prod.mk.inj hu).1.symm, (Prod.mk.inj hu).2.symm⟩
   clear hu
   go_enter Tryz.func49, Tryz.ntmps49
   go_wp2_with fail
   have C := C0.out
   clear C0
   generalize (((w.alloc _).alloc _).alloc _).alloc _ = wr at *
   refine (KH.out wr).mono ?_
   rintro _ w0 ⟨rfl, hb⟩
   have C1 := (C.on hb).new h1 h2
   simp only [List.cons_append, List.nil_append] at C1
   unfold boxO at C1
   have a0 := (C1.at_ 0 rfl).lo
   have a1 := (C1.at_ 0 rfl).hi
   replace C1 := Lib.hid C1
   clear C hb KH
   go_wp2_with fail
   have C := C1.out
   clear C1 a0 a1
   generalize w0.alloc _ = wr at *
   generalize w0.heap.size = g at *
   refine (K1.out wr).mono ?_
   rintro _ w1 ⟨rfl, hb⟩
   have C1 := C.on hb
   have a0 := (C1.at_ 4 rfl).lo
   have a1 := (C1.at_ 4 rfl).hi
   have a2 := (C1.at_ 4 rfl).f0
   have a3 := (C1.at_ 4 rfl).f1
   have b0 := (C1.at_ 0 rfl).lo
   have b1 := (C1.at_ 0 rfl).hi
   have C2 := C1.put1 4 rfl 4607182418800017408
   simp only [List.set_cons_zero, List.set_cons_succ] at C2
   have b0 := (C2.at_ 0 rfl).lo
   have b1 := (C2.at_ 0 rfl).hi
   replace C2 := Lib.hid C2
   clear C C1 hb K1
   go_wp2_with fail
   have C3 := C2.out
   clear a0 a1 a2 a3 b0 b1 C2
   generalize World.setCell _ _ _ = wq at *
   refine (K2.out wq).mono ?_
   rintro _ w2 ⟨rfl, hb⟩
   have C4 := C3.on hb
   have a0 := (C4.at_ 4 rfl).lo
   have a1 := (C4.at_ 4 rfl).hi
   have a2 := (C4.at_ 4 rfl).f0
   have a3 := (C4.at_ 4 rfl).f1
   have r0 := (C4.at_ 3 rfl).lo
   have r1 := (C4.at_ 3 rfl).hi
   have r2 := (C4.at_ 3 rfl).f0
   have r3 := (C4.at_ 3 rfl).f1
   have C5 := C4.put0 4 rfl 13830554455654793216
   simp only [List.set_cons_zero, List.set_cons_succ] at C5
   have a0' := (C5.at_ 4 rfl).lo
   have a1' := (C5.at_ 4 rfl).hi
   have r0' := (C5.at_ 3 rfl).lo
   have r1' := (C5.at_ 3 rfl).hi
   have r2' := (C5.at_ 3 rfl).f0
   have r3' := (C5.at_ 3 rfl).f1
   have O := Lib.hid C5.old
   clear C3 C4 C5 hb K2
   go_wp2_with fail
   (try simp only [Exit.vnBlock, Exit.then])
   refine bodyPost_ret (v := spanV 13830554455654793216 4607182418800017408) ?_ rfl ⟨rfl, ?_⟩
   · rw [results_cell1 rfl]; unfold spanV; go_simp
   · exact (O.out.setCell (by show _ ≤ w.heap.size + 1 + 1 + 1; omega) _).setCell (by show _ ≤ w.heap.size + 1 + 1 + 1; omega) _
end Go.Proofs.YtgnofnjbmiepjaaGreat

namespace Go.Proofs.YtgnofnjbmiepjaaGreat
open Go.ChangeShapes Go.WideShapes Go.ChangeAt Go.RowKit Ieee.Own

theorem vss17 {Z P : Pr} (hz : Z.1 < 18446744073709551616 ∧ Z.2 < 18446744073709551616) (hP : SerR Z sinW P) (w : World) : Calls Tryz.prog 83 #[pv Z, .int .i64 3, .int .i64 17] w fun e w' => e = .returned (pv P) ∧ Below w.heap.size w w' := by
 have F := Lib.hid (fun w => rfac_run w)
 obtain ⟨L0, hL⟩ : ∃ L, L = rfacL := ⟨_, rfl⟩
 have len : L0.length = 16 := by rw [hL]; rfl
 have lt : Hid (∀ i, L0.getD i 0 < 18446744073709551616) := by
  intro i
  rw [hL]
  by_cases h : i < 16
  · have : ∀ i, i < 16 → rfacL.getD i 0 < 18446744073709551616 := by decide
    exact this i h
  · rw [List.getD_eq_getElem?_getD, List.getElem?_eq_none (by show 16 ≤ i; omega)]; decide
 have step : Hid (∀ i, i < 8 → ∃ P1 M P2, SerR Z (sinW.drop (8 - i)) P1 ∧ MulR Z P1 M ∧ AddR (facS (L0.getD (15 - 2 * i) 0)) M P2 ∧ SerR Z (sinW.drop (7 - i)) P2) := by
  intro i hi
  obtain ⟨P1, M, P2, k1, k2, k3, k4⟩ := ser_back sinW P hP i hi
  have e : L0.getD (15 - 2 * i) 0 = sinW.getD (7 - i) 0 := by
   rw [hL]
   have : i = 0 ∨ i = 1 ∨ i = 2 ∨ i = 3 ∨ i = 4 ∨ i = 5 ∨ i = 6 ∨ i = 7 := by omega
   rcases this with rfl | rfl | rfl | rfl | rfl | rfl | rfl | rfl <;> rfl
  exact ⟨P1, M, P2, k1, k2, by rw [e]; exact k3, k4⟩
 have at0 : Hid (SerR Z (sinW.drop 0) P) := hP
 have at8 : Hid (SerR Z (sinW.drop 8) (0, 0)) := rfl
 have hsn := rfac_store L0 len
 have hfl : (flV L0).length = L0.length := flV_len L0
 rw [len] at hfl
 rw [← hL] at F
 have C0 : Cls w [(w.heap.size, Z.1, Z.2), (w.heap.size + 1, 0, 0)] ((w.alloc (boxO Z.1 Z.2)).alloc (boxO 0 0)) := by
  have := ((Cls.nil w).new Z.1 Z.2).new 0 0
  simp only [List.nil_append, List.cons_append] at this
  rw [show (w.alloc (boxO Z.1 Z.2)).heap.size = w.heap.size + 1 by simp] at this
  exact this
 have hst := @fstore
 generalize hW : sinW = W at *
 obtain ⟨z1, z2⟩ := Z
 dsimp only at *
 clear hL hW hP
 unfold boxO at C0
 have epz : pv (z1, z2) = .agg #[.float .f64 z1, .float .f64 z2] := rfl
 rw [epz]
 replace C0 := Lib.hid C0
 replace len := Lib.hid len
 replace hz := Lib.hid hz
 clear epz
 go_enter Tryz.func83, Tryz.ntmps83
 go_wp2_with fail
 have C := C0.out
 clear C0
 generalize (w.alloc _).alloc _ = wr at *
 refine (F.out wr).mono ?_
 rintro _ w1 ⟨rfl, hb1⟩
 have C1 := C.on hb1
 have ba : Below w1.heap.size w1 (w1.alloc (.cells (flV L0).toArray 100)) := (Below.refl _ w1).alloc (Nat.le_refl _) _
 have R : Arr (w1.alloc (.cells (flV L0).toArray 100)) w1.heap.size L0 := ⟨by simp, fun i hi => fl_at (range_alloc w1 (flV L0) 100) i hi⟩
 have gne : Hid (w1.heap.size ≠ (w1.alloc (.cells (flV L0).toArray 100)).heap.size) := by show _ ≠ _; simp
 have C2 := C1.on ba
 have C3 := C2.new 0 0
 have R3 := R.on ((Below.refl _ _).alloc (Nat.le_refl _) (boxO 0 0))
 unfold boxO at C3 R3
 simp only [List.cons_append, List.nil_append] at C3
 replace C3 := Lib.hid C3
 replace R3 := Lib.hid R3
 clear C C1 C2 R ba hb1 F
 go_wp2_with fail
 rw [show (w1.alloc (.cells (flV L0).toArray 100)).heap.size = w1.heap.size + 1 by simp] at C3
 clear gne hsn hfl hst
 generalize (w1.alloc _).alloc _ = wq at *
 generalize w1.heap.size = g at *
 go_loopw [9] (fun s9 wr => ∃ (i : Nat) (P1 : Pr), i ≤ 8 ∧ s9 = .int .i64 (17 - 2 * (i : Int)) ∧ SerR (z1, z2) (W.drop (8 - i)) P1 ∧ Cls w [(w.heap.size, z1, z2), (w.heap.size + 1, 0, 0), (g + 1, P1.1, P1.2)] wr ∧ Arr wr g L0) (fun s9 _ => (intOf s9).toNat)
 case atStart => exact ⟨0, (0, 0), by omega, rfl, at8.out, C3.out, R3.out⟩
 case round =>
  obtain ⟨i, P1, hi, rfl, hS, hC, hR⟩ := hrel
  by_cases hlt : i < 8
  · obtain ⟨P1', M, P2, k1, k2, k3, k4⟩ := step.out i hlt
    obtain rfl := hS.uniq k1
    have ha := lt.out (15 - 2 * i)
    have hk : 15 - 2 * i < L0.length := by have := len.out; omega
    have hp := ser_lt k1
    have hm := mul_lt k2
    have k4 := Lib.hid k4
    replace hC := Lib.hid hC
    replace hR := Lib.hid hR
    replace k2 := Lib.hid k2
    replace k3 := Lib.hid k3
    replace hp := Lib.hid hp
    replace hm := Lib.hid hm
    replace ha := Lib.hid ha
    replace hk := Lib.hid hk
    clear hS k1 step at0
    go_upto_region 6 with fail
    generalize hds : ([some 17, some 18, some 19, some 20, some 21, some 22, some 23, some 24, some 25, none] : List (Option Tmp)) = ds
    have hap : apartL ds = true := by rw [← hds]; decide
    have hds := hds.symm
    refine wp_region_sts [(w.heap.size, z1, z2), (w.heap.size + 1, 0, 0), (g + 1, P2.1, P2.2)] [⟨9, 2, g + 1, P2.1, P2.2⟩] [.int .i64 (17 - 2 * (i : Int)), .int .i64 (15 - 2 * (i : Int)), .pointer (some ⟨g, 15 - 2 * i, none⟩), .float .f64 (L0.getD (15 - 2 * i) 0), pv (facS (L0.getD (15 - 2 * i) 0)), pv (z1, z2), pv P1, pv M, pv P2, undef]
        ds (by kernel_rfl) (by rw [hds]; rfl) hap (by decide +kernel) (by decide +kernel) rfl hC.out ?hE2 ?hE3 ?hj ?hi ?his (fun W => Arr W g L0) hR.out.drew (fun _ _ A h => A.on h) ?hJs ?step ?store ?fin
    case hE2 =>
        intro j h
        have n0 : 2 ≠ j := h _ (List.mem_cons_self ..)
        rcases j with _ | _ | _ | j
        · rfl
        · rfl
        · exact absurd rfl n0
        · rfl
    case hE3 => intro st h; rcases List.mem_singleton.1 h with rfl <;> rfl
    case hj => intro st h; rcases List.mem_singleton.1 h with rfl <;> exact ⟨_, _, rfl⟩
    case hi => intro st h st' h' _; rcases List.mem_singleton.1 h with rfl; rcases List.mem_singleton.1 h' with rfl; rfl
    case his => intro st h; rcases List.mem_singleton.1 h with rfl
                · show 9 < 10; decide
    case hJs => intro st h W A; obtain rfl := List.mem_singleton.1 h; exact A.put (by show g ≠ g + 1; omega)
    case step =>
        intro L W i o ho hs hd hB hJ
        have hi : i < 10 := (Array.getElem?_eq_some_iff.1 ho).1
        have : i = 0 ∨ i = 1 ∨ i = 2 ∨ i = 3 ∨ i = 4 ∨ i = 5 ∨ i = 6 ∨ i = 7 ∨ i = 8 ∨ i = 9 := by omega
        rcases this with rfl | rfl | rfl | rfl | rfl | rfl | rfl | rfl | rfl | rfl
        · obtain rfl := Option.some.inj ho
          refine .value W ?_ (Below.refl _ _)
          generalize hA : (puts ds L _).eval = ρ
          have h0 : ρ (.tmp 9) = .int .i64 (17 - 2 * (i : Int)) := by rw [← hA]; exact (puts_old ds L _ (by rw [hds]; decide)).trans rfl
          exact ex_move W rfl h0
        · obtain rfl := Option.some.inj ho
          refine .value W ?_ (Below.refl _ _)
          generalize hA : (puts ds L _).eval = ρ
          have hc : ∀ v, ρ (.const v) = v := fun v => by rw [← hA]; rfl
          have h0 : ρ (.tmp 17) = .int .i64 (17 - 2 * (i : Int)) := by rw [← hA]; exact puts_get 0 ds L _ hap (by rw [hds]; rfl) (hd 0 (by decide +kernel)) (show 17 < 27 by decide)
          have e : IntKind.i64.wrap (17 - 2 * (i : Int) - 2) = 15 - 2 * (i : Int) := by rw [IntKind.wrap_i64]; omega
          unfold execOp
          go_simp
        · obtain rfl := Option.some.inj ho
          refine .value W ?_ (Below.refl _ _)
          generalize hA : (puts ds L _).eval = ρ
          have hc : ∀ v, ρ (.const v) = v := fun v => by rw [← hA]; rfl
          have h0 : ρ (.tmp 7) = .pointer (some ⟨g, 0, none⟩) := by rw [← hA]; exact (puts_old ds L _ (by rw [hds]; decide)).trans rfl
          have h1 : ρ (.tmp 18) = .int .i64 (15 - 2 * (i : Int)) := by rw [← hA]; exact puts_get 1 ds L _ hap (by rw [hds]; rfl) (hd 1 (by decide +kernel)) (show 18 < 27 by decide)
          have e1 : 2 * (i : Int) ≤ 15 := by omega
          have e2 : 15 - 2 * (i : Int) < 16 := by omega
          have e3 : (15 - 2 * (i : Int)).toNat = 15 - 2 * i := by omega
          unfold execOp
          go_simp
        · obtain rfl := Option.some.inj ho
          refine .value W ?_ (Below.refl _ _)
          generalize hA : (puts ds L _).eval = ρ
          have hc : ∀ v, ρ (.const v) = v := fun v => by rw [← hA]; rfl
          have h0 : ρ (.tmp 19) = .pointer (some ⟨g, 15 - 2 * i, none⟩) := by rw [← hA]; exact puts_get 2 ds L _ hap (by rw [hds]; rfl) (hd 2 (by decide +kernel)) (show 19 < 27 by decide)
          have c := hJ.at_ _ hk.out
          unfold execOp
          go_simp
        · obtain rfl := Option.some.inj ho
          refine .call 112 #[.float .f64 (L0.getD (15 - 2 * i) 0)] ?_ (vabout_run ha.out W)
          generalize hA : (puts ds L _).eval = ρ
          have hc : ∀ v, ρ (.const v) = v := fun v => by rw [← hA]; rfl
          have hg : ∀ g, ρ (.func g) = .func (.func g) #[] #[] := fun v => by rw [← hA]; rfl
          have h0 : ρ (.tmp 20) = .float .f64 (L0.getD (15 - 2 * i) 0) := by rw [← hA]; exact puts_get 3 ds L _ hap (by rw [hds]; rfl) (hd 3 (by decide +kernel)) (show 20 < 27 by decide)
          have hf := Tryz.func112
          unfold execOp
          go_simp
        · obtain rfl := Option.some.inj ho
          have b := hB 0 _ _ _ rfl (by
           intro st hst e
           simp only [List.mem_cons, List.not_mem_nil, or_false] at hst
           rcases hst with rfl
           · exact absurd e (show ¬ 2 = 0 by decide))
          refine .value W ?_ (Below.refl _ _)
          generalize hA : (puts ds L _).eval = ρ
          have h0 : ρ (.tmp 3) = .pointer (some ⟨w.heap.size, 0, none⟩) := by rw [← hA]; exact (puts_old ds L _ (by rw [hds]; decide)).trans rfl
          exact ex_loads rfl h0 b.lo b.hi
        · obtain rfl := Option.some.inj ho
          have b := hB 2 _ _ _ rfl (by
           intro st hst e
           simp only [List.mem_cons, List.not_mem_nil, or_false] at hst
           rcases hst with rfl
           · change needs _ _ 9 6 = true; decide +kernel)
          refine .value W ?_ (Below.refl _ _)
          generalize hA : (puts ds L _).eval = ρ
          have h0 : ρ (.tmp 8) = .pointer (some ⟨g + 1, 0, none⟩) := by rw [← hA]; exact (puts_old ds L _ (by rw [hds]; decide)).trans rfl
          exact ex_loads rfl h0 b.lo b.hi
        · obtain rfl := Option.some.inj ho
          refine .call 81 #[pv (z1, z2), pv P1] ?_ (vmul_run hz.out.1 hz.out.2 hp.out.1 hp.out.2 k2.out W)
          generalize hA : (puts ds L _).eval = ρ
          have hc : ∀ v, ρ (.const v) = v := fun v => by rw [← hA]; rfl
          have hg : ∀ g, ρ (.func g) = .func (.func g) #[] #[] := fun v => by rw [← hA]; rfl
          have h0 : ρ (.tmp 22) = pv (z1, z2) := by rw [← hA]; exact puts_get 5 ds L _ hap (by rw [hds]; rfl) (hd 5 (by decide +kernel)) (show 22 < 27 by decide)
          have h1 : ρ (.tmp 23) = pv P1 := by rw [← hA]; exact puts_get 6 ds L _ hap (by rw [hds]; rfl) (hd 6 (by decide +kernel)) (show 23 < 27 by decide)
          have hf := Tryz.func81
          unfold execOp
          go_simp
        · obtain rfl := Option.some.inj ho
          refine .call 82 #[pv (facS (L0.getD (15 - 2 * i) 0)), pv M] ?_ (vadd_run (facS_lt ha.out).1 (facS_lt ha.out).2 hm.out.1 hm.out.2 k3.out W)
          generalize hA : (puts ds L _).eval = ρ
          have hc : ∀ v, ρ (.const v) = v := fun v => by rw [← hA]; rfl
          have hg : ∀ g, ρ (.func g) = .func (.func g) #[] #[] := fun v => by rw [← hA]; rfl
          have h0 : ρ (.tmp 21) = pv (facS (L0.getD (15 - 2 * i) 0)) := by rw [← hA]; exact puts_get 4 ds L _ hap (by rw [hds]; rfl) (hd 4 (by decide +kernel)) (show 21 < 27 by decide)
          have h1 : ρ (.tmp 24) = pv M := by rw [← hA]; exact puts_get 7 ds L _ hap (by rw [hds]; rfl) (hd 7 (by decide +kernel)) (show 24 < 27 by decide)
          have hf := Tryz.func82
          unfold execOp
          go_simp
        · exact absurd rfl (hs _ (List.mem_cons_self ..))
    case store =>
        intro st hst L W o x y ho hd b
        generalize hA : (puts ds L _).eval = ρ
        simp only [List.mem_cons, List.not_mem_nil, or_false] at hst
        rcases hst with rfl
        · dsimp only at ho b ⊢
          obtain rfl := Option.some.inj ho
          have h0 : ρ (.tmp 8) = .pointer (some ⟨g + 1, 0, none⟩) := by rw [← hA]; exact (puts_old ds L _ (by rw [hds]; decide)).trans rfl
          have h1 : ρ (.tmp 25) = pv P2 := by rw [← hA]; exact puts_get 8 ds L _ hap (by rw [hds]; rfl) (hd 8 (by decide +kernel)) (show 25 < 27 by decide)
          exact ⟨ex_store rfl h0 h1 b.lo b.hi b.f0 b.f1, rfl⟩
    case fin =>
        intro w' hC' hR'
        rw [hds]
        clear hds hap k2 k3 hp hm ha hk hR hC lt
        simp only [List.map_cons, List.map_nil, puts, Act.put, List.setIfInBounds_toArray, List.set_cons_zero, List.set_cons_succ]
        go_wp2_with fail
        have e8 : 8 - (i + 1) = 7 - i := by omega
        refine ⟨⟨i + 1, P2, by omega, by congr 1; omega, ?_, hC', hR'⟩, by simp only [intOf]; omega⟩
        rw [e8]; exact k4.out
  · obtain rfl : i = 8 := by omega
    obtain rfl := hS.uniq at0.out
    have c0 := (hC.at_ 2 rfl).lo
    have c1 := (hC.at_ 2 rfl).hi
    have d0 := (hC.at_ 1 rfl).lo
    have d1 := (hC.at_ 1 rfl).hi
    have f0 := (hC.at_ 1 rfl).f0
    have f1 := (hC.at_ 1 rfl).f1
    have B := Lib.hid hC.old
    have hst := @fstore
    obtain ⟨x1, x2⟩ := P1
    dsimp only at c0 c1
    clear hC hR hS at0 at8 step C3 R3
    go_wp2_with fail
    (try simp only [Exit.vnBlock, Exit.then])
    refine bodyPost_ret (v := spanV x1 x2) ?_ rfl ⟨rfl, ?_⟩
    · rw [results_cell1 rfl]; unfold spanV; go_simp
    · exact (B.out.setCell (by show _ ≤ w.heap.size + 1; omega) _).setCell (by show _ ≤ w.heap.size + 1; omega) _
theorem vss16 {Z P : Pr} (hz : Z.1 < 18446744073709551616 ∧ Z.2 < 18446744073709551616) (hP : SerR Z cosW P) (w : World) : Calls Tryz.prog 83 #[pv Z, .int .i64 2, .int .i64 16] w fun e w' => e = .returned (pv P) ∧ Below w.heap.size w w' := by
 have F := Lib.hid (fun w => rfac_run w)
 obtain ⟨L0, hL⟩ : ∃ L, L = rfacL := ⟨_, rfl⟩
 have len : L0.length = 16 := by rw [hL]; rfl
 have lt : Hid (∀ i, L0.getD i 0 < 18446744073709551616) := by
  intro i
  rw [hL]
  by_cases h : i < 16
  · have : ∀ i, i < 16 → rfacL.getD i 0 < 18446744073709551616 := by decide
    exact this i h
  · rw [List.getD_eq_getElem?_getD, List.getElem?_eq_none (by show 16 ≤ i; omega)]; decide
 have step : Hid (∀ i, i < 8 → ∃ P1 M P2, SerR Z (cosW.drop (8 - i)) P1 ∧ MulR Z P1 M ∧ AddR (facS (L0.getD (14 - 2 * i) 0)) M P2 ∧ SerR Z (cosW.drop (7 - i)) P2) := by
  intro i hi
  obtain ⟨P1, M, P2, k1, k2, k3, k4⟩ := ser_back cosW P hP i hi
  have e : L0.getD (14 - 2 * i) 0 = cosW.getD (7 - i) 0 := by
   rw [hL]
   have : i = 0 ∨ i = 1 ∨ i = 2 ∨ i = 3 ∨ i = 4 ∨ i = 5 ∨ i = 6 ∨ i = 7 := by omega
   rcases this with rfl | rfl | rfl | rfl | rfl | rfl | rfl | rfl <;> rfl
  exact ⟨P1, M, P2, k1, k2, by rw [e]; exact k3, k4⟩
 have at0 : Hid (SerR Z (cosW.drop 0) P) := hP
 have at8 : Hid (SerR Z (cosW.drop 8) (0, 0)) := rfl
 have hsn := rfac_store L0 len
 have hfl : (flV L0).length = L0.length := flV_len L0
 rw [len] at hfl
 rw [← hL] at F
 have C0 : Cls w [(w.heap.size, Z.1, Z.2), (w.heap.size + 1, 0, 0)] ((w.alloc (boxO Z.1 Z.2)).alloc (boxO 0 0)) := by
  have := ((Cls.nil w).new Z.1 Z.2).new 0 0
  simp only [List.nil_append, List.cons_append] at this
  rw [show (w.alloc (boxO Z.1 Z.2)).heap.size = w.heap.size + 1 by simp] at this
  exact this
 have hst := @fstore
 generalize hW : cosW = W at *
 obtain ⟨z1, z2⟩ := Z
 dsimp only at *
 clear hL hW hP
 unfold boxO at C0
 have epz : pv (z1, z2) = .agg #[.float .f64 z1, .float .f64 z2] := rfl
 rw [epz]
 replace C0 := Lib.hid C0
 replace len := Lib.hid len
 replace hz := Lib.hid hz
 clear epz
 go_enter Tryz.func83, Tryz.ntmps83
 go_wp2_with fail
 have C := C0.out
 clear C0
 generalize (w.alloc _).alloc _ = wr at *
 refine (F.out wr).mono ?_
 rintro _ w1 ⟨rfl, hb1⟩
 have C1 := C.on hb1
 have ba : Below w1.heap.size w1 (w1.alloc (.cells (flV L0).toArray 100)) := (Below.refl _ w1).alloc (Nat.le_refl _) _
 have R : Arr (w1.alloc (.cells (flV L0).toArray 100)) w1.heap.size L0 := ⟨by simp, fun i hi => fl_at (range_alloc w1 (flV L0) 100) i hi⟩
 have gne : Hid (w1.heap.size ≠ (w1.alloc (.cells (flV L0).toArray 100)).heap.size) := by show _ ≠ _; simp
 have C2 := C1.on ba
 have C3 := C2.new 0 0
 have R3 := R.on ((Below.refl _ _).alloc (Nat.le_refl _) (boxO 0 0))
 unfold boxO at C3 R3
 simp only [List.cons_append, List.nil_append] at C3
 replace C3 := Lib.hid C3
 replace R3 := Lib.hid R3
 clear C C1 C2 R ba hb1 F
 go_wp2_with fail
 rw [show (w1.alloc (.cells (flV L0).toArray 100)).heap.size = w1.heap.size + 1 by simp] at C3
 clear gne hsn hfl hst
 generalize (w1.alloc _).alloc _ = wq at *
 generalize w1.heap.size = g at *
 go_loopw [9] (fun s9 wr => ∃ (i : Nat) (P1 : Pr), i ≤ 8 ∧ s9 = .int .i64 (16 - 2 * (i : Int)) ∧ SerR (z1, z2) (W.drop (8 - i)) P1 ∧ Cls w [(w.heap.size, z1, z2), (w.heap.size + 1, 0, 0), (g + 1, P1.1, P1.2)] wr ∧ Arr wr g L0) (fun s9 _ => (intOf s9).toNat)
 case atStart => exact ⟨0, (0, 0), by omega, rfl, at8.out, C3.out, R3.out⟩
 case round =>
  obtain ⟨i, P1, hi, rfl, hS, hC, hR⟩ := hrel
  by_cases hlt : i < 8
  · obtain ⟨P1', M, P2, k1, k2, k3, k4⟩ := step.out i hlt
    obtain rfl := hS.uniq k1
    have ha := lt.out (14 - 2 * i)
    have hk : 14 - 2 * i < L0.length := by have := len.out; omega
    have hp := ser_lt k1
    have hm := mul_lt k2
    have k4 := Lib.hid k4
    replace hC := Lib.hid hC
    replace hR := Lib.hid hR
    replace k2 := Lib.hid k2
    replace k3 := Lib.hid k3
    replace hp := Lib.hid hp
    replace hm := Lib.hid hm
    replace ha := Lib.hid ha
    replace hk := Lib.hid hk
    clear hS k1 step at0
    go_upto_region 6 with fail
    generalize hds : ([some 17, some 18, some 19, some 20, some 21, some 22, some 23, some 24, some 25, none] : List (Option Tmp)) = ds
    have hap : apartL ds = true := by rw [← hds]; decide
    have hds := hds.symm
    refine wp_region_sts [(w.heap.size, z1, z2), (w.heap.size + 1, 0, 0), (g + 1, P2.1, P2.2)] [⟨9, 2, g + 1, P2.1, P2.2⟩] [.int .i64 (16 - 2 * (i : Int)), .int .i64 (14 - 2 * (i : Int)), .pointer (some ⟨g, 14 - 2 * i, none⟩), .float .f64 (L0.getD (14 - 2 * i) 0), pv (facS (L0.getD (14 - 2 * i) 0)), pv (z1, z2), pv P1, pv M, pv P2, undef]
        ds (by kernel_rfl) (by rw [hds]; rfl) hap (by decide +kernel) (by decide +kernel) rfl hC.out ?hE2 ?hE3 ?hj ?hi ?his (fun W => Arr W g L0) hR.out.drew (fun _ _ A h => A.on h) ?hJs ?step ?store ?fin
    case hE2 =>
        intro j h
        have n0 : 2 ≠ j := h _ (List.mem_cons_self ..)
        rcases j with _ | _ | _ | j
        · rfl
        · rfl
        · exact absurd rfl n0
        · rfl
    case hE3 => intro st h; rcases List.mem_singleton.1 h with rfl <;> rfl
    case hj => intro st h; rcases List.mem_singleton.1 h with rfl <;> exact ⟨_, _, rfl⟩
    case hi => intro st h st' h' _; rcases List.mem_singleton.1 h with rfl; rcases List.mem_singleton.1 h' with rfl; rfl
    case his => intro st h; rcases List.mem_singleton.1 h with rfl
                · show 9 < 10; decide
    case hJs => intro st h W A; obtain rfl := List.mem_singleton.1 h; exact A.put (by show g ≠ g + 1; omega)
    case step =>
        intro L W i o ho hs hd hB hJ
        have hi : i < 10 := (Array.getElem?_eq_some_iff.1 ho).1
        have : i = 0 ∨ i = 1 ∨ i = 2 ∨ i = 3 ∨ i = 4 ∨ i = 5 ∨ i = 6 ∨ i = 7 ∨ i = 8 ∨ i = 9 := by omega
        rcases this with rfl | rfl | rfl | rfl | rfl | rfl | rfl | rfl | rfl | rfl
        · obtain rfl := Option.some.inj ho
          refine .value W ?_ (Below.refl _ _)
          generalize hA : (puts ds L _).eval = ρ
          have h0 : ρ (.tmp 9) = .int .i64 (16 - 2 * (i : Int)) := by rw [← hA]; exact (puts_old ds L _ (by rw [hds]; decide)).trans rfl
          exact ex_move W rfl h0
        · obtain rfl := Option.some.inj ho
          refine .value W ?_ (Below.refl _ _)
          generalize hA : (puts ds L _).eval = ρ
          have hc : ∀ v, ρ (.const v) = v := fun v => by rw [← hA]; rfl
          have h0 : ρ (.tmp 17) = .int .i64 (16 - 2 * (i : Int)) := by rw [← hA]; exact puts_get 0 ds L _ hap (by rw [hds]; rfl) (hd 0 (by decide +kernel)) (show 17 < 27 by decide)
          have e : IntKind.i64.wrap (16 - 2 * (i : Int) - 2) = 14 - 2 * (i : Int) := by rw [IntKind.wrap_i64]; omega
          unfold execOp
          go_simp
        · obtain rfl := Option.some.inj ho
          refine .value W ?_ (Below.refl _ _)
          generalize hA : (puts ds L _).eval = ρ
          have hc : ∀ v, ρ (.const v) = v := fun v => by rw [← hA]; rfl
          have h0 : ρ (.tmp 7) = .pointer (some ⟨g, 0, none⟩) := by rw [← hA]; exact (puts_old ds L _ (by rw [hds]; decide)).trans rfl
          have h1 : ρ (.tmp 18) = .int .i64 (14 - 2 * (i : Int)) := by rw [← hA]; exact puts_get 1 ds L _ hap (by rw [hds]; rfl) (hd 1 (by decide +kernel)) (show 18 < 27 by decide)
          have e1 : 2 * (i : Int) ≤ 14 := by omega
          have e2 : 14 - 2 * (i : Int) < 16 := by omega
          have e3 : (14 - 2 * (i : Int)).toNat = 14 - 2 * i := by omega
          unfold execOp
          go_simp
        · obtain rfl := Option.some.inj ho
          refine .value W ?_ (Below.refl _ _)
          generalize hA : (puts ds L _).eval = ρ
          have hc : ∀ v, ρ (.const v) = v := fun v => by rw [← hA]; rfl
          have h0 : ρ (.tmp 19) = .pointer (some ⟨g, 14 - 2 * i, none⟩) := by rw [← hA]; exact puts_get 2 ds L _ hap (by rw [hds]; rfl) (hd 2 (by decide +kernel)) (show 19 < 27 by decide)
          have c := hJ.at_ _ hk.out
          unfold execOp
          go_simp
        · obtain rfl := Option.some.inj ho
          refine .call 112 #[.float .f64 (L0.getD (14 - 2 * i) 0)] ?_ (vabout_run ha.out W)
          generalize hA : (puts ds L _).eval = ρ
          have hc : ∀ v, ρ (.const v) = v := fun v => by rw [← hA]; rfl
          have hg : ∀ g, ρ (.func g) = .func (.func g) #[] #[] := fun v => by rw [← hA]; rfl
          have h0 : ρ (.tmp 20) = .float .f64 (L0.getD (14 - 2 * i) 0) := by rw [← hA]; exact puts_get 3 ds L _ hap (by rw [hds]; rfl) (hd 3 (by decide +kernel)) (show 20 < 27 by decide)
          have hf := Tryz.func112
          unfold execOp
          go_simp
        · obtain rfl := Option.some.inj ho
          have b := hB 0 _ _ _ rfl (by
           intro st hst e
           simp only [List.mem_cons, List.not_mem_nil, or_false] at hst
           rcases hst with rfl
           · exact absurd e (show ¬ 2 = 0 by decide))
          refine .value W ?_ (Below.refl _ _)
          generalize hA : (puts ds L _).eval = ρ
          have h0 : ρ (.tmp 3) = .pointer (some ⟨w.heap.size, 0, none⟩) := by rw [← hA]; exact (puts_old ds L _ (by rw [hds]; decide)).trans rfl
          exact ex_loads rfl h0 b.lo b.hi
        · obtain rfl := Option.some.inj ho
          have b := hB 2 _ _ _ rfl (by
           intro st hst e
           simp only [List.mem_cons, List.not_mem_nil, or_false] at hst
           rcases hst with rfl
           · change needs _ _ 9 6 = true; decide +kernel)
          refine .value W ?_ (Below.refl _ _)
          generalize hA : (puts ds L _).eval = ρ
          have h0 : ρ (.tmp 8) = .pointer (some ⟨g + 1, 0, none⟩) := by rw [← hA]; exact (puts_old ds L _ (by rw [hds]; decide)).trans rfl
          exact ex_loads rfl h0 b.lo b.hi
        · obtain rfl := Option.some.inj ho
          refine .call 81 #[pv (z1, z2), pv P1] ?_ (vmul_run hz.out.1 hz.out.2 hp.out.1 hp.out.2 k2.out W)
          generalize hA : (puts ds L _).eval = ρ
          have hc : ∀ v, ρ (.const v) = v := fun v => by rw [← hA]; rfl
          have hg : ∀ g, ρ (.func g) = .func (.func g) #[] #[] := fun v => by rw [← hA]; rfl
          have h0 : ρ (.tmp 22) = pv (z1, z2) := by rw [← hA]; exact puts_get 5 ds L _ hap (by rw [hds]; rfl) (hd 5 (by decide +kernel)) (show 22 < 27 by decide)
          have h1 : ρ (.tmp 23) = pv P1 := by rw [← hA]; exact puts_get 6 ds L _ hap (by rw [hds]; rfl) (hd 6 (by decide +kernel)) (show 23 < 27 by decide)
          have hf := Tryz.func81
          unfold execOp
          go_simp
        · obtain rfl := Option.some.inj ho
          refine .call 82 #[pv (facS (L0.getD (14 - 2 * i) 0)), pv M] ?_ (vadd_run (facS_lt ha.out).1 (facS_lt ha.out).2 hm.out.1 hm.out.2 k3.out W)
          generalize hA : (puts ds L _).eval = ρ
          have hc : ∀ v, ρ (.const v) = v := fun v => by rw [← hA]; rfl
          have hg : ∀ g, ρ (.func g) = .func (.func g) #[] #[] := fun v => by rw [← hA]; rfl
          have h0 : ρ (.tmp 21) = pv (facS (L0.getD (14 - 2 * i) 0)) := by rw [← hA]; exact puts_get 4 ds L _ hap (by rw [hds]; rfl) (hd 4 (by decide +kernel)) (show 21 < 27 by decide)
          have h1 : ρ (.tmp 24) = pv M := by rw [← hA]; exact puts_get 7 ds L _ hap (by rw [hds]; rfl) (hd 7 (by decide +kernel)) (show 24 < 27 by decide)
          have hf := Tryz.func82
          unfold execOp
          go_simp
        · exact absurd rfl (hs _ (List.mem_cons_self ..))
    case store =>
        intro st hst L W o x y ho hd b
        generalize hA : (puts ds L _).eval = ρ
        simp only [List.mem_cons, List.not_mem_nil, or_false] at hst
        rcases hst with rfl
        · dsimp only at ho b ⊢
          obtain rfl := Option.some.inj ho
          have h0 : ρ (.tmp 8) = .pointer (some ⟨g + 1, 0, none⟩) := by rw [← hA]; exact (puts_old ds L _ (by rw [hds]; decide)).trans rfl
          have h1 : ρ (.tmp 25) = pv P2 := by rw [← hA]; exact puts_get 8 ds L _ hap (by rw [hds]; rfl) (hd 8 (by decide +kernel)) (show 25 < 27 by decide)
          exact ⟨ex_store rfl h0 h1 b.lo b.hi b.f0 b.f1, rfl⟩
    case fin =>
        intro w' hC' hR'
        rw [hds]
        clear hds hap k2 k3 hp hm ha hk hR hC lt
        simp only [List.map_cons, List.map_nil, puts, Act.put, List.setIfInBounds_toArray, List.set_cons_zero, List.set_cons_succ]
        go_wp2_with fail
        have e8 : 8 - (i + 1) = 7 - i := by omega
        refine ⟨⟨i + 1, P2, by omega, by congr 1; omega, ?_, hC', hR'⟩, by simp only [intOf]; omega⟩
        rw [e8]; exact k4.out
  · obtain rfl : i = 8 := by omega
    obtain rfl := hS.uniq at0.out
    have c0 := (hC.at_ 2 rfl).lo
    have c1 := (hC.at_ 2 rfl).hi
    have d0 := (hC.at_ 1 rfl).lo
    have d1 := (hC.at_ 1 rfl).hi
    have f0 := (hC.at_ 1 rfl).f0
    have f1 := (hC.at_ 1 rfl).f1
    have B := Lib.hid hC.old
    have hst := @fstore
    obtain ⟨x1, x2⟩ := P1
    dsimp only at c0 c1
    clear hC hR hS at0 at8 step C3 R3
    go_wp2_with fail
    (try simp only [Exit.vnBlock, Exit.then])
    refine bodyPost_ret (v := spanV x1 x2) ?_ rfl ⟨rfl, ?_⟩
    · rw [results_cell1 rfl]; unfold spanV; go_simp
    · exact (B.out.setCell (by show _ ≤ w.heap.size + 1; omega) _).setCell (by show _ ≤ w.heap.size + 1; omega) _
end Go.Proofs.YtgnofnjbmiepjaaGreat
