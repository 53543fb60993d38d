/- Proved here: what the texts Vsn prove, one behind the other. -/
import Derived.Test.YtgnofnjbmiepjaaGreatJz2

set_option maxRecDepth 100000
set_option maxHeartbeats 4000000
namespace Go.Proofs.YtgnofnjbmiepjaaGreat
open Go.ChangeShapes Go.WideShapes Go.ChangeAt Go.RowKit Ieee.Own

theorem vspans_no {Y : Pr} {k : Int} (hk : k ≠ 0) (K0 : Hid (∀ w, Calls Tryz.prog 39 #[pv Y] w fun e w' => e = .returned (.int .i64 k) ∧ Below w.heap.size w w')) (w : World) :
 Calls Tryz.prog 21 #[pv Y] w fun e w' => e = .returned (ppi (0, 0) (0, 0) k) ∧ Below w.heap.size w w' := by
 have tk : (k != 0) = true := by simpa using hk
 have C0 : Cls w [(w.heap.size, Y.1, Y.2), (w.heap.size + 1, 0, 0), (w.heap.size + 1 + 1, 0, 0)] (((w.alloc (boxO Y.1 Y.2)).alloc (boxO 0 0)).alloc (boxO 0 0)) := by
  have := (((Cls.nil w).new Y.1 Y.2).new 0 0).new 0 0
  simp only [List.nil_append, List.cons_append] at this
  rw [show (w.alloc (boxO Y.1 Y.2)).heap.size = w.heap.size + 1 by simp, show ((w.alloc (boxO Y.1 Y.2)).alloc (boxO 0 0)).heap.size = w.heap.size + 1 + 1 by simp] at this
  exact this
 have hst := @fstore
 have yE : pv Y = .agg #[.float .f64 Y.1, .float .f64 Y.2] := rfl
 unfold boxO at C0
 replace C0 := Lib.hid C0
 rw [yE] at K0 ⊢
 clear yE hk
 go_enter Tryz.func21, Tryz.ntmps21
 go_wp2_with fail
 have C := C0.out
 clear C0
 generalize ((w.alloc _).alloc _).alloc _ = wr at *
 refine (K0.out wr).mono ?_
 rintro _ w1 ⟨rfl, hb⟩
 have C1 := C.on hb
 have p0 := (C1.at_ 0 rfl).lo
 have p1 := (C1.at_ 0 rfl).hi
 have r0 := (C1.at_ 1 rfl).lo
 have r1 := (C1.at_ 1 rfl).hi
 have r2 := (C1.at_ 1 rfl).f0
 have r3 := (C1.at_ 1 rfl).f1
 have s0 := (C1.at_ 2 rfl).lo
 have s1 := (C1.at_ 2 rfl).hi
 have s2 := (C1.at_ 2 rfl).f0
 have s3 := (C1.at_ 2 rfl).f1
 replace C1 := Lib.hid C1
 clear C hb K0
 go_wp2_with fail
 (try simp only [Exit.vnBlock, Exit.then])
 refine bodyPost_ret (v := .tuple #[spanV 0 0, spanV 0 0, .int .i64 k]) ?_ rfl ⟨rfl, ?_⟩
 · rw [results_cells2t rfl]; unfold spanV; go_simp
 · exact (((((C1.out).old).setCell (by show _ ≤ w.heap.size + 1; omega) _).setCell (by show _ ≤ w.heap.size + 1; omega) _).setCell (by show _ ≤ w.heap.size + 1 + 1; omega) _).setCell (by show _ ≤ w.heap.size + 1 + 1; omega) _

theorem vspans_low {Y : Pr} (t1 : (FloatKind.f64.format.order Y.1 14010698440749613056 == some Ordering.lt) = true) (K0 : Hid (∀ w, Calls Tryz.prog 39 #[pv Y] w fun e w' => e = .returned (.int .i64 0) ∧ Below w.heap.size w w')) (w : World) :
 Calls Tryz.prog 21 #[pv Y] w fun e w' => e = .returned (ppi (0, 0) (0, 0) 3) ∧ Below w.heap.size w w' := by
 have C0 : Cls w [(w.heap.size, Y.1, Y.2), (w.heap.size + 1, 0, 0), (w.heap.size + 1 + 1, 0, 0)] (((w.alloc (boxO Y.1 Y.2)).alloc (boxO 0 0)).alloc (boxO 0 0)) := by
  have := (((Cls.nil w).new Y.1 Y.2).new 0 0).new 0 0
  simp only [List.nil_append, List.cons_append] at this
  rw [show (w.alloc (boxO Y.1 Y.2)).heap.size = w.heap.size + 1 by simp, show ((w.alloc (boxO Y.1 Y.2)).alloc (boxO 0 0)).heap.size = w.heap.size + 1 + 1 by simp] at this
  exact this
 have hst := @fstore
 have yE : pv Y = .agg #[.float .f64 Y.1, .float .f64 Y.2] := rfl
 unfold boxO at C0
 replace C0 := Lib.hid C0
 rw [yE] at K0 ⊢
 clear yE
 go_enter Tryz.func21, Tryz.ntmps21
 go_wp2_with fail
 have C := C0.out
 clear C0
 generalize ((w.alloc _).alloc _).alloc _ = wr at *
 refine (K0.out wr).mono ?_
 rintro _ w1 ⟨rfl, hb⟩
 have C1 := C.on hb
 have p0 := (C1.at_ 0 rfl).lo
 have p1 := (C1.at_ 0 rfl).hi
 have r0 := (C1.at_ 1 rfl).lo
 have r1 := (C1.at_ 1 rfl).hi
 have r2 := (C1.at_ 1 rfl).f0
 have r3 := (C1.at_ 1 rfl).f1
 have s0 := (C1.at_ 2 rfl).lo
 have s1 := (C1.at_ 2 rfl).hi
 have s2 := (C1.at_ 2 rfl).f0
 have s3 := (C1.at_ 2 rfl).f1
 replace C1 := Lib.hid C1
 clear C hb K0
 go_wp2_with fail
 (try simp only [Exit.vnBlock, Exit.then])
 refine bodyPost_ret (v := .tuple #[spanV 0 0, spanV 0 0, .int .i64 3]) ?_ rfl ⟨rfl, ?_⟩
 · rw [results_cells2t rfl]; unfold spanV; go_simp
 · exact (((((C1.out).old).setCell (by show _ ≤ w.heap.size + 1; omega) _).setCell (by show _ ≤ w.heap.size + 1; omega) _).setCell (by show _ ≤ w.heap.size + 1 + 1; omega) _).setCell (by show _ ≤ w.heap.size + 1 + 1; omega) _

theorem vspans_high {Y : Pr} (t1 : (FloatKind.f64.format.order Y.1 14010698440749613056 == some Ordering.lt) = false) (t2 : (FloatKind.f64.format.order Y.2 4787326403894837248 == some Ordering.gt) = true) (K0 : Hid (∀ w, Calls Tryz.prog 39 #[pv Y] w fun e w' => e = .returned (.int .i64 0) ∧ Below w.heap.size w w')) (w : World) :
 Calls Tryz.prog 21 #[pv Y] w fun e w' => e = .returned (ppi (0, 0) (0, 0) 3) ∧ Below w.heap.size w w' := by
 have C0 : Cls w [(w.heap.size, Y.1, Y.2), (w.heap.size + 1, 0, 0), (w.heap.size + 1 + 1, 0, 0)] (((w.alloc (boxO Y.1 Y.2)).alloc (boxO 0 0)).alloc (boxO 0 0)) := by
  have := (((Cls.nil w).new Y.1 Y.2).new 0 0).new 0 0
  simp only [List.nil_append, List.cons_append] at this
  rw [show (w.alloc (boxO Y.1 Y.2)).heap.size = w.heap.size + 1 by simp, show ((w.alloc (boxO Y.1 Y.2)).alloc (boxO 0 0)).heap.size = w.heap.size + 1 + 1 by simp] at this
  exact this
 have hst := @fstore
 have yE : pv Y = .agg #[.float .f64 Y.1, .float .f64 Y.2] := rfl
 unfold boxO at C0
 replace C0 := Lib.hid C0
 rw [yE] at K0 ⊢
 clear yE
 go_enter Tryz.func21, Tryz.ntmps21
 go_wp2_with fail
 have C := C0.out
 clear C0
 generalize ((w.alloc _).alloc _).alloc _ = wr at *
 refine (K0.out wr).mono ?_
 rintro _ w1 ⟨rfl, hb⟩
 have C1 := C.on hb
 have p0 := (C1.at_ 0 rfl).lo
 have p1 := (C1.at_ 0 rfl).hi
 have r0 := (C1.at_ 1 rfl).lo
 have r1 := (C1.at_ 1 rfl).hi
 have r2 := (C1.at_ 1 rfl).f0
 have r3 := (C1.at_ 1 rfl).f1
 have s0 := (C1.at_ 2 rfl).lo
 have s1 := (C1.at_ 2 rfl).hi
 have s2 := (C1.at_ 2 rfl).f0
 have s3 := (C1.at_ 2 rfl).f1
 replace C1 := Lib.hid C1
 clear C hb K0
 go_wp2_with fail
 (try simp only [Exit.vnBlock, Exit.then])
 refine bodyPost_ret (v := .tuple #[spanV 0 0, spanV 0 0, .int .i64 3]) ?_ rfl ⟨rfl, ?_⟩
 · rw [results_cells2t rfl]; unfold spanV; go_simp
 · exact (((((C1.out).old).setCell (by show _ ≤ w.heap.size + 1; omega) _).setCell (by show _ ≤ w.heap.size + 1; omega) _).setCell (by show _ ≤ w.heap.size + 1 + 1; omega) _).setCell (by show _ ≤ w.heap.size + 1 + 1; omega) _

theorem vspans_wide {Y : Pr} {m : Nat} (t1 : (FloatKind.f64.format.order Y.1 14010698440749613056 == some Ordering.lt) = false) (t2 : (FloatKind.f64.format.order Y.2 4787326403894837248 == some Ordering.gt) = false) (tm : (FloatKind.f64.format.order m 4607182418800017408 == some Ordering.gt || FloatKind.f64.format.order m 4607182418800017408 == some Ordering.eq) = true) (K0 : Hid (∀ w, Calls Tryz.prog 39 #[pv Y] w fun e w' => e = .returned (.int .i64 0) ∧ Below w.heap.size w w')) (K1 : Hid (∀ w, Calls Tryz.prog 47 #[pv Y] w fun e w' => e = .returned (.tuple #[.float .f64 m, .int .i64 0]) ∧ Below w.heap.size w w')) (w : World) :
 Calls Tryz.prog 21 #[pv Y] w fun e w' => e = .returned (ppi (noneW, oneW) (noneW, oneW) 0) ∧ Below w.heap.size w w' := by
 have C0 : Cls w [(w.heap.size, Y.1, Y.2), (w.heap.size + 1, 0, 0), (w.heap.size + 1 + 1, 0, 0)] (((w.alloc (boxO Y.1 Y.2)).alloc (boxO 0 0)).alloc (boxO 0 0)) := by
  have := (((Cls.nil w).new Y.1 Y.2).new 0 0).new 0 0
  simp only [List.nil_append, List.cons_append] at this
  rw [show (w.alloc (boxO Y.1 Y.2)).heap.size = w.heap.size + 1 by simp, show ((w.alloc (boxO Y.1 Y.2)).alloc (boxO 0 0)).heap.size = w.heap.size + 1 + 1 by simp] at this
  exact this
 have hst := @fstore
 have yE : pv Y = .agg #[.float .f64 Y.1, .float .f64 Y.2] := rfl
 unfold boxO at C0
 replace C0 := Lib.hid C0
 rw [yE] at K0 K1 ⊢
 clear yE
 go_enter Tryz.func21, Tryz.ntmps21
 go_wp2_with fail
 have C := C0.out
 clear C0
 generalize ((w.alloc _).alloc _).alloc _ = wr at *
 refine (K0.out wr).mono ?_
 rintro _ w1 ⟨rfl, hb⟩
 have C1 := C.on hb
 have p0 := (C1.at_ 0 rfl).lo
 have p1 := (C1.at_ 0 rfl).hi
 have r0 := (C1.at_ 1 rfl).lo
 have r1 := (C1.at_ 1 rfl).hi
 have r2 := (C1.at_ 1 rfl).f0
 have r3 := (C1.at_ 1 rfl).f1
 have s0 := (C1.at_ 2 rfl).lo
 have s1 := (C1.at_ 2 rfl).hi
 have s2 := (C1.at_ 2 rfl).f0
 have s3 := (C1.at_ 2 rfl).f1
 replace C1 := Lib.hid C1
 clear C hb K0
 go_wp2_with fail
 clear p0 p1 r0 r1 r2 r3 s0 s1 s2 s3
 refine (K1.out w1).mono ?_
 rintro _ w2 ⟨rfl, hb⟩
 replace C1 := C1.out.on hb
 have p0 := (C1.at_ 0 rfl).lo
 have p1 := (C1.at_ 0 rfl).hi
 have r0 := (C1.at_ 1 rfl).lo
 have r1 := (C1.at_ 1 rfl).hi
 have r2 := (C1.at_ 1 rfl).f0
 have r3 := (C1.at_ 1 rfl).f1
 have s0 := (C1.at_ 2 rfl).lo
 have s1 := (C1.at_ 2 rfl).hi
 have s2 := (C1.at_ 2 rfl).f0
 have s3 := (C1.at_ 2 rfl).f1
 replace C1 := Lib.hid C1
 clear hb K1
 go_wp2_with fail
 (try simp only [Exit.vnBlock, Exit.then])
 refine bodyPost_ret (v := .tuple #[spanV 13830554455654793216 4607182418800017408, spanV 13830554455654793216 4607182418800017408, .int .i64 0]) ?_ rfl ⟨rfl, ?_⟩
 · rw [results_cells2t rfl]; unfold spanV; go_simp
 · exact (((((C1.out).old).setCell (by show _ ≤ w.heap.size + 1; omega) _).setCell (by show _ ≤ w.heap.size + 1; omega) _).setCell (by show _ ≤ w.heap.size + 1 + 1; omega) _).setCell (by show _ ≤ w.heap.size + 1 + 1; omega) _

theorem vspans_slim {Y S C T D U1 U2 : Pr} {m : Nat} (t1 : (FloatKind.f64.format.order Y.1 14010698440749613056 == some Ordering.lt) = false) (t2 : (FloatKind.f64.format.order Y.2 4787326403894837248 == some Ordering.gt) = false) (tm : (FloatKind.f64.format.order m 4607182418800017408 == some Ordering.gt || FloatKind.f64.format.order m 4607182418800017408 == some Ordering.eq) = false) (K0 : Hid (∀ w, Calls Tryz.prog 39 #[pv Y] w fun e w' => e = .returned (.int .i64 0) ∧ Below w.heap.size w w')) (K1 : Hid (∀ w, Calls Tryz.prog 47 #[pv Y] w fun e w' => e = .returned (.tuple #[.float .f64 m, .int .i64 0]) ∧ Below w.heap.size w w'))
 (KA : Hid (∀ w, Calls Tryz.prog 48 #[.float .f64 Y.1] w fun e w' => e = .returned (ppi S C 0) ∧ Below w.heap.size w w'))
 (KB : Hid (∀ w, Calls Tryz.prog 48 #[.float .f64 Y.2] w fun e w' => e = .returned (ppi T D 0) ∧ Below w.heap.size w w'))
 (K4 : Hid (∀ w, Calls Tryz.prog 49 #[pv Y, pv S, pv T, .int .i64 1, .int .i64 3] w fun e w' => e = .returned (pv U1) ∧ Below w.heap.size w w'))
 (K6 : Hid (∀ w, Calls Tryz.prog 49 #[pv Y, pv C, pv D, .int .i64 0, .int .i64 2] w fun e w' => e = .returned (pv U2) ∧ Below w.heap.size w w')) (w : World) :
 Calls Tryz.prog 21 #[pv Y] w fun e w' => e = .returned (ppi U1 U2 0) ∧ Below w.heap.size w w' := by
 have C0 : Cls w [(w.heap.size, Y.1, Y.2), (w.heap.size + 1, 0, 0), (w.heap.size + 1 + 1, 0, 0)] (((w.alloc (boxO Y.1 Y.2)).alloc (boxO 0 0)).alloc (boxO 0 0)) := by
  have := (((Cls.nil w).new Y.1 Y.2).new 0 0).new 0 0
  simp only [List.nil_append, List.cons_append] at this
  rw [show (w.alloc (boxO Y.1 Y.2)).heap.size = w.heap.size + 1 by simp, show ((w.alloc (boxO Y.1 Y.2)).alloc (boxO 0 0)).heap.size = w.heap.size + 1 + 1 by simp] at this
  exact this
 have hst := @fstore
 have yE : pv Y = .agg #[.float .f64 Y.1, .float .f64 Y.2] := rfl
 unfold boxO at C0
 replace C0 := Lib.hid C0
 rw [yE] at K0 K1 ⊢
 unfold ppi at KA KB
 rw [pvE S, pvE C] at KA
 rw [pvE T, pvE D] at KB
 clear yE
 go_enter Tryz.func21, Tryz.ntmps21
 go_wp2_with fail
 have C := C0.out
 clear C0
 generalize ((w.alloc _).alloc _).alloc _ = wr at *
 refine (K0.out wr).mono ?_
 rintro _ w1 ⟨rfl, hb⟩
 have C1 := C.on hb
 have p0 := (C1.at_ 0 rfl).lo
 have p1 := (C1.at_ 0 rfl).hi
 have r0 := (C1.at_ 1 rfl).lo
 have r1 := (C1.at_ 1 rfl).hi
 have r2 := (C1.at_ 1 rfl).f0
 have r3 := (C1.at_ 1 rfl).f1
 have s0 := (C1.at_ 2 rfl).lo
 have s1 := (C1.at_ 2 rfl).hi
 have s2 := (C1.at_ 2 rfl).f0
 have s3 := (C1.at_ 2 rfl).f1
 replace C1 := Lib.hid C1
 clear C hb K0
 go_wp2_with fail
 clear p0 p1 r0 r1 r2 r3 s0 s1 s2 s3
 refine (K1.out w1).mono ?_
 rintro _ w2 ⟨rfl, hb⟩
 replace C1 := C1.out.on hb
 have p0 := (C1.at_ 0 rfl).lo
 replace C1 := Lib.hid C1
 clear hb K1
 go_wp2_with fail
 clear p0
 refine (KA.out w2).mono ?_
 rintro _ w3 ⟨rfl, hb⟩
 replace C1 := ((C1.out.on hb).new S.1 S.2).new C.1 C.2
 simp only [List.nil_append, List.cons_append] at C1
 rw [show (w3.alloc (boxO S.1 S.2)).heap.size = w3.heap.size + 1 by simp] at C1
 unfold boxO at C1
 have p0 := (C1.at_ 0 rfl).hi
 replace C1 := Lib.hid C1
 clear hb KA
 go_wp2_with fail
 clear p0
 generalize (w3.alloc _).alloc _ = wq at *
 generalize w3.heap.size = g at *
 refine (KB.out wq).mono ?_
 rintro _ w4 ⟨rfl, hb⟩
 replace C1 := ((C1.out.on hb).new T.1 T.2).new D.1 D.2
 simp only [List.nil_append, List.cons_append] at C1
 rw [show (w4.alloc (boxO T.1 T.2)).heap.size = w4.heap.size + 1 by simp] at C1
 unfold boxO at C1
 replace C1 := Lib.hid C1
 clear hb KB
 go_upto_region 11 with fail
 have C3 := C1.out
 clear C1
 generalize (w4.alloc _).alloc _ = wp at *
 generalize w4.heap.size = h at *
 generalize hn : w.heap.size = n at *
 replace hn := Lib.hid hn
 generalize hds : ([some 54, some 55, some 56, some 57, some 58, some 59, some 60, some 61, none, none, some 4] : List (Option Tmp)) = ds
 have hap : apartL ds = true := by rw [← hds]; decide
 replace hds := hds.symm
 refine wp_region_sts [(n, Y.1, Y.2), (n + 1, U1.1, U1.2), (n + 1 + 1, U2.1, U2.2), (g, S.1, S.2), (g + 1, C.1, C.2), (h, T.1, T.2), (h + 1, D.1, D.2)] [⟨8, 1, n + 1, U1.1, U1.2⟩, ⟨9, 2, n + 1 + 1, U2.1, U2.2⟩] [pv Y, pv S, pv T, pv U1, pv Y, pv C, pv D, pv U2, undef, undef, .int .i64 0]
  ds (by kernel_rfl) (by rw [hds]; rfl) hap (by decide +kernel) (by decide +kernel) rfl C3 ?hE2 ?hE3 ?hj ?hi ?his (fun _ => True) trivial (fun _ _ _ _ => trivial) (fun _ _ _ _ => trivial) ?step ?store ?fin
 case hE2 =>
  intro j h
  have n0 : 1 ≠ j := h _ (List.mem_cons_self ..)
  have n1 : 2 ≠ j := h _ (List.mem_cons_of_mem _ (List.mem_cons_self ..))
  rcases j with _ | _ | _ | _ | _ | _ | _ | j
  · rfl
  · exact absurd rfl n0
  · exact absurd rfl n1
  · rfl
  · rfl
  · rfl
  · rfl
  · rfl
 case hE3 => intro st h; simp only [List.mem_cons, List.not_mem_nil, or_false] at h; rcases h with rfl | rfl <;> rfl
 case hj => intro st h; simp only [List.mem_cons, List.not_mem_nil, or_false] at h; rcases h with rfl | rfl <;> exact ⟨_, _, rfl⟩
 case hi =>
  intro st h st' h' e
  simp only [List.mem_cons, List.not_mem_nil, or_false] at h; rcases h with rfl | rfl <;> (simp only [List.mem_cons, List.not_mem_nil, or_false] at h'; rcases h' with rfl | rfl) <;> first | rfl | (exfalso; revert e; simp)
 case his => intro st h; simp only [List.mem_cons, List.not_mem_nil, or_false] at h; rcases h with rfl | rfl
             · show 8 < 11; decide
             · show 9 < 11; decide
 case step =>
  intro L W i o ho hs hd hB hJ
  have hi : i < 11 := (Array.getElem?_eq_some_iff.1 ho).1
  have : i = 0 ∨ i = 1 ∨ i = 2 ∨ i = 3 ∨ i = 4 ∨ i = 5 ∨ i = 6 ∨ i = 7 ∨ i = 8 ∨ i = 9 ∨ i = 10 := by omega
  rcases this with rfl | rfl | rfl | rfl | rfl | rfl | rfl | rfl | rfl | rfl | rfl
  · obtain rfl := Option.some.inj ho
    have b := hB 0 _ _ _ rfl (by
        intro st hst e
        simp only [List.mem_cons, List.not_mem_nil, or_false] at hst
        rcases hst with rfl | rfl
        · exact absurd e (show ¬ 1 = 0 by decide)
        · exact absurd e (show ¬ 2 = 0 by decide))
    refine .value W ?_ (Below.refl _ _)
    generalize hA : (puts ds L _).eval = ρ
    have h0 : ρ (.tmp 1) = .pointer (some ⟨n, 0, none⟩) := by rw [← hA]; exact (puts_old ds L _ (by rw [hds]; decide)).trans rfl
    exact ex_loads rfl h0 b.lo b.hi
  · obtain rfl := Option.some.inj ho
    have b := hB 3 _ _ _ rfl (by
        intro st hst e
        simp only [List.mem_cons, List.not_mem_nil, or_false] at hst
        rcases hst with rfl | rfl
        · exact absurd e (show ¬ 1 = 3 by decide)
        · exact absurd e (show ¬ 2 = 3 by decide))
    refine .value W ?_ (Below.refl _ _)
    generalize hA : (puts ds L _).eval = ρ
    have h0 : ρ (.tmp 8) = .pointer (some ⟨g, 0, none⟩) := by rw [← hA]; exact (puts_old ds L _ (by rw [hds]; decide)).trans rfl
    exact ex_loads rfl h0 b.lo b.hi
  · obtain rfl := Option.some.inj ho
    have b := hB 5 _ _ _ rfl (by
        intro st hst e
        simp only [List.mem_cons, List.not_mem_nil, or_false] at hst
        rcases hst with rfl | rfl
        · exact absurd e (show ¬ 1 = 5 by decide)
        · exact absurd e (show ¬ 2 = 5 by decide))
    refine .value W ?_ (Below.refl _ _)
    generalize hA : (puts ds L _).eval = ρ
    have h0 : ρ (.tmp 11) = .pointer (some ⟨h, 0, none⟩) := by rw [← hA]; exact (puts_old ds L _ (by rw [hds]; decide)).trans rfl
    exact ex_loads rfl h0 b.lo b.hi
  · obtain rfl := Option.some.inj ho
    refine .call 49 #[pv Y, pv S, pv T, .int .i64 1, .int .i64 3] ?_ (K4.out W)
    generalize hA : (puts ds L _).eval = ρ
    have hc : ∀ v, ρ (.const v) = v := fun v => by rw [← hA]; rfl
    have hg : ∀ g, ρ (.func g) = .func (.func g) #[] #[] := fun v => by rw [← hA]; rfl
    have h0 : ρ (.tmp 54) = pv Y := by rw [← hA]; exact puts_get 0 ds L _ hap (by rw [hds]; rfl) (hd 0 (by decide +kernel)) (show 54 < 62 by decide)
    have h1 : ρ (.tmp 55) = pv S := by rw [← hA]; exact puts_get 1 ds L _ hap (by rw [hds]; rfl) (hd 1 (by decide +kernel)) (show 55 < 62 by decide)
    have h2 : ρ (.tmp 56) = pv T := by rw [← hA]; exact puts_get 2 ds L _ hap (by rw [hds]; rfl) (hd 2 (by decide +kernel)) (show 56 < 62 by decide)
    have hf := Tryz.func49
    unfold execOp
    go_simp
  · obtain rfl := Option.some.inj ho
    have b := hB 0 _ _ _ rfl (by
        intro st hst e
        simp only [List.mem_cons, List.not_mem_nil, or_false] at hst
        rcases hst with rfl | rfl
        · exact absurd e (show ¬ 1 = 0 by decide)
        · exact absurd e (show ¬ 2 = 0 by decide))
    refine .value W ?_ (Below.refl _ _)
    generalize hA : (puts ds L _).eval = ρ
    have h0 : ρ (.tmp 1) = .pointer (some ⟨n, 0, none⟩) := by rw [← hA]; exact (puts_old ds L _ (by rw [hds]; decide)).trans rfl
    exact ex_loads rfl h0 b.lo b.hi
  · obtain rfl := Option.some.inj ho
    have b := hB 4 _ _ _ rfl (by
        intro st hst e
        simp only [List.mem_cons, List.not_mem_nil, or_false] at hst
        rcases hst with rfl | rfl
        · exact absurd e (show ¬ 1 = 4 by decide)
        · exact absurd e (show ¬ 2 = 4 by decide))
    refine .value W ?_ (Below.refl _ _)
    generalize hA : (puts ds L _).eval = ρ
    have h0 : ρ (.tmp 9) = .pointer (some ⟨g + 1, 0, none⟩) := by rw [← hA]; exact (puts_old ds L _ (by rw [hds]; decide)).trans rfl
    exact ex_loads rfl h0 b.lo b.hi
  · obtain rfl := Option.some.inj ho
    have b := hB 6 _ _ _ rfl (by
        intro st hst e
        simp only [List.mem_cons, List.not_mem_nil, or_false] at hst
        rcases hst with rfl | rfl
        · exact absurd e (show ¬ 1 = 6 by decide)
        · exact absurd e (show ¬ 2 = 6 by decide))
    refine .value W ?_ (Below.refl _ _)
    generalize hA : (puts ds L _).eval = ρ
    have h0 : ρ (.tmp 12) = .pointer (some ⟨h + 1, 0, none⟩) := by rw [← hA]; exact (puts_old ds L _ (by rw [hds]; decide)).trans rfl
    exact ex_loads rfl h0 b.lo b.hi
  · obtain rfl := Option.some.inj ho
    refine .call 49 #[pv Y, pv C, pv D, .int .i64 0, .int .i64 2] ?_ (K6.out W)
    generalize hA : (puts ds L _).eval = ρ
    have hc : ∀ v, ρ (.const v) = v := fun v => by rw [← hA]; rfl
    have hg : ∀ g, ρ (.func g) = .func (.func g) #[] #[] := fun v => by rw [← hA]; rfl
    have h0 : ρ (.tmp 58) = pv Y := by rw [← hA]; exact puts_get 4 ds L _ hap (by rw [hds]; rfl) (hd 4 (by decide +kernel)) (show 58 < 62 by decide)
    have h1 : ρ (.tmp 59) = pv C := by rw [← hA]; exact puts_get 5 ds L _ hap (by rw [hds]; rfl) (hd 5 (by decide +kernel)) (show 59 < 62 by decide)
    have h2 : ρ (.tmp 60) = pv D := by rw [← hA]; exact puts_get 6 ds L _ hap (by rw [hds]; rfl) (hd 6 (by decide +kernel)) (show 60 < 62 by decide)
    have hf := Tryz.func49
    unfold execOp
    go_simp
  · exact absurd rfl (hs _ (List.mem_cons_self ..))
  · exact absurd rfl (hs _ (List.mem_cons_of_mem _ (List.mem_cons_self ..)))
  · obtain rfl := Option.some.inj ho
    refine .value W ?_ (Below.refl _ _)
    generalize hA : (puts ds L _).eval = ρ
    have hc : ∀ v, ρ (.const v) = v := fun v => by rw [← hA]; rfl
    unfold execOp
    go_simp
 case store =>
  intro st hst L W o x y ho hd b
  generalize hA : (puts ds L _).eval = ρ
  simp only [List.mem_cons, List.not_mem_nil, or_false] at hst
  rcases hst with rfl | rfl
  · dsimp only at ho b ⊢
    obtain rfl := Option.some.inj ho
    have h0 : ρ (.tmp 2) = .pointer (some ⟨n + 1, 0, none⟩) := by rw [← hA]; exact (puts_old ds L _ (by rw [hds]; decide)).trans rfl
    have h1 : ρ (.tmp 57) = pv U1 := by rw [← hA]; exact puts_get 3 ds L _ hap (by rw [hds]; rfl) (hd 3 (by decide +kernel)) (show 57 < 62 by decide)
    exact ⟨ex_store rfl h0 h1 b.lo b.hi b.f0 b.f1, rfl⟩
  · dsimp only at ho b ⊢
    obtain rfl := Option.some.inj ho
    have h0 : ρ (.tmp 3) = .pointer (some ⟨n + 1 + 1, 0, none⟩) := by rw [← hA]; exact (puts_old ds L _ (by rw [hds]; decide)).trans rfl
    have h1 : ρ (.tmp 61) = pv U2 := by rw [← hA]; exact puts_get 7 ds L _ hap (by rw [hds]; rfl) (hd 7 (by decide +kernel)) (show 61 < 62 by decide)
    exact ⟨ex_store rfl h0 h1 b.lo b.hi b.f0 b.f1, rfl⟩
 case fin =>
  intro w5 C5 _
  rw [hds]
  clear hds hap C3 ds K4 K6
  obtain ⟨u1, u2⟩ := U1
  obtain ⟨v1, v2⟩ := U2
  have l0 := (C5.at_ 1 rfl).lo
  have l1 := (C5.at_ 1 rfl).hi
  have m0 := (C5.at_ 2 rfl).lo
  have m1 := (C5.at_ 2 rfl).hi
  have O := Lib.hid C5.old
  dsimp only at l0 l1 m0 m1
  clear C5
  simp only [List.map_cons, List.map_nil, List.set_cons_zero, List.set_cons_succ, puts, Act.put, List.setIfInBounds_toArray]
  go_wp2_with fail
  (try simp only [Exit.vnBlock, Exit.then])
  refine bodyPost_ret (v := .tuple #[spanV u1 u2, spanV v1 v2, .int .i64 0]) ?_ rfl ⟨rfl, ?_⟩
  · rw [results_cells2t rfl]; unfold spanV; go_simp
  · exact O.out

theorem far_out {a b : Nat} (ha : a < 18446744073709551616) (hb : b < 18446744073709551616) (e : errS a b = 0) (h : errT a b ≠ 0) : errT a b = 3 ∧ (V a < V 14010698440749613056 ∨ V 4787326403894837248 < V b) := by
 obtain ⟨f1, f2, le⟩ := errS_zero e
 have g1 := fit_fin ha f1
 have g2 := fit_fin hb f2
 have e1 : V 14010698440749613056 = -(2 ^ 1114) := by decide +kernel
 have e2 : V 4787326403894837248 = 2 ^ 1114 := by decide +kernel
 have vv : (val 52 4787326403894837248 : Int) = 2 ^ 1114 := by decide +kernel
 have big : ∀ y, y < 18446744073709551616 → fitB y = true → FinW y → errA y ≠ 0 → (2 : Int) ^ 1114 < ((V y).natAbs : Int) := by
  intro y hy fy gy h
  have c : 4787326403894837248 < y % 9223372036854775808 := by
   by_cases q : y % 9223372036854775808 ≤ 4787326403894837248
   · exact absurd (if_pos ⟨fy, q⟩) h
   · omega
  rw [V_abs' y gy, ← vv]
  exact Int.ofNat_lt.2 (val_lt c)
 unfold errT at h ⊢
 rw [if_neg (by omega)] at h ⊢
 rw [e1, e2]
 generalize (2 : Int) ^ 1114 = T at *
 by_cases q : errA a = 0
 · rw [if_neg (by omega)] at h ⊢
   have := big b hb f2 g2 h
   exact ⟨by rcases errA_cases b with x | x <;> omega, by omega⟩
 · rw [if_pos q] at h ⊢
   have := big a ha f1 g1 q
   exact ⟨by rcases errA_cases a with x | x <;> omega, by omega⟩
theorem far_in {x : Nat} (A : Ang x) : ¬ V x < V 14010698440749613056 ∧ ¬ V 4787326403894837248 < V x := by
 have e1 : V 14010698440749613056 = -(2 ^ 1114) := by decide +kernel
 have e2 : V 4787326403894837248 = 2 ^ 1114 := by decide +kernel
 have ax := pw_cast A.abs
 rw [e1, e2]
 generalize (2 : Int) ^ 1114 = T at *
 omega
theorem farl_fin : FinW 14010698440749613056 := by unfold FinW; omega
theorem farh_fin : FinW 4787326403894837248 := by unfold FinW; omega
theorem vspans_run {a b : Nat} (ha : a < 18446744073709551616) (hb : b < 18446744073709551616) : ∃ p q k, SpRes (a, b) p q k ∧ ∀ w, Calls Tryz.prog 21 #[pv (a, b)] w fun e w' => e = .returned (ppi p q k) ∧ Below w.heap.size w w' := by
 have K0 : Hid (∀ w, Calls Tryz.prog 39 #[pv (a, b)] w fun e w' => e = .returned (.int .i64 (errS a b)) ∧ Below w.heap.size w w') := Lib.hid (fun w => rscheck_run a b ha hb w)
 by_cases hS : errS a b = 0
 · obtain ⟨f1, f2, -⟩ := errS_zero hS
   have t1 := lt_words (fit_fin ha f1) farl_fin
   have t2 := gt_words (fit_fin hb f2) farh_fin
   rw [hS] at K0
   by_cases h : errT a b = 0
   · obtain ⟨-, e2, e3⟩ := errT_zero h
     have A := errA_ang ha e2
     have B := errA_ang hb e3
     rw [decide_eq_false (far_in A).1] at t1
     rw [decide_eq_false (far_in B).2] at t2
     obtain ⟨m, ⟨fm, U⟩, K1'⟩ := rwidth_ok ha hb hS
     have K1 : ∀ w, Calls Tryz.prog 47 #[pv (a, b)] w fun e w' => e = .returned (.tuple #[.float .f64 m, .int .i64 0]) ∧ Below w.heap.size w w' := K1'
     have tm := ge_words fm (show FinW oneW by unfold FinW oneW; omega)
     by_cases c : V oneW ≤ V m
     · rw [decide_eq_true c] at tm
       exact ⟨_, _, 0, mk_wide h fm U c, fun w => vspans_wide t1 t2 tm K0 (Lib.hid K1) w⟩
     · rw [decide_eq_false c] at tm
       obtain ⟨S, C, HA, KA⟩ := vpoint_ok ha e2
       obtain ⟨T, D, HB, KB⟩ := vpoint_ok hb e3
       have h1 := errSS_of' HA.up.ok HB.up.ok
       have h2 := errSS_of' HA.uq.ok HB.uq.ok
       have P : ∀ k, 0 ≤ k ∧ k < 4 → Hid (∀ w, Calls Tryz.prog 87 #[pv (a, b), .int .i64 k] w fun e w' => e = .returned (.bool (passB a b k)) ∧ Below w.heap.size w w') := fun k hk => Lib.hid (fun w => vpasses_run A B k hk w)
       refine ⟨_, _, 0, mk_slim h fm U c HA HB, fun w => ?_⟩
       exact vspans_slim t1 t2 tm K0 (Lib.hid K1) (Lib.hid KA) (Lib.hid KB) (Lib.hid fun w => vspread_run (Lib.hid fun w => rhull_ok HA.up.l1 HA.up.l2 HB.up.l1 HB.up.l2 h1 w) rfl (P 1 (by omega)) (P 3 (by omega)) w)
        (Lib.hid fun w => vspread_run (Lib.hid fun w => rhull_ok HA.uq.l1 HA.uq.l2 HB.uq.l1 HB.uq.l2 h2 w) rfl (P 0 (by omega)) (P 2 (by omega)) w) w
   · obtain ⟨e3, o⟩ := far_out ha hb hS h
     refine ⟨(0, 0), (0, 0), errT a b, mk_no h, fun w => ?_⟩
     rw [e3]
     by_cases c : V a < V 14010698440749613056
     · rw [decide_eq_true c] at t1
       exact vspans_low t1 K0 w
     · rw [decide_eq_false c] at t1
       rw [decide_eq_true (o.resolve_left c)] at t2
       exact vspans_high t1 t2 K0 w
 · have e : errT a b = errS a b := by unfold errT; rw [if_pos hS]
   refine ⟨(0, 0), (0, 0), errT a b, mk_no (by rw [e]; exact hS), fun w => ?_⟩
   rw [e]
   exact vspans_no hS K0 w
end Go.Proofs.YtgnofnjbmiepjaaGreat
