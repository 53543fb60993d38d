/- Proved here: for every four spans (and all that are none) the law SpanSmaller returns true: smaller spans in, smaller spans out. No conditions. -/
import Derived.Test.YtkfagpahbojigaaRows
import Derived.Test.YtkfagpahbojigaaSml4
import Derived.Test.YtkfagpahbojigaaSpf
namespace Go.Proofs.Ytkfagpahbojigaa.spanSmaller
open Go.ChangeShapes Go.WideShapes Go.ChangeAt Go.RowKit Ieee.Own

set_option maxHeartbeats 2000000 in
theorem walk (w : World) (a0 b0 : Nat) (ha0 : a0 < 18446744073709551616) (hb0 : b0 < 18446744073709551616) (a1 b1 : Nat) (ha1 : a1 < 18446744073709551616) (hb1 : b1 < 18446744073709551616) (a2 b2 : Nat) (ha2 : a2 < 18446744073709551616) (hb2 : b2 < 18446744073709551616) (a3 b3 : Nat) (ha3 : a3 < 18446744073709551616) (hb3 : b3 < 18446744073709551616) :
    Calls Try.prog 8 #[spanV a0 b0, spanV a1 b1, spanV a2 b2, spanV a3 b3] w fun e w' => e = .returned (.bool true) ∧ Below w.heap.size w w' := by
  have AW := Lib.hid awake_run
  have hst := @fstore
  have C0 : Cls w [(w.heap.size, a0, b0), (w.heap.size + 1, a1, b1), (w.heap.size + 1 + 1, a2, b2), (w.heap.size + 1 + 1 + 1, a3, b3)] ((((w.alloc (boxO a0 b0)).alloc (boxO a1 b1)).alloc (boxO a2 b2)).alloc (boxO a3 b3)) := by
    have := ((((Cls.nil w).new a0 b0).new a1 b1).new a2 b2).new a3 b3
    simp only [List.nil_append, List.cons_append] at this
    rw [show (((w.alloc (boxO a0 b0)).alloc (boxO a1 b1)).alloc (boxO a2 b2)).heap.size = w.heap.size + 1 + 1 + 1 by simp, show ((w.alloc (boxO a0 b0)).alloc (boxO a1 b1)).heap.size = w.heap.size + 1 + 1 by simp, show (w.alloc (boxO a0 b0)).heap.size = w.heap.size + 1 by simp] at this
    exact this
  have I0 := Lib.hid (fun w => inside_run a0 b0 a2 b2 ha0 hb0 ha2 hb2 w)
  have I1 := Lib.hid (fun w => inside_run a1 b1 a3 b3 ha1 hb1 ha3 hb3 w)
  unfold boxO at C0
  by_cases i0 : insB a0 b0 a2 b2 = true
  · by_cases i1 : insB a1 b1 a3 b3 = true
    · have T : Two a0 b0 a1 b1 a2 b2 a3 b3 := ⟨ha0, hb0, ha1, hb1, ha2, hb2, ha3, hb3, i0, i1⟩
      have T1 : One a0 b0 a2 b2 := ⟨ha0, hb0, ha2, hb2, i0⟩
      rw [i0] at I0
      rw [i1] at I1
      have S0 := Lib.hid (fun w => sadd_run a0 b0 a1 b1 ha0 hb0 ha1 hb1 w)
      have R0 := Lib.hid (fun w => sadd_run a2 b2 a3 b3 ha2 hb2 ha3 hb3 w)
      have U0 : Hid (∀ e, (OpIs (errSS a0 b0 a1 b1) (fun v => V a0 + V a1 - v) (fun v => V b0 + V b1 - v)) e → ∃ x y c, e = .returned (spanE x y c)) := fun e h => h.span
      have V0 : Hid (∀ e, (OpIs (errSS a2 b2 a3 b3) (fun v => V a2 + V a3 - v) (fun v => V b2 + V b3 - v)) e → ∃ x y c, e = .returned (spanE x y c)) := fun e h => h.span
      have F0 : Hid (∀ x y k u v l, (OpIs (errSS a0 b0 a1 b1) (fun v => V a0 + V a1 - v) (fun v => V b0 + V b1 - v)) (.returned (spanE x y k)) → (OpIs (errSS a2 b2 a3 b3) (fun v => V a2 + V a3 - v) (fun v => V b2 + V b3 - v)) (.returned (spanE u v l)) → ∀ w, Calls Try.prog 35 #[spanV x y, .int .i64 k, spanV u v, .int .i64 l] w fun e w' => e = .returned (.bool true) ∧ Below w.heap.size w w') := fun x y k u v l h h' w => fits_run h.all.bd.1 h.all.bd.2.1 h'.all.bd.1 h'.all.bd.2.1 (add_mono T h h') w
      have S1 := Lib.hid (fun w => smul_run a0 b0 a1 b1 ha0 hb0 ha1 hb1 w)
      have R1 := Lib.hid (fun w => smul_run a2 b2 a3 b3 ha2 hb2 ha3 hb3 w)
      have U1 : Hid (∀ e, (OpAll (errSS a0 b0 a1 b1) [prodC a0 a1, prodC a0 b1, prodC b0 a1, prodC b0 b1] [prodC a0 a1, prodC a0 b1, prodC b0 a1, prodC b0 b1]) e → ∃ x y c, e = .returned (spanE x y c)) := fun e h => h.span
      have V1 : Hid (∀ e, (OpAll (errSS a2 b2 a3 b3) [prodC a2 a3, prodC a2 b3, prodC b2 a3, prodC b2 b3] [prodC a2 a3, prodC a2 b3, prodC b2 a3, prodC b2 b3]) e → ∃ x y c, e = .returned (spanE x y c)) := fun e h => h.span
      have F1 : Hid (∀ x y k u v l, (OpAll (errSS a0 b0 a1 b1) [prodC a0 a1, prodC a0 b1, prodC b0 a1, prodC b0 b1] [prodC a0 a1, prodC a0 b1, prodC b0 a1, prodC b0 b1]) (.returned (spanE x y k)) → (OpAll (errSS a2 b2 a3 b3) [prodC a2 a3, prodC a2 b3, prodC b2 a3, prodC b2 b3] [prodC a2 a3, prodC a2 b3, prodC b2 a3, prodC b2 b3]) (.returned (spanE u v l)) → ∀ w, Calls Try.prog 35 #[spanV x y, .int .i64 k, spanV u v, .int .i64 l] w fun e w' => e = .returned (.bool true) ∧ Below w.heap.size w w') := fun x y k u v l h h' w => fits_run h.bd.1 h.bd.2.1 h'.bd.1 h'.bd.2.1 (mul_mono T h h') w
      have S2 := Lib.hid (fun w => sdiv_run a0 b0 a1 b1 ha0 hb0 ha1 hb1 w)
      have R2 := Lib.hid (fun w => sdiv_run a2 b2 a3 b3 ha2 hb2 ha3 hb3 w)
      have U2 : Hid (∀ e, (OpAll (errD a0 b0 a1 b1) [quotC a0 a1, quotC a0 b1, quotC b0 a1, quotC b0 b1] [quotC a0 a1, quotC a0 b1, quotC b0 a1, quotC b0 b1]) e → ∃ x y c, e = .returned (spanE x y c)) := fun e h => h.span
      have V2 : Hid (∀ e, (OpAll (errD a2 b2 a3 b3) [quotC a2 a3, quotC a2 b3, quotC b2 a3, quotC b2 b3] [quotC a2 a3, quotC a2 b3, quotC b2 a3, quotC b2 b3]) e → ∃ x y c, e = .returned (spanE x y c)) := fun e h => h.span
      have F2 : Hid (∀ x y k u v l, (OpAll (errD a0 b0 a1 b1) [quotC a0 a1, quotC a0 b1, quotC b0 a1, quotC b0 b1] [quotC a0 a1, quotC a0 b1, quotC b0 a1, quotC b0 b1]) (.returned (spanE x y k)) → (OpAll (errD a2 b2 a3 b3) [quotC a2 a3, quotC a2 b3, quotC b2 a3, quotC b2 b3] [quotC a2 a3, quotC a2 b3, quotC b2 a3, quotC b2 b3]) (.returned (spanE u v l)) → ∀ w, Calls Try.prog 35 #[spanV x y, .int .i64 k, spanV u v, .int .i64 l] w fun e w' => e = .returned (.bool true) ∧ Below w.heap.size w w') := fun x y k u v l h h' w => fits_run h.bd.1 h.bd.2.1 h'.bd.1 h'.bd.2.1 (div_mono T h h') w
      have S3 := Lib.hid (fun w => ssquare_run a0 b0 ha0 hb0 w)
      have R3 := Lib.hid (fun w => ssquare_run a2 b2 ha2 hb2 w)
      have U3 : Hid (∀ e, (OpAll (errS a0 b0) (sqLo a0 b0) (sqHi a0 b0)) e → ∃ x y c, e = .returned (spanE x y c)) := fun e h => h.span
      have V3 : Hid (∀ e, (OpAll (errS a2 b2) (sqLo a2 b2) (sqHi a2 b2)) e → ∃ x y c, e = .returned (spanE x y c)) := fun e h => h.span
      have F3 : Hid (∀ x y k u v l, (OpAll (errS a0 b0) (sqLo a0 b0) (sqHi a0 b0)) (.returned (spanE x y k)) → (OpAll (errS a2 b2) (sqLo a2 b2) (sqHi a2 b2)) (.returned (spanE u v l)) → ∀ w, Calls Try.prog 35 #[spanV x y, .int .i64 k, spanV u v, .int .i64 l] w fun e w' => e = .returned (.bool true) ∧ Below w.heap.size w w') := fun x y k u v l h h' w => fits_run h.bd.1 h.bd.2.1 h'.bd.1 h'.bd.2.1 (square_mono T1 h h') w
      have S4 := Lib.hid (fun w => sroots_run a0 b0 ha0 hb0 w)
      have R4 := Lib.hid (fun w => sroots_run a2 b2 ha2 hb2 w)
      have U4 : Hid (∀ e, (OpIs (errR a0 b0) (rootC a0) (rootC b0)) e → ∃ x y c, e = .returned (spanE x y c)) := fun e h => h.span
      have V4 : Hid (∀ e, (OpIs (errR a2 b2) (rootC a2) (rootC b2)) e → ∃ x y c, e = .returned (spanE x y c)) := fun e h => h.span
      have F4 : Hid (∀ x y k u v l, (OpIs (errR a0 b0) (rootC a0) (rootC b0)) (.returned (spanE x y k)) → (OpIs (errR a2 b2) (rootC a2) (rootC b2)) (.returned (spanE u v l)) → ∀ w, Calls Try.prog 35 #[spanV x y, .int .i64 k, spanV u v, .int .i64 l] w fun e w' => e = .returned (.bool true) ∧ Below w.heap.size w w') := fun x y k u v l h h' w => fits_run h.all.bd.1 h.all.bd.2.1 h'.all.bd.1 h'.all.bd.2.1 (root_mono T1 h h') w
      unfold spanV at *
      unfold spanE at *
      replace C0 := Lib.hid C0
      clear T T1 i0 i1 ha0 hb0 ha1 hb1 ha2 hb2 ha3 hb3
      go_enter Try.func8, Try.ntmps8
      go_wp2_with fail
      have C := C0.out
      clear C0
      generalize (((w.alloc _).alloc _).alloc _).alloc _ = wr at *
      refine (AW.out wr).mono ?_
      rintro _ v0 ⟨rfl, hb⟩
      have D := C.on hb
      clear C hb wr
      have p0 := (D.at_ 0 rfl).lo
      have ph0 := (D.at_ 0 rfl).hi
      have p1 := (D.at_ 1 rfl).lo
      have ph1 := (D.at_ 1 rfl).hi
      have p2 := (D.at_ 2 rfl).lo
      have ph2 := (D.at_ 2 rfl).hi
      have p3 := (D.at_ 3 rfl).lo
      have ph3 := (D.at_ 3 rfl).hi
      replace D := Lib.hid D
      go_wp2_with fail
      refine (I0.out v0).mono ?_
      rintro _ v1 ⟨rfl, hb⟩
      have D1 := D.out.on hb
      clear D hb
      clear p0 ph0 p1 ph1 p2 ph2 p3 ph3
      have p0 := (D1.at_ 0 rfl).lo
      have ph0 := (D1.at_ 0 rfl).hi
      have p1 := (D1.at_ 1 rfl).lo
      have ph1 := (D1.at_ 1 rfl).hi
      have p2 := (D1.at_ 2 rfl).lo
      have ph2 := (D1.at_ 2 rfl).hi
      have p3 := (D1.at_ 3 rfl).lo
      have ph3 := (D1.at_ 3 rfl).hi
      have D := Lib.hid D1
      clear D1
      go_wp2_with fail
      refine (I1.out v1).mono ?_
      rintro _ v2 ⟨rfl, hb⟩
      have D1 := D.out.on hb
      clear D hb I0 I1
      clear p0 ph0 p1 ph1 p2 ph2 p3 ph3
      have p0 := (D1.at_ 0 rfl).lo
      have ph0 := (D1.at_ 0 rfl).hi
      have p1 := (D1.at_ 1 rfl).lo
      have ph1 := (D1.at_ 1 rfl).hi
      have p2 := (D1.at_ 2 rfl).lo
      have ph2 := (D1.at_ 2 rfl).hi
      have p3 := (D1.at_ 3 rfl).lo
      have ph3 := (D1.at_ 3 rfl).hi
      have D := Lib.hid D1
      clear D1
      go_wp2_with fail
      refine (S0.out v2).mono ?_
      rintro _ u0 ⟨hs, hb⟩
      have D1 := D.out.on hb
      obtain ⟨x, y, c, rfl⟩ := U0.out _ hs
      replace hs := Lib.hid hs
      clear p0 ph0 p1 ph1 p2 ph2 p3 ph3
      clear D hb U0
      have p0 := (D1.at_ 0 rfl).lo
      have ph0 := (D1.at_ 0 rfl).hi
      have p1 := (D1.at_ 1 rfl).lo
      have ph1 := (D1.at_ 1 rfl).hi
      have p2 := (D1.at_ 2 rfl).lo
      have ph2 := (D1.at_ 2 rfl).hi
      have p3 := (D1.at_ 3 rfl).lo
      have ph3 := (D1.at_ 3 rfl).hi
      have D2 := D1.new x y
      unfold boxO at D2
      have P0 := (D2.at_ 0 rfl).lo
      have Ph0 := (D2.at_ 0 rfl).hi
      have P1 := (D2.at_ 1 rfl).lo
      have Ph1 := (D2.at_ 1 rfl).hi
      have P2 := (D2.at_ 2 rfl).lo
      have Ph2 := (D2.at_ 2 rfl).hi
      have P3 := (D2.at_ 3 rfl).lo
      have Ph3 := (D2.at_ 3 rfl).hi
      replace D2 := Lib.hid D2
      clear D1
      go_wp2_with fail
      clear p0 ph0 p1 ph1 p2 ph2 p3 ph3 P0 Ph0 P1 Ph1 P2 Ph2 P3 Ph3
      have D := D2.out
      clear D2
      generalize hg4 : u0.heap.size = g4 at *
      clear hg4
      generalize u0.alloc _ = wr at *
      refine (R0.out wr).mono ?_
      rintro _ z0 ⟨hr, hb⟩
      have D1 := D.on hb
      obtain ⟨x', y', c', rfl⟩ := V0.out _ hr
      have FF := F0.out _ _ _ _ _ _ hs.out hr
      replace FF := Lib.hid FF
      clear D hb hr hs
      have p0 := (D1.at_ 0 rfl).lo
      have ph0 := (D1.at_ 0 rfl).hi
      have p1 := (D1.at_ 1 rfl).lo
      have ph1 := (D1.at_ 1 rfl).hi
      have p2 := (D1.at_ 2 rfl).lo
      have ph2 := (D1.at_ 2 rfl).hi
      have p3 := (D1.at_ 3 rfl).lo
      have ph3 := (D1.at_ 3 rfl).hi
      have p4 := (D1.at_ 4 rfl).lo
      have ph4 := (D1.at_ 4 rfl).hi
      have pf4 := (D1.at_ 4 rfl).f0
      have pk4 := (D1.at_ 4 rfl).f1
      have D2 := D1.new x' y'
      unfold boxO at D2
      have P0 := (D2.at_ 0 rfl).lo
      have Ph0 := (D2.at_ 0 rfl).hi
      have P1 := (D2.at_ 1 rfl).lo
      have Ph1 := (D2.at_ 1 rfl).hi
      have P2 := (D2.at_ 2 rfl).lo
      have Ph2 := (D2.at_ 2 rfl).hi
      have P3 := (D2.at_ 3 rfl).lo
      have Ph3 := (D2.at_ 3 rfl).hi
      have P4 := (D2.at_ 4 rfl).lo
      have Ph4 := (D2.at_ 4 rfl).hi
      have P5 := (D2.at_ 5 rfl).lo
      have Ph5 := (D2.at_ 5 rfl).hi
      replace D2 := Lib.hid D2
      clear D1
      go_wp2_with fail
      clear p0 ph0 p1 ph1 p2 ph2 p3 ph3 p4 ph4 pf4 pk4 P0 Ph0 P1 Ph1 P2 Ph2 P3 Ph3 P4 Ph4 P5 Ph5
      have D := D2.out
      clear D2
      generalize hg5 : z0.heap.size = g5 at *
      clear hg5
      generalize z0.alloc _ = wq at *
      refine (FF.out wq).mono ?_
      rintro _ y0 ⟨rfl, hb⟩
      have D1 := D.on hb
      clear D hb FF
      have p0 := (D1.at_ 0 rfl).lo
      have ph0 := (D1.at_ 0 rfl).hi
      have p1 := (D1.at_ 1 rfl).lo
      have ph1 := (D1.at_ 1 rfl).hi
      have p2 := (D1.at_ 2 rfl).lo
      have ph2 := (D1.at_ 2 rfl).hi
      have p3 := (D1.at_ 3 rfl).lo
      have ph3 := (D1.at_ 3 rfl).hi
      have p4 := (D1.at_ 4 rfl).lo
      have ph4 := (D1.at_ 4 rfl).hi
      have pf4 := (D1.at_ 4 rfl).f0
      have pk4 := (D1.at_ 4 rfl).f1
      have p5 := (D1.at_ 5 rfl).lo
      have ph5 := (D1.at_ 5 rfl).hi
      have pf5 := (D1.at_ 5 rfl).f0
      have pk5 := (D1.at_ 5 rfl).f1
      have D := Lib.hid D1
      clear D1 S0 R0 V0 F0
      go_wp2_with fail
      refine (S1.out y0).mono ?_
      rintro _ u1 ⟨hs, hb⟩
      have D1 := D.out.on hb
      obtain ⟨x, y, c, rfl⟩ := U1.out _ hs
      replace hs := Lib.hid hs
      clear p0 ph0 p1 ph1 p2 ph2 p3 ph3 p4 ph4 pf4 pk4 p5 ph5 pf5 pk5
      clear D hb U1
      have p0 := (D1.at_ 0 rfl).lo
      have ph0 := (D1.at_ 0 rfl).hi
      have p1 := (D1.at_ 1 rfl).lo
      have ph1 := (D1.at_ 1 rfl).hi
      have p2 := (D1.at_ 2 rfl).lo
      have ph2 := (D1.at_ 2 rfl).hi
      have p3 := (D1.at_ 3 rfl).lo
      have ph3 := (D1.at_ 3 rfl).hi
      have p4 := (D1.at_ 4 rfl).lo
      have ph4 := (D1.at_ 4 rfl).hi
      have pf4 := (D1.at_ 4 rfl).f0
      have pk4 := (D1.at_ 4 rfl).f1
      have p5 := (D1.at_ 5 rfl).lo
      have ph5 := (D1.at_ 5 rfl).hi
      have pf5 := (D1.at_ 5 rfl).f0
      have pk5 := (D1.at_ 5 rfl).f1
      have D2 : Cls w [(w.heap.size, a0, b0), (w.heap.size + 1, a1, b1), (w.heap.size + 1 + 1, a2, b2), (w.heap.size + 1 + 1 + 1, a3, b3), (g4, x, y), (g5, _, _)] _ := D1.put 4 rfl x y
      unfold put2 at D2
      have P0 := (D2.at_ 0 rfl).lo
      have Ph0 := (D2.at_ 0 rfl).hi
      have P1 := (D2.at_ 1 rfl).lo
      have Ph1 := (D2.at_ 1 rfl).hi
      have P2 := (D2.at_ 2 rfl).lo
      have Ph2 := (D2.at_ 2 rfl).hi
      have P3 := (D2.at_ 3 rfl).lo
      have Ph3 := (D2.at_ 3 rfl).hi
      replace D2 := Lib.hid D2
      clear D1
      go_wp2_with fail
      clear p0 ph0 p1 ph1 p2 ph2 p3 ph3 p4 ph4 pf4 pk4 p5 ph5 pf5 pk5 P0 Ph0 P1 Ph1 P2 Ph2 P3 Ph3
      have D := D2.out
      clear D2
      generalize (u1.setCell _ _).setCell _ _ = wr at *
      refine (R1.out wr).mono ?_
      rintro _ z1 ⟨hr, hb⟩
      have D1 := D.on hb
      obtain ⟨x', y', c', rfl⟩ := V1.out _ hr
      have FF := F1.out _ _ _ _ _ _ hs.out hr
      replace FF := Lib.hid FF
      clear D hb hr hs
      have p0 := (D1.at_ 0 rfl).lo
      have ph0 := (D1.at_ 0 rfl).hi
      have p1 := (D1.at_ 1 rfl).lo
      have ph1 := (D1.at_ 1 rfl).hi
      have p2 := (D1.at_ 2 rfl).lo
      have ph2 := (D1.at_ 2 rfl).hi
      have p3 := (D1.at_ 3 rfl).lo
      have ph3 := (D1.at_ 3 rfl).hi
      have p4 := (D1.at_ 4 rfl).lo
      have ph4 := (D1.at_ 4 rfl).hi
      have pf4 := (D1.at_ 4 rfl).f0
      have pk4 := (D1.at_ 4 rfl).f1
      have p5 := (D1.at_ 5 rfl).lo
      have ph5 := (D1.at_ 5 rfl).hi
      have pf5 := (D1.at_ 5 rfl).f0
      have pk5 := (D1.at_ 5 rfl).f1
      have D2 : Cls w [(w.heap.size, a0, b0), (w.heap.size + 1, a1, b1), (w.heap.size + 1 + 1, a2, b2), (w.heap.size + 1 + 1 + 1, a3, b3), (g4, x, y), (g5, x', y')] _ := D1.put 5 rfl x' y'
      unfold put2 at D2
      have P0 := (D2.at_ 0 rfl).lo
      have Ph0 := (D2.at_ 0 rfl).hi
      have P1 := (D2.at_ 1 rfl).lo
      have Ph1 := (D2.at_ 1 rfl).hi
      have P2 := (D2.at_ 2 rfl).lo
      have Ph2 := (D2.at_ 2 rfl).hi
      have P3 := (D2.at_ 3 rfl).lo
      have Ph3 := (D2.at_ 3 rfl).hi
      have P4 := (D2.at_ 4 rfl).lo
      have Ph4 := (D2.at_ 4 rfl).hi
      have P5 := (D2.at_ 5 rfl).lo
      have Ph5 := (D2.at_ 5 rfl).hi
      replace D2 := Lib.hid D2
      clear D1
      go_wp2_with fail
      clear p0 ph0 p1 ph1 p2 ph2 p3 ph3 p4 ph4 pf4 pk4 p5 ph5 pf5 pk5 P0 Ph0 P1 Ph1 P2 Ph2 P3 Ph3 P4 Ph4 P5 Ph5
      have D := D2.out
      clear D2
      generalize (z1.setCell _ _).setCell _ _ = wq at *
      refine (FF.out wq).mono ?_
      rintro _ y1 ⟨rfl, hb⟩
      have D1 := D.on hb
      clear D hb FF
      have p0 := (D1.at_ 0 rfl).lo
      have ph0 := (D1.at_ 0 rfl).hi
      have p1 := (D1.at_ 1 rfl).lo
      have ph1 := (D1.at_ 1 rfl).hi
      have p2 := (D1.at_ 2 rfl).lo
      have ph2 := (D1.at_ 2 rfl).hi
      have p3 := (D1.at_ 3 rfl).lo
      have ph3 := (D1.at_ 3 rfl).hi
      have p4 := (D1.at_ 4 rfl).lo
      have ph4 := (D1.at_ 4 rfl).hi
      have pf4 := (D1.at_ 4 rfl).f0
      have pk4 := (D1.at_ 4 rfl).f1
      have p5 := (D1.at_ 5 rfl).lo
      have ph5 := (D1.at_ 5 rfl).hi
      have pf5 := (D1.at_ 5 rfl).f0
      have pk5 := (D1.at_ 5 rfl).f1
      have D := Lib.hid D1
      clear D1 S1 R1 V1 F1
      go_wp2_with fail
      refine (S2.out y1).mono ?_
      rintro _ u2 ⟨hs, hb⟩
      have D1 := D.out.on hb
      obtain ⟨x, y, c, rfl⟩ := U2.out _ hs
      replace hs := Lib.hid hs
      clear p0 ph0 p1 ph1 p2 ph2 p3 ph3 p4 ph4 pf4 pk4 p5 ph5 pf5 pk5
      clear D hb U2
      have p0 := (D1.at_ 0 rfl).lo
      have ph0 := (D1.at_ 0 rfl).hi
      have p1 := (D1.at_ 1 rfl).lo
      have ph1 := (D1.at_ 1 rfl).hi
      have p2 := (D1.at_ 2 rfl).lo
      have ph2 := (D1.at_ 2 rfl).hi
      have p3 := (D1.at_ 3 rfl).lo
      have ph3 := (D1.at_ 3 rfl).hi
      have p4 := (D1.at_ 4 rfl).lo
      have ph4 := (D1.at_ 4 rfl).hi
      have pf4 := (D1.at_ 4 rfl).f0
      have pk4 := (D1.at_ 4 rfl).f1
      have p5 := (D1.at_ 5 rfl).lo
      have ph5 := (D1.at_ 5 rfl).hi
      have pf5 := (D1.at_ 5 rfl).f0
      have pk5 := (D1.at_ 5 rfl).f1
      have D2 : Cls w [(w.heap.size, a0, b0), (w.heap.size + 1, a1, b1), (w.heap.size + 1 + 1, a2, b2), (w.heap.size + 1 + 1 + 1, a3, b3), (g4, x, y), (g5, _, _)] _ := D1.put 4 rfl x y
      unfold put2 at D2
      have P0 := (D2.at_ 0 rfl).lo
      have Ph0 := (D2.at_ 0 rfl).hi
      have P1 := (D2.at_ 1 rfl).lo
      have Ph1 := (D2.at_ 1 rfl).hi
      have P2 := (D2.at_ 2 rfl).lo
      have Ph2 := (D2.at_ 2 rfl).hi
      have P3 := (D2.at_ 3 rfl).lo
      have Ph3 := (D2.at_ 3 rfl).hi
      replace D2 := Lib.hid D2
      clear D1
      go_wp2_with fail
      clear p0 ph0 p1 ph1 p2 ph2 p3 ph3 p4 ph4 pf4 pk4 p5 ph5 pf5 pk5 P0 Ph0 P1 Ph1 P2 Ph2 P3 Ph3
      have D := D2.out
      clear D2
      generalize (u2.setCell _ _).setCell _ _ = wr at *
      refine (R2.out wr).mono ?_
      rintro _ z2 ⟨hr, hb⟩
      have D1 := D.on hb
      obtain ⟨x', y', c', rfl⟩ := V2.out _ hr
      have FF := F2.out _ _ _ _ _ _ hs.out hr
      replace FF := Lib.hid FF
      clear D hb hr hs
      have p0 := (D1.at_ 0 rfl).lo
      have ph0 := (D1.at_ 0 rfl).hi
      have p1 := (D1.at_ 1 rfl).lo
      have ph1 := (D1.at_ 1 rfl).hi
      have p2 := (D1.at_ 2 rfl).lo
      have ph2 := (D1.at_ 2 rfl).hi
      have p3 := (D1.at_ 3 rfl).lo
      have ph3 := (D1.at_ 3 rfl).hi
      have p4 := (D1.at_ 4 rfl).lo
      have ph4 := (D1.at_ 4 rfl).hi
      have pf4 := (D1.at_ 4 rfl).f0
      have pk4 := (D1.at_ 4 rfl).f1
      have p5 := (D1.at_ 5 rfl).lo
      have ph5 := (D1.at_ 5 rfl).hi
      have pf5 := (D1.at_ 5 rfl).f0
      have pk5 := (D1.at_ 5 rfl).f1
      have D2 : Cls w [(w.heap.size, a0, b0), (w.heap.size + 1, a1, b1), (w.heap.size + 1 + 1, a2, b2), (w.heap.size + 1 + 1 + 1, a3, b3), (g4, x, y), (g5, x', y')] _ := D1.put 5 rfl x' y'
      unfold put2 at D2
      have P0 := (D2.at_ 0 rfl).lo
      have Ph0 := (D2.at_ 0 rfl).hi
      have P1 := (D2.at_ 1 rfl).lo
      have Ph1 := (D2.at_ 1 rfl).hi
      have P2 := (D2.at_ 2 rfl).lo
      have Ph2 := (D2.at_ 2 rfl).hi
      have P3 := (D2.at_ 3 rfl).lo
      have Ph3 := (D2.at_ 3 rfl).hi
      have P4 := (D2.at_ 4 rfl).lo
      have Ph4 := (D2.at_ 4 rfl).hi
      have P5 := (D2.at_ 5 rfl).lo
      have Ph5 := (D2.at_ 5 rfl).hi
      replace D2 := Lib.hid D2
      clear D1
      go_wp2_with fail
      clear p0 ph0 p1 ph1 p2 ph2 p3 ph3 p4 ph4 pf4 pk4 p5 ph5 pf5 pk5 P0 Ph0 P1 Ph1 P2 Ph2 P3 Ph3 P4 Ph4 P5 Ph5
      have D := D2.out
      clear D2
      generalize (z2.setCell _ _).setCell _ _ = wq at *
      refine (FF.out wq).mono ?_
      rintro _ y2 ⟨rfl, hb⟩
      have D1 := D.on hb
      clear D hb FF
      have p0 := (D1.at_ 0 rfl).lo
      have ph0 := (D1.at_ 0 rfl).hi
      have p1 := (D1.at_ 1 rfl).lo
      have ph1 := (D1.at_ 1 rfl).hi
      have p2 := (D1.at_ 2 rfl).lo
      have ph2 := (D1.at_ 2 rfl).hi
      have p3 := (D1.at_ 3 rfl).lo
      have ph3 := (D1.at_ 3 rfl).hi
      have p4 := (D1.at_ 4 rfl).lo
      have ph4 := (D1.at_ 4 rfl).hi
      have pf4 := (D1.at_ 4 rfl).f0
      have pk4 := (D1.at_ 4 rfl).f1
      have p5 := (D1.at_ 5 rfl).lo
      have ph5 := (D1.at_ 5 rfl).hi
      have pf5 := (D1.at_ 5 rfl).f0
      have pk5 := (D1.at_ 5 rfl).f1
      have D := Lib.hid D1
      clear D1 S2 R2 V2 F2
      go_wp2_with fail
      refine (S3.out y2).mono ?_
      rintro _ u3 ⟨hs, hb⟩
      have D1 := D.out.on hb
      obtain ⟨x, y, c, rfl⟩ := U3.out _ hs
      replace hs := Lib.hid hs
      clear p0 ph0 p1 ph1 p2 ph2 p3 ph3 p4 ph4 pf4 pk4 p5 ph5 pf5 pk5
      clear D hb U3
      have p0 := (D1.at_ 0 rfl).lo
      have ph0 := (D1.at_ 0 rfl).hi
      have p1 := (D1.at_ 1 rfl).lo
      have ph1 := (D1.at_ 1 rfl).hi
      have p2 := (D1.at_ 2 rfl).lo
      have ph2 := (D1.at_ 2 rfl).hi
      have p3 := (D1.at_ 3 rfl).lo
      have ph3 := (D1.at_ 3 rfl).hi
      have p4 := (D1.at_ 4 rfl).lo
      have ph4 := (D1.at_ 4 rfl).hi
      have pf4 := (D1.at_ 4 rfl).f0
      have pk4 := (D1.at_ 4 rfl).f1
      have p5 := (D1.at_ 5 rfl).lo
      have ph5 := (D1.at_ 5 rfl).hi
      have pf5 := (D1.at_ 5 rfl).f0
      have pk5 := (D1.at_ 5 rfl).f1
      have D2 : Cls w [(w.heap.size, a0, b0), (w.heap.size + 1, a1, b1), (w.heap.size + 1 + 1, a2, b2), (w.heap.size + 1 + 1 + 1, a3, b3), (g4, x, y), (g5, _, _)] _ := D1.put 4 rfl x y
      unfold put2 at D2
      have P0 := (D2.at_ 0 rfl).lo
      have Ph0 := (D2.at_ 0 rfl).hi
      have P1 := (D2.at_ 1 rfl).lo
      have Ph1 := (D2.at_ 1 rfl).hi
      have P2 := (D2.at_ 2 rfl).lo
      have Ph2 := (D2.at_ 2 rfl).hi
      have P3 := (D2.at_ 3 rfl).lo
      have Ph3 := (D2.at_ 3 rfl).hi
      replace D2 := Lib.hid D2
      clear D1
      go_wp2_with fail
      clear p0 ph0 p1 ph1 p2 ph2 p3 ph3 p4 ph4 pf4 pk4 p5 ph5 pf5 pk5 P0 Ph0 P1 Ph1 P2 Ph2 P3 Ph3
      have D := D2.out
      clear D2
      generalize (u3.setCell _ _).setCell _ _ = wr at *
      refine (R3.out wr).mono ?_
      rintro _ z3 ⟨hr, hb⟩
      have D1 := D.on hb
      obtain ⟨x', y', c', rfl⟩ := V3.out _ hr
      have FF := F3.out _ _ _ _ _ _ hs.out hr
      replace FF := Lib.hid FF
      clear D hb hr hs
      have p0 := (D1.at_ 0 rfl).lo
      have ph0 := (D1.at_ 0 rfl).hi
      have p1 := (D1.at_ 1 rfl).lo
      have ph1 := (D1.at_ 1 rfl).hi
      have p2 := (D1.at_ 2 rfl).lo
      have ph2 := (D1.at_ 2 rfl).hi
      have p3 := (D1.at_ 3 rfl).lo
      have ph3 := (D1.at_ 3 rfl).hi
      have p4 := (D1.at_ 4 rfl).lo
      have ph4 := (D1.at_ 4 rfl).hi
      have pf4 := (D1.at_ 4 rfl).f0
      have pk4 := (D1.at_ 4 rfl).f1
      have p5 := (D1.at_ 5 rfl).lo
      have ph5 := (D1.at_ 5 rfl).hi
      have pf5 := (D1.at_ 5 rfl).f0
      have pk5 := (D1.at_ 5 rfl).f1
      have D2 : Cls w [(w.heap.size, a0, b0), (w.heap.size + 1, a1, b1), (w.heap.size + 1 + 1, a2, b2), (w.heap.size + 1 + 1 + 1, a3, b3), (g4, x, y), (g5, x', y')] _ := D1.put 5 rfl x' y'
      unfold put2 at D2
      have P0 := (D2.at_ 0 rfl).lo
      have Ph0 := (D2.at_ 0 rfl).hi
      have P1 := (D2.at_ 1 rfl).lo
      have Ph1 := (D2.at_ 1 rfl).hi
      have P2 := (D2.at_ 2 rfl).lo
      have Ph2 := (D2.at_ 2 rfl).hi
      have P3 := (D2.at_ 3 rfl).lo
      have Ph3 := (D2.at_ 3 rfl).hi
      have P4 := (D2.at_ 4 rfl).lo
      have Ph4 := (D2.at_ 4 rfl).hi
      have P5 := (D2.at_ 5 rfl).lo
      have Ph5 := (D2.at_ 5 rfl).hi
      replace D2 := Lib.hid D2
      clear D1
      go_wp2_with fail
      clear p0 ph0 p1 ph1 p2 ph2 p3 ph3 p4 ph4 pf4 pk4 p5 ph5 pf5 pk5 P0 Ph0 P1 Ph1 P2 Ph2 P3 Ph3 P4 Ph4 P5 Ph5
      have D := D2.out
      clear D2
      generalize (z3.setCell _ _).setCell _ _ = wq at *
      refine (FF.out wq).mono ?_
      rintro _ y3 ⟨rfl, hb⟩
      have D1 := D.on hb
      clear D hb FF
      have p0 := (D1.at_ 0 rfl).lo
      have ph0 := (D1.at_ 0 rfl).hi
      have p1 := (D1.at_ 1 rfl).lo
      have ph1 := (D1.at_ 1 rfl).hi
      have p2 := (D1.at_ 2 rfl).lo
      have ph2 := (D1.at_ 2 rfl).hi
      have p3 := (D1.at_ 3 rfl).lo
      have ph3 := (D1.at_ 3 rfl).hi
      have p4 := (D1.at_ 4 rfl).lo
      have ph4 := (D1.at_ 4 rfl).hi
      have pf4 := (D1.at_ 4 rfl).f0
      have pk4 := (D1.at_ 4 rfl).f1
      have p5 := (D1.at_ 5 rfl).lo
      have ph5 := (D1.at_ 5 rfl).hi
      have pf5 := (D1.at_ 5 rfl).f0
      have pk5 := (D1.at_ 5 rfl).f1
      have D := Lib.hid D1
      clear D1 S3 R3 V3 F3
      go_wp2_with fail
      refine (S4.out y3).mono ?_
      rintro _ u4 ⟨hs, hb⟩
      have D1 := D.out.on hb
      obtain ⟨x, y, c, rfl⟩ := U4.out _ hs
      replace hs := Lib.hid hs
      clear p0 ph0 p1 ph1 p2 ph2 p3 ph3 p4 ph4 pf4 pk4 p5 ph5 pf5 pk5
      clear D hb U4
      have p0 := (D1.at_ 0 rfl).lo
      have ph0 := (D1.at_ 0 rfl).hi
      have p1 := (D1.at_ 1 rfl).lo
      have ph1 := (D1.at_ 1 rfl).hi
      have p2 := (D1.at_ 2 rfl).lo
      have ph2 := (D1.at_ 2 rfl).hi
      have p3 := (D1.at_ 3 rfl).lo
      have ph3 := (D1.at_ 3 rfl).hi
      have p4 := (D1.at_ 4 rfl).lo
      have ph4 := (D1.at_ 4 rfl).hi
      have pf4 := (D1.at_ 4 rfl).f0
      have pk4 := (D1.at_ 4 rfl).f1
      have p5 := (D1.at_ 5 rfl).lo
      have ph5 := (D1.at_ 5 rfl).hi
      have pf5 := (D1.at_ 5 rfl).f0
      have pk5 := (D1.at_ 5 rfl).f1
      have D2 : Cls w [(w.heap.size, a0, b0), (w.heap.size + 1, a1, b1), (w.heap.size + 1 + 1, a2, b2), (w.heap.size + 1 + 1 + 1, a3, b3), (g4, x, y), (g5, _, _)] _ := D1.put 4 rfl x y
      unfold put2 at D2
      have P0 := (D2.at_ 0 rfl).lo
      have Ph0 := (D2.at_ 0 rfl).hi
      have P1 := (D2.at_ 1 rfl).lo
      have Ph1 := (D2.at_ 1 rfl).hi
      have P2 := (D2.at_ 2 rfl).lo
      have Ph2 := (D2.at_ 2 rfl).hi
      have P3 := (D2.at_ 3 rfl).lo
      have Ph3 := (D2.at_ 3 rfl).hi
      replace D2 := Lib.hid D2
      clear D1
      go_wp2_with fail
      clear p0 ph0 p1 ph1 p2 ph2 p3 ph3 p4 ph4 pf4 pk4 p5 ph5 pf5 pk5 P0 Ph0 P1 Ph1 P2 Ph2 P3 Ph3
      have D := D2.out
      clear D2
      generalize (u4.setCell _ _).setCell _ _ = wr at *
      refine (R4.out wr).mono ?_
      rintro _ z4 ⟨hr, hb⟩
      have D1 := D.on hb
      obtain ⟨x', y', c', rfl⟩ := V4.out _ hr
      have FF := F4.out _ _ _ _ _ _ hs.out hr
      replace FF := Lib.hid FF
      clear D hb hr hs
      have p0 := (D1.at_ 0 rfl).lo
      have ph0 := (D1.at_ 0 rfl).hi
      have p1 := (D1.at_ 1 rfl).lo
      have ph1 := (D1.at_ 1 rfl).hi
      have p2 := (D1.at_ 2 rfl).lo
      have ph2 := (D1.at_ 2 rfl).hi
      have p3 := (D1.at_ 3 rfl).lo
      have ph3 := (D1.at_ 3 rfl).hi
      have p4 := (D1.at_ 4 rfl).lo
      have ph4 := (D1.at_ 4 rfl).hi
      have pf4 := (D1.at_ 4 rfl).f0
      have pk4 := (D1.at_ 4 rfl).f1
      have p5 := (D1.at_ 5 rfl).lo
      have ph5 := (D1.at_ 5 rfl).hi
      have pf5 := (D1.at_ 5 rfl).f0
      have pk5 := (D1.at_ 5 rfl).f1
      have D2 : Cls w [(w.heap.size, a0, b0), (w.heap.size + 1, a1, b1), (w.heap.size + 1 + 1, a2, b2), (w.heap.size + 1 + 1 + 1, a3, b3), (g4, x, y), (g5, x', y')] _ := D1.put 5 rfl x' y'
      unfold put2 at D2
      have P0 := (D2.at_ 0 rfl).lo
      have Ph0 := (D2.at_ 0 rfl).hi
      have P1 := (D2.at_ 1 rfl).lo
      have Ph1 := (D2.at_ 1 rfl).hi
      have P2 := (D2.at_ 2 rfl).lo
      have Ph2 := (D2.at_ 2 rfl).hi
      have P3 := (D2.at_ 3 rfl).lo
      have Ph3 := (D2.at_ 3 rfl).hi
      have P4 := (D2.at_ 4 rfl).lo
      have Ph4 := (D2.at_ 4 rfl).hi
      have P5 := (D2.at_ 5 rfl).lo
      have Ph5 := (D2.at_ 5 rfl).hi
      replace D2 := Lib.hid D2
      clear D1
      go_wp2_with fail
      clear p0 ph0 p1 ph1 p2 ph2 p3 ph3 p4 ph4 pf4 pk4 p5 ph5 pf5 pk5 P0 Ph0 P1 Ph1 P2 Ph2 P3 Ph3 P4 Ph4 P5 Ph5
      have D := D2.out
      clear D2
      generalize (z4.setCell _ _).setCell _ _ = wq at *
      refine (FF.out wq).mono ?_
      rintro _ y4 ⟨rfl, hb⟩
      have D1 := D.on hb
      clear D hb FF
      have p0 := (D1.at_ 0 rfl).lo
      have ph0 := (D1.at_ 0 rfl).hi
      have p1 := (D1.at_ 1 rfl).lo
      have ph1 := (D1.at_ 1 rfl).hi
      have p2 := (D1.at_ 2 rfl).lo
      have ph2 := (D1.at_ 2 rfl).hi
      have p3 := (D1.at_ 3 rfl).lo
      have ph3 := (D1.at_ 3 rfl).hi
      have p4 := (D1.at_ 4 rfl).lo
      have ph4 := (D1.at_ 4 rfl).hi
      have pf4 := (D1.at_ 4 rfl).f0
      have pk4 := (D1.at_ 4 rfl).f1
      have p5 := (D1.at_ 5 rfl).lo
      have ph5 := (D1.at_ 5 rfl).hi
      have pf5 := (D1.at_ 5 rfl).f0
      have pk5 := (D1.at_ 5 rfl).f1
      have D := Lib.hid D1
      clear D1 S4 R4 V4 F4
      go_wp2_with fail
      go_ret
      exact ⟨rfl, D.out.old⟩
    · rw [Bool.not_eq_true] at i1
      rw [i0] at I0
      rw [i1] at I1
      unfold spanV at *
      replace C0 := Lib.hid C0
      clear i0 i1 ha0 hb0 ha1 hb1 ha2 hb2 ha3 hb3
      go_enter Try.func8, Try.ntmps8
      go_wp2_with fail
      have C := C0.out
      clear C0
      generalize (((w.alloc _).alloc _).alloc _).alloc _ = wr at *
      refine (AW.out wr).mono ?_
      rintro _ v0 ⟨rfl, hb⟩
      have D := C.on hb
      clear C hb wr
      have p0 := (D.at_ 0 rfl).lo
      have ph0 := (D.at_ 0 rfl).hi
      have p1 := (D.at_ 1 rfl).lo
      have ph1 := (D.at_ 1 rfl).hi
      have p2 := (D.at_ 2 rfl).lo
      have ph2 := (D.at_ 2 rfl).hi
      have p3 := (D.at_ 3 rfl).lo
      have ph3 := (D.at_ 3 rfl).hi
      replace D := Lib.hid D
      go_wp2_with fail
      refine (I0.out v0).mono ?_
      rintro _ v1 ⟨rfl, hb⟩
      have D1 := D.out.on hb
      clear D hb
      clear p0 ph0 p1 ph1 p2 ph2 p3 ph3
      have p0 := (D1.at_ 0 rfl).lo
      have ph0 := (D1.at_ 0 rfl).hi
      have p1 := (D1.at_ 1 rfl).lo
      have ph1 := (D1.at_ 1 rfl).hi
      have p2 := (D1.at_ 2 rfl).lo
      have ph2 := (D1.at_ 2 rfl).hi
      have p3 := (D1.at_ 3 rfl).lo
      have ph3 := (D1.at_ 3 rfl).hi
      have D := Lib.hid D1
      clear D1
      go_wp2_with fail
      refine (I1.out v1).mono ?_
      rintro _ v2 ⟨rfl, hb⟩
      have B := Lib.hid (D.out.on hb).old
      clear D hb
      go_wp2_with fail
      go_ret
      exact ⟨rfl, B.out⟩
  · rw [Bool.not_eq_true] at i0
    rw [i0] at I0
    unfold spanV at *
    replace C0 := Lib.hid C0
    clear i0 ha0 hb0 ha1 hb1 ha2 hb2 ha3 hb3 I1
    go_enter Try.func8, Try.ntmps8
    go_wp2_with fail
    have C := C0.out
    clear C0
    generalize (((w.alloc _).alloc _).alloc _).alloc _ = wr at *
    refine (AW.out wr).mono ?_
    rintro _ v0 ⟨rfl, hb⟩
    have D := C.on hb
    clear C hb wr
    have p0 := (D.at_ 0 rfl).lo
    have ph0 := (D.at_ 0 rfl).hi
    have p1 := (D.at_ 1 rfl).lo
    have ph1 := (D.at_ 1 rfl).hi
    have p2 := (D.at_ 2 rfl).lo
    have ph2 := (D.at_ 2 rfl).hi
    have p3 := (D.at_ 3 rfl).lo
    have ph3 := (D.at_ 3 rfl).hi
    replace D := Lib.hid D
    go_wp2_with fail
    refine (I0.out v0).mono ?_
    rintro _ v1 ⟨rfl, hb⟩
    have B := Lib.hid (D.out.on hb).old
    clear D hb
    go_wp2_with fail
    go_ret
    exact ⟨rfl, B.out⟩

theorem own : ownKnob Try.prog.godebug = none := by kernel_rfl
theorem laidOut : laidOutB Try.prog = true := by kernel_rfl
theorem cellsF : Try.prog.cellsOf 22 = 1 := by kernel_rfl
theorem bytesF : Try.prog.bytesOf 22 = 8 := by kernel_rfl
theorem wf64 {b : Nat} (h : (Lit.float .f64 b).wf = true) : b < 18446744073709551616 := by
  simp only [Lit.wf, decide_eq_true_eq] at h; exact h

set_option maxRecDepth 100000 in
theorem lifted (os : Os) (started : os.Started) (H : Type) (enc : TypeId × Value → H) :
    ReturnsInHanded {} Try.checked os 8 .any (Rows.spanSmallerSpec.pre6 enc Try.prog Try.f8 Rows.spanSmallerRow.domain false) (Rows.spanSmallerSpec.post enc Try.prog Try.f8 false true false false) := by
  refine returnsInHanded_of_change_sized (C := Try.checked) own started (by kernel_rfl) Try.func8
    (ChangeSpec.witness6 (enc := enc) (C := Try.checked) false ⟨#[], #[.agg #[.float .f64 0, .float .f64 0], .agg #[.float .f64 0, .float .f64 0], .agg #[.float .f64 0, .float .f64 0], .agg #[.float .f64 0, .float .f64 0]], []⟩ 8 (by kernel_rfl) (by kernel_rfl) (by kernel_rfl) (by kernel_rfl)) ?_
  intro W base args ds gs before hval0 hW _ hsz0 _
  have hsz : (DataW.weightsEach Try.prog (Try.f8.params.toList ++ Rows.spanSmallerSpec.plain.varTypes Try.prog) (ds ++ gs)).all (· ≤ reachBytes) = true := hsz0
  clear hsz0
  have hval : ∀ (j : Nat) t v, Try.f8.params[j]? = some t → args[j]? = some v → Value.okWide Try.prog W .any base t v := hval0
  have hW' := hW
  obtain ⟨p, q, hA0, hV, rfl, _, _⟩ := hW
  have hA : DataW.TrodAll enc Try.prog W 0 (fun _ => true) true Try.f8.params.toList args.toList ds p := hA0
  rw [Try.params8] at hA hval hsz
  obtain ⟨v0, vs0, d0, ds0, p0, q0, hargs, rfl, rfl, t0, r0⟩ := trodAll_cons hA
  obtain ⟨v1, vs1, d1, ds1, p1, q1, rfl, rfl, rfl, t1, r1⟩ := trodAll_cons r0
  obtain ⟨v2, vs2, d2, ds2, p2, q2, rfl, rfl, rfl, t2, r2⟩ := trodAll_cons r1
  obtain ⟨v3, vs3, d3, ds3, p3, q3, rfl, rfl, rfl, t3, r3⟩ := trodAll_cons r2
  obtain ⟨rfl, rfl, rfl⟩ := trodAll_nil r3
  obtain rfl : args = #[v0, v1, v2, v3] := by cases args; simp_all
  obtain ⟨rfl, rfl⟩ := trodVars_none hV
  simp only [List.append_nil] at hW'
  have tk0 := t0
  obtain ⟨a0, b0, rfl, wa0, wb0⟩ := open_span (hval 0 24 v0 rfl rfl) t0
  have hlt0 : ∀ x ∈ p0, x.block < W.heap.size := fun x hx => by have := hW'.lt x (by simp [hx]); simpa using this
  have tk1 := t1
  obtain ⟨a1, b1, rfl, wa1, wb1⟩ := open_span (hval 1 24 v1 rfl rfl) t1
  have hlt1 : ∀ x ∈ p1, x.block < W.heap.size := fun x hx => by have := hW'.lt x (by simp [hx]); simpa using this
  have tk2 := t2
  obtain ⟨a2, b2, rfl, wa2, wb2⟩ := open_span (hval 2 24 v2 rfl rfl) t2
  have hlt2 : ∀ x ∈ p2, x.block < W.heap.size := fun x hx => by have := hW'.lt x (by simp [hx]); simpa using this
  have tk3 := t3
  obtain ⟨a3, b3, rfl, wa3, wb3⟩ := open_span (hval 3 24 v3 rfl rfl) t3
  have hlt3 : ∀ x ∈ p3, x.block < W.heap.size := fun x hx => by have := hW'.lt x (by simp [hx]); simpa using this
  clear hA0 hval0
  refine (walk W a0 b0 wa0 wb0 a1 b1 wa1 wb1 a2 b2 wa2 wb2 a3 b3 wa3 wb3).mono fun e W' ⟨he, hb⟩ => ?_
  subst he
  refine ⟨_, rfl, _, _, _, [], _, [], hW', trodAll_cons_mk (shut_bool Try.underlying4 _) trodAll_mk0, (trodAll_cons_mk (Below.trod laidOut (by kernel_rfl) (of_decide_eq_true (by kernel_rfl)) tk0 hb hlt0) (trodAll_cons_mk (Below.trod laidOut (by kernel_rfl) (of_decide_eq_true (by kernel_rfl)) tk1 hb hlt1) (trodAll_cons_mk (Below.trod laidOut (by kernel_rfl) (of_decide_eq_true (by kernel_rfl)) tk2 hb hlt2) (trodAll_cons_mk (Below.trod laidOut (by kernel_rfl) (of_decide_eq_true (by kernel_rfl)) tk3 hb hlt3) trodAll_mk0)))), rfl, hb.frame _, fun h => by cases h⟩

theorem over : Rows.spanSmallerRow.holds Try.pinned (OpenSpec.ofChange Rows.spanSmallerSpec) :=
  OpenClaim.holds_of_wide 8 Try.f8 rfl rfl rfl rfl rfl rfl rfl ⟨rfl, rfl, rfl, rfl, rfl⟩ rfl rfl rfl rfl rfl (by kernel_rfl) Try.func8 (by kernel_rfl)
    (of_decide_eq_true (by kernel_rfl)) (by unfold Func.isWrapper; first | (rw [if_pos (by decide +kernel)]; kernel_rfl) | (rw [if_neg (by decide +kernel)]; exact ⟨rfl, rfl⟩))
    (fun os started H enc _ => lifted os started H enc)

theorem proved : Rows.SpanSmallerSaid :=
  over
end Go.Proofs.Ytkfagpahbojigaa.spanSmaller
