/- Proved here: for every two spans (and all that are none) the law SpanTells returns true: sums, differences, products, quotients, squares, roots and the negated are as the document answers them. No conditions. -/
import Derived.Test.YtkfagpahbojigaaRows
import Derived.Test.YtkfagpahbojigaaCls
import Derived.Test.YtkfagpahbojigaaSpf
import Derived.Test.YtkfagpahbojigaaSsqs
namespace Go.Proofs.Ytkfagpahbojigaa.spanTells
open Go.ChangeShapes Go.WideShapes Go.ChangeAt Go.RowKit Ieee.Own

set_option maxHeartbeats 2000000 in
theorem walk (w : World) (a0 b0 : Nat) (ha0 : a0 < 18446744073709551616) (hb0 : b0 < 18446744073709551616) (a1 b1 : Nat) (ha1 : a1 < 18446744073709551616) (hb1 : b1 < 18446744073709551616) :
    Calls Try.prog 3 #[spanV a0 b0, spanV a1 b1] w fun e w' => e = .returned (.bool true) ∧ Below w.heap.size w w' := by
  have AW := Lib.hid awake_run
  have AL := Lib.hid alike_run
  have hst := @fstore
  have S0 := Lib.hid (fun w => sadd_run a0 b0 a1 b1 ha0 hb0 ha1 hb1 w)
  have R0 := Lib.hid (fun w => radd_run a0 b0 a1 b1 ha0 hb0 ha1 hb1 w)
  have U0 : Hid (∀ e e', (OpIs (errSS a0 b0 a1 b1) (fun v => V a0 + V a1 - v) (fun v => V b0 + V b1 - v)) e → (OpIs (errSS a0 b0 a1 b1) (fun v => V a0 + V a1 - v) (fun v => V b0 + V b1 - v)) e' → e' = e ∧ ∃ x y c, e = .returned (spanE x y c)) := fun e e' h k => ⟨(h.all.uniq k.all).symm, h.span⟩
  have S1 := Lib.hid (fun w => ssub_run a0 b0 a1 b1 ha0 hb0 ha1 hb1 w)
  have R1 := Lib.hid (fun w => rsub_run a0 b0 a1 b1 ha0 hb0 ha1 hb1 w)
  have U1 : Hid (∀ e e', (OpIs (errSS a0 b0 a1 b1) (fun v => V a0 - V b1 - v) (fun v => V b0 - V a1 - v)) e → (OpIs (errSS a0 b0 a1 b1) (fun v => V a0 - V b1 - v) (fun v => V b0 - V a1 - v)) e' → e' = e ∧ ∃ x y c, e = .returned (spanE x y c)) := fun e e' h k => ⟨(h.all.uniq k.all).symm, h.span⟩
  have S2 := Lib.hid (fun w => smul_run a0 b0 a1 b1 ha0 hb0 ha1 hb1 w)
  have R2 := Lib.hid (fun w => rmul_run a0 b0 a1 b1 ha0 hb0 ha1 hb1 w)
  have U2 : Hid (∀ e e', (OpAll (errSS a0 b0 a1 b1) [prodC a0 a1, prodC a0 b1, prodC b0 a1, prodC b0 b1] [prodC a0 a1, prodC a0 b1, prodC b0 a1, prodC b0 b1]) e → (OpAll (errSS a0 b0 a1 b1) [prodC a0 a1, prodC a0 b1, prodC b0 a1, prodC b0 b1] [prodC a0 a1, prodC a0 b1, prodC b0 a1, prodC b0 b1]) e' → e' = e ∧ ∃ x y c, e = .returned (spanE x y c)) := fun e e' h k => ⟨(h.uniq k).symm, h.span⟩
  have S3 := Lib.hid (fun w => sdiv_run a0 b0 a1 b1 ha0 hb0 ha1 hb1 w)
  have R3 := Lib.hid (fun w => rdiv_run a0 b0 a1 b1 ha0 hb0 ha1 hb1 w)
  have U3 : Hid (∀ e e', (OpAll (errD a0 b0 a1 b1) [quotC a0 a1, quotC a0 b1, quotC b0 a1, quotC b0 b1] [quotC a0 a1, quotC a0 b1, quotC b0 a1, quotC b0 b1]) e → (OpAll (errD a0 b0 a1 b1) [quotC a0 a1, quotC a0 b1, quotC b0 a1, quotC b0 b1] [quotC a0 a1, quotC a0 b1, quotC b0 a1, quotC b0 b1]) e' → e' = e ∧ ∃ x y c, e = .returned (spanE x y c)) := fun e e' h k => ⟨(h.uniq k).symm, h.span⟩
  have S4 := Lib.hid (fun w => ssquare_run a0 b0 ha0 hb0 w)
  have R4 := Lib.hid (fun w => rsquare_run a0 b0 ha0 hb0 w)
  have U4 : Hid (∀ e e', (OpAll (errS a0 b0) (sqLo a0 b0) (sqHi a0 b0)) e → (OpAll (errS a0 b0) (sqLo a0 b0) (sqHi a0 b0)) e' → e' = e ∧ ∃ x y c, e = .returned (spanE x y c)) := fun e e' h k => ⟨(h.uniq k).symm, h.span⟩
  have S5 := Lib.hid (fun w => sroots_run a0 b0 ha0 hb0 w)
  have R5 := Lib.hid (fun w => rroots_run a0 b0 ha0 hb0 w)
  have U5 : Hid (∀ e e', (OpIs (errR a0 b0) (rootC a0) (rootC b0)) e → (OpIs (errR a0 b0) (rootC a0) (rootC b0)) e' → e' = e ∧ ∃ x y c, e = .returned (spanE x y c)) := fun e e' h k => ⟨(h.all.uniq k.all).symm, h.span⟩
  have S6 := Lib.hid (fun w => sneg_run a0 b0 ha0 hb0 w)
  have R6 := Lib.hid (fun w => rneg_run a0 b0 ha0 hb0 w)
  have U6 : Hid (∀ e e', (OpIs (errS a0 b0) (fun v => -V b0 - v) (fun v => -V a0 - v)) e → (OpIs (errS a0 b0) (fun v => -V b0 - v) (fun v => -V a0 - v)) e' → e' = e ∧ ∃ x y c, e = .returned (spanE x y c)) := fun e e' h k => ⟨(h.all.uniq k.all).symm, h.span⟩
  have C0 : Cls w [(w.heap.size, a0, b0), (w.heap.size + 1, a1, b1)] ((w.alloc (boxO a0 b0)).alloc (boxO a1 b1)) := by
    have := ((Cls.nil w).new a0 b0).new a1 b1
    simp only [List.nil_append, List.cons_append] at this
    rw [show (w.alloc (boxO a0 b0)).heap.size = w.heap.size + 1 by simp] at this
    exact this
  unfold boxO at C0
  unfold spanV at *
  unfold spanE at *
  replace C0 := Lib.hid C0
  clear ha0 hb0 ha1 hb1
  go_enter Try.func3, Try.ntmps3
  go_wp2_with fail
  have C := C0.out
  clear C0
  generalize (w.alloc _).alloc _ = wr at *
  refine (AW.out wr).mono ?_
  rintro _ v0 ⟨rfl, hb⟩
  have D := C.on hb
  clear C hb wr
  have p0 := (D.at_ 0 rfl).lo
  have q0 := (D.at_ 0 rfl).hi
  have p1 := (D.at_ 1 rfl).lo
  have q1 := (D.at_ 1 rfl).hi
  replace D := Lib.hid D
  go_wp2_with fail
  refine (S0.out v0).mono ?_
  rintro _ u0 ⟨hs, hb⟩
  have D1 := D.out.on hb
  obtain ⟨x, y, c, rfl⟩ := (U0.out _ _ hs hs).2
  replace hs := Lib.hid hs
  clear p0 q0 p1 q1
  clear D hb
  have p0 := (D1.at_ 0 rfl).lo
  have q0 := (D1.at_ 0 rfl).hi
  have p1 := (D1.at_ 1 rfl).lo
  have q1 := (D1.at_ 1 rfl).hi
  have D2 := D1.new x y
  unfold boxO at D2
  have P0 := (D2.at_ 0 rfl).lo
  have Q0 := (D2.at_ 0 rfl).hi
  have P1 := (D2.at_ 1 rfl).lo
  have Q1 := (D2.at_ 1 rfl).hi
  replace D2 := Lib.hid D2
  clear D1
  go_wp2_with fail
  clear p0 q0 p1 q1
  clear P0 Q0 P1 Q1
  have D := D2.out
  clear D2
  generalize hg2 : u0.heap.size = g2 at *
  clear hg2
  generalize u0.alloc _ = wr at *
  refine (R0.out wr).mono ?_
  rintro _ v1 ⟨hr, hb⟩
  have D1 := D.on hb
  obtain rfl := (U0.out _ _ hs.out hr).1
  clear D hb hr hs
  have p0 := (D1.at_ 0 rfl).lo
  have q0 := (D1.at_ 0 rfl).hi
  have p1 := (D1.at_ 1 rfl).lo
  have q1 := (D1.at_ 1 rfl).hi
  have p2 := (D1.at_ 2 rfl).lo
  have q2 := (D1.at_ 2 rfl).hi
  have f2 := (D1.at_ 2 rfl).f0
  have k2 := (D1.at_ 2 rfl).f1
  have D2 := D1.new x y
  unfold boxO at D2
  have P0 := (D2.at_ 0 rfl).lo
  have Q0 := (D2.at_ 0 rfl).hi
  have P1 := (D2.at_ 1 rfl).lo
  have Q1 := (D2.at_ 1 rfl).hi
  have P2 := (D2.at_ 2 rfl).lo
  have Q2 := (D2.at_ 2 rfl).hi
  have P3 := (D2.at_ 3 rfl).lo
  have Q3 := (D2.at_ 3 rfl).hi
  replace D2 := Lib.hid D2
  clear D1
  go_wp2_with fail
  clear p0 q0 p1 q1 p2 q2 f2 k2
  clear P0 Q0 P1 Q1 P2 Q2 P3 Q3
  have D := D2.out
  clear D2
  generalize hg3 : v1.heap.size = g3 at *
  clear hg3
  generalize v1.alloc _ = wq at *
  refine (AL.out x y c wq).mono ?_
  rintro _ z0 ⟨rfl, hb⟩
  have D1 := D.on hb
  clear D hb
  have p0 := (D1.at_ 0 rfl).lo
  have q0 := (D1.at_ 0 rfl).hi
  have p1 := (D1.at_ 1 rfl).lo
  have q1 := (D1.at_ 1 rfl).hi
  have p2 := (D1.at_ 2 rfl).lo
  have q2 := (D1.at_ 2 rfl).hi
  have f2 := (D1.at_ 2 rfl).f0
  have k2 := (D1.at_ 2 rfl).f1
  have p3 := (D1.at_ 3 rfl).lo
  have q3 := (D1.at_ 3 rfl).hi
  have f3 := (D1.at_ 3 rfl).f0
  have k3 := (D1.at_ 3 rfl).f1
  have D := Lib.hid D1
  clear D1 S0 R0 U0
  go_wp2_with fail
  refine (S1.out z0).mono ?_
  rintro _ u1 ⟨hs, hb⟩
  have D1 := D.out.on hb
  obtain ⟨x, y, c, rfl⟩ := (U1.out _ _ hs hs).2
  replace hs := Lib.hid hs
  clear p0 q0 p1 q1 p2 q2 f2 k2 p3 q3 f3 k3
  clear D hb
  have p0 := (D1.at_ 0 rfl).lo
  have q0 := (D1.at_ 0 rfl).hi
  have p1 := (D1.at_ 1 rfl).lo
  have q1 := (D1.at_ 1 rfl).hi
  have p2 := (D1.at_ 2 rfl).lo
  have q2 := (D1.at_ 2 rfl).hi
  have f2 := (D1.at_ 2 rfl).f0
  have k2 := (D1.at_ 2 rfl).f1
  have p3 := (D1.at_ 3 rfl).lo
  have q3 := (D1.at_ 3 rfl).hi
  have f3 := (D1.at_ 3 rfl).f0
  have k3 := (D1.at_ 3 rfl).f1
  have D2 : Cls w [(w.heap.size, a0, b0), (w.heap.size + 1, a1, b1), (g2, x, y), (g3, _, _)] _ := D1.put 2 rfl x y
  unfold put2 at D2
  have P0 := (D2.at_ 0 rfl).lo
  have Q0 := (D2.at_ 0 rfl).hi
  have P1 := (D2.at_ 1 rfl).lo
  have Q1 := (D2.at_ 1 rfl).hi
  replace D2 := Lib.hid D2
  clear D1
  go_wp2_with fail
  clear p0 q0 p1 q1 p2 q2 f2 k2 p3 q3 f3 k3
  clear P0 Q0 P1 Q1
  have D := D2.out
  clear D2
  generalize (u1.setCell _ _).setCell _ _ = wr at *
  refine (R1.out wr).mono ?_
  rintro _ v2 ⟨hr, hb⟩
  have D1 := D.on hb
  obtain rfl := (U1.out _ _ hs.out hr).1
  clear D hb hr hs
  have p0 := (D1.at_ 0 rfl).lo
  have q0 := (D1.at_ 0 rfl).hi
  have p1 := (D1.at_ 1 rfl).lo
  have q1 := (D1.at_ 1 rfl).hi
  have p2 := (D1.at_ 2 rfl).lo
  have q2 := (D1.at_ 2 rfl).hi
  have f2 := (D1.at_ 2 rfl).f0
  have k2 := (D1.at_ 2 rfl).f1
  have p3 := (D1.at_ 3 rfl).lo
  have q3 := (D1.at_ 3 rfl).hi
  have f3 := (D1.at_ 3 rfl).f0
  have k3 := (D1.at_ 3 rfl).f1
  have D2 : Cls w [(w.heap.size, a0, b0), (w.heap.size + 1, a1, b1), (g2, x, y), (g3, x, y)] _ := D1.put 3 rfl x y
  unfold put2 at D2
  have P0 := (D2.at_ 0 rfl).lo
  have Q0 := (D2.at_ 0 rfl).hi
  have P1 := (D2.at_ 1 rfl).lo
  have Q1 := (D2.at_ 1 rfl).hi
  have P2 := (D2.at_ 2 rfl).lo
  have Q2 := (D2.at_ 2 rfl).hi
  have P3 := (D2.at_ 3 rfl).lo
  have Q3 := (D2.at_ 3 rfl).hi
  replace D2 := Lib.hid D2
  clear D1
  go_wp2_with fail
  clear p0 q0 p1 q1 p2 q2 f2 k2 p3 q3 f3 k3
  clear P0 Q0 P1 Q1 P2 Q2 P3 Q3
  have D := D2.out
  clear D2
  generalize (v2.setCell _ _).setCell _ _ = wq at *
  refine (AL.out x y c wq).mono ?_
  rintro _ z1 ⟨rfl, hb⟩
  have D1 := D.on hb
  clear D hb
  have p0 := (D1.at_ 0 rfl).lo
  have q0 := (D1.at_ 0 rfl).hi
  have p1 := (D1.at_ 1 rfl).lo
  have q1 := (D1.at_ 1 rfl).hi
  have p2 := (D1.at_ 2 rfl).lo
  have q2 := (D1.at_ 2 rfl).hi
  have f2 := (D1.at_ 2 rfl).f0
  have k2 := (D1.at_ 2 rfl).f1
  have p3 := (D1.at_ 3 rfl).lo
  have q3 := (D1.at_ 3 rfl).hi
  have f3 := (D1.at_ 3 rfl).f0
  have k3 := (D1.at_ 3 rfl).f1
  have D := Lib.hid D1
  clear D1 S1 R1 U1
  go_wp2_with fail
  refine (S2.out z1).mono ?_
  rintro _ u2 ⟨hs, hb⟩
  have D1 := D.out.on hb
  obtain ⟨x, y, c, rfl⟩ := (U2.out _ _ hs hs).2
  replace hs := Lib.hid hs
  clear p0 q0 p1 q1 p2 q2 f2 k2 p3 q3 f3 k3
  clear D hb
  have p0 := (D1.at_ 0 rfl).lo
  have q0 := (D1.at_ 0 rfl).hi
  have p1 := (D1.at_ 1 rfl).lo
  have q1 := (D1.at_ 1 rfl).hi
  have p2 := (D1.at_ 2 rfl).lo
  have q2 := (D1.at_ 2 rfl).hi
  have f2 := (D1.at_ 2 rfl).f0
  have k2 := (D1.at_ 2 rfl).f1
  have p3 := (D1.at_ 3 rfl).lo
  have q3 := (D1.at_ 3 rfl).hi
  have f3 := (D1.at_ 3 rfl).f0
  have k3 := (D1.at_ 3 rfl).f1
  have D2 : Cls w [(w.heap.size, a0, b0), (w.heap.size + 1, a1, b1), (g2, x, y), (g3, _, _)] _ := D1.put 2 rfl x y
  unfold put2 at D2
  have P0 := (D2.at_ 0 rfl).lo
  have Q0 := (D2.at_ 0 rfl).hi
  have P1 := (D2.at_ 1 rfl).lo
  have Q1 := (D2.at_ 1 rfl).hi
  replace D2 := Lib.hid D2
  clear D1
  go_wp2_with fail
  clear p0 q0 p1 q1 p2 q2 f2 k2 p3 q3 f3 k3
  clear P0 Q0 P1 Q1
  have D := D2.out
  clear D2
  generalize (u2.setCell _ _).setCell _ _ = wr at *
  refine (R2.out wr).mono ?_
  rintro _ v3 ⟨hr, hb⟩
  have D1 := D.on hb
  obtain rfl := (U2.out _ _ hs.out hr).1
  clear D hb hr hs
  have p0 := (D1.at_ 0 rfl).lo
  have q0 := (D1.at_ 0 rfl).hi
  have p1 := (D1.at_ 1 rfl).lo
  have q1 := (D1.at_ 1 rfl).hi
  have p2 := (D1.at_ 2 rfl).lo
  have q2 := (D1.at_ 2 rfl).hi
  have f2 := (D1.at_ 2 rfl).f0
  have k2 := (D1.at_ 2 rfl).f1
  have p3 := (D1.at_ 3 rfl).lo
  have q3 := (D1.at_ 3 rfl).hi
  have f3 := (D1.at_ 3 rfl).f0
  have k3 := (D1.at_ 3 rfl).f1
  have D2 : Cls w [(w.heap.size, a0, b0), (w.heap.size + 1, a1, b1), (g2, x, y), (g3, x, y)] _ := D1.put 3 rfl x y
  unfold put2 at D2
  have P0 := (D2.at_ 0 rfl).lo
  have Q0 := (D2.at_ 0 rfl).hi
  have P1 := (D2.at_ 1 rfl).lo
  have Q1 := (D2.at_ 1 rfl).hi
  have P2 := (D2.at_ 2 rfl).lo
  have Q2 := (D2.at_ 2 rfl).hi
  have P3 := (D2.at_ 3 rfl).lo
  have Q3 := (D2.at_ 3 rfl).hi
  replace D2 := Lib.hid D2
  clear D1
  go_wp2_with fail
  clear p0 q0 p1 q1 p2 q2 f2 k2 p3 q3 f3 k3
  clear P0 Q0 P1 Q1 P2 Q2 P3 Q3
  have D := D2.out
  clear D2
  generalize (v3.setCell _ _).setCell _ _ = wq at *
  refine (AL.out x y c wq).mono ?_
  rintro _ z2 ⟨rfl, hb⟩
  have D1 := D.on hb
  clear D hb
  have p0 := (D1.at_ 0 rfl).lo
  have q0 := (D1.at_ 0 rfl).hi
  have p1 := (D1.at_ 1 rfl).lo
  have q1 := (D1.at_ 1 rfl).hi
  have p2 := (D1.at_ 2 rfl).lo
  have q2 := (D1.at_ 2 rfl).hi
  have f2 := (D1.at_ 2 rfl).f0
  have k2 := (D1.at_ 2 rfl).f1
  have p3 := (D1.at_ 3 rfl).lo
  have q3 := (D1.at_ 3 rfl).hi
  have f3 := (D1.at_ 3 rfl).f0
  have k3 := (D1.at_ 3 rfl).f1
  have D := Lib.hid D1
  clear D1 S2 R2 U2
  go_wp2_with fail
  refine (S3.out z2).mono ?_
  rintro _ u3 ⟨hs, hb⟩
  have D1 := D.out.on hb
  obtain ⟨x, y, c, rfl⟩ := (U3.out _ _ hs hs).2
  replace hs := Lib.hid hs
  clear p0 q0 p1 q1 p2 q2 f2 k2 p3 q3 f3 k3
  clear D hb
  have p0 := (D1.at_ 0 rfl).lo
  have q0 := (D1.at_ 0 rfl).hi
  have p1 := (D1.at_ 1 rfl).lo
  have q1 := (D1.at_ 1 rfl).hi
  have p2 := (D1.at_ 2 rfl).lo
  have q2 := (D1.at_ 2 rfl).hi
  have f2 := (D1.at_ 2 rfl).f0
  have k2 := (D1.at_ 2 rfl).f1
  have p3 := (D1.at_ 3 rfl).lo
  have q3 := (D1.at_ 3 rfl).hi
  have f3 := (D1.at_ 3 rfl).f0
  have k3 := (D1.at_ 3 rfl).f1
  have D2 : Cls w [(w.heap.size, a0, b0), (w.heap.size + 1, a1, b1), (g2, x, y), (g3, _, _)] _ := D1.put 2 rfl x y
  unfold put2 at D2
  have P0 := (D2.at_ 0 rfl).lo
  have Q0 := (D2.at_ 0 rfl).hi
  have P1 := (D2.at_ 1 rfl).lo
  have Q1 := (D2.at_ 1 rfl).hi
  replace D2 := Lib.hid D2
  clear D1
  go_wp2_with fail
  clear p0 q0 p1 q1 p2 q2 f2 k2 p3 q3 f3 k3
  clear P0 Q0 P1 Q1
  have D := D2.out
  clear D2
  generalize (u3.setCell _ _).setCell _ _ = wr at *
  refine (R3.out wr).mono ?_
  rintro _ v4 ⟨hr, hb⟩
  have D1 := D.on hb
  obtain rfl := (U3.out _ _ hs.out hr).1
  clear D hb hr hs
  have p0 := (D1.at_ 0 rfl).lo
  have q0 := (D1.at_ 0 rfl).hi
  have p1 := (D1.at_ 1 rfl).lo
  have q1 := (D1.at_ 1 rfl).hi
  have p2 := (D1.at_ 2 rfl).lo
  have q2 := (D1.at_ 2 rfl).hi
  have f2 := (D1.at_ 2 rfl).f0
  have k2 := (D1.at_ 2 rfl).f1
  have p3 := (D1.at_ 3 rfl).lo
  have q3 := (D1.at_ 3 rfl).hi
  have f3 := (D1.at_ 3 rfl).f0
  have k3 := (D1.at_ 3 rfl).f1
  have D2 : Cls w [(w.heap.size, a0, b0), (w.heap.size + 1, a1, b1), (g2, x, y), (g3, x, y)] _ := D1.put 3 rfl x y
  unfold put2 at D2
  have P0 := (D2.at_ 0 rfl).lo
  have Q0 := (D2.at_ 0 rfl).hi
  have P1 := (D2.at_ 1 rfl).lo
  have Q1 := (D2.at_ 1 rfl).hi
  have P2 := (D2.at_ 2 rfl).lo
  have Q2 := (D2.at_ 2 rfl).hi
  have P3 := (D2.at_ 3 rfl).lo
  have Q3 := (D2.at_ 3 rfl).hi
  replace D2 := Lib.hid D2
  clear D1
  go_wp2_with fail
  clear p0 q0 p1 q1 p2 q2 f2 k2 p3 q3 f3 k3
  clear P0 Q0 P1 Q1 P2 Q2 P3 Q3
  have D := D2.out
  clear D2
  generalize (v4.setCell _ _).setCell _ _ = wq at *
  refine (AL.out x y c wq).mono ?_
  rintro _ z3 ⟨rfl, hb⟩
  have D1 := D.on hb
  clear D hb
  have p0 := (D1.at_ 0 rfl).lo
  have q0 := (D1.at_ 0 rfl).hi
  have p1 := (D1.at_ 1 rfl).lo
  have q1 := (D1.at_ 1 rfl).hi
  have p2 := (D1.at_ 2 rfl).lo
  have q2 := (D1.at_ 2 rfl).hi
  have f2 := (D1.at_ 2 rfl).f0
  have k2 := (D1.at_ 2 rfl).f1
  have p3 := (D1.at_ 3 rfl).lo
  have q3 := (D1.at_ 3 rfl).hi
  have f3 := (D1.at_ 3 rfl).f0
  have k3 := (D1.at_ 3 rfl).f1
  have D := Lib.hid D1
  clear D1 S3 R3 U3
  go_wp2_with fail
  refine (S4.out z3).mono ?_
  rintro _ u4 ⟨hs, hb⟩
  have D1 := D.out.on hb
  obtain ⟨x, y, c, rfl⟩ := (U4.out _ _ hs hs).2
  replace hs := Lib.hid hs
  clear p0 q0 p1 q1 p2 q2 f2 k2 p3 q3 f3 k3
  clear D hb
  have p0 := (D1.at_ 0 rfl).lo
  have q0 := (D1.at_ 0 rfl).hi
  have p1 := (D1.at_ 1 rfl).lo
  have q1 := (D1.at_ 1 rfl).hi
  have p2 := (D1.at_ 2 rfl).lo
  have q2 := (D1.at_ 2 rfl).hi
  have f2 := (D1.at_ 2 rfl).f0
  have k2 := (D1.at_ 2 rfl).f1
  have p3 := (D1.at_ 3 rfl).lo
  have q3 := (D1.at_ 3 rfl).hi
  have f3 := (D1.at_ 3 rfl).f0
  have k3 := (D1.at_ 3 rfl).f1
  have D2 : Cls w [(w.heap.size, a0, b0), (w.heap.size + 1, a1, b1), (g2, x, y), (g3, _, _)] _ := D1.put 2 rfl x y
  unfold put2 at D2
  have P0 := (D2.at_ 0 rfl).lo
  have Q0 := (D2.at_ 0 rfl).hi
  have P1 := (D2.at_ 1 rfl).lo
  have Q1 := (D2.at_ 1 rfl).hi
  replace D2 := Lib.hid D2
  clear D1
  go_wp2_with fail
  clear p0 q0 p1 q1 p2 q2 f2 k2 p3 q3 f3 k3
  clear P0 Q0 P1 Q1
  have D := D2.out
  clear D2
  generalize (u4.setCell _ _).setCell _ _ = wr at *
  refine (R4.out wr).mono ?_
  rintro _ v5 ⟨hr, hb⟩
  have D1 := D.on hb
  obtain rfl := (U4.out _ _ hs.out hr).1
  clear D hb hr hs
  have p0 := (D1.at_ 0 rfl).lo
  have q0 := (D1.at_ 0 rfl).hi
  have p1 := (D1.at_ 1 rfl).lo
  have q1 := (D1.at_ 1 rfl).hi
  have p2 := (D1.at_ 2 rfl).lo
  have q2 := (D1.at_ 2 rfl).hi
  have f2 := (D1.at_ 2 rfl).f0
  have k2 := (D1.at_ 2 rfl).f1
  have p3 := (D1.at_ 3 rfl).lo
  have q3 := (D1.at_ 3 rfl).hi
  have f3 := (D1.at_ 3 rfl).f0
  have k3 := (D1.at_ 3 rfl).f1
  have D2 : Cls w [(w.heap.size, a0, b0), (w.heap.size + 1, a1, b1), (g2, x, y), (g3, x, y)] _ := D1.put 3 rfl x y
  unfold put2 at D2
  have P0 := (D2.at_ 0 rfl).lo
  have Q0 := (D2.at_ 0 rfl).hi
  have P1 := (D2.at_ 1 rfl).lo
  have Q1 := (D2.at_ 1 rfl).hi
  have P2 := (D2.at_ 2 rfl).lo
  have Q2 := (D2.at_ 2 rfl).hi
  have P3 := (D2.at_ 3 rfl).lo
  have Q3 := (D2.at_ 3 rfl).hi
  replace D2 := Lib.hid D2
  clear D1
  go_wp2_with fail
  clear p0 q0 p1 q1 p2 q2 f2 k2 p3 q3 f3 k3
  clear P0 Q0 P1 Q1 P2 Q2 P3 Q3
  have D := D2.out
  clear D2
  generalize (v5.setCell _ _).setCell _ _ = wq at *
  refine (AL.out x y c wq).mono ?_
  rintro _ z4 ⟨rfl, hb⟩
  have D1 := D.on hb
  clear D hb
  have p0 := (D1.at_ 0 rfl).lo
  have q0 := (D1.at_ 0 rfl).hi
  have p1 := (D1.at_ 1 rfl).lo
  have q1 := (D1.at_ 1 rfl).hi
  have p2 := (D1.at_ 2 rfl).lo
  have q2 := (D1.at_ 2 rfl).hi
  have f2 := (D1.at_ 2 rfl).f0
  have k2 := (D1.at_ 2 rfl).f1
  have p3 := (D1.at_ 3 rfl).lo
  have q3 := (D1.at_ 3 rfl).hi
  have f3 := (D1.at_ 3 rfl).f0
  have k3 := (D1.at_ 3 rfl).f1
  have D := Lib.hid D1
  clear D1 S4 R4 U4
  go_wp2_with fail
  refine (S5.out z4).mono ?_
  rintro _ u5 ⟨hs, hb⟩
  have D1 := D.out.on hb
  obtain ⟨x, y, c, rfl⟩ := (U5.out _ _ hs hs).2
  replace hs := Lib.hid hs
  clear p0 q0 p1 q1 p2 q2 f2 k2 p3 q3 f3 k3
  clear D hb
  have p0 := (D1.at_ 0 rfl).lo
  have q0 := (D1.at_ 0 rfl).hi
  have p1 := (D1.at_ 1 rfl).lo
  have q1 := (D1.at_ 1 rfl).hi
  have p2 := (D1.at_ 2 rfl).lo
  have q2 := (D1.at_ 2 rfl).hi
  have f2 := (D1.at_ 2 rfl).f0
  have k2 := (D1.at_ 2 rfl).f1
  have p3 := (D1.at_ 3 rfl).lo
  have q3 := (D1.at_ 3 rfl).hi
  have f3 := (D1.at_ 3 rfl).f0
  have k3 := (D1.at_ 3 rfl).f1
  have D2 : Cls w [(w.heap.size, a0, b0), (w.heap.size + 1, a1, b1), (g2, x, y), (g3, _, _)] _ := D1.put 2 rfl x y
  unfold put2 at D2
  have P0 := (D2.at_ 0 rfl).lo
  have Q0 := (D2.at_ 0 rfl).hi
  have P1 := (D2.at_ 1 rfl).lo
  have Q1 := (D2.at_ 1 rfl).hi
  replace D2 := Lib.hid D2
  clear D1
  go_wp2_with fail
  clear p0 q0 p1 q1 p2 q2 f2 k2 p3 q3 f3 k3
  clear P0 Q0 P1 Q1
  have D := D2.out
  clear D2
  generalize (u5.setCell _ _).setCell _ _ = wr at *
  refine (R5.out wr).mono ?_
  rintro _ v6 ⟨hr, hb⟩
  have D1 := D.on hb
  obtain rfl := (U5.out _ _ hs.out hr).1
  clear D hb hr hs
  have p0 := (D1.at_ 0 rfl).lo
  have q0 := (D1.at_ 0 rfl).hi
  have p1 := (D1.at_ 1 rfl).lo
  have q1 := (D1.at_ 1 rfl).hi
  have p2 := (D1.at_ 2 rfl).lo
  have q2 := (D1.at_ 2 rfl).hi
  have f2 := (D1.at_ 2 rfl).f0
  have k2 := (D1.at_ 2 rfl).f1
  have p3 := (D1.at_ 3 rfl).lo
  have q3 := (D1.at_ 3 rfl).hi
  have f3 := (D1.at_ 3 rfl).f0
  have k3 := (D1.at_ 3 rfl).f1
  have D2 : Cls w [(w.heap.size, a0, b0), (w.heap.size + 1, a1, b1), (g2, x, y), (g3, x, y)] _ := D1.put 3 rfl x y
  unfold put2 at D2
  have P0 := (D2.at_ 0 rfl).lo
  have Q0 := (D2.at_ 0 rfl).hi
  have P1 := (D2.at_ 1 rfl).lo
  have Q1 := (D2.at_ 1 rfl).hi
  have P2 := (D2.at_ 2 rfl).lo
  have Q2 := (D2.at_ 2 rfl).hi
  have P3 := (D2.at_ 3 rfl).lo
  have Q3 := (D2.at_ 3 rfl).hi
  replace D2 := Lib.hid D2
  clear D1
  go_wp2_with fail
  clear p0 q0 p1 q1 p2 q2 f2 k2 p3 q3 f3 k3
  clear P0 Q0 P1 Q1 P2 Q2 P3 Q3
  have D := D2.out
  clear D2
  generalize (v6.setCell _ _).setCell _ _ = wq at *
  refine (AL.out x y c wq).mono ?_
  rintro _ z5 ⟨rfl, hb⟩
  have D1 := D.on hb
  clear D hb
  have p0 := (D1.at_ 0 rfl).lo
  have q0 := (D1.at_ 0 rfl).hi
  have p1 := (D1.at_ 1 rfl).lo
  have q1 := (D1.at_ 1 rfl).hi
  have p2 := (D1.at_ 2 rfl).lo
  have q2 := (D1.at_ 2 rfl).hi
  have f2 := (D1.at_ 2 rfl).f0
  have k2 := (D1.at_ 2 rfl).f1
  have p3 := (D1.at_ 3 rfl).lo
  have q3 := (D1.at_ 3 rfl).hi
  have f3 := (D1.at_ 3 rfl).f0
  have k3 := (D1.at_ 3 rfl).f1
  have D := Lib.hid D1
  clear D1 S5 R5 U5
  go_wp2_with fail
  refine (S6.out z5).mono ?_
  rintro _ u6 ⟨hs, hb⟩
  have D1 := D.out.on hb
  obtain ⟨x, y, c, rfl⟩ := (U6.out _ _ hs hs).2
  replace hs := Lib.hid hs
  clear p0 q0 p1 q1 p2 q2 f2 k2 p3 q3 f3 k3
  clear D hb
  have p0 := (D1.at_ 0 rfl).lo
  have q0 := (D1.at_ 0 rfl).hi
  have p1 := (D1.at_ 1 rfl).lo
  have q1 := (D1.at_ 1 rfl).hi
  have p2 := (D1.at_ 2 rfl).lo
  have q2 := (D1.at_ 2 rfl).hi
  have f2 := (D1.at_ 2 rfl).f0
  have k2 := (D1.at_ 2 rfl).f1
  have p3 := (D1.at_ 3 rfl).lo
  have q3 := (D1.at_ 3 rfl).hi
  have f3 := (D1.at_ 3 rfl).f0
  have k3 := (D1.at_ 3 rfl).f1
  have D2 : Cls w [(w.heap.size, a0, b0), (w.heap.size + 1, a1, b1), (g2, x, y), (g3, _, _)] _ := D1.put 2 rfl x y
  unfold put2 at D2
  have P0 := (D2.at_ 0 rfl).lo
  have Q0 := (D2.at_ 0 rfl).hi
  have P1 := (D2.at_ 1 rfl).lo
  have Q1 := (D2.at_ 1 rfl).hi
  replace D2 := Lib.hid D2
  clear D1
  go_wp2_with fail
  clear p0 q0 p1 q1 p2 q2 f2 k2 p3 q3 f3 k3
  clear P0 Q0 P1 Q1
  have D := D2.out
  clear D2
  generalize (u6.setCell _ _).setCell _ _ = wr at *
  refine (R6.out wr).mono ?_
  rintro _ v7 ⟨hr, hb⟩
  have D1 := D.on hb
  obtain rfl := (U6.out _ _ hs.out hr).1
  clear D hb hr hs
  have p0 := (D1.at_ 0 rfl).lo
  have q0 := (D1.at_ 0 rfl).hi
  have p1 := (D1.at_ 1 rfl).lo
  have q1 := (D1.at_ 1 rfl).hi
  have p2 := (D1.at_ 2 rfl).lo
  have q2 := (D1.at_ 2 rfl).hi
  have f2 := (D1.at_ 2 rfl).f0
  have k2 := (D1.at_ 2 rfl).f1
  have p3 := (D1.at_ 3 rfl).lo
  have q3 := (D1.at_ 3 rfl).hi
  have f3 := (D1.at_ 3 rfl).f0
  have k3 := (D1.at_ 3 rfl).f1
  have D2 : Cls w [(w.heap.size, a0, b0), (w.heap.size + 1, a1, b1), (g2, x, y), (g3, x, y)] _ := D1.put 3 rfl x y
  unfold put2 at D2
  have P0 := (D2.at_ 0 rfl).lo
  have Q0 := (D2.at_ 0 rfl).hi
  have P1 := (D2.at_ 1 rfl).lo
  have Q1 := (D2.at_ 1 rfl).hi
  have P2 := (D2.at_ 2 rfl).lo
  have Q2 := (D2.at_ 2 rfl).hi
  have P3 := (D2.at_ 3 rfl).lo
  have Q3 := (D2.at_ 3 rfl).hi
  replace D2 := Lib.hid D2
  clear D1
  go_wp2_with fail
  clear p0 q0 p1 q1 p2 q2 f2 k2 p3 q3 f3 k3
  clear P0 Q0 P1 Q1 P2 Q2 P3 Q3
  have D := D2.out
  clear D2
  generalize (v7.setCell _ _).setCell _ _ = wq at *
  refine (AL.out x y c wq).mono ?_
  rintro _ z6 ⟨rfl, hb⟩
  have D1 := D.on hb
  clear D hb
  have p0 := (D1.at_ 0 rfl).lo
  have q0 := (D1.at_ 0 rfl).hi
  have p1 := (D1.at_ 1 rfl).lo
  have q1 := (D1.at_ 1 rfl).hi
  have p2 := (D1.at_ 2 rfl).lo
  have q2 := (D1.at_ 2 rfl).hi
  have f2 := (D1.at_ 2 rfl).f0
  have k2 := (D1.at_ 2 rfl).f1
  have p3 := (D1.at_ 3 rfl).lo
  have q3 := (D1.at_ 3 rfl).hi
  have f3 := (D1.at_ 3 rfl).f0
  have k3 := (D1.at_ 3 rfl).f1
  have D := Lib.hid D1
  clear D1 S6 R6 U6
  go_wp2_with fail
  go_ret
  exact ⟨rfl, D.out.old⟩

theorem own : ownKnob Try.prog.godebug = none := by kernel_rfl
theorem laidOut : laidOutB Try.prog = true := by kernel_rfl
theorem cellsF : Try.prog.cellsOf 22 = 1 := by kernel_rfl
theorem bytesF : Try.prog.bytesOf 22 = 8 := by kernel_rfl
theorem wf64 {b : Nat} (h : (Lit.float .f64 b).wf = true) : b < 18446744073709551616 := by
  simp only [Lit.wf, decide_eq_true_eq] at h; exact h

set_option maxRecDepth 100000 in
theorem lifted (os : Os) (started : os.Started) (H : Type) (enc : TypeId × Value → H) :
    ReturnsInHanded {} Try.checked os 3 .any (Rows.spanTellsSpec.pre6 enc Try.prog Try.f3 Rows.spanTellsRow.domain false) (Rows.spanTellsSpec.post enc Try.prog Try.f3 false true false false) := by
  refine returnsInHanded_of_change_sized (C := Try.checked) own started (by kernel_rfl) Try.func3
    (ChangeSpec.witness6 (enc := enc) (C := Try.checked) false ⟨#[], #[.agg #[.float .f64 0, .float .f64 0], .agg #[.float .f64 0, .float .f64 0]], []⟩ 8 (by kernel_rfl) (by kernel_rfl) (by kernel_rfl) (by kernel_rfl)) ?_
  intro W base args ds gs before hval0 hW _ hsz0 _
  have hsz : (DataW.weightsEach Try.prog (Try.f3.params.toList ++ Rows.spanTellsSpec.plain.varTypes Try.prog) (ds ++ gs)).all (· ≤ reachBytes) = true := hsz0
  clear hsz0
  have hval : ∀ (j : Nat) t v, Try.f3.params[j]? = some t → args[j]? = some v → Value.okWide Try.prog W .any base t v := hval0
  have hW' := hW
  obtain ⟨p, q, hA0, hV, rfl, _, _⟩ := hW
  have hA : DataW.TrodAll enc Try.prog W 0 (fun _ => true) true Try.f3.params.toList args.toList ds p := hA0
  rw [Try.params3] at hA hval hsz
  obtain ⟨v0, vs0, d0, ds0, p0, q0, hargs, rfl, rfl, t0, r0⟩ := trodAll_cons hA
  obtain ⟨v1, vs1, d1, ds1, p1, q1, rfl, rfl, rfl, t1, r1⟩ := trodAll_cons r0
  obtain ⟨rfl, rfl, rfl⟩ := trodAll_nil r1
  obtain rfl : args = #[v0, v1] := by cases args; simp_all
  obtain ⟨rfl, rfl⟩ := trodVars_none hV
  simp only [List.append_nil] at hW'
  have tk0 := t0
  obtain ⟨a0, b0, rfl, wa0, wb0⟩ := open_span (hval 0 24 v0 rfl rfl) t0
  have hlt0 : ∀ x ∈ p0, x.block < W.heap.size := fun x hx => by have := hW'.lt x (by simp [hx]); simpa using this
  have tk1 := t1
  obtain ⟨a1, b1, rfl, wa1, wb1⟩ := open_span (hval 1 24 v1 rfl rfl) t1
  have hlt1 : ∀ x ∈ p1, x.block < W.heap.size := fun x hx => by have := hW'.lt x (by simp [hx]); simpa using this
  clear hA0 hval0
  refine (walk W a0 b0 wa0 wb0 a1 b1 wa1 wb1).mono fun e W' ⟨he, hb⟩ => ?_
  subst he
  refine ⟨_, rfl, _, _, _, [], _, [], hW', trodAll_cons_mk (shut_bool Try.underlying4 _) trodAll_mk0, (trodAll_cons_mk (Below.trod laidOut (by kernel_rfl) (of_decide_eq_true (by kernel_rfl)) tk0 hb hlt0) (trodAll_cons_mk (Below.trod laidOut (by kernel_rfl) (of_decide_eq_true (by kernel_rfl)) tk1 hb hlt1) trodAll_mk0)), rfl, hb.frame _, fun h => by cases h⟩

theorem over : Rows.spanTellsRow.holds Try.pinned (OpenSpec.ofChange Rows.spanTellsSpec) :=
  OpenClaim.holds_of_wide 3 Try.f3 rfl rfl rfl rfl rfl rfl rfl ⟨rfl, rfl, rfl, rfl, rfl⟩ rfl rfl rfl rfl rfl (by kernel_rfl) Try.func3 (by kernel_rfl)
    (of_decide_eq_true (by kernel_rfl)) (by unfold Func.isWrapper; first | (rw [if_pos (by decide +kernel)]; kernel_rfl) | (rw [if_neg (by decide +kernel)]; exact ⟨rfl, rfl⟩))
    (fun os started H enc _ => lifted os started H enc)

theorem proved : Rows.SpanTellsSaid :=
  over
end Go.Proofs.Ytkfagpahbojigaa.spanTells
