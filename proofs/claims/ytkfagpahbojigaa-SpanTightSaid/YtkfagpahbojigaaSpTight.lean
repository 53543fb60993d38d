/- Proved here: for every two numbers of binary64 the law SpanTight returns true: of single numbers the answers are single numbers or neighbours. No conditions. -/
import Derived.Test.YtkfagpahbojigaaRows
import Derived.Test.YtkfagpahbojigaaThn
import Derived.Test.YtkfagpahbojigaaSpf
namespace Go.Proofs.Ytkfagpahbojigaa.spanTight
open Go.ChangeShapes Go.WideShapes Go.ChangeAt Go.RowKit Ieee.Own

set_option maxHeartbeats 2000000 in
theorem walk (w : World) (a0 : Nat) (h0 : a0 < 18446744073709551616) (a1 : Nat) (h1 : a1 < 18446744073709551616) :
    Calls Try.prog 7 #[.float .f64 a0, .float .f64 a1] w fun e w' => e = .returned (.bool true) ∧ Below w.heap.size w w' := by
  have AW := Lib.hid awake_run
  have hst := @fstore
  have S0 := Lib.hid (fun w => sadd_run a0 a0 a1 a1 h0 h0 h1 h1 w)
  have U0 : Hid (∀ e, (OpIs (errSS a0 a0 a1 a1) (fun v => V a0 + V a1 - v) (fun v => V a0 + V a1 - v)) e → ∃ x y c, e = .returned (spanE x y c) ∧ ThinW x y) := fun e h => by
    obtain ⟨x, y, c, rfl⟩ := h.span
    exact ⟨x, y, c, rfl, thin_add h⟩
  have S1 := Lib.hid (fun w => ssub_run a0 a0 a1 a1 h0 h0 h1 h1 w)
  have U1 : Hid (∀ e, (OpIs (errSS a0 a0 a1 a1) (fun v => V a0 - V a1 - v) (fun v => V a0 - V a1 - v)) e → ∃ x y c, e = .returned (spanE x y c) ∧ ThinW x y) := fun e h => by
    obtain ⟨x, y, c, rfl⟩ := h.span
    exact ⟨x, y, c, rfl, thin_sub h⟩
  have S2 := Lib.hid (fun w => smul_run a0 a0 a1 a1 h0 h0 h1 h1 w)
  have U2 : Hid (∀ e, (OpAll (errSS a0 a0 a1 a1) [prodC a0 a1, prodC a0 a1, prodC a0 a1, prodC a0 a1] [prodC a0 a1, prodC a0 a1, prodC a0 a1, prodC a0 a1]) e → ∃ x y c, e = .returned (spanE x y c) ∧ ThinW x y) := fun e h => by
    obtain ⟨x, y, c, rfl⟩ := h.span
    exact ⟨x, y, c, rfl, thin_mul h⟩
  have S3 := Lib.hid (fun w => sdiv_run a0 a0 a1 a1 h0 h0 h1 h1 w)
  have U3 : Hid (∀ e, (OpAll (errD a0 a0 a1 a1) [quotC a0 a1, quotC a0 a1, quotC a0 a1, quotC a0 a1] [quotC a0 a1, quotC a0 a1, quotC a0 a1, quotC a0 a1]) e → ∃ x y c, e = .returned (spanE x y c) ∧ ThinW x y) := fun e h => by
    obtain ⟨x, y, c, rfl⟩ := h.span
    exact ⟨x, y, c, rfl, thin_div h⟩
  have S4 := Lib.hid (fun w => ssquare_run a0 a0 h0 h0 w)
  have U4 : Hid (∀ e, (OpAll (errS a0 a0) (sqLo a0 a0) (sqHi a0 a0)) e → ∃ x y c, e = .returned (spanE x y c) ∧ ThinW x y) := fun e h => by
    obtain ⟨x, y, c, rfl⟩ := h.span
    exact ⟨x, y, c, rfl, thin_square h⟩
  have S5 := Lib.hid (fun w => sroots_run a0 a0 h0 h0 w)
  have U5 : Hid (∀ e, (OpIs (errR a0 a0) (rootC a0) (rootC a0)) e → ∃ x y c, e = .returned (spanE x y c) ∧ ThinW x y) := fun e h => by
    obtain ⟨x, y, c, rfl⟩ := h.span
    exact ⟨x, y, c, rfl, thin_root h⟩
  have TH : Hid (∀ x y, ThinW x y → ∀ w, Calls Try.prog 33 #[spanV x y] w fun e w' => e = .returned (.bool true) ∧ Below w.heap.size w w') := fun x y h w => thin_run h w
  unfold spanV at *
  unfold spanE at *
  clear h0 h1
  go_enter Try.func7, Try.ntmps7
  go_wp2_with fail
  refine (AW.out w).mono ?_
  rintro _ v0 ⟨rfl, hb⟩
  have D : Cls w [(v0.heap.size, a0, a0), (v0.heap.size + 1, a1, a1)] ((v0.alloc (boxO a0 a0)).alloc (boxO a1 a1)) := by
    have := (((Cls.nil w).on hb).new a0 a0).new a1 a1
    simp only [List.nil_append, List.cons_append] at this
    rw [show (v0.alloc (boxO a0 a0)).heap.size = v0.heap.size + 1 by simp] at this
    exact this
  unfold boxO at D
  replace D := Lib.hid D
  clear hb
  go_wp2_with fail
  have D := D.out
  generalize hg0 : v0.heap.size = g0 at *
  clear hg0
  generalize (v0.alloc _).alloc _ = wr at *
  refine (S0.out wr).mono ?_
  rintro _ u0 ⟨hs, hb⟩
  have D1 := D.on hb
  obtain ⟨x0, y0, c, rfl, T0⟩ := U0.out _ hs
  replace T0 := Lib.hid T0
  clear D hb hs S0 U0
  have p0 := (D1.at_ 0 rfl).lo
  have ph0 := (D1.at_ 0 rfl).hi
  have p1 := (D1.at_ 1 rfl).lo
  have ph1 := (D1.at_ 1 rfl).hi
  have D2 := D1.new x0 y0
  unfold boxO at D2
  have P0 := (D2.at_ 0 rfl).lo
  have Ph0 := (D2.at_ 0 rfl).hi
  have P1 := (D2.at_ 1 rfl).lo
  have Ph1 := (D2.at_ 1 rfl).hi
  have P2 := (D2.at_ 2 rfl).lo
  have Ph2 := (D2.at_ 2 rfl).hi
  replace D2 := Lib.hid D2
  clear D1
  go_wp2_with fail
  clear p0 ph0 p1 ph1 P0 Ph0 P1 Ph1 P2 Ph2
  have D := D2.out
  clear D2
  generalize hg1 : u0.heap.size = g1 at *
  clear hg1
  generalize u0.alloc _ = w0 at *
  refine (S1.out w0).mono ?_
  rintro _ u1 ⟨hs, hb⟩
  have D1 := D.on hb
  obtain ⟨x1, y1, c, rfl, T1⟩ := U1.out _ hs
  replace T1 := Lib.hid T1
  clear D hb hs S1 U1
  have p0 := (D1.at_ 0 rfl).lo
  have ph0 := (D1.at_ 0 rfl).hi
  have p1 := (D1.at_ 1 rfl).lo
  have ph1 := (D1.at_ 1 rfl).hi
  have p2 := (D1.at_ 2 rfl).lo
  have ph2 := (D1.at_ 2 rfl).hi
  have D2 := D1.new x1 y1
  unfold boxO at D2
  have P0 := (D2.at_ 0 rfl).lo
  have Ph0 := (D2.at_ 0 rfl).hi
  have P1 := (D2.at_ 1 rfl).lo
  have Ph1 := (D2.at_ 1 rfl).hi
  have P2 := (D2.at_ 2 rfl).lo
  have Ph2 := (D2.at_ 2 rfl).hi
  have P3 := (D2.at_ 3 rfl).lo
  have Ph3 := (D2.at_ 3 rfl).hi
  replace D2 := Lib.hid D2
  clear D1
  go_wp2_with fail
  clear p0 ph0 p1 ph1 p2 ph2 P0 Ph0 P1 Ph1 P2 Ph2 P3 Ph3
  have D := D2.out
  clear D2
  generalize hg2 : u1.heap.size = g2 at *
  clear hg2
  generalize u1.alloc _ = w1 at *
  refine (S2.out w1).mono ?_
  rintro _ u2 ⟨hs, hb⟩
  have D1 := D.on hb
  obtain ⟨x2, y2, c, rfl, T2⟩ := U2.out _ hs
  replace T2 := Lib.hid T2
  clear D hb hs S2 U2
  have p0 := (D1.at_ 0 rfl).lo
  have ph0 := (D1.at_ 0 rfl).hi
  have p1 := (D1.at_ 1 rfl).lo
  have ph1 := (D1.at_ 1 rfl).hi
  have p2 := (D1.at_ 2 rfl).lo
  have ph2 := (D1.at_ 2 rfl).hi
  have p3 := (D1.at_ 3 rfl).lo
  have ph3 := (D1.at_ 3 rfl).hi
  have D2 := D1.new x2 y2
  unfold boxO at D2
  have P0 := (D2.at_ 0 rfl).lo
  have Ph0 := (D2.at_ 0 rfl).hi
  have P1 := (D2.at_ 1 rfl).lo
  have Ph1 := (D2.at_ 1 rfl).hi
  have P2 := (D2.at_ 2 rfl).lo
  have Ph2 := (D2.at_ 2 rfl).hi
  have P3 := (D2.at_ 3 rfl).lo
  have Ph3 := (D2.at_ 3 rfl).hi
  have P4 := (D2.at_ 4 rfl).lo
  have Ph4 := (D2.at_ 4 rfl).hi
  replace D2 := Lib.hid D2
  clear D1
  go_wp2_with fail
  clear p0 ph0 p1 ph1 p2 ph2 p3 ph3 P0 Ph0 P1 Ph1 P2 Ph2 P3 Ph3 P4 Ph4
  have D := D2.out
  clear D2
  generalize hg3 : u2.heap.size = g3 at *
  clear hg3
  generalize u2.alloc _ = w2 at *
  refine (S3.out w2).mono ?_
  rintro _ u3 ⟨hs, hb⟩
  have D1 := D.on hb
  obtain ⟨x3, y3, c, rfl, T3⟩ := U3.out _ hs
  replace T3 := Lib.hid T3
  clear D hb hs S3 U3
  have p0 := (D1.at_ 0 rfl).lo
  have ph0 := (D1.at_ 0 rfl).hi
  have p1 := (D1.at_ 1 rfl).lo
  have ph1 := (D1.at_ 1 rfl).hi
  have p2 := (D1.at_ 2 rfl).lo
  have ph2 := (D1.at_ 2 rfl).hi
  have p3 := (D1.at_ 3 rfl).lo
  have ph3 := (D1.at_ 3 rfl).hi
  have p4 := (D1.at_ 4 rfl).lo
  have ph4 := (D1.at_ 4 rfl).hi
  have D2 := D1.new x3 y3
  unfold boxO at D2
  have P0 := (D2.at_ 0 rfl).lo
  have Ph0 := (D2.at_ 0 rfl).hi
  have P1 := (D2.at_ 1 rfl).lo
  have Ph1 := (D2.at_ 1 rfl).hi
  have P2 := (D2.at_ 2 rfl).lo
  have Ph2 := (D2.at_ 2 rfl).hi
  have P3 := (D2.at_ 3 rfl).lo
  have Ph3 := (D2.at_ 3 rfl).hi
  have P4 := (D2.at_ 4 rfl).lo
  have Ph4 := (D2.at_ 4 rfl).hi
  have P5 := (D2.at_ 5 rfl).lo
  have Ph5 := (D2.at_ 5 rfl).hi
  replace D2 := Lib.hid D2
  clear D1
  go_wp2_with fail
  clear p0 ph0 p1 ph1 p2 ph2 p3 ph3 p4 ph4 P0 Ph0 P1 Ph1 P2 Ph2 P3 Ph3 P4 Ph4 P5 Ph5
  have D := D2.out
  clear D2
  generalize hg4 : u3.heap.size = g4 at *
  clear hg4
  generalize u3.alloc _ = w3 at *
  refine (S4.out w3).mono ?_
  rintro _ u4 ⟨hs, hb⟩
  have D1 := D.on hb
  obtain ⟨x4, y4, c, rfl, T4⟩ := U4.out _ hs
  replace T4 := Lib.hid T4
  clear D hb hs S4 U4
  have p0 := (D1.at_ 0 rfl).lo
  have ph0 := (D1.at_ 0 rfl).hi
  have p1 := (D1.at_ 1 rfl).lo
  have ph1 := (D1.at_ 1 rfl).hi
  have p2 := (D1.at_ 2 rfl).lo
  have ph2 := (D1.at_ 2 rfl).hi
  have p3 := (D1.at_ 3 rfl).lo
  have ph3 := (D1.at_ 3 rfl).hi
  have p4 := (D1.at_ 4 rfl).lo
  have ph4 := (D1.at_ 4 rfl).hi
  have p5 := (D1.at_ 5 rfl).lo
  have ph5 := (D1.at_ 5 rfl).hi
  have D2 := D1.new x4 y4
  unfold boxO at D2
  have P0 := (D2.at_ 0 rfl).lo
  have Ph0 := (D2.at_ 0 rfl).hi
  have P1 := (D2.at_ 1 rfl).lo
  have Ph1 := (D2.at_ 1 rfl).hi
  have P2 := (D2.at_ 2 rfl).lo
  have Ph2 := (D2.at_ 2 rfl).hi
  have P3 := (D2.at_ 3 rfl).lo
  have Ph3 := (D2.at_ 3 rfl).hi
  have P4 := (D2.at_ 4 rfl).lo
  have Ph4 := (D2.at_ 4 rfl).hi
  have P5 := (D2.at_ 5 rfl).lo
  have Ph5 := (D2.at_ 5 rfl).hi
  have P6 := (D2.at_ 6 rfl).lo
  have Ph6 := (D2.at_ 6 rfl).hi
  replace D2 := Lib.hid D2
  clear D1
  go_wp2_with fail
  clear p0 ph0 p1 ph1 p2 ph2 p3 ph3 p4 ph4 p5 ph5 P0 Ph0 P1 Ph1 P2 Ph2 P3 Ph3 P4 Ph4 P5 Ph5 P6 Ph6
  have D := D2.out
  clear D2
  generalize hg5 : u4.heap.size = g5 at *
  clear hg5
  generalize u4.alloc _ = w4 at *
  refine (S5.out w4).mono ?_
  rintro _ u5 ⟨hs, hb⟩
  have D1 := D.on hb
  obtain ⟨x5, y5, c, rfl, T5⟩ := U5.out _ hs
  replace T5 := Lib.hid T5
  clear D hb hs S5 U5
  have p0 := (D1.at_ 0 rfl).lo
  have ph0 := (D1.at_ 0 rfl).hi
  have p1 := (D1.at_ 1 rfl).lo
  have ph1 := (D1.at_ 1 rfl).hi
  have p2 := (D1.at_ 2 rfl).lo
  have ph2 := (D1.at_ 2 rfl).hi
  have p3 := (D1.at_ 3 rfl).lo
  have ph3 := (D1.at_ 3 rfl).hi
  have p4 := (D1.at_ 4 rfl).lo
  have ph4 := (D1.at_ 4 rfl).hi
  have p5 := (D1.at_ 5 rfl).lo
  have ph5 := (D1.at_ 5 rfl).hi
  have p6 := (D1.at_ 6 rfl).lo
  have ph6 := (D1.at_ 6 rfl).hi
  have D2 := D1.new x5 y5
  unfold boxO at D2
  have P0 := (D2.at_ 0 rfl).lo
  have Ph0 := (D2.at_ 0 rfl).hi
  have P1 := (D2.at_ 1 rfl).lo
  have Ph1 := (D2.at_ 1 rfl).hi
  have P2 := (D2.at_ 2 rfl).lo
  have Ph2 := (D2.at_ 2 rfl).hi
  have P3 := (D2.at_ 3 rfl).lo
  have Ph3 := (D2.at_ 3 rfl).hi
  have P4 := (D2.at_ 4 rfl).lo
  have Ph4 := (D2.at_ 4 rfl).hi
  have P5 := (D2.at_ 5 rfl).lo
  have Ph5 := (D2.at_ 5 rfl).hi
  have P6 := (D2.at_ 6 rfl).lo
  have Ph6 := (D2.at_ 6 rfl).hi
  have P7 := (D2.at_ 7 rfl).lo
  have Ph7 := (D2.at_ 7 rfl).hi
  replace D2 := Lib.hid D2
  clear D1
  go_wp2_with fail
  clear p0 ph0 p1 ph1 p2 ph2 p3 ph3 p4 ph4 p5 ph5 p6 ph6 P0 Ph0 P1 Ph1 P2 Ph2 P3 Ph3 P4 Ph4 P5 Ph5 P6 Ph6 P7 Ph7
  have D := D2.out
  clear D2
  generalize hg6 : u5.heap.size = g6 at *
  clear hg6
  generalize u5.alloc _ = w5 at *
  refine (TH.out _ _ T0.out w5).mono ?_
  rintro _ z0 ⟨rfl, hb⟩
  have D1 := D.on hb
  clear D hb T0
  have p0 := (D1.at_ 0 rfl).lo
  have ph0 := (D1.at_ 0 rfl).hi
  have p1 := (D1.at_ 1 rfl).lo
  have ph1 := (D1.at_ 1 rfl).hi
  have p2 := (D1.at_ 2 rfl).lo
  have ph2 := (D1.at_ 2 rfl).hi
  have p3 := (D1.at_ 3 rfl).lo
  have ph3 := (D1.at_ 3 rfl).hi
  have p4 := (D1.at_ 4 rfl).lo
  have ph4 := (D1.at_ 4 rfl).hi
  have p5 := (D1.at_ 5 rfl).lo
  have ph5 := (D1.at_ 5 rfl).hi
  have p6 := (D1.at_ 6 rfl).lo
  have ph6 := (D1.at_ 6 rfl).hi
  have p7 := (D1.at_ 7 rfl).lo
  have ph7 := (D1.at_ 7 rfl).hi
  have D := Lib.hid D1
  clear D1
  go_wp2_with fail
  clear p0 ph0 p1 ph1 p2 ph2 p3 ph3 p4 ph4 p5 ph5 p6 ph6 p7 ph7
  refine (TH.out _ _ T1.out z0).mono ?_
  rintro _ z1 ⟨rfl, hb⟩
  have D1 := D.out.on hb
  clear D hb T1
  have p0 := (D1.at_ 0 rfl).lo
  have ph0 := (D1.at_ 0 rfl).hi
  have p1 := (D1.at_ 1 rfl).lo
  have ph1 := (D1.at_ 1 rfl).hi
  have p2 := (D1.at_ 2 rfl).lo
  have ph2 := (D1.at_ 2 rfl).hi
  have p3 := (D1.at_ 3 rfl).lo
  have ph3 := (D1.at_ 3 rfl).hi
  have p4 := (D1.at_ 4 rfl).lo
  have ph4 := (D1.at_ 4 rfl).hi
  have p5 := (D1.at_ 5 rfl).lo
  have ph5 := (D1.at_ 5 rfl).hi
  have p6 := (D1.at_ 6 rfl).lo
  have ph6 := (D1.at_ 6 rfl).hi
  have p7 := (D1.at_ 7 rfl).lo
  have ph7 := (D1.at_ 7 rfl).hi
  have D := Lib.hid D1
  clear D1
  go_wp2_with fail
  clear p0 ph0 p1 ph1 p2 ph2 p3 ph3 p4 ph4 p5 ph5 p6 ph6 p7 ph7
  refine (TH.out _ _ T2.out z1).mono ?_
  rintro _ z2 ⟨rfl, hb⟩
  have D1 := D.out.on hb
  clear D hb T2
  have p0 := (D1.at_ 0 rfl).lo
  have ph0 := (D1.at_ 0 rfl).hi
  have p1 := (D1.at_ 1 rfl).lo
  have ph1 := (D1.at_ 1 rfl).hi
  have p2 := (D1.at_ 2 rfl).lo
  have ph2 := (D1.at_ 2 rfl).hi
  have p3 := (D1.at_ 3 rfl).lo
  have ph3 := (D1.at_ 3 rfl).hi
  have p4 := (D1.at_ 4 rfl).lo
  have ph4 := (D1.at_ 4 rfl).hi
  have p5 := (D1.at_ 5 rfl).lo
  have ph5 := (D1.at_ 5 rfl).hi
  have p6 := (D1.at_ 6 rfl).lo
  have ph6 := (D1.at_ 6 rfl).hi
  have p7 := (D1.at_ 7 rfl).lo
  have ph7 := (D1.at_ 7 rfl).hi
  have D := Lib.hid D1
  clear D1
  go_wp2_with fail
  clear p0 ph0 p1 ph1 p2 ph2 p3 ph3 p4 ph4 p5 ph5 p6 ph6 p7 ph7
  refine (TH.out _ _ T3.out z2).mono ?_
  rintro _ z3 ⟨rfl, hb⟩
  have D1 := D.out.on hb
  clear D hb T3
  have p0 := (D1.at_ 0 rfl).lo
  have ph0 := (D1.at_ 0 rfl).hi
  have p1 := (D1.at_ 1 rfl).lo
  have ph1 := (D1.at_ 1 rfl).hi
  have p2 := (D1.at_ 2 rfl).lo
  have ph2 := (D1.at_ 2 rfl).hi
  have p3 := (D1.at_ 3 rfl).lo
  have ph3 := (D1.at_ 3 rfl).hi
  have p4 := (D1.at_ 4 rfl).lo
  have ph4 := (D1.at_ 4 rfl).hi
  have p5 := (D1.at_ 5 rfl).lo
  have ph5 := (D1.at_ 5 rfl).hi
  have p6 := (D1.at_ 6 rfl).lo
  have ph6 := (D1.at_ 6 rfl).hi
  have p7 := (D1.at_ 7 rfl).lo
  have ph7 := (D1.at_ 7 rfl).hi
  have D := Lib.hid D1
  clear D1
  go_wp2_with fail
  clear p0 ph0 p1 ph1 p2 ph2 p3 ph3 p4 ph4 p5 ph5 p6 ph6 p7 ph7
  refine (TH.out _ _ T4.out z3).mono ?_
  rintro _ z4 ⟨rfl, hb⟩
  have D1 := D.out.on hb
  clear D hb T4
  have p0 := (D1.at_ 0 rfl).lo
  have ph0 := (D1.at_ 0 rfl).hi
  have p1 := (D1.at_ 1 rfl).lo
  have ph1 := (D1.at_ 1 rfl).hi
  have p2 := (D1.at_ 2 rfl).lo
  have ph2 := (D1.at_ 2 rfl).hi
  have p3 := (D1.at_ 3 rfl).lo
  have ph3 := (D1.at_ 3 rfl).hi
  have p4 := (D1.at_ 4 rfl).lo
  have ph4 := (D1.at_ 4 rfl).hi
  have p5 := (D1.at_ 5 rfl).lo
  have ph5 := (D1.at_ 5 rfl).hi
  have p6 := (D1.at_ 6 rfl).lo
  have ph6 := (D1.at_ 6 rfl).hi
  have p7 := (D1.at_ 7 rfl).lo
  have ph7 := (D1.at_ 7 rfl).hi
  have D := Lib.hid D1
  clear D1
  go_wp2_with fail
  clear p0 ph0 p1 ph1 p2 ph2 p3 ph3 p4 ph4 p5 ph5 p6 ph6 p7 ph7
  refine (TH.out _ _ T5.out z4).mono ?_
  rintro _ z5 ⟨rfl, hb⟩
  have D1 := D.out.on hb
  clear D hb T5
  have p0 := (D1.at_ 0 rfl).lo
  have ph0 := (D1.at_ 0 rfl).hi
  have p1 := (D1.at_ 1 rfl).lo
  have ph1 := (D1.at_ 1 rfl).hi
  have p2 := (D1.at_ 2 rfl).lo
  have ph2 := (D1.at_ 2 rfl).hi
  have p3 := (D1.at_ 3 rfl).lo
  have ph3 := (D1.at_ 3 rfl).hi
  have p4 := (D1.at_ 4 rfl).lo
  have ph4 := (D1.at_ 4 rfl).hi
  have p5 := (D1.at_ 5 rfl).lo
  have ph5 := (D1.at_ 5 rfl).hi
  have p6 := (D1.at_ 6 rfl).lo
  have ph6 := (D1.at_ 6 rfl).hi
  have p7 := (D1.at_ 7 rfl).lo
  have ph7 := (D1.at_ 7 rfl).hi
  have D := Lib.hid D1
  clear D1
  go_wp2_with fail
  go_ret
  exact ⟨rfl, D.out.old⟩

theorem own : ownKnob Try.prog.godebug = none := by kernel_rfl
theorem laidOut : laidOutB Try.prog = true := by kernel_rfl
theorem cellsF : Try.prog.cellsOf 22 = 1 := by kernel_rfl
theorem bytesF : Try.prog.bytesOf 22 = 8 := by kernel_rfl
theorem wf64 {b : Nat} (h : (Lit.float .f64 b).wf = true) : b < 18446744073709551616 := by
  simp only [Lit.wf, decide_eq_true_eq] at h; exact h

set_option maxRecDepth 100000 in
theorem lifted (os : Os) (started : os.Started) (H : Type) (enc : TypeId × Value → H) :
    ReturnsInHanded {} Try.checked os 7 .any (Rows.spanTightSpec.pre6 enc Try.prog Try.f7 Rows.spanTightRow.domain false) (Rows.spanTightSpec.post enc Try.prog Try.f7 false true false false) := by
  refine returnsInHanded_of_change_sized (C := Try.checked) own started (by kernel_rfl) Try.func7
    (ChangeSpec.witness6 (enc := enc) (C := Try.checked) false ⟨#[], #[.float .f64 0, .float .f64 0], []⟩ 8 (by kernel_rfl) (by kernel_rfl) (by kernel_rfl) (by kernel_rfl)) ?_
  intro W base args ds gs before hval0 hW _ hsz0 _
  have hsz : (DataW.weightsEach Try.prog (Try.f7.params.toList ++ Rows.spanTightSpec.plain.varTypes Try.prog) (ds ++ gs)).all (· ≤ reachBytes) = true := hsz0
  clear hsz0
  have hval : ∀ (j : Nat) t v, Try.f7.params[j]? = some t → args[j]? = some v → Value.okWide Try.prog W .any base t v := hval0
  have hW' := hW
  obtain ⟨p, q, hA0, hV, rfl, _, _⟩ := hW
  have hA : DataW.TrodAll enc Try.prog W 0 (fun _ => true) true Try.f7.params.toList args.toList ds p := hA0
  rw [Try.params7] at hA hval hsz
  obtain ⟨v0, vs0, d0, ds0, p0, q0, hargs, rfl, rfl, t0, r0⟩ := trodAll_cons hA
  obtain ⟨v1, vs1, d1, ds1, p1, q1, rfl, rfl, rfl, t1, r1⟩ := trodAll_cons r0
  obtain ⟨rfl, rfl, rfl⟩ := trodAll_nil r1
  obtain rfl : args = #[v0, v1] := by cases args; simp_all
  obtain ⟨rfl, rfl⟩ := trodVars_none hV
  simp only [List.append_nil] at hW'
  obtain ⟨a0, rfl, rfl, rfl, w0⟩ := open_float Try.underlying22 (hval 0 22 v0 rfl rfl) t0
  obtain ⟨a1, rfl, rfl, rfl, w1⟩ := open_float Try.underlying22 (hval 1 22 v1 rfl rfl) t1
  clear hA0 hval0
  refine (walk W a0 (wf64 w0) a1 (wf64 w1)).mono fun e W' ⟨he, hb⟩ => ?_
  subst he
  refine ⟨_, rfl, _, _, _, [], _, [], hW', trodAll_cons_mk (shut_bool Try.underlying4 _) trodAll_mk0, (trodAll_cons_mk (shut_float Try.underlying22 w0) (trodAll_cons_mk (shut_float Try.underlying22 w1) trodAll_mk0)), rfl, hb.frame _, fun h => by cases h⟩

theorem over : Rows.spanTightRow.holds Try.pinned (OpenSpec.ofChange Rows.spanTightSpec) :=
  OpenClaim.holds_of_wide 7 Try.f7 rfl rfl rfl rfl rfl rfl rfl ⟨rfl, rfl, rfl, rfl, rfl⟩ rfl rfl rfl rfl rfl (by kernel_rfl) Try.func7 (by kernel_rfl)
    (of_decide_eq_true (by kernel_rfl)) (by unfold Func.isWrapper; first | (rw [if_pos (by decide +kernel)]; kernel_rfl) | (rw [if_neg (by decide +kernel)]; exact ⟨rfl, rfl⟩))
    (fun os started H enc _ => lifted os started H enc)

theorem proved : Rows.SpanTightSaid :=
  over
end Go.Proofs.Ytkfagpahbojigaa.spanTight
