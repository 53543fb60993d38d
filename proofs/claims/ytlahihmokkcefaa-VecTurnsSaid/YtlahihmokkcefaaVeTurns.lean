/- Proved here: for all axes, numbers, matrices and vectors the law VecTurns returns true: matrices, bit by bit. No conditions. -/
import Derived.Test.YtlahihmokkcefaaRows
import Derived.Test.YtlahihmokkcefaaJv11
import Derived.Test.YtlahihmokkcefaaJv12
namespace Go.Proofs.Ytlahihmokkcefaa.vecTurns
open Go.ChangeShapes Go.WideShapes Go.ChangeAt Go.RowKit Ieee.Own

set_option maxHeartbeats 2000000 in
set_option maxRecDepth 100000 in
theorem walk (w : World) (a0 : Int) (_h0 : (Lit.int .i64 a0).wf = true) (a1 : Nat) (h1 : a1 < 18446744073709551616) (a2 : M9) (h2 : W9 a2) (a3 : V3) (h3 : W3 a3) :
    Calls Try.prog 4 #[.int .i64 a0, .float .f64 a1, matV a2, vecV a3] w fun e w' => e = .returned (.bool true) ∧ Below w.heap.size w w' := by
  have AW := Lib.hid awake7
  obtain ⟨RT, TR, t1, t2⟩ := turned_any a0 h1
  have hr : W9 RT.1 := by
    by_cases e : RT.2 = 0
    · obtain ⟨-, e', s, c, T, q⟩ := TR.ok e
      obtain ⟨⟨f1, i1⟩, ⟨f2, i2⟩, f3, i3, e3⟩ := trig_ok (errA_ang h1 e') T
      have g1 := (bW_nz f1).fin.1
      have g2 := (bW_nz f2).fin.1
      have g3 := (negN_spec (bW_nz f1).fin).2.1.fin.1
      have o : oneW < 18446744073709551616 := one_fin7.1
      have z : (0 : Nat) < 18446744073709551616 := by omega
      rw [q]; unfold tM
      split
      · exact ⟨⟨o, z, z⟩, ⟨z, g2, g3⟩, ⟨z, g1, g2⟩⟩
      · split
        · exact ⟨⟨g2, z, g1⟩, ⟨z, o, z⟩, ⟨g3, z, g2⟩⟩
        · exact ⟨⟨g2, g3, z⟩, ⟨g1, g2, z⟩, ⟨z, z, o⟩⟩
    · rw [TR.no e]
      exact ⟨⟨by decide, by decide, by decide⟩, ⟨by decide, by decide, by decide⟩, ⟨by decide, by decide, by decide⟩⟩
  have f1 := fun w => vflip_any h2 w
  have f2 := fun w => rvflip_any h2 w
  have m1 := fun w => vtimes_any h2 hr w
  have m2 := fun w => rvtimes_any h2 hr w
  have p1 := fun w => vapply_any h2 h3 w
  have p2 := fun w => rvapply_any h2 h3 w
  clear TR h1 h2 h3 hr
  generalize flipR a2 = RF at *
  generalize timesR a2 RT.1 = RM at *
  generalize applyR a2 a3 = RP at *
  obtain ⟨⟨⟨T0, T1, T2⟩, ⟨T3, T4, T5⟩, T6, T7, T8⟩, kt⟩ := RT
  obtain ⟨⟨⟨F0, F1, F2⟩, ⟨F3, F4, F5⟩, F6, F7, F8⟩, kf⟩ := RF
  obtain ⟨⟨⟨M0, M1, M2⟩, ⟨M3, M4, M5⟩, M6, M7, M8⟩, km⟩ := RM
  obtain ⟨⟨p3, p4, p5⟩, kp⟩ := RP
  obtain ⟨⟨c0, c1, c2⟩, ⟨c3, c4, c5⟩, c6, c7, c8⟩ := a2
  obtain ⟨b1, b2, b3⟩ := a3
  unfold vecE matE vecV matV at *
  dsimp only at *
  have alT := Lib.hid (fun w => mats_run7 T0 T1 T2 T3 T4 T5 T6 T7 T8 kt w)
  have alF := Lib.hid (fun w => mats_run7 F0 F1 F2 F3 F4 F5 F6 F7 F8 kf w)
  have alM := Lib.hid (fun w => mats_run7 M0 M1 M2 M3 M4 M5 M6 M7 M8 km w)
  have alP := Lib.hid (fun w => alike_run7 p3 p4 p5 kp w)
  replace t1 := Lib.hid t1
  replace t2 := Lib.hid t2
  replace f1 := Lib.hid f1
  replace f2 := Lib.hid f2
  replace m1 := Lib.hid m1
  replace m2 := Lib.hid m2
  replace p1 := Lib.hid p1
  replace p2 := Lib.hid p2
  have K0 := kw2 w 38 24 [c0, c1, c2, c3, c4, c5, c6, c7, c8] [b1, b2, b3]
  simp only [objW, List.map_cons, List.map_nil] at K0
  have hst := @fstore
  replace K0 := Lib.hid K0
  go_enter Try.func4, Try.ntmps4
  go_wp2_with fail
  have K := K0.out
  clear K0
  generalize (w.alloc _).alloc _ = wr at *
  refine (AW.out wr).mono ?_
  rintro _ v1 ⟨rfl, hb⟩
  replace K := K.on hb
  clear hb
  clear AW
  replace K := Lib.hid K
  go_wp2_with fail
  replace K := K.out
  refine (t1.out v1).mono ?_
  rintro _ v2 ⟨rfl, hb⟩
  replace K := K.on hb
  clear hb
  clear t1
  replace K := K.new 38 [T0, T1, T2, T3, T4, T5, T6, T7, T8]
  simp only [objW, List.map_cons, List.map_nil, List.cons_append, List.nil_append] at K
  replace K := Lib.hid K
  go_wp2_with fail
  replace K := K.out
  generalize v2.alloc _ = u2 at *
  generalize v2.heap.size = g1 at *
  refine (t2.out u2).mono ?_
  rintro _ v3 ⟨rfl, hb⟩
  replace K := K.on hb
  clear hb
  replace K := K.new 38 [T0, T1, T2, T3, T4, T5, T6, T7, T8]
  simp only [objW, List.map_cons, List.map_nil, List.cons_append, List.nil_append] at K
  have c2_0 := (K.at_ 2 rfl).at_ 0 _ rfl
  have c2_1 := (K.at_ 2 rfl).at_ 1 _ rfl
  have c2_2 := (K.at_ 2 rfl).at_ 2 _ rfl
  have c2_3 := (K.at_ 2 rfl).at_ 3 _ rfl
  have c2_4 := (K.at_ 2 rfl).at_ 4 _ rfl
  have c2_5 := (K.at_ 2 rfl).at_ 5 _ rfl
  have c2_6 := (K.at_ 2 rfl).at_ 6 _ rfl
  have c2_7 := (K.at_ 2 rfl).at_ 7 _ rfl
  have c2_8 := (K.at_ 2 rfl).at_ 8 _ rfl
  have c3_0 := (K.at_ 3 rfl).at_ 0 _ rfl
  have c3_1 := (K.at_ 3 rfl).at_ 1 _ rfl
  have c3_2 := (K.at_ 3 rfl).at_ 2 _ rfl
  have c3_3 := (K.at_ 3 rfl).at_ 3 _ rfl
  have c3_4 := (K.at_ 3 rfl).at_ 4 _ rfl
  have c3_5 := (K.at_ 3 rfl).at_ 5 _ rfl
  have c3_6 := (K.at_ 3 rfl).at_ 6 _ rfl
  have c3_7 := (K.at_ 3 rfl).at_ 7 _ rfl
  have c3_8 := (K.at_ 3 rfl).at_ 8 _ rfl
  replace K := Lib.hid K
  go_wp2_with fail
  replace K := K.out
  generalize v3.alloc _ = u3 at *
  generalize v3.heap.size = g2 at *
  refine (alT.out u3).mono ?_
  rintro _ v4 ⟨rfl, hb⟩
  clear c2_0 c2_1 c2_2 c2_3 c2_4 c2_5 c2_6 c2_7 c2_8 c3_0 c3_1 c3_2 c3_3 c3_4 c3_5 c3_6 c3_7 c3_8
  replace K := K.on hb
  clear hb
  clear alT
  have c0_0 := (K.at_ 0 rfl).at_ 0 _ rfl
  have c0_1 := (K.at_ 0 rfl).at_ 1 _ rfl
  have c0_2 := (K.at_ 0 rfl).at_ 2 _ rfl
  have c0_3 := (K.at_ 0 rfl).at_ 3 _ rfl
  have c0_4 := (K.at_ 0 rfl).at_ 4 _ rfl
  have c0_5 := (K.at_ 0 rfl).at_ 5 _ rfl
  have c0_6 := (K.at_ 0 rfl).at_ 6 _ rfl
  have c0_7 := (K.at_ 0 rfl).at_ 7 _ rfl
  have c0_8 := (K.at_ 0 rfl).at_ 8 _ rfl
  replace K := Lib.hid K
  go_wp2_with fail
  replace K := K.out
  refine (f1.out v4).mono ?_
  rintro _ v5 ⟨rfl, hb⟩
  clear c0_0 c0_1 c0_2 c0_3 c0_4 c0_5 c0_6 c0_7 c0_8
  replace K := K.on hb
  clear hb
  clear f1
  have c2_0 := (K.at_ 2 rfl).at_ 0 _ rfl
  have f2_0 := (K.at_ 2 rfl).fr 0 _ rfl
  have c2_1 := (K.at_ 2 rfl).at_ 1 _ rfl
  have f2_1 := (K.at_ 2 rfl).fr 1 _ rfl
  have c2_2 := (K.at_ 2 rfl).at_ 2 _ rfl
  have f2_2 := (K.at_ 2 rfl).fr 2 _ rfl
  have c2_3 := (K.at_ 2 rfl).at_ 3 _ rfl
  have f2_3 := (K.at_ 2 rfl).fr 3 _ rfl
  have c2_4 := (K.at_ 2 rfl).at_ 4 _ rfl
  have f2_4 := (K.at_ 2 rfl).fr 4 _ rfl
  have c2_5 := (K.at_ 2 rfl).at_ 5 _ rfl
  have f2_5 := (K.at_ 2 rfl).fr 5 _ rfl
  have c2_6 := (K.at_ 2 rfl).at_ 6 _ rfl
  have f2_6 := (K.at_ 2 rfl).fr 6 _ rfl
  have c2_7 := (K.at_ 2 rfl).at_ 7 _ rfl
  have f2_7 := (K.at_ 2 rfl).fr 7 _ rfl
  have c2_8 := (K.at_ 2 rfl).at_ 8 _ rfl
  have f2_8 := (K.at_ 2 rfl).fr 8 _ rfl
  replace K := K.put 2 rfl 0 [F0, F1, F2, F3, F4, F5, F6, F7, F8] (by simp)
  simp only [putW, setL, List.set_cons_zero, List.set_cons_succ] at K
  have c0_0 := (K.at_ 0 rfl).at_ 0 _ rfl
  have c0_1 := (K.at_ 0 rfl).at_ 1 _ rfl
  have c0_2 := (K.at_ 0 rfl).at_ 2 _ rfl
  have c0_3 := (K.at_ 0 rfl).at_ 3 _ rfl
  have c0_4 := (K.at_ 0 rfl).at_ 4 _ rfl
  have c0_5 := (K.at_ 0 rfl).at_ 5 _ rfl
  have c0_6 := (K.at_ 0 rfl).at_ 6 _ rfl
  have c0_7 := (K.at_ 0 rfl).at_ 7 _ rfl
  have c0_8 := (K.at_ 0 rfl).at_ 8 _ rfl
  replace K := Lib.hid K
  go_wp2_with fail
  replace K := K.out
  generalize World.setCell _ _ _ = u5 at *
  refine (f2.out u5).mono ?_
  rintro _ v6 ⟨rfl, hb⟩
  clear c2_0 f2_0 c2_1 f2_1 c2_2 f2_2 c2_3 f2_3 c2_4 f2_4 c2_5 f2_5 c2_6 f2_6 c2_7 f2_7 c2_8 f2_8 c0_0 c0_1 c0_2 c0_3 c0_4 c0_5 c0_6 c0_7 c0_8
  replace K := K.on hb
  clear hb
  clear f2
  have c3_0 := (K.at_ 3 rfl).at_ 0 _ rfl
  have f3_0 := (K.at_ 3 rfl).fr 0 _ rfl
  have c3_1 := (K.at_ 3 rfl).at_ 1 _ rfl
  have f3_1 := (K.at_ 3 rfl).fr 1 _ rfl
  have c3_2 := (K.at_ 3 rfl).at_ 2 _ rfl
  have f3_2 := (K.at_ 3 rfl).fr 2 _ rfl
  have c3_3 := (K.at_ 3 rfl).at_ 3 _ rfl
  have f3_3 := (K.at_ 3 rfl).fr 3 _ rfl
  have c3_4 := (K.at_ 3 rfl).at_ 4 _ rfl
  have f3_4 := (K.at_ 3 rfl).fr 4 _ rfl
  have c3_5 := (K.at_ 3 rfl).at_ 5 _ rfl
  have f3_5 := (K.at_ 3 rfl).fr 5 _ rfl
  have c3_6 := (K.at_ 3 rfl).at_ 6 _ rfl
  have f3_6 := (K.at_ 3 rfl).fr 6 _ rfl
  have c3_7 := (K.at_ 3 rfl).at_ 7 _ rfl
  have f3_7 := (K.at_ 3 rfl).fr 7 _ rfl
  have c3_8 := (K.at_ 3 rfl).at_ 8 _ rfl
  have f3_8 := (K.at_ 3 rfl).fr 8 _ rfl
  replace K := K.put 3 rfl 0 [F0, F1, F2, F3, F4, F5, F6, F7, F8] (by simp)
  simp only [putW, setL, List.set_cons_zero, List.set_cons_succ] at K
  have c2_0 := (K.at_ 2 rfl).at_ 0 _ rfl
  have c2_1 := (K.at_ 2 rfl).at_ 1 _ rfl
  have c2_2 := (K.at_ 2 rfl).at_ 2 _ rfl
  have c2_3 := (K.at_ 2 rfl).at_ 3 _ rfl
  have c2_4 := (K.at_ 2 rfl).at_ 4 _ rfl
  have c2_5 := (K.at_ 2 rfl).at_ 5 _ rfl
  have c2_6 := (K.at_ 2 rfl).at_ 6 _ rfl
  have c2_7 := (K.at_ 2 rfl).at_ 7 _ rfl
  have c2_8 := (K.at_ 2 rfl).at_ 8 _ rfl
  have c3_0' := (K.at_ 3 rfl).at_ 0 _ rfl
  have c3_1' := (K.at_ 3 rfl).at_ 1 _ rfl
  have c3_2' := (K.at_ 3 rfl).at_ 2 _ rfl
  have c3_3' := (K.at_ 3 rfl).at_ 3 _ rfl
  have c3_4' := (K.at_ 3 rfl).at_ 4 _ rfl
  have c3_5' := (K.at_ 3 rfl).at_ 5 _ rfl
  have c3_6' := (K.at_ 3 rfl).at_ 6 _ rfl
  have c3_7' := (K.at_ 3 rfl).at_ 7 _ rfl
  have c3_8' := (K.at_ 3 rfl).at_ 8 _ rfl
  replace K := Lib.hid K
  go_wp2_with fail
  replace K := K.out
  generalize World.setCell _ _ _ = u6 at *
  refine (alF.out u6).mono ?_
  rintro _ v7 ⟨rfl, hb⟩
  clear c3_0 f3_0 c3_1 f3_1 c3_2 f3_2 c3_3 f3_3 c3_4 f3_4 c3_5 f3_5 c3_6 f3_6 c3_7 f3_7 c3_8 f3_8 c2_0 c2_1 c2_2 c2_3 c2_4 c2_5 c2_6 c2_7 c2_8 c3_0' c3_1' c3_2' c3_3' c3_4' c3_5' c3_6' c3_7' c3_8'
  replace K := K.on hb
  clear hb
  clear alF
  have c0_0 := (K.at_ 0 rfl).at_ 0 _ rfl
  have c0_1 := (K.at_ 0 rfl).at_ 1 _ rfl
  have c0_2 := (K.at_ 0 rfl).at_ 2 _ rfl
  have c0_3 := (K.at_ 0 rfl).at_ 3 _ rfl
  have c0_4 := (K.at_ 0 rfl).at_ 4 _ rfl
  have c0_5 := (K.at_ 0 rfl).at_ 5 _ rfl
  have c0_6 := (K.at_ 0 rfl).at_ 6 _ rfl
  have c0_7 := (K.at_ 0 rfl).at_ 7 _ rfl
  have c0_8 := (K.at_ 0 rfl).at_ 8 _ rfl
  replace K := Lib.hid K
  go_wp2_with fail
  replace K := K.out
  refine (t2.out v7).mono ?_
  rintro _ v8 ⟨rfl, hb⟩
  clear c0_0 c0_1 c0_2 c0_3 c0_4 c0_5 c0_6 c0_7 c0_8
  replace K := K.on hb
  clear hb
  clear t2
  replace K := K.new 38 [T0, T1, T2, T3, T4, T5, T6, T7, T8]
  simp only [objW, List.map_cons, List.map_nil, List.cons_append, List.nil_append] at K
  have c0_0 := (K.at_ 0 rfl).at_ 0 _ rfl
  have c0_1 := (K.at_ 0 rfl).at_ 1 _ rfl
  have c0_2 := (K.at_ 0 rfl).at_ 2 _ rfl
  have c0_3 := (K.at_ 0 rfl).at_ 3 _ rfl
  have c0_4 := (K.at_ 0 rfl).at_ 4 _ rfl
  have c0_5 := (K.at_ 0 rfl).at_ 5 _ rfl
  have c0_6 := (K.at_ 0 rfl).at_ 6 _ rfl
  have c0_7 := (K.at_ 0 rfl).at_ 7 _ rfl
  have c0_8 := (K.at_ 0 rfl).at_ 8 _ rfl
  have c4_0 := (K.at_ 4 rfl).at_ 0 _ rfl
  have c4_1 := (K.at_ 4 rfl).at_ 1 _ rfl
  have c4_2 := (K.at_ 4 rfl).at_ 2 _ rfl
  have c4_3 := (K.at_ 4 rfl).at_ 3 _ rfl
  have c4_4 := (K.at_ 4 rfl).at_ 4 _ rfl
  have c4_5 := (K.at_ 4 rfl).at_ 5 _ rfl
  have c4_6 := (K.at_ 4 rfl).at_ 6 _ rfl
  have c4_7 := (K.at_ 4 rfl).at_ 7 _ rfl
  have c4_8 := (K.at_ 4 rfl).at_ 8 _ rfl
  replace K := Lib.hid K
  go_wp2_with fail
  replace K := K.out
  generalize v8.alloc _ = u8 at *
  generalize v8.heap.size = g3 at *
  refine (m1.out u8).mono ?_
  rintro _ v9 ⟨rfl, hb⟩
  clear c0_0 c0_1 c0_2 c0_3 c0_4 c0_5 c0_6 c0_7 c0_8 c4_0 c4_1 c4_2 c4_3 c4_4 c4_5 c4_6 c4_7 c4_8
  replace K := K.on hb
  clear hb
  clear m1
  have c2_0 := (K.at_ 2 rfl).at_ 0 _ rfl
  have f2_0 := (K.at_ 2 rfl).fr 0 _ rfl
  have c2_1 := (K.at_ 2 rfl).at_ 1 _ rfl
  have f2_1 := (K.at_ 2 rfl).fr 1 _ rfl
  have c2_2 := (K.at_ 2 rfl).at_ 2 _ rfl
  have f2_2 := (K.at_ 2 rfl).fr 2 _ rfl
  have c2_3 := (K.at_ 2 rfl).at_ 3 _ rfl
  have f2_3 := (K.at_ 2 rfl).fr 3 _ rfl
  have c2_4 := (K.at_ 2 rfl).at_ 4 _ rfl
  have f2_4 := (K.at_ 2 rfl).fr 4 _ rfl
  have c2_5 := (K.at_ 2 rfl).at_ 5 _ rfl
  have f2_5 := (K.at_ 2 rfl).fr 5 _ rfl
  have c2_6 := (K.at_ 2 rfl).at_ 6 _ rfl
  have f2_6 := (K.at_ 2 rfl).fr 6 _ rfl
  have c2_7 := (K.at_ 2 rfl).at_ 7 _ rfl
  have f2_7 := (K.at_ 2 rfl).fr 7 _ rfl
  have c2_8 := (K.at_ 2 rfl).at_ 8 _ rfl
  have f2_8 := (K.at_ 2 rfl).fr 8 _ rfl
  replace K := K.put 2 rfl 0 [M0, M1, M2, M3, M4, M5, M6, M7, M8] (by simp)
  simp only [putW, setL, List.set_cons_zero, List.set_cons_succ] at K
  have c0_0 := (K.at_ 0 rfl).at_ 0 _ rfl
  have c0_1 := (K.at_ 0 rfl).at_ 1 _ rfl
  have c0_2 := (K.at_ 0 rfl).at_ 2 _ rfl
  have c0_3 := (K.at_ 0 rfl).at_ 3 _ rfl
  have c0_4 := (K.at_ 0 rfl).at_ 4 _ rfl
  have c0_5 := (K.at_ 0 rfl).at_ 5 _ rfl
  have c0_6 := (K.at_ 0 rfl).at_ 6 _ rfl
  have c0_7 := (K.at_ 0 rfl).at_ 7 _ rfl
  have c0_8 := (K.at_ 0 rfl).at_ 8 _ rfl
  have c4_0 := (K.at_ 4 rfl).at_ 0 _ rfl
  have c4_1 := (K.at_ 4 rfl).at_ 1 _ rfl
  have c4_2 := (K.at_ 4 rfl).at_ 2 _ rfl
  have c4_3 := (K.at_ 4 rfl).at_ 3 _ rfl
  have c4_4 := (K.at_ 4 rfl).at_ 4 _ rfl
  have c4_5 := (K.at_ 4 rfl).at_ 5 _ rfl
  have c4_6 := (K.at_ 4 rfl).at_ 6 _ rfl
  have c4_7 := (K.at_ 4 rfl).at_ 7 _ rfl
  have c4_8 := (K.at_ 4 rfl).at_ 8 _ rfl
  replace K := Lib.hid K
  go_wp2_with fail
  replace K := K.out
  generalize World.setCell _ _ _ = u9 at *
  refine (m2.out u9).mono ?_
  rintro _ v10 ⟨rfl, hb⟩
  clear c2_0 f2_0 c2_1 f2_1 c2_2 f2_2 c2_3 f2_3 c2_4 f2_4 c2_5 f2_5 c2_6 f2_6 c2_7 f2_7 c2_8 f2_8 c0_0 c0_1 c0_2 c0_3 c0_4 c0_5 c0_6 c0_7 c0_8 c4_0 c4_1 c4_2 c4_3 c4_4 c4_5 c4_6 c4_7 c4_8
  replace K := K.on hb
  clear hb
  clear m2
  have c3_0 := (K.at_ 3 rfl).at_ 0 _ rfl
  have f3_0 := (K.at_ 3 rfl).fr 0 _ rfl
  have c3_1 := (K.at_ 3 rfl).at_ 1 _ rfl
  have f3_1 := (K.at_ 3 rfl).fr 1 _ rfl
  have c3_2 := (K.at_ 3 rfl).at_ 2 _ rfl
  have f3_2 := (K.at_ 3 rfl).fr 2 _ rfl
  have c3_3 := (K.at_ 3 rfl).at_ 3 _ rfl
  have f3_3 := (K.at_ 3 rfl).fr 3 _ rfl
  have c3_4 := (K.at_ 3 rfl).at_ 4 _ rfl
  have f3_4 := (K.at_ 3 rfl).fr 4 _ rfl
  have c3_5 := (K.at_ 3 rfl).at_ 5 _ rfl
  have f3_5 := (K.at_ 3 rfl).fr 5 _ rfl
  have c3_6 := (K.at_ 3 rfl).at_ 6 _ rfl
  have f3_6 := (K.at_ 3 rfl).fr 6 _ rfl
  have c3_7 := (K.at_ 3 rfl).at_ 7 _ rfl
  have f3_7 := (K.at_ 3 rfl).fr 7 _ rfl
  have c3_8 := (K.at_ 3 rfl).at_ 8 _ rfl
  have f3_8 := (K.at_ 3 rfl).fr 8 _ rfl
  replace K := K.put 3 rfl 0 [M0, M1, M2, M3, M4, M5, M6, M7, M8] (by simp)
  simp only [putW, setL, List.set_cons_zero, List.set_cons_succ] at K
  have c2_0 := (K.at_ 2 rfl).at_ 0 _ rfl
  have c2_1 := (K.at_ 2 rfl).at_ 1 _ rfl
  have c2_2 := (K.at_ 2 rfl).at_ 2 _ rfl
  have c2_3 := (K.at_ 2 rfl).at_ 3 _ rfl
  have c2_4 := (K.at_ 2 rfl).at_ 4 _ rfl
  have c2_5 := (K.at_ 2 rfl).at_ 5 _ rfl
  have c2_6 := (K.at_ 2 rfl).at_ 6 _ rfl
  have c2_7 := (K.at_ 2 rfl).at_ 7 _ rfl
  have c2_8 := (K.at_ 2 rfl).at_ 8 _ rfl
  have c3_0' := (K.at_ 3 rfl).at_ 0 _ rfl
  have c3_1' := (K.at_ 3 rfl).at_ 1 _ rfl
  have c3_2' := (K.at_ 3 rfl).at_ 2 _ rfl
  have c3_3' := (K.at_ 3 rfl).at_ 3 _ rfl
  have c3_4' := (K.at_ 3 rfl).at_ 4 _ rfl
  have c3_5' := (K.at_ 3 rfl).at_ 5 _ rfl
  have c3_6' := (K.at_ 3 rfl).at_ 6 _ rfl
  have c3_7' := (K.at_ 3 rfl).at_ 7 _ rfl
  have c3_8' := (K.at_ 3 rfl).at_ 8 _ rfl
  replace K := Lib.hid K
  go_wp2_with fail
  replace K := K.out
  generalize World.setCell _ _ _ = u10 at *
  refine (alM.out u10).mono ?_
  rintro _ v11 ⟨rfl, hb⟩
  clear c3_0 f3_0 c3_1 f3_1 c3_2 f3_2 c3_3 f3_3 c3_4 f3_4 c3_5 f3_5 c3_6 f3_6 c3_7 f3_7 c3_8 f3_8 c2_0 c2_1 c2_2 c2_3 c2_4 c2_5 c2_6 c2_7 c2_8 c3_0' c3_1' c3_2' c3_3' c3_4' c3_5' c3_6' c3_7' c3_8'
  replace K := K.on hb
  clear hb
  clear alM
  have c0_0 := (K.at_ 0 rfl).at_ 0 _ rfl
  have c0_1 := (K.at_ 0 rfl).at_ 1 _ rfl
  have c0_2 := (K.at_ 0 rfl).at_ 2 _ rfl
  have c0_3 := (K.at_ 0 rfl).at_ 3 _ rfl
  have c0_4 := (K.at_ 0 rfl).at_ 4 _ rfl
  have c0_5 := (K.at_ 0 rfl).at_ 5 _ rfl
  have c0_6 := (K.at_ 0 rfl).at_ 6 _ rfl
  have c0_7 := (K.at_ 0 rfl).at_ 7 _ rfl
  have c0_8 := (K.at_ 0 rfl).at_ 8 _ rfl
  have c1_0 := (K.at_ 1 rfl).at_ 0 _ rfl
  have c1_1 := (K.at_ 1 rfl).at_ 1 _ rfl
  have c1_2 := (K.at_ 1 rfl).at_ 2 _ rfl
  replace K := Lib.hid K
  go_wp2_with fail
  replace K := K.out
  refine (p1.out v11).mono ?_
  rintro _ v12 ⟨rfl, hb⟩
  clear c0_0 c0_1 c0_2 c0_3 c0_4 c0_5 c0_6 c0_7 c0_8 c1_0 c1_1 c1_2
  replace K := K.on hb
  clear hb
  clear p1
  replace K := K.new 24 [p3, p4, p5]
  simp only [objW, List.map_cons, List.map_nil, List.cons_append, List.nil_append] at K
  have c0_0 := (K.at_ 0 rfl).at_ 0 _ rfl
  have c0_1 := (K.at_ 0 rfl).at_ 1 _ rfl
  have c0_2 := (K.at_ 0 rfl).at_ 2 _ rfl
  have c0_3 := (K.at_ 0 rfl).at_ 3 _ rfl
  have c0_4 := (K.at_ 0 rfl).at_ 4 _ rfl
  have c0_5 := (K.at_ 0 rfl).at_ 5 _ rfl
  have c0_6 := (K.at_ 0 rfl).at_ 6 _ rfl
  have c0_7 := (K.at_ 0 rfl).at_ 7 _ rfl
  have c0_8 := (K.at_ 0 rfl).at_ 8 _ rfl
  have c1_0 := (K.at_ 1 rfl).at_ 0 _ rfl
  have c1_1 := (K.at_ 1 rfl).at_ 1 _ rfl
  have c1_2 := (K.at_ 1 rfl).at_ 2 _ rfl
  replace K := Lib.hid K
  go_wp2_with fail
  replace K := K.out
  generalize v12.alloc _ = u12 at *
  generalize v12.heap.size = g4 at *
  refine (p2.out u12).mono ?_
  rintro _ v13 ⟨rfl, hb⟩
  clear c0_0 c0_1 c0_2 c0_3 c0_4 c0_5 c0_6 c0_7 c0_8 c1_0 c1_1 c1_2
  replace K := K.on hb
  clear hb
  clear p2
  replace K := K.new 24 [p3, p4, p5]
  simp only [objW, List.map_cons, List.map_nil, List.cons_append, List.nil_append] at K
  have c5_0 := (K.at_ 5 rfl).at_ 0 _ rfl
  have c5_1 := (K.at_ 5 rfl).at_ 1 _ rfl
  have c5_2 := (K.at_ 5 rfl).at_ 2 _ rfl
  have c6_0 := (K.at_ 6 rfl).at_ 0 _ rfl
  have c6_1 := (K.at_ 6 rfl).at_ 1 _ rfl
  have c6_2 := (K.at_ 6 rfl).at_ 2 _ rfl
  replace K := Lib.hid K
  go_wp2_with fail
  replace K := K.out
  generalize v13.alloc _ = u13 at *
  generalize v13.heap.size = g5 at *
  refine (alP.out u13).mono ?_
  rintro _ v14 ⟨rfl, hb⟩
  clear c5_0 c5_1 c5_2 c6_0 c6_1 c6_2
  replace K := K.on hb
  clear hb
  clear alP
  replace K := Lib.hid K
  go_wp2_with fail
  replace K := K.out
  go_ret
  exact ⟨rfl, K.old⟩

set_option maxRecDepth 100000 in
theorem own : ownKnob Try.prog.godebug = none := by kernel_rfl
set_option maxRecDepth 100000 in
theorem laidOut : laidOutB Try.prog = true := by kernel_rfl
set_option maxRecDepth 100000 in
theorem cellsF : Try.prog.cellsOf 22 = 1 := by kernel_rfl
set_option maxRecDepth 100000 in
theorem bytesF : Try.prog.bytesOf 22 = 8 := by kernel_rfl
theorem wf64 {b : Nat} (h : (Lit.float .f64 b).wf = true) : b < 18446744073709551616 := by
  simp only [Lit.wf, decide_eq_true_eq] at h; exact h

set_option maxRecDepth 100000 in
theorem lifted (os : Os) (started : os.Started) (H : Type) (enc : TypeId × Value → H) :
    ReturnsInHanded {} Try.checked os 4 .any (Rows.vecTurnsSpec.pre6 enc Try.prog Try.f4 Rows.vecTurnsRow.domain false) (Rows.vecTurnsSpec.post enc Try.prog Try.f4 false true false false) := by
  refine returnsInHanded_of_change_sized (C := Try.checked) own started (by kernel_rfl) Try.func4
    (ChangeSpec.witness6 (enc := enc) (C := Try.checked) false ⟨#[], #[.int .i64 0, .float .f64 0, .agg #[.float .f64 0, .float .f64 0, .float .f64 0, .float .f64 0, .float .f64 0, .float .f64 0, .float .f64 0, .float .f64 0, .float .f64 0], .agg #[.float .f64 0, .float .f64 0, .float .f64 0]], []⟩ 8 (by kernel_rfl) (by kernel_rfl) (by kernel_rfl) (by kernel_rfl)) ?_
  intro W base args ds gs before hval0 hW _ hsz0 _
  have hsz : (DataW.weightsEach Try.prog (Try.f4.params.toList ++ Rows.vecTurnsSpec.plain.varTypes Try.prog) (ds ++ gs)).all (· ≤ reachBytes) = true := hsz0
  clear hsz0
  have hval : ∀ (j : Nat) t v, Try.f4.params[j]? = some t → args[j]? = some v → Value.okWide Try.prog W .any base t v := hval0
  have hW' := hW
  obtain ⟨p, q, hA0, hV, rfl, _, _⟩ := hW
  have hA : DataW.TrodAll enc Try.prog W 0 (fun _ => true) true Try.f4.params.toList args.toList ds p := hA0
  rw [Try.params4] at hA hval hsz
  obtain ⟨v0, vs0, d0, ds0, p0, q0, hargs, rfl, rfl, t0, r0⟩ := trodAll_cons hA
  obtain ⟨v1, vs1, d1, ds1, p1, q1, rfl, rfl, rfl, t1, r1⟩ := trodAll_cons r0
  obtain ⟨v2, vs2, d2, ds2, p2, q2, rfl, rfl, rfl, t2, r2⟩ := trodAll_cons r1
  obtain ⟨v3, vs3, d3, ds3, p3, q3, rfl, rfl, rfl, t3, r3⟩ := trodAll_cons r2
  obtain ⟨rfl, rfl, rfl⟩ := trodAll_nil r3
  obtain rfl : args = #[v0, v1, v2, v3] := by cases args; simp_all
  obtain ⟨rfl, rfl⟩ := trodVars_none hV
  simp only [List.append_nil] at hW'
  obtain ⟨a0, rfl, rfl, rfl, w0⟩ := open_int Try.underlying3 (hval 0 3 v0 rfl rfl) t0
  obtain ⟨a1, rfl, rfl, rfl, w1⟩ := open_float Try.underlying22 (hval 1 22 v1 rfl rfl) t1
  have tk2 := t2
  obtain ⟨a2, rfl, wa2⟩ := open_mat (hval 2 38 v2 rfl rfl) t2
  have hlt2 : ∀ x ∈ p2, x.block < W.heap.size := fun x hx => by have := hW'.lt x (by simp [hx]); simpa using this
  have tk3 := t3
  obtain ⟨a3, rfl, wa3⟩ := open_vec (hval 3 24 v3 rfl rfl) t3
  have hlt3 : ∀ x ∈ p3, x.block < W.heap.size := fun x hx => by have := hW'.lt x (by simp [hx]); simpa using this
  clear hA0 hval0
  refine (walk W a0 w0 a1 (wf64 w1) a2 wa2 a3 wa3).mono fun e W' ⟨he, hb⟩ => ?_
  subst he
  refine ⟨_, rfl, _, _, _, [], _, [], hW', trodAll_cons_mk (shut_bool Try.underlying4 _) trodAll_mk0, (trodAll_cons_mk (shut_int Try.underlying3 w0) (trodAll_cons_mk (shut_float Try.underlying22 w1) (trodAll_cons_mk (Below.trod laidOut (by kernel_rfl) (of_decide_eq_true (by kernel_rfl)) tk2 hb hlt2) (trodAll_cons_mk (Below.trod laidOut (by kernel_rfl) (of_decide_eq_true (by kernel_rfl)) tk3 hb hlt3) trodAll_mk0)))), rfl, hb.frame _, fun h => by cases h⟩

set_option maxRecDepth 100000 in
theorem over : Rows.vecTurnsRow.holds Try.pinned (OpenSpec.ofChange Rows.vecTurnsSpec) :=
  OpenClaim.holds_of_wide 4 Try.f4 rfl rfl rfl rfl rfl rfl rfl ⟨rfl, rfl, rfl, rfl, rfl⟩ rfl rfl rfl rfl rfl (by kernel_rfl) Try.func4 (by kernel_rfl)
    (of_decide_eq_true (by kernel_rfl)) (by unfold Func.isWrapper; first | (rw [if_pos (by decide +kernel)]; kernel_rfl) | (rw [if_neg (by decide +kernel)]; exact ⟨rfl, rfl⟩))
    (fun os started H enc _ => lifted os started H enc)

theorem proved : Rows.VecTurnsSaid :=
  over
end Go.Proofs.Ytlahihmokkcefaa.vecTurns
