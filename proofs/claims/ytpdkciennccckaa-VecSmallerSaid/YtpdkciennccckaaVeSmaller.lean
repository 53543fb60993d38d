/- Proved here: for all boxes the law VecSmaller returns true: smaller boxes in, smaller out. No conditions. -/
import Derived.Test.YtpdkciennccckaaRows
import Derived.Test.YtpdkciennccckaaJx9
namespace Go.Proofs.Ytpdkciennccckaa.vecSmaller
open Go.ChangeShapes Go.WideShapes Go.ChangeAt Go.RowKit Ieee.Own

set_option maxHeartbeats 8000000 in
set_option maxRecDepth 100000 in
theorem walk (w : World) (a0 : B6) (h0 : W6 a0) (a1 : B6) (h1 : W6 a1) (a2 : B6) (h2 : W6 a2) (a3 : B6) (h3 : W6 a3) :
    Calls Try.prog 6 #[boxV a0, boxV a1, boxV a2, boxV a3] w fun e w' => e = .returned (.bool true) ∧ Below w.heap.size w w' := by
  have AW := Lib.hid awake7
  have I1 := fun w => boxinside_run h0 h2 w
  have I2 := fun w => boxinside_run h1 h3 w
  by_cases z1 : insX a0 a2 = true
  · by_cases z2 : insX a1 a3 = true
    · have J1 := In6.of h0 h2 z1
      have J2 := In6.of h1 h3 z2
      rw [z1] at I1
      rw [z2] at I2
      obtain ⟨P0, Q0, k0, l0, ⟨x1, x2, x3⟩, A0, B0⟩ := two_add h0 h1 h2 h3 J1 J2
      have E0 := fun w => within7_run x1 x2 x3 w
      clear x1 x2 x3
      obtain ⟨P1, Q1, k1, l1, ⟨x1, x2, x3⟩, A1, B1⟩ := two_sub h0 h1 h2 h3 J1 J2
      have E1 := fun w => within7_run x1 x2 x3 w
      clear x1 x2 x3
      obtain ⟨P2, Q2, k2, l2, ⟨x1, x2, x3⟩, A2, B2⟩ := two_unit h0 h2 J1
      have E2 := fun w => within7_run x1 x2 x3 w
      clear x1 x2 x3
      obtain ⟨S0, T0, k3, l3, ⟨x1, x2, x3⟩, A3, B3⟩ := two_dot h0 h1 h2 h3 J1 J2
      have E3 := fun w => fits7_run x1 x2 x3 w
      clear x1 x2 x3
      obtain ⟨S1, T1, k4, l4, ⟨x1, x2, x3⟩, A4, B4⟩ := two_norm h0 h2 J1
      have E4 := fun w => fits7_run x1 x2 x3 w
      clear x1 x2 x3 J1 J2 z1 z2 h0 h1 h2 h3
      obtain ⟨⟨xa1, xa2⟩, ⟨xa3, xa4⟩, xa5, xa6⟩ := a0
      obtain ⟨⟨xb1, xb2⟩, ⟨xb3, xb4⟩, xb5, xb6⟩ := a1
      obtain ⟨⟨xc1, xc2⟩, ⟨xc3, xc4⟩, xc5, xc6⟩ := a2
      obtain ⟨⟨xd1, xd2⟩, ⟨xd3, xd4⟩, xd5, xd6⟩ := a3
      obtain ⟨⟨xp01, xp02⟩, ⟨xp03, xp04⟩, xp05, xp06⟩ := P0
      obtain ⟨⟨xp11, xp12⟩, ⟨xp13, xp14⟩, xp15, xp16⟩ := P1
      obtain ⟨⟨xp21, xp22⟩, ⟨xp23, xp24⟩, xp25, xp26⟩ := P2
      obtain ⟨⟨xq01, xq02⟩, ⟨xq03, xq04⟩, xq05, xq06⟩ := Q0
      obtain ⟨⟨xq11, xq12⟩, ⟨xq13, xq14⟩, xq15, xq16⟩ := Q1
      obtain ⟨⟨xq21, xq22⟩, ⟨xq23, xq24⟩, xq25, xq26⟩ := Q2
      obtain ⟨xs01, xs02⟩ := S0
      obtain ⟨xs11, xs12⟩ := S1
      obtain ⟨xt01, xt02⟩ := T0
      obtain ⟨xt11, xt12⟩ := T1
      unfold boxE boxV at *
      unfold pv at *
      unfold spanV at *
      dsimp only at *
      replace I1 := Lib.hid I1
      replace I2 := Lib.hid I2
      replace A0 := Lib.hid A0
      replace B0 := Lib.hid B0
      replace E0 := Lib.hid E0
      replace A1 := Lib.hid A1
      replace B1 := Lib.hid B1
      replace E1 := Lib.hid E1
      replace A2 := Lib.hid A2
      replace B2 := Lib.hid B2
      replace E2 := Lib.hid E2
      replace A3 := Lib.hid A3
      replace B3 := Lib.hid B3
      replace E3 := Lib.hid E3
      replace A4 := Lib.hid A4
      replace B4 := Lib.hid B4
      replace E4 := Lib.hid E4
      have K0 := kw4 w 50 50 50 50 [xa1, xa2, xa3, xa4, xa5, xa6] [xb1, xb2, xb3, xb4, xb5, xb6] [xc1, xc2, xc3, xc4, xc5, xc6] [xd1, xd2, xd3, xd4, xd5, xd6]
      simp only [objW, List.map_cons, List.map_nil] at K0
      have hst := @fstore
      replace K0 := Lib.hid K0
      go_enter Try.func6, Try.ntmps6
      go_wp2_with fail
      have K := K0.out
      clear K0
      generalize (((w.alloc _).alloc _).alloc _).alloc _ = wr at *
      refine (AW.out wr).mono ?_
      rintro _ v1 ⟨rfl, hb⟩
      replace K := K.on hb
      clear hb
      clear AW
      have c0_0 := (K.at_ 0 rfl).at_ 0 _ rfl
      have c0_1 := (K.at_ 0 rfl).at_ 1 _ rfl
      have c0_2 := (K.at_ 0 rfl).at_ 2 _ rfl
      have c0_3 := (K.at_ 0 rfl).at_ 3 _ rfl
      have c0_4 := (K.at_ 0 rfl).at_ 4 _ rfl
      have c0_5 := (K.at_ 0 rfl).at_ 5 _ rfl
      have c2_0 := (K.at_ 2 rfl).at_ 0 _ rfl
      have c2_1 := (K.at_ 2 rfl).at_ 1 _ rfl
      have c2_2 := (K.at_ 2 rfl).at_ 2 _ rfl
      have c2_3 := (K.at_ 2 rfl).at_ 3 _ rfl
      have c2_4 := (K.at_ 2 rfl).at_ 4 _ rfl
      have c2_5 := (K.at_ 2 rfl).at_ 5 _ rfl
      replace K := Lib.hid K
      go_wp2_with fail
      replace K := K.out
      refine (I1.out v1).mono ?_
      rintro _ v2 ⟨rfl, hb⟩
      clear c0_0 c0_1 c0_2 c0_3 c0_4 c0_5 c2_0 c2_1 c2_2 c2_3 c2_4 c2_5
      replace K := K.on hb
      clear hb
      clear I1
      have c1_0 := (K.at_ 1 rfl).at_ 0 _ rfl
      have c1_1 := (K.at_ 1 rfl).at_ 1 _ rfl
      have c1_2 := (K.at_ 1 rfl).at_ 2 _ rfl
      have c1_3 := (K.at_ 1 rfl).at_ 3 _ rfl
      have c1_4 := (K.at_ 1 rfl).at_ 4 _ rfl
      have c1_5 := (K.at_ 1 rfl).at_ 5 _ rfl
      have c3_0 := (K.at_ 3 rfl).at_ 0 _ rfl
      have c3_1 := (K.at_ 3 rfl).at_ 1 _ rfl
      have c3_2 := (K.at_ 3 rfl).at_ 2 _ rfl
      have c3_3 := (K.at_ 3 rfl).at_ 3 _ rfl
      have c3_4 := (K.at_ 3 rfl).at_ 4 _ rfl
      have c3_5 := (K.at_ 3 rfl).at_ 5 _ rfl
      replace K := Lib.hid K
      go_wp2_with fail
      replace K := K.out
      refine (I2.out v2).mono ?_
      rintro _ v3 ⟨rfl, hb⟩
      clear c1_0 c1_1 c1_2 c1_3 c1_4 c1_5 c3_0 c3_1 c3_2 c3_3 c3_4 c3_5
      replace K := K.on hb
      clear hb
      clear I2
      have c0_0 := (K.at_ 0 rfl).at_ 0 _ rfl
      have c0_1 := (K.at_ 0 rfl).at_ 1 _ rfl
      have c0_2 := (K.at_ 0 rfl).at_ 2 _ rfl
      have c0_3 := (K.at_ 0 rfl).at_ 3 _ rfl
      have c0_4 := (K.at_ 0 rfl).at_ 4 _ rfl
      have c0_5 := (K.at_ 0 rfl).at_ 5 _ rfl
      have c1_0 := (K.at_ 1 rfl).at_ 0 _ rfl
      have c1_1 := (K.at_ 1 rfl).at_ 1 _ rfl
      have c1_2 := (K.at_ 1 rfl).at_ 2 _ rfl
      have c1_3 := (K.at_ 1 rfl).at_ 3 _ rfl
      have c1_4 := (K.at_ 1 rfl).at_ 4 _ rfl
      have c1_5 := (K.at_ 1 rfl).at_ 5 _ rfl
      replace K := Lib.hid K
      go_wp2_with fail
      replace K := K.out
      refine (A0.out v3).mono ?_
      rintro _ v4 ⟨rfl, hb⟩
      clear c0_0 c0_1 c0_2 c0_3 c0_4 c0_5 c1_0 c1_1 c1_2 c1_3 c1_4 c1_5
      replace K := K.on hb
      clear hb
      clear A0
      replace K := K.new 50 [xp01, xp02, xp03, xp04, xp05, xp06]
      simp only [objW, List.map_cons, List.map_nil, List.cons_append, List.nil_append] at K
      have c2_0 := (K.at_ 2 rfl).at_ 0 _ rfl
      have c2_1 := (K.at_ 2 rfl).at_ 1 _ rfl
      have c2_2 := (K.at_ 2 rfl).at_ 2 _ rfl
      have c2_3 := (K.at_ 2 rfl).at_ 3 _ rfl
      have c2_4 := (K.at_ 2 rfl).at_ 4 _ rfl
      have c2_5 := (K.at_ 2 rfl).at_ 5 _ rfl
      have c3_0 := (K.at_ 3 rfl).at_ 0 _ rfl
      have c3_1 := (K.at_ 3 rfl).at_ 1 _ rfl
      have c3_2 := (K.at_ 3 rfl).at_ 2 _ rfl
      have c3_3 := (K.at_ 3 rfl).at_ 3 _ rfl
      have c3_4 := (K.at_ 3 rfl).at_ 4 _ rfl
      have c3_5 := (K.at_ 3 rfl).at_ 5 _ rfl
      replace K := Lib.hid K
      go_wp2_with fail
      replace K := K.out
      generalize v4.alloc _ = u4 at *
      generalize v4.heap.size = g1 at *
      refine (B0.out u4).mono ?_
      rintro _ v5 ⟨rfl, hb⟩
      clear c2_0 c2_1 c2_2 c2_3 c2_4 c2_5 c3_0 c3_1 c3_2 c3_3 c3_4 c3_5
      replace K := K.on hb
      clear hb
      clear B0
      replace K := K.new 50 [xq01, xq02, xq03, xq04, xq05, xq06]
      simp only [objW, List.map_cons, List.map_nil, List.cons_append, List.nil_append] at K
      have c4_0 := (K.at_ 4 rfl).at_ 0 _ rfl
      have c4_1 := (K.at_ 4 rfl).at_ 1 _ rfl
      have c4_2 := (K.at_ 4 rfl).at_ 2 _ rfl
      have c4_3 := (K.at_ 4 rfl).at_ 3 _ rfl
      have c4_4 := (K.at_ 4 rfl).at_ 4 _ rfl
      have c4_5 := (K.at_ 4 rfl).at_ 5 _ rfl
      have c5_0 := (K.at_ 5 rfl).at_ 0 _ rfl
      have c5_1 := (K.at_ 5 rfl).at_ 1 _ rfl
      have c5_2 := (K.at_ 5 rfl).at_ 2 _ rfl
      have c5_3 := (K.at_ 5 rfl).at_ 3 _ rfl
      have c5_4 := (K.at_ 5 rfl).at_ 4 _ rfl
      have c5_5 := (K.at_ 5 rfl).at_ 5 _ rfl
      replace K := Lib.hid K
      go_wp2_with fail
      replace K := K.out
      generalize v5.alloc _ = u5 at *
      generalize v5.heap.size = g2 at *
      refine (E0.out u5).mono ?_
      rintro _ v6 ⟨rfl, hb⟩
      clear c4_0 c4_1 c4_2 c4_3 c4_4 c4_5 c5_0 c5_1 c5_2 c5_3 c5_4 c5_5
      replace K := K.on hb
      clear hb
      clear E0
      have c0_0 := (K.at_ 0 rfl).at_ 0 _ rfl
      have c0_1 := (K.at_ 0 rfl).at_ 1 _ rfl
      have c0_2 := (K.at_ 0 rfl).at_ 2 _ rfl
      have c0_3 := (K.at_ 0 rfl).at_ 3 _ rfl
      have c0_4 := (K.at_ 0 rfl).at_ 4 _ rfl
      have c0_5 := (K.at_ 0 rfl).at_ 5 _ rfl
      have c1_0 := (K.at_ 1 rfl).at_ 0 _ rfl
      have c1_1 := (K.at_ 1 rfl).at_ 1 _ rfl
      have c1_2 := (K.at_ 1 rfl).at_ 2 _ rfl
      have c1_3 := (K.at_ 1 rfl).at_ 3 _ rfl
      have c1_4 := (K.at_ 1 rfl).at_ 4 _ rfl
      have c1_5 := (K.at_ 1 rfl).at_ 5 _ rfl
      replace K := Lib.hid K
      go_wp2_with fail
      replace K := K.out
      refine (A1.out v6).mono ?_
      rintro _ v7 ⟨rfl, hb⟩
      clear c0_0 c0_1 c0_2 c0_3 c0_4 c0_5 c1_0 c1_1 c1_2 c1_3 c1_4 c1_5
      replace K := K.on hb
      clear hb
      clear A1
      have c4_0 := (K.at_ 4 rfl).at_ 0 _ rfl
      have f4_0 := (K.at_ 4 rfl).fr 0 _ rfl
      have c4_1 := (K.at_ 4 rfl).at_ 1 _ rfl
      have f4_1 := (K.at_ 4 rfl).fr 1 _ rfl
      have c4_2 := (K.at_ 4 rfl).at_ 2 _ rfl
      have f4_2 := (K.at_ 4 rfl).fr 2 _ rfl
      have c4_3 := (K.at_ 4 rfl).at_ 3 _ rfl
      have f4_3 := (K.at_ 4 rfl).fr 3 _ rfl
      have c4_4 := (K.at_ 4 rfl).at_ 4 _ rfl
      have f4_4 := (K.at_ 4 rfl).fr 4 _ rfl
      have c4_5 := (K.at_ 4 rfl).at_ 5 _ rfl
      have f4_5 := (K.at_ 4 rfl).fr 5 _ rfl
      replace K := K.put 4 rfl 0 [xp11, xp12, xp13, xp14, xp15, xp16] (by simp)
      simp only [putW, setL, List.set_cons_zero, List.set_cons_succ] at K
      have c2_0 := (K.at_ 2 rfl).at_ 0 _ rfl
      have c2_1 := (K.at_ 2 rfl).at_ 1 _ rfl
      have c2_2 := (K.at_ 2 rfl).at_ 2 _ rfl
      have c2_3 := (K.at_ 2 rfl).at_ 3 _ rfl
      have c2_4 := (K.at_ 2 rfl).at_ 4 _ rfl
      have c2_5 := (K.at_ 2 rfl).at_ 5 _ rfl
      have c3_0 := (K.at_ 3 rfl).at_ 0 _ rfl
      have c3_1 := (K.at_ 3 rfl).at_ 1 _ rfl
      have c3_2 := (K.at_ 3 rfl).at_ 2 _ rfl
      have c3_3 := (K.at_ 3 rfl).at_ 3 _ rfl
      have c3_4 := (K.at_ 3 rfl).at_ 4 _ rfl
      have c3_5 := (K.at_ 3 rfl).at_ 5 _ rfl
      replace K := Lib.hid K
      go_wp2_with fail
      replace K := K.out
      generalize World.setCell _ _ _ = u7 at *
      refine (B1.out u7).mono ?_
      rintro _ v8 ⟨rfl, hb⟩
      clear c4_0 f4_0 c4_1 f4_1 c4_2 f4_2 c4_3 f4_3 c4_4 f4_4 c4_5 f4_5 c2_0 c2_1 c2_2 c2_3 c2_4 c2_5 c3_0 c3_1 c3_2 c3_3 c3_4 c3_5
      replace K := K.on hb
      clear hb
      clear B1
      have c5_0 := (K.at_ 5 rfl).at_ 0 _ rfl
      have f5_0 := (K.at_ 5 rfl).fr 0 _ rfl
      have c5_1 := (K.at_ 5 rfl).at_ 1 _ rfl
      have f5_1 := (K.at_ 5 rfl).fr 1 _ rfl
      have c5_2 := (K.at_ 5 rfl).at_ 2 _ rfl
      have f5_2 := (K.at_ 5 rfl).fr 2 _ rfl
      have c5_3 := (K.at_ 5 rfl).at_ 3 _ rfl
      have f5_3 := (K.at_ 5 rfl).fr 3 _ rfl
      have c5_4 := (K.at_ 5 rfl).at_ 4 _ rfl
      have f5_4 := (K.at_ 5 rfl).fr 4 _ rfl
      have c5_5 := (K.at_ 5 rfl).at_ 5 _ rfl
      have f5_5 := (K.at_ 5 rfl).fr 5 _ rfl
      replace K := K.put 5 rfl 0 [xq11, xq12, xq13, xq14, xq15, xq16] (by simp)
      simp only [putW, setL, List.set_cons_zero, List.set_cons_succ] at K
      have c4_0 := (K.at_ 4 rfl).at_ 0 _ rfl
      have c4_1 := (K.at_ 4 rfl).at_ 1 _ rfl
      have c4_2 := (K.at_ 4 rfl).at_ 2 _ rfl
      have c4_3 := (K.at_ 4 rfl).at_ 3 _ rfl
      have c4_4 := (K.at_ 4 rfl).at_ 4 _ rfl
      have c4_5 := (K.at_ 4 rfl).at_ 5 _ rfl
      have c5_0' := (K.at_ 5 rfl).at_ 0 _ rfl
      have c5_1' := (K.at_ 5 rfl).at_ 1 _ rfl
      have c5_2' := (K.at_ 5 rfl).at_ 2 _ rfl
      have c5_3' := (K.at_ 5 rfl).at_ 3 _ rfl
      have c5_4' := (K.at_ 5 rfl).at_ 4 _ rfl
      have c5_5' := (K.at_ 5 rfl).at_ 5 _ rfl
      replace K := Lib.hid K
      go_wp2_with fail
      replace K := K.out
      generalize World.setCell _ _ _ = u8 at *
      refine (E1.out u8).mono ?_
      rintro _ v9 ⟨rfl, hb⟩
      clear c5_0 f5_0 c5_1 f5_1 c5_2 f5_2 c5_3 f5_3 c5_4 f5_4 c5_5 f5_5 c4_0 c4_1 c4_2 c4_3 c4_4 c4_5 c5_0' c5_1' c5_2' c5_3' c5_4' c5_5'
      replace K := K.on hb
      clear hb
      clear E1
      have c0_0 := (K.at_ 0 rfl).at_ 0 _ rfl
      have c0_1 := (K.at_ 0 rfl).at_ 1 _ rfl
      have c0_2 := (K.at_ 0 rfl).at_ 2 _ rfl
      have c0_3 := (K.at_ 0 rfl).at_ 3 _ rfl
      have c0_4 := (K.at_ 0 rfl).at_ 4 _ rfl
      have c0_5 := (K.at_ 0 rfl).at_ 5 _ rfl
      replace K := Lib.hid K
      go_wp2_with fail
      replace K := K.out
      refine (A2.out v9).mono ?_
      rintro _ v10 ⟨rfl, hb⟩
      clear c0_0 c0_1 c0_2 c0_3 c0_4 c0_5
      replace K := K.on hb
      clear hb
      clear A2
      have c4_0 := (K.at_ 4 rfl).at_ 0 _ rfl
      have f4_0 := (K.at_ 4 rfl).fr 0 _ rfl
      have c4_1 := (K.at_ 4 rfl).at_ 1 _ rfl
      have f4_1 := (K.at_ 4 rfl).fr 1 _ rfl
      have c4_2 := (K.at_ 4 rfl).at_ 2 _ rfl
      have f4_2 := (K.at_ 4 rfl).fr 2 _ rfl
      have c4_3 := (K.at_ 4 rfl).at_ 3 _ rfl
      have f4_3 := (K.at_ 4 rfl).fr 3 _ rfl
      have c4_4 := (K.at_ 4 rfl).at_ 4 _ rfl
      have f4_4 := (K.at_ 4 rfl).fr 4 _ rfl
      have c4_5 := (K.at_ 4 rfl).at_ 5 _ rfl
      have f4_5 := (K.at_ 4 rfl).fr 5 _ rfl
      replace K := K.put 4 rfl 0 [xp21, xp22, xp23, xp24, xp25, xp26] (by simp)
      simp only [putW, setL, List.set_cons_zero, List.set_cons_succ] at K
      have c2_0 := (K.at_ 2 rfl).at_ 0 _ rfl
      have c2_1 := (K.at_ 2 rfl).at_ 1 _ rfl
      have c2_2 := (K.at_ 2 rfl).at_ 2 _ rfl
      have c2_3 := (K.at_ 2 rfl).at_ 3 _ rfl
      have c2_4 := (K.at_ 2 rfl).at_ 4 _ rfl
      have c2_5 := (K.at_ 2 rfl).at_ 5 _ rfl
      replace K := Lib.hid K
      go_wp2_with fail
      replace K := K.out
      generalize World.setCell _ _ _ = u10 at *
      refine (B2.out u10).mono ?_
      rintro _ v11 ⟨rfl, hb⟩
      clear c4_0 f4_0 c4_1 f4_1 c4_2 f4_2 c4_3 f4_3 c4_4 f4_4 c4_5 f4_5 c2_0 c2_1 c2_2 c2_3 c2_4 c2_5
      replace K := K.on hb
      clear hb
      clear B2
      have c5_0 := (K.at_ 5 rfl).at_ 0 _ rfl
      have f5_0 := (K.at_ 5 rfl).fr 0 _ rfl
      have c5_1 := (K.at_ 5 rfl).at_ 1 _ rfl
      have f5_1 := (K.at_ 5 rfl).fr 1 _ rfl
      have c5_2 := (K.at_ 5 rfl).at_ 2 _ rfl
      have f5_2 := (K.at_ 5 rfl).fr 2 _ rfl
      have c5_3 := (K.at_ 5 rfl).at_ 3 _ rfl
      have f5_3 := (K.at_ 5 rfl).fr 3 _ rfl
      have c5_4 := (K.at_ 5 rfl).at_ 4 _ rfl
      have f5_4 := (K.at_ 5 rfl).fr 4 _ rfl
      have c5_5 := (K.at_ 5 rfl).at_ 5 _ rfl
      have f5_5 := (K.at_ 5 rfl).fr 5 _ rfl
      replace K := K.put 5 rfl 0 [xq21, xq22, xq23, xq24, xq25, xq26] (by simp)
      simp only [putW, setL, List.set_cons_zero, List.set_cons_succ] at K
      have c4_0 := (K.at_ 4 rfl).at_ 0 _ rfl
      have c4_1 := (K.at_ 4 rfl).at_ 1 _ rfl
      have c4_2 := (K.at_ 4 rfl).at_ 2 _ rfl
      have c4_3 := (K.at_ 4 rfl).at_ 3 _ rfl
      have c4_4 := (K.at_ 4 rfl).at_ 4 _ rfl
      have c4_5 := (K.at_ 4 rfl).at_ 5 _ rfl
      have c5_0' := (K.at_ 5 rfl).at_ 0 _ rfl
      have c5_1' := (K.at_ 5 rfl).at_ 1 _ rfl
      have c5_2' := (K.at_ 5 rfl).at_ 2 _ rfl
      have c5_3' := (K.at_ 5 rfl).at_ 3 _ rfl
      have c5_4' := (K.at_ 5 rfl).at_ 4 _ rfl
      have c5_5' := (K.at_ 5 rfl).at_ 5 _ rfl
      replace K := Lib.hid K
      go_wp2_with fail
      replace K := K.out
      generalize World.setCell _ _ _ = u11 at *
      refine (E2.out u11).mono ?_
      rintro _ v12 ⟨rfl, hb⟩
      clear c5_0 f5_0 c5_1 f5_1 c5_2 f5_2 c5_3 f5_3 c5_4 f5_4 c5_5 f5_5 c4_0 c4_1 c4_2 c4_3 c4_4 c4_5 c5_0' c5_1' c5_2' c5_3' c5_4' c5_5'
      replace K := K.on hb
      clear hb
      clear E2
      have c0_0 := (K.at_ 0 rfl).at_ 0 _ rfl
      have c0_1 := (K.at_ 0 rfl).at_ 1 _ rfl
      have c0_2 := (K.at_ 0 rfl).at_ 2 _ rfl
      have c0_3 := (K.at_ 0 rfl).at_ 3 _ rfl
      have c0_4 := (K.at_ 0 rfl).at_ 4 _ rfl
      have c0_5 := (K.at_ 0 rfl).at_ 5 _ rfl
      have c1_0 := (K.at_ 1 rfl).at_ 0 _ rfl
      have c1_1 := (K.at_ 1 rfl).at_ 1 _ rfl
      have c1_2 := (K.at_ 1 rfl).at_ 2 _ rfl
      have c1_3 := (K.at_ 1 rfl).at_ 3 _ rfl
      have c1_4 := (K.at_ 1 rfl).at_ 4 _ rfl
      have c1_5 := (K.at_ 1 rfl).at_ 5 _ rfl
      replace K := Lib.hid K
      go_wp2_with fail
      replace K := K.out
      refine (A3.out v12).mono ?_
      rintro _ v13 ⟨rfl, hb⟩
      clear c0_0 c0_1 c0_2 c0_3 c0_4 c0_5 c1_0 c1_1 c1_2 c1_3 c1_4 c1_5
      replace K := K.on hb
      clear hb
      clear A3
      replace K := K.new 48 [xs01, xs02]
      simp only [objW, List.map_cons, List.map_nil, List.cons_append, List.nil_append] at K
      have c2_0 := (K.at_ 2 rfl).at_ 0 _ rfl
      have c2_1 := (K.at_ 2 rfl).at_ 1 _ rfl
      have c2_2 := (K.at_ 2 rfl).at_ 2 _ rfl
      have c2_3 := (K.at_ 2 rfl).at_ 3 _ rfl
      have c2_4 := (K.at_ 2 rfl).at_ 4 _ rfl
      have c2_5 := (K.at_ 2 rfl).at_ 5 _ rfl
      have c3_0 := (K.at_ 3 rfl).at_ 0 _ rfl
      have c3_1 := (K.at_ 3 rfl).at_ 1 _ rfl
      have c3_2 := (K.at_ 3 rfl).at_ 2 _ rfl
      have c3_3 := (K.at_ 3 rfl).at_ 3 _ rfl
      have c3_4 := (K.at_ 3 rfl).at_ 4 _ rfl
      have c3_5 := (K.at_ 3 rfl).at_ 5 _ rfl
      replace K := Lib.hid K
      go_wp2_with fail
      replace K := K.out
      generalize v13.alloc _ = u13 at *
      generalize v13.heap.size = g3 at *
      refine (B3.out u13).mono ?_
      rintro _ v14 ⟨rfl, hb⟩
      clear c2_0 c2_1 c2_2 c2_3 c2_4 c2_5 c3_0 c3_1 c3_2 c3_3 c3_4 c3_5
      replace K := K.on hb
      clear hb
      clear B3
      replace K := K.new 48 [xt01, xt02]
      simp only [objW, List.map_cons, List.map_nil, List.cons_append, List.nil_append] at K
      have c6_0 := (K.at_ 6 rfl).at_ 0 _ rfl
      have c6_1 := (K.at_ 6 rfl).at_ 1 _ rfl
      have c7_0 := (K.at_ 7 rfl).at_ 0 _ rfl
      have c7_1 := (K.at_ 7 rfl).at_ 1 _ rfl
      replace K := Lib.hid K
      go_wp2_with fail
      replace K := K.out
      generalize v14.alloc _ = u14 at *
      generalize v14.heap.size = g4 at *
      refine (E3.out u14).mono ?_
      rintro _ v15 ⟨rfl, hb⟩
      clear c6_0 c6_1 c7_0 c7_1
      replace K := K.on hb
      clear hb
      clear E3
      have c0_0 := (K.at_ 0 rfl).at_ 0 _ rfl
      have c0_1 := (K.at_ 0 rfl).at_ 1 _ rfl
      have c0_2 := (K.at_ 0 rfl).at_ 2 _ rfl
      have c0_3 := (K.at_ 0 rfl).at_ 3 _ rfl
      have c0_4 := (K.at_ 0 rfl).at_ 4 _ rfl
      have c0_5 := (K.at_ 0 rfl).at_ 5 _ rfl
      replace K := Lib.hid K
      go_wp2_with fail
      replace K := K.out
      refine (A4.out v15).mono ?_
      rintro _ v16 ⟨rfl, hb⟩
      clear c0_0 c0_1 c0_2 c0_3 c0_4 c0_5
      replace K := K.on hb
      clear hb
      clear A4
      have c6_0 := (K.at_ 6 rfl).at_ 0 _ rfl
      have f6_0 := (K.at_ 6 rfl).fr 0 _ rfl
      have c6_1 := (K.at_ 6 rfl).at_ 1 _ rfl
      have f6_1 := (K.at_ 6 rfl).fr 1 _ rfl
      replace K := K.put 6 rfl 0 [xs11, xs12] (by simp)
      simp only [putW, setL, List.set_cons_zero, List.set_cons_succ] at K
      have c2_0 := (K.at_ 2 rfl).at_ 0 _ rfl
      have c2_1 := (K.at_ 2 rfl).at_ 1 _ rfl
      have c2_2 := (K.at_ 2 rfl).at_ 2 _ rfl
      have c2_3 := (K.at_ 2 rfl).at_ 3 _ rfl
      have c2_4 := (K.at_ 2 rfl).at_ 4 _ rfl
      have c2_5 := (K.at_ 2 rfl).at_ 5 _ rfl
      replace K := Lib.hid K
      go_wp2_with fail
      replace K := K.out
      generalize World.setCell _ _ _ = u16 at *
      refine (B4.out u16).mono ?_
      rintro _ v17 ⟨rfl, hb⟩
      clear c6_0 f6_0 c6_1 f6_1 c2_0 c2_1 c2_2 c2_3 c2_4 c2_5
      replace K := K.on hb
      clear hb
      clear B4
      have c7_0 := (K.at_ 7 rfl).at_ 0 _ rfl
      have f7_0 := (K.at_ 7 rfl).fr 0 _ rfl
      have c7_1 := (K.at_ 7 rfl).at_ 1 _ rfl
      have f7_1 := (K.at_ 7 rfl).fr 1 _ rfl
      replace K := K.put 7 rfl 0 [xt11, xt12] (by simp)
      simp only [putW, setL, List.set_cons_zero, List.set_cons_succ] at K
      have c6_0 := (K.at_ 6 rfl).at_ 0 _ rfl
      have c6_1 := (K.at_ 6 rfl).at_ 1 _ rfl
      have c7_0' := (K.at_ 7 rfl).at_ 0 _ rfl
      have c7_1' := (K.at_ 7 rfl).at_ 1 _ rfl
      replace K := Lib.hid K
      go_wp2_with fail
      replace K := K.out
      generalize World.setCell _ _ _ = u17 at *
      refine (E4.out u17).mono ?_
      rintro _ v18 ⟨rfl, hb⟩
      clear c7_0 f7_0 c7_1 f7_1 c6_0 c6_1 c7_0' c7_1'
      replace K := K.on hb
      clear hb
      clear E4
      replace K := Lib.hid K
      go_wp2_with fail
      replace K := K.out
      go_ret
      exact ⟨by first | rfl | trivial, K.old⟩
    · rw [z1] at I1
      rw [Bool.eq_false_iff.2 z2] at I2
      clear z1 z2 h0 h1 h2 h3
      obtain ⟨⟨xa1, xa2⟩, ⟨xa3, xa4⟩, xa5, xa6⟩ := a0
      obtain ⟨⟨xb1, xb2⟩, ⟨xb3, xb4⟩, xb5, xb6⟩ := a1
      obtain ⟨⟨xc1, xc2⟩, ⟨xc3, xc4⟩, xc5, xc6⟩ := a2
      obtain ⟨⟨xd1, xd2⟩, ⟨xd3, xd4⟩, xd5, xd6⟩ := a3
      unfold boxV at *
      dsimp only at *
      replace I1 := Lib.hid I1
      replace I2 := Lib.hid I2
      have K0 := kw4 w 50 50 50 50 [xa1, xa2, xa3, xa4, xa5, xa6] [xb1, xb2, xb3, xb4, xb5, xb6] [xc1, xc2, xc3, xc4, xc5, xc6] [xd1, xd2, xd3, xd4, xd5, xd6]
      simp only [objW, List.map_cons, List.map_nil] at K0
      have hst := @fstore
      replace K0 := Lib.hid K0
      go_enter Try.func6, Try.ntmps6
      go_wp2_with fail
      have K := K0.out
      clear K0
      generalize (((w.alloc _).alloc _).alloc _).alloc _ = wr at *
      refine (AW.out wr).mono ?_
      rintro _ v1 ⟨rfl, hb⟩
      replace K := K.on hb
      clear hb
      clear AW
      have c0_0 := (K.at_ 0 rfl).at_ 0 _ rfl
      have c0_1 := (K.at_ 0 rfl).at_ 1 _ rfl
      have c0_2 := (K.at_ 0 rfl).at_ 2 _ rfl
      have c0_3 := (K.at_ 0 rfl).at_ 3 _ rfl
      have c0_4 := (K.at_ 0 rfl).at_ 4 _ rfl
      have c0_5 := (K.at_ 0 rfl).at_ 5 _ rfl
      have c2_0 := (K.at_ 2 rfl).at_ 0 _ rfl
      have c2_1 := (K.at_ 2 rfl).at_ 1 _ rfl
      have c2_2 := (K.at_ 2 rfl).at_ 2 _ rfl
      have c2_3 := (K.at_ 2 rfl).at_ 3 _ rfl
      have c2_4 := (K.at_ 2 rfl).at_ 4 _ rfl
      have c2_5 := (K.at_ 2 rfl).at_ 5 _ rfl
      replace K := Lib.hid K
      go_wp2_with fail
      replace K := K.out
      refine (I1.out v1).mono ?_
      rintro _ v2 ⟨rfl, hb⟩
      clear c0_0 c0_1 c0_2 c0_3 c0_4 c0_5 c2_0 c2_1 c2_2 c2_3 c2_4 c2_5
      replace K := K.on hb
      clear hb
      clear I1
      have c1_0 := (K.at_ 1 rfl).at_ 0 _ rfl
      have c1_1 := (K.at_ 1 rfl).at_ 1 _ rfl
      have c1_2 := (K.at_ 1 rfl).at_ 2 _ rfl
      have c1_3 := (K.at_ 1 rfl).at_ 3 _ rfl
      have c1_4 := (K.at_ 1 rfl).at_ 4 _ rfl
      have c1_5 := (K.at_ 1 rfl).at_ 5 _ rfl
      have c3_0 := (K.at_ 3 rfl).at_ 0 _ rfl
      have c3_1 := (K.at_ 3 rfl).at_ 1 _ rfl
      have c3_2 := (K.at_ 3 rfl).at_ 2 _ rfl
      have c3_3 := (K.at_ 3 rfl).at_ 3 _ rfl
      have c3_4 := (K.at_ 3 rfl).at_ 4 _ rfl
      have c3_5 := (K.at_ 3 rfl).at_ 5 _ rfl
      replace K := Lib.hid K
      go_wp2_with fail
      replace K := K.out
      refine (I2.out v2).mono ?_
      rintro _ v3 ⟨rfl, hb⟩
      clear c1_0 c1_1 c1_2 c1_3 c1_4 c1_5 c3_0 c3_1 c3_2 c3_3 c3_4 c3_5
      replace K := K.on hb
      clear hb
      clear I2
      replace K := Lib.hid K
      go_wp2_with fail
      replace K := K.out
      go_ret
      exact ⟨by first | rfl | trivial, K.old⟩
  · rw [Bool.eq_false_iff.2 z1] at I1
    clear I2 z1 h0 h1 h2 h3
    obtain ⟨⟨xa1, xa2⟩, ⟨xa3, xa4⟩, xa5, xa6⟩ := a0
    obtain ⟨⟨xb1, xb2⟩, ⟨xb3, xb4⟩, xb5, xb6⟩ := a1
    obtain ⟨⟨xc1, xc2⟩, ⟨xc3, xc4⟩, xc5, xc6⟩ := a2
    obtain ⟨⟨xd1, xd2⟩, ⟨xd3, xd4⟩, xd5, xd6⟩ := a3
    unfold boxV at *
    dsimp only at *
    replace I1 := Lib.hid I1
    have K0 := kw4 w 50 50 50 50 [xa1, xa2, xa3, xa4, xa5, xa6] [xb1, xb2, xb3, xb4, xb5, xb6] [xc1, xc2, xc3, xc4, xc5, xc6] [xd1, xd2, xd3, xd4, xd5, xd6]
    simp only [objW, List.map_cons, List.map_nil] at K0
    have hst := @fstore
    replace K0 := Lib.hid K0
    go_enter Try.func6, Try.ntmps6
    go_wp2_with fail
    have K := K0.out
    clear K0
    generalize (((w.alloc _).alloc _).alloc _).alloc _ = wr at *
    refine (AW.out wr).mono ?_
    rintro _ v1 ⟨rfl, hb⟩
    replace K := K.on hb
    clear hb
    clear AW
    have c0_0 := (K.at_ 0 rfl).at_ 0 _ rfl
    have c0_1 := (K.at_ 0 rfl).at_ 1 _ rfl
    have c0_2 := (K.at_ 0 rfl).at_ 2 _ rfl
    have c0_3 := (K.at_ 0 rfl).at_ 3 _ rfl
    have c0_4 := (K.at_ 0 rfl).at_ 4 _ rfl
    have c0_5 := (K.at_ 0 rfl).at_ 5 _ rfl
    have c2_0 := (K.at_ 2 rfl).at_ 0 _ rfl
    have c2_1 := (K.at_ 2 rfl).at_ 1 _ rfl
    have c2_2 := (K.at_ 2 rfl).at_ 2 _ rfl
    have c2_3 := (K.at_ 2 rfl).at_ 3 _ rfl
    have c2_4 := (K.at_ 2 rfl).at_ 4 _ rfl
    have c2_5 := (K.at_ 2 rfl).at_ 5 _ rfl
    replace K := Lib.hid K
    go_wp2_with fail
    replace K := K.out
    refine (I1.out v1).mono ?_
    rintro _ v2 ⟨rfl, hb⟩
    clear c0_0 c0_1 c0_2 c0_3 c0_4 c0_5 c2_0 c2_1 c2_2 c2_3 c2_4 c2_5
    replace K := K.on hb
    clear hb
    clear I1
    replace K := Lib.hid K
    go_wp2_with fail
    replace K := K.out
    go_ret
    exact ⟨by first | rfl | trivial, K.old⟩

set_option maxRecDepth 100000 in
theorem own : ownKnob Try.prog.godebug = none := by kernel_rfl
set_option maxRecDepth 100000 in
theorem laidOut : laidOutB Try.prog = true := by kernel_rfl
set_option maxRecDepth 100000 in
theorem cellsF : Try.prog.cellsOf 22 = 1 := by kernel_rfl
set_option maxRecDepth 100000 in
theorem bytesF : Try.prog.bytesOf 22 = 8 := by kernel_rfl
theorem wf64 {b : Nat} (h : (Lit.float .f64 b).wf = true) : b < 18446744073709551616 := by
  simp only [Lit.wf, decide_eq_true_eq] at h; exact h

set_option maxRecDepth 100000 in
theorem lifted (os : Os) (started : os.Started) (H : Type) (enc : TypeId × Value → H) :
    ReturnsInHanded {} Try.checked os 6 .any (Rows.vecSmallerSpec.pre6 enc Try.prog Try.f6 Rows.vecSmallerRow.domain false) (Rows.vecSmallerSpec.post enc Try.prog Try.f6 false true false false) := by
  refine returnsInHanded_of_change_sized (C := Try.checked) own started (by kernel_rfl) Try.func6
    (ChangeSpec.witness6 (enc := enc) (C := Try.checked) false ⟨#[], #[.agg #[.float .f64 0, .float .f64 0, .float .f64 0, .float .f64 0, .float .f64 0, .float .f64 0], .agg #[.float .f64 0, .float .f64 0, .float .f64 0, .float .f64 0, .float .f64 0, .float .f64 0], .agg #[.float .f64 0, .float .f64 0, .float .f64 0, .float .f64 0, .float .f64 0, .float .f64 0], .agg #[.float .f64 0, .float .f64 0, .float .f64 0, .float .f64 0, .float .f64 0, .float .f64 0]], []⟩ 8 (by kernel_rfl) (by kernel_rfl) (by kernel_rfl) (by kernel_rfl)) ?_
  intro W base args ds gs before hval0 hW _ hsz0 _
  have hsz : (DataW.weightsEach Try.prog (Try.f6.params.toList ++ Rows.vecSmallerSpec.plain.varTypes Try.prog) (ds ++ gs)).all (· ≤ reachBytes) = true := hsz0
  clear hsz0
  have hval : ∀ (j : Nat) t v, Try.f6.params[j]? = some t → args[j]? = some v → Value.okWide Try.prog W .any base t v := hval0
  have hW' := hW
  obtain ⟨p, q, hA0, hV, rfl, _, _⟩ := hW
  have hA : DataW.TrodAll enc Try.prog W 0 (fun _ => true) true Try.f6.params.toList args.toList ds p := hA0
  rw [Try.params6] at hA hval hsz
  obtain ⟨v0, vs0, d0, ds0, p0, q0, hargs, rfl, rfl, t0, r0⟩ := trodAll_cons hA
  obtain ⟨v1, vs1, d1, ds1, p1, q1, rfl, rfl, rfl, t1, r1⟩ := trodAll_cons r0
  obtain ⟨v2, vs2, d2, ds2, p2, q2, rfl, rfl, rfl, t2, r2⟩ := trodAll_cons r1
  obtain ⟨v3, vs3, d3, ds3, p3, q3, rfl, rfl, rfl, t3, r3⟩ := trodAll_cons r2
  obtain ⟨rfl, rfl, rfl⟩ := trodAll_nil r3
  obtain rfl : args = #[v0, v1, v2, v3] := by cases args; simp_all
  obtain ⟨rfl, rfl⟩ := trodVars_none hV
  simp only [List.append_nil] at hW'
  have tk0 := t0
  obtain ⟨a0, rfl, wa0⟩ := open_box (hval 0 50 v0 rfl rfl) t0
  have hlt0 : ∀ x ∈ p0, x.block < W.heap.size := fun x hx => by have := hW'.lt x (by simp [hx]); simpa using this
  have tk1 := t1
  obtain ⟨a1, rfl, wa1⟩ := open_box (hval 1 50 v1 rfl rfl) t1
  have hlt1 : ∀ x ∈ p1, x.block < W.heap.size := fun x hx => by have := hW'.lt x (by simp [hx]); simpa using this
  have tk2 := t2
  obtain ⟨a2, rfl, wa2⟩ := open_box (hval 2 50 v2 rfl rfl) t2
  have hlt2 : ∀ x ∈ p2, x.block < W.heap.size := fun x hx => by have := hW'.lt x (by simp [hx]); simpa using this
  have tk3 := t3
  obtain ⟨a3, rfl, wa3⟩ := open_box (hval 3 50 v3 rfl rfl) t3
  have hlt3 : ∀ x ∈ p3, x.block < W.heap.size := fun x hx => by have := hW'.lt x (by simp [hx]); simpa using this
  clear hA0 hval0
  refine (walk W a0 wa0 a1 wa1 a2 wa2 a3 wa3).mono fun e W' ⟨he, hb⟩ => ?_
  subst he
  refine ⟨_, rfl, _, _, _, [], _, [], hW', trodAll_cons_mk (shut_bool Try.underlying4 _) trodAll_mk0, (trodAll_cons_mk (Below.trod laidOut (by kernel_rfl) (of_decide_eq_true (by kernel_rfl)) tk0 hb hlt0) (trodAll_cons_mk (Below.trod laidOut (by kernel_rfl) (of_decide_eq_true (by kernel_rfl)) tk1 hb hlt1) (trodAll_cons_mk (Below.trod laidOut (by kernel_rfl) (of_decide_eq_true (by kernel_rfl)) tk2 hb hlt2) (trodAll_cons_mk (Below.trod laidOut (by kernel_rfl) (of_decide_eq_true (by kernel_rfl)) tk3 hb hlt3) trodAll_mk0)))), rfl, hb.frame _, fun h => by cases h⟩

set_option maxRecDepth 100000 in
theorem over : Rows.vecSmallerRow.holds Try.pinned (OpenSpec.ofChange Rows.vecSmallerSpec) :=
  OpenClaim.holds_of_wide 6 Try.f6 rfl rfl rfl rfl rfl rfl rfl ⟨rfl, rfl, rfl, rfl, rfl⟩ rfl rfl rfl rfl rfl (by kernel_rfl) Try.func6 (by kernel_rfl)
    (of_decide_eq_true (by kernel_rfl)) (by unfold Func.isWrapper; first | (rw [if_pos (by decide +kernel)]; kernel_rfl) | (rw [if_neg (by decide +kernel)]; exact ⟨rfl, rfl⟩))
    (fun os started H enc _ => lifted os started H enc)

theorem proved : Rows.VecSmallerSaid :=
  over
end Go.Proofs.Ytpdkciennccckaa.vecSmaller
