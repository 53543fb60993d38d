/- Proved here: for every two spans (and all that are none) and every number the law SpanSets returns true: hulls hold both, meets lie in both, and hold what lies in both. No conditions. -/
import Derived.Test.YtkfagpahbojigaaRows
import Derived.Test.YtkfagpahbojigaaSts
import Derived.Test.YtkfagpahbojigaaSpf
import Derived.Deep.CutRange
import Derived.BigQuiet
import Derived.Deep.RegionHeld3
namespace Go.Proofs.Ytkfagpahbojigaa.spanSets
open Go.ChangeShapes Go.WideShapes Go.ChangeAt Go.RowKit Ieee.Own

theorem cf_ins (u v : Value) (w : World) : (callFunc 37 #[u, v]).run Try.prog w = .ok (.enter 37 #[u, v]) w := by
  have h := Try.func37
  go_simp
set_option maxHeartbeats 2000000 in
theorem walk (w : World) (a0 b0 : Nat) (ha0 : a0 < 18446744073709551616) (hb0 : b0 < 18446744073709551616) (a1 b1 : Nat) (ha1 : a1 < 18446744073709551616) (hb1 : b1 < 18446744073709551616) (a2 : Nat) (h2 : a2 < 18446744073709551616) :
    Calls Try.prog 9 #[spanV a0 b0, spanV a1 b1, .float .f64 a2] w fun e w' => e = .returned (.bool true) ∧ Below w.heap.size w w' := by
  have AW := Lib.hid awake_run
  have hst := @fstore
  have C0 : Cls w [(w.heap.size, a0, b0), (w.heap.size + 1, a1, b1)] ((w.alloc (boxO a0 b0)).alloc (boxO a1 b1)) := by
    have := ((Cls.nil w).new a0 b0).new a1 b1
    simp only [List.nil_append, List.cons_append] at this
    rw [show (w.alloc (boxO a0 b0)).heap.size = w.heap.size + 1 by simp] at this
    exact this
  unfold boxO at C0
  have K0 := Lib.hid (fun w => rscheck_run a0 b0 ha0 hb0 w)
  have K1 := Lib.hid (fun w => rscheck_run a1 b1 ha1 hb1 w)
  have IA := Lib.hid (fun w => sinside_run a0 b0 a1 b1 ha0 hb0 ha1 hb1 w)
  by_cases e0 : errS a0 b0 = 0
  · by_cases e1 : errS a1 b1 = 0
    · have T : Sets a0 b0 a1 b1 := ⟨ha0, hb0, ha1, hb1, e0, e1⟩
      have IB := Lib.hid (fun w => sinside_run a1 b1 a0 b0 ha1 hb1 ha0 hb0 w)
      have HU := Lib.hid (fun w => shull_ok ha0 hb0 ha1 hb1 T.both w)
      have ME := Lib.hid (fun w => smeet_ok ha0 hb0 ha1 hb1 T.both w)
      obtain ⟨⟨hl1, hl2⟩, hi1, hi2⟩ := T.hull
      have I1 := Lib.hid (fun w => sinside_run a0 b0 _ _ ha0 hb0 hl1 hl2 w)
      have I2 := Lib.hid (fun w => sinside_run a1 b1 _ _ ha1 hb1 hl1 hl2 w)
      rw [hi1] at I1
      rw [hi2] at I2
      obtain ⟨ml1, ml2⟩ := T.meet_lt
      have I3 := Lib.hid (fun w => sinside_run _ _ a0 b0 ml1 ml2 ha0 hb0 w)
      have I4 := Lib.hid (fun w => sinside_run _ _ a1 b1 ml1 ml2 ha1 hb1 w)
      have hin := Lib.hid T.meet_in
      have H0 := Lib.hid (fun w => shas_run a0 b0 a2 ha0 hb0 h2 w)
      have H1 := Lib.hid (fun w => shas_run a1 b1 a2 ha1 hb1 h2 w)
      have H2 := Lib.hid (fun w => shas_run _ _ a2 ml1 ml2 h2 w)
      have hhas := Lib.hid (T.has a2)
      have hsame := Lib.hid T.same
      obtain ⟨f1, f2, -⟩ := errS_zero e0
      obtain ⟨f3, f4, -⟩ := errS_zero e1
      have t1 := eq_words (fit_fin ha0 f1) (fit_fin ha1 f3)
      have t2 := eq_words (fit_fin hb0 f2) (fit_fin hb1 f4)
      rw [e0] at K0
      rw [e1] at K1
      unfold spanE at HU
      unfold spanV at *
      replace C0 := Lib.hid C0
      clear T e0 e1 hl1 hl2 hi1 hi2 ml1 ml2 f1 f2 f3 f4 ha0 hb0 ha1 hb1 h2
      generalize posW (mnW a0 a1) = hx at *
      generalize posW (mxW b0 b1) = hy at *
      generalize meetX a0 b0 a1 b1 = mx at *
      generalize meetY a0 b0 a1 b1 = my at *
      generalize meetB a0 b0 a1 b1 = bb at *
      generalize insB mx my a0 b0 = ba at *
      generalize insB mx my a1 b1 = bc at *
      generalize hasB a0 b0 a2 = ca at *
      generalize hasB a1 b1 a2 = cb at *
      generalize hasB mx my a2 = cm at *
      generalize insB a0 b0 a1 b1 = ia at *
      generalize insB a1 b1 a0 b0 = ib at *
      generalize decide (V a0 = V a1) = ja at *
      generalize decide (V b0 = V b1) = jb at *
      go_enter Try.func9, Try.ntmps9
      go_wp2_with fail
      have C := C0.out
      clear C0
      generalize (w.alloc _).alloc _ = wr at *
      refine (AW.out wr).mono ?_
      rintro _ v0 ⟨rfl, hb⟩
      have D1 := C.on hb
      clear C hb wr
      have p0 := (D1.at_ 0 rfl).lo
      have q0 := (D1.at_ 0 rfl).hi
      have p1 := (D1.at_ 1 rfl).lo
      have q1 := (D1.at_ 1 rfl).hi
      have D := Lib.hid D1
      clear D1
      go_wp2_with fail
      refine (K0.out v0).mono ?_
      rintro _ v1 ⟨rfl, hb⟩
      have D1 := D.out.on hb
      clear D hb
      clear p0 q0 p1 q1
      have p0 := (D1.at_ 0 rfl).lo
      have q0 := (D1.at_ 0 rfl).hi
      have p1 := (D1.at_ 1 rfl).lo
      have q1 := (D1.at_ 1 rfl).hi
      have D := Lib.hid D1
      clear D1
      go_wp2_with fail
      refine (K1.out v1).mono ?_
      rintro _ v2 ⟨rfl, hb⟩
      have D1 := D.out.on hb
      clear D hb
      clear p0 q0 p1 q1
      have p0 := (D1.at_ 0 rfl).lo
      have q0 := (D1.at_ 0 rfl).hi
      have p1 := (D1.at_ 1 rfl).lo
      have q1 := (D1.at_ 1 rfl).hi
      have D := Lib.hid D1
      clear D1
      go_wp2_with fail
      refine (HU.out v2).mono ?_
      rintro _ v3 ⟨rfl, hb⟩
      have D1 := D.out.on hb
      clear D hb
      clear p0 q0 p1 q1
      have p0 := (D1.at_ 0 rfl).lo
      have q0 := (D1.at_ 0 rfl).hi
      have p1 := (D1.at_ 1 rfl).lo
      have q1 := (D1.at_ 1 rfl).hi
      have D2 := D1.new hx hy
      unfold boxO at D2
      have P0 := (D2.at_ 0 rfl).lo
      have Q0 := (D2.at_ 0 rfl).hi
      have P1 := (D2.at_ 1 rfl).lo
      have Q1 := (D2.at_ 1 rfl).hi
      have P2 := (D2.at_ 2 rfl).lo
      have Q2 := (D2.at_ 2 rfl).hi
      replace D2 := Lib.hid D2
      clear D1
      go_wp2_with fail
      have D := D2.out
      clear D2 p0 q0 p1 q1 P0 Q0 P1 Q1 P2 Q2
      generalize hg2 : v3.heap.size = g2 at *
      clear hg2
      generalize v3.alloc _ = w3 at *
      have p0 := (D.at_ 0 rfl).lo
      have q0 := (D.at_ 0 rfl).hi
      have p1 := (D.at_ 1 rfl).lo
      have q1 := (D.at_ 1 rfl).hi
      have p2 := (D.at_ 2 rfl).lo
      have q2 := (D.at_ 2 rfl).hi
      replace D := Lib.hid D
      refine (I1.out w3).mono ?_
      rintro _ v4 ⟨rfl, hb⟩
      have D1 := D.out.on hb
      clear D hb
      clear p0 q0 p1 q1 p2 q2
      have p0 := (D1.at_ 0 rfl).lo
      have q0 := (D1.at_ 0 rfl).hi
      have p1 := (D1.at_ 1 rfl).lo
      have q1 := (D1.at_ 1 rfl).hi
      have p2 := (D1.at_ 2 rfl).lo
      have q2 := (D1.at_ 2 rfl).hi
      have D := Lib.hid D1
      clear D1
      go_wp2_with fail
      refine (I2.out v4).mono ?_
      rintro _ v5 ⟨rfl, hb⟩
      have D1 := D.out.on hb
      clear D hb
      clear p0 q0 p1 q1 p2 q2
      have p0 := (D1.at_ 0 rfl).lo
      have q0 := (D1.at_ 0 rfl).hi
      have p1 := (D1.at_ 1 rfl).lo
      have q1 := (D1.at_ 1 rfl).hi
      have p2 := (D1.at_ 2 rfl).lo
      have q2 := (D1.at_ 2 rfl).hi
      have D := Lib.hid D1
      clear D1
      go_wp2_with fail
      refine (ME.out v5).mono ?_
      rintro _ v6 ⟨rfl, hb⟩
      have D1 := D.out.on hb
      clear D hb
      clear p0 q0 p1 q1 p2 q2
      have p0 := (D1.at_ 0 rfl).lo
      have q0 := (D1.at_ 0 rfl).hi
      have p1 := (D1.at_ 1 rfl).lo
      have q1 := (D1.at_ 1 rfl).hi
      have p2 := (D1.at_ 2 rfl).lo
      have q2 := (D1.at_ 2 rfl).hi
      have D2 := D1.new mx my
      unfold boxO at D2
      have P0 := (D2.at_ 0 rfl).lo
      have Q0 := (D2.at_ 0 rfl).hi
      have P1 := (D2.at_ 1 rfl).lo
      have Q1 := (D2.at_ 1 rfl).hi
      have P2 := (D2.at_ 2 rfl).lo
      have Q2 := (D2.at_ 2 rfl).hi
      have P3 := (D2.at_ 3 rfl).lo
      have Q3 := (D2.at_ 3 rfl).hi
      replace D2 := Lib.hid D2
      clear D1
      go_upto_region 9 with fail
      have D := D2.out
      clear D2 p0 q0 p1 q1 p2 q2 P0 Q0 P1 Q1 P2 Q2 P3 Q3
      generalize hg3 : v6.heap.size = g3 at *
      clear hg3
      generalize v6.alloc _ = w6 at *
      have p0 := (D.at_ 0 rfl).lo
      have q0 := (D.at_ 0 rfl).hi
      have p1 := (D.at_ 1 rfl).lo
      have q1 := (D.at_ 1 rfl).hi
      have p2 := (D.at_ 2 rfl).lo
      have q2 := (D.at_ 2 rfl).hi
      have p3 := (D.at_ 3 rfl).lo
      have q3 := (D.at_ 3 rfl).hi
      replace D := Lib.hid D
      go_cut [68] from 52 to 67 (fun t68 wx => t68 = .bool false ∧ Cls w [(w.heap.size, a0, b0), (w.heap.size + 1, a1, b1), (g2, hx, hy), (g3, mx, my)] wx)
      case first =>
        cases bb
        · clear hin hhas hsame t1 t2
          go_wp2_with fail
          go_meet
          exact ⟨rfl, D.out⟩
        · obtain ⟨rfl, rfl⟩ := hin.out rfl
          clear hin hhas hsame t1 t2
          go_wp2_with fail
          refine (I3.out w6).mono ?_
          rintro _ v7 ⟨rfl, hb⟩
          have D1 := D.out.on hb
          clear D hb
          clear p0 q0 p1 q1 p2 q2 p3 q3
          have p0 := (D1.at_ 0 rfl).lo
          have q0 := (D1.at_ 0 rfl).hi
          have p1 := (D1.at_ 1 rfl).lo
          have q1 := (D1.at_ 1 rfl).hi
          have p2 := (D1.at_ 2 rfl).lo
          have q2 := (D1.at_ 2 rfl).hi
          have p3 := (D1.at_ 3 rfl).lo
          have q3 := (D1.at_ 3 rfl).hi
          have D := Lib.hid D1
          clear D1
          go_wp2_with fail
          refine (I4.out v7).mono ?_
          rintro _ v8 ⟨rfl, hb⟩
          have D1 := D.out.on hb
          clear D hb
          clear p0 q0 p1 q1 p2 q2 p3 q3
          have p0 := (D1.at_ 0 rfl).lo
          have q0 := (D1.at_ 0 rfl).hi
          have p1 := (D1.at_ 1 rfl).lo
          have q1 := (D1.at_ 1 rfl).hi
          have p2 := (D1.at_ 2 rfl).lo
          have q2 := (D1.at_ 2 rfl).hi
          have p3 := (D1.at_ 3 rfl).lo
          have q3 := (D1.at_ 3 rfl).hi
          have D := Lib.hid D1
          clear D1
          go_wp2_with fail
          go_meet
          exact ⟨rfl, D.out⟩
      case rest =>
        obtain ⟨rfl, D1⟩ := hcut
        clear D
        clear p0 q0 p1 q1 p2 q2 p3 q3
        have p0 := (D1.at_ 0 rfl).lo
        have q0 := (D1.at_ 0 rfl).hi
        have p1 := (D1.at_ 1 rfl).lo
        have q1 := (D1.at_ 1 rfl).hi
        have p2 := (D1.at_ 2 rfl).lo
        have q2 := (D1.at_ 2 rfl).hi
        have p3 := (D1.at_ 3 rfl).lo
        have q3 := (D1.at_ 3 rfl).hi
        have D := Lib.hid D1
        clear D1 hin I1 I2 I3 I4 HU ME K0 K1 AW
        go_upto_region 11 with fail
        go_cut [83] from 69 to 82 (fun t83 wx => t83 = .bool false ∧ Cls w [(w.heap.size, a0, b0), (w.heap.size + 1, a1, b1), (g2, hx, hy), (g3, mx, my)] wx)
        case first =>
          have hh := hhas.out
          clear hhas hsame t1 t2 IA IB
          cases ca
          · have hm : (bb && cm) = false := by rw [← hh]; rfl
            clear hh
            go_wp2_with fail
            refine (H0.out wc).mono ?_
            rintro _ v9 ⟨rfl, hb⟩
            have D1 := D.out.on hb
            clear D hb
            clear p0 q0 p1 q1 p2 q2 p3 q3
            have p0 := (D1.at_ 0 rfl).lo
            have q0 := (D1.at_ 0 rfl).hi
            have p1 := (D1.at_ 1 rfl).lo
            have q1 := (D1.at_ 1 rfl).hi
            have p2 := (D1.at_ 2 rfl).lo
            have q2 := (D1.at_ 2 rfl).hi
            have p3 := (D1.at_ 3 rfl).lo
            have q3 := (D1.at_ 3 rfl).hi
            have D := Lib.hid D1
            clear D1
            cases bb
            · go_wp2_with fail
              go_meet
              exact ⟨rfl, D.out⟩
            · cases cm
              · go_wp2_with fail
                refine (H2.out v9).mono ?_
                rintro _ v10 ⟨rfl, hb⟩
                have D1 := D.out.on hb
                clear D hb
                clear p0 q0 p1 q1 p2 q2 p3 q3
                have p0 := (D1.at_ 0 rfl).lo
                have q0 := (D1.at_ 0 rfl).hi
                have p1 := (D1.at_ 1 rfl).lo
                have q1 := (D1.at_ 1 rfl).hi
                have p2 := (D1.at_ 2 rfl).lo
                have q2 := (D1.at_ 2 rfl).hi
                have p3 := (D1.at_ 3 rfl).lo
                have q3 := (D1.at_ 3 rfl).hi
                have D := Lib.hid D1
                clear D1
                go_wp2_with fail
                go_meet
                exact ⟨rfl, D.out⟩
              · exact absurd hm (by decide)
          · cases cb
            · have hm : (bb && cm) = false := by rw [← hh]; rfl
              clear hh
              go_wp2_with fail
              refine (H0.out wc).mono ?_
              rintro _ v9 ⟨rfl, hb⟩
              have D1 := D.out.on hb
              clear D hb
              clear p0 q0 p1 q1 p2 q2 p3 q3
              have p0 := (D1.at_ 0 rfl).lo
              have q0 := (D1.at_ 0 rfl).hi
              have p1 := (D1.at_ 1 rfl).lo
              have q1 := (D1.at_ 1 rfl).hi
              have p2 := (D1.at_ 2 rfl).lo
              have q2 := (D1.at_ 2 rfl).hi
              have p3 := (D1.at_ 3 rfl).lo
              have q3 := (D1.at_ 3 rfl).hi
              have D := Lib.hid D1
              clear D1
              go_wp2_with fail
              refine (H1.out v9).mono ?_
              rintro _ v10 ⟨rfl, hb⟩
              have D1 := D.out.on hb
              clear D hb
              clear p0 q0 p1 q1 p2 q2 p3 q3
              have p0 := (D1.at_ 0 rfl).lo
              have q0 := (D1.at_ 0 rfl).hi
              have p1 := (D1.at_ 1 rfl).lo
              have q1 := (D1.at_ 1 rfl).hi
              have p2 := (D1.at_ 2 rfl).lo
              have q2 := (D1.at_ 2 rfl).hi
              have p3 := (D1.at_ 3 rfl).lo
              have q3 := (D1.at_ 3 rfl).hi
              have D := Lib.hid D1
              clear D1
              cases bb
              · go_wp2_with fail
                go_meet
                exact ⟨rfl, D.out⟩
              · cases cm
                · go_wp2_with fail
                  refine (H2.out v10).mono ?_
                  rintro _ v11 ⟨rfl, hb⟩
                  have D1 := D.out.on hb
                  clear D hb
                  clear p0 q0 p1 q1 p2 q2 p3 q3
                  have p0 := (D1.at_ 0 rfl).lo
                  have q0 := (D1.at_ 0 rfl).hi
                  have p1 := (D1.at_ 1 rfl).lo
                  have q1 := (D1.at_ 1 rfl).hi
                  have p2 := (D1.at_ 2 rfl).lo
                  have q2 := (D1.at_ 2 rfl).hi
                  have p3 := (D1.at_ 3 rfl).lo
                  have q3 := (D1.at_ 3 rfl).hi
                  have D := Lib.hid D1
                  clear D1
                  go_wp2_with fail
                  go_meet
                  exact ⟨rfl, D.out⟩
                · exact absurd hm (by decide)
            · have hm : (bb && cm) = true := by rw [← hh]; rfl
              obtain rfl : bb = true := by
                cases bb with
                | false => simp at hm
                | true => rfl
              obtain rfl : cm = true := by
                cases cm with
                | false => simp at hm
                | true => rfl
              clear hh hm
              go_wp2_with fail
              refine (H0.out wc).mono ?_
              rintro _ v9 ⟨rfl, hb⟩
              have D1 := D.out.on hb
              clear D hb
              clear p0 q0 p1 q1 p2 q2 p3 q3
              have p0 := (D1.at_ 0 rfl).lo
              have q0 := (D1.at_ 0 rfl).hi
              have p1 := (D1.at_ 1 rfl).lo
              have q1 := (D1.at_ 1 rfl).hi
              have p2 := (D1.at_ 2 rfl).lo
              have q2 := (D1.at_ 2 rfl).hi
              have p3 := (D1.at_ 3 rfl).lo
              have q3 := (D1.at_ 3 rfl).hi
              have D := Lib.hid D1
              clear D1
              go_wp2_with fail
              refine (H1.out v9).mono ?_
              rintro _ v10 ⟨rfl, hb⟩
              have D1 := D.out.on hb
              clear D hb
              clear p0 q0 p1 q1 p2 q2 p3 q3
              have p0 := (D1.at_ 0 rfl).lo
              have q0 := (D1.at_ 0 rfl).hi
              have p1 := (D1.at_ 1 rfl).lo
              have q1 := (D1.at_ 1 rfl).hi
              have p2 := (D1.at_ 2 rfl).lo
              have q2 := (D1.at_ 2 rfl).hi
              have p3 := (D1.at_ 3 rfl).lo
              have q3 := (D1.at_ 3 rfl).hi
              have D := Lib.hid D1
              clear D1
              go_wp2_with fail
              refine (H2.out v10).mono ?_
              rintro _ v11 ⟨rfl, hb⟩
              have D1 := D.out.on hb
              clear D hb
              clear p0 q0 p1 q1 p2 q2 p3 q3
              have p0 := (D1.at_ 0 rfl).lo
              have q0 := (D1.at_ 0 rfl).hi
              have p1 := (D1.at_ 1 rfl).lo
              have q1 := (D1.at_ 1 rfl).hi
              have p2 := (D1.at_ 2 rfl).lo
              have q2 := (D1.at_ 2 rfl).hi
              have p3 := (D1.at_ 3 rfl).lo
              have q3 := (D1.at_ 3 rfl).hi
              have D := Lib.hid D1
              clear D1
              go_wp2_with fail
              go_meet
              exact ⟨rfl, D.out⟩
        case rest =>
          obtain ⟨rfl, D1⟩ := hcut
          clear D
          clear p0 q0 p1 q1 p2 q2 p3 q3
          have p0 := (D1.at_ 0 rfl).lo
          have q0 := (D1.at_ 0 rfl).hi
          have p1 := (D1.at_ 1 rfl).lo
          have q1 := (D1.at_ 1 rfl).hi
          have D := Lib.hid D1
          clear D1 H0 H1 H2 hhas
          have hs := hsame.out
          clear hsame
          go_upto_region 13 with fail
          generalize hds : ([some 84, some 85, some 86, some 87, some 88, some 89, some 90, some 91, some 92, some 93, some 94, some 95, some 96, some 97, some 98, some 99, some 100, some 101, some 102, some 103, some 104, some 6] : List (Option Tmp)) = ds
          have hap : apartL ds = true := by rw [← hds]; decide
          have hds := hds.symm
          have hC : ∀ W, Cls w [(w.heap.size, a0, b0), (w.heap.size + 1, a1, b1), (g2, hx, hy), (g3, mx, my)] W → W.cell? ⟨w.heap.size, 0, none⟩ = some (.float .f64 a0) ∧ W.cell? ⟨w.heap.size, 1, none⟩ = some (.float .f64 b0) ∧ W.cell? ⟨w.heap.size + 1, 0, none⟩ = some (.float .f64 a1) ∧ W.cell? ⟨w.heap.size + 1, 1, none⟩ = some (.float .f64 b1) :=
            fun W C => ⟨(C.at_ 0 rfl).lo, (C.at_ 0 rfl).hi, (C.at_ 1 rfl).lo, (C.at_ 1 rfl).hi⟩
          refine wp_region_det (by kernel_rfl) ds (by rw [hds]; rfl) hap (by decide +kernel) [spanV a0 b0,
            spanV a1 b1,
            .bool ia,
            .bool ia,
            if ia then spanV a1 b1 else undef,
            if ia then spanV a0 b0 else undef,
            if ia then .bool ib else undef,
            .bool (ia && ib),
            .pointer (some ⟨w.heap.size, 0, none⟩),
            .float .f64 a0,
            .pointer (some ⟨w.heap.size + 1, 0, none⟩),
            .float .f64 a1,
            .bool ja,
            .bool ja,
            if ja then .pointer (some ⟨w.heap.size, 1, none⟩) else undef,
            if ja then .float .f64 b0 else undef,
            if ja then .pointer (some ⟨w.heap.size + 1, 1, none⟩) else undef,
            if ja then .float .f64 b1 else undef,
            if ja then .bool jb else undef,
            .bool (ja && jb),
            .bool true,
            .bool true] rfl (fun W => Cls w [(w.heap.size, a0, b0), (w.heap.size + 1, a1, b1), (g2, hx, hy), (g3, mx, my)] W) D.out.draws ?step ?fin
          case step =>
            intro L W i o ho hd hS
            have hi : i < 22 := (Array.getElem?_eq_some_iff.1 ho).1
            have : i = 0 ∨ i = 1 ∨ i = 2 ∨ i = 3 ∨ i = 4 ∨ i = 5 ∨ i = 6 ∨ i = 7 ∨ i = 8 ∨ i = 9 ∨ i = 10 ∨ i = 11 ∨ i = 12 ∨ i = 13 ∨ i = 14 ∨ i = 15 ∨ i = 16 ∨ i = 17 ∨ i = 18 ∨ i = 19 ∨ i = 20 ∨ i = 21 := by omega
            rcases this with rfl | rfl | rfl | rfl | rfl | rfl | rfl | rfl | rfl | rfl | rfl | rfl | rfl | rfl | rfl | rfl | rfl | rfl | rfl | rfl | rfl | rfl
            · -- 0
              obtain rfl := Option.some.inj ho
              exact .value rfl W (ex_loads rfl (puts_old ds L _ (by rw [hds]; decide)) (hC W hS).1 (hC W hS).2.1) hS
            · -- 1
              obtain rfl := Option.some.inj ho
              exact .value rfl W (ex_loads rfl (puts_old ds L _ (by rw [hds]; decide)) (hC W hS).2.2.1 (hC W hS).2.2.2) hS
            · -- 2
              obtain rfl := Option.some.inj ho
              exact .call rfl _ _ (ex_calls W rfl rfl (puts_get 0 ds L _ hap (by rw [hds]; rfl) (hd 0 rfl) (show 84 < 105 by decide)) (puts_get 1 ds L _ hap (by rw [hds]; rfl) (hd 1 rfl) (show 85 < 105 by decide)) (cf_ins _ _ W)) ((IA.out W).mono fun e W' ⟨he, hB⟩ => ⟨he, hS.on hB⟩)
            · -- 3
              obtain rfl := Option.some.inj ho
              exact .value rfl W (ex_move W rfl (puts_get 2 ds L _ hap (by rw [hds]; rfl) (hd 2 rfl) (show 86 < 105 by decide))) hS
            · -- 4
              obtain rfl := Option.some.inj ho
              refine Comes.guarded (j := 3) (t := 87) (want := true) (b := ia) (by rw [hds]; rfl) hap rfl (by rw [hds]; rfl) (hd 3 rfl) (show 87 < 105 by decide) ?_ ?_
              · intro e hw
                subst e
                exact .value hw W (ex_loads rfl (puts_old ds L _ (by rw [hds]; decide)) (hC W hS).2.2.1 (hC W hS).2.2.2) hS
              · intro e
                have e : ia = false := by simpa using e
                subst e
                rfl
            · -- 5
              obtain rfl := Option.some.inj ho
              refine Comes.guarded (j := 3) (t := 87) (want := true) (b := ia) (by rw [hds]; rfl) hap rfl (by rw [hds]; rfl) (hd 3 rfl) (show 87 < 105 by decide) ?_ ?_
              · intro e hw
                subst e
                exact .value hw W (ex_loads rfl (puts_old ds L _ (by rw [hds]; decide)) (hC W hS).1 (hC W hS).2.1) hS
              · intro e
                have e : ia = false := by simpa using e
                subst e
                rfl
            · -- 6
              obtain rfl := Option.some.inj ho
              refine Comes.guarded (j := 3) (t := 87) (want := true) (b := ia) (by rw [hds]; rfl) hap rfl (by rw [hds]; rfl) (hd 3 rfl) (show 87 < 105 by decide) ?_ ?_
              · intro e hw
                subst e
                exact .call hw _ _ (ex_calls W rfl rfl (puts_get 4 ds L _ hap (by rw [hds]; rfl) (hd 4 rfl) (show 88 < 105 by decide)) (puts_get 5 ds L _ hap (by rw [hds]; rfl) (hd 5 rfl) (show 89 < 105 by decide)) (cf_ins _ _ W)) ((IB.out W).mono fun e W' ⟨he, hB⟩ => ⟨he, hS.on hB⟩)
              · intro e
                have e : ia = false := by simpa using e
                subst e
                rfl
            · -- 7
              obtain rfl := Option.some.inj ho
              cases ia
              · exact .value rfl W (ex_pick W rfl (puts_get 3 ds L _ hap (by rw [hds]; rfl) (hd 3 rfl) (show 87 < 105 by decide)) rfl) hS
              · exact .value rfl W (ex_pick W rfl (puts_get 3 ds L _ hap (by rw [hds]; rfl) (hd 3 rfl) (show 87 < 105 by decide)) (puts_get 6 ds L _ hap (by rw [hds]; rfl) (hd 6 rfl) (show 90 < 105 by decide))) hS
            · -- 8
              obtain rfl := Option.some.inj ho
              exact .value rfl W (ex_fa0 W rfl (puts_old ds L _ (by rw [hds]; decide))) hS
            · -- 9
              obtain rfl := Option.some.inj ho
              exact .value rfl W (ex_load rfl (puts_get 8 ds L _ hap (by rw [hds]; rfl) (hd 8 rfl) (show 92 < 105 by decide)) (hC W hS).1) hS
            · -- 10
              obtain rfl := Option.some.inj ho
              exact .value rfl W (ex_fa0 W rfl (puts_old ds L _ (by rw [hds]; decide))) hS
            · -- 11
              obtain rfl := Option.some.inj ho
              exact .value rfl W (ex_load rfl (puts_get 10 ds L _ hap (by rw [hds]; rfl) (hd 10 rfl) (show 94 < 105 by decide)) (hC W hS).2.2.1) hS
            · -- 12
              obtain rfl := Option.some.inj ho
              exact .value rfl W (ex_feq W rfl (puts_get 9 ds L _ hap (by rw [hds]; rfl) (hd 9 rfl) (show 93 < 105 by decide)) (puts_get 11 ds L _ hap (by rw [hds]; rfl) (hd 11 rfl) (show 95 < 105 by decide)) t1) hS
            · -- 13
              obtain rfl := Option.some.inj ho
              exact .value rfl W (ex_move W rfl (puts_get 12 ds L _ hap (by rw [hds]; rfl) (hd 12 rfl) (show 96 < 105 by decide))) hS
            · -- 14
              obtain rfl := Option.some.inj ho
              refine Comes.guarded (j := 13) (t := 97) (want := true) (b := ja) (by rw [hds]; rfl) hap rfl (by rw [hds]; rfl) (hd 13 rfl) (show 97 < 105 by decide) ?_ ?_
              · intro e hw
                subst e
                exact .value hw W (ex_fa1 W rfl (puts_old ds L _ (by rw [hds]; decide))) hS
              · intro e
                have e : ja = false := by simpa using e
                subst e
                rfl
            · -- 15
              obtain rfl := Option.some.inj ho
              refine Comes.guarded (j := 13) (t := 97) (want := true) (b := ja) (by rw [hds]; rfl) hap rfl (by rw [hds]; rfl) (hd 13 rfl) (show 97 < 105 by decide) ?_ ?_
              · intro e hw
                subst e
                exact .value hw W (ex_load rfl (puts_get 14 ds L _ hap (by rw [hds]; rfl) (hd 14 rfl) (show 98 < 105 by decide)) (hC W hS).2.1) hS
              · intro e
                have e : ja = false := by simpa using e
                subst e
                rfl
            · -- 16
              obtain rfl := Option.some.inj ho
              refine Comes.guarded (j := 13) (t := 97) (want := true) (b := ja) (by rw [hds]; rfl) hap rfl (by rw [hds]; rfl) (hd 13 rfl) (show 97 < 105 by decide) ?_ ?_
              · intro e hw
                subst e
                exact .value hw W (ex_fa1 W rfl (puts_old ds L _ (by rw [hds]; decide))) hS
              · intro e
                have e : ja = false := by simpa using e
                subst e
                rfl
            · -- 17
              obtain rfl := Option.some.inj ho
              refine Comes.guarded (j := 13) (t := 97) (want := true) (b := ja) (by rw [hds]; rfl) hap rfl (by rw [hds]; rfl) (hd 13 rfl) (show 97 < 105 by decide) ?_ ?_
              · intro e hw
                subst e
                exact .value hw W (ex_load rfl (puts_get 16 ds L _ hap (by rw [hds]; rfl) (hd 16 rfl) (show 100 < 105 by decide)) (hC W hS).2.2.2) hS
              · intro e
                have e : ja = false := by simpa using e
                subst e
                rfl
            · -- 18
              obtain rfl := Option.some.inj ho
              refine Comes.guarded (j := 13) (t := 97) (want := true) (b := ja) (by rw [hds]; rfl) hap rfl (by rw [hds]; rfl) (hd 13 rfl) (show 97 < 105 by decide) ?_ ?_
              · intro e hw
                subst e
                exact .value hw W (ex_feq W rfl (puts_get 15 ds L _ hap (by rw [hds]; rfl) (hd 15 rfl) (show 99 < 105 by decide)) (puts_get 17 ds L _ hap (by rw [hds]; rfl) (hd 17 rfl) (show 101 < 105 by decide)) t2) hS
              · intro e
                have e : ja = false := by simpa using e
                subst e
                rfl
            · -- 19
              obtain rfl := Option.some.inj ho
              cases ja
              · exact .value rfl W (ex_pick W rfl (puts_get 13 ds L _ hap (by rw [hds]; rfl) (hd 13 rfl) (show 97 < 105 by decide)) rfl) hS
              · exact .value rfl W (ex_pick W rfl (puts_get 13 ds L _ hap (by rw [hds]; rfl) (hd 13 rfl) (show 97 < 105 by decide)) (puts_get 18 ds L _ hap (by rw [hds]; rfl) (hd 18 rfl) (show 102 < 105 by decide))) hS
            · -- 20
              obtain rfl := Option.some.inj ho
              exact .value rfl W (ex_beq W rfl (puts_get 7 ds L _ hap (by rw [hds]; rfl) (hd 7 rfl) (show 91 < 105 by decide)) (puts_get 19 ds L _ hap (by rw [hds]; rfl) (hd 19 rfl) (show 103 < 105 by decide)) (by rw [hs]; simp)) hS
            · -- 21
              obtain rfl := Option.some.inj ho
              exact .value rfl W (ex_assign W rfl (puts_get 20 ds L _ hap (by rw [hds]; rfl) (hd 20 rfl) (show 104 < 105 by decide))) hS
          case fin =>
            intro W hS
            rw [hds]
            have B := Lib.hid hS.old
            clear hS hC D IA IB p0 q0 p1 q1
            simp only [List.map_cons, List.map_nil, puts, Act.put, List.setIfInBounds_toArray, List.set_cons_zero, List.set_cons_succ]
            go_step
            go_step
            go_wp2_with fail
            all_goals
              go_ret
              exact ⟨rfl, B.out⟩
    · rw [ins_err (Or.inr e1)] at IA
      have t : (errS a1 b1 != 0) = true := by simpa using e1
      rw [e0] at K0
      clear e0 e1 ha0 hb0 ha1 hb1 h2
      generalize errS a1 b1 = er at *
      unfold spanV at *
      replace C0 := Lib.hid C0
      go_enter Try.func9, Try.ntmps9
      go_wp2_with fail
      have C := C0.out
      clear C0
      generalize (w.alloc _).alloc _ = wr at *
      refine (AW.out wr).mono ?_
      rintro _ v0 ⟨rfl, hb⟩
      have D1 := C.on hb
      clear C hb wr
      have p0 := (D1.at_ 0 rfl).lo
      have q0 := (D1.at_ 0 rfl).hi
      have p1 := (D1.at_ 1 rfl).lo
      have q1 := (D1.at_ 1 rfl).hi
      have D := Lib.hid D1
      clear D1
      go_wp2_with fail
      refine (K0.out v0).mono ?_
      rintro _ v1 ⟨rfl, hb⟩
      have D1 := D.out.on hb
      clear D hb
      clear p0 q0 p1 q1
      have p0 := (D1.at_ 0 rfl).lo
      have q0 := (D1.at_ 0 rfl).hi
      have p1 := (D1.at_ 1 rfl).lo
      have q1 := (D1.at_ 1 rfl).hi
      have D := Lib.hid D1
      clear D1
      go_wp2_with fail
      refine (K1.out v1).mono ?_
      rintro _ v2 ⟨rfl, hb⟩
      have D1 := D.out.on hb
      clear D hb
      clear p0 q0 p1 q1
      have p0 := (D1.at_ 0 rfl).lo
      have q0 := (D1.at_ 0 rfl).hi
      have p1 := (D1.at_ 1 rfl).lo
      have q1 := (D1.at_ 1 rfl).hi
      have D := Lib.hid D1
      clear D1
      go_wp2_with fail
      refine (IA.out v2).mono ?_
      rintro _ v3 ⟨rfl, hb⟩
      have B := Lib.hid (D.out.on hb).old
      clear D hb
      go_wp2_with fail
      go_ret
      exact ⟨rfl, B.out⟩
  · rw [ins_err (Or.inl e0)] at IA
    have t : (errS a0 b0 != 0) = true := by simpa using e0
    clear e0 ha0 hb0 ha1 hb1 h2 K1
    generalize errS a0 b0 = er at *
    unfold spanV at *
    replace C0 := Lib.hid C0
    go_enter Try.func9, Try.ntmps9
    go_wp2_with fail
    have C := C0.out
    clear C0
    generalize (w.alloc _).alloc _ = wr at *
    refine (AW.out wr).mono ?_
    rintro _ v0 ⟨rfl, hb⟩
    have D1 := C.on hb
    clear C hb wr
    have p0 := (D1.at_ 0 rfl).lo
    have q0 := (D1.at_ 0 rfl).hi
    have p1 := (D1.at_ 1 rfl).lo
    have q1 := (D1.at_ 1 rfl).hi
    have D := Lib.hid D1
    clear D1
    go_wp2_with fail
    refine (K0.out v0).mono ?_
    rintro _ v1 ⟨rfl, hb⟩
    have D1 := D.out.on hb
    clear D hb
    clear p0 q0 p1 q1
    have p0 := (D1.at_ 0 rfl).lo
    have q0 := (D1.at_ 0 rfl).hi
    have p1 := (D1.at_ 1 rfl).lo
    have q1 := (D1.at_ 1 rfl).hi
    have D := Lib.hid D1
    clear D1
    go_wp2_with fail
    refine (IA.out v1).mono ?_
    rintro _ v3 ⟨rfl, hb⟩
    have B := Lib.hid (D.out.on hb).old
    clear D hb
    go_wp2_with fail
    go_ret
    exact ⟨rfl, B.out⟩

theorem own : ownKnob Try.prog.godebug = none := by kernel_rfl
theorem laidOut : laidOutB Try.prog = true := by kernel_rfl
theorem cellsF : Try.prog.cellsOf 22 = 1 := by kernel_rfl
theorem bytesF : Try.prog.bytesOf 22 = 8 := by kernel_rfl
theorem wf64 {b : Nat} (h : (Lit.float .f64 b).wf = true) : b < 18446744073709551616 := by
  simp only [Lit.wf, decide_eq_true_eq] at h; exact h

set_option maxRecDepth 100000 in
theorem lifted (os : Os) (started : os.Started) (H : Type) (enc : TypeId × Value → H) :
    ReturnsInHanded {} Try.checked os 9 .any (Rows.spanSetsSpec.pre6 enc Try.prog Try.f9 Rows.spanSetsRow.domain false) (Rows.spanSetsSpec.post enc Try.prog Try.f9 false true false false) := by
  refine returnsInHanded_of_change_sized (C := Try.checked) own started (by kernel_rfl) Try.func9
    (ChangeSpec.witness6 (enc := enc) (C := Try.checked) false ⟨#[], #[.agg #[.float .f64 0, .float .f64 0], .agg #[.float .f64 0, .float .f64 0], .float .f64 0], []⟩ 8 (by kernel_rfl) (by kernel_rfl) (by kernel_rfl) (by kernel_rfl)) ?_
  intro W base args ds gs before hval0 hW _ hsz0 _
  have hsz : (DataW.weightsEach Try.prog (Try.f9.params.toList ++ Rows.spanSetsSpec.plain.varTypes Try.prog) (ds ++ gs)).all (· ≤ reachBytes) = true := hsz0
  clear hsz0
  have hval : ∀ (j : Nat) t v, Try.f9.params[j]? = some t → args[j]? = some v → Value.okWide Try.prog W .any base t v := hval0
  have hW' := hW
  obtain ⟨p, q, hA0, hV, rfl, _, _⟩ := hW
  have hA : DataW.TrodAll enc Try.prog W 0 (fun _ => true) true Try.f9.params.toList args.toList ds p := hA0
  rw [Try.params9] at hA hval hsz
  obtain ⟨v0, vs0, d0, ds0, p0, q0, hargs, rfl, rfl, t0, r0⟩ := trodAll_cons hA
  obtain ⟨v1, vs1, d1, ds1, p1, q1, rfl, rfl, rfl, t1, r1⟩ := trodAll_cons r0
  obtain ⟨v2, vs2, d2, ds2, p2, q2, rfl, rfl, rfl, t2, r2⟩ := trodAll_cons r1
  obtain ⟨rfl, rfl, rfl⟩ := trodAll_nil r2
  obtain rfl : args = #[v0, v1, v2] := by cases args; simp_all
  obtain ⟨rfl, rfl⟩ := trodVars_none hV
  simp only [List.append_nil] at hW'
  have tk0 := t0
  obtain ⟨a0, b0, rfl, wa0, wb0⟩ := open_span (hval 0 24 v0 rfl rfl) t0
  have hlt0 : ∀ x ∈ p0, x.block < W.heap.size := fun x hx => by have := hW'.lt x (by simp [hx]); simpa using this
  have tk1 := t1
  obtain ⟨a1, b1, rfl, wa1, wb1⟩ := open_span (hval 1 24 v1 rfl rfl) t1
  have hlt1 : ∀ x ∈ p1, x.block < W.heap.size := fun x hx => by have := hW'.lt x (by simp [hx]); simpa using this
  obtain ⟨a2, rfl, rfl, rfl, w2⟩ := open_float Try.underlying22 (hval 2 22 v2 rfl rfl) t2
  clear hA0 hval0
  refine (walk W a0 b0 wa0 wb0 a1 b1 wa1 wb1 a2 (wf64 w2)).mono fun e W' ⟨he, hb⟩ => ?_
  subst he
  refine ⟨_, rfl, _, _, _, [], _, [], hW', trodAll_cons_mk (shut_bool Try.underlying4 _) trodAll_mk0, (trodAll_cons_mk (Below.trod laidOut (by kernel_rfl) (of_decide_eq_true (by kernel_rfl)) tk0 hb hlt0) (trodAll_cons_mk (Below.trod laidOut (by kernel_rfl) (of_decide_eq_true (by kernel_rfl)) tk1 hb hlt1) (trodAll_cons_mk (shut_float Try.underlying22 w2) trodAll_mk0))), rfl, hb.frame _, fun h => by cases h⟩

theorem over : Rows.spanSetsRow.holds Try.pinned (OpenSpec.ofChange Rows.spanSetsSpec) :=
  OpenClaim.holds_of_wide 9 Try.f9 rfl rfl rfl rfl rfl rfl rfl ⟨rfl, rfl, rfl, rfl, rfl⟩ rfl rfl rfl rfl rfl (by kernel_rfl) Try.func9 (by kernel_rfl)
    (of_decide_eq_true (by kernel_rfl)) (by unfold Func.isWrapper; first | (rw [if_pos (by decide +kernel)]; kernel_rfl) | (rw [if_neg (by decide +kernel)]; exact ⟨rfl, rfl⟩))
    (fun os started H enc _ => lifted os started H enc)

theorem proved : Rows.SpanSetsSaid :=
  over
end Go.Proofs.Ytkfagpahbojigaa.spanSets
