/- Proved here: what the texts Oby prove, one behind the other. -/
import Derived.Test.YtdfcchocabapkaaGreatJq9

set_option maxHeartbeats 4000000
set_option maxRecDepth 100000
namespace Go.Proofs.YtdfcchocabapkaaGreat
open Go.ChangeShapes Go.WideShapes Go.ChangeAt Go.RowKit Ieee.Own Pol Fma

theorem otbox_shape {ax ec ti no pe ph ra x1 x2 x3 x4 x5 x6 y1 y2 y3 y4 y5 y6 z1 z2 z3 z4 z5 z6 l1 l2 l3 l4 l5 l6 a1 a2 b1 b2 c1 c2 : Nat} (CP0 : Hid (∀ w, Calls Tryz.prog 28 #[.float .f64 pe] w fun e w' => e = .returned (.agg #[.float .f64 a1, .float .f64 a2]) ∧ Below w.heap.size w w')) (CT0 : Hid (∀ w, Calls Tryz.prog 75 #[.int .i64 2, .agg #[.float .f64 a1, .float .f64 a2], .agg #[.float .f64 x1, .float .f64 x2, .float .f64 x3, .float .f64 x4, .float .f64 x5, .float .f64 x6]] w fun e w' => e = .returned (.tuple #[.agg #[.float .f64 y1, .float .f64 y2, .float .f64 y3, .float .f64 y4, .float .f64 y5, .float .f64 y6], .int .i64 0]) ∧ Below w.heap.size w w')) (CP1 : Hid (∀ w, Calls Tryz.prog 28 #[.float .f64 ti] w fun e w' => e = .returned (.agg #[.float .f64 b1, .float .f64 b2]) ∧ Below w.heap.size w w')) (CT1 : Hid (∀ w, Calls Tryz.prog 75 #[.int .i64 0, .agg #[.float .f64 b1, .float .f64 b2], .agg #[.float .f64 y1, .float .f64 y2, .float .f64 y3, .float .f64 y4, .float .f64 y5, .float .f64 y6]] w fun e w' => e = .returned (.tuple #[.agg #[.float .f64 z1, .float .f64 z2, .float .f64 z3, .float .f64 z4, .float .f64 z5, .float .f64 z6], .int .i64 0]) ∧ Below w.heap.size w w')) (CP2 : Hid (∀ w, Calls Tryz.prog 28 #[.float .f64 no] w fun e w' => e = .returned (.agg #[.float .f64 c1, .float .f64 c2]) ∧ Below w.heap.size w w')) (CT2 : Hid (∀ w, Calls Tryz.prog 75 #[.int .i64 2, .agg #[.float .f64 c1, .float .f64 c2], .agg #[.float .f64 z1, .float .f64 z2, .float .f64 z3, .float .f64 z4, .float .f64 z5, .float .f64 z6]] w fun e w' => e = .returned (.tuple #[.agg #[.float .f64 l1, .float .f64 l2, .float .f64 l3, .float .f64 l4, .float .f64 l5, .float .f64 l6], .int .i64 0]) ∧ Below w.heap.size w w')) (w : World) : Calls Tryz.prog 32 #[.agg #[.float .f64 ax, .float .f64 ec, .float .f64 ti, .float .f64 no, .float .f64 pe, .float .f64 ph, .float .f64 ra], .agg #[.float .f64 x1, .float .f64 x2, .float .f64 x3, .float .f64 x4, .float .f64 x5, .float .f64 x6]] w fun e w' => e = .returned (.tuple #[.agg #[.float .f64 l1, .float .f64 l2, .float .f64 l3, .float .f64 l4, .float .f64 l5, .float .f64 l6], .int .i64 0]) ∧ Below w.heap.size w w' := by
 have CN := Lib.hid (fun w => oturnings_run (ax := ax) (ec := ec) (ti := ti) (no := no) (pe := pe) (ph := ph) (ra := ra) w)
 have i0 := ix0 pe ti no
 have i1 := ix1 pe ti no
 have i2 := ix2 pe ti no
 have K0 := kv3 w 24 33 33 [.float .f64 ax, .float .f64 ec, .float .f64 ti, .float .f64 no, .float .f64 pe, .float .f64 ph, .float .f64 ra] [.float .f64 x1, .float .f64 x2, .float .f64 x3, .float .f64 x4, .float .f64 x5, .float .f64 x6] [.float .f64 0, .float .f64 0, .float .f64 0, .float .f64 0, .float .f64 0, .float .f64 0]
 simp only [objV] at K0
 have hst := @fstore
 replace K0 := Lib.hid K0
 go_enter Tryz.func32, Tryz.ntmps32
 go_wp2_with fail
 have K := K0.out
 clear K0
 generalize ((w.alloc _).alloc _).alloc _ = wr at *
 refine (CN.out wr).mono ?_
 rintro _ v1 ⟨rfl, hb⟩
 replace K := K.on hb
 clear hb
 replace K := Lib.hid K
 go_wp2_with fail
 replace K := K.out
 go_loopw [11] (fun iv wr => ∃ (i : Int) (p1 p2 p3 p4 p5 p6 : Nat), iv = .int .i64 i ∧ ((i = 0 ∧ (((x1, x2), (x3, x4), (x5, x6)) : B6) = ((p1, p2), (p3, p4), (p5, p6))) ∨ (i = 1 ∧ (((y1, y2), (y3, y4), (y5, y6)) : B6) = ((p1, p2), (p3, p4), (p5, p6))) ∨ (i = 2 ∧ (((z1, z2), (z3, z4), (z5, z6)) : B6) = ((p1, p2), (p3, p4), (p5, p6))) ∨ (i = 3 ∧ (((l1, l2), (l3, l4), (l5, l6)) : B6) = ((p1, p2), (p3, p4), (p5, p6)))) ∧ Kv w [some (w.heap.size, [.float .f64 ax, .float .f64 ec, .float .f64 ti, .float .f64 no, .float .f64 pe, .float .f64 ph, .float .f64 ra]), some (w.heap.size + 1, [.float .f64 p1, .float .f64 p2, .float .f64 p3, .float .f64 p4, .float .f64 p5, .float .f64 p6]), some (w.heap.size + 1 + 1, [.float .f64 0, .float .f64 0, .float .f64 0, .float .f64 0, .float .f64 0, .float .f64 0])] wr) (fun iv _ => (3 - intOf iv).toNat)
 case atStart => exact ⟨0, x1, x2, x3, x4, x5, x6, rfl, .inl ⟨rfl, rfl⟩, K⟩
 case round =>
  obtain ⟨i, p1, p2, p3, p4, p5, p6, rfl, hi, K⟩ := hrel
  have gen : (i = 3 ∧ (((l1, l2), (l3, l4), (l5, l6)) : B6) = ((p1, p2), (p3, p4), (p5, p6))) ∨ (0 ≤ i ∧ i < 3 ∧ ∃ (a : Int) (x e1 e2 n1 n2 n3 n4 n5 n6 : Nat), (∀ w, (Instr.index 87 (.agg #[.int .i64 2, .float .f64 pe, .int .i64 0, .float .f64 ti, .int .i64 2, .float .f64 no]) (.int .i64 i)).run Tryz.prog w = .ok (.agg #[.int .i64 a, .float .f64 x]) w) ∧ (∀ w, Calls Tryz.prog 28 #[.float .f64 x] w fun e w' => e = .returned (.agg #[.float .f64 e1, .float .f64 e2]) ∧ Below w.heap.size w w') ∧ (∀ w, Calls Tryz.prog 75 #[.int .i64 a, .agg #[.float .f64 e1, .float .f64 e2], .agg #[.float .f64 p1, .float .f64 p2, .float .f64 p3, .float .f64 p4, .float .f64 p5, .float .f64 p6]] w fun e w' => e = .returned (.tuple #[.agg #[.float .f64 n1, .float .f64 n2, .float .f64 n3, .float .f64 n4, .float .f64 n5, .float .f64 n6], .int .i64 0]) ∧ Below w.heap.size w w') ∧ ((i + 1 = 0 ∧ (((x1, x2), (x3, x4), (x5, x6)) : B6) = ((n1, n2), (n3, n4), (n5, n6))) ∨ (i + 1 = 1 ∧ (((y1, y2), (y3, y4), (y5, y6)) : B6) = ((n1, n2), (n3, n4), (n5, n6))) ∨ (i + 1 = 2 ∧ (((z1, z2), (z3, z4), (z5, z6)) : B6) = ((n1, n2), (n3, n4), (n5, n6))) ∨ (i + 1 = 3 ∧ (((l1, l2), (l3, l4), (l5, l6)) : B6) = ((n1, n2), (n3, n4), (n5, n6))))) := by
   rcases hi with ⟨rfl, hp⟩ | ⟨rfl, hp⟩ | ⟨rfl, hp⟩ | ⟨rfl, hp⟩
   · simp only [Prod.mk.injEq] at hp
     obtain ⟨⟨rfl, rfl⟩, ⟨rfl, rfl⟩, rfl, rfl⟩ := hp
     exact .inr ⟨by decide, by decide, _, _, _, _, _, _, _, _, _, _, i0, CP0.out, CT0.out, .inr (.inl ⟨by decide, rfl⟩)⟩
   · simp only [Prod.mk.injEq] at hp
     obtain ⟨⟨rfl, rfl⟩, ⟨rfl, rfl⟩, rfl, rfl⟩ := hp
     exact .inr ⟨by decide, by decide, _, _, _, _, _, _, _, _, _, _, i1, CP1.out, CT1.out, .inr (.inr (.inl ⟨by decide, rfl⟩))⟩
   · simp only [Prod.mk.injEq] at hp
     obtain ⟨⟨rfl, rfl⟩, ⟨rfl, rfl⟩, rfl, rfl⟩ := hp
     exact .inr ⟨by decide, by decide, _, _, _, _, _, _, _, _, _, _, i2, CP2.out, CT2.out, .inr (.inr (.inr (⟨by decide, rfl⟩)))⟩
   · exact .inl ⟨rfl, hp⟩
  clear hi CP0 CP1 CP2 CT0 CT1 CT2 i0 i1 i2
  rcases gen with ⟨rfl, hp⟩ | ⟨h0, h3, a, x, e1, e2, n1, n2, n3, n4, n5, n6, ix, CPg, CTg, nx⟩
  · simp only [Prod.mk.injEq] at hp
    obtain ⟨⟨rfl, rfl⟩, ⟨rfl, rfl⟩, rfl, rfl⟩ := hp
    have c1_0 := K.ce 1 0 rfl rfl
    have c1_1 := K.ce 1 1 rfl rfl
    have c1_2 := K.ce 1 2 rfl rfl
    have c1_3 := K.ce 1 3 rfl rfl
    have c1_4 := K.ce 1 4 rfl rfl
    have c1_5 := K.ce 1 5 rfl rfl
    have c2_0 := K.ce 2 0 rfl rfl
    have f2_0 := K.fe 2 0 rfl rfl
    have c2_1 := K.ce 2 1 rfl rfl
    have f2_1 := K.fe 2 1 rfl rfl
    have c2_2 := K.ce 2 2 rfl rfl
    have f2_2 := K.fe 2 2 rfl rfl
    have c2_3 := K.ce 2 3 rfl rfl
    have f2_3 := K.fe 2 3 rfl rfl
    have c2_4 := K.ce 2 4 rfl rfl
    have f2_4 := K.fe 2 4 rfl rfl
    have c2_5 := K.ce 2 5 rfl rfl
    have f2_5 := K.fe 2 5 rfl rfl
    replace K := Lib.hid K
    go_wp2_with fail
    replace K := K.out
    (try simp only [Exit.inBlock, Exit.then])
    refine bodyPost_ret (v := .tuple #[.agg #[.float .f64 l1, .float .f64 l2, .float .f64 l3, .float .f64 l4, .float .f64 l5, .float .f64 l6], .int .i64 0]) ?_ rfl ⟨rfl, ?_⟩
    · rw [results_cell_tmp rfl]; go_simp
    · exact ((((((K.old).setCell (by first | exact Nat.le_refl _ | omega | (dsimp only; omega)) _).setCell (by first | exact Nat.le_refl _ | omega | (dsimp only; omega)) _).setCell (by first | exact Nat.le_refl _ | omega | (dsimp only; omega)) _).setCell (by first | exact Nat.le_refl _ | omega | (dsimp only; omega)) _).setCell (by first | exact Nat.le_refl _ | omega | (dsimp only; omega)) _).setCell (by first | exact Nat.le_refl _ | omega | (dsimp only; omega)) _
  · replace CPg := Lib.hid CPg
    replace CTg := Lib.hid CTg
    replace nx := Lib.hid nx
    replace K := K.new 86 [.int .i64 a, .float .f64 x]
    simp only [objV, List.cons_append, List.nil_append] at K
    replace K := Lib.hid K
    go_upto_region 5 with fail
    replace K := K.out
    generalize wr.alloc _ = u0 at *
    generalize wr.heap.size = g0 at *
    generalize hds : ([some 15, some 16, some 17, some 18, some 19, some 20, some 21, some 14, some 22, some 23, none, some 8] : List (Option Tmp)) = ds
    have hap : apartL ds = true := by rw [← hds]; decide
    replace hds := hds.symm
    refine wp_region_kv (fun hf => [some (w.heap.size, [.float .f64 ax, .float .f64 ec, .float .f64 ti, .float .f64 no, .float .f64 pe, .float .f64 ph, .float .f64 ra]), some (w.heap.size + 1, [.float .f64 n1, .float .f64 n2, .float .f64 n3, .float .f64 n4, .float .f64 n5, .float .f64 n6]), some (w.heap.size + 1 + 1, [.float .f64 0, .float .f64 0, .float .f64 0, .float .f64 0, .float .f64 0, .float .f64 0]), some (g0, [.int .i64 a, .float .f64 x])]) (fun hf => [some (.pointer (some ⟨g0, 0, none⟩)), some (.int .i64 a), some (.pointer (some ⟨g0, 1, none⟩)), some (.float .f64 x), some (.agg #[.float .f64 e1, .float .f64 e2]), some (.agg #[.float .f64 p1, .float .f64 p2, .float .f64 p3, .float .f64 p4, .float .f64 p5, .float .f64 p6]), some (.tuple #[.agg #[.float .f64 n1, .float .f64 n2, .float .f64 n3, .float .f64 n4, .float .f64 n5, .float .f64 n6], .int .i64 0]), some (.tuple #[.agg #[.float .f64 n1, .float .f64 n2, .float .f64 n3, .float .f64 n4, .float .f64 n5, .float .f64 n6], .int .i64 0]), some (.agg #[.float .f64 n1, .float .f64 n2, .float .f64 n3, .float .f64 n4, .float .f64 n5, .float .f64 n6]), some (.int .i64 0), some (undef), some (.int .i64 0)]) [] [⟨10, 1, 0, [.float .f64 n1, .float .f64 n2, .float .f64 n3, .float .f64 n4, .float .f64 n5, .float .f64 n6]⟩] [.pointer (some ⟨g0, 0, none⟩), .int .i64 a, .pointer (some ⟨g0, 1, none⟩), .float .f64 x, .agg #[.float .f64 e1, .float .f64 e2], .agg #[.float .f64 p1, .float .f64 p2, .float .f64 p3, .float .f64 p4, .float .f64 p5, .float .f64 p6], .tuple #[.agg #[.float .f64 n1, .float .f64 n2, .float .f64 n3, .float .f64 n4, .float .f64 n5, .float .f64 n6], .int .i64 0], .tuple #[.agg #[.float .f64 n1, .float .f64 n2, .float .f64 n3, .float .f64 n4, .float .f64 n5, .float .f64 n6], .int .i64 0], .agg #[.float .f64 n1, .float .f64 n2, .float .f64 n3, .float .f64 n4, .float .f64 n5, .float .f64 n6], .int .i64 0, undef, .int .i64 0] ds (by kernel_rfl) (by rw [hds]; rfl) hap (by decide +kernel) (by decide +kernel) K ?ha ?haj ?hai ?hsi ?hss ?hsa ?hsw ?htg ?hE2 ?hE3 ?hE4 ?hL1 ?hL2 ?hL3 ?alloc ?step ?store ?fin
    case ha => intro al hal; cases hal
    case haj => intro al hal al' hal' e; cases hal
    case hai => intro al hal; cases hal
    case hsi => exact quq _ _ _ rfl rfl
    case hss => exact qss rfl
    case hsa =>
        intro st hst al hal
        cases hal
    case hsw =>
        intro st hst al hal e
        cases hal
    case htg =>
        intro st hst
        rcases List.mem_singleton.1 hst with rfl
        · exact .inl ⟨_, _, rfl, show 0 + 6 ≤ 6 by decide⟩
    case hE2 =>
        intro hf j h1 h2
        have n1 : 1 ≠ j := h1 _ qh0
        rcases j with _ | _ | _ | _ | j <;> first | rfl | exact absurd rfl n1
    case hE3 =>
        intro hf st hst g us e
        rcases List.mem_singleton.1 hst with rfl
        · obtain ⟨rfl, rfl⟩ := Prod.mk.inj (Option.some.inj (Option.some.inj e)); rfl
    case hE4 =>
        intro hf al hal
        cases hal
    case hL1 => intro hf; rfl
    case hL2 =>
        intro hf i hi hna
        rcases (ql12 hi) with rfl | rfl | rfl | rfl | rfl | rfl | rfl | rfl | rfl | rfl | rfl | rfl <;> first | rfl
    case hL3 => intro hf al hal; cases hal
    case alloc =>
        intro al hal o ρ W ho
        cases hal
    case step =>
        intro L W i o ho hs ha hd hB hO
        rcases (ql12 (Array.getElem?_eq_some_iff.1 ho).1) with rfl | rfl | rfl | rfl | rfl | rfl | rfl | rfl | rfl | rfl | rfl | rfl
        · obtain rfl := qsj ho
          refine qvr fun ρ hA => ?_
          have hc := qrc hA
          have h0 : ρ (.tmp 7) = .pointer (some ⟨g0, 0, none⟩) := (po hA (by rw [hds]; decide)).trans rfl
          clear hA hd hB ho hs ha hO
          unfold execOp; go_simp
        · obtain rfl := qsj ho
          have b := hB 3 _ _ rfl (qns rfl)
          have c0 := b.at_ 0 _ rfl
          clear b
          refine qvr fun ρ hA => ?_
          have h0 : ρ (.tmp 15) = .pointer (some ⟨g0, 0, none⟩) := pg 0 hA hap (by rw [hds]; rfl) (hd 0 (by decide +kernel) (alne rfl)) (show 15 < 30 by decide)
          clear hA hd hB ho hs ha hO
          unfold execOp; go_simp
        · obtain rfl := qsj ho
          refine qvr fun ρ hA => ?_
          have hc := qrc hA
          have h0 : ρ (.tmp 7) = .pointer (some ⟨g0, 0, none⟩) := (po hA (by rw [hds]; decide)).trans rfl
          clear hA hd hB ho hs ha hO
          unfold execOp; go_simp
        · obtain rfl := qsj ho
          have b := hB 3 _ _ rfl (qns rfl)
          have c1 := b.at_ 1 _ rfl
          clear b
          refine qvr fun ρ hA => ?_
          have h0 : ρ (.tmp 17) = .pointer (some ⟨g0, 1, none⟩) := pg 2 hA hap (by rw [hds]; rfl) (hd 2 (by decide +kernel) (alne rfl)) (show 17 < 30 by decide)
          clear hA hd hB ho hs ha hO
          unfold execOp; go_simp
        · obtain rfl := qsj ho
          refine .call 28 #[.float .f64 x] ?_ (CPg.out W)
          generalize hA : (puts ds L _).eval = ρ
          have hg := qrg hA
          have h0 : ρ (.tmp 18) = .float .f64 x := pg 3 hA hap (by rw [hds]; rfl) (hd 3 (by decide +kernel) (alne rfl)) (show 18 < 30 by decide)
          have hf := Tryz.func28
          unfold execOp; go_simp
        · obtain rfl := qsj ho
          have b := hB 1 _ _ rfl (by
           intro st hst e
           rcases List.mem_singleton.1 hst with rfl
           · change needs _ _ 10 5 = true; decide +kernel)
          have c0 := b.at_ 0 _ rfl
          have c1 := b.at_ 1 _ rfl
          have c2 := b.at_ 2 _ rfl
          have c3 := b.at_ 3 _ rfl
          have c4 := b.at_ 4 _ rfl
          have c5 := b.at_ 5 _ rfl
          clear b
          refine qvr fun ρ hA => ?_
          have h0 : ρ (.tmp 3) = .pointer (some ⟨w.heap.size + 1, 0, none⟩) := (po hA (by rw [hds]; decide)).trans rfl
          clear hA hd hB ho hs ha hO
          unfold execOp; go_simp
        · obtain rfl := qsj ho
          refine .call 75 #[.int .i64 a, .agg #[.float .f64 e1, .float .f64 e2], .agg #[.float .f64 p1, .float .f64 p2, .float .f64 p3, .float .f64 p4, .float .f64 p5, .float .f64 p6]] ?_ (CTg.out W)
          generalize hA : (puts ds L _).eval = ρ
          have hg := qrg hA
          have h0 : ρ (.tmp 16) = .int .i64 a := pg 1 hA hap (by rw [hds]; rfl) (hd 1 (by decide +kernel) (alne rfl)) (show 16 < 30 by decide)
          have h1 : ρ (.tmp 19) = .agg #[.float .f64 e1, .float .f64 e2] := pg 4 hA hap (by rw [hds]; rfl) (hd 4 (by decide +kernel) (alne rfl)) (show 19 < 30 by decide)
          have h2 : ρ (.tmp 20) = .agg #[.float .f64 p1, .float .f64 p2, .float .f64 p3, .float .f64 p4, .float .f64 p5, .float .f64 p6] := pg 5 hA hap (by rw [hds]; rfl) (hd 5 (by decide +kernel) (alne rfl)) (show 20 < 30 by decide)
          have hf := Tryz.func75
          unfold execOp; go_simp
        · obtain rfl := qsj ho
          refine qvr fun ρ hA => ?_
          have hc := qrc hA
          have h0 : ρ (.tmp 21) = .tuple #[.agg #[.float .f64 n1, .float .f64 n2, .float .f64 n3, .float .f64 n4, .float .f64 n5, .float .f64 n6], .int .i64 0] := pg 6 hA hap (by rw [hds]; rfl) (hd 6 (by decide +kernel) (alne rfl)) (show 21 < 30 by decide)
          clear hA hd hB ho hs ha hO
          unfold execOp; go_simp
        · obtain rfl := qsj ho
          refine qvr fun ρ hA => ?_
          have hc := qrc hA
          have h0 : ρ (.tmp 14) = .tuple #[.agg #[.float .f64 n1, .float .f64 n2, .float .f64 n3, .float .f64 n4, .float .f64 n5, .float .f64 n6], .int .i64 0] := pg 7 hA hap (by rw [hds]; rfl) (hd 7 (by decide +kernel) (alne rfl)) (show 14 < 30 by decide)
          clear hA hd hB ho hs ha hO
          unfold execOp; go_simp
        · obtain rfl := qsj ho
          refine qvr fun ρ hA => ?_
          have hc := qrc hA
          have h0 : ρ (.tmp 14) = .tuple #[.agg #[.float .f64 n1, .float .f64 n2, .float .f64 n3, .float .f64 n4, .float .f64 n5, .float .f64 n6], .int .i64 0] := pg 7 hA hap (by rw [hds]; rfl) (hd 7 (by decide +kernel) (alne rfl)) (show 14 < 30 by decide)
          clear hA hd hB ho hs ha hO
          unfold execOp; go_simp
        · exact absurd rfl (hs _ qh0)
        · obtain rfl := qsj ho
          refine qvr fun ρ hA => ?_
          have hc := qrc hA
          have h0 : ρ (.tmp 23) = .int .i64 0 := pg 9 hA hap (by rw [hds]; rfl) (hd 9 (by decide +kernel) (alne rfl)) (show 23 < 30 by decide)
          clear hA hd hB ho hs ha hO
          unfold execOp; go_simp
    case store =>
        intro st hst L W o h us ho hd hal hC b
        rcases List.mem_singleton.1 hst with rfl
        · dsimp only at ho hd hal hC b ⊢
          obtain rfl := qsj ho
          obtain ⟨hh, rfl⟩ := hC _ _ rfl
          replace hh := hh.symm
          subst hh
          have c0 := b.at_ 0 _ rfl
          have f0 := b.fr 0 _ rfl
          have c1 := b.at_ 1 _ rfl
          have f1 := b.fr 1 _ rfl
          have c2 := b.at_ 2 _ rfl
          have f2 := b.fr 2 _ rfl
          have c3 := b.at_ 3 _ rfl
          have f3 := b.fr 3 _ rfl
          have c4 := b.at_ 4 _ rfl
          have f4 := b.fr 4 _ rfl
          have c5 := b.at_ 5 _ rfl
          have f5 := b.fr 5 _ rfl
          refine ⟨?_, rfl⟩
          generalize hA : (puts ds L _).eval = ρ
          have h0 : ρ (.tmp 3) = .pointer (some ⟨w.heap.size + 1, 0, none⟩) := (po hA (by rw [hds]; decide)).trans rfl
          have h1 : ρ (.tmp 22) = .agg #[.float .f64 n1, .float .f64 n2, .float .f64 n3, .float .f64 n4, .float .f64 n5, .float .f64 n6] := pg 8 hA hap (by rw [hds]; rfl) (hd 8 (by decide +kernel) (alne rfl)) (show 22 < 30 by decide)
          have hst' := @fstore
          clear hA hd b ho hal hC
          simp only [putV]
          unfold execOp; go_simp
    case fin =>
        intro hf W0 K
        rw [hds]
        clear hds hap ds
        (try dsimp only at K)
        simp only [List.set_cons_zero, List.set_cons_succ, puts, Act.put, List.setIfInBounds_toArray]
        replace K := Lib.hid K
        go_wp2_with fail
        go_roundw
        case rel => exact ⟨i + 1, n1, n2, n3, n4, n5, n6, rfl, nx.out, K.out.take 3⟩
        case measure => simp [intOf]; omega
theorem obox_shape {ax ec ti no pe ph ra t1 t2 m1 m2 s1 s2 k1 k2 a1 a2 e1 e2 o1 o2 q1 q2 d1 d2 r1 r2 f1 f2 x1 x2 g1 g2 y1 y2 l1 l2 l3 l4 l5 l6 : Nat} {b : Bool} (CTm : Hid (∀ w, Calls Tryz.prog 25 #[.agg #[.float .f64 t1, .float .f64 t2]] w fun e w' => e = .returned (.bool b) ∧ Below w.heap.size w w')) (CRd : Hid (∀ w, Calls Tryz.prog 24 #[.agg #[.float .f64 ax, .float .f64 ec, .float .f64 ti, .float .f64 no, .float .f64 pe, .float .f64 ph, .float .f64 ra], .bool b] w fun e w' => e = .returned (.int .i64 0) ∧ Below w.heap.size w w')) (CM : Hid (∀ w, Calls Tryz.prog 27 #[.agg #[.float .f64 ax, .float .f64 ec, .float .f64 ti, .float .f64 no, .float .f64 pe, .float .f64 ph, .float .f64 ra], .agg #[.float .f64 t1, .float .f64 t2]] w fun e w' => e = .returned (.agg #[.float .f64 m1, .float .f64 m2]) ∧ Below w.heap.size w w')) (CN : Hid (∀ w, Calls Tryz.prog 26 #[.float .f64 ec, .agg #[.float .f64 m1, .float .f64 m2]] w fun e w' => e = .returned (.tuple #[.agg #[.float .f64 s1, .float .f64 s2], .agg #[.float .f64 k1, .float .f64 k2]]) ∧ Below w.heap.size w w')) (CA : Hid (∀ w, Calls Tryz.prog 28 #[.float .f64 ax] w fun e w' => e = .returned (.agg #[.float .f64 a1, .float .f64 a2]) ∧ Below w.heap.size w w')) (CE : Hid (∀ w, Calls Tryz.prog 28 #[.float .f64 ec] w fun e w' => e = .returned (.agg #[.float .f64 e1, .float .f64 e2]) ∧ Below w.heap.size w w')) (CO : Hid (∀ w, Calls Tryz.prog 28 #[.float .f64 4607182418800017408] w fun e w' => e = .returned (.agg #[.float .f64 o1, .float .f64 o2]) ∧ Below w.heap.size w w')) (CQ : Hid (∀ w, Calls Tryz.prog 31 #[.agg #[.float .f64 e1, .float .f64 e2]] w fun e w' => e = .returned (.agg #[.float .f64 q1, .float .f64 q2]) ∧ Below w.heap.size w w')) (CD : Hid (∀ w, Calls Tryz.prog 30 #[.agg #[.float .f64 o1, .float .f64 o2], .agg #[.float .f64 q1, .float .f64 q2]] w fun e w' => e = .returned (.agg #[.float .f64 d1, .float .f64 d2]) ∧ Below w.heap.size w w')) (CR : Hid (∀ w, Calls Tryz.prog 29 #[.agg #[.float .f64 d1, .float .f64 d2]] w fun e w' => e = .returned (.agg #[.float .f64 r1, .float .f64 r2]) ∧ Below w.heap.size w w')) (CF : Hid (∀ w, Calls Tryz.prog 30 #[.agg #[.float .f64 k1, .float .f64 k2], .agg #[.float .f64 e1, .float .f64 e2]] w fun e w' => e = .returned (.agg #[.float .f64 f1, .float .f64 f2]) ∧ Below w.heap.size w w')) (CX : Hid (∀ w, Calls Tryz.prog 33 #[.agg #[.float .f64 a1, .float .f64 a2], .agg #[.float .f64 f1, .float .f64 f2]] w fun e w' => e = .returned (.agg #[.float .f64 x1, .float .f64 x2]) ∧ Below w.heap.size w w')) (CG : Hid (∀ w, Calls Tryz.prog 33 #[.agg #[.float .f64 a1, .float .f64 a2], .agg #[.float .f64 r1, .float .f64 r2]] w fun e w' => e = .returned (.agg #[.float .f64 g1, .float .f64 g2]) ∧ Below w.heap.size w w')) (CY : Hid (∀ w, Calls Tryz.prog 33 #[.agg #[.float .f64 g1, .float .f64 g2], .agg #[.float .f64 s1, .float .f64 s2]] w fun e w' => e = .returned (.agg #[.float .f64 y1, .float .f64 y2]) ∧ Below w.heap.size w w')) (CT : Hid (∀ w, Calls Tryz.prog 32 #[.agg #[.float .f64 ax, .float .f64 ec, .float .f64 ti, .float .f64 no, .float .f64 pe, .float .f64 ph, .float .f64 ra], .agg #[.float .f64 x1, .float .f64 x2, .float .f64 y1, .float .f64 y2, .float .f64 0, .float .f64 0]] w fun e w' => e = .returned (.tuple #[.agg #[.float .f64 l1, .float .f64 l2, .float .f64 l3, .float .f64 l4, .float .f64 l5, .float .f64 l6], .int .i64 0]) ∧ Below w.heap.size w w')) (w : World) : Calls Tryz.prog 9 #[.agg #[.float .f64 ax, .float .f64 ec, .float .f64 ti, .float .f64 no, .float .f64 pe, .float .f64 ph, .float .f64 ra], .agg #[.float .f64 t1, .float .f64 t2]] w fun e w' => e = .returned (.tuple #[.agg #[.float .f64 l1, .float .f64 l2, .float .f64 l3, .float .f64 l4, .float .f64 l5, .float .f64 l6], .int .i64 0]) ∧ Below w.heap.size w w' := by
 have K0 := kv3 w 24 26 33 [.float .f64 ax, .float .f64 ec, .float .f64 ti, .float .f64 no, .float .f64 pe, .float .f64 ph, .float .f64 ra] [.float .f64 t1, .float .f64 t2] [.float .f64 0, .float .f64 0, .float .f64 0, .float .f64 0, .float .f64 0, .float .f64 0]
 simp only [objV] at K0
 have hst := @fstore
 replace K0 := Lib.hid K0
 go_enter Tryz.func9, Tryz.ntmps9
 go_upto_region 1 with fail
 have K := K0.out
 clear K0
 generalize ((w.alloc _).alloc _).alloc _ = wr at *
 generalize hds : ([some 12, some 13, some 14, some 15, some 6] : List (Option Tmp)) = ds
 have hap : apartL ds = true := by rw [← hds]; decide
 replace hds := hds.symm
 refine wp_region_kv (fun hf => [some (w.heap.size, [.float .f64 ax, .float .f64 ec, .float .f64 ti, .float .f64 no, .float .f64 pe, .float .f64 ph, .float .f64 ra]), some (w.heap.size + 1, [.float .f64 t1, .float .f64 t2]), some (w.heap.size + 1 + 1, [.float .f64 0, .float .f64 0, .float .f64 0, .float .f64 0, .float .f64 0, .float .f64 0])]) (fun hf => [some (.agg #[.float .f64 ax, .float .f64 ec, .float .f64 ti, .float .f64 no, .float .f64 pe, .float .f64 ph, .float .f64 ra]), some (.agg #[.float .f64 t1, .float .f64 t2]), some (.bool b), some (.int .i64 0), some (.int .i64 0)]) [] [] [.agg #[.float .f64 ax, .float .f64 ec, .float .f64 ti, .float .f64 no, .float .f64 pe, .float .f64 ph, .float .f64 ra], .agg #[.float .f64 t1, .float .f64 t2], .bool b, .int .i64 0, .int .i64 0] ds (by kernel_rfl) (by rw [hds]; rfl) hap (by decide +kernel) (by decide +kernel) K ?ha ?haj ?hai ?hsi ?hss ?hsa ?hsw ?htg ?hE2 ?hE3 ?hE4 ?hL1 ?hL2 ?hL3 ?alloc ?step ?store ?fin
 case ha => intro al hal; cases hal
 case haj => intro al hal al' hal' e; cases hal
 case hai => intro al hal; cases hal
 case hsi => intro st hst st' hst' e; cases hst
 case hss =>
  intro st hst
  cases hst
 case hsa =>
  intro st hst al hal
  cases hst
 case hsw =>
  intro st hst al hal e
  cases hst
 case htg =>
  intro st hst
  cases hst
 case hE2 =>
  intro hf j h1 h2
  rcases j with _ | _ | _ | j <;> first | rfl
 case hE3 =>
  intro hf st hst g us e
  cases hst
 case hE4 =>
  intro hf al hal
  cases hal
 case hL1 => intro hf; rfl
 case hL2 =>
  intro hf i hi hna
  rcases (ql5 hi) with rfl | rfl | rfl | rfl | rfl <;> first | rfl
 case hL3 => intro hf al hal; cases hal
 case alloc =>
  intro al hal o ρ W ho
  cases hal
 case step =>
  intro L W i o ho hs ha hd hB hO
  rcases (ql5 (Array.getElem?_eq_some_iff.1 ho).1) with rfl | rfl | rfl | rfl | rfl
  · obtain rfl := qsj ho
    have b := hB 0 _ _ rfl (qns rfl)
    have c0 := b.at_ 0 _ rfl
    have c1 := b.at_ 1 _ rfl
    have c2 := b.at_ 2 _ rfl
    have c3 := b.at_ 3 _ rfl
    have c4 := b.at_ 4 _ rfl
    have c5 := b.at_ 5 _ rfl
    have c6 := b.at_ 6 _ rfl
    clear b
    refine qvr fun ρ hA => ?_
    have h0 : ρ (.tmp 2) = .pointer (some ⟨w.heap.size, 0, none⟩) := (po hA (by rw [hds]; decide)).trans rfl
    clear hA hd hB ho hs ha hO
    unfold execOp; go_simp
  · obtain rfl := qsj ho
    have b := hB 1 _ _ rfl (qns rfl)
    have c0 := b.at_ 0 _ rfl
    have c1 := b.at_ 1 _ rfl
    clear b
    refine qvr fun ρ hA => ?_
    have h0 : ρ (.tmp 3) = .pointer (some ⟨w.heap.size + 1, 0, none⟩) := (po hA (by rw [hds]; decide)).trans rfl
    clear hA hd hB ho hs ha hO
    unfold execOp; go_simp
  · obtain rfl := qsj ho
    refine .call 25 #[.agg #[.float .f64 t1, .float .f64 t2]] ?_ (CTm.out W)
    generalize hA : (puts ds L _).eval = ρ
    have hg := qrg hA
    have h0 : ρ (.tmp 13) = .agg #[.float .f64 t1, .float .f64 t2] := pg 1 hA hap (by rw [hds]; rfl) (hd 1 (by decide +kernel) (alne rfl)) (show 13 < 55 by decide)
    have hf := Tryz.func25
    unfold execOp; go_simp
  · obtain rfl := qsj ho
    refine .call 24 #[.agg #[.float .f64 ax, .float .f64 ec, .float .f64 ti, .float .f64 no, .float .f64 pe, .float .f64 ph, .float .f64 ra], .bool b] ?_ (CRd.out W)
    generalize hA : (puts ds L _).eval = ρ
    have hg := qrg hA
    have h0 : ρ (.tmp 12) = .agg #[.float .f64 ax, .float .f64 ec, .float .f64 ti, .float .f64 no, .float .f64 pe, .float .f64 ph, .float .f64 ra] := pg 0 hA hap (by rw [hds]; rfl) (hd 0 (by decide +kernel) (alne rfl)) (show 12 < 55 by decide)
    have h1 : ρ (.tmp 14) = .bool b := pg 2 hA hap (by rw [hds]; rfl) (hd 2 (by decide +kernel) (alne rfl)) (show 14 < 55 by decide)
    have hf := Tryz.func24
    unfold execOp; go_simp
  · obtain rfl := qsj ho
    refine qvr fun ρ hA => ?_
    have hc := qrc hA
    have h0 : ρ (.tmp 15) = .int .i64 0 := pg 3 hA hap (by rw [hds]; rfl) (hd 3 (by decide +kernel) (alne rfl)) (show 15 < 55 by decide)
    clear hA hd hB ho hs ha hO
    unfold execOp; go_simp
 case store =>
  intro st hst L W o h us ho hd hal hC b
  cases hst
 case fin =>
  intro hf W0 K
  rw [hds]
  clear hds hap ds CTm CRd
  (try dsimp only at K)
  simp only [List.set_cons_zero, List.set_cons_succ, puts, Act.put, List.setIfInBounds_toArray]
  replace K := Lib.hid K
  go_upto_region 4 with fail
  replace K := K.out
  replace K := K.more
  replace K := K.more
  simp only [List.cons_append, List.nil_append] at K
  generalize hds : ([some 21, some 22, some 23, some 24, some 25, some 26, some 20, some 27, some 28, some 7, some 8, none, none] : List (Option Tmp)) = ds
  have hap : apartL ds = true := by rw [← hds]; decide
  replace hds := hds.symm
  refine wp_region_kv (fun hf => [some (w.heap.size, [.float .f64 ax, .float .f64 ec, .float .f64 ti, .float .f64 no, .float .f64 pe, .float .f64 ph, .float .f64 ra]), some (w.heap.size + 1, [.float .f64 t1, .float .f64 t2]), some (w.heap.size + 1 + 1, [.float .f64 0, .float .f64 0, .float .f64 0, .float .f64 0, .float .f64 0, .float .f64 0]), some (hf 9, [.float .f64 s1, .float .f64 s2]), some (hf 10, [.float .f64 k1, .float .f64 k2])]) (fun hf => [some (.pointer (some ⟨w.heap.size, 1, none⟩)), some (.float .f64 ec), some (.agg #[.float .f64 ax, .float .f64 ec, .float .f64 ti, .float .f64 no, .float .f64 pe, .float .f64 ph, .float .f64 ra]), some (.agg #[.float .f64 t1, .float .f64 t2]), some (.agg #[.float .f64 m1, .float .f64 m2]), some (.tuple #[.agg #[.float .f64 s1, .float .f64 s2], .agg #[.float .f64 k1, .float .f64 k2]]), some (.tuple #[.agg #[.float .f64 s1, .float .f64 s2], .agg #[.float .f64 k1, .float .f64 k2]]), some (.agg #[.float .f64 s1, .float .f64 s2]), some (.agg #[.float .f64 k1, .float .f64 k2]), some (ptrV (hf 9)), some (ptrV (hf 10)), some (undef), some (undef)]) [⟨9, 3, 26, [.float .f64 0, .float .f64 0]⟩, ⟨10, 4, 26, [.float .f64 0, .float .f64 0]⟩] [⟨11, 3, 0, [.float .f64 s1, .float .f64 s2]⟩, ⟨12, 4, 0, [.float .f64 k1, .float .f64 k2]⟩] [.pointer (some ⟨w.heap.size, 1, none⟩), .float .f64 ec, .agg #[.float .f64 ax, .float .f64 ec, .float .f64 ti, .float .f64 no, .float .f64 pe, .float .f64 ph, .float .f64 ra], .agg #[.float .f64 t1, .float .f64 t2], .agg #[.float .f64 m1, .float .f64 m2], .tuple #[.agg #[.float .f64 s1, .float .f64 s2], .agg #[.float .f64 k1, .float .f64 k2]], .tuple #[.agg #[.float .f64 s1, .float .f64 s2], .agg #[.float .f64 k1, .float .f64 k2]], .agg #[.float .f64 s1, .float .f64 s2], .agg #[.float .f64 k1, .float .f64 k2], undef, undef, undef, undef] ds (by kernel_rfl) (by rw [hds]; rfl) hap (by decide +kernel) (by decide +kernel) K ?ha ?haj ?hai ?hsi ?hss ?hsa ?hsw ?htg ?hE2 ?hE3 ?hE4 ?hL1 ?hL2 ?hL3 ?alloc ?step ?store ?fin
  case ha => intro al hal; rcases qm2 hal with rfl | rfl <;> rfl
  case haj => exact quq _ _ _ rfl rfl
  case hai => exact qss rfl
  case hsi => exact quq _ _ _ rfl rfl
  case hss => exact qss rfl
  case hsa => exact qsa rfl
  case hsw =>
   intro st hst al hal e
   rcases qm2 hst with rfl | rfl
   · rcases qm2 hal with rfl | rfl
     · change waitsAt _ 11 9 = true; decide +kernel
     · exact qnd e rfl
   · rcases qm2 hal with rfl | rfl
     · exact qnd e rfl
     · change waitsAt _ 12 10 = true; decide +kernel
  case htg =>
   intro st hst
   rcases qm2 hst with rfl | rfl
   · exact .inr ⟨_, qh0, rfl, show 0 + 2 ≤ 2 by decide⟩
   · exact .inr ⟨_, qh1, rfl, show 0 + 2 ≤ 2 by decide⟩
  case hE2 =>
   intro hf j h1 h2
   have n3 : 3 ≠ j := h1 _ qh0
   have n4 : 4 ≠ j := h1 _ qh1
   rcases j with _ | _ | _ | _ | _ | j <;> first | rfl | exact absurd rfl n3 | exact absurd rfl n4
  case hE3 =>
   intro hf st hst g us e
   rcases qm2 hst with rfl | rfl <;> simp at e
  case hE4 =>
   intro hf al hal
   rcases qm2 hal with rfl | rfl
   · refine ⟨fun st hst e => ?_, fun h => absurd rfl (h _ qh0)⟩
     rcases qm2 hst with rfl | rfl
     · rfl
     · exact qnd e rfl
   · refine ⟨fun st hst e => ?_, fun h => absurd rfl (h _ qh1)⟩
     rcases qm2 hst with rfl | rfl
     · exact qnd e rfl
     · rfl
  case hL1 => intro hf; rfl
  case hL2 =>
   intro hf i hi hna
   rcases (ql13 hi) with rfl | rfl | rfl | rfl | rfl | rfl | rfl | rfl | rfl | rfl | rfl | rfl | rfl <;> first | rfl | exact absurd rfl (hna _ qh0) | exact absurd rfl (hna _ qh1)
  case hL3 => intro hf al hal; rcases qm2 hal with rfl | rfl <;> rfl
  case alloc =>
   intro al hal o ρ W ho
   rcases qm2 hal with rfl | rfl
   · obtain rfl := qsj ho; unfold execOp ptrV objV; go_simp
   · obtain rfl := qsj ho; unfold execOp ptrV objV; go_simp
  case step =>
   intro L W i o ho hs ha hd hB hO
   rcases (ql13 (Array.getElem?_eq_some_iff.1 ho).1) with rfl | rfl | rfl | rfl | rfl | rfl | rfl | rfl | rfl | rfl | rfl | rfl | rfl
   · obtain rfl := qsj ho
     refine qvr fun ρ hA => ?_
     have hc := qrc hA
     have h0 : ρ (.tmp 2) = .pointer (some ⟨w.heap.size, 0, none⟩) := (po hA (by rw [hds]; decide)).trans rfl
     clear hA hd hB ho hs ha hO
     unfold execOp; go_simp
   · obtain rfl := qsj ho
     have b := hB 0 _ _ rfl (qns rfl)
     have c1 := b.at_ 1 _ rfl
     clear b
     refine qvr fun ρ hA => ?_
     have h0 : ρ (.tmp 21) = .pointer (some ⟨w.heap.size, 1, none⟩) := pg 0 hA hap (by rw [hds]; rfl) (hd 0 (by decide +kernel) (alne rfl)) (show 21 < 55 by decide)
     clear hA hd hB ho hs ha hO
     unfold execOp; go_simp
   · obtain rfl := qsj ho
     have b := hB 0 _ _ rfl (qns rfl)
     have c0 := b.at_ 0 _ rfl
     have c1 := b.at_ 1 _ rfl
     have c2 := b.at_ 2 _ rfl
     have c3 := b.at_ 3 _ rfl
     have c4 := b.at_ 4 _ rfl
     have c5 := b.at_ 5 _ rfl
     have c6 := b.at_ 6 _ rfl
     clear b
     refine qvr fun ρ hA => ?_
     have h0 : ρ (.tmp 2) = .pointer (some ⟨w.heap.size, 0, none⟩) := (po hA (by rw [hds]; decide)).trans rfl
     clear hA hd hB ho hs ha hO
     unfold execOp; go_simp
   · obtain rfl := qsj ho
     have b := hB 1 _ _ rfl (qns rfl)
     have c0 := b.at_ 0 _ rfl
     have c1 := b.at_ 1 _ rfl
     clear b
     refine qvr fun ρ hA => ?_
     have h0 : ρ (.tmp 3) = .pointer (some ⟨w.heap.size + 1, 0, none⟩) := (po hA (by rw [hds]; decide)).trans rfl
     clear hA hd hB ho hs ha hO
     unfold execOp; go_simp
   · obtain rfl := qsj ho
     refine .call 27 #[.agg #[.float .f64 ax, .float .f64 ec, .float .f64 ti, .float .f64 no, .float .f64 pe, .float .f64 ph, .float .f64 ra], .agg #[.float .f64 t1, .float .f64 t2]] ?_ (CM.out W)
     generalize hA : (puts ds L _).eval = ρ
     have hg := qrg hA
     have h0 : ρ (.tmp 23) = .agg #[.float .f64 ax, .float .f64 ec, .float .f64 ti, .float .f64 no, .float .f64 pe, .float .f64 ph, .float .f64 ra] := pg 2 hA hap (by rw [hds]; rfl) (hd 2 (by decide +kernel) (alne rfl)) (show 23 < 55 by decide)
     have h1 : ρ (.tmp 24) = .agg #[.float .f64 t1, .float .f64 t2] := pg 3 hA hap (by rw [hds]; rfl) (hd 3 (by decide +kernel) (alne rfl)) (show 24 < 55 by decide)
     have hf := Tryz.func27
     unfold execOp; go_simp
   · obtain rfl := qsj ho
     refine .call 26 #[.float .f64 ec, .agg #[.float .f64 m1, .float .f64 m2]] ?_ (CN.out W)
     generalize hA : (puts ds L _).eval = ρ
     have hg := qrg hA
     have h0 : ρ (.tmp 22) = .float .f64 ec := pg 1 hA hap (by rw [hds]; rfl) (hd 1 (by decide +kernel) (alne rfl)) (show 22 < 55 by decide)
     have h1 : ρ (.tmp 25) = .agg #[.float .f64 m1, .float .f64 m2] := pg 4 hA hap (by rw [hds]; rfl) (hd 4 (by decide +kernel) (alne rfl)) (show 25 < 55 by decide)
     have hf := Tryz.func26
     unfold execOp; go_simp
   · obtain rfl := qsj ho
     refine qvr fun ρ hA => ?_
     have hc := qrc hA
     have h0 : ρ (.tmp 26) = .tuple #[.agg #[.float .f64 s1, .float .f64 s2], .agg #[.float .f64 k1, .float .f64 k2]] := pg 5 hA hap (by rw [hds]; rfl) (hd 5 (by decide +kernel) (alne rfl)) (show 26 < 55 by decide)
     clear hA hd hB ho hs ha hO
     unfold execOp; go_simp
   · obtain rfl := qsj ho
     refine qvr fun ρ hA => ?_
     have hc := qrc hA
     have h0 : ρ (.tmp 20) = .tuple #[.agg #[.float .f64 s1, .float .f64 s2], .agg #[.float .f64 k1, .float .f64 k2]] := pg 6 hA hap (by rw [hds]; rfl) (hd 6 (by decide +kernel) (alne rfl)) (show 20 < 55 by decide)
     clear hA hd hB ho hs ha hO
     unfold execOp; go_simp
   · obtain rfl := qsj ho
     refine qvr fun ρ hA => ?_
     have hc := qrc hA
     have h0 : ρ (.tmp 20) = .tuple #[.agg #[.float .f64 s1, .float .f64 s2], .agg #[.float .f64 k1, .float .f64 k2]] := pg 6 hA hap (by rw [hds]; rfl) (hd 6 (by decide +kernel) (alne rfl)) (show 20 < 55 by decide)
     clear hA hd hB ho hs ha hO
     unfold execOp; go_simp
   · exact absurd rfl (ha _ qh0)
   · exact absurd rfl (ha _ qh1)
   · exact absurd rfl (hs _ qh0)
   · exact absurd rfl (hs _ qh1)
  case store =>
   intro st hst L W o h us ho hd hal hC b
   rcases qm2 hst with rfl | rfl
   · dsimp only at ho hd hal hC b ⊢
     obtain rfl := qsj ho
     obtain ⟨hl, rfl⟩ := hal _ qh0 rfl
     have c0 := b.at_ 0 _ rfl
     have f0 := b.fr 0 _ rfl
     have c1 := b.at_ 1 _ rfl
     have f1 := b.fr 1 _ rfl
     refine ⟨?_, rfl⟩
     generalize hA : (puts ds L _).eval = ρ
     have h0 : ρ (.tmp 7) = .pointer (some ⟨h, 0, none⟩) := qpe 9 hA hap (by rw [hds]; rfl) hl (show 7 < 55 by decide)
     have h1 : ρ (.tmp 27) = .agg #[.float .f64 s1, .float .f64 s2] := pg 7 hA hap (by rw [hds]; rfl) (hd 7 (by decide +kernel) (alne rfl)) (show 27 < 55 by decide)
     have hst' := @fstore
     clear hA hd b ho hal hC
     simp only [putV]
     unfold execOp; go_simp
   · dsimp only at ho hd hal hC b ⊢
     obtain rfl := qsj ho
     obtain ⟨hl, rfl⟩ := hal _ qh1 rfl
     have c0 := b.at_ 0 _ rfl
     have f0 := b.fr 0 _ rfl
     have c1 := b.at_ 1 _ rfl
     have f1 := b.fr 1 _ rfl
     refine ⟨?_, rfl⟩
     generalize hA : (puts ds L _).eval = ρ
     have h0 : ρ (.tmp 8) = .pointer (some ⟨h, 0, none⟩) := qpe 10 hA hap (by rw [hds]; rfl) hl (show 8 < 55 by decide)
     have h1 : ρ (.tmp 28) = .agg #[.float .f64 k1, .float .f64 k2] := pg 8 hA hap (by rw [hds]; rfl) (hd 8 (by decide +kernel) (alne rfl)) (show 28 < 55 by decide)
     have hst' := @fstore
     clear hA hd b ho hal hC
     simp only [putV]
     unfold execOp; go_simp
  case fin =>
   intro hf W1 K
   rw [hds]
   clear hds hap ds CM CN
   (try dsimp only at K)
   generalize hf 9 = gs at *
   generalize hf 10 = gc at *
   (try unfold ptrV)
   simp only [List.set_cons_zero, List.set_cons_succ, puts, Act.put, List.setIfInBounds_toArray]
   replace K := Lib.hid K
   go_upto_region 5 with fail
   replace K := K.out
   replace K := K.more
   replace K := K.more
   simp only [List.cons_append, List.nil_append] at K
   generalize hds : ([some 29, some 30, some 31, some 32, some 33, some 34, some 9, some 10, none, none] : List (Option Tmp)) = ds
   have hap : apartL ds = true := by rw [← hds]; decide
   replace hds := hds.symm
   refine wp_region_kv (fun hf => [some (w.heap.size, [.float .f64 ax, .float .f64 ec, .float .f64 ti, .float .f64 no, .float .f64 pe, .float .f64 ph, .float .f64 ra]), some (w.heap.size + 1, [.float .f64 t1, .float .f64 t2]), some (w.heap.size + 1 + 1, [.float .f64 0, .float .f64 0, .float .f64 0, .float .f64 0, .float .f64 0, .float .f64 0]), some (gs, [.float .f64 s1, .float .f64 s2]), some (gc, [.float .f64 k1, .float .f64 k2]), some (hf 6, [.float .f64 a1, .float .f64 a2]), some (hf 7, [.float .f64 e1, .float .f64 e2])]) (fun hf => [some (.pointer (some ⟨w.heap.size, 0, none⟩)), some (.float .f64 ax), some (.agg #[.float .f64 a1, .float .f64 a2]), some (.pointer (some ⟨w.heap.size, 1, none⟩)), some (.float .f64 ec), some (.agg #[.float .f64 e1, .float .f64 e2]), some (ptrV (hf 6)), some (ptrV (hf 7)), some (undef), some (undef)]) [⟨6, 5, 26, [.float .f64 0, .float .f64 0]⟩, ⟨7, 6, 26, [.float .f64 0, .float .f64 0]⟩] [⟨8, 5, 0, [.float .f64 a1, .float .f64 a2]⟩, ⟨9, 6, 0, [.float .f64 e1, .float .f64 e2]⟩] [.pointer (some ⟨w.heap.size, 0, none⟩), .float .f64 ax, .agg #[.float .f64 a1, .float .f64 a2], .pointer (some ⟨w.heap.size, 1, none⟩), .float .f64 ec, .agg #[.float .f64 e1, .float .f64 e2], undef, undef, undef, undef] ds (by kernel_rfl) (by rw [hds]; rfl) hap (by decide +kernel) (by decide +kernel) K ?ha ?haj ?hai ?hsi ?hss ?hsa ?hsw ?htg ?hE2 ?hE3 ?hE4 ?hL1 ?hL2 ?hL3 ?alloc ?step ?store ?fin
   case ha => intro al hal; rcases qm2 hal with rfl | rfl <;> rfl
   case haj => exact quq _ _ _ rfl rfl
   case hai => exact qss rfl
   case hsi => exact quq _ _ _ rfl rfl
   case hss => exact qss rfl
   case hsa => exact qsa rfl
   case hsw =>
        intro st hst al hal e
        rcases qm2 hst with rfl | rfl
        · rcases qm2 hal with rfl | rfl
          · change waitsAt _ 8 6 = true; decide +kernel
          · exact qnd e rfl
        · rcases qm2 hal with rfl | rfl
          · exact qnd e rfl
          · change waitsAt _ 9 7 = true; decide +kernel
   case htg =>
        intro st hst
        rcases qm2 hst with rfl | rfl
        · exact .inr ⟨_, qh0, rfl, show 0 + 2 ≤ 2 by decide⟩
        · exact .inr ⟨_, qh1, rfl, show 0 + 2 ≤ 2 by decide⟩
   case hE2 =>
        intro hf j h1 h2
        have n5 : 5 ≠ j := h1 _ qh0
        have n6 : 6 ≠ j := h1 _ qh1
        rcases j with _ | _ | _ | _ | _ | _ | _ | j <;> first | rfl | exact absurd rfl n5 | exact absurd rfl n6
   case hE3 =>
        intro hf st hst g us e
        rcases qm2 hst with rfl | rfl <;> simp at e
   case hE4 =>
        intro hf al hal
        rcases qm2 hal with rfl | rfl
        · refine ⟨fun st hst e => ?_, fun h => absurd rfl (h _ qh0)⟩
          rcases qm2 hst with rfl | rfl
          · rfl
          · exact qnd e rfl
        · refine ⟨fun st hst e => ?_, fun h => absurd rfl (h _ qh1)⟩
          rcases qm2 hst with rfl | rfl
          · exact qnd e rfl
          · rfl
   case hL1 => intro hf; rfl
   case hL2 =>
        intro hf i hi hna
        rcases (ql10 hi) with rfl | rfl | rfl | rfl | rfl | rfl | rfl | rfl | rfl | rfl <;> first | rfl | exact absurd rfl (hna _ qh0) | exact absurd rfl (hna _ qh1)
   case hL3 => intro hf al hal; rcases qm2 hal with rfl | rfl <;> rfl
   case alloc =>
        intro al hal o ρ W ho
        rcases qm2 hal with rfl | rfl
        · obtain rfl := qsj ho; unfold execOp ptrV objV; go_simp
        · obtain rfl := qsj ho; unfold execOp ptrV objV; go_simp
   case step =>
        intro L W i o ho hs ha hd hB hO
        rcases (ql10 (Array.getElem?_eq_some_iff.1 ho).1) with rfl | rfl | rfl | rfl | rfl | rfl | rfl | rfl | rfl | rfl
        · obtain rfl := qsj ho
          refine qvr fun ρ hA => ?_
          have hc := qrc hA
          have h0 : ρ (.tmp 2) = .pointer (some ⟨w.heap.size, 0, none⟩) := (po hA (by rw [hds]; decide)).trans rfl
          clear hA hd hB ho hs ha hO
          unfold execOp; go_simp
        · obtain rfl := qsj ho
          have b := hB 0 _ _ rfl (qns rfl)
          have c0 := b.at_ 0 _ rfl
          clear b
          refine qvr fun ρ hA => ?_
          have h0 : ρ (.tmp 29) = .pointer (some ⟨w.heap.size, 0, none⟩) := pg 0 hA hap (by rw [hds]; rfl) (hd 0 (by decide +kernel) (alne rfl)) (show 29 < 55 by decide)
          clear hA hd hB ho hs ha hO
          unfold execOp; go_simp
        · obtain rfl := qsj ho
          refine .call 28 #[.float .f64 ax] ?_ (CA.out W)
          generalize hA : (puts ds L _).eval = ρ
          have hg := qrg hA
          have h0 : ρ (.tmp 30) = .float .f64 ax := pg 1 hA hap (by rw [hds]; rfl) (hd 1 (by decide +kernel) (alne rfl)) (show 30 < 55 by decide)
          have hf := Tryz.func28
          unfold execOp; go_simp
        · obtain rfl := qsj ho
          refine qvr fun ρ hA => ?_
          have hc := qrc hA
          have h0 : ρ (.tmp 2) = .pointer (some ⟨w.heap.size, 0, none⟩) := (po hA (by rw [hds]; decide)).trans rfl
          clear hA hd hB ho hs ha hO
          unfold execOp; go_simp
        · obtain rfl := qsj ho
          have b := hB 0 _ _ rfl (qns rfl)
          have c1 := b.at_ 1 _ rfl
          clear b
          refine qvr fun ρ hA => ?_
          have h0 : ρ (.tmp 32) = .pointer (some ⟨w.heap.size, 1, none⟩) := pg 3 hA hap (by rw [hds]; rfl) (hd 3 (by decide +kernel) (alne rfl)) (show 32 < 55 by decide)
          clear hA hd hB ho hs ha hO
          unfold execOp; go_simp
        · obtain rfl := qsj ho
          refine .call 28 #[.float .f64 ec] ?_ (CE.out W)
          generalize hA : (puts ds L _).eval = ρ
          have hg := qrg hA
          have h0 : ρ (.tmp 33) = .float .f64 ec := pg 4 hA hap (by rw [hds]; rfl) (hd 4 (by decide +kernel) (alne rfl)) (show 33 < 55 by decide)
          have hf := Tryz.func28
          unfold execOp; go_simp
        · exact absurd rfl (ha _ qh0)
        · exact absurd rfl (ha _ qh1)
        · exact absurd rfl (hs _ qh0)
        · exact absurd rfl (hs _ qh1)
   case store =>
        intro st hst L W o h us ho hd hal hC b
        rcases qm2 hst with rfl | rfl
        · dsimp only at ho hd hal hC b ⊢
          obtain rfl := qsj ho
          obtain ⟨hl, rfl⟩ := hal _ qh0 rfl
          have c0 := b.at_ 0 _ rfl
          have f0 := b.fr 0 _ rfl
          have c1 := b.at_ 1 _ rfl
          have f1 := b.fr 1 _ rfl
          refine ⟨?_, rfl⟩
          generalize hA : (puts ds L _).eval = ρ
          have h0 : ρ (.tmp 9) = .pointer (some ⟨h, 0, none⟩) := qpe 6 hA hap (by rw [hds]; rfl) hl (show 9 < 55 by decide)
          have h1 : ρ (.tmp 31) = .agg #[.float .f64 a1, .float .f64 a2] := pg 2 hA hap (by rw [hds]; rfl) (hd 2 (by decide +kernel) (alne rfl)) (show 31 < 55 by decide)
          have hst' := @fstore
          clear hA hd b ho hal hC
          simp only [putV]
          unfold execOp; go_simp
        · dsimp only at ho hd hal hC b ⊢
          obtain rfl := qsj ho
          obtain ⟨hl, rfl⟩ := hal _ qh1 rfl
          have c0 := b.at_ 0 _ rfl
          have f0 := b.fr 0 _ rfl
          have c1 := b.at_ 1 _ rfl
          have f1 := b.fr 1 _ rfl
          refine ⟨?_, rfl⟩
          generalize hA : (puts ds L _).eval = ρ
          have h0 : ρ (.tmp 10) = .pointer (some ⟨h, 0, none⟩) := qpe 7 hA hap (by rw [hds]; rfl) hl (show 10 < 55 by decide)
          have h1 : ρ (.tmp 34) = .agg #[.float .f64 e1, .float .f64 e2] := pg 5 hA hap (by rw [hds]; rfl) (hd 5 (by decide +kernel) (alne rfl)) (show 34 < 55 by decide)
          have hst' := @fstore
          clear hA hd b ho hal hC
          simp only [putV]
          unfold execOp; go_simp
   case fin =>
        intro hf W2 K
        rw [hds]
        clear hds hap ds CA CE
        (try dsimp only at K)
        generalize hf 6 = ga at *
        generalize hf 7 = ge at *
        (try unfold ptrV)
        simp only [List.set_cons_zero, List.set_cons_succ, puts, Act.put, List.setIfInBounds_toArray]
        replace K := Lib.hid K
        go_upto_region 6 with fail
        replace K := K.out
        replace K := K.more
        simp only [List.cons_append, List.nil_append] at K
        generalize hds : ([some 35, some 36, some 37, some 38, some 39, some 11, none] : List (Option Tmp)) = ds
        have hap : apartL ds = true := by rw [← hds]; decide
        replace hds := hds.symm
        refine wp_region_kv (fun hf => [some (w.heap.size, [.float .f64 ax, .float .f64 ec, .float .f64 ti, .float .f64 no, .float .f64 pe, .float .f64 ph, .float .f64 ra]), some (w.heap.size + 1, [.float .f64 t1, .float .f64 t2]), some (w.heap.size + 1 + 1, [.float .f64 0, .float .f64 0, .float .f64 0, .float .f64 0, .float .f64 0, .float .f64 0]), some (gs, [.float .f64 s1, .float .f64 s2]), some (gc, [.float .f64 k1, .float .f64 k2]), some (ga, [.float .f64 a1, .float .f64 a2]), some (ge, [.float .f64 e1, .float .f64 e2]), some (hf 5, [.float .f64 r1, .float .f64 r2])]) (fun hf => [some (.agg #[.float .f64 o1, .float .f64 o2]), some (.agg #[.float .f64 e1, .float .f64 e2]), some (.agg #[.float .f64 q1, .float .f64 q2]), some (.agg #[.float .f64 d1, .float .f64 d2]), some (.agg #[.float .f64 r1, .float .f64 r2]), some (ptrV (hf 5)), some (undef)]) [⟨5, 7, 26, [.float .f64 0, .float .f64 0]⟩] [⟨6, 7, 0, [.float .f64 r1, .float .f64 r2]⟩] [.agg #[.float .f64 o1, .float .f64 o2], .agg #[.float .f64 e1, .float .f64 e2], .agg #[.float .f64 q1, .float .f64 q2], .agg #[.float .f64 d1, .float .f64 d2], .agg #[.float .f64 r1, .float .f64 r2], undef, undef] ds (by kernel_rfl) (by rw [hds]; rfl) hap (by decide +kernel) (by decide +kernel) K ?ha ?haj ?hai ?hsi ?hss ?hsa ?hsw ?htg ?hE2 ?hE3 ?hE4 ?hL1 ?hL2 ?hL3 ?alloc ?step ?store ?fin
        case ha => intro al hal; rcases List.mem_singleton.1 hal with rfl <;> rfl
        case haj => exact quq _ _ _ rfl rfl
        case hai => exact qss rfl
        case hsi => exact quq _ _ _ rfl rfl
        case hss => exact qss rfl
        case hsa => exact qsa rfl
        case hsw =>
         intro st hst al hal e
         rcases List.mem_singleton.1 hst with rfl
         · rcases List.mem_singleton.1 hal with rfl
           · change waitsAt _ 6 5 = true; decide +kernel
        case htg =>
         intro st hst
         rcases List.mem_singleton.1 hst with rfl
         · exact .inr ⟨_, qh0, rfl, show 0 + 2 ≤ 2 by decide⟩
        case hE2 =>
         intro hf j h1 h2
         have n7 : 7 ≠ j := h1 _ qh0
         rcases j with _ | _ | _ | _ | _ | _ | _ | _ | j <;> first | rfl | exact absurd rfl n7
        case hE3 =>
         intro hf st hst g us e
         rcases List.mem_singleton.1 hst with rfl
         · simp at e
        case hE4 =>
         intro hf al hal
         rcases List.mem_singleton.1 hal with rfl
         · refine ⟨fun st hst e => ?_, fun h => absurd rfl (h _ qh0)⟩
           rcases List.mem_singleton.1 hst with rfl
           · rfl
        case hL1 => intro hf; rfl
        case hL2 =>
         intro hf i hi hna
         rcases (ql7 hi) with rfl | rfl | rfl | rfl | rfl | rfl | rfl <;> first | rfl | exact absurd rfl (hna _ qh0)
        case hL3 => intro hf al hal; rcases List.mem_singleton.1 hal with rfl <;> rfl
        case alloc =>
         intro al hal o ρ W ho
         rcases List.mem_singleton.1 hal with rfl
         · obtain rfl := qsj ho; unfold execOp ptrV objV; go_simp
        case step =>
         intro L W i o ho hs ha hd hB hO
         rcases (ql7 (Array.getElem?_eq_some_iff.1 ho).1) with rfl | rfl | rfl | rfl | rfl | rfl | rfl
         · obtain rfl := qsj ho
           refine .call 28 #[.float .f64 4607182418800017408] ?_ (CO.out W)
           generalize hA : (puts ds L _).eval = ρ
           have hc := qrc hA
           have hg := qrg hA
           have hf := Tryz.func28
           unfold execOp; go_simp
         · obtain rfl := qsj ho
           have b := hB 6 _ _ rfl (qns rfl)
           have c0 := b.at_ 0 _ rfl
           have c1 := b.at_ 1 _ rfl
           clear b
           refine qvr fun ρ hA => ?_
           have h0 : ρ (.tmp 10) = .pointer (some ⟨ge, 0, none⟩) := (po hA (by rw [hds]; decide)).trans rfl
           clear hA hd hB ho hs ha hO
           unfold execOp; go_simp
         · obtain rfl := qsj ho
           refine .call 31 #[.agg #[.float .f64 e1, .float .f64 e2]] ?_ (CQ.out W)
           generalize hA : (puts ds L _).eval = ρ
           have hg := qrg hA
           have h0 : ρ (.tmp 36) = .agg #[.float .f64 e1, .float .f64 e2] := pg 1 hA hap (by rw [hds]; rfl) (hd 1 (by decide +kernel) (alne rfl)) (show 36 < 55 by decide)
           have hf := Tryz.func31
           unfold execOp; go_simp
         · obtain rfl := qsj ho
           refine .call 30 #[.agg #[.float .f64 o1, .float .f64 o2], .agg #[.float .f64 q1, .float .f64 q2]] ?_ (CD.out W)
           generalize hA : (puts ds L _).eval = ρ
           have hg := qrg hA
           have h0 : ρ (.tmp 35) = .agg #[.float .f64 o1, .float .f64 o2] := pg 0 hA hap (by rw [hds]; rfl) (hd 0 (by decide +kernel) (alne rfl)) (show 35 < 55 by decide)
           have h1 : ρ (.tmp 37) = .agg #[.float .f64 q1, .float .f64 q2] := pg 2 hA hap (by rw [hds]; rfl) (hd 2 (by decide +kernel) (alne rfl)) (show 37 < 55 by decide)
           have hf := Tryz.func30
           unfold execOp; go_simp
         · obtain rfl := qsj ho
           refine .call 29 #[.agg #[.float .f64 d1, .float .f64 d2]] ?_ (CR.out W)
           generalize hA : (puts ds L _).eval = ρ
           have hg := qrg hA
           have h0 : ρ (.tmp 38) = .agg #[.float .f64 d1, .float .f64 d2] := pg 3 hA hap (by rw [hds]; rfl) (hd 3 (by decide +kernel) (alne rfl)) (show 38 < 55 by decide)
           have hf := Tryz.func29
           unfold execOp; go_simp
         · exact absurd rfl (ha _ qh0)
         · exact absurd rfl (hs _ qh0)
        case store =>
         intro st hst L W o h us ho hd hal hC b
         rcases List.mem_singleton.1 hst with rfl
         · dsimp only at ho hd hal hC b ⊢
           obtain rfl := qsj ho
           obtain ⟨hl, rfl⟩ := hal _ qh0 rfl
           have c0 := b.at_ 0 _ rfl
           have f0 := b.fr 0 _ rfl
           have c1 := b.at_ 1 _ rfl
           have f1 := b.fr 1 _ rfl
           refine ⟨?_, rfl⟩
           generalize hA : (puts ds L _).eval = ρ
           have h0 : ρ (.tmp 11) = .pointer (some ⟨h, 0, none⟩) := qpe 5 hA hap (by rw [hds]; rfl) hl (show 11 < 55 by decide)
           have h1 : ρ (.tmp 39) = .agg #[.float .f64 r1, .float .f64 r2] := pg 4 hA hap (by rw [hds]; rfl) (hd 4 (by decide +kernel) (alne rfl)) (show 39 < 55 by decide)
           have hst' := @fstore
           clear hA hd b ho hal hC
           simp only [putV]
           unfold execOp; go_simp
        case fin =>
         intro hf W3 K
         rw [hds]
         clear hds hap ds CO CQ CD CR
         (try dsimp only at K)
         generalize hf 5 = gr at *
         (try unfold ptrV)
         simp only [List.set_cons_zero, List.set_cons_succ, puts, Act.put, List.setIfInBounds_toArray]
         replace K := Lib.hid K
         go_upto_region 7 with fail
         replace K := K.out
         generalize hds : ([some 40, some 41, some 42, some 43, some 44, some 45, some 46, some 47, some 48, some 49, some 50, some 51, some 52, some 53, some 54, none, some 5] : List (Option Tmp)) = ds
         have hap : apartL ds = true := by rw [← hds]; decide
         replace hds := hds.symm
         refine wp_region_kv (fun hf => [some (w.heap.size, [.float .f64 ax, .float .f64 ec, .float .f64 ti, .float .f64 no, .float .f64 pe, .float .f64 ph, .float .f64 ra]), some (w.heap.size + 1, [.float .f64 t1, .float .f64 t2]), some (w.heap.size + 1 + 1, [.float .f64 l1, .float .f64 l2, .float .f64 l3, .float .f64 l4, .float .f64 l5, .float .f64 l6]), some (gs, [.float .f64 s1, .float .f64 s2]), some (gc, [.float .f64 k1, .float .f64 k2]), some (ga, [.float .f64 a1, .float .f64 a2]), some (ge, [.float .f64 e1, .float .f64 e2]), some (gr, [.float .f64 r1, .float .f64 r2])]) (fun hf => [some (.agg #[.float .f64 ax, .float .f64 ec, .float .f64 ti, .float .f64 no, .float .f64 pe, .float .f64 ph, .float .f64 ra]), some (.agg #[.float .f64 a1, .float .f64 a2]), some (.agg #[.float .f64 k1, .float .f64 k2]), some (.agg #[.float .f64 e1, .float .f64 e2]), some (.agg #[.float .f64 f1, .float .f64 f2]), some (.agg #[.float .f64 x1, .float .f64 x2]), some (.agg #[.float .f64 a1, .float .f64 a2]), some (.agg #[.float .f64 r1, .float .f64 r2]), some (.agg #[.float .f64 g1, .float .f64 g2]), some (.agg #[.float .f64 s1, .float .f64 s2]), some (.agg #[.float .f64 y1, .float .f64 y2]), some (.agg #[.float .f64 x1, .float .f64 x2, .float .f64 y1, .float .f64 y2, .float .f64 0, .float .f64 0]), some (.tuple #[.agg #[.float .f64 l1, .float .f64 l2, .float .f64 l3, .float .f64 l4, .float .f64 l5, .float .f64 l6], .int .i64 0]), some (.agg #[.float .f64 l1, .float .f64 l2, .float .f64 l3, .float .f64 l4, .float .f64 l5, .float .f64 l6]), some (.int .i64 0), some (undef), some (.int .i64 0)]) [] [⟨15, 2, 0, [.float .f64 l1, .float .f64 l2, .float .f64 l3, .float .f64 l4, .float .f64 l5, .float .f64 l6]⟩] [.agg #[.float .f64 ax, .float .f64 ec, .float .f64 ti, .float .f64 no, .float .f64 pe, .float .f64 ph, .float .f64 ra], .agg #[.float .f64 a1, .float .f64 a2], .agg #[.float .f64 k1, .float .f64 k2], .agg #[.float .f64 e1, .float .f64 e2], .agg #[.float .f64 f1, .float .f64 f2], .agg #[.float .f64 x1, .float .f64 x2], .agg #[.float .f64 a1, .float .f64 a2], .agg #[.float .f64 r1, .float .f64 r2], .agg #[.float .f64 g1, .float .f64 g2], .agg #[.float .f64 s1, .float .f64 s2], .agg #[.float .f64 y1, .float .f64 y2], .agg #[.float .f64 x1, .float .f64 x2, .float .f64 y1, .float .f64 y2, .float .f64 0, .float .f64 0], .tuple #[.agg #[.float .f64 l1, .float .f64 l2, .float .f64 l3, .float .f64 l4, .float .f64 l5, .float .f64 l6], .int .i64 0], .agg #[.float .f64 l1, .float .f64 l2, .float .f64 l3, .float .f64 l4, .float .f64 l5, .float .f64 l6], .int .i64 0, undef, .int .i64 0] ds (by kernel_rfl) (by rw [hds]; rfl) hap (by decide +kernel) (by decide +kernel) K ?ha ?haj ?hai ?hsi ?hss ?hsa ?hsw ?htg ?hE2 ?hE3 ?hE4 ?hL1 ?hL2 ?hL3 ?alloc ?step ?store ?fin
         case ha => intro al hal; cases hal
         case haj => intro al hal al' hal' e; cases hal
         case hai => intro al hal; cases hal
         case hsi => exact quq _ _ _ rfl rfl
         case hss => exact qss rfl
         case hsa =>
          intro st hst al hal
          cases hal
         case hsw =>
          intro st hst al hal e
          cases hal
         case htg =>
          intro st hst
          rcases List.mem_singleton.1 hst with rfl
          · exact .inl ⟨_, _, rfl, show 0 + 6 ≤ 6 by decide⟩
         case hE2 =>
          intro hf j h1 h2
          have n2 : 2 ≠ j := h1 _ qh0
          rcases j with _ | _ | _ | _ | _ | _ | _ | _ | j <;> first | rfl | exact absurd rfl n2
         case hE3 =>
          intro hf st hst g us e
          rcases List.mem_singleton.1 hst with rfl
          · obtain ⟨rfl, rfl⟩ := Prod.mk.inj (Option.some.inj (Option.some.inj e)); rfl
         case hE4 =>
          intro hf al hal
          cases hal
         case hL1 => intro hf; rfl
         case hL2 =>
          intro hf i hi hna
          rcases (ql17 hi) with rfl | rfl | rfl | rfl | rfl | rfl | rfl | rfl | rfl | rfl | rfl | rfl | rfl | rfl | rfl | rfl | rfl <;> first | rfl
         case hL3 => intro hf al hal; cases hal
         case alloc =>
          intro al hal o ρ W ho
          cases hal
         case step =>
          intro L W i o ho hs ha hd hB hO
          rcases (ql17 (Array.getElem?_eq_some_iff.1 ho).1) with rfl | rfl | rfl | rfl | rfl | rfl | rfl | rfl | rfl | rfl | rfl | rfl | rfl | rfl | rfl | rfl | rfl
          · obtain rfl := qsj ho
            have b := hB 0 _ _ rfl (qns rfl)
            have c0 := b.at_ 0 _ rfl
            have c1 := b.at_ 1 _ rfl
            have c2 := b.at_ 2 _ rfl
            have c3 := b.at_ 3 _ rfl
            have c4 := b.at_ 4 _ rfl
            have c5 := b.at_ 5 _ rfl
            have c6 := b.at_ 6 _ rfl
            clear b
            refine qvr fun ρ hA => ?_
            have h0 : ρ (.tmp 2) = .pointer (some ⟨w.heap.size, 0, none⟩) := (po hA (by rw [hds]; decide)).trans rfl
            clear hA hd hB ho hs ha hO
            unfold execOp; go_simp
          · obtain rfl := qsj ho
            have b := hB 5 _ _ rfl (qns rfl)
            have c0 := b.at_ 0 _ rfl
            have c1 := b.at_ 1 _ rfl
            clear b
            refine qvr fun ρ hA => ?_
            have h0 : ρ (.tmp 9) = .pointer (some ⟨ga, 0, none⟩) := (po hA (by rw [hds]; decide)).trans rfl
            clear hA hd hB ho hs ha hO
            unfold execOp; go_simp
          · obtain rfl := qsj ho
            have b := hB 4 _ _ rfl (qns rfl)
            have c0 := b.at_ 0 _ rfl
            have c1 := b.at_ 1 _ rfl
            clear b
            refine qvr fun ρ hA => ?_
            have h0 : ρ (.tmp 8) = .pointer (some ⟨gc, 0, none⟩) := (po hA (by rw [hds]; decide)).trans rfl
            clear hA hd hB ho hs ha hO
            unfold execOp; go_simp
          · obtain rfl := qsj ho
            have b := hB 6 _ _ rfl (qns rfl)
            have c0 := b.at_ 0 _ rfl
            have c1 := b.at_ 1 _ rfl
            clear b
            refine qvr fun ρ hA => ?_
            have h0 : ρ (.tmp 10) = .pointer (some ⟨ge, 0, none⟩) := (po hA (by rw [hds]; decide)).trans rfl
            clear hA hd hB ho hs ha hO
            unfold execOp; go_simp
          · obtain rfl := qsj ho
            refine .call 30 #[.agg #[.float .f64 k1, .float .f64 k2], .agg #[.float .f64 e1, .float .f64 e2]] ?_ (CF.out W)
            generalize hA : (puts ds L _).eval = ρ
            have hg := qrg hA
            have h0 : ρ (.tmp 42) = .agg #[.float .f64 k1, .float .f64 k2] := pg 2 hA hap (by rw [hds]; rfl) (hd 2 (by decide +kernel) (alne rfl)) (show 42 < 55 by decide)
            have h1 : ρ (.tmp 43) = .agg #[.float .f64 e1, .float .f64 e2] := pg 3 hA hap (by rw [hds]; rfl) (hd 3 (by decide +kernel) (alne rfl)) (show 43 < 55 by decide)
            have hf := Tryz.func30
            unfold execOp; go_simp
          · obtain rfl := qsj ho
            refine .call 33 #[.agg #[.float .f64 a1, .float .f64 a2], .agg #[.float .f64 f1, .float .f64 f2]] ?_ (CX.out W)
            generalize hA : (puts ds L _).eval = ρ
            have hg := qrg hA
            have h0 : ρ (.tmp 41) = .agg #[.float .f64 a1, .float .f64 a2] := pg 1 hA hap (by rw [hds]; rfl) (hd 1 (by decide +kernel) (alne rfl)) (show 41 < 55 by decide)
            have h1 : ρ (.tmp 44) = .agg #[.float .f64 f1, .float .f64 f2] := pg 4 hA hap (by rw [hds]; rfl) (hd 4 (by decide +kernel) (alne rfl)) (show 44 < 55 by decide)
            have hf := Tryz.func33
            unfold execOp; go_simp
          · obtain rfl := qsj ho
            have b := hB 5 _ _ rfl (qns rfl)
            have c0 := b.at_ 0 _ rfl
            have c1 := b.at_ 1 _ rfl
            clear b
            refine qvr fun ρ hA => ?_
            have h0 : ρ (.tmp 9) = .pointer (some ⟨ga, 0, none⟩) := (po hA (by rw [hds]; decide)).trans rfl
            clear hA hd hB ho hs ha hO
            unfold execOp; go_simp
          · obtain rfl := qsj ho
            have b := hB 7 _ _ rfl (qns rfl)
            have c0 := b.at_ 0 _ rfl
            have c1 := b.at_ 1 _ rfl
            clear b
            refine qvr fun ρ hA => ?_
            have h0 : ρ (.tmp 11) = .pointer (some ⟨gr, 0, none⟩) := (po hA (by rw [hds]; decide)).trans rfl
            clear hA hd hB ho hs ha hO
            unfold execOp; go_simp
          · obtain rfl := qsj ho
            refine .call 33 #[.agg #[.float .f64 a1, .float .f64 a2], .agg #[.float .f64 r1, .float .f64 r2]] ?_ (CG.out W)
            generalize hA : (puts ds L _).eval = ρ
            have hg := qrg hA
            have h0 : ρ (.tmp 46) = .agg #[.float .f64 a1, .float .f64 a2] := pg 6 hA hap (by rw [hds]; rfl) (hd 6 (by decide +kernel) (alne rfl)) (show 46 < 55 by decide)
            have h1 : ρ (.tmp 47) = .agg #[.float .f64 r1, .float .f64 r2] := pg 7 hA hap (by rw [hds]; rfl) (hd 7 (by decide +kernel) (alne rfl)) (show 47 < 55 by decide)
            have hf := Tryz.func33
            unfold execOp; go_simp
          · obtain rfl := qsj ho
            have b := hB 3 _ _ rfl (qns rfl)
            have c0 := b.at_ 0 _ rfl
            have c1 := b.at_ 1 _ rfl
            clear b
            refine qvr fun ρ hA => ?_
            have h0 : ρ (.tmp 7) = .pointer (some ⟨gs, 0, none⟩) := (po hA (by rw [hds]; decide)).trans rfl
            clear hA hd hB ho hs ha hO
            unfold execOp; go_simp
          · obtain rfl := qsj ho
            refine .call 33 #[.agg #[.float .f64 g1, .float .f64 g2], .agg #[.float .f64 s1, .float .f64 s2]] ?_ (CY.out W)
            generalize hA : (puts ds L _).eval = ρ
            have hg := qrg hA
            have h0 : ρ (.tmp 48) = .agg #[.float .f64 g1, .float .f64 g2] := pg 8 hA hap (by rw [hds]; rfl) (hd 8 (by decide +kernel) (alne rfl)) (show 48 < 55 by decide)
            have h1 : ρ (.tmp 49) = .agg #[.float .f64 s1, .float .f64 s2] := pg 9 hA hap (by rw [hds]; rfl) (hd 9 (by decide +kernel) (alne rfl)) (show 49 < 55 by decide)
            have hf := Tryz.func33
            unfold execOp; go_simp
          · obtain rfl := qsj ho
            refine qvr fun ρ hA => ?_
            have hc := qrc hA
            have h0 : ρ (.tmp 45) = .agg #[.float .f64 x1, .float .f64 x2] := pg 5 hA hap (by rw [hds]; rfl) (hd 5 (by decide +kernel) (alne rfl)) (show 45 < 55 by decide)
            have h1 : ρ (.tmp 50) = .agg #[.float .f64 y1, .float .f64 y2] := pg 10 hA hap (by rw [hds]; rfl) (hd 10 (by decide +kernel) (alne rfl)) (show 50 < 55 by decide)
            clear hA hd hB ho hs ha hO
            unfold execOp; go_simp
          · obtain rfl := qsj ho
            refine .call 32 #[.agg #[.float .f64 ax, .float .f64 ec, .float .f64 ti, .float .f64 no, .float .f64 pe, .float .f64 ph, .float .f64 ra], .agg #[.float .f64 x1, .float .f64 x2, .float .f64 y1, .float .f64 y2, .float .f64 0, .float .f64 0]] ?_ (CT.out W)
            generalize hA : (puts ds L _).eval = ρ
            have hg := qrg hA
            have h0 : ρ (.tmp 40) = .agg #[.float .f64 ax, .float .f64 ec, .float .f64 ti, .float .f64 no, .float .f64 pe, .float .f64 ph, .float .f64 ra] := pg 0 hA hap (by rw [hds]; rfl) (hd 0 (by decide +kernel) (alne rfl)) (show 40 < 55 by decide)
            have h1 : ρ (.tmp 51) = .agg #[.float .f64 x1, .float .f64 x2, .float .f64 y1, .float .f64 y2, .float .f64 0, .float .f64 0] := pg 11 hA hap (by rw [hds]; rfl) (hd 11 (by decide +kernel) (alne rfl)) (show 51 < 55 by decide)
            have hf := Tryz.func32
            unfold execOp; go_simp
          · obtain rfl := qsj ho
            refine qvr fun ρ hA => ?_
            have hc := qrc hA
            have h0 : ρ (.tmp 52) = .tuple #[.agg #[.float .f64 l1, .float .f64 l2, .float .f64 l3, .float .f64 l4, .float .f64 l5, .float .f64 l6], .int .i64 0] := pg 12 hA hap (by rw [hds]; rfl) (hd 12 (by decide +kernel) (alne rfl)) (show 52 < 55 by decide)
            clear hA hd hB ho hs ha hO
            unfold execOp; go_simp
          · obtain rfl := qsj ho
            refine qvr fun ρ hA => ?_
            have hc := qrc hA
            have h0 : ρ (.tmp 52) = .tuple #[.agg #[.float .f64 l1, .float .f64 l2, .float .f64 l3, .float .f64 l4, .float .f64 l5, .float .f64 l6], .int .i64 0] := pg 12 hA hap (by rw [hds]; rfl) (hd 12 (by decide +kernel) (alne rfl)) (show 52 < 55 by decide)
            clear hA hd hB ho hs ha hO
            unfold execOp; go_simp
          · exact absurd rfl (hs _ qh0)
          · obtain rfl := qsj ho
            refine qvr fun ρ hA => ?_
            have hc := qrc hA
            have h0 : ρ (.tmp 54) = .int .i64 0 := pg 14 hA hap (by rw [hds]; rfl) (hd 14 (by decide +kernel) (alne rfl)) (show 54 < 55 by decide)
            clear hA hd hB ho hs ha hO
            unfold execOp; go_simp
         case store =>
          intro st hst L W o h us ho hd hal hC b
          rcases List.mem_singleton.1 hst with rfl
          · dsimp only at ho hd hal hC b ⊢
            obtain rfl := qsj ho
            obtain ⟨hh, rfl⟩ := hC _ _ rfl
            replace hh := hh.symm
            subst hh
            have c0 := b.at_ 0 _ rfl
            have f0 := b.fr 0 _ rfl
            have c1 := b.at_ 1 _ rfl
            have f1 := b.fr 1 _ rfl
            have c2 := b.at_ 2 _ rfl
            have f2 := b.fr 2 _ rfl
            have c3 := b.at_ 3 _ rfl
            have f3 := b.fr 3 _ rfl
            have c4 := b.at_ 4 _ rfl
            have f4 := b.fr 4 _ rfl
            have c5 := b.at_ 5 _ rfl
            have f5 := b.fr 5 _ rfl
            refine ⟨?_, rfl⟩
            generalize hA : (puts ds L _).eval = ρ
            have h0 : ρ (.tmp 4) = .pointer (some ⟨w.heap.size + 1 + 1, 0, none⟩) := (po hA (by rw [hds]; decide)).trans rfl
            have h1 : ρ (.tmp 53) = .agg #[.float .f64 l1, .float .f64 l2, .float .f64 l3, .float .f64 l4, .float .f64 l5, .float .f64 l6] := pg 13 hA hap (by rw [hds]; rfl) (hd 13 (by decide +kernel) (alne rfl)) (show 53 < 55 by decide)
            have hst' := @fstore
            clear hA hd b ho hal hC
            simp only [putV]
            unfold execOp; go_simp
         case fin =>
          intro hf W4 K
          rw [hds]
          clear hds hap ds CF CX CG CY CT
          (try dsimp only at K)
          simp only [List.set_cons_zero, List.set_cons_succ, puts, Act.put, List.setIfInBounds_toArray]
          have c2_0 := K.ce 2 0 rfl rfl
          have c2_1 := K.ce 2 1 rfl rfl
          have c2_2 := K.ce 2 2 rfl rfl
          have c2_3 := K.ce 2 3 rfl rfl
          have c2_4 := K.ce 2 4 rfl rfl
          have c2_5 := K.ce 2 5 rfl rfl
          replace K := Lib.hid K
          go_wp2_with fail
          replace K := K.out
          (try simp only [Exit.inBlock, Exit.then])
          refine bodyPost_ret (v := .tuple #[.agg #[.float .f64 l1, .float .f64 l2, .float .f64 l3, .float .f64 l4, .float .f64 l5, .float .f64 l6], .int .i64 0]) ?_ rfl ⟨rfl, ?_⟩
          · rw [results_cell_tmp rfl]; go_simp
          · exact K.old
end Go.Proofs.YtdfcchocabapkaaGreat
