/- Proved here: what the texts Obs, Obt prove, one behind the other. -/
import Derived.Test.YtdfcchocabapkaaGreatJq6
import Derived.Test.YtdfcchocabapkaaGreatJy11
import Derived.Test.YtdfcchocabapkaaGreatJy1

set_option maxHeartbeats 4000000
set_option maxRecDepth 100000
namespace Go.Proofs.YtdfcchocabapkaaGreat
open Go.ChangeShapes Go.WideShapes Go.ChangeAt Go.RowKit Ieee.Own Pol

theorem omeans_shape {ax ec ti no pe ph ra t1 t2 a1 a2 b1 b2 c1 c2 d1 d2 e1 e2 m1 m2 md x n : Nat} {k : Int} (CP : Hid (∀ w, Calls Tryz.prog 28 #[.float .f64 ph] w fun en w' => en = .returned (.agg #[.float .f64 a1, .float .f64 a2]) ∧ Below w.heap.size w w')) (CR : Hid (∀ w, Calls Tryz.prog 28 #[.float .f64 ra] w fun en w' => en = .returned (.agg #[.float .f64 b1, .float .f64 b2]) ∧ Below w.heap.size w w')) (CM : Hid (∀ w, Calls Tryz.prog 33 #[.agg #[.float .f64 b1, .float .f64 b2], .agg #[.float .f64 t1, .float .f64 t2]] w fun en w' => en = .returned (.agg #[.float .f64 c1, .float .f64 c2]) ∧ Below w.heap.size w w')) (CA : Hid (∀ w, Calls Tryz.prog 67 #[.agg #[.float .f64 a1, .float .f64 a2], .agg #[.float .f64 c1, .float .f64 c2]] w fun en w' => en = .returned (.agg #[.float .f64 d1, .float .f64 d2]) ∧ Below w.heap.size w w')) (CI : Hid (∀ w, Calls Tryz.prog 68 #[.agg #[.float .f64 d1, .float .f64 d2]] w fun en w' => en = .returned (.tuple #[.float .f64 md, .int .i64 k]) ∧ Below w.heap.size w w')) (r1 : ∀ ty w, (binOp .add ty (.float .f64 md) (.float .f64 4602678819172646912)).run Tryz.prog w = .ok (.float .f64 x) w) (CF : Hid (∀ w, Calls Tryz.prog 69 #[.float .f64 x] w fun en w' => en = .returned (.float .f64 n) ∧ Below w.heap.size w w')) (CN : Hid (∀ w, Calls Tryz.prog 28 #[.float .f64 n] w fun en w' => en = .returned (.agg #[.float .f64 e1, .float .f64 e2]) ∧ Below w.heap.size w w')) (CS : Hid (∀ w, Calls Tryz.prog 30 #[.agg #[.float .f64 d1, .float .f64 d2], .agg #[.float .f64 e1, .float .f64 e2]] w fun en w' => en = .returned (.agg #[.float .f64 m1, .float .f64 m2]) ∧ Below w.heap.size w w')) (w : World) : Calls Tryz.prog 27 #[.agg #[.float .f64 ax, .float .f64 ec, .float .f64 ti, .float .f64 no, .float .f64 pe, .float .f64 ph, .float .f64 ra], .agg #[.float .f64 t1, .float .f64 t2]] w fun en w' => en = .returned (.agg #[.float .f64 m1, .float .f64 m2]) ∧ Below w.heap.size w w' := by
 have K0 := kv3 w 24 26 26 [.float .f64 ax, .float .f64 ec, .float .f64 ti, .float .f64 no, .float .f64 pe, .float .f64 ph, .float .f64 ra] [.float .f64 t1, .float .f64 t2] [.float .f64 0, .float .f64 0]
 simp only [objV] at K0
 have hst := @fstore
 replace K0 := Lib.hid K0
 go_enter Tryz.func27, Tryz.ntmps27
 go_upto_region 1 with fail
 have K := K0.out
 clear K0
 generalize ((w.alloc _).alloc _).alloc _ = wr at *
 replace K := K.more
 simp only [List.cons_append, List.nil_append] at K
 generalize hds : ([some 8, some 9, some 10, some 11, some 12, some 13, some 14, some 15, some 16, some 5, none] : List (Option Tmp)) = ds
 have hap : apartL ds = true := by rw [← hds]; decide
 replace hds := hds.symm
 refine wp_region_kv (fun hf => [some (w.heap.size, [.float .f64 ax, .float .f64 ec, .float .f64 ti, .float .f64 no, .float .f64 pe, .float .f64 ph, .float .f64 ra]), some (w.heap.size + 1, [.float .f64 t1, .float .f64 t2]), some (w.heap.size + 1 + 1, [.float .f64 0, .float .f64 0]), some (hf 9, [.float .f64 d1, .float .f64 d2])]) (fun hf => [some (.pointer (some ⟨w.heap.size, 5, none⟩)), some (.float .f64 ph), some (.agg #[.float .f64 a1, .float .f64 a2]), some (.pointer (some ⟨w.heap.size, 6, none⟩)), some (.float .f64 ra), some (.agg #[.float .f64 b1, .float .f64 b2]), some (.agg #[.float .f64 t1, .float .f64 t2]), some (.agg #[.float .f64 c1, .float .f64 c2]), some (.agg #[.float .f64 d1, .float .f64 d2]), some (ptrV (hf 9)), some (undef)]) [⟨9, 3, 26, [.float .f64 0, .float .f64 0]⟩] [⟨10, 3, 0, [.float .f64 d1, .float .f64 d2]⟩] [.pointer (some ⟨w.heap.size, 5, none⟩), .float .f64 ph, .agg #[.float .f64 a1, .float .f64 a2], .pointer (some ⟨w.heap.size, 6, none⟩), .float .f64 ra, .agg #[.float .f64 b1, .float .f64 b2], .agg #[.float .f64 t1, .float .f64 t2], .agg #[.float .f64 c1, .float .f64 c2], .agg #[.float .f64 d1, .float .f64 d2], undef, undef] ds (by kernel_rfl) (by rw [hds]; rfl) hap (by decide +kernel) (by decide +kernel) K ?ha ?haj ?hai ?hsi ?hss ?hsa ?hsw ?htg ?hE2 ?hE3 ?hE4 ?hL1 ?hL2 ?hL3 ?alloc ?step ?store ?fin
 case ha => intro al hal; rcases List.mem_singleton.1 hal with rfl <;> rfl
 case haj => exact quq _ _ _ rfl rfl
 case hai => exact qss rfl
 case hsi => exact quq _ _ _ rfl rfl
 case hss => exact qss rfl
 case hsa => exact qsa rfl
 case hsw =>
  intro st hst al hal e
  rcases List.mem_singleton.1 hst with rfl
  · rcases List.mem_singleton.1 hal with rfl
    · change waitsAt _ 10 9 = true; decide +kernel
 case htg =>
  intro st hst
  rcases List.mem_singleton.1 hst with rfl
  · exact .inr ⟨_, qh0, rfl, show 0 + 2 ≤ 2 by decide⟩
 case hE2 =>
  intro hf j h1 h2
  have n3 : 3 ≠ j := h1 _ qh0
  rcases j with _ | _ | _ | _ | j <;> first | rfl | exact absurd rfl n3
 case hE3 =>
  intro hf st hst g us e
  rcases List.mem_singleton.1 hst with rfl
  · simp at e
 case hE4 =>
  intro hf al hal
  rcases List.mem_singleton.1 hal with rfl
  · refine ⟨fun st hst e => ?_, fun h => absurd rfl (h _ qh0)⟩
    rcases List.mem_singleton.1 hst with rfl
    · rfl
 case hL1 => intro hf; rfl
 case hL2 =>
  intro hf i hi hna
  rcases (ql11 hi) with rfl | rfl | rfl | rfl | rfl | rfl | rfl | rfl | rfl | rfl | rfl <;> first | rfl | exact absurd rfl (hna _ qh0)
 case hL3 => intro hf al hal; rcases List.mem_singleton.1 hal with rfl <;> rfl
 case alloc =>
  intro al hal o ρ W ho
  rcases List.mem_singleton.1 hal with rfl
  · obtain rfl := qsj ho; unfold execOp ptrV objV; go_simp
 case step =>
  intro L W i o ho hs ha hd hB hO
  rcases (ql11 (Array.getElem?_eq_some_iff.1 ho).1) with rfl | rfl | rfl | rfl | rfl | rfl | rfl | rfl | rfl | rfl | rfl
  · obtain rfl := qsj ho
    refine qvr fun ρ hA => ?_
    have hc := qrc hA
    have h0 : ρ (.tmp 2) = .pointer (some ⟨w.heap.size, 0, none⟩) := (po hA (by rw [hds]; decide)).trans rfl
    clear hA hd hB ho hs ha hO
    unfold execOp; go_simp
  · obtain rfl := qsj ho
    have b := hB 0 _ _ rfl (qns rfl)
    have c5 := b.at_ 5 _ rfl
    clear b
    refine qvr fun ρ hA => ?_
    have h0 : ρ (.tmp 8) = .pointer (some ⟨w.heap.size, 5, none⟩) := pg 0 hA hap (by rw [hds]; rfl) (hd 0 (by decide +kernel) (alne rfl)) (show 8 < 28 by decide)
    clear hA hd hB ho hs ha hO
    unfold execOp; go_simp
  · obtain rfl := qsj ho
    refine .call 28 #[.float .f64 ph] ?_ (CP.out W)
    generalize hA : (puts ds L _).eval = ρ
    have hg := qrg hA
    have h0 : ρ (.tmp 9) = .float .f64 ph := pg 1 hA hap (by rw [hds]; rfl) (hd 1 (by decide +kernel) (alne rfl)) (show 9 < 28 by decide)
    have hf := Tryz.func28
    unfold execOp; go_simp
  · obtain rfl := qsj ho
    refine qvr fun ρ hA => ?_
    have hc := qrc hA
    have h0 : ρ (.tmp 2) = .pointer (some ⟨w.heap.size, 0, none⟩) := (po hA (by rw [hds]; decide)).trans rfl
    clear hA hd hB ho hs ha hO
    unfold execOp; go_simp
  · obtain rfl := qsj ho
    have b := hB 0 _ _ rfl (qns rfl)
    have c6 := b.at_ 6 _ rfl
    clear b
    refine qvr fun ρ hA => ?_
    have h0 : ρ (.tmp 11) = .pointer (some ⟨w.heap.size, 6, none⟩) := pg 3 hA hap (by rw [hds]; rfl) (hd 3 (by decide +kernel) (alne rfl)) (show 11 < 28 by decide)
    clear hA hd hB ho hs ha hO
    unfold execOp; go_simp
  · obtain rfl := qsj ho
    refine .call 28 #[.float .f64 ra] ?_ (CR.out W)
    generalize hA : (puts ds L _).eval = ρ
    have hg := qrg hA
    have h0 : ρ (.tmp 12) = .float .f64 ra := pg 4 hA hap (by rw [hds]; rfl) (hd 4 (by decide +kernel) (alne rfl)) (show 12 < 28 by decide)
    have hf := Tryz.func28
    unfold execOp; go_simp
  · obtain rfl := qsj ho
    have b := hB 1 _ _ rfl (qns rfl)
    have c0 := b.at_ 0 _ rfl
    have c1 := b.at_ 1 _ rfl
    clear b
    refine qvr fun ρ hA => ?_
    have h0 : ρ (.tmp 3) = .pointer (some ⟨w.heap.size + 1, 0, none⟩) := (po hA (by rw [hds]; decide)).trans rfl
    clear hA hd hB ho hs ha hO
    unfold execOp; go_simp
  · obtain rfl := qsj ho
    refine .call 33 #[.agg #[.float .f64 b1, .float .f64 b2], .agg #[.float .f64 t1, .float .f64 t2]] ?_ (CM.out W)
    generalize hA : (puts ds L _).eval = ρ
    have hg := qrg hA
    have h0 : ρ (.tmp 13) = .agg #[.float .f64 b1, .float .f64 b2] := pg 5 hA hap (by rw [hds]; rfl) (hd 5 (by decide +kernel) (alne rfl)) (show 13 < 28 by decide)
    have h1 : ρ (.tmp 14) = .agg #[.float .f64 t1, .float .f64 t2] := pg 6 hA hap (by rw [hds]; rfl) (hd 6 (by decide +kernel) (alne rfl)) (show 14 < 28 by decide)
    have hf := Tryz.func33
    unfold execOp; go_simp
  · obtain rfl := qsj ho
    refine .call 67 #[.agg #[.float .f64 a1, .float .f64 a2], .agg #[.float .f64 c1, .float .f64 c2]] ?_ (CA.out W)
    generalize hA : (puts ds L _).eval = ρ
    have hg := qrg hA
    have h0 : ρ (.tmp 10) = .agg #[.float .f64 a1, .float .f64 a2] := pg 2 hA hap (by rw [hds]; rfl) (hd 2 (by decide +kernel) (alne rfl)) (show 10 < 28 by decide)
    have h1 : ρ (.tmp 15) = .agg #[.float .f64 c1, .float .f64 c2] := pg 7 hA hap (by rw [hds]; rfl) (hd 7 (by decide +kernel) (alne rfl)) (show 15 < 28 by decide)
    have hf := Tryz.func67
    unfold execOp; go_simp
  · exact absurd rfl (ha _ qh0)
  · exact absurd rfl (hs _ qh0)
 case store =>
  intro st hst L W o h us ho hd hal hC b
  rcases List.mem_singleton.1 hst with rfl
  · dsimp only at ho hd hal hC b ⊢
    obtain rfl := qsj ho
    obtain ⟨hl, rfl⟩ := hal _ qh0 rfl
    have c0 := b.at_ 0 _ rfl
    have f0 := b.fr 0 _ rfl
    have c1 := b.at_ 1 _ rfl
    have f1 := b.fr 1 _ rfl
    refine ⟨?_, rfl⟩
    generalize hA : (puts ds L _).eval = ρ
    have h0 : ρ (.tmp 5) = .pointer (some ⟨h, 0, none⟩) := qpe 9 hA hap (by rw [hds]; rfl) hl (show 5 < 28 by decide)
    have h1 : ρ (.tmp 16) = .agg #[.float .f64 d1, .float .f64 d2] := pg 8 hA hap (by rw [hds]; rfl) (hd 8 (by decide +kernel) (alne rfl)) (show 16 < 28 by decide)
    have hst' := @fstore
    clear hA hd b ho hal hC
    simp only [putV]
    unfold execOp; go_simp
 case fin =>
  intro hf W0 K
  rw [hds]
  clear hds hap ds CP CR CM CA
  (try dsimp only at K)
  generalize hf 9 = ga at *
  (try unfold ptrV)
  simp only [List.set_cons_zero, List.set_cons_succ, puts, Act.put, List.setIfInBounds_toArray]
  have c3_0 := K.ce 3 0 rfl rfl
  have c3_1 := K.ce 3 1 rfl rfl
  replace K := Lib.hid K
  go_wp2_with fail
  replace K := K.out
  refine (CI.out W0).mono ?_
  rintro _ v1 ⟨rfl, hb⟩
  clear c3_0 c3_1
  replace K := K.on hb
  clear hb CI
  replace K := Lib.hid K
  go_upto_region 3 with fail
  replace K := K.out
  generalize hds : ([some 22, some 23, some 24, some 25, some 26, some 27, none] : List (Option Tmp)) = ds
  have hap : apartL ds = true := by rw [← hds]; decide
  replace hds := hds.symm
  refine wp_region_kv (fun hf => [some (w.heap.size, [.float .f64 ax, .float .f64 ec, .float .f64 ti, .float .f64 no, .float .f64 pe, .float .f64 ph, .float .f64 ra]), some (w.heap.size + 1, [.float .f64 t1, .float .f64 t2]), some (w.heap.size + 1 + 1, [.float .f64 m1, .float .f64 m2]), some (ga, [.float .f64 d1, .float .f64 d2])]) (fun hf => [some (.agg #[.float .f64 d1, .float .f64 d2]), some (.float .f64 md), some (.float .f64 x), some (.float .f64 n), some (.agg #[.float .f64 e1, .float .f64 e2]), some (.agg #[.float .f64 m1, .float .f64 m2]), some (undef)]) [] [⟨6, 2, 0, [.float .f64 m1, .float .f64 m2]⟩] [.agg #[.float .f64 d1, .float .f64 d2], .float .f64 md, .float .f64 x, .float .f64 n, .agg #[.float .f64 e1, .float .f64 e2], .agg #[.float .f64 m1, .float .f64 m2], undef] ds (by kernel_rfl) (by rw [hds]; rfl) hap (by decide +kernel) (by decide +kernel) K ?ha ?haj ?hai ?hsi ?hss ?hsa ?hsw ?htg ?hE2 ?hE3 ?hE4 ?hL1 ?hL2 ?hL3 ?alloc ?step ?store ?fin
  case ha => intro al hal; cases hal
  case haj => intro al hal al' hal' e; cases hal
  case hai => intro al hal; cases hal
  case hsi => exact quq _ _ _ rfl rfl
  case hss => exact qss rfl
  case hsa =>
   intro st hst al hal
   cases hal
  case hsw =>
   intro st hst al hal e
   cases hal
  case htg =>
   intro st hst
   rcases List.mem_singleton.1 hst with rfl
   · exact .inl ⟨_, _, rfl, show 0 + 2 ≤ 2 by decide⟩
  case hE2 =>
   intro hf j h1 h2
   have n2 : 2 ≠ j := h1 _ qh0
   rcases j with _ | _ | _ | _ | j <;> first | rfl | exact absurd rfl n2
  case hE3 =>
   intro hf st hst g us e
   rcases List.mem_singleton.1 hst with rfl
   · obtain ⟨rfl, rfl⟩ := Prod.mk.inj (Option.some.inj (Option.some.inj e)); rfl
  case hE4 =>
   intro hf al hal
   cases hal
  case hL1 => intro hf; rfl
  case hL2 =>
   intro hf i hi hna
   rcases (ql7 hi) with rfl | rfl | rfl | rfl | rfl | rfl | rfl <;> first | rfl
  case hL3 => intro hf al hal; cases hal
  case alloc =>
   intro al hal o ρ W ho
   cases hal
  case step =>
   intro L W i o ho hs ha hd hB hO
   rcases (ql7 (Array.getElem?_eq_some_iff.1 ho).1) with rfl | rfl | rfl | rfl | rfl | rfl | rfl
   · obtain rfl := qsj ho
     have b := hB 3 _ _ rfl (qns rfl)
     have c0 := b.at_ 0 _ rfl
     have c1 := b.at_ 1 _ rfl
     clear b
     refine qvr fun ρ hA => ?_
     have h0 : ρ (.tmp 5) = .pointer (some ⟨ga, 0, none⟩) := (po hA (by rw [hds]; decide)).trans rfl
     clear hA hd hB ho hs ha hO
     unfold execOp; go_simp
   · obtain rfl := qsj ho
     refine qvr fun ρ hA => ?_
     have hc := qrc hA
     have h0 : ρ (.tmp 6) = .float .f64 md := (po hA (by rw [hds]; decide)).trans rfl
     clear hA hd hB ho hs ha hO
     unfold execOp; go_simp
   · obtain rfl := qsj ho
     refine qvr fun ρ hA => ?_
     have hc := qrc hA
     have h0 : ρ (.tmp 23) = .float .f64 md := pg 1 hA hap (by rw [hds]; rfl) (hd 1 (by decide +kernel) (alne rfl)) (show 23 < 28 by decide)
     clear hA hd hB ho hs ha hO
     have h9 := r1
     unfold execOp; go_simp
   · obtain rfl := qsj ho
     refine .call 69 #[.float .f64 x] ?_ (CF.out W)
     generalize hA : (puts ds L _).eval = ρ
     have hg := qrg hA
     have h0 : ρ (.tmp 24) = .float .f64 x := pg 2 hA hap (by rw [hds]; rfl) (hd 2 (by decide +kernel) (alne rfl)) (show 24 < 28 by decide)
     have hf := Tryz.func69
     unfold execOp; go_simp
   · obtain rfl := qsj ho
     refine .call 28 #[.float .f64 n] ?_ (CN.out W)
     generalize hA : (puts ds L _).eval = ρ
     have hg := qrg hA
     have h0 : ρ (.tmp 25) = .float .f64 n := pg 3 hA hap (by rw [hds]; rfl) (hd 3 (by decide +kernel) (alne rfl)) (show 25 < 28 by decide)
     have hf := Tryz.func28
     unfold execOp; go_simp
   · obtain rfl := qsj ho
     refine .call 30 #[.agg #[.float .f64 d1, .float .f64 d2], .agg #[.float .f64 e1, .float .f64 e2]] ?_ (CS.out W)
     generalize hA : (puts ds L _).eval = ρ
     have hg := qrg hA
     have h0 : ρ (.tmp 22) = .agg #[.float .f64 d1, .float .f64 d2] := pg 0 hA hap (by rw [hds]; rfl) (hd 0 (by decide +kernel) (alne rfl)) (show 22 < 28 by decide)
     have h1 : ρ (.tmp 26) = .agg #[.float .f64 e1, .float .f64 e2] := pg 4 hA hap (by rw [hds]; rfl) (hd 4 (by decide +kernel) (alne rfl)) (show 26 < 28 by decide)
     have hf := Tryz.func30
     unfold execOp; go_simp
   · exact absurd rfl (hs _ qh0)
  case store =>
   intro st hst L W o h us ho hd hal hC b
   rcases List.mem_singleton.1 hst with rfl
   · dsimp only at ho hd hal hC b ⊢
     obtain rfl := qsj ho
     obtain ⟨hh, rfl⟩ := hC _ _ rfl
     replace hh := hh.symm
     subst hh
     have c0 := b.at_ 0 _ rfl
     have f0 := b.fr 0 _ rfl
     have c1 := b.at_ 1 _ rfl
     have f1 := b.fr 1 _ rfl
     refine ⟨?_, rfl⟩
     generalize hA : (puts ds L _).eval = ρ
     have h0 : ρ (.tmp 4) = .pointer (some ⟨w.heap.size + 1 + 1, 0, none⟩) := (po hA (by rw [hds]; decide)).trans rfl
     have h1 : ρ (.tmp 27) = .agg #[.float .f64 m1, .float .f64 m2] := pg 5 hA hap (by rw [hds]; rfl) (hd 5 (by decide +kernel) (alne rfl)) (show 27 < 28 by decide)
     have hst' := @fstore
     clear hA hd b ho hal hC
     simp only [putV]
     unfold execOp; go_simp
  case fin =>
   intro hf W1 K
   rw [hds]
   clear hds hap ds CF CN CS
   (try dsimp only at K)
   simp only [List.set_cons_zero, List.set_cons_succ, puts, Act.put, List.setIfInBounds_toArray]
   have c2_0 := K.ce 2 0 rfl rfl
   have c2_1 := K.ce 2 1 rfl rfl
   replace K := Lib.hid K
   go_wp2_with fail
   replace K := K.out
   (try simp only [Exit.inBlock, Exit.then])
   refine bodyPost_ret (v := .agg #[.float .f64 m1, .float .f64 m2]) ?_ rfl ⟨rfl, ?_⟩
   · rw [results_cell1 rfl]; go_simp
   · exact K.old
theorem oadd_run {p q u : Pr} (hp : W2 p) (hq : W2 q) (R : AddR p q u) (w : World) : Calls Tryz.prog 67 #[pv p, pv q] w fun e w' => e = .returned (pv u) ∧ Below w.heap.size w w' :=
 oadd_shape (Lib.hid (fun w => (sadd_run p.1 p.2 q.1 q.2 hp.l1 hp.l2 hq.l1 hq.l2 w).mono fun e w' h => (⟨h.1.all.uniq R.all, h.2⟩ : e = .returned (spanE u.1 u.2 0) ∧ Below w.heap.size w w'))) w
theorem floorB {b : Nat} (h : FinW b) (w : World) : Calls Tryz.prog 69 #[.float .f64 b] w fun e w' => e = .returned (.float .f64 (wholeW .down b)) ∧ Below w.heap.size w w' := (floor_run h w).mono fun e w' h => ⟨h.1, by rw [← h.2]; exact Below.refl _ _⟩
def aD (o : Ob) (d : Nat) : Rat := Q o.ph + Q o.ra * Q d
theorem q_cap_any {x k : Nat} {w : Nat} {c : Rat} (hw : V w = 2 ^ k) (qw : Q w = c) (h : (V x).natAbs ≤ 2 ^ k) : mag (Q x) ≤ c := by
 have ce : ((2 ^ k : Nat) : Int) = 2 ^ k := Int.natCast_pow 2 k
 have a : V x ≤ V w := by rw [hw]; omega
 have b : -V w ≤ V x := by rw [hw]; omega
 have qa := Q_le.2 a
 have nb : -Q w ≤ Q x := by
  have := Rat.intCast_le_intCast.2 b
  have up := unit_pos
  rw [Rat.intCast_neg, ← Q_unit, ← Q_unit] at this
  rcases Rat.le_total (a := -Q w) (b := Q x) with z | z
  · exact z
  · have := Rat.mul_le_mul_of_nonneg_right z (Rat.le_of_lt up)
    have e : (Q x + Q w) * unit = 0 := by grind
    rcases Rat.mul_eq_zero.1 e with e | e <;> grind
 rw [qw] at qa nb
 exact mag_of nb qa
theorem q_cap {x : Nat} (h : (V x).natAbs ≤ 2 ^ 1109) : mag (Q x) ≤ 34359738368 := q_cap_any (w := 4764808405757984768) (by decide +kernel) (by decide +kernel) h
theorem fit_whole {N l m : Int} {B a : Nat} (z : N ≠ 0) (n9 : N.natAbs ≤ a) (b1 : l ≤ (B : Int)) (b2 : ((a * B : Nat) : Int) ≤ m) : l ≤ ((N.natAbs * B : Nat) : Int) ∧ ((N.natAbs * B : Nat) : Int) ≤ m := by
 have m1 : 1 * B ≤ N.natAbs * B := Nat.mul_le_mul_right _ (by omega)
 have m2 : N.natAbs * B ≤ a * B := Nat.mul_le_mul_right _ n9
 omega
theorem wd_le {b p k l : Nat} (h : Wd b p k) (hk : k ≤ l) : (V b).natAbs ≤ 2 ^ l := Nat.le_trans h.abs (two_le hk)
theorem half_mag {x : Rat} (h : mag (2 * x) ≤ 34359738368) : mag x ≤ 34359738368 := by
 have := mag_le (2 * x)
 exact mag_of (by grind) (by grind)
structure MnF (o : Ob) (t M : Pr) : Prop where
 sn : Sn M 37
 has : ∃ N : Int, (∀ d, V t.1 ≤ V d → V d ≤ V t.2 → In (aD o d - (N : Rat)) (ps M)) ∧ (Q M.2 - Q M.1 < 1 → ∀ d, V t.1 ≤ V d → V d ≤ V t.2 → mag (aD o d - (N : Rat)) ≤ 1001 / 1000)
theorem smid_mid {a b q1 q2 s : Nat} (M : MidW a b q1 q2 s) (ha : a < 18446744073709551616) (hb : b < 18446744073709551616) (h0 : errS a b = 0) (w : World) : Calls Tryz.prog 68 #[spanV a b] w fun e w' => e = .returned (.tuple #[.float .f64 (posW s), .int .i64 0]) ∧ Below w.heap.size w w' := by
 have r1 := fun w => run_div a 4611686018427387904 q1 M.d1 22 w
 have r2 := fun w => run_div b 4611686018427387904 q2 M.d2 22 w
 have r3 := fun w => run_add q1 q2 s M.ad 22 w
 have r4 := fun w => run_add s 0 _ (pos_add M.fs) 22 w
 have CB := Lib.hid (fun w => scheck_run a b ha hb w)
 have S0 : Blocks w [boxO a b] (w.alloc (boxO a b)) := (Blocks.nil w).alloc (by simp) _
 unfold boxO at S0
 unfold spanV at *
 replace S0 := Lib.hid S0
 rw [h0] at CB
 clear h0 ha hb M
 go_enter Tryz.func68, Tryz.ntmps68
 go_wp2_with fail
 have S := S0.out
 clear S0
 generalize w.alloc _ = wr at *
 refine (CB.out wr).mono ?_
 rintro _ w1 ⟨rfl, hb1⟩
 have S1 := S.on hb1
 have c00 := S1.cell 0 rfl 0 w.heap.size rfl
 have c01 := S1.cell 0 rfl 1 w.heap.size rfl
 have B1 := Lib.hid S1.old
 clear S S1 hb1
 go_wp2_with fail
 go_ret2
 exact ⟨rfl, B1.out⟩
theorem half_dvd {x y : Int} {p : Nat} (h : 2 * x = y) (d : (2 : Int) ^ (p + 1) ∣ y) : (2 : Int) ^ p ∣ x := by
 obtain ⟨c, hc⟩ := d
 refine ⟨c, ?_⟩
 rw [Int.pow_succ, Int.mul_assoc, Int.mul_left_comm] at hc
 omega
theorem half_wd {a q k : Nat} (f : FinW q) (v : 2 * V q = V a) (d : (2 : Int) ^ 822 ∣ V a) (b : (V a).natAbs ≤ 2 ^ k) : Wd q 821 k ∧ 2 * Q q = Q a := by
 refine ⟨⟨f, half_dvd v d, by omega⟩, Q_two v⟩
theorem mid_ex {a b : Nat} (S : Sn (a, b) 35) : ∃ m, (Wd m 821 1110 ∧ V a ≤ V m ∧ V m ≤ V b ∧ mag (Q m - (Q a + Q b) / 2) ≤ uR * 68719476736) ∧ ∀ w, Calls Tryz.prog 68 #[pv (a, b)] w fun e w' => e = .returned (.tuple #[.float .f64 m, .int .i64 0]) ∧ Below w.heap.size w w' := by
 obtain ⟨f1, f2, le⟩ := S.fits
 obtain ⟨q1, q2, s, M⟩ := mid_of S.l1 S.l2 f1 f2 le
 obtain ⟨p1, d1, g1, v1⟩ := half_of S.l1 f1
 obtain ⟨p2, d2, g2, v2⟩ := half_of S.l2 f2
 obtain rfl : p1 = q1 := Option.some.inj (d1.symm.trans M.d1)
 obtain rfl : p2 = q2 := Option.some.inj (d2.symm.trans M.d2)
 have b1 : (V a).natAbs ≤ 2 ^ 1109 := abs_up (k := 1074 + 35) (l := 1109) S.bd.1 (by omega)
 have b2 : (V b).natAbs ≤ 2 ^ 1109 := abs_up (k := 1074 + 35) (l := 1109) S.bd.2 (by omega)
 obtain ⟨W1, e1⟩ := half_wd g1 v1 (fit_822 S.l1 f1) b1
 obtain ⟨W2, e2⟩ := half_wd g2 v2 (fit_822 S.l2 f2) b2
 obtain ⟨o, W, r⟩ := Wd.add W1 W2 (by omega)
 obtain rfl : s = aX p1 p2 := Option.some.inj (M.ad.symm.trans o)
 have ps_ := posW_V (aX p1 p2)
 have fp := posW_fin W.fin
 have qa := q_cap b1
 have qb := q_cap b2
 have n := rd_of r 68719476736 (by
  have e1 : 2 * Q p1 = Q a := e1
  have e2 : 2 * Q p2 = Q b := e2
  exact Rat.le_trans (mag_add (half_mag (by rw [e1]; exact qa)) (half_mag (by rw [e2]; exact qb))) (by decide +kernel))
 rw [Rat.add_zero] at n
 refine ⟨posW (aX p1 p2), ⟨⟨fp, by rw [ps_]; exact W.dvd, by rw [ps_]; exact pow_as (a := 1109 + 1) (b := 1110) W.abs rfl⟩, by rw [ps_]; exact M.lo, by rw [ps_]; exact M.hi, ?_⟩, fun w => smid_mid M S.l1 S.l2 S.ok w⟩
 rw [Q_congr ps_]
 have : (Q a + Q b) / 2 = Q p1 + Q p2 := by
  have e1 : 2 * Q p1 = Q a := e1
  have e2 : 2 * Q p2 = Q b := e2
  rw [← e1, ← e2]; grind
 rw [this]; exact n
theorem unit_cut {u x n : Rat} (up : 0 < u) (l : u * n ≤ x * u) (r : x * u ≤ u * n + u) : n ≤ x ∧ x ≤ n + 1 := by
 constructor
 · rcases Rat.le_total (a := n) (b := x) with c | c
   · exact c
   · have := Rat.mul_le_mul_of_nonneg_right c (Rat.le_of_lt up)
     have e : (n - x) * u = 0 := by grind
     rcases Rat.mul_eq_zero.1 e with e | e <;> grind
 · rcases Rat.le_total (a := x) (b := n + 1) with c | c
   · exact c
   · have := Rat.mul_le_mul_of_nonneg_right c (Rat.le_of_lt up)
     have e : (x - (n + 1)) * u = 0 := by grind
     rcases Rat.mul_eq_zero.1 e with e | e <;> grind
theorem q_down {x : Nat} (h : mag (Q x) ≤ 68719476736) : (V x).natAbs ≤ 2 ^ 1110 := by
 have m := mag_le (Q x)
 have q1 : Q 4769312005385355264 = 68719476736 := by decide +kernel
 have q2 : Q 13992684042240131072 = -68719476736 := by decide +kernel
 have v1 : V 4769312005385355264 = 2 ^ 1110 := by decide +kernel
 have v2 : V 13992684042240131072 = -(2 ^ 1110) := by decide +kernel
 have a : V x ≤ V 4769312005385355264 := Q_le.1 (by rw [q1]; grind)
 have b : V 13992684042240131072 ≤ V x := Q_le.1 (by rw [q2]; grind)
 rw [v1] at a
 rw [v2] at b
 have ce : ((2 ^ 1110 : Nat) : Int) = 2 ^ 1110 := Int.natCast_pow 2 1110
 omega
theorem mean_poly {a A1 A2 m x N u : Rat} (hu : u * 68719476736 ≤ 1 / 100000) (h1 : mag (m - (A1 + A2) / 2) ≤ u * 68719476736) (h2 : mag (x - (m + 1 / 2)) ≤ u * 68719476736) (n1 : N ≤ x) (n2 : x ≤ N + 1) (a1 : A1 ≤ a) (a2 : a ≤ A2) (wd : A2 - A1 < 1) : mag (a - N) ≤ 1001 / 1000 := by
 have l1 := mag_le (m - (A1 + A2) / 2)
 have l2 := mag_le (x - (m + 1 / 2))
 exact mag_of (by grind) (by grind)
theorem means_ex {o : Ob} {t : Pr} (h : ObW o) (hO : ObOk o) (ht : W2 t) (et : timB t = true) : ∃ M, MnF o t M ∧ ∀ w, Calls Tryz.prog 27 #[obV o, pv t] w fun en w' => en = .returned (pv M) ∧ Below w.heap.size w w' := by
 have St := tim_sn ht et
 have Wp := tu_wd h.ph hO.ph
 have Wr := tu_wd h.ra hO.ra
 obtain ⟨pS, pp⟩ := pt_sn (k := 34) h.ph (up_m 34 Wp.abs (by omega)) (btw_of h.ph hO.ph).2.1
 obtain ⟨rS, rp⟩ := pt_sn (k := 10) h.ra (up_m 10 Wr.abs (by omega)) (btw_of h.ra hO.ra).2.1
 obtain ⟨C, cS, cR, cP⟩ := mul_step7 rS St (by omega)
 obtain ⟨⟨d1, d2⟩, dS, dR, dP⟩ := add_step7 pS (cS.le (show 10 + 24 ≤ 34 by omega)) (by omega)
 obtain ⟨md, ⟨mW, ml, mh, mn⟩, CI⟩ := mid_ex dS
 have hw : Wd 4602678819172646912 821 1110 := ⟨by unfold FinW; omega, by decide +kernel, by decide +kernel⟩
 have q2 : Q 4602678819172646912 = 1 / 2 := by decide +kernel
 obtain ⟨o1, xW, xr⟩ := Wd.add mW hw (by omega)
 have c1 : mag (Q d1) ≤ 34359738368 := q_cap (pow_as (a := 1074 + (34 + 1)) (b := 1109) dS.bd.1 rfl)
 have c2 : mag (Q d2) ≤ 34359738368 := q_cap (pow_as (a := 1074 + (34 + 1)) (b := 1109) dS.bd.2 rfl)
 have cm : mag (Q md) ≤ 34359738368 := by
  have a := mag_le (Q d1)
  have b := mag_le (Q d2)
  have l := Q_le.2 ml
  have u := Q_le.2 mh
  exact mag_of (by grind) (by grind)
 have x1 := rd_of xr 68719476736 (by
  rw [q2]
  exact Rat.le_trans (mag_add cm (show mag (1 / 2 : Rat) ≤ 1 by decide +kernel)) (by decide +kernel))
 rw [Rat.add_zero, q2] at x1
 obtain ⟨nf, nv⟩ := floor_spec xW.fin (wd_le xW (l := 1126) (by omega))
 obtain ⟨N, hN⟩ : ∃ N, N = V (aX md 4602678819172646912) / 2 ^ 1074 := ⟨_, rfl⟩
 rw [← hN] at nv
 have Nb := fdiv_le (k := 40) (M := 1114) (v := V (aX md 4602678819172646912)) rfl (wd_le xW (l := 1114) (by omega))
 rw [← hN] at Nb
 have QN : Q (wholeW .down (aX md 4602678819172646912)) = (N : Rat) := by
  have u := unit_pos
  have e := Q_unit (wholeW .down (aX md 4602678819172646912))
  rw [nv, Rat.intCast_mul, ← unit_int] at e
  have k : (Q (wholeW .down (aX md 4602678819172646912)) - (N : Rat)) * unit = 0 := by grind
  rcases Rat.mul_eq_zero.1 k with k | k <;> grind
 have n1 : (N : Rat) ≤ Q (aX md 4602678819172646912) ∧ Q (aX md 4602678819172646912) ≤ (N : Rat) + 1 := by
  have P : (0 : Int) < 2 ^ 1074 := Int.pow_pos (by omega)
  have a := Int.mul_ediv_add_emod (V (aX md 4602678819172646912)) (2 ^ 1074)
  have b := Int.emod_nonneg (V (aX md 4602678819172646912)) (show (2 : Int) ^ 1074 ≠ 0 by omega)
  have c := Int.emod_lt_of_pos (V (aX md 4602678819172646912)) P
  rw [← hN] at a
  have u := unit_pos
  have e := Q_unit (aX md 4602678819172646912)
  have l : ((2 ^ 1074 * N : Int) : Rat) ≤ ((V (aX md 4602678819172646912) : Int) : Rat) := Rat.intCast_le_intCast.2 (by omega)
  have r : ((V (aX md 4602678819172646912) : Int) : Rat) ≤ ((2 ^ 1074 * N + 2 ^ 1074 : Int) : Rat) := Rat.intCast_le_intCast.2 (by omega)
  rw [Rat.intCast_mul, ← unit_int, ← e] at l
  rw [Rat.intCast_add, Rat.intCast_mul, ← unit_int, ← e] at r
  exact unit_cut u l r
 have nfit : fitB (wholeW .down (aX md 4602678819172646912)) = true := by
  rw [fit_iff nf, nv]
  by_cases z : N = 0
  · left; rw [z, Int.zero_mul]
  · right
    have P : (0 : Int) < 2 ^ 1074 := Int.pow_pos (by omega)
    have cp : ((2 ^ 1074 : Nat) : Int) = 2 ^ 1074 := Int.natCast_pow 2 1074
    rw [Int.natAbs_mul, Int.natAbs_pow, show (2 : Int).natAbs = 2 from rfl]
    have b1 : leastV ≤ ((2 ^ 1074 : Nat) : Int) := by decide +kernel
    have b2 : (((2 ^ 41) * 2 ^ 1074 : Nat) : Int) ≤ mostV := by decide +kernel
    have n9 : N.natAbs ≤ 2 ^ 41 := by
        have : (2 : Nat) ^ 40 + 1 ≤ 2 ^ 41 := by decide
        omega
    clear cp
    generalize (2 : Nat) ^ 1074 = B at *
    exact fit_whole z n9 b1 b2
 have nb : (V (wholeW .down (aX md 4602678819172646912))).natAbs ≤ 2 ^ 1110 := by
  have q : mag (Q (wholeW .down (aX md 4602678819172646912))) ≤ 68719476736 := by
   rw [QN]
   have a := mag_le (Q (aX md 4602678819172646912) - (Q md + 1 / 2))
   have b := mag_le (Q md)
   have hu : uR * 68719476736 ≤ 1 / 100000 := by decide +kernel
   exact mag_of (by grind) (by grind)
  exact q_down q
 obtain ⟨nS, np⟩ := pt_sn (k := 36) nf.1 (up_m 36 nb (by omega)) nfit
 obtain ⟨M, mS, mR, m1, m2⟩ := sub_step7 (dS.le (show 35 ≤ 36 by omega)) nS (by omega)
 have inA : ∀ d, V t.1 ≤ V d → V d ≤ V t.2 → In (aD o d) (ps (d1, d2)) := fun d l u => by
  have i1 : In (Q d) (ps t) := ⟨Q_le.2 l, Q_le.2 u⟩
  have i2 : In (Q o.ra) (ps (ptS7 o.ra)) := by rw [rp]; exact ⟨Rat.le_refl, Rat.le_refl⟩
  have i3 : In (Q o.ph) (ps (ptS7 o.ph)) := by rw [pp]; exact ⟨Rat.le_refl, Rat.le_refl⟩
  exact i3.add (i2.mul i1 cP) dP
 refine ⟨M, ⟨mS, N, fun d l u => ?_, fun wd d l u => ?_⟩, fun w => ?_⟩
 · have i4 : In ((N : Int) : Rat) (ps (ptS7 (wholeW .down (aX md 4602678819172646912)))) := by rw [np, QN]; exact ⟨Rat.le_refl, Rat.le_refl⟩
   exact (inA d l u).sub7 i4 m1 m2
 · obtain ⟨a1, a2⟩ := inA d l u
   have a1 : Q d1 ≤ aD o d := a1
   have a2 : aD o d ≤ Q d2 := a2
   rw [np] at m1 m2
   have m1 : Q M.1 ≤ Q d1 - Q (wholeW .down (aX md 4602678819172646912)) := m1
   have m2 : Q d2 - Q (wholeW .down (aX md 4602678819172646912)) ≤ Q M.2 := m2
   exact mean_poly (u := uR) (by decide +kernel) mn x1 n1.1 n1.2 a1 a2 (by grind)
 · exact omeans_shape (Lib.hid (fun w => opoint_run h.ph (btw_of h.ph hO.ph).2.1 w)) (Lib.hid (fun w => opoint_run h.ra (btw_of h.ra hO.ra).2.1 w)) (Lib.hid (fun w => omul_run rS.w2 ht cR w)) (Lib.hid (fun w => oadd_run pS.w2 cS.w2 dR w)) (Lib.hid CI) (run_add _ _ _ o1) (Lib.hid (fun w => floorB xW.fin w)) (Lib.hid (fun w => opoint_run nf.1 nfit w)) (Lib.hid (fun w => osub_run dS.w2 nS.w2 mR w)) w

def prC (p : Pr) : List Value := [.float .f64 p.1, .float .f64 p.2]
theorem rows_pr (L : List Pr) : RowsOk 2 (L.map prC) := by
 refine ⟨fun r hr => ?_, fun r hr u hu => ?_⟩
 · obtain ⟨p, -, rfl⟩ := List.mem_map.1 hr; rfl
 · obtain ⟨p, -, rfl⟩ := List.mem_map.1 hr
   simp only [prC, List.mem_cons, List.not_mem_nil, or_false] at hu
   rcases hu with rfl | rfl <;> rfl
theorem recS : RecT 80 26 2 16 (.agg #[.float .f64 0, .float .f64 0]) := ⟨Tryz.underlying80, by kernel_rfl, rfl, by decide⟩
theorem cvt_no (w : World) : (convert 3 22 (.int .i64 0)).run Tryz.prog w = .ok (.float .f64 0) w := by rfl
def OwnS (base : Nat) (w : World) (L : List Pr) (v : Value) (w' : World) : Prop := OwnR 26 2 base w (L.map prC) v w'
theorem ownS_slice {base : Nat} {w w' : World} {L : List Pr} {v : Value} (h : OwnS base w L v w') : ∃ ao cap, v = .slice ao L.length cap ∧ RAt w' ao 2 (L.map prC) := by
 obtain ⟨ao, cap, h1, h2, h3, h4, -, h5⟩ := ownsR_at h.ok h.own
 rw [List.length_map] at h1
 exact ⟨ao, cap, h1, h4⟩
theorem ownS_any {base : Nat} {w w' : World} {L : List Pr} {v : Value} (h : OwnS base w L v w') : ∃ ao m c, v = .slice ao m c := by
 obtain ⟨ao, cap, e, -⟩ := ownS_slice h
 exact ⟨_, _, _, e⟩
def oneIf (b : Bool) (p : Pr) : List Pr := match b with | true => [p] | false => []
def PartsA (L : List Pr) (w : World) (e : Ending) (w' : World) : Prop := (L ≠ [] → ∃ b cap, e = .returned (.slice (some ⟨b, 0, none⟩) L.length cap) ∧ w.heap.size ≤ b ∧ BV w' b (L.map prC).flatten) ∧ Below w.heap.size w w'
theorem ownS_bv {base : Nat} {w w' : World} {L : List Pr} {v : Value} (h : OwnS base w L v w') (hn : L ≠ []) : ∃ b cap, v = .slice (some ⟨b, 0, none⟩) L.length cap ∧ base ≤ b ∧ BV w' b (L.map prC).flatten := by
 obtain ⟨ao, cap, h1, h2, h3, h4, -, h5⟩ := ownsR_at h.ok h.own
 rw [List.length_map] at h1 h5
 obtain ⟨p, hp⟩ := List.exists_mem_of_ne_nil _ hn
 obtain ⟨j, hj⟩ := List.getElem?_of_mem (List.mem_map_of_mem (f := prC) hp)
 obtain ⟨b, o, rfl, hb, -⟩ := h4 j _ hj
 obtain ⟨rfl, hbase, hf⟩ := h5 b o rfl
 refine ⟨b, cap, h1, hbase, hb, fun i u hu => ?_, fun i u hu => ?_⟩
 · obtain ⟨j', c', r', h6, h7, rfl⟩ := flat_place h.ok hu
   obtain ⟨b', o', e', -, h8⟩ := h4 j' _ h6
   simp at e'
   obtain ⟨rfl, rfl⟩ := e'
   have := h8 c' u h7
   rwa [Nat.zero_add] at this
 · have := (List.getElem?_eq_some_iff.1 hu).1
   rw [flat_len h.ok, List.length_map] at this
   exact hf i this
theorem oparts_shape {m1 m2 e0 f0 d0 g0 p0 q0 e1 f1 d1 g1 p1 q1 e2 f2 d2 g2 p2 q2 : Nat} {b0 b1 b2 : Bool} (CP0 : Hid (∀ w, Calls Tryz.prog 28 #[.float .f64 13830554455654793216] w fun en w' => en = .returned (.agg #[.float .f64 e0, .float .f64 f0]) ∧ Below w.heap.size w w')) (CA0 : Hid (∀ w, Calls Tryz.prog 67 #[.agg #[.float .f64 m1, .float .f64 m2], .agg #[.float .f64 e0, .float .f64 f0]] w fun en w' => en = .returned (.agg #[.float .f64 d0, .float .f64 g0]) ∧ Below w.heap.size w w')) (CM0 : Hid (∀ w, Calls Tryz.prog 116 #[.agg #[.float .f64 d0, .float .f64 g0], .agg #[.float .f64 13826050856027422720, .float .f64 4602678819172646912]] w fun en w' => en = .returned (.tuple #[.agg #[.float .f64 p0, .float .f64 q0], .bool b0, .int .i64 0]) ∧ Below w.heap.size w w')) (CP1 : Hid (∀ w, Calls Tryz.prog 28 #[.float .f64 0] w fun en w' => en = .returned (.agg #[.float .f64 e1, .float .f64 f1]) ∧ Below w.heap.size w w')) (CA1 : Hid (∀ w, Calls Tryz.prog 67 #[.agg #[.float .f64 m1, .float .f64 m2], .agg #[.float .f64 e1, .float .f64 f1]] w fun en w' => en = .returned (.agg #[.float .f64 d1, .float .f64 g1]) ∧ Below w.heap.size w w')) (CM1 : Hid (∀ w, Calls Tryz.prog 116 #[.agg #[.float .f64 d1, .float .f64 g1], .agg #[.float .f64 13826050856027422720, .float .f64 4602678819172646912]] w fun en w' => en = .returned (.tuple #[.agg #[.float .f64 p1, .float .f64 q1], .bool b1, .int .i64 0]) ∧ Below w.heap.size w w')) (CP2 : Hid (∀ w, Calls Tryz.prog 28 #[.float .f64 4607182418800017408] w fun en w' => en = .returned (.agg #[.float .f64 e2, .float .f64 f2]) ∧ Below w.heap.size w w')) (CA2 : Hid (∀ w, Calls Tryz.prog 67 #[.agg #[.float .f64 m1, .float .f64 m2], .agg #[.float .f64 e2, .float .f64 f2]] w fun en w' => en = .returned (.agg #[.float .f64 d2, .float .f64 g2]) ∧ Below w.heap.size w w')) (CM2 : Hid (∀ w, Calls Tryz.prog 116 #[.agg #[.float .f64 d2, .float .f64 g2], .agg #[.float .f64 13826050856027422720, .float .f64 4602678819172646912]] w fun en w' => en = .returned (.tuple #[.agg #[.float .f64 p2, .float .f64 q2], .bool b2, .int .i64 0]) ∧ Below w.heap.size w w')) (w : World) : Calls Tryz.prog 64 #[.agg #[.float .f64 m1, .float .f64 m2]] w (PartsA (oneIf b0 (p0, q0) ++ oneIf b1 (p1, q1) ++ oneIf b2 (p2, q2)) w) := by
 have K0 := kv1 w 26 [.float .f64 m1, .float .f64 m2]
 simp only [objV] at K0
 have hst := @fstore
 replace K0 := Lib.hid K0
 have N0 : Hid (OwnS (w.alloc (objV 26 [.float .f64 m1, .float .f64 m2])).heap.size (w.alloc (objV 26 [.float .f64 m1, .float .f64 m2])) [] (.slice none 0 0) (w.alloc (objV 26 [.float .f64 m1, .float .f64 m2]))) := Lib.hid (OwnR.nil _ _ _)
 simp only [objV] at N0
 go_enter Tryz.func64, Tryz.ntmps64
 go_wp2_with fail
 have K := K0.out
 clear K0
 generalize w.alloc _ = w1 at *
 replace K := Lib.hid K
 go_loopw [3, 9] (fun lv iv wr => ∃ (i : Int) (R : List Pr), iv = .int .i64 i ∧ ((i = 0 ∧ R = []) ∨ (i = 1 ∧ R = oneIf b0 (p0, q0)) ∨ (i = 2 ∧ R = oneIf b0 (p0, q0) ++ oneIf b1 (p1, q1)) ∨ (i = 3 ∧ R = oneIf b0 (p0, q0) ++ oneIf b1 (p1, q1) ++ oneIf b2 (p2, q2))) ∧ OwnS w1.heap.size w1 R lv wr) (fun _ iv _ => (3 - intOf iv).toNat)
 case atStart => exact ⟨0, [], rfl, .inl ⟨rfl, rfl⟩, N0.out⟩
 case round =>
  obtain ⟨i, R, rfl, hi, N⟩ := hrel
  have far : Hid (∀ W, Below wr.heap.size wr W → W.cell? ⟨w.heap.size, 0, none⟩ = some (.float .f64 m1) ∧ W.cell? ⟨w.heap.size, 1, none⟩ = some (.float .f64 m2)) := Lib.hid fun W hW => by
   have K2 := (K.out.on N.old).on hW
   exact ⟨(K2.at_ 0 rfl).at_ 0 _ rfl, (K2.at_ 0 rfl).at_ 1 _ rfl⟩
  have KW := K.out.on N.old
  replace KW := Lib.hid KW.old
  have gen : (i = 3 ∧ R = oneIf b0 (p0, q0) ++ oneIf b1 (p1, q1) ++ oneIf b2 (p2, q2)) ∨ (0 ≤ i ∧ i < 3 ∧ R.length ≤ 2 ∧ ∃ (c e f d g p q : Nat) (b : Bool), (∀ w, (convert 3 22 (.int .i64 (i - 1))).run Tryz.prog w = .ok (.float .f64 c) w) ∧ (∀ w, Calls Tryz.prog 28 #[.float .f64 c] w fun en w' => en = .returned (.agg #[.float .f64 e, .float .f64 f]) ∧ Below w.heap.size w w') ∧ (∀ w, Calls Tryz.prog 67 #[.agg #[.float .f64 m1, .float .f64 m2], .agg #[.float .f64 e, .float .f64 f]] w fun en w' => en = .returned (.agg #[.float .f64 d, .float .f64 g]) ∧ Below w.heap.size w w') ∧ (∀ w, Calls Tryz.prog 116 #[.agg #[.float .f64 d, .float .f64 g], .agg #[.float .f64 13826050856027422720, .float .f64 4602678819172646912]] w fun en w' => en = .returned (.tuple #[.agg #[.float .f64 p, .float .f64 q], .bool b, .int .i64 0]) ∧ Below w.heap.size w w') ∧ ∀ R', R' = R ++ oneIf b (p, q) → ((i + 1 = 0 ∧ R' = []) ∨ (i + 1 = 1 ∧ R' = oneIf b0 (p0, q0)) ∨ (i + 1 = 2 ∧ R' = oneIf b0 (p0, q0) ++ oneIf b1 (p1, q1)) ∨ (i + 1 = 3 ∧ R' = oneIf b0 (p0, q0) ++ oneIf b1 (p1, q1) ++ oneIf b2 (p2, q2)))) := by
   rcases hi with ⟨rfl, rfl⟩ | ⟨rfl, rfl⟩ | ⟨rfl, rfl⟩ | ⟨rfl, rfl⟩
   · exact .inr ⟨by decide, by decide, by simp, _, _, _, _, _, _, _, _, cvt_lo, CP0.out, CA0.out, CM0.out, fun R' h => .inr (.inl ⟨by decide, by simpa using h⟩)⟩
   · exact .inr ⟨by decide, by decide, by cases b0 <;> simp [oneIf], _, _, _, _, _, _, _, _, cvt_no, CP1.out, CA1.out, CM1.out, fun R' h => .inr (.inr (.inl ⟨by decide, h⟩))⟩
   · exact .inr ⟨by decide, by decide, by cases b0 <;> cases b1 <;> simp [oneIf], _, _, _, _, _, _, _, _, cvt_hi, CP2.out, CA2.out, CM2.out, fun R' h => .inr (.inr (.inr (⟨by decide, h⟩)))⟩
   · exact .inl ⟨rfl, rfl⟩
  obtain ⟨ao', m', c', rfl⟩ := ownS_any N
  clear hi CP0 CP1 CP2 CA0 CA1 CA2 CM0 CM1 CM2
  rcases gen with ⟨rfl, hR⟩ | ⟨h0, h3, RL2, c, e, f, d, g, p, q, b, CV, CPg, CAg, CMg, nx⟩
  · have fin : Hid (PartsA (oneIf b0 (p0, q0) ++ oneIf b1 (p1, q1) ++ oneIf b2 (p2, q2)) w (.returned (.slice ao' m' c')) wr) := Lib.hid (by
     rw [← hR]
     refine ⟨fun hn => ?_, KW.out⟩
     obtain ⟨b, cap, e, hb, B⟩ := ownS_bv N hn
     rw [e]
     exact ⟨b, cap, rfl, Nat.le_trans K.out.old.size hb, B⟩)
    clear K N0 N far KW hR
    go_wp2_with fail
    go_ret
    exact fin.out
  · clear K N0
    replace N := Lib.hid N
    replace RL2 := Lib.hid RL2
    replace CPg := Lib.hid CPg
    replace CAg := Lib.hid CAg
    replace CMg := Lib.hid CMg
    replace nx := Lib.hid nx
    have w9 : IntKind.i64.wrap (i - 1) = i - 1 := IntWalk.i64_in _ (by omega)
    go_upto_region 5 with fail
    have K := (Kv.nil wr).more
    simp only [List.nil_append] at K
    have hst := @fstore
    generalize hds : ([some 12, some 13, some 14, some 15, some 16, some 17, some 5, none] : List (Option Tmp)) = ds
    have hap : apartL ds = true := by rw [← hds]; decide
    replace hds := hds.symm
    refine wp_region_kv (fun hf => [some (hf 6, [.float .f64 d, .float .f64 g])]) (fun hf => [some (.agg #[.float .f64 m1, .float .f64 m2]), some (.int .i64 i), some (.int .i64 (i - 1)), some (.float .f64 c), some (.agg #[.float .f64 e, .float .f64 f]), some (.agg #[.float .f64 d, .float .f64 g]), some (ptrV (hf 6)), some (undef)]) [⟨6, 0, 26, [.float .f64 0, .float .f64 0]⟩] [⟨7, 0, 0, [.float .f64 d, .float .f64 g]⟩] [.agg #[.float .f64 m1, .float .f64 m2], .int .i64 i, .int .i64 (i - 1), .float .f64 c, .agg #[.float .f64 e, .float .f64 f], .agg #[.float .f64 d, .float .f64 g], undef, undef] ds (by kernel_rfl) (by rw [hds]; rfl) hap (by decide +kernel) (by decide +kernel) K ?ha ?haj ?hai ?hsi ?hss ?hsa ?hsw ?htg ?hE2 ?hE3 ?hE4 ?hL1 ?hL2 ?hL3 ?alloc ?step ?store ?fin
    case ha => intro al hal; rcases List.mem_singleton.1 hal with rfl <;> rfl
    case haj => exact quq _ _ _ rfl rfl
    case hai => exact qss rfl
    case hsi => exact quq _ _ _ rfl rfl
    case hss => exact qss rfl
    case hsa => exact qsa rfl
    case hsw =>
        intro st hst al hal e
        rcases List.mem_singleton.1 hst with rfl
        · rcases List.mem_singleton.1 hal with rfl
          · change waitsAt _ 7 6 = true; decide +kernel
    case htg =>
        intro st hst
        rcases List.mem_singleton.1 hst with rfl
        · exact .inr ⟨_, qh0, rfl, show 0 + 2 ≤ 2 by decide⟩
    case hE2 =>
        intro hf j h1 h2
        have n0 : 0 ≠ j := h1 _ qh0
        rcases j with _ | j <;> first | rfl | exact absurd rfl n0
    case hE3 =>
        intro hf st hst g us e
        rcases List.mem_singleton.1 hst with rfl
        · simp at e
    case hE4 =>
        intro hf al hal
        rcases List.mem_singleton.1 hal with rfl
        · refine ⟨fun st hst e => ?_, fun h => absurd rfl (h _ qh0)⟩
          rcases List.mem_singleton.1 hst with rfl
          · rfl
    case hL1 => intro hf; rfl
    case hL2 =>
        intro hf i hi hna
        rcases (ql8 hi) with rfl | rfl | rfl | rfl | rfl | rfl | rfl | rfl <;> first | rfl | exact absurd rfl (hna _ qh0)
    case hL3 => intro hf al hal; rcases List.mem_singleton.1 hal with rfl <;> rfl
    case alloc =>
        intro al hal o ρ W ho
        rcases List.mem_singleton.1 hal with rfl
        · obtain rfl := qsj ho; unfold execOp ptrV objV; go_simp
    case step =>
        intro L W i o ho hs ha hd hB hO
        rcases (ql8 (Array.getElem?_eq_some_iff.1 ho).1) with rfl | rfl | rfl | rfl | rfl | rfl | rfl | rfl
        · obtain rfl := qsj ho
          obtain ⟨d0, d1⟩ := far.out W hO
          refine qvr fun ρ hA => ?_
          have h0 : ρ (.tmp 1) = .pointer (some ⟨w.heap.size, 0, none⟩) := (po hA (by rw [hds]; decide)).trans rfl
          clear hA hd hB ho hs ha hO
          unfold execOp; go_simp
        · obtain rfl := qsj ho
          refine qvr fun ρ hA => ?_
          have hc := qrc hA
          have h0 : ρ (.tmp 4) = .int .i64 i := (po hA (by rw [hds]; decide)).trans rfl
          clear hA hd hB ho hs ha hO
          unfold execOp; go_simp
        · obtain rfl := qsj ho
          refine qvr fun ρ hA => ?_
          have hc := qrc hA
          have h0 : ρ (.tmp 13) = .int .i64 i := pg 1 hA hap (by rw [hds]; rfl) (hd 1 (by decide +kernel) (alne rfl)) (show 13 < 32 by decide)
          clear hA hd hB ho hs ha hO
          have w8 := w9
          unfold execOp; go_simp
        · obtain rfl := qsj ho
          refine qvr fun ρ hA => ?_
          have hc := qrc hA
          have h0 : ρ (.tmp 14) = .int .i64 (i - 1) := pg 2 hA hap (by rw [hds]; rfl) (hd 2 (by decide +kernel) (alne rfl)) (show 14 < 32 by decide)
          clear hA hd hB ho hs ha hO
          have h9 := CV
          unfold execOp; go_simp
        · obtain rfl := qsj ho
          refine .call 28 #[.float .f64 c] ?_ (CPg.out W)
          generalize hA : (puts ds L _).eval = ρ
          have hg := qrg hA
          have h0 : ρ (.tmp 15) = .float .f64 c := pg 3 hA hap (by rw [hds]; rfl) (hd 3 (by decide +kernel) (alne rfl)) (show 15 < 32 by decide)
          have hf := Tryz.func28
          unfold execOp; go_simp
        · obtain rfl := qsj ho
          refine .call 67 #[.agg #[.float .f64 m1, .float .f64 m2], .agg #[.float .f64 e, .float .f64 f]] ?_ (CAg.out W)
          generalize hA : (puts ds L _).eval = ρ
          have hg := qrg hA
          have h0 : ρ (.tmp 12) = .agg #[.float .f64 m1, .float .f64 m2] := pg 0 hA hap (by rw [hds]; rfl) (hd 0 (by decide +kernel) (alne rfl)) (show 12 < 32 by decide)
          have h1 : ρ (.tmp 16) = .agg #[.float .f64 e, .float .f64 f] := pg 4 hA hap (by rw [hds]; rfl) (hd 4 (by decide +kernel) (alne rfl)) (show 16 < 32 by decide)
          have hf := Tryz.func67
          unfold execOp; go_simp
        · exact absurd rfl (ha _ qh0)
        · exact absurd rfl (hs _ qh0)
    case store =>
        intro st hst L W o h us ho hd hal hC b
        rcases List.mem_singleton.1 hst with rfl
        · dsimp only at ho hd hal hC b ⊢
          obtain rfl := qsj ho
          obtain ⟨hl, rfl⟩ := hal _ qh0 rfl
          have c0 := b.at_ 0 _ rfl
          have f0 := b.fr 0 _ rfl
          have c1 := b.at_ 1 _ rfl
          have f1 := b.fr 1 _ rfl
          refine ⟨?_, rfl⟩
          generalize hA : (puts ds L _).eval = ρ
          have h0 : ρ (.tmp 5) = .pointer (some ⟨h, 0, none⟩) := qpe 6 hA hap (by rw [hds]; rfl) hl (show 5 < 32 by decide)
          have h1 : ρ (.tmp 17) = .agg #[.float .f64 d, .float .f64 g] := pg 5 hA hap (by rw [hds]; rfl) (hd 5 (by decide +kernel) (alne rfl)) (show 17 < 32 by decide)
          have hst' := @fstore
          clear hA hd b ho hal hC
          simp only [putV]
          unfold execOp; go_simp
    case fin =>
        intro hf W0 K
        rw [hds]
        clear hds hap ds
        (try dsimp only at K)
        generalize hf 6 = ga at *
        (try unfold ptrV)
        simp only [List.set_cons_zero, List.set_cons_succ, puts, Act.put, List.setIfInBounds_toArray]
        have c0_0 := K.ce 0 0 rfl rfl
        have c0_1 := K.ce 0 1 rfl rfl
        replace K := Lib.hid K
        go_wp2_with fail
        replace K := K.out
        refine (CMg.out W0).mono ?_
        rintro _ v1 ⟨rfl, hb⟩
        clear c0_0 c0_1
        replace K := K.on hb
        clear hb
        replace K := K.new 26 [.float .f64 p, .float .f64 q]
        simp only [objV, List.cons_append, List.nil_append] at K
        cases b with
        | false =>
          have N' := Lib.hid (N.out.grow K.old)
          have nx' := Lib.hid (nx.out R (by simp [oneIf]))
          replace K := Lib.hid K
          clear N far
          go_wp2_with fail
          go_roundw
          case rel => exact ⟨i + 1, R, rfl, nx'.out, N'.out⟩
          case measure => simp [intOf]; omega
        | true =>
          have c1_0 := K.ce 1 0 rfl rfl
          have c1_1 := K.ce 1 1 rfl rfl
          have N' := Lib.hid (N.out.grow K.old)
          have nx' := Lib.hid (nx.out (R ++ [(p, q)]) (by simp [oneIf]))
          replace K := Lib.hid K
          clear N far
          go_wp2_with (at_builtin; go_loud (refine wpList_pushR recS rfl _ _ rfl (.slice ao' m' c') (R.map prC) rfl N'.out (prC (p, q)) rfl ?pa ?px ?pc ?pd ?_))
          case pa => intro u hu; simp only [prC, List.mem_cons, List.not_mem_nil, or_false] at hu; rcases hu with rfl | rfl <;> rfl
          case px => show Value.slice (some ⟨v1.heap.size + 1, 0, none⟩) 1 1 = _; simp
          case pc => rw [List.length_map]; have := RL2.out; omega
          case pd => rw [List.length_map]; have := RL2.out; unfold maxLen; omega
          intro v' w' N2
          have N3 : Hid (OwnS w1.heap.size w1 (R ++ [(p, q)]) v' w') := Lib.hid (by unfold OwnS; rw [List.map_append]; exact N2)
          clear N' N2 c1_0 c1_1
          go_wp2_with fail
          go_roundw
          case rel => exact ⟨i + 1, R ++ [(p, q)], rfl, nx'.out, N3.out⟩
          case measure => simp [intOf]; omega
end Go.Proofs.YtdfcchocabapkaaGreat
