/- Proved here: for all axes, numbers and vectors the law VecBack returns true: turned forth and back. No conditions. -/
import Derived.Test.YtpdkciennccckaaRows
import Derived.Test.YtpdkciennccckaaJx2
namespace Go.Proofs.Ytpdkciennccckaa.vecBack
open Go.ChangeShapes Go.WideShapes Go.ChangeAt Go.RowKit Ieee.Own

set_option maxHeartbeats 8000000 in
set_option maxRecDepth 100000 in
theorem walk (w : World) (a0 : Int) (_h0 : (Lit.int .i64 a0).wf = true) (a1 : Nat) (h1 : a1 < 18446744073709551616) (a2 : V3) (h2 : W3 a2) :
    Calls Try.prog 7 #[.int .i64 a0, .float .f64 a1, vecV a2] w fun e w' => e = .returned (.bool true) ∧ Below w.heap.size w w' := by
  have AW := Lib.hid awake7
  obtain ⟨RT, TR, t1, -⟩ := turned_any a0 h1
  by_cases hk : RT.2 = 0
  · obtain ⟨ha, e', sw, cw, T, em⟩ := TR.ok hk
    have A := errA_ang h1 e'
    obtain ⟨mw, mf, -⟩ := tM_w A T a0
    rw [← em] at mw mf
    have ap := fun w => vapply_any mw h2 w
    by_cases hp : (applyR RT.1 a2).2 = 0
    · have fv : fitV a2 = true := by
        by_cases c : fitV a2 = true
        · exact c
        · unfold applyR at hp; rw [if_neg (by rw [Bool.eq_false_iff.2 c]; simp)] at hp; simp at hp
      have ea : applyR RT.1 a2 = toldR (dW RT.1.1 a2, dW RT.1.2.1 a2, dW RT.1.2.2 a2) := if_pos (by rw [mf, fv]; rfl)
      rw [ea] at hp ap
      obtain ⟨fw, ew⟩ := told_zero hp
      have fl := fun w => vflip_any mw w
      have ef : flipR RT.1 = (bM (colM RT.1), 0) := if_pos mf
      rw [ef] at fl
      have E := fitV_wd h2 fv
      have DM := fitM_wd mw mf
      have F1 : F3 (dW RT.1.1 a2, dW RT.1.2.1 a2, dW RT.1.2.2 a2) := ⟨(dot_wd DM.d1 E).d.fin, (dot_wd DM.d2 E).d.fin, (dot_wd DM.d3 E).d.fin⟩
      have ww : W3 (outV RT.1 a2) := F1.b.w
      have cw' := col_w mw
      have cf := col_fit mf
      have g := fitM_of cf
      have B1 := D3.bb cw'.w1 g.1
      have B2 := D3.bb cw'.w2 g.2.1
      have B4 := D3.bb cw'.w3 g.2.2
      have nw : W9 (bM (colM RT.1)) := ⟨B1.1.f.w, B2.1.f.w, B4.1.f.w⟩
      have ew' : (toldR (dW RT.1.1 a2, dW RT.1.2.1 a2, dW RT.1.2.2 a2)).1 = outV RT.1 a2 := ew
      have ba := fun w => vapply_any nw ww w
      rw [ew', hp] at ap
      have fw' : fitV (outV RT.1 a2) = true := fw
      have G := fitV_wd ww fw'
      have L := lim_of E
      have A1 := fun w => abs_any a2.1 h2.l1 w
      have A2 := fun w => abs_any a2.2.1 h2.l2 w
      have A3 := fun w => abs_any a2.2.2 h2.l3 w
      have SZ := fun w => size_run A1 A2 A3 (run_add _ _ _ L.s1) (run_add _ _ _ L.s2) w
      have r1 := run_div _ _ _ L.q
      have r2 := run_add _ _ _ L.a
      by_cases hq : (applyR (bM (colM RT.1)) (outV RT.1 a2)).2 = 0
      · have fn : fitM (bM (colM RT.1)) = true := by
          by_cases c : fitM (bM (colM RT.1)) = true
          · exact c
          · unfold applyR at hq; rw [if_neg (by rw [Bool.eq_false_iff.2 c]; simp)] at hq; simp at hq
        have eb : applyR (bM (colM RT.1)) (outV RT.1 a2) = toldR (dW (bM (colM RT.1)).1 (outV RT.1 a2), dW (bM (colM RT.1)).2.1 (outV RT.1 a2), dW (bM (colM RT.1)).2.2 (outV RT.1 a2)) := if_pos (by rw [fn, fw']; rfl)
        rw [eb] at hq ba
        obtain ⟨fu, eu⟩ := told_zero hq
        have eu' : (toldR (dW (bM (colM RT.1)).1 (outV RT.1 a2), dW (bM (colM RT.1)).2.1 (outV RT.1 a2), dW (bM (colM RT.1)).2.2 (outV RT.1 a2))).1 = outV (bM (colM RT.1)) (outV RT.1 a2) := eu
        have F2 : F3 (dW (bM (colM RT.1)).1 (outV RT.1 a2), dW (bM (colM RT.1)).2.1 (outV RT.1 a2), dW (bM (colM RT.1)).2.2 (outV RT.1 a2)) := ⟨(dot_wd B1.1 G).d.fin, (dot_wd B2.1 G).d.fin, (dot_wd B4.1 G).d.fin⟩
        have uw : W3 (outV (bM (colM RT.1)) (outV RT.1 a2)) := F2.b.w
        have H := fitV_wd uw fu
        rw [eu', hq] at ba
        have BK : Back a2 (outV (bM (colM RT.1)) (outV RT.1 a2)) (sz3 a2) := by
          rw [em] at fw' ⊢
          have : a0 = 0 ∨ a0 = 1 ∨ a0 = 2 := by omega
          rcases this with rfl | rfl | rfl
          · exact back0 A T h2 fv fw'
          · exact back1 A T h2 fv fw'
          · exact back2 A T h2 fv fw'
        obtain ⟨⟨x1, o1, f1, l1, g1⟩, ⟨x2, o2, f2, l2, g2⟩, x3, o3, f3, l3, g3⟩ := near_words E H BK
        have k1 := le_words g1 L.fin
        have k2 := le_words g2 L.fin
        have k3 := le_words g3 L.fin
        rw [decide_eq_true l1] at k1
        rw [decide_eq_true l2] at k2
        rw [decide_eq_true l3] at k3
        have NE := fun w => near_run (run_sub _ _ _ o1) (run_sub _ _ _ o2) (run_sub _ _ _ o3) (fun w => abs_any x1 f1.1 w) (fun w => abs_any x2 f2.1 w) (fun w => abs_any x3 f3.1 w) k1 k2 k3 w
        clear TR em BK o1 o2 o3 l1 l2 l3 g1 g2 g3 f1 f2 f3 k1 k2 k3 H G E DM F1 F2 uw ww nw cw' cf g B1 B2 B4 mw mf e' A T fv fw fw' fu eu eu' ew ew' ea eb ef fn L A1 A2 A3 h2 h1 hq hp ha
        generalize outV (bM (colM RT.1)) (outV RT.1 a2) = UU at *
        generalize outV RT.1 a2 = WW at *
        generalize bM (colM RT.1) = NM at *
        obtain ⟨MM, kt⟩ := RT
        dsimp only at hk
        subst hk
        generalize limW a2 = d at *
        generalize qX (szW a2) p46 = qz at *
        generalize szW a2 = sz at *
        unfold p46 c190w at *
        obtain ⟨⟨m0, m1, m2⟩, ⟨m3, m4, m5⟩, m6, m7, m8⟩ := MM
        obtain ⟨⟨n0, n1, n2⟩, ⟨n3, n4, n5⟩, n6, n7, n8⟩ := NM
        obtain ⟨p1, p2, p3⟩ := WW
        obtain ⟨q1, q2, q3⟩ := UU
        obtain ⟨c1, c2, c3⟩ := a2
        unfold matE vecE matV vecV at *
        dsimp only at *
        replace t1 := Lib.hid t1
        replace ap := Lib.hid ap
        replace fl := Lib.hid fl
        replace ba := Lib.hid ba
        replace SZ := Lib.hid SZ
        replace NE := Lib.hid NE
        have K0 := kw1 w 24 [c1, c2, c3]
        simp only [objW, List.map_cons, List.map_nil] at K0
        have hst := @fstore
        replace K0 := Lib.hid K0
        go_enter Try.func7, Try.ntmps7
        go_wp2_with fail
        have K := K0.out
        clear K0
        generalize w.alloc _ = wr at *
        refine (AW.out wr).mono ?_
        rintro _ v1 ⟨rfl, hb⟩
        replace K := K.on hb
        clear hb
        clear AW
        replace K := Lib.hid K
        go_wp2_with fail
        replace K := K.out
        refine (t1.out v1).mono ?_
        rintro _ v2 ⟨rfl, hb⟩
        replace K := K.on hb
        clear hb
        clear t1
        replace K := K.new 38 [m0, m1, m2, m3, m4, m5, m6, m7, m8]
        simp only [objW, List.map_cons, List.map_nil, List.cons_append, List.nil_append] at K
        have c1_0 := (K.at_ 1 rfl).at_ 0 _ rfl
        have c1_1 := (K.at_ 1 rfl).at_ 1 _ rfl
        have c1_2 := (K.at_ 1 rfl).at_ 2 _ rfl
        have c1_3 := (K.at_ 1 rfl).at_ 3 _ rfl
        have c1_4 := (K.at_ 1 rfl).at_ 4 _ rfl
        have c1_5 := (K.at_ 1 rfl).at_ 5 _ rfl
        have c1_6 := (K.at_ 1 rfl).at_ 6 _ rfl
        have c1_7 := (K.at_ 1 rfl).at_ 7 _ rfl
        have c1_8 := (K.at_ 1 rfl).at_ 8 _ rfl
        have c0_0 := (K.at_ 0 rfl).at_ 0 _ rfl
        have c0_1 := (K.at_ 0 rfl).at_ 1 _ rfl
        have c0_2 := (K.at_ 0 rfl).at_ 2 _ rfl
        replace K := Lib.hid K
        go_wp2_with fail
        replace K := K.out
        generalize v2.alloc _ = u2 at *
        generalize v2.heap.size = g1 at *
        refine (ap.out u2).mono ?_
        rintro _ v3 ⟨rfl, hb⟩
        clear c1_0 c1_1 c1_2 c1_3 c1_4 c1_5 c1_6 c1_7 c1_8 c0_0 c0_1 c0_2
        replace K := K.on hb
        clear hb
        clear ap
        replace K := K.new 24 [p1, p2, p3]
        simp only [objW, List.map_cons, List.map_nil, List.cons_append, List.nil_append] at K
        have c1_0 := (K.at_ 1 rfl).at_ 0 _ rfl
        have c1_1 := (K.at_ 1 rfl).at_ 1 _ rfl
        have c1_2 := (K.at_ 1 rfl).at_ 2 _ rfl
        have c1_3 := (K.at_ 1 rfl).at_ 3 _ rfl
        have c1_4 := (K.at_ 1 rfl).at_ 4 _ rfl
        have c1_5 := (K.at_ 1 rfl).at_ 5 _ rfl
        have c1_6 := (K.at_ 1 rfl).at_ 6 _ rfl
        have c1_7 := (K.at_ 1 rfl).at_ 7 _ rfl
        have c1_8 := (K.at_ 1 rfl).at_ 8 _ rfl
        replace K := Lib.hid K
        go_wp2_with fail
        replace K := K.out
        generalize v3.alloc _ = u3 at *
        generalize v3.heap.size = g2 at *
        refine (fl.out u3).mono ?_
        rintro _ v4 ⟨rfl, hb⟩
        clear c1_0 c1_1 c1_2 c1_3 c1_4 c1_5 c1_6 c1_7 c1_8
        replace K := K.on hb
        clear hb
        clear fl
        replace K := K.new 38 [n0, n1, n2, n3, n4, n5, n6, n7, n8]
        simp only [objW, List.map_cons, List.map_nil, List.cons_append, List.nil_append] at K
        have c3_0 := (K.at_ 3 rfl).at_ 0 _ rfl
        have c3_1 := (K.at_ 3 rfl).at_ 1 _ rfl
        have c3_2 := (K.at_ 3 rfl).at_ 2 _ rfl
        have c3_3 := (K.at_ 3 rfl).at_ 3 _ rfl
        have c3_4 := (K.at_ 3 rfl).at_ 4 _ rfl
        have c3_5 := (K.at_ 3 rfl).at_ 5 _ rfl
        have c3_6 := (K.at_ 3 rfl).at_ 6 _ rfl
        have c3_7 := (K.at_ 3 rfl).at_ 7 _ rfl
        have c3_8 := (K.at_ 3 rfl).at_ 8 _ rfl
        have c2_0 := (K.at_ 2 rfl).at_ 0 _ rfl
        have c2_1 := (K.at_ 2 rfl).at_ 1 _ rfl
        have c2_2 := (K.at_ 2 rfl).at_ 2 _ rfl
        replace K := Lib.hid K
        go_wp2_with fail
        replace K := K.out
        generalize v4.alloc _ = u4 at *
        generalize v4.heap.size = g3 at *
        refine (ba.out u4).mono ?_
        rintro _ v5 ⟨rfl, hb⟩
        clear c3_0 c3_1 c3_2 c3_3 c3_4 c3_5 c3_6 c3_7 c3_8 c2_0 c2_1 c2_2
        replace K := K.on hb
        clear hb
        clear ba
        replace K := K.new 24 [q1, q2, q3]
        simp only [objW, List.map_cons, List.map_nil, List.cons_append, List.nil_append] at K
        replace K := Lib.hid K
        go_upto_region 11 with fail
        replace K := K.out
        generalize v5.alloc _ = u5 at *
        generalize v5.heap.size = g4 at *
        generalize hds : ([some 43, some 44, some 45, some 46, some 47, some 48, some 49, some 50, some 51, some 52, some 53, some 54, some 55, some 56, some 57, some 6] : List (Option Tmp)) = ds
        have hap : apartL ds = true := by rw [← hds]; decide
        replace hds := hds.symm
        refine wp_region_det (by kernel_rfl) ds (by rw [hds]; rfl) hap (by decide +kernel) [.int .i64 0, .bool true, .bool true, .int .i64 0, .bool false, .bool false, .agg #[.float .f64 q1, .float .f64 q2, .float .f64 q3], .agg #[.float .f64 c1, .float .f64 c2, .float .f64 c3], .agg #[.float .f64 c1, .float .f64 c2, .float .f64 c3], .float .f64 sz, .float .f64 qz, .float .f64 d, .bool true, .bool true, .bool true, .bool true] rfl (fun W => Kw w [some (w.heap.size, [c1, c2, c3]), some (g1, [m0, m1, m2, m3, m4, m5, m6, m7, m8]), some (g2, [p1, p2, p3]), some (g3, [n0, n1, n2, n3, n4, n5, n6, n7, n8]), some (g4, [q1, q2, q3])] W) K.draws ?step ?fin
        case step =>
          intro L W i o ho hd hS
          have hi : i < 16 := (Array.getElem?_eq_some_iff.1 ho).1
          have : i = 0 ∨ i = 1 ∨ i = 2 ∨ i = 3 ∨ i = 4 ∨ i = 5 ∨ i = 6 ∨ i = 7 ∨ i = 8 ∨ i = 9 ∨ i = 10 ∨ i = 11 ∨ i = 12 ∨ i = 13 ∨ i = 14 ∨ i = 15 := by omega
          rcases this with rfl | rfl | rfl | rfl | rfl | rfl | rfl | rfl | rfl | rfl | rfl | rfl | rfl | rfl | rfl | rfl
          · -- 0
            obtain rfl := Option.some.inj ho
            refine .value rfl W ?_ hS
            generalize hA : (puts ds L _).eval = ρ
            have hc : ∀ v, ρ (.const v) = v := fun v => by rw [← hA]; rfl
            have hg : ∀ g, ρ (.func g) = .func (.func g) #[] #[] := fun v => by rw [← hA]; rfl
            have h0 : ρ (.tmp 11) = .int .i64 0 := by rw [← hA]; exact (puts_old ds L _ (by rw [hds]; decide)).trans rfl
            clear hA hd ho
            unfold execOp
            go_simp
          · -- 1
            obtain rfl := Option.some.inj ho
            refine .value rfl W ?_ hS
            generalize hA : (puts ds L _).eval = ρ
            have hc : ∀ v, ρ (.const v) = v := fun v => by rw [← hA]; rfl
            have hg : ∀ g, ρ (.func g) = .func (.func g) #[] #[] := fun v => by rw [← hA]; rfl
            have h0 : ρ (.tmp 43) = .int .i64 0 := by rw [← hA]; exact puts_get 0 ds L _ hap (by rw [hds]; rfl) (hd 0 (by decide +kernel)) (show 43 < 58 by decide)
            clear hA hd ho
            unfold execOp
            go_simp
          · -- 2
            obtain rfl := Option.some.inj ho
            refine .value rfl W ?_ hS
            generalize hA : (puts ds L _).eval = ρ
            have hc : ∀ v, ρ (.const v) = v := fun v => by rw [← hA]; rfl
            have hg : ∀ g, ρ (.func g) = .func (.func g) #[] #[] := fun v => by rw [← hA]; rfl
            have h0 : ρ (.tmp 44) = .bool true := by rw [← hA]; exact puts_get 1 ds L _ hap (by rw [hds]; rfl) (hd 1 (by decide +kernel)) (show 44 < 58 by decide)
            clear hA hd ho
            unfold execOp
            go_simp
          · -- 3
            obtain rfl := Option.some.inj ho
            refine Comes.guarded (j := 2) (t := 45) (want := true) (b := true) (by rw [hds]; rfl) hap rfl (by rw [hds]; rfl) (hd 2 (by decide +kernel)) (show 45 < 58 by decide) (fun _ hw => ?_) (fun e => absurd rfl e)
            refine .value hw W ?_ hS
            generalize hA : (puts ds L _).eval = ρ
            have hc : ∀ v, ρ (.const v) = v := fun v => by rw [← hA]; rfl
            have hg : ∀ g, ρ (.func g) = .func (.func g) #[] #[] := fun v => by rw [← hA]; rfl
            have h0 : ρ (.tmp 13) = .int .i64 0 := by rw [← hA]; exact (puts_old ds L _ (by rw [hds]; decide)).trans rfl
            clear hA hd ho
            unfold execOp
            go_simp
          · -- 4
            obtain rfl := Option.some.inj ho
            refine Comes.guarded (j := 2) (t := 45) (want := true) (b := true) (by rw [hds]; rfl) hap rfl (by rw [hds]; rfl) (hd 2 (by decide +kernel)) (show 45 < 58 by decide) (fun _ hw => ?_) (fun e => absurd rfl e)
            refine .value hw W ?_ hS
            generalize hA : (puts ds L _).eval = ρ
            have hc : ∀ v, ρ (.const v) = v := fun v => by rw [← hA]; rfl
            have hg : ∀ g, ρ (.func g) = .func (.func g) #[] #[] := fun v => by rw [← hA]; rfl
            have h0 : ρ (.tmp 46) = .int .i64 0 := by rw [← hA]; exact puts_get 3 ds L _ hap (by rw [hds]; rfl) (hd 3 (by decide +kernel)) (show 46 < 58 by decide)
            clear hA hd ho
            unfold execOp
            go_simp
          · -- 5
            obtain rfl := Option.some.inj ho
            refine Comes.guarded (j := 2) (t := 45) (want := true) (b := true) (by rw [hds]; rfl) hap rfl (by rw [hds]; rfl) (hd 2 (by decide +kernel)) (show 45 < 58 by decide) (fun _ hw => ?_) (fun e => absurd rfl e)
            refine .value hw W ?_ hS
            generalize hA : (puts ds L _).eval = ρ
            have hc : ∀ v, ρ (.const v) = v := fun v => by rw [← hA]; rfl
            have hg : ∀ g, ρ (.func g) = .func (.func g) #[] #[] := fun v => by rw [← hA]; rfl
            have h0 : ρ (.tmp 47) = .bool false := by rw [← hA]; exact puts_get 4 ds L _ hap (by rw [hds]; rfl) (hd 4 (by decide +kernel)) (show 47 < 58 by decide)
            clear hA hd ho
            unfold execOp
            go_simp
          · -- 6
            obtain rfl := Option.some.inj ho
            refine Comes.guarded (j := 5) (t := 48) (want := false) (b := false) (by rw [hds]; rfl) hap rfl (by rw [hds]; rfl) (hd 5 (by decide +kernel)) (show 48 < 58 by decide) (fun _ hw => ?_) (fun e => absurd rfl e)
            have b := hS.at_ 4 rfl
            have c0 := b.at_ 0 _ rfl
            have c1 := b.at_ 1 _ rfl
            have c2 := b.at_ 2 _ rfl
            clear b
            refine .value hw W ?_ hS
            generalize hA : (puts ds L _).eval = ρ
            have hc : ∀ v, ρ (.const v) = v := fun v => by rw [← hA]; rfl
            have hg : ∀ g, ρ (.func g) = .func (.func g) #[] #[] := fun v => by rw [← hA]; rfl
            have h0 : ρ (.tmp 12) = .pointer (some ⟨g4, 0, none⟩) := by rw [← hA]; exact (puts_old ds L _ (by rw [hds]; decide)).trans rfl
            clear hA hd ho
            unfold execOp
            go_simp
          · -- 7
            obtain rfl := Option.some.inj ho
            refine Comes.guarded (j := 5) (t := 48) (want := false) (b := false) (by rw [hds]; rfl) hap rfl (by rw [hds]; rfl) (hd 5 (by decide +kernel)) (show 48 < 58 by decide) (fun _ hw => ?_) (fun e => absurd rfl e)
            have b := hS.at_ 0 rfl
            have c0 := b.at_ 0 _ rfl
            have c1 := b.at_ 1 _ rfl
            have c2 := b.at_ 2 _ rfl
            clear b
            refine .value hw W ?_ hS
            generalize hA : (puts ds L _).eval = ρ
            have hc : ∀ v, ρ (.const v) = v := fun v => by rw [← hA]; rfl
            have hg : ∀ g, ρ (.func g) = .func (.func g) #[] #[] := fun v => by rw [← hA]; rfl
            have h0 : ρ (.tmp 5) = .pointer (some ⟨w.heap.size, 0, none⟩) := by rw [← hA]; exact (puts_old ds L _ (by rw [hds]; decide)).trans rfl
            clear hA hd ho
            unfold execOp
            go_simp
          · -- 8
            obtain rfl := Option.some.inj ho
            refine Comes.guarded (j := 5) (t := 48) (want := false) (b := false) (by rw [hds]; rfl) hap rfl (by rw [hds]; rfl) (hd 5 (by decide +kernel)) (show 48 < 58 by decide) (fun _ hw => ?_) (fun e => absurd rfl e)
            have b := hS.at_ 0 rfl
            have c0 := b.at_ 0 _ rfl
            have c1 := b.at_ 1 _ rfl
            have c2 := b.at_ 2 _ rfl
            clear b
            refine .value hw W ?_ hS
            generalize hA : (puts ds L _).eval = ρ
            have hc : ∀ v, ρ (.const v) = v := fun v => by rw [← hA]; rfl
            have hg : ∀ g, ρ (.func g) = .func (.func g) #[] #[] := fun v => by rw [← hA]; rfl
            have h0 : ρ (.tmp 5) = .pointer (some ⟨w.heap.size, 0, none⟩) := by rw [← hA]; exact (puts_old ds L _ (by rw [hds]; decide)).trans rfl
            clear hA hd ho
            unfold execOp
            go_simp
          · -- 9
            obtain rfl := Option.some.inj ho
            refine Comes.guarded (j := 5) (t := 48) (want := false) (b := false) (by rw [hds]; rfl) hap rfl (by rw [hds]; rfl) (hd 5 (by decide +kernel)) (show 48 < 58 by decide) (fun _ hw => ?_) (fun e => absurd rfl e)
            refine .call hw 46 #[.agg #[.float .f64 c1, .float .f64 c2, .float .f64 c3]] ?_ ((SZ.out W).mono fun e w' h => ⟨h.1, hS.on h.2⟩)
            generalize hA : (puts ds L _).eval = ρ
            have hc : ∀ v, ρ (.const v) = v := fun v => by rw [← hA]; rfl
            have hg : ∀ g, ρ (.func g) = .func (.func g) #[] #[] := fun v => by rw [← hA]; rfl
            have h0 : ρ (.tmp 51) = .agg #[.float .f64 c1, .float .f64 c2, .float .f64 c3] := by rw [← hA]; exact puts_get 8 ds L _ hap (by rw [hds]; rfl) (hd 8 (by decide +kernel)) (show 51 < 58 by decide)
            have hf := Try.func46
            unfold execOp
            go_simp
          · -- 10
            obtain rfl := Option.some.inj ho
            refine Comes.guarded (j := 5) (t := 48) (want := false) (b := false) (by rw [hds]; rfl) hap rfl (by rw [hds]; rfl) (hd 5 (by decide +kernel)) (show 48 < 58 by decide) (fun _ hw => ?_) (fun e => absurd rfl e)
            refine .value hw W ?_ hS
            generalize hA : (puts ds L _).eval = ρ
            have hc : ∀ v, ρ (.const v) = v := fun v => by rw [← hA]; rfl
            have hg : ∀ g, ρ (.func g) = .func (.func g) #[] #[] := fun v => by rw [← hA]; rfl
            have h0 : ρ (.tmp 52) = .float .f64 sz := by rw [← hA]; exact puts_get 9 ds L _ hap (by rw [hds]; rfl) (hd 9 (by decide +kernel)) (show 52 < 58 by decide)
            clear hA hd ho
            unfold execOp
            go_simp
          · -- 11
            obtain rfl := Option.some.inj ho
            refine Comes.guarded (j := 5) (t := 48) (want := false) (b := false) (by rw [hds]; rfl) hap rfl (by rw [hds]; rfl) (hd 5 (by decide +kernel)) (show 48 < 58 by decide) (fun _ hw => ?_) (fun e => absurd rfl e)
            refine .value hw W ?_ hS
            generalize hA : (puts ds L _).eval = ρ
            have hc : ∀ v, ρ (.const v) = v := fun v => by rw [← hA]; rfl
            have hg : ∀ g, ρ (.func g) = .func (.func g) #[] #[] := fun v => by rw [← hA]; rfl
            have h0 : ρ (.tmp 53) = .float .f64 qz := by rw [← hA]; exact puts_get 10 ds L _ hap (by rw [hds]; rfl) (hd 10 (by decide +kernel)) (show 53 < 58 by decide)
            clear hA hd ho
            unfold execOp
            go_simp
          · -- 12
            obtain rfl := Option.some.inj ho
            refine Comes.guarded (j := 5) (t := 48) (want := false) (b := false) (by rw [hds]; rfl) hap rfl (by rw [hds]; rfl) (hd 5 (by decide +kernel)) (show 48 < 58 by decide) (fun _ hw => ?_) (fun e => absurd rfl e)
            refine .call hw 45 #[.agg #[.float .f64 q1, .float .f64 q2, .float .f64 q3], .agg #[.float .f64 c1, .float .f64 c2, .float .f64 c3], .float .f64 d] ?_ ((NE.out W).mono fun e w' h => ⟨h.1, hS.on h.2⟩)
            generalize hA : (puts ds L _).eval = ρ
            have hc : ∀ v, ρ (.const v) = v := fun v => by rw [← hA]; rfl
            have hg : ∀ g, ρ (.func g) = .func (.func g) #[] #[] := fun v => by rw [← hA]; rfl
            have h0 : ρ (.tmp 49) = .agg #[.float .f64 q1, .float .f64 q2, .float .f64 q3] := by rw [← hA]; exact puts_get 6 ds L _ hap (by rw [hds]; rfl) (hd 6 (by decide +kernel)) (show 49 < 58 by decide)
            have h1 : ρ (.tmp 50) = .agg #[.float .f64 c1, .float .f64 c2, .float .f64 c3] := by rw [← hA]; exact puts_get 7 ds L _ hap (by rw [hds]; rfl) (hd 7 (by decide +kernel)) (show 50 < 58 by decide)
            have h2 : ρ (.tmp 54) = .float .f64 d := by rw [← hA]; exact puts_get 11 ds L _ hap (by rw [hds]; rfl) (hd 11 (by decide +kernel)) (show 54 < 58 by decide)
            have hf := Try.func45
            unfold execOp
            go_simp
          · -- 13
            obtain rfl := Option.some.inj ho
            refine Comes.guarded (j := 2) (t := 45) (want := true) (b := true) (by rw [hds]; rfl) hap rfl (by rw [hds]; rfl) (hd 2 (by decide +kernel)) (show 45 < 58 by decide) (fun _ hw => ?_) (fun e => absurd rfl e)
            refine .value hw W ?_ hS
            generalize hA : (puts ds L _).eval = ρ
            have hc : ∀ v, ρ (.const v) = v := fun v => by rw [← hA]; rfl
            have hg : ∀ g, ρ (.func g) = .func (.func g) #[] #[] := fun v => by rw [← hA]; rfl
            have h0 : ρ (.tmp 48) = .bool false := by rw [← hA]; exact puts_get 5 ds L _ hap (by rw [hds]; rfl) (hd 5 (by decide +kernel)) (show 48 < 58 by decide)
            have h1 : ρ (.tmp 55) = .bool true := by rw [← hA]; exact puts_get 12 ds L _ hap (by rw [hds]; rfl) (hd 12 (by decide +kernel)) (show 55 < 58 by decide)
            clear hA hd ho
            unfold execOp
            go_simp
          · -- 14
            obtain rfl := Option.some.inj ho
            refine .value rfl W ?_ hS
            generalize hA : (puts ds L _).eval = ρ
            have hc : ∀ v, ρ (.const v) = v := fun v => by rw [← hA]; rfl
            have hg : ∀ g, ρ (.func g) = .func (.func g) #[] #[] := fun v => by rw [← hA]; rfl
            have h0 : ρ (.tmp 45) = .bool true := by rw [← hA]; exact puts_get 2 ds L _ hap (by rw [hds]; rfl) (hd 2 (by decide +kernel)) (show 45 < 58 by decide)
            have h1 : ρ (.tmp 56) = .bool true := by rw [← hA]; exact puts_get 13 ds L _ hap (by rw [hds]; rfl) (hd 13 (by decide +kernel)) (show 56 < 58 by decide)
            clear hA hd ho
            unfold execOp
            go_simp
          · -- 15
            obtain rfl := Option.some.inj ho
            refine .value rfl W ?_ hS
            generalize hA : (puts ds L _).eval = ρ
            have hc : ∀ v, ρ (.const v) = v := fun v => by rw [← hA]; rfl
            have hg : ∀ g, ρ (.func g) = .func (.func g) #[] #[] := fun v => by rw [← hA]; rfl
            have h0 : ρ (.tmp 57) = .bool true := by rw [← hA]; exact puts_get 14 ds L _ hap (by rw [hds]; rfl) (hd 14 (by decide +kernel)) (show 57 < 58 by decide)
            clear hA hd ho
            unfold execOp
            go_simp
        case fin =>
          intro W0 K
          rw [hds]
          clear hds hap ds
          simp only [List.map_cons, List.map_nil, puts, Act.put, List.setIfInBounds_toArray]
          replace K := Lib.hid K
          go_wp2_with fail
          go_ret
          exact ⟨rfl, K.out.old⟩
      · generalize applyR (bM (colM RT.1)) (outV RT.1 a2) = R2 at *
        clear TR em G E DM F1 ww nw cw' cf g B1 B2 B4 mw mf e' A T fv fw fw' ew ew' ea ef L A1 A2 A3 SZ r1 r2 h2 h1 hp ha
        generalize outV RT.1 a2 = WW at *
        generalize bM (colM RT.1) = NM at *
        obtain ⟨MM, kt⟩ := RT
        dsimp only at hk
        subst hk
        obtain ⟨UU, kb⟩ := R2
        dsimp only at hq
        have tb : (kb != 0) = true := by simpa using hq
        clear hq
        obtain ⟨⟨m0, m1, m2⟩, ⟨m3, m4, m5⟩, m6, m7, m8⟩ := MM
        obtain ⟨⟨n0, n1, n2⟩, ⟨n3, n4, n5⟩, n6, n7, n8⟩ := NM
        obtain ⟨p1, p2, p3⟩ := WW
        obtain ⟨q1, q2, q3⟩ := UU
        obtain ⟨c1, c2, c3⟩ := a2
        unfold matE vecE matV vecV at *
        dsimp only at *
        replace t1 := Lib.hid t1
        replace ap := Lib.hid ap
        replace fl := Lib.hid fl
        replace ba := Lib.hid ba
        have K0 := kw1 w 24 [c1, c2, c3]
        simp only [objW, List.map_cons, List.map_nil] at K0
        have hst := @fstore
        replace K0 := Lib.hid K0
        go_enter Try.func7, Try.ntmps7
        go_wp2_with fail
        have K := K0.out
        clear K0
        generalize w.alloc _ = wr at *
        refine (AW.out wr).mono ?_
        rintro _ v1 ⟨rfl, hb⟩
        replace K := K.on hb
        clear hb
        clear AW
        replace K := Lib.hid K
        go_wp2_with fail
        replace K := K.out
        refine (t1.out v1).mono ?_
        rintro _ v2 ⟨rfl, hb⟩
        replace K := K.on hb
        clear hb
        clear t1
        replace K := K.new 38 [m0, m1, m2, m3, m4, m5, m6, m7, m8]
        simp only [objW, List.map_cons, List.map_nil, List.cons_append, List.nil_append] at K
        have c1_0 := (K.at_ 1 rfl).at_ 0 _ rfl
        have c1_1 := (K.at_ 1 rfl).at_ 1 _ rfl
        have c1_2 := (K.at_ 1 rfl).at_ 2 _ rfl
        have c1_3 := (K.at_ 1 rfl).at_ 3 _ rfl
        have c1_4 := (K.at_ 1 rfl).at_ 4 _ rfl
        have c1_5 := (K.at_ 1 rfl).at_ 5 _ rfl
        have c1_6 := (K.at_ 1 rfl).at_ 6 _ rfl
        have c1_7 := (K.at_ 1 rfl).at_ 7 _ rfl
        have c1_8 := (K.at_ 1 rfl).at_ 8 _ rfl
        have c0_0 := (K.at_ 0 rfl).at_ 0 _ rfl
        have c0_1 := (K.at_ 0 rfl).at_ 1 _ rfl
        have c0_2 := (K.at_ 0 rfl).at_ 2 _ rfl
        replace K := Lib.hid K
        go_wp2_with fail
        replace K := K.out
        generalize v2.alloc _ = u2 at *
        generalize v2.heap.size = g1 at *
        refine (ap.out u2).mono ?_
        rintro _ v3 ⟨rfl, hb⟩
        clear c1_0 c1_1 c1_2 c1_3 c1_4 c1_5 c1_6 c1_7 c1_8 c0_0 c0_1 c0_2
        replace K := K.on hb
        clear hb
        clear ap
        replace K := K.new 24 [p1, p2, p3]
        simp only [objW, List.map_cons, List.map_nil, List.cons_append, List.nil_append] at K
        have c1_0 := (K.at_ 1 rfl).at_ 0 _ rfl
        have c1_1 := (K.at_ 1 rfl).at_ 1 _ rfl
        have c1_2 := (K.at_ 1 rfl).at_ 2 _ rfl
        have c1_3 := (K.at_ 1 rfl).at_ 3 _ rfl
        have c1_4 := (K.at_ 1 rfl).at_ 4 _ rfl
        have c1_5 := (K.at_ 1 rfl).at_ 5 _ rfl
        have c1_6 := (K.at_ 1 rfl).at_ 6 _ rfl
        have c1_7 := (K.at_ 1 rfl).at_ 7 _ rfl
        have c1_8 := (K.at_ 1 rfl).at_ 8 _ rfl
        replace K := Lib.hid K
        go_wp2_with fail
        replace K := K.out
        generalize v3.alloc _ = u3 at *
        generalize v3.heap.size = g2 at *
        refine (fl.out u3).mono ?_
        rintro _ v4 ⟨rfl, hb⟩
        clear c1_0 c1_1 c1_2 c1_3 c1_4 c1_5 c1_6 c1_7 c1_8
        replace K := K.on hb
        clear hb
        clear fl
        replace K := K.new 38 [n0, n1, n2, n3, n4, n5, n6, n7, n8]
        simp only [objW, List.map_cons, List.map_nil, List.cons_append, List.nil_append] at K
        have c3_0 := (K.at_ 3 rfl).at_ 0 _ rfl
        have c3_1 := (K.at_ 3 rfl).at_ 1 _ rfl
        have c3_2 := (K.at_ 3 rfl).at_ 2 _ rfl
        have c3_3 := (K.at_ 3 rfl).at_ 3 _ rfl
        have c3_4 := (K.at_ 3 rfl).at_ 4 _ rfl
        have c3_5 := (K.at_ 3 rfl).at_ 5 _ rfl
        have c3_6 := (K.at_ 3 rfl).at_ 6 _ rfl
        have c3_7 := (K.at_ 3 rfl).at_ 7 _ rfl
        have c3_8 := (K.at_ 3 rfl).at_ 8 _ rfl
        have c2_0 := (K.at_ 2 rfl).at_ 0 _ rfl
        have c2_1 := (K.at_ 2 rfl).at_ 1 _ rfl
        have c2_2 := (K.at_ 2 rfl).at_ 2 _ rfl
        replace K := Lib.hid K
        go_wp2_with fail
        replace K := K.out
        generalize v4.alloc _ = u4 at *
        generalize v4.heap.size = g3 at *
        refine (ba.out u4).mono ?_
        rintro _ v5 ⟨rfl, hb⟩
        clear c3_0 c3_1 c3_2 c3_3 c3_4 c3_5 c3_6 c3_7 c3_8 c2_0 c2_1 c2_2
        replace K := K.on hb
        clear hb
        clear ba
        replace K := K.new 24 [q1, q2, q3]
        simp only [objW, List.map_cons, List.map_nil, List.cons_append, List.nil_append] at K
        replace K := Lib.hid K
        go_upto_region 11 with fail
        replace K := K.out
        generalize v5.alloc _ = u5 at *
        generalize v5.heap.size = g4 at *
        generalize hds : ([some 43, some 44, some 45, some 46, some 47, some 48, some 49, some 50, some 51, some 52, some 53, some 54, some 55, some 56, some 57, some 6] : List (Option Tmp)) = ds
        have hap : apartL ds = true := by rw [← hds]; decide
        replace hds := hds.symm
        refine wp_region_det (by kernel_rfl) ds (by rw [hds]; rfl) hap (by decide +kernel) [.int .i64 0, .bool true, .bool true, .int .i64 kb, .bool true, .bool true, undef, undef, undef, undef, undef, undef, undef, .bool true, .bool true, .bool true] rfl (fun W => Kw w [some (w.heap.size, [c1, c2, c3]), some (g1, [m0, m1, m2, m3, m4, m5, m6, m7, m8]), some (g2, [p1, p2, p3]), some (g3, [n0, n1, n2, n3, n4, n5, n6, n7, n8]), some (g4, [q1, q2, q3])] W) K.draws ?step ?fin
        case step =>
          intro L W i o ho hd hS
          have hi : i < 16 := (Array.getElem?_eq_some_iff.1 ho).1
          have : i = 0 ∨ i = 1 ∨ i = 2 ∨ i = 3 ∨ i = 4 ∨ i = 5 ∨ i = 6 ∨ i = 7 ∨ i = 8 ∨ i = 9 ∨ i = 10 ∨ i = 11 ∨ i = 12 ∨ i = 13 ∨ i = 14 ∨ i = 15 := by omega
          rcases this with rfl | rfl | rfl | rfl | rfl | rfl | rfl | rfl | rfl | rfl | rfl | rfl | rfl | rfl | rfl | rfl
          · -- 0
            obtain rfl := Option.some.inj ho
            refine .value rfl W ?_ hS
            generalize hA : (puts ds L _).eval = ρ
            have hc : ∀ v, ρ (.const v) = v := fun v => by rw [← hA]; rfl
            have hg : ∀ g, ρ (.func g) = .func (.func g) #[] #[] := fun v => by rw [← hA]; rfl
            have h0 : ρ (.tmp 11) = .int .i64 0 := by rw [← hA]; exact (puts_old ds L _ (by rw [hds]; decide)).trans rfl
            clear hA hd ho
            unfold execOp
            go_simp
          · -- 1
            obtain rfl := Option.some.inj ho
            refine .value rfl W ?_ hS
            generalize hA : (puts ds L _).eval = ρ
            have hc : ∀ v, ρ (.const v) = v := fun v => by rw [← hA]; rfl
            have hg : ∀ g, ρ (.func g) = .func (.func g) #[] #[] := fun v => by rw [← hA]; rfl
            have h0 : ρ (.tmp 43) = .int .i64 0 := by rw [← hA]; exact puts_get 0 ds L _ hap (by rw [hds]; rfl) (hd 0 (by decide +kernel)) (show 43 < 58 by decide)
            clear hA hd ho
            unfold execOp
            go_simp
          · -- 2
            obtain rfl := Option.some.inj ho
            refine .value rfl W ?_ hS
            generalize hA : (puts ds L _).eval = ρ
            have hc : ∀ v, ρ (.const v) = v := fun v => by rw [← hA]; rfl
            have hg : ∀ g, ρ (.func g) = .func (.func g) #[] #[] := fun v => by rw [← hA]; rfl
            have h0 : ρ (.tmp 44) = .bool true := by rw [← hA]; exact puts_get 1 ds L _ hap (by rw [hds]; rfl) (hd 1 (by decide +kernel)) (show 44 < 58 by decide)
            clear hA hd ho
            unfold execOp
            go_simp
          · -- 3
            obtain rfl := Option.some.inj ho
            refine Comes.guarded (j := 2) (t := 45) (want := true) (b := true) (by rw [hds]; rfl) hap rfl (by rw [hds]; rfl) (hd 2 (by decide +kernel)) (show 45 < 58 by decide) (fun _ hw => ?_) (fun e => absurd rfl e)
            refine .value hw W ?_ hS
            generalize hA : (puts ds L _).eval = ρ
            have hc : ∀ v, ρ (.const v) = v := fun v => by rw [← hA]; rfl
            have hg : ∀ g, ρ (.func g) = .func (.func g) #[] #[] := fun v => by rw [← hA]; rfl
            have h0 : ρ (.tmp 13) = .int .i64 kb := by rw [← hA]; exact (puts_old ds L _ (by rw [hds]; decide)).trans rfl
            clear hA hd ho
            unfold execOp
            go_simp
          · -- 4
            obtain rfl := Option.some.inj ho
            refine Comes.guarded (j := 2) (t := 45) (want := true) (b := true) (by rw [hds]; rfl) hap rfl (by rw [hds]; rfl) (hd 2 (by decide +kernel)) (show 45 < 58 by decide) (fun _ hw => ?_) (fun e => absurd rfl e)
            refine .value hw W ?_ hS
            generalize hA : (puts ds L _).eval = ρ
            have hc : ∀ v, ρ (.const v) = v := fun v => by rw [← hA]; rfl
            have hg : ∀ g, ρ (.func g) = .func (.func g) #[] #[] := fun v => by rw [← hA]; rfl
            have h0 : ρ (.tmp 46) = .int .i64 kb := by rw [← hA]; exact puts_get 3 ds L _ hap (by rw [hds]; rfl) (hd 3 (by decide +kernel)) (show 46 < 58 by decide)
            clear hA hd ho
            unfold execOp
            go_simp
          · -- 5
            obtain rfl := Option.some.inj ho
            refine Comes.guarded (j := 2) (t := 45) (want := true) (b := true) (by rw [hds]; rfl) hap rfl (by rw [hds]; rfl) (hd 2 (by decide +kernel)) (show 45 < 58 by decide) (fun _ hw => ?_) (fun e => absurd rfl e)
            refine .value hw W ?_ hS
            generalize hA : (puts ds L _).eval = ρ
            have hc : ∀ v, ρ (.const v) = v := fun v => by rw [← hA]; rfl
            have hg : ∀ g, ρ (.func g) = .func (.func g) #[] #[] := fun v => by rw [← hA]; rfl
            have h0 : ρ (.tmp 47) = .bool true := by rw [← hA]; exact puts_get 4 ds L _ hap (by rw [hds]; rfl) (hd 4 (by decide +kernel)) (show 47 < 58 by decide)
            clear hA hd ho
            unfold execOp
            go_simp
          · -- 6
            obtain rfl := Option.some.inj ho
            exact Comes.guarded (j := 5) (t := 48) (want := false) (b := true) (by rw [hds]; rfl) hap rfl (by rw [hds]; rfl) (hd 5 (by decide +kernel)) (show 48 < 58 by decide) (fun e => by cases e) (fun _ => rfl)
          · -- 7
            obtain rfl := Option.some.inj ho
            exact Comes.guarded (j := 5) (t := 48) (want := false) (b := true) (by rw [hds]; rfl) hap rfl (by rw [hds]; rfl) (hd 5 (by decide +kernel)) (show 48 < 58 by decide) (fun e => by cases e) (fun _ => rfl)
          · -- 8
            obtain rfl := Option.some.inj ho
            exact Comes.guarded (j := 5) (t := 48) (want := false) (b := true) (by rw [hds]; rfl) hap rfl (by rw [hds]; rfl) (hd 5 (by decide +kernel)) (show 48 < 58 by decide) (fun e => by cases e) (fun _ => rfl)
          · -- 9
            obtain rfl := Option.some.inj ho
            exact Comes.guarded (j := 5) (t := 48) (want := false) (b := true) (by rw [hds]; rfl) hap rfl (by rw [hds]; rfl) (hd 5 (by decide +kernel)) (show 48 < 58 by decide) (fun e => by cases e) (fun _ => rfl)
          · -- 10
            obtain rfl := Option.some.inj ho
            exact Comes.guarded (j := 5) (t := 48) (want := false) (b := true) (by rw [hds]; rfl) hap rfl (by rw [hds]; rfl) (hd 5 (by decide +kernel)) (show 48 < 58 by decide) (fun e => by cases e) (fun _ => rfl)
          · -- 11
            obtain rfl := Option.some.inj ho
            exact Comes.guarded (j := 5) (t := 48) (want := false) (b := true) (by rw [hds]; rfl) hap rfl (by rw [hds]; rfl) (hd 5 (by decide +kernel)) (show 48 < 58 by decide) (fun e => by cases e) (fun _ => rfl)
          · -- 12
            obtain rfl := Option.some.inj ho
            exact Comes.guarded (j := 5) (t := 48) (want := false) (b := true) (by rw [hds]; rfl) hap rfl (by rw [hds]; rfl) (hd 5 (by decide +kernel)) (show 48 < 58 by decide) (fun e => by cases e) (fun _ => rfl)
          · -- 13
            obtain rfl := Option.some.inj ho
            refine Comes.guarded (j := 2) (t := 45) (want := true) (b := true) (by rw [hds]; rfl) hap rfl (by rw [hds]; rfl) (hd 2 (by decide +kernel)) (show 45 < 58 by decide) (fun _ hw => ?_) (fun e => absurd rfl e)
            refine .value hw W ?_ hS
            generalize hA : (puts ds L _).eval = ρ
            have hc : ∀ v, ρ (.const v) = v := fun v => by rw [← hA]; rfl
            have hg : ∀ g, ρ (.func g) = .func (.func g) #[] #[] := fun v => by rw [← hA]; rfl
            have h0 : ρ (.tmp 48) = .bool true := by rw [← hA]; exact puts_get 5 ds L _ hap (by rw [hds]; rfl) (hd 5 (by decide +kernel)) (show 48 < 58 by decide)
            have h1 : ρ (.tmp 55) = undef := by rw [← hA]; exact puts_get 12 ds L _ hap (by rw [hds]; rfl) (hd 12 (by decide +kernel)) (show 55 < 58 by decide)
            clear hA hd ho
            unfold execOp
            go_simp
          · -- 14
            obtain rfl := Option.some.inj ho
            refine .value rfl W ?_ hS
            generalize hA : (puts ds L _).eval = ρ
            have hc : ∀ v, ρ (.const v) = v := fun v => by rw [← hA]; rfl
            have hg : ∀ g, ρ (.func g) = .func (.func g) #[] #[] := fun v => by rw [← hA]; rfl
            have h0 : ρ (.tmp 45) = .bool true := by rw [← hA]; exact puts_get 2 ds L _ hap (by rw [hds]; rfl) (hd 2 (by decide +kernel)) (show 45 < 58 by decide)
            have h1 : ρ (.tmp 56) = .bool true := by rw [← hA]; exact puts_get 13 ds L _ hap (by rw [hds]; rfl) (hd 13 (by decide +kernel)) (show 56 < 58 by decide)
            clear hA hd ho
            unfold execOp
            go_simp
          · -- 15
            obtain rfl := Option.some.inj ho
            refine .value rfl W ?_ hS
            generalize hA : (puts ds L _).eval = ρ
            have hc : ∀ v, ρ (.const v) = v := fun v => by rw [← hA]; rfl
            have hg : ∀ g, ρ (.func g) = .func (.func g) #[] #[] := fun v => by rw [← hA]; rfl
            have h0 : ρ (.tmp 57) = .bool true := by rw [← hA]; exact puts_get 14 ds L _ hap (by rw [hds]; rfl) (hd 14 (by decide +kernel)) (show 57 < 58 by decide)
            clear hA hd ho
            unfold execOp
            go_simp
        case fin =>
          intro W0 K
          rw [hds]
          clear hds hap ds
          simp only [List.map_cons, List.map_nil, puts, Act.put, List.setIfInBounds_toArray]
          replace K := Lib.hid K
          go_wp2_with fail
          go_ret
          exact ⟨rfl, K.out.old⟩
    · have tp : ((applyR RT.1 a2).2 != 0) = true := by simpa using hp
      clear TR em mw mf e' A T h2 h1 hp ha
      generalize applyR RT.1 a2 = R1 at *
      obtain ⟨MM, kt⟩ := RT
      dsimp only at hk
      subst hk
      obtain ⟨⟨p1, p2, p3⟩, kp⟩ := R1
      obtain ⟨⟨m0, m1, m2⟩, ⟨m3, m4, m5⟩, m6, m7, m8⟩ := MM
      obtain ⟨c1, c2, c3⟩ := a2
      unfold matE vecE matV vecV at *
      dsimp only at *
      replace t1 := Lib.hid t1
      replace ap := Lib.hid ap
      have K0 := kw1 w 24 [c1, c2, c3]
      simp only [objW, List.map_cons, List.map_nil] at K0
      have hst := @fstore
      replace K0 := Lib.hid K0
      go_enter Try.func7, Try.ntmps7
      go_wp2_with fail
      have K := K0.out
      clear K0
      generalize w.alloc _ = wr at *
      refine (AW.out wr).mono ?_
      rintro _ v1 ⟨rfl, hb⟩
      replace K := K.on hb
      clear hb
      clear AW
      replace K := Lib.hid K
      go_wp2_with fail
      replace K := K.out
      refine (t1.out v1).mono ?_
      rintro _ v2 ⟨rfl, hb⟩
      replace K := K.on hb
      clear hb
      clear t1
      replace K := K.new 38 [m0, m1, m2, m3, m4, m5, m6, m7, m8]
      simp only [objW, List.map_cons, List.map_nil, List.cons_append, List.nil_append] at K
      have c1_0 := (K.at_ 1 rfl).at_ 0 _ rfl
      have c1_1 := (K.at_ 1 rfl).at_ 1 _ rfl
      have c1_2 := (K.at_ 1 rfl).at_ 2 _ rfl
      have c1_3 := (K.at_ 1 rfl).at_ 3 _ rfl
      have c1_4 := (K.at_ 1 rfl).at_ 4 _ rfl
      have c1_5 := (K.at_ 1 rfl).at_ 5 _ rfl
      have c1_6 := (K.at_ 1 rfl).at_ 6 _ rfl
      have c1_7 := (K.at_ 1 rfl).at_ 7 _ rfl
      have c1_8 := (K.at_ 1 rfl).at_ 8 _ rfl
      have c0_0 := (K.at_ 0 rfl).at_ 0 _ rfl
      have c0_1 := (K.at_ 0 rfl).at_ 1 _ rfl
      have c0_2 := (K.at_ 0 rfl).at_ 2 _ rfl
      replace K := Lib.hid K
      go_wp2_with fail
      replace K := K.out
      generalize v2.alloc _ = u2 at *
      generalize v2.heap.size = g1 at *
      refine (ap.out u2).mono ?_
      rintro _ v3 ⟨rfl, hb⟩
      clear c1_0 c1_1 c1_2 c1_3 c1_4 c1_5 c1_6 c1_7 c1_8 c0_0 c0_1 c0_2
      replace K := K.on hb
      clear hb
      clear ap
      replace K := K.new 24 [p1, p2, p3]
      simp only [objW, List.map_cons, List.map_nil, List.cons_append, List.nil_append] at K
      replace K := Lib.hid K
      go_wp2_with fail
      go_ret
      exact ⟨rfl, K.out.old⟩
  · have tt : (RT.2 != 0) = true := by simpa using hk
    clear TR h2 h1 hk
    obtain ⟨MM, kt⟩ := RT
    obtain ⟨⟨m0, m1, m2⟩, ⟨m3, m4, m5⟩, m6, m7, m8⟩ := MM
    obtain ⟨c1, c2, c3⟩ := a2
    unfold matE matV vecV at *
    dsimp only at *
    replace t1 := Lib.hid t1
    have K0 := kw1 w 24 [c1, c2, c3]
    simp only [objW, List.map_cons, List.map_nil] at K0
    have hst := @fstore
    replace K0 := Lib.hid K0
    go_enter Try.func7, Try.ntmps7
    go_wp2_with fail
    have K := K0.out
    clear K0
    generalize w.alloc _ = wr at *
    refine (AW.out wr).mono ?_
    rintro _ v1 ⟨rfl, hb⟩
    replace K := K.on hb
    clear hb
    clear AW
    replace K := Lib.hid K
    go_wp2_with fail
    replace K := K.out
    refine (t1.out v1).mono ?_
    rintro _ v2 ⟨rfl, hb⟩
    replace K := K.on hb
    clear hb
    clear t1
    replace K := K.new 38 [m0, m1, m2, m3, m4, m5, m6, m7, m8]
    simp only [objW, List.map_cons, List.map_nil, List.cons_append, List.nil_append] at K
    replace K := Lib.hid K
    go_wp2_with fail
    go_ret
    exact ⟨rfl, K.out.old⟩

set_option maxRecDepth 100000 in
theorem own : ownKnob Try.prog.godebug = none := by kernel_rfl
set_option maxRecDepth 100000 in
theorem laidOut : laidOutB Try.prog = true := by kernel_rfl
set_option maxRecDepth 100000 in
theorem cellsF : Try.prog.cellsOf 22 = 1 := by kernel_rfl
set_option maxRecDepth 100000 in
theorem bytesF : Try.prog.bytesOf 22 = 8 := by kernel_rfl
theorem wf64 {b : Nat} (h : (Lit.float .f64 b).wf = true) : b < 18446744073709551616 := by
  simp only [Lit.wf, decide_eq_true_eq] at h; exact h

set_option maxRecDepth 100000 in
theorem lifted (os : Os) (started : os.Started) (H : Type) (enc : TypeId × Value → H) :
    ReturnsInHanded {} Try.checked os 7 .any (Rows.vecBackSpec.pre6 enc Try.prog Try.f7 Rows.vecBackRow.domain false) (Rows.vecBackSpec.post enc Try.prog Try.f7 false true false false) := by
  refine returnsInHanded_of_change_sized (C := Try.checked) own started (by kernel_rfl) Try.func7
    (ChangeSpec.witness6 (enc := enc) (C := Try.checked) false ⟨#[], #[.int .i64 0, .float .f64 0, .agg #[.float .f64 0, .float .f64 0, .float .f64 0]], []⟩ 8 (by kernel_rfl) (by kernel_rfl) (by kernel_rfl) (by kernel_rfl)) ?_
  intro W base args ds gs before hval0 hW _ hsz0 _
  have hsz : (DataW.weightsEach Try.prog (Try.f7.params.toList ++ Rows.vecBackSpec.plain.varTypes Try.prog) (ds ++ gs)).all (· ≤ reachBytes) = true := hsz0
  clear hsz0
  have hval : ∀ (j : Nat) t v, Try.f7.params[j]? = some t → args[j]? = some v → Value.okWide Try.prog W .any base t v := hval0
  have hW' := hW
  obtain ⟨p, q, hA0, hV, rfl, _, _⟩ := hW
  have hA : DataW.TrodAll enc Try.prog W 0 (fun _ => true) true Try.f7.params.toList args.toList ds p := hA0
  rw [Try.params7] at hA hval hsz
  obtain ⟨v0, vs0, d0, ds0, p0, q0, hargs, rfl, rfl, t0, r0⟩ := trodAll_cons hA
  obtain ⟨v1, vs1, d1, ds1, p1, q1, rfl, rfl, rfl, t1, r1⟩ := trodAll_cons r0
  obtain ⟨v2, vs2, d2, ds2, p2, q2, rfl, rfl, rfl, t2, r2⟩ := trodAll_cons r1
  obtain ⟨rfl, rfl, rfl⟩ := trodAll_nil r2
  obtain rfl : args = #[v0, v1, v2] := by cases args; simp_all
  obtain ⟨rfl, rfl⟩ := trodVars_none hV
  simp only [List.append_nil] at hW'
  obtain ⟨a0, rfl, rfl, rfl, w0⟩ := open_int Try.underlying3 (hval 0 3 v0 rfl rfl) t0
  obtain ⟨a1, rfl, rfl, rfl, w1⟩ := open_float Try.underlying22 (hval 1 22 v1 rfl rfl) t1
  have tk2 := t2
  obtain ⟨a2, rfl, wa2⟩ := open_vec (hval 2 24 v2 rfl rfl) t2
  have hlt2 : ∀ x ∈ p2, x.block < W.heap.size := fun x hx => by have := hW'.lt x (by simp [hx]); simpa using this
  clear hA0 hval0
  refine (walk W a0 w0 a1 (wf64 w1) a2 wa2).mono fun e W' ⟨he, hb⟩ => ?_
  subst he
  refine ⟨_, rfl, _, _, _, [], _, [], hW', trodAll_cons_mk (shut_bool Try.underlying4 _) trodAll_mk0, (trodAll_cons_mk (shut_int Try.underlying3 w0) (trodAll_cons_mk (shut_float Try.underlying22 w1) (trodAll_cons_mk (Below.trod laidOut (by kernel_rfl) (of_decide_eq_true (by kernel_rfl)) tk2 hb hlt2) trodAll_mk0))), rfl, hb.frame _, fun h => by cases h⟩

set_option maxRecDepth 100000 in
theorem over : Rows.vecBackRow.holds Try.pinned (OpenSpec.ofChange Rows.vecBackSpec) :=
  OpenClaim.holds_of_wide 7 Try.f7 rfl rfl rfl rfl rfl rfl rfl ⟨rfl, rfl, rfl, rfl, rfl⟩ rfl rfl rfl rfl rfl (by kernel_rfl) Try.func7 (by kernel_rfl)
    (of_decide_eq_true (by kernel_rfl)) (by unfold Func.isWrapper; first | (rw [if_pos (by decide +kernel)]; kernel_rfl) | (rw [if_neg (by decide +kernel)]; exact ⟨rfl, rfl⟩))
    (fun os started H enc _ => lifted os started H enc)

theorem proved : Rows.VecBackSaid :=
  over
end Go.Proofs.Ytpdkciennccckaa.vecBack
