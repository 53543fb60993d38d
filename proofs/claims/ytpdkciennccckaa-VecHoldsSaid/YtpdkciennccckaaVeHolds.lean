/- Proved here: for all axes, numbers and vectors the law VecHolds returns true: a vector that was turned lies by the box that was. No conditions. -/
import Derived.Test.YtpdkciennccckaaRows
import Derived.Test.YtpdkciennccckaaJx2
import Derived.Test.YtpdkciennccckaaJx7
namespace Go.Proofs.Ytpdkciennccckaa.vecHolds
open Go.ChangeShapes Go.WideShapes Go.ChangeAt Go.RowKit Ieee.Own

theorem errA_fit {x : Nat} (h : errA x = 0) : fitB x = true := by
  by_cases q : fitB x = true ∧ x % 9223372036854775808 ≤ 4787326403894837248
  · exact q.1
  · unfold errA at h; rw [if_neg q] at h; simp at h
set_option maxHeartbeats 8000000 in
set_option maxRecDepth 100000 in
theorem walk (w : World) (a0 : Int) (_h0 : (Lit.int .i64 a0).wf = true) (a1 : Nat) (h1 : a1 < 18446744073709551616) (a2 : V3) (h2 : W3 a2) :
    Calls Try.prog 8 #[.int .i64 a0, .float .f64 a1, vecV a2] w fun e w' => e = .returned (.bool true) ∧ Below w.heap.size w w' := by
  have AW := Lib.hid awake7
  obtain ⟨RT, TR, t1, -⟩ := turned_any a0 h1
  have bo := fun w => vboxof_any h2 w
  by_cases hk : RT.2 = 0
  · obtain ⟨ha, e', sw, cw, T, em⟩ := TR.ok hk
    have A := errA_ang h1 e'
    have fx : fitB a1 = true := errA_fit e'
    obtain ⟨mw, mf, -⟩ := tM_w A T a0
    rw [← em] at mw mf
    have ap := fun w => vapply_any mw h2 w
    by_cases hp : (applyR RT.1 a2).2 = 0
    · have fv : fitV a2 = true := by
        by_cases c : fitV a2 = true
        · exact c
        · unfold applyR at hp; rw [if_neg (by rw [Bool.eq_false_iff.2 c]; simp)] at hp; simp at hp
      have ea : applyR RT.1 a2 = toldR (dW RT.1.1 a2, dW RT.1.2.1 a2, dW RT.1.2.2 a2) := if_pos (by rw [mf, fv]; rfl)
      rw [ea] at hp ap
      obtain ⟨fw, ew⟩ := told_zero hp
      have E := fitV_wd h2 fv
      have DM := fitM_wd mw mf
      have F1 : F3 (dW RT.1.1 a2, dW RT.1.2.1 a2, dW RT.1.2.2 a2) := ⟨(dot_wd DM.d1 E).d.fin, (dot_wd DM.d2 E).d.fin, (dot_wd DM.d3 E).d.fin⟩
      have ww : W3 (outV RT.1 a2) := F1.b.w
      have ew' : (toldR (dW RT.1.1 a2, dW RT.1.2.1 a2, dW RT.1.2.2 a2)).1 = outV RT.1 a2 := ew
      rw [ew', hp] at ap
      have fw' : fitV (outV RT.1 a2) = true := fw
      have G := fitV_wd ww fw'
      have L := lim_of E
      have A1 := fun w => abs_any a2.1 h2.l1 w
      have A2 := fun w => abs_any a2.2.1 h2.l2 w
      have A3 := fun w => abs_any a2.2.2 h2.l3 w
      have SZ := fun w => size_run A1 A2 A3 (run_add _ _ _ L.s1) (run_add _ _ _ L.s2) w
      have r1 := run_div _ _ _ L.q
      have r2 := run_add _ _ _ L.a
      have eb : boxOfR a2 = (ptB a2, 0) := if_pos fv
      rw [eb] at bo
      have BT : ∃ P : B6, (∀ w, Calls Try.prog 48 #[.int .i64 a0, .agg #[.float .f64 a1, .float .f64 a1], boxV (ptB a2)] w fun e w' => e = .returned (boxE P 0) ∧ Below w.heap.size w w') ∧ ByB P (outV RT.1 a2) (sz3 a2) := by
        rw [em]
        have : a0 = 0 ∨ a0 = 1 ∨ a0 = 2 := by omega
        rcases this with rfl | rfl | rfl
        · exact holds0 h1 fx e' T h2 fv
        · exact holds1 h1 fx e' T h2 fv
        · exact holds2 h1 fx e' T h2 fv
      obtain ⟨P, bt, BY⟩ := BT
      obtain ⟨o1, k1, O1⟩ := off7 E G.w1 BY.x
      obtain ⟨o2, k2, O2⟩ := off7 E G.w2 BY.y
      obtain ⟨o3, k3, O3⟩ := off7 E G.w3 BY.z
      have BE := fun w => beside_run (Lib.hid O1) (Lib.hid O2) (Lib.hid O3) k1 k2 k3 w
      clear TR em O1 O2 O3 k1 k2 k3 BY G E DM F1 ww mw mf e' A T fv fw fw' ew ew' ea eb L A1 A2 A3 h2 h1 hp ha fx
      generalize outV RT.1 a2 = WW at *
      obtain ⟨MM, kt⟩ := RT
      dsimp only at hk
      subst hk
      generalize limW a2 = d at *
      generalize qX (szW a2) p46 = qz at *
      generalize szW a2 = sz at *
      generalize ptB a2 = BB at *
      unfold p46 c190w at *
      obtain ⟨⟨m0, m1, m2⟩, ⟨m3, m4, m5⟩, m6, m7, m8⟩ := MM
      obtain ⟨p1, p2, p3⟩ := WW
      obtain ⟨c1, c2, c3⟩ := a2
      obtain ⟨⟨b1, b2⟩, ⟨b3, b4⟩, b5, b6⟩ := BB
      obtain ⟨⟨q1, q2⟩, ⟨q3, q4⟩, q5, q6⟩ := P
      unfold matE vecE boxE matV vecV boxV at *
      dsimp only at *
      replace t1 := Lib.hid t1
      replace ap := Lib.hid ap
      replace bo := Lib.hid bo
      replace bt := Lib.hid bt
      replace SZ := Lib.hid SZ
      replace BE := Lib.hid BE
      have K0 := kw1 w 24 [c1, c2, c3]
      simp only [objW, List.map_cons, List.map_nil] at K0
      have hst := @fstore
      replace K0 := Lib.hid K0
      go_enter Try.func8, Try.ntmps8
      go_wp2_with fail
      have K := K0.out
      clear K0
      generalize w.alloc _ = wr at *
      refine (AW.out wr).mono ?_
      rintro _ v1 ⟨rfl, hb⟩
      replace K := K.on hb
      clear hb
      clear AW
      replace K := Lib.hid K
      go_wp2_with fail
      replace K := K.out
      refine (t1.out v1).mono ?_
      rintro _ v2 ⟨rfl, hb⟩
      replace K := K.on hb
      clear hb
      clear t1
      replace K := K.new 38 [m0, m1, m2, m3, m4, m5, m6, m7, m8]
      simp only [objW, List.map_cons, List.map_nil, List.cons_append, List.nil_append] at K
      have c1_0 := (K.at_ 1 rfl).at_ 0 _ rfl
      have c1_1 := (K.at_ 1 rfl).at_ 1 _ rfl
      have c1_2 := (K.at_ 1 rfl).at_ 2 _ rfl
      have c1_3 := (K.at_ 1 rfl).at_ 3 _ rfl
      have c1_4 := (K.at_ 1 rfl).at_ 4 _ rfl
      have c1_5 := (K.at_ 1 rfl).at_ 5 _ rfl
      have c1_6 := (K.at_ 1 rfl).at_ 6 _ rfl
      have c1_7 := (K.at_ 1 rfl).at_ 7 _ rfl
      have c1_8 := (K.at_ 1 rfl).at_ 8 _ rfl
      have c0_0 := (K.at_ 0 rfl).at_ 0 _ rfl
      have c0_1 := (K.at_ 0 rfl).at_ 1 _ rfl
      have c0_2 := (K.at_ 0 rfl).at_ 2 _ rfl
      replace K := Lib.hid K
      go_wp2_with fail
      replace K := K.out
      generalize v2.alloc _ = u2 at *
      generalize v2.heap.size = g1 at *
      refine (ap.out u2).mono ?_
      rintro _ v3 ⟨rfl, hb⟩
      clear c1_0 c1_1 c1_2 c1_3 c1_4 c1_5 c1_6 c1_7 c1_8 c0_0 c0_1 c0_2
      replace K := K.on hb
      clear hb
      clear ap
      replace K := K.new 24 [p1, p2, p3]
      simp only [objW, List.map_cons, List.map_nil, List.cons_append, List.nil_append] at K
      have c0_0 := (K.at_ 0 rfl).at_ 0 _ rfl
      have c0_1 := (K.at_ 0 rfl).at_ 1 _ rfl
      have c0_2 := (K.at_ 0 rfl).at_ 2 _ rfl
      replace K := Lib.hid K
      go_wp2_with fail
      replace K := K.out
      generalize v3.alloc _ = u3 at *
      generalize v3.heap.size = g2 at *
      refine (bo.out u3).mono ?_
      rintro _ v4 ⟨rfl, hb⟩
      clear c0_0 c0_1 c0_2
      replace K := K.on hb
      clear hb
      clear bo
      replace K := K.new 50 [b1, b2, b3, b4, b5, b6]
      simp only [objW, List.map_cons, List.map_nil, List.cons_append, List.nil_append] at K
      have c3_0 := (K.at_ 3 rfl).at_ 0 _ rfl
      have c3_1 := (K.at_ 3 rfl).at_ 1 _ rfl
      have c3_2 := (K.at_ 3 rfl).at_ 2 _ rfl
      have c3_3 := (K.at_ 3 rfl).at_ 3 _ rfl
      have c3_4 := (K.at_ 3 rfl).at_ 4 _ rfl
      have c3_5 := (K.at_ 3 rfl).at_ 5 _ rfl
      replace K := Lib.hid K
      go_wp2_with fail
      replace K := K.out
      generalize v4.alloc _ = u4 at *
      generalize v4.heap.size = g3 at *
      refine (bt.out u4).mono ?_
      rintro _ v5 ⟨rfl, hb⟩
      clear c3_0 c3_1 c3_2 c3_3 c3_4 c3_5
      replace K := K.on hb
      clear hb
      clear bt
      replace K := K.new 50 [q1, q2, q3, q4, q5, q6]
      simp only [objW, List.map_cons, List.map_nil, List.cons_append, List.nil_append] at K
      replace K := Lib.hid K
      go_upto_region 11 with fail
      replace K := K.out
      generalize v5.alloc _ = u5 at *
      generalize v5.heap.size = g4 at *
      generalize hds : ([some 50, some 51, some 52, some 53, some 54, some 55, some 56, some 57, some 58, some 59, some 60, some 6] : List (Option Tmp)) = ds
      have hap : apartL ds = true := by rw [← hds]; decide
      replace hds := hds.symm
      refine wp_region_det (by kernel_rfl) ds (by rw [hds]; rfl) hap (by decide +kernel) [.int .i64 0, .bool false, .bool false, .agg #[.float .f64 q1, .float .f64 q2, .float .f64 q3, .float .f64 q4, .float .f64 q5, .float .f64 q6], .agg #[.float .f64 p1, .float .f64 p2, .float .f64 p3], .agg #[.float .f64 c1, .float .f64 c2, .float .f64 c3], .float .f64 sz, .float .f64 qz, .float .f64 d, .bool true, .bool true, .bool true] rfl (fun W => Kw w [some (w.heap.size, [c1, c2, c3]), some (g1, [m0, m1, m2, m3, m4, m5, m6, m7, m8]), some (g2, [p1, p2, p3]), some (g3, [b1, b2, b3, b4, b5, b6]), some (g4, [q1, q2, q3, q4, q5, q6])] W) K.draws ?step ?fin
      case step =>
        intro L W i o ho hd hS
        have hi : i < 12 := (Array.getElem?_eq_some_iff.1 ho).1
        have : i = 0 ∨ i = 1 ∨ i = 2 ∨ i = 3 ∨ i = 4 ∨ i = 5 ∨ i = 6 ∨ i = 7 ∨ i = 8 ∨ i = 9 ∨ i = 10 ∨ i = 11 := by omega
        rcases this with rfl | rfl | rfl | rfl | rfl | rfl | rfl | rfl | rfl | rfl | rfl | rfl
        · -- 0
          obtain rfl := Option.some.inj ho
          refine .value rfl W ?_ hS
          generalize hA : (puts ds L _).eval = ρ
          have hc : ∀ v, ρ (.const v) = v := fun v => by rw [← hA]; rfl
          have hg : ∀ g, ρ (.func g) = .func (.func g) #[] #[] := fun v => by rw [← hA]; rfl
          have h0 : ρ (.tmp 13) = .int .i64 0 := by rw [← hA]; exact (puts_old ds L _ (by rw [hds]; decide)).trans rfl
          clear hA hd ho
          unfold execOp
          go_simp
        · -- 1
          obtain rfl := Option.some.inj ho
          refine .value rfl W ?_ hS
          generalize hA : (puts ds L _).eval = ρ
          have hc : ∀ v, ρ (.const v) = v := fun v => by rw [← hA]; rfl
          have hg : ∀ g, ρ (.func g) = .func (.func g) #[] #[] := fun v => by rw [← hA]; rfl
          have h0 : ρ (.tmp 50) = .int .i64 0 := by rw [← hA]; exact puts_get 0 ds L _ hap (by rw [hds]; rfl) (hd 0 (by decide +kernel)) (show 50 < 61 by decide)
          clear hA hd ho
          unfold execOp
          go_simp
        · -- 2
          obtain rfl := Option.some.inj ho
          refine .value rfl W ?_ hS
          generalize hA : (puts ds L _).eval = ρ
          have hc : ∀ v, ρ (.const v) = v := fun v => by rw [← hA]; rfl
          have hg : ∀ g, ρ (.func g) = .func (.func g) #[] #[] := fun v => by rw [← hA]; rfl
          have h0 : ρ (.tmp 51) = .bool false := by rw [← hA]; exact puts_get 1 ds L _ hap (by rw [hds]; rfl) (hd 1 (by decide +kernel)) (show 51 < 61 by decide)
          clear hA hd ho
          unfold execOp
          go_simp
        · -- 3
          obtain rfl := Option.some.inj ho
          refine Comes.guarded (j := 2) (t := 52) (want := false) (b := false) (by rw [hds]; rfl) hap rfl (by rw [hds]; rfl) (hd 2 (by decide +kernel)) (show 52 < 61 by decide) (fun _ hw => ?_) (fun e => absurd rfl e)
          have b := hS.at_ 4 rfl
          have c0 := b.at_ 0 _ rfl
          have c1 := b.at_ 1 _ rfl
          have c2 := b.at_ 2 _ rfl
          have c3 := b.at_ 3 _ rfl
          have c4 := b.at_ 4 _ rfl
          have c5 := b.at_ 5 _ rfl
          clear b
          refine .value hw W ?_ hS
          generalize hA : (puts ds L _).eval = ρ
          have hc : ∀ v, ρ (.const v) = v := fun v => by rw [← hA]; rfl
          have hg : ∀ g, ρ (.func g) = .func (.func g) #[] #[] := fun v => by rw [← hA]; rfl
          have h0 : ρ (.tmp 12) = .pointer (some ⟨g4, 0, none⟩) := by rw [← hA]; exact (puts_old ds L _ (by rw [hds]; decide)).trans rfl
          clear hA hd ho
          unfold execOp
          go_simp
        · -- 4
          obtain rfl := Option.some.inj ho
          refine Comes.guarded (j := 2) (t := 52) (want := false) (b := false) (by rw [hds]; rfl) hap rfl (by rw [hds]; rfl) (hd 2 (by decide +kernel)) (show 52 < 61 by decide) (fun _ hw => ?_) (fun e => absurd rfl e)
          have b := hS.at_ 2 rfl
          have c0 := b.at_ 0 _ rfl
          have c1 := b.at_ 1 _ rfl
          have c2 := b.at_ 2 _ rfl
          clear b
          refine .value hw W ?_ hS
          generalize hA : (puts ds L _).eval = ρ
          have hc : ∀ v, ρ (.const v) = v := fun v => by rw [← hA]; rfl
          have hg : ∀ g, ρ (.func g) = .func (.func g) #[] #[] := fun v => by rw [← hA]; rfl
          have h0 : ρ (.tmp 9) = .pointer (some ⟨g2, 0, none⟩) := by rw [← hA]; exact (puts_old ds L _ (by rw [hds]; decide)).trans rfl
          clear hA hd ho
          unfold execOp
          go_simp
        · -- 5
          obtain rfl := Option.some.inj ho
          refine Comes.guarded (j := 2) (t := 52) (want := false) (b := false) (by rw [hds]; rfl) hap rfl (by rw [hds]; rfl) (hd 2 (by decide +kernel)) (show 52 < 61 by decide) (fun _ hw => ?_) (fun e => absurd rfl e)
          have b := hS.at_ 0 rfl
          have c0 := b.at_ 0 _ rfl
          have c1 := b.at_ 1 _ rfl
          have c2 := b.at_ 2 _ rfl
          clear b
          refine .value hw W ?_ hS
          generalize hA : (puts ds L _).eval = ρ
          have hc : ∀ v, ρ (.const v) = v := fun v => by rw [← hA]; rfl
          have hg : ∀ g, ρ (.func g) = .func (.func g) #[] #[] := fun v => by rw [← hA]; rfl
          have h0 : ρ (.tmp 5) = .pointer (some ⟨w.heap.size, 0, none⟩) := by rw [← hA]; exact (puts_old ds L _ (by rw [hds]; decide)).trans rfl
          clear hA hd ho
          unfold execOp
          go_simp
        · -- 6
          obtain rfl := Option.some.inj ho
          refine Comes.guarded (j := 2) (t := 52) (want := false) (b := false) (by rw [hds]; rfl) hap rfl (by rw [hds]; rfl) (hd 2 (by decide +kernel)) (show 52 < 61 by decide) (fun _ hw => ?_) (fun e => absurd rfl e)
          refine .call hw 46 #[.agg #[.float .f64 c1, .float .f64 c2, .float .f64 c3]] ?_ ((SZ.out W).mono fun e w' h => ⟨h.1, hS.on h.2⟩)
          generalize hA : (puts ds L _).eval = ρ
          have hc : ∀ v, ρ (.const v) = v := fun v => by rw [← hA]; rfl
          have hg : ∀ g, ρ (.func g) = .func (.func g) #[] #[] := fun v => by rw [← hA]; rfl
          have h0 : ρ (.tmp 55) = .agg #[.float .f64 c1, .float .f64 c2, .float .f64 c3] := by rw [← hA]; exact puts_get 5 ds L _ hap (by rw [hds]; rfl) (hd 5 (by decide +kernel)) (show 55 < 61 by decide)
          have hf := Try.func46
          unfold execOp
          go_simp
        · -- 7
          obtain rfl := Option.some.inj ho
          refine Comes.guarded (j := 2) (t := 52) (want := false) (b := false) (by rw [hds]; rfl) hap rfl (by rw [hds]; rfl) (hd 2 (by decide +kernel)) (show 52 < 61 by decide) (fun _ hw => ?_) (fun e => absurd rfl e)
          refine .value hw W ?_ hS
          generalize hA : (puts ds L _).eval = ρ
          have hc : ∀ v, ρ (.const v) = v := fun v => by rw [← hA]; rfl
          have hg : ∀ g, ρ (.func g) = .func (.func g) #[] #[] := fun v => by rw [← hA]; rfl
          have h0 : ρ (.tmp 56) = .float .f64 sz := by rw [← hA]; exact puts_get 6 ds L _ hap (by rw [hds]; rfl) (hd 6 (by decide +kernel)) (show 56 < 61 by decide)
          clear hA hd ho
          unfold execOp
          go_simp
        · -- 8
          obtain rfl := Option.some.inj ho
          refine Comes.guarded (j := 2) (t := 52) (want := false) (b := false) (by rw [hds]; rfl) hap rfl (by rw [hds]; rfl) (hd 2 (by decide +kernel)) (show 52 < 61 by decide) (fun _ hw => ?_) (fun e => absurd rfl e)
          refine .value hw W ?_ hS
          generalize hA : (puts ds L _).eval = ρ
          have hc : ∀ v, ρ (.const v) = v := fun v => by rw [← hA]; rfl
          have hg : ∀ g, ρ (.func g) = .func (.func g) #[] #[] := fun v => by rw [← hA]; rfl
          have h0 : ρ (.tmp 57) = .float .f64 qz := by rw [← hA]; exact puts_get 7 ds L _ hap (by rw [hds]; rfl) (hd 7 (by decide +kernel)) (show 57 < 61 by decide)
          clear hA hd ho
          unfold execOp
          go_simp
        · -- 9
          obtain rfl := Option.some.inj ho
          refine Comes.guarded (j := 2) (t := 52) (want := false) (b := false) (by rw [hds]; rfl) hap rfl (by rw [hds]; rfl) (hd 2 (by decide +kernel)) (show 52 < 61 by decide) (fun _ hw => ?_) (fun e => absurd rfl e)
          refine .call hw 49 #[.agg #[.float .f64 q1, .float .f64 q2, .float .f64 q3, .float .f64 q4, .float .f64 q5, .float .f64 q6], .agg #[.float .f64 p1, .float .f64 p2, .float .f64 p3], .float .f64 d] ?_ ((BE.out W).mono fun e w' h => ⟨h.1, hS.on h.2⟩)
          generalize hA : (puts ds L _).eval = ρ
          have hc : ∀ v, ρ (.const v) = v := fun v => by rw [← hA]; rfl
          have hg : ∀ g, ρ (.func g) = .func (.func g) #[] #[] := fun v => by rw [← hA]; rfl
          have h0 : ρ (.tmp 53) = .agg #[.float .f64 q1, .float .f64 q2, .float .f64 q3, .float .f64 q4, .float .f64 q5, .float .f64 q6] := by rw [← hA]; exact puts_get 3 ds L _ hap (by rw [hds]; rfl) (hd 3 (by decide +kernel)) (show 53 < 61 by decide)
          have h1 : ρ (.tmp 54) = .agg #[.float .f64 p1, .float .f64 p2, .float .f64 p3] := by rw [← hA]; exact puts_get 4 ds L _ hap (by rw [hds]; rfl) (hd 4 (by decide +kernel)) (show 54 < 61 by decide)
          have h2 : ρ (.tmp 58) = .float .f64 d := by rw [← hA]; exact puts_get 8 ds L _ hap (by rw [hds]; rfl) (hd 8 (by decide +kernel)) (show 58 < 61 by decide)
          have hf := Try.func49
          unfold execOp
          go_simp
        · -- 10
          obtain rfl := Option.some.inj ho
          refine .value rfl W ?_ hS
          generalize hA : (puts ds L _).eval = ρ
          have hc : ∀ v, ρ (.const v) = v := fun v => by rw [← hA]; rfl
          have hg : ∀ g, ρ (.func g) = .func (.func g) #[] #[] := fun v => by rw [← hA]; rfl
          have h0 : ρ (.tmp 52) = .bool false := by rw [← hA]; exact puts_get 2 ds L _ hap (by rw [hds]; rfl) (hd 2 (by decide +kernel)) (show 52 < 61 by decide)
          have h1 : ρ (.tmp 59) = .bool true := by rw [← hA]; exact puts_get 9 ds L _ hap (by rw [hds]; rfl) (hd 9 (by decide +kernel)) (show 59 < 61 by decide)
          clear hA hd ho
          unfold execOp
          go_simp
        · -- 11
          obtain rfl := Option.some.inj ho
          refine .value rfl W ?_ hS
          generalize hA : (puts ds L _).eval = ρ
          have hc : ∀ v, ρ (.const v) = v := fun v => by rw [← hA]; rfl
          have hg : ∀ g, ρ (.func g) = .func (.func g) #[] #[] := fun v => by rw [← hA]; rfl
          have h0 : ρ (.tmp 60) = .bool true := by rw [← hA]; exact puts_get 10 ds L _ hap (by rw [hds]; rfl) (hd 10 (by decide +kernel)) (show 60 < 61 by decide)
          clear hA hd ho
          unfold execOp
          go_simp
      case fin =>
        intro W0 K
        rw [hds]
        clear hds hap ds
        simp only [List.map_cons, List.map_nil, puts, Act.put, List.setIfInBounds_toArray]
        replace K := Lib.hid K
        go_wp2_with fail
        go_ret
        exact ⟨rfl, K.out.old⟩
    · have tp : ((applyR RT.1 a2).2 != 0) = true := by simpa using hp
      clear TR em mw mf e' A T h2 h1 hp ha fx
      generalize applyR RT.1 a2 = R1 at *
      generalize boxOfR a2 = R2 at *
      obtain ⟨MM, kt⟩ := RT
      dsimp only at hk
      subst hk
      obtain ⟨⟨p1, p2, p3⟩, kp⟩ := R1
      obtain ⟨⟨⟨b1, b2⟩, ⟨b3, b4⟩, b5, b6⟩, kb⟩ := R2
      obtain ⟨⟨m0, m1, m2⟩, ⟨m3, m4, m5⟩, m6, m7, m8⟩ := MM
      obtain ⟨c1, c2, c3⟩ := a2
      unfold matE vecE boxE matV vecV boxV at *
      dsimp only at *
      replace t1 := Lib.hid t1
      replace ap := Lib.hid ap
      replace bo := Lib.hid bo
      have K0 := kw1 w 24 [c1, c2, c3]
      simp only [objW, List.map_cons, List.map_nil] at K0
      have hst := @fstore
      replace K0 := Lib.hid K0
      go_enter Try.func8, Try.ntmps8
      go_wp2_with fail
      have K := K0.out
      clear K0
      generalize w.alloc _ = wr at *
      refine (AW.out wr).mono ?_
      rintro _ v1 ⟨rfl, hb⟩
      replace K := K.on hb
      clear hb
      clear AW
      replace K := Lib.hid K
      go_wp2_with fail
      replace K := K.out
      refine (t1.out v1).mono ?_
      rintro _ v2 ⟨rfl, hb⟩
      replace K := K.on hb
      clear hb
      clear t1
      replace K := K.new 38 [m0, m1, m2, m3, m4, m5, m6, m7, m8]
      simp only [objW, List.map_cons, List.map_nil, List.cons_append, List.nil_append] at K
      have c1_0 := (K.at_ 1 rfl).at_ 0 _ rfl
      have c1_1 := (K.at_ 1 rfl).at_ 1 _ rfl
      have c1_2 := (K.at_ 1 rfl).at_ 2 _ rfl
      have c1_3 := (K.at_ 1 rfl).at_ 3 _ rfl
      have c1_4 := (K.at_ 1 rfl).at_ 4 _ rfl
      have c1_5 := (K.at_ 1 rfl).at_ 5 _ rfl
      have c1_6 := (K.at_ 1 rfl).at_ 6 _ rfl
      have c1_7 := (K.at_ 1 rfl).at_ 7 _ rfl
      have c1_8 := (K.at_ 1 rfl).at_ 8 _ rfl
      have c0_0 := (K.at_ 0 rfl).at_ 0 _ rfl
      have c0_1 := (K.at_ 0 rfl).at_ 1 _ rfl
      have c0_2 := (K.at_ 0 rfl).at_ 2 _ rfl
      replace K := Lib.hid K
      go_wp2_with fail
      replace K := K.out
      generalize v2.alloc _ = u2 at *
      generalize v2.heap.size = g1 at *
      refine (ap.out u2).mono ?_
      rintro _ v3 ⟨rfl, hb⟩
      clear c1_0 c1_1 c1_2 c1_3 c1_4 c1_5 c1_6 c1_7 c1_8 c0_0 c0_1 c0_2
      replace K := K.on hb
      clear hb
      clear ap
      replace K := K.new 24 [p1, p2, p3]
      simp only [objW, List.map_cons, List.map_nil, List.cons_append, List.nil_append] at K
      have c0_0 := (K.at_ 0 rfl).at_ 0 _ rfl
      have c0_1 := (K.at_ 0 rfl).at_ 1 _ rfl
      have c0_2 := (K.at_ 0 rfl).at_ 2 _ rfl
      replace K := Lib.hid K
      go_wp2_with fail
      replace K := K.out
      generalize v3.alloc _ = u3 at *
      generalize v3.heap.size = g2 at *
      refine (bo.out u3).mono ?_
      rintro _ v4 ⟨rfl, hb⟩
      clear c0_0 c0_1 c0_2
      replace K := K.on hb
      clear hb
      clear bo
      replace K := K.new 50 [b1, b2, b3, b4, b5, b6]
      simp only [objW, List.map_cons, List.map_nil, List.cons_append, List.nil_append] at K
      replace K := Lib.hid K
      go_wp2_with fail
      go_ret
      exact ⟨rfl, K.out.old⟩
  · have tt : (RT.2 != 0) = true := by simpa using hk
    clear TR bo h2 h1 hk
    obtain ⟨MM, kt⟩ := RT
    obtain ⟨⟨m0, m1, m2⟩, ⟨m3, m4, m5⟩, m6, m7, m8⟩ := MM
    obtain ⟨c1, c2, c3⟩ := a2
    unfold matE matV vecV at *
    dsimp only at *
    replace t1 := Lib.hid t1
    have K0 := kw1 w 24 [c1, c2, c3]
    simp only [objW, List.map_cons, List.map_nil] at K0
    have hst := @fstore
    replace K0 := Lib.hid K0
    go_enter Try.func8, Try.ntmps8
    go_wp2_with fail
    have K := K0.out
    clear K0
    generalize w.alloc _ = wr at *
    refine (AW.out wr).mono ?_
    rintro _ v1 ⟨rfl, hb⟩
    replace K := K.on hb
    clear hb
    clear AW
    replace K := Lib.hid K
    go_wp2_with fail
    replace K := K.out
    refine (t1.out v1).mono ?_
    rintro _ v2 ⟨rfl, hb⟩
    replace K := K.on hb
    clear hb
    clear t1
    replace K := K.new 38 [m0, m1, m2, m3, m4, m5, m6, m7, m8]
    simp only [objW, List.map_cons, List.map_nil, List.cons_append, List.nil_append] at K
    replace K := Lib.hid K
    go_wp2_with fail
    go_ret
    exact ⟨rfl, K.out.old⟩

set_option maxRecDepth 100000 in
theorem own : ownKnob Try.prog.godebug = none := by kernel_rfl
set_option maxRecDepth 100000 in
theorem laidOut : laidOutB Try.prog = true := by kernel_rfl
set_option maxRecDepth 100000 in
theorem cellsF : Try.prog.cellsOf 22 = 1 := by kernel_rfl
set_option maxRecDepth 100000 in
theorem bytesF : Try.prog.bytesOf 22 = 8 := by kernel_rfl
theorem wf64 {b : Nat} (h : (Lit.float .f64 b).wf = true) : b < 18446744073709551616 := by
  simp only [Lit.wf, decide_eq_true_eq] at h; exact h

set_option maxRecDepth 100000 in
theorem lifted (os : Os) (started : os.Started) (H : Type) (enc : TypeId × Value → H) :
    ReturnsInHanded {} Try.checked os 8 .any (Rows.vecHoldsSpec.pre6 enc Try.prog Try.f8 Rows.vecHoldsRow.domain false) (Rows.vecHoldsSpec.post enc Try.prog Try.f8 false true false false) := by
  refine returnsInHanded_of_change_sized (C := Try.checked) own started (by kernel_rfl) Try.func8
    (ChangeSpec.witness6 (enc := enc) (C := Try.checked) false ⟨#[], #[.int .i64 0, .float .f64 0, .agg #[.float .f64 0, .float .f64 0, .float .f64 0]], []⟩ 8 (by kernel_rfl) (by kernel_rfl) (by kernel_rfl) (by kernel_rfl)) ?_
  intro W base args ds gs before hval0 hW _ hsz0 _
  have hsz : (DataW.weightsEach Try.prog (Try.f8.params.toList ++ Rows.vecHoldsSpec.plain.varTypes Try.prog) (ds ++ gs)).all (· ≤ reachBytes) = true := hsz0
  clear hsz0
  have hval : ∀ (j : Nat) t v, Try.f8.params[j]? = some t → args[j]? = some v → Value.okWide Try.prog W .any base t v := hval0
  have hW' := hW
  obtain ⟨p, q, hA0, hV, rfl, _, _⟩ := hW
  have hA : DataW.TrodAll enc Try.prog W 0 (fun _ => true) true Try.f8.params.toList args.toList ds p := hA0
  rw [Try.params8] at hA hval hsz
  obtain ⟨v0, vs0, d0, ds0, p0, q0, hargs, rfl, rfl, t0, r0⟩ := trodAll_cons hA
  obtain ⟨v1, vs1, d1, ds1, p1, q1, rfl, rfl, rfl, t1, r1⟩ := trodAll_cons r0
  obtain ⟨v2, vs2, d2, ds2, p2, q2, rfl, rfl, rfl, t2, r2⟩ := trodAll_cons r1
  obtain ⟨rfl, rfl, rfl⟩ := trodAll_nil r2
  obtain rfl : args = #[v0, v1, v2] := by cases args; simp_all
  obtain ⟨rfl, rfl⟩ := trodVars_none hV
  simp only [List.append_nil] at hW'
  obtain ⟨a0, rfl, rfl, rfl, w0⟩ := open_int Try.underlying3 (hval 0 3 v0 rfl rfl) t0
  obtain ⟨a1, rfl, rfl, rfl, w1⟩ := open_float Try.underlying22 (hval 1 22 v1 rfl rfl) t1
  have tk2 := t2
  obtain ⟨a2, rfl, wa2⟩ := open_vec (hval 2 24 v2 rfl rfl) t2
  have hlt2 : ∀ x ∈ p2, x.block < W.heap.size := fun x hx => by have := hW'.lt x (by simp [hx]); simpa using this
  clear hA0 hval0
  refine (walk W a0 w0 a1 (wf64 w1) a2 wa2).mono fun e W' ⟨he, hb⟩ => ?_
  subst he
  refine ⟨_, rfl, _, _, _, [], _, [], hW', trodAll_cons_mk (shut_bool Try.underlying4 _) trodAll_mk0, (trodAll_cons_mk (shut_int Try.underlying3 w0) (trodAll_cons_mk (shut_float Try.underlying22 w1) (trodAll_cons_mk (Below.trod laidOut (by kernel_rfl) (of_decide_eq_true (by kernel_rfl)) tk2 hb hlt2) trodAll_mk0))), rfl, hb.frame _, fun h => by cases h⟩

set_option maxRecDepth 100000 in
theorem over : Rows.vecHoldsRow.holds Try.pinned (OpenSpec.ofChange Rows.vecHoldsSpec) :=
  OpenClaim.holds_of_wide 8 Try.f8 rfl rfl rfl rfl rfl rfl rfl ⟨rfl, rfl, rfl, rfl, rfl⟩ rfl rfl rfl rfl rfl (by kernel_rfl) Try.func8 (by kernel_rfl)
    (of_decide_eq_true (by kernel_rfl)) (by unfold Func.isWrapper; first | (rw [if_pos (by decide +kernel)]; kernel_rfl) | (rw [if_neg (by decide +kernel)]; exact ⟨rfl, rfl⟩))
    (fun os started H enc _ => lifted os started H enc)

theorem proved : Rows.VecHoldsSaid :=
  over
end Go.Proofs.Ytpdkciennccckaa.vecHolds
