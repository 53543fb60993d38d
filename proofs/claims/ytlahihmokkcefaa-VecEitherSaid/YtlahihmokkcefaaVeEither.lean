/- Proved here: for all vectors the law VecEither returns true: which vector stands first is seen in signs alone. No conditions. -/
import Derived.Test.YtlahihmokkcefaaRows
import Derived.Test.YtlahihmokkcefaaJv4
namespace Go.Proofs.Ytlahihmokkcefaa.vecEither
open Go.ChangeShapes Go.WideShapes Go.ChangeAt Go.RowKit Ieee.Own

set_option maxHeartbeats 2000000 in
set_option maxRecDepth 100000 in
theorem walk (w : World) (a0 : V3) (h0 : W3 a0) (a1 : V3) (h1 : W3 a1) :
    Calls Try.prog 5 #[vecV a0, vecV a1] w fun e w' => e = .returned (.bool true) ∧ Below w.heap.size w w' := by
  have AW := Lib.hid awake7
  have dot1 := fun w => vdot_any h0 h1 w
  have dot2 := fun w => vdot_any h1 h0 w
  rw [← dot_comm h0 h1] at dot2
  have cross1 := fun w => vcross_any h0 h1 w
  have cross2 := fun w => vcross_any h1 h0 w
  have oc := cross_opp h0 h1
  have sub1 := fun w => vsub_any h0 h1 w
  have sub2 := fun w => vsub_any h1 h0 w
  have os := sub_opp h0 h1
  clear h0 h1
  generalize dotR a0 a1 = Rdot at *
  obtain ⟨dv, kdot⟩ := Rdot
  generalize crossR a0 a1 = R1 at *
  generalize crossR a1 a0 = R2 at *
  obtain ⟨⟨cx, cy, cz⟩, kcross⟩ := R1
  obtain ⟨⟨cu, cv, cw⟩, lcross⟩ := R2
  obtain ⟨ec, fc, n1, n2, n3⟩ := oc
  dsimp only at ec fc n1 n2 n3
  subst ec
  have ngc := fun w => vneg_run (run_sub _ _ _ (negN_spec fc.f1).1) (run_sub _ _ _ (negN_spec fc.f2).1) (run_sub _ _ _ (negN_spec fc.f3).1) w
  dsimp only at ngc
  rw [n1, n2, n3] at ngc
  clear n1 n2 n3 fc
  replace ngc := Lib.hid ngc
  generalize subR a0 a1 = R1 at *
  generalize subR a1 a0 = R2 at *
  obtain ⟨⟨sx, sy, sz⟩, ksub⟩ := R1
  obtain ⟨⟨su, sv, sw⟩, lsub⟩ := R2
  obtain ⟨es, fs, n1, n2, n3⟩ := os
  dsimp only at es fs n1 n2 n3
  subst es
  have ngs := fun w => vneg_run (run_sub _ _ _ (negN_spec fs.f1).1) (run_sub _ _ _ (negN_spec fs.f2).1) (run_sub _ _ _ (negN_spec fs.f3).1) w
  dsimp only at ngs
  rw [n1, n2, n3] at ngs
  clear n1 n2 n3 fs
  replace ngs := Lib.hid ngs
  obtain ⟨c1, c2, c3⟩ := a0
  obtain ⟨b1, b2, b3⟩ := a1
  unfold vecE floE vecV at *
  dsimp only at *
  have alc := Lib.hid (fun w => alike_run7 cx cy cz lcross w)
  have als := Lib.hid (fun w => alike_run7 sx sy sz lsub w)
  replace dot1 := Lib.hid dot1
  replace dot2 := Lib.hid dot2
  replace cross1 := Lib.hid cross1
  replace cross2 := Lib.hid cross2
  replace sub1 := Lib.hid sub1
  replace sub2 := Lib.hid sub2
  have tk1 : (kdot != kdot) = false := by simp
  have K0 := kw2 w 24 24 [c1, c2, c3] [b1, b2, b3]
  simp only [objW, List.map_cons, List.map_nil] at K0
  have hst := @fstore
  replace K0 := Lib.hid K0
  go_enter Try.func5, Try.ntmps5
  go_wp2_with fail
  have K := K0.out
  clear K0
  generalize (w.alloc _).alloc _ = wr at *
  refine (AW.out wr).mono ?_
  rintro _ v1 ⟨rfl, hb⟩
  replace K := K.on hb
  clear hb
  clear AW
  have c0_0 := (K.at_ 0 rfl).at_ 0 _ rfl
  have c0_1 := (K.at_ 0 rfl).at_ 1 _ rfl
  have c0_2 := (K.at_ 0 rfl).at_ 2 _ rfl
  have c1_0 := (K.at_ 1 rfl).at_ 0 _ rfl
  have c1_1 := (K.at_ 1 rfl).at_ 1 _ rfl
  have c1_2 := (K.at_ 1 rfl).at_ 2 _ rfl
  replace K := Lib.hid K
  go_wp2_with fail
  replace K := K.out
  refine (dot1.out v1).mono ?_
  rintro _ v2 ⟨rfl, hb⟩
  clear c0_0 c0_1 c0_2 c1_0 c1_1 c1_2
  replace K := K.on hb
  clear hb
  clear dot1
  have c0_0 := (K.at_ 0 rfl).at_ 0 _ rfl
  have c0_1 := (K.at_ 0 rfl).at_ 1 _ rfl
  have c0_2 := (K.at_ 0 rfl).at_ 2 _ rfl
  have c1_0 := (K.at_ 1 rfl).at_ 0 _ rfl
  have c1_1 := (K.at_ 1 rfl).at_ 1 _ rfl
  have c1_2 := (K.at_ 1 rfl).at_ 2 _ rfl
  replace K := Lib.hid K
  go_wp2_with fail
  replace K := K.out
  refine (dot2.out v2).mono ?_
  rintro _ v3 ⟨rfl, hb⟩
  clear c0_0 c0_1 c0_2 c1_0 c1_1 c1_2
  replace K := K.on hb
  clear hb
  clear dot2
  have c0_0 := (K.at_ 0 rfl).at_ 0 _ rfl
  have c0_1 := (K.at_ 0 rfl).at_ 1 _ rfl
  have c0_2 := (K.at_ 0 rfl).at_ 2 _ rfl
  have c1_0 := (K.at_ 1 rfl).at_ 0 _ rfl
  have c1_1 := (K.at_ 1 rfl).at_ 1 _ rfl
  have c1_2 := (K.at_ 1 rfl).at_ 2 _ rfl
  replace K := Lib.hid K
  go_wp2_with (go_at_call 26; ((with_reducible refine (same_run _ _ rfl _).mono ?_); rintro e w' ⟨rfl, rfl⟩))
  replace K := K.out
  refine (cross1.out v3).mono ?_
  rintro _ v4 ⟨rfl, hb⟩
  clear c0_0 c0_1 c0_2 c1_0 c1_1 c1_2
  replace K := K.on hb
  clear hb
  clear cross1
  replace K := K.new 24 [cx, cy, cz]
  simp only [objW, List.map_cons, List.map_nil, List.cons_append, List.nil_append] at K
  have c0_0 := (K.at_ 0 rfl).at_ 0 _ rfl
  have c0_1 := (K.at_ 0 rfl).at_ 1 _ rfl
  have c0_2 := (K.at_ 0 rfl).at_ 2 _ rfl
  have c1_0 := (K.at_ 1 rfl).at_ 0 _ rfl
  have c1_1 := (K.at_ 1 rfl).at_ 1 _ rfl
  have c1_2 := (K.at_ 1 rfl).at_ 2 _ rfl
  replace K := Lib.hid K
  go_wp2_with fail
  replace K := K.out
  generalize v4.alloc _ = u4 at *
  generalize v4.heap.size = g1 at *
  refine (cross2.out u4).mono ?_
  rintro _ v5 ⟨rfl, hb⟩
  clear c0_0 c0_1 c0_2 c1_0 c1_1 c1_2
  replace K := K.on hb
  clear hb
  clear cross2
  replace K := K.new 24 [cu, cv, cw]
  simp only [objW, List.map_cons, List.map_nil, List.cons_append, List.nil_append] at K
  have c0_0 := (K.at_ 0 rfl).at_ 0 _ rfl
  have c0_1 := (K.at_ 0 rfl).at_ 1 _ rfl
  have c0_2 := (K.at_ 0 rfl).at_ 2 _ rfl
  have c1_0 := (K.at_ 1 rfl).at_ 0 _ rfl
  have c1_1 := (K.at_ 1 rfl).at_ 1 _ rfl
  have c1_2 := (K.at_ 1 rfl).at_ 2 _ rfl
  replace K := Lib.hid K
  go_upto_region 9 with fail
  replace K := K.out
  generalize v5.alloc _ = u5 at *
  generalize v5.heap.size = g2 at *
  generalize hds : ([some 46, some 47, some 48, some 49, some 50, some 51, some 52] : List (Option Tmp)) = ds
  have hap : apartL ds = true := by rw [← hds]; decide
  replace hds := hds.symm
  refine wp_region_det (by kernel_rfl) ds (by rw [hds]; rfl) hap (by decide +kernel) [.agg #[.float .f64 cx, .float .f64 cy, .float .f64 cz], .int .i64 lcross, .agg #[.float .f64 cu, .float .f64 cv, .float .f64 cw], .agg #[.float .f64 cx, .float .f64 cy, .float .f64 cz], .int .i64 lcross, .bool true, .bool false] rfl (fun W => Kw w [some (w.heap.size, [c1, c2, c3]), some (w.heap.size + 1, [b1, b2, b3]), some (g1, [cx, cy, cz]), some (g2, [cu, cv, cw])] W) K.draws ?step ?fin
  case step =>
    intro L W i o ho hd hS
    have hi : i < 7 := (Array.getElem?_eq_some_iff.1 ho).1
    have : i = 0 ∨ i = 1 ∨ i = 2 ∨ i = 3 ∨ i = 4 ∨ i = 5 ∨ i = 6 := by omega
    rcases this with rfl | rfl | rfl | rfl | rfl | rfl | rfl
    · -- 0
      obtain rfl := Option.some.inj ho
      have b := hS.at_ 2 rfl
      have c0 := b.at_ 0 _ rfl
      have c1 := b.at_ 1 _ rfl
      have c2 := b.at_ 2 _ rfl
      clear b
      refine .value rfl W ?_ hS
      generalize hA : (puts ds L _).eval = ρ
      have hc : ∀ v, ρ (.const v) = v := fun v => by rw [← hA]; rfl
      have hg : ∀ g, ρ (.func g) = .func (.func g) #[] #[] := fun v => by rw [← hA]; rfl
      have h0 : ρ (.tmp 9) = .pointer (some ⟨g1, 0, none⟩) := by rw [← hA]; exact (puts_old ds L _ (by rw [hds]; decide)).trans rfl
      clear hA hd ho
      unfold execOp
      go_simp
    · -- 1
      obtain rfl := Option.some.inj ho
      refine .value rfl W ?_ hS
      generalize hA : (puts ds L _).eval = ρ
      have hc : ∀ v, ρ (.const v) = v := fun v => by rw [← hA]; rfl
      have hg : ∀ g, ρ (.func g) = .func (.func g) #[] #[] := fun v => by rw [← hA]; rfl
      have h0 : ρ (.tmp 6) = .int .i64 lcross := by rw [← hA]; exact (puts_old ds L _ (by rw [hds]; decide)).trans rfl
      clear hA hd ho
      unfold execOp
      go_simp
    · -- 2
      obtain rfl := Option.some.inj ho
      have b := hS.at_ 3 rfl
      have c0 := b.at_ 0 _ rfl
      have c1 := b.at_ 1 _ rfl
      have c2 := b.at_ 2 _ rfl
      clear b
      refine .value rfl W ?_ hS
      generalize hA : (puts ds L _).eval = ρ
      have hc : ∀ v, ρ (.const v) = v := fun v => by rw [← hA]; rfl
      have hg : ∀ g, ρ (.func g) = .func (.func g) #[] #[] := fun v => by rw [← hA]; rfl
      have h0 : ρ (.tmp 10) = .pointer (some ⟨g2, 0, none⟩) := by rw [← hA]; exact (puts_old ds L _ (by rw [hds]; decide)).trans rfl
      clear hA hd ho
      unfold execOp
      go_simp
    · -- 3
      obtain rfl := Option.some.inj ho
      refine .call rfl 36 #[.agg #[.float .f64 cu, .float .f64 cv, .float .f64 cw]] ?_ ((ngc.out W).mono fun e w' h => ⟨h.1, hS.on h.2⟩)
      generalize hA : (puts ds L _).eval = ρ
      have hc : ∀ v, ρ (.const v) = v := fun v => by rw [← hA]; rfl
      have hg : ∀ g, ρ (.func g) = .func (.func g) #[] #[] := fun v => by rw [← hA]; rfl
      have h0 : ρ (.tmp 48) = .agg #[.float .f64 cu, .float .f64 cv, .float .f64 cw] := by rw [← hA]; exact puts_get 2 ds L _ hap (by rw [hds]; rfl) (hd 2 (by decide +kernel)) (show 48 < 71 by decide)
      have hf := Try.func36
      unfold execOp
      go_simp
    · -- 4
      obtain rfl := Option.some.inj ho
      refine .value rfl W ?_ hS
      generalize hA : (puts ds L _).eval = ρ
      have hc : ∀ v, ρ (.const v) = v := fun v => by rw [← hA]; rfl
      have hg : ∀ g, ρ (.func g) = .func (.func g) #[] #[] := fun v => by rw [← hA]; rfl
      have h0 : ρ (.tmp 8) = .int .i64 lcross := by rw [← hA]; exact (puts_old ds L _ (by rw [hds]; decide)).trans rfl
      clear hA hd ho
      unfold execOp
      go_simp
    · -- 5
      obtain rfl := Option.some.inj ho
      refine .call rfl 15 #[.agg #[.float .f64 cx, .float .f64 cy, .float .f64 cz], .int .i64 lcross, .agg #[.float .f64 cx, .float .f64 cy, .float .f64 cz], .int .i64 lcross] ?_ ((alc.out W).mono fun e w' h => ⟨h.1, hS.on h.2⟩)
      generalize hA : (puts ds L _).eval = ρ
      have hc : ∀ v, ρ (.const v) = v := fun v => by rw [← hA]; rfl
      have hg : ∀ g, ρ (.func g) = .func (.func g) #[] #[] := fun v => by rw [← hA]; rfl
      have h0 : ρ (.tmp 46) = .agg #[.float .f64 cx, .float .f64 cy, .float .f64 cz] := by rw [← hA]; exact puts_get 0 ds L _ hap (by rw [hds]; rfl) (hd 0 (by decide +kernel)) (show 46 < 71 by decide)
      have h1 : ρ (.tmp 47) = .int .i64 lcross := by rw [← hA]; exact puts_get 1 ds L _ hap (by rw [hds]; rfl) (hd 1 (by decide +kernel)) (show 47 < 71 by decide)
      have h2 : ρ (.tmp 49) = .agg #[.float .f64 cx, .float .f64 cy, .float .f64 cz] := by rw [← hA]; exact puts_get 3 ds L _ hap (by rw [hds]; rfl) (hd 3 (by decide +kernel)) (show 49 < 71 by decide)
      have h3 : ρ (.tmp 50) = .int .i64 lcross := by rw [← hA]; exact puts_get 4 ds L _ hap (by rw [hds]; rfl) (hd 4 (by decide +kernel)) (show 50 < 71 by decide)
      have hf := Try.func15
      unfold execOp
      go_simp
    · -- 6
      obtain rfl := Option.some.inj ho
      refine .value rfl W ?_ hS
      generalize hA : (puts ds L _).eval = ρ
      have hc : ∀ v, ρ (.const v) = v := fun v => by rw [← hA]; rfl
      have hg : ∀ g, ρ (.func g) = .func (.func g) #[] #[] := fun v => by rw [← hA]; rfl
      have h0 : ρ (.tmp 51) = .bool true := by rw [← hA]; exact puts_get 5 ds L _ hap (by rw [hds]; rfl) (hd 5 (by decide +kernel)) (show 51 < 71 by decide)
      clear hA hd ho
      unfold execOp
      go_simp
  case fin =>
    intro W0 K
    rw [hds]
    clear hds hap ds ngc alc
    simp only [List.map_cons, List.map_nil, puts, Act.put, List.setIfInBounds_toArray]
    have c0_0 := (K.at_ 0 rfl).at_ 0 _ rfl
    have c0_1 := (K.at_ 0 rfl).at_ 1 _ rfl
    have c0_2 := (K.at_ 0 rfl).at_ 2 _ rfl
    have c1_0 := (K.at_ 1 rfl).at_ 0 _ rfl
    have c1_1 := (K.at_ 1 rfl).at_ 1 _ rfl
    have c1_2 := (K.at_ 1 rfl).at_ 2 _ rfl
    replace K := Lib.hid K
    go_wp2_with fail
    replace K := K.out
    refine (sub1.out W0).mono ?_
    rintro _ v6 ⟨rfl, hb⟩
    clear c0_0 c0_1 c0_2 c1_0 c1_1 c1_2
    replace K := K.on hb
    clear hb
    clear sub1
    have c2_0 := (K.at_ 2 rfl).at_ 0 _ rfl
    have f2_0 := (K.at_ 2 rfl).fr 0 _ rfl
    have c2_1 := (K.at_ 2 rfl).at_ 1 _ rfl
    have f2_1 := (K.at_ 2 rfl).fr 1 _ rfl
    have c2_2 := (K.at_ 2 rfl).at_ 2 _ rfl
    have f2_2 := (K.at_ 2 rfl).fr 2 _ rfl
    replace K := K.put 2 rfl 0 [sx, sy, sz] (by simp)
    simp only [putW, setL, List.set_cons_zero, List.set_cons_succ] at K
    have c0_0 := (K.at_ 0 rfl).at_ 0 _ rfl
    have c0_1 := (K.at_ 0 rfl).at_ 1 _ rfl
    have c0_2 := (K.at_ 0 rfl).at_ 2 _ rfl
    have c1_0 := (K.at_ 1 rfl).at_ 0 _ rfl
    have c1_1 := (K.at_ 1 rfl).at_ 1 _ rfl
    have c1_2 := (K.at_ 1 rfl).at_ 2 _ rfl
    replace K := Lib.hid K
    go_wp2_with fail
    replace K := K.out
    generalize World.setCell _ _ _ = u6 at *
    refine (sub2.out u6).mono ?_
    rintro _ v7 ⟨rfl, hb⟩
    clear c2_0 f2_0 c2_1 f2_1 c2_2 f2_2 c0_0 c0_1 c0_2 c1_0 c1_1 c1_2
    replace K := K.on hb
    clear hb
    clear sub2
    have c3_0 := (K.at_ 3 rfl).at_ 0 _ rfl
    have f3_0 := (K.at_ 3 rfl).fr 0 _ rfl
    have c3_1 := (K.at_ 3 rfl).at_ 1 _ rfl
    have f3_1 := (K.at_ 3 rfl).fr 1 _ rfl
    have c3_2 := (K.at_ 3 rfl).at_ 2 _ rfl
    have f3_2 := (K.at_ 3 rfl).fr 2 _ rfl
    replace K := K.put 3 rfl 0 [su, sv, sw] (by simp)
    simp only [putW, setL, List.set_cons_zero, List.set_cons_succ] at K
    have c0_0 := (K.at_ 0 rfl).at_ 0 _ rfl
    have c0_1 := (K.at_ 0 rfl).at_ 1 _ rfl
    have c0_2 := (K.at_ 0 rfl).at_ 2 _ rfl
    have c1_0 := (K.at_ 1 rfl).at_ 0 _ rfl
    have c1_1 := (K.at_ 1 rfl).at_ 1 _ rfl
    have c1_2 := (K.at_ 1 rfl).at_ 2 _ rfl
    replace K := Lib.hid K
    go_upto_region 13 with fail
    replace K := K.out
    generalize World.setCell _ _ _ = u7 at *
    generalize hds : ([some 65, some 66, some 67, some 68, some 69, some 70, some 4] : List (Option Tmp)) = ds
    have hap : apartL ds = true := by rw [← hds]; decide
    replace hds := hds.symm
    refine wp_region_det (by kernel_rfl) ds (by rw [hds]; rfl) hap (by decide +kernel) [.agg #[.float .f64 sx, .float .f64 sy, .float .f64 sz], .int .i64 lsub, .agg #[.float .f64 su, .float .f64 sv, .float .f64 sw], .agg #[.float .f64 sx, .float .f64 sy, .float .f64 sz], .int .i64 lsub, .bool true, .bool true] rfl (fun W => Kw w [some (w.heap.size, [c1, c2, c3]), some (w.heap.size + 1, [b1, b2, b3]), some (g1, [sx, sy, sz]), some (g2, [su, sv, sw])] W) K.draws ?step ?fin
    case step =>
      intro L W i o ho hd hS
      have hi : i < 7 := (Array.getElem?_eq_some_iff.1 ho).1
      have : i = 0 ∨ i = 1 ∨ i = 2 ∨ i = 3 ∨ i = 4 ∨ i = 5 ∨ i = 6 := by omega
      rcases this with rfl | rfl | rfl | rfl | rfl | rfl | rfl
      · -- 0
        obtain rfl := Option.some.inj ho
        have b := hS.at_ 2 rfl
        have c0 := b.at_ 0 _ rfl
        have c1 := b.at_ 1 _ rfl
        have c2 := b.at_ 2 _ rfl
        clear b
        refine .value rfl W ?_ hS
        generalize hA : (puts ds L _).eval = ρ
        have hc : ∀ v, ρ (.const v) = v := fun v => by rw [← hA]; rfl
        have hg : ∀ g, ρ (.func g) = .func (.func g) #[] #[] := fun v => by rw [← hA]; rfl
        have h0 : ρ (.tmp 9) = .pointer (some ⟨g1, 0, none⟩) := by rw [← hA]; exact (puts_old ds L _ (by rw [hds]; decide)).trans rfl
        clear hA hd ho
        unfold execOp
        go_simp
      · -- 1
        obtain rfl := Option.some.inj ho
        refine .value rfl W ?_ hS
        generalize hA : (puts ds L _).eval = ρ
        have hc : ∀ v, ρ (.const v) = v := fun v => by rw [← hA]; rfl
        have hg : ∀ g, ρ (.func g) = .func (.func g) #[] #[] := fun v => by rw [← hA]; rfl
        have h0 : ρ (.tmp 6) = .int .i64 lsub := by rw [← hA]; exact (puts_old ds L _ (by rw [hds]; decide)).trans rfl
        clear hA hd ho
        unfold execOp
        go_simp
      · -- 2
        obtain rfl := Option.some.inj ho
        have b := hS.at_ 3 rfl
        have c0 := b.at_ 0 _ rfl
        have c1 := b.at_ 1 _ rfl
        have c2 := b.at_ 2 _ rfl
        clear b
        refine .value rfl W ?_ hS
        generalize hA : (puts ds L _).eval = ρ
        have hc : ∀ v, ρ (.const v) = v := fun v => by rw [← hA]; rfl
        have hg : ∀ g, ρ (.func g) = .func (.func g) #[] #[] := fun v => by rw [← hA]; rfl
        have h0 : ρ (.tmp 10) = .pointer (some ⟨g2, 0, none⟩) := by rw [← hA]; exact (puts_old ds L _ (by rw [hds]; decide)).trans rfl
        clear hA hd ho
        unfold execOp
        go_simp
      · -- 3
        obtain rfl := Option.some.inj ho
        refine .call rfl 36 #[.agg #[.float .f64 su, .float .f64 sv, .float .f64 sw]] ?_ ((ngs.out W).mono fun e w' h => ⟨h.1, hS.on h.2⟩)
        generalize hA : (puts ds L _).eval = ρ
        have hc : ∀ v, ρ (.const v) = v := fun v => by rw [← hA]; rfl
        have hg : ∀ g, ρ (.func g) = .func (.func g) #[] #[] := fun v => by rw [← hA]; rfl
        have h0 : ρ (.tmp 67) = .agg #[.float .f64 su, .float .f64 sv, .float .f64 sw] := by rw [← hA]; exact puts_get 2 ds L _ hap (by rw [hds]; rfl) (hd 2 (by decide +kernel)) (show 67 < 71 by decide)
        have hf := Try.func36
        unfold execOp
        go_simp
      · -- 4
        obtain rfl := Option.some.inj ho
        refine .value rfl W ?_ hS
        generalize hA : (puts ds L _).eval = ρ
        have hc : ∀ v, ρ (.const v) = v := fun v => by rw [← hA]; rfl
        have hg : ∀ g, ρ (.func g) = .func (.func g) #[] #[] := fun v => by rw [← hA]; rfl
        have h0 : ρ (.tmp 8) = .int .i64 lsub := by rw [← hA]; exact (puts_old ds L _ (by rw [hds]; decide)).trans rfl
        clear hA hd ho
        unfold execOp
        go_simp
      · -- 5
        obtain rfl := Option.some.inj ho
        refine .call rfl 15 #[.agg #[.float .f64 sx, .float .f64 sy, .float .f64 sz], .int .i64 lsub, .agg #[.float .f64 sx, .float .f64 sy, .float .f64 sz], .int .i64 lsub] ?_ ((als.out W).mono fun e w' h => ⟨h.1, hS.on h.2⟩)
        generalize hA : (puts ds L _).eval = ρ
        have hc : ∀ v, ρ (.const v) = v := fun v => by rw [← hA]; rfl
        have hg : ∀ g, ρ (.func g) = .func (.func g) #[] #[] := fun v => by rw [← hA]; rfl
        have h0 : ρ (.tmp 65) = .agg #[.float .f64 sx, .float .f64 sy, .float .f64 sz] := by rw [← hA]; exact puts_get 0 ds L _ hap (by rw [hds]; rfl) (hd 0 (by decide +kernel)) (show 65 < 71 by decide)
        have h1 : ρ (.tmp 66) = .int .i64 lsub := by rw [← hA]; exact puts_get 1 ds L _ hap (by rw [hds]; rfl) (hd 1 (by decide +kernel)) (show 66 < 71 by decide)
        have h2 : ρ (.tmp 68) = .agg #[.float .f64 sx, .float .f64 sy, .float .f64 sz] := by rw [← hA]; exact puts_get 3 ds L _ hap (by rw [hds]; rfl) (hd 3 (by decide +kernel)) (show 68 < 71 by decide)
        have h3 : ρ (.tmp 69) = .int .i64 lsub := by rw [← hA]; exact puts_get 4 ds L _ hap (by rw [hds]; rfl) (hd 4 (by decide +kernel)) (show 69 < 71 by decide)
        have hf := Try.func15
        unfold execOp
        go_simp
      · -- 6
        obtain rfl := Option.some.inj ho
        refine .value rfl W ?_ hS
        generalize hA : (puts ds L _).eval = ρ
        have hc : ∀ v, ρ (.const v) = v := fun v => by rw [← hA]; rfl
        have hg : ∀ g, ρ (.func g) = .func (.func g) #[] #[] := fun v => by rw [← hA]; rfl
        have h0 : ρ (.tmp 70) = .bool true := by rw [← hA]; exact puts_get 5 ds L _ hap (by rw [hds]; rfl) (hd 5 (by decide +kernel)) (show 70 < 71 by decide)
        clear hA hd ho
        unfold execOp
        go_simp
    case fin =>
      intro W1 K
      rw [hds]
      clear hds hap ds ngs als
      simp only [List.map_cons, List.map_nil, puts, Act.put, List.setIfInBounds_toArray]
      have B := Lib.hid K.old
      clear K
      go_wp2_with fail
      go_ret
      exact ⟨rfl, B.out⟩

set_option maxRecDepth 100000 in
theorem own : ownKnob Try.prog.godebug = none := by kernel_rfl
set_option maxRecDepth 100000 in
theorem laidOut : laidOutB Try.prog = true := by kernel_rfl
set_option maxRecDepth 100000 in
theorem cellsF : Try.prog.cellsOf 22 = 1 := by kernel_rfl
set_option maxRecDepth 100000 in
theorem bytesF : Try.prog.bytesOf 22 = 8 := by kernel_rfl
theorem wf64 {b : Nat} (h : (Lit.float .f64 b).wf = true) : b < 18446744073709551616 := by
  simp only [Lit.wf, decide_eq_true_eq] at h; exact h

set_option maxRecDepth 100000 in
theorem lifted (os : Os) (started : os.Started) (H : Type) (enc : TypeId × Value → H) :
    ReturnsInHanded {} Try.checked os 5 .any (Rows.vecEitherSpec.pre6 enc Try.prog Try.f5 Rows.vecEitherRow.domain false) (Rows.vecEitherSpec.post enc Try.prog Try.f5 false true false false) := by
  refine returnsInHanded_of_change_sized (C := Try.checked) own started (by kernel_rfl) Try.func5
    (ChangeSpec.witness6 (enc := enc) (C := Try.checked) false ⟨#[], #[.agg #[.float .f64 0, .float .f64 0, .float .f64 0], .agg #[.float .f64 0, .float .f64 0, .float .f64 0]], []⟩ 8 (by kernel_rfl) (by kernel_rfl) (by kernel_rfl) (by kernel_rfl)) ?_
  intro W base args ds gs before hval0 hW _ hsz0 _
  have hsz : (DataW.weightsEach Try.prog (Try.f5.params.toList ++ Rows.vecEitherSpec.plain.varTypes Try.prog) (ds ++ gs)).all (· ≤ reachBytes) = true := hsz0
  clear hsz0
  have hval : ∀ (j : Nat) t v, Try.f5.params[j]? = some t → args[j]? = some v → Value.okWide Try.prog W .any base t v := hval0
  have hW' := hW
  obtain ⟨p, q, hA0, hV, rfl, _, _⟩ := hW
  have hA : DataW.TrodAll enc Try.prog W 0 (fun _ => true) true Try.f5.params.toList args.toList ds p := hA0
  rw [Try.params5] at hA hval hsz
  obtain ⟨v0, vs0, d0, ds0, p0, q0, hargs, rfl, rfl, t0, r0⟩ := trodAll_cons hA
  obtain ⟨v1, vs1, d1, ds1, p1, q1, rfl, rfl, rfl, t1, r1⟩ := trodAll_cons r0
  obtain ⟨rfl, rfl, rfl⟩ := trodAll_nil r1
  obtain rfl : args = #[v0, v1] := by cases args; simp_all
  obtain ⟨rfl, rfl⟩ := trodVars_none hV
  simp only [List.append_nil] at hW'
  have tk0 := t0
  obtain ⟨a0, rfl, wa0⟩ := open_vec (hval 0 24 v0 rfl rfl) t0
  have hlt0 : ∀ x ∈ p0, x.block < W.heap.size := fun x hx => by have := hW'.lt x (by simp [hx]); simpa using this
  have tk1 := t1
  obtain ⟨a1, rfl, wa1⟩ := open_vec (hval 1 24 v1 rfl rfl) t1
  have hlt1 : ∀ x ∈ p1, x.block < W.heap.size := fun x hx => by have := hW'.lt x (by simp [hx]); simpa using this
  clear hA0 hval0
  refine (walk W a0 wa0 a1 wa1).mono fun e W' ⟨he, hb⟩ => ?_
  subst he
  refine ⟨_, rfl, _, _, _, [], _, [], hW', trodAll_cons_mk (shut_bool Try.underlying4 _) trodAll_mk0, (trodAll_cons_mk (Below.trod laidOut (by kernel_rfl) (of_decide_eq_true (by kernel_rfl)) tk0 hb hlt0) (trodAll_cons_mk (Below.trod laidOut (by kernel_rfl) (of_decide_eq_true (by kernel_rfl)) tk1 hb hlt1) trodAll_mk0)), rfl, hb.frame _, fun h => by cases h⟩

set_option maxRecDepth 100000 in
theorem over : Rows.vecEitherRow.holds Try.pinned (OpenSpec.ofChange Rows.vecEitherSpec) :=
  OpenClaim.holds_of_wide 5 Try.f5 rfl rfl rfl rfl rfl rfl rfl ⟨rfl, rfl, rfl, rfl, rfl⟩ rfl rfl rfl rfl rfl (by kernel_rfl) Try.func5 (by kernel_rfl)
    (of_decide_eq_true (by kernel_rfl)) (by unfold Func.isWrapper; first | (rw [if_pos (by decide +kernel)]; kernel_rfl) | (rw [if_neg (by decide +kernel)]; exact ⟨rfl, rfl⟩))
    (fun os started H enc _ => lifted os started H enc)

theorem proved : Rows.VecEitherSaid :=
  over
end Go.Proofs.Ytlahihmokkcefaa.vecEither
