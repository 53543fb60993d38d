/- Proved here: for all vectors the law VecTells returns true: sums, products, lengths, units, bit by bit. No conditions. -/
import Derived.Test.YtlahihmokkcefaaRows
import Derived.Test.YtlahihmokkcefaaJv3
namespace Go.Proofs.Ytlahihmokkcefaa.vecTells
open Go.ChangeShapes Go.WideShapes Go.ChangeAt Go.RowKit Ieee.Own

set_option maxHeartbeats 2000000 in
set_option maxRecDepth 100000 in
theorem walk (w : World) (a0 : V3) (h0 : W3 a0) (a1 : V3) (h1 : W3 a1) :
    Calls Try.prog 3 #[vecV a0, vecV a1] w fun e w' => e = .returned (.bool true) ∧ Below w.heap.size w w' := by
  have AW := Lib.hid awake7
  have F1 := fun w => vfit_run h0 w
  have F2 := fun w => rvfit_run h0 w
  have add1 := fun w => vadd_any h0 h1 w
  have add2 := fun w => rvadd_any h0 h1 w
  have sub1 := fun w => vsub_any h0 h1 w
  have sub2 := fun w => rvsub_any h0 h1 w
  have cross1 := fun w => vcross_any h0 h1 w
  have cross2 := fun w => rvcross_any h0 h1 w
  have unit1 := fun w => vunit_any h0 w
  have unit2 := fun w => rvunit_any h0 w
  have dot1 := fun w => vdot_any h0 h1 w
  have dot2 := fun w => rvdot_any h0 h1 w
  have norm1 := fun w => vnorm_any h0 w
  have norm2 := fun w => rvnorm_any h0 w
  clear h0 h1
  generalize fitV a0 = ft at *
  generalize addR a0 a1 = Radd at *
  obtain ⟨⟨ax, ay, az⟩, kadd⟩ := Radd
  generalize subR a0 a1 = Rsub at *
  obtain ⟨⟨sx, sy, sz⟩, ksub⟩ := Rsub
  generalize crossR a0 a1 = Rcross at *
  obtain ⟨⟨cx, cy, cz⟩, kcross⟩ := Rcross
  generalize unitR a0 = Runit at *
  obtain ⟨⟨ux, uy, uz⟩, kunit⟩ := Runit
  generalize dotR a0 a1 = Rdot at *
  obtain ⟨dv, kdot⟩ := Rdot
  generalize normR a0 = Rnorm at *
  obtain ⟨nv, knorm⟩ := Rnorm
  obtain ⟨c1, c2, c3⟩ := a0
  obtain ⟨b1, b2, b3⟩ := a1
  unfold vecE floE vecV at *
  dsimp only at *
  have aladd := Lib.hid (fun w => alike_run7 ax ay az kadd w)
  have alsub := Lib.hid (fun w => alike_run7 sx sy sz ksub w)
  have alcross := Lib.hid (fun w => alike_run7 cx cy cz kcross w)
  have alunit := Lib.hid (fun w => alike_run7 ux uy uz kunit w)
  replace F1 := Lib.hid F1
  replace F2 := Lib.hid F2
  replace add1 := Lib.hid add1
  replace add2 := Lib.hid add2
  replace sub1 := Lib.hid sub1
  replace sub2 := Lib.hid sub2
  replace cross1 := Lib.hid cross1
  replace cross2 := Lib.hid cross2
  replace unit1 := Lib.hid unit1
  replace unit2 := Lib.hid unit2
  replace dot1 := Lib.hid dot1
  replace dot2 := Lib.hid dot2
  replace norm1 := Lib.hid norm1
  replace norm2 := Lib.hid norm2
  have nf : (ft != ft) = false := by simp
  have tk1 : (kdot == kdot) = true := by simp
  have tk2 : (knorm == knorm) = true := by simp
  have K0 := kw2 w 24 24 [c1, c2, c3] [b1, b2, b3]
  simp only [objW, List.map_cons, List.map_nil] at K0
  have hst := @fstore
  replace K0 := Lib.hid K0
  go_enter Try.func3, Try.ntmps3
  go_upto_region 1 with fail
  have K := K0.out
  clear K0
  generalize (w.alloc _).alloc _ = wr at *
  generalize hds : ([some 15, some 16, some 17, some 18, some 19, some 20, some 21, some 22, some 23] : List (Option Tmp)) = ds
  have hap : apartL ds = true := by rw [← hds]; decide
  replace hds := hds.symm
  refine wp_region_det (by kernel_rfl) ds (by rw [hds]; rfl) hap (by decide +kernel) [.bool true, .bool false, .bool false, .agg #[.float .f64 c1, .float .f64 c2, .float .f64 c3], .bool ft, .agg #[.float .f64 c1, .float .f64 c2, .float .f64 c3], .bool ft, .bool false, .bool false] rfl (fun W => Kw w [some (w.heap.size, [c1, c2, c3]), some (w.heap.size + 1, [b1, b2, b3])] W) K.draws ?step ?fin
  case step =>
    intro L W i o ho hd hS
    have hi : i < 9 := (Array.getElem?_eq_some_iff.1 ho).1
    have : i = 0 ∨ i = 1 ∨ i = 2 ∨ i = 3 ∨ i = 4 ∨ i = 5 ∨ i = 6 ∨ i = 7 ∨ i = 8 := by omega
    rcases this with rfl | rfl | rfl | rfl | rfl | rfl | rfl | rfl | rfl
    · -- 0
      obtain rfl := Option.some.inj ho
      refine .call rfl 10 #[] ?_ ((AW.out W).mono fun e w' h => ⟨h.1, hS.on h.2⟩)
      generalize hA : (puts ds L _).eval = ρ
      have hc : ∀ v, ρ (.const v) = v := fun v => by rw [← hA]; rfl
      have hg : ∀ g, ρ (.func g) = .func (.func g) #[] #[] := fun v => by rw [← hA]; rfl
      have hf := Try.func10
      unfold execOp
      go_simp
    · -- 1
      obtain rfl := Option.some.inj ho
      refine .value rfl W ?_ hS
      generalize hA : (puts ds L _).eval = ρ
      have hc : ∀ v, ρ (.const v) = v := fun v => by rw [← hA]; rfl
      have hg : ∀ g, ρ (.func g) = .func (.func g) #[] #[] := fun v => by rw [← hA]; rfl
      have h0 : ρ (.tmp 15) = .bool true := by rw [← hA]; exact puts_get 0 ds L _ hap (by rw [hds]; rfl) (hd 0 (by decide +kernel)) (show 15 < 134 by decide)
      clear hA hd ho
      unfold execOp
      go_simp
    · -- 2
      obtain rfl := Option.some.inj ho
      refine .value rfl W ?_ hS
      generalize hA : (puts ds L _).eval = ρ
      have hc : ∀ v, ρ (.const v) = v := fun v => by rw [← hA]; rfl
      have hg : ∀ g, ρ (.func g) = .func (.func g) #[] #[] := fun v => by rw [← hA]; rfl
      have h0 : ρ (.tmp 16) = .bool false := by rw [← hA]; exact puts_get 1 ds L _ hap (by rw [hds]; rfl) (hd 1 (by decide +kernel)) (show 16 < 134 by decide)
      clear hA hd ho
      unfold execOp
      go_simp
    · -- 3
      obtain rfl := Option.some.inj ho
      refine Comes.guarded (j := 2) (t := 17) (want := false) (b := false) (by rw [hds]; rfl) hap rfl (by rw [hds]; rfl) (hd 2 (by decide +kernel)) (show 17 < 134 by decide) (fun _ hw => ?_) (fun e => absurd rfl e)
      have b := hS.at_ 0 rfl
      have c0 := b.at_ 0 _ rfl
      have c1 := b.at_ 1 _ rfl
      have c2 := b.at_ 2 _ rfl
      clear b
      refine .value hw W ?_ hS
      generalize hA : (puts ds L _).eval = ρ
      have hc : ∀ v, ρ (.const v) = v := fun v => by rw [← hA]; rfl
      have hg : ∀ g, ρ (.func g) = .func (.func g) #[] #[] := fun v => by rw [← hA]; rfl
      have h0 : ρ (.tmp 2) = .pointer (some ⟨w.heap.size, 0, none⟩) := by rw [← hA]; exact (puts_old ds L _ (by rw [hds]; decide)).trans rfl
      clear hA hd ho
      unfold execOp
      go_simp
    · -- 4
      obtain rfl := Option.some.inj ho
      refine Comes.guarded (j := 2) (t := 17) (want := false) (b := false) (by rw [hds]; rfl) hap rfl (by rw [hds]; rfl) (hd 2 (by decide +kernel)) (show 17 < 134 by decide) (fun _ hw => ?_) (fun e => absurd rfl e)
      refine .call hw 11 #[.agg #[.float .f64 c1, .float .f64 c2, .float .f64 c3]] ?_ ((F1.out W).mono fun e w' h => ⟨h.1, hS.on h.2⟩)
      generalize hA : (puts ds L _).eval = ρ
      have hc : ∀ v, ρ (.const v) = v := fun v => by rw [← hA]; rfl
      have hg : ∀ g, ρ (.func g) = .func (.func g) #[] #[] := fun v => by rw [← hA]; rfl
      have h0 : ρ (.tmp 18) = .agg #[.float .f64 c1, .float .f64 c2, .float .f64 c3] := by rw [← hA]; exact puts_get 3 ds L _ hap (by rw [hds]; rfl) (hd 3 (by decide +kernel)) (show 18 < 134 by decide)
      have hf := Try.func11
      unfold execOp
      go_simp
    · -- 5
      obtain rfl := Option.some.inj ho
      refine Comes.guarded (j := 2) (t := 17) (want := false) (b := false) (by rw [hds]; rfl) hap rfl (by rw [hds]; rfl) (hd 2 (by decide +kernel)) (show 17 < 134 by decide) (fun _ hw => ?_) (fun e => absurd rfl e)
      have b := hS.at_ 0 rfl
      have c0 := b.at_ 0 _ rfl
      have c1 := b.at_ 1 _ rfl
      have c2 := b.at_ 2 _ rfl
      clear b
      refine .value hw W ?_ hS
      generalize hA : (puts ds L _).eval = ρ
      have hc : ∀ v, ρ (.const v) = v := fun v => by rw [← hA]; rfl
      have hg : ∀ g, ρ (.func g) = .func (.func g) #[] #[] := fun v => by rw [← hA]; rfl
      have h0 : ρ (.tmp 2) = .pointer (some ⟨w.heap.size, 0, none⟩) := by rw [← hA]; exact (puts_old ds L _ (by rw [hds]; decide)).trans rfl
      clear hA hd ho
      unfold execOp
      go_simp
    · -- 6
      obtain rfl := Option.some.inj ho
      refine Comes.guarded (j := 2) (t := 17) (want := false) (b := false) (by rw [hds]; rfl) hap rfl (by rw [hds]; rfl) (hd 2 (by decide +kernel)) (show 17 < 134 by decide) (fun _ hw => ?_) (fun e => absurd rfl e)
      refine .call hw 12 #[.agg #[.float .f64 c1, .float .f64 c2, .float .f64 c3]] ?_ ((F2.out W).mono fun e w' h => ⟨h.1, hS.on h.2⟩)
      generalize hA : (puts ds L _).eval = ρ
      have hc : ∀ v, ρ (.const v) = v := fun v => by rw [← hA]; rfl
      have hg : ∀ g, ρ (.func g) = .func (.func g) #[] #[] := fun v => by rw [← hA]; rfl
      have h0 : ρ (.tmp 20) = .agg #[.float .f64 c1, .float .f64 c2, .float .f64 c3] := by rw [← hA]; exact puts_get 5 ds L _ hap (by rw [hds]; rfl) (hd 5 (by decide +kernel)) (show 20 < 134 by decide)
      have hf := Try.func12
      unfold execOp
      go_simp
    · -- 7
      obtain rfl := Option.some.inj ho
      refine Comes.guarded (j := 2) (t := 17) (want := false) (b := false) (by rw [hds]; rfl) hap rfl (by rw [hds]; rfl) (hd 2 (by decide +kernel)) (show 17 < 134 by decide) (fun _ hw => ?_) (fun e => absurd rfl e)
      refine .value hw W ?_ hS
      generalize hA : (puts ds L _).eval = ρ
      have hc : ∀ v, ρ (.const v) = v := fun v => by rw [← hA]; rfl
      have hg : ∀ g, ρ (.func g) = .func (.func g) #[] #[] := fun v => by rw [← hA]; rfl
      have h0 : ρ (.tmp 19) = .bool ft := by rw [← hA]; exact puts_get 4 ds L _ hap (by rw [hds]; rfl) (hd 4 (by decide +kernel)) (show 19 < 134 by decide)
      have h1 : ρ (.tmp 21) = .bool ft := by rw [← hA]; exact puts_get 6 ds L _ hap (by rw [hds]; rfl) (hd 6 (by decide +kernel)) (show 21 < 134 by decide)
      clear hA hd ho
      unfold execOp
      go_simp
    · -- 8
      obtain rfl := Option.some.inj ho
      refine .value rfl W ?_ hS
      generalize hA : (puts ds L _).eval = ρ
      have hc : ∀ v, ρ (.const v) = v := fun v => by rw [← hA]; rfl
      have hg : ∀ g, ρ (.func g) = .func (.func g) #[] #[] := fun v => by rw [← hA]; rfl
      have h0 : ρ (.tmp 17) = .bool false := by rw [← hA]; exact puts_get 2 ds L _ hap (by rw [hds]; rfl) (hd 2 (by decide +kernel)) (show 17 < 134 by decide)
      have h1 : ρ (.tmp 22) = .bool false := by rw [← hA]; exact puts_get 7 ds L _ hap (by rw [hds]; rfl) (hd 7 (by decide +kernel)) (show 22 < 134 by decide)
      clear hA hd ho
      unfold execOp
      go_simp
  case fin =>
    intro W0 K
    rw [hds]
    clear hds hap ds AW F1 F2 nf
    simp only [List.map_cons, List.map_nil, puts, Act.put, List.setIfInBounds_toArray]
    have c0_0 := (K.at_ 0 rfl).at_ 0 _ rfl
    have c0_1 := (K.at_ 0 rfl).at_ 1 _ rfl
    have c0_2 := (K.at_ 0 rfl).at_ 2 _ rfl
    have c1_0 := (K.at_ 1 rfl).at_ 0 _ rfl
    have c1_1 := (K.at_ 1 rfl).at_ 1 _ rfl
    have c1_2 := (K.at_ 1 rfl).at_ 2 _ rfl
    replace K := Lib.hid K
    go_wp2_with fail
    replace K := K.out
    refine (add1.out W0).mono ?_
    rintro _ v1 ⟨rfl, hb⟩
    clear c0_0 c0_1 c0_2 c1_0 c1_1 c1_2
    replace K := K.on hb
    clear hb
    clear add1
    replace K := K.new 24 [ax, ay, az]
    simp only [objW, List.map_cons, List.map_nil, List.cons_append, List.nil_append] at K
    have c0_0 := (K.at_ 0 rfl).at_ 0 _ rfl
    have c0_1 := (K.at_ 0 rfl).at_ 1 _ rfl
    have c0_2 := (K.at_ 0 rfl).at_ 2 _ rfl
    have c1_0 := (K.at_ 1 rfl).at_ 0 _ rfl
    have c1_1 := (K.at_ 1 rfl).at_ 1 _ rfl
    have c1_2 := (K.at_ 1 rfl).at_ 2 _ rfl
    replace K := Lib.hid K
    go_wp2_with fail
    replace K := K.out
    generalize v1.alloc _ = u1 at *
    generalize v1.heap.size = g1 at *
    refine (add2.out u1).mono ?_
    rintro _ v2 ⟨rfl, hb⟩
    clear c0_0 c0_1 c0_2 c1_0 c1_1 c1_2
    replace K := K.on hb
    clear hb
    clear add2
    replace K := K.new 24 [ax, ay, az]
    simp only [objW, List.map_cons, List.map_nil, List.cons_append, List.nil_append] at K
    have c2_0 := (K.at_ 2 rfl).at_ 0 _ rfl
    have c2_1 := (K.at_ 2 rfl).at_ 1 _ rfl
    have c2_2 := (K.at_ 2 rfl).at_ 2 _ rfl
    have c3_0 := (K.at_ 3 rfl).at_ 0 _ rfl
    have c3_1 := (K.at_ 3 rfl).at_ 1 _ rfl
    have c3_2 := (K.at_ 3 rfl).at_ 2 _ rfl
    replace K := Lib.hid K
    go_wp2_with fail
    replace K := K.out
    generalize v2.alloc _ = u2 at *
    generalize v2.heap.size = g2 at *
    refine (aladd.out u2).mono ?_
    rintro _ v3 ⟨rfl, hb⟩
    clear c2_0 c2_1 c2_2 c3_0 c3_1 c3_2
    replace K := K.on hb
    clear hb
    clear aladd
    have c0_0 := (K.at_ 0 rfl).at_ 0 _ rfl
    have c0_1 := (K.at_ 0 rfl).at_ 1 _ rfl
    have c0_2 := (K.at_ 0 rfl).at_ 2 _ rfl
    have c1_0 := (K.at_ 1 rfl).at_ 0 _ rfl
    have c1_1 := (K.at_ 1 rfl).at_ 1 _ rfl
    have c1_2 := (K.at_ 1 rfl).at_ 2 _ rfl
    replace K := Lib.hid K
    go_wp2_with fail
    replace K := K.out
    refine (sub1.out v3).mono ?_
    rintro _ v4 ⟨rfl, hb⟩
    clear c0_0 c0_1 c0_2 c1_0 c1_1 c1_2
    replace K := K.on hb
    clear hb
    clear sub1
    have c2_0 := (K.at_ 2 rfl).at_ 0 _ rfl
    have f2_0 := (K.at_ 2 rfl).fr 0 _ rfl
    have c2_1 := (K.at_ 2 rfl).at_ 1 _ rfl
    have f2_1 := (K.at_ 2 rfl).fr 1 _ rfl
    have c2_2 := (K.at_ 2 rfl).at_ 2 _ rfl
    have f2_2 := (K.at_ 2 rfl).fr 2 _ rfl
    replace K := K.put 2 rfl 0 [sx, sy, sz] (by simp)
    simp only [putW, setL, List.set_cons_zero, List.set_cons_succ] at K
    have c0_0 := (K.at_ 0 rfl).at_ 0 _ rfl
    have c0_1 := (K.at_ 0 rfl).at_ 1 _ rfl
    have c0_2 := (K.at_ 0 rfl).at_ 2 _ rfl
    have c1_0 := (K.at_ 1 rfl).at_ 0 _ rfl
    have c1_1 := (K.at_ 1 rfl).at_ 1 _ rfl
    have c1_2 := (K.at_ 1 rfl).at_ 2 _ rfl
    replace K := Lib.hid K
    go_wp2_with fail
    replace K := K.out
    generalize World.setCell _ _ _ = u4 at *
    refine (sub2.out u4).mono ?_
    rintro _ v5 ⟨rfl, hb⟩
    clear c2_0 f2_0 c2_1 f2_1 c2_2 f2_2 c0_0 c0_1 c0_2 c1_0 c1_1 c1_2
    replace K := K.on hb
    clear hb
    clear sub2
    have c3_0 := (K.at_ 3 rfl).at_ 0 _ rfl
    have f3_0 := (K.at_ 3 rfl).fr 0 _ rfl
    have c3_1 := (K.at_ 3 rfl).at_ 1 _ rfl
    have f3_1 := (K.at_ 3 rfl).fr 1 _ rfl
    have c3_2 := (K.at_ 3 rfl).at_ 2 _ rfl
    have f3_2 := (K.at_ 3 rfl).fr 2 _ rfl
    replace K := K.put 3 rfl 0 [sx, sy, sz] (by simp)
    simp only [putW, setL, List.set_cons_zero, List.set_cons_succ] at K
    have c2_0 := (K.at_ 2 rfl).at_ 0 _ rfl
    have c2_1 := (K.at_ 2 rfl).at_ 1 _ rfl
    have c2_2 := (K.at_ 2 rfl).at_ 2 _ rfl
    have c3_0' := (K.at_ 3 rfl).at_ 0 _ rfl
    have c3_1' := (K.at_ 3 rfl).at_ 1 _ rfl
    have c3_2' := (K.at_ 3 rfl).at_ 2 _ rfl
    replace K := Lib.hid K
    go_wp2_with fail
    replace K := K.out
    generalize World.setCell _ _ _ = u5 at *
    refine (alsub.out u5).mono ?_
    rintro _ v6 ⟨rfl, hb⟩
    clear c3_0 f3_0 c3_1 f3_1 c3_2 f3_2 c2_0 c2_1 c2_2 c3_0' c3_1' c3_2'
    replace K := K.on hb
    clear hb
    clear alsub
    have c0_0 := (K.at_ 0 rfl).at_ 0 _ rfl
    have c0_1 := (K.at_ 0 rfl).at_ 1 _ rfl
    have c0_2 := (K.at_ 0 rfl).at_ 2 _ rfl
    have c1_0 := (K.at_ 1 rfl).at_ 0 _ rfl
    have c1_1 := (K.at_ 1 rfl).at_ 1 _ rfl
    have c1_2 := (K.at_ 1 rfl).at_ 2 _ rfl
    replace K := Lib.hid K
    go_wp2_with fail
    replace K := K.out
    refine (cross1.out v6).mono ?_
    rintro _ v7 ⟨rfl, hb⟩
    clear c0_0 c0_1 c0_2 c1_0 c1_1 c1_2
    replace K := K.on hb
    clear hb
    clear cross1
    have c2_0 := (K.at_ 2 rfl).at_ 0 _ rfl
    have f2_0 := (K.at_ 2 rfl).fr 0 _ rfl
    have c2_1 := (K.at_ 2 rfl).at_ 1 _ rfl
    have f2_1 := (K.at_ 2 rfl).fr 1 _ rfl
    have c2_2 := (K.at_ 2 rfl).at_ 2 _ rfl
    have f2_2 := (K.at_ 2 rfl).fr 2 _ rfl
    replace K := K.put 2 rfl 0 [cx, cy, cz] (by simp)
    simp only [putW, setL, List.set_cons_zero, List.set_cons_succ] at K
    have c0_0 := (K.at_ 0 rfl).at_ 0 _ rfl
    have c0_1 := (K.at_ 0 rfl).at_ 1 _ rfl
    have c0_2 := (K.at_ 0 rfl).at_ 2 _ rfl
    have c1_0 := (K.at_ 1 rfl).at_ 0 _ rfl
    have c1_1 := (K.at_ 1 rfl).at_ 1 _ rfl
    have c1_2 := (K.at_ 1 rfl).at_ 2 _ rfl
    replace K := Lib.hid K
    go_wp2_with fail
    replace K := K.out
    generalize World.setCell _ _ _ = u7 at *
    refine (cross2.out u7).mono ?_
    rintro _ v8 ⟨rfl, hb⟩
    clear c2_0 f2_0 c2_1 f2_1 c2_2 f2_2 c0_0 c0_1 c0_2 c1_0 c1_1 c1_2
    replace K := K.on hb
    clear hb
    clear cross2
    have c3_0 := (K.at_ 3 rfl).at_ 0 _ rfl
    have f3_0 := (K.at_ 3 rfl).fr 0 _ rfl
    have c3_1 := (K.at_ 3 rfl).at_ 1 _ rfl
    have f3_1 := (K.at_ 3 rfl).fr 1 _ rfl
    have c3_2 := (K.at_ 3 rfl).at_ 2 _ rfl
    have f3_2 := (K.at_ 3 rfl).fr 2 _ rfl
    replace K := K.put 3 rfl 0 [cx, cy, cz] (by simp)
    simp only [putW, setL, List.set_cons_zero, List.set_cons_succ] at K
    have c2_0 := (K.at_ 2 rfl).at_ 0 _ rfl
    have c2_1 := (K.at_ 2 rfl).at_ 1 _ rfl
    have c2_2 := (K.at_ 2 rfl).at_ 2 _ rfl
    have c3_0' := (K.at_ 3 rfl).at_ 0 _ rfl
    have c3_1' := (K.at_ 3 rfl).at_ 1 _ rfl
    have c3_2' := (K.at_ 3 rfl).at_ 2 _ rfl
    replace K := Lib.hid K
    go_wp2_with fail
    replace K := K.out
    generalize World.setCell _ _ _ = u8 at *
    refine (alcross.out u8).mono ?_
    rintro _ v9 ⟨rfl, hb⟩
    clear c3_0 f3_0 c3_1 f3_1 c3_2 f3_2 c2_0 c2_1 c2_2 c3_0' c3_1' c3_2'
    replace K := K.on hb
    clear hb
    clear alcross
    have c0_0 := (K.at_ 0 rfl).at_ 0 _ rfl
    have c0_1 := (K.at_ 0 rfl).at_ 1 _ rfl
    have c0_2 := (K.at_ 0 rfl).at_ 2 _ rfl
    have c1_0 := (K.at_ 1 rfl).at_ 0 _ rfl
    have c1_1 := (K.at_ 1 rfl).at_ 1 _ rfl
    have c1_2 := (K.at_ 1 rfl).at_ 2 _ rfl
    replace K := Lib.hid K
    go_wp2_with fail
    replace K := K.out
    refine (unit1.out v9).mono ?_
    rintro _ v10 ⟨rfl, hb⟩
    clear c0_0 c0_1 c0_2 c1_0 c1_1 c1_2
    replace K := K.on hb
    clear hb
    clear unit1
    have c2_0 := (K.at_ 2 rfl).at_ 0 _ rfl
    have f2_0 := (K.at_ 2 rfl).fr 0 _ rfl
    have c2_1 := (K.at_ 2 rfl).at_ 1 _ rfl
    have f2_1 := (K.at_ 2 rfl).fr 1 _ rfl
    have c2_2 := (K.at_ 2 rfl).at_ 2 _ rfl
    have f2_2 := (K.at_ 2 rfl).fr 2 _ rfl
    replace K := K.put 2 rfl 0 [ux, uy, uz] (by simp)
    simp only [putW, setL, List.set_cons_zero, List.set_cons_succ] at K
    have c0_0 := (K.at_ 0 rfl).at_ 0 _ rfl
    have c0_1 := (K.at_ 0 rfl).at_ 1 _ rfl
    have c0_2 := (K.at_ 0 rfl).at_ 2 _ rfl
    have c1_0 := (K.at_ 1 rfl).at_ 0 _ rfl
    have c1_1 := (K.at_ 1 rfl).at_ 1 _ rfl
    have c1_2 := (K.at_ 1 rfl).at_ 2 _ rfl
    replace K := Lib.hid K
    go_wp2_with fail
    replace K := K.out
    generalize World.setCell _ _ _ = u10 at *
    refine (unit2.out u10).mono ?_
    rintro _ v11 ⟨rfl, hb⟩
    clear c2_0 f2_0 c2_1 f2_1 c2_2 f2_2 c0_0 c0_1 c0_2 c1_0 c1_1 c1_2
    replace K := K.on hb
    clear hb
    clear unit2
    have c3_0 := (K.at_ 3 rfl).at_ 0 _ rfl
    have f3_0 := (K.at_ 3 rfl).fr 0 _ rfl
    have c3_1 := (K.at_ 3 rfl).at_ 1 _ rfl
    have f3_1 := (K.at_ 3 rfl).fr 1 _ rfl
    have c3_2 := (K.at_ 3 rfl).at_ 2 _ rfl
    have f3_2 := (K.at_ 3 rfl).fr 2 _ rfl
    replace K := K.put 3 rfl 0 [ux, uy, uz] (by simp)
    simp only [putW, setL, List.set_cons_zero, List.set_cons_succ] at K
    have c2_0 := (K.at_ 2 rfl).at_ 0 _ rfl
    have c2_1 := (K.at_ 2 rfl).at_ 1 _ rfl
    have c2_2 := (K.at_ 2 rfl).at_ 2 _ rfl
    have c3_0' := (K.at_ 3 rfl).at_ 0 _ rfl
    have c3_1' := (K.at_ 3 rfl).at_ 1 _ rfl
    have c3_2' := (K.at_ 3 rfl).at_ 2 _ rfl
    replace K := Lib.hid K
    go_wp2_with fail
    replace K := K.out
    generalize World.setCell _ _ _ = u11 at *
    refine (alunit.out u11).mono ?_
    rintro _ v12 ⟨rfl, hb⟩
    clear c3_0 f3_0 c3_1 f3_1 c3_2 f3_2 c2_0 c2_1 c2_2 c3_0' c3_1' c3_2'
    replace K := K.on hb
    clear hb
    clear alunit
    have c0_0 := (K.at_ 0 rfl).at_ 0 _ rfl
    have c0_1 := (K.at_ 0 rfl).at_ 1 _ rfl
    have c0_2 := (K.at_ 0 rfl).at_ 2 _ rfl
    have c1_0 := (K.at_ 1 rfl).at_ 0 _ rfl
    have c1_1 := (K.at_ 1 rfl).at_ 1 _ rfl
    have c1_2 := (K.at_ 1 rfl).at_ 2 _ rfl
    replace K := Lib.hid K
    go_wp2_with fail
    replace K := K.out
    refine (dot1.out v12).mono ?_
    rintro _ v13 ⟨rfl, hb⟩
    clear c0_0 c0_1 c0_2 c1_0 c1_1 c1_2
    replace K := K.on hb
    clear hb
    clear dot1
    have c0_0 := (K.at_ 0 rfl).at_ 0 _ rfl
    have c0_1 := (K.at_ 0 rfl).at_ 1 _ rfl
    have c0_2 := (K.at_ 0 rfl).at_ 2 _ rfl
    have c1_0 := (K.at_ 1 rfl).at_ 0 _ rfl
    have c1_1 := (K.at_ 1 rfl).at_ 1 _ rfl
    have c1_2 := (K.at_ 1 rfl).at_ 2 _ rfl
    replace K := Lib.hid K
    go_wp2_with fail
    replace K := K.out
    refine (dot2.out v13).mono ?_
    rintro _ v14 ⟨rfl, hb⟩
    clear c0_0 c0_1 c0_2 c1_0 c1_1 c1_2
    replace K := K.on hb
    clear hb
    clear dot2
    have c0_0 := (K.at_ 0 rfl).at_ 0 _ rfl
    have c0_1 := (K.at_ 0 rfl).at_ 1 _ rfl
    have c0_2 := (K.at_ 0 rfl).at_ 2 _ rfl
    have c1_0 := (K.at_ 1 rfl).at_ 0 _ rfl
    have c1_1 := (K.at_ 1 rfl).at_ 1 _ rfl
    have c1_2 := (K.at_ 1 rfl).at_ 2 _ rfl
    replace K := Lib.hid K
    go_wp2_with fail
    replace K := K.out
    refine (norm1.out v14).mono ?_
    rintro _ v15 ⟨rfl, hb⟩
    clear c0_0 c0_1 c0_2 c1_0 c1_1 c1_2
    replace K := K.on hb
    clear hb
    clear norm1
    have c0_0 := (K.at_ 0 rfl).at_ 0 _ rfl
    have c0_1 := (K.at_ 0 rfl).at_ 1 _ rfl
    have c0_2 := (K.at_ 0 rfl).at_ 2 _ rfl
    have c1_0 := (K.at_ 1 rfl).at_ 0 _ rfl
    have c1_1 := (K.at_ 1 rfl).at_ 1 _ rfl
    have c1_2 := (K.at_ 1 rfl).at_ 2 _ rfl
    replace K := Lib.hid K
    go_wp2_with fail
    replace K := K.out
    refine (norm2.out v15).mono ?_
    rintro _ v16 ⟨rfl, hb⟩
    clear c0_0 c0_1 c0_2 c1_0 c1_1 c1_2
    replace K := K.on hb
    clear hb
    clear norm2
    replace K := Lib.hid K
    go_wp2_with (go_at_call 26; ((with_reducible refine (same_run _ _ rfl _).mono ?_); rintro e w' ⟨rfl, rfl⟩))
    replace K := K.out
    go_ret
    exact ⟨rfl, K.old⟩

set_option maxRecDepth 100000 in
theorem own : ownKnob Try.prog.godebug = none := by kernel_rfl
set_option maxRecDepth 100000 in
theorem laidOut : laidOutB Try.prog = true := by kernel_rfl
set_option maxRecDepth 100000 in
theorem cellsF : Try.prog.cellsOf 22 = 1 := by kernel_rfl
set_option maxRecDepth 100000 in
theorem bytesF : Try.prog.bytesOf 22 = 8 := by kernel_rfl
theorem wf64 {b : Nat} (h : (Lit.float .f64 b).wf = true) : b < 18446744073709551616 := by
  simp only [Lit.wf, decide_eq_true_eq] at h; exact h

set_option maxRecDepth 100000 in
theorem lifted (os : Os) (started : os.Started) (H : Type) (enc : TypeId × Value → H) :
    ReturnsInHanded {} Try.checked os 3 .any (Rows.vecTellsSpec.pre6 enc Try.prog Try.f3 Rows.vecTellsRow.domain false) (Rows.vecTellsSpec.post enc Try.prog Try.f3 false true false false) := by
  refine returnsInHanded_of_change_sized (C := Try.checked) own started (by kernel_rfl) Try.func3
    (ChangeSpec.witness6 (enc := enc) (C := Try.checked) false ⟨#[], #[.agg #[.float .f64 0, .float .f64 0, .float .f64 0], .agg #[.float .f64 0, .float .f64 0, .float .f64 0]], []⟩ 8 (by kernel_rfl) (by kernel_rfl) (by kernel_rfl) (by kernel_rfl)) ?_
  intro W base args ds gs before hval0 hW _ hsz0 _
  have hsz : (DataW.weightsEach Try.prog (Try.f3.params.toList ++ Rows.vecTellsSpec.plain.varTypes Try.prog) (ds ++ gs)).all (· ≤ reachBytes) = true := hsz0
  clear hsz0
  have hval : ∀ (j : Nat) t v, Try.f3.params[j]? = some t → args[j]? = some v → Value.okWide Try.prog W .any base t v := hval0
  have hW' := hW
  obtain ⟨p, q, hA0, hV, rfl, _, _⟩ := hW
  have hA : DataW.TrodAll enc Try.prog W 0 (fun _ => true) true Try.f3.params.toList args.toList ds p := hA0
  rw [Try.params3] at hA hval hsz
  obtain ⟨v0, vs0, d0, ds0, p0, q0, hargs, rfl, rfl, t0, r0⟩ := trodAll_cons hA
  obtain ⟨v1, vs1, d1, ds1, p1, q1, rfl, rfl, rfl, t1, r1⟩ := trodAll_cons r0
  obtain ⟨rfl, rfl, rfl⟩ := trodAll_nil r1
  obtain rfl : args = #[v0, v1] := by cases args; simp_all
  obtain ⟨rfl, rfl⟩ := trodVars_none hV
  simp only [List.append_nil] at hW'
  have tk0 := t0
  obtain ⟨a0, rfl, wa0⟩ := open_vec (hval 0 24 v0 rfl rfl) t0
  have hlt0 : ∀ x ∈ p0, x.block < W.heap.size := fun x hx => by have := hW'.lt x (by simp [hx]); simpa using this
  have tk1 := t1
  obtain ⟨a1, rfl, wa1⟩ := open_vec (hval 1 24 v1 rfl rfl) t1
  have hlt1 : ∀ x ∈ p1, x.block < W.heap.size := fun x hx => by have := hW'.lt x (by simp [hx]); simpa using this
  clear hA0 hval0
  refine (walk W a0 wa0 a1 wa1).mono fun e W' ⟨he, hb⟩ => ?_
  subst he
  refine ⟨_, rfl, _, _, _, [], _, [], hW', trodAll_cons_mk (shut_bool Try.underlying4 _) trodAll_mk0, (trodAll_cons_mk (Below.trod laidOut (by kernel_rfl) (of_decide_eq_true (by kernel_rfl)) tk0 hb hlt0) (trodAll_cons_mk (Below.trod laidOut (by kernel_rfl) (of_decide_eq_true (by kernel_rfl)) tk1 hb hlt1) trodAll_mk0)), rfl, hb.frame _, fun h => by cases h⟩

set_option maxRecDepth 100000 in
theorem over : Rows.vecTellsRow.holds Try.pinned (OpenSpec.ofChange Rows.vecTellsSpec) :=
  OpenClaim.holds_of_wide 3 Try.f3 rfl rfl rfl rfl rfl rfl rfl ⟨rfl, rfl, rfl, rfl, rfl⟩ rfl rfl rfl rfl rfl (by kernel_rfl) Try.func3 (by kernel_rfl)
    (of_decide_eq_true (by kernel_rfl)) (by unfold Func.isWrapper; first | (rw [if_pos (by decide +kernel)]; kernel_rfl) | (rw [if_neg (by decide +kernel)]; exact ⟨rfl, rfl⟩))
    (fun os started H enc _ => lifted os started H enc)

theorem proved : Rows.VecTellsSaid :=
  over
end Go.Proofs.Ytlahihmokkcefaa.vecTells
