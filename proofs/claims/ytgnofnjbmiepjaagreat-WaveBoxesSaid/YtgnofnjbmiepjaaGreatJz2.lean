/- Proved here: what the texts Vpo prove, one behind the other. -/
import Derived.Test.YtgnofnjbmiepjaaGreatJz1

set_option maxHeartbeats 8000000
set_option maxRecDepth 100000
namespace Go.Proofs.YtgnofnjbmiepjaaGreat
open Go.ChangeShapes Go.WideShapes Go.ChangeAt Go.RowKit Ieee.Own

theorem pvE (p : Pr) : pv p = .agg #[.float .f64 p.1, .float .f64 p.2] := rfl
theorem vpoint_walk {x r : Nat} {k j : Int} {Y Z P1 M N W1 S P2 M2 W2 C nS nC P Q A1 A2 : Pr} (hr : r < 18446744073709551616) (U : Sur r Y Z P1 M N W1 S P2 M2 W2 C) (B : SurB Y Z P1 M N W1 S P2 M2 W2 C)
 (K1 : ∀ w, Calls Tryz.prog 79 #[.float .f64 x] w fun e w' => e = .returned (.int .i64 0) ∧ w = w')
 (K2 : ∀ w, Calls Tryz.prog 80 #[.float .f64 x] w fun e w' => e = .returned (.tuple #[.int .i64 k, .float .f64 r]) ∧ w = w')
 (KN : Hid (∀ w, Calls Tryz.prog 84 #[pv S] w fun e w' => e = .returned (spanE nS.1 nS.2 0) ∧ Below w.heap.size w w'))
 (KD : Hid (∀ w, Calls Tryz.prog 84 #[pv C] w fun e w' => e = .returned (spanE nC.1 nC.2 0) ∧ Below w.heap.size w w'))
 (a3 : bits .and .i64 k 3 = j) (hj : Hid (j = 0 ∨ j = 1 ∨ j = 2 ∨ j = 3)) (hP : Hid (P = qsP j S C nS nC)) (hQ : Hid (Q = qcP j S C nS nC))
 (K5 : Hid (∀ w, Calls Tryz.prog 85 #[pv P] w fun e w' => e = .returned (pv A1) ∧ Below w.heap.size w w'))
 (K6 : Hid (∀ w, Calls Tryz.prog 85 #[pv Q] w fun e w' => e = .returned (pv A2) ∧ Below w.heap.size w w')) (w : World) :
 Calls Tryz.prog 48 #[.float .f64 x] w fun e w' => e = .returned (ppi A1 A2 0) ∧ Below w.heap.size w w' := by
 have SM := Lib.hid (fun w => vmul_run (p := (r, r)) hr hr sn_tau.l1 sn_tau.l2 U.y w)
 have SZ := Lib.hid (fun w => (rsquare_run Y.1 Y.2 B.y.l1 B.y.l2 w).mono fun e w' h => (⟨OpAll.uniq h.1 U.z, h.2⟩ : e = .returned (spanE Z.1 Z.2 0) ∧ Below w.heap.size w w'))
 have KS := Lib.hid (fun w => vadd_run B.w.l1 B.w.l2 sn_epsS.l1 sn_epsS.l2 U.s w)
 have KC := Lib.hid (fun w => vadd_run B.w2.l1 B.w2.l2 sn_epsC.l1 sn_epsC.l2 U.c w)
 have NX := Lib.hid (fun w => rnext_any 4618760256179416344 (by decide) w)
 have C0 : Cls w [(w.heap.size, 0, 0), (w.heap.size + 1, 0, 0)] ((w.alloc (boxO 0 0)).alloc (boxO 0 0)) := by
  have := ((Cls.nil w).new 0 0).new 0 0
  simp only [List.nil_append, List.cons_append] at this
  rw [show (w.alloc (boxO 0 0)).heap.size = w.heap.size + 1 by simp] at this
  exact this
 have hst := @fstore
 have tauE : pv tauS = .agg #[.float .f64 4618760256179416344, .float .f64 (nextW 4618760256179416344)] := rfl
 have rE : pv (r, r) = .agg #[.float .f64 r, .float .f64 r] := rfl
 have eS : pv epsS = .agg #[.float .f64 13546827679130451968, .float .f64 4323455642275676160] := rfl
 have eC : pv epsC = .agg #[.float .f64 13569345677267304448, .float .f64 4345973640412528640] := rfl
 rw [tauE, rE, pvE Y] at SM
 rw [eS, pvE W1, pvE S] at KS
 rw [eC, pvE W2, pvE C] at KC
 unfold boxO at C0
 unfold spanE at SZ KN KD
 unfold spanV at SZ
 rw [pvE S] at KN
 rw [pvE C] at KD
 replace C0 := Lib.hid C0
 replace U := Lib.hid U
 replace B := Lib.hid B
 replace a3 := Lib.hid a3
 clear tauE rE hr eS eC
 generalize nextW 4618760256179416344 = tn at *
 go_enter Tryz.func48, Tryz.ntmps48
 go_wp2_with (first | (go_at_call 79; ((with_reducible refine (K1 _).mono ?_); rintro e w' ⟨rfl, rfl⟩)) | (go_at_call 80; ((with_reducible refine (K2 _).mono ?_); rintro e w' ⟨rfl, rfl⟩)) | (go_at_call 75; ((with_reducible refine (NX.out _).mono ?_); rintro e w' ⟨rfl, rfl⟩)))
 have C1 := C0.out
 clear C0 NX K1 K2
 generalize (w.alloc _).alloc _ = wr at *
 refine (SM.out wr).mono ?_
 rintro _ w1 ⟨rfl, hb⟩
 replace C1 := (C1.on hb).new Y.1 Y.2
 unfold boxO at C1
 simp only [List.cons_append, List.nil_append] at C1
 have d0 := (C1.at_ 2 rfl).lo
 have d1 := (C1.at_ 2 rfl).hi
 replace C1 := Lib.hid C1
 clear hb SM
 go_wp2_with fail
 have C1 := C1.out
 clear d0 d1
 generalize w1.alloc _ = wq at *
 generalize w1.heap.size = gy at *
 refine (SZ.out wq).mono ?_
 rintro _ w2 ⟨rfl, hb⟩
 replace C1 := (C1.on hb).new Z.1 Z.2
 unfold boxO at C1
 simp only [List.cons_append, List.nil_append] at C1
 replace C1 := Lib.hid C1
 clear hb SZ
 go_upto_region 7 with fail
 have C1 := C1.out
 generalize w2.alloc _ = wp at *
 generalize w2.heap.size = gz at *
 generalize hn : w.heap.size = n at *
 replace hn := Lib.hid hn
 have U := U.out
 have B := B.out
 generalize hds : ([some 40, some 41, some 42, some 43, some 44, some 45, some 46, some 47, some 11, none] : List (Option Tmp)) = ds
 have hap : apartL ds = true := by rw [← hds]; decide
 replace hds := hds.symm
 refine wp_region_var 8 9 W1.1 W1.2 [pv Y, pv Y, pv Z, pv Z, pv P1, pv M, pv N, pv W1, undef, undef]
  ds (by kernel_rfl) (by rw [hds]; rfl) hap (by decide +kernel) (by decide +kernel) rfl C1 (by decide +kernel) (by decide) (by decide) ?alloc ?step ?store ?fin
 case alloc => intro o ho; obtain rfl := Option.some.inj ho; rfl
 case step =>
  intro L W i o ho hia his hd hB
  have hi : i < 10 := (Array.getElem?_eq_some_iff.1 ho).1
  have : i = 0 ∨ i = 1 ∨ i = 2 ∨ i = 3 ∨ i = 4 ∨ i = 5 ∨ i = 6 ∨ i = 7 ∨ i = 8 ∨ i = 9 := by omega
  rcases this with rfl | rfl | rfl | rfl | rfl | rfl | rfl | rfl | rfl | rfl
  · obtain rfl := Option.some.inj ho
    have b := hB 2 _ _ _ rfl
    refine .value W ?_ (Below.refl _ _)
    generalize hA : (puts ds L _).eval = ρ
    have h0 : ρ (.tmp 8) = .pointer (some ⟨gy, 0, none⟩) := by rw [← hA]; exact (puts_old ds L _ (by rw [hds]; decide)).trans rfl
    exact ex_loads rfl h0 b.lo b.hi
  · obtain rfl := Option.some.inj ho
    have b := hB 2 _ _ _ rfl
    refine .value W ?_ (Below.refl _ _)
    generalize hA : (puts ds L _).eval = ρ
    have h0 : ρ (.tmp 8) = .pointer (some ⟨gy, 0, none⟩) := by rw [← hA]; exact (puts_old ds L _ (by rw [hds]; decide)).trans rfl
    exact ex_loads rfl h0 b.lo b.hi
  · obtain rfl := Option.some.inj ho
    have b := hB 3 _ _ _ rfl
    refine .value W ?_ (Below.refl _ _)
    generalize hA : (puts ds L _).eval = ρ
    have h0 : ρ (.tmp 9) = .pointer (some ⟨gz, 0, none⟩) := by rw [← hA]; exact (puts_old ds L _ (by rw [hds]; decide)).trans rfl
    exact ex_loads rfl h0 b.lo b.hi
  · obtain rfl := Option.some.inj ho
    have b := hB 3 _ _ _ rfl
    refine .value W ?_ (Below.refl _ _)
    generalize hA : (puts ds L _).eval = ρ
    have h0 : ρ (.tmp 9) = .pointer (some ⟨gz, 0, none⟩) := by rw [← hA]; exact (puts_old ds L _ (by rw [hds]; decide)).trans rfl
    exact ex_loads rfl h0 b.lo b.hi
  · obtain rfl := Option.some.inj ho
    refine .call 83 #[pv Z, .int .i64 3, .int .i64 17] ?_ (vss17 ⟨B.z.l1, B.z.l2⟩ U.p W)
    generalize hA : (puts ds L _).eval = ρ
    have hc : ∀ v, ρ (.const v) = v := fun v => by rw [← hA]; rfl
    have hg : ∀ g, ρ (.func g) = .func (.func g) #[] #[] := fun v => by rw [← hA]; rfl
    have h0 : ρ (.tmp 43) = pv Z := by rw [← hA]; exact puts_get 3 ds L _ hap (by rw [hds]; rfl) (hd 3 (by decide +kernel) (by decide)) (show 43 < 88 by decide)
    have hf := Tryz.func83
    unfold execOp
    go_simp
  · obtain rfl := Option.some.inj ho
    refine .call 81 #[pv Z, pv P1] ?_ (vmul_run B.z.l1 B.z.l2 B.p.l1 B.p.l2 U.m W)
    generalize hA : (puts ds L _).eval = ρ
    have hc : ∀ v, ρ (.const v) = v := fun v => by rw [← hA]; rfl
    have hg : ∀ g, ρ (.func g) = .func (.func g) #[] #[] := fun v => by rw [← hA]; rfl
    have h0 : ρ (.tmp 42) = pv Z := by rw [← hA]; exact puts_get 2 ds L _ hap (by rw [hds]; rfl) (hd 2 (by decide +kernel) (by decide)) (show 42 < 88 by decide)
    have h1 : ρ (.tmp 44) = pv P1 := by rw [← hA]; exact puts_get 4 ds L _ hap (by rw [hds]; rfl) (hd 4 (by decide +kernel) (by decide)) (show 44 < 88 by decide)
    have hf := Tryz.func81
    unfold execOp
    go_simp
  · obtain rfl := Option.some.inj ho
    refine .call 81 #[pv Y, pv M] ?_ (vmul_run B.y.l1 B.y.l2 B.m.l1 B.m.l2 U.n W)
    generalize hA : (puts ds L _).eval = ρ
    have hc : ∀ v, ρ (.const v) = v := fun v => by rw [← hA]; rfl
    have hg : ∀ g, ρ (.func g) = .func (.func g) #[] #[] := fun v => by rw [← hA]; rfl
    have h0 : ρ (.tmp 41) = pv Y := by rw [← hA]; exact puts_get 1 ds L _ hap (by rw [hds]; rfl) (hd 1 (by decide +kernel) (by decide)) (show 41 < 88 by decide)
    have h1 : ρ (.tmp 45) = pv M := by rw [← hA]; exact puts_get 5 ds L _ hap (by rw [hds]; rfl) (hd 5 (by decide +kernel) (by decide)) (show 45 < 88 by decide)
    have hf := Tryz.func81
    unfold execOp
    go_simp
  · obtain rfl := Option.some.inj ho
    refine .call 82 #[pv Y, pv N] ?_ (vadd_run B.y.l1 B.y.l2 B.n.l1 B.n.l2 U.w W)
    generalize hA : (puts ds L _).eval = ρ
    have hc : ∀ v, ρ (.const v) = v := fun v => by rw [← hA]; rfl
    have hg : ∀ g, ρ (.func g) = .func (.func g) #[] #[] := fun v => by rw [← hA]; rfl
    have h0 : ρ (.tmp 40) = pv Y := by rw [← hA]; exact puts_get 0 ds L _ hap (by rw [hds]; rfl) (hd 0 (by decide +kernel) (by decide)) (show 40 < 88 by decide)
    have h1 : ρ (.tmp 46) = pv N := by rw [← hA]; exact puts_get 6 ds L _ hap (by rw [hds]; rfl) (hd 6 (by decide +kernel) (by decide)) (show 46 < 88 by decide)
    have hf := Tryz.func82
    unfold execOp
    go_simp
  · exact absurd rfl hia
  · exact absurd rfl his
 case store =>
  intro L W o h x y ho hd hl b
  generalize hA : (puts ds L _).eval = ρ
  obtain rfl := Option.some.inj ho
  have h0 : ρ (.tmp 11) = .pointer (some ⟨h, 0, none⟩) := by rw [← hA]; exact puts_get 8 ds L _ hap (by rw [hds]; rfl) hl (show 11 < 88 by decide)
  have h1 : ρ (.tmp 47) = pv W1 := by rw [← hA]; exact puts_get 7 ds L _ hap (by rw [hds]; rfl) (hd 7 (by decide +kernel) (by decide)) (show 47 < 88 by decide)
  exact ⟨ex_store rfl h0 h1 b.lo b.hi b.f0 b.f1, rfl⟩
 case fin =>
  intro h3 w3 C3
  rw [hds]
  clear hds hap C1 ds
  simp only [List.cons_append, List.nil_append] at C3
  replace U := Lib.hid U
  replace B := Lib.hid B
  have d0 := (C3.at_ 4 rfl).lo
  have d1 := (C3.at_ 4 rfl).hi
  replace C3 := Lib.hid C3
  simp only [List.map_cons, List.map_nil, List.set_cons_zero, List.set_cons_succ, puts, Act.put, List.setIfInBounds_toArray]
  go_wp2_with fail
  clear d0 d1
  refine (KS.out w3).mono ?_
  rintro _ w4 ⟨rfl, hb⟩
  have C4 := C3.out.on hb
  have d0 := (C4.at_ 4 rfl).lo
  have d1 := (C4.at_ 4 rfl).hi
  have d2 := (C4.at_ 4 rfl).f0
  have d3 := (C4.at_ 4 rfl).f1
  have C5 := C4.put 4 rfl S.1 S.2
  simp only [List.set_cons_zero, List.set_cons_succ] at C5
  unfold put2 at C5
  replace C5 := Lib.hid C5
  clear C3 C4 hb KS
  go_upto_region 9 with fail
  have C5 := C5.out
  clear d0 d1 d2 d3
  generalize World.setCell _ _ _ = wp2 at *
  have U := U.out
  have B := B.out
  generalize hds : ([some 51, some 52, some 53, some 54, some 55, some 56, some 12, none] : List (Option Tmp)) = ds
  have hap : apartL ds = true := by rw [← hds]; decide
  replace hds := hds.symm
  refine wp_region_var 6 7 W2.1 W2.2 [pv oneS, pv Z, pv Z, pv P2, pv M2, pv W2, undef, undef]
   ds (by kernel_rfl) (by rw [hds]; rfl) hap (by decide +kernel) (by decide +kernel) rfl C5 (by decide +kernel) (by decide) (by decide) ?alloc ?step ?store ?fin
  case alloc => intro o ho; obtain rfl := Option.some.inj ho; rfl
  case step =>
   intro L W i o ho hia his hd hB
   have hi : i < 8 := (Array.getElem?_eq_some_iff.1 ho).1
   have : i = 0 ∨ i = 1 ∨ i = 2 ∨ i = 3 ∨ i = 4 ∨ i = 5 ∨ i = 6 ∨ i = 7 := by omega
   rcases this with rfl | rfl | rfl | rfl | rfl | rfl | rfl | rfl
   · obtain rfl := Option.some.inj ho
     refine .value W ?_ (Below.refl _ _)
     generalize hA : (puts ds L _).eval = ρ
     have hc : ∀ v, ρ (.const v) = v := fun v => by rw [← hA]; rfl
     unfold execOp
     go_simp
     rfl
   · obtain rfl := Option.some.inj ho
     have b := hB 3 _ _ _ rfl
     refine .value W ?_ (Below.refl _ _)
     generalize hA : (puts ds L _).eval = ρ
     have h0 : ρ (.tmp 9) = .pointer (some ⟨gz, 0, none⟩) := by rw [← hA]; exact (puts_old ds L _ (by rw [hds]; decide)).trans rfl
     exact ex_loads rfl h0 b.lo b.hi
   · obtain rfl := Option.some.inj ho
     have b := hB 3 _ _ _ rfl
     refine .value W ?_ (Below.refl _ _)
     generalize hA : (puts ds L _).eval = ρ
     have h0 : ρ (.tmp 9) = .pointer (some ⟨gz, 0, none⟩) := by rw [← hA]; exact (puts_old ds L _ (by rw [hds]; decide)).trans rfl
     exact ex_loads rfl h0 b.lo b.hi
   · obtain rfl := Option.some.inj ho
     refine .call 83 #[pv Z, .int .i64 2, .int .i64 16] ?_ (vss16 ⟨B.z.l1, B.z.l2⟩ U.p2 W)
     generalize hA : (puts ds L _).eval = ρ
     have hc : ∀ v, ρ (.const v) = v := fun v => by rw [← hA]; rfl
     have hg : ∀ g, ρ (.func g) = .func (.func g) #[] #[] := fun v => by rw [← hA]; rfl
     have h0 : ρ (.tmp 53) = pv Z := by rw [← hA]; exact puts_get 2 ds L _ hap (by rw [hds]; rfl) (hd 2 (by decide +kernel) (by decide)) (show 53 < 88 by decide)
     have hf := Tryz.func83
     unfold execOp
     go_simp
   · obtain rfl := Option.some.inj ho
     refine .call 81 #[pv Z, pv P2] ?_ (vmul_run B.z.l1 B.z.l2 B.p2.l1 B.p2.l2 U.m2 W)
     generalize hA : (puts ds L _).eval = ρ
     have hc : ∀ v, ρ (.const v) = v := fun v => by rw [← hA]; rfl
     have hg : ∀ g, ρ (.func g) = .func (.func g) #[] #[] := fun v => by rw [← hA]; rfl
     have h0 : ρ (.tmp 52) = pv Z := by rw [← hA]; exact puts_get 1 ds L _ hap (by rw [hds]; rfl) (hd 1 (by decide +kernel) (by decide)) (show 52 < 88 by decide)
     have h1 : ρ (.tmp 54) = pv P2 := by rw [← hA]; exact puts_get 3 ds L _ hap (by rw [hds]; rfl) (hd 3 (by decide +kernel) (by decide)) (show 54 < 88 by decide)
     have hf := Tryz.func81
     unfold execOp
     go_simp
   · obtain rfl := Option.some.inj ho
     refine .call 82 #[pv oneS, pv M2] ?_ (vadd_run sn_one.l1 sn_one.l2 B.m2.l1 B.m2.l2 U.w2 W)
     generalize hA : (puts ds L _).eval = ρ
     have hc : ∀ v, ρ (.const v) = v := fun v => by rw [← hA]; rfl
     have hg : ∀ g, ρ (.func g) = .func (.func g) #[] #[] := fun v => by rw [← hA]; rfl
     have h0 : ρ (.tmp 51) = pv oneS := by rw [← hA]; exact puts_get 0 ds L _ hap (by rw [hds]; rfl) (hd 0 (by decide +kernel) (by decide)) (show 51 < 88 by decide)
     have h1 : ρ (.tmp 55) = pv M2 := by rw [← hA]; exact puts_get 4 ds L _ hap (by rw [hds]; rfl) (hd 4 (by decide +kernel) (by decide)) (show 55 < 88 by decide)
     have hf := Tryz.func82
     unfold execOp
     go_simp
   · exact absurd rfl hia
   · exact absurd rfl his
  case store =>
   intro L W o h x y ho hd hl b
   generalize hA : (puts ds L _).eval = ρ
   obtain rfl := Option.some.inj ho
   have h0 : ρ (.tmp 12) = .pointer (some ⟨h, 0, none⟩) := by rw [← hA]; exact puts_get 6 ds L _ hap (by rw [hds]; rfl) hl (show 12 < 88 by decide)
   have h1 : ρ (.tmp 56) = pv W2 := by rw [← hA]; exact puts_get 5 ds L _ hap (by rw [hds]; rfl) (hd 5 (by decide +kernel) (by decide)) (show 56 < 88 by decide)
   exact ⟨ex_store rfl h0 h1 b.lo b.hi b.f0 b.f1, rfl⟩
  case fin =>
   intro h4 w5 C6
   rw [hds]
   clear hds hap C5 ds U B
   simp only [List.cons_append, List.nil_append] at C6
   have d0 := (C6.at_ 5 rfl).lo
   have d1 := (C6.at_ 5 rfl).hi
   replace C6 := Lib.hid C6
   simp only [List.map_cons, List.map_nil, List.set_cons_zero, List.set_cons_succ, puts, Act.put, List.setIfInBounds_toArray]
   go_wp2_with fail
   clear d0 d1
   refine (KC.out w5).mono ?_
   rintro _ w6 ⟨rfl, hb⟩
   have C7 := C6.out.on hb
   have d0 := (C7.at_ 5 rfl).lo
   have d1 := (C7.at_ 5 rfl).hi
   have d2 := (C7.at_ 5 rfl).f0
   have d3 := (C7.at_ 5 rfl).f1
   have C8 := C7.put 5 rfl C.1 C.2
   simp only [List.set_cons_zero, List.set_cons_succ] at C8
   unfold put2 at C8
   have b0 := (C8.at_ 4 rfl).lo
   have b1 := (C8.at_ 4 rfl).hi
   replace C8 := Lib.hid C8
   clear C6 C7 hb KC
   go_wp2_with fail
   have C8 := C8.out
   clear d0 d1 d2 d3 b0 b1
   generalize World.setCell _ _ _ = wp3 at *
   refine (KN.out wp3).mono ?_
   rintro _ w7 ⟨rfl, hb⟩
   replace C8 := (C8.on hb).new nS.1 nS.2
   unfold boxO at C8
   simp only [List.cons_append, List.nil_append] at C8
   have d0 := (C8.at_ 5 rfl).lo
   have d1 := (C8.at_ 5 rfl).hi
   replace C8 := Lib.hid C8
   clear hb KN
   go_wp2_with fail
   have C8 := C8.out
   clear d0 d1
   generalize w7.alloc _ = wp4 at *
   generalize w7.heap.size = g13 at *
   refine (KD.out wp4).mono ?_
   rintro _ w8 ⟨rfl, hb⟩
   replace C8 := (C8.on hb).new nC.1 nC.2
   unfold boxO at C8
   simp only [List.cons_append, List.nil_append] at C8
   replace C8 := Lib.hid C8
   clear hb KD
   have aa := a3.out
   clear a3
   rcases hj.out with rfl | rfl | rfl | rfl
   · obtain rfl : S = P := (by rw [hP.out]; simp [qsP])
     obtain rfl : C = Q := (by rw [hQ.out]; simp [qcP])
     clear hP hQ hj
     go_upto_region 20 with fail
     have C8 := C8.out
     generalize w8.alloc _ = wp5 at *
     generalize w8.heap.size = g15 at *
     generalize hds : ([some 84, some 85, some 86, some 87, none, none, some 4] : List (Option Tmp)) = ds
     have hap : apartL ds = true := by rw [← hds]; decide
     replace hds := hds.symm
     refine wp_region_sts [(n, A1.1, A1.2), (n + 1, A2.1, A2.2), (gy, Y.1, Y.2), (gz, Z.1, Z.2), (h3, S.1, S.2), (h4, C.1, C.2), (g13, nS.1, nS.2), (g15, nC.1, nC.2)] [⟨4, 0, n, A1.1, A1.2⟩, ⟨5, 1, n + 1, A2.1, A2.2⟩] [pv S, pv A1, pv C, pv A2, undef, undef, .int .i64 0]
      ds (by kernel_rfl) (by rw [hds]; rfl) hap (by decide +kernel) (by decide +kernel) rfl C8 ?hE2 ?hE3 ?hj ?hi ?his (fun _ => True) trivial (fun _ _ _ _ => trivial) (fun _ _ _ _ => trivial) ?step ?store ?fin
     case hE2 =>
      intro j h
      have n0 : 0 ≠ j := h _ (List.mem_cons_self ..)
      have n1 : 1 ≠ j := h _ (List.mem_cons_of_mem _ (List.mem_cons_self ..))
      rcases j with _ | _ | _ | _ | _ | _ | _ | _ | j
      · exact absurd rfl n0
      · exact absurd rfl n1
      · rfl
      · rfl
      · rfl
      · rfl
      · rfl
      · rfl
      · rfl
     case hE3 => intro st h; simp only [List.mem_cons, List.not_mem_nil, or_false] at h; rcases h with rfl | rfl <;> rfl
     case hj => intro st h; simp only [List.mem_cons, List.not_mem_nil, or_false] at h; rcases h with rfl | rfl <;> exact ⟨_, _, rfl⟩
     case hi =>
      intro st h st' h' e
      simp only [List.mem_cons, List.not_mem_nil, or_false] at h; rcases h with rfl | rfl <;> (simp only [List.mem_cons, List.not_mem_nil, or_false] at h'; rcases h' with rfl | rfl) <;> first | rfl | (exfalso; revert e; simp)
     case his => intro st h; simp only [List.mem_cons, List.not_mem_nil, or_false] at h; rcases h with rfl | rfl
                 · show 4 < 7; decide
                 · show 5 < 7; decide
     case step =>
      intro L W i o ho hs hd hB hJ
      have hi : i < 7 := (Array.getElem?_eq_some_iff.1 ho).1
      have : i = 0 ∨ i = 1 ∨ i = 2 ∨ i = 3 ∨ i = 4 ∨ i = 5 ∨ i = 6 := by omega
      rcases this with rfl | rfl | rfl | rfl | rfl | rfl | rfl
      · obtain rfl := Option.some.inj ho
        have b := hB 4 _ _ _ rfl (by
         intro st hst e
         simp only [List.mem_cons, List.not_mem_nil, or_false] at hst
         rcases hst with rfl | rfl
         · exact absurd e (show ¬ 0 = 4 by decide)
         · exact absurd e (show ¬ 1 = 4 by decide))
        refine .value W ?_ (Below.refl _ _)
        generalize hA : (puts ds L _).eval = ρ
        have h0 : ρ (.tmp 11) = .pointer (some ⟨h3, 0, none⟩) := by rw [← hA]; exact (puts_old ds L _ (by rw [hds]; decide)).trans rfl
        exact ex_loads rfl h0 b.lo b.hi
      · obtain rfl := Option.some.inj ho
        refine .call 85 #[pv S] ?_ (K5.out W)
        generalize hA : (puts ds L _).eval = ρ
        have hc : ∀ v, ρ (.const v) = v := fun v => by rw [← hA]; rfl
        have hg : ∀ g, ρ (.func g) = .func (.func g) #[] #[] := fun v => by rw [← hA]; rfl
        have h0 : ρ (.tmp 84) = pv S := by rw [← hA]; exact puts_get 0 ds L _ hap (by rw [hds]; rfl) (hd 0 (by decide +kernel)) (show 84 < 88 by decide)
        have hf := Tryz.func85
        unfold execOp
        go_simp
      · obtain rfl := Option.some.inj ho
        have b := hB 5 _ _ _ rfl (by
         intro st hst e
         simp only [List.mem_cons, List.not_mem_nil, or_false] at hst
         rcases hst with rfl | rfl
         · exact absurd e (show ¬ 0 = 5 by decide)
         · exact absurd e (show ¬ 1 = 5 by decide))
        refine .value W ?_ (Below.refl _ _)
        generalize hA : (puts ds L _).eval = ρ
        have h0 : ρ (.tmp 12) = .pointer (some ⟨h4, 0, none⟩) := by rw [← hA]; exact (puts_old ds L _ (by rw [hds]; decide)).trans rfl
        exact ex_loads rfl h0 b.lo b.hi
      · obtain rfl := Option.some.inj ho
        refine .call 85 #[pv C] ?_ (K6.out W)
        generalize hA : (puts ds L _).eval = ρ
        have hc : ∀ v, ρ (.const v) = v := fun v => by rw [← hA]; rfl
        have hg : ∀ g, ρ (.func g) = .func (.func g) #[] #[] := fun v => by rw [← hA]; rfl
        have h0 : ρ (.tmp 86) = pv C := by rw [← hA]; exact puts_get 2 ds L _ hap (by rw [hds]; rfl) (hd 2 (by decide +kernel)) (show 86 < 88 by decide)
        have hf := Tryz.func85
        unfold execOp
        go_simp
      · exact absurd rfl (hs _ (List.mem_cons_self ..))
      · exact absurd rfl (hs _ (List.mem_cons_of_mem _ (List.mem_cons_self ..)))
      · obtain rfl := Option.some.inj ho
        refine .value W ?_ (Below.refl _ _)
        generalize hA : (puts ds L _).eval = ρ
        have hc : ∀ v, ρ (.const v) = v := fun v => by rw [← hA]; rfl
        unfold execOp
        go_simp
     case store =>
      intro st hst L W o x y ho hd b
      generalize hA : (puts ds L _).eval = ρ
      simp only [List.mem_cons, List.not_mem_nil, or_false] at hst
      rcases hst with rfl | rfl
      · dsimp only at ho b ⊢
        obtain rfl := Option.some.inj ho
        have h0 : ρ (.tmp 2) = .pointer (some ⟨n, 0, none⟩) := by rw [← hA]; exact (puts_old ds L _ (by rw [hds]; decide)).trans rfl
        have h1 : ρ (.tmp 85) = pv A1 := by rw [← hA]; exact puts_get 1 ds L _ hap (by rw [hds]; rfl) (hd 1 (by decide +kernel)) (show 85 < 88 by decide)
        exact ⟨ex_store rfl h0 h1 b.lo b.hi b.f0 b.f1, rfl⟩
      · dsimp only at ho b ⊢
        obtain rfl := Option.some.inj ho
        have h0 : ρ (.tmp 3) = .pointer (some ⟨n + 1, 0, none⟩) := by rw [← hA]; exact (puts_old ds L _ (by rw [hds]; decide)).trans rfl
        have h1 : ρ (.tmp 87) = pv A2 := by rw [← hA]; exact puts_get 3 ds L _ hap (by rw [hds]; rfl) (hd 3 (by decide +kernel)) (show 87 < 88 by decide)
        exact ⟨ex_store rfl h0 h1 b.lo b.hi b.f0 b.f1, rfl⟩
     case fin =>
      intro w9 C9 _
      rw [hds]
      clear hds hap C8 ds K5 K6
      obtain ⟨u1, u2⟩ := A1
      obtain ⟨v1, v2⟩ := A2
      have l0 := (C9.at_ 0 rfl).lo
      have l1 := (C9.at_ 0 rfl).hi
      have m0 := (C9.at_ 1 rfl).lo
      have m1 := (C9.at_ 1 rfl).hi
      have O := Lib.hid C9.old
      dsimp only at l0 l1 m0 m1
      clear C9
      simp only [List.map_cons, List.map_nil, List.set_cons_zero, List.set_cons_succ, puts, Act.put, List.setIfInBounds_toArray]
      go_wp2_with fail
      (try simp only [Exit.vnBlock, Exit.then])
      refine bodyPost_ret (v := .tuple #[spanV u1 u2, spanV v1 v2, .int .i64 0]) ?_ rfl ⟨rfl, ?_⟩
      · rw [results_cells2t rfl]; unfold spanV; go_simp
      · exact O.out
   · obtain rfl : C = P := (by rw [hP.out]; simp [qsP])
     obtain rfl : nS = Q := (by rw [hQ.out]; simp [qcP])
     clear hP hQ hj
     go_upto_region 15 with fail
     have C8 := C8.out
     generalize w8.alloc _ = wp5 at *
     generalize w8.heap.size = g15 at *
     generalize hds : ([some 74, some 75, none, none] : List (Option Tmp)) = ds
     have hap : apartL ds = true := by rw [← hds]; decide
     replace hds := hds.symm
     refine wp_region_sts [(n, 0, 0), (n + 1, 0, 0), (gy, Y.1, Y.2), (gz, Z.1, Z.2), (h3, C.1, C.2), (h4, nS.1, nS.2), (g13, nS.1, nS.2), (g15, nC.1, nC.2)] [⟨2, 4, h3, C.1, C.2⟩, ⟨3, 5, h4, nS.1, nS.2⟩] [pv C, pv nS, undef, undef]
      ds (by kernel_rfl) (by rw [hds]; rfl) hap (by decide +kernel) (by decide +kernel) rfl C8 ?hE2 ?hE3 ?hj ?hi ?his (fun _ => True) trivial (fun _ _ _ _ => trivial) (fun _ _ _ _ => trivial) ?step ?store ?fin
     case hE2 =>
      intro j h
      have n0 : 4 ≠ j := h _ (List.mem_cons_self ..)
      have n1 : 5 ≠ j := h _ (List.mem_cons_of_mem _ (List.mem_cons_self ..))
      rcases j with _ | _ | _ | _ | _ | _ | _ | _ | j
      · rfl
      · rfl
      · rfl
      · rfl
      · exact absurd rfl n0
      · exact absurd rfl n1
      · rfl
      · rfl
      · rfl
     case hE3 => intro st h; simp only [List.mem_cons, List.not_mem_nil, or_false] at h; rcases h with rfl | rfl <;> rfl
     case hj => intro st h; simp only [List.mem_cons, List.not_mem_nil, or_false] at h; rcases h with rfl | rfl <;> exact ⟨_, _, rfl⟩
     case hi =>
      intro st h st' h' e
      simp only [List.mem_cons, List.not_mem_nil, or_false] at h; rcases h with rfl | rfl <;> (simp only [List.mem_cons, List.not_mem_nil, or_false] at h'; rcases h' with rfl | rfl) <;> first | rfl | (exfalso; revert e; simp)
     case his => intro st h; simp only [List.mem_cons, List.not_mem_nil, or_false] at h; rcases h with rfl | rfl
                 · show 2 < 4; decide
                 · show 3 < 4; decide
     case step =>
      intro L W i o ho hs hd hB hJ
      have hi : i < 4 := (Array.getElem?_eq_some_iff.1 ho).1
      have : i = 0 ∨ i = 1 ∨ i = 2 ∨ i = 3 := by omega
      rcases this with rfl | rfl | rfl | rfl
      · obtain rfl := Option.some.inj ho
        have b := hB 5 _ _ _ rfl (by
         intro st hst e
         simp only [List.mem_cons, List.not_mem_nil, or_false] at hst
         rcases hst with rfl | rfl
         · exact absurd e (show ¬ 4 = 5 by decide)
         · change needs _ _ 3 0 = true; decide +kernel)
        refine .value W ?_ (Below.refl _ _)
        generalize hA : (puts ds L _).eval = ρ
        have h0 : ρ (.tmp 12) = .pointer (some ⟨h4, 0, none⟩) := by rw [← hA]; exact (puts_old ds L _ (by rw [hds]; decide)).trans rfl
        exact ex_loads rfl h0 b.lo b.hi
      · obtain rfl := Option.some.inj ho
        have b := hB 6 _ _ _ rfl (by
         intro st hst e
         simp only [List.mem_cons, List.not_mem_nil, or_false] at hst
         rcases hst with rfl | rfl
         · exact absurd e (show ¬ 4 = 6 by decide)
         · exact absurd e (show ¬ 5 = 6 by decide))
        refine .value W ?_ (Below.refl _ _)
        generalize hA : (puts ds L _).eval = ρ
        have h0 : ρ (.tmp 13) = .pointer (some ⟨g13, 0, none⟩) := by rw [← hA]; exact (puts_old ds L _ (by rw [hds]; decide)).trans rfl
        exact ex_loads rfl h0 b.lo b.hi
      · exact absurd rfl (hs _ (List.mem_cons_self ..))
      · exact absurd rfl (hs _ (List.mem_cons_of_mem _ (List.mem_cons_self ..)))
     case store =>
      intro st hst L W o x y ho hd b
      generalize hA : (puts ds L _).eval = ρ
      simp only [List.mem_cons, List.not_mem_nil, or_false] at hst
      rcases hst with rfl | rfl
      · dsimp only at ho b ⊢
        obtain rfl := Option.some.inj ho
        have h0 : ρ (.tmp 11) = .pointer (some ⟨h3, 0, none⟩) := by rw [← hA]; exact (puts_old ds L _ (by rw [hds]; decide)).trans rfl
        have h1 : ρ (.tmp 74) = pv C := by rw [← hA]; exact puts_get 0 ds L _ hap (by rw [hds]; rfl) (hd 0 (by decide +kernel)) (show 74 < 88 by decide)
        exact ⟨ex_store rfl h0 h1 b.lo b.hi b.f0 b.f1, rfl⟩
      · dsimp only at ho b ⊢
        obtain rfl := Option.some.inj ho
        have h0 : ρ (.tmp 12) = .pointer (some ⟨h4, 0, none⟩) := by rw [← hA]; exact (puts_old ds L _ (by rw [hds]; decide)).trans rfl
        have h1 : ρ (.tmp 75) = pv nS := by rw [← hA]; exact puts_get 1 ds L _ hap (by rw [hds]; rfl) (hd 1 (by decide +kernel)) (show 75 < 88 by decide)
        exact ⟨ex_store rfl h0 h1 b.lo b.hi b.f0 b.f1, rfl⟩
     case fin =>
      intro wa CA _
      rw [hds]
      clear hds hap C8 ds
      replace CA := Lib.hid CA
      simp only [List.map_cons, List.map_nil, List.set_cons_zero, List.set_cons_succ, puts, Act.put, List.setIfInBounds_toArray]
      go_upto_region 20 with fail
      have CA := CA.out
      generalize hds : ([some 84, some 85, some 86, some 87, none, none, some 4] : List (Option Tmp)) = ds
      have hap : apartL ds = true := by rw [← hds]; decide
      replace hds := hds.symm
      refine wp_region_sts [(n, A1.1, A1.2), (n + 1, A2.1, A2.2), (gy, Y.1, Y.2), (gz, Z.1, Z.2), (h3, C.1, C.2), (h4, nS.1, nS.2), (g13, nS.1, nS.2), (g15, nC.1, nC.2)] [⟨4, 0, n, A1.1, A1.2⟩, ⟨5, 1, n + 1, A2.1, A2.2⟩] [pv C, pv A1, pv nS, pv A2, undef, undef, .int .i64 0]
       ds (by kernel_rfl) (by rw [hds]; rfl) hap (by decide +kernel) (by decide +kernel) rfl CA ?hE2 ?hE3 ?hj ?hi ?his (fun _ => True) trivial (fun _ _ _ _ => trivial) (fun _ _ _ _ => trivial) ?step ?store ?fin
      case hE2 =>
       intro j h
       have n0 : 0 ≠ j := h _ (List.mem_cons_self ..)
       have n1 : 1 ≠ j := h _ (List.mem_cons_of_mem _ (List.mem_cons_self ..))
       rcases j with _ | _ | _ | _ | _ | _ | _ | _ | j
       · exact absurd rfl n0
       · exact absurd rfl n1
       · rfl
       · rfl
       · rfl
       · rfl
       · rfl
       · rfl
       · rfl
      case hE3 => intro st h; simp only [List.mem_cons, List.not_mem_nil, or_false] at h; rcases h with rfl | rfl <;> rfl
      case hj => intro st h; simp only [List.mem_cons, List.not_mem_nil, or_false] at h; rcases h with rfl | rfl <;> exact ⟨_, _, rfl⟩
      case hi =>
       intro st h st' h' e
       simp only [List.mem_cons, List.not_mem_nil, or_false] at h; rcases h with rfl | rfl <;> (simp only [List.mem_cons, List.not_mem_nil, or_false] at h'; rcases h' with rfl | rfl) <;> first | rfl | (exfalso; revert e; simp)
      case his => intro st h; simp only [List.mem_cons, List.not_mem_nil, or_false] at h; rcases h with rfl | rfl
                  · show 4 < 7; decide
                  · show 5 < 7; decide
      case step =>
       intro L W i o ho hs hd hB hJ
       have hi : i < 7 := (Array.getElem?_eq_some_iff.1 ho).1
       have : i = 0 ∨ i = 1 ∨ i = 2 ∨ i = 3 ∨ i = 4 ∨ i = 5 ∨ i = 6 := by omega
       rcases this with rfl | rfl | rfl | rfl | rfl | rfl | rfl
       · obtain rfl := Option.some.inj ho
         have b := hB 4 _ _ _ rfl (by
          intro st hst e
          simp only [List.mem_cons, List.not_mem_nil, or_false] at hst
          rcases hst with rfl | rfl
          · exact absurd e (show ¬ 0 = 4 by decide)
          · exact absurd e (show ¬ 1 = 4 by decide))
         refine .value W ?_ (Below.refl _ _)
         generalize hA : (puts ds L _).eval = ρ
         have h0 : ρ (.tmp 11) = .pointer (some ⟨h3, 0, none⟩) := by rw [← hA]; exact (puts_old ds L _ (by rw [hds]; decide)).trans rfl
         exact ex_loads rfl h0 b.lo b.hi
       · obtain rfl := Option.some.inj ho
         refine .call 85 #[pv C] ?_ (K5.out W)
         generalize hA : (puts ds L _).eval = ρ
         have hc : ∀ v, ρ (.const v) = v := fun v => by rw [← hA]; rfl
         have hg : ∀ g, ρ (.func g) = .func (.func g) #[] #[] := fun v => by rw [← hA]; rfl
         have h0 : ρ (.tmp 84) = pv C := by rw [← hA]; exact puts_get 0 ds L _ hap (by rw [hds]; rfl) (hd 0 (by decide +kernel)) (show 84 < 88 by decide)
         have hf := Tryz.func85
         unfold execOp
         go_simp
       · obtain rfl := Option.some.inj ho
         have b := hB 5 _ _ _ rfl (by
          intro st hst e
          simp only [List.mem_cons, List.not_mem_nil, or_false] at hst
          rcases hst with rfl | rfl
          · exact absurd e (show ¬ 0 = 5 by decide)
          · exact absurd e (show ¬ 1 = 5 by decide))
         refine .value W ?_ (Below.refl _ _)
         generalize hA : (puts ds L _).eval = ρ
         have h0 : ρ (.tmp 12) = .pointer (some ⟨h4, 0, none⟩) := by rw [← hA]; exact (puts_old ds L _ (by rw [hds]; decide)).trans rfl
         exact ex_loads rfl h0 b.lo b.hi
       · obtain rfl := Option.some.inj ho
         refine .call 85 #[pv nS] ?_ (K6.out W)
         generalize hA : (puts ds L _).eval = ρ
         have hc : ∀ v, ρ (.const v) = v := fun v => by rw [← hA]; rfl
         have hg : ∀ g, ρ (.func g) = .func (.func g) #[] #[] := fun v => by rw [← hA]; rfl
         have h0 : ρ (.tmp 86) = pv nS := by rw [← hA]; exact puts_get 2 ds L _ hap (by rw [hds]; rfl) (hd 2 (by decide +kernel)) (show 86 < 88 by decide)
         have hf := Tryz.func85
         unfold execOp
         go_simp
       · exact absurd rfl (hs _ (List.mem_cons_self ..))
       · exact absurd rfl (hs _ (List.mem_cons_of_mem _ (List.mem_cons_self ..)))
       · obtain rfl := Option.some.inj ho
         refine .value W ?_ (Below.refl _ _)
         generalize hA : (puts ds L _).eval = ρ
         have hc : ∀ v, ρ (.const v) = v := fun v => by rw [← hA]; rfl
         unfold execOp
         go_simp
      case store =>
       intro st hst L W o x y ho hd b
       generalize hA : (puts ds L _).eval = ρ
       simp only [List.mem_cons, List.not_mem_nil, or_false] at hst
       rcases hst with rfl | rfl
       · dsimp only at ho b ⊢
         obtain rfl := Option.some.inj ho
         have h0 : ρ (.tmp 2) = .pointer (some ⟨n, 0, none⟩) := by rw [← hA]; exact (puts_old ds L _ (by rw [hds]; decide)).trans rfl
         have h1 : ρ (.tmp 85) = pv A1 := by rw [← hA]; exact puts_get 1 ds L _ hap (by rw [hds]; rfl) (hd 1 (by decide +kernel)) (show 85 < 88 by decide)
         exact ⟨ex_store rfl h0 h1 b.lo b.hi b.f0 b.f1, rfl⟩
       · dsimp only at ho b ⊢
         obtain rfl := Option.some.inj ho
         have h0 : ρ (.tmp 3) = .pointer (some ⟨n + 1, 0, none⟩) := by rw [← hA]; exact (puts_old ds L _ (by rw [hds]; decide)).trans rfl
         have h1 : ρ (.tmp 87) = pv A2 := by rw [← hA]; exact puts_get 3 ds L _ hap (by rw [hds]; rfl) (hd 3 (by decide +kernel)) (show 87 < 88 by decide)
         exact ⟨ex_store rfl h0 h1 b.lo b.hi b.f0 b.f1, rfl⟩
      case fin =>
       intro w9 C9 _
       rw [hds]
       clear hds hap CA ds K5 K6
       obtain ⟨u1, u2⟩ := A1
       obtain ⟨v1, v2⟩ := A2
       have l0 := (C9.at_ 0 rfl).lo
       have l1 := (C9.at_ 0 rfl).hi
       have m0 := (C9.at_ 1 rfl).lo
       have m1 := (C9.at_ 1 rfl).hi
       have O := Lib.hid C9.old
       dsimp only at l0 l1 m0 m1
       clear C9
       simp only [List.map_cons, List.map_nil, List.set_cons_zero, List.set_cons_succ, puts, Act.put, List.setIfInBounds_toArray]
       go_wp2_with fail
       (try simp only [Exit.vnBlock, Exit.then])
       refine bodyPost_ret (v := .tuple #[spanV u1 u2, spanV v1 v2, .int .i64 0]) ?_ rfl ⟨rfl, ?_⟩
       · rw [results_cells2t rfl]; unfold spanV; go_simp
       · exact O.out
   · obtain rfl : nS = P := (by rw [hP.out]; simp [qsP])
     obtain rfl : nC = Q := (by rw [hQ.out]; simp [qcP])
     clear hP hQ hj
     go_upto_region 17 with fail
     have C8 := C8.out
     generalize w8.alloc _ = wp5 at *
     generalize w8.heap.size = g15 at *
     generalize hds : ([some 78, some 79, none, none] : List (Option Tmp)) = ds
     have hap : apartL ds = true := by rw [← hds]; decide
     replace hds := hds.symm
     refine wp_region_sts [(n, 0, 0), (n + 1, 0, 0), (gy, Y.1, Y.2), (gz, Z.1, Z.2), (h3, nS.1, nS.2), (h4, nC.1, nC.2), (g13, nS.1, nS.2), (g15, nC.1, nC.2)] [⟨2, 4, h3, nS.1, nS.2⟩, ⟨3, 5, h4, nC.1, nC.2⟩] [pv nS, pv nC, undef, undef]
      ds (by kernel_rfl) (by rw [hds]; rfl) hap (by decide +kernel) (by decide +kernel) rfl C8 ?hE2 ?hE3 ?hj ?hi ?his (fun _ => True) trivial (fun _ _ _ _ => trivial) (fun _ _ _ _ => trivial) ?step ?store ?fin
     case hE2 =>
      intro j h
      have n0 : 4 ≠ j := h _ (List.mem_cons_self ..)
      have n1 : 5 ≠ j := h _ (List.mem_cons_of_mem _ (List.mem_cons_self ..))
      rcases j with _ | _ | _ | _ | _ | _ | _ | _ | j
      · rfl
      · rfl
      · rfl
      · rfl
      · exact absurd rfl n0
      · exact absurd rfl n1
      · rfl
      · rfl
      · rfl
     case hE3 => intro st h; simp only [List.mem_cons, List.not_mem_nil, or_false] at h; rcases h with rfl | rfl <;> rfl
     case hj => intro st h; simp only [List.mem_cons, List.not_mem_nil, or_false] at h; rcases h with rfl | rfl <;> exact ⟨_, _, rfl⟩
     case hi =>
      intro st h st' h' e
      simp only [List.mem_cons, List.not_mem_nil, or_false] at h; rcases h with rfl | rfl <;> (simp only [List.mem_cons, List.not_mem_nil, or_false] at h'; rcases h' with rfl | rfl) <;> first | rfl | (exfalso; revert e; simp)
     case his => intro st h; simp only [List.mem_cons, List.not_mem_nil, or_false] at h; rcases h with rfl | rfl
                 · show 2 < 4; decide
                 · show 3 < 4; decide
     case step =>
      intro L W i o ho hs hd hB hJ
      have hi : i < 4 := (Array.getElem?_eq_some_iff.1 ho).1
      have : i = 0 ∨ i = 1 ∨ i = 2 ∨ i = 3 := by omega
      rcases this with rfl | rfl | rfl | rfl
      · obtain rfl := Option.some.inj ho
        have b := hB 6 _ _ _ rfl (by
         intro st hst e
         simp only [List.mem_cons, List.not_mem_nil, or_false] at hst
         rcases hst with rfl | rfl
         · exact absurd e (show ¬ 4 = 6 by decide)
         · exact absurd e (show ¬ 5 = 6 by decide))
        refine .value W ?_ (Below.refl _ _)
        generalize hA : (puts ds L _).eval = ρ
        have h0 : ρ (.tmp 13) = .pointer (some ⟨g13, 0, none⟩) := by rw [← hA]; exact (puts_old ds L _ (by rw [hds]; decide)).trans rfl
        exact ex_loads rfl h0 b.lo b.hi
      · obtain rfl := Option.some.inj ho
        have b := hB 7 _ _ _ rfl (by
         intro st hst e
         simp only [List.mem_cons, List.not_mem_nil, or_false] at hst
         rcases hst with rfl | rfl
         · exact absurd e (show ¬ 4 = 7 by decide)
         · exact absurd e (show ¬ 5 = 7 by decide))
        refine .value W ?_ (Below.refl _ _)
        generalize hA : (puts ds L _).eval = ρ
        have h0 : ρ (.tmp 15) = .pointer (some ⟨g15, 0, none⟩) := by rw [← hA]; exact (puts_old ds L _ (by rw [hds]; decide)).trans rfl
        exact ex_loads rfl h0 b.lo b.hi
      · exact absurd rfl (hs _ (List.mem_cons_self ..))
      · exact absurd rfl (hs _ (List.mem_cons_of_mem _ (List.mem_cons_self ..)))
     case store =>
      intro st hst L W o x y ho hd b
      generalize hA : (puts ds L _).eval = ρ
      simp only [List.mem_cons, List.not_mem_nil, or_false] at hst
      rcases hst with rfl | rfl
      · dsimp only at ho b ⊢
        obtain rfl := Option.some.inj ho
        have h0 : ρ (.tmp 11) = .pointer (some ⟨h3, 0, none⟩) := by rw [← hA]; exact (puts_old ds L _ (by rw [hds]; decide)).trans rfl
        have h1 : ρ (.tmp 78) = pv nS := by rw [← hA]; exact puts_get 0 ds L _ hap (by rw [hds]; rfl) (hd 0 (by decide +kernel)) (show 78 < 88 by decide)
        exact ⟨ex_store rfl h0 h1 b.lo b.hi b.f0 b.f1, rfl⟩
      · dsimp only at ho b ⊢
        obtain rfl := Option.some.inj ho
        have h0 : ρ (.tmp 12) = .pointer (some ⟨h4, 0, none⟩) := by rw [← hA]; exact (puts_old ds L _ (by rw [hds]; decide)).trans rfl
        have h1 : ρ (.tmp 79) = pv nC := by rw [← hA]; exact puts_get 1 ds L _ hap (by rw [hds]; rfl) (hd 1 (by decide +kernel)) (show 79 < 88 by decide)
        exact ⟨ex_store rfl h0 h1 b.lo b.hi b.f0 b.f1, rfl⟩
     case fin =>
      intro wa CA _
      rw [hds]
      clear hds hap C8 ds
      replace CA := Lib.hid CA
      simp only [List.map_cons, List.map_nil, List.set_cons_zero, List.set_cons_succ, puts, Act.put, List.setIfInBounds_toArray]
      go_upto_region 20 with fail
      have CA := CA.out
      generalize hds : ([some 84, some 85, some 86, some 87, none, none, some 4] : List (Option Tmp)) = ds
      have hap : apartL ds = true := by rw [← hds]; decide
      replace hds := hds.symm
      refine wp_region_sts [(n, A1.1, A1.2), (n + 1, A2.1, A2.2), (gy, Y.1, Y.2), (gz, Z.1, Z.2), (h3, nS.1, nS.2), (h4, nC.1, nC.2), (g13, nS.1, nS.2), (g15, nC.1, nC.2)] [⟨4, 0, n, A1.1, A1.2⟩, ⟨5, 1, n + 1, A2.1, A2.2⟩] [pv nS, pv A1, pv nC, pv A2, undef, undef, .int .i64 0]
       ds (by kernel_rfl) (by rw [hds]; rfl) hap (by decide +kernel) (by decide +kernel) rfl CA ?hE2 ?hE3 ?hj ?hi ?his (fun _ => True) trivial (fun _ _ _ _ => trivial) (fun _ _ _ _ => trivial) ?step ?store ?fin
      case hE2 =>
       intro j h
       have n0 : 0 ≠ j := h _ (List.mem_cons_self ..)
       have n1 : 1 ≠ j := h _ (List.mem_cons_of_mem _ (List.mem_cons_self ..))
       rcases j with _ | _ | _ | _ | _ | _ | _ | _ | j
       · exact absurd rfl n0
       · exact absurd rfl n1
       · rfl
       · rfl
       · rfl
       · rfl
       · rfl
       · rfl
       · rfl
      case hE3 => intro st h; simp only [List.mem_cons, List.not_mem_nil, or_false] at h; rcases h with rfl | rfl <;> rfl
      case hj => intro st h; simp only [List.mem_cons, List.not_mem_nil, or_false] at h; rcases h with rfl | rfl <;> exact ⟨_, _, rfl⟩
      case hi =>
       intro st h st' h' e
       simp only [List.mem_cons, List.not_mem_nil, or_false] at h; rcases h with rfl | rfl <;> (simp only [List.mem_cons, List.not_mem_nil, or_false] at h'; rcases h' with rfl | rfl) <;> first | rfl | (exfalso; revert e; simp)
      case his => intro st h; simp only [List.mem_cons, List.not_mem_nil, or_false] at h; rcases h with rfl | rfl
                  · show 4 < 7; decide
                  · show 5 < 7; decide
      case step =>
       intro L W i o ho hs hd hB hJ
       have hi : i < 7 := (Array.getElem?_eq_some_iff.1 ho).1
       have : i = 0 ∨ i = 1 ∨ i = 2 ∨ i = 3 ∨ i = 4 ∨ i = 5 ∨ i = 6 := by omega
       rcases this with rfl | rfl | rfl | rfl | rfl | rfl | rfl
       · obtain rfl := Option.some.inj ho
         have b := hB 4 _ _ _ rfl (by
          intro st hst e
          simp only [List.mem_cons, List.not_mem_nil, or_false] at hst
          rcases hst with rfl | rfl
          · exact absurd e (show ¬ 0 = 4 by decide)
          · exact absurd e (show ¬ 1 = 4 by decide))
         refine .value W ?_ (Below.refl _ _)
         generalize hA : (puts ds L _).eval = ρ
         have h0 : ρ (.tmp 11) = .pointer (some ⟨h3, 0, none⟩) := by rw [← hA]; exact (puts_old ds L _ (by rw [hds]; decide)).trans rfl
         exact ex_loads rfl h0 b.lo b.hi
       · obtain rfl := Option.some.inj ho
         refine .call 85 #[pv nS] ?_ (K5.out W)
         generalize hA : (puts ds L _).eval = ρ
         have hc : ∀ v, ρ (.const v) = v := fun v => by rw [← hA]; rfl
         have hg : ∀ g, ρ (.func g) = .func (.func g) #[] #[] := fun v => by rw [← hA]; rfl
         have h0 : ρ (.tmp 84) = pv nS := by rw [← hA]; exact puts_get 0 ds L _ hap (by rw [hds]; rfl) (hd 0 (by decide +kernel)) (show 84 < 88 by decide)
         have hf := Tryz.func85
         unfold execOp
         go_simp
       · obtain rfl := Option.some.inj ho
         have b := hB 5 _ _ _ rfl (by
          intro st hst e
          simp only [List.mem_cons, List.not_mem_nil, or_false] at hst
          rcases hst with rfl | rfl
          · exact absurd e (show ¬ 0 = 5 by decide)
          · exact absurd e (show ¬ 1 = 5 by decide))
         refine .value W ?_ (Below.refl _ _)
         generalize hA : (puts ds L _).eval = ρ
         have h0 : ρ (.tmp 12) = .pointer (some ⟨h4, 0, none⟩) := by rw [← hA]; exact (puts_old ds L _ (by rw [hds]; decide)).trans rfl
         exact ex_loads rfl h0 b.lo b.hi
       · obtain rfl := Option.some.inj ho
         refine .call 85 #[pv nC] ?_ (K6.out W)
         generalize hA : (puts ds L _).eval = ρ
         have hc : ∀ v, ρ (.const v) = v := fun v => by rw [← hA]; rfl
         have hg : ∀ g, ρ (.func g) = .func (.func g) #[] #[] := fun v => by rw [← hA]; rfl
         have h0 : ρ (.tmp 86) = pv nC := by rw [← hA]; exact puts_get 2 ds L _ hap (by rw [hds]; rfl) (hd 2 (by decide +kernel)) (show 86 < 88 by decide)
         have hf := Tryz.func85
         unfold execOp
         go_simp
       · exact absurd rfl (hs _ (List.mem_cons_self ..))
       · exact absurd rfl (hs _ (List.mem_cons_of_mem _ (List.mem_cons_self ..)))
       · obtain rfl := Option.some.inj ho
         refine .value W ?_ (Below.refl _ _)
         generalize hA : (puts ds L _).eval = ρ
         have hc : ∀ v, ρ (.const v) = v := fun v => by rw [← hA]; rfl
         unfold execOp
         go_simp
      case store =>
       intro st hst L W o x y ho hd b
       generalize hA : (puts ds L _).eval = ρ
       simp only [List.mem_cons, List.not_mem_nil, or_false] at hst
       rcases hst with rfl | rfl
       · dsimp only at ho b ⊢
         obtain rfl := Option.some.inj ho
         have h0 : ρ (.tmp 2) = .pointer (some ⟨n, 0, none⟩) := by rw [← hA]; exact (puts_old ds L _ (by rw [hds]; decide)).trans rfl
         have h1 : ρ (.tmp 85) = pv A1 := by rw [← hA]; exact puts_get 1 ds L _ hap (by rw [hds]; rfl) (hd 1 (by decide +kernel)) (show 85 < 88 by decide)
         exact ⟨ex_store rfl h0 h1 b.lo b.hi b.f0 b.f1, rfl⟩
       · dsimp only at ho b ⊢
         obtain rfl := Option.some.inj ho
         have h0 : ρ (.tmp 3) = .pointer (some ⟨n + 1, 0, none⟩) := by rw [← hA]; exact (puts_old ds L _ (by rw [hds]; decide)).trans rfl
         have h1 : ρ (.tmp 87) = pv A2 := by rw [← hA]; exact puts_get 3 ds L _ hap (by rw [hds]; rfl) (hd 3 (by decide +kernel)) (show 87 < 88 by decide)
         exact ⟨ex_store rfl h0 h1 b.lo b.hi b.f0 b.f1, rfl⟩
      case fin =>
       intro w9 C9 _
       rw [hds]
       clear hds hap CA ds K5 K6
       obtain ⟨u1, u2⟩ := A1
       obtain ⟨v1, v2⟩ := A2
       have l0 := (C9.at_ 0 rfl).lo
       have l1 := (C9.at_ 0 rfl).hi
       have m0 := (C9.at_ 1 rfl).lo
       have m1 := (C9.at_ 1 rfl).hi
       have O := Lib.hid C9.old
       dsimp only at l0 l1 m0 m1
       clear C9
       simp only [List.map_cons, List.map_nil, List.set_cons_zero, List.set_cons_succ, puts, Act.put, List.setIfInBounds_toArray]
       go_wp2_with fail
       (try simp only [Exit.vnBlock, Exit.then])
       refine bodyPost_ret (v := .tuple #[spanV u1 u2, spanV v1 v2, .int .i64 0]) ?_ rfl ⟨rfl, ?_⟩
       · rw [results_cells2t rfl]; unfold spanV; go_simp
       · exact O.out
   · obtain rfl : nC = P := (by rw [hP.out]; simp [qsP])
     obtain rfl : S = Q := (by rw [hQ.out]; simp [qcP])
     clear hP hQ hj
     have C8 := C8.out
     have d0 := (C8.at_ 7 rfl).lo
     have d1 := (C8.at_ 7 rfl).hi
     have b0 := (C8.at_ 4 rfl).lo
     have b1 := (C8.at_ 4 rfl).hi
     have b2 := (C8.at_ 4 rfl).f0
     have b3 := (C8.at_ 4 rfl).f1
     have CX := C8.put 4 rfl nC.1 nC.2
     simp only [List.set_cons_zero, List.set_cons_succ] at CX
     unfold put2 at CX
     have c0 := (CX.at_ 5 rfl).lo
     have c1 := (CX.at_ 5 rfl).hi
     have c2 := (CX.at_ 5 rfl).f0
     have c3 := (CX.at_ 5 rfl).f1
     have e0 := (C8.at_ 5 rfl).lo
     have e1 := (C8.at_ 5 rfl).hi
     have e2 := (C8.at_ 5 rfl).f0
     have e3 := (C8.at_ 5 rfl).f1
     have CA := CX.put 5 rfl S.1 S.2
     simp only [List.set_cons_zero, List.set_cons_succ] at CA
     unfold put2 at CA
     replace CA := Lib.hid CA
     clear CX C8
     go_upto_region 20 with fail
     have CA := CA.out
     clear d0 d1 b0 b1 b2 b3 c0 c1 c2 c3 e0 e1 e2 e3
     generalize World.setCell _ _ _ = wp5 at *
     generalize w8.heap.size = g15 at *
     generalize hds : ([some 84, some 85, some 86, some 87, none, none, some 4] : List (Option Tmp)) = ds
     have hap : apartL ds = true := by rw [← hds]; decide
     replace hds := hds.symm
     refine wp_region_sts [(n, A1.1, A1.2), (n + 1, A2.1, A2.2), (gy, Y.1, Y.2), (gz, Z.1, Z.2), (h3, nC.1, nC.2), (h4, S.1, S.2), (g13, nS.1, nS.2), (g15, nC.1, nC.2)] [⟨4, 0, n, A1.1, A1.2⟩, ⟨5, 1, n + 1, A2.1, A2.2⟩] [pv nC, pv A1, pv S, pv A2, undef, undef, .int .i64 0]
      ds (by kernel_rfl) (by rw [hds]; rfl) hap (by decide +kernel) (by decide +kernel) rfl CA ?hE2 ?hE3 ?hj ?hi ?his (fun _ => True) trivial (fun _ _ _ _ => trivial) (fun _ _ _ _ => trivial) ?step ?store ?fin
     case hE2 =>
      intro j h
      have n0 : 0 ≠ j := h _ (List.mem_cons_self ..)
      have n1 : 1 ≠ j := h _ (List.mem_cons_of_mem _ (List.mem_cons_self ..))
      rcases j with _ | _ | _ | _ | _ | _ | _ | _ | j
      · exact absurd rfl n0
      · exact absurd rfl n1
      · rfl
      · rfl
      · rfl
      · rfl
      · rfl
      · rfl
      · rfl
     case hE3 => intro st h; simp only [List.mem_cons, List.not_mem_nil, or_false] at h; rcases h with rfl | rfl <;> rfl
     case hj => intro st h; simp only [List.mem_cons, List.not_mem_nil, or_false] at h; rcases h with rfl | rfl <;> exact ⟨_, _, rfl⟩
     case hi =>
      intro st h st' h' e
      simp only [List.mem_cons, List.not_mem_nil, or_false] at h; rcases h with rfl | rfl <;> (simp only [List.mem_cons, List.not_mem_nil, or_false] at h'; rcases h' with rfl | rfl) <;> first | rfl | (exfalso; revert e; simp)
     case his => intro st h; simp only [List.mem_cons, List.not_mem_nil, or_false] at h; rcases h with rfl | rfl
                 · show 4 < 7; decide
                 · show 5 < 7; decide
     case step =>
      intro L W i o ho hs hd hB hJ
      have hi : i < 7 := (Array.getElem?_eq_some_iff.1 ho).1
      have : i = 0 ∨ i = 1 ∨ i = 2 ∨ i = 3 ∨ i = 4 ∨ i = 5 ∨ i = 6 := by omega
      rcases this with rfl | rfl | rfl | rfl | rfl | rfl | rfl
      · obtain rfl := Option.some.inj ho
        have b := hB 4 _ _ _ rfl (by
         intro st hst e
         simp only [List.mem_cons, List.not_mem_nil, or_false] at hst
         rcases hst with rfl | rfl
         · exact absurd e (show ¬ 0 = 4 by decide)
         · exact absurd e (show ¬ 1 = 4 by decide))
        refine .value W ?_ (Below.refl _ _)
        generalize hA : (puts ds L _).eval = ρ
        have h0 : ρ (.tmp 11) = .pointer (some ⟨h3, 0, none⟩) := by rw [← hA]; exact (puts_old ds L _ (by rw [hds]; decide)).trans rfl
        exact ex_loads rfl h0 b.lo b.hi
      · obtain rfl := Option.some.inj ho
        refine .call 85 #[pv nC] ?_ (K5.out W)
        generalize hA : (puts ds L _).eval = ρ
        have hc : ∀ v, ρ (.const v) = v := fun v => by rw [← hA]; rfl
        have hg : ∀ g, ρ (.func g) = .func (.func g) #[] #[] := fun v => by rw [← hA]; rfl
        have h0 : ρ (.tmp 84) = pv nC := by rw [← hA]; exact puts_get 0 ds L _ hap (by rw [hds]; rfl) (hd 0 (by decide +kernel)) (show 84 < 88 by decide)
        have hf := Tryz.func85
        unfold execOp
        go_simp
      · obtain rfl := Option.some.inj ho
        have b := hB 5 _ _ _ rfl (by
         intro st hst e
         simp only [List.mem_cons, List.not_mem_nil, or_false] at hst
         rcases hst with rfl | rfl
         · exact absurd e (show ¬ 0 = 5 by decide)
         · exact absurd e (show ¬ 1 = 5 by decide))
        refine .value W ?_ (Below.refl _ _)
        generalize hA : (puts ds L _).eval = ρ
        have h0 : ρ (.tmp 12) = .pointer (some ⟨h4, 0, none⟩) := by rw [← hA]; exact (puts_old ds L _ (by rw [hds]; decide)).trans rfl
        exact ex_loads rfl h0 b.lo b.hi
      · obtain rfl := Option.some.inj ho
        refine .call 85 #[pv S] ?_ (K6.out W)
        generalize hA : (puts ds L _).eval = ρ
        have hc : ∀ v, ρ (.const v) = v := fun v => by rw [← hA]; rfl
        have hg : ∀ g, ρ (.func g) = .func (.func g) #[] #[] := fun v => by rw [← hA]; rfl
        have h0 : ρ (.tmp 86) = pv S := by rw [← hA]; exact puts_get 2 ds L _ hap (by rw [hds]; rfl) (hd 2 (by decide +kernel)) (show 86 < 88 by decide)
        have hf := Tryz.func85
        unfold execOp
        go_simp
      · exact absurd rfl (hs _ (List.mem_cons_self ..))
      · exact absurd rfl (hs _ (List.mem_cons_of_mem _ (List.mem_cons_self ..)))
      · obtain rfl := Option.some.inj ho
        refine .value W ?_ (Below.refl _ _)
        generalize hA : (puts ds L _).eval = ρ
        have hc : ∀ v, ρ (.const v) = v := fun v => by rw [← hA]; rfl
        unfold execOp
        go_simp
     case store =>
      intro st hst L W o x y ho hd b
      generalize hA : (puts ds L _).eval = ρ
      simp only [List.mem_cons, List.not_mem_nil, or_false] at hst
      rcases hst with rfl | rfl
      · dsimp only at ho b ⊢
        obtain rfl := Option.some.inj ho
        have h0 : ρ (.tmp 2) = .pointer (some ⟨n, 0, none⟩) := by rw [← hA]; exact (puts_old ds L _ (by rw [hds]; decide)).trans rfl
        have h1 : ρ (.tmp 85) = pv A1 := by rw [← hA]; exact puts_get 1 ds L _ hap (by rw [hds]; rfl) (hd 1 (by decide +kernel)) (show 85 < 88 by decide)
        exact ⟨ex_store rfl h0 h1 b.lo b.hi b.f0 b.f1, rfl⟩
      · dsimp only at ho b ⊢
        obtain rfl := Option.some.inj ho
        have h0 : ρ (.tmp 3) = .pointer (some ⟨n + 1, 0, none⟩) := by rw [← hA]; exact (puts_old ds L _ (by rw [hds]; decide)).trans rfl
        have h1 : ρ (.tmp 87) = pv A2 := by rw [← hA]; exact puts_get 3 ds L _ hap (by rw [hds]; rfl) (hd 3 (by decide +kernel)) (show 87 < 88 by decide)
        exact ⟨ex_store rfl h0 h1 b.lo b.hi b.f0 b.f1, rfl⟩
     case fin =>
      intro w9 C9 _
      rw [hds]
      clear hds hap CA ds K5 K6
      obtain ⟨u1, u2⟩ := A1
      obtain ⟨v1, v2⟩ := A2
      have l0 := (C9.at_ 0 rfl).lo
      have l1 := (C9.at_ 0 rfl).hi
      have m0 := (C9.at_ 1 rfl).lo
      have m1 := (C9.at_ 1 rfl).hi
      have O := Lib.hid C9.old
      dsimp only at l0 l1 m0 m1
      clear C9
      simp only [List.map_cons, List.map_nil, List.set_cons_zero, List.set_cons_succ, puts, Act.put, List.setIfInBounds_toArray]
      go_wp2_with fail
      (try simp only [Exit.vnBlock, Exit.then])
      refine bodyPost_ret (v := .tuple #[spanV u1 u2, spanV v1 v2, .int .i64 0]) ?_ rfl ⟨rfl, ?_⟩
      · rw [results_cells2t rfl]; unfold spanV; go_simp
      · exact O.out

theorem vpoint_ok {x : Nat} (hx : x < 18446744073709551616) (h0 : errA x = 0) : ∃ p q, PtH x p q ∧ ∀ w, Calls Tryz.prog 48 #[.float .f64 x] w fun e w' => e = .returned (ppi p q 0) ∧ Below w.heap.size w w' := by
 have h := errA_ang hx h0
 obtain ⟨r, R, K2⟩ := ruquarter_run h
 obtain ⟨Y, Z, P, M, N, W, S, P2, M2, W2, C, nS, nC, E⟩ := pt_ex hx h0 R
 have k4 : kq eig (V x) % 4 = 0 ∨ kq eig (V x) % 4 = 1 ∨ kq eig (V x) % 4 = 2 ∨ kq eig (V x) % 4 = 3 := by omega
 have s := qs_sn E.sn.s E.sn.c E.s1 E.s2 k4
 refine ⟨_, _, E.h, fun w => ?_⟩
 refine vpoint_walk (P := qsP (kq eig (V x) % 4) S C nS nC) (Q := qcP (kq eig (V x) % 4) S C nS nC) E.rest.fin.1 E.sur E.sn (fun w => h0 ▸ rucheck_run x hx w) K2
  (Lib.hid fun w => (rneg_run S.1 S.2 E.sn.s.l1 E.sn.s.l2 w).mono fun e w' h => ⟨h.1.all.uniq E.n1.all, h.2⟩)
  (Lib.hid fun w => (rneg_run C.1 C.2 E.sn.c.l1 E.sn.c.l2 w).mono fun e w' h => ⟨h.1.all.uniq E.n2.all, h.2⟩)
  (i64_and3 _) (Lib.hid k4) (Lib.hid rfl) (Lib.hid rfl) (Lib.hid fun w => vclip_run (sets_one s.1) rfl w) (Lib.hid fun w => vclip_run (sets_one s.2) rfl w) w
end Go.Proofs.YtgnofnjbmiepjaaGreat
