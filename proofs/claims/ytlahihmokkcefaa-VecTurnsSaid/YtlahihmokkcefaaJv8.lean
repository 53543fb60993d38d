/- Proved here: what the texts Vmc prove, one behind the other. -/
import Derived.Test.YtlahihmokkcefaaJv7

namespace Go.Proofs.Ytlahihmokkcefaa
open Go.ChangeShapes Go.WideShapes Go.ChangeAt Go.RowKit Ieee.Own

set_option maxHeartbeats 4000000 in
set_option maxRecDepth 100000 in
theorem vtimes_ok {a1 a2 a3 b1 b2 b3 c1 c2 c3 j1 j2 j3 j4 j5 j6 j7 j8 j9 m0 m1 m2 m3 m4 m5 m6 m7 m8 p1 p2 p3 q1 q2 q3 r1 r2 r3 y0 y1 y2 y3 y4 y5 y6 y7 y8 : Nat} {k : Int} (C1 : Hid (∀ w, Calls Try.prog 67 #[.agg #[.float .f64 a1, .float .f64 a2, .float .f64 a3, .float .f64 b1, .float .f64 b2, .float .f64 b3, .float .f64 c1, .float .f64 c2, .float .f64 c3]] w fun e w' => e = .returned (.bool true) ∧ Below w.heap.size w w')) (C2 : Hid (∀ w, Calls Try.prog 67 #[.agg #[.float .f64 j1, .float .f64 j2, .float .f64 j3, .float .f64 j4, .float .f64 j5, .float .f64 j6, .float .f64 j7, .float .f64 j8, .float .f64 j9]] w fun e w' => e = .returned (.bool true) ∧ Below w.heap.size w w')) (C3 : Hid (∀ w, Calls Try.prog 68 #[.agg #[.float .f64 j1, .float .f64 j2, .float .f64 j3, .float .f64 j4, .float .f64 j5, .float .f64 j6, .float .f64 j7, .float .f64 j8, .float .f64 j9]] w fun e w' => e = .returned (.agg #[.float .f64 m0, .float .f64 m1, .float .f64 m2, .float .f64 m3, .float .f64 m4, .float .f64 m5, .float .f64 m6, .float .f64 m7, .float .f64 m8]) ∧ Below w.heap.size w w')) (D1 : Hid (∀ w, Calls Try.prog 70 #[.agg #[.float .f64 m0, .float .f64 m1, .float .f64 m2, .float .f64 m3, .float .f64 m4, .float .f64 m5, .float .f64 m6, .float .f64 m7, .float .f64 m8], .agg #[.float .f64 a1, .float .f64 a2, .float .f64 a3]] w fun e w' => e = .returned (.agg #[.float .f64 p1, .float .f64 p2, .float .f64 p3]) ∧ Below w.heap.size w w')) (D2 : Hid (∀ w, Calls Try.prog 70 #[.agg #[.float .f64 m0, .float .f64 m1, .float .f64 m2, .float .f64 m3, .float .f64 m4, .float .f64 m5, .float .f64 m6, .float .f64 m7, .float .f64 m8], .agg #[.float .f64 b1, .float .f64 b2, .float .f64 b3]] w fun e w' => e = .returned (.agg #[.float .f64 q1, .float .f64 q2, .float .f64 q3]) ∧ Below w.heap.size w w')) (D3 : Hid (∀ w, Calls Try.prog 70 #[.agg #[.float .f64 m0, .float .f64 m1, .float .f64 m2, .float .f64 m3, .float .f64 m4, .float .f64 m5, .float .f64 m6, .float .f64 m7, .float .f64 m8], .agg #[.float .f64 c1, .float .f64 c2, .float .f64 c3]] w fun e w' => e = .returned (.agg #[.float .f64 r1, .float .f64 r2, .float .f64 r3]) ∧ Below w.heap.size w w')) (C4 : Hid (∀ w, Calls Try.prog 64 #[.agg #[.float .f64 p1, .float .f64 p2, .float .f64 p3, .float .f64 q1, .float .f64 q2, .float .f64 q3, .float .f64 r1, .float .f64 r2, .float .f64 r3]] w fun e w' => e = .returned (.tuple #[.agg #[.float .f64 y0, .float .f64 y1, .float .f64 y2, .float .f64 y3, .float .f64 y4, .float .f64 y5, .float .f64 y6, .float .f64 y7, .float .f64 y8], .int .i64 k]) ∧ Below w.heap.size w w')) (w : World) : Calls Try.prog 32 #[.agg #[.float .f64 a1, .float .f64 a2, .float .f64 a3, .float .f64 b1, .float .f64 b2, .float .f64 b3, .float .f64 c1, .float .f64 c2, .float .f64 c3], .agg #[.float .f64 j1, .float .f64 j2, .float .f64 j3, .float .f64 j4, .float .f64 j5, .float .f64 j6, .float .f64 j7, .float .f64 j8, .float .f64 j9]] w fun e w' => e = .returned (.tuple #[.agg #[.float .f64 y0, .float .f64 y1, .float .f64 y2, .float .f64 y3, .float .f64 y4, .float .f64 y5, .float .f64 y6, .float .f64 y7, .float .f64 y8], .int .i64 k]) ∧ Below w.heap.size w w' := by
  have K0 := kw3 w 38 38 38 [a1, a2, a3, b1, b2, b3, c1, c2, c3] [j1, j2, j3, j4, j5, j6, j7, j8, j9] [0, 0, 0, 0, 0, 0, 0, 0, 0]
  simp only [objW, List.map_cons, List.map_nil] at K0
  have hst := @fstore
  replace K0 := Lib.hid K0
  go_enter Try.func32, Try.ntmps32
  go_wp2_with fail
  have K := K0.out
  clear K0
  generalize ((w.alloc _).alloc _).alloc _ = wr at *
  refine (C1.out wr).mono ?_
  rintro _ v1 ⟨rfl, hb⟩
  replace K := K.on hb
  clear hb
  have c1_0 := (K.at_ 1 rfl).at_ 0 _ rfl
  have c1_1 := (K.at_ 1 rfl).at_ 1 _ rfl
  have c1_2 := (K.at_ 1 rfl).at_ 2 _ rfl
  have c1_3 := (K.at_ 1 rfl).at_ 3 _ rfl
  have c1_4 := (K.at_ 1 rfl).at_ 4 _ rfl
  have c1_5 := (K.at_ 1 rfl).at_ 5 _ rfl
  have c1_6 := (K.at_ 1 rfl).at_ 6 _ rfl
  have c1_7 := (K.at_ 1 rfl).at_ 7 _ rfl
  have c1_8 := (K.at_ 1 rfl).at_ 8 _ rfl
  replace K := Lib.hid K
  go_wp2_with fail
  replace K := K.out
  refine (C2.out v1).mono ?_
  rintro _ v2 ⟨rfl, hb⟩
  clear c1_0 c1_1 c1_2 c1_3 c1_4 c1_5 c1_6 c1_7 c1_8
  replace K := K.on hb
  clear hb
  have c1_0 := (K.at_ 1 rfl).at_ 0 _ rfl
  have c1_1 := (K.at_ 1 rfl).at_ 1 _ rfl
  have c1_2 := (K.at_ 1 rfl).at_ 2 _ rfl
  have c1_3 := (K.at_ 1 rfl).at_ 3 _ rfl
  have c1_4 := (K.at_ 1 rfl).at_ 4 _ rfl
  have c1_5 := (K.at_ 1 rfl).at_ 5 _ rfl
  have c1_6 := (K.at_ 1 rfl).at_ 6 _ rfl
  have c1_7 := (K.at_ 1 rfl).at_ 7 _ rfl
  have c1_8 := (K.at_ 1 rfl).at_ 8 _ rfl
  replace K := Lib.hid K
  go_wp2_with fail
  replace K := K.out
  refine (C3.out v2).mono ?_
  rintro _ v3 ⟨rfl, hb⟩
  clear c1_0 c1_1 c1_2 c1_3 c1_4 c1_5 c1_6 c1_7 c1_8
  replace K := K.on hb
  clear hb
  replace K := K.new 38 [m0, m1, m2, m3, m4, m5, m6, m7, m8]
  replace K := K.and (n := v3.heap.size + 1) (by simp) 38 [0, 0, 0, 0, 0, 0, 0, 0, 0]
  simp only [objW, List.map_cons, List.map_nil, List.cons_append, List.nil_append] at K
  replace K := Lib.hid K
  go_wp2_with fail
  replace K := K.out
  generalize (v3.alloc _).alloc _ = u3 at *
  generalize v3.heap.size = g1 at *
  refine wp_loop_rounds 4 ?_
  rw [rounds_succ]
  replace K := Lib.hid K
  go_upto_region 8 with fail
  replace K := K.out
  generalize hds : ([some 23, some 24, some 25, some 26, some 27, some 28, some 29, none] : List (Option Tmp)) = ds
  have hap : apartL ds = true := by rw [← hds]; decide
  replace hds := hds.symm
  refine wp_region_k (fun hf => [some (w.heap.size, [a1, a2, a3, b1, b2, b3, c1, c2, c3]), some (w.heap.size + 1, [j1, j2, j3, j4, j5, j6, j7, j8, j9]), some (w.heap.size + 1 + 1, [0, 0, 0, 0, 0, 0, 0, 0, 0]), some (g1, [m0, m1, m2, m3, m4, m5, m6, m7, m8]), some (g1 + 1, [p1, p2, p3, 0, 0, 0, 0, 0, 0])]) (fun hf => [some (.int .i64 0), some (.agg #[.float .f64 m0, .float .f64 m1, .float .f64 m2, .float .f64 m3, .float .f64 m4, .float .f64 m5, .float .f64 m6, .float .f64 m7, .float .f64 m8]), some (.int .i64 0), some (.pointer (some ⟨w.heap.size, 0, none⟩)), some (.agg #[.float .f64 a1, .float .f64 a2, .float .f64 a3]), some (.agg #[.float .f64 p1, .float .f64 p2, .float .f64 p3]), some (.pointer (some ⟨g1 + 1, 0, none⟩)), some (undef)]) [] [⟨7, 4, 0, [p1, p2, p3]⟩] [.int .i64 0, .agg #[.float .f64 m0, .float .f64 m1, .float .f64 m2, .float .f64 m3, .float .f64 m4, .float .f64 m5, .float .f64 m6, .float .f64 m7, .float .f64 m8], .int .i64 0, .pointer (some ⟨w.heap.size, 0, none⟩), .agg #[.float .f64 a1, .float .f64 a2, .float .f64 a3], .agg #[.float .f64 p1, .float .f64 p2, .float .f64 p3], .pointer (some ⟨g1 + 1, 0, none⟩), undef] ds (by kernel_rfl) (by rw [hds]; rfl) hap (by decide +kernel) (by decide +kernel) K ?ha ?haj ?hai ?hsi ?hss ?hsa ?hsw ?htg ?hE2 ?hE3 ?hE4 ?hL1 ?hL2 ?hL3 ?alloc ?step ?store ?fin
  case ha => intro al hal; cases hal
  case haj => intro al hal al' hal' e; cases hal
  case hai => intro al hal; cases hal
  case hsi => intro st hst st' hst' e; simp only [List.mem_cons, List.not_mem_nil, or_false] at hst; rcases hst with rfl <;> (simp only [List.mem_cons, List.not_mem_nil, or_false] at hst'; rcases hst' with rfl) <;> first | rfl | (exfalso; revert e; simp)
  case hss =>
    intro st hst
    simp only [List.mem_cons, List.not_mem_nil, or_false] at hst; rcases hst with rfl
    · show 7 < 8; decide
  case hsa =>
    intro st hst al hal
    cases hal
  case hsw =>
    intro st hst al hal e
    cases hal
  case htg =>
    intro st hst
    simp only [List.mem_cons, List.not_mem_nil, or_false] at hst; rcases hst with rfl
    · exact .inl ⟨_, _, rfl, show 0 + 3 ≤ 9 by decide⟩
  case hE2 =>
    intro hf j h1 h2
    have n4 : 4 ≠ j := h1 _ (List.mem_cons_self ..)
    rcases j with _ | _ | _ | _ | _ | j
    · rfl
    · rfl
    · rfl
    · rfl
    · exact absurd rfl n4
    · rfl
  case hE3 =>
    intro hf st hst g us e
    simp only [List.mem_cons, List.not_mem_nil, or_false] at hst; rcases hst with rfl
    · obtain ⟨rfl, rfl⟩ := Prod.mk.inj (Option.some.inj (Option.some.inj e)); rfl
  case hE4 =>
    intro hf al hal
    cases hal
  case hL1 => intro hf; rfl
  case hL2 =>
    intro hf i hi hna
    have hi : i < 8 := hi
    have : i = 0 ∨ i = 1 ∨ i = 2 ∨ i = 3 ∨ i = 4 ∨ i = 5 ∨ i = 6 ∨ i = 7 := by omega
    rcases this with rfl | rfl | rfl | rfl | rfl | rfl | rfl | rfl
    · rfl
    · rfl
    · rfl
    · rfl
    · rfl
    · rfl
    · rfl
    · rfl
  case hL3 => intro hf al hal; cases hal
  case alloc =>
    intro al hal o ρ W ho
    cases hal
  case step =>
    intro L W i o ho hs ha hd hB
    have hi : i < 8 := (Array.getElem?_eq_some_iff.1 ho).1
    have : i = 0 ∨ i = 1 ∨ i = 2 ∨ i = 3 ∨ i = 4 ∨ i = 5 ∨ i = 6 ∨ i = 7 := by omega
    rcases this with rfl | rfl | rfl | rfl | rfl | rfl | rfl | rfl
    · -- 0
      obtain rfl := Option.some.inj ho
      refine .value W ?_ (Below.refl _ _)
      generalize hA : (puts ds L _).eval = ρ
      have hc : ∀ v, ρ (.const v) = v := fun v => by rw [← hA]; rfl
      have hg : ∀ g, ρ (.func g) = .func (.func g) #[] #[] := fun v => by rw [← hA]; rfl
      have h0 : ρ (.tmp 8) = .int .i64 0 := by rw [← hA]; exact (puts_old ds L _ (by rw [hds]; decide)).trans rfl
      clear hA hd hB ho hs ha
      unfold execOp
      go_simp
    · -- 1
      obtain rfl := Option.some.inj ho
      have b := hB 3 _ _ rfl (by
        intro st hst e
        simp only [List.mem_cons, List.not_mem_nil, or_false] at hst; rcases hst with rfl
        · exact absurd e (show ¬ 4 = 3 by decide))
      have c0 := b.at_ 0 _ rfl
      have c1 := b.at_ 1 _ rfl
      have c2 := b.at_ 2 _ rfl
      have c3 := b.at_ 3 _ rfl
      have c4 := b.at_ 4 _ rfl
      have c5 := b.at_ 5 _ rfl
      have c6 := b.at_ 6 _ rfl
      have c7 := b.at_ 7 _ rfl
      have c8 := b.at_ 8 _ rfl
      clear b
      refine .value W ?_ (Below.refl _ _)
      generalize hA : (puts ds L _).eval = ρ
      have hc : ∀ v, ρ (.const v) = v := fun v => by rw [← hA]; rfl
      have hg : ∀ g, ρ (.func g) = .func (.func g) #[] #[] := fun v => by rw [← hA]; rfl
      have h0 : ρ (.tmp 6) = .pointer (some ⟨g1, 0, none⟩) := by rw [← hA]; exact (puts_old ds L _ (by rw [hds]; decide)).trans rfl
      clear hA hd hB ho hs ha
      unfold execOp
      go_simp
    · -- 2
      obtain rfl := Option.some.inj ho
      refine .value W ?_ (Below.refl _ _)
      generalize hA : (puts ds L _).eval = ρ
      have hc : ∀ v, ρ (.const v) = v := fun v => by rw [← hA]; rfl
      have hg : ∀ g, ρ (.func g) = .func (.func g) #[] #[] := fun v => by rw [← hA]; rfl
      have h0 : ρ (.tmp 8) = .int .i64 0 := by rw [← hA]; exact (puts_old ds L _ (by rw [hds]; decide)).trans rfl
      clear hA hd hB ho hs ha
      unfold execOp
      go_simp
    · -- 3
      obtain rfl := Option.some.inj ho
      refine .value W ?_ (Below.refl _ _)
      generalize hA : (puts ds L _).eval = ρ
      have hc : ∀ v, ρ (.const v) = v := fun v => by rw [← hA]; rfl
      have hg : ∀ g, ρ (.func g) = .func (.func g) #[] #[] := fun v => by rw [← hA]; rfl
      have h0 : ρ (.tmp 2) = .pointer (some ⟨w.heap.size, 0, none⟩) := by rw [← hA]; exact (puts_old ds L _ (by rw [hds]; decide)).trans rfl
      have h1 : ρ (.tmp 25) = .int .i64 0 := by rw [← hA]; exact puts_get 2 ds L _ hap (by rw [hds]; rfl) (hd 2 (by decide +kernel) (by intro al hal; cases hal)) (show 25 < 35 by decide)
      clear hA hd hB ho hs ha
      unfold execOp
      go_simp
    · -- 4
      obtain rfl := Option.some.inj ho
      have b := hB 0 _ _ rfl (by
        intro st hst e
        simp only [List.mem_cons, List.not_mem_nil, or_false] at hst; rcases hst with rfl
        · exact absurd e (show ¬ 4 = 0 by decide))
      have c0 := b.at_ 0 _ rfl
      have c1 := b.at_ 1 _ rfl
      have c2 := b.at_ 2 _ rfl
      clear b
      refine .value W ?_ (Below.refl _ _)
      generalize hA : (puts ds L _).eval = ρ
      have hc : ∀ v, ρ (.const v) = v := fun v => by rw [← hA]; rfl
      have hg : ∀ g, ρ (.func g) = .func (.func g) #[] #[] := fun v => by rw [← hA]; rfl
      have h0 : ρ (.tmp 26) = .pointer (some ⟨w.heap.size, 0, none⟩) := by rw [← hA]; exact puts_get 3 ds L _ hap (by rw [hds]; rfl) (hd 3 (by decide +kernel) (by intro al hal; cases hal)) (show 26 < 35 by decide)
      clear hA hd hB ho hs ha
      unfold execOp
      go_simp
    · -- 5
      obtain rfl := Option.some.inj ho
      refine .call 70 #[.agg #[.float .f64 m0, .float .f64 m1, .float .f64 m2, .float .f64 m3, .float .f64 m4, .float .f64 m5, .float .f64 m6, .float .f64 m7, .float .f64 m8], .agg #[.float .f64 a1, .float .f64 a2, .float .f64 a3]] ?_ (D1.out W)
      generalize hA : (puts ds L _).eval = ρ
      have hc : ∀ v, ρ (.const v) = v := fun v => by rw [← hA]; rfl
      have hg : ∀ g, ρ (.func g) = .func (.func g) #[] #[] := fun v => by rw [← hA]; rfl
      have h0 : ρ (.tmp 24) = .agg #[.float .f64 m0, .float .f64 m1, .float .f64 m2, .float .f64 m3, .float .f64 m4, .float .f64 m5, .float .f64 m6, .float .f64 m7, .float .f64 m8] := by rw [← hA]; exact puts_get 1 ds L _ hap (by rw [hds]; rfl) (hd 1 (by decide +kernel) (by intro al hal; cases hal)) (show 24 < 35 by decide)
      have h1 : ρ (.tmp 27) = .agg #[.float .f64 a1, .float .f64 a2, .float .f64 a3] := by rw [← hA]; exact puts_get 4 ds L _ hap (by rw [hds]; rfl) (hd 4 (by decide +kernel) (by intro al hal; cases hal)) (show 27 < 35 by decide)
      have hf := Try.func70
      unfold execOp
      go_simp
    · -- 6
      obtain rfl := Option.some.inj ho
      refine .value W ?_ (Below.refl _ _)
      generalize hA : (puts ds L _).eval = ρ
      have hc : ∀ v, ρ (.const v) = v := fun v => by rw [← hA]; rfl
      have hg : ∀ g, ρ (.func g) = .func (.func g) #[] #[] := fun v => by rw [← hA]; rfl
      have h0 : ρ (.tmp 7) = .pointer (some ⟨g1 + 1, 0, none⟩) := by rw [← hA]; exact (puts_old ds L _ (by rw [hds]; decide)).trans rfl
      have h1 : ρ (.tmp 23) = .int .i64 0 := by rw [← hA]; exact puts_get 0 ds L _ hap (by rw [hds]; rfl) (hd 0 (by decide +kernel) (by intro al hal; cases hal)) (show 23 < 35 by decide)
      clear hA hd hB ho hs ha
      unfold execOp
      go_simp
    · -- 7
      exact absurd rfl (hs _ (List.mem_cons_self ..))
  case store =>
    intro st hst L W o h us ho hd hal hC b
    simp only [List.mem_cons, List.not_mem_nil, or_false] at hst; rcases hst with rfl
    · dsimp only at ho hd hal hC b ⊢
      obtain rfl := Option.some.inj ho
      obtain ⟨rfl, rfl⟩ := hC _ _ rfl
      have c0 := b.at_ 0 _ rfl
      have f0 := b.fr 0 _ rfl
      have c1 := b.at_ 1 _ rfl
      have f1 := b.fr 1 _ rfl
      have c2 := b.at_ 2 _ rfl
      have f2 := b.fr 2 _ rfl
      refine ⟨?_, rfl⟩
      generalize hA : (puts ds L _).eval = ρ
      have h0 : ρ (.tmp 29) = .pointer (some ⟨g1 + 1, 0, none⟩) := by rw [← hA]; exact puts_get 6 ds L _ hap (by rw [hds]; rfl) (hd 6 (by decide +kernel) (by intro al hal; cases hal)) (show 29 < 35 by decide)
      have h1 : ρ (.tmp 28) = .agg #[.float .f64 p1, .float .f64 p2, .float .f64 p3] := by rw [← hA]; exact puts_get 5 ds L _ hap (by rw [hds]; rfl) (hd 5 (by decide +kernel) (by intro al hal; cases hal)) (show 28 < 35 by decide)
      have hst' := @fstore
      clear hA hd b ho hal hC
      simp only [putW]
      unfold execOp
      go_simp
  case fin =>
    intro hf W0 K
    rw [hds]
    clear hds hap ds D1
    (try dsimp only at K)
    simp only [List.set_cons_zero, List.set_cons_succ, puts, Act.put, List.setIfInBounds_toArray]
    replace K := Lib.hid K
    go_wp2_with fail
    replace K := K.out
    (try simp only [Exit.vnBlock, Exit.then])
    rw [rounds_succ]
    replace K := Lib.hid K
    go_upto_region 8 with fail
    replace K := K.out
    generalize hds : ([some 23, some 24, some 25, some 26, some 27, some 28, some 29, none] : List (Option Tmp)) = ds
    have hap : apartL ds = true := by rw [← hds]; decide
    replace hds := hds.symm
    refine wp_region_k (fun hf => [some (w.heap.size, [a1, a2, a3, b1, b2, b3, c1, c2, c3]), some (w.heap.size + 1, [j1, j2, j3, j4, j5, j6, j7, j8, j9]), some (w.heap.size + 1 + 1, [0, 0, 0, 0, 0, 0, 0, 0, 0]), some (g1, [m0, m1, m2, m3, m4, m5, m6, m7, m8]), some (g1 + 1, [p1, p2, p3, q1, q2, q3, 0, 0, 0])]) (fun hf => [some (.int .i64 1), some (.agg #[.float .f64 m0, .float .f64 m1, .float .f64 m2, .float .f64 m3, .float .f64 m4, .float .f64 m5, .float .f64 m6, .float .f64 m7, .float .f64 m8]), some (.int .i64 1), some (.pointer (some ⟨w.heap.size, 3, none⟩)), some (.agg #[.float .f64 b1, .float .f64 b2, .float .f64 b3]), some (.agg #[.float .f64 q1, .float .f64 q2, .float .f64 q3]), some (.pointer (some ⟨g1 + 1, 3, none⟩)), some (undef)]) [] [⟨7, 4, 3, [q1, q2, q3]⟩] [.int .i64 1, .agg #[.float .f64 m0, .float .f64 m1, .float .f64 m2, .float .f64 m3, .float .f64 m4, .float .f64 m5, .float .f64 m6, .float .f64 m7, .float .f64 m8], .int .i64 1, .pointer (some ⟨w.heap.size, 3, none⟩), .agg #[.float .f64 b1, .float .f64 b2, .float .f64 b3], .agg #[.float .f64 q1, .float .f64 q2, .float .f64 q3], .pointer (some ⟨g1 + 1, 3, none⟩), undef] ds (by kernel_rfl) (by rw [hds]; rfl) hap (by decide +kernel) (by decide +kernel) K ?ha ?haj ?hai ?hsi ?hss ?hsa ?hsw ?htg ?hE2 ?hE3 ?hE4 ?hL1 ?hL2 ?hL3 ?alloc ?step ?store ?fin
    case ha => intro al hal; cases hal
    case haj => intro al hal al' hal' e; cases hal
    case hai => intro al hal; cases hal
    case hsi => intro st hst st' hst' e; simp only [List.mem_cons, List.not_mem_nil, or_false] at hst; rcases hst with rfl <;> (simp only [List.mem_cons, List.not_mem_nil, or_false] at hst'; rcases hst' with rfl) <;> first | rfl | (exfalso; revert e; simp)
    case hss =>
      intro st hst
      simp only [List.mem_cons, List.not_mem_nil, or_false] at hst; rcases hst with rfl
      · show 7 < 8; decide
    case hsa =>
      intro st hst al hal
      cases hal
    case hsw =>
      intro st hst al hal e
      cases hal
    case htg =>
      intro st hst
      simp only [List.mem_cons, List.not_mem_nil, or_false] at hst; rcases hst with rfl
      · exact .inl ⟨_, _, rfl, show 3 + 3 ≤ 9 by decide⟩
    case hE2 =>
      intro hf j h1 h2
      have n4 : 4 ≠ j := h1 _ (List.mem_cons_self ..)
      rcases j with _ | _ | _ | _ | _ | j
      · rfl
      · rfl
      · rfl
      · rfl
      · exact absurd rfl n4
      · rfl
    case hE3 =>
      intro hf st hst g us e
      simp only [List.mem_cons, List.not_mem_nil, or_false] at hst; rcases hst with rfl
      · obtain ⟨rfl, rfl⟩ := Prod.mk.inj (Option.some.inj (Option.some.inj e)); rfl
    case hE4 =>
      intro hf al hal
      cases hal
    case hL1 => intro hf; rfl
    case hL2 =>
      intro hf i hi hna
      have hi : i < 8 := hi
      have : i = 0 ∨ i = 1 ∨ i = 2 ∨ i = 3 ∨ i = 4 ∨ i = 5 ∨ i = 6 ∨ i = 7 := by omega
      rcases this with rfl | rfl | rfl | rfl | rfl | rfl | rfl | rfl
      · rfl
      · rfl
      · rfl
      · rfl
      · rfl
      · rfl
      · rfl
      · rfl
    case hL3 => intro hf al hal; cases hal
    case alloc =>
      intro al hal o ρ W ho
      cases hal
    case step =>
      intro L W i o ho hs ha hd hB
      have hi : i < 8 := (Array.getElem?_eq_some_iff.1 ho).1
      have : i = 0 ∨ i = 1 ∨ i = 2 ∨ i = 3 ∨ i = 4 ∨ i = 5 ∨ i = 6 ∨ i = 7 := by omega
      rcases this with rfl | rfl | rfl | rfl | rfl | rfl | rfl | rfl
      · -- 0
        obtain rfl := Option.some.inj ho
        refine .value W ?_ (Below.refl _ _)
        generalize hA : (puts ds L _).eval = ρ
        have hc : ∀ v, ρ (.const v) = v := fun v => by rw [← hA]; rfl
        have hg : ∀ g, ρ (.func g) = .func (.func g) #[] #[] := fun v => by rw [← hA]; rfl
        have h0 : ρ (.tmp 8) = .int .i64 1 := by rw [← hA]; exact (puts_old ds L _ (by rw [hds]; decide)).trans rfl
        clear hA hd hB ho hs ha
        unfold execOp
        go_simp
      · -- 1
        obtain rfl := Option.some.inj ho
        have b := hB 3 _ _ rfl (by
          intro st hst e
          simp only [List.mem_cons, List.not_mem_nil, or_false] at hst; rcases hst with rfl
          · exact absurd e (show ¬ 4 = 3 by decide))
        have c0 := b.at_ 0 _ rfl
        have c1 := b.at_ 1 _ rfl
        have c2 := b.at_ 2 _ rfl
        have c3 := b.at_ 3 _ rfl
        have c4 := b.at_ 4 _ rfl
        have c5 := b.at_ 5 _ rfl
        have c6 := b.at_ 6 _ rfl
        have c7 := b.at_ 7 _ rfl
        have c8 := b.at_ 8 _ rfl
        clear b
        refine .value W ?_ (Below.refl _ _)
        generalize hA : (puts ds L _).eval = ρ
        have hc : ∀ v, ρ (.const v) = v := fun v => by rw [← hA]; rfl
        have hg : ∀ g, ρ (.func g) = .func (.func g) #[] #[] := fun v => by rw [← hA]; rfl
        have h0 : ρ (.tmp 6) = .pointer (some ⟨g1, 0, none⟩) := by rw [← hA]; exact (puts_old ds L _ (by rw [hds]; decide)).trans rfl
        clear hA hd hB ho hs ha
        unfold execOp
        go_simp
      · -- 2
        obtain rfl := Option.some.inj ho
        refine .value W ?_ (Below.refl _ _)
        generalize hA : (puts ds L _).eval = ρ
        have hc : ∀ v, ρ (.const v) = v := fun v => by rw [← hA]; rfl
        have hg : ∀ g, ρ (.func g) = .func (.func g) #[] #[] := fun v => by rw [← hA]; rfl
        have h0 : ρ (.tmp 8) = .int .i64 1 := by rw [← hA]; exact (puts_old ds L _ (by rw [hds]; decide)).trans rfl
        clear hA hd hB ho hs ha
        unfold execOp
        go_simp
      · -- 3
        obtain rfl := Option.some.inj ho
        refine .value W ?_ (Below.refl _ _)
        generalize hA : (puts ds L _).eval = ρ
        have hc : ∀ v, ρ (.const v) = v := fun v => by rw [← hA]; rfl
        have hg : ∀ g, ρ (.func g) = .func (.func g) #[] #[] := fun v => by rw [← hA]; rfl
        have h0 : ρ (.tmp 2) = .pointer (some ⟨w.heap.size, 0, none⟩) := by rw [← hA]; exact (puts_old ds L _ (by rw [hds]; decide)).trans rfl
        have h1 : ρ (.tmp 25) = .int .i64 1 := by rw [← hA]; exact puts_get 2 ds L _ hap (by rw [hds]; rfl) (hd 2 (by decide +kernel) (by intro al hal; cases hal)) (show 25 < 35 by decide)
        clear hA hd hB ho hs ha
        unfold execOp
        go_simp
      · -- 4
        obtain rfl := Option.some.inj ho
        have b := hB 0 _ _ rfl (by
          intro st hst e
          simp only [List.mem_cons, List.not_mem_nil, or_false] at hst; rcases hst with rfl
          · exact absurd e (show ¬ 4 = 0 by decide))
        have c3 := b.at_ 3 _ rfl
        have c4 := b.at_ 4 _ rfl
        have c5 := b.at_ 5 _ rfl
        clear b
        refine .value W ?_ (Below.refl _ _)
        generalize hA : (puts ds L _).eval = ρ
        have hc : ∀ v, ρ (.const v) = v := fun v => by rw [← hA]; rfl
        have hg : ∀ g, ρ (.func g) = .func (.func g) #[] #[] := fun v => by rw [← hA]; rfl
        have h0 : ρ (.tmp 26) = .pointer (some ⟨w.heap.size, 3, none⟩) := by rw [← hA]; exact puts_get 3 ds L _ hap (by rw [hds]; rfl) (hd 3 (by decide +kernel) (by intro al hal; cases hal)) (show 26 < 35 by decide)
        clear hA hd hB ho hs ha
        unfold execOp
        go_simp
      · -- 5
        obtain rfl := Option.some.inj ho
        refine .call 70 #[.agg #[.float .f64 m0, .float .f64 m1, .float .f64 m2, .float .f64 m3, .float .f64 m4, .float .f64 m5, .float .f64 m6, .float .f64 m7, .float .f64 m8], .agg #[.float .f64 b1, .float .f64 b2, .float .f64 b3]] ?_ (D2.out W)
        generalize hA : (puts ds L _).eval = ρ
        have hc : ∀ v, ρ (.const v) = v := fun v => by rw [← hA]; rfl
        have hg : ∀ g, ρ (.func g) = .func (.func g) #[] #[] := fun v => by rw [← hA]; rfl
        have h0 : ρ (.tmp 24) = .agg #[.float .f64 m0, .float .f64 m1, .float .f64 m2, .float .f64 m3, .float .f64 m4, .float .f64 m5, .float .f64 m6, .float .f64 m7, .float .f64 m8] := by rw [← hA]; exact puts_get 1 ds L _ hap (by rw [hds]; rfl) (hd 1 (by decide +kernel) (by intro al hal; cases hal)) (show 24 < 35 by decide)
        have h1 : ρ (.tmp 27) = .agg #[.float .f64 b1, .float .f64 b2, .float .f64 b3] := by rw [← hA]; exact puts_get 4 ds L _ hap (by rw [hds]; rfl) (hd 4 (by decide +kernel) (by intro al hal; cases hal)) (show 27 < 35 by decide)
        have hf := Try.func70
        unfold execOp
        go_simp
      · -- 6
        obtain rfl := Option.some.inj ho
        refine .value W ?_ (Below.refl _ _)
        generalize hA : (puts ds L _).eval = ρ
        have hc : ∀ v, ρ (.const v) = v := fun v => by rw [← hA]; rfl
        have hg : ∀ g, ρ (.func g) = .func (.func g) #[] #[] := fun v => by rw [← hA]; rfl
        have h0 : ρ (.tmp 7) = .pointer (some ⟨g1 + 1, 0, none⟩) := by rw [← hA]; exact (puts_old ds L _ (by rw [hds]; decide)).trans rfl
        have h1 : ρ (.tmp 23) = .int .i64 1 := by rw [← hA]; exact puts_get 0 ds L _ hap (by rw [hds]; rfl) (hd 0 (by decide +kernel) (by intro al hal; cases hal)) (show 23 < 35 by decide)
        clear hA hd hB ho hs ha
        unfold execOp
        go_simp
      · -- 7
        exact absurd rfl (hs _ (List.mem_cons_self ..))
    case store =>
      intro st hst L W o h us ho hd hal hC b
      simp only [List.mem_cons, List.not_mem_nil, or_false] at hst; rcases hst with rfl
      · dsimp only at ho hd hal hC b ⊢
        obtain rfl := Option.some.inj ho
        obtain ⟨rfl, rfl⟩ := hC _ _ rfl
        have c0 := b.at_ 3 _ rfl
        have f0 := b.fr 3 _ rfl
        have c1 := b.at_ 4 _ rfl
        have f1 := b.fr 4 _ rfl
        have c2 := b.at_ 5 _ rfl
        have f2 := b.fr 5 _ rfl
        refine ⟨?_, rfl⟩
        generalize hA : (puts ds L _).eval = ρ
        have h0 : ρ (.tmp 29) = .pointer (some ⟨g1 + 1, 3, none⟩) := by rw [← hA]; exact puts_get 6 ds L _ hap (by rw [hds]; rfl) (hd 6 (by decide +kernel) (by intro al hal; cases hal)) (show 29 < 35 by decide)
        have h1 : ρ (.tmp 28) = .agg #[.float .f64 q1, .float .f64 q2, .float .f64 q3] := by rw [← hA]; exact puts_get 5 ds L _ hap (by rw [hds]; rfl) (hd 5 (by decide +kernel) (by intro al hal; cases hal)) (show 28 < 35 by decide)
        have hst' := @fstore
        clear hA hd b ho hal hC
        simp only [putW]
        unfold execOp
        go_simp
    case fin =>
      intro hf W1 K
      rw [hds]
      clear hds hap ds D2
      (try dsimp only at K)
      simp only [List.set_cons_zero, List.set_cons_succ, puts, Act.put, List.setIfInBounds_toArray]
      replace K := Lib.hid K
      go_wp2_with fail
      replace K := K.out
      (try simp only [Exit.vnBlock, Exit.then])
      rw [rounds_succ]
      replace K := Lib.hid K
      go_upto_region 8 with fail
      replace K := K.out
      generalize hds : ([some 23, some 24, some 25, some 26, some 27, some 28, some 29, none] : List (Option Tmp)) = ds
      have hap : apartL ds = true := by rw [← hds]; decide
      replace hds := hds.symm
      refine wp_region_k (fun hf => [some (w.heap.size, [a1, a2, a3, b1, b2, b3, c1, c2, c3]), some (w.heap.size + 1, [j1, j2, j3, j4, j5, j6, j7, j8, j9]), some (w.heap.size + 1 + 1, [0, 0, 0, 0, 0, 0, 0, 0, 0]), some (g1, [m0, m1, m2, m3, m4, m5, m6, m7, m8]), some (g1 + 1, [p1, p2, p3, q1, q2, q3, r1, r2, r3])]) (fun hf => [some (.int .i64 2), some (.agg #[.float .f64 m0, .float .f64 m1, .float .f64 m2, .float .f64 m3, .float .f64 m4, .float .f64 m5, .float .f64 m6, .float .f64 m7, .float .f64 m8]), some (.int .i64 2), some (.pointer (some ⟨w.heap.size, 6, none⟩)), some (.agg #[.float .f64 c1, .float .f64 c2, .float .f64 c3]), some (.agg #[.float .f64 r1, .float .f64 r2, .float .f64 r3]), some (.pointer (some ⟨g1 + 1, 6, none⟩)), some (undef)]) [] [⟨7, 4, 6, [r1, r2, r3]⟩] [.int .i64 2, .agg #[.float .f64 m0, .float .f64 m1, .float .f64 m2, .float .f64 m3, .float .f64 m4, .float .f64 m5, .float .f64 m6, .float .f64 m7, .float .f64 m8], .int .i64 2, .pointer (some ⟨w.heap.size, 6, none⟩), .agg #[.float .f64 c1, .float .f64 c2, .float .f64 c3], .agg #[.float .f64 r1, .float .f64 r2, .float .f64 r3], .pointer (some ⟨g1 + 1, 6, none⟩), undef] ds (by kernel_rfl) (by rw [hds]; rfl) hap (by decide +kernel) (by decide +kernel) K ?ha ?haj ?hai ?hsi ?hss ?hsa ?hsw ?htg ?hE2 ?hE3 ?hE4 ?hL1 ?hL2 ?hL3 ?alloc ?step ?store ?fin
      case ha => intro al hal; cases hal
      case haj => intro al hal al' hal' e; cases hal
      case hai => intro al hal; cases hal
      case hsi => intro st hst st' hst' e; simp only [List.mem_cons, List.not_mem_nil, or_false] at hst; rcases hst with rfl <;> (simp only [List.mem_cons, List.not_mem_nil, or_false] at hst'; rcases hst' with rfl) <;> first | rfl | (exfalso; revert e; simp)
      case hss =>
        intro st hst
        simp only [List.mem_cons, List.not_mem_nil, or_false] at hst; rcases hst with rfl
        · show 7 < 8; decide
      case hsa =>
        intro st hst al hal
        cases hal
      case hsw =>
        intro st hst al hal e
        cases hal
      case htg =>
        intro st hst
        simp only [List.mem_cons, List.not_mem_nil, or_false] at hst; rcases hst with rfl
        · exact .inl ⟨_, _, rfl, show 6 + 3 ≤ 9 by decide⟩
      case hE2 =>
        intro hf j h1 h2
        have n4 : 4 ≠ j := h1 _ (List.mem_cons_self ..)
        rcases j with _ | _ | _ | _ | _ | j
        · rfl
        · rfl
        · rfl
        · rfl
        · exact absurd rfl n4
        · rfl
      case hE3 =>
        intro hf st hst g us e
        simp only [List.mem_cons, List.not_mem_nil, or_false] at hst; rcases hst with rfl
        · obtain ⟨rfl, rfl⟩ := Prod.mk.inj (Option.some.inj (Option.some.inj e)); rfl
      case hE4 =>
        intro hf al hal
        cases hal
      case hL1 => intro hf; rfl
      case hL2 =>
        intro hf i hi hna
        have hi : i < 8 := hi
        have : i = 0 ∨ i = 1 ∨ i = 2 ∨ i = 3 ∨ i = 4 ∨ i = 5 ∨ i = 6 ∨ i = 7 := by omega
        rcases this with rfl | rfl | rfl | rfl | rfl | rfl | rfl | rfl
        · rfl
        · rfl
        · rfl
        · rfl
        · rfl
        · rfl
        · rfl
        · rfl
      case hL3 => intro hf al hal; cases hal
      case alloc =>
        intro al hal o ρ W ho
        cases hal
      case step =>
        intro L W i o ho hs ha hd hB
        have hi : i < 8 := (Array.getElem?_eq_some_iff.1 ho).1
        have : i = 0 ∨ i = 1 ∨ i = 2 ∨ i = 3 ∨ i = 4 ∨ i = 5 ∨ i = 6 ∨ i = 7 := by omega
        rcases this with rfl | rfl | rfl | rfl | rfl | rfl | rfl | rfl
        · -- 0
          obtain rfl := Option.some.inj ho
          refine .value W ?_ (Below.refl _ _)
          generalize hA : (puts ds L _).eval = ρ
          have hc : ∀ v, ρ (.const v) = v := fun v => by rw [← hA]; rfl
          have hg : ∀ g, ρ (.func g) = .func (.func g) #[] #[] := fun v => by rw [← hA]; rfl
          have h0 : ρ (.tmp 8) = .int .i64 2 := by rw [← hA]; exact (puts_old ds L _ (by rw [hds]; decide)).trans rfl
          clear hA hd hB ho hs ha
          unfold execOp
          go_simp
        · -- 1
          obtain rfl := Option.some.inj ho
          have b := hB 3 _ _ rfl (by
            intro st hst e
            simp only [List.mem_cons, List.not_mem_nil, or_false] at hst; rcases hst with rfl
            · exact absurd e (show ¬ 4 = 3 by decide))
          have c0 := b.at_ 0 _ rfl
          have c1 := b.at_ 1 _ rfl
          have c2 := b.at_ 2 _ rfl
          have c3 := b.at_ 3 _ rfl
          have c4 := b.at_ 4 _ rfl
          have c5 := b.at_ 5 _ rfl
          have c6 := b.at_ 6 _ rfl
          have c7 := b.at_ 7 _ rfl
          have c8 := b.at_ 8 _ rfl
          clear b
          refine .value W ?_ (Below.refl _ _)
          generalize hA : (puts ds L _).eval = ρ
          have hc : ∀ v, ρ (.const v) = v := fun v => by rw [← hA]; rfl
          have hg : ∀ g, ρ (.func g) = .func (.func g) #[] #[] := fun v => by rw [← hA]; rfl
          have h0 : ρ (.tmp 6) = .pointer (some ⟨g1, 0, none⟩) := by rw [← hA]; exact (puts_old ds L _ (by rw [hds]; decide)).trans rfl
          clear hA hd hB ho hs ha
          unfold execOp
          go_simp
        · -- 2
          obtain rfl := Option.some.inj ho
          refine .value W ?_ (Below.refl _ _)
          generalize hA : (puts ds L _).eval = ρ
          have hc : ∀ v, ρ (.const v) = v := fun v => by rw [← hA]; rfl
          have hg : ∀ g, ρ (.func g) = .func (.func g) #[] #[] := fun v => by rw [← hA]; rfl
          have h0 : ρ (.tmp 8) = .int .i64 2 := by rw [← hA]; exact (puts_old ds L _ (by rw [hds]; decide)).trans rfl
          clear hA hd hB ho hs ha
          unfold execOp
          go_simp
        · -- 3
          obtain rfl := Option.some.inj ho
          refine .value W ?_ (Below.refl _ _)
          generalize hA : (puts ds L _).eval = ρ
          have hc : ∀ v, ρ (.const v) = v := fun v => by rw [← hA]; rfl
          have hg : ∀ g, ρ (.func g) = .func (.func g) #[] #[] := fun v => by rw [← hA]; rfl
          have h0 : ρ (.tmp 2) = .pointer (some ⟨w.heap.size, 0, none⟩) := by rw [← hA]; exact (puts_old ds L _ (by rw [hds]; decide)).trans rfl
          have h1 : ρ (.tmp 25) = .int .i64 2 := by rw [← hA]; exact puts_get 2 ds L _ hap (by rw [hds]; rfl) (hd 2 (by decide +kernel) (by intro al hal; cases hal)) (show 25 < 35 by decide)
          clear hA hd hB ho hs ha
          unfold execOp
          go_simp
        · -- 4
          obtain rfl := Option.some.inj ho
          have b := hB 0 _ _ rfl (by
            intro st hst e
            simp only [List.mem_cons, List.not_mem_nil, or_false] at hst; rcases hst with rfl
            · exact absurd e (show ¬ 4 = 0 by decide))
          have c6 := b.at_ 6 _ rfl
          have c7 := b.at_ 7 _ rfl
          have c8 := b.at_ 8 _ rfl
          clear b
          refine .value W ?_ (Below.refl _ _)
          generalize hA : (puts ds L _).eval = ρ
          have hc : ∀ v, ρ (.const v) = v := fun v => by rw [← hA]; rfl
          have hg : ∀ g, ρ (.func g) = .func (.func g) #[] #[] := fun v => by rw [← hA]; rfl
          have h0 : ρ (.tmp 26) = .pointer (some ⟨w.heap.size, 6, none⟩) := by rw [← hA]; exact puts_get 3 ds L _ hap (by rw [hds]; rfl) (hd 3 (by decide +kernel) (by intro al hal; cases hal)) (show 26 < 35 by decide)
          clear hA hd hB ho hs ha
          unfold execOp
          go_simp
        · -- 5
          obtain rfl := Option.some.inj ho
          refine .call 70 #[.agg #[.float .f64 m0, .float .f64 m1, .float .f64 m2, .float .f64 m3, .float .f64 m4, .float .f64 m5, .float .f64 m6, .float .f64 m7, .float .f64 m8], .agg #[.float .f64 c1, .float .f64 c2, .float .f64 c3]] ?_ (D3.out W)
          generalize hA : (puts ds L _).eval = ρ
          have hc : ∀ v, ρ (.const v) = v := fun v => by rw [← hA]; rfl
          have hg : ∀ g, ρ (.func g) = .func (.func g) #[] #[] := fun v => by rw [← hA]; rfl
          have h0 : ρ (.tmp 24) = .agg #[.float .f64 m0, .float .f64 m1, .float .f64 m2, .float .f64 m3, .float .f64 m4, .float .f64 m5, .float .f64 m6, .float .f64 m7, .float .f64 m8] := by rw [← hA]; exact puts_get 1 ds L _ hap (by rw [hds]; rfl) (hd 1 (by decide +kernel) (by intro al hal; cases hal)) (show 24 < 35 by decide)
          have h1 : ρ (.tmp 27) = .agg #[.float .f64 c1, .float .f64 c2, .float .f64 c3] := by rw [← hA]; exact puts_get 4 ds L _ hap (by rw [hds]; rfl) (hd 4 (by decide +kernel) (by intro al hal; cases hal)) (show 27 < 35 by decide)
          have hf := Try.func70
          unfold execOp
          go_simp
        · -- 6
          obtain rfl := Option.some.inj ho
          refine .value W ?_ (Below.refl _ _)
          generalize hA : (puts ds L _).eval = ρ
          have hc : ∀ v, ρ (.const v) = v := fun v => by rw [← hA]; rfl
          have hg : ∀ g, ρ (.func g) = .func (.func g) #[] #[] := fun v => by rw [← hA]; rfl
          have h0 : ρ (.tmp 7) = .pointer (some ⟨g1 + 1, 0, none⟩) := by rw [← hA]; exact (puts_old ds L _ (by rw [hds]; decide)).trans rfl
          have h1 : ρ (.tmp 23) = .int .i64 2 := by rw [← hA]; exact puts_get 0 ds L _ hap (by rw [hds]; rfl) (hd 0 (by decide +kernel) (by intro al hal; cases hal)) (show 23 < 35 by decide)
          clear hA hd hB ho hs ha
          unfold execOp
          go_simp
        · -- 7
          exact absurd rfl (hs _ (List.mem_cons_self ..))
      case store =>
        intro st hst L W o h us ho hd hal hC b
        simp only [List.mem_cons, List.not_mem_nil, or_false] at hst; rcases hst with rfl
        · dsimp only at ho hd hal hC b ⊢
          obtain rfl := Option.some.inj ho
          obtain ⟨rfl, rfl⟩ := hC _ _ rfl
          have c0 := b.at_ 6 _ rfl
          have f0 := b.fr 6 _ rfl
          have c1 := b.at_ 7 _ rfl
          have f1 := b.fr 7 _ rfl
          have c2 := b.at_ 8 _ rfl
          have f2 := b.fr 8 _ rfl
          refine ⟨?_, rfl⟩
          generalize hA : (puts ds L _).eval = ρ
          have h0 : ρ (.tmp 29) = .pointer (some ⟨g1 + 1, 6, none⟩) := by rw [← hA]; exact puts_get 6 ds L _ hap (by rw [hds]; rfl) (hd 6 (by decide +kernel) (by intro al hal; cases hal)) (show 29 < 35 by decide)
          have h1 : ρ (.tmp 28) = .agg #[.float .f64 r1, .float .f64 r2, .float .f64 r3] := by rw [← hA]; exact puts_get 5 ds L _ hap (by rw [hds]; rfl) (hd 5 (by decide +kernel) (by intro al hal; cases hal)) (show 28 < 35 by decide)
          have hst' := @fstore
          clear hA hd b ho hal hC
          simp only [putW]
          unfold execOp
          go_simp
      case fin =>
        intro hf W2 K
        rw [hds]
        clear hds hap ds D3
        (try dsimp only at K)
        simp only [List.set_cons_zero, List.set_cons_succ, puts, Act.put, List.setIfInBounds_toArray]
        replace K := Lib.hid K
        go_wp2_with fail
        replace K := K.out
        (try simp only [Exit.vnBlock, Exit.then])
        rw [rounds_succ]
        have c4_0 := (K.at_ 4 rfl).at_ 0 _ rfl
        have c4_1 := (K.at_ 4 rfl).at_ 1 _ rfl
        have c4_2 := (K.at_ 4 rfl).at_ 2 _ rfl
        have c4_3 := (K.at_ 4 rfl).at_ 3 _ rfl
        have c4_4 := (K.at_ 4 rfl).at_ 4 _ rfl
        have c4_5 := (K.at_ 4 rfl).at_ 5 _ rfl
        have c4_6 := (K.at_ 4 rfl).at_ 6 _ rfl
        have c4_7 := (K.at_ 4 rfl).at_ 7 _ rfl
        have c4_8 := (K.at_ 4 rfl).at_ 8 _ rfl
        replace K := Lib.hid K
        go_wp2_with fail
        replace K := K.out
        refine (C4.out W2).mono ?_
        rintro _ v1 ⟨rfl, hb⟩
        clear c4_0 c4_1 c4_2 c4_3 c4_4 c4_5 c4_6 c4_7 c4_8
        replace K := K.on hb
        clear hb
        have c2_0 := (K.at_ 2 rfl).at_ 0 _ rfl
        have f2_0 := (K.at_ 2 rfl).fr 0 _ rfl
        have c2_1 := (K.at_ 2 rfl).at_ 1 _ rfl
        have f2_1 := (K.at_ 2 rfl).fr 1 _ rfl
        have c2_2 := (K.at_ 2 rfl).at_ 2 _ rfl
        have f2_2 := (K.at_ 2 rfl).fr 2 _ rfl
        have c2_3 := (K.at_ 2 rfl).at_ 3 _ rfl
        have f2_3 := (K.at_ 2 rfl).fr 3 _ rfl
        have c2_4 := (K.at_ 2 rfl).at_ 4 _ rfl
        have f2_4 := (K.at_ 2 rfl).fr 4 _ rfl
        have c2_5 := (K.at_ 2 rfl).at_ 5 _ rfl
        have f2_5 := (K.at_ 2 rfl).fr 5 _ rfl
        have c2_6 := (K.at_ 2 rfl).at_ 6 _ rfl
        have f2_6 := (K.at_ 2 rfl).fr 6 _ rfl
        have c2_7 := (K.at_ 2 rfl).at_ 7 _ rfl
        have f2_7 := (K.at_ 2 rfl).fr 7 _ rfl
        have c2_8 := (K.at_ 2 rfl).at_ 8 _ rfl
        have f2_8 := (K.at_ 2 rfl).fr 8 _ rfl
        replace K := Lib.hid K
        go_wp2_with fail
        replace K := K.out
        (try simp only [Exit.vnBlock, Exit.then])
        refine bodyPost_ret (v := .tuple #[.agg #[.float .f64 y0, .float .f64 y1, .float .f64 y2, .float .f64 y3, .float .f64 y4, .float .f64 y5, .float .f64 y6, .float .f64 y7, .float .f64 y8], .int .i64 k]) ?_ rfl ⟨rfl, ?_⟩
        · rw [results_cell_tmp rfl]; go_simp
        · exact (((((((((K.old).setCell (by first | exact Nat.le_refl _ | (dsimp only; omega)) _).setCell (by first | exact Nat.le_refl _ | (dsimp only; omega)) _).setCell (by first | exact Nat.le_refl _ | (dsimp only; omega)) _).setCell (by first | exact Nat.le_refl _ | (dsimp only; omega)) _).setCell (by first | exact Nat.le_refl _ | (dsimp only; omega)) _).setCell (by first | exact Nat.le_refl _ | (dsimp only; omega)) _).setCell (by first | exact Nat.le_refl _ | (dsimp only; omega)) _).setCell (by first | exact Nat.le_refl _ | (dsimp only; omega)) _).setCell (by first | exact Nat.le_refl _ | (dsimp only; omega)) _
set_option maxHeartbeats 4000000 in
set_option maxRecDepth 100000 in
theorem vtimes_na {a1 a2 a3 b1 b2 b3 c1 c2 c3 j1 j2 j3 j4 j5 j6 j7 j8 j9 : Nat} (C1 : Hid (∀ w, Calls Try.prog 67 #[.agg #[.float .f64 a1, .float .f64 a2, .float .f64 a3, .float .f64 b1, .float .f64 b2, .float .f64 b3, .float .f64 c1, .float .f64 c2, .float .f64 c3]] w fun e w' => e = .returned (.bool false) ∧ Below w.heap.size w w')) (w : World) : Calls Try.prog 32 #[.agg #[.float .f64 a1, .float .f64 a2, .float .f64 a3, .float .f64 b1, .float .f64 b2, .float .f64 b3, .float .f64 c1, .float .f64 c2, .float .f64 c3], .agg #[.float .f64 j1, .float .f64 j2, .float .f64 j3, .float .f64 j4, .float .f64 j5, .float .f64 j6, .float .f64 j7, .float .f64 j8, .float .f64 j9]] w fun e w' => e = .returned (.tuple #[.agg #[.float .f64 0, .float .f64 0, .float .f64 0, .float .f64 0, .float .f64 0, .float .f64 0, .float .f64 0, .float .f64 0, .float .f64 0], .int .i64 3]) ∧ Below w.heap.size w w' := by
  have K0 := kw3 w 38 38 38 [a1, a2, a3, b1, b2, b3, c1, c2, c3] [j1, j2, j3, j4, j5, j6, j7, j8, j9] [0, 0, 0, 0, 0, 0, 0, 0, 0]
  simp only [objW, List.map_cons, List.map_nil] at K0
  have hst := @fstore
  replace K0 := Lib.hid K0
  go_enter Try.func32, Try.ntmps32
  go_wp2_with fail
  have K := K0.out
  clear K0
  generalize ((w.alloc _).alloc _).alloc _ = wr at *
  refine (C1.out wr).mono ?_
  rintro _ v1 ⟨rfl, hb⟩
  replace K := K.on hb
  clear hb
  have c2_0 := (K.at_ 2 rfl).at_ 0 _ rfl
  have f2_0 := (K.at_ 2 rfl).fr 0 _ rfl
  have c2_1 := (K.at_ 2 rfl).at_ 1 _ rfl
  have f2_1 := (K.at_ 2 rfl).fr 1 _ rfl
  have c2_2 := (K.at_ 2 rfl).at_ 2 _ rfl
  have f2_2 := (K.at_ 2 rfl).fr 2 _ rfl
  have c2_3 := (K.at_ 2 rfl).at_ 3 _ rfl
  have f2_3 := (K.at_ 2 rfl).fr 3 _ rfl
  have c2_4 := (K.at_ 2 rfl).at_ 4 _ rfl
  have f2_4 := (K.at_ 2 rfl).fr 4 _ rfl
  have c2_5 := (K.at_ 2 rfl).at_ 5 _ rfl
  have f2_5 := (K.at_ 2 rfl).fr 5 _ rfl
  have c2_6 := (K.at_ 2 rfl).at_ 6 _ rfl
  have f2_6 := (K.at_ 2 rfl).fr 6 _ rfl
  have c2_7 := (K.at_ 2 rfl).at_ 7 _ rfl
  have f2_7 := (K.at_ 2 rfl).fr 7 _ rfl
  have c2_8 := (K.at_ 2 rfl).at_ 8 _ rfl
  have f2_8 := (K.at_ 2 rfl).fr 8 _ rfl
  replace K := Lib.hid K
  go_wp2_with fail
  replace K := K.out
  (try simp only [Exit.vnBlock, Exit.then])
  refine bodyPost_ret (v := .tuple #[.agg #[.float .f64 0, .float .f64 0, .float .f64 0, .float .f64 0, .float .f64 0, .float .f64 0, .float .f64 0, .float .f64 0, .float .f64 0], .int .i64 3]) ?_ rfl ⟨rfl, ?_⟩
  · rw [results_cell_tmp rfl]; go_simp
  · exact (((((((((K.old).setCell (by first | exact Nat.le_refl _ | (dsimp only; omega)) _).setCell (by first | exact Nat.le_refl _ | (dsimp only; omega)) _).setCell (by first | exact Nat.le_refl _ | (dsimp only; omega)) _).setCell (by first | exact Nat.le_refl _ | (dsimp only; omega)) _).setCell (by first | exact Nat.le_refl _ | (dsimp only; omega)) _).setCell (by first | exact Nat.le_refl _ | (dsimp only; omega)) _).setCell (by first | exact Nat.le_refl _ | (dsimp only; omega)) _).setCell (by first | exact Nat.le_refl _ | (dsimp only; omega)) _).setCell (by first | exact Nat.le_refl _ | (dsimp only; omega)) _
set_option maxHeartbeats 4000000 in
set_option maxRecDepth 100000 in
theorem vtimes_nb {a1 a2 a3 b1 b2 b3 c1 c2 c3 j1 j2 j3 j4 j5 j6 j7 j8 j9 : Nat} (C1 : Hid (∀ w, Calls Try.prog 67 #[.agg #[.float .f64 a1, .float .f64 a2, .float .f64 a3, .float .f64 b1, .float .f64 b2, .float .f64 b3, .float .f64 c1, .float .f64 c2, .float .f64 c3]] w fun e w' => e = .returned (.bool true) ∧ Below w.heap.size w w')) (C2 : Hid (∀ w, Calls Try.prog 67 #[.agg #[.float .f64 j1, .float .f64 j2, .float .f64 j3, .float .f64 j4, .float .f64 j5, .float .f64 j6, .float .f64 j7, .float .f64 j8, .float .f64 j9]] w fun e w' => e = .returned (.bool false) ∧ Below w.heap.size w w')) (w : World) : Calls Try.prog 32 #[.agg #[.float .f64 a1, .float .f64 a2, .float .f64 a3, .float .f64 b1, .float .f64 b2, .float .f64 b3, .float .f64 c1, .float .f64 c2, .float .f64 c3], .agg #[.float .f64 j1, .float .f64 j2, .float .f64 j3, .float .f64 j4, .float .f64 j5, .float .f64 j6, .float .f64 j7, .float .f64 j8, .float .f64 j9]] w fun e w' => e = .returned (.tuple #[.agg #[.float .f64 0, .float .f64 0, .float .f64 0, .float .f64 0, .float .f64 0, .float .f64 0, .float .f64 0, .float .f64 0, .float .f64 0], .int .i64 3]) ∧ Below w.heap.size w w' := by
  have K0 := kw3 w 38 38 38 [a1, a2, a3, b1, b2, b3, c1, c2, c3] [j1, j2, j3, j4, j5, j6, j7, j8, j9] [0, 0, 0, 0, 0, 0, 0, 0, 0]
  simp only [objW, List.map_cons, List.map_nil] at K0
  have hst := @fstore
  replace K0 := Lib.hid K0
  go_enter Try.func32, Try.ntmps32
  go_wp2_with fail
  have K := K0.out
  clear K0
  generalize ((w.alloc _).alloc _).alloc _ = wr at *
  refine (C1.out wr).mono ?_
  rintro _ v1 ⟨rfl, hb⟩
  replace K := K.on hb
  clear hb
  have c1_0 := (K.at_ 1 rfl).at_ 0 _ rfl
  have c1_1 := (K.at_ 1 rfl).at_ 1 _ rfl
  have c1_2 := (K.at_ 1 rfl).at_ 2 _ rfl
  have c1_3 := (K.at_ 1 rfl).at_ 3 _ rfl
  have c1_4 := (K.at_ 1 rfl).at_ 4 _ rfl
  have c1_5 := (K.at_ 1 rfl).at_ 5 _ rfl
  have c1_6 := (K.at_ 1 rfl).at_ 6 _ rfl
  have c1_7 := (K.at_ 1 rfl).at_ 7 _ rfl
  have c1_8 := (K.at_ 1 rfl).at_ 8 _ rfl
  replace K := Lib.hid K
  go_wp2_with fail
  replace K := K.out
  refine (C2.out v1).mono ?_
  rintro _ v2 ⟨rfl, hb⟩
  clear c1_0 c1_1 c1_2 c1_3 c1_4 c1_5 c1_6 c1_7 c1_8
  replace K := K.on hb
  clear hb
  have c2_0 := (K.at_ 2 rfl).at_ 0 _ rfl
  have f2_0 := (K.at_ 2 rfl).fr 0 _ rfl
  have c2_1 := (K.at_ 2 rfl).at_ 1 _ rfl
  have f2_1 := (K.at_ 2 rfl).fr 1 _ rfl
  have c2_2 := (K.at_ 2 rfl).at_ 2 _ rfl
  have f2_2 := (K.at_ 2 rfl).fr 2 _ rfl
  have c2_3 := (K.at_ 2 rfl).at_ 3 _ rfl
  have f2_3 := (K.at_ 2 rfl).fr 3 _ rfl
  have c2_4 := (K.at_ 2 rfl).at_ 4 _ rfl
  have f2_4 := (K.at_ 2 rfl).fr 4 _ rfl
  have c2_5 := (K.at_ 2 rfl).at_ 5 _ rfl
  have f2_5 := (K.at_ 2 rfl).fr 5 _ rfl
  have c2_6 := (K.at_ 2 rfl).at_ 6 _ rfl
  have f2_6 := (K.at_ 2 rfl).fr 6 _ rfl
  have c2_7 := (K.at_ 2 rfl).at_ 7 _ rfl
  have f2_7 := (K.at_ 2 rfl).fr 7 _ rfl
  have c2_8 := (K.at_ 2 rfl).at_ 8 _ rfl
  have f2_8 := (K.at_ 2 rfl).fr 8 _ rfl
  replace K := Lib.hid K
  go_wp2_with fail
  replace K := K.out
  (try simp only [Exit.vnBlock, Exit.then])
  refine bodyPost_ret (v := .tuple #[.agg #[.float .f64 0, .float .f64 0, .float .f64 0, .float .f64 0, .float .f64 0, .float .f64 0, .float .f64 0, .float .f64 0, .float .f64 0], .int .i64 3]) ?_ rfl ⟨rfl, ?_⟩
  · rw [results_cell_tmp rfl]; go_simp
  · exact (((((((((K.old).setCell (by first | exact Nat.le_refl _ | (dsimp only; omega)) _).setCell (by first | exact Nat.le_refl _ | (dsimp only; omega)) _).setCell (by first | exact Nat.le_refl _ | (dsimp only; omega)) _).setCell (by first | exact Nat.le_refl _ | (dsimp only; omega)) _).setCell (by first | exact Nat.le_refl _ | (dsimp only; omega)) _).setCell (by first | exact Nat.le_refl _ | (dsimp only; omega)) _).setCell (by first | exact Nat.le_refl _ | (dsimp only; omega)) _).setCell (by first | exact Nat.le_refl _ | (dsimp only; omega)) _).setCell (by first | exact Nat.le_refl _ | (dsimp only; omega)) _
set_option maxHeartbeats 4000000 in
set_option maxRecDepth 100000 in
theorem rvtimes_na {a1 a2 a3 b1 b2 b3 c1 c2 c3 j1 j2 j3 j4 j5 j6 j7 j8 j9 : Nat} (C1 : Hid (∀ w, Calls Try.prog 69 #[.agg #[.float .f64 a1, .float .f64 a2, .float .f64 a3, .float .f64 b1, .float .f64 b2, .float .f64 b3, .float .f64 c1, .float .f64 c2, .float .f64 c3]] w fun e w' => e = .returned (.bool false) ∧ Below w.heap.size w w')) (w : World) : Calls Try.prog 33 #[.agg #[.float .f64 a1, .float .f64 a2, .float .f64 a3, .float .f64 b1, .float .f64 b2, .float .f64 b3, .float .f64 c1, .float .f64 c2, .float .f64 c3], .agg #[.float .f64 j1, .float .f64 j2, .float .f64 j3, .float .f64 j4, .float .f64 j5, .float .f64 j6, .float .f64 j7, .float .f64 j8, .float .f64 j9]] w fun e w' => e = .returned (.tuple #[.agg #[.float .f64 0, .float .f64 0, .float .f64 0, .float .f64 0, .float .f64 0, .float .f64 0, .float .f64 0, .float .f64 0, .float .f64 0], .int .i64 3]) ∧ Below w.heap.size w w' := by
  have K0 := kw3 w 38 38 38 [a1, a2, a3, b1, b2, b3, c1, c2, c3] [j1, j2, j3, j4, j5, j6, j7, j8, j9] [0, 0, 0, 0, 0, 0, 0, 0, 0]
  simp only [objW, List.map_cons, List.map_nil] at K0
  have hst := @fstore
  replace K0 := Lib.hid K0
  go_enter Try.func33, Try.ntmps33
  go_wp2_with fail
  have K := K0.out
  clear K0
  generalize ((w.alloc _).alloc _).alloc _ = wr at *
  refine (C1.out wr).mono ?_
  rintro _ v1 ⟨rfl, hb⟩
  replace K := K.on hb
  clear hb
  have c2_0 := (K.at_ 2 rfl).at_ 0 _ rfl
  have f2_0 := (K.at_ 2 rfl).fr 0 _ rfl
  have c2_1 := (K.at_ 2 rfl).at_ 1 _ rfl
  have f2_1 := (K.at_ 2 rfl).fr 1 _ rfl
  have c2_2 := (K.at_ 2 rfl).at_ 2 _ rfl
  have f2_2 := (K.at_ 2 rfl).fr 2 _ rfl
  have c2_3 := (K.at_ 2 rfl).at_ 3 _ rfl
  have f2_3 := (K.at_ 2 rfl).fr 3 _ rfl
  have c2_4 := (K.at_ 2 rfl).at_ 4 _ rfl
  have f2_4 := (K.at_ 2 rfl).fr 4 _ rfl
  have c2_5 := (K.at_ 2 rfl).at_ 5 _ rfl
  have f2_5 := (K.at_ 2 rfl).fr 5 _ rfl
  have c2_6 := (K.at_ 2 rfl).at_ 6 _ rfl
  have f2_6 := (K.at_ 2 rfl).fr 6 _ rfl
  have c2_7 := (K.at_ 2 rfl).at_ 7 _ rfl
  have f2_7 := (K.at_ 2 rfl).fr 7 _ rfl
  have c2_8 := (K.at_ 2 rfl).at_ 8 _ rfl
  have f2_8 := (K.at_ 2 rfl).fr 8 _ rfl
  replace K := Lib.hid K
  go_wp2_with fail
  replace K := K.out
  (try simp only [Exit.vnBlock, Exit.then])
  refine bodyPost_ret (v := .tuple #[.agg #[.float .f64 0, .float .f64 0, .float .f64 0, .float .f64 0, .float .f64 0, .float .f64 0, .float .f64 0, .float .f64 0, .float .f64 0], .int .i64 3]) ?_ rfl ⟨rfl, ?_⟩
  · rw [results_cell_tmp rfl]; go_simp
  · exact (((((((((K.old).setCell (by first | exact Nat.le_refl _ | (dsimp only; omega)) _).setCell (by first | exact Nat.le_refl _ | (dsimp only; omega)) _).setCell (by first | exact Nat.le_refl _ | (dsimp only; omega)) _).setCell (by first | exact Nat.le_refl _ | (dsimp only; omega)) _).setCell (by first | exact Nat.le_refl _ | (dsimp only; omega)) _).setCell (by first | exact Nat.le_refl _ | (dsimp only; omega)) _).setCell (by first | exact Nat.le_refl _ | (dsimp only; omega)) _).setCell (by first | exact Nat.le_refl _ | (dsimp only; omega)) _).setCell (by first | exact Nat.le_refl _ | (dsimp only; omega)) _
set_option maxHeartbeats 4000000 in
set_option maxRecDepth 100000 in
theorem rvtimes_nb {a1 a2 a3 b1 b2 b3 c1 c2 c3 j1 j2 j3 j4 j5 j6 j7 j8 j9 : Nat} (C1 : Hid (∀ w, Calls Try.prog 69 #[.agg #[.float .f64 a1, .float .f64 a2, .float .f64 a3, .float .f64 b1, .float .f64 b2, .float .f64 b3, .float .f64 c1, .float .f64 c2, .float .f64 c3]] w fun e w' => e = .returned (.bool true) ∧ Below w.heap.size w w')) (C2 : Hid (∀ w, Calls Try.prog 69 #[.agg #[.float .f64 j1, .float .f64 j2, .float .f64 j3, .float .f64 j4, .float .f64 j5, .float .f64 j6, .float .f64 j7, .float .f64 j8, .float .f64 j9]] w fun e w' => e = .returned (.bool false) ∧ Below w.heap.size w w')) (w : World) : Calls Try.prog 33 #[.agg #[.float .f64 a1, .float .f64 a2, .float .f64 a3, .float .f64 b1, .float .f64 b2, .float .f64 b3, .float .f64 c1, .float .f64 c2, .float .f64 c3], .agg #[.float .f64 j1, .float .f64 j2, .float .f64 j3, .float .f64 j4, .float .f64 j5, .float .f64 j6, .float .f64 j7, .float .f64 j8, .float .f64 j9]] w fun e w' => e = .returned (.tuple #[.agg #[.float .f64 0, .float .f64 0, .float .f64 0, .float .f64 0, .float .f64 0, .float .f64 0, .float .f64 0, .float .f64 0, .float .f64 0], .int .i64 3]) ∧ Below w.heap.size w w' := by
  have K0 := kw3 w 38 38 38 [a1, a2, a3, b1, b2, b3, c1, c2, c3] [j1, j2, j3, j4, j5, j6, j7, j8, j9] [0, 0, 0, 0, 0, 0, 0, 0, 0]
  simp only [objW, List.map_cons, List.map_nil] at K0
  have hst := @fstore
  replace K0 := Lib.hid K0
  go_enter Try.func33, Try.ntmps33
  go_wp2_with fail
  have K := K0.out
  clear K0
  generalize ((w.alloc _).alloc _).alloc _ = wr at *
  refine (C1.out wr).mono ?_
  rintro _ v1 ⟨rfl, hb⟩
  replace K := K.on hb
  clear hb
  have c1_0 := (K.at_ 1 rfl).at_ 0 _ rfl
  have c1_1 := (K.at_ 1 rfl).at_ 1 _ rfl
  have c1_2 := (K.at_ 1 rfl).at_ 2 _ rfl
  have c1_3 := (K.at_ 1 rfl).at_ 3 _ rfl
  have c1_4 := (K.at_ 1 rfl).at_ 4 _ rfl
  have c1_5 := (K.at_ 1 rfl).at_ 5 _ rfl
  have c1_6 := (K.at_ 1 rfl).at_ 6 _ rfl
  have c1_7 := (K.at_ 1 rfl).at_ 7 _ rfl
  have c1_8 := (K.at_ 1 rfl).at_ 8 _ rfl
  replace K := Lib.hid K
  go_wp2_with fail
  replace K := K.out
  refine (C2.out v1).mono ?_
  rintro _ v2 ⟨rfl, hb⟩
  clear c1_0 c1_1 c1_2 c1_3 c1_4 c1_5 c1_6 c1_7 c1_8
  replace K := K.on hb
  clear hb
  have c2_0 := (K.at_ 2 rfl).at_ 0 _ rfl
  have f2_0 := (K.at_ 2 rfl).fr 0 _ rfl
  have c2_1 := (K.at_ 2 rfl).at_ 1 _ rfl
  have f2_1 := (K.at_ 2 rfl).fr 1 _ rfl
  have c2_2 := (K.at_ 2 rfl).at_ 2 _ rfl
  have f2_2 := (K.at_ 2 rfl).fr 2 _ rfl
  have c2_3 := (K.at_ 2 rfl).at_ 3 _ rfl
  have f2_3 := (K.at_ 2 rfl).fr 3 _ rfl
  have c2_4 := (K.at_ 2 rfl).at_ 4 _ rfl
  have f2_4 := (K.at_ 2 rfl).fr 4 _ rfl
  have c2_5 := (K.at_ 2 rfl).at_ 5 _ rfl
  have f2_5 := (K.at_ 2 rfl).fr 5 _ rfl
  have c2_6 := (K.at_ 2 rfl).at_ 6 _ rfl
  have f2_6 := (K.at_ 2 rfl).fr 6 _ rfl
  have c2_7 := (K.at_ 2 rfl).at_ 7 _ rfl
  have f2_7 := (K.at_ 2 rfl).fr 7 _ rfl
  have c2_8 := (K.at_ 2 rfl).at_ 8 _ rfl
  have f2_8 := (K.at_ 2 rfl).fr 8 _ rfl
  replace K := Lib.hid K
  go_wp2_with fail
  replace K := K.out
  (try simp only [Exit.vnBlock, Exit.then])
  refine bodyPost_ret (v := .tuple #[.agg #[.float .f64 0, .float .f64 0, .float .f64 0, .float .f64 0, .float .f64 0, .float .f64 0, .float .f64 0, .float .f64 0, .float .f64 0], .int .i64 3]) ?_ rfl ⟨rfl, ?_⟩
  · rw [results_cell_tmp rfl]; go_simp
  · exact (((((((((K.old).setCell (by first | exact Nat.le_refl _ | (dsimp only; omega)) _).setCell (by first | exact Nat.le_refl _ | (dsimp only; omega)) _).setCell (by first | exact Nat.le_refl _ | (dsimp only; omega)) _).setCell (by first | exact Nat.le_refl _ | (dsimp only; omega)) _).setCell (by first | exact Nat.le_refl _ | (dsimp only; omega)) _).setCell (by first | exact Nat.le_refl _ | (dsimp only; omega)) _).setCell (by first | exact Nat.le_refl _ | (dsimp only; omega)) _).setCell (by first | exact Nat.le_refl _ | (dsimp only; omega)) _).setCell (by first | exact Nat.le_refl _ | (dsimp only; omega)) _
set_option maxHeartbeats 8000000 in
set_option maxRecDepth 100000 in
theorem rvtimes_ok {a1 a2 a3 b1 b2 b3 c1 c2 c3 j1 j2 j3 j4 j5 j6 j7 j8 j9 m0 m1 m2 m3 m4 m5 m6 m7 m8 p1 p2 p3 q1 q2 q3 r1 r2 r3 y0 y1 y2 y3 y4 y5 y6 y7 y8 d00 d01 d02 d10 d11 d12 d20 d21 d22 : Nat} {k k0 k1 k2 kf : Int} (C1 : Hid (∀ w, Calls Try.prog 69 #[.agg #[.float .f64 a1, .float .f64 a2, .float .f64 a3, .float .f64 b1, .float .f64 b2, .float .f64 b3, .float .f64 c1, .float .f64 c2, .float .f64 c3]] w fun e w' => e = .returned (.bool true) ∧ Below w.heap.size w w')) (C2 : Hid (∀ w, Calls Try.prog 69 #[.agg #[.float .f64 j1, .float .f64 j2, .float .f64 j3, .float .f64 j4, .float .f64 j5, .float .f64 j6, .float .f64 j7, .float .f64 j8, .float .f64 j9]] w fun e w' => e = .returned (.bool true) ∧ Below w.heap.size w w')) (C3 : Hid (∀ w, Calls Try.prog 31 #[.agg #[.float .f64 j1, .float .f64 j2, .float .f64 j3, .float .f64 j4, .float .f64 j5, .float .f64 j6, .float .f64 j7, .float .f64 j8, .float .f64 j9]] w fun e w' => e = .returned (.tuple #[.agg #[.float .f64 m0, .float .f64 m1, .float .f64 m2, .float .f64 m3, .float .f64 m4, .float .f64 m5, .float .f64 m6, .float .f64 m7, .float .f64 m8], .int .i64 kf]) ∧ Below w.heap.size w w')) (E00 : Hid (∀ w, Calls Try.prog 59 #[.agg #[.float .f64 a1, .float .f64 a2, .float .f64 a3], .agg #[.float .f64 m0, .float .f64 m1, .float .f64 m2]] w fun e w' => e = .returned (.float .f64 d00) ∧ Below w.heap.size w w')) (E01 : Hid (∀ w, Calls Try.prog 59 #[.agg #[.float .f64 a1, .float .f64 a2, .float .f64 a3], .agg #[.float .f64 m3, .float .f64 m4, .float .f64 m5]] w fun e w' => e = .returned (.float .f64 d01) ∧ Below w.heap.size w w')) (E02 : Hid (∀ w, Calls Try.prog 59 #[.agg #[.float .f64 a1, .float .f64 a2, .float .f64 a3], .agg #[.float .f64 m6, .float .f64 m7, .float .f64 m8]] w fun e w' => e = .returned (.float .f64 d02) ∧ Below w.heap.size w w')) (D0 : Hid (∀ w, Calls Try.prog 56 #[.float .f64 d00, .float .f64 d01, .float .f64 d02] w fun e w' => e = .returned (.tuple #[.agg #[.float .f64 p1, .float .f64 p2, .float .f64 p3], .int .i64 k0]) ∧ Below w.heap.size w w')) (E10 : Hid (∀ w, Calls Try.prog 59 #[.agg #[.float .f64 b1, .float .f64 b2, .float .f64 b3], .agg #[.float .f64 m0, .float .f64 m1, .float .f64 m2]] w fun e w' => e = .returned (.float .f64 d10) ∧ Below w.heap.size w w')) (E11 : Hid (∀ w, Calls Try.prog 59 #[.agg #[.float .f64 b1, .float .f64 b2, .float .f64 b3], .agg #[.float .f64 m3, .float .f64 m4, .float .f64 m5]] w fun e w' => e = .returned (.float .f64 d11) ∧ Below w.heap.size w w')) (E12 : Hid (∀ w, Calls Try.prog 59 #[.agg #[.float .f64 b1, .float .f64 b2, .float .f64 b3], .agg #[.float .f64 m6, .float .f64 m7, .float .f64 m8]] w fun e w' => e = .returned (.float .f64 d12) ∧ Below w.heap.size w w')) (D1 : Hid (∀ w, Calls Try.prog 56 #[.float .f64 d10, .float .f64 d11, .float .f64 d12] w fun e w' => e = .returned (.tuple #[.agg #[.float .f64 q1, .float .f64 q2, .float .f64 q3], .int .i64 k1]) ∧ Below w.heap.size w w')) (E20 : Hid (∀ w, Calls Try.prog 59 #[.agg #[.float .f64 c1, .float .f64 c2, .float .f64 c3], .agg #[.float .f64 m0, .float .f64 m1, .float .f64 m2]] w fun e w' => e = .returned (.float .f64 d20) ∧ Below w.heap.size w w')) (E21 : Hid (∀ w, Calls Try.prog 59 #[.agg #[.float .f64 c1, .float .f64 c2, .float .f64 c3], .agg #[.float .f64 m3, .float .f64 m4, .float .f64 m5]] w fun e w' => e = .returned (.float .f64 d21) ∧ Below w.heap.size w w')) (E22 : Hid (∀ w, Calls Try.prog 59 #[.agg #[.float .f64 c1, .float .f64 c2, .float .f64 c3], .agg #[.float .f64 m6, .float .f64 m7, .float .f64 m8]] w fun e w' => e = .returned (.float .f64 d22) ∧ Below w.heap.size w w')) (D2 : Hid (∀ w, Calls Try.prog 56 #[.float .f64 d20, .float .f64 d21, .float .f64 d22] w fun e w' => e = .returned (.tuple #[.agg #[.float .f64 r1, .float .f64 r2, .float .f64 r3], .int .i64 k2]) ∧ Below w.heap.size w w')) (H0 : k0 ≠ 0 → y0 = 0 ∧ y1 = 0 ∧ y2 = 0 ∧ y3 = 0 ∧ y4 = 0 ∧ y5 = 0 ∧ y6 = 0 ∧ y7 = 0 ∧ y8 = 0 ∧ k = k0) (H1 : k0 = 0 → k1 ≠ 0 → y0 = 0 ∧ y1 = 0 ∧ y2 = 0 ∧ y3 = 0 ∧ y4 = 0 ∧ y5 = 0 ∧ y6 = 0 ∧ y7 = 0 ∧ y8 = 0 ∧ k = k1) (H2 : k0 = 0 → k1 = 0 → k2 ≠ 0 → y0 = 0 ∧ y1 = 0 ∧ y2 = 0 ∧ y3 = 0 ∧ y4 = 0 ∧ y5 = 0 ∧ y6 = 0 ∧ y7 = 0 ∧ y8 = 0 ∧ k = k2) (H3 : k0 = 0 → k1 = 0 → k2 = 0 → y0 = p1 ∧ y1 = p2 ∧ y2 = p3 ∧ y3 = q1 ∧ y4 = q2 ∧ y5 = q3 ∧ y6 = r1 ∧ y7 = r2 ∧ y8 = r3 ∧ k = 0) (w : World) : Calls Try.prog 33 #[.agg #[.float .f64 a1, .float .f64 a2, .float .f64 a3, .float .f64 b1, .float .f64 b2, .float .f64 b3, .float .f64 c1, .float .f64 c2, .float .f64 c3], .agg #[.float .f64 j1, .float .f64 j2, .float .f64 j3, .float .f64 j4, .float .f64 j5, .float .f64 j6, .float .f64 j7, .float .f64 j8, .float .f64 j9]] w fun e w' => e = .returned (.tuple #[.agg #[.float .f64 y0, .float .f64 y1, .float .f64 y2, .float .f64 y3, .float .f64 y4, .float .f64 y5, .float .f64 y6, .float .f64 y7, .float .f64 y8], .int .i64 k]) ∧ Below w.heap.size w w' := by
  replace H0 := Lib.hid H0
  replace H1 := Lib.hid H1
  replace H2 := Lib.hid H2
  replace H3 := Lib.hid H3
  have K0 := kw3 w 38 38 38 [a1, a2, a3, b1, b2, b3, c1, c2, c3] [j1, j2, j3, j4, j5, j6, j7, j8, j9] [0, 0, 0, 0, 0, 0, 0, 0, 0]
  simp only [objW, List.map_cons, List.map_nil] at K0
  have hst := @fstore
  replace K0 := Lib.hid K0
  go_enter Try.func33, Try.ntmps33
  go_wp2_with fail
  have K := K0.out
  clear K0
  generalize ((w.alloc _).alloc _).alloc _ = wr at *
  refine (C1.out wr).mono ?_
  rintro _ v1 ⟨rfl, hb⟩
  replace K := K.on hb
  clear hb
  have c1_0 := (K.at_ 1 rfl).at_ 0 _ rfl
  have c1_1 := (K.at_ 1 rfl).at_ 1 _ rfl
  have c1_2 := (K.at_ 1 rfl).at_ 2 _ rfl
  have c1_3 := (K.at_ 1 rfl).at_ 3 _ rfl
  have c1_4 := (K.at_ 1 rfl).at_ 4 _ rfl
  have c1_5 := (K.at_ 1 rfl).at_ 5 _ rfl
  have c1_6 := (K.at_ 1 rfl).at_ 6 _ rfl
  have c1_7 := (K.at_ 1 rfl).at_ 7 _ rfl
  have c1_8 := (K.at_ 1 rfl).at_ 8 _ rfl
  replace K := Lib.hid K
  go_wp2_with fail
  replace K := K.out
  refine (C2.out v1).mono ?_
  rintro _ v2 ⟨rfl, hb⟩
  clear c1_0 c1_1 c1_2 c1_3 c1_4 c1_5 c1_6 c1_7 c1_8
  replace K := K.on hb
  clear hb
  have c1_0 := (K.at_ 1 rfl).at_ 0 _ rfl
  have c1_1 := (K.at_ 1 rfl).at_ 1 _ rfl
  have c1_2 := (K.at_ 1 rfl).at_ 2 _ rfl
  have c1_3 := (K.at_ 1 rfl).at_ 3 _ rfl
  have c1_4 := (K.at_ 1 rfl).at_ 4 _ rfl
  have c1_5 := (K.at_ 1 rfl).at_ 5 _ rfl
  have c1_6 := (K.at_ 1 rfl).at_ 6 _ rfl
  have c1_7 := (K.at_ 1 rfl).at_ 7 _ rfl
  have c1_8 := (K.at_ 1 rfl).at_ 8 _ rfl
  replace K := Lib.hid K
  go_wp2_with fail
  replace K := K.out
  refine (C3.out v2).mono ?_
  rintro _ v3 ⟨rfl, hb⟩
  clear c1_0 c1_1 c1_2 c1_3 c1_4 c1_5 c1_6 c1_7 c1_8
  replace K := K.on hb
  clear hb
  replace K := K.new 38 [m0, m1, m2, m3, m4, m5, m6, m7, m8]
  replace K := K.and (n := v3.heap.size + 1) (by simp) 38 [0, 0, 0, 0, 0, 0, 0, 0, 0]
  simp only [objW, List.map_cons, List.map_nil, List.cons_append, List.nil_append] at K
  replace K := Lib.hid K
  go_wp2_with fail
  replace K := K.out
  generalize (v3.alloc _).alloc _ = u3 at *
  generalize v3.heap.size = g1 at *
  refine wp_loop_rounds 4 ?_
  rw [rounds_succ]
  replace K := Lib.hid K
  go_upto_region 8 with fail
  replace K := K.out.more
  simp only [List.cons_append, List.nil_append] at K
  generalize hds : ([some 31, some 32, some 33, some 34, some 35, some 36, some 37, some 38, some 39, some 40, some 41, some 42, some 43, some 44, some 45, some 46, some 47, some 48, some 49, some 30, some 50, some 51, some 10, none, some 11] : List (Option Tmp)) = ds
  have hap : apartL ds = true := by rw [← hds]; decide
  replace hds := hds.symm
  refine wp_region_k (fun hf => [some (w.heap.size, [a1, a2, a3, b1, b2, b3, c1, c2, c3]), some (w.heap.size + 1, [j1, j2, j3, j4, j5, j6, j7, j8, j9]), some (w.heap.size + 1 + 1, [0, 0, 0, 0, 0, 0, 0, 0, 0]), some (g1, [m0, m1, m2, m3, m4, m5, m6, m7, m8]), some (g1 + 1, [0, 0, 0, 0, 0, 0, 0, 0, 0]), some (hf 22, [p1, p2, p3])]) (fun hf => [some (.int .i64 0), some (.pointer (some ⟨w.heap.size, 0, none⟩)), some (.agg #[.float .f64 a1, .float .f64 a2, .float .f64 a3]), some (.pointer (some ⟨g1, 0, none⟩)), some (.agg #[.float .f64 m0, .float .f64 m1, .float .f64 m2]), some (.float .f64 d00), some (.int .i64 0), some (.pointer (some ⟨w.heap.size, 0, none⟩)), some (.agg #[.float .f64 a1, .float .f64 a2, .float .f64 a3]), some (.pointer (some ⟨g1, 3, none⟩)), some (.agg #[.float .f64 m3, .float .f64 m4, .float .f64 m5]), some (.float .f64 d01), some (.int .i64 0), some (.pointer (some ⟨w.heap.size, 0, none⟩)), some (.agg #[.float .f64 a1, .float .f64 a2, .float .f64 a3]), some (.pointer (some ⟨g1, 6, none⟩)), some (.agg #[.float .f64 m6, .float .f64 m7, .float .f64 m8]), some (.float .f64 d02), some (.tuple #[.agg #[.float .f64 p1, .float .f64 p2, .float .f64 p3], .int .i64 k0]), some (.tuple #[.agg #[.float .f64 p1, .float .f64 p2, .float .f64 p3], .int .i64 k0]), some (.agg #[.float .f64 p1, .float .f64 p2, .float .f64 p3]), some (.int .i64 k0), some (ptrV (hf 22)), some (undef), some (.int .i64 k0)]) [⟨22, 5, 24, [0, 0, 0]⟩] [⟨23, 5, 0, [p1, p2, p3]⟩] [.int .i64 0, .pointer (some ⟨w.heap.size, 0, none⟩), .agg #[.float .f64 a1, .float .f64 a2, .float .f64 a3], .pointer (some ⟨g1, 0, none⟩), .agg #[.float .f64 m0, .float .f64 m1, .float .f64 m2], .float .f64 d00, .int .i64 0, .pointer (some ⟨w.heap.size, 0, none⟩), .agg #[.float .f64 a1, .float .f64 a2, .float .f64 a3], .pointer (some ⟨g1, 3, none⟩), .agg #[.float .f64 m3, .float .f64 m4, .float .f64 m5], .float .f64 d01, .int .i64 0, .pointer (some ⟨w.heap.size, 0, none⟩), .agg #[.float .f64 a1, .float .f64 a2, .float .f64 a3], .pointer (some ⟨g1, 6, none⟩), .agg #[.float .f64 m6, .float .f64 m7, .float .f64 m8], .float .f64 d02, .tuple #[.agg #[.float .f64 p1, .float .f64 p2, .float .f64 p3], .int .i64 k0], .tuple #[.agg #[.float .f64 p1, .float .f64 p2, .float .f64 p3], .int .i64 k0], .agg #[.float .f64 p1, .float .f64 p2, .float .f64 p3], .int .i64 k0, undef, undef, .int .i64 k0] ds (by kernel_rfl) (by rw [hds]; rfl) hap (by decide +kernel) (by decide +kernel) K ?ha ?haj ?hai ?hsi ?hss ?hsa ?hsw ?htg ?hE2 ?hE3 ?hE4 ?hL1 ?hL2 ?hL3 ?alloc ?step ?store ?fin
  case ha => intro al hal; simp only [List.mem_cons, List.not_mem_nil, or_false] at hal; rcases hal with rfl <;> rfl
  case haj => intro al hal al' hal' e; simp only [List.mem_cons, List.not_mem_nil, or_false] at hal; rcases hal with rfl <;> (simp only [List.mem_cons, List.not_mem_nil, or_false] at hal'; rcases hal' with rfl) <;> first | rfl | (exfalso; revert e; simp)
  case hai => intro al hal; simp only [List.mem_cons, List.not_mem_nil, or_false] at hal; rcases hal with rfl <;> decide
  case hsi => intro st hst st' hst' e; simp only [List.mem_cons, List.not_mem_nil, or_false] at hst; rcases hst with rfl <;> (simp only [List.mem_cons, List.not_mem_nil, or_false] at hst'; rcases hst' with rfl) <;> first | rfl | (exfalso; revert e; simp)
  case hss =>
    intro st hst
    simp only [List.mem_cons, List.not_mem_nil, or_false] at hst; rcases hst with rfl
    · show 23 < 25; decide
  case hsa =>
    intro st hst al hal
    simp only [List.mem_cons, List.not_mem_nil, or_false] at hst; rcases hst with rfl
    · simp only [List.mem_cons, List.not_mem_nil, or_false] at hal; rcases hal with rfl
      · exact (show ¬ (23 = 22) by decide)
  case hsw =>
    intro st hst al hal e
    simp only [List.mem_cons, List.not_mem_nil, or_false] at hst; rcases hst with rfl
    · simp only [List.mem_cons, List.not_mem_nil, or_false] at hal; rcases hal with rfl
      · change waitsAt _ 23 22 = true; decide +kernel
  case htg =>
    intro st hst
    simp only [List.mem_cons, List.not_mem_nil, or_false] at hst; rcases hst with rfl
    · exact .inr ⟨_, List.mem_cons_self .., rfl, show 0 + 3 ≤ 3 by decide⟩
  case hE2 =>
    intro hf j h1 h2
    have n5 : 5 ≠ j := h1 _ (List.mem_cons_self ..)
    rcases j with _ | _ | _ | _ | _ | _ | j
    · rfl
    · rfl
    · rfl
    · rfl
    · rfl
    · exact absurd rfl n5
    · rfl
  case hE3 =>
    intro hf st hst g us e
    simp only [List.mem_cons, List.not_mem_nil, or_false] at hst; rcases hst with rfl
    · simp at e
  case hE4 =>
    intro hf al hal
    simp only [List.mem_cons, List.not_mem_nil, or_false] at hal; rcases hal with rfl
    · refine ⟨fun st hst e => ?_, fun h => absurd rfl (h _ (List.mem_cons_self ..))⟩
      simp only [List.mem_cons, List.not_mem_nil, or_false] at hst; rcases hst with rfl
      · rfl
  case hL1 => intro hf; rfl
  case hL2 =>
    intro hf i hi hna
    have hi : i < 25 := hi
    have : i = 0 ∨ i = 1 ∨ i = 2 ∨ i = 3 ∨ i = 4 ∨ i = 5 ∨ i = 6 ∨ i = 7 ∨ i = 8 ∨ i = 9 ∨ i = 10 ∨ i = 11 ∨ i = 12 ∨ i = 13 ∨ i = 14 ∨ i = 15 ∨ i = 16 ∨ i = 17 ∨ i = 18 ∨ i = 19 ∨ i = 20 ∨ i = 21 ∨ i = 22 ∨ i = 23 ∨ i = 24 := by omega
    rcases this with rfl | rfl | rfl | rfl | rfl | rfl | rfl | rfl | rfl | rfl | rfl | rfl | rfl | rfl | rfl | rfl | rfl | rfl | rfl | rfl | rfl | rfl | rfl | rfl | rfl
    · rfl
    · rfl
    · rfl
    · rfl
    · rfl
    · rfl
    · rfl
    · rfl
    · rfl
    · rfl
    · rfl
    · rfl
    · rfl
    · rfl
    · rfl
    · rfl
    · rfl
    · rfl
    · rfl
    · rfl
    · rfl
    · rfl
    · exact absurd rfl (hna _ (List.mem_cons_self ..))
    · rfl
    · rfl
  case hL3 => intro hf al hal; simp only [List.mem_cons, List.not_mem_nil, or_false] at hal; rcases hal with rfl <;> rfl
  case alloc =>
    intro al hal o ρ W ho
    simp only [List.mem_cons, List.not_mem_nil, or_false] at hal; rcases hal with rfl
    · obtain rfl := Option.some.inj ho; unfold execOp ptrV objW; simp only [List.map_cons, List.map_nil]; go_simp
  case step =>
    intro L W i o ho hs ha hd hB
    have hi : i < 25 := (Array.getElem?_eq_some_iff.1 ho).1
    have : i = 0 ∨ i = 1 ∨ i = 2 ∨ i = 3 ∨ i = 4 ∨ i = 5 ∨ i = 6 ∨ i = 7 ∨ i = 8 ∨ i = 9 ∨ i = 10 ∨ i = 11 ∨ i = 12 ∨ i = 13 ∨ i = 14 ∨ i = 15 ∨ i = 16 ∨ i = 17 ∨ i = 18 ∨ i = 19 ∨ i = 20 ∨ i = 21 ∨ i = 22 ∨ i = 23 ∨ i = 24 := by omega
    rcases this with rfl | rfl | rfl | rfl | rfl | rfl | rfl | rfl | rfl | rfl | rfl | rfl | rfl | rfl | rfl | rfl | rfl | rfl | rfl | rfl | rfl | rfl | rfl | rfl | rfl
    · -- 0
      obtain rfl := Option.some.inj ho
      refine .value W ?_ (Below.refl _ _)
      generalize hA : (puts ds L _).eval = ρ
      have hc : ∀ v, ρ (.const v) = v := fun v => by rw [← hA]; rfl
      have hg : ∀ g, ρ (.func g) = .func (.func g) #[] #[] := fun v => by rw [← hA]; rfl
      have h0 : ρ (.tmp 9) = .int .i64 0 := by rw [← hA]; exact (puts_old ds L _ (by rw [hds]; decide)).trans rfl
      clear hA hd hB ho hs ha
      unfold execOp
      go_simp
    · -- 1
      obtain rfl := Option.some.inj ho
      refine .value W ?_ (Below.refl _ _)
      generalize hA : (puts ds L _).eval = ρ
      have hc : ∀ v, ρ (.const v) = v := fun v => by rw [← hA]; rfl
      have hg : ∀ g, ρ (.func g) = .func (.func g) #[] #[] := fun v => by rw [← hA]; rfl
      have h0 : ρ (.tmp 2) = .pointer (some ⟨w.heap.size, 0, none⟩) := by rw [← hA]; exact (puts_old ds L _ (by rw [hds]; decide)).trans rfl
      have h1 : ρ (.tmp 31) = .int .i64 0 := by rw [← hA]; exact puts_get 0 ds L _ hap (by rw [hds]; rfl) (hd 0 (by decide +kernel) (by intro al hal; simp only [List.mem_cons, List.not_mem_nil, or_false] at hal; rcases hal with rfl <;> decide)) (show 31 < 60 by decide)
      clear hA hd hB ho hs ha
      unfold execOp
      go_simp
    · -- 2
      obtain rfl := Option.some.inj ho
      have b := hB 0 _ _ rfl (by
        intro st hst e
        simp only [List.mem_cons, List.not_mem_nil, or_false] at hst; rcases hst with rfl
        · exact absurd e (show ¬ 5 = 0 by decide))
      have c0 := b.at_ 0 _ rfl
      have c1 := b.at_ 1 _ rfl
      have c2 := b.at_ 2 _ rfl
      clear b
      refine .value W ?_ (Below.refl _ _)
      generalize hA : (puts ds L _).eval = ρ
      have hc : ∀ v, ρ (.const v) = v := fun v => by rw [← hA]; rfl
      have hg : ∀ g, ρ (.func g) = .func (.func g) #[] #[] := fun v => by rw [← hA]; rfl
      have h0 : ρ (.tmp 32) = .pointer (some ⟨w.heap.size, 0, none⟩) := by rw [← hA]; exact puts_get 1 ds L _ hap (by rw [hds]; rfl) (hd 1 (by decide +kernel) (by intro al hal; simp only [List.mem_cons, List.not_mem_nil, or_false] at hal; rcases hal with rfl <;> decide)) (show 32 < 60 by decide)
      clear hA hd hB ho hs ha
      unfold execOp
      go_simp
    · -- 3
      obtain rfl := Option.some.inj ho
      refine .value W ?_ (Below.refl _ _)
      generalize hA : (puts ds L _).eval = ρ
      have hc : ∀ v, ρ (.const v) = v := fun v => by rw [← hA]; rfl
      have hg : ∀ g, ρ (.func g) = .func (.func g) #[] #[] := fun v => by rw [← hA]; rfl
      have h0 : ρ (.tmp 6) = .pointer (some ⟨g1, 0, none⟩) := by rw [← hA]; exact (puts_old ds L _ (by rw [hds]; decide)).trans rfl
      clear hA hd hB ho hs ha
      unfold execOp
      go_simp
    · -- 4
      obtain rfl := Option.some.inj ho
      have b := hB 3 _ _ rfl (by
        intro st hst e
        simp only [List.mem_cons, List.not_mem_nil, or_false] at hst; rcases hst with rfl
        · exact absurd e (show ¬ 5 = 3 by decide))
      have c0 := b.at_ 0 _ rfl
      have c1 := b.at_ 1 _ rfl
      have c2 := b.at_ 2 _ rfl
      clear b
      refine .value W ?_ (Below.refl _ _)
      generalize hA : (puts ds L _).eval = ρ
      have hc : ∀ v, ρ (.const v) = v := fun v => by rw [← hA]; rfl
      have hg : ∀ g, ρ (.func g) = .func (.func g) #[] #[] := fun v => by rw [← hA]; rfl
      have h0 : ρ (.tmp 34) = .pointer (some ⟨g1, 0, none⟩) := by rw [← hA]; exact puts_get 3 ds L _ hap (by rw [hds]; rfl) (hd 3 (by decide +kernel) (by intro al hal; simp only [List.mem_cons, List.not_mem_nil, or_false] at hal; rcases hal with rfl <;> decide)) (show 34 < 60 by decide)
      clear hA hd hB ho hs ha
      unfold execOp
      go_simp
    · -- 5
      obtain rfl := Option.some.inj ho
      refine .call 59 #[.agg #[.float .f64 a1, .float .f64 a2, .float .f64 a3], .agg #[.float .f64 m0, .float .f64 m1, .float .f64 m2]] ?_ (E00.out W)
      generalize hA : (puts ds L _).eval = ρ
      have hc : ∀ v, ρ (.const v) = v := fun v => by rw [← hA]; rfl
      have hg : ∀ g, ρ (.func g) = .func (.func g) #[] #[] := fun v => by rw [← hA]; rfl
      have h0 : ρ (.tmp 33) = .agg #[.float .f64 a1, .float .f64 a2, .float .f64 a3] := by rw [← hA]; exact puts_get 2 ds L _ hap (by rw [hds]; rfl) (hd 2 (by decide +kernel) (by intro al hal; simp only [List.mem_cons, List.not_mem_nil, or_false] at hal; rcases hal with rfl <;> decide)) (show 33 < 60 by decide)
      have h1 : ρ (.tmp 35) = .agg #[.float .f64 m0, .float .f64 m1, .float .f64 m2] := by rw [← hA]; exact puts_get 4 ds L _ hap (by rw [hds]; rfl) (hd 4 (by decide +kernel) (by intro al hal; simp only [List.mem_cons, List.not_mem_nil, or_false] at hal; rcases hal with rfl <;> decide)) (show 35 < 60 by decide)
      have hf := Try.func59
      unfold execOp
      go_simp
    · -- 6
      obtain rfl := Option.some.inj ho
      refine .value W ?_ (Below.refl _ _)
      generalize hA : (puts ds L _).eval = ρ
      have hc : ∀ v, ρ (.const v) = v := fun v => by rw [← hA]; rfl
      have hg : ∀ g, ρ (.func g) = .func (.func g) #[] #[] := fun v => by rw [← hA]; rfl
      have h0 : ρ (.tmp 9) = .int .i64 0 := by rw [← hA]; exact (puts_old ds L _ (by rw [hds]; decide)).trans rfl
      clear hA hd hB ho hs ha
      unfold execOp
      go_simp
    · -- 7
      obtain rfl := Option.some.inj ho
      refine .value W ?_ (Below.refl _ _)
      generalize hA : (puts ds L _).eval = ρ
      have hc : ∀ v, ρ (.const v) = v := fun v => by rw [← hA]; rfl
      have hg : ∀ g, ρ (.func g) = .func (.func g) #[] #[] := fun v => by rw [← hA]; rfl
      have h0 : ρ (.tmp 2) = .pointer (some ⟨w.heap.size, 0, none⟩) := by rw [← hA]; exact (puts_old ds L _ (by rw [hds]; decide)).trans rfl
      have h1 : ρ (.tmp 37) = .int .i64 0 := by rw [← hA]; exact puts_get 6 ds L _ hap (by rw [hds]; rfl) (hd 6 (by decide +kernel) (by intro al hal; simp only [List.mem_cons, List.not_mem_nil, or_false] at hal; rcases hal with rfl <;> decide)) (show 37 < 60 by decide)
      clear hA hd hB ho hs ha
      unfold execOp
      go_simp
    · -- 8
      obtain rfl := Option.some.inj ho
      have b := hB 0 _ _ rfl (by
        intro st hst e
        simp only [List.mem_cons, List.not_mem_nil, or_false] at hst; rcases hst with rfl
        · exact absurd e (show ¬ 5 = 0 by decide))
      have c0 := b.at_ 0 _ rfl
      have c1 := b.at_ 1 _ rfl
      have c2 := b.at_ 2 _ rfl
      clear b
      refine .value W ?_ (Below.refl _ _)
      generalize hA : (puts ds L _).eval = ρ
      have hc : ∀ v, ρ (.const v) = v := fun v => by rw [← hA]; rfl
      have hg : ∀ g, ρ (.func g) = .func (.func g) #[] #[] := fun v => by rw [← hA]; rfl
      have h0 : ρ (.tmp 38) = .pointer (some ⟨w.heap.size, 0, none⟩) := by rw [← hA]; exact puts_get 7 ds L _ hap (by rw [hds]; rfl) (hd 7 (by decide +kernel) (by intro al hal; simp only [List.mem_cons, List.not_mem_nil, or_false] at hal; rcases hal with rfl <;> decide)) (show 38 < 60 by decide)
      clear hA hd hB ho hs ha
      unfold execOp
      go_simp
    · -- 9
      obtain rfl := Option.some.inj ho
      refine .value W ?_ (Below.refl _ _)
      generalize hA : (puts ds L _).eval = ρ
      have hc : ∀ v, ρ (.const v) = v := fun v => by rw [← hA]; rfl
      have hg : ∀ g, ρ (.func g) = .func (.func g) #[] #[] := fun v => by rw [← hA]; rfl
      have h0 : ρ (.tmp 6) = .pointer (some ⟨g1, 0, none⟩) := by rw [← hA]; exact (puts_old ds L _ (by rw [hds]; decide)).trans rfl
      clear hA hd hB ho hs ha
      unfold execOp
      go_simp
    · -- 10
      obtain rfl := Option.some.inj ho
      have b := hB 3 _ _ rfl (by
        intro st hst e
        simp only [List.mem_cons, List.not_mem_nil, or_false] at hst; rcases hst with rfl
        · exact absurd e (show ¬ 5 = 3 by decide))
      have c3 := b.at_ 3 _ rfl
      have c4 := b.at_ 4 _ rfl
      have c5 := b.at_ 5 _ rfl
      clear b
      refine .value W ?_ (Below.refl _ _)
      generalize hA : (puts ds L _).eval = ρ
      have hc : ∀ v, ρ (.const v) = v := fun v => by rw [← hA]; rfl
      have hg : ∀ g, ρ (.func g) = .func (.func g) #[] #[] := fun v => by rw [← hA]; rfl
      have h0 : ρ (.tmp 40) = .pointer (some ⟨g1, 3, none⟩) := by rw [← hA]; exact puts_get 9 ds L _ hap (by rw [hds]; rfl) (hd 9 (by decide +kernel) (by intro al hal; simp only [List.mem_cons, List.not_mem_nil, or_false] at hal; rcases hal with rfl <;> decide)) (show 40 < 60 by decide)
      clear hA hd hB ho hs ha
      unfold execOp
      go_simp
    · -- 11
      obtain rfl := Option.some.inj ho
      refine .call 59 #[.agg #[.float .f64 a1, .float .f64 a2, .float .f64 a3], .agg #[.float .f64 m3, .float .f64 m4, .float .f64 m5]] ?_ (E01.out W)
      generalize hA : (puts ds L _).eval = ρ
      have hc : ∀ v, ρ (.const v) = v := fun v => by rw [← hA]; rfl
      have hg : ∀ g, ρ (.func g) = .func (.func g) #[] #[] := fun v => by rw [← hA]; rfl
      have h0 : ρ (.tmp 39) = .agg #[.float .f64 a1, .float .f64 a2, .float .f64 a3] := by rw [← hA]; exact puts_get 8 ds L _ hap (by rw [hds]; rfl) (hd 8 (by decide +kernel) (by intro al hal; simp only [List.mem_cons, List.not_mem_nil, or_false] at hal; rcases hal with rfl <;> decide)) (show 39 < 60 by decide)
      have h1 : ρ (.tmp 41) = .agg #[.float .f64 m3, .float .f64 m4, .float .f64 m5] := by rw [← hA]; exact puts_get 10 ds L _ hap (by rw [hds]; rfl) (hd 10 (by decide +kernel) (by intro al hal; simp only [List.mem_cons, List.not_mem_nil, or_false] at hal; rcases hal with rfl <;> decide)) (show 41 < 60 by decide)
      have hf := Try.func59
      unfold execOp
      go_simp
    · -- 12
      obtain rfl := Option.some.inj ho
      refine .value W ?_ (Below.refl _ _)
      generalize hA : (puts ds L _).eval = ρ
      have hc : ∀ v, ρ (.const v) = v := fun v => by rw [← hA]; rfl
      have hg : ∀ g, ρ (.func g) = .func (.func g) #[] #[] := fun v => by rw [← hA]; rfl
      have h0 : ρ (.tmp 9) = .int .i64 0 := by rw [← hA]; exact (puts_old ds L _ (by rw [hds]; decide)).trans rfl
      clear hA hd hB ho hs ha
      unfold execOp
      go_simp
    · -- 13
      obtain rfl := Option.some.inj ho
      refine .value W ?_ (Below.refl _ _)
      generalize hA : (puts ds L _).eval = ρ
      have hc : ∀ v, ρ (.const v) = v := fun v => by rw [← hA]; rfl
      have hg : ∀ g, ρ (.func g) = .func (.func g) #[] #[] := fun v => by rw [← hA]; rfl
      have h0 : ρ (.tmp 2) = .pointer (some ⟨w.heap.size, 0, none⟩) := by rw [← hA]; exact (puts_old ds L _ (by rw [hds]; decide)).trans rfl
      have h1 : ρ (.tmp 43) = .int .i64 0 := by rw [← hA]; exact puts_get 12 ds L _ hap (by rw [hds]; rfl) (hd 12 (by decide +kernel) (by intro al hal; simp only [List.mem_cons, List.not_mem_nil, or_false] at hal; rcases hal with rfl <;> decide)) (show 43 < 60 by decide)
      clear hA hd hB ho hs ha
      unfold execOp
      go_simp
    · -- 14
      obtain rfl := Option.some.inj ho
      have b := hB 0 _ _ rfl (by
        intro st hst e
        simp only [List.mem_cons, List.not_mem_nil, or_false] at hst; rcases hst with rfl
        · exact absurd e (show ¬ 5 = 0 by decide))
      have c0 := b.at_ 0 _ rfl
      have c1 := b.at_ 1 _ rfl
      have c2 := b.at_ 2 _ rfl
      clear b
      refine .value W ?_ (Below.refl _ _)
      generalize hA : (puts ds L _).eval = ρ
      have hc : ∀ v, ρ (.const v) = v := fun v => by rw [← hA]; rfl
      have hg : ∀ g, ρ (.func g) = .func (.func g) #[] #[] := fun v => by rw [← hA]; rfl
      have h0 : ρ (.tmp 44) = .pointer (some ⟨w.heap.size, 0, none⟩) := by rw [← hA]; exact puts_get 13 ds L _ hap (by rw [hds]; rfl) (hd 13 (by decide +kernel) (by intro al hal; simp only [List.mem_cons, List.not_mem_nil, or_false] at hal; rcases hal with rfl <;> decide)) (show 44 < 60 by decide)
      clear hA hd hB ho hs ha
      unfold execOp
      go_simp
    · -- 15
      obtain rfl := Option.some.inj ho
      refine .value W ?_ (Below.refl _ _)
      generalize hA : (puts ds L _).eval = ρ
      have hc : ∀ v, ρ (.const v) = v := fun v => by rw [← hA]; rfl
      have hg : ∀ g, ρ (.func g) = .func (.func g) #[] #[] := fun v => by rw [← hA]; rfl
      have h0 : ρ (.tmp 6) = .pointer (some ⟨g1, 0, none⟩) := by rw [← hA]; exact (puts_old ds L _ (by rw [hds]; decide)).trans rfl
      clear hA hd hB ho hs ha
      unfold execOp
      go_simp
    · -- 16
      obtain rfl := Option.some.inj ho
      have b := hB 3 _ _ rfl (by
        intro st hst e
        simp only [List.mem_cons, List.not_mem_nil, or_false] at hst; rcases hst with rfl
        · exact absurd e (show ¬ 5 = 3 by decide))
      have c6 := b.at_ 6 _ rfl
      have c7 := b.at_ 7 _ rfl
      have c8 := b.at_ 8 _ rfl
      clear b
      refine .value W ?_ (Below.refl _ _)
      generalize hA : (puts ds L _).eval = ρ
      have hc : ∀ v, ρ (.const v) = v := fun v => by rw [← hA]; rfl
      have hg : ∀ g, ρ (.func g) = .func (.func g) #[] #[] := fun v => by rw [← hA]; rfl
      have h0 : ρ (.tmp 46) = .pointer (some ⟨g1, 6, none⟩) := by rw [← hA]; exact puts_get 15 ds L _ hap (by rw [hds]; rfl) (hd 15 (by decide +kernel) (by intro al hal; simp only [List.mem_cons, List.not_mem_nil, or_false] at hal; rcases hal with rfl <;> decide)) (show 46 < 60 by decide)
      clear hA hd hB ho hs ha
      unfold execOp
      go_simp
    · -- 17
      obtain rfl := Option.some.inj ho
      refine .call 59 #[.agg #[.float .f64 a1, .float .f64 a2, .float .f64 a3], .agg #[.float .f64 m6, .float .f64 m7, .float .f64 m8]] ?_ (E02.out W)
      generalize hA : (puts ds L _).eval = ρ
      have hc : ∀ v, ρ (.const v) = v := fun v => by rw [← hA]; rfl
      have hg : ∀ g, ρ (.func g) = .func (.func g) #[] #[] := fun v => by rw [← hA]; rfl
      have h0 : ρ (.tmp 45) = .agg #[.float .f64 a1, .float .f64 a2, .float .f64 a3] := by rw [← hA]; exact puts_get 14 ds L _ hap (by rw [hds]; rfl) (hd 14 (by decide +kernel) (by intro al hal; simp only [List.mem_cons, List.not_mem_nil, or_false] at hal; rcases hal with rfl <;> decide)) (show 45 < 60 by decide)
      have h1 : ρ (.tmp 47) = .agg #[.float .f64 m6, .float .f64 m7, .float .f64 m8] := by rw [← hA]; exact puts_get 16 ds L _ hap (by rw [hds]; rfl) (hd 16 (by decide +kernel) (by intro al hal; simp only [List.mem_cons, List.not_mem_nil, or_false] at hal; rcases hal with rfl <;> decide)) (show 47 < 60 by decide)
      have hf := Try.func59
      unfold execOp
      go_simp
    · -- 18
      obtain rfl := Option.some.inj ho
      refine .call 56 #[.float .f64 d00, .float .f64 d01, .float .f64 d02] ?_ (D0.out W)
      generalize hA : (puts ds L _).eval = ρ
      have hc : ∀ v, ρ (.const v) = v := fun v => by rw [← hA]; rfl
      have hg : ∀ g, ρ (.func g) = .func (.func g) #[] #[] := fun v => by rw [← hA]; rfl
      have h0 : ρ (.tmp 36) = .float .f64 d00 := by rw [← hA]; exact puts_get 5 ds L _ hap (by rw [hds]; rfl) (hd 5 (by decide +kernel) (by intro al hal; simp only [List.mem_cons, List.not_mem_nil, or_false] at hal; rcases hal with rfl <;> decide)) (show 36 < 60 by decide)
      have h1 : ρ (.tmp 42) = .float .f64 d01 := by rw [← hA]; exact puts_get 11 ds L _ hap (by rw [hds]; rfl) (hd 11 (by decide +kernel) (by intro al hal; simp only [List.mem_cons, List.not_mem_nil, or_false] at hal; rcases hal with rfl <;> decide)) (show 42 < 60 by decide)
      have h2 : ρ (.tmp 48) = .float .f64 d02 := by rw [← hA]; exact puts_get 17 ds L _ hap (by rw [hds]; rfl) (hd 17 (by decide +kernel) (by intro al hal; simp only [List.mem_cons, List.not_mem_nil, or_false] at hal; rcases hal with rfl <;> decide)) (show 48 < 60 by decide)
      have hf := Try.func56
      unfold execOp
      go_simp
    · -- 19
      obtain rfl := Option.some.inj ho
      refine .value W ?_ (Below.refl _ _)
      generalize hA : (puts ds L _).eval = ρ
      have hc : ∀ v, ρ (.const v) = v := fun v => by rw [← hA]; rfl
      have hg : ∀ g, ρ (.func g) = .func (.func g) #[] #[] := fun v => by rw [← hA]; rfl
      have h0 : ρ (.tmp 49) = .tuple #[.agg #[.float .f64 p1, .float .f64 p2, .float .f64 p3], .int .i64 k0] := by rw [← hA]; exact puts_get 18 ds L _ hap (by rw [hds]; rfl) (hd 18 (by decide +kernel) (by intro al hal; simp only [List.mem_cons, List.not_mem_nil, or_false] at hal; rcases hal with rfl <;> decide)) (show 49 < 60 by decide)
      clear hA hd hB ho hs ha
      unfold execOp
      go_simp
    · -- 20
      obtain rfl := Option.some.inj ho
      refine .value W ?_ (Below.refl _ _)
      generalize hA : (puts ds L _).eval = ρ
      have hc : ∀ v, ρ (.const v) = v := fun v => by rw [← hA]; rfl
      have hg : ∀ g, ρ (.func g) = .func (.func g) #[] #[] := fun v => by rw [← hA]; rfl
      have h0 : ρ (.tmp 30) = .tuple #[.agg #[.float .f64 p1, .float .f64 p2, .float .f64 p3], .int .i64 k0] := by rw [← hA]; exact puts_get 19 ds L _ hap (by rw [hds]; rfl) (hd 19 (by decide +kernel) (by intro al hal; simp only [List.mem_cons, List.not_mem_nil, or_false] at hal; rcases hal with rfl <;> decide)) (show 30 < 60 by decide)
      clear hA hd hB ho hs ha
      unfold execOp
      go_simp
    · -- 21
      obtain rfl := Option.some.inj ho
      refine .value W ?_ (Below.refl _ _)
      generalize hA : (puts ds L _).eval = ρ
      have hc : ∀ v, ρ (.const v) = v := fun v => by rw [← hA]; rfl
      have hg : ∀ g, ρ (.func g) = .func (.func g) #[] #[] := fun v => by rw [← hA]; rfl
      have h0 : ρ (.tmp 30) = .tuple #[.agg #[.float .f64 p1, .float .f64 p2, .float .f64 p3], .int .i64 k0] := by rw [← hA]; exact puts_get 19 ds L _ hap (by rw [hds]; rfl) (hd 19 (by decide +kernel) (by intro al hal; simp only [List.mem_cons, List.not_mem_nil, or_false] at hal; rcases hal with rfl <;> decide)) (show 30 < 60 by decide)
      clear hA hd hB ho hs ha
      unfold execOp
      go_simp
    · -- 22
      exact absurd rfl (ha _ (List.mem_cons_self ..))
    · -- 23
      exact absurd rfl (hs _ (List.mem_cons_self ..))
    · -- 24
      obtain rfl := Option.some.inj ho
      refine .value W ?_ (Below.refl _ _)
      generalize hA : (puts ds L _).eval = ρ
      have hc : ∀ v, ρ (.const v) = v := fun v => by rw [← hA]; rfl
      have hg : ∀ g, ρ (.func g) = .func (.func g) #[] #[] := fun v => by rw [← hA]; rfl
      have h0 : ρ (.tmp 51) = .int .i64 k0 := by rw [← hA]; exact puts_get 21 ds L _ hap (by rw [hds]; rfl) (hd 21 (by decide +kernel) (by intro al hal; simp only [List.mem_cons, List.not_mem_nil, or_false] at hal; rcases hal with rfl <;> decide)) (show 51 < 60 by decide)
      clear hA hd hB ho hs ha
      unfold execOp
      go_simp
  case store =>
    intro st hst L W o h us ho hd hal hC b
    simp only [List.mem_cons, List.not_mem_nil, or_false] at hst; rcases hst with rfl
    · dsimp only at ho hd hal hC b ⊢
      obtain rfl := Option.some.inj ho
      obtain ⟨hl, rfl⟩ := hal _ (List.mem_cons_self ..) rfl
      have c0 := b.at_ 0 _ rfl
      have f0 := b.fr 0 _ rfl
      have c1 := b.at_ 1 _ rfl
      have f1 := b.fr 1 _ rfl
      have c2 := b.at_ 2 _ rfl
      have f2 := b.fr 2 _ rfl
      refine ⟨?_, rfl⟩
      generalize hA : (puts ds L _).eval = ρ
      have h0 : ρ (.tmp 10) = .pointer (some ⟨h, 0, none⟩) := by rw [← hA]; exact puts_get 22 ds L _ hap (by rw [hds]; rfl) hl (show 10 < 60 by decide)
      have h1 : ρ (.tmp 50) = .agg #[.float .f64 p1, .float .f64 p2, .float .f64 p3] := by rw [← hA]; exact puts_get 20 ds L _ hap (by rw [hds]; rfl) (hd 20 (by decide +kernel) (by intro al hal; simp only [List.mem_cons, List.not_mem_nil, or_false] at hal; rcases hal with rfl <;> decide)) (show 50 < 60 by decide)
      have hst' := @fstore
      clear hA hd b ho hal hC
      simp only [putW]
      unfold execOp
      go_simp
  case fin =>
    intro hf W0 K
    rw [hds]
    clear hds hap ds D0 E00 E01 E02
    (try dsimp only at K)
    generalize hf 22 = h0 at *
    (try unfold ptrV)
    simp only [List.set_cons_zero, List.set_cons_succ, puts, Act.put, List.setIfInBounds_toArray]
    by_cases hk0 : k0 = 0
    rotate_left
    · have tk : (k0 != 0) = true := by simpa using hk0
      obtain ⟨rfl, rfl, rfl, rfl, rfl, rfl, rfl, rfl, rfl, rfl⟩ := H0.out hk0
      clear H0 H1 H2 H3 hk0
      have c2_0 := (K.at_ 2 rfl).at_ 0 _ rfl
      have f2_0 := (K.at_ 2 rfl).fr 0 _ rfl
      have c2_1 := (K.at_ 2 rfl).at_ 1 _ rfl
      have f2_1 := (K.at_ 2 rfl).fr 1 _ rfl
      have c2_2 := (K.at_ 2 rfl).at_ 2 _ rfl
      have f2_2 := (K.at_ 2 rfl).fr 2 _ rfl
      have c2_3 := (K.at_ 2 rfl).at_ 3 _ rfl
      have f2_3 := (K.at_ 2 rfl).fr 3 _ rfl
      have c2_4 := (K.at_ 2 rfl).at_ 4 _ rfl
      have f2_4 := (K.at_ 2 rfl).fr 4 _ rfl
      have c2_5 := (K.at_ 2 rfl).at_ 5 _ rfl
      have f2_5 := (K.at_ 2 rfl).fr 5 _ rfl
      have c2_6 := (K.at_ 2 rfl).at_ 6 _ rfl
      have f2_6 := (K.at_ 2 rfl).fr 6 _ rfl
      have c2_7 := (K.at_ 2 rfl).at_ 7 _ rfl
      have f2_7 := (K.at_ 2 rfl).fr 7 _ rfl
      have c2_8 := (K.at_ 2 rfl).at_ 8 _ rfl
      have f2_8 := (K.at_ 2 rfl).fr 8 _ rfl
      replace K := Lib.hid K
      go_wp2_with fail
      replace K := K.out
      (try simp only [Exit.vnBlock, Exit.then])
      refine bodyPost_ret (v := .tuple #[.agg #[.float .f64 0, .float .f64 0, .float .f64 0, .float .f64 0, .float .f64 0, .float .f64 0, .float .f64 0, .float .f64 0, .float .f64 0], .int .i64 _]) ?_ rfl ⟨rfl, ?_⟩
      · rw [results_cell_tmp rfl]; go_simp
      · exact (((((((((K.old).setCell (by first | exact Nat.le_refl _ | (dsimp only; omega)) _).setCell (by first | exact Nat.le_refl _ | (dsimp only; omega)) _).setCell (by first | exact Nat.le_refl _ | (dsimp only; omega)) _).setCell (by first | exact Nat.le_refl _ | (dsimp only; omega)) _).setCell (by first | exact Nat.le_refl _ | (dsimp only; omega)) _).setCell (by first | exact Nat.le_refl _ | (dsimp only; omega)) _).setCell (by first | exact Nat.le_refl _ | (dsimp only; omega)) _).setCell (by first | exact Nat.le_refl _ | (dsimp only; omega)) _).setCell (by first | exact Nat.le_refl _ | (dsimp only; omega)) _
    subst hk0
    have c5_0 := (K.at_ 5 rfl).at_ 0 _ rfl
    have c5_1 := (K.at_ 5 rfl).at_ 1 _ rfl
    have c5_2 := (K.at_ 5 rfl).at_ 2 _ rfl
    have c4_0 := (K.at_ 4 rfl).at_ 0 _ rfl
    have f4_0 := (K.at_ 4 rfl).fr 0 _ rfl
    have c4_1 := (K.at_ 4 rfl).at_ 1 _ rfl
    have f4_1 := (K.at_ 4 rfl).fr 1 _ rfl
    have c4_2 := (K.at_ 4 rfl).at_ 2 _ rfl
    have f4_2 := (K.at_ 4 rfl).fr 2 _ rfl
    replace K := Lib.hid K
    go_wp2_with fail
    replace K := K.out
    clear c5_0 c5_1 c5_2 c4_0 f4_0 c4_1 f4_1 c4_2 f4_2
    (try simp only [Exit.vnBlock, Exit.then])
    replace K := K.put 4 rfl 0 [p1, p2, p3] (by simp)
    simp only [putW, setL, List.set_cons_zero, List.set_cons_succ] at K
    generalize World.setCell _ _ _ = U0 at *
    rw [rounds_succ]
    replace K := Lib.hid K
    go_upto_region 8 with fail
    replace K := K.out.more
    simp only [List.cons_append, List.nil_append] at K
    generalize hds : ([some 31, some 32, some 33, some 34, some 35, some 36, some 37, some 38, some 39, some 40, some 41, some 42, some 43, some 44, some 45, some 46, some 47, some 48, some 49, some 30, some 50, some 51, some 10, none, some 11] : List (Option Tmp)) = ds
    have hap : apartL ds = true := by rw [← hds]; decide
    replace hds := hds.symm
    refine wp_region_k (fun hf => [some (w.heap.size, [a1, a2, a3, b1, b2, b3, c1, c2, c3]), some (w.heap.size + 1, [j1, j2, j3, j4, j5, j6, j7, j8, j9]), some (w.heap.size + 1 + 1, [0, 0, 0, 0, 0, 0, 0, 0, 0]), some (g1, [m0, m1, m2, m3, m4, m5, m6, m7, m8]), some (g1 + 1, [p1, p2, p3, 0, 0, 0, 0, 0, 0]), some (h0, [p1, p2, p3]), some (hf 22, [q1, q2, q3])]) (fun hf => [some (.int .i64 1), some (.pointer (some ⟨w.heap.size, 3, none⟩)), some (.agg #[.float .f64 b1, .float .f64 b2, .float .f64 b3]), some (.pointer (some ⟨g1, 0, none⟩)), some (.agg #[.float .f64 m0, .float .f64 m1, .float .f64 m2]), some (.float .f64 d10), some (.int .i64 1), some (.pointer (some ⟨w.heap.size, 3, none⟩)), some (.agg #[.float .f64 b1, .float .f64 b2, .float .f64 b3]), some (.pointer (some ⟨g1, 3, none⟩)), some (.agg #[.float .f64 m3, .float .f64 m4, .float .f64 m5]), some (.float .f64 d11), some (.int .i64 1), some (.pointer (some ⟨w.heap.size, 3, none⟩)), some (.agg #[.float .f64 b1, .float .f64 b2, .float .f64 b3]), some (.pointer (some ⟨g1, 6, none⟩)), some (.agg #[.float .f64 m6, .float .f64 m7, .float .f64 m8]), some (.float .f64 d12), some (.tuple #[.agg #[.float .f64 q1, .float .f64 q2, .float .f64 q3], .int .i64 k1]), some (.tuple #[.agg #[.float .f64 q1, .float .f64 q2, .float .f64 q3], .int .i64 k1]), some (.agg #[.float .f64 q1, .float .f64 q2, .float .f64 q3]), some (.int .i64 k1), some (ptrV (hf 22)), some (undef), some (.int .i64 k1)]) [⟨22, 6, 24, [0, 0, 0]⟩] [⟨23, 6, 0, [q1, q2, q3]⟩] [.int .i64 1, .pointer (some ⟨w.heap.size, 3, none⟩), .agg #[.float .f64 b1, .float .f64 b2, .float .f64 b3], .pointer (some ⟨g1, 0, none⟩), .agg #[.float .f64 m0, .float .f64 m1, .float .f64 m2], .float .f64 d10, .int .i64 1, .pointer (some ⟨w.heap.size, 3, none⟩), .agg #[.float .f64 b1, .float .f64 b2, .float .f64 b3], .pointer (some ⟨g1, 3, none⟩), .agg #[.float .f64 m3, .float .f64 m4, .float .f64 m5], .float .f64 d11, .int .i64 1, .pointer (some ⟨w.heap.size, 3, none⟩), .agg #[.float .f64 b1, .float .f64 b2, .float .f64 b3], .pointer (some ⟨g1, 6, none⟩), .agg #[.float .f64 m6, .float .f64 m7, .float .f64 m8], .float .f64 d12, .tuple #[.agg #[.float .f64 q1, .float .f64 q2, .float .f64 q3], .int .i64 k1], .tuple #[.agg #[.float .f64 q1, .float .f64 q2, .float .f64 q3], .int .i64 k1], .agg #[.float .f64 q1, .float .f64 q2, .float .f64 q3], .int .i64 k1, undef, undef, .int .i64 k1] ds (by kernel_rfl) (by rw [hds]; rfl) hap (by decide +kernel) (by decide +kernel) K ?ha ?haj ?hai ?hsi ?hss ?hsa ?hsw ?htg ?hE2 ?hE3 ?hE4 ?hL1 ?hL2 ?hL3 ?alloc ?step ?store ?fin
    case ha => intro al hal; simp only [List.mem_cons, List.not_mem_nil, or_false] at hal; rcases hal with rfl <;> rfl
    case haj => intro al hal al' hal' e; simp only [List.mem_cons, List.not_mem_nil, or_false] at hal; rcases hal with rfl <;> (simp only [List.mem_cons, List.not_mem_nil, or_false] at hal'; rcases hal' with rfl) <;> first | rfl | (exfalso; revert e; simp)
    case hai => intro al hal; simp only [List.mem_cons, List.not_mem_nil, or_false] at hal; rcases hal with rfl <;> decide
    case hsi => intro st hst st' hst' e; simp only [List.mem_cons, List.not_mem_nil, or_false] at hst; rcases hst with rfl <;> (simp only [List.mem_cons, List.not_mem_nil, or_false] at hst'; rcases hst' with rfl) <;> first | rfl | (exfalso; revert e; simp)
    case hss =>
      intro st hst
      simp only [List.mem_cons, List.not_mem_nil, or_false] at hst; rcases hst with rfl
      · show 23 < 25; decide
    case hsa =>
      intro st hst al hal
      simp only [List.mem_cons, List.not_mem_nil, or_false] at hst; rcases hst with rfl
      · simp only [List.mem_cons, List.not_mem_nil, or_false] at hal; rcases hal with rfl
        · exact (show ¬ (23 = 22) by decide)
    case hsw =>
      intro st hst al hal e
      simp only [List.mem_cons, List.not_mem_nil, or_false] at hst; rcases hst with rfl
      · simp only [List.mem_cons, List.not_mem_nil, or_false] at hal; rcases hal with rfl
        · change waitsAt _ 23 22 = true; decide +kernel
    case htg =>
      intro st hst
      simp only [List.mem_cons, List.not_mem_nil, or_false] at hst; rcases hst with rfl
      · exact .inr ⟨_, List.mem_cons_self .., rfl, show 0 + 3 ≤ 3 by decide⟩
    case hE2 =>
      intro hf j h1 h2
      have n6 : 6 ≠ j := h1 _ (List.mem_cons_self ..)
      rcases j with _ | _ | _ | _ | _ | _ | _ | j
      · rfl
      · rfl
      · rfl
      · rfl
      · rfl
      · rfl
      · exact absurd rfl n6
      · rfl
    case hE3 =>
      intro hf st hst g us e
      simp only [List.mem_cons, List.not_mem_nil, or_false] at hst; rcases hst with rfl
      · simp at e
    case hE4 =>
      intro hf al hal
      simp only [List.mem_cons, List.not_mem_nil, or_false] at hal; rcases hal with rfl
      · refine ⟨fun st hst e => ?_, fun h => absurd rfl (h _ (List.mem_cons_self ..))⟩
        simp only [List.mem_cons, List.not_mem_nil, or_false] at hst; rcases hst with rfl
        · rfl
    case hL1 => intro hf; rfl
    case hL2 =>
      intro hf i hi hna
      have hi : i < 25 := hi
      have : i = 0 ∨ i = 1 ∨ i = 2 ∨ i = 3 ∨ i = 4 ∨ i = 5 ∨ i = 6 ∨ i = 7 ∨ i = 8 ∨ i = 9 ∨ i = 10 ∨ i = 11 ∨ i = 12 ∨ i = 13 ∨ i = 14 ∨ i = 15 ∨ i = 16 ∨ i = 17 ∨ i = 18 ∨ i = 19 ∨ i = 20 ∨ i = 21 ∨ i = 22 ∨ i = 23 ∨ i = 24 := by omega
      rcases this with rfl | rfl | rfl | rfl | rfl | rfl | rfl | rfl | rfl | rfl | rfl | rfl | rfl | rfl | rfl | rfl | rfl | rfl | rfl | rfl | rfl | rfl | rfl | rfl | rfl
      · rfl
      · rfl
      · rfl
      · rfl
      · rfl
      · rfl
      · rfl
      · rfl
      · rfl
      · rfl
      · rfl
      · rfl
      · rfl
      · rfl
      · rfl
      · rfl
      · rfl
      · rfl
      · rfl
      · rfl
      · rfl
      · rfl
      · exact absurd rfl (hna _ (List.mem_cons_self ..))
      · rfl
      · rfl
    case hL3 => intro hf al hal; simp only [List.mem_cons, List.not_mem_nil, or_false] at hal; rcases hal with rfl <;> rfl
    case alloc =>
      intro al hal o ρ W ho
      simp only [List.mem_cons, List.not_mem_nil, or_false] at hal; rcases hal with rfl
      · obtain rfl := Option.some.inj ho; unfold execOp ptrV objW; simp only [List.map_cons, List.map_nil]; go_simp
    case step =>
      intro L W i o ho hs ha hd hB
      have hi : i < 25 := (Array.getElem?_eq_some_iff.1 ho).1
      have : i = 0 ∨ i = 1 ∨ i = 2 ∨ i = 3 ∨ i = 4 ∨ i = 5 ∨ i = 6 ∨ i = 7 ∨ i = 8 ∨ i = 9 ∨ i = 10 ∨ i = 11 ∨ i = 12 ∨ i = 13 ∨ i = 14 ∨ i = 15 ∨ i = 16 ∨ i = 17 ∨ i = 18 ∨ i = 19 ∨ i = 20 ∨ i = 21 ∨ i = 22 ∨ i = 23 ∨ i = 24 := by omega
      rcases this with rfl | rfl | rfl | rfl | rfl | rfl | rfl | rfl | rfl | rfl | rfl | rfl | rfl | rfl | rfl | rfl | rfl | rfl | rfl | rfl | rfl | rfl | rfl | rfl | rfl
      · -- 0
        obtain rfl := Option.some.inj ho
        refine .value W ?_ (Below.refl _ _)
        generalize hA : (puts ds L _).eval = ρ
        have hc : ∀ v, ρ (.const v) = v := fun v => by rw [← hA]; rfl
        have hg : ∀ g, ρ (.func g) = .func (.func g) #[] #[] := fun v => by rw [← hA]; rfl
        have h0 : ρ (.tmp 9) = .int .i64 1 := by rw [← hA]; exact (puts_old ds L _ (by rw [hds]; decide)).trans rfl
        clear hA hd hB ho hs ha
        unfold execOp
        go_simp
      · -- 1
        obtain rfl := Option.some.inj ho
        refine .value W ?_ (Below.refl _ _)
        generalize hA : (puts ds L _).eval = ρ
        have hc : ∀ v, ρ (.const v) = v := fun v => by rw [← hA]; rfl
        have hg : ∀ g, ρ (.func g) = .func (.func g) #[] #[] := fun v => by rw [← hA]; rfl
        have h0 : ρ (.tmp 2) = .pointer (some ⟨w.heap.size, 0, none⟩) := by rw [← hA]; exact (puts_old ds L _ (by rw [hds]; decide)).trans rfl
        have h1 : ρ (.tmp 31) = .int .i64 1 := by rw [← hA]; exact puts_get 0 ds L _ hap (by rw [hds]; rfl) (hd 0 (by decide +kernel) (by intro al hal; simp only [List.mem_cons, List.not_mem_nil, or_false] at hal; rcases hal with rfl <;> decide)) (show 31 < 60 by decide)
        clear hA hd hB ho hs ha
        unfold execOp
        go_simp
      · -- 2
        obtain rfl := Option.some.inj ho
        have b := hB 0 _ _ rfl (by
          intro st hst e
          simp only [List.mem_cons, List.not_mem_nil, or_false] at hst; rcases hst with rfl
          · exact absurd e (show ¬ 6 = 0 by decide))
        have c3 := b.at_ 3 _ rfl
        have c4 := b.at_ 4 _ rfl
        have c5 := b.at_ 5 _ rfl
        clear b
        refine .value W ?_ (Below.refl _ _)
        generalize hA : (puts ds L _).eval = ρ
        have hc : ∀ v, ρ (.const v) = v := fun v => by rw [← hA]; rfl
        have hg : ∀ g, ρ (.func g) = .func (.func g) #[] #[] := fun v => by rw [← hA]; rfl
        have h0 : ρ (.tmp 32) = .pointer (some ⟨w.heap.size, 3, none⟩) := by rw [← hA]; exact puts_get 1 ds L _ hap (by rw [hds]; rfl) (hd 1 (by decide +kernel) (by intro al hal; simp only [List.mem_cons, List.not_mem_nil, or_false] at hal; rcases hal with rfl <;> decide)) (show 32 < 60 by decide)
        clear hA hd hB ho hs ha
        unfold execOp
        go_simp
      · -- 3
        obtain rfl := Option.some.inj ho
        refine .value W ?_ (Below.refl _ _)
        generalize hA : (puts ds L _).eval = ρ
        have hc : ∀ v, ρ (.const v) = v := fun v => by rw [← hA]; rfl
        have hg : ∀ g, ρ (.func g) = .func (.func g) #[] #[] := fun v => by rw [← hA]; rfl
        have h0 : ρ (.tmp 6) = .pointer (some ⟨g1, 0, none⟩) := by rw [← hA]; exact (puts_old ds L _ (by rw [hds]; decide)).trans rfl
        clear hA hd hB ho hs ha
        unfold execOp
        go_simp
      · -- 4
        obtain rfl := Option.some.inj ho
        have b := hB 3 _ _ rfl (by
          intro st hst e
          simp only [List.mem_cons, List.not_mem_nil, or_false] at hst; rcases hst with rfl
          · exact absurd e (show ¬ 6 = 3 by decide))
        have c0 := b.at_ 0 _ rfl
        have c1 := b.at_ 1 _ rfl
        have c2 := b.at_ 2 _ rfl
        clear b
        refine .value W ?_ (Below.refl _ _)
        generalize hA : (puts ds L _).eval = ρ
        have hc : ∀ v, ρ (.const v) = v := fun v => by rw [← hA]; rfl
        have hg : ∀ g, ρ (.func g) = .func (.func g) #[] #[] := fun v => by rw [← hA]; rfl
        have h0 : ρ (.tmp 34) = .pointer (some ⟨g1, 0, none⟩) := by rw [← hA]; exact puts_get 3 ds L _ hap (by rw [hds]; rfl) (hd 3 (by decide +kernel) (by intro al hal; simp only [List.mem_cons, List.not_mem_nil, or_false] at hal; rcases hal with rfl <;> decide)) (show 34 < 60 by decide)
        clear hA hd hB ho hs ha
        unfold execOp
        go_simp
      · -- 5
        obtain rfl := Option.some.inj ho
        refine .call 59 #[.agg #[.float .f64 b1, .float .f64 b2, .float .f64 b3], .agg #[.float .f64 m0, .float .f64 m1, .float .f64 m2]] ?_ (E10.out W)
        generalize hA : (puts ds L _).eval = ρ
        have hc : ∀ v, ρ (.const v) = v := fun v => by rw [← hA]; rfl
        have hg : ∀ g, ρ (.func g) = .func (.func g) #[] #[] := fun v => by rw [← hA]; rfl
        have h0 : ρ (.tmp 33) = .agg #[.float .f64 b1, .float .f64 b2, .float .f64 b3] := by rw [← hA]; exact puts_get 2 ds L _ hap (by rw [hds]; rfl) (hd 2 (by decide +kernel) (by intro al hal; simp only [List.mem_cons, List.not_mem_nil, or_false] at hal; rcases hal with rfl <;> decide)) (show 33 < 60 by decide)
        have h1 : ρ (.tmp 35) = .agg #[.float .f64 m0, .float .f64 m1, .float .f64 m2] := by rw [← hA]; exact puts_get 4 ds L _ hap (by rw [hds]; rfl) (hd 4 (by decide +kernel) (by intro al hal; simp only [List.mem_cons, List.not_mem_nil, or_false] at hal; rcases hal with rfl <;> decide)) (show 35 < 60 by decide)
        have hf := Try.func59
        unfold execOp
        go_simp
      · -- 6
        obtain rfl := Option.some.inj ho
        refine .value W ?_ (Below.refl _ _)
        generalize hA : (puts ds L _).eval = ρ
        have hc : ∀ v, ρ (.const v) = v := fun v => by rw [← hA]; rfl
        have hg : ∀ g, ρ (.func g) = .func (.func g) #[] #[] := fun v => by rw [← hA]; rfl
        have h0 : ρ (.tmp 9) = .int .i64 1 := by rw [← hA]; exact (puts_old ds L _ (by rw [hds]; decide)).trans rfl
        clear hA hd hB ho hs ha
        unfold execOp
        go_simp
      · -- 7
        obtain rfl := Option.some.inj ho
        refine .value W ?_ (Below.refl _ _)
        generalize hA : (puts ds L _).eval = ρ
        have hc : ∀ v, ρ (.const v) = v := fun v => by rw [← hA]; rfl
        have hg : ∀ g, ρ (.func g) = .func (.func g) #[] #[] := fun v => by rw [← hA]; rfl
        have h0 : ρ (.tmp 2) = .pointer (some ⟨w.heap.size, 0, none⟩) := by rw [← hA]; exact (puts_old ds L _ (by rw [hds]; decide)).trans rfl
        have h1 : ρ (.tmp 37) = .int .i64 1 := by rw [← hA]; exact puts_get 6 ds L _ hap (by rw [hds]; rfl) (hd 6 (by decide +kernel) (by intro al hal; simp only [List.mem_cons, List.not_mem_nil, or_false] at hal; rcases hal with rfl <;> decide)) (show 37 < 60 by decide)
        clear hA hd hB ho hs ha
        unfold execOp
        go_simp
      · -- 8
        obtain rfl := Option.some.inj ho
        have b := hB 0 _ _ rfl (by
          intro st hst e
          simp only [List.mem_cons, List.not_mem_nil, or_false] at hst; rcases hst with rfl
          · exact absurd e (show ¬ 6 = 0 by decide))
        have c3 := b.at_ 3 _ rfl
        have c4 := b.at_ 4 _ rfl
        have c5 := b.at_ 5 _ rfl
        clear b
        refine .value W ?_ (Below.refl _ _)
        generalize hA : (puts ds L _).eval = ρ
        have hc : ∀ v, ρ (.const v) = v := fun v => by rw [← hA]; rfl
        have hg : ∀ g, ρ (.func g) = .func (.func g) #[] #[] := fun v => by rw [← hA]; rfl
        have h0 : ρ (.tmp 38) = .pointer (some ⟨w.heap.size, 3, none⟩) := by rw [← hA]; exact puts_get 7 ds L _ hap (by rw [hds]; rfl) (hd 7 (by decide +kernel) (by intro al hal; simp only [List.mem_cons, List.not_mem_nil, or_false] at hal; rcases hal with rfl <;> decide)) (show 38 < 60 by decide)
        clear hA hd hB ho hs ha
        unfold execOp
        go_simp
      · -- 9
        obtain rfl := Option.some.inj ho
        refine .value W ?_ (Below.refl _ _)
        generalize hA : (puts ds L _).eval = ρ
        have hc : ∀ v, ρ (.const v) = v := fun v => by rw [← hA]; rfl
        have hg : ∀ g, ρ (.func g) = .func (.func g) #[] #[] := fun v => by rw [← hA]; rfl
        have h0 : ρ (.tmp 6) = .pointer (some ⟨g1, 0, none⟩) := by rw [← hA]; exact (puts_old ds L _ (by rw [hds]; decide)).trans rfl
        clear hA hd hB ho hs ha
        unfold execOp
        go_simp
      · -- 10
        obtain rfl := Option.some.inj ho
        have b := hB 3 _ _ rfl (by
          intro st hst e
          simp only [List.mem_cons, List.not_mem_nil, or_false] at hst; rcases hst with rfl
          · exact absurd e (show ¬ 6 = 3 by decide))
        have c3 := b.at_ 3 _ rfl
        have c4 := b.at_ 4 _ rfl
        have c5 := b.at_ 5 _ rfl
        clear b
        refine .value W ?_ (Below.refl _ _)
        generalize hA : (puts ds L _).eval = ρ
        have hc : ∀ v, ρ (.const v) = v := fun v => by rw [← hA]; rfl
        have hg : ∀ g, ρ (.func g) = .func (.func g) #[] #[] := fun v => by rw [← hA]; rfl
        have h0 : ρ (.tmp 40) = .pointer (some ⟨g1, 3, none⟩) := by rw [← hA]; exact puts_get 9 ds L _ hap (by rw [hds]; rfl) (hd 9 (by decide +kernel) (by intro al hal; simp only [List.mem_cons, List.not_mem_nil, or_false] at hal; rcases hal with rfl <;> decide)) (show 40 < 60 by decide)
        clear hA hd hB ho hs ha
        unfold execOp
        go_simp
      · -- 11
        obtain rfl := Option.some.inj ho
        refine .call 59 #[.agg #[.float .f64 b1, .float .f64 b2, .float .f64 b3], .agg #[.float .f64 m3, .float .f64 m4, .float .f64 m5]] ?_ (E11.out W)
        generalize hA : (puts ds L _).eval = ρ
        have hc : ∀ v, ρ (.const v) = v := fun v => by rw [← hA]; rfl
        have hg : ∀ g, ρ (.func g) = .func (.func g) #[] #[] := fun v => by rw [← hA]; rfl
        have h0 : ρ (.tmp 39) = .agg #[.float .f64 b1, .float .f64 b2, .float .f64 b3] := by rw [← hA]; exact puts_get 8 ds L _ hap (by rw [hds]; rfl) (hd 8 (by decide +kernel) (by intro al hal; simp only [List.mem_cons, List.not_mem_nil, or_false] at hal; rcases hal with rfl <;> decide)) (show 39 < 60 by decide)
        have h1 : ρ (.tmp 41) = .agg #[.float .f64 m3, .float .f64 m4, .float .f64 m5] := by rw [← hA]; exact puts_get 10 ds L _ hap (by rw [hds]; rfl) (hd 10 (by decide +kernel) (by intro al hal; simp only [List.mem_cons, List.not_mem_nil, or_false] at hal; rcases hal with rfl <;> decide)) (show 41 < 60 by decide)
        have hf := Try.func59
        unfold execOp
        go_simp
      · -- 12
        obtain rfl := Option.some.inj ho
        refine .value W ?_ (Below.refl _ _)
        generalize hA : (puts ds L _).eval = ρ
        have hc : ∀ v, ρ (.const v) = v := fun v => by rw [← hA]; rfl
        have hg : ∀ g, ρ (.func g) = .func (.func g) #[] #[] := fun v => by rw [← hA]; rfl
        have h0 : ρ (.tmp 9) = .int .i64 1 := by rw [← hA]; exact (puts_old ds L _ (by rw [hds]; decide)).trans rfl
        clear hA hd hB ho hs ha
        unfold execOp
        go_simp
      · -- 13
        obtain rfl := Option.some.inj ho
        refine .value W ?_ (Below.refl _ _)
        generalize hA : (puts ds L _).eval = ρ
        have hc : ∀ v, ρ (.const v) = v := fun v => by rw [← hA]; rfl
        have hg : ∀ g, ρ (.func g) = .func (.func g) #[] #[] := fun v => by rw [← hA]; rfl
        have h0 : ρ (.tmp 2) = .pointer (some ⟨w.heap.size, 0, none⟩) := by rw [← hA]; exact (puts_old ds L _ (by rw [hds]; decide)).trans rfl
        have h1 : ρ (.tmp 43) = .int .i64 1 := by rw [← hA]; exact puts_get 12 ds L _ hap (by rw [hds]; rfl) (hd 12 (by decide +kernel) (by intro al hal; simp only [List.mem_cons, List.not_mem_nil, or_false] at hal; rcases hal with rfl <;> decide)) (show 43 < 60 by decide)
        clear hA hd hB ho hs ha
        unfold execOp
        go_simp
      · -- 14
        obtain rfl := Option.some.inj ho
        have b := hB 0 _ _ rfl (by
          intro st hst e
          simp only [List.mem_cons, List.not_mem_nil, or_false] at hst; rcases hst with rfl
          · exact absurd e (show ¬ 6 = 0 by decide))
        have c3 := b.at_ 3 _ rfl
        have c4 := b.at_ 4 _ rfl
        have c5 := b.at_ 5 _ rfl
        clear b
        refine .value W ?_ (Below.refl _ _)
        generalize hA : (puts ds L _).eval = ρ
        have hc : ∀ v, ρ (.const v) = v := fun v => by rw [← hA]; rfl
        have hg : ∀ g, ρ (.func g) = .func (.func g) #[] #[] := fun v => by rw [← hA]; rfl
        have h0 : ρ (.tmp 44) = .pointer (some ⟨w.heap.size, 3, none⟩) := by rw [← hA]; exact puts_get 13 ds L _ hap (by rw [hds]; rfl) (hd 13 (by decide +kernel) (by intro al hal; simp only [List.mem_cons, List.not_mem_nil, or_false] at hal; rcases hal with rfl <;> decide)) (show 44 < 60 by decide)
        clear hA hd hB ho hs ha
        unfold execOp
        go_simp
      · -- 15
        obtain rfl := Option.some.inj ho
        refine .value W ?_ (Below.refl _ _)
        generalize hA : (puts ds L _).eval = ρ
        have hc : ∀ v, ρ (.const v) = v := fun v => by rw [← hA]; rfl
        have hg : ∀ g, ρ (.func g) = .func (.func g) #[] #[] := fun v => by rw [← hA]; rfl
        have h0 : ρ (.tmp 6) = .pointer (some ⟨g1, 0, none⟩) := by rw [← hA]; exact (puts_old ds L _ (by rw [hds]; decide)).trans rfl
        clear hA hd hB ho hs ha
        unfold execOp
        go_simp
      · -- 16
        obtain rfl := Option.some.inj ho
        have b := hB 3 _ _ rfl (by
          intro st hst e
          simp only [List.mem_cons, List.not_mem_nil, or_false] at hst; rcases hst with rfl
          · exact absurd e (show ¬ 6 = 3 by decide))
        have c6 := b.at_ 6 _ rfl
        have c7 := b.at_ 7 _ rfl
        have c8 := b.at_ 8 _ rfl
        clear b
        refine .value W ?_ (Below.refl _ _)
        generalize hA : (puts ds L _).eval = ρ
        have hc : ∀ v, ρ (.const v) = v := fun v => by rw [← hA]; rfl
        have hg : ∀ g, ρ (.func g) = .func (.func g) #[] #[] := fun v => by rw [← hA]; rfl
        have h0 : ρ (.tmp 46) = .pointer (some ⟨g1, 6, none⟩) := by rw [← hA]; exact puts_get 15 ds L _ hap (by rw [hds]; rfl) (hd 15 (by decide +kernel) (by intro al hal; simp only [List.mem_cons, List.not_mem_nil, or_false] at hal; rcases hal with rfl <;> decide)) (show 46 < 60 by decide)
        clear hA hd hB ho hs ha
        unfold execOp
        go_simp
      · -- 17
        obtain rfl := Option.some.inj ho
        refine .call 59 #[.agg #[.float .f64 b1, .float .f64 b2, .float .f64 b3], .agg #[.float .f64 m6, .float .f64 m7, .float .f64 m8]] ?_ (E12.out W)
        generalize hA : (puts ds L _).eval = ρ
        have hc : ∀ v, ρ (.const v) = v := fun v => by rw [← hA]; rfl
        have hg : ∀ g, ρ (.func g) = .func (.func g) #[] #[] := fun v => by rw [← hA]; rfl
        have h0 : ρ (.tmp 45) = .agg #[.float .f64 b1, .float .f64 b2, .float .f64 b3] := by rw [← hA]; exact puts_get 14 ds L _ hap (by rw [hds]; rfl) (hd 14 (by decide +kernel) (by intro al hal; simp only [List.mem_cons, List.not_mem_nil, or_false] at hal; rcases hal with rfl <;> decide)) (show 45 < 60 by decide)
        have h1 : ρ (.tmp 47) = .agg #[.float .f64 m6, .float .f64 m7, .float .f64 m8] := by rw [← hA]; exact puts_get 16 ds L _ hap (by rw [hds]; rfl) (hd 16 (by decide +kernel) (by intro al hal; simp only [List.mem_cons, List.not_mem_nil, or_false] at hal; rcases hal with rfl <;> decide)) (show 47 < 60 by decide)
        have hf := Try.func59
        unfold execOp
        go_simp
      · -- 18
        obtain rfl := Option.some.inj ho
        refine .call 56 #[.float .f64 d10, .float .f64 d11, .float .f64 d12] ?_ (D1.out W)
        generalize hA : (puts ds L _).eval = ρ
        have hc : ∀ v, ρ (.const v) = v := fun v => by rw [← hA]; rfl
        have hg : ∀ g, ρ (.func g) = .func (.func g) #[] #[] := fun v => by rw [← hA]; rfl
        have h0 : ρ (.tmp 36) = .float .f64 d10 := by rw [← hA]; exact puts_get 5 ds L _ hap (by rw [hds]; rfl) (hd 5 (by decide +kernel) (by intro al hal; simp only [List.mem_cons, List.not_mem_nil, or_false] at hal; rcases hal with rfl <;> decide)) (show 36 < 60 by decide)
        have h1 : ρ (.tmp 42) = .float .f64 d11 := by rw [← hA]; exact puts_get 11 ds L _ hap (by rw [hds]; rfl) (hd 11 (by decide +kernel) (by intro al hal; simp only [List.mem_cons, List.not_mem_nil, or_false] at hal; rcases hal with rfl <;> decide)) (show 42 < 60 by decide)
        have h2 : ρ (.tmp 48) = .float .f64 d12 := by rw [← hA]; exact puts_get 17 ds L _ hap (by rw [hds]; rfl) (hd 17 (by decide +kernel) (by intro al hal; simp only [List.mem_cons, List.not_mem_nil, or_false] at hal; rcases hal with rfl <;> decide)) (show 48 < 60 by decide)
        have hf := Try.func56
        unfold execOp
        go_simp
      · -- 19
        obtain rfl := Option.some.inj ho
        refine .value W ?_ (Below.refl _ _)
        generalize hA : (puts ds L _).eval = ρ
        have hc : ∀ v, ρ (.const v) = v := fun v => by rw [← hA]; rfl
        have hg : ∀ g, ρ (.func g) = .func (.func g) #[] #[] := fun v => by rw [← hA]; rfl
        have h0 : ρ (.tmp 49) = .tuple #[.agg #[.float .f64 q1, .float .f64 q2, .float .f64 q3], .int .i64 k1] := by rw [← hA]; exact puts_get 18 ds L _ hap (by rw [hds]; rfl) (hd 18 (by decide +kernel) (by intro al hal; simp only [List.mem_cons, List.not_mem_nil, or_false] at hal; rcases hal with rfl <;> decide)) (show 49 < 60 by decide)
        clear hA hd hB ho hs ha
        unfold execOp
        go_simp
      · -- 20
        obtain rfl := Option.some.inj ho
        refine .value W ?_ (Below.refl _ _)
        generalize hA : (puts ds L _).eval = ρ
        have hc : ∀ v, ρ (.const v) = v := fun v => by rw [← hA]; rfl
        have hg : ∀ g, ρ (.func g) = .func (.func g) #[] #[] := fun v => by rw [← hA]; rfl
        have h0 : ρ (.tmp 30) = .tuple #[.agg #[.float .f64 q1, .float .f64 q2, .float .f64 q3], .int .i64 k1] := by rw [← hA]; exact puts_get 19 ds L _ hap (by rw [hds]; rfl) (hd 19 (by decide +kernel) (by intro al hal; simp only [List.mem_cons, List.not_mem_nil, or_false] at hal; rcases hal with rfl <;> decide)) (show 30 < 60 by decide)
        clear hA hd hB ho hs ha
        unfold execOp
        go_simp
      · -- 21
        obtain rfl := Option.some.inj ho
        refine .value W ?_ (Below.refl _ _)
        generalize hA : (puts ds L _).eval = ρ
        have hc : ∀ v, ρ (.const v) = v := fun v => by rw [← hA]; rfl
        have hg : ∀ g, ρ (.func g) = .func (.func g) #[] #[] := fun v => by rw [← hA]; rfl
        have h0 : ρ (.tmp 30) = .tuple #[.agg #[.float .f64 q1, .float .f64 q2, .float .f64 q3], .int .i64 k1] := by rw [← hA]; exact puts_get 19 ds L _ hap (by rw [hds]; rfl) (hd 19 (by decide +kernel) (by intro al hal; simp only [List.mem_cons, List.not_mem_nil, or_false] at hal; rcases hal with rfl <;> decide)) (show 30 < 60 by decide)
        clear hA hd hB ho hs ha
        unfold execOp
        go_simp
      · -- 22
        exact absurd rfl (ha _ (List.mem_cons_self ..))
      · -- 23
        exact absurd rfl (hs _ (List.mem_cons_self ..))
      · -- 24
        obtain rfl := Option.some.inj ho
        refine .value W ?_ (Below.refl _ _)
        generalize hA : (puts ds L _).eval = ρ
        have hc : ∀ v, ρ (.const v) = v := fun v => by rw [← hA]; rfl
        have hg : ∀ g, ρ (.func g) = .func (.func g) #[] #[] := fun v => by rw [← hA]; rfl
        have h0 : ρ (.tmp 51) = .int .i64 k1 := by rw [← hA]; exact puts_get 21 ds L _ hap (by rw [hds]; rfl) (hd 21 (by decide +kernel) (by intro al hal; simp only [List.mem_cons, List.not_mem_nil, or_false] at hal; rcases hal with rfl <;> decide)) (show 51 < 60 by decide)
        clear hA hd hB ho hs ha
        unfold execOp
        go_simp
    case store =>
      intro st hst L W o h us ho hd hal hC b
      simp only [List.mem_cons, List.not_mem_nil, or_false] at hst; rcases hst with rfl
      · dsimp only at ho hd hal hC b ⊢
        obtain rfl := Option.some.inj ho
        obtain ⟨hl, rfl⟩ := hal _ (List.mem_cons_self ..) rfl
        have c0 := b.at_ 0 _ rfl
        have f0 := b.fr 0 _ rfl
        have c1 := b.at_ 1 _ rfl
        have f1 := b.fr 1 _ rfl
        have c2 := b.at_ 2 _ rfl
        have f2 := b.fr 2 _ rfl
        refine ⟨?_, rfl⟩
        generalize hA : (puts ds L _).eval = ρ
        have h0 : ρ (.tmp 10) = .pointer (some ⟨h, 0, none⟩) := by rw [← hA]; exact puts_get 22 ds L _ hap (by rw [hds]; rfl) hl (show 10 < 60 by decide)
        have h1 : ρ (.tmp 50) = .agg #[.float .f64 q1, .float .f64 q2, .float .f64 q3] := by rw [← hA]; exact puts_get 20 ds L _ hap (by rw [hds]; rfl) (hd 20 (by decide +kernel) (by intro al hal; simp only [List.mem_cons, List.not_mem_nil, or_false] at hal; rcases hal with rfl <;> decide)) (show 50 < 60 by decide)
        have hst' := @fstore
        clear hA hd b ho hal hC
        simp only [putW]
        unfold execOp
        go_simp
    case fin =>
      intro hf W1 K
      rw [hds]
      clear hds hap ds D1 E10 E11 E12
      (try dsimp only at K)
      generalize hf 22 = h1 at *
      (try unfold ptrV)
      simp only [List.set_cons_zero, List.set_cons_succ, puts, Act.put, List.setIfInBounds_toArray]
      by_cases hk1 : k1 = 0
      rotate_left
      · have tk : (k1 != 0) = true := by simpa using hk1
        obtain ⟨rfl, rfl, rfl, rfl, rfl, rfl, rfl, rfl, rfl, rfl⟩ := H1.out (by first | rfl | trivial) hk1
        clear H0 H1 H2 H3 hk1
        have c2_0 := (K.at_ 2 rfl).at_ 0 _ rfl
        have f2_0 := (K.at_ 2 rfl).fr 0 _ rfl
        have c2_1 := (K.at_ 2 rfl).at_ 1 _ rfl
        have f2_1 := (K.at_ 2 rfl).fr 1 _ rfl
        have c2_2 := (K.at_ 2 rfl).at_ 2 _ rfl
        have f2_2 := (K.at_ 2 rfl).fr 2 _ rfl
        have c2_3 := (K.at_ 2 rfl).at_ 3 _ rfl
        have f2_3 := (K.at_ 2 rfl).fr 3 _ rfl
        have c2_4 := (K.at_ 2 rfl).at_ 4 _ rfl
        have f2_4 := (K.at_ 2 rfl).fr 4 _ rfl
        have c2_5 := (K.at_ 2 rfl).at_ 5 _ rfl
        have f2_5 := (K.at_ 2 rfl).fr 5 _ rfl
        have c2_6 := (K.at_ 2 rfl).at_ 6 _ rfl
        have f2_6 := (K.at_ 2 rfl).fr 6 _ rfl
        have c2_7 := (K.at_ 2 rfl).at_ 7 _ rfl
        have f2_7 := (K.at_ 2 rfl).fr 7 _ rfl
        have c2_8 := (K.at_ 2 rfl).at_ 8 _ rfl
        have f2_8 := (K.at_ 2 rfl).fr 8 _ rfl
        replace K := Lib.hid K
        go_wp2_with fail
        replace K := K.out
        (try simp only [Exit.vnBlock, Exit.then])
        refine bodyPost_ret (v := .tuple #[.agg #[.float .f64 0, .float .f64 0, .float .f64 0, .float .f64 0, .float .f64 0, .float .f64 0, .float .f64 0, .float .f64 0, .float .f64 0], .int .i64 _]) ?_ rfl ⟨rfl, ?_⟩
        · rw [results_cell_tmp rfl]; go_simp
        · exact (((((((((K.old).setCell (by first | exact Nat.le_refl _ | (dsimp only; omega)) _).setCell (by first | exact Nat.le_refl _ | (dsimp only; omega)) _).setCell (by first | exact Nat.le_refl _ | (dsimp only; omega)) _).setCell (by first | exact Nat.le_refl _ | (dsimp only; omega)) _).setCell (by first | exact Nat.le_refl _ | (dsimp only; omega)) _).setCell (by first | exact Nat.le_refl _ | (dsimp only; omega)) _).setCell (by first | exact Nat.le_refl _ | (dsimp only; omega)) _).setCell (by first | exact Nat.le_refl _ | (dsimp only; omega)) _).setCell (by first | exact Nat.le_refl _ | (dsimp only; omega)) _
      subst hk1
      have c6_0 := (K.at_ 6 rfl).at_ 0 _ rfl
      have c6_1 := (K.at_ 6 rfl).at_ 1 _ rfl
      have c6_2 := (K.at_ 6 rfl).at_ 2 _ rfl
      have c4_3 := (K.at_ 4 rfl).at_ 3 _ rfl
      have f4_3 := (K.at_ 4 rfl).fr 3 _ rfl
      have c4_4 := (K.at_ 4 rfl).at_ 4 _ rfl
      have f4_4 := (K.at_ 4 rfl).fr 4 _ rfl
      have c4_5 := (K.at_ 4 rfl).at_ 5 _ rfl
      have f4_5 := (K.at_ 4 rfl).fr 5 _ rfl
      replace K := Lib.hid K
      go_wp2_with fail
      replace K := K.out
      clear c6_0 c6_1 c6_2 c4_3 f4_3 c4_4 f4_4 c4_5 f4_5
      (try simp only [Exit.vnBlock, Exit.then])
      replace K := K.put 4 rfl 3 [q1, q2, q3] (by simp)
      simp only [putW, setL, List.set_cons_zero, List.set_cons_succ] at K
      generalize World.setCell _ _ _ = U1 at *
      rw [rounds_succ]
      replace K := Lib.hid K
      go_upto_region 8 with fail
      replace K := K.out.more
      simp only [List.cons_append, List.nil_append] at K
      generalize hds : ([some 31, some 32, some 33, some 34, some 35, some 36, some 37, some 38, some 39, some 40, some 41, some 42, some 43, some 44, some 45, some 46, some 47, some 48, some 49, some 30, some 50, some 51, some 10, none, some 11] : List (Option Tmp)) = ds
      have hap : apartL ds = true := by rw [← hds]; decide
      replace hds := hds.symm
      refine wp_region_k (fun hf => [some (w.heap.size, [a1, a2, a3, b1, b2, b3, c1, c2, c3]), some (w.heap.size + 1, [j1, j2, j3, j4, j5, j6, j7, j8, j9]), some (w.heap.size + 1 + 1, [0, 0, 0, 0, 0, 0, 0, 0, 0]), some (g1, [m0, m1, m2, m3, m4, m5, m6, m7, m8]), some (g1 + 1, [p1, p2, p3, q1, q2, q3, 0, 0, 0]), some (h0, [p1, p2, p3]), some (h1, [q1, q2, q3]), some (hf 22, [r1, r2, r3])]) (fun hf => [some (.int .i64 2), some (.pointer (some ⟨w.heap.size, 6, none⟩)), some (.agg #[.float .f64 c1, .float .f64 c2, .float .f64 c3]), some (.pointer (some ⟨g1, 0, none⟩)), some (.agg #[.float .f64 m0, .float .f64 m1, .float .f64 m2]), some (.float .f64 d20), some (.int .i64 2), some (.pointer (some ⟨w.heap.size, 6, none⟩)), some (.agg #[.float .f64 c1, .float .f64 c2, .float .f64 c3]), some (.pointer (some ⟨g1, 3, none⟩)), some (.agg #[.float .f64 m3, .float .f64 m4, .float .f64 m5]), some (.float .f64 d21), some (.int .i64 2), some (.pointer (some ⟨w.heap.size, 6, none⟩)), some (.agg #[.float .f64 c1, .float .f64 c2, .float .f64 c3]), some (.pointer (some ⟨g1, 6, none⟩)), some (.agg #[.float .f64 m6, .float .f64 m7, .float .f64 m8]), some (.float .f64 d22), some (.tuple #[.agg #[.float .f64 r1, .float .f64 r2, .float .f64 r3], .int .i64 k2]), some (.tuple #[.agg #[.float .f64 r1, .float .f64 r2, .float .f64 r3], .int .i64 k2]), some (.agg #[.float .f64 r1, .float .f64 r2, .float .f64 r3]), some (.int .i64 k2), some (ptrV (hf 22)), some (undef), some (.int .i64 k2)]) [⟨22, 7, 24, [0, 0, 0]⟩] [⟨23, 7, 0, [r1, r2, r3]⟩] [.int .i64 2, .pointer (some ⟨w.heap.size, 6, none⟩), .agg #[.float .f64 c1, .float .f64 c2, .float .f64 c3], .pointer (some ⟨g1, 0, none⟩), .agg #[.float .f64 m0, .float .f64 m1, .float .f64 m2], .float .f64 d20, .int .i64 2, .pointer (some ⟨w.heap.size, 6, none⟩), .agg #[.float .f64 c1, .float .f64 c2, .float .f64 c3], .pointer (some ⟨g1, 3, none⟩), .agg #[.float .f64 m3, .float .f64 m4, .float .f64 m5], .float .f64 d21, .int .i64 2, .pointer (some ⟨w.heap.size, 6, none⟩), .agg #[.float .f64 c1, .float .f64 c2, .float .f64 c3], .pointer (some ⟨g1, 6, none⟩), .agg #[.float .f64 m6, .float .f64 m7, .float .f64 m8], .float .f64 d22, .tuple #[.agg #[.float .f64 r1, .float .f64 r2, .float .f64 r3], .int .i64 k2], .tuple #[.agg #[.float .f64 r1, .float .f64 r2, .float .f64 r3], .int .i64 k2], .agg #[.float .f64 r1, .float .f64 r2, .float .f64 r3], .int .i64 k2, undef, undef, .int .i64 k2] ds (by kernel_rfl) (by rw [hds]; rfl) hap (by decide +kernel) (by decide +kernel) K ?ha ?haj ?hai ?hsi ?hss ?hsa ?hsw ?htg ?hE2 ?hE3 ?hE4 ?hL1 ?hL2 ?hL3 ?alloc ?step ?store ?fin
      case ha => intro al hal; simp only [List.mem_cons, List.not_mem_nil, or_false] at hal; rcases hal with rfl <;> rfl
      case haj => intro al hal al' hal' e; simp only [List.mem_cons, List.not_mem_nil, or_false] at hal; rcases hal with rfl <;> (simp only [List.mem_cons, List.not_mem_nil, or_false] at hal'; rcases hal' with rfl) <;> first | rfl | (exfalso; revert e; simp)
      case hai => intro al hal; simp only [List.mem_cons, List.not_mem_nil, or_false] at hal; rcases hal with rfl <;> decide
      case hsi => intro st hst st' hst' e; simp only [List.mem_cons, List.not_mem_nil, or_false] at hst; rcases hst with rfl <;> (simp only [List.mem_cons, List.not_mem_nil, or_false] at hst'; rcases hst' with rfl) <;> first | rfl | (exfalso; revert e; simp)
      case hss =>
        intro st hst
        simp only [List.mem_cons, List.not_mem_nil, or_false] at hst; rcases hst with rfl
        · show 23 < 25; decide
      case hsa =>
        intro st hst al hal
        simp only [List.mem_cons, List.not_mem_nil, or_false] at hst; rcases hst with rfl
        · simp only [List.mem_cons, List.not_mem_nil, or_false] at hal; rcases hal with rfl
          · exact (show ¬ (23 = 22) by decide)
      case hsw =>
        intro st hst al hal e
        simp only [List.mem_cons, List.not_mem_nil, or_false] at hst; rcases hst with rfl
        · simp only [List.mem_cons, List.not_mem_nil, or_false] at hal; rcases hal with rfl
          · change waitsAt _ 23 22 = true; decide +kernel
      case htg =>
        intro st hst
        simp only [List.mem_cons, List.not_mem_nil, or_false] at hst; rcases hst with rfl
        · exact .inr ⟨_, List.mem_cons_self .., rfl, show 0 + 3 ≤ 3 by decide⟩
      case hE2 =>
        intro hf j h1 h2
        have n7 : 7 ≠ j := h1 _ (List.mem_cons_self ..)
        rcases j with _ | _ | _ | _ | _ | _ | _ | _ | j
        · rfl
        · rfl
        · rfl
        · rfl
        · rfl
        · rfl
        · rfl
        · exact absurd rfl n7
        · rfl
      case hE3 =>
        intro hf st hst g us e
        simp only [List.mem_cons, List.not_mem_nil, or_false] at hst; rcases hst with rfl
        · simp at e
      case hE4 =>
        intro hf al hal
        simp only [List.mem_cons, List.not_mem_nil, or_false] at hal; rcases hal with rfl
        · refine ⟨fun st hst e => ?_, fun h => absurd rfl (h _ (List.mem_cons_self ..))⟩
          simp only [List.mem_cons, List.not_mem_nil, or_false] at hst; rcases hst with rfl
          · rfl
      case hL1 => intro hf; rfl
      case hL2 =>
        intro hf i hi hna
        have hi : i < 25 := hi
        have : i = 0 ∨ i = 1 ∨ i = 2 ∨ i = 3 ∨ i = 4 ∨ i = 5 ∨ i = 6 ∨ i = 7 ∨ i = 8 ∨ i = 9 ∨ i = 10 ∨ i = 11 ∨ i = 12 ∨ i = 13 ∨ i = 14 ∨ i = 15 ∨ i = 16 ∨ i = 17 ∨ i = 18 ∨ i = 19 ∨ i = 20 ∨ i = 21 ∨ i = 22 ∨ i = 23 ∨ i = 24 := by omega
        rcases this with rfl | rfl | rfl | rfl | rfl | rfl | rfl | rfl | rfl | rfl | rfl | rfl | rfl | rfl | rfl | rfl | rfl | rfl | rfl | rfl | rfl | rfl | rfl | rfl | rfl
        · rfl
        · rfl
        · rfl
        · rfl
        · rfl
        · rfl
        · rfl
        · rfl
        · rfl
        · rfl
        · rfl
        · rfl
        · rfl
        · rfl
        · rfl
        · rfl
        · rfl
        · rfl
        · rfl
        · rfl
        · rfl
        · rfl
        · exact absurd rfl (hna _ (List.mem_cons_self ..))
        · rfl
        · rfl
      case hL3 => intro hf al hal; simp only [List.mem_cons, List.not_mem_nil, or_false] at hal; rcases hal with rfl <;> rfl
      case alloc =>
        intro al hal o ρ W ho
        simp only [List.mem_cons, List.not_mem_nil, or_false] at hal; rcases hal with rfl
        · obtain rfl := Option.some.inj ho; unfold execOp ptrV objW; simp only [List.map_cons, List.map_nil]; go_simp
      case step =>
        intro L W i o ho hs ha hd hB
        have hi : i < 25 := (Array.getElem?_eq_some_iff.1 ho).1
        have : i = 0 ∨ i = 1 ∨ i = 2 ∨ i = 3 ∨ i = 4 ∨ i = 5 ∨ i = 6 ∨ i = 7 ∨ i = 8 ∨ i = 9 ∨ i = 10 ∨ i = 11 ∨ i = 12 ∨ i = 13 ∨ i = 14 ∨ i = 15 ∨ i = 16 ∨ i = 17 ∨ i = 18 ∨ i = 19 ∨ i = 20 ∨ i = 21 ∨ i = 22 ∨ i = 23 ∨ i = 24 := by omega
        rcases this with rfl | rfl | rfl | rfl | rfl | rfl | rfl | rfl | rfl | rfl | rfl | rfl | rfl | rfl | rfl | rfl | rfl | rfl | rfl | rfl | rfl | rfl | rfl | rfl | rfl
        · -- 0
          obtain rfl := Option.some.inj ho
          refine .value W ?_ (Below.refl _ _)
          generalize hA : (puts ds L _).eval = ρ
          have hc : ∀ v, ρ (.const v) = v := fun v => by rw [← hA]; rfl
          have hg : ∀ g, ρ (.func g) = .func (.func g) #[] #[] := fun v => by rw [← hA]; rfl
          have h0 : ρ (.tmp 9) = .int .i64 2 := by rw [← hA]; exact (puts_old ds L _ (by rw [hds]; decide)).trans rfl
          clear hA hd hB ho hs ha
          unfold execOp
          go_simp
        · -- 1
          obtain rfl := Option.some.inj ho
          refine .value W ?_ (Below.refl _ _)
          generalize hA : (puts ds L _).eval = ρ
          have hc : ∀ v, ρ (.const v) = v := fun v => by rw [← hA]; rfl
          have hg : ∀ g, ρ (.func g) = .func (.func g) #[] #[] := fun v => by rw [← hA]; rfl
          have h0 : ρ (.tmp 2) = .pointer (some ⟨w.heap.size, 0, none⟩) := by rw [← hA]; exact (puts_old ds L _ (by rw [hds]; decide)).trans rfl
          have h1 : ρ (.tmp 31) = .int .i64 2 := by rw [← hA]; exact puts_get 0 ds L _ hap (by rw [hds]; rfl) (hd 0 (by decide +kernel) (by intro al hal; simp only [List.mem_cons, List.not_mem_nil, or_false] at hal; rcases hal with rfl <;> decide)) (show 31 < 60 by decide)
          clear hA hd hB ho hs ha
          unfold execOp
          go_simp
        · -- 2
          obtain rfl := Option.some.inj ho
          have b := hB 0 _ _ rfl (by
            intro st hst e
            simp only [List.mem_cons, List.not_mem_nil, or_false] at hst; rcases hst with rfl
            · exact absurd e (show ¬ 7 = 0 by decide))
          have c6 := b.at_ 6 _ rfl
          have c7 := b.at_ 7 _ rfl
          have c8 := b.at_ 8 _ rfl
          clear b
          refine .value W ?_ (Below.refl _ _)
          generalize hA : (puts ds L _).eval = ρ
          have hc : ∀ v, ρ (.const v) = v := fun v => by rw [← hA]; rfl
          have hg : ∀ g, ρ (.func g) = .func (.func g) #[] #[] := fun v => by rw [← hA]; rfl
          have h0 : ρ (.tmp 32) = .pointer (some ⟨w.heap.size, 6, none⟩) := by rw [← hA]; exact puts_get 1 ds L _ hap (by rw [hds]; rfl) (hd 1 (by decide +kernel) (by intro al hal; simp only [List.mem_cons, List.not_mem_nil, or_false] at hal; rcases hal with rfl <;> decide)) (show 32 < 60 by decide)
          clear hA hd hB ho hs ha
          unfold execOp
          go_simp
        · -- 3
          obtain rfl := Option.some.inj ho
          refine .value W ?_ (Below.refl _ _)
          generalize hA : (puts ds L _).eval = ρ
          have hc : ∀ v, ρ (.const v) = v := fun v => by rw [← hA]; rfl
          have hg : ∀ g, ρ (.func g) = .func (.func g) #[] #[] := fun v => by rw [← hA]; rfl
          have h0 : ρ (.tmp 6) = .pointer (some ⟨g1, 0, none⟩) := by rw [← hA]; exact (puts_old ds L _ (by rw [hds]; decide)).trans rfl
          clear hA hd hB ho hs ha
          unfold execOp
          go_simp
        · -- 4
          obtain rfl := Option.some.inj ho
          have b := hB 3 _ _ rfl (by
            intro st hst e
            simp only [List.mem_cons, List.not_mem_nil, or_false] at hst; rcases hst with rfl
            · exact absurd e (show ¬ 7 = 3 by decide))
          have c0 := b.at_ 0 _ rfl
          have c1 := b.at_ 1 _ rfl
          have c2 := b.at_ 2 _ rfl
          clear b
          refine .value W ?_ (Below.refl _ _)
          generalize hA : (puts ds L _).eval = ρ
          have hc : ∀ v, ρ (.const v) = v := fun v => by rw [← hA]; rfl
          have hg : ∀ g, ρ (.func g) = .func (.func g) #[] #[] := fun v => by rw [← hA]; rfl
          have h0 : ρ (.tmp 34) = .pointer (some ⟨g1, 0, none⟩) := by rw [← hA]; exact puts_get 3 ds L _ hap (by rw [hds]; rfl) (hd 3 (by decide +kernel) (by intro al hal; simp only [List.mem_cons, List.not_mem_nil, or_false] at hal; rcases hal with rfl <;> decide)) (show 34 < 60 by decide)
          clear hA hd hB ho hs ha
          unfold execOp
          go_simp
        · -- 5
          obtain rfl := Option.some.inj ho
          refine .call 59 #[.agg #[.float .f64 c1, .float .f64 c2, .float .f64 c3], .agg #[.float .f64 m0, .float .f64 m1, .float .f64 m2]] ?_ (E20.out W)
          generalize hA : (puts ds L _).eval = ρ
          have hc : ∀ v, ρ (.const v) = v := fun v => by rw [← hA]; rfl
          have hg : ∀ g, ρ (.func g) = .func (.func g) #[] #[] := fun v => by rw [← hA]; rfl
          have h0 : ρ (.tmp 33) = .agg #[.float .f64 c1, .float .f64 c2, .float .f64 c3] := by rw [← hA]; exact puts_get 2 ds L _ hap (by rw [hds]; rfl) (hd 2 (by decide +kernel) (by intro al hal; simp only [List.mem_cons, List.not_mem_nil, or_false] at hal; rcases hal with rfl <;> decide)) (show 33 < 60 by decide)
          have h1 : ρ (.tmp 35) = .agg #[.float .f64 m0, .float .f64 m1, .float .f64 m2] := by rw [← hA]; exact puts_get 4 ds L _ hap (by rw [hds]; rfl) (hd 4 (by decide +kernel) (by intro al hal; simp only [List.mem_cons, List.not_mem_nil, or_false] at hal; rcases hal with rfl <;> decide)) (show 35 < 60 by decide)
          have hf := Try.func59
          unfold execOp
          go_simp
        · -- 6
          obtain rfl := Option.some.inj ho
          refine .value W ?_ (Below.refl _ _)
          generalize hA : (puts ds L _).eval = ρ
          have hc : ∀ v, ρ (.const v) = v := fun v => by rw [← hA]; rfl
          have hg : ∀ g, ρ (.func g) = .func (.func g) #[] #[] := fun v => by rw [← hA]; rfl
          have h0 : ρ (.tmp 9) = .int .i64 2 := by rw [← hA]; exact (puts_old ds L _ (by rw [hds]; decide)).trans rfl
          clear hA hd hB ho hs ha
          unfold execOp
          go_simp
        · -- 7
          obtain rfl := Option.some.inj ho
          refine .value W ?_ (Below.refl _ _)
          generalize hA : (puts ds L _).eval = ρ
          have hc : ∀ v, ρ (.const v) = v := fun v => by rw [← hA]; rfl
          have hg : ∀ g, ρ (.func g) = .func (.func g) #[] #[] := fun v => by rw [← hA]; rfl
          have h0 : ρ (.tmp 2) = .pointer (some ⟨w.heap.size, 0, none⟩) := by rw [← hA]; exact (puts_old ds L _ (by rw [hds]; decide)).trans rfl
          have h1 : ρ (.tmp 37) = .int .i64 2 := by rw [← hA]; exact puts_get 6 ds L _ hap (by rw [hds]; rfl) (hd 6 (by decide +kernel) (by intro al hal; simp only [List.mem_cons, List.not_mem_nil, or_false] at hal; rcases hal with rfl <;> decide)) (show 37 < 60 by decide)
          clear hA hd hB ho hs ha
          unfold execOp
          go_simp
        · -- 8
          obtain rfl := Option.some.inj ho
          have b := hB 0 _ _ rfl (by
            intro st hst e
            simp only [List.mem_cons, List.not_mem_nil, or_false] at hst; rcases hst with rfl
            · exact absurd e (show ¬ 7 = 0 by decide))
          have c6 := b.at_ 6 _ rfl
          have c7 := b.at_ 7 _ rfl
          have c8 := b.at_ 8 _ rfl
          clear b
          refine .value W ?_ (Below.refl _ _)
          generalize hA : (puts ds L _).eval = ρ
          have hc : ∀ v, ρ (.const v) = v := fun v => by rw [← hA]; rfl
          have hg : ∀ g, ρ (.func g) = .func (.func g) #[] #[] := fun v => by rw [← hA]; rfl
          have h0 : ρ (.tmp 38) = .pointer (some ⟨w.heap.size, 6, none⟩) := by rw [← hA]; exact puts_get 7 ds L _ hap (by rw [hds]; rfl) (hd 7 (by decide +kernel) (by intro al hal; simp only [List.mem_cons, List.not_mem_nil, or_false] at hal; rcases hal with rfl <;> decide)) (show 38 < 60 by decide)
          clear hA hd hB ho hs ha
          unfold execOp
          go_simp
        · -- 9
          obtain rfl := Option.some.inj ho
          refine .value W ?_ (Below.refl _ _)
          generalize hA : (puts ds L _).eval = ρ
          have hc : ∀ v, ρ (.const v) = v := fun v => by rw [← hA]; rfl
          have hg : ∀ g, ρ (.func g) = .func (.func g) #[] #[] := fun v => by rw [← hA]; rfl
          have h0 : ρ (.tmp 6) = .pointer (some ⟨g1, 0, none⟩) := by rw [← hA]; exact (puts_old ds L _ (by rw [hds]; decide)).trans rfl
          clear hA hd hB ho hs ha
          unfold execOp
          go_simp
        · -- 10
          obtain rfl := Option.some.inj ho
          have b := hB 3 _ _ rfl (by
            intro st hst e
            simp only [List.mem_cons, List.not_mem_nil, or_false] at hst; rcases hst with rfl
            · exact absurd e (show ¬ 7 = 3 by decide))
          have c3 := b.at_ 3 _ rfl
          have c4 := b.at_ 4 _ rfl
          have c5 := b.at_ 5 _ rfl
          clear b
          refine .value W ?_ (Below.refl _ _)
          generalize hA : (puts ds L _).eval = ρ
          have hc : ∀ v, ρ (.const v) = v := fun v => by rw [← hA]; rfl
          have hg : ∀ g, ρ (.func g) = .func (.func g) #[] #[] := fun v => by rw [← hA]; rfl
          have h0 : ρ (.tmp 40) = .pointer (some ⟨g1, 3, none⟩) := by rw [← hA]; exact puts_get 9 ds L _ hap (by rw [hds]; rfl) (hd 9 (by decide +kernel) (by intro al hal; simp only [List.mem_cons, List.not_mem_nil, or_false] at hal; rcases hal with rfl <;> decide)) (show 40 < 60 by decide)
          clear hA hd hB ho hs ha
          unfold execOp
          go_simp
        · -- 11
          obtain rfl := Option.some.inj ho
          refine .call 59 #[.agg #[.float .f64 c1, .float .f64 c2, .float .f64 c3], .agg #[.float .f64 m3, .float .f64 m4, .float .f64 m5]] ?_ (E21.out W)
          generalize hA : (puts ds L _).eval = ρ
          have hc : ∀ v, ρ (.const v) = v := fun v => by rw [← hA]; rfl
          have hg : ∀ g, ρ (.func g) = .func (.func g) #[] #[] := fun v => by rw [← hA]; rfl
          have h0 : ρ (.tmp 39) = .agg #[.float .f64 c1, .float .f64 c2, .float .f64 c3] := by rw [← hA]; exact puts_get 8 ds L _ hap (by rw [hds]; rfl) (hd 8 (by decide +kernel) (by intro al hal; simp only [List.mem_cons, List.not_mem_nil, or_false] at hal; rcases hal with rfl <;> decide)) (show 39 < 60 by decide)
          have h1 : ρ (.tmp 41) = .agg #[.float .f64 m3, .float .f64 m4, .float .f64 m5] := by rw [← hA]; exact puts_get 10 ds L _ hap (by rw [hds]; rfl) (hd 10 (by decide +kernel) (by intro al hal; simp only [List.mem_cons, List.not_mem_nil, or_false] at hal; rcases hal with rfl <;> decide)) (show 41 < 60 by decide)
          have hf := Try.func59
          unfold execOp
          go_simp
        · -- 12
          obtain rfl := Option.some.inj ho
          refine .value W ?_ (Below.refl _ _)
          generalize hA : (puts ds L _).eval = ρ
          have hc : ∀ v, ρ (.const v) = v := fun v => by rw [← hA]; rfl
          have hg : ∀ g, ρ (.func g) = .func (.func g) #[] #[] := fun v => by rw [← hA]; rfl
          have h0 : ρ (.tmp 9) = .int .i64 2 := by rw [← hA]; exact (puts_old ds L _ (by rw [hds]; decide)).trans rfl
          clear hA hd hB ho hs ha
          unfold execOp
          go_simp
        · -- 13
          obtain rfl := Option.some.inj ho
          refine .value W ?_ (Below.refl _ _)
          generalize hA : (puts ds L _).eval = ρ
          have hc : ∀ v, ρ (.const v) = v := fun v => by rw [← hA]; rfl
          have hg : ∀ g, ρ (.func g) = .func (.func g) #[] #[] := fun v => by rw [← hA]; rfl
          have h0 : ρ (.tmp 2) = .pointer (some ⟨w.heap.size, 0, none⟩) := by rw [← hA]; exact (puts_old ds L _ (by rw [hds]; decide)).trans rfl
          have h1 : ρ (.tmp 43) = .int .i64 2 := by rw [← hA]; exact puts_get 12 ds L _ hap (by rw [hds]; rfl) (hd 12 (by decide +kernel) (by intro al hal; simp only [List.mem_cons, List.not_mem_nil, or_false] at hal; rcases hal with rfl <;> decide)) (show 43 < 60 by decide)
          clear hA hd hB ho hs ha
          unfold execOp
          go_simp
        · -- 14
          obtain rfl := Option.some.inj ho
          have b := hB 0 _ _ rfl (by
            intro st hst e
            simp only [List.mem_cons, List.not_mem_nil, or_false] at hst; rcases hst with rfl
            · exact absurd e (show ¬ 7 = 0 by decide))
          have c6 := b.at_ 6 _ rfl
          have c7 := b.at_ 7 _ rfl
          have c8 := b.at_ 8 _ rfl
          clear b
          refine .value W ?_ (Below.refl _ _)
          generalize hA : (puts ds L _).eval = ρ
          have hc : ∀ v, ρ (.const v) = v := fun v => by rw [← hA]; rfl
          have hg : ∀ g, ρ (.func g) = .func (.func g) #[] #[] := fun v => by rw [← hA]; rfl
          have h0 : ρ (.tmp 44) = .pointer (some ⟨w.heap.size, 6, none⟩) := by rw [← hA]; exact puts_get 13 ds L _ hap (by rw [hds]; rfl) (hd 13 (by decide +kernel) (by intro al hal; simp only [List.mem_cons, List.not_mem_nil, or_false] at hal; rcases hal with rfl <;> decide)) (show 44 < 60 by decide)
          clear hA hd hB ho hs ha
          unfold execOp
          go_simp
        · -- 15
          obtain rfl := Option.some.inj ho
          refine .value W ?_ (Below.refl _ _)
          generalize hA : (puts ds L _).eval = ρ
          have hc : ∀ v, ρ (.const v) = v := fun v => by rw [← hA]; rfl
          have hg : ∀ g, ρ (.func g) = .func (.func g) #[] #[] := fun v => by rw [← hA]; rfl
          have h0 : ρ (.tmp 6) = .pointer (some ⟨g1, 0, none⟩) := by rw [← hA]; exact (puts_old ds L _ (by rw [hds]; decide)).trans rfl
          clear hA hd hB ho hs ha
          unfold execOp
          go_simp
        · -- 16
          obtain rfl := Option.some.inj ho
          have b := hB 3 _ _ rfl (by
            intro st hst e
            simp only [List.mem_cons, List.not_mem_nil, or_false] at hst; rcases hst with rfl
            · exact absurd e (show ¬ 7 = 3 by decide))
          have c6 := b.at_ 6 _ rfl
          have c7 := b.at_ 7 _ rfl
          have c8 := b.at_ 8 _ rfl
          clear b
          refine .value W ?_ (Below.refl _ _)
          generalize hA : (puts ds L _).eval = ρ
          have hc : ∀ v, ρ (.const v) = v := fun v => by rw [← hA]; rfl
          have hg : ∀ g, ρ (.func g) = .func (.func g) #[] #[] := fun v => by rw [← hA]; rfl
          have h0 : ρ (.tmp 46) = .pointer (some ⟨g1, 6, none⟩) := by rw [← hA]; exact puts_get 15 ds L _ hap (by rw [hds]; rfl) (hd 15 (by decide +kernel) (by intro al hal; simp only [List.mem_cons, List.not_mem_nil, or_false] at hal; rcases hal with rfl <;> decide)) (show 46 < 60 by decide)
          clear hA hd hB ho hs ha
          unfold execOp
          go_simp
        · -- 17
          obtain rfl := Option.some.inj ho
          refine .call 59 #[.agg #[.float .f64 c1, .float .f64 c2, .float .f64 c3], .agg #[.float .f64 m6, .float .f64 m7, .float .f64 m8]] ?_ (E22.out W)
          generalize hA : (puts ds L _).eval = ρ
          have hc : ∀ v, ρ (.const v) = v := fun v => by rw [← hA]; rfl
          have hg : ∀ g, ρ (.func g) = .func (.func g) #[] #[] := fun v => by rw [← hA]; rfl
          have h0 : ρ (.tmp 45) = .agg #[.float .f64 c1, .float .f64 c2, .float .f64 c3] := by rw [← hA]; exact puts_get 14 ds L _ hap (by rw [hds]; rfl) (hd 14 (by decide +kernel) (by intro al hal; simp only [List.mem_cons, List.not_mem_nil, or_false] at hal; rcases hal with rfl <;> decide)) (show 45 < 60 by decide)
          have h1 : ρ (.tmp 47) = .agg #[.float .f64 m6, .float .f64 m7, .float .f64 m8] := by rw [← hA]; exact puts_get 16 ds L _ hap (by rw [hds]; rfl) (hd 16 (by decide +kernel) (by intro al hal; simp only [List.mem_cons, List.not_mem_nil, or_false] at hal; rcases hal with rfl <;> decide)) (show 47 < 60 by decide)
          have hf := Try.func59
          unfold execOp
          go_simp
        · -- 18
          obtain rfl := Option.some.inj ho
          refine .call 56 #[.float .f64 d20, .float .f64 d21, .float .f64 d22] ?_ (D2.out W)
          generalize hA : (puts ds L _).eval = ρ
          have hc : ∀ v, ρ (.const v) = v := fun v => by rw [← hA]; rfl
          have hg : ∀ g, ρ (.func g) = .func (.func g) #[] #[] := fun v => by rw [← hA]; rfl
          have h0 : ρ (.tmp 36) = .float .f64 d20 := by rw [← hA]; exact puts_get 5 ds L _ hap (by rw [hds]; rfl) (hd 5 (by decide +kernel) (by intro al hal; simp only [List.mem_cons, List.not_mem_nil, or_false] at hal; rcases hal with rfl <;> decide)) (show 36 < 60 by decide)
          have h1 : ρ (.tmp 42) = .float .f64 d21 := by rw [← hA]; exact puts_get 11 ds L _ hap (by rw [hds]; rfl) (hd 11 (by decide +kernel) (by intro al hal; simp only [List.mem_cons, List.not_mem_nil, or_false] at hal; rcases hal with rfl <;> decide)) (show 42 < 60 by decide)
          have h2 : ρ (.tmp 48) = .float .f64 d22 := by rw [← hA]; exact puts_get 17 ds L _ hap (by rw [hds]; rfl) (hd 17 (by decide +kernel) (by intro al hal; simp only [List.mem_cons, List.not_mem_nil, or_false] at hal; rcases hal with rfl <;> decide)) (show 48 < 60 by decide)
          have hf := Try.func56
          unfold execOp
          go_simp
        · -- 19
          obtain rfl := Option.some.inj ho
          refine .value W ?_ (Below.refl _ _)
          generalize hA : (puts ds L _).eval = ρ
          have hc : ∀ v, ρ (.const v) = v := fun v => by rw [← hA]; rfl
          have hg : ∀ g, ρ (.func g) = .func (.func g) #[] #[] := fun v => by rw [← hA]; rfl
          have h0 : ρ (.tmp 49) = .tuple #[.agg #[.float .f64 r1, .float .f64 r2, .float .f64 r3], .int .i64 k2] := by rw [← hA]; exact puts_get 18 ds L _ hap (by rw [hds]; rfl) (hd 18 (by decide +kernel) (by intro al hal; simp only [List.mem_cons, List.not_mem_nil, or_false] at hal; rcases hal with rfl <;> decide)) (show 49 < 60 by decide)
          clear hA hd hB ho hs ha
          unfold execOp
          go_simp
        · -- 20
          obtain rfl := Option.some.inj ho
          refine .value W ?_ (Below.refl _ _)
          generalize hA : (puts ds L _).eval = ρ
          have hc : ∀ v, ρ (.const v) = v := fun v => by rw [← hA]; rfl
          have hg : ∀ g, ρ (.func g) = .func (.func g) #[] #[] := fun v => by rw [← hA]; rfl
          have h0 : ρ (.tmp 30) = .tuple #[.agg #[.float .f64 r1, .float .f64 r2, .float .f64 r3], .int .i64 k2] := by rw [← hA]; exact puts_get 19 ds L _ hap (by rw [hds]; rfl) (hd 19 (by decide +kernel) (by intro al hal; simp only [List.mem_cons, List.not_mem_nil, or_false] at hal; rcases hal with rfl <;> decide)) (show 30 < 60 by decide)
          clear hA hd hB ho hs ha
          unfold execOp
          go_simp
        · -- 21
          obtain rfl := Option.some.inj ho
          refine .value W ?_ (Below.refl _ _)
          generalize hA : (puts ds L _).eval = ρ
          have hc : ∀ v, ρ (.const v) = v := fun v => by rw [← hA]; rfl
          have hg : ∀ g, ρ (.func g) = .func (.func g) #[] #[] := fun v => by rw [← hA]; rfl
          have h0 : ρ (.tmp 30) = .tuple #[.agg #[.float .f64 r1, .float .f64 r2, .float .f64 r3], .int .i64 k2] := by rw [← hA]; exact puts_get 19 ds L _ hap (by rw [hds]; rfl) (hd 19 (by decide +kernel) (by intro al hal; simp only [List.mem_cons, List.not_mem_nil, or_false] at hal; rcases hal with rfl <;> decide)) (show 30 < 60 by decide)
          clear hA hd hB ho hs ha
          unfold execOp
          go_simp
        · -- 22
          exact absurd rfl (ha _ (List.mem_cons_self ..))
        · -- 23
          exact absurd rfl (hs _ (List.mem_cons_self ..))
        · -- 24
          obtain rfl := Option.some.inj ho
          refine .value W ?_ (Below.refl _ _)
          generalize hA : (puts ds L _).eval = ρ
          have hc : ∀ v, ρ (.const v) = v := fun v => by rw [← hA]; rfl
          have hg : ∀ g, ρ (.func g) = .func (.func g) #[] #[] := fun v => by rw [← hA]; rfl
          have h0 : ρ (.tmp 51) = .int .i64 k2 := by rw [← hA]; exact puts_get 21 ds L _ hap (by rw [hds]; rfl) (hd 21 (by decide +kernel) (by intro al hal; simp only [List.mem_cons, List.not_mem_nil, or_false] at hal; rcases hal with rfl <;> decide)) (show 51 < 60 by decide)
          clear hA hd hB ho hs ha
          unfold execOp
          go_simp
      case store =>
        intro st hst L W o h us ho hd hal hC b
        simp only [List.mem_cons, List.not_mem_nil, or_false] at hst; rcases hst with rfl
        · dsimp only at ho hd hal hC b ⊢
          obtain rfl := Option.some.inj ho
          obtain ⟨hl, rfl⟩ := hal _ (List.mem_cons_self ..) rfl
          have c0 := b.at_ 0 _ rfl
          have f0 := b.fr 0 _ rfl
          have c1 := b.at_ 1 _ rfl
          have f1 := b.fr 1 _ rfl
          have c2 := b.at_ 2 _ rfl
          have f2 := b.fr 2 _ rfl
          refine ⟨?_, rfl⟩
          generalize hA : (puts ds L _).eval = ρ
          have h0 : ρ (.tmp 10) = .pointer (some ⟨h, 0, none⟩) := by rw [← hA]; exact puts_get 22 ds L _ hap (by rw [hds]; rfl) hl (show 10 < 60 by decide)
          have h1 : ρ (.tmp 50) = .agg #[.float .f64 r1, .float .f64 r2, .float .f64 r3] := by rw [← hA]; exact puts_get 20 ds L _ hap (by rw [hds]; rfl) (hd 20 (by decide +kernel) (by intro al hal; simp only [List.mem_cons, List.not_mem_nil, or_false] at hal; rcases hal with rfl <;> decide)) (show 50 < 60 by decide)
          have hst' := @fstore
          clear hA hd b ho hal hC
          simp only [putW]
          unfold execOp
          go_simp
      case fin =>
        intro hf W2 K
        rw [hds]
        clear hds hap ds D2 E20 E21 E22
        (try dsimp only at K)
        generalize hf 22 = h2 at *
        (try unfold ptrV)
        simp only [List.set_cons_zero, List.set_cons_succ, puts, Act.put, List.setIfInBounds_toArray]
        by_cases hk2 : k2 = 0
        rotate_left
        · have tk : (k2 != 0) = true := by simpa using hk2
          obtain ⟨rfl, rfl, rfl, rfl, rfl, rfl, rfl, rfl, rfl, rfl⟩ := H2.out (by first | rfl | trivial) (by first | rfl | trivial) hk2
          clear H0 H1 H2 H3 hk2
          have c2_0 := (K.at_ 2 rfl).at_ 0 _ rfl
          have f2_0 := (K.at_ 2 rfl).fr 0 _ rfl
          have c2_1 := (K.at_ 2 rfl).at_ 1 _ rfl
          have f2_1 := (K.at_ 2 rfl).fr 1 _ rfl
          have c2_2 := (K.at_ 2 rfl).at_ 2 _ rfl
          have f2_2 := (K.at_ 2 rfl).fr 2 _ rfl
          have c2_3 := (K.at_ 2 rfl).at_ 3 _ rfl
          have f2_3 := (K.at_ 2 rfl).fr 3 _ rfl
          have c2_4 := (K.at_ 2 rfl).at_ 4 _ rfl
          have f2_4 := (K.at_ 2 rfl).fr 4 _ rfl
          have c2_5 := (K.at_ 2 rfl).at_ 5 _ rfl
          have f2_5 := (K.at_ 2 rfl).fr 5 _ rfl
          have c2_6 := (K.at_ 2 rfl).at_ 6 _ rfl
          have f2_6 := (K.at_ 2 rfl).fr 6 _ rfl
          have c2_7 := (K.at_ 2 rfl).at_ 7 _ rfl
          have f2_7 := (K.at_ 2 rfl).fr 7 _ rfl
          have c2_8 := (K.at_ 2 rfl).at_ 8 _ rfl
          have f2_8 := (K.at_ 2 rfl).fr 8 _ rfl
          replace K := Lib.hid K
          go_wp2_with fail
          replace K := K.out
          (try simp only [Exit.vnBlock, Exit.then])
          refine bodyPost_ret (v := .tuple #[.agg #[.float .f64 0, .float .f64 0, .float .f64 0, .float .f64 0, .float .f64 0, .float .f64 0, .float .f64 0, .float .f64 0, .float .f64 0], .int .i64 _]) ?_ rfl ⟨rfl, ?_⟩
          · rw [results_cell_tmp rfl]; go_simp
          · exact (((((((((K.old).setCell (by first | exact Nat.le_refl _ | (dsimp only; omega)) _).setCell (by first | exact Nat.le_refl _ | (dsimp only; omega)) _).setCell (by first | exact Nat.le_refl _ | (dsimp only; omega)) _).setCell (by first | exact Nat.le_refl _ | (dsimp only; omega)) _).setCell (by first | exact Nat.le_refl _ | (dsimp only; omega)) _).setCell (by first | exact Nat.le_refl _ | (dsimp only; omega)) _).setCell (by first | exact Nat.le_refl _ | (dsimp only; omega)) _).setCell (by first | exact Nat.le_refl _ | (dsimp only; omega)) _).setCell (by first | exact Nat.le_refl _ | (dsimp only; omega)) _
        subst hk2
        have c7_0 := (K.at_ 7 rfl).at_ 0 _ rfl
        have c7_1 := (K.at_ 7 rfl).at_ 1 _ rfl
        have c7_2 := (K.at_ 7 rfl).at_ 2 _ rfl
        have c4_6 := (K.at_ 4 rfl).at_ 6 _ rfl
        have f4_6 := (K.at_ 4 rfl).fr 6 _ rfl
        have c4_7 := (K.at_ 4 rfl).at_ 7 _ rfl
        have f4_7 := (K.at_ 4 rfl).fr 7 _ rfl
        have c4_8 := (K.at_ 4 rfl).at_ 8 _ rfl
        have f4_8 := (K.at_ 4 rfl).fr 8 _ rfl
        replace K := Lib.hid K
        go_wp2_with fail
        replace K := K.out
        clear c7_0 c7_1 c7_2 c4_6 f4_6 c4_7 f4_7 c4_8 f4_8
        (try simp only [Exit.vnBlock, Exit.then])
        replace K := K.put 4 rfl 6 [r1, r2, r3] (by simp)
        simp only [putW, setL, List.set_cons_zero, List.set_cons_succ] at K
        generalize World.setCell _ _ _ = U2 at *
        obtain ⟨rfl, rfl, rfl, rfl, rfl, rfl, rfl, rfl, rfl, rfl⟩ := H3.out (by first | rfl | trivial) (by first | rfl | trivial) (by first | rfl | trivial)
        clear H0 H1 H2 H3
        rw [rounds_succ]
        have c4_0 := (K.at_ 4 rfl).at_ 0 _ rfl
        have c4_1 := (K.at_ 4 rfl).at_ 1 _ rfl
        have c4_2 := (K.at_ 4 rfl).at_ 2 _ rfl
        have c4_3 := (K.at_ 4 rfl).at_ 3 _ rfl
        have c4_4 := (K.at_ 4 rfl).at_ 4 _ rfl
        have c4_5 := (K.at_ 4 rfl).at_ 5 _ rfl
        have c4_6 := (K.at_ 4 rfl).at_ 6 _ rfl
        have c4_7 := (K.at_ 4 rfl).at_ 7 _ rfl
        have c4_8 := (K.at_ 4 rfl).at_ 8 _ rfl
        have c2_0 := (K.at_ 2 rfl).at_ 0 _ rfl
        have f2_0 := (K.at_ 2 rfl).fr 0 _ rfl
        have c2_1 := (K.at_ 2 rfl).at_ 1 _ rfl
        have f2_1 := (K.at_ 2 rfl).fr 1 _ rfl
        have c2_2 := (K.at_ 2 rfl).at_ 2 _ rfl
        have f2_2 := (K.at_ 2 rfl).fr 2 _ rfl
        have c2_3 := (K.at_ 2 rfl).at_ 3 _ rfl
        have f2_3 := (K.at_ 2 rfl).fr 3 _ rfl
        have c2_4 := (K.at_ 2 rfl).at_ 4 _ rfl
        have f2_4 := (K.at_ 2 rfl).fr 4 _ rfl
        have c2_5 := (K.at_ 2 rfl).at_ 5 _ rfl
        have f2_5 := (K.at_ 2 rfl).fr 5 _ rfl
        have c2_6 := (K.at_ 2 rfl).at_ 6 _ rfl
        have f2_6 := (K.at_ 2 rfl).fr 6 _ rfl
        have c2_7 := (K.at_ 2 rfl).at_ 7 _ rfl
        have f2_7 := (K.at_ 2 rfl).fr 7 _ rfl
        have c2_8 := (K.at_ 2 rfl).at_ 8 _ rfl
        have f2_8 := (K.at_ 2 rfl).fr 8 _ rfl
        replace K := Lib.hid K
        go_wp2_with fail
        replace K := K.out
        (try simp only [Exit.vnBlock, Exit.then])
        refine bodyPost_ret (v := .tuple #[.agg #[.float .f64 y0, .float .f64 y1, .float .f64 y2, .float .f64 y3, .float .f64 y4, .float .f64 y5, .float .f64 y6, .float .f64 y7, .float .f64 y8], .int .i64 0]) ?_ rfl ⟨rfl, ?_⟩
        · rw [results_cell_tmp rfl]; go_simp
        · exact (((((((((K.old).setCell (by first | exact Nat.le_refl _ | (dsimp only; omega)) _).setCell (by first | exact Nat.le_refl _ | (dsimp only; omega)) _).setCell (by first | exact Nat.le_refl _ | (dsimp only; omega)) _).setCell (by first | exact Nat.le_refl _ | (dsimp only; omega)) _).setCell (by first | exact Nat.le_refl _ | (dsimp only; omega)) _).setCell (by first | exact Nat.le_refl _ | (dsimp only; omega)) _).setCell (by first | exact Nat.le_refl _ | (dsimp only; omega)) _).setCell (by first | exact Nat.le_refl _ | (dsimp only; omega)) _).setCell (by first | exact Nat.le_refl _ | (dsimp only; omega)) _
end Go.Proofs.Ytlahihmokkcefaa
