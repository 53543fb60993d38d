/- Proved here: what the texts Vbyb prove, one behind the other. -/
import Derived.Test.YtkpdnhbifokhlaaGreatJx3
import Derived.Test.YtkpdnhbifokhlaaGreatJv9
import Derived.Test.YtkpdnhbifokhlaaGreatJb9

namespace Go.Proofs.YtkpdnhbifokhlaaGreat
open Go.ChangeShapes Go.WideShapes Go.ChangeAt Go.RowKit Ieee.Own

set_option maxHeartbeats 8000000 in
set_option maxRecDepth 100000 in
theorem vboxturn2 {p1 p2 a1 a2 a3 a4 a5 a6 s1 s2 c1 c2 m11 m12 m21 m22 m31 m32 m41 m42 y11 y12 y21 y22 e1 e2 : Nat} (C0 : Hid (∀ w, Calls Tryz.prog 133 #[.int .i64 2] w fun e w' => e = .returned (.bool true) ∧ Below w.heap.size w w')) (C1 : Hid (∀ w, Calls Tryz.prog 69 #[.agg #[.float .f64 p1, .float .f64 p2]] w fun e w' => e = .returned (.tuple #[.agg #[.float .f64 s1, .float .f64 s2], .agg #[.float .f64 c1, .float .f64 c2], .int .i64 0]) ∧ Below w.heap.size w w')) (C2 : Hid (∀ w, Calls Tryz.prog 134 #[.agg #[.float .f64 a1, .float .f64 a2, .float .f64 a3, .float .f64 a4, .float .f64 a5, .float .f64 a6]] w fun e w' => e = .returned (.bool true) ∧ Below w.heap.size w w')) (D1 : Hid (∀ w, Calls Tryz.prog 136 #[.agg #[.float .f64 c1, .float .f64 c2], .agg #[.float .f64 a1, .float .f64 a2]] w fun e w' => e = .returned (.agg #[.float .f64 m11, .float .f64 m12]) ∧ Below w.heap.size w w')) (D2 : Hid (∀ w, Calls Tryz.prog 136 #[.agg #[.float .f64 s1, .float .f64 s2], .agg #[.float .f64 a3, .float .f64 a4]] w fun e w' => e = .returned (.agg #[.float .f64 m21, .float .f64 m22]) ∧ Below w.heap.size w w')) (D3' : Hid (∀ w, Calls Tryz.prog 135 #[.agg #[.float .f64 m11, .float .f64 m12], .agg #[.float .f64 m21, .float .f64 m22]] w fun e w' => e = .returned (.agg #[.float .f64 y11, .float .f64 y12]) ∧ Below w.heap.size w w')) (D4 : Hid (∀ w, Calls Tryz.prog 136 #[.agg #[.float .f64 s1, .float .f64 s2], .agg #[.float .f64 a1, .float .f64 a2]] w fun e w' => e = .returned (.agg #[.float .f64 m31, .float .f64 m32]) ∧ Below w.heap.size w w')) (D5 : Hid (∀ w, Calls Tryz.prog 136 #[.agg #[.float .f64 c1, .float .f64 c2], .agg #[.float .f64 a3, .float .f64 a4]] w fun e w' => e = .returned (.agg #[.float .f64 m41, .float .f64 m42]) ∧ Below w.heap.size w w')) (D6 : Hid (∀ w, Calls Tryz.prog 137 #[.agg #[.float .f64 m31, .float .f64 m32], .agg #[.float .f64 m41, .float .f64 m42]] w fun e w' => e = .returned (.agg #[.float .f64 y21, .float .f64 y22]) ∧ Below w.heap.size w w')) (D7 : Hid (∀ w, Calls Tryz.prog 137 #[.agg #[.float .f64 a5, .float .f64 a6], .agg #[.float .f64 0, .float .f64 0]] w fun e w' => e = .returned (.agg #[.float .f64 e1, .float .f64 e2]) ∧ Below w.heap.size w w')) (w : World) : Calls Tryz.prog 79 #[.int .i64 2, .agg #[.float .f64 p1, .float .f64 p2], .agg #[.float .f64 a1, .float .f64 a2, .float .f64 a3, .float .f64 a4, .float .f64 a5, .float .f64 a6]] w fun e w' => e = .returned (.tuple #[.agg #[.float .f64 y11, .float .f64 y12, .float .f64 y21, .float .f64 y22, .float .f64 e1, .float .f64 e2], .int .i64 0]) ∧ Below w.heap.size w w' := by
 have K0 := kw3 w 26 33 33 [p1, p2] [a1, a2, a3, a4, a5, a6] [0, 0, 0, 0, 0, 0]
 simp only [objW, List.map_cons, List.map_nil] at K0
 have hst := @fstore
 replace K0 := Lib.hid K0
 go_enter Tryz.func79, Tryz.ntmps79
 go_wp2_with fail
 have K := K0.out
 clear K0
 generalize ((w.alloc _).alloc _).alloc _ = wr at *
 refine (C0.out wr).mono ?_
 rintro _ v1 ⟨rfl, hb⟩
 replace K := K.on hb
 clear hb
 have c0_0 := (K.at_ 0 rfl).at_ 0 _ rfl
 have c0_1 := (K.at_ 0 rfl).at_ 1 _ rfl
 replace K := Lib.hid K
 go_wp2_with fail
 replace K := K.out
 refine (C1.out v1).mono ?_
 rintro _ v2 ⟨rfl, hb⟩
 clear c0_0 c0_1
 replace K := K.on hb
 clear hb
 replace K := K.new 26 [s1, s2]
 replace K := K.and (n := v2.heap.size + 1) (by simp) 26 [c1, c2]
 simp only [objW, List.map_cons, List.map_nil, List.cons_append, List.nil_append] at K
 have c1_0 := (K.at_ 1 rfl).at_ 0 _ rfl
 have c1_1 := (K.at_ 1 rfl).at_ 1 _ rfl
 have c1_2 := (K.at_ 1 rfl).at_ 2 _ rfl
 have c1_3 := (K.at_ 1 rfl).at_ 3 _ rfl
 have c1_4 := (K.at_ 1 rfl).at_ 4 _ rfl
 have c1_5 := (K.at_ 1 rfl).at_ 5 _ rfl
 replace K := Lib.hid K
 go_wp2_with fail
 replace K := K.out
 generalize (v2.alloc _).alloc _ = u2 at *
 generalize v2.heap.size = g1 at *
 refine (C2.out u2).mono ?_
 rintro _ v3 ⟨rfl, hb⟩
 clear c1_0 c1_1 c1_2 c1_3 c1_4 c1_5
 replace K := K.on hb
 clear hb
 have c1_0 := (K.at_ 1 rfl).at_ 0 _ rfl
 have c1_1 := (K.at_ 1 rfl).at_ 1 _ rfl
 have c1_2 := (K.at_ 1 rfl).at_ 2 _ rfl
 have c1_3 := (K.at_ 1 rfl).at_ 3 _ rfl
 have c1_4 := (K.at_ 1 rfl).at_ 4 _ rfl
 have c1_5 := (K.at_ 1 rfl).at_ 5 _ rfl
 replace K := Lib.hid K
 go_upto_region 10 with fail
 replace K := K.out
 have K := (K.new 98 [a1, a2, a3, a4, a5, a6])
 simp only [objW, List.map_cons, List.map_nil, List.cons_append, List.nil_append] at K
 generalize v3.alloc _ = wr at *
 generalize v3.heap.size = h at *
 replace K := K.more.more
 simp only [List.cons_append, List.nil_append] at K
 generalize hds : ([some 47, some 48, some 49, some 50, some 51, some 52, some 14, some 15, none, none] : List (Option Tmp)) = ds
 have hap : apartL ds = true := by rw [← hds]; decide
 replace hds := hds.symm
 refine wp_region_k (fun hf => [some (w.heap.size, [p1, p2]), some (w.heap.size + 1, [a1, a2, a3, a4, a5, a6]), some (w.heap.size + 1 + 1, [0, 0, 0, 0, 0, 0]), some (g1, [s1, s2]), some (g1 + 1, [c1, c2]), some (h, [a1, a2, a3, a4, a5, a6]), some (hf 6, [a1, a2]), some (hf 7, [a3, a4])]) (fun hf => [some (.int .i64 0), some (.pointer (some ⟨h, 0, none⟩)), some (.agg #[.float .f64 a1, .float .f64 a2]), some (.int .i64 1), some (.pointer (some ⟨h, 2, none⟩)), some (.agg #[.float .f64 a3, .float .f64 a4]), some (ptrV (hf 6)), some (ptrV (hf 7)), some (undef), some (undef)]) [⟨6, 6, 26, [0, 0]⟩, ⟨7, 7, 26, [0, 0]⟩] [⟨8, 6, 0, [a1, a2]⟩, ⟨9, 7, 0, [a3, a4]⟩] [.int .i64 0, .pointer (some ⟨h, 0, none⟩), .agg #[.float .f64 a1, .float .f64 a2], .int .i64 1, .pointer (some ⟨h, 2, none⟩), .agg #[.float .f64 a3, .float .f64 a4], undef, undef, undef, undef] ds (by kernel_rfl) (by rw [hds]; rfl) hap (by decide +kernel) (by decide +kernel) K ?ha ?haj ?hai ?hsi ?hss ?hsa ?hsw ?htg ?hE2 ?hE3 ?hE4 ?hL1 ?hL2 ?hL3 ?alloc ?step ?store ?fin
 case ha => intro al hal; simp only [List.mem_cons, List.not_mem_nil, or_false] at hal; rcases hal with rfl | rfl <;> rfl
 case haj => intro al hal al' hal' e; simp only [List.mem_cons, List.not_mem_nil, or_false] at hal; rcases hal with rfl | rfl <;> (simp only [List.mem_cons, List.not_mem_nil, or_false] at hal'; rcases hal' with rfl | rfl) <;> first | rfl | (exfalso; revert e; simp)
 case hai => intro al hal; simp only [List.mem_cons, List.not_mem_nil, or_false] at hal; rcases hal with rfl | rfl <;> decide
 case hsi => intro st hst st' hst' e; simp only [List.mem_cons, List.not_mem_nil, or_false] at hst; rcases hst with rfl | rfl <;> (simp only [List.mem_cons, List.not_mem_nil, or_false] at hst'; rcases hst' with rfl | rfl) <;> first | rfl | (exfalso; revert e; simp)
 case hss =>
   intro st hst
   simp only [List.mem_cons, List.not_mem_nil, or_false] at hst; rcases hst with rfl | rfl
   · show 8 < 10; decide
   · show 9 < 10; decide
 case hsa =>
   intro st hst al hal
   simp only [List.mem_cons, List.not_mem_nil, or_false] at hst; rcases hst with rfl | rfl
   · simp only [List.mem_cons, List.not_mem_nil, or_false] at hal; rcases hal with rfl | rfl
     · exact (show ¬ (8 = 6) by decide)
     · exact (show ¬ (8 = 7) by decide)
   · simp only [List.mem_cons, List.not_mem_nil, or_false] at hal; rcases hal with rfl | rfl
     · exact (show ¬ (9 = 6) by decide)
     · exact (show ¬ (9 = 7) by decide)
 case hsw =>
   intro st hst al hal e
   simp only [List.mem_cons, List.not_mem_nil, or_false] at hst; rcases hst with rfl | rfl
   · simp only [List.mem_cons, List.not_mem_nil, or_false] at hal; rcases hal with rfl | rfl
     · change waitsAt _ 8 6 = true; decide +kernel
     · exact absurd e (show ¬ (6 = 7) by decide)
   · simp only [List.mem_cons, List.not_mem_nil, or_false] at hal; rcases hal with rfl | rfl
     · exact absurd e (show ¬ (7 = 6) by decide)
     · change waitsAt _ 9 7 = true; decide +kernel
 case htg =>
   intro st hst
   simp only [List.mem_cons, List.not_mem_nil, or_false] at hst; rcases hst with rfl | rfl
   · exact .inr ⟨_, List.mem_cons_self .., rfl, show 0 + 2 ≤ 2 by decide⟩
   · exact .inr ⟨_, List.mem_cons_of_mem _ (List.mem_cons_self ..), rfl, show 0 + 2 ≤ 2 by decide⟩
 case hE2 =>
   intro hf j h1 h2
   have n6 : 6 ≠ j := h1 _ (List.mem_cons_self ..)
   have n7 : 7 ≠ j := h1 _ (List.mem_cons_of_mem _ (List.mem_cons_self ..))
   rcases j with _ | _ | _ | _ | _ | _ | _ | _ | j
   · rfl
   · rfl
   · rfl
   · rfl
   · rfl
   · rfl
   · exact absurd rfl n6
   · exact absurd rfl n7
   · rfl
 case hE3 =>
   intro hf st hst g us e
   simp only [List.mem_cons, List.not_mem_nil, or_false] at hst; rcases hst with rfl | rfl
   · simp at e
   · simp at e
 case hE4 =>
   intro hf al hal
   simp only [List.mem_cons, List.not_mem_nil, or_false] at hal; rcases hal with rfl | rfl
   · refine ⟨fun st hst e => ?_, fun h => absurd rfl (h _ (List.mem_cons_self ..))⟩
     simp only [List.mem_cons, List.not_mem_nil, or_false] at hst; rcases hst with rfl | rfl
     · rfl
     · exact absurd e (show ¬ (7 = 6) by decide)
   · refine ⟨fun st hst e => ?_, fun h => absurd rfl (h _ (List.mem_cons_of_mem _ (List.mem_cons_self ..)))⟩
     simp only [List.mem_cons, List.not_mem_nil, or_false] at hst; rcases hst with rfl | rfl
     · exact absurd e (show ¬ (6 = 7) by decide)
     · rfl
 case hL1 => intro hf; rfl
 case hL2 =>
   intro hf i hi hna
   have hi : i < 10 := hi
   have : i = 0 ∨ i = 1 ∨ i = 2 ∨ i = 3 ∨ i = 4 ∨ i = 5 ∨ i = 6 ∨ i = 7 ∨ i = 8 ∨ i = 9 := by omega
   rcases this with rfl | rfl | rfl | rfl | rfl | rfl | rfl | rfl | rfl | rfl
   · rfl
   · rfl
   · rfl
   · rfl
   · rfl
   · rfl
   · exact absurd rfl (hna _ (List.mem_cons_self ..))
   · exact absurd rfl (hna _ (List.mem_cons_of_mem _ (List.mem_cons_self ..)))
   · rfl
   · rfl
 case hL3 => intro hf al hal; simp only [List.mem_cons, List.not_mem_nil, or_false] at hal; rcases hal with rfl | rfl <;> rfl
 case alloc =>
   intro al hal o ρ W ho
   simp only [List.mem_cons, List.not_mem_nil, or_false] at hal; rcases hal with rfl | rfl
   · obtain rfl := Option.some.inj ho; unfold execOp ptrV objW; simp only [List.map_cons, List.map_nil]; go_simp
   · obtain rfl := Option.some.inj ho; unfold execOp ptrV objW; simp only [List.map_cons, List.map_nil]; go_simp
 case step =>
   intro L W i o ho hs ha hd hB
   have hi : i < 10 := (Array.getElem?_eq_some_iff.1 ho).1
   have : i = 0 ∨ i = 1 ∨ i = 2 ∨ i = 3 ∨ i = 4 ∨ i = 5 ∨ i = 6 ∨ i = 7 ∨ i = 8 ∨ i = 9 := by omega
   rcases this with rfl | rfl | rfl | rfl | rfl | rfl | rfl | rfl | rfl | rfl
   · obtain rfl := Option.some.inj ho
     refine .value W ?_ (Below.refl _ _)
     generalize hA : (puts ds L _).eval = ρ
     have hc : ∀ v, ρ (.const v) = v := fun v => by rw [← hA]; rfl
     have h0 : ρ (.tmp 12) = .int .i64 0 := by rw [← hA]; exact (puts_old ds L _ (by rw [hds]; decide)).trans rfl
     clear hA hd hB ho hs ha
     unfold execOp
     go_simp
   · obtain rfl := Option.some.inj ho
     refine .value W ?_ (Below.refl _ _)
     generalize hA : (puts ds L _).eval = ρ
     have hc : ∀ v, ρ (.const v) = v := fun v => by rw [← hA]; rfl
     have h0 : ρ (.tmp 11) = .pointer (some ⟨h, 0, none⟩) := by rw [← hA]; exact (puts_old ds L _ (by rw [hds]; decide)).trans rfl
     have h1 : ρ (.tmp 47) = .int .i64 0 := by rw [← hA]; exact puts_get 0 ds L _ hap (by rw [hds]; rfl) (hd 0 (by decide +kernel) (by intro al hal; simp only [List.mem_cons, List.not_mem_nil, or_false] at hal; rcases hal with rfl | rfl <;> decide)) (show 47 < 85 by decide)
     clear hA hd hB ho hs ha
     unfold execOp
     go_simp
   · obtain rfl := Option.some.inj ho
     have b := hB 5 _ _ rfl (by
       intro st hst e
       simp only [List.mem_cons, List.not_mem_nil, or_false] at hst; rcases hst with rfl | rfl
       · exact absurd e (show ¬ 6 = 5 by decide)
       · exact absurd e (show ¬ 7 = 5 by decide))
     have c0 := b.at_ 0 _ rfl
     have c1 := b.at_ 1 _ rfl
     clear b
     refine .value W ?_ (Below.refl _ _)
     generalize hA : (puts ds L _).eval = ρ
     have hc : ∀ v, ρ (.const v) = v := fun v => by rw [← hA]; rfl
     have h0 : ρ (.tmp 48) = .pointer (some ⟨h, 0, none⟩) := by rw [← hA]; exact puts_get 1 ds L _ hap (by rw [hds]; rfl) (hd 1 (by decide +kernel) (by intro al hal; simp only [List.mem_cons, List.not_mem_nil, or_false] at hal; rcases hal with rfl | rfl <;> decide)) (show 48 < 85 by decide)
     clear hA hd hB ho hs ha
     unfold execOp
     go_simp
   · obtain rfl := Option.some.inj ho
     refine .value W ?_ (Below.refl _ _)
     generalize hA : (puts ds L _).eval = ρ
     have hc : ∀ v, ρ (.const v) = v := fun v => by rw [← hA]; rfl
     have h0 : ρ (.tmp 13) = .int .i64 1 := by rw [← hA]; exact (puts_old ds L _ (by rw [hds]; decide)).trans rfl
     clear hA hd hB ho hs ha
     unfold execOp
     go_simp
   · obtain rfl := Option.some.inj ho
     refine .value W ?_ (Below.refl _ _)
     generalize hA : (puts ds L _).eval = ρ
     have hc : ∀ v, ρ (.const v) = v := fun v => by rw [← hA]; rfl
     have h0 : ρ (.tmp 11) = .pointer (some ⟨h, 0, none⟩) := by rw [← hA]; exact (puts_old ds L _ (by rw [hds]; decide)).trans rfl
     have h1 : ρ (.tmp 50) = .int .i64 1 := by rw [← hA]; exact puts_get 3 ds L _ hap (by rw [hds]; rfl) (hd 3 (by decide +kernel) (by intro al hal; simp only [List.mem_cons, List.not_mem_nil, or_false] at hal; rcases hal with rfl | rfl <;> decide)) (show 50 < 85 by decide)
     clear hA hd hB ho hs ha
     unfold execOp
     go_simp
   · obtain rfl := Option.some.inj ho
     have b := hB 5 _ _ rfl (by
       intro st hst e
       simp only [List.mem_cons, List.not_mem_nil, or_false] at hst; rcases hst with rfl | rfl
       · exact absurd e (show ¬ 6 = 5 by decide)
       · exact absurd e (show ¬ 7 = 5 by decide))
     have c2 := b.at_ 2 _ rfl
     have c3 := b.at_ 3 _ rfl
     clear b
     refine .value W ?_ (Below.refl _ _)
     generalize hA : (puts ds L _).eval = ρ
     have hc : ∀ v, ρ (.const v) = v := fun v => by rw [← hA]; rfl
     have h0 : ρ (.tmp 51) = .pointer (some ⟨h, 2, none⟩) := by rw [← hA]; exact puts_get 4 ds L _ hap (by rw [hds]; rfl) (hd 4 (by decide +kernel) (by intro al hal; simp only [List.mem_cons, List.not_mem_nil, or_false] at hal; rcases hal with rfl | rfl <;> decide)) (show 51 < 85 by decide)
     clear hA hd hB ho hs ha
     unfold execOp
     go_simp
   · exact absurd rfl (ha _ (List.mem_cons_self ..))
   · exact absurd rfl (ha _ (List.mem_cons_of_mem _ (List.mem_cons_self ..)))
   · exact absurd rfl (hs _ (List.mem_cons_self ..))
   · exact absurd rfl (hs _ (List.mem_cons_of_mem _ (List.mem_cons_self ..)))
 case store =>
   intro st hst L W o h us ho hd hal hC b
   simp only [List.mem_cons, List.not_mem_nil, or_false] at hst; rcases hst with rfl | rfl
   · dsimp only at ho hd hal hC b ⊢
     obtain rfl := Option.some.inj ho
     obtain ⟨hl, rfl⟩ := hal _ (List.mem_cons_self ..) rfl
     have c0 := b.at_ 0 _ rfl
     have f0 := b.fr 0 _ rfl
     have c1 := b.at_ 1 _ rfl
     have f1 := b.fr 1 _ rfl
     refine ⟨?_, rfl⟩
     generalize hA : (puts ds L _).eval = ρ
     have h0 : ρ (.tmp 14) = .pointer (some ⟨h, 0, none⟩) := by rw [← hA]; exact puts_get 6 ds L _ hap (by rw [hds]; rfl) hl (show 14 < 85 by decide)
     have h1 : ρ (.tmp 49) = .agg #[.float .f64 a1, .float .f64 a2] := by rw [← hA]; exact puts_get 2 ds L _ hap (by rw [hds]; rfl) (hd 2 (by decide +kernel) (by intro al hal; simp only [List.mem_cons, List.not_mem_nil, or_false] at hal; rcases hal with rfl | rfl <;> decide)) (show 49 < 85 by decide)
     have hst' := @fstore
     clear hA hd b ho hal hC
     simp only [putW]
     unfold execOp
     go_simp
   · dsimp only at ho hd hal hC b ⊢
     obtain rfl := Option.some.inj ho
     obtain ⟨hl, rfl⟩ := hal _ (List.mem_cons_of_mem _ (List.mem_cons_self ..)) rfl
     have c0 := b.at_ 0 _ rfl
     have f0 := b.fr 0 _ rfl
     have c1 := b.at_ 1 _ rfl
     have f1 := b.fr 1 _ rfl
     refine ⟨?_, rfl⟩
     generalize hA : (puts ds L _).eval = ρ
     have h0 : ρ (.tmp 15) = .pointer (some ⟨h, 0, none⟩) := by rw [← hA]; exact puts_get 7 ds L _ hap (by rw [hds]; rfl) hl (show 15 < 85 by decide)
     have h1 : ρ (.tmp 52) = .agg #[.float .f64 a3, .float .f64 a4] := by rw [← hA]; exact puts_get 5 ds L _ hap (by rw [hds]; rfl) (hd 5 (by decide +kernel) (by intro al hal; simp only [List.mem_cons, List.not_mem_nil, or_false] at hal; rcases hal with rfl | rfl <;> decide)) (show 52 < 85 by decide)
     have hst' := @fstore
     clear hA hd b ho hal hC
     simp only [putW]
     unfold execOp
     go_simp
 case fin =>
   intro hf W0 K
   rw [hds]
   clear hds hap ds
   (try dsimp only at K)
   generalize hf 6 = ga at *
   generalize hf 7 = gb at *
   (try unfold ptrV)
   simp only [List.set_cons_zero, List.set_cons_succ, puts, Act.put, List.setIfInBounds_toArray]
   replace K := Lib.hid K
   go_upto_region 11 with fail
   replace K := K.out
   generalize hds : ([some 53, some 54, some 55, some 56, some 57, some 58, some 59, some 60, some 61, none] : List (Option Tmp)) = ds
   have hap : apartL ds = true := by rw [← hds]; decide
   replace hds := hds.symm
   refine wp_region_k (fun hf => [some (w.heap.size, [p1, p2]), some (w.heap.size + 1, [a1, a2, a3, a4, a5, a6]), some (w.heap.size + 1 + 1, [0, 0, 0, 0, 0, 0]), some (g1, [s1, s2]), some (g1 + 1, [c1, c2]), some (h, [y11, y12, a3, a4, a5, a6]), some (ga, [a1, a2]), some (gb, [a3, a4])]) (fun hf => [some (.int .i64 0), some (.agg #[.float .f64 c1, .float .f64 c2]), some (.agg #[.float .f64 a1, .float .f64 a2]), some (.agg #[.float .f64 m11, .float .f64 m12]), some (.agg #[.float .f64 s1, .float .f64 s2]), some (.agg #[.float .f64 a3, .float .f64 a4]), some (.agg #[.float .f64 m21, .float .f64 m22]), some (.agg #[.float .f64 y11, .float .f64 y12]), some (.pointer (some ⟨h, 0, none⟩)), some (undef)]) [] [⟨9, 5, 0, [y11, y12]⟩] [.int .i64 0, .agg #[.float .f64 c1, .float .f64 c2], .agg #[.float .f64 a1, .float .f64 a2], .agg #[.float .f64 m11, .float .f64 m12], .agg #[.float .f64 s1, .float .f64 s2], .agg #[.float .f64 a3, .float .f64 a4], .agg #[.float .f64 m21, .float .f64 m22], .agg #[.float .f64 y11, .float .f64 y12], .pointer (some ⟨h, 0, none⟩), undef] ds (by kernel_rfl) (by rw [hds]; rfl) hap (by decide +kernel) (by decide +kernel) K ?ha ?haj ?hai ?hsi ?hss ?hsa ?hsw ?htg ?hE2 ?hE3 ?hE4 ?hL1 ?hL2 ?hL3 ?alloc ?step ?store ?fin
   case ha => intro al hal; cases hal
   case haj => intro al hal al' hal' e; cases hal
   case hai => intro al hal; cases hal
   case hsi => intro st hst st' hst' e; rcases List.mem_singleton.1 hst with rfl <;> (rcases List.mem_singleton.1 hst' with rfl) <;> first | rfl | (exfalso; revert e; simp)
   case hss =>
     intro st hst
     rcases List.mem_singleton.1 hst with rfl
     · show 9 < 10; decide
   case hsa =>
     intro st hst al hal
     cases hal
   case hsw =>
     intro st hst al hal e
     cases hal
   case htg =>
     intro st hst
     rcases List.mem_singleton.1 hst with rfl
     · exact .inl ⟨_, _, rfl, show 0 + 2 ≤ 6 by decide⟩
   case hE2 =>
     intro hf j h1 h2
     have n5 : 5 ≠ j := h1 _ (List.mem_cons_self ..)
     rcases j with _ | _ | _ | _ | _ | _ | _ | _ | j
     · rfl
     · rfl
     · rfl
     · rfl
     · rfl
     · exact absurd rfl n5
     · rfl
     · rfl
     · rfl
   case hE3 =>
     intro hf st hst g us e
     rcases List.mem_singleton.1 hst with rfl
     · obtain ⟨rfl, rfl⟩ := Prod.mk.inj (Option.some.inj (Option.some.inj e)); rfl
   case hE4 =>
     intro hf al hal
     cases hal
   case hL1 => intro hf; rfl
   case hL2 =>
     intro hf i hi hna
     have hi : i < 10 := hi
     have : i = 0 ∨ i = 1 ∨ i = 2 ∨ i = 3 ∨ i = 4 ∨ i = 5 ∨ i = 6 ∨ i = 7 ∨ i = 8 ∨ i = 9 := by omega
     rcases this with rfl | rfl | rfl | rfl | rfl | rfl | rfl | rfl | rfl | rfl
     · rfl
     · rfl
     · rfl
     · rfl
     · rfl
     · rfl
     · rfl
     · rfl
     · rfl
     · rfl
   case hL3 => intro hf al hal; cases hal
   case alloc =>
     intro al hal o ρ W ho
     cases hal
   case step =>
     intro L W i o ho hs ha hd hB
     have hi : i < 10 := (Array.getElem?_eq_some_iff.1 ho).1
     have : i = 0 ∨ i = 1 ∨ i = 2 ∨ i = 3 ∨ i = 4 ∨ i = 5 ∨ i = 6 ∨ i = 7 ∨ i = 8 ∨ i = 9 := by omega
     rcases this with rfl | rfl | rfl | rfl | rfl | rfl | rfl | rfl | rfl | rfl
     · obtain rfl := Option.some.inj ho
       refine .value W ?_ (Below.refl _ _)
       generalize hA : (puts ds L _).eval = ρ
       have hc : ∀ v, ρ (.const v) = v := fun v => by rw [← hA]; rfl
       have h0 : ρ (.tmp 12) = .int .i64 0 := by rw [← hA]; exact (puts_old ds L _ (by rw [hds]; decide)).trans rfl
       clear hA hd hB ho hs ha
       unfold execOp
       go_simp
     · obtain rfl := Option.some.inj ho
       have b := hB 4 _ _ rfl (by
         intro st hst e
         rcases List.mem_singleton.1 hst with rfl
         · exact absurd e (show ¬ 5 = 4 by decide))
       have c0 := b.at_ 0 _ rfl
       have c1 := b.at_ 1 _ rfl
       clear b
       refine .value W ?_ (Below.refl _ _)
       generalize hA : (puts ds L _).eval = ρ
       have hc : ∀ v, ρ (.const v) = v := fun v => by rw [← hA]; rfl
       have h0 : ρ (.tmp 9) = .pointer (some ⟨g1 + 1, 0, none⟩) := by rw [← hA]; exact (puts_old ds L _ (by rw [hds]; decide)).trans rfl
       clear hA hd hB ho hs ha
       unfold execOp
       go_simp
     · obtain rfl := Option.some.inj ho
       have b := hB 6 _ _ rfl (by
         intro st hst e
         rcases List.mem_singleton.1 hst with rfl
         · exact absurd e (show ¬ 5 = 6 by decide))
       have c0 := b.at_ 0 _ rfl
       have c1 := b.at_ 1 _ rfl
       clear b
       refine .value W ?_ (Below.refl _ _)
       generalize hA : (puts ds L _).eval = ρ
       have hc : ∀ v, ρ (.const v) = v := fun v => by rw [← hA]; rfl
       have h0 : ρ (.tmp 14) = .pointer (some ⟨ga, 0, none⟩) := by rw [← hA]; exact (puts_old ds L _ (by rw [hds]; decide)).trans rfl
       clear hA hd hB ho hs ha
       unfold execOp
       go_simp
     · obtain rfl := Option.some.inj ho
       refine .call 136 #[.agg #[.float .f64 c1, .float .f64 c2], .agg #[.float .f64 a1, .float .f64 a2]] ?_ (D1.out W)
       generalize hA : (puts ds L _).eval = ρ
       have hc : ∀ v, ρ (.const v) = v := fun v => by rw [← hA]; rfl
       have hg : ∀ g, ρ (.func g) = .func (.func g) #[] #[] := fun v => by rw [← hA]; rfl
       have h0 : ρ (.tmp 54) = .agg #[.float .f64 c1, .float .f64 c2] := by rw [← hA]; exact puts_get 1 ds L _ hap (by rw [hds]; rfl) (hd 1 (by decide +kernel) (by intro al hal; cases hal)) (show 54 < 85 by decide)
       have h1 : ρ (.tmp 55) = .agg #[.float .f64 a1, .float .f64 a2] := by rw [← hA]; exact puts_get 2 ds L _ hap (by rw [hds]; rfl) (hd 2 (by decide +kernel) (by intro al hal; cases hal)) (show 55 < 85 by decide)
       have hf := Tryz.func136
       unfold execOp
       go_simp
     · obtain rfl := Option.some.inj ho
       have b := hB 3 _ _ rfl (by
         intro st hst e
         rcases List.mem_singleton.1 hst with rfl
         · exact absurd e (show ¬ 5 = 3 by decide))
       have c0 := b.at_ 0 _ rfl
       have c1 := b.at_ 1 _ rfl
       clear b
       refine .value W ?_ (Below.refl _ _)
       generalize hA : (puts ds L _).eval = ρ
       have hc : ∀ v, ρ (.const v) = v := fun v => by rw [← hA]; rfl
       have h0 : ρ (.tmp 8) = .pointer (some ⟨g1, 0, none⟩) := by rw [← hA]; exact (puts_old ds L _ (by rw [hds]; decide)).trans rfl
       clear hA hd hB ho hs ha
       unfold execOp
       go_simp
     · obtain rfl := Option.some.inj ho
       have b := hB 7 _ _ rfl (by
         intro st hst e
         rcases List.mem_singleton.1 hst with rfl
         · exact absurd e (show ¬ 5 = 7 by decide))
       have c0 := b.at_ 0 _ rfl
       have c1 := b.at_ 1 _ rfl
       clear b
       refine .value W ?_ (Below.refl _ _)
       generalize hA : (puts ds L _).eval = ρ
       have hc : ∀ v, ρ (.const v) = v := fun v => by rw [← hA]; rfl
       have h0 : ρ (.tmp 15) = .pointer (some ⟨gb, 0, none⟩) := by rw [← hA]; exact (puts_old ds L _ (by rw [hds]; decide)).trans rfl
       clear hA hd hB ho hs ha
       unfold execOp
       go_simp
     · obtain rfl := Option.some.inj ho
       refine .call 136 #[.agg #[.float .f64 s1, .float .f64 s2], .agg #[.float .f64 a3, .float .f64 a4]] ?_ (D2.out W)
       generalize hA : (puts ds L _).eval = ρ
       have hc : ∀ v, ρ (.const v) = v := fun v => by rw [← hA]; rfl
       have hg : ∀ g, ρ (.func g) = .func (.func g) #[] #[] := fun v => by rw [← hA]; rfl
       have h0 : ρ (.tmp 57) = .agg #[.float .f64 s1, .float .f64 s2] := by rw [← hA]; exact puts_get 4 ds L _ hap (by rw [hds]; rfl) (hd 4 (by decide +kernel) (by intro al hal; cases hal)) (show 57 < 85 by decide)
       have h1 : ρ (.tmp 58) = .agg #[.float .f64 a3, .float .f64 a4] := by rw [← hA]; exact puts_get 5 ds L _ hap (by rw [hds]; rfl) (hd 5 (by decide +kernel) (by intro al hal; cases hal)) (show 58 < 85 by decide)
       have hf := Tryz.func136
       unfold execOp
       go_simp
     · obtain rfl := Option.some.inj ho
       refine .call 135 #[.agg #[.float .f64 m11, .float .f64 m12], .agg #[.float .f64 m21, .float .f64 m22]] ?_ (D3'.out W)
       generalize hA : (puts ds L _).eval = ρ
       have hc : ∀ v, ρ (.const v) = v := fun v => by rw [← hA]; rfl
       have hg : ∀ g, ρ (.func g) = .func (.func g) #[] #[] := fun v => by rw [← hA]; rfl
       have h0 : ρ (.tmp 56) = .agg #[.float .f64 m11, .float .f64 m12] := by rw [← hA]; exact puts_get 3 ds L _ hap (by rw [hds]; rfl) (hd 3 (by decide +kernel) (by intro al hal; cases hal)) (show 56 < 85 by decide)
       have h1 : ρ (.tmp 59) = .agg #[.float .f64 m21, .float .f64 m22] := by rw [← hA]; exact puts_get 6 ds L _ hap (by rw [hds]; rfl) (hd 6 (by decide +kernel) (by intro al hal; cases hal)) (show 59 < 85 by decide)
       have hf := Tryz.func135
       unfold execOp
       go_simp
     · obtain rfl := Option.some.inj ho
       refine .value W ?_ (Below.refl _ _)
       generalize hA : (puts ds L _).eval = ρ
       have hc : ∀ v, ρ (.const v) = v := fun v => by rw [← hA]; rfl
       have h0 : ρ (.tmp 11) = .pointer (some ⟨h, 0, none⟩) := by rw [← hA]; exact (puts_old ds L _ (by rw [hds]; decide)).trans rfl
       have h1 : ρ (.tmp 53) = .int .i64 0 := by rw [← hA]; exact puts_get 0 ds L _ hap (by rw [hds]; rfl) (hd 0 (by decide +kernel) (by intro al hal; cases hal)) (show 53 < 85 by decide)
       clear hA hd hB ho hs ha
       unfold execOp
       go_simp
     · exact absurd rfl (hs _ (List.mem_cons_self ..))
   case store =>
     intro st hst L W o h us ho hd hal hC b
     rcases List.mem_singleton.1 hst with rfl
     · dsimp only at ho hd hal hC b ⊢
       obtain rfl := Option.some.inj ho
       obtain ⟨rfl, rfl⟩ := hC _ _ rfl
       have c0 := b.at_ 0 _ rfl
       have f0 := b.fr 0 _ rfl
       have c1 := b.at_ 1 _ rfl
       have f1 := b.fr 1 _ rfl
       refine ⟨?_, rfl⟩
       generalize hA : (puts ds L _).eval = ρ
       have h0 : ρ (.tmp 61) = .pointer (some ⟨h, 0, none⟩) := by rw [← hA]; exact puts_get 8 ds L _ hap (by rw [hds]; rfl) (hd 8 (by decide +kernel) (by intro al hal; cases hal)) (show 61 < 85 by decide)
       have h1 : ρ (.tmp 60) = .agg #[.float .f64 y11, .float .f64 y12] := by rw [← hA]; exact puts_get 7 ds L _ hap (by rw [hds]; rfl) (hd 7 (by decide +kernel) (by intro al hal; cases hal)) (show 60 < 85 by decide)
       have hst' := @fstore
       clear hA hd b ho hal hC
       simp only [putW]
       unfold execOp
       go_simp
   case fin =>
     intro hf W1 K
     rw [hds]
     clear hds hap ds D1 D2 D3'
     (try dsimp only at K)
     simp only [List.set_cons_zero, List.set_cons_succ, puts, Act.put, List.setIfInBounds_toArray]
     replace K := Lib.hid K
     go_upto_region 12 with fail
     replace K := K.out
     generalize hds : ([some 62, some 63, some 64, some 65, some 66, some 67, some 68, some 69, some 70, none] : List (Option Tmp)) = ds
     have hap : apartL ds = true := by rw [← hds]; decide
     replace hds := hds.symm
     refine wp_region_k (fun hf => [some (w.heap.size, [p1, p2]), some (w.heap.size + 1, [a1, a2, a3, a4, a5, a6]), some (w.heap.size + 1 + 1, [0, 0, 0, 0, 0, 0]), some (g1, [s1, s2]), some (g1 + 1, [c1, c2]), some (h, [y11, y12, y21, y22, a5, a6]), some (ga, [a1, a2]), some (gb, [a3, a4])]) (fun hf => [some (.int .i64 1), some (.agg #[.float .f64 s1, .float .f64 s2]), some (.agg #[.float .f64 a1, .float .f64 a2]), some (.agg #[.float .f64 m31, .float .f64 m32]), some (.agg #[.float .f64 c1, .float .f64 c2]), some (.agg #[.float .f64 a3, .float .f64 a4]), some (.agg #[.float .f64 m41, .float .f64 m42]), some (.agg #[.float .f64 y21, .float .f64 y22]), some (.pointer (some ⟨h, 2, none⟩)), some (undef)]) [] [⟨9, 5, 2, [y21, y22]⟩] [.int .i64 1, .agg #[.float .f64 s1, .float .f64 s2], .agg #[.float .f64 a1, .float .f64 a2], .agg #[.float .f64 m31, .float .f64 m32], .agg #[.float .f64 c1, .float .f64 c2], .agg #[.float .f64 a3, .float .f64 a4], .agg #[.float .f64 m41, .float .f64 m42], .agg #[.float .f64 y21, .float .f64 y22], .pointer (some ⟨h, 2, none⟩), undef] ds (by kernel_rfl) (by rw [hds]; rfl) hap (by decide +kernel) (by decide +kernel) K ?ha ?haj ?hai ?hsi ?hss ?hsa ?hsw ?htg ?hE2 ?hE3 ?hE4 ?hL1 ?hL2 ?hL3 ?alloc ?step ?store ?fin
     case ha => intro al hal; cases hal
     case haj => intro al hal al' hal' e; cases hal
     case hai => intro al hal; cases hal
     case hsi => intro st hst st' hst' e; rcases List.mem_singleton.1 hst with rfl <;> (rcases List.mem_singleton.1 hst' with rfl) <;> first | rfl | (exfalso; revert e; simp)
     case hss =>
       intro st hst
       rcases List.mem_singleton.1 hst with rfl
       · show 9 < 10; decide
     case hsa =>
       intro st hst al hal
       cases hal
     case hsw =>
       intro st hst al hal e
       cases hal
     case htg =>
       intro st hst
       rcases List.mem_singleton.1 hst with rfl
       · exact .inl ⟨_, _, rfl, show 2 + 2 ≤ 6 by decide⟩
     case hE2 =>
       intro hf j h1 h2
       have n5 : 5 ≠ j := h1 _ (List.mem_cons_self ..)
       rcases j with _ | _ | _ | _ | _ | _ | _ | _ | j
       · rfl
       · rfl
       · rfl
       · rfl
       · rfl
       · exact absurd rfl n5
       · rfl
       · rfl
       · rfl
     case hE3 =>
       intro hf st hst g us e
       rcases List.mem_singleton.1 hst with rfl
       · obtain ⟨rfl, rfl⟩ := Prod.mk.inj (Option.some.inj (Option.some.inj e)); rfl
     case hE4 =>
       intro hf al hal
       cases hal
     case hL1 => intro hf; rfl
     case hL2 =>
       intro hf i hi hna
       have hi : i < 10 := hi
       have : i = 0 ∨ i = 1 ∨ i = 2 ∨ i = 3 ∨ i = 4 ∨ i = 5 ∨ i = 6 ∨ i = 7 ∨ i = 8 ∨ i = 9 := by omega
       rcases this with rfl | rfl | rfl | rfl | rfl | rfl | rfl | rfl | rfl | rfl
       · rfl
       · rfl
       · rfl
       · rfl
       · rfl
       · rfl
       · rfl
       · rfl
       · rfl
       · rfl
     case hL3 => intro hf al hal; cases hal
     case alloc =>
       intro al hal o ρ W ho
       cases hal
     case step =>
       intro L W i o ho hs ha hd hB
       have hi : i < 10 := (Array.getElem?_eq_some_iff.1 ho).1
       have : i = 0 ∨ i = 1 ∨ i = 2 ∨ i = 3 ∨ i = 4 ∨ i = 5 ∨ i = 6 ∨ i = 7 ∨ i = 8 ∨ i = 9 := by omega
       rcases this with rfl | rfl | rfl | rfl | rfl | rfl | rfl | rfl | rfl | rfl
       · obtain rfl := Option.some.inj ho
         refine .value W ?_ (Below.refl _ _)
         generalize hA : (puts ds L _).eval = ρ
         have hc : ∀ v, ρ (.const v) = v := fun v => by rw [← hA]; rfl
         have h0 : ρ (.tmp 13) = .int .i64 1 := by rw [← hA]; exact (puts_old ds L _ (by rw [hds]; decide)).trans rfl
         clear hA hd hB ho hs ha
         unfold execOp
         go_simp
       · obtain rfl := Option.some.inj ho
         have b := hB 3 _ _ rfl (by
           intro st hst e
           rcases List.mem_singleton.1 hst with rfl
           · exact absurd e (show ¬ 5 = 3 by decide))
         have c0 := b.at_ 0 _ rfl
         have c1 := b.at_ 1 _ rfl
         clear b
         refine .value W ?_ (Below.refl _ _)
         generalize hA : (puts ds L _).eval = ρ
         have hc : ∀ v, ρ (.const v) = v := fun v => by rw [← hA]; rfl
         have h0 : ρ (.tmp 8) = .pointer (some ⟨g1, 0, none⟩) := by rw [← hA]; exact (puts_old ds L _ (by rw [hds]; decide)).trans rfl
         clear hA hd hB ho hs ha
         unfold execOp
         go_simp
       · obtain rfl := Option.some.inj ho
         have b := hB 6 _ _ rfl (by
           intro st hst e
           rcases List.mem_singleton.1 hst with rfl
           · exact absurd e (show ¬ 5 = 6 by decide))
         have c0 := b.at_ 0 _ rfl
         have c1 := b.at_ 1 _ rfl
         clear b
         refine .value W ?_ (Below.refl _ _)
         generalize hA : (puts ds L _).eval = ρ
         have hc : ∀ v, ρ (.const v) = v := fun v => by rw [← hA]; rfl
         have h0 : ρ (.tmp 14) = .pointer (some ⟨ga, 0, none⟩) := by rw [← hA]; exact (puts_old ds L _ (by rw [hds]; decide)).trans rfl
         clear hA hd hB ho hs ha
         unfold execOp
         go_simp
       · obtain rfl := Option.some.inj ho
         refine .call 136 #[.agg #[.float .f64 s1, .float .f64 s2], .agg #[.float .f64 a1, .float .f64 a2]] ?_ (D4.out W)
         generalize hA : (puts ds L _).eval = ρ
         have hc : ∀ v, ρ (.const v) = v := fun v => by rw [← hA]; rfl
         have hg : ∀ g, ρ (.func g) = .func (.func g) #[] #[] := fun v => by rw [← hA]; rfl
         have h0 : ρ (.tmp 63) = .agg #[.float .f64 s1, .float .f64 s2] := by rw [← hA]; exact puts_get 1 ds L _ hap (by rw [hds]; rfl) (hd 1 (by decide +kernel) (by intro al hal; cases hal)) (show 63 < 85 by decide)
         have h1 : ρ (.tmp 64) = .agg #[.float .f64 a1, .float .f64 a2] := by rw [← hA]; exact puts_get 2 ds L _ hap (by rw [hds]; rfl) (hd 2 (by decide +kernel) (by intro al hal; cases hal)) (show 64 < 85 by decide)
         have hf := Tryz.func136
         unfold execOp
         go_simp
       · obtain rfl := Option.some.inj ho
         have b := hB 4 _ _ rfl (by
           intro st hst e
           rcases List.mem_singleton.1 hst with rfl
           · exact absurd e (show ¬ 5 = 4 by decide))
         have c0 := b.at_ 0 _ rfl
         have c1 := b.at_ 1 _ rfl
         clear b
         refine .value W ?_ (Below.refl _ _)
         generalize hA : (puts ds L _).eval = ρ
         have hc : ∀ v, ρ (.const v) = v := fun v => by rw [← hA]; rfl
         have h0 : ρ (.tmp 9) = .pointer (some ⟨g1 + 1, 0, none⟩) := by rw [← hA]; exact (puts_old ds L _ (by rw [hds]; decide)).trans rfl
         clear hA hd hB ho hs ha
         unfold execOp
         go_simp
       · obtain rfl := Option.some.inj ho
         have b := hB 7 _ _ rfl (by
           intro st hst e
           rcases List.mem_singleton.1 hst with rfl
           · exact absurd e (show ¬ 5 = 7 by decide))
         have c0 := b.at_ 0 _ rfl
         have c1 := b.at_ 1 _ rfl
         clear b
         refine .value W ?_ (Below.refl _ _)
         generalize hA : (puts ds L _).eval = ρ
         have hc : ∀ v, ρ (.const v) = v := fun v => by rw [← hA]; rfl
         have h0 : ρ (.tmp 15) = .pointer (some ⟨gb, 0, none⟩) := by rw [← hA]; exact (puts_old ds L _ (by rw [hds]; decide)).trans rfl
         clear hA hd hB ho hs ha
         unfold execOp
         go_simp
       · obtain rfl := Option.some.inj ho
         refine .call 136 #[.agg #[.float .f64 c1, .float .f64 c2], .agg #[.float .f64 a3, .float .f64 a4]] ?_ (D5.out W)
         generalize hA : (puts ds L _).eval = ρ
         have hc : ∀ v, ρ (.const v) = v := fun v => by rw [← hA]; rfl
         have hg : ∀ g, ρ (.func g) = .func (.func g) #[] #[] := fun v => by rw [← hA]; rfl
         have h0 : ρ (.tmp 66) = .agg #[.float .f64 c1, .float .f64 c2] := by rw [← hA]; exact puts_get 4 ds L _ hap (by rw [hds]; rfl) (hd 4 (by decide +kernel) (by intro al hal; cases hal)) (show 66 < 85 by decide)
         have h1 : ρ (.tmp 67) = .agg #[.float .f64 a3, .float .f64 a4] := by rw [← hA]; exact puts_get 5 ds L _ hap (by rw [hds]; rfl) (hd 5 (by decide +kernel) (by intro al hal; cases hal)) (show 67 < 85 by decide)
         have hf := Tryz.func136
         unfold execOp
         go_simp
       · obtain rfl := Option.some.inj ho
         refine .call 137 #[.agg #[.float .f64 m31, .float .f64 m32], .agg #[.float .f64 m41, .float .f64 m42]] ?_ (D6.out W)
         generalize hA : (puts ds L _).eval = ρ
         have hc : ∀ v, ρ (.const v) = v := fun v => by rw [← hA]; rfl
         have hg : ∀ g, ρ (.func g) = .func (.func g) #[] #[] := fun v => by rw [← hA]; rfl
         have h0 : ρ (.tmp 65) = .agg #[.float .f64 m31, .float .f64 m32] := by rw [← hA]; exact puts_get 3 ds L _ hap (by rw [hds]; rfl) (hd 3 (by decide +kernel) (by intro al hal; cases hal)) (show 65 < 85 by decide)
         have h1 : ρ (.tmp 68) = .agg #[.float .f64 m41, .float .f64 m42] := by rw [← hA]; exact puts_get 6 ds L _ hap (by rw [hds]; rfl) (hd 6 (by decide +kernel) (by intro al hal; cases hal)) (show 68 < 85 by decide)
         have hf := Tryz.func137
         unfold execOp
         go_simp
       · obtain rfl := Option.some.inj ho
         refine .value W ?_ (Below.refl _ _)
         generalize hA : (puts ds L _).eval = ρ
         have hc : ∀ v, ρ (.const v) = v := fun v => by rw [← hA]; rfl
         have h0 : ρ (.tmp 11) = .pointer (some ⟨h, 0, none⟩) := by rw [← hA]; exact (puts_old ds L _ (by rw [hds]; decide)).trans rfl
         have h1 : ρ (.tmp 62) = .int .i64 1 := by rw [← hA]; exact puts_get 0 ds L _ hap (by rw [hds]; rfl) (hd 0 (by decide +kernel) (by intro al hal; cases hal)) (show 62 < 85 by decide)
         clear hA hd hB ho hs ha
         unfold execOp
         go_simp
       · exact absurd rfl (hs _ (List.mem_cons_self ..))
     case store =>
       intro st hst L W o h us ho hd hal hC b
       rcases List.mem_singleton.1 hst with rfl
       · dsimp only at ho hd hal hC b ⊢
         obtain rfl := Option.some.inj ho
         obtain ⟨rfl, rfl⟩ := hC _ _ rfl
         have c0 := b.at_ 2 _ rfl
         have f0 := b.fr 2 _ rfl
         have c1 := b.at_ 3 _ rfl
         have f1 := b.fr 3 _ rfl
         refine ⟨?_, rfl⟩
         generalize hA : (puts ds L _).eval = ρ
         have h0 : ρ (.tmp 70) = .pointer (some ⟨h, 2, none⟩) := by rw [← hA]; exact puts_get 8 ds L _ hap (by rw [hds]; rfl) (hd 8 (by decide +kernel) (by intro al hal; cases hal)) (show 70 < 85 by decide)
         have h1 : ρ (.tmp 69) = .agg #[.float .f64 y21, .float .f64 y22] := by rw [← hA]; exact puts_get 7 ds L _ hap (by rw [hds]; rfl) (hd 7 (by decide +kernel) (by intro al hal; cases hal)) (show 69 < 85 by decide)
         have hst' := @fstore
         clear hA hd b ho hal hC
         simp only [putW]
         unfold execOp
         go_simp
     case fin =>
       intro hf W2 K
       rw [hds]
       clear hds hap ds D4 D5 D6
       (try dsimp only at K)
       simp only [List.set_cons_zero, List.set_cons_succ, puts, Act.put, List.setIfInBounds_toArray]
       have c5_4 := (K.at_ 5 rfl).at_ 4 _ rfl
       have c5_5 := (K.at_ 5 rfl).at_ 5 _ rfl
       replace K := Lib.hid K
       go_wp2_with fail
       replace K := K.out
       refine (D7.out W2).mono ?_
       rintro _ v9 ⟨rfl, hb⟩
       clear c5_4 c5_5
       replace K := K.on hb
       clear hb D7
       have c5_0 := (K.at_ 5 rfl).at_ 0 _ rfl
       have f5_0 := (K.at_ 5 rfl).fr 0 _ rfl
       have c5_1 := (K.at_ 5 rfl).at_ 1 _ rfl
       have f5_1 := (K.at_ 5 rfl).fr 1 _ rfl
       have c5_2 := (K.at_ 5 rfl).at_ 2 _ rfl
       have f5_2 := (K.at_ 5 rfl).fr 2 _ rfl
       have c5_3 := (K.at_ 5 rfl).at_ 3 _ rfl
       have f5_3 := (K.at_ 5 rfl).fr 3 _ rfl
       have c5_4 := (K.at_ 5 rfl).at_ 4 _ rfl
       have f5_4 := (K.at_ 5 rfl).fr 4 _ rfl
       have c5_5 := (K.at_ 5 rfl).at_ 5 _ rfl
       have f5_5 := (K.at_ 5 rfl).fr 5 _ rfl
       have c2_0 := (K.at_ 2 rfl).at_ 0 _ rfl
       have f2_0 := (K.at_ 2 rfl).fr 0 _ rfl
       have c2_1 := (K.at_ 2 rfl).at_ 1 _ rfl
       have f2_1 := (K.at_ 2 rfl).fr 1 _ rfl
       have c2_2 := (K.at_ 2 rfl).at_ 2 _ rfl
       have f2_2 := (K.at_ 2 rfl).fr 2 _ rfl
       have c2_3 := (K.at_ 2 rfl).at_ 3 _ rfl
       have f2_3 := (K.at_ 2 rfl).fr 3 _ rfl
       have c2_4 := (K.at_ 2 rfl).at_ 4 _ rfl
       have f2_4 := (K.at_ 2 rfl).fr 4 _ rfl
       have c2_5 := (K.at_ 2 rfl).at_ 5 _ rfl
       have f2_5 := (K.at_ 2 rfl).fr 5 _ rfl
       have hh := Lib.hid (K.blk 5 _ _ rfl).1
       have hn1 : ¬ (w.heap.size + 1 + 1 = h) := fun e => by have := K.inj 2 5 _ _ _ rfl (by rw [e]; rfl); exact absurd this (by decide)
       have hn2 : ¬ (h = w.heap.size + 1 + 1) := fun e => hn1 e.symm
       replace K := Lib.hid K
       go_wp2_with fail
       replace K := K.out
       replace hh := hh.out
       (try simp only [Exit.inBlock, Exit.then])
       refine bodyPost_ret (v := .tuple #[.agg #[.float .f64 y11, .float .f64 y12, .float .f64 y21, .float .f64 y22, .float .f64 e1, .float .f64 e2], .int .i64 0]) ?_ rfl ⟨rfl, ?_⟩
       · rw [results_cell_tmp rfl]; go_simp
       · exact ((((((((K.old).setCell (by first | exact Nat.le_refl _ | (dsimp only; omega)) _).setCell (by first | exact Nat.le_refl _ | (dsimp only; omega)) _).setCell (by first | exact Nat.le_refl _ | (dsimp only; omega)) _).setCell (by first | exact Nat.le_refl _ | (dsimp only; omega)) _).setCell (by first | exact Nat.le_refl _ | (dsimp only; omega)) _).setCell (by first | exact Nat.le_refl _ | (dsimp only; omega)) _).setCell (by first | exact Nat.le_refl _ | (dsimp only; omega)) _).setCell (by first | exact Nat.le_refl _ | (dsimp only; omega)) _
end Go.Proofs.YtkpdnhbifokhlaaGreat
