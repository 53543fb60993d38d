/- Proved here: what the texts Wvd, Wve prove, one behind the other. -/
import Derived.Test.YtgnofnjbmiepjaaGreatJw2
import Derived.Test.YtgnofnjbmiepjaaGreatJy11
import Derived.Test.YtgnofnjbmiepjaaGreatJx1

set_option maxHeartbeats 4000000
set_option maxRecDepth 100000
namespace Go.Proofs.YtgnofnjbmiepjaaGreat
open Go.ChangeShapes Go.WideShapes Go.ChangeAt Go.RowKit Ieee.Own Pol

theorem wsures_run {p1 p2 : Nat} (k : Int) (w : World) : Calls Tryz.prog 31 #[.agg #[.float .f64 p1, .float .f64 p2], .int .i64 k] w fun e w' => e = .returned (.agg #[.float .f64 p1, .float .f64 p2]) ∧ Below w.heap.size w w' := by
 have hst := @fstore
 go_enter Tryz.func31, Tryz.ntmps31
 go_wp2_with fail
 (try simp only [Exit.inBlock, Exit.then])
 refine bodyPost_ret (v := .agg #[.float .f64 p1, .float .f64 p2]) ?_ rfl ⟨rfl, ((Below.refl _ w).alloc (Nat.le_refl _) _).alloc (by simp) _⟩
 rw [results_cell1 rfl]; go_simp
theorem wadd_shape {p1 p2 q1 q2 u1 u2 : Nat} {k : Int} (C : Hid (∀ w, Calls Tryz.prog 32 #[.agg #[.float .f64 p1, .float .f64 p2], .agg #[.float .f64 q1, .float .f64 q2]] w fun e w' => e = .returned (.tuple #[.agg #[.float .f64 u1, .float .f64 u2], .int .i64 k]) ∧ Below w.heap.size w w')) (w : World) : Calls Tryz.prog 14 #[.agg #[.float .f64 p1, .float .f64 p2], .agg #[.float .f64 q1, .float .f64 q2]] w fun e w' => e = .returned (.agg #[.float .f64 u1, .float .f64 u2]) ∧ Below w.heap.size w w' := by
 have CU := Lib.hid (fun w => wsures_run (p1 := u1) (p2 := u2) k w)
 have K0 := kv3 w 25 25 25 [.float .f64 p1, .float .f64 p2] [.float .f64 q1, .float .f64 q2] [.float .f64 0, .float .f64 0]
 simp only [objV] at K0
 have hst := @fstore
 replace K0 := Lib.hid K0
 go_enter Tryz.func14, Tryz.ntmps14
 go_wp2_with fail
 have K := K0.out
 clear K0
 generalize ((w.alloc _).alloc _).alloc _ = wr at *
 refine (C.out wr).mono ?_
 rintro _ v1 ⟨rfl, hb⟩
 replace K := K.on hb
 clear hb
 replace K := Lib.hid K
 go_wp2_with fail
 replace K := K.out
 refine (CU.out v1).mono ?_
 rintro _ v2 ⟨rfl, hb⟩
 replace K := K.on hb
 clear hb
 have c2_0 := (K.at_ 2 rfl).at_ 0 _ rfl
 have f2_0 := (K.at_ 2 rfl).fr 0 _ rfl
 have c2_1 := (K.at_ 2 rfl).at_ 1 _ rfl
 have f2_1 := (K.at_ 2 rfl).fr 1 _ rfl
 replace K := Lib.hid K
 go_wp2_with fail
 replace K := K.out
 (try simp only [Exit.inBlock, Exit.then])
 refine bodyPost_ret (v := .agg #[.float .f64 u1, .float .f64 u2]) ?_ rfl ⟨rfl, ?_⟩
 · rw [results_cell1 rfl]; go_simp
 · exact ((K.old).setCell (by first | exact Nat.le_refl _ | omega | (dsimp only; omega)) _).setCell (by first | exact Nat.le_refl _ | omega | (dsimp only; omega)) _
theorem wmul_shape {p1 p2 q1 q2 u1 u2 : Nat} {k : Int} (C : Hid (∀ w, Calls Tryz.prog 66 #[.agg #[.float .f64 p1, .float .f64 p2], .agg #[.float .f64 q1, .float .f64 q2]] w fun e w' => e = .returned (.tuple #[.agg #[.float .f64 u1, .float .f64 u2], .int .i64 k]) ∧ Below w.heap.size w w')) (w : World) : Calls Tryz.prog 35 #[.agg #[.float .f64 p1, .float .f64 p2], .agg #[.float .f64 q1, .float .f64 q2]] w fun e w' => e = .returned (.agg #[.float .f64 u1, .float .f64 u2]) ∧ Below w.heap.size w w' := by
 have CU := Lib.hid (fun w => wsures_run (p1 := u1) (p2 := u2) k w)
 have K0 := kv3 w 25 25 25 [.float .f64 p1, .float .f64 p2] [.float .f64 q1, .float .f64 q2] [.float .f64 0, .float .f64 0]
 simp only [objV] at K0
 have hst := @fstore
 replace K0 := Lib.hid K0
 go_enter Tryz.func35, Tryz.ntmps35
 go_wp2_with fail
 have K := K0.out
 clear K0
 generalize ((w.alloc _).alloc _).alloc _ = wr at *
 refine (C.out wr).mono ?_
 rintro _ v1 ⟨rfl, hb⟩
 replace K := K.on hb
 clear hb
 replace K := Lib.hid K
 go_wp2_with fail
 replace K := K.out
 refine (CU.out v1).mono ?_
 rintro _ v2 ⟨rfl, hb⟩
 replace K := K.on hb
 clear hb
 have c2_0 := (K.at_ 2 rfl).at_ 0 _ rfl
 have f2_0 := (K.at_ 2 rfl).fr 0 _ rfl
 have c2_1 := (K.at_ 2 rfl).at_ 1 _ rfl
 have f2_1 := (K.at_ 2 rfl).fr 1 _ rfl
 replace K := Lib.hid K
 go_wp2_with fail
 replace K := K.out
 (try simp only [Exit.inBlock, Exit.then])
 refine bodyPost_ret (v := .agg #[.float .f64 u1, .float .f64 u2]) ?_ rfl ⟨rfl, ?_⟩
 · rw [results_cell1 rfl]; go_simp
 · exact ((K.old).setCell (by first | exact Nat.le_refl _ | omega | (dsimp only; omega)) _).setCell (by first | exact Nat.le_refl _ | omega | (dsimp only; omega)) _
theorem wpoint_shape {x u1 u2 : Nat} {k : Int} (C : Hid (∀ w, Calls Tryz.prog 65 #[.float .f64 x] w fun e w' => e = .returned (.tuple #[.agg #[.float .f64 u1, .float .f64 u2], .int .i64 k]) ∧ Below w.heap.size w w')) (w : World) : Calls Tryz.prog 34 #[.float .f64 x] w fun e w' => e = .returned (.agg #[.float .f64 u1, .float .f64 u2]) ∧ Below w.heap.size w w' := by
 have CU := Lib.hid (fun w => wsures_run (p1 := u1) (p2 := u2) k w)
 have K0 := kv1 w 25 [.float .f64 0, .float .f64 0]
 simp only [objV] at K0
 have hst := @fstore
 replace K0 := Lib.hid K0
 go_enter Tryz.func34, Tryz.ntmps34
 go_wp2_with fail
 have K := K0.out
 clear K0
 generalize w.alloc _ = wr at *
 refine (C.out wr).mono ?_
 rintro _ v1 ⟨rfl, hb⟩
 replace K := K.on hb
 clear hb
 replace K := Lib.hid K
 go_wp2_with fail
 replace K := K.out
 refine (CU.out v1).mono ?_
 rintro _ v2 ⟨rfl, hb⟩
 replace K := K.on hb
 clear hb
 have c0_0 := (K.at_ 0 rfl).at_ 0 _ rfl
 have f0_0 := (K.at_ 0 rfl).fr 0 _ rfl
 have c0_1 := (K.at_ 0 rfl).at_ 1 _ rfl
 have f0_1 := (K.at_ 0 rfl).fr 1 _ rfl
 replace K := Lib.hid K
 go_wp2_with fail
 replace K := K.out
 (try simp only [Exit.inBlock, Exit.then])
 refine bodyPost_ret (v := .agg #[.float .f64 u1, .float .f64 u2]) ?_ rfl ⟨rfl, ?_⟩
 · rw [results_cell1 rfl]; go_simp
 · exact ((K.old).setCell (by first | exact Nat.le_refl _ | omega | (dsimp only; omega)) _).setCell (by first | exact Nat.le_refl _ | omega | (dsimp only; omega)) _
theorem wheights_shape {ax pw : Int} {am ph rt t1 t2 a1 a2 b1 b2 m1 m2 c1 c2 s1 s2 o1 o2 d1 d2 x1 x2 e1 e2 u1 u2 r1 r2 : Nat} (CP1 : Hid (∀ w, Calls Tryz.prog 34 #[.float .f64 ph] w fun e w' => e = .returned (.agg #[.float .f64 a1, .float .f64 a2]) ∧ Below w.heap.size w w')) (CP2 : Hid (∀ w, Calls Tryz.prog 34 #[.float .f64 rt] w fun e w' => e = .returned (.agg #[.float .f64 b1, .float .f64 b2]) ∧ Below w.heap.size w w')) (CM : Hid (∀ w, Calls Tryz.prog 35 #[.agg #[.float .f64 b1, .float .f64 b2], .agg #[.float .f64 t1, .float .f64 t2]] w fun e w' => e = .returned (.agg #[.float .f64 m1, .float .f64 m2]) ∧ Below w.heap.size w w')) (CA : Hid (∀ w, Calls Tryz.prog 14 #[.agg #[.float .f64 a1, .float .f64 a2], .agg #[.float .f64 m1, .float .f64 m2]] w fun e w' => e = .returned (.agg #[.float .f64 c1, .float .f64 c2]) ∧ Below w.heap.size w w')) (CS : Hid (∀ w, Calls Tryz.prog 33 #[.agg #[.float .f64 c1, .float .f64 c2]] w fun e w' => e = .returned (.tuple #[.agg #[.float .f64 s1, .float .f64 s2], .agg #[.float .f64 o1, .float .f64 o2], .int .i64 0]) ∧ Below w.heap.size w w')) (CP3 : Hid (∀ w, Calls Tryz.prog 34 #[.float .f64 am] w fun e w' => e = .returned (.agg #[.float .f64 d1, .float .f64 d2]) ∧ Below w.heap.size w w')) (CX : Hid (∀ w, Calls Tryz.prog 35 #[.agg #[.float .f64 d1, .float .f64 d2], .agg #[.float .f64 o1, .float .f64 o2]] w fun e w' => e = .returned (.agg #[.float .f64 x1, .float .f64 x2]) ∧ Below w.heap.size w w')) (CP4 : Hid (∀ w, Calls Tryz.prog 34 #[.float .f64 4679240012837945344] w fun e w' => e = .returned (.agg #[.float .f64 e1, .float .f64 e2]) ∧ Below w.heap.size w w')) (CD : Hid (∀ w, Calls Tryz.prog 36 #[.agg #[.float .f64 t1, .float .f64 t2], .agg #[.float .f64 e1, .float .f64 e2]] w fun e w' => e = .returned (.tuple #[.agg #[.float .f64 u1, .float .f64 u2], .int .i64 0]) ∧ Below w.heap.size w w'))
 (E : Hid ((pw = 0 ∧ r1 = x1 ∧ r2 = x2) ∨ (pw = 1 ∧ Hid (∀ w, Calls Tryz.prog 35 #[.agg #[.float .f64 x1, .float .f64 x2], .agg #[.float .f64 u1, .float .f64 u2]] w fun e w' => e = .returned (.agg #[.float .f64 r1, .float .f64 r2]) ∧ Below w.heap.size w w')) ∨ (pw = 2 ∧ ∃ q1 q2, (Hid (∀ w, Calls Tryz.prog 37 #[.agg #[.float .f64 u1, .float .f64 u2]] w fun e w' => e = .returned (.tuple #[.agg #[.float .f64 q1, .float .f64 q2], .int .i64 0]) ∧ Below w.heap.size w w')) ∧ Hid (∀ w, Calls Tryz.prog 35 #[.agg #[.float .f64 x1, .float .f64 x2], .agg #[.float .f64 q1, .float .f64 q2]] w fun e w' => e = .returned (.agg #[.float .f64 r1, .float .f64 r2]) ∧ Below w.heap.size w w')))) (w : World) :
 Calls Tryz.prog 15 #[.agg #[.int .i64 ax, .int .i64 pw, .float .f64 am, .float .f64 ph, .float .f64 rt], .agg #[.float .f64 t1, .float .f64 t2]] w fun e w' => e = .returned (.agg #[.float .f64 r1, .float .f64 r2]) ∧ Below w.heap.size w w' := by
 have CU := Lib.hid (fun w => wsures_run (p1 := u1) (p2 := u2) 0 w)
 have K0 := kv3 w 41 25 25 [.int .i64 ax, .int .i64 pw, .float .f64 am, .float .f64 ph, .float .f64 rt] [.float .f64 t1, .float .f64 t2] [.float .f64 0, .float .f64 0]
 simp only [objV] at K0
 have hst := @fstore
 replace K0 := Lib.hid K0
 go_enter Tryz.func15, Tryz.ntmps15
 go_upto_region 1 with fail
 have K := K0.out
 clear K0
 generalize ((w.alloc _).alloc _).alloc _ = wr at *
 replace K := (K.nones 2)
 simp only [List.replicate, List.cons_append, List.nil_append] at K
 generalize hds : ([some 11, some 12, some 13, some 14, some 15, some 16, some 17, some 18, some 19, some 20, some 10, some 21, some 22, some 23, some 5, some 6, none, none, some 7] : List (Option Tmp)) = ds
 have hap : apartL ds = true := by rw [← hds]; decide
 replace hds := hds.symm
 refine wp_region_kv (fun hf => [some (w.heap.size, [.int .i64 ax, .int .i64 pw, .float .f64 am, .float .f64 ph, .float .f64 rt]), some (w.heap.size + 1, [.float .f64 t1, .float .f64 t2]), some (w.heap.size + 1 + 1, [.float .f64 0, .float .f64 0]), some (hf 14, [.float .f64 s1, .float .f64 s2]), some (hf 15, [.float .f64 o1, .float .f64 o2])]) (fun hf => [some (.pointer (some ⟨w.heap.size, 3, none⟩)), some (.float .f64 ph), some (.agg #[.float .f64 a1, .float .f64 a2]), some (.pointer (some ⟨w.heap.size, 4, none⟩)), some (.float .f64 rt), some (.agg #[.float .f64 b1, .float .f64 b2]), some (.agg #[.float .f64 t1, .float .f64 t2]), some (.agg #[.float .f64 m1, .float .f64 m2]), some (.agg #[.float .f64 c1, .float .f64 c2]), some (.tuple #[.agg #[.float .f64 s1, .float .f64 s2], .agg #[.float .f64 o1, .float .f64 o2], .int .i64 0]), some (.tuple #[.agg #[.float .f64 s1, .float .f64 s2], .agg #[.float .f64 o1, .float .f64 o2], .int .i64 0]), some (.agg #[.float .f64 s1, .float .f64 s2]), some (.agg #[.float .f64 o1, .float .f64 o2]), some (.int .i64 0), some (ptrV (hf 14)), some (ptrV (hf 15)), some (undef), some (undef), some (.int .i64 0)]) [⟨14, 3, 25, [.float .f64 0, .float .f64 0]⟩, ⟨15, 4, 25, [.float .f64 0, .float .f64 0]⟩] [⟨16, 3, 0, [.float .f64 s1, .float .f64 s2]⟩, ⟨17, 4, 0, [.float .f64 o1, .float .f64 o2]⟩] [.pointer (some ⟨w.heap.size, 3, none⟩), .float .f64 ph, .agg #[.float .f64 a1, .float .f64 a2], .pointer (some ⟨w.heap.size, 4, none⟩), .float .f64 rt, .agg #[.float .f64 b1, .float .f64 b2], .agg #[.float .f64 t1, .float .f64 t2], .agg #[.float .f64 m1, .float .f64 m2], .agg #[.float .f64 c1, .float .f64 c2], .tuple #[.agg #[.float .f64 s1, .float .f64 s2], .agg #[.float .f64 o1, .float .f64 o2], .int .i64 0], .tuple #[.agg #[.float .f64 s1, .float .f64 s2], .agg #[.float .f64 o1, .float .f64 o2], .int .i64 0], .agg #[.float .f64 s1, .float .f64 s2], .agg #[.float .f64 o1, .float .f64 o2], .int .i64 0, undef, undef, undef, undef, .int .i64 0] ds (by kernel_rfl) (by rw [hds]; rfl) hap (by decide +kernel) (by decide +kernel) K ?ha ?haj ?hai ?hsi ?hss ?hsa ?hsw ?htg ?hE2 ?hE3 ?hE4 ?hL1 ?hL2 ?hL3 ?alloc ?step ?store ?fin
 case ha => intro al hal; simp only [List.mem_cons, List.not_mem_nil, or_false] at hal; rcases hal with rfl | rfl <;> rfl
 case haj => intro al hal al' hal' e; simp only [List.mem_cons, List.not_mem_nil, or_false] at hal; rcases hal with rfl | rfl <;> (simp only [List.mem_cons, List.not_mem_nil, or_false] at hal'; rcases hal' with rfl | rfl) <;> first | rfl | (exfalso; revert e; simp)
 case hai => intro al hal; simp only [List.mem_cons, List.not_mem_nil, or_false] at hal; rcases hal with rfl | rfl <;> decide
 case hsi => intro st hst st' hst' e; simp only [List.mem_cons, List.not_mem_nil, or_false] at hst; rcases hst with rfl | rfl <;> (simp only [List.mem_cons, List.not_mem_nil, or_false] at hst'; rcases hst' with rfl | rfl) <;> first | rfl | (exfalso; revert e; simp)
 case hss =>
  intro st hst
  simp only [List.mem_cons, List.not_mem_nil, or_false] at hst; rcases hst with rfl | rfl
  · show 16 < 19; decide
  · show 17 < 19; decide
 case hsa =>
  intro st hst al hal
  simp only [List.mem_cons, List.not_mem_nil, or_false] at hst; rcases hst with rfl | rfl
  · simp only [List.mem_cons, List.not_mem_nil, or_false] at hal; rcases hal with rfl | rfl
    · exact (show ¬ (16 = 14) by decide)
    · exact (show ¬ (16 = 15) by decide)
  · simp only [List.mem_cons, List.not_mem_nil, or_false] at hal; rcases hal with rfl | rfl
    · exact (show ¬ (17 = 14) by decide)
    · exact (show ¬ (17 = 15) by decide)
 case hsw =>
  intro st hst al hal e
  simp only [List.mem_cons, List.not_mem_nil, or_false] at hst; rcases hst with rfl | rfl
  · simp only [List.mem_cons, List.not_mem_nil, or_false] at hal; rcases hal with rfl | rfl
    · change waitsAt _ 16 14 = true; decide +kernel
    · exact absurd e (show ¬ (3 = 4) by decide)
  · simp only [List.mem_cons, List.not_mem_nil, or_false] at hal; rcases hal with rfl | rfl
    · exact absurd e (show ¬ (4 = 3) by decide)
    · change waitsAt _ 17 15 = true; decide +kernel
 case htg =>
  intro st hst
  simp only [List.mem_cons, List.not_mem_nil, or_false] at hst; rcases hst with rfl | rfl
  · exact .inr ⟨_, List.mem_cons_self .., rfl, show 0 + 2 ≤ 2 by decide⟩
  · exact .inr ⟨_, List.mem_cons_of_mem _ (List.mem_cons_self ..), rfl, show 0 + 2 ≤ 2 by decide⟩
 case hE2 =>
  intro hf j h1 h2
  have n3 : 3 ≠ j := h1 _ (List.mem_cons_self ..)
  have n4 : 4 ≠ j := h1 _ (List.mem_cons_of_mem _ (List.mem_cons_self ..))
  rcases j with _ | _ | _ | _ | _ | j
  · rfl
  · rfl
  · rfl
  · exact absurd rfl n3
  · exact absurd rfl n4
  · rfl
 case hE3 =>
  intro hf st hst g us e
  simp only [List.mem_cons, List.not_mem_nil, or_false] at hst; rcases hst with rfl | rfl
  · simp at e
  · simp at e
 case hE4 =>
  intro hf al hal
  simp only [List.mem_cons, List.not_mem_nil, or_false] at hal; rcases hal with rfl | rfl
  · refine ⟨fun st hst e => ?_, fun h => absurd rfl (h _ (List.mem_cons_self ..))⟩
    simp only [List.mem_cons, List.not_mem_nil, or_false] at hst; rcases hst with rfl | rfl
    · rfl
    · exact absurd e (show ¬ (4 = 3) by decide)
  · refine ⟨fun st hst e => ?_, fun h => absurd rfl (h _ (List.mem_cons_of_mem _ (List.mem_cons_self ..)))⟩
    simp only [List.mem_cons, List.not_mem_nil, or_false] at hst; rcases hst with rfl | rfl
    · exact absurd e (show ¬ (3 = 4) by decide)
    · rfl
 case hL1 => intro hf; rfl
 case hL2 =>
  intro hf i hi hna
  have hi : i < 19 := hi
  have : i = 0 ∨ i = 1 ∨ i = 2 ∨ i = 3 ∨ i = 4 ∨ i = 5 ∨ i = 6 ∨ i = 7 ∨ i = 8 ∨ i = 9 ∨ i = 10 ∨ i = 11 ∨ i = 12 ∨ i = 13 ∨ i = 14 ∨ i = 15 ∨ i = 16 ∨ i = 17 ∨ i = 18 := by omega
  rcases this with rfl | rfl | rfl | rfl | rfl | rfl | rfl | rfl | rfl | rfl | rfl | rfl | rfl | rfl | rfl | rfl | rfl | rfl | rfl
  · rfl
  · rfl
  · rfl
  · rfl
  · rfl
  · rfl
  · rfl
  · rfl
  · rfl
  · rfl
  · rfl
  · rfl
  · rfl
  · rfl
  · exact absurd rfl (hna _ (List.mem_cons_self ..))
  · exact absurd rfl (hna _ (List.mem_cons_of_mem _ (List.mem_cons_self ..)))
  · rfl
  · rfl
  · rfl
 case hL3 => intro hf al hal; simp only [List.mem_cons, List.not_mem_nil, or_false] at hal; rcases hal with rfl | rfl <;> rfl
 case alloc =>
  intro al hal o ρ W ho
  simp only [List.mem_cons, List.not_mem_nil, or_false] at hal; rcases hal with rfl | rfl
  · obtain rfl := Option.some.inj ho; unfold execOp ptrV objV; go_simp
  · obtain rfl := Option.some.inj ho; unfold execOp ptrV objV; go_simp
 case step =>
  intro L W i o ho hs ha hd hB hO
  have hi : i < 19 := (Array.getElem?_eq_some_iff.1 ho).1
  have : i = 0 ∨ i = 1 ∨ i = 2 ∨ i = 3 ∨ i = 4 ∨ i = 5 ∨ i = 6 ∨ i = 7 ∨ i = 8 ∨ i = 9 ∨ i = 10 ∨ i = 11 ∨ i = 12 ∨ i = 13 ∨ i = 14 ∨ i = 15 ∨ i = 16 ∨ i = 17 ∨ i = 18 := by omega
  rcases this with rfl | rfl | rfl | rfl | rfl | rfl | rfl | rfl | rfl | rfl | rfl | rfl | rfl | rfl | rfl | rfl | rfl | rfl | rfl
  · obtain rfl := Option.some.inj ho
    refine .value W ?_ (Below.refl _ _)
    generalize hA : (puts ds L _).eval = ρ
    have hc : ∀ v, ρ (.const v) = v := fun v => by rw [← hA]; rfl
    have h0 : ρ (.tmp 2) = .pointer (some ⟨w.heap.size, 0, none⟩) := (po hA (by rw [hds]; decide)).trans rfl
    clear hA hd hB ho hs ha hO
    unfold execOp
    go_simp
  · obtain rfl := Option.some.inj ho
    have b := hB 0 _ _ rfl (by
        intro st hst e
        simp only [List.mem_cons, List.not_mem_nil, or_false] at hst; rcases hst with rfl | rfl
        · exact absurd e (show ¬ 3 = 0 by decide)
        · exact absurd e (show ¬ 4 = 0 by decide))
    have c3 := b.at_ 3 _ rfl
    clear b
    refine .value W ?_ (Below.refl _ _)
    generalize hA : (puts ds L _).eval = ρ
    have h0 : ρ (.tmp 11) = .pointer (some ⟨w.heap.size, 3, none⟩) := pg 0 hA hap (by rw [hds]; rfl) (hd 0 (by decide +kernel) (alne rfl)) (show 11 < 52 by decide)
    clear hA hd hB ho hs ha hO
    unfold execOp
    go_simp
  · obtain rfl := Option.some.inj ho
    refine .call 34 #[.float .f64 ph] ?_ (CP1.out W)
    generalize hA : (puts ds L _).eval = ρ
    have hg : ∀ g, ρ (.func g) = .func (.func g) #[] #[] := fun v => by rw [← hA]; rfl
    have h0 : ρ (.tmp 12) = .float .f64 ph := pg 1 hA hap (by rw [hds]; rfl) (hd 1 (by decide +kernel) (alne rfl)) (show 12 < 52 by decide)
    have hf := Tryz.func34
    unfold execOp
    go_simp
  · obtain rfl := Option.some.inj ho
    refine .value W ?_ (Below.refl _ _)
    generalize hA : (puts ds L _).eval = ρ
    have hc : ∀ v, ρ (.const v) = v := fun v => by rw [← hA]; rfl
    have h0 : ρ (.tmp 2) = .pointer (some ⟨w.heap.size, 0, none⟩) := (po hA (by rw [hds]; decide)).trans rfl
    clear hA hd hB ho hs ha hO
    unfold execOp
    go_simp
  · obtain rfl := Option.some.inj ho
    have b := hB 0 _ _ rfl (by
        intro st hst e
        simp only [List.mem_cons, List.not_mem_nil, or_false] at hst; rcases hst with rfl | rfl
        · exact absurd e (show ¬ 3 = 0 by decide)
        · exact absurd e (show ¬ 4 = 0 by decide))
    have c4 := b.at_ 4 _ rfl
    clear b
    refine .value W ?_ (Below.refl _ _)
    generalize hA : (puts ds L _).eval = ρ
    have h0 : ρ (.tmp 14) = .pointer (some ⟨w.heap.size, 4, none⟩) := pg 3 hA hap (by rw [hds]; rfl) (hd 3 (by decide +kernel) (alne rfl)) (show 14 < 52 by decide)
    clear hA hd hB ho hs ha hO
    unfold execOp
    go_simp
  · obtain rfl := Option.some.inj ho
    refine .call 34 #[.float .f64 rt] ?_ (CP2.out W)
    generalize hA : (puts ds L _).eval = ρ
    have hg : ∀ g, ρ (.func g) = .func (.func g) #[] #[] := fun v => by rw [← hA]; rfl
    have h0 : ρ (.tmp 15) = .float .f64 rt := pg 4 hA hap (by rw [hds]; rfl) (hd 4 (by decide +kernel) (alne rfl)) (show 15 < 52 by decide)
    have hf := Tryz.func34
    unfold execOp
    go_simp
  · obtain rfl := Option.some.inj ho
    have b := hB 1 _ _ rfl (by
        intro st hst e
        simp only [List.mem_cons, List.not_mem_nil, or_false] at hst; rcases hst with rfl | rfl
        · exact absurd e (show ¬ 3 = 1 by decide)
        · exact absurd e (show ¬ 4 = 1 by decide))
    have c0 := b.at_ 0 _ rfl
    have c1 := b.at_ 1 _ rfl
    clear b
    refine .value W ?_ (Below.refl _ _)
    generalize hA : (puts ds L _).eval = ρ
    have h0 : ρ (.tmp 3) = .pointer (some ⟨w.heap.size + 1, 0, none⟩) := (po hA (by rw [hds]; decide)).trans rfl
    clear hA hd hB ho hs ha hO
    unfold execOp
    go_simp
  · obtain rfl := Option.some.inj ho
    refine .call 35 #[.agg #[.float .f64 b1, .float .f64 b2], .agg #[.float .f64 t1, .float .f64 t2]] ?_ (CM.out W)
    generalize hA : (puts ds L _).eval = ρ
    have hg : ∀ g, ρ (.func g) = .func (.func g) #[] #[] := fun v => by rw [← hA]; rfl
    have h0 : ρ (.tmp 16) = .agg #[.float .f64 b1, .float .f64 b2] := pg 5 hA hap (by rw [hds]; rfl) (hd 5 (by decide +kernel) (alne rfl)) (show 16 < 52 by decide)
    have h1 : ρ (.tmp 17) = .agg #[.float .f64 t1, .float .f64 t2] := pg 6 hA hap (by rw [hds]; rfl) (hd 6 (by decide +kernel) (alne rfl)) (show 17 < 52 by decide)
    have hf := Tryz.func35
    unfold execOp
    go_simp
  · obtain rfl := Option.some.inj ho
    refine .call 14 #[.agg #[.float .f64 a1, .float .f64 a2], .agg #[.float .f64 m1, .float .f64 m2]] ?_ (CA.out W)
    generalize hA : (puts ds L _).eval = ρ
    have hg : ∀ g, ρ (.func g) = .func (.func g) #[] #[] := fun v => by rw [← hA]; rfl
    have h0 : ρ (.tmp 13) = .agg #[.float .f64 a1, .float .f64 a2] := pg 2 hA hap (by rw [hds]; rfl) (hd 2 (by decide +kernel) (alne rfl)) (show 13 < 52 by decide)
    have h1 : ρ (.tmp 18) = .agg #[.float .f64 m1, .float .f64 m2] := pg 7 hA hap (by rw [hds]; rfl) (hd 7 (by decide +kernel) (alne rfl)) (show 18 < 52 by decide)
    have hf := Tryz.func14
    unfold execOp
    go_simp
  · obtain rfl := Option.some.inj ho
    refine .call 33 #[.agg #[.float .f64 c1, .float .f64 c2]] ?_ (CS.out W)
    generalize hA : (puts ds L _).eval = ρ
    have hg : ∀ g, ρ (.func g) = .func (.func g) #[] #[] := fun v => by rw [← hA]; rfl
    have h0 : ρ (.tmp 19) = .agg #[.float .f64 c1, .float .f64 c2] := pg 8 hA hap (by rw [hds]; rfl) (hd 8 (by decide +kernel) (alne rfl)) (show 19 < 52 by decide)
    have hf := Tryz.func33
    unfold execOp
    go_simp
  · obtain rfl := Option.some.inj ho
    refine .value W ?_ (Below.refl _ _)
    generalize hA : (puts ds L _).eval = ρ
    have hc : ∀ v, ρ (.const v) = v := fun v => by rw [← hA]; rfl
    have h0 : ρ (.tmp 20) = .tuple #[.agg #[.float .f64 s1, .float .f64 s2], .agg #[.float .f64 o1, .float .f64 o2], .int .i64 0] := pg 9 hA hap (by rw [hds]; rfl) (hd 9 (by decide +kernel) (alne rfl)) (show 20 < 52 by decide)
    clear hA hd hB ho hs ha hO
    unfold execOp
    go_simp
  · obtain rfl := Option.some.inj ho
    refine .value W ?_ (Below.refl _ _)
    generalize hA : (puts ds L _).eval = ρ
    have hc : ∀ v, ρ (.const v) = v := fun v => by rw [← hA]; rfl
    have h0 : ρ (.tmp 10) = .tuple #[.agg #[.float .f64 s1, .float .f64 s2], .agg #[.float .f64 o1, .float .f64 o2], .int .i64 0] := pg 10 hA hap (by rw [hds]; rfl) (hd 10 (by decide +kernel) (alne rfl)) (show 10 < 52 by decide)
    clear hA hd hB ho hs ha hO
    unfold execOp
    go_simp
  · obtain rfl := Option.some.inj ho
    refine .value W ?_ (Below.refl _ _)
    generalize hA : (puts ds L _).eval = ρ
    have hc : ∀ v, ρ (.const v) = v := fun v => by rw [← hA]; rfl
    have h0 : ρ (.tmp 10) = .tuple #[.agg #[.float .f64 s1, .float .f64 s2], .agg #[.float .f64 o1, .float .f64 o2], .int .i64 0] := pg 10 hA hap (by rw [hds]; rfl) (hd 10 (by decide +kernel) (alne rfl)) (show 10 < 52 by decide)
    clear hA hd hB ho hs ha hO
    unfold execOp
    go_simp
  · obtain rfl := Option.some.inj ho
    refine .value W ?_ (Below.refl _ _)
    generalize hA : (puts ds L _).eval = ρ
    have hc : ∀ v, ρ (.const v) = v := fun v => by rw [← hA]; rfl
    have h0 : ρ (.tmp 10) = .tuple #[.agg #[.float .f64 s1, .float .f64 s2], .agg #[.float .f64 o1, .float .f64 o2], .int .i64 0] := pg 10 hA hap (by rw [hds]; rfl) (hd 10 (by decide +kernel) (alne rfl)) (show 10 < 52 by decide)
    clear hA hd hB ho hs ha hO
    unfold execOp
    go_simp
  · exact absurd rfl (ha _ (List.mem_cons_self ..))
  · exact absurd rfl (ha _ (List.mem_cons_of_mem _ (List.mem_cons_self ..)))
  · exact absurd rfl (hs _ (List.mem_cons_self ..))
  · exact absurd rfl (hs _ (List.mem_cons_of_mem _ (List.mem_cons_self ..)))
  · obtain rfl := Option.some.inj ho
    refine .value W ?_ (Below.refl _ _)
    generalize hA : (puts ds L _).eval = ρ
    have hc : ∀ v, ρ (.const v) = v := fun v => by rw [← hA]; rfl
    have h0 : ρ (.tmp 23) = .int .i64 0 := pg 13 hA hap (by rw [hds]; rfl) (hd 13 (by decide +kernel) (alne rfl)) (show 23 < 52 by decide)
    clear hA hd hB ho hs ha hO
    unfold execOp
    go_simp
 case store =>
  intro st hst L W o h us ho hd hal hC b
  simp only [List.mem_cons, List.not_mem_nil, or_false] at hst; rcases hst with rfl | rfl
  · dsimp only at ho hd hal hC b ⊢
    obtain rfl := Option.some.inj ho
    obtain ⟨hl, rfl⟩ := hal _ (List.mem_cons_self ..) rfl
    have c0 := b.at_ 0 _ rfl
    have f0 := b.fr 0 _ rfl
    have c1 := b.at_ 1 _ rfl
    have f1 := b.fr 1 _ rfl
    refine ⟨?_, rfl⟩
    generalize hA : (puts ds L _).eval = ρ
    have h0 : ρ (.tmp 5) = .pointer (some ⟨h, 0, none⟩) := by rw [← hA]; exact puts_get 14 ds L _ hap (by rw [hds]; rfl) hl (show 5 < 52 by decide)
    have h1 : ρ (.tmp 21) = .agg #[.float .f64 s1, .float .f64 s2] := pg 11 hA hap (by rw [hds]; rfl) (hd 11 (by decide +kernel) (alne rfl)) (show 21 < 52 by decide)
    have hst' := @fstore
    clear hA hd b ho hal hC
    simp only [putV]
    unfold execOp
    go_simp
  · dsimp only at ho hd hal hC b ⊢
    obtain rfl := Option.some.inj ho
    obtain ⟨hl, rfl⟩ := hal _ (List.mem_cons_of_mem _ (List.mem_cons_self ..)) rfl
    have c0 := b.at_ 0 _ rfl
    have f0 := b.fr 0 _ rfl
    have c1 := b.at_ 1 _ rfl
    have f1 := b.fr 1 _ rfl
    refine ⟨?_, rfl⟩
    generalize hA : (puts ds L _).eval = ρ
    have h0 : ρ (.tmp 6) = .pointer (some ⟨h, 0, none⟩) := by rw [← hA]; exact puts_get 15 ds L _ hap (by rw [hds]; rfl) hl (show 6 < 52 by decide)
    have h1 : ρ (.tmp 22) = .agg #[.float .f64 o1, .float .f64 o2] := pg 12 hA hap (by rw [hds]; rfl) (hd 12 (by decide +kernel) (alne rfl)) (show 22 < 52 by decide)
    have hst' := @fstore
    clear hA hd b ho hal hC
    simp only [putV]
    unfold execOp
    go_simp
 case fin =>
  intro hf W0 K
  rw [hds]
  clear hds hap ds CP1 CP2 CM CA CS
  (try dsimp only at K)
  generalize hf 14 = g5 at *
  generalize hf 15 = g6 at *
  (try unfold ptrV)
  simp only [List.set_cons_zero, List.set_cons_succ, puts, Act.put, List.setIfInBounds_toArray]
  replace K := Lib.hid K
  go_upto_region 2 with fail
  replace K := K.out.more
  simp only [List.cons_append, List.nil_append] at K
  generalize hds : ([some 24, some 25, some 26, some 27, some 28, some 8, none] : List (Option Tmp)) = ds
  have hap : apartL ds = true := by rw [← hds]; decide
  replace hds := hds.symm
  refine wp_region_kv (fun hf => [some (w.heap.size, [.int .i64 ax, .int .i64 pw, .float .f64 am, .float .f64 ph, .float .f64 rt]), some (w.heap.size + 1, [.float .f64 t1, .float .f64 t2]), some (w.heap.size + 1 + 1, [.float .f64 0, .float .f64 0]), some (g5, [.float .f64 s1, .float .f64 s2]), some (g6, [.float .f64 o1, .float .f64 o2]), some (hf 5, [.float .f64 x1, .float .f64 x2])]) (fun hf => [some (.pointer (some ⟨w.heap.size, 2, none⟩)), some (.float .f64 am), some (.agg #[.float .f64 d1, .float .f64 d2]), some (.agg #[.float .f64 o1, .float .f64 o2]), some (.agg #[.float .f64 x1, .float .f64 x2]), some (ptrV (hf 5)), some (undef)]) [⟨5, 5, 25, [.float .f64 0, .float .f64 0]⟩] [⟨6, 5, 0, [.float .f64 x1, .float .f64 x2]⟩] [.pointer (some ⟨w.heap.size, 2, none⟩), .float .f64 am, .agg #[.float .f64 d1, .float .f64 d2], .agg #[.float .f64 o1, .float .f64 o2], .agg #[.float .f64 x1, .float .f64 x2], undef, undef] ds (by kernel_rfl) (by rw [hds]; rfl) hap (by decide +kernel) (by decide +kernel) K ?ha ?haj ?hai ?hsi ?hss ?hsa ?hsw ?htg ?hE2 ?hE3 ?hE4 ?hL1 ?hL2 ?hL3 ?alloc ?step ?store ?fin
  case ha => intro al hal; rcases List.mem_singleton.1 hal with rfl <;> rfl
  case haj => intro al hal al' hal' e; rcases List.mem_singleton.1 hal with rfl <;> (rcases List.mem_singleton.1 hal' with rfl) <;> first | rfl | (exfalso; revert e; simp)
  case hai => intro al hal; rcases List.mem_singleton.1 hal with rfl <;> decide
  case hsi => intro st hst st' hst' e; rcases List.mem_singleton.1 hst with rfl <;> (rcases List.mem_singleton.1 hst' with rfl) <;> first | rfl | (exfalso; revert e; simp)
  case hss =>
   intro st hst
   rcases List.mem_singleton.1 hst with rfl
   · show 6 < 7; decide
  case hsa =>
   intro st hst al hal
   rcases List.mem_singleton.1 hst with rfl
   · rcases List.mem_singleton.1 hal with rfl
     · exact (show ¬ (6 = 5) by decide)
  case hsw =>
   intro st hst al hal e
   rcases List.mem_singleton.1 hst with rfl
   · rcases List.mem_singleton.1 hal with rfl
     · change waitsAt _ 6 5 = true; decide +kernel
  case htg =>
   intro st hst
   rcases List.mem_singleton.1 hst with rfl
   · exact .inr ⟨_, List.mem_cons_self .., rfl, show 0 + 2 ≤ 2 by decide⟩
  case hE2 =>
   intro hf j h1 h2
   have n5 : 5 ≠ j := h1 _ (List.mem_cons_self ..)
   rcases j with _ | _ | _ | _ | _ | _ | j
   · rfl
   · rfl
   · rfl
   · rfl
   · rfl
   · exact absurd rfl n5
   · rfl
  case hE3 =>
   intro hf st hst g us e
   rcases List.mem_singleton.1 hst with rfl
   · simp at e
  case hE4 =>
   intro hf al hal
   rcases List.mem_singleton.1 hal with rfl
   · refine ⟨fun st hst e => ?_, fun h => absurd rfl (h _ (List.mem_cons_self ..))⟩
     rcases List.mem_singleton.1 hst with rfl
     · rfl
  case hL1 => intro hf; rfl
  case hL2 =>
   intro hf i hi hna
   have hi : i < 7 := hi
   have : i = 0 ∨ i = 1 ∨ i = 2 ∨ i = 3 ∨ i = 4 ∨ i = 5 ∨ i = 6 := by omega
   rcases this with rfl | rfl | rfl | rfl | rfl | rfl | rfl
   · rfl
   · rfl
   · rfl
   · rfl
   · rfl
   · exact absurd rfl (hna _ (List.mem_cons_self ..))
   · rfl
  case hL3 => intro hf al hal; rcases List.mem_singleton.1 hal with rfl <;> rfl
  case alloc =>
   intro al hal o ρ W ho
   rcases List.mem_singleton.1 hal with rfl
   · obtain rfl := Option.some.inj ho; unfold execOp ptrV objV; go_simp
  case step =>
   intro L W i o ho hs ha hd hB hO
   have hi : i < 7 := (Array.getElem?_eq_some_iff.1 ho).1
   have : i = 0 ∨ i = 1 ∨ i = 2 ∨ i = 3 ∨ i = 4 ∨ i = 5 ∨ i = 6 := by omega
   rcases this with rfl | rfl | rfl | rfl | rfl | rfl | rfl
   · obtain rfl := Option.some.inj ho
     refine .value W ?_ (Below.refl _ _)
     generalize hA : (puts ds L _).eval = ρ
     have hc : ∀ v, ρ (.const v) = v := fun v => by rw [← hA]; rfl
     have h0 : ρ (.tmp 2) = .pointer (some ⟨w.heap.size, 0, none⟩) := (po hA (by rw [hds]; decide)).trans rfl
     clear hA hd hB ho hs ha hO
     unfold execOp
     go_simp
   · obtain rfl := Option.some.inj ho
     have b := hB 0 _ _ rfl (by
      intro st hst e
      rcases List.mem_singleton.1 hst with rfl
      · exact absurd e (show ¬ 5 = 0 by decide))
     have c2 := b.at_ 2 _ rfl
     clear b
     refine .value W ?_ (Below.refl _ _)
     generalize hA : (puts ds L _).eval = ρ
     have h0 : ρ (.tmp 24) = .pointer (some ⟨w.heap.size, 2, none⟩) := pg 0 hA hap (by rw [hds]; rfl) (hd 0 (by decide +kernel) (alne rfl)) (show 24 < 52 by decide)
     clear hA hd hB ho hs ha hO
     unfold execOp
     go_simp
   · obtain rfl := Option.some.inj ho
     refine .call 34 #[.float .f64 am] ?_ (CP3.out W)
     generalize hA : (puts ds L _).eval = ρ
     have hg : ∀ g, ρ (.func g) = .func (.func g) #[] #[] := fun v => by rw [← hA]; rfl
     have h0 : ρ (.tmp 25) = .float .f64 am := pg 1 hA hap (by rw [hds]; rfl) (hd 1 (by decide +kernel) (alne rfl)) (show 25 < 52 by decide)
     have hf := Tryz.func34
     unfold execOp
     go_simp
   · obtain rfl := Option.some.inj ho
     have b := hB 4 _ _ rfl (by
      intro st hst e
      rcases List.mem_singleton.1 hst with rfl
      · exact absurd e (show ¬ 5 = 4 by decide))
     have c0 := b.at_ 0 _ rfl
     have c1 := b.at_ 1 _ rfl
     clear b
     refine .value W ?_ (Below.refl _ _)
     generalize hA : (puts ds L _).eval = ρ
     have h0 : ρ (.tmp 6) = .pointer (some ⟨g6, 0, none⟩) := (po hA (by rw [hds]; decide)).trans rfl
     clear hA hd hB ho hs ha hO
     unfold execOp
     go_simp
   · obtain rfl := Option.some.inj ho
     refine .call 35 #[.agg #[.float .f64 d1, .float .f64 d2], .agg #[.float .f64 o1, .float .f64 o2]] ?_ (CX.out W)
     generalize hA : (puts ds L _).eval = ρ
     have hg : ∀ g, ρ (.func g) = .func (.func g) #[] #[] := fun v => by rw [← hA]; rfl
     have h0 : ρ (.tmp 26) = .agg #[.float .f64 d1, .float .f64 d2] := pg 2 hA hap (by rw [hds]; rfl) (hd 2 (by decide +kernel) (alne rfl)) (show 26 < 52 by decide)
     have h1 : ρ (.tmp 27) = .agg #[.float .f64 o1, .float .f64 o2] := pg 3 hA hap (by rw [hds]; rfl) (hd 3 (by decide +kernel) (alne rfl)) (show 27 < 52 by decide)
     have hf := Tryz.func35
     unfold execOp
     go_simp
   · exact absurd rfl (ha _ (List.mem_cons_self ..))
   · exact absurd rfl (hs _ (List.mem_cons_self ..))
  case store =>
   intro st hst L W o h us ho hd hal hC b
   rcases List.mem_singleton.1 hst with rfl
   · dsimp only at ho hd hal hC b ⊢
     obtain rfl := Option.some.inj ho
     obtain ⟨hl, rfl⟩ := hal _ (List.mem_cons_self ..) rfl
     have c0 := b.at_ 0 _ rfl
     have f0 := b.fr 0 _ rfl
     have c1 := b.at_ 1 _ rfl
     have f1 := b.fr 1 _ rfl
     refine ⟨?_, rfl⟩
     generalize hA : (puts ds L _).eval = ρ
     have h0 : ρ (.tmp 8) = .pointer (some ⟨h, 0, none⟩) := by rw [← hA]; exact puts_get 5 ds L _ hap (by rw [hds]; rfl) hl (show 8 < 52 by decide)
     have h1 : ρ (.tmp 28) = .agg #[.float .f64 x1, .float .f64 x2] := pg 4 hA hap (by rw [hds]; rfl) (hd 4 (by decide +kernel) (alne rfl)) (show 28 < 52 by decide)
     have hst' := @fstore
     clear hA hd b ho hal hC
     simp only [putV]
     unfold execOp
     go_simp
  case fin =>
   intro hf W0 K
   rw [hds]
   clear hds hap ds CP3 CX
   (try dsimp only at K)
   generalize hf 5 = g8 at *
   (try unfold ptrV)
   simp only [List.set_cons_zero, List.set_cons_succ, puts, Act.put, List.setIfInBounds_toArray]
   replace K := Lib.hid K
   go_upto_region 3 with fail
   replace K := K.out.more
   simp only [List.cons_append, List.nil_append] at K
   generalize hds : ([some 29, some 30, some 31, some 32, some 33, some 34, some 9, none] : List (Option Tmp)) = ds
   have hap : apartL ds = true := by rw [← hds]; decide
   replace hds := hds.symm
   refine wp_region_kv (fun hf => [some (w.heap.size, [.int .i64 ax, .int .i64 pw, .float .f64 am, .float .f64 ph, .float .f64 rt]), some (w.heap.size + 1, [.float .f64 t1, .float .f64 t2]), some (w.heap.size + 1 + 1, [.float .f64 0, .float .f64 0]), some (g5, [.float .f64 s1, .float .f64 s2]), some (g6, [.float .f64 o1, .float .f64 o2]), some (g8, [.float .f64 x1, .float .f64 x2]), some (hf 6, [.float .f64 u1, .float .f64 u2])]) (fun hf => [some (.agg #[.float .f64 t1, .float .f64 t2]), some (.agg #[.float .f64 e1, .float .f64 e2]), some (.tuple #[.agg #[.float .f64 u1, .float .f64 u2], .int .i64 0]), some (.agg #[.float .f64 u1, .float .f64 u2]), some (.int .i64 0), some (.agg #[.float .f64 u1, .float .f64 u2]), some (ptrV (hf 6)), some (undef)]) [⟨6, 6, 25, [.float .f64 0, .float .f64 0]⟩] [⟨7, 6, 0, [.float .f64 u1, .float .f64 u2]⟩] [.agg #[.float .f64 t1, .float .f64 t2], .agg #[.float .f64 e1, .float .f64 e2], .tuple #[.agg #[.float .f64 u1, .float .f64 u2], .int .i64 0], .agg #[.float .f64 u1, .float .f64 u2], .int .i64 0, .agg #[.float .f64 u1, .float .f64 u2], undef, undef] ds (by kernel_rfl) (by rw [hds]; rfl) hap (by decide +kernel) (by decide +kernel) K ?ha ?haj ?hai ?hsi ?hss ?hsa ?hsw ?htg ?hE2 ?hE3 ?hE4 ?hL1 ?hL2 ?hL3 ?alloc ?step ?store ?fin
   case ha => intro al hal; rcases List.mem_singleton.1 hal with rfl <;> rfl
   case haj => intro al hal al' hal' e; rcases List.mem_singleton.1 hal with rfl <;> (rcases List.mem_singleton.1 hal' with rfl) <;> first | rfl | (exfalso; revert e; simp)
   case hai => intro al hal; rcases List.mem_singleton.1 hal with rfl <;> decide
   case hsi => intro st hst st' hst' e; rcases List.mem_singleton.1 hst with rfl <;> (rcases List.mem_singleton.1 hst' with rfl) <;> first | rfl | (exfalso; revert e; simp)
   case hss =>
        intro st hst
        rcases List.mem_singleton.1 hst with rfl
        · show 7 < 8; decide
   case hsa =>
        intro st hst al hal
        rcases List.mem_singleton.1 hst with rfl
        · rcases List.mem_singleton.1 hal with rfl
          · exact (show ¬ (7 = 6) by decide)
   case hsw =>
        intro st hst al hal e
        rcases List.mem_singleton.1 hst with rfl
        · rcases List.mem_singleton.1 hal with rfl
          · change waitsAt _ 7 6 = true; decide +kernel
   case htg =>
        intro st hst
        rcases List.mem_singleton.1 hst with rfl
        · exact .inr ⟨_, List.mem_cons_self .., rfl, show 0 + 2 ≤ 2 by decide⟩
   case hE2 =>
        intro hf j h1 h2
        have n6 : 6 ≠ j := h1 _ (List.mem_cons_self ..)
        rcases j with _ | _ | _ | _ | _ | _ | _ | j
        · rfl
        · rfl
        · rfl
        · rfl
        · rfl
        · rfl
        · exact absurd rfl n6
        · rfl
   case hE3 =>
        intro hf st hst g us e
        rcases List.mem_singleton.1 hst with rfl
        · simp at e
   case hE4 =>
        intro hf al hal
        rcases List.mem_singleton.1 hal with rfl
        · refine ⟨fun st hst e => ?_, fun h => absurd rfl (h _ (List.mem_cons_self ..))⟩
          rcases List.mem_singleton.1 hst with rfl
          · rfl
   case hL1 => intro hf; rfl
   case hL2 =>
        intro hf i hi hna
        have hi : i < 8 := hi
        have : i = 0 ∨ i = 1 ∨ i = 2 ∨ i = 3 ∨ i = 4 ∨ i = 5 ∨ i = 6 ∨ i = 7 := by omega
        rcases this with rfl | rfl | rfl | rfl | rfl | rfl | rfl | rfl
        · rfl
        · rfl
        · rfl
        · rfl
        · rfl
        · rfl
        · exact absurd rfl (hna _ (List.mem_cons_self ..))
        · rfl
   case hL3 => intro hf al hal; rcases List.mem_singleton.1 hal with rfl <;> rfl
   case alloc =>
        intro al hal o ρ W ho
        rcases List.mem_singleton.1 hal with rfl
        · obtain rfl := Option.some.inj ho; unfold execOp ptrV objV; go_simp
   case step =>
        intro L W i o ho hs ha hd hB hO
        have hi : i < 8 := (Array.getElem?_eq_some_iff.1 ho).1
        have : i = 0 ∨ i = 1 ∨ i = 2 ∨ i = 3 ∨ i = 4 ∨ i = 5 ∨ i = 6 ∨ i = 7 := by omega
        rcases this with rfl | rfl | rfl | rfl | rfl | rfl | rfl | rfl
        · obtain rfl := Option.some.inj ho
          have b := hB 1 _ _ rfl (by
           intro st hst e
           rcases List.mem_singleton.1 hst with rfl
           · exact absurd e (show ¬ 6 = 1 by decide))
          have c0 := b.at_ 0 _ rfl
          have c1 := b.at_ 1 _ rfl
          clear b
          refine .value W ?_ (Below.refl _ _)
          generalize hA : (puts ds L _).eval = ρ
          have h0 : ρ (.tmp 3) = .pointer (some ⟨w.heap.size + 1, 0, none⟩) := (po hA (by rw [hds]; decide)).trans rfl
          clear hA hd hB ho hs ha hO
          unfold execOp
          go_simp
        · obtain rfl := Option.some.inj ho
          refine .call 34 #[.float .f64 4679240012837945344] ?_ (CP4.out W)
          generalize hA : (puts ds L _).eval = ρ
          have hc : ∀ v, ρ (.const v) = v := fun v => by rw [← hA]; rfl
          have hg : ∀ g, ρ (.func g) = .func (.func g) #[] #[] := fun v => by rw [← hA]; rfl
          have hf := Tryz.func34
          unfold execOp
          go_simp
        · obtain rfl := Option.some.inj ho
          refine .call 36 #[.agg #[.float .f64 t1, .float .f64 t2], .agg #[.float .f64 e1, .float .f64 e2]] ?_ (CD.out W)
          generalize hA : (puts ds L _).eval = ρ
          have hg : ∀ g, ρ (.func g) = .func (.func g) #[] #[] := fun v => by rw [← hA]; rfl
          have h0 : ρ (.tmp 29) = .agg #[.float .f64 t1, .float .f64 t2] := pg 0 hA hap (by rw [hds]; rfl) (hd 0 (by decide +kernel) (alne rfl)) (show 29 < 52 by decide)
          have h1 : ρ (.tmp 30) = .agg #[.float .f64 e1, .float .f64 e2] := pg 1 hA hap (by rw [hds]; rfl) (hd 1 (by decide +kernel) (alne rfl)) (show 30 < 52 by decide)
          have hf := Tryz.func36
          unfold execOp
          go_simp
        · obtain rfl := Option.some.inj ho
          refine .value W ?_ (Below.refl _ _)
          generalize hA : (puts ds L _).eval = ρ
          have hc : ∀ v, ρ (.const v) = v := fun v => by rw [← hA]; rfl
          have h0 : ρ (.tmp 31) = .tuple #[.agg #[.float .f64 u1, .float .f64 u2], .int .i64 0] := pg 2 hA hap (by rw [hds]; rfl) (hd 2 (by decide +kernel) (alne rfl)) (show 31 < 52 by decide)
          clear hA hd hB ho hs ha hO
          unfold execOp
          go_simp
        · obtain rfl := Option.some.inj ho
          refine .value W ?_ (Below.refl _ _)
          generalize hA : (puts ds L _).eval = ρ
          have hc : ∀ v, ρ (.const v) = v := fun v => by rw [← hA]; rfl
          have h0 : ρ (.tmp 31) = .tuple #[.agg #[.float .f64 u1, .float .f64 u2], .int .i64 0] := pg 2 hA hap (by rw [hds]; rfl) (hd 2 (by decide +kernel) (alne rfl)) (show 31 < 52 by decide)
          clear hA hd hB ho hs ha hO
          unfold execOp
          go_simp
        · obtain rfl := Option.some.inj ho
          refine .call 31 #[.agg #[.float .f64 u1, .float .f64 u2], .int .i64 0] ?_ (CU.out W)
          generalize hA : (puts ds L _).eval = ρ
          have hg : ∀ g, ρ (.func g) = .func (.func g) #[] #[] := fun v => by rw [← hA]; rfl
          have h0 : ρ (.tmp 32) = .agg #[.float .f64 u1, .float .f64 u2] := pg 3 hA hap (by rw [hds]; rfl) (hd 3 (by decide +kernel) (alne rfl)) (show 32 < 52 by decide)
          have h1 : ρ (.tmp 33) = .int .i64 0 := pg 4 hA hap (by rw [hds]; rfl) (hd 4 (by decide +kernel) (alne rfl)) (show 33 < 52 by decide)
          have hf := Tryz.func31
          unfold execOp
          go_simp
        · exact absurd rfl (ha _ (List.mem_cons_self ..))
        · exact absurd rfl (hs _ (List.mem_cons_self ..))
   case store =>
        intro st hst L W o h us ho hd hal hC b
        rcases List.mem_singleton.1 hst with rfl
        · dsimp only at ho hd hal hC b ⊢
          obtain rfl := Option.some.inj ho
          obtain ⟨hl, rfl⟩ := hal _ (List.mem_cons_self ..) rfl
          have c0 := b.at_ 0 _ rfl
          have f0 := b.fr 0 _ rfl
          have c1 := b.at_ 1 _ rfl
          have f1 := b.fr 1 _ rfl
          refine ⟨?_, rfl⟩
          generalize hA : (puts ds L _).eval = ρ
          have h0 : ρ (.tmp 9) = .pointer (some ⟨h, 0, none⟩) := by rw [← hA]; exact puts_get 6 ds L _ hap (by rw [hds]; rfl) hl (show 9 < 52 by decide)
          have h1 : ρ (.tmp 34) = .agg #[.float .f64 u1, .float .f64 u2] := pg 5 hA hap (by rw [hds]; rfl) (hd 5 (by decide +kernel) (alne rfl)) (show 34 < 52 by decide)
          have hst' := @fstore
          clear hA hd b ho hal hC
          simp only [putV]
          unfold execOp
          go_simp
   case fin =>
        intro hf W0 K
        rw [hds]
        clear hds hap ds CP4 CD CU
        (try dsimp only at K)
        generalize hf 6 = g9 at *
        (try unfold ptrV)
        simp only [List.set_cons_zero, List.set_cons_succ, puts, Act.put, List.setIfInBounds_toArray]
        rcases E.out with ⟨rfl, rfl, rfl⟩ | ⟨rfl, CR⟩ | ⟨rfl, q1, q2, CQ, CR⟩
        · clear E
          have c0_1 := (K.at_ 0 rfl).at_ 1 _ rfl
          have c5_0 := (K.at_ 5 rfl).at_ 0 _ rfl
          have c5_1 := (K.at_ 5 rfl).at_ 1 _ rfl
          have c2_0 := (K.at_ 2 rfl).at_ 0 _ rfl
          have f2_0 := (K.at_ 2 rfl).fr 0 _ rfl
          have c2_1 := (K.at_ 2 rfl).at_ 1 _ rfl
          have f2_1 := (K.at_ 2 rfl).fr 1 _ rfl
          replace K := Lib.hid K
          go_wp2_with fail
          replace K := K.out
          (try simp only [Exit.inBlock, Exit.then])
          refine bodyPost_ret (v := .agg #[.float .f64 r1, .float .f64 r2]) ?_ rfl ⟨rfl, ?_⟩
          · rw [results_cell1 rfl]; go_simp
          · exact ((K.old).setCell (by first | exact Nat.le_refl _ | omega | (dsimp only; omega)) _).setCell (by first | exact Nat.le_refl _ | omega | (dsimp only; omega)) _
        · clear E
          have c0_1 := (K.at_ 0 rfl).at_ 1 _ rfl
          have c5_0 := (K.at_ 5 rfl).at_ 0 _ rfl
          have c5_1 := (K.at_ 5 rfl).at_ 1 _ rfl
          have c6_0 := (K.at_ 6 rfl).at_ 0 _ rfl
          have c6_1 := (K.at_ 6 rfl).at_ 1 _ rfl
          replace K := Lib.hid K
          go_wp2_with fail
          replace K := K.out
          refine (CR.out W0).mono ?_
          rintro _ v1 ⟨rfl, hb⟩
          clear c0_1 c5_0 c5_1 c6_0 c6_1
          replace K := K.on hb
          clear hb
          have c2_0 := (K.at_ 2 rfl).at_ 0 _ rfl
          have f2_0 := (K.at_ 2 rfl).fr 0 _ rfl
          have c2_1 := (K.at_ 2 rfl).at_ 1 _ rfl
          have f2_1 := (K.at_ 2 rfl).fr 1 _ rfl
          replace K := Lib.hid K
          go_wp2_with fail
          replace K := K.out
          (try simp only [Exit.inBlock, Exit.then])
          refine bodyPost_ret (v := .agg #[.float .f64 r1, .float .f64 r2]) ?_ rfl ⟨rfl, ?_⟩
          · rw [results_cell1 rfl]; go_simp
          · exact ((K.old).setCell (by first | exact Nat.le_refl _ | omega | (dsimp only; omega)) _).setCell (by first | exact Nat.le_refl _ | omega | (dsimp only; omega)) _
        · clear E
          have CU := Lib.hid (fun w => wsures_run (p1 := q1) (p2 := q2) 0 w)
          have c0_1 := (K.at_ 0 rfl).at_ 1 _ rfl
          replace K := Lib.hid K
          go_upto_region 8 with fail
          replace K := K.out
          clear c0_1
          generalize hds : ([some 44, some 45, some 46, some 47, some 48, some 49, some 50, none] : List (Option Tmp)) = ds
          have hap : apartL ds = true := by rw [← hds]; decide
          replace hds := hds.symm
          refine wp_region_kv (fun hf => [some (w.heap.size, [.int .i64 ax, .int .i64 2, .float .f64 am, .float .f64 ph, .float .f64 rt]), some (w.heap.size + 1, [.float .f64 t1, .float .f64 t2]), some (w.heap.size + 1 + 1, [.float .f64 r1, .float .f64 r2]), some (g5, [.float .f64 s1, .float .f64 s2]), some (g6, [.float .f64 o1, .float .f64 o2]), some (g8, [.float .f64 x1, .float .f64 x2]), some (g9, [.float .f64 u1, .float .f64 u2])]) (fun hf => [some (.agg #[.float .f64 x1, .float .f64 x2]), some (.agg #[.float .f64 u1, .float .f64 u2]), some (.tuple #[.agg #[.float .f64 q1, .float .f64 q2], .int .i64 0]), some (.agg #[.float .f64 q1, .float .f64 q2]), some (.int .i64 0), some (.agg #[.float .f64 q1, .float .f64 q2]), some (.agg #[.float .f64 r1, .float .f64 r2]), some (undef)]) [] [⟨7, 2, 0, [.float .f64 r1, .float .f64 r2]⟩] [.agg #[.float .f64 x1, .float .f64 x2], .agg #[.float .f64 u1, .float .f64 u2], .tuple #[.agg #[.float .f64 q1, .float .f64 q2], .int .i64 0], .agg #[.float .f64 q1, .float .f64 q2], .int .i64 0, .agg #[.float .f64 q1, .float .f64 q2], .agg #[.float .f64 r1, .float .f64 r2], undef] ds (by kernel_rfl) (by rw [hds]; rfl) hap (by decide +kernel) (by decide +kernel) K ?ha ?haj ?hai ?hsi ?hss ?hsa ?hsw ?htg ?hE2 ?hE3 ?hE4 ?hL1 ?hL2 ?hL3 ?alloc ?step ?store ?fin
          case ha => intro al hal; cases hal
          case haj => intro al hal al' hal' e; cases hal
          case hai => intro al hal; cases hal
          case hsi => intro st hst st' hst' e; rcases List.mem_singleton.1 hst with rfl <;> (rcases List.mem_singleton.1 hst' with rfl) <;> first | rfl | (exfalso; revert e; simp)
          case hss =>
           intro st hst
           rcases List.mem_singleton.1 hst with rfl
           · show 7 < 8; decide
          case hsa =>
           intro st hst al hal
           cases hal
          case hsw =>
           intro st hst al hal e
           cases hal
          case htg =>
           intro st hst
           rcases List.mem_singleton.1 hst with rfl
           · exact .inl ⟨_, _, rfl, show 0 + 2 ≤ 2 by decide⟩
          case hE2 =>
           intro hf j h1 h2
           have n2 : 2 ≠ j := h1 _ (List.mem_cons_self ..)
           rcases j with _ | _ | _ | _ | _ | _ | _ | j
           · rfl
           · rfl
           · exact absurd rfl n2
           · rfl
           · rfl
           · rfl
           · rfl
           · rfl
          case hE3 =>
           intro hf st hst g us e
           rcases List.mem_singleton.1 hst with rfl
           · obtain ⟨rfl, rfl⟩ := Prod.mk.inj (Option.some.inj (Option.some.inj e)); rfl
          case hE4 =>
           intro hf al hal
           cases hal
          case hL1 => intro hf; rfl
          case hL2 =>
           intro hf i hi hna
           have hi : i < 8 := hi
           have : i = 0 ∨ i = 1 ∨ i = 2 ∨ i = 3 ∨ i = 4 ∨ i = 5 ∨ i = 6 ∨ i = 7 := by omega
           rcases this with rfl | rfl | rfl | rfl | rfl | rfl | rfl | rfl
           · rfl
           · rfl
           · rfl
           · rfl
           · rfl
           · rfl
           · rfl
           · rfl
          case hL3 => intro hf al hal; cases hal
          case alloc =>
           intro al hal o ρ W ho
           cases hal
          case step =>
           intro L W i o ho hs ha hd hB hO
           have hi : i < 8 := (Array.getElem?_eq_some_iff.1 ho).1
           have : i = 0 ∨ i = 1 ∨ i = 2 ∨ i = 3 ∨ i = 4 ∨ i = 5 ∨ i = 6 ∨ i = 7 := by omega
           rcases this with rfl | rfl | rfl | rfl | rfl | rfl | rfl | rfl
           · obtain rfl := Option.some.inj ho
             have b := hB 5 _ _ rfl (by
                intro st hst e
                rcases List.mem_singleton.1 hst with rfl
                · exact absurd e (show ¬ 2 = 5 by decide))
             have c0 := b.at_ 0 _ rfl
             have c1 := b.at_ 1 _ rfl
             clear b
             refine .value W ?_ (Below.refl _ _)
             generalize hA : (puts ds L _).eval = ρ
             have h0 : ρ (.tmp 8) = .pointer (some ⟨g8, 0, none⟩) := (po hA (by rw [hds]; decide)).trans rfl
             clear hA hd hB ho hs ha hO
             unfold execOp
             go_simp
           · obtain rfl := Option.some.inj ho
             have b := hB 6 _ _ rfl (by
                intro st hst e
                rcases List.mem_singleton.1 hst with rfl
                · exact absurd e (show ¬ 2 = 6 by decide))
             have c0 := b.at_ 0 _ rfl
             have c1 := b.at_ 1 _ rfl
             clear b
             refine .value W ?_ (Below.refl _ _)
             generalize hA : (puts ds L _).eval = ρ
             have h0 : ρ (.tmp 9) = .pointer (some ⟨g9, 0, none⟩) := (po hA (by rw [hds]; decide)).trans rfl
             clear hA hd hB ho hs ha hO
             unfold execOp
             go_simp
           · obtain rfl := Option.some.inj ho
             refine .call 37 #[.agg #[.float .f64 u1, .float .f64 u2]] ?_ (CQ.out W)
             generalize hA : (puts ds L _).eval = ρ
             have hg : ∀ g, ρ (.func g) = .func (.func g) #[] #[] := fun v => by rw [← hA]; rfl
             have h0 : ρ (.tmp 45) = .agg #[.float .f64 u1, .float .f64 u2] := pg 1 hA hap (by rw [hds]; rfl) (hd 1 (by decide +kernel) (alne rfl)) (show 45 < 52 by decide)
             have hf := Tryz.func37
             unfold execOp
             go_simp
           · obtain rfl := Option.some.inj ho
             refine .value W ?_ (Below.refl _ _)
             generalize hA : (puts ds L _).eval = ρ
             have hc : ∀ v, ρ (.const v) = v := fun v => by rw [← hA]; rfl
             have h0 : ρ (.tmp 46) = .tuple #[.agg #[.float .f64 q1, .float .f64 q2], .int .i64 0] := pg 2 hA hap (by rw [hds]; rfl) (hd 2 (by decide +kernel) (alne rfl)) (show 46 < 52 by decide)
             clear hA hd hB ho hs ha hO
             unfold execOp
             go_simp
           · obtain rfl := Option.some.inj ho
             refine .value W ?_ (Below.refl _ _)
             generalize hA : (puts ds L _).eval = ρ
             have hc : ∀ v, ρ (.const v) = v := fun v => by rw [← hA]; rfl
             have h0 : ρ (.tmp 46) = .tuple #[.agg #[.float .f64 q1, .float .f64 q2], .int .i64 0] := pg 2 hA hap (by rw [hds]; rfl) (hd 2 (by decide +kernel) (alne rfl)) (show 46 < 52 by decide)
             clear hA hd hB ho hs ha hO
             unfold execOp
             go_simp
           · obtain rfl := Option.some.inj ho
             refine .call 31 #[.agg #[.float .f64 q1, .float .f64 q2], .int .i64 0] ?_ (CU.out W)
             generalize hA : (puts ds L _).eval = ρ
             have hg : ∀ g, ρ (.func g) = .func (.func g) #[] #[] := fun v => by rw [← hA]; rfl
             have h0 : ρ (.tmp 47) = .agg #[.float .f64 q1, .float .f64 q2] := pg 3 hA hap (by rw [hds]; rfl) (hd 3 (by decide +kernel) (alne rfl)) (show 47 < 52 by decide)
             have h1 : ρ (.tmp 48) = .int .i64 0 := pg 4 hA hap (by rw [hds]; rfl) (hd 4 (by decide +kernel) (alne rfl)) (show 48 < 52 by decide)
             have hf := Tryz.func31
             unfold execOp
             go_simp
           · obtain rfl := Option.some.inj ho
             refine .call 35 #[.agg #[.float .f64 x1, .float .f64 x2], .agg #[.float .f64 q1, .float .f64 q2]] ?_ (CR.out W)
             generalize hA : (puts ds L _).eval = ρ
             have hg : ∀ g, ρ (.func g) = .func (.func g) #[] #[] := fun v => by rw [← hA]; rfl
             have h0 : ρ (.tmp 44) = .agg #[.float .f64 x1, .float .f64 x2] := pg 0 hA hap (by rw [hds]; rfl) (hd 0 (by decide +kernel) (alne rfl)) (show 44 < 52 by decide)
             have h1 : ρ (.tmp 49) = .agg #[.float .f64 q1, .float .f64 q2] := pg 5 hA hap (by rw [hds]; rfl) (hd 5 (by decide +kernel) (alne rfl)) (show 49 < 52 by decide)
             have hf := Tryz.func35
             unfold execOp
             go_simp
           · exact absurd rfl (hs _ (List.mem_cons_self ..))
          case store =>
           intro st hst L W o h us ho hd hal hC b
           rcases List.mem_singleton.1 hst with rfl
           · dsimp only at ho hd hal hC b ⊢
             obtain rfl := Option.some.inj ho
             obtain ⟨hh, rfl⟩ := hC _ _ rfl
             replace hh := hh.symm
             subst hh
             have c0 := b.at_ 0 _ rfl
             have f0 := b.fr 0 _ rfl
             have c1 := b.at_ 1 _ rfl
             have f1 := b.fr 1 _ rfl
             refine ⟨?_, rfl⟩
             generalize hA : (puts ds L _).eval = ρ
             have h0 : ρ (.tmp 4) = .pointer (some ⟨w.heap.size + 1 + 1, 0, none⟩) := (po hA (by rw [hds]; decide)).trans rfl
             have h1 : ρ (.tmp 50) = .agg #[.float .f64 r1, .float .f64 r2] := pg 6 hA hap (by rw [hds]; rfl) (hd 6 (by decide +kernel) (alne rfl)) (show 50 < 52 by decide)
             have hst' := @fstore
             clear hA hd b ho hal hC
             simp only [putV]
             unfold execOp
             go_simp
          case fin =>
           intro hf W0 K
           rw [hds]
           clear hds hap ds CQ CU CR
           (try dsimp only at K)
           (try unfold ptrV)
           simp only [List.set_cons_zero, List.set_cons_succ, puts, Act.put, List.setIfInBounds_toArray]
           have c2_0 := (K.at_ 2 rfl).at_ 0 _ rfl
           have c2_1 := (K.at_ 2 rfl).at_ 1 _ rfl
           replace K := Lib.hid K
           go_wp2_with fail
           (try simp only [Exit.inBlock, Exit.then])
           refine bodyPost_ret (v := .agg #[.float .f64 r1, .float .f64 r2]) ?_ rfl ⟨rfl, K.out.old⟩
           rw [results_cell1 rfl]; go_simp
end Go.Proofs.YtgnofnjbmiepjaaGreat

namespace Go.Proofs.YtgnofnjbmiepjaaGreat
open Go.ChangeShapes Go.WideShapes Go.ChangeAt Go.RowKit Ieee.Own Pol

theorem fitV_eq {x y : Nat} (hx : FinW x) (hy : FinW y) (h : V x = V y) : fitB x = fitB y := by
 rw [Bool.eq_iff_iff, fit_iff hx, fit_iff hy, h]
theorem wpt_sn {x k : Nat} (hx : x < 18446744073709551616) (W : (V x).natAbs ≤ 2 ^ (1074 + k)) (g : fitB x = true) : Sn (ptS7 x) k ∧ ps (ptS7 x) = (Q x, Q x) := by
 have fx := fit_fin hx g
 have v := posW_V x
 have f := posW_fin fx
 have gg : fitB (posW x) = true := by rw [fitV_eq f fx v]; exact g
 refine ⟨⟨f.1, f.1, errS_self7 gg, ?_, ?_⟩, ?_⟩
 · show (V (posW x)).natAbs ≤ _; rw [v]; exact W
 · show (V (posW x)).natAbs ≤ _; rw [v]; exact W
 · show (Q (posW x), Q (posW x)) = _; rw [Q_congr v]
theorem up_mW {x k : Nat} (m : Nat) (h : x ≤ 2 ^ k) (e : k = 1074 + m) : x ≤ 2 ^ (1074 + m) := e ▸ h
theorem DivR.uniqW {p q u v : Pr} (h : DivR p q u 0) (k : DivR p q v 0) : u = v := pair_of (OpAll.uniq h k)
theorem le_unitW {x y z : Rat} (h : x * unit * (y * unit) ≤ z * unit * unit) : x * y ≤ z := by
 have u := unit_pos
 rcases Rat.le_total (a := x * y) (b := z) with c | c
 · exact c
 · have a := Rat.mul_nonneg (Rat.mul_nonneg (show 0 ≤ x * y - z by grind) (Rat.le_of_lt u)) (Rat.le_of_lt u)
   have e : (x * y - z) * unit * unit = 0 := by grind
   rcases Rat.mul_eq_zero.1 e with e | e
   · rcases Rat.mul_eq_zero.1 e with e | e <;> grind
   · grind
theorem ge_unitW {x y z : Rat} (h : z * unit * unit ≤ x * unit * (y * unit)) : z ≤ x * y := by
 have u := unit_pos
 rcases Rat.le_total (a := z) (b := x * y) with c | c
 · exact c
 · have a := Rat.mul_nonneg (Rat.mul_nonneg (show 0 ≤ z - x * y by grind) (Rat.le_of_lt u)) (Rat.le_of_lt u)
   have e : (z - x * y) * unit * unit = 0 := by grind
   rcases Rat.mul_eq_zero.1 e with e | e
   · rcases Rat.mul_eq_zero.1 e with e | e <;> grind
   · grind
theorem p16_sn : Sn (ptS7 p16) 16 ∧ ps (ptS7 p16) = (65536, 65536) := by
 obtain ⟨a, b⟩ := wpt_sn (x := p16) (k := 16) (by decide) (by decide +kernel) (by decide)
 exact ⟨a, by rw [b]; have : Q p16 = 65536 := by decide +kernel
              rw [this]⟩
theorem pw_pos' (n : Nat) : (0 : Int) < 2 ^ n := Int.pow_pos (by omega)
theorem div16_ex {t : Pr} (T : Sn t 24) : ∃ U, DivR t (ptS7 p16) U 0 ∧ Sn U 8 ∧ ∀ x : Rat, In x (ps t) → In (x * (1 / 65536)) (ps U) := by
 obtain ⟨P, pp⟩ := p16_sn
 obtain ⟨U, k, R⟩ := div_ex T.w2 P.w2
 have hB : V (posW p16) = 2 ^ 1090 := by decide +kernel
 have tp : (0 : Int) < V (posW p16) := by rw [hB]; exact pw_pos' 1090
 have h0 : errD t.1 t.2 (ptS7 p16).1 (ptS7 p16).2 = 0 := by
  unfold errD
  rw [if_neg (by rw [errSS_of' T.ok P.ok]; simp), if_neg]
  show ¬ (V (posW p16) ≤ 0 ∧ _)
  omega
 have ce := two_cast (1074 + 24)
 have mm : (2 : Int) ^ (1074 + 8) * 2 ^ 1090 = 2 ^ (1074 + 24) * MM := pow_tw (p := 1074 + 8) (q := 1090) (r := 1074 + 24) (s := 1074) (by omega)
 have mp := MM_pos
 have lowc : ∀ a, (V a).natAbs ≤ 2 ^ (1074 + 24) → 0 ≤ quotC a (posW p16) (-(2 ^ (1074 + 8))) := fun a ha => by
  rw [quot_lo_pos tp, hB, Int.neg_mul, mm, ← Int.neg_mul]
  exact Int.mul_le_mul_of_nonneg_right (by omega) (Int.le_of_lt mp)
 have upc : ∀ a, (V a).natAbs ≤ 2 ^ (1074 + 24) → quotC a (posW p16) (2 ^ (1074 + 8)) ≤ 0 := fun a ha => by
  rw [quot_up_pos tp, hB, mm]
  exact Int.mul_le_mul_of_nonneg_right (by omega) (Int.le_of_lt mp)
 obtain ⟨k0, b1, b2⟩ := told_fit7 (m := 8) R h0 (by omega)
  (by rw [four_mem]; exact ⟨lowc _ T.bd.1, lowc _ T.bd.1, lowc _ T.bd.2, lowc _ T.bd.2⟩)
  (by rw [four_mem]; exact ⟨upc _ T.bd.1, upc _ T.bd.1, upc _ T.bd.2, upc _ T.bd.2⟩)
 subst k0
 obtain ⟨l1, l2, -, o⟩ := OpAll.bd R
 obtain ⟨lo, hi, d, u, x1, x2, er⟩ := o rfl (fun lo hi d u => quot_lu' (a := t.1) (b := posW p16) (by omega) (d.le _ (by simp [ptS7])) (u.ge _ (by simp [ptS7])))
 obtain ⟨f1, f2, lq⟩ := errS_zero er
 have d4 := four_mem.1 d.le
 have u4 := four_mem.1 u.ge
 have ll := lowW_le lo
 have hh := highW_ge hi
 rw [← x1] at ll
 rw [← x2] at hh
 have cu := two_cast (1074 + 8)
 have SU : Sn U 8 := ⟨l1, l2, er, by omega, by omega⟩
 have um : ((MM : Int) : Rat) = unit := unit_int.symm
 have qb : Q (posW p16) = 65536 := by decide +kernel
 have conv : ∀ x a : Nat, V x * V (posW p16) ≤ V a * MM → Q x * 65536 ≤ Q a := fun x a h => by
  have a' : ((V x * V (posW p16) : Int) : Rat) ≤ ((V a * MM : Int) : Rat) := Rat.intCast_le_intCast.2 h
  rw [Rat.intCast_mul, Rat.intCast_mul] at a'
  rw [um, ← Q_unit, ← Q_unit, ← Q_unit] at a'
  rw [← qb]
  exact le_unitW a'
 have conv2 : ∀ x a : Nat, V a * MM ≤ V x * V (posW p16) → Q a ≤ Q x * 65536 := fun x a h => by
  have a' : ((V a * MM : Int) : Rat) ≤ ((V x * V (posW p16) : Int) : Rat) := Rat.intCast_le_intCast.2 h
  rw [Rat.intCast_mul, Rat.intCast_mul] at a'
  rw [um, ← Q_unit, ← Q_unit, ← Q_unit] at a'
  rw [← qb]
  exact ge_unitW a'
 refine ⟨U, R, SU, fun x hx => ?_⟩
 obtain ⟨i1, i2⟩ := hx
 have i1 : Q t.1 ≤ x := i1
 have i2 : x ≤ Q t.2 := i2
 have h1 : 0 ≤ quotC t.1 (posW p16) (V lo) := d4.1
 have h2 : quotC t.2 (posW p16) (V hi) ≤ 0 := u4.2.2.1
 rw [quot_lo_pos tp] at h1
 rw [quot_up_pos tp] at h2
 have g1 := conv _ _ (Int.le_trans (Int.mul_le_mul_of_nonneg_right ll (Int.le_of_lt tp)) h1)
 have g2 := conv2 _ _ (Int.le_trans h2 (Int.mul_le_mul_of_nonneg_right hh (Int.le_of_lt tp)))
 constructor
 · show Q U.1 ≤ x * (1 / 65536)
   grind
 · show x * (1 / 65536) ≤ Q U.2
   grind
structure HtS (f : Wv) (t M A S C X U : Pr) : Prop where
 m : MulR (ptS7 f.rt) t M
 a : AddR (ptS7 f.ph) M A
 s : SpRes A S C 0
 x : MulR (ptS7 f.am) C X
 u : DivR t (ptS7 p16) U 0
def HtR (f : Wv) (t R : Pr) : Prop := ∃ M A S C X U, HtS f t M A S C X U ∧ ((f.pw = 0 ∧ R = X) ∨ (f.pw = 1 ∧ MulR X U R) ∨ (f.pw = 2 ∧ ∃ K, SqR U K ∧ MulR X K R))
theorem HtR.uniq {f : Wv} {t R R' : Pr} (h : HtR f t R) (g : HtR f t R') : R = R' := by
 obtain ⟨M, A, S, C, X, U, h, e⟩ := h
 obtain ⟨M', A', S', C', X', U', g, e'⟩ := g
 obtain rfl := h.m.uniq g.m
 obtain rfl := h.a.uniq g.a
 obtain ⟨rfl, rfl, -⟩ := h.s.uniq g.s
 obtain rfl := h.x.uniq g.x
 obtain rfl := h.u.uniqW g.u
 rcases e with ⟨p, rfl⟩ | ⟨p, e⟩ | ⟨p, K, q, e⟩ <;> rcases e' with ⟨p', rfl⟩ | ⟨p', e'⟩ | ⟨p', K', q', e'⟩
 · rfl
 · omega
 · omega
 · omega
 · exact e.uniq e'
 · omega
 · omega
 · omega
 · obtain rfl := q.uniq q'
   exact e.uniq e'
def pq (u : Rat) (n : Nat) : Rat := if n = 0 then 1 else if n = 1 then u else u * u
def hgtQ (f : Wv) (d : Nat) : Rat := Q f.am * CQ (angW f.fr d) * pq (Q d * (1 / 65536)) f.pw.toNat
theorem sp_ang {A : Pr} (S : Sn A 40) : Ang A.1 ∧ Ang A.2 ∧ errT A.1 A.2 = 0 := by
 obtain ⟨f1, f2, -⟩ := S.fits
 have g1 := fit_fin S.l1 f1
 have g2 := fit_fin S.l2 f2
 refine ⟨⟨g1, fit_822 S.l1 f1, pow_as (a := 1074 + 40) (b := 1114) S.bd.1 (by omega)⟩, ⟨g2, fit_822 S.l2 f2, pow_as (a := 1074 + 40) (b := 1114) S.bd.2 (by omega)⟩, ?_⟩
 unfold errT
 rw [if_neg (by rw [S.ok]; simp), if_neg (by rw [err_small g1 f1 (pow_as (a := 1074 + 40) (b := 1114) S.bd.1 (by omega))]; simp)]
 exact err_small g2 f2 (pow_as (a := 1074 + 40) (b := 1114) S.bd.2 (by omega))
theorem wadd_run {p q u : Pr} (hp : W2 p) (hq : W2 q) (R : AddR p q u) (w : World) : Calls Tryz.prog 14 #[pv p, pv q] w fun e w' => e = .returned (pv u) ∧ Below w.heap.size w w' :=
 wadd_shape (k := 0) (Lib.hid (fun w => (sadd_run p.1 p.2 q.1 q.2 hp.l1 hp.l2 hq.l1 hq.l2 w).mono fun e w' h => (⟨h.1.all.uniq R.all, h.2⟩ : e = .returned (spanE u.1 u.2 0) ∧ Below w.heap.size w w'))) w
theorem wmul_run {p q u : Pr} (hp : W2 p) (hq : W2 q) (R : MulR p q u) (w : World) : Calls Tryz.prog 35 #[pv p, pv q] w fun e w' => e = .returned (pv u) ∧ Below w.heap.size w w' :=
 wmul_shape (k := 0) (Lib.hid (fun w => (smul_run p.1 p.2 q.1 q.2 hp.l1 hp.l2 hq.l1 hq.l2 w).mono fun e w' h => (⟨OpAll.uniq h.1 R, h.2⟩ : e = .returned (spanE u.1 u.2 0) ∧ Below w.heap.size w w'))) w
theorem wpoint_run {c : Nat} (hc : c < 18446744073709551616) (g : fitB c = true) (w : World) : Calls Tryz.prog 34 #[.float .f64 c] w fun e w' => e = .returned (pv (ptS7 c)) ∧ Below w.heap.size w w' :=
 wpoint_shape (k := 0) (Lib.hid (fun w => sof7_run hc g w)) w
theorem heights_ex {f : Wv} (O : WvOk f) {t : Pr} (ht : W2 t) (et : timB t = true) : ∃ R, HtR f t R ∧ Sn R 56 ∧
 (∀ d, d < 18446744073709551616 → witB g24 d = true → V t.1 ≤ V d → V d ≤ V t.2 → In (hgtQ f d) (ps R)) ∧
 ∀ w, Calls Tryz.prog 15 #[wvV f, pv t] w fun e w' => e = .returned (pv R) ∧ Below w.heap.size w w' := by
 have T := tim_sn ht et
 obtain ⟨-, fp, bp⟩ := wit_spec O.w.ph v10 O.ph
 obtain ⟨-, fr, br⟩ := wit_spec O.w.rt v10 O.rt
 obtain ⟨-, fa, ba⟩ := wit_spec O.w.am v40 O.am
 obtain ⟨S1, e1⟩ := wpt_sn (k := 10) O.w.ph (up_mW 10 bp (by omega)) fp
 obtain ⟨S2, e2⟩ := wpt_sn (k := 10) O.w.rt (up_mW 10 br (by omega)) fr
 obtain ⟨S3, e3⟩ := wpt_sn (k := 40) O.w.am (up_mW 40 ba (by omega)) fa
 obtain ⟨P4, -⟩ := p16_sn
 obtain ⟨M, nM, rM, kM⟩ := mul_step7 S2 T (by omega)
 obtain ⟨A, nA, rA, kA⟩ := add_step7 (m := 34) (S1.le (by omega)) (nM.le (by omega)) (by omega)
 obtain ⟨S, C, k, SR, CS⟩ := uspans_run nA.l1 nA.l2
 obtain ⟨a1, a2, ea⟩ := sp_ang (nA.le (by omega))
 have hk : k = 0 := SR.err.trans ea
 subst hk
 obtain ⟨r, Rr⟩ := rst_ex a1
 obtain ⟨-, uC, -, -⟩ := spans_in a1 Rr SR (Int.le_refl _) nA.fits.2.2
 have nC := unit_sn uC
 obtain ⟨-, uS, -, -⟩ := spans_in a1 Rr SR (Int.le_refl _) nA.fits.2.2
 have uS' := (spans_in a1 Rr SR (Int.le_refl _) nA.fits.2.2).1
 obtain ⟨X, nX, rX', kX⟩ := mul_step7 S3 nC (by omega)
 obtain ⟨U, rU, nU, kU⟩ := div16_ex T
 have H : HtS f t M A S C X U := ⟨rM, rA, SR, rX', rU⟩
 -- the cosine and the age
 have hold : ∀ d, d < 18446744073709551616 → witB g24 d = true → V t.1 ≤ V d → V d ≤ V t.2 → In (Q f.am * CQ (angW f.fr d)) (ps X) ∧ In (Q d * (1 / 65536)) (ps U) := by
  intro d hd td l1 l2
  have AA := O.ang hd td
  have Wr := wit_wd O.w.rt v10 O.rt
  have Wd' := wit_wd hd v24 td
  have i1 : In (Q f.rt * Q d) (ps M) := In.mul (A := ps (ptS7 f.rt)) (B := ps t) (by rw [e2]; exact ⟨Rat.le_refl, Rat.le_refl⟩) ⟨Q_le.2 l1, Q_le.2 l2⟩ kM
  have b1 := between_mul (lo := M.1) (hi := M.2) (Wr.le (by omega) (by omega)) (Wd'.le (by omega) (by omega)) AA.vm i1
  have i2 : In (Q f.ph + Q (mX f.rt d)) (ps A) := In.add (A := ps (ptS7 f.ph)) (B := ps M) (by rw [e1]; exact ⟨Rat.le_refl, Rat.le_refl⟩) ⟨Q_le.2 b1.1, Q_le.2 b1.2⟩ kA
  have b2 := between_add (lo := A.1) (hi := A.2) AA.va i2
  have b3 : V A.1 ≤ V (angW f.fr d) ∧ V (angW f.fr d) ≤ V A.2 := by
   unfold angW
   by_cases c : fitB (angA f.fr d) = true
   · rw [if_pos c]; exact b2
   · rw [if_neg c]
     obtain ⟨g1, g2, -⟩ := nA.fits
     have s := unfit_small AA.fin (Bool.eq_false_iff.2 c) AA.abs
     have z : V (0 : Nat) = 0 := V_zero
     rw [z]
     exact zero_between (fit_big (fit_fin nA.l1 g1) g1) (fit_big (fit_fin nA.l2 g2) g2) s b2.1 b2.2
  obtain ⟨r', R'⟩ := rst_ex (ang_ang AA)
  obtain ⟨-, -, -, iC⟩ := spans_in (ang_ang AA) R' SR b3.1 b3.2
  rw [← (SQ_of R').2] at iC
  exact ⟨In.mul (A := ps (ptS7 f.am)) (B := ps C) (by rw [e3]; exact ⟨Rat.le_refl, Rat.le_refl⟩) iC kX, kU _ ⟨Q_le.2 l1, Q_le.2 l2⟩⟩
 have CP1 := Lib.hid (fun w => wpoint_run O.w.ph fp w)
 have CP2 := Lib.hid (fun w => wpoint_run O.w.rt fr w)
 have CP3 := Lib.hid (fun w => wpoint_run O.w.am fa w)
 have CP4 := Lib.hid (fun w => wpoint_run (c := p16) (by decide) (by decide) w)
 have CM := Lib.hid (fun w => wmul_run S2.w2 ht rM w)
 have CA := Lib.hid (fun w => wadd_run S1.w2 nM.w2 rA w)
 have CX := Lib.hid (fun w => wmul_run S3.w2 nC.w2 rX' w)
 have CD := Lib.hid (fun w => (sdiv_run t.1 t.2 (ptS7 p16).1 (ptS7 p16).2 ht.l1 ht.l2 P4.l1 P4.l2 w).mono fun e w' h => (⟨OpAll.uniq h.1 rU, h.2⟩ : e = .returned (spanE U.1 U.2 0) ∧ Below w.heap.size w w'))
 have p3 : f.pw = 0 ∨ f.pw = 1 ∨ f.pw = 2 := by have a := O.pw0; have b := O.pw1; omega
 rcases p3 with p | p | p
 · refine ⟨X, ⟨M, A, S, C, X, U, H, .inl ⟨p, rfl⟩⟩, nX.le (by omega), fun d hd td l1 l2 => ?_, fun w => ?_⟩
   · have i := (hold d hd td l1 l2).1
     unfold hgtQ pq
     rw [p, show (0 : Int).toNat = 0 from rfl, if_pos rfl, Rat.mul_one]
     exact i
   · exact wheights_shape (pw := f.pw) CP1 CP2 CM CA (Lib.hid CS) CP3 CX CP4 CD (Lib.hid (.inl ⟨p, rfl, rfl⟩)) w
 · obtain ⟨R, nR, rR, kR⟩ := mul_step7 nX nU (by omega)
   refine ⟨R, ⟨M, A, S, C, X, U, H, .inr (.inl ⟨p, rR⟩)⟩, nR.le (by omega), fun d hd td l1 l2 => ?_, fun w => ?_⟩
   · have i := hold d hd td l1 l2
     unfold hgtQ pq
     rw [p, show (1 : Int).toNat = 1 from rfl, if_neg (by decide), if_pos rfl]
     exact In.mul i.1 i.2 kR
   · exact wheights_shape (pw := f.pw) CP1 CP2 CM CA (Lib.hid CS) CP3 CX CP4 CD (Lib.hid (.inr (.inl ⟨p, Lib.hid (fun w => wmul_run nX.w2 nU.w2 rR w)⟩))) w
 · obtain ⟨K, nK, rK, kK⟩ := sq_step7 nU (by omega)
   obtain ⟨R, nR, rR, kR⟩ := mul_step7 nX nK (by omega)
   refine ⟨R, ⟨M, A, S, C, X, U, H, .inr (.inr ⟨p, K, rK, rR⟩)⟩, nR.le (by omega), fun d hd td l1 l2 => ?_, fun w => ?_⟩
   · have i := hold d hd td l1 l2
     unfold hgtQ pq
     rw [p, show (2 : Int).toNat = 2 from rfl, if_neg (by decide), if_neg (by decide)]
     exact In.mul i.1 (i.2.sq kK) kR
   · have CQ := Lib.hid (fun w => (ssquare_run U.1 U.2 nU.l1 nU.l2 w).mono fun e w' h => (⟨OpAll.uniq h.1 rK, h.2⟩ : e = .returned (spanE K.1 K.2 0) ∧ Below w.heap.size w w'))
     exact wheights_shape (pw := f.pw) CP1 CP2 CM CA (Lib.hid CS) CP3 CX CP4 CD (Lib.hid (.inr (.inr ⟨p, K.1, K.2, CQ, Lib.hid (fun w => wmul_run nX.w2 nK.w2 rR w)⟩))) w
end Go.Proofs.YtgnofnjbmiepjaaGreat
