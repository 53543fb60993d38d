/- Proved here: what the texts Vma, Vmb, Vei prove, one behind the other. -/
import Derived.Test.YtacinenddnfcbaaGreatJy6
import Derived.LoopN

set_option maxHeartbeats 4000000
set_option maxRecDepth 100000
namespace Go.Proofs.YtacinenddnfcbaaGreat
open Go.ChangeShapes Go.WideShapes Go.ChangeAt Go.RowKit Ieee.Own

abbrev M9 := V3 × V3 × V3
def matV (m : M9) : Value := .agg #[.float .f64 m.1.1, .float .f64 m.1.2.1, .float .f64 m.1.2.2, .float .f64 m.2.1.1, .float .f64 m.2.1.2.1, .float .f64 m.2.1.2.2, .float .f64 m.2.2.1, .float .f64 m.2.2.2.1, .float .f64 m.2.2.2.2]
structure W9 (m : M9) : Prop where
 w1 : W3 m.1
 w2 : W3 m.2.1
 w3 : W3 m.2.2
def fitM (m : M9) : Bool := fitV m.1 && fitV m.2.1 && fitV m.2.2
def matE (m : M9) (k : Int) : Value := .tuple #[matV m, .int .i64 k]
def z9 : M9 := (z3, z3, z3)
theorem vfitmat_run {m : M9} (h : W9 m) (w : World) : Calls Tryz.prog 238 #[matV m] w fun e w' => e = .returned (.bool (fitM m)) ∧ Below w.heap.size w w' := by
 have C1 := Lib.hid (fun w => vfit_run h.w1 w)
 have C2 := Lib.hid (fun w => vfit_run h.w2 w)
 have C3 := Lib.hid (fun w => vfit_run h.w3 w)
 clear h
 obtain ⟨⟨a1, a2, a3⟩, ⟨b1, b2, b3⟩, c1, c2, c3⟩ := m
 unfold fitM matV
 unfold vecV at *
 dsimp only at *
 generalize fitV (a1, a2, a3) = x at *
 generalize fitV (b1, b2, b3) = y at *
 generalize fitV (c1, c2, c3) = z at *
 have K0 := kw1 w 144 [a1, a2, a3, b1, b2, b3, c1, c2, c3]
 simp only [objW, List.map_cons, List.map_nil] at K0
 have hst := @fstore
 replace K0 := Lib.hid K0
 cases x
 · go_enter Tryz.func238, Tryz.ntmps238
   go_wp2_with fail
   have K := K0.out
   clear K0
   generalize w.alloc _ = wr at *
   refine (C1.out wr).mono ?_
   rintro _ v1 ⟨rfl, hb⟩
   replace K := K.on hb
   clear hb
   replace K := Lib.hid K
   go_wp2_with fail
   replace K := K.out
   go_ret
   exact ⟨rfl, K.old⟩
 · cases y
   · go_enter Tryz.func238, Tryz.ntmps238
     go_wp2_with fail
     have K := K0.out
     clear K0
     generalize w.alloc _ = wr at *
     refine (C1.out wr).mono ?_
     rintro _ v1 ⟨rfl, hb⟩
     replace K := K.on hb
     clear hb
     have c0_3 := (K.at_ 0 rfl).at_ 3 _ rfl
     have c0_4 := (K.at_ 0 rfl).at_ 4 _ rfl
     have c0_5 := (K.at_ 0 rfl).at_ 5 _ rfl
     replace K := Lib.hid K
     go_wp2_with fail
     replace K := K.out
     refine (C2.out v1).mono ?_
     rintro _ v2 ⟨rfl, hb⟩
     clear c0_3 c0_4 c0_5
     replace K := K.on hb
     clear hb
     replace K := Lib.hid K
     go_wp2_with fail
     replace K := K.out
     go_ret
     exact ⟨rfl, K.old⟩
   · go_enter Tryz.func238, Tryz.ntmps238
     go_wp2_with fail
     have K := K0.out
     clear K0
     generalize w.alloc _ = wr at *
     refine (C1.out wr).mono ?_
     rintro _ v1 ⟨rfl, hb⟩
     replace K := K.on hb
     clear hb
     have c0_3 := (K.at_ 0 rfl).at_ 3 _ rfl
     have c0_4 := (K.at_ 0 rfl).at_ 4 _ rfl
     have c0_5 := (K.at_ 0 rfl).at_ 5 _ rfl
     replace K := Lib.hid K
     go_wp2_with fail
     replace K := K.out
     refine (C2.out v1).mono ?_
     rintro _ v2 ⟨rfl, hb⟩
     clear c0_3 c0_4 c0_5
     replace K := K.on hb
     clear hb
     have c0_6 := (K.at_ 0 rfl).at_ 6 _ rfl
     have c0_7 := (K.at_ 0 rfl).at_ 7 _ rfl
     have c0_8 := (K.at_ 0 rfl).at_ 8 _ rfl
     replace K := Lib.hid K
     go_wp2_with fail
     replace K := K.out
     refine (C3.out v2).mono ?_
     rintro _ v3 ⟨rfl, hb⟩
     clear c0_6 c0_7 c0_8
     replace K := K.on hb
     clear hb
     replace K := Lib.hid K
     go_wp2_with fail
     replace K := K.out
     go_ret
     exact ⟨rfl, K.old⟩
theorem vtoldmat_ok {a1 a2 a3 b1 b2 b3 c1 c2 c3 p1 p2 p3 q1 q2 q3 r1 r2 r3 : Nat} (C1 : Hid (∀ w, Calls Tryz.prog 62 #[.agg #[.float .f64 a1, .float .f64 a2, .float .f64 a3]] w fun e w' => e = .returned (.tuple #[.agg #[.float .f64 p1, .float .f64 p2, .float .f64 p3], .int .i64 0]) ∧ Below w.heap.size w w')) (C2 : Hid (∀ w, Calls Tryz.prog 62 #[.agg #[.float .f64 b1, .float .f64 b2, .float .f64 b3]] w fun e w' => e = .returned (.tuple #[.agg #[.float .f64 q1, .float .f64 q2, .float .f64 q3], .int .i64 0]) ∧ Below w.heap.size w w')) (C3 : Hid (∀ w, Calls Tryz.prog 62 #[.agg #[.float .f64 c1, .float .f64 c2, .float .f64 c3]] w fun e w' => e = .returned (.tuple #[.agg #[.float .f64 r1, .float .f64 r2, .float .f64 r3], .int .i64 0]) ∧ Below w.heap.size w w')) (w : World) : Calls Tryz.prog 237 #[.agg #[.float .f64 a1, .float .f64 a2, .float .f64 a3, .float .f64 b1, .float .f64 b2, .float .f64 b3, .float .f64 c1, .float .f64 c2, .float .f64 c3]] w fun e w' => e = .returned (.tuple #[.agg #[.float .f64 p1, .float .f64 p2, .float .f64 p3, .float .f64 q1, .float .f64 q2, .float .f64 q3, .float .f64 r1, .float .f64 r2, .float .f64 r3], .int .i64 0]) ∧ Below w.heap.size w w' := by
 have K0 := kw2 w 144 144 [a1, a2, a3, b1, b2, b3, c1, c2, c3] [0, 0, 0, 0, 0, 0, 0, 0, 0]
 simp only [objW, List.map_cons, List.map_nil] at K0
 have hst := @fstore
 replace K0 := Lib.hid K0
 go_enter Tryz.func237, Tryz.ntmps237
 go_wp2_with fail
 have K := K0.out
 clear K0
 generalize (w.alloc _).alloc _ = wr at *
 refine wp_loop_rounds 4 ?_
 rw [rounds_succ]
 have c0_0 := (K.at_ 0 rfl).at_ 0 _ rfl
 have c0_1 := (K.at_ 0 rfl).at_ 1 _ rfl
 have c0_2 := (K.at_ 0 rfl).at_ 2 _ rfl
 replace K := Lib.hid K
 go_wp2_with fail
 replace K := K.out
 clear c0_0 c0_1 c0_2
 refine (C1.out wr).mono ?_
 rintro _ v ⟨rfl, hb⟩
 replace K := (K.on hb).new 41 [p1, p2, p3]
 simp only [objW, List.map_cons, List.map_nil, List.cons_append, List.nil_append] at K
 clear hb
 have c0_0 := (K.at_ 0 rfl).at_ 0 _ rfl
 have f0_0 := (K.at_ 0 rfl).fr 0 _ rfl
 have c0_1 := (K.at_ 0 rfl).at_ 1 _ rfl
 have f0_1 := (K.at_ 0 rfl).fr 1 _ rfl
 have c0_2 := (K.at_ 0 rfl).at_ 2 _ rfl
 have f0_2 := (K.at_ 0 rfl).fr 2 _ rfl
 have c2_0 := (K.at_ 2 rfl).at_ 0 _ rfl
 have c2_1 := (K.at_ 2 rfl).at_ 1 _ rfl
 have c2_2 := (K.at_ 2 rfl).at_ 2 _ rfl
 replace K := Lib.hid K
 go_wp2_with fail
 replace K := K.out
 clear c0_0 f0_0 c0_1 f0_1 c0_2 f0_2 c2_0 c2_1 c2_2
 (try simp only [Exit.vnBlock, Exit.then])
 replace K := K.put 0 rfl 0 [p1, p2, p3] (by simp)
 simp only [putW, setL, List.set_cons_zero, List.set_cons_succ] at K
 generalize World.setCell _ _ _ = wr at *
 generalize v.heap.size = g0 at *
 rw [rounds_succ]
 have c0_3 := (K.at_ 0 rfl).at_ 3 _ rfl
 have c0_4 := (K.at_ 0 rfl).at_ 4 _ rfl
 have c0_5 := (K.at_ 0 rfl).at_ 5 _ rfl
 replace K := Lib.hid K
 go_wp2_with fail
 replace K := K.out
 clear c0_3 c0_4 c0_5
 refine (C2.out wr).mono ?_
 rintro _ v ⟨rfl, hb⟩
 replace K := (K.on hb).new 41 [q1, q2, q3]
 simp only [objW, List.map_cons, List.map_nil, List.cons_append, List.nil_append] at K
 clear hb
 have c0_3 := (K.at_ 0 rfl).at_ 3 _ rfl
 have f0_3 := (K.at_ 0 rfl).fr 3 _ rfl
 have c0_4 := (K.at_ 0 rfl).at_ 4 _ rfl
 have f0_4 := (K.at_ 0 rfl).fr 4 _ rfl
 have c0_5 := (K.at_ 0 rfl).at_ 5 _ rfl
 have f0_5 := (K.at_ 0 rfl).fr 5 _ rfl
 have c3_0 := (K.at_ 3 rfl).at_ 0 _ rfl
 have c3_1 := (K.at_ 3 rfl).at_ 1 _ rfl
 have c3_2 := (K.at_ 3 rfl).at_ 2 _ rfl
 replace K := Lib.hid K
 go_wp2_with fail
 replace K := K.out
 clear c0_3 f0_3 c0_4 f0_4 c0_5 f0_5 c3_0 c3_1 c3_2
 (try simp only [Exit.vnBlock, Exit.then])
 replace K := K.put 0 rfl 3 [q1, q2, q3] (by simp)
 simp only [putW, setL, List.set_cons_zero, List.set_cons_succ] at K
 generalize World.setCell _ _ _ = wr at *
 generalize v.heap.size = g1 at *
 rw [rounds_succ]
 have c0_6 := (K.at_ 0 rfl).at_ 6 _ rfl
 have c0_7 := (K.at_ 0 rfl).at_ 7 _ rfl
 have c0_8 := (K.at_ 0 rfl).at_ 8 _ rfl
 replace K := Lib.hid K
 go_wp2_with fail
 replace K := K.out
 clear c0_6 c0_7 c0_8
 refine (C3.out wr).mono ?_
 rintro _ v ⟨rfl, hb⟩
 replace K := (K.on hb).new 41 [r1, r2, r3]
 simp only [objW, List.map_cons, List.map_nil, List.cons_append, List.nil_append] at K
 clear hb
 have c0_6 := (K.at_ 0 rfl).at_ 6 _ rfl
 have f0_6 := (K.at_ 0 rfl).fr 6 _ rfl
 have c0_7 := (K.at_ 0 rfl).at_ 7 _ rfl
 have f0_7 := (K.at_ 0 rfl).fr 7 _ rfl
 have c0_8 := (K.at_ 0 rfl).at_ 8 _ rfl
 have f0_8 := (K.at_ 0 rfl).fr 8 _ rfl
 have c4_0 := (K.at_ 4 rfl).at_ 0 _ rfl
 have c4_1 := (K.at_ 4 rfl).at_ 1 _ rfl
 have c4_2 := (K.at_ 4 rfl).at_ 2 _ rfl
 replace K := Lib.hid K
 go_wp2_with fail
 replace K := K.out
 clear c0_6 f0_6 c0_7 f0_7 c0_8 f0_8 c4_0 c4_1 c4_2
 (try simp only [Exit.vnBlock, Exit.then])
 replace K := K.put 0 rfl 6 [r1, r2, r3] (by simp)
 simp only [putW, setL, List.set_cons_zero, List.set_cons_succ] at K
 generalize World.setCell _ _ _ = wr at *
 generalize v.heap.size = g2 at *
 rw [rounds_succ]
 have c0_0 := (K.at_ 0 rfl).at_ 0 _ rfl
 have c0_1 := (K.at_ 0 rfl).at_ 1 _ rfl
 have c0_2 := (K.at_ 0 rfl).at_ 2 _ rfl
 have c0_3 := (K.at_ 0 rfl).at_ 3 _ rfl
 have c0_4 := (K.at_ 0 rfl).at_ 4 _ rfl
 have c0_5 := (K.at_ 0 rfl).at_ 5 _ rfl
 have c0_6 := (K.at_ 0 rfl).at_ 6 _ rfl
 have c0_7 := (K.at_ 0 rfl).at_ 7 _ rfl
 have c0_8 := (K.at_ 0 rfl).at_ 8 _ rfl
 have c1_0 := (K.at_ 1 rfl).at_ 0 _ rfl
 have f1_0 := (K.at_ 1 rfl).fr 0 _ rfl
 have c1_1 := (K.at_ 1 rfl).at_ 1 _ rfl
 have f1_1 := (K.at_ 1 rfl).fr 1 _ rfl
 have c1_2 := (K.at_ 1 rfl).at_ 2 _ rfl
 have f1_2 := (K.at_ 1 rfl).fr 2 _ rfl
 have c1_3 := (K.at_ 1 rfl).at_ 3 _ rfl
 have f1_3 := (K.at_ 1 rfl).fr 3 _ rfl
 have c1_4 := (K.at_ 1 rfl).at_ 4 _ rfl
 have f1_4 := (K.at_ 1 rfl).fr 4 _ rfl
 have c1_5 := (K.at_ 1 rfl).at_ 5 _ rfl
 have f1_5 := (K.at_ 1 rfl).fr 5 _ rfl
 have c1_6 := (K.at_ 1 rfl).at_ 6 _ rfl
 have f1_6 := (K.at_ 1 rfl).fr 6 _ rfl
 have c1_7 := (K.at_ 1 rfl).at_ 7 _ rfl
 have f1_7 := (K.at_ 1 rfl).fr 7 _ rfl
 have c1_8 := (K.at_ 1 rfl).at_ 8 _ rfl
 have f1_8 := (K.at_ 1 rfl).fr 8 _ rfl
 replace K := Lib.hid K
 go_wp2_with fail
 replace K := K.out
 (try simp only [Exit.vnBlock, Exit.then])
 refine bodyPost_ret (v := .tuple #[.agg #[.float .f64 p1, .float .f64 p2, .float .f64 p3, .float .f64 q1, .float .f64 q2, .float .f64 q3, .float .f64 r1, .float .f64 r2, .float .f64 r3], .int .i64 0]) ?_ rfl ⟨rfl, ?_⟩
 · rw [results_cell_tmp rfl]; go_simp
 · exact (((((((((K.old).setCell (by first | exact Nat.le_refl _ | (dsimp only; omega)) _).setCell (by first | exact Nat.le_refl _ | (dsimp only; omega)) _).setCell (by first | exact Nat.le_refl _ | (dsimp only; omega)) _).setCell (by first | exact Nat.le_refl _ | (dsimp only; omega)) _).setCell (by first | exact Nat.le_refl _ | (dsimp only; omega)) _).setCell (by first | exact Nat.le_refl _ | (dsimp only; omega)) _).setCell (by first | exact Nat.le_refl _ | (dsimp only; omega)) _).setCell (by first | exact Nat.le_refl _ | (dsimp only; omega)) _).setCell (by first | exact Nat.le_refl _ | (dsimp only; omega)) _
theorem vtoldmat_no0 {a1 a2 a3 b1 b2 b3 c1 c2 c3 p1 p2 p3 : Nat} {k : Int} (t : (k != 0) = true) (C1 : Hid (∀ w, Calls Tryz.prog 62 #[.agg #[.float .f64 a1, .float .f64 a2, .float .f64 a3]] w fun e w' => e = .returned (.tuple #[.agg #[.float .f64 p1, .float .f64 p2, .float .f64 p3], .int .i64 k]) ∧ Below w.heap.size w w')) (w : World) : Calls Tryz.prog 237 #[.agg #[.float .f64 a1, .float .f64 a2, .float .f64 a3, .float .f64 b1, .float .f64 b2, .float .f64 b3, .float .f64 c1, .float .f64 c2, .float .f64 c3]] w fun e w' => e = .returned (.tuple #[.agg #[.float .f64 0, .float .f64 0, .float .f64 0, .float .f64 0, .float .f64 0, .float .f64 0, .float .f64 0, .float .f64 0, .float .f64 0], .int .i64 k]) ∧ Below w.heap.size w w' := by
 have K0 := kw2 w 144 144 [a1, a2, a3, b1, b2, b3, c1, c2, c3] [0, 0, 0, 0, 0, 0, 0, 0, 0]
 simp only [objW, List.map_cons, List.map_nil] at K0
 have hst := @fstore
 replace K0 := Lib.hid K0
 go_enter Tryz.func237, Tryz.ntmps237
 go_wp2_with fail
 have K := K0.out
 clear K0
 generalize (w.alloc _).alloc _ = wr at *
 refine wp_loop_rounds 4 ?_
 rw [rounds_succ]
 have c0_0 := (K.at_ 0 rfl).at_ 0 _ rfl
 have c0_1 := (K.at_ 0 rfl).at_ 1 _ rfl
 have c0_2 := (K.at_ 0 rfl).at_ 2 _ rfl
 replace K := Lib.hid K
 go_wp2_with fail
 replace K := K.out
 clear c0_0 c0_1 c0_2
 refine (C1.out wr).mono ?_
 rintro _ v ⟨rfl, hb⟩
 replace K := (K.on hb).new 41 [p1, p2, p3]
 simp only [objW, List.map_cons, List.map_nil, List.cons_append, List.nil_append] at K
 clear hb
 have c1_0 := (K.at_ 1 rfl).at_ 0 _ rfl
 have f1_0 := (K.at_ 1 rfl).fr 0 _ rfl
 have c1_1 := (K.at_ 1 rfl).at_ 1 _ rfl
 have f1_1 := (K.at_ 1 rfl).fr 1 _ rfl
 have c1_2 := (K.at_ 1 rfl).at_ 2 _ rfl
 have f1_2 := (K.at_ 1 rfl).fr 2 _ rfl
 have c1_3 := (K.at_ 1 rfl).at_ 3 _ rfl
 have f1_3 := (K.at_ 1 rfl).fr 3 _ rfl
 have c1_4 := (K.at_ 1 rfl).at_ 4 _ rfl
 have f1_4 := (K.at_ 1 rfl).fr 4 _ rfl
 have c1_5 := (K.at_ 1 rfl).at_ 5 _ rfl
 have f1_5 := (K.at_ 1 rfl).fr 5 _ rfl
 have c1_6 := (K.at_ 1 rfl).at_ 6 _ rfl
 have f1_6 := (K.at_ 1 rfl).fr 6 _ rfl
 have c1_7 := (K.at_ 1 rfl).at_ 7 _ rfl
 have f1_7 := (K.at_ 1 rfl).fr 7 _ rfl
 have c1_8 := (K.at_ 1 rfl).at_ 8 _ rfl
 have f1_8 := (K.at_ 1 rfl).fr 8 _ rfl
 replace K := Lib.hid K
 go_wp2_with fail
 replace K := K.out
 (try simp only [Exit.vnBlock, Exit.then])
 refine bodyPost_ret (v := .tuple #[.agg #[.float .f64 0, .float .f64 0, .float .f64 0, .float .f64 0, .float .f64 0, .float .f64 0, .float .f64 0, .float .f64 0, .float .f64 0], .int .i64 k]) ?_ rfl ⟨rfl, ?_⟩
 · rw [results_cell_tmp rfl]; go_simp
 · exact (((((((((K.old).setCell (by first | exact Nat.le_refl _ | (dsimp only; omega)) _).setCell (by first | exact Nat.le_refl _ | (dsimp only; omega)) _).setCell (by first | exact Nat.le_refl _ | (dsimp only; omega)) _).setCell (by first | exact Nat.le_refl _ | (dsimp only; omega)) _).setCell (by first | exact Nat.le_refl _ | (dsimp only; omega)) _).setCell (by first | exact Nat.le_refl _ | (dsimp only; omega)) _).setCell (by first | exact Nat.le_refl _ | (dsimp only; omega)) _).setCell (by first | exact Nat.le_refl _ | (dsimp only; omega)) _).setCell (by first | exact Nat.le_refl _ | (dsimp only; omega)) _
theorem vtoldmat_no1 {a1 a2 a3 b1 b2 b3 c1 c2 c3 p1 p2 p3 q1 q2 q3 : Nat} {k : Int} (t : (k != 0) = true) (C1 : Hid (∀ w, Calls Tryz.prog 62 #[.agg #[.float .f64 a1, .float .f64 a2, .float .f64 a3]] w fun e w' => e = .returned (.tuple #[.agg #[.float .f64 p1, .float .f64 p2, .float .f64 p3], .int .i64 0]) ∧ Below w.heap.size w w')) (C2 : Hid (∀ w, Calls Tryz.prog 62 #[.agg #[.float .f64 b1, .float .f64 b2, .float .f64 b3]] w fun e w' => e = .returned (.tuple #[.agg #[.float .f64 q1, .float .f64 q2, .float .f64 q3], .int .i64 k]) ∧ Below w.heap.size w w')) (w : World) : Calls Tryz.prog 237 #[.agg #[.float .f64 a1, .float .f64 a2, .float .f64 a3, .float .f64 b1, .float .f64 b2, .float .f64 b3, .float .f64 c1, .float .f64 c2, .float .f64 c3]] w fun e w' => e = .returned (.tuple #[.agg #[.float .f64 0, .float .f64 0, .float .f64 0, .float .f64 0, .float .f64 0, .float .f64 0, .float .f64 0, .float .f64 0, .float .f64 0], .int .i64 k]) ∧ Below w.heap.size w w' := by
 have K0 := kw2 w 144 144 [a1, a2, a3, b1, b2, b3, c1, c2, c3] [0, 0, 0, 0, 0, 0, 0, 0, 0]
 simp only [objW, List.map_cons, List.map_nil] at K0
 have hst := @fstore
 replace K0 := Lib.hid K0
 go_enter Tryz.func237, Tryz.ntmps237
 go_wp2_with fail
 have K := K0.out
 clear K0
 generalize (w.alloc _).alloc _ = wr at *
 refine wp_loop_rounds 4 ?_
 rw [rounds_succ]
 have c0_0 := (K.at_ 0 rfl).at_ 0 _ rfl
 have c0_1 := (K.at_ 0 rfl).at_ 1 _ rfl
 have c0_2 := (K.at_ 0 rfl).at_ 2 _ rfl
 replace K := Lib.hid K
 go_wp2_with fail
 replace K := K.out
 clear c0_0 c0_1 c0_2
 refine (C1.out wr).mono ?_
 rintro _ v ⟨rfl, hb⟩
 replace K := (K.on hb).new 41 [p1, p2, p3]
 simp only [objW, List.map_cons, List.map_nil, List.cons_append, List.nil_append] at K
 clear hb
 have c0_0 := (K.at_ 0 rfl).at_ 0 _ rfl
 have f0_0 := (K.at_ 0 rfl).fr 0 _ rfl
 have c0_1 := (K.at_ 0 rfl).at_ 1 _ rfl
 have f0_1 := (K.at_ 0 rfl).fr 1 _ rfl
 have c0_2 := (K.at_ 0 rfl).at_ 2 _ rfl
 have f0_2 := (K.at_ 0 rfl).fr 2 _ rfl
 have c2_0 := (K.at_ 2 rfl).at_ 0 _ rfl
 have c2_1 := (K.at_ 2 rfl).at_ 1 _ rfl
 have c2_2 := (K.at_ 2 rfl).at_ 2 _ rfl
 replace K := Lib.hid K
 go_wp2_with fail
 replace K := K.out
 clear c0_0 f0_0 c0_1 f0_1 c0_2 f0_2 c2_0 c2_1 c2_2
 (try simp only [Exit.vnBlock, Exit.then])
 replace K := K.put 0 rfl 0 [p1, p2, p3] (by simp)
 simp only [putW, setL, List.set_cons_zero, List.set_cons_succ] at K
 generalize World.setCell _ _ _ = wr at *
 generalize v.heap.size = g0 at *
 rw [rounds_succ]
 have c0_3 := (K.at_ 0 rfl).at_ 3 _ rfl
 have c0_4 := (K.at_ 0 rfl).at_ 4 _ rfl
 have c0_5 := (K.at_ 0 rfl).at_ 5 _ rfl
 replace K := Lib.hid K
 go_wp2_with fail
 replace K := K.out
 clear c0_3 c0_4 c0_5
 refine (C2.out wr).mono ?_
 rintro _ v ⟨rfl, hb⟩
 replace K := (K.on hb).new 41 [q1, q2, q3]
 simp only [objW, List.map_cons, List.map_nil, List.cons_append, List.nil_append] at K
 clear hb
 have c1_0 := (K.at_ 1 rfl).at_ 0 _ rfl
 have f1_0 := (K.at_ 1 rfl).fr 0 _ rfl
 have c1_1 := (K.at_ 1 rfl).at_ 1 _ rfl
 have f1_1 := (K.at_ 1 rfl).fr 1 _ rfl
 have c1_2 := (K.at_ 1 rfl).at_ 2 _ rfl
 have f1_2 := (K.at_ 1 rfl).fr 2 _ rfl
 have c1_3 := (K.at_ 1 rfl).at_ 3 _ rfl
 have f1_3 := (K.at_ 1 rfl).fr 3 _ rfl
 have c1_4 := (K.at_ 1 rfl).at_ 4 _ rfl
 have f1_4 := (K.at_ 1 rfl).fr 4 _ rfl
 have c1_5 := (K.at_ 1 rfl).at_ 5 _ rfl
 have f1_5 := (K.at_ 1 rfl).fr 5 _ rfl
 have c1_6 := (K.at_ 1 rfl).at_ 6 _ rfl
 have f1_6 := (K.at_ 1 rfl).fr 6 _ rfl
 have c1_7 := (K.at_ 1 rfl).at_ 7 _ rfl
 have f1_7 := (K.at_ 1 rfl).fr 7 _ rfl
 have c1_8 := (K.at_ 1 rfl).at_ 8 _ rfl
 have f1_8 := (K.at_ 1 rfl).fr 8 _ rfl
 replace K := Lib.hid K
 go_wp2_with fail
 replace K := K.out
 (try simp only [Exit.vnBlock, Exit.then])
 refine bodyPost_ret (v := .tuple #[.agg #[.float .f64 0, .float .f64 0, .float .f64 0, .float .f64 0, .float .f64 0, .float .f64 0, .float .f64 0, .float .f64 0, .float .f64 0], .int .i64 k]) ?_ rfl ⟨rfl, ?_⟩
 · rw [results_cell_tmp rfl]; go_simp
 · exact (((((((((K.old).setCell (by first | exact Nat.le_refl _ | (dsimp only; omega)) _).setCell (by first | exact Nat.le_refl _ | (dsimp only; omega)) _).setCell (by first | exact Nat.le_refl _ | (dsimp only; omega)) _).setCell (by first | exact Nat.le_refl _ | (dsimp only; omega)) _).setCell (by first | exact Nat.le_refl _ | (dsimp only; omega)) _).setCell (by first | exact Nat.le_refl _ | (dsimp only; omega)) _).setCell (by first | exact Nat.le_refl _ | (dsimp only; omega)) _).setCell (by first | exact Nat.le_refl _ | (dsimp only; omega)) _).setCell (by first | exact Nat.le_refl _ | (dsimp only; omega)) _
theorem vtoldmat_no2 {a1 a2 a3 b1 b2 b3 c1 c2 c3 p1 p2 p3 q1 q2 q3 r1 r2 r3 : Nat} {k : Int} (t : (k != 0) = true) (C1 : Hid (∀ w, Calls Tryz.prog 62 #[.agg #[.float .f64 a1, .float .f64 a2, .float .f64 a3]] w fun e w' => e = .returned (.tuple #[.agg #[.float .f64 p1, .float .f64 p2, .float .f64 p3], .int .i64 0]) ∧ Below w.heap.size w w')) (C2 : Hid (∀ w, Calls Tryz.prog 62 #[.agg #[.float .f64 b1, .float .f64 b2, .float .f64 b3]] w fun e w' => e = .returned (.tuple #[.agg #[.float .f64 q1, .float .f64 q2, .float .f64 q3], .int .i64 0]) ∧ Below w.heap.size w w')) (C3 : Hid (∀ w, Calls Tryz.prog 62 #[.agg #[.float .f64 c1, .float .f64 c2, .float .f64 c3]] w fun e w' => e = .returned (.tuple #[.agg #[.float .f64 r1, .float .f64 r2, .float .f64 r3], .int .i64 k]) ∧ Below w.heap.size w w')) (w : World) : Calls Tryz.prog 237 #[.agg #[.float .f64 a1, .float .f64 a2, .float .f64 a3, .float .f64 b1, .float .f64 b2, .float .f64 b3, .float .f64 c1, .float .f64 c2, .float .f64 c3]] w fun e w' => e = .returned (.tuple #[.agg #[.float .f64 0, .float .f64 0, .float .f64 0, .float .f64 0, .float .f64 0, .float .f64 0, .float .f64 0, .float .f64 0, .float .f64 0], .int .i64 k]) ∧ Below w.heap.size w w' := by
 have K0 := kw2 w 144 144 [a1, a2, a3, b1, b2, b3, c1, c2, c3] [0, 0, 0, 0, 0, 0, 0, 0, 0]
 simp only [objW, List.map_cons, List.map_nil] at K0
 have hst := @fstore
 replace K0 := Lib.hid K0
 go_enter Tryz.func237, Tryz.ntmps237
 go_wp2_with fail
 have K := K0.out
 clear K0
 generalize (w.alloc _).alloc _ = wr at *
 refine wp_loop_rounds 4 ?_
 rw [rounds_succ]
 have c0_0 := (K.at_ 0 rfl).at_ 0 _ rfl
 have c0_1 := (K.at_ 0 rfl).at_ 1 _ rfl
 have c0_2 := (K.at_ 0 rfl).at_ 2 _ rfl
 replace K := Lib.hid K
 go_wp2_with fail
 replace K := K.out
 clear c0_0 c0_1 c0_2
 refine (C1.out wr).mono ?_
 rintro _ v ⟨rfl, hb⟩
 replace K := (K.on hb).new 41 [p1, p2, p3]
 simp only [objW, List.map_cons, List.map_nil, List.cons_append, List.nil_append] at K
 clear hb
 have c0_0 := (K.at_ 0 rfl).at_ 0 _ rfl
 have f0_0 := (K.at_ 0 rfl).fr 0 _ rfl
 have c0_1 := (K.at_ 0 rfl).at_ 1 _ rfl
 have f0_1 := (K.at_ 0 rfl).fr 1 _ rfl
 have c0_2 := (K.at_ 0 rfl).at_ 2 _ rfl
 have f0_2 := (K.at_ 0 rfl).fr 2 _ rfl
 have c2_0 := (K.at_ 2 rfl).at_ 0 _ rfl
 have c2_1 := (K.at_ 2 rfl).at_ 1 _ rfl
 have c2_2 := (K.at_ 2 rfl).at_ 2 _ rfl
 replace K := Lib.hid K
 go_wp2_with fail
 replace K := K.out
 clear c0_0 f0_0 c0_1 f0_1 c0_2 f0_2 c2_0 c2_1 c2_2
 (try simp only [Exit.vnBlock, Exit.then])
 replace K := K.put 0 rfl 0 [p1, p2, p3] (by simp)
 simp only [putW, setL, List.set_cons_zero, List.set_cons_succ] at K
 generalize World.setCell _ _ _ = wr at *
 generalize v.heap.size = g0 at *
 rw [rounds_succ]
 have c0_3 := (K.at_ 0 rfl).at_ 3 _ rfl
 have c0_4 := (K.at_ 0 rfl).at_ 4 _ rfl
 have c0_5 := (K.at_ 0 rfl).at_ 5 _ rfl
 replace K := Lib.hid K
 go_wp2_with fail
 replace K := K.out
 clear c0_3 c0_4 c0_5
 refine (C2.out wr).mono ?_
 rintro _ v ⟨rfl, hb⟩
 replace K := (K.on hb).new 41 [q1, q2, q3]
 simp only [objW, List.map_cons, List.map_nil, List.cons_append, List.nil_append] at K
 clear hb
 have c0_3 := (K.at_ 0 rfl).at_ 3 _ rfl
 have f0_3 := (K.at_ 0 rfl).fr 3 _ rfl
 have c0_4 := (K.at_ 0 rfl).at_ 4 _ rfl
 have f0_4 := (K.at_ 0 rfl).fr 4 _ rfl
 have c0_5 := (K.at_ 0 rfl).at_ 5 _ rfl
 have f0_5 := (K.at_ 0 rfl).fr 5 _ rfl
 have c3_0 := (K.at_ 3 rfl).at_ 0 _ rfl
 have c3_1 := (K.at_ 3 rfl).at_ 1 _ rfl
 have c3_2 := (K.at_ 3 rfl).at_ 2 _ rfl
 replace K := Lib.hid K
 go_wp2_with fail
 replace K := K.out
 clear c0_3 f0_3 c0_4 f0_4 c0_5 f0_5 c3_0 c3_1 c3_2
 (try simp only [Exit.vnBlock, Exit.then])
 replace K := K.put 0 rfl 3 [q1, q2, q3] (by simp)
 simp only [putW, setL, List.set_cons_zero, List.set_cons_succ] at K
 generalize World.setCell _ _ _ = wr at *
 generalize v.heap.size = g1 at *
 rw [rounds_succ]
 have c0_6 := (K.at_ 0 rfl).at_ 6 _ rfl
 have c0_7 := (K.at_ 0 rfl).at_ 7 _ rfl
 have c0_8 := (K.at_ 0 rfl).at_ 8 _ rfl
 replace K := Lib.hid K
 go_wp2_with fail
 replace K := K.out
 clear c0_6 c0_7 c0_8
 refine (C3.out wr).mono ?_
 rintro _ v ⟨rfl, hb⟩
 replace K := (K.on hb).new 41 [r1, r2, r3]
 simp only [objW, List.map_cons, List.map_nil, List.cons_append, List.nil_append] at K
 clear hb
 have c1_0 := (K.at_ 1 rfl).at_ 0 _ rfl
 have f1_0 := (K.at_ 1 rfl).fr 0 _ rfl
 have c1_1 := (K.at_ 1 rfl).at_ 1 _ rfl
 have f1_1 := (K.at_ 1 rfl).fr 1 _ rfl
 have c1_2 := (K.at_ 1 rfl).at_ 2 _ rfl
 have f1_2 := (K.at_ 1 rfl).fr 2 _ rfl
 have c1_3 := (K.at_ 1 rfl).at_ 3 _ rfl
 have f1_3 := (K.at_ 1 rfl).fr 3 _ rfl
 have c1_4 := (K.at_ 1 rfl).at_ 4 _ rfl
 have f1_4 := (K.at_ 1 rfl).fr 4 _ rfl
 have c1_5 := (K.at_ 1 rfl).at_ 5 _ rfl
 have f1_5 := (K.at_ 1 rfl).fr 5 _ rfl
 have c1_6 := (K.at_ 1 rfl).at_ 6 _ rfl
 have f1_6 := (K.at_ 1 rfl).fr 6 _ rfl
 have c1_7 := (K.at_ 1 rfl).at_ 7 _ rfl
 have f1_7 := (K.at_ 1 rfl).fr 7 _ rfl
 have c1_8 := (K.at_ 1 rfl).at_ 8 _ rfl
 have f1_8 := (K.at_ 1 rfl).fr 8 _ rfl
 replace K := Lib.hid K
 go_wp2_with fail
 replace K := K.out
 (try simp only [Exit.vnBlock, Exit.then])
 refine bodyPost_ret (v := .tuple #[.agg #[.float .f64 0, .float .f64 0, .float .f64 0, .float .f64 0, .float .f64 0, .float .f64 0, .float .f64 0, .float .f64 0, .float .f64 0], .int .i64 k]) ?_ rfl ⟨rfl, ?_⟩
 · rw [results_cell_tmp rfl]; go_simp
 · exact (((((((((K.old).setCell (by first | exact Nat.le_refl _ | (dsimp only; omega)) _).setCell (by first | exact Nat.le_refl _ | (dsimp only; omega)) _).setCell (by first | exact Nat.le_refl _ | (dsimp only; omega)) _).setCell (by first | exact Nat.le_refl _ | (dsimp only; omega)) _).setCell (by first | exact Nat.le_refl _ | (dsimp only; omega)) _).setCell (by first | exact Nat.le_refl _ | (dsimp only; omega)) _).setCell (by first | exact Nat.le_refl _ | (dsimp only; omega)) _).setCell (by first | exact Nat.le_refl _ | (dsimp only; omega)) _).setCell (by first | exact Nat.le_refl _ | (dsimp only; omega)) _
end Go.Proofs.YtacinenddnfcbaaGreat

namespace Go.Proofs.YtacinenddnfcbaaGreat
open Go.ChangeShapes Go.WideShapes Go.ChangeAt Go.RowKit Ieee.Own

theorem vprods_ok {a1 a2 a3 b1 b2 b3 c1 c2 c3 x1 x2 x3 d1 d2 d3 : Nat} (C1 : Hid (∀ w, Calls Tryz.prog 264 #[.agg #[.float .f64 a1, .float .f64 a2, .float .f64 a3], .agg #[.float .f64 x1, .float .f64 x2, .float .f64 x3]] w fun e w' => e = .returned (.float .f64 d1) ∧ Below w.heap.size w w')) (C2 : Hid (∀ w, Calls Tryz.prog 264 #[.agg #[.float .f64 b1, .float .f64 b2, .float .f64 b3], .agg #[.float .f64 x1, .float .f64 x2, .float .f64 x3]] w fun e w' => e = .returned (.float .f64 d2) ∧ Below w.heap.size w w')) (C3 : Hid (∀ w, Calls Tryz.prog 264 #[.agg #[.float .f64 c1, .float .f64 c2, .float .f64 c3], .agg #[.float .f64 x1, .float .f64 x2, .float .f64 x3]] w fun e w' => e = .returned (.float .f64 d3) ∧ Below w.heap.size w w')) (w : World) : Calls Tryz.prog 239 #[.agg #[.float .f64 a1, .float .f64 a2, .float .f64 a3, .float .f64 b1, .float .f64 b2, .float .f64 b3, .float .f64 c1, .float .f64 c2, .float .f64 c3], .agg #[.float .f64 x1, .float .f64 x2, .float .f64 x3]] w fun e w' => e = .returned (.agg #[.float .f64 d1, .float .f64 d2, .float .f64 d3]) ∧ Below w.heap.size w w' := by
 have K0 := kw3 w 144 41 41 [a1, a2, a3, b1, b2, b3, c1, c2, c3] [x1, x2, x3] [0, 0, 0]
 simp only [objW, List.map_cons, List.map_nil] at K0
 have hst := @fstore
 replace K0 := Lib.hid K0
 go_enter Tryz.func239, Tryz.ntmps239
 go_upto_region 1 with fail
 have K := K0.out
 clear K0
 generalize ((w.alloc _).alloc _).alloc _ = wr at *
 generalize hds : ([some 5, some 6, some 7, some 8, some 9, some 10, some 11, some 12, some 13, some 14, some 15, some 16, some 17, none] : List (Option Tmp)) = ds
 have hap : apartL ds = true := by rw [← hds]; decide
 replace hds := hds.symm
 refine wp_region_k (fun hf => [some (w.heap.size, [a1, a2, a3, b1, b2, b3, c1, c2, c3]), some (w.heap.size + 1, [x1, x2, x3]), some (w.heap.size + 1 + 1, [d1, d2, d3])]) (fun hf => [some (.pointer (some ⟨w.heap.size, 0, none⟩)), some (.agg #[.float .f64 a1, .float .f64 a2, .float .f64 a3]), some (.agg #[.float .f64 x1, .float .f64 x2, .float .f64 x3]), some (.float .f64 d1), some (.pointer (some ⟨w.heap.size, 3, none⟩)), some (.agg #[.float .f64 b1, .float .f64 b2, .float .f64 b3]), some (.agg #[.float .f64 x1, .float .f64 x2, .float .f64 x3]), some (.float .f64 d2), some (.pointer (some ⟨w.heap.size, 6, none⟩)), some (.agg #[.float .f64 c1, .float .f64 c2, .float .f64 c3]), some (.agg #[.float .f64 x1, .float .f64 x2, .float .f64 x3]), some (.float .f64 d3), some (.agg #[.float .f64 d1, .float .f64 d2, .float .f64 d3]), some (undef)]) [] [⟨13, 2, 0, [d1, d2, d3]⟩] [.pointer (some ⟨w.heap.size, 0, none⟩), .agg #[.float .f64 a1, .float .f64 a2, .float .f64 a3], .agg #[.float .f64 x1, .float .f64 x2, .float .f64 x3], .float .f64 d1, .pointer (some ⟨w.heap.size, 3, none⟩), .agg #[.float .f64 b1, .float .f64 b2, .float .f64 b3], .agg #[.float .f64 x1, .float .f64 x2, .float .f64 x3], .float .f64 d2, .pointer (some ⟨w.heap.size, 6, none⟩), .agg #[.float .f64 c1, .float .f64 c2, .float .f64 c3], .agg #[.float .f64 x1, .float .f64 x2, .float .f64 x3], .float .f64 d3, .agg #[.float .f64 d1, .float .f64 d2, .float .f64 d3], undef] ds (by kernel_rfl) (by rw [hds]; rfl) hap (by decide +kernel) (by decide +kernel) K ?ha ?haj ?hai ?hsi ?hss ?hsa ?hsw ?htg ?hE2 ?hE3 ?hE4 ?hL1 ?hL2 ?hL3 ?alloc ?step ?store ?fin
 case ha => intro al hal; cases hal
 case haj => intro al hal al' hal' e; cases hal
 case hai => intro al hal; cases hal
 case hsi => intro st hst st' hst' e; rcases List.mem_singleton.1 hst with rfl <;> (rcases List.mem_singleton.1 hst' with rfl) <;> first | rfl | (exfalso; revert e; simp)
 case hss =>
  intro st hst
  rcases List.mem_singleton.1 hst with rfl
  · show 13 < 14; decide
 case hsa =>
  intro st hst al hal
  cases hal
 case hsw =>
  intro st hst al hal e
  cases hal
 case htg =>
  intro st hst
  rcases List.mem_singleton.1 hst with rfl
  · exact .inl ⟨_, _, rfl, show 0 + 3 ≤ 3 by decide⟩
 case hE2 =>
  intro hf j h1 h2
  have n2 : 2 ≠ j := h1 _ (List.mem_cons_self ..)
  rcases j with _ | _ | _ | j
  · rfl
  · rfl
  · exact absurd rfl n2
  · rfl
 case hE3 =>
  intro hf st hst g us e
  rcases List.mem_singleton.1 hst with rfl
  · obtain ⟨rfl, rfl⟩ := Prod.mk.inj (Option.some.inj (Option.some.inj e)); rfl
 case hE4 =>
  intro hf al hal
  cases hal
 case hL1 => intro hf; rfl
 case hL2 =>
  intro hf i hi hna
  have hi : i < 14 := hi
  have : i = 0 ∨ i = 1 ∨ i = 2 ∨ i = 3 ∨ i = 4 ∨ i = 5 ∨ i = 6 ∨ i = 7 ∨ i = 8 ∨ i = 9 ∨ i = 10 ∨ i = 11 ∨ i = 12 ∨ i = 13 := by omega
  rcases this with rfl | rfl | rfl | rfl | rfl | rfl | rfl | rfl | rfl | rfl | rfl | rfl | rfl | rfl
  · rfl
  · rfl
  · rfl
  · rfl
  · rfl
  · rfl
  · rfl
  · rfl
  · rfl
  · rfl
  · rfl
  · rfl
  · rfl
  · rfl
 case hL3 => intro hf al hal; cases hal
 case alloc =>
  intro al hal o ρ W ho
  cases hal
 case step =>
  intro L W i o ho hs ha hd hB
  have hi : i < 14 := (Array.getElem?_eq_some_iff.1 ho).1
  have : i = 0 ∨ i = 1 ∨ i = 2 ∨ i = 3 ∨ i = 4 ∨ i = 5 ∨ i = 6 ∨ i = 7 ∨ i = 8 ∨ i = 9 ∨ i = 10 ∨ i = 11 ∨ i = 12 ∨ i = 13 := by omega
  rcases this with rfl | rfl | rfl | rfl | rfl | rfl | rfl | rfl | rfl | rfl | rfl | rfl | rfl | rfl
  · obtain rfl := Option.some.inj ho
    refine .value W ?_ (Below.refl _ _)
    generalize hA : (puts ds L _).eval = ρ
    have hc : ∀ v, ρ (.const v) = v := fun v => by rw [← hA]; rfl
    have h0 : ρ (.tmp 2) = .pointer (some ⟨w.heap.size, 0, none⟩) := by rw [← hA]; exact (puts_old ds L _ (by rw [hds]; decide)).trans rfl
    clear hA hd hB ho hs ha
    unfold execOp
    go_simp
  · obtain rfl := Option.some.inj ho
    have b := hB 0 _ _ rfl (by
        intro st hst e
        rcases List.mem_singleton.1 hst with rfl
        · exact absurd e (show ¬ 2 = 0 by decide))
    have c0 := b.at_ 0 _ rfl
    have c1 := b.at_ 1 _ rfl
    have c2 := b.at_ 2 _ rfl
    clear b
    refine .value W ?_ (Below.refl _ _)
    generalize hA : (puts ds L _).eval = ρ
    have hc : ∀ v, ρ (.const v) = v := fun v => by rw [← hA]; rfl
    have h0 : ρ (.tmp 5) = .pointer (some ⟨w.heap.size, 0, none⟩) := by rw [← hA]; exact puts_get 0 ds L _ hap (by rw [hds]; rfl) (hd 0 (by decide +kernel) (by intro al hal; cases hal)) (show 5 < 18 by decide)
    clear hA hd hB ho hs ha
    unfold execOp
    go_simp
  · obtain rfl := Option.some.inj ho
    have b := hB 1 _ _ rfl (by
        intro st hst e
        rcases List.mem_singleton.1 hst with rfl
        · exact absurd e (show ¬ 2 = 1 by decide))
    have c0 := b.at_ 0 _ rfl
    have c1 := b.at_ 1 _ rfl
    have c2 := b.at_ 2 _ rfl
    clear b
    refine .value W ?_ (Below.refl _ _)
    generalize hA : (puts ds L _).eval = ρ
    have hc : ∀ v, ρ (.const v) = v := fun v => by rw [← hA]; rfl
    have h0 : ρ (.tmp 3) = .pointer (some ⟨w.heap.size + 1, 0, none⟩) := by rw [← hA]; exact (puts_old ds L _ (by rw [hds]; decide)).trans rfl
    clear hA hd hB ho hs ha
    unfold execOp
    go_simp
  · obtain rfl := Option.some.inj ho
    refine .call 264 #[.agg #[.float .f64 a1, .float .f64 a2, .float .f64 a3], .agg #[.float .f64 x1, .float .f64 x2, .float .f64 x3]] ?_ (C1.out W)
    generalize hA : (puts ds L _).eval = ρ
    have hc : ∀ v, ρ (.const v) = v := fun v => by rw [← hA]; rfl
    have hg : ∀ g, ρ (.func g) = .func (.func g) #[] #[] := fun v => by rw [← hA]; rfl
    have h0 : ρ (.tmp 6) = .agg #[.float .f64 a1, .float .f64 a2, .float .f64 a3] := by rw [← hA]; exact puts_get 1 ds L _ hap (by rw [hds]; rfl) (hd 1 (by decide +kernel) (by intro al hal; cases hal)) (show 6 < 18 by decide)
    have h1 : ρ (.tmp 7) = .agg #[.float .f64 x1, .float .f64 x2, .float .f64 x3] := by rw [← hA]; exact puts_get 2 ds L _ hap (by rw [hds]; rfl) (hd 2 (by decide +kernel) (by intro al hal; cases hal)) (show 7 < 18 by decide)
    have hf := Tryz.func264
    unfold execOp
    go_simp
  · obtain rfl := Option.some.inj ho
    refine .value W ?_ (Below.refl _ _)
    generalize hA : (puts ds L _).eval = ρ
    have hc : ∀ v, ρ (.const v) = v := fun v => by rw [← hA]; rfl
    have h0 : ρ (.tmp 2) = .pointer (some ⟨w.heap.size, 0, none⟩) := by rw [← hA]; exact (puts_old ds L _ (by rw [hds]; decide)).trans rfl
    clear hA hd hB ho hs ha
    unfold execOp
    go_simp
  · obtain rfl := Option.some.inj ho
    have b := hB 0 _ _ rfl (by
        intro st hst e
        rcases List.mem_singleton.1 hst with rfl
        · exact absurd e (show ¬ 2 = 0 by decide))
    have c3 := b.at_ 3 _ rfl
    have c4 := b.at_ 4 _ rfl
    have c5 := b.at_ 5 _ rfl
    clear b
    refine .value W ?_ (Below.refl _ _)
    generalize hA : (puts ds L _).eval = ρ
    have hc : ∀ v, ρ (.const v) = v := fun v => by rw [← hA]; rfl
    have h0 : ρ (.tmp 9) = .pointer (some ⟨w.heap.size, 3, none⟩) := by rw [← hA]; exact puts_get 4 ds L _ hap (by rw [hds]; rfl) (hd 4 (by decide +kernel) (by intro al hal; cases hal)) (show 9 < 18 by decide)
    clear hA hd hB ho hs ha
    unfold execOp
    go_simp
  · obtain rfl := Option.some.inj ho
    have b := hB 1 _ _ rfl (by
        intro st hst e
        rcases List.mem_singleton.1 hst with rfl
        · exact absurd e (show ¬ 2 = 1 by decide))
    have c0 := b.at_ 0 _ rfl
    have c1 := b.at_ 1 _ rfl
    have c2 := b.at_ 2 _ rfl
    clear b
    refine .value W ?_ (Below.refl _ _)
    generalize hA : (puts ds L _).eval = ρ
    have hc : ∀ v, ρ (.const v) = v := fun v => by rw [← hA]; rfl
    have h0 : ρ (.tmp 3) = .pointer (some ⟨w.heap.size + 1, 0, none⟩) := by rw [← hA]; exact (puts_old ds L _ (by rw [hds]; decide)).trans rfl
    clear hA hd hB ho hs ha
    unfold execOp
    go_simp
  · obtain rfl := Option.some.inj ho
    refine .call 264 #[.agg #[.float .f64 b1, .float .f64 b2, .float .f64 b3], .agg #[.float .f64 x1, .float .f64 x2, .float .f64 x3]] ?_ (C2.out W)
    generalize hA : (puts ds L _).eval = ρ
    have hc : ∀ v, ρ (.const v) = v := fun v => by rw [← hA]; rfl
    have hg : ∀ g, ρ (.func g) = .func (.func g) #[] #[] := fun v => by rw [← hA]; rfl
    have h0 : ρ (.tmp 10) = .agg #[.float .f64 b1, .float .f64 b2, .float .f64 b3] := by rw [← hA]; exact puts_get 5 ds L _ hap (by rw [hds]; rfl) (hd 5 (by decide +kernel) (by intro al hal; cases hal)) (show 10 < 18 by decide)
    have h1 : ρ (.tmp 11) = .agg #[.float .f64 x1, .float .f64 x2, .float .f64 x3] := by rw [← hA]; exact puts_get 6 ds L _ hap (by rw [hds]; rfl) (hd 6 (by decide +kernel) (by intro al hal; cases hal)) (show 11 < 18 by decide)
    have hf := Tryz.func264
    unfold execOp
    go_simp
  · obtain rfl := Option.some.inj ho
    refine .value W ?_ (Below.refl _ _)
    generalize hA : (puts ds L _).eval = ρ
    have hc : ∀ v, ρ (.const v) = v := fun v => by rw [← hA]; rfl
    have h0 : ρ (.tmp 2) = .pointer (some ⟨w.heap.size, 0, none⟩) := by rw [← hA]; exact (puts_old ds L _ (by rw [hds]; decide)).trans rfl
    clear hA hd hB ho hs ha
    unfold execOp
    go_simp
  · obtain rfl := Option.some.inj ho
    have b := hB 0 _ _ rfl (by
        intro st hst e
        rcases List.mem_singleton.1 hst with rfl
        · exact absurd e (show ¬ 2 = 0 by decide))
    have c6 := b.at_ 6 _ rfl
    have c7 := b.at_ 7 _ rfl
    have c8 := b.at_ 8 _ rfl
    clear b
    refine .value W ?_ (Below.refl _ _)
    generalize hA : (puts ds L _).eval = ρ
    have hc : ∀ v, ρ (.const v) = v := fun v => by rw [← hA]; rfl
    have h0 : ρ (.tmp 13) = .pointer (some ⟨w.heap.size, 6, none⟩) := by rw [← hA]; exact puts_get 8 ds L _ hap (by rw [hds]; rfl) (hd 8 (by decide +kernel) (by intro al hal; cases hal)) (show 13 < 18 by decide)
    clear hA hd hB ho hs ha
    unfold execOp
    go_simp
  · obtain rfl := Option.some.inj ho
    have b := hB 1 _ _ rfl (by
        intro st hst e
        rcases List.mem_singleton.1 hst with rfl
        · exact absurd e (show ¬ 2 = 1 by decide))
    have c0 := b.at_ 0 _ rfl
    have c1 := b.at_ 1 _ rfl
    have c2 := b.at_ 2 _ rfl
    clear b
    refine .value W ?_ (Below.refl _ _)
    generalize hA : (puts ds L _).eval = ρ
    have hc : ∀ v, ρ (.const v) = v := fun v => by rw [← hA]; rfl
    have h0 : ρ (.tmp 3) = .pointer (some ⟨w.heap.size + 1, 0, none⟩) := by rw [← hA]; exact (puts_old ds L _ (by rw [hds]; decide)).trans rfl
    clear hA hd hB ho hs ha
    unfold execOp
    go_simp
  · obtain rfl := Option.some.inj ho
    refine .call 264 #[.agg #[.float .f64 c1, .float .f64 c2, .float .f64 c3], .agg #[.float .f64 x1, .float .f64 x2, .float .f64 x3]] ?_ (C3.out W)
    generalize hA : (puts ds L _).eval = ρ
    have hc : ∀ v, ρ (.const v) = v := fun v => by rw [← hA]; rfl
    have hg : ∀ g, ρ (.func g) = .func (.func g) #[] #[] := fun v => by rw [← hA]; rfl
    have h0 : ρ (.tmp 14) = .agg #[.float .f64 c1, .float .f64 c2, .float .f64 c3] := by rw [← hA]; exact puts_get 9 ds L _ hap (by rw [hds]; rfl) (hd 9 (by decide +kernel) (by intro al hal; cases hal)) (show 14 < 18 by decide)
    have h1 : ρ (.tmp 15) = .agg #[.float .f64 x1, .float .f64 x2, .float .f64 x3] := by rw [← hA]; exact puts_get 10 ds L _ hap (by rw [hds]; rfl) (hd 10 (by decide +kernel) (by intro al hal; cases hal)) (show 15 < 18 by decide)
    have hf := Tryz.func264
    unfold execOp
    go_simp
  · obtain rfl := Option.some.inj ho
    refine .value W ?_ (Below.refl _ _)
    generalize hA : (puts ds L _).eval = ρ
    have hc : ∀ v, ρ (.const v) = v := fun v => by rw [← hA]; rfl
    have h0 : ρ (.tmp 8) = .float .f64 d1 := by rw [← hA]; exact puts_get 3 ds L _ hap (by rw [hds]; rfl) (hd 3 (by decide +kernel) (by intro al hal; cases hal)) (show 8 < 18 by decide)
    have h1 : ρ (.tmp 12) = .float .f64 d2 := by rw [← hA]; exact puts_get 7 ds L _ hap (by rw [hds]; rfl) (hd 7 (by decide +kernel) (by intro al hal; cases hal)) (show 12 < 18 by decide)
    have h2 : ρ (.tmp 16) = .float .f64 d3 := by rw [← hA]; exact puts_get 11 ds L _ hap (by rw [hds]; rfl) (hd 11 (by decide +kernel) (by intro al hal; cases hal)) (show 16 < 18 by decide)
    clear hA hd hB ho hs ha
    unfold execOp
    go_simp
  · exact absurd rfl (hs _ (List.mem_cons_self ..))
 case store =>
  intro st hst L W o h us ho hd hal hC b
  rcases List.mem_singleton.1 hst with rfl
  · dsimp only at ho hd hal hC b ⊢
    obtain rfl := Option.some.inj ho
    obtain ⟨rfl, rfl⟩ := hC _ _ rfl
    have c0 := b.at_ 0 _ rfl
    have f0 := b.fr 0 _ rfl
    have c1 := b.at_ 1 _ rfl
    have f1 := b.fr 1 _ rfl
    have c2 := b.at_ 2 _ rfl
    have f2 := b.fr 2 _ rfl
    refine ⟨?_, rfl⟩
    generalize hA : (puts ds L _).eval = ρ
    have h0 : ρ (.tmp 4) = .pointer (some ⟨w.heap.size + 1 + 1, 0, none⟩) := by rw [← hA]; exact (puts_old ds L _ (by rw [hds]; decide)).trans rfl
    have h1 : ρ (.tmp 17) = .agg #[.float .f64 d1, .float .f64 d2, .float .f64 d3] := by rw [← hA]; exact puts_get 12 ds L _ hap (by rw [hds]; rfl) (hd 12 (by decide +kernel) (by intro al hal; cases hal)) (show 17 < 18 by decide)
    have hst' := @fstore
    clear hA hd b ho hal hC
    simp only [putW]
    unfold execOp
    go_simp
 case fin =>
  intro hf W5 K
  rw [hds]
  clear hds hap ds C1 C2 C3
  simp only [List.set_cons_zero, List.set_cons_succ, puts, Act.put, List.setIfInBounds_toArray]
  replace K := Lib.hid K
  go_wp2_with fail
  replace K := K.out
  have e0 := (K.at_ 2 rfl).at_ 0 _ rfl
  have e1 := (K.at_ 2 rfl).at_ 1 _ rfl
  have e2 := (K.at_ 2 rfl).at_ 2 _ rfl
  (try simp only [Exit.vnBlock, Exit.then])
  refine bodyPost_ret (v := .agg #[.float .f64 d1, .float .f64 d2, .float .f64 d3]) ?_ rfl ⟨rfl, K.old⟩
  rw [results_cell1 rfl]; go_simp
theorem vapply_ok {a1 a2 a3 b1 b2 b3 c1 c2 c3 x1 x2 x3 d1 d2 d3 q1 q2 q3 : Nat} {k : Int} (C1 : Hid (∀ w, Calls Tryz.prog 238 #[.agg #[.float .f64 a1, .float .f64 a2, .float .f64 a3, .float .f64 b1, .float .f64 b2, .float .f64 b3, .float .f64 c1, .float .f64 c2, .float .f64 c3]] w fun e w' => e = .returned (.bool true) ∧ Below w.heap.size w w')) (C2 : Hid (∀ w, Calls Tryz.prog 89 #[.agg #[.float .f64 x1, .float .f64 x2, .float .f64 x3]] w fun e w' => e = .returned (.bool true) ∧ Below w.heap.size w w')) (C3 : Hid (∀ w, Calls Tryz.prog 239 #[.agg #[.float .f64 a1, .float .f64 a2, .float .f64 a3, .float .f64 b1, .float .f64 b2, .float .f64 b3, .float .f64 c1, .float .f64 c2, .float .f64 c3], .agg #[.float .f64 x1, .float .f64 x2, .float .f64 x3]] w fun e w' => e = .returned (.agg #[.float .f64 d1, .float .f64 d2, .float .f64 d3]) ∧ Below w.heap.size w w')) (C4 : Hid (∀ w, Calls Tryz.prog 62 #[.agg #[.float .f64 d1, .float .f64 d2, .float .f64 d3]] w fun e w' => e = .returned (.tuple #[.agg #[.float .f64 q1, .float .f64 q2, .float .f64 q3], .int .i64 k]) ∧ Below w.heap.size w w')) (w : World) : Calls Tryz.prog 182 #[.agg #[.float .f64 a1, .float .f64 a2, .float .f64 a3, .float .f64 b1, .float .f64 b2, .float .f64 b3, .float .f64 c1, .float .f64 c2, .float .f64 c3], .agg #[.float .f64 x1, .float .f64 x2, .float .f64 x3]] w fun e w' => e = .returned (.tuple #[.agg #[.float .f64 q1, .float .f64 q2, .float .f64 q3], .int .i64 k]) ∧ Below w.heap.size w w' := by
 have K0 := kw3 w 144 41 41 [a1, a2, a3, b1, b2, b3, c1, c2, c3] [x1, x2, x3] [0, 0, 0]
 simp only [objW, List.map_cons, List.map_nil] at K0
 have hst := @fstore
 replace K0 := Lib.hid K0
 go_enter Tryz.func182, Tryz.ntmps182
 go_wp2_with fail
 have K := K0.out
 clear K0
 generalize ((w.alloc _).alloc _).alloc _ = wr at *
 refine (C1.out wr).mono ?_
 rintro _ v1 ⟨rfl, hb⟩
 replace K := K.on hb
 clear hb
 have c1_0 := (K.at_ 1 rfl).at_ 0 _ rfl
 have c1_1 := (K.at_ 1 rfl).at_ 1 _ rfl
 have c1_2 := (K.at_ 1 rfl).at_ 2 _ rfl
 replace K := Lib.hid K
 go_wp2_with fail
 replace K := K.out
 refine (C2.out v1).mono ?_
 rintro _ v2 ⟨rfl, hb⟩
 clear c1_0 c1_1 c1_2
 replace K := K.on hb
 clear hb
 have c0_0 := (K.at_ 0 rfl).at_ 0 _ rfl
 have c0_1 := (K.at_ 0 rfl).at_ 1 _ rfl
 have c0_2 := (K.at_ 0 rfl).at_ 2 _ rfl
 have c0_3 := (K.at_ 0 rfl).at_ 3 _ rfl
 have c0_4 := (K.at_ 0 rfl).at_ 4 _ rfl
 have c0_5 := (K.at_ 0 rfl).at_ 5 _ rfl
 have c0_6 := (K.at_ 0 rfl).at_ 6 _ rfl
 have c0_7 := (K.at_ 0 rfl).at_ 7 _ rfl
 have c0_8 := (K.at_ 0 rfl).at_ 8 _ rfl
 have c1_0 := (K.at_ 1 rfl).at_ 0 _ rfl
 have c1_1 := (K.at_ 1 rfl).at_ 1 _ rfl
 have c1_2 := (K.at_ 1 rfl).at_ 2 _ rfl
 replace K := Lib.hid K
 go_wp2_with fail
 replace K := K.out
 refine (C3.out v2).mono ?_
 rintro _ v3 ⟨rfl, hb⟩
 clear c0_0 c0_1 c0_2 c0_3 c0_4 c0_5 c0_6 c0_7 c0_8 c1_0 c1_1 c1_2
 replace K := K.on hb
 clear hb
 replace K := Lib.hid K
 go_wp2_with fail
 replace K := K.out
 refine (C4.out v3).mono ?_
 rintro _ v4 ⟨rfl, hb⟩
 replace K := K.on hb
 clear hb
 have c2_0 := (K.at_ 2 rfl).at_ 0 _ rfl
 have f2_0 := (K.at_ 2 rfl).fr 0 _ rfl
 have c2_1 := (K.at_ 2 rfl).at_ 1 _ rfl
 have f2_1 := (K.at_ 2 rfl).fr 1 _ rfl
 have c2_2 := (K.at_ 2 rfl).at_ 2 _ rfl
 have f2_2 := (K.at_ 2 rfl).fr 2 _ rfl
 replace K := Lib.hid K
 go_wp2_with fail
 replace K := K.out
 (try simp only [Exit.vnBlock, Exit.then])
 refine bodyPost_ret (v := .tuple #[.agg #[.float .f64 q1, .float .f64 q2, .float .f64 q3], .int .i64 k]) ?_ rfl ⟨rfl, ?_⟩
 · rw [results_cell_tmp rfl]; go_simp
 · exact (((K.old).setCell (by first | exact Nat.le_refl _ | (dsimp only; omega)) _).setCell (by first | exact Nat.le_refl _ | (dsimp only; omega)) _).setCell (by first | exact Nat.le_refl _ | (dsimp only; omega)) _
theorem vapply_nm {a1 a2 a3 b1 b2 b3 c1 c2 c3 x1 x2 x3 : Nat} (C1 : Hid (∀ w, Calls Tryz.prog 238 #[.agg #[.float .f64 a1, .float .f64 a2, .float .f64 a3, .float .f64 b1, .float .f64 b2, .float .f64 b3, .float .f64 c1, .float .f64 c2, .float .f64 c3]] w fun e w' => e = .returned (.bool false) ∧ Below w.heap.size w w')) (w : World) : Calls Tryz.prog 182 #[.agg #[.float .f64 a1, .float .f64 a2, .float .f64 a3, .float .f64 b1, .float .f64 b2, .float .f64 b3, .float .f64 c1, .float .f64 c2, .float .f64 c3], .agg #[.float .f64 x1, .float .f64 x2, .float .f64 x3]] w fun e w' => e = .returned (.tuple #[.agg #[.float .f64 0, .float .f64 0, .float .f64 0], .int .i64 3]) ∧ Below w.heap.size w w' := by
 have K0 := kw3 w 144 41 41 [a1, a2, a3, b1, b2, b3, c1, c2, c3] [x1, x2, x3] [0, 0, 0]
 simp only [objW, List.map_cons, List.map_nil] at K0
 have hst := @fstore
 replace K0 := Lib.hid K0
 go_enter Tryz.func182, Tryz.ntmps182
 go_wp2_with fail
 have K := K0.out
 clear K0
 generalize ((w.alloc _).alloc _).alloc _ = wr at *
 refine (C1.out wr).mono ?_
 rintro _ v1 ⟨rfl, hb⟩
 replace K := K.on hb
 clear hb
 have c2_0 := (K.at_ 2 rfl).at_ 0 _ rfl
 have f2_0 := (K.at_ 2 rfl).fr 0 _ rfl
 have c2_1 := (K.at_ 2 rfl).at_ 1 _ rfl
 have f2_1 := (K.at_ 2 rfl).fr 1 _ rfl
 have c2_2 := (K.at_ 2 rfl).at_ 2 _ rfl
 have f2_2 := (K.at_ 2 rfl).fr 2 _ rfl
 replace K := Lib.hid K
 go_wp2_with fail
 replace K := K.out
 (try simp only [Exit.vnBlock, Exit.then])
 refine bodyPost_ret (v := .tuple #[.agg #[.float .f64 0, .float .f64 0, .float .f64 0], .int .i64 3]) ?_ rfl ⟨rfl, ?_⟩
 · rw [results_cell_tmp rfl]; go_simp
 · exact (((K.old).setCell (by first | exact Nat.le_refl _ | (dsimp only; omega)) _).setCell (by first | exact Nat.le_refl _ | (dsimp only; omega)) _).setCell (by first | exact Nat.le_refl _ | (dsimp only; omega)) _
theorem vapply_nv {a1 a2 a3 b1 b2 b3 c1 c2 c3 x1 x2 x3 : Nat} (C1 : Hid (∀ w, Calls Tryz.prog 238 #[.agg #[.float .f64 a1, .float .f64 a2, .float .f64 a3, .float .f64 b1, .float .f64 b2, .float .f64 b3, .float .f64 c1, .float .f64 c2, .float .f64 c3]] w fun e w' => e = .returned (.bool true) ∧ Below w.heap.size w w')) (C2 : Hid (∀ w, Calls Tryz.prog 89 #[.agg #[.float .f64 x1, .float .f64 x2, .float .f64 x3]] w fun e w' => e = .returned (.bool false) ∧ Below w.heap.size w w')) (w : World) : Calls Tryz.prog 182 #[.agg #[.float .f64 a1, .float .f64 a2, .float .f64 a3, .float .f64 b1, .float .f64 b2, .float .f64 b3, .float .f64 c1, .float .f64 c2, .float .f64 c3], .agg #[.float .f64 x1, .float .f64 x2, .float .f64 x3]] w fun e w' => e = .returned (.tuple #[.agg #[.float .f64 0, .float .f64 0, .float .f64 0], .int .i64 3]) ∧ Below w.heap.size w w' := by
 have K0 := kw3 w 144 41 41 [a1, a2, a3, b1, b2, b3, c1, c2, c3] [x1, x2, x3] [0, 0, 0]
 simp only [objW, List.map_cons, List.map_nil] at K0
 have hst := @fstore
 replace K0 := Lib.hid K0
 go_enter Tryz.func182, Tryz.ntmps182
 go_wp2_with fail
 have K := K0.out
 clear K0
 generalize ((w.alloc _).alloc _).alloc _ = wr at *
 refine (C1.out wr).mono ?_
 rintro _ v1 ⟨rfl, hb⟩
 replace K := K.on hb
 clear hb
 have c1_0 := (K.at_ 1 rfl).at_ 0 _ rfl
 have c1_1 := (K.at_ 1 rfl).at_ 1 _ rfl
 have c1_2 := (K.at_ 1 rfl).at_ 2 _ rfl
 replace K := Lib.hid K
 go_wp2_with fail
 replace K := K.out
 refine (C2.out v1).mono ?_
 rintro _ v2 ⟨rfl, hb⟩
 clear c1_0 c1_1 c1_2
 replace K := K.on hb
 clear hb
 have c2_0 := (K.at_ 2 rfl).at_ 0 _ rfl
 have f2_0 := (K.at_ 2 rfl).fr 0 _ rfl
 have c2_1 := (K.at_ 2 rfl).at_ 1 _ rfl
 have f2_1 := (K.at_ 2 rfl).fr 1 _ rfl
 have c2_2 := (K.at_ 2 rfl).at_ 2 _ rfl
 have f2_2 := (K.at_ 2 rfl).fr 2 _ rfl
 replace K := Lib.hid K
 go_wp2_with fail
 replace K := K.out
 (try simp only [Exit.vnBlock, Exit.then])
 refine bodyPost_ret (v := .tuple #[.agg #[.float .f64 0, .float .f64 0, .float .f64 0], .int .i64 3]) ?_ rfl ⟨rfl, ?_⟩
 · rw [results_cell_tmp rfl]; go_simp
 · exact (((K.old).setCell (by first | exact Nat.le_refl _ | (dsimp only; omega)) _).setCell (by first | exact Nat.le_refl _ | (dsimp only; omega)) _).setCell (by first | exact Nat.le_refl _ | (dsimp only; omega)) _
end Go.Proofs.YtacinenddnfcbaaGreat

namespace Go.Proofs.YtacinenddnfcbaaGreat
open Ieee.Own

theorem mag_eq {x y : Nat} (hx : FinW x) (hy : FinW y) (h : (V x).natAbs = (V y).natAbs) : x % 9223372036854775808 = y % 9223372036854775808 := by
 rw [V_abs' x hx, V_abs' y hy] at h
 rcases Nat.lt_trichotomy (x % 9223372036854775808) (y % 9223372036854775808) with c | c | c
 · have := val_lt (F := 52) c; omega
 · exact c
 · have := val_lt (F := 52) c; omega
theorem fitB_mag {x y : Nat} (h : x % 9223372036854775808 = y % 9223372036854775808) : fitB x = fitB y := by unfold fitB; rw [h]
theorem vnB_mag {x y : Nat} (h : x % 9223372036854775808 = y % 9223372036854775808) : vnB x = vnB y := by unfold vnB; rw [fitB_mag h, h]
theorem plus0_nz {x : Nat} (h : FinW x) : Nz (aX x 0) := by
 have p := plus0 h
 by_cases q : V x = 0
 · have z := (V_zero_iff h).1 q
   have := h.1
   rcases (by omega : x = 0 ∨ x = 9223372036854775808) with rfl | rfl
   · have : aX 0 0 = 0 := by decide +kernel
     rw [this]; exact ⟨zero_fin, by omega⟩
   · have : aX 9223372036854775808 0 = 0 := by decide +kernel
     rw [this]; exact ⟨zero_fin, by omega⟩
 · exact Nz.of p.2.1 (by rw [p.2.2]; exact q)
theorem bW_nz {x : Nat} (h : FinW x) : Nz (bW x) := by
 unfold bW
 split
 · exact ⟨zero_fin, by omega⟩
 · exact plus0_nz h
theorem bW_opp {x y : Nat} (hx : FinW x) (hy : FinW y) (h : V y = -V x) : V (bW y) = -V (bW x) := by
 have m := mag_eq hy hx (by rw [h, Int.natAbs_neg])
 unfold bW
 rw [fitB_mag m, m]
 split
 · rw [V_zero]; omega
 · rw [(plus0 hx).2.2, (plus0 hy).2.2, h]
end Go.Proofs.YtacinenddnfcbaaGreat
