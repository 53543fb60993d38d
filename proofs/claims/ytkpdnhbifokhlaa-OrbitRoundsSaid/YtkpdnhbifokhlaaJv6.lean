/- Proved here: what the texts Vma prove, one behind the other. -/
import Derived.Test.YtkpdnhbifokhlaaJv3
import Derived.LoopN

namespace Go.Proofs.Ytkpdnhbifokhlaa
open Go.ChangeShapes Go.WideShapes Go.ChangeAt Go.RowKit Ieee.Own

abbrev M9 := V3 × V3 × V3
def matV (m : M9) : Value := .agg #[.float .f64 m.1.1, .float .f64 m.1.2.1, .float .f64 m.1.2.2, .float .f64 m.2.1.1, .float .f64 m.2.1.2.1, .float .f64 m.2.1.2.2, .float .f64 m.2.2.1, .float .f64 m.2.2.2.1, .float .f64 m.2.2.2.2]
structure W9 (m : M9) : Prop where
  w1 : W3 m.1
  w2 : W3 m.2.1
  w3 : W3 m.2.2
def fitM (m : M9) : Bool := fitV m.1 && fitV m.2.1 && fitV m.2.2
def matE (m : M9) (k : Int) : Value := .tuple #[matV m, .int .i64 k]
def z9 : M9 := (z3, z3, z3)
def colM (m : M9) : M9 := ((m.1.1, m.2.1.1, m.2.2.1), (m.1.2.1, m.2.1.2.1, m.2.2.2.1), (m.1.2.2, m.2.1.2.2, m.2.2.2.2))
set_option maxHeartbeats 4000000 in
set_option maxRecDepth 100000 in
theorem vfitmat_run {m : M9} (h : W9 m) (w : World) : Calls Try.prog 91 #[matV m] w fun e w' => e = .returned (.bool (fitM m)) ∧ Below w.heap.size w w' := by
  have C1 := Lib.hid (fun w => vfit_run h.w1 w)
  have C2 := Lib.hid (fun w => vfit_run h.w2 w)
  have C3 := Lib.hid (fun w => vfit_run h.w3 w)
  clear h
  obtain ⟨⟨a1, a2, a3⟩, ⟨b1, b2, b3⟩, c1, c2, c3⟩ := m
  unfold fitM matV
  unfold vecV at *
  dsimp only at *
  generalize fitV (a1, a2, a3) = x at *
  generalize fitV (b1, b2, b3) = y at *
  generalize fitV (c1, c2, c3) = z at *
  have K0 := kw1 w 79 [a1, a2, a3, b1, b2, b3, c1, c2, c3]
  simp only [objW, List.map_cons, List.map_nil] at K0
  have hst := @fstore
  replace K0 := Lib.hid K0
  cases x
  · go_enter Try.func91, Try.ntmps91
    go_wp2_with fail
    have K := K0.out
    clear K0
    generalize w.alloc _ = wr at *
    refine (C1.out wr).mono ?_
    rintro _ v1 ⟨rfl, hb⟩
    replace K := K.on hb
    clear hb
    replace K := Lib.hid K
    go_wp2_with fail
    replace K := K.out
    go_ret
    exact ⟨rfl, K.old⟩
  · cases y
    · go_enter Try.func91, Try.ntmps91
      go_wp2_with fail
      have K := K0.out
      clear K0
      generalize w.alloc _ = wr at *
      refine (C1.out wr).mono ?_
      rintro _ v1 ⟨rfl, hb⟩
      replace K := K.on hb
      clear hb
      have c0_3 := (K.at_ 0 rfl).at_ 3 _ rfl
      have c0_4 := (K.at_ 0 rfl).at_ 4 _ rfl
      have c0_5 := (K.at_ 0 rfl).at_ 5 _ rfl
      replace K := Lib.hid K
      go_wp2_with fail
      replace K := K.out
      refine (C2.out v1).mono ?_
      rintro _ v2 ⟨rfl, hb⟩
      clear c0_3 c0_4 c0_5
      replace K := K.on hb
      clear hb
      replace K := Lib.hid K
      go_wp2_with fail
      replace K := K.out
      go_ret
      exact ⟨rfl, K.old⟩
    · go_enter Try.func91, Try.ntmps91
      go_wp2_with fail
      have K := K0.out
      clear K0
      generalize w.alloc _ = wr at *
      refine (C1.out wr).mono ?_
      rintro _ v1 ⟨rfl, hb⟩
      replace K := K.on hb
      clear hb
      have c0_3 := (K.at_ 0 rfl).at_ 3 _ rfl
      have c0_4 := (K.at_ 0 rfl).at_ 4 _ rfl
      have c0_5 := (K.at_ 0 rfl).at_ 5 _ rfl
      replace K := Lib.hid K
      go_wp2_with fail
      replace K := K.out
      refine (C2.out v1).mono ?_
      rintro _ v2 ⟨rfl, hb⟩
      clear c0_3 c0_4 c0_5
      replace K := K.on hb
      clear hb
      have c0_6 := (K.at_ 0 rfl).at_ 6 _ rfl
      have c0_7 := (K.at_ 0 rfl).at_ 7 _ rfl
      have c0_8 := (K.at_ 0 rfl).at_ 8 _ rfl
      replace K := Lib.hid K
      go_wp2_with fail
      replace K := K.out
      refine (C3.out v2).mono ?_
      rintro _ v3 ⟨rfl, hb⟩
      clear c0_6 c0_7 c0_8
      replace K := K.on hb
      clear hb
      replace K := Lib.hid K
      go_wp2_with fail
      replace K := K.out
      go_ret
      exact ⟨rfl, K.old⟩
set_option maxHeartbeats 4000000 in
set_option maxRecDepth 100000 in
theorem vtoldmat_ok {a1 a2 a3 b1 b2 b3 c1 c2 c3 p1 p2 p3 q1 q2 q3 r1 r2 r3 : Nat} (C1 : Hid (∀ w, Calls Try.prog 93 #[.agg #[.float .f64 a1, .float .f64 a2, .float .f64 a3]] w fun e w' => e = .returned (.tuple #[.agg #[.float .f64 p1, .float .f64 p2, .float .f64 p3], .int .i64 0]) ∧ Below w.heap.size w w')) (C2 : Hid (∀ w, Calls Try.prog 93 #[.agg #[.float .f64 b1, .float .f64 b2, .float .f64 b3]] w fun e w' => e = .returned (.tuple #[.agg #[.float .f64 q1, .float .f64 q2, .float .f64 q3], .int .i64 0]) ∧ Below w.heap.size w w')) (C3 : Hid (∀ w, Calls Try.prog 93 #[.agg #[.float .f64 c1, .float .f64 c2, .float .f64 c3]] w fun e w' => e = .returned (.tuple #[.agg #[.float .f64 r1, .float .f64 r2, .float .f64 r3], .int .i64 0]) ∧ Below w.heap.size w w')) (w : World) : Calls Try.prog 90 #[.agg #[.float .f64 a1, .float .f64 a2, .float .f64 a3, .float .f64 b1, .float .f64 b2, .float .f64 b3, .float .f64 c1, .float .f64 c2, .float .f64 c3]] w fun e w' => e = .returned (.tuple #[.agg #[.float .f64 p1, .float .f64 p2, .float .f64 p3, .float .f64 q1, .float .f64 q2, .float .f64 q3, .float .f64 r1, .float .f64 r2, .float .f64 r3], .int .i64 0]) ∧ Below w.heap.size w w' := by
  have K0 := kw2 w 79 79 [a1, a2, a3, b1, b2, b3, c1, c2, c3] [0, 0, 0, 0, 0, 0, 0, 0, 0]
  simp only [objW, List.map_cons, List.map_nil] at K0
  have hst := @fstore
  replace K0 := Lib.hid K0
  go_enter Try.func90, Try.ntmps90
  go_wp2_with fail
  have K := K0.out
  clear K0
  generalize (w.alloc _).alloc _ = wr at *
  refine wp_loop_rounds 4 ?_
  rw [rounds_succ]
  have c0_0 := (K.at_ 0 rfl).at_ 0 _ rfl
  have c0_1 := (K.at_ 0 rfl).at_ 1 _ rfl
  have c0_2 := (K.at_ 0 rfl).at_ 2 _ rfl
  replace K := Lib.hid K
  go_wp2_with fail
  replace K := K.out
  clear c0_0 c0_1 c0_2
  refine (C1.out wr).mono ?_
  rintro _ v ⟨rfl, hb⟩
  replace K := (K.on hb).new 33 [p1, p2, p3]
  simp only [objW, List.map_cons, List.map_nil, List.cons_append, List.nil_append] at K
  clear hb
  have c0_0 := (K.at_ 0 rfl).at_ 0 _ rfl
  have f0_0 := (K.at_ 0 rfl).fr 0 _ rfl
  have c0_1 := (K.at_ 0 rfl).at_ 1 _ rfl
  have f0_1 := (K.at_ 0 rfl).fr 1 _ rfl
  have c0_2 := (K.at_ 0 rfl).at_ 2 _ rfl
  have f0_2 := (K.at_ 0 rfl).fr 2 _ rfl
  have c2_0 := (K.at_ 2 rfl).at_ 0 _ rfl
  have c2_1 := (K.at_ 2 rfl).at_ 1 _ rfl
  have c2_2 := (K.at_ 2 rfl).at_ 2 _ rfl
  replace K := Lib.hid K
  go_wp2_with fail
  replace K := K.out
  clear c0_0 f0_0 c0_1 f0_1 c0_2 f0_2 c2_0 c2_1 c2_2
  (try simp only [Exit.vnBlock, Exit.then])
  replace K := K.put 0 rfl 0 [p1, p2, p3] (by simp)
  simp only [putW, setL, List.set_cons_zero, List.set_cons_succ] at K
  generalize World.setCell _ _ _ = wr at *
  generalize v.heap.size = g0 at *
  rw [rounds_succ]
  have c0_3 := (K.at_ 0 rfl).at_ 3 _ rfl
  have c0_4 := (K.at_ 0 rfl).at_ 4 _ rfl
  have c0_5 := (K.at_ 0 rfl).at_ 5 _ rfl
  replace K := Lib.hid K
  go_wp2_with fail
  replace K := K.out
  clear c0_3 c0_4 c0_5
  refine (C2.out wr).mono ?_
  rintro _ v ⟨rfl, hb⟩
  replace K := (K.on hb).new 33 [q1, q2, q3]
  simp only [objW, List.map_cons, List.map_nil, List.cons_append, List.nil_append] at K
  clear hb
  have c0_3 := (K.at_ 0 rfl).at_ 3 _ rfl
  have f0_3 := (K.at_ 0 rfl).fr 3 _ rfl
  have c0_4 := (K.at_ 0 rfl).at_ 4 _ rfl
  have f0_4 := (K.at_ 0 rfl).fr 4 _ rfl
  have c0_5 := (K.at_ 0 rfl).at_ 5 _ rfl
  have f0_5 := (K.at_ 0 rfl).fr 5 _ rfl
  have c3_0 := (K.at_ 3 rfl).at_ 0 _ rfl
  have c3_1 := (K.at_ 3 rfl).at_ 1 _ rfl
  have c3_2 := (K.at_ 3 rfl).at_ 2 _ rfl
  replace K := Lib.hid K
  go_wp2_with fail
  replace K := K.out
  clear c0_3 f0_3 c0_4 f0_4 c0_5 f0_5 c3_0 c3_1 c3_2
  (try simp only [Exit.vnBlock, Exit.then])
  replace K := K.put 0 rfl 3 [q1, q2, q3] (by simp)
  simp only [putW, setL, List.set_cons_zero, List.set_cons_succ] at K
  generalize World.setCell _ _ _ = wr at *
  generalize v.heap.size = g1 at *
  rw [rounds_succ]
  have c0_6 := (K.at_ 0 rfl).at_ 6 _ rfl
  have c0_7 := (K.at_ 0 rfl).at_ 7 _ rfl
  have c0_8 := (K.at_ 0 rfl).at_ 8 _ rfl
  replace K := Lib.hid K
  go_wp2_with fail
  replace K := K.out
  clear c0_6 c0_7 c0_8
  refine (C3.out wr).mono ?_
  rintro _ v ⟨rfl, hb⟩
  replace K := (K.on hb).new 33 [r1, r2, r3]
  simp only [objW, List.map_cons, List.map_nil, List.cons_append, List.nil_append] at K
  clear hb
  have c0_6 := (K.at_ 0 rfl).at_ 6 _ rfl
  have f0_6 := (K.at_ 0 rfl).fr 6 _ rfl
  have c0_7 := (K.at_ 0 rfl).at_ 7 _ rfl
  have f0_7 := (K.at_ 0 rfl).fr 7 _ rfl
  have c0_8 := (K.at_ 0 rfl).at_ 8 _ rfl
  have f0_8 := (K.at_ 0 rfl).fr 8 _ rfl
  have c4_0 := (K.at_ 4 rfl).at_ 0 _ rfl
  have c4_1 := (K.at_ 4 rfl).at_ 1 _ rfl
  have c4_2 := (K.at_ 4 rfl).at_ 2 _ rfl
  replace K := Lib.hid K
  go_wp2_with fail
  replace K := K.out
  clear c0_6 f0_6 c0_7 f0_7 c0_8 f0_8 c4_0 c4_1 c4_2
  (try simp only [Exit.vnBlock, Exit.then])
  replace K := K.put 0 rfl 6 [r1, r2, r3] (by simp)
  simp only [putW, setL, List.set_cons_zero, List.set_cons_succ] at K
  generalize World.setCell _ _ _ = wr at *
  generalize v.heap.size = g2 at *
  rw [rounds_succ]
  have c0_0 := (K.at_ 0 rfl).at_ 0 _ rfl
  have c0_1 := (K.at_ 0 rfl).at_ 1 _ rfl
  have c0_2 := (K.at_ 0 rfl).at_ 2 _ rfl
  have c0_3 := (K.at_ 0 rfl).at_ 3 _ rfl
  have c0_4 := (K.at_ 0 rfl).at_ 4 _ rfl
  have c0_5 := (K.at_ 0 rfl).at_ 5 _ rfl
  have c0_6 := (K.at_ 0 rfl).at_ 6 _ rfl
  have c0_7 := (K.at_ 0 rfl).at_ 7 _ rfl
  have c0_8 := (K.at_ 0 rfl).at_ 8 _ rfl
  have c1_0 := (K.at_ 1 rfl).at_ 0 _ rfl
  have f1_0 := (K.at_ 1 rfl).fr 0 _ rfl
  have c1_1 := (K.at_ 1 rfl).at_ 1 _ rfl
  have f1_1 := (K.at_ 1 rfl).fr 1 _ rfl
  have c1_2 := (K.at_ 1 rfl).at_ 2 _ rfl
  have f1_2 := (K.at_ 1 rfl).fr 2 _ rfl
  have c1_3 := (K.at_ 1 rfl).at_ 3 _ rfl
  have f1_3 := (K.at_ 1 rfl).fr 3 _ rfl
  have c1_4 := (K.at_ 1 rfl).at_ 4 _ rfl
  have f1_4 := (K.at_ 1 rfl).fr 4 _ rfl
  have c1_5 := (K.at_ 1 rfl).at_ 5 _ rfl
  have f1_5 := (K.at_ 1 rfl).fr 5 _ rfl
  have c1_6 := (K.at_ 1 rfl).at_ 6 _ rfl
  have f1_6 := (K.at_ 1 rfl).fr 6 _ rfl
  have c1_7 := (K.at_ 1 rfl).at_ 7 _ rfl
  have f1_7 := (K.at_ 1 rfl).fr 7 _ rfl
  have c1_8 := (K.at_ 1 rfl).at_ 8 _ rfl
  have f1_8 := (K.at_ 1 rfl).fr 8 _ rfl
  replace K := Lib.hid K
  go_wp2_with fail
  replace K := K.out
  (try simp only [Exit.vnBlock, Exit.then])
  refine bodyPost_ret (v := .tuple #[.agg #[.float .f64 p1, .float .f64 p2, .float .f64 p3, .float .f64 q1, .float .f64 q2, .float .f64 q3, .float .f64 r1, .float .f64 r2, .float .f64 r3], .int .i64 0]) ?_ rfl ⟨rfl, ?_⟩
  · rw [results_cell_tmp rfl]; go_simp
  · exact (((((((((K.old).setCell (by first | exact Nat.le_refl _ | (dsimp only; omega)) _).setCell (by first | exact Nat.le_refl _ | (dsimp only; omega)) _).setCell (by first | exact Nat.le_refl _ | (dsimp only; omega)) _).setCell (by first | exact Nat.le_refl _ | (dsimp only; omega)) _).setCell (by first | exact Nat.le_refl _ | (dsimp only; omega)) _).setCell (by first | exact Nat.le_refl _ | (dsimp only; omega)) _).setCell (by first | exact Nat.le_refl _ | (dsimp only; omega)) _).setCell (by first | exact Nat.le_refl _ | (dsimp only; omega)) _).setCell (by first | exact Nat.le_refl _ | (dsimp only; omega)) _
set_option maxHeartbeats 4000000 in
set_option maxRecDepth 100000 in
theorem vtoldmat_no0 {a1 a2 a3 b1 b2 b3 c1 c2 c3 p1 p2 p3 : Nat} {k : Int} (t : (k != 0) = true) (C1 : Hid (∀ w, Calls Try.prog 93 #[.agg #[.float .f64 a1, .float .f64 a2, .float .f64 a3]] w fun e w' => e = .returned (.tuple #[.agg #[.float .f64 p1, .float .f64 p2, .float .f64 p3], .int .i64 k]) ∧ Below w.heap.size w w')) (w : World) : Calls Try.prog 90 #[.agg #[.float .f64 a1, .float .f64 a2, .float .f64 a3, .float .f64 b1, .float .f64 b2, .float .f64 b3, .float .f64 c1, .float .f64 c2, .float .f64 c3]] w fun e w' => e = .returned (.tuple #[.agg #[.float .f64 0, .float .f64 0, .float .f64 0, .float .f64 0, .float .f64 0, .float .f64 0, .float .f64 0, .float .f64 0, .float .f64 0], .int .i64 k]) ∧ Below w.heap.size w w' := by
  have K0 := kw2 w 79 79 [a1, a2, a3, b1, b2, b3, c1, c2, c3] [0, 0, 0, 0, 0, 0, 0, 0, 0]
  simp only [objW, List.map_cons, List.map_nil] at K0
  have hst := @fstore
  replace K0 := Lib.hid K0
  go_enter Try.func90, Try.ntmps90
  go_wp2_with fail
  have K := K0.out
  clear K0
  generalize (w.alloc _).alloc _ = wr at *
  refine wp_loop_rounds 4 ?_
  rw [rounds_succ]
  have c0_0 := (K.at_ 0 rfl).at_ 0 _ rfl
  have c0_1 := (K.at_ 0 rfl).at_ 1 _ rfl
  have c0_2 := (K.at_ 0 rfl).at_ 2 _ rfl
  replace K := Lib.hid K
  go_wp2_with fail
  replace K := K.out
  clear c0_0 c0_1 c0_2
  refine (C1.out wr).mono ?_
  rintro _ v ⟨rfl, hb⟩
  replace K := (K.on hb).new 33 [p1, p2, p3]
  simp only [objW, List.map_cons, List.map_nil, List.cons_append, List.nil_append] at K
  clear hb
  have c1_0 := (K.at_ 1 rfl).at_ 0 _ rfl
  have f1_0 := (K.at_ 1 rfl).fr 0 _ rfl
  have c1_1 := (K.at_ 1 rfl).at_ 1 _ rfl
  have f1_1 := (K.at_ 1 rfl).fr 1 _ rfl
  have c1_2 := (K.at_ 1 rfl).at_ 2 _ rfl
  have f1_2 := (K.at_ 1 rfl).fr 2 _ rfl
  have c1_3 := (K.at_ 1 rfl).at_ 3 _ rfl
  have f1_3 := (K.at_ 1 rfl).fr 3 _ rfl
  have c1_4 := (K.at_ 1 rfl).at_ 4 _ rfl
  have f1_4 := (K.at_ 1 rfl).fr 4 _ rfl
  have c1_5 := (K.at_ 1 rfl).at_ 5 _ rfl
  have f1_5 := (K.at_ 1 rfl).fr 5 _ rfl
  have c1_6 := (K.at_ 1 rfl).at_ 6 _ rfl
  have f1_6 := (K.at_ 1 rfl).fr 6 _ rfl
  have c1_7 := (K.at_ 1 rfl).at_ 7 _ rfl
  have f1_7 := (K.at_ 1 rfl).fr 7 _ rfl
  have c1_8 := (K.at_ 1 rfl).at_ 8 _ rfl
  have f1_8 := (K.at_ 1 rfl).fr 8 _ rfl
  replace K := Lib.hid K
  go_wp2_with fail
  replace K := K.out
  (try simp only [Exit.vnBlock, Exit.then])
  refine bodyPost_ret (v := .tuple #[.agg #[.float .f64 0, .float .f64 0, .float .f64 0, .float .f64 0, .float .f64 0, .float .f64 0, .float .f64 0, .float .f64 0, .float .f64 0], .int .i64 k]) ?_ rfl ⟨rfl, ?_⟩
  · rw [results_cell_tmp rfl]; go_simp
  · exact (((((((((K.old).setCell (by first | exact Nat.le_refl _ | (dsimp only; omega)) _).setCell (by first | exact Nat.le_refl _ | (dsimp only; omega)) _).setCell (by first | exact Nat.le_refl _ | (dsimp only; omega)) _).setCell (by first | exact Nat.le_refl _ | (dsimp only; omega)) _).setCell (by first | exact Nat.le_refl _ | (dsimp only; omega)) _).setCell (by first | exact Nat.le_refl _ | (dsimp only; omega)) _).setCell (by first | exact Nat.le_refl _ | (dsimp only; omega)) _).setCell (by first | exact Nat.le_refl _ | (dsimp only; omega)) _).setCell (by first | exact Nat.le_refl _ | (dsimp only; omega)) _
set_option maxHeartbeats 4000000 in
set_option maxRecDepth 100000 in
theorem vtoldmat_no1 {a1 a2 a3 b1 b2 b3 c1 c2 c3 p1 p2 p3 q1 q2 q3 : Nat} {k : Int} (t : (k != 0) = true) (C1 : Hid (∀ w, Calls Try.prog 93 #[.agg #[.float .f64 a1, .float .f64 a2, .float .f64 a3]] w fun e w' => e = .returned (.tuple #[.agg #[.float .f64 p1, .float .f64 p2, .float .f64 p3], .int .i64 0]) ∧ Below w.heap.size w w')) (C2 : Hid (∀ w, Calls Try.prog 93 #[.agg #[.float .f64 b1, .float .f64 b2, .float .f64 b3]] w fun e w' => e = .returned (.tuple #[.agg #[.float .f64 q1, .float .f64 q2, .float .f64 q3], .int .i64 k]) ∧ Below w.heap.size w w')) (w : World) : Calls Try.prog 90 #[.agg #[.float .f64 a1, .float .f64 a2, .float .f64 a3, .float .f64 b1, .float .f64 b2, .float .f64 b3, .float .f64 c1, .float .f64 c2, .float .f64 c3]] w fun e w' => e = .returned (.tuple #[.agg #[.float .f64 0, .float .f64 0, .float .f64 0, .float .f64 0, .float .f64 0, .float .f64 0, .float .f64 0, .float .f64 0, .float .f64 0], .int .i64 k]) ∧ Below w.heap.size w w' := by
  have K0 := kw2 w 79 79 [a1, a2, a3, b1, b2, b3, c1, c2, c3] [0, 0, 0, 0, 0, 0, 0, 0, 0]
  simp only [objW, List.map_cons, List.map_nil] at K0
  have hst := @fstore
  replace K0 := Lib.hid K0
  go_enter Try.func90, Try.ntmps90
  go_wp2_with fail
  have K := K0.out
  clear K0
  generalize (w.alloc _).alloc _ = wr at *
  refine wp_loop_rounds 4 ?_
  rw [rounds_succ]
  have c0_0 := (K.at_ 0 rfl).at_ 0 _ rfl
  have c0_1 := (K.at_ 0 rfl).at_ 1 _ rfl
  have c0_2 := (K.at_ 0 rfl).at_ 2 _ rfl
  replace K := Lib.hid K
  go_wp2_with fail
  replace K := K.out
  clear c0_0 c0_1 c0_2
  refine (C1.out wr).mono ?_
  rintro _ v ⟨rfl, hb⟩
  replace K := (K.on hb).new 33 [p1, p2, p3]
  simp only [objW, List.map_cons, List.map_nil, List.cons_append, List.nil_append] at K
  clear hb
  have c0_0 := (K.at_ 0 rfl).at_ 0 _ rfl
  have f0_0 := (K.at_ 0 rfl).fr 0 _ rfl
  have c0_1 := (K.at_ 0 rfl).at_ 1 _ rfl
  have f0_1 := (K.at_ 0 rfl).fr 1 _ rfl
  have c0_2 := (K.at_ 0 rfl).at_ 2 _ rfl
  have f0_2 := (K.at_ 0 rfl).fr 2 _ rfl
  have c2_0 := (K.at_ 2 rfl).at_ 0 _ rfl
  have c2_1 := (K.at_ 2 rfl).at_ 1 _ rfl
  have c2_2 := (K.at_ 2 rfl).at_ 2 _ rfl
  replace K := Lib.hid K
  go_wp2_with fail
  replace K := K.out
  clear c0_0 f0_0 c0_1 f0_1 c0_2 f0_2 c2_0 c2_1 c2_2
  (try simp only [Exit.vnBlock, Exit.then])
  replace K := K.put 0 rfl 0 [p1, p2, p3] (by simp)
  simp only [putW, setL, List.set_cons_zero, List.set_cons_succ] at K
  generalize World.setCell _ _ _ = wr at *
  generalize v.heap.size = g0 at *
  rw [rounds_succ]
  have c0_3 := (K.at_ 0 rfl).at_ 3 _ rfl
  have c0_4 := (K.at_ 0 rfl).at_ 4 _ rfl
  have c0_5 := (K.at_ 0 rfl).at_ 5 _ rfl
  replace K := Lib.hid K
  go_wp2_with fail
  replace K := K.out
  clear c0_3 c0_4 c0_5
  refine (C2.out wr).mono ?_
  rintro _ v ⟨rfl, hb⟩
  replace K := (K.on hb).new 33 [q1, q2, q3]
  simp only [objW, List.map_cons, List.map_nil, List.cons_append, List.nil_append] at K
  clear hb
  have c1_0 := (K.at_ 1 rfl).at_ 0 _ rfl
  have f1_0 := (K.at_ 1 rfl).fr 0 _ rfl
  have c1_1 := (K.at_ 1 rfl).at_ 1 _ rfl
  have f1_1 := (K.at_ 1 rfl).fr 1 _ rfl
  have c1_2 := (K.at_ 1 rfl).at_ 2 _ rfl
  have f1_2 := (K.at_ 1 rfl).fr 2 _ rfl
  have c1_3 := (K.at_ 1 rfl).at_ 3 _ rfl
  have f1_3 := (K.at_ 1 rfl).fr 3 _ rfl
  have c1_4 := (K.at_ 1 rfl).at_ 4 _ rfl
  have f1_4 := (K.at_ 1 rfl).fr 4 _ rfl
  have c1_5 := (K.at_ 1 rfl).at_ 5 _ rfl
  have f1_5 := (K.at_ 1 rfl).fr 5 _ rfl
  have c1_6 := (K.at_ 1 rfl).at_ 6 _ rfl
  have f1_6 := (K.at_ 1 rfl).fr 6 _ rfl
  have c1_7 := (K.at_ 1 rfl).at_ 7 _ rfl
  have f1_7 := (K.at_ 1 rfl).fr 7 _ rfl
  have c1_8 := (K.at_ 1 rfl).at_ 8 _ rfl
  have f1_8 := (K.at_ 1 rfl).fr 8 _ rfl
  replace K := Lib.hid K
  go_wp2_with fail
  replace K := K.out
  (try simp only [Exit.vnBlock, Exit.then])
  refine bodyPost_ret (v := .tuple #[.agg #[.float .f64 0, .float .f64 0, .float .f64 0, .float .f64 0, .float .f64 0, .float .f64 0, .float .f64 0, .float .f64 0, .float .f64 0], .int .i64 k]) ?_ rfl ⟨rfl, ?_⟩
  · rw [results_cell_tmp rfl]; go_simp
  · exact (((((((((K.old).setCell (by first | exact Nat.le_refl _ | (dsimp only; omega)) _).setCell (by first | exact Nat.le_refl _ | (dsimp only; omega)) _).setCell (by first | exact Nat.le_refl _ | (dsimp only; omega)) _).setCell (by first | exact Nat.le_refl _ | (dsimp only; omega)) _).setCell (by first | exact Nat.le_refl _ | (dsimp only; omega)) _).setCell (by first | exact Nat.le_refl _ | (dsimp only; omega)) _).setCell (by first | exact Nat.le_refl _ | (dsimp only; omega)) _).setCell (by first | exact Nat.le_refl _ | (dsimp only; omega)) _).setCell (by first | exact Nat.le_refl _ | (dsimp only; omega)) _
set_option maxHeartbeats 4000000 in
set_option maxRecDepth 100000 in
theorem vtoldmat_no2 {a1 a2 a3 b1 b2 b3 c1 c2 c3 p1 p2 p3 q1 q2 q3 r1 r2 r3 : Nat} {k : Int} (t : (k != 0) = true) (C1 : Hid (∀ w, Calls Try.prog 93 #[.agg #[.float .f64 a1, .float .f64 a2, .float .f64 a3]] w fun e w' => e = .returned (.tuple #[.agg #[.float .f64 p1, .float .f64 p2, .float .f64 p3], .int .i64 0]) ∧ Below w.heap.size w w')) (C2 : Hid (∀ w, Calls Try.prog 93 #[.agg #[.float .f64 b1, .float .f64 b2, .float .f64 b3]] w fun e w' => e = .returned (.tuple #[.agg #[.float .f64 q1, .float .f64 q2, .float .f64 q3], .int .i64 0]) ∧ Below w.heap.size w w')) (C3 : Hid (∀ w, Calls Try.prog 93 #[.agg #[.float .f64 c1, .float .f64 c2, .float .f64 c3]] w fun e w' => e = .returned (.tuple #[.agg #[.float .f64 r1, .float .f64 r2, .float .f64 r3], .int .i64 k]) ∧ Below w.heap.size w w')) (w : World) : Calls Try.prog 90 #[.agg #[.float .f64 a1, .float .f64 a2, .float .f64 a3, .float .f64 b1, .float .f64 b2, .float .f64 b3, .float .f64 c1, .float .f64 c2, .float .f64 c3]] w fun e w' => e = .returned (.tuple #[.agg #[.float .f64 0, .float .f64 0, .float .f64 0, .float .f64 0, .float .f64 0, .float .f64 0, .float .f64 0, .float .f64 0, .float .f64 0], .int .i64 k]) ∧ Below w.heap.size w w' := by
  have K0 := kw2 w 79 79 [a1, a2, a3, b1, b2, b3, c1, c2, c3] [0, 0, 0, 0, 0, 0, 0, 0, 0]
  simp only [objW, List.map_cons, List.map_nil] at K0
  have hst := @fstore
  replace K0 := Lib.hid K0
  go_enter Try.func90, Try.ntmps90
  go_wp2_with fail
  have K := K0.out
  clear K0
  generalize (w.alloc _).alloc _ = wr at *
  refine wp_loop_rounds 4 ?_
  rw [rounds_succ]
  have c0_0 := (K.at_ 0 rfl).at_ 0 _ rfl
  have c0_1 := (K.at_ 0 rfl).at_ 1 _ rfl
  have c0_2 := (K.at_ 0 rfl).at_ 2 _ rfl
  replace K := Lib.hid K
  go_wp2_with fail
  replace K := K.out
  clear c0_0 c0_1 c0_2
  refine (C1.out wr).mono ?_
  rintro _ v ⟨rfl, hb⟩
  replace K := (K.on hb).new 33 [p1, p2, p3]
  simp only [objW, List.map_cons, List.map_nil, List.cons_append, List.nil_append] at K
  clear hb
  have c0_0 := (K.at_ 0 rfl).at_ 0 _ rfl
  have f0_0 := (K.at_ 0 rfl).fr 0 _ rfl
  have c0_1 := (K.at_ 0 rfl).at_ 1 _ rfl
  have f0_1 := (K.at_ 0 rfl).fr 1 _ rfl
  have c0_2 := (K.at_ 0 rfl).at_ 2 _ rfl
  have f0_2 := (K.at_ 0 rfl).fr 2 _ rfl
  have c2_0 := (K.at_ 2 rfl).at_ 0 _ rfl
  have c2_1 := (K.at_ 2 rfl).at_ 1 _ rfl
  have c2_2 := (K.at_ 2 rfl).at_ 2 _ rfl
  replace K := Lib.hid K
  go_wp2_with fail
  replace K := K.out
  clear c0_0 f0_0 c0_1 f0_1 c0_2 f0_2 c2_0 c2_1 c2_2
  (try simp only [Exit.vnBlock, Exit.then])
  replace K := K.put 0 rfl 0 [p1, p2, p3] (by simp)
  simp only [putW, setL, List.set_cons_zero, List.set_cons_succ] at K
  generalize World.setCell _ _ _ = wr at *
  generalize v.heap.size = g0 at *
  rw [rounds_succ]
  have c0_3 := (K.at_ 0 rfl).at_ 3 _ rfl
  have c0_4 := (K.at_ 0 rfl).at_ 4 _ rfl
  have c0_5 := (K.at_ 0 rfl).at_ 5 _ rfl
  replace K := Lib.hid K
  go_wp2_with fail
  replace K := K.out
  clear c0_3 c0_4 c0_5
  refine (C2.out wr).mono ?_
  rintro _ v ⟨rfl, hb⟩
  replace K := (K.on hb).new 33 [q1, q2, q3]
  simp only [objW, List.map_cons, List.map_nil, List.cons_append, List.nil_append] at K
  clear hb
  have c0_3 := (K.at_ 0 rfl).at_ 3 _ rfl
  have f0_3 := (K.at_ 0 rfl).fr 3 _ rfl
  have c0_4 := (K.at_ 0 rfl).at_ 4 _ rfl
  have f0_4 := (K.at_ 0 rfl).fr 4 _ rfl
  have c0_5 := (K.at_ 0 rfl).at_ 5 _ rfl
  have f0_5 := (K.at_ 0 rfl).fr 5 _ rfl
  have c3_0 := (K.at_ 3 rfl).at_ 0 _ rfl
  have c3_1 := (K.at_ 3 rfl).at_ 1 _ rfl
  have c3_2 := (K.at_ 3 rfl).at_ 2 _ rfl
  replace K := Lib.hid K
  go_wp2_with fail
  replace K := K.out
  clear c0_3 f0_3 c0_4 f0_4 c0_5 f0_5 c3_0 c3_1 c3_2
  (try simp only [Exit.vnBlock, Exit.then])
  replace K := K.put 0 rfl 3 [q1, q2, q3] (by simp)
  simp only [putW, setL, List.set_cons_zero, List.set_cons_succ] at K
  generalize World.setCell _ _ _ = wr at *
  generalize v.heap.size = g1 at *
  rw [rounds_succ]
  have c0_6 := (K.at_ 0 rfl).at_ 6 _ rfl
  have c0_7 := (K.at_ 0 rfl).at_ 7 _ rfl
  have c0_8 := (K.at_ 0 rfl).at_ 8 _ rfl
  replace K := Lib.hid K
  go_wp2_with fail
  replace K := K.out
  clear c0_6 c0_7 c0_8
  refine (C3.out wr).mono ?_
  rintro _ v ⟨rfl, hb⟩
  replace K := (K.on hb).new 33 [r1, r2, r3]
  simp only [objW, List.map_cons, List.map_nil, List.cons_append, List.nil_append] at K
  clear hb
  have c1_0 := (K.at_ 1 rfl).at_ 0 _ rfl
  have f1_0 := (K.at_ 1 rfl).fr 0 _ rfl
  have c1_1 := (K.at_ 1 rfl).at_ 1 _ rfl
  have f1_1 := (K.at_ 1 rfl).fr 1 _ rfl
  have c1_2 := (K.at_ 1 rfl).at_ 2 _ rfl
  have f1_2 := (K.at_ 1 rfl).fr 2 _ rfl
  have c1_3 := (K.at_ 1 rfl).at_ 3 _ rfl
  have f1_3 := (K.at_ 1 rfl).fr 3 _ rfl
  have c1_4 := (K.at_ 1 rfl).at_ 4 _ rfl
  have f1_4 := (K.at_ 1 rfl).fr 4 _ rfl
  have c1_5 := (K.at_ 1 rfl).at_ 5 _ rfl
  have f1_5 := (K.at_ 1 rfl).fr 5 _ rfl
  have c1_6 := (K.at_ 1 rfl).at_ 6 _ rfl
  have f1_6 := (K.at_ 1 rfl).fr 6 _ rfl
  have c1_7 := (K.at_ 1 rfl).at_ 7 _ rfl
  have f1_7 := (K.at_ 1 rfl).fr 7 _ rfl
  have c1_8 := (K.at_ 1 rfl).at_ 8 _ rfl
  have f1_8 := (K.at_ 1 rfl).fr 8 _ rfl
  replace K := Lib.hid K
  go_wp2_with fail
  replace K := K.out
  (try simp only [Exit.vnBlock, Exit.then])
  refine bodyPost_ret (v := .tuple #[.agg #[.float .f64 0, .float .f64 0, .float .f64 0, .float .f64 0, .float .f64 0, .float .f64 0, .float .f64 0, .float .f64 0, .float .f64 0], .int .i64 k]) ?_ rfl ⟨rfl, ?_⟩
  · rw [results_cell_tmp rfl]; go_simp
  · exact (((((((((K.old).setCell (by first | exact Nat.le_refl _ | (dsimp only; omega)) _).setCell (by first | exact Nat.le_refl _ | (dsimp only; omega)) _).setCell (by first | exact Nat.le_refl _ | (dsimp only; omega)) _).setCell (by first | exact Nat.le_refl _ | (dsimp only; omega)) _).setCell (by first | exact Nat.le_refl _ | (dsimp only; omega)) _).setCell (by first | exact Nat.le_refl _ | (dsimp only; omega)) _).setCell (by first | exact Nat.le_refl _ | (dsimp only; omega)) _).setCell (by first | exact Nat.le_refl _ | (dsimp only; omega)) _).setCell (by first | exact Nat.le_refl _ | (dsimp only; omega)) _
end Go.Proofs.Ytkpdnhbifokhlaa
