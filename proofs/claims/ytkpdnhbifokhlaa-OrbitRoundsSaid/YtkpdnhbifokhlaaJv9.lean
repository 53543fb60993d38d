/- Proved here: what the texts Vmd prove, one behind the other. -/
import Derived.Test.YtkpdnhbifokhlaaJv7

namespace Go.Proofs.Ytkpdnhbifokhlaa
open Go.ChangeShapes Go.WideShapes Go.ChangeAt Go.RowKit Ieee.Own

set_option maxHeartbeats 4000000 in
set_option maxRecDepth 100000 in
theorem vaxis_run (a : Int) (w : World) : Calls Try.prog 89 #[.int .i64 a] w fun e w' => e = .returned (.bool (decide (0 ≤ a ∧ a ≤ 2))) ∧ Below w.heap.size w w' := by
  by_cases h1 : 0 ≤ a
  · have t1 : decide (0 ≤ a) = true := decide_eq_true h1
    by_cases h2 : a ≤ 2
    · have t2 : decide (a ≤ 2) = true := decide_eq_true h2
      rw [decide_eq_true (show 0 ≤ a ∧ a ≤ 2 from ⟨h1, h2⟩)]
      clear h1 h2
      go_enter Try.func89, Try.ntmps89
      go_wp2_with fail
      go_ret
      exact ⟨rfl, Below.refl _ w⟩
    · have t2 : decide (a ≤ 2) = false := decide_eq_false h2
      rw [decide_eq_false (show ¬ (0 ≤ a ∧ a ≤ 2) from fun h => h2 h.2)]
      clear h1 h2
      go_enter Try.func89, Try.ntmps89
      go_wp2_with fail
      go_ret
      exact ⟨rfl, Below.refl _ w⟩
  · have t1 : decide (0 ≤ a) = false := decide_eq_false h1
    rw [decide_eq_false (show ¬ (0 ≤ a ∧ a ≤ 2) from fun h => h1 h.1)]
    clear h1
    go_enter Try.func89, Try.ntmps89
    go_wp2_with fail
    go_ret
    exact ⟨rfl, Below.refl _ w⟩
set_option maxHeartbeats 4000000 in
set_option maxRecDepth 100000 in
theorem vturned_ok0 {x s c n y0 y1 y2 y3 y4 y5 y6 y7 y8 : Nat} {k : Int} (C1 : Hid (∀ w, Calls Try.prog 89 #[.int .i64 0] w fun e w' => e = .returned (.bool true) ∧ Below w.heap.size w w')) (C2 : Hid (∀ w, Calls Try.prog 43 #[.float .f64 x] w fun e w' => e = .returned (.tuple #[.float .f64 s, .float .f64 c, .int .i64 0]) ∧ Below w.heap.size w w')) (N : ∀ w, (Op.unary .neg (.float .f64 s)).run Try.prog w = .ok (.float .f64 n) w) (C3 : Hid (∀ w, Calls Try.prog 90 #[.agg #[.float .f64 4607182418800017408, .float .f64 0, .float .f64 0, .float .f64 0, .float .f64 c, .float .f64 n, .float .f64 0, .float .f64 s, .float .f64 c]] w fun e w' => e = .returned (.tuple #[.agg #[.float .f64 y0, .float .f64 y1, .float .f64 y2, .float .f64 y3, .float .f64 y4, .float .f64 y5, .float .f64 y6, .float .f64 y7, .float .f64 y8], .int .i64 k]) ∧ Below w.heap.size w w')) (w : World) : Calls Try.prog 71 #[.int .i64 0, .float .f64 x] w fun e w' => e = .returned (.tuple #[.agg #[.float .f64 y0, .float .f64 y1, .float .f64 y2, .float .f64 y3, .float .f64 y4, .float .f64 y5, .float .f64 y6, .float .f64 y7, .float .f64 y8], .int .i64 k]) ∧ Below w.heap.size w w' := by
  have K0 := kw1 w 79 [0, 0, 0, 0, 0, 0, 0, 0, 0]
  simp only [objW, List.map_cons, List.map_nil] at K0
  have hst := @fstore
  replace K0 := Lib.hid K0
  go_enter Try.func71, Try.ntmps71
  go_wp2_with fail
  have K := K0.out
  clear K0
  generalize w.alloc _ = wr at *
  refine (C1.out wr).mono ?_
  rintro _ v1 ⟨rfl, hb⟩
  replace K := K.on hb
  clear hb
  replace K := Lib.hid K
  go_wp2_with fail
  replace K := K.out
  refine (C2.out v1).mono ?_
  rintro _ v2 ⟨rfl, hb⟩
  replace K := K.on hb
  clear hb
  replace K := Lib.hid K
  go_wp2_with fail
  replace K := K.out
  refine (C3.out _).mono ?_
  rintro _ v3 ⟨rfl, hb⟩
  have K := (K.new 79 [4607182418800017408, 0, 0, 0, c, n, 0, s, c]).on hb
  simp only [List.cons_append, List.nil_append] at K
  clear hb C1 C2 C3 N
  have c0_0 := (K.at_ 0 rfl).at_ 0 _ rfl
  have f0_0 := (K.at_ 0 rfl).fr 0 _ rfl
  have c0_1 := (K.at_ 0 rfl).at_ 1 _ rfl
  have f0_1 := (K.at_ 0 rfl).fr 1 _ rfl
  have c0_2 := (K.at_ 0 rfl).at_ 2 _ rfl
  have f0_2 := (K.at_ 0 rfl).fr 2 _ rfl
  have c0_3 := (K.at_ 0 rfl).at_ 3 _ rfl
  have f0_3 := (K.at_ 0 rfl).fr 3 _ rfl
  have c0_4 := (K.at_ 0 rfl).at_ 4 _ rfl
  have f0_4 := (K.at_ 0 rfl).fr 4 _ rfl
  have c0_5 := (K.at_ 0 rfl).at_ 5 _ rfl
  have f0_5 := (K.at_ 0 rfl).fr 5 _ rfl
  have c0_6 := (K.at_ 0 rfl).at_ 6 _ rfl
  have f0_6 := (K.at_ 0 rfl).fr 6 _ rfl
  have c0_7 := (K.at_ 0 rfl).at_ 7 _ rfl
  have f0_7 := (K.at_ 0 rfl).fr 7 _ rfl
  have c0_8 := (K.at_ 0 rfl).at_ 8 _ rfl
  have f0_8 := (K.at_ 0 rfl).fr 8 _ rfl
  replace K := Lib.hid K
  go_wp2_with fail
  replace K := K.out
  (try simp only [Exit.vnBlock, Exit.then])
  refine bodyPost_ret (v := .tuple #[.agg #[.float .f64 y0, .float .f64 y1, .float .f64 y2, .float .f64 y3, .float .f64 y4, .float .f64 y5, .float .f64 y6, .float .f64 y7, .float .f64 y8], .int .i64 k]) ?_ rfl ⟨rfl, ?_⟩
  · rw [results_cell_tmp rfl]; go_simp
  · exact (((((((((K.old).setCell (by first | exact Nat.le_refl _ | (dsimp only; omega)) _).setCell (by first | exact Nat.le_refl _ | (dsimp only; omega)) _).setCell (by first | exact Nat.le_refl _ | (dsimp only; omega)) _).setCell (by first | exact Nat.le_refl _ | (dsimp only; omega)) _).setCell (by first | exact Nat.le_refl _ | (dsimp only; omega)) _).setCell (by first | exact Nat.le_refl _ | (dsimp only; omega)) _).setCell (by first | exact Nat.le_refl _ | (dsimp only; omega)) _).setCell (by first | exact Nat.le_refl _ | (dsimp only; omega)) _).setCell (by first | exact Nat.le_refl _ | (dsimp only; omega)) _
set_option maxHeartbeats 4000000 in
set_option maxRecDepth 100000 in
theorem vturned_ok1 {x s c n y0 y1 y2 y3 y4 y5 y6 y7 y8 : Nat} {k : Int} (C1 : Hid (∀ w, Calls Try.prog 89 #[.int .i64 1] w fun e w' => e = .returned (.bool true) ∧ Below w.heap.size w w')) (C2 : Hid (∀ w, Calls Try.prog 43 #[.float .f64 x] w fun e w' => e = .returned (.tuple #[.float .f64 s, .float .f64 c, .int .i64 0]) ∧ Below w.heap.size w w')) (N : ∀ w, (Op.unary .neg (.float .f64 s)).run Try.prog w = .ok (.float .f64 n) w) (C3 : Hid (∀ w, Calls Try.prog 90 #[.agg #[.float .f64 c, .float .f64 0, .float .f64 s, .float .f64 0, .float .f64 4607182418800017408, .float .f64 0, .float .f64 n, .float .f64 0, .float .f64 c]] w fun e w' => e = .returned (.tuple #[.agg #[.float .f64 y0, .float .f64 y1, .float .f64 y2, .float .f64 y3, .float .f64 y4, .float .f64 y5, .float .f64 y6, .float .f64 y7, .float .f64 y8], .int .i64 k]) ∧ Below w.heap.size w w')) (w : World) : Calls Try.prog 71 #[.int .i64 1, .float .f64 x] w fun e w' => e = .returned (.tuple #[.agg #[.float .f64 y0, .float .f64 y1, .float .f64 y2, .float .f64 y3, .float .f64 y4, .float .f64 y5, .float .f64 y6, .float .f64 y7, .float .f64 y8], .int .i64 k]) ∧ Below w.heap.size w w' := by
  have K0 := kw1 w 79 [0, 0, 0, 0, 0, 0, 0, 0, 0]
  simp only [objW, List.map_cons, List.map_nil] at K0
  have hst := @fstore
  replace K0 := Lib.hid K0
  go_enter Try.func71, Try.ntmps71
  go_wp2_with fail
  have K := K0.out
  clear K0
  generalize w.alloc _ = wr at *
  refine (C1.out wr).mono ?_
  rintro _ v1 ⟨rfl, hb⟩
  replace K := K.on hb
  clear hb
  replace K := Lib.hid K
  go_wp2_with fail
  replace K := K.out
  refine (C2.out v1).mono ?_
  rintro _ v2 ⟨rfl, hb⟩
  replace K := K.on hb
  clear hb
  replace K := Lib.hid K
  go_wp2_with fail
  replace K := K.out
  refine (C3.out _).mono ?_
  rintro _ v3 ⟨rfl, hb⟩
  have K := (K.new 79 [c, 0, s, 0, 4607182418800017408, 0, n, 0, c]).on hb
  simp only [List.cons_append, List.nil_append] at K
  clear hb C1 C2 C3 N
  have c0_0 := (K.at_ 0 rfl).at_ 0 _ rfl
  have f0_0 := (K.at_ 0 rfl).fr 0 _ rfl
  have c0_1 := (K.at_ 0 rfl).at_ 1 _ rfl
  have f0_1 := (K.at_ 0 rfl).fr 1 _ rfl
  have c0_2 := (K.at_ 0 rfl).at_ 2 _ rfl
  have f0_2 := (K.at_ 0 rfl).fr 2 _ rfl
  have c0_3 := (K.at_ 0 rfl).at_ 3 _ rfl
  have f0_3 := (K.at_ 0 rfl).fr 3 _ rfl
  have c0_4 := (K.at_ 0 rfl).at_ 4 _ rfl
  have f0_4 := (K.at_ 0 rfl).fr 4 _ rfl
  have c0_5 := (K.at_ 0 rfl).at_ 5 _ rfl
  have f0_5 := (K.at_ 0 rfl).fr 5 _ rfl
  have c0_6 := (K.at_ 0 rfl).at_ 6 _ rfl
  have f0_6 := (K.at_ 0 rfl).fr 6 _ rfl
  have c0_7 := (K.at_ 0 rfl).at_ 7 _ rfl
  have f0_7 := (K.at_ 0 rfl).fr 7 _ rfl
  have c0_8 := (K.at_ 0 rfl).at_ 8 _ rfl
  have f0_8 := (K.at_ 0 rfl).fr 8 _ rfl
  replace K := Lib.hid K
  go_wp2_with fail
  replace K := K.out
  (try simp only [Exit.vnBlock, Exit.then])
  refine bodyPost_ret (v := .tuple #[.agg #[.float .f64 y0, .float .f64 y1, .float .f64 y2, .float .f64 y3, .float .f64 y4, .float .f64 y5, .float .f64 y6, .float .f64 y7, .float .f64 y8], .int .i64 k]) ?_ rfl ⟨rfl, ?_⟩
  · rw [results_cell_tmp rfl]; go_simp
  · exact (((((((((K.old).setCell (by first | exact Nat.le_refl _ | (dsimp only; omega)) _).setCell (by first | exact Nat.le_refl _ | (dsimp only; omega)) _).setCell (by first | exact Nat.le_refl _ | (dsimp only; omega)) _).setCell (by first | exact Nat.le_refl _ | (dsimp only; omega)) _).setCell (by first | exact Nat.le_refl _ | (dsimp only; omega)) _).setCell (by first | exact Nat.le_refl _ | (dsimp only; omega)) _).setCell (by first | exact Nat.le_refl _ | (dsimp only; omega)) _).setCell (by first | exact Nat.le_refl _ | (dsimp only; omega)) _).setCell (by first | exact Nat.le_refl _ | (dsimp only; omega)) _
set_option maxHeartbeats 4000000 in
set_option maxRecDepth 100000 in
theorem vturned_ok2 {x s c n y0 y1 y2 y3 y4 y5 y6 y7 y8 : Nat} {k : Int} (C1 : Hid (∀ w, Calls Try.prog 89 #[.int .i64 2] w fun e w' => e = .returned (.bool true) ∧ Below w.heap.size w w')) (C2 : Hid (∀ w, Calls Try.prog 43 #[.float .f64 x] w fun e w' => e = .returned (.tuple #[.float .f64 s, .float .f64 c, .int .i64 0]) ∧ Below w.heap.size w w')) (N : ∀ w, (Op.unary .neg (.float .f64 s)).run Try.prog w = .ok (.float .f64 n) w) (C3 : Hid (∀ w, Calls Try.prog 90 #[.agg #[.float .f64 c, .float .f64 n, .float .f64 0, .float .f64 s, .float .f64 c, .float .f64 0, .float .f64 0, .float .f64 0, .float .f64 4607182418800017408]] w fun e w' => e = .returned (.tuple #[.agg #[.float .f64 y0, .float .f64 y1, .float .f64 y2, .float .f64 y3, .float .f64 y4, .float .f64 y5, .float .f64 y6, .float .f64 y7, .float .f64 y8], .int .i64 k]) ∧ Below w.heap.size w w')) (w : World) : Calls Try.prog 71 #[.int .i64 2, .float .f64 x] w fun e w' => e = .returned (.tuple #[.agg #[.float .f64 y0, .float .f64 y1, .float .f64 y2, .float .f64 y3, .float .f64 y4, .float .f64 y5, .float .f64 y6, .float .f64 y7, .float .f64 y8], .int .i64 k]) ∧ Below w.heap.size w w' := by
  have K0 := kw1 w 79 [0, 0, 0, 0, 0, 0, 0, 0, 0]
  simp only [objW, List.map_cons, List.map_nil] at K0
  have hst := @fstore
  replace K0 := Lib.hid K0
  go_enter Try.func71, Try.ntmps71
  go_wp2_with fail
  have K := K0.out
  clear K0
  generalize w.alloc _ = wr at *
  refine (C1.out wr).mono ?_
  rintro _ v1 ⟨rfl, hb⟩
  replace K := K.on hb
  clear hb
  replace K := Lib.hid K
  go_wp2_with fail
  replace K := K.out
  refine (C2.out v1).mono ?_
  rintro _ v2 ⟨rfl, hb⟩
  replace K := K.on hb
  clear hb
  replace K := Lib.hid K
  go_wp2_with fail
  replace K := K.out
  refine (C3.out _).mono ?_
  rintro _ v3 ⟨rfl, hb⟩
  have K := (K.new 79 [c, n, 0, s, c, 0, 0, 0, 4607182418800017408]).on hb
  simp only [List.cons_append, List.nil_append] at K
  clear hb C1 C2 C3 N
  have c0_0 := (K.at_ 0 rfl).at_ 0 _ rfl
  have f0_0 := (K.at_ 0 rfl).fr 0 _ rfl
  have c0_1 := (K.at_ 0 rfl).at_ 1 _ rfl
  have f0_1 := (K.at_ 0 rfl).fr 1 _ rfl
  have c0_2 := (K.at_ 0 rfl).at_ 2 _ rfl
  have f0_2 := (K.at_ 0 rfl).fr 2 _ rfl
  have c0_3 := (K.at_ 0 rfl).at_ 3 _ rfl
  have f0_3 := (K.at_ 0 rfl).fr 3 _ rfl
  have c0_4 := (K.at_ 0 rfl).at_ 4 _ rfl
  have f0_4 := (K.at_ 0 rfl).fr 4 _ rfl
  have c0_5 := (K.at_ 0 rfl).at_ 5 _ rfl
  have f0_5 := (K.at_ 0 rfl).fr 5 _ rfl
  have c0_6 := (K.at_ 0 rfl).at_ 6 _ rfl
  have f0_6 := (K.at_ 0 rfl).fr 6 _ rfl
  have c0_7 := (K.at_ 0 rfl).at_ 7 _ rfl
  have f0_7 := (K.at_ 0 rfl).fr 7 _ rfl
  have c0_8 := (K.at_ 0 rfl).at_ 8 _ rfl
  have f0_8 := (K.at_ 0 rfl).fr 8 _ rfl
  replace K := Lib.hid K
  go_wp2_with fail
  replace K := K.out
  (try simp only [Exit.vnBlock, Exit.then])
  refine bodyPost_ret (v := .tuple #[.agg #[.float .f64 y0, .float .f64 y1, .float .f64 y2, .float .f64 y3, .float .f64 y4, .float .f64 y5, .float .f64 y6, .float .f64 y7, .float .f64 y8], .int .i64 k]) ?_ rfl ⟨rfl, ?_⟩
  · rw [results_cell_tmp rfl]; go_simp
  · exact (((((((((K.old).setCell (by first | exact Nat.le_refl _ | (dsimp only; omega)) _).setCell (by first | exact Nat.le_refl _ | (dsimp only; omega)) _).setCell (by first | exact Nat.le_refl _ | (dsimp only; omega)) _).setCell (by first | exact Nat.le_refl _ | (dsimp only; omega)) _).setCell (by first | exact Nat.le_refl _ | (dsimp only; omega)) _).setCell (by first | exact Nat.le_refl _ | (dsimp only; omega)) _).setCell (by first | exact Nat.le_refl _ | (dsimp only; omega)) _).setCell (by first | exact Nat.le_refl _ | (dsimp only; omega)) _).setCell (by first | exact Nat.le_refl _ | (dsimp only; omega)) _
end Go.Proofs.Ytkpdnhbifokhlaa
