/- Proved here: what the texts Vop prove, one behind the other. -/
import Derived.Test.YtpdkciennccckaaJv1
import Derived.Test.YtpdkciennccckaaJb2

namespace Go.Proofs.Ytpdkciennccckaa
open Go.ChangeShapes Go.WideShapes Go.ChangeAt Go.RowKit Ieee.Own

set_option maxHeartbeats 4000000 in
set_option maxRecDepth 100000 in
theorem vnorm_ok {a1 a2 a3 d z : Nat} (C0 : Hid (∀ w, Calls Try.prog 11 #[.agg #[.float .f64 a1, .float .f64 a2, .float .f64 a3]] w fun e w' => e = .returned (.bool true) ∧ Below w.heap.size w w')) (C1 : Hid (∀ w, Calls Try.prog 58 #[.agg #[.float .f64 a1, .float .f64 a2, .float .f64 a3], .agg #[.float .f64 a1, .float .f64 a2, .float .f64 a3]] w fun e w' => e = .returned (.float .f64 d) ∧ Below w.heap.size w w')) (S : ∀ w, Calls Try.prog 60 #[.float .f64 d] w fun e w' => e = .returned (.float .f64 z) ∧ w = w') (w : World) : Calls Try.prog 24 #[.agg #[.float .f64 a1, .float .f64 a2, .float .f64 a3]] w fun e w' => e = .returned (.tuple #[.float .f64 z, .int .i64 0]) ∧ Below w.heap.size w w' := by
  have K0 := kw1 w 24 [a1, a2, a3]
  simp only [objW, List.map_cons, List.map_nil] at K0
  have hst := @fstore
  replace K0 := Lib.hid K0
  go_enter Try.func24, Try.ntmps24
  go_wp2_with fail
  have K := K0.out
  clear K0
  generalize w.alloc _ = wr at *
  refine (C0.out wr).mono ?_
  rintro _ v1 ⟨rfl, hb⟩
  replace K := K.on hb
  clear hb
  have c0_0 := (K.at_ 0 rfl).at_ 0 _ rfl
  have c0_1 := (K.at_ 0 rfl).at_ 1 _ rfl
  have c0_2 := (K.at_ 0 rfl).at_ 2 _ rfl
  replace K := Lib.hid K
  go_wp2_with fail
  replace K := K.out
  refine (C1.out v1).mono ?_
  rintro _ v2 ⟨rfl, hb⟩
  clear c0_0 c0_1 c0_2
  replace K := K.on hb
  clear hb
  replace K := Lib.hid K
  go_wp2_with (go_at_call 60; ((with_reducible refine (S _).mono ?_); rintro e w' ⟨rfl, rfl⟩))
  replace K := K.out
  go_ret2
  exact ⟨rfl, K.old⟩
set_option maxHeartbeats 4000000 in
set_option maxRecDepth 100000 in
theorem vnorm_no {a1 a2 a3 : Nat} (C0 : Hid (∀ w, Calls Try.prog 11 #[.agg #[.float .f64 a1, .float .f64 a2, .float .f64 a3]] w fun e w' => e = .returned (.bool false) ∧ Below w.heap.size w w')) (w : World) : Calls Try.prog 24 #[.agg #[.float .f64 a1, .float .f64 a2, .float .f64 a3]] w fun e w' => e = .returned (.tuple #[.float .f64 0, .int .i64 3]) ∧ Below w.heap.size w w' := by
  have K0 := kw1 w 24 [a1, a2, a3]
  simp only [objW, List.map_cons, List.map_nil] at K0
  have hst := @fstore
  replace K0 := Lib.hid K0
  go_enter Try.func24, Try.ntmps24
  go_wp2_with fail
  have K := K0.out
  clear K0
  generalize w.alloc _ = wr at *
  refine (C0.out wr).mono ?_
  rintro _ v1 ⟨rfl, hb⟩
  replace K := K.on hb
  clear hb
  replace K := Lib.hid K
  go_wp2_with fail
  replace K := K.out
  go_ret2
  exact ⟨rfl, K.old⟩
set_option maxHeartbeats 4000000 in
set_option maxRecDepth 100000 in
theorem vunit_ok {a1 a2 a3 u1 u2 u3 q1 q2 q3 n : Nat} {k : Int} (C0 : Hid (∀ w, Calls Try.prog 24 #[.agg #[.float .f64 a1, .float .f64 a2, .float .f64 a3]] w fun e w' => e = .returned (.tuple #[.float .f64 n, .int .i64 0]) ∧ Below w.heap.size w w')) (t0 : (FloatKind.f64.format.order n 0 == some Ordering.eq) = false) (r1 : (∀ t w, (binOp .quo t (.float .f64 a1) (.float .f64 n)).run Try.prog w = .ok (.float .f64 u1) w)) (r2 : (∀ t w, (binOp .quo t (.float .f64 a2) (.float .f64 n)).run Try.prog w = .ok (.float .f64 u2) w)) (r3 : (∀ t w, (binOp .quo t (.float .f64 a3) (.float .f64 n)).run Try.prog w = .ok (.float .f64 u3) w)) (C1 : Hid (∀ w, Calls Try.prog 54 #[.agg #[.float .f64 u1, .float .f64 u2, .float .f64 u3]] w fun e w' => e = .returned (.tuple #[.agg #[.float .f64 q1, .float .f64 q2, .float .f64 q3], .int .i64 k]) ∧ Below w.heap.size w w')) (w : World) : Calls Try.prog 20 #[.agg #[.float .f64 a1, .float .f64 a2, .float .f64 a3]] w fun e w' => e = .returned (.tuple #[.agg #[.float .f64 q1, .float .f64 q2, .float .f64 q3], .int .i64 k]) ∧ Below w.heap.size w w' := by
  have K0 := kw2 w 24 24 [a1, a2, a3] [0, 0, 0]
  simp only [objW, List.map_cons, List.map_nil] at K0
  have hst := @fstore
  replace K0 := Lib.hid K0
  go_enter Try.func20, Try.ntmps20
  go_wp2_with fail
  have K := K0.out
  clear K0
  generalize (w.alloc _).alloc _ = wr at *
  refine (C0.out wr).mono ?_
  rintro _ v1 ⟨rfl, hb⟩
  replace K := K.on hb
  clear hb
  have c0_0 := (K.at_ 0 rfl).at_ 0 _ rfl
  have c0_1 := (K.at_ 0 rfl).at_ 1 _ rfl
  have c0_2 := (K.at_ 0 rfl).at_ 2 _ rfl
  replace K := Lib.hid K
  go_wp2_with fail
  replace K := K.out
  refine (C1.out v1).mono ?_
  rintro _ v2 ⟨rfl, hb⟩
  clear c0_0 c0_1 c0_2
  replace K := K.on hb
  clear hb
  have c1_0 := (K.at_ 1 rfl).at_ 0 _ rfl
  have f1_0 := (K.at_ 1 rfl).fr 0 _ rfl
  have c1_1 := (K.at_ 1 rfl).at_ 1 _ rfl
  have f1_1 := (K.at_ 1 rfl).fr 1 _ rfl
  have c1_2 := (K.at_ 1 rfl).at_ 2 _ rfl
  have f1_2 := (K.at_ 1 rfl).fr 2 _ rfl
  replace K := Lib.hid K
  go_wp2_with fail
  replace K := K.out
  (try simp only [Exit.vnBlock, Exit.then])
  refine bodyPost_ret (v := .tuple #[.agg #[.float .f64 q1, .float .f64 q2, .float .f64 q3], .int .i64 k]) ?_ rfl ⟨rfl, ?_⟩
  · rw [results_cell_tmp rfl]; go_simp
  · exact (((K.old).setCell (by first | exact Nat.le_refl _ | (dsimp only; omega)) _).setCell (by first | exact Nat.le_refl _ | (dsimp only; omega)) _).setCell (by first | exact Nat.le_refl _ | (dsimp only; omega)) _
set_option maxHeartbeats 4000000 in
set_option maxRecDepth 100000 in
theorem vunit_zero {a1 a2 a3 n : Nat} (C0 : Hid (∀ w, Calls Try.prog 24 #[.agg #[.float .f64 a1, .float .f64 a2, .float .f64 a3]] w fun e w' => e = .returned (.tuple #[.float .f64 n, .int .i64 0]) ∧ Below w.heap.size w w')) (t0 : (FloatKind.f64.format.order n 0 == some Ordering.eq) = true) (w : World) : Calls Try.prog 20 #[.agg #[.float .f64 a1, .float .f64 a2, .float .f64 a3]] w fun e w' => e = .returned (.tuple #[.agg #[.float .f64 0, .float .f64 0, .float .f64 0], .int .i64 4]) ∧ Below w.heap.size w w' := by
  have K0 := kw2 w 24 24 [a1, a2, a3] [0, 0, 0]
  simp only [objW, List.map_cons, List.map_nil] at K0
  have hst := @fstore
  replace K0 := Lib.hid K0
  go_enter Try.func20, Try.ntmps20
  go_wp2_with fail
  have K := K0.out
  clear K0
  generalize (w.alloc _).alloc _ = wr at *
  refine (C0.out wr).mono ?_
  rintro _ v1 ⟨rfl, hb⟩
  replace K := K.on hb
  clear hb
  have c1_0 := (K.at_ 1 rfl).at_ 0 _ rfl
  have f1_0 := (K.at_ 1 rfl).fr 0 _ rfl
  have c1_1 := (K.at_ 1 rfl).at_ 1 _ rfl
  have f1_1 := (K.at_ 1 rfl).fr 1 _ rfl
  have c1_2 := (K.at_ 1 rfl).at_ 2 _ rfl
  have f1_2 := (K.at_ 1 rfl).fr 2 _ rfl
  replace K := Lib.hid K
  go_wp2_with fail
  replace K := K.out
  (try simp only [Exit.vnBlock, Exit.then])
  refine bodyPost_ret (v := .tuple #[.agg #[.float .f64 0, .float .f64 0, .float .f64 0], .int .i64 4]) ?_ rfl ⟨rfl, ?_⟩
  · rw [results_cell_tmp rfl]; go_simp
  · exact (((K.old).setCell (by first | exact Nat.le_refl _ | (dsimp only; omega)) _).setCell (by first | exact Nat.le_refl _ | (dsimp only; omega)) _).setCell (by first | exact Nat.le_refl _ | (dsimp only; omega)) _
set_option maxHeartbeats 4000000 in
set_option maxRecDepth 100000 in
theorem vunit_no {a1 a2 a3 n : Nat} {k : Int} (t : (k != 0) = true) (C0 : Hid (∀ w, Calls Try.prog 24 #[.agg #[.float .f64 a1, .float .f64 a2, .float .f64 a3]] w fun e w' => e = .returned (.tuple #[.float .f64 n, .int .i64 k]) ∧ Below w.heap.size w w')) (w : World) : Calls Try.prog 20 #[.agg #[.float .f64 a1, .float .f64 a2, .float .f64 a3]] w fun e w' => e = .returned (.tuple #[.agg #[.float .f64 0, .float .f64 0, .float .f64 0], .int .i64 k]) ∧ Below w.heap.size w w' := by
  have K0 := kw2 w 24 24 [a1, a2, a3] [0, 0, 0]
  simp only [objW, List.map_cons, List.map_nil] at K0
  have hst := @fstore
  replace K0 := Lib.hid K0
  go_enter Try.func20, Try.ntmps20
  go_wp2_with fail
  have K := K0.out
  clear K0
  generalize (w.alloc _).alloc _ = wr at *
  refine (C0.out wr).mono ?_
  rintro _ v1 ⟨rfl, hb⟩
  replace K := K.on hb
  clear hb
  have c1_0 := (K.at_ 1 rfl).at_ 0 _ rfl
  have f1_0 := (K.at_ 1 rfl).fr 0 _ rfl
  have c1_1 := (K.at_ 1 rfl).at_ 1 _ rfl
  have f1_1 := (K.at_ 1 rfl).fr 1 _ rfl
  have c1_2 := (K.at_ 1 rfl).at_ 2 _ rfl
  have f1_2 := (K.at_ 1 rfl).fr 2 _ rfl
  replace K := Lib.hid K
  go_wp2_with fail
  replace K := K.out
  (try simp only [Exit.vnBlock, Exit.then])
  refine bodyPost_ret (v := .tuple #[.agg #[.float .f64 0, .float .f64 0, .float .f64 0], .int .i64 k]) ?_ rfl ⟨rfl, ?_⟩
  · rw [results_cell_tmp rfl]; go_simp
  · exact (((K.old).setCell (by first | exact Nat.le_refl _ | (dsimp only; omega)) _).setCell (by first | exact Nat.le_refl _ | (dsimp only; omega)) _).setCell (by first | exact Nat.le_refl _ | (dsimp only; omega)) _
end Go.Proofs.Ytpdkciennccckaa
