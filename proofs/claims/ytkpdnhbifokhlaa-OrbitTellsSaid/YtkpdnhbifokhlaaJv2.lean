/- Proved here: what the texts Vop prove, one behind the other. -/
import Derived.Test.YtkpdnhbifokhlaaJv1
import Derived.Test.YtkpdnhbifokhlaaJb2

namespace Go.Proofs.Ytkpdnhbifokhlaa
open Go.ChangeShapes Go.WideShapes Go.ChangeAt Go.RowKit Ieee.Own

set_option maxHeartbeats 4000000 in
set_option maxRecDepth 100000 in
theorem rvnorm_ok {a1 a2 a3 d z : Nat} (C0 : Hid (∀ w, Calls Try.prog 49 #[.agg #[.float .f64 a1, .float .f64 a2, .float .f64 a3]] w fun e w' => e = .returned (.bool true) ∧ Below w.heap.size w w')) (C1 : Hid (∀ w, Calls Try.prog 50 #[.agg #[.float .f64 a1, .float .f64 a2, .float .f64 a3], .agg #[.float .f64 a1, .float .f64 a2, .float .f64 a3]] w fun e w' => e = .returned (.float .f64 d) ∧ Below w.heap.size w w')) (S : ∀ w, Calls Try.prog 44 #[.float .f64 d] w fun e w' => e = .returned (.float .f64 z) ∧ w = w') (w : World) : Calls Try.prog 21 #[.agg #[.float .f64 a1, .float .f64 a2, .float .f64 a3]] w fun e w' => e = .returned (.tuple #[.float .f64 z, .int .i64 0]) ∧ Below w.heap.size w w' := by
  have K0 := kw1 w 33 [a1, a2, a3]
  simp only [objW, List.map_cons, List.map_nil] at K0
  have hst := @fstore
  replace K0 := Lib.hid K0
  go_enter Try.func21, Try.ntmps21
  go_wp2_with fail
  have K := K0.out
  clear K0
  generalize w.alloc _ = wr at *
  refine (C0.out wr).mono ?_
  rintro _ v1 ⟨rfl, hb⟩
  replace K := K.on hb
  clear hb
  have c0_0 := (K.at_ 0 rfl).at_ 0 _ rfl
  have c0_1 := (K.at_ 0 rfl).at_ 1 _ rfl
  have c0_2 := (K.at_ 0 rfl).at_ 2 _ rfl
  replace K := Lib.hid K
  go_wp2_with fail
  replace K := K.out
  refine (C1.out v1).mono ?_
  rintro _ v2 ⟨rfl, hb⟩
  clear c0_0 c0_1 c0_2
  replace K := K.on hb
  clear hb
  replace K := Lib.hid K
  go_wp2_with (go_at_call 44; ((with_reducible refine (S _).mono ?_); rintro e w' ⟨rfl, rfl⟩))
  replace K := K.out
  go_ret2
  exact ⟨rfl, K.old⟩
set_option maxHeartbeats 4000000 in
set_option maxRecDepth 100000 in
theorem rvnorm_no {a1 a2 a3 : Nat} (C0 : Hid (∀ w, Calls Try.prog 49 #[.agg #[.float .f64 a1, .float .f64 a2, .float .f64 a3]] w fun e w' => e = .returned (.bool false) ∧ Below w.heap.size w w')) (w : World) : Calls Try.prog 21 #[.agg #[.float .f64 a1, .float .f64 a2, .float .f64 a3]] w fun e w' => e = .returned (.tuple #[.float .f64 0, .int .i64 3]) ∧ Below w.heap.size w w' := by
  have K0 := kw1 w 33 [a1, a2, a3]
  simp only [objW, List.map_cons, List.map_nil] at K0
  have hst := @fstore
  replace K0 := Lib.hid K0
  go_enter Try.func21, Try.ntmps21
  go_wp2_with fail
  have K := K0.out
  clear K0
  generalize w.alloc _ = wr at *
  refine (C0.out wr).mono ?_
  rintro _ v1 ⟨rfl, hb⟩
  replace K := K.on hb
  clear hb
  replace K := Lib.hid K
  go_wp2_with fail
  replace K := K.out
  go_ret2
  exact ⟨rfl, K.old⟩
set_option maxHeartbeats 4000000 in
set_option maxRecDepth 100000 in
theorem samevec_run (a1 a2 a3 : Nat) (w : World) : Calls Try.prog 18 #[.agg #[.float .f64 a1, .float .f64 a2, .float .f64 a3], .agg #[.float .f64 a1, .float .f64 a2, .float .f64 a3]] w fun e w' => e = .returned (.bool true) ∧ Below w.heap.size w w' := by
  go_enter Try.func18, Try.ntmps18
  go_wp2_with (go_at_call 13; ((with_reducible refine (same_run _ _ rfl _).mono ?_); rintro e w' ⟨rfl, rfl⟩))
  go_ret
  exact ⟨rfl, ((Below.refl _ w).alloc (Nat.le_refl _) _).alloc (by simp) _⟩
end Go.Proofs.Ytkpdnhbifokhlaa
