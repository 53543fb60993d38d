/- Proved here: what the reference's From answers: the instant of a date, or the error, over the translated code. -/
import Derived.Test.YtppggaibhfajjaaDaf
namespace Go.Proofs.Ytppggaibhfajjaa
open Go.ChangeShapes Go.WideShapes Go.ChangeAt Go.RowKit

set_option maxHeartbeats 1000000 in
set_option maxRecDepth 100000 in
theorem rfrom_a0 {y m d h i s k : Int}  (t0 : decide (y < -50000) = true) (w : World) :
    Calls Try.prog 15 #[dAgg y m d h i s k] w fun e w' => e = .returned (.tuple #[.int .i64 0, .int .i64 80]) ∧ Below w.heap.size w w' := by
  have B1 := Lib.hid (date_block w y m d h i s k)
  unfold dAgg at *
  go_enter Try.func15, Try.ntmps15
  go_wp2_with fail
  go_ret2
  exact ⟨rfl, B1.out⟩
set_option maxHeartbeats 1000000 in
set_option maxRecDepth 100000 in
theorem rfrom_a1 {y m d h i s k : Int} (t0 : decide (y < -50000) = false) (t1 : decide (50000 < y) = true) (w : World) :
    Calls Try.prog 15 #[dAgg y m d h i s k] w fun e w' => e = .returned (.tuple #[.int .i64 0, .int .i64 80]) ∧ Below w.heap.size w w' := by
  have B1 := Lib.hid (date_block w y m d h i s k)
  unfold dAgg at *
  go_enter Try.func15, Try.ntmps15
  go_wp2_with fail
  go_ret2
  exact ⟨rfl, B1.out⟩
set_option maxHeartbeats 1000000 in
set_option maxRecDepth 100000 in
theorem rfrom_a2 {y m d h i s k : Int} (t0 : decide (y < -50000) = false) (t1 : decide (50000 < y) = false) (t2 : decide (m < 1) = true) (w : World) :
    Calls Try.prog 15 #[dAgg y m d h i s k] w fun e w' => e = .returned (.tuple #[.int .i64 0, .int .i64 80]) ∧ Below w.heap.size w w' := by
  have B1 := Lib.hid (date_block w y m d h i s k)
  unfold dAgg at *
  go_enter Try.func15, Try.ntmps15
  go_wp2_with fail
  go_ret2
  exact ⟨rfl, B1.out⟩
set_option maxHeartbeats 1000000 in
set_option maxRecDepth 100000 in
theorem rfrom_a3 {y m d h i s k : Int} (t0 : decide (y < -50000) = false) (t1 : decide (50000 < y) = false) (t2 : decide (m < 1) = false) (t3 : decide (14 < m) = true) (w : World) :
    Calls Try.prog 15 #[dAgg y m d h i s k] w fun e w' => e = .returned (.tuple #[.int .i64 0, .int .i64 80]) ∧ Below w.heap.size w w' := by
  have B1 := Lib.hid (date_block w y m d h i s k)
  unfold dAgg at *
  go_enter Try.func15, Try.ntmps15
  go_wp2_with fail
  go_ret2
  exact ⟨rfl, B1.out⟩
set_option maxHeartbeats 1000000 in
set_option maxRecDepth 100000 in
theorem rfrom_a4 {y m d h i s k : Int} (t0 : decide (y < -50000) = false) (t1 : decide (50000 < y) = false) (t2 : decide (m < 1) = false) (t3 : decide (14 < m) = false) (t4 : decide (d < 1) = true) (w : World) :
    Calls Try.prog 15 #[dAgg y m d h i s k] w fun e w' => e = .returned (.tuple #[.int .i64 0, .int .i64 80]) ∧ Below w.heap.size w w' := by
  have B1 := Lib.hid (date_block w y m d h i s k)
  unfold dAgg at *
  go_enter Try.func15, Try.ntmps15
  go_wp2_with fail
  go_ret2
  exact ⟨rfl, B1.out⟩
set_option maxHeartbeats 1000000 in
set_option maxRecDepth 100000 in
theorem rfrom_a5 {y m d h i s k : Int} (t0 : decide (y < -50000) = false) (t1 : decide (50000 < y) = false) (t2 : decide (m < 1) = false) (t3 : decide (14 < m) = false) (t4 : decide (d < 1) = false) (t5 : decide (28 < d) = true) (w : World) :
    Calls Try.prog 15 #[dAgg y m d h i s k] w fun e w' => e = .returned (.tuple #[.int .i64 0, .int .i64 80]) ∧ Below w.heap.size w w' := by
  have B1 := Lib.hid (date_block w y m d h i s k)
  unfold dAgg at *
  go_enter Try.func15, Try.ntmps15
  go_wp2_with fail
  go_ret2
  exact ⟨rfl, B1.out⟩
set_option maxHeartbeats 1000000 in
set_option maxRecDepth 100000 in
theorem rfrom_b {y m d h i s k : Int} (t0 : decide (y < -50000) = false) (t1 : decide (50000 < y) = false) (t2 : decide (m < 1) = false) (t3 : decide (14 < m) = false) (t4 : decide (d < 1) = false) (t5 : decide (28 < d) = false) (hm : m = 14) (hd : mLen y 14 < d) (w : World) :
    Calls Try.prog 15 #[dAgg y m d h i s k] w fun e w' => e = .returned (.tuple #[.int .i64 0, .int .i64 80]) ∧ Below w.heap.size w w' := by
  subst hm
  have B1 := Lib.hid (date_block w y 14 d h i s k)
  have L := fun w => rlong_run y w
  unfold mLen at hd
  rw [if_neg (by decide)] at hd
  unfold dAgg at *
  cases hl : lng y with
  | true =>
    rw [hl] at L hd
    rw [if_pos rfl] at hd
    have g : decide (2 < d) = true := decide_eq_true hd
    clear hl hd
    go_enter Try.func15, Try.ntmps15
    go_wp2_with ((go_at_call 11; ((with_reducible refine (L _).mono ?_); rintro e w' ⟨rfl, ⟨n, rfl⟩⟩)))
    go_ret2
    exact ⟨rfl, bl_drewN B1.out _⟩
  | false =>
    rw [hl] at L hd
    rw [if_neg (by decide)] at hd
    have g : decide (1 < d) = true := decide_eq_true hd
    clear hl hd
    go_enter Try.func15, Try.ntmps15
    go_wp2_with ((go_at_call 11; ((with_reducible refine (L _).mono ?_); rintro e w' ⟨rfl, ⟨n, rfl⟩⟩)))
    go_ret2
    exact ⟨rfl, bl_drewN B1.out _⟩
/-- the last month's days do not refuse: the tests' facts -/
def DayOk (y m d : Int) : Prop := ((m == 14) = false) ∨ ((m == 14) = true ∧ ((lng y = true ∧ decide (2 < d) = false) ∨ (lng y = false ∧ decide (1 < d) = false)))
theorem dayOk_of {y m d : Int} (h : ¬ (m = 14 ∧ mLen y 14 < d)) : DayOk y m d := by
  by_cases hm : m = 14
  · right
    refine ⟨by rw [hm]; rfl, ?_⟩
    have hd : ¬ mLen y 14 < d := fun e => h ⟨hm, e⟩
    unfold mLen at hd
    rw [if_neg (by decide)] at hd
    cases hl : lng y with
    | true => rw [hl, if_pos rfl] at hd; exact .inl ⟨rfl, decide_eq_false hd⟩
    | false => rw [hl, if_neg (by decide)] at hd; exact .inr ⟨rfl, decide_eq_false hd⟩
  · left; simpa using hm
set_option maxHeartbeats 1000000 in
set_option maxRecDepth 100000 in
theorem rfrom_c0 {y m d h i s k : Int} (t0 : decide (y < -50000) = false) (t1 : decide (50000 < y) = false) (t2 : decide (m < 1) = false) (t3 : decide (14 < m) = false) (t4 : decide (d < 1) = false) (t5 : decide (28 < d) = false) (D : DayOk y m d)  (u0 : decide (h < 0) = true) (w : World) :
    Calls Try.prog 15 #[dAgg y m d h i s k] w fun e w' => e = .returned (.tuple #[.int .i64 0, .int .i64 80]) ∧ Below w.heap.size w w' := by
  have B1 := Lib.hid (date_block w y m d h i s k)
  have L := fun w => rlong_run y w
  unfold dAgg at *
  rcases D with D1 | ⟨D1, ⟨hl, D2⟩ | ⟨hl, D2⟩⟩
  · cases hl : lng y with
    | true =>
      rw [hl] at L
      clear hl
      go_enter Try.func15, Try.ntmps15
      go_wp2_with ((go_at_call 11; ((with_reducible refine (L _).mono ?_); rintro e w' ⟨rfl, ⟨n, rfl⟩⟩)))
      go_ret2
      exact ⟨rfl, bl_drewN B1.out _⟩
    | false =>
      rw [hl] at L
      clear hl
      go_enter Try.func15, Try.ntmps15
      go_wp2_with ((go_at_call 11; ((with_reducible refine (L _).mono ?_); rintro e w' ⟨rfl, ⟨n, rfl⟩⟩)))
      go_ret2
      exact ⟨rfl, bl_drewN B1.out _⟩
  · rw [hl] at L
    clear hl
    go_enter Try.func15, Try.ntmps15
    go_wp2_with ((go_at_call 11; ((with_reducible refine (L _).mono ?_); rintro e w' ⟨rfl, ⟨n, rfl⟩⟩)))
    go_ret2
    exact ⟨rfl, bl_drewN B1.out _⟩
  · rw [hl] at L
    clear hl
    go_enter Try.func15, Try.ntmps15
    go_wp2_with ((go_at_call 11; ((with_reducible refine (L _).mono ?_); rintro e w' ⟨rfl, ⟨n, rfl⟩⟩)))
    go_ret2
    exact ⟨rfl, bl_drewN B1.out _⟩
set_option maxHeartbeats 1000000 in
set_option maxRecDepth 100000 in
theorem rfrom_c1 {y m d h i s k : Int} (t0 : decide (y < -50000) = false) (t1 : decide (50000 < y) = false) (t2 : decide (m < 1) = false) (t3 : decide (14 < m) = false) (t4 : decide (d < 1) = false) (t5 : decide (28 < d) = false) (D : DayOk y m d) (u0 : decide (h < 0) = false) (u1 : decide (15 < h) = true) (w : World) :
    Calls Try.prog 15 #[dAgg y m d h i s k] w fun e w' => e = .returned (.tuple #[.int .i64 0, .int .i64 80]) ∧ Below w.heap.size w w' := by
  have B1 := Lib.hid (date_block w y m d h i s k)
  have L := fun w => rlong_run y w
  unfold dAgg at *
  rcases D with D1 | ⟨D1, ⟨hl, D2⟩ | ⟨hl, D2⟩⟩
  · cases hl : lng y with
    | true =>
      rw [hl] at L
      clear hl
      go_enter Try.func15, Try.ntmps15
      go_wp2_with ((go_at_call 11; ((with_reducible refine (L _).mono ?_); rintro e w' ⟨rfl, ⟨n, rfl⟩⟩)))
      go_ret2
      exact ⟨rfl, bl_drewN B1.out _⟩
    | false =>
      rw [hl] at L
      clear hl
      go_enter Try.func15, Try.ntmps15
      go_wp2_with ((go_at_call 11; ((with_reducible refine (L _).mono ?_); rintro e w' ⟨rfl, ⟨n, rfl⟩⟩)))
      go_ret2
      exact ⟨rfl, bl_drewN B1.out _⟩
  · rw [hl] at L
    clear hl
    go_enter Try.func15, Try.ntmps15
    go_wp2_with ((go_at_call 11; ((with_reducible refine (L _).mono ?_); rintro e w' ⟨rfl, ⟨n, rfl⟩⟩)))
    go_ret2
    exact ⟨rfl, bl_drewN B1.out _⟩
  · rw [hl] at L
    clear hl
    go_enter Try.func15, Try.ntmps15
    go_wp2_with ((go_at_call 11; ((with_reducible refine (L _).mono ?_); rintro e w' ⟨rfl, ⟨n, rfl⟩⟩)))
    go_ret2
    exact ⟨rfl, bl_drewN B1.out _⟩
set_option maxHeartbeats 1000000 in
set_option maxRecDepth 100000 in
theorem rfrom_c2 {y m d h i s k : Int} (t0 : decide (y < -50000) = false) (t1 : decide (50000 < y) = false) (t2 : decide (m < 1) = false) (t3 : decide (14 < m) = false) (t4 : decide (d < 1) = false) (t5 : decide (28 < d) = false) (D : DayOk y m d) (u0 : decide (h < 0) = false) (u1 : decide (15 < h) = false) (u2 : decide (i < 0) = true) (w : World) :
    Calls Try.prog 15 #[dAgg y m d h i s k] w fun e w' => e = .returned (.tuple #[.int .i64 0, .int .i64 80]) ∧ Below w.heap.size w w' := by
  have B1 := Lib.hid (date_block w y m d h i s k)
  have L := fun w => rlong_run y w
  unfold dAgg at *
  rcases D with D1 | ⟨D1, ⟨hl, D2⟩ | ⟨hl, D2⟩⟩
  · cases hl : lng y with
    | true =>
      rw [hl] at L
      clear hl
      go_enter Try.func15, Try.ntmps15
      go_wp2_with ((go_at_call 11; ((with_reducible refine (L _).mono ?_); rintro e w' ⟨rfl, ⟨n, rfl⟩⟩)))
      go_ret2
      exact ⟨rfl, bl_drewN B1.out _⟩
    | false =>
      rw [hl] at L
      clear hl
      go_enter Try.func15, Try.ntmps15
      go_wp2_with ((go_at_call 11; ((with_reducible refine (L _).mono ?_); rintro e w' ⟨rfl, ⟨n, rfl⟩⟩)))
      go_ret2
      exact ⟨rfl, bl_drewN B1.out _⟩
  · rw [hl] at L
    clear hl
    go_enter Try.func15, Try.ntmps15
    go_wp2_with ((go_at_call 11; ((with_reducible refine (L _).mono ?_); rintro e w' ⟨rfl, ⟨n, rfl⟩⟩)))
    go_ret2
    exact ⟨rfl, bl_drewN B1.out _⟩
  · rw [hl] at L
    clear hl
    go_enter Try.func15, Try.ntmps15
    go_wp2_with ((go_at_call 11; ((with_reducible refine (L _).mono ?_); rintro e w' ⟨rfl, ⟨n, rfl⟩⟩)))
    go_ret2
    exact ⟨rfl, bl_drewN B1.out _⟩
set_option maxHeartbeats 1000000 in
set_option maxRecDepth 100000 in
theorem rfrom_c3 {y m d h i s k : Int} (t0 : decide (y < -50000) = false) (t1 : decide (50000 < y) = false) (t2 : decide (m < 1) = false) (t3 : decide (14 < m) = false) (t4 : decide (d < 1) = false) (t5 : decide (28 < d) = false) (D : DayOk y m d) (u0 : decide (h < 0) = false) (u1 : decide (15 < h) = false) (u2 : decide (i < 0) = false) (u3 : decide (63 < i) = true) (w : World) :
    Calls Try.prog 15 #[dAgg y m d h i s k] w fun e w' => e = .returned (.tuple #[.int .i64 0, .int .i64 80]) ∧ Below w.heap.size w w' := by
  have B1 := Lib.hid (date_block w y m d h i s k)
  have L := fun w => rlong_run y w
  unfold dAgg at *
  rcases D with D1 | ⟨D1, ⟨hl, D2⟩ | ⟨hl, D2⟩⟩
  · cases hl : lng y with
    | true =>
      rw [hl] at L
      clear hl
      go_enter Try.func15, Try.ntmps15
      go_wp2_with ((go_at_call 11; ((with_reducible refine (L _).mono ?_); rintro e w' ⟨rfl, ⟨n, rfl⟩⟩)))
      go_ret2
      exact ⟨rfl, bl_drewN B1.out _⟩
    | false =>
      rw [hl] at L
      clear hl
      go_enter Try.func15, Try.ntmps15
      go_wp2_with ((go_at_call 11; ((with_reducible refine (L _).mono ?_); rintro e w' ⟨rfl, ⟨n, rfl⟩⟩)))
      go_ret2
      exact ⟨rfl, bl_drewN B1.out _⟩
  · rw [hl] at L
    clear hl
    go_enter Try.func15, Try.ntmps15
    go_wp2_with ((go_at_call 11; ((with_reducible refine (L _).mono ?_); rintro e w' ⟨rfl, ⟨n, rfl⟩⟩)))
    go_ret2
    exact ⟨rfl, bl_drewN B1.out _⟩
  · rw [hl] at L
    clear hl
    go_enter Try.func15, Try.ntmps15
    go_wp2_with ((go_at_call 11; ((with_reducible refine (L _).mono ?_); rintro e w' ⟨rfl, ⟨n, rfl⟩⟩)))
    go_ret2
    exact ⟨rfl, bl_drewN B1.out _⟩
set_option maxHeartbeats 1000000 in
set_option maxRecDepth 100000 in
theorem rfrom_c4 {y m d h i s k : Int} (t0 : decide (y < -50000) = false) (t1 : decide (50000 < y) = false) (t2 : decide (m < 1) = false) (t3 : decide (14 < m) = false) (t4 : decide (d < 1) = false) (t5 : decide (28 < d) = false) (D : DayOk y m d) (u0 : decide (h < 0) = false) (u1 : decide (15 < h) = false) (u2 : decide (i < 0) = false) (u3 : decide (63 < i) = false) (u4 : decide (s < 0) = true) (w : World) :
    Calls Try.prog 15 #[dAgg y m d h i s k] w fun e w' => e = .returned (.tuple #[.int .i64 0, .int .i64 80]) ∧ Below w.heap.size w w' := by
  have B1 := Lib.hid (date_block w y m d h i s k)
  have L := fun w => rlong_run y w
  unfold dAgg at *
  rcases D with D1 | ⟨D1, ⟨hl, D2⟩ | ⟨hl, D2⟩⟩
  · cases hl : lng y with
    | true =>
      rw [hl] at L
      clear hl
      go_enter Try.func15, Try.ntmps15
      go_wp2_with ((go_at_call 11; ((with_reducible refine (L _).mono ?_); rintro e w' ⟨rfl, ⟨n, rfl⟩⟩)))
      go_ret2
      exact ⟨rfl, bl_drewN B1.out _⟩
    | false =>
      rw [hl] at L
      clear hl
      go_enter Try.func15, Try.ntmps15
      go_wp2_with ((go_at_call 11; ((with_reducible refine (L _).mono ?_); rintro e w' ⟨rfl, ⟨n, rfl⟩⟩)))
      go_ret2
      exact ⟨rfl, bl_drewN B1.out _⟩
  · rw [hl] at L
    clear hl
    go_enter Try.func15, Try.ntmps15
    go_wp2_with ((go_at_call 11; ((with_reducible refine (L _).mono ?_); rintro e w' ⟨rfl, ⟨n, rfl⟩⟩)))
    go_ret2
    exact ⟨rfl, bl_drewN B1.out _⟩
  · rw [hl] at L
    clear hl
    go_enter Try.func15, Try.ntmps15
    go_wp2_with ((go_at_call 11; ((with_reducible refine (L _).mono ?_); rintro e w' ⟨rfl, ⟨n, rfl⟩⟩)))
    go_ret2
    exact ⟨rfl, bl_drewN B1.out _⟩
set_option maxHeartbeats 1000000 in
set_option maxRecDepth 100000 in
theorem rfrom_c5 {y m d h i s k : Int} (t0 : decide (y < -50000) = false) (t1 : decide (50000 < y) = false) (t2 : decide (m < 1) = false) (t3 : decide (14 < m) = false) (t4 : decide (d < 1) = false) (t5 : decide (28 < d) = false) (D : DayOk y m d) (u0 : decide (h < 0) = false) (u1 : decide (15 < h) = false) (u2 : decide (i < 0) = false) (u3 : decide (63 < i) = false) (u4 : decide (s < 0) = false) (u5 : decide (63 < s) = true) (w : World) :
    Calls Try.prog 15 #[dAgg y m d h i s k] w fun e w' => e = .returned (.tuple #[.int .i64 0, .int .i64 80]) ∧ Below w.heap.size w w' := by
  have B1 := Lib.hid (date_block w y m d h i s k)
  have L := fun w => rlong_run y w
  unfold dAgg at *
  rcases D with D1 | ⟨D1, ⟨hl, D2⟩ | ⟨hl, D2⟩⟩
  · cases hl : lng y with
    | true =>
      rw [hl] at L
      clear hl
      go_enter Try.func15, Try.ntmps15
      go_wp2_with ((go_at_call 11; ((with_reducible refine (L _).mono ?_); rintro e w' ⟨rfl, ⟨n, rfl⟩⟩)))
      go_ret2
      exact ⟨rfl, bl_drewN B1.out _⟩
    | false =>
      rw [hl] at L
      clear hl
      go_enter Try.func15, Try.ntmps15
      go_wp2_with ((go_at_call 11; ((with_reducible refine (L _).mono ?_); rintro e w' ⟨rfl, ⟨n, rfl⟩⟩)))
      go_ret2
      exact ⟨rfl, bl_drewN B1.out _⟩
  · rw [hl] at L
    clear hl
    go_enter Try.func15, Try.ntmps15
    go_wp2_with ((go_at_call 11; ((with_reducible refine (L _).mono ?_); rintro e w' ⟨rfl, ⟨n, rfl⟩⟩)))
    go_ret2
    exact ⟨rfl, bl_drewN B1.out _⟩
  · rw [hl] at L
    clear hl
    go_enter Try.func15, Try.ntmps15
    go_wp2_with ((go_at_call 11; ((with_reducible refine (L _).mono ?_); rintro e w' ⟨rfl, ⟨n, rfl⟩⟩)))
    go_ret2
    exact ⟨rfl, bl_drewN B1.out _⟩
set_option maxHeartbeats 1000000 in
set_option maxRecDepth 100000 in
theorem rfrom_c6 {y m d h i s k : Int} (t0 : decide (y < -50000) = false) (t1 : decide (50000 < y) = false) (t2 : decide (m < 1) = false) (t3 : decide (14 < m) = false) (t4 : decide (d < 1) = false) (t5 : decide (28 < d) = false) (D : DayOk y m d) (u0 : decide (h < 0) = false) (u1 : decide (15 < h) = false) (u2 : decide (i < 0) = false) (u3 : decide (63 < i) = false) (u4 : decide (s < 0) = false) (u5 : decide (63 < s) = false) (u6 : decide (k < 0) = true) (w : World) :
    Calls Try.prog 15 #[dAgg y m d h i s k] w fun e w' => e = .returned (.tuple #[.int .i64 0, .int .i64 80]) ∧ Below w.heap.size w w' := by
  have B1 := Lib.hid (date_block w y m d h i s k)
  have L := fun w => rlong_run y w
  unfold dAgg at *
  rcases D with D1 | ⟨D1, ⟨hl, D2⟩ | ⟨hl, D2⟩⟩
  · cases hl : lng y with
    | true =>
      rw [hl] at L
      clear hl
      go_enter Try.func15, Try.ntmps15
      go_wp2_with ((go_at_call 11; ((with_reducible refine (L _).mono ?_); rintro e w' ⟨rfl, ⟨n, rfl⟩⟩)))
      go_ret2
      exact ⟨rfl, bl_drewN B1.out _⟩
    | false =>
      rw [hl] at L
      clear hl
      go_enter Try.func15, Try.ntmps15
      go_wp2_with ((go_at_call 11; ((with_reducible refine (L _).mono ?_); rintro e w' ⟨rfl, ⟨n, rfl⟩⟩)))
      go_ret2
      exact ⟨rfl, bl_drewN B1.out _⟩
  · rw [hl] at L
    clear hl
    go_enter Try.func15, Try.ntmps15
    go_wp2_with ((go_at_call 11; ((with_reducible refine (L _).mono ?_); rintro e w' ⟨rfl, ⟨n, rfl⟩⟩)))
    go_ret2
    exact ⟨rfl, bl_drewN B1.out _⟩
  · rw [hl] at L
    clear hl
    go_enter Try.func15, Try.ntmps15
    go_wp2_with ((go_at_call 11; ((with_reducible refine (L _).mono ?_); rintro e w' ⟨rfl, ⟨n, rfl⟩⟩)))
    go_ret2
    exact ⟨rfl, bl_drewN B1.out _⟩
set_option maxHeartbeats 1000000 in
set_option maxRecDepth 100000 in
theorem rfrom_c7 {y m d h i s k : Int} (t0 : decide (y < -50000) = false) (t1 : decide (50000 < y) = false) (t2 : decide (m < 1) = false) (t3 : decide (14 < m) = false) (t4 : decide (d < 1) = false) (t5 : decide (28 < d) = false) (D : DayOk y m d) (u0 : decide (h < 0) = false) (u1 : decide (15 < h) = false) (u2 : decide (i < 0) = false) (u3 : decide (63 < i) = false) (u4 : decide (s < 0) = false) (u5 : decide (63 < s) = false) (u6 : decide (k < 0) = false) (u7 : decide (1023 < k) = true) (w : World) :
    Calls Try.prog 15 #[dAgg y m d h i s k] w fun e w' => e = .returned (.tuple #[.int .i64 0, .int .i64 80]) ∧ Below w.heap.size w w' := by
  have B1 := Lib.hid (date_block w y m d h i s k)
  have L := fun w => rlong_run y w
  unfold dAgg at *
  rcases D with D1 | ⟨D1, ⟨hl, D2⟩ | ⟨hl, D2⟩⟩
  · cases hl : lng y with
    | true =>
      rw [hl] at L
      clear hl
      go_enter Try.func15, Try.ntmps15
      go_wp2_with ((go_at_call 11; ((with_reducible refine (L _).mono ?_); rintro e w' ⟨rfl, ⟨n, rfl⟩⟩)))
      go_ret2
      exact ⟨rfl, bl_drewN B1.out _⟩
    | false =>
      rw [hl] at L
      clear hl
      go_enter Try.func15, Try.ntmps15
      go_wp2_with ((go_at_call 11; ((with_reducible refine (L _).mono ?_); rintro e w' ⟨rfl, ⟨n, rfl⟩⟩)))
      go_ret2
      exact ⟨rfl, bl_drewN B1.out _⟩
  · rw [hl] at L
    clear hl
    go_enter Try.func15, Try.ntmps15
    go_wp2_with ((go_at_call 11; ((with_reducible refine (L _).mono ?_); rintro e w' ⟨rfl, ⟨n, rfl⟩⟩)))
    go_ret2
    exact ⟨rfl, bl_drewN B1.out _⟩
  · rw [hl] at L
    clear hl
    go_enter Try.func15, Try.ntmps15
    go_wp2_with ((go_at_call 11; ((with_reducible refine (L _).mono ?_); rintro e w' ⟨rfl, ⟨n, rfl⟩⟩)))
    go_ret2
    exact ⟨rfl, bl_drewN B1.out _⟩
end Go.Proofs.Ytppggaibhfajjaa
