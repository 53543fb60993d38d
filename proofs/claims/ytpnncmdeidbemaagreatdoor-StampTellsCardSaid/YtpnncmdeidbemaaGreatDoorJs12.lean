/- Proved here: what the texts Daf, Dar prove, one behind the other. -/
import Derived.Test.YtpnncmdeidbemaaGreatDoorJs1

namespace Go.Proofs.YtpnncmdeidbemaaGreatDoor
open Go.ChangeShapes Go.WideShapes Go.ChangeAt Go.RowKit

theorem bcell {W w1 : World} {B : Nat} (hb : Below B W w1) : (∀ b o, b < B → w1.cell? ⟨b, o, none⟩ = W.cell? ⟨b, o, none⟩) :=
  fun b o h => hb.cell (p := ⟨b, o, none⟩) h
/-- an instant and an error, whatever the date -/
def fromV (y m d h i s k : Int) : Value := if isD y m d h i s k = true ∧ isI (inst y m d h i s k) = true then .tuple #[.int .i64 (inst y m d h i s k), .int .i64 0] else .tuple #[.int .i64 0, .int .i64 80]
theorem fromV_t {y m d h i s k : Int} (H : isD y m d h i s k = true) (I : isI (inst y m d h i s k) = true) : fromV y m d h i s k = .tuple #[.int .i64 (inst y m d h i s k), .int .i64 0] := if_pos ⟨H, I⟩
theorem fromV_f {y m d h i s k : Int} (H : isD y m d h i s k = false) : fromV y m d h i s k = .tuple #[.int .i64 0, .int .i64 80] := if_neg fun h => by rw [H] at h; cases h.1
theorem fromV_i {y m d h i s k : Int} (I : isI (inst y m d h i s k) = false) : fromV y m d h i s k = .tuple #[.int .i64 0, .int .i64 80] := if_neg fun h => by rw [I] at h; cases h.2
theorem date_block (w : World) (y m d h i s k : Int) : Below w.heap.size w (w.alloc (.cells #[.int .i64 y, .int .i64 m, .int .i64 d, .int .i64 h, .int .i64 i, .int .i64 s, .int .i64 k] 42)) := (Below.refl _ _).alloc (Nat.le_refl _) _

set_option maxRecDepth 100000 in
theorem from_no {y m d h i s k : Int} (H : isD y m d h i s k = false) (w : World) :
    Calls Tryz.prog 26 #[dAgg y m d h i s k] w fun e w' => e = .returned (fromV y m d h i s k) ∧ Below w.heap.size w w' := by
  rw [fromV_f H]
  have C := fun w => isdate_f H w
  have B1 := Lib.hid (date_block w y m d h i s k)
  unfold dAgg at *
  clear H
  go_enter Tryz.func26, Tryz.ntmps26
  go_wp2_with fail
  refine (C _).mono ?_
  rintro _ w1 ⟨rfl, hb⟩
  replace hb := Lib.hid (B1.out.trans (hb.mono (by simp)))
  clear C B1
  go_wp2_with fail
  go_ret2
  exact ⟨rfl, hb.out⟩
set_option maxRecDepth 100000 in
theorem from_far {y m d h i s k : Int} (H : isD y m d h i s k = true) (hy : y < -45965 ∨ 45965 < y) (w : World) :
    Calls Tryz.prog 26 #[dAgg y m d h i s k] w fun e w' => e = .returned (fromV y m d h i s k) ∧ Below w.heap.size w w' := by
  rw [fromV_i (inst_far H hy)]
  have C := fun w => isdate_t H w
  have C2 := fun w => within_f hy w
  have B1 := Lib.hid (date_block w y m d h i s k)
  unfold dAgg at *
  clear H hy
  go_enter Tryz.func26, Tryz.ntmps26
  go_wp2_with fail
  refine (C _).mono ?_
  rintro _ w1 ⟨rfl, hb⟩
  have hc := bcell hb
  replace hb := Lib.hid (B1.out.trans (hb.mono (by simp)))
  clear C B1
  go_wp2_with ((go_at_call 50; ((with_reducible refine (C2 _).mono ?_); rintro e w' ⟨rfl, rfl⟩)))
  go_ret2
  exact ⟨rfl, hb.out⟩
set_option maxRecDepth 100000 in
set_option maxHeartbeats 1000000 in
theorem from_in {y m d h i s k : Int} (H : isD y m d h i s k = true) (hI : isI (inst y m d h i s k) = true) (y1 : -45965 ≤ y) (y2 : y ≤ 45965) (w : World) :
    Calls Tryz.prog 26 #[dAgg y m d h i s k] w fun e w' => e = .returned (fromV y m d h i s k) ∧ Below w.heap.size w w' := by
  rw [fromV_t H hI]
  have C := fun w => isdate_t H w
  have C2 := fun w => within_t y1 y2 w
  have C3 := fun w => firstday_run y (by omega) (by omega) w
  have B1 := Lib.hid (date_block w y m d h i s k)
  obtain ⟨n1, n2⟩ := inst_range H (by omega) (by omega)
  obtain ⟨⟨m1, m2⟩, ⟨d1, d2⟩, ⟨h1, h2⟩, ⟨i1, i2⟩, ⟨s1, s2⟩, ⟨k1, k2⟩⟩ := isD_parts H
  have d3 : d ≤ 28 := by have := mLen_le y m; omega
  obtain ⟨f1, f2⟩ := fdy_range (y := y) (by omega) (by omega)
  have I := fun w => isinst_run (inst y m d h i s k) w
  rw [hI] at I
  have e1 : IntKind.i64.wrap (m - 1) = m - 1 := IntWalk.i64_in _ (by omega)
  have e2 : IntKind.i64.wrap ((m - 1) * 28) = (m - 1) * 28 := IntWalk.i64_in _ (by omega)
  have e3 : IntKind.i64.wrap ((m - 1) * 28 + d) = (m - 1) * 28 + d := IntWalk.i64_in _ (by omega)
  have e4 : IntKind.i64.wrap ((m - 1) * 28 + d - 1) = (m - 1) * 28 + d - 1 := IntWalk.i64_in _ (by omega)
  have e5 : IntKind.i64.wrap (fdy y + ((m - 1) * 28 + d - 1)) = fdy y + ((m - 1) * 28 + d - 1) := IntWalk.i64_in _ (by omega)
  unfold inst at *
  unfold dAgg at *
  clear y1 y2 d2 hI H
  go_enter Tryz.func26, Tryz.ntmps26
  go_wp2_with fail
  refine (C _).mono ?_
  rintro _ w1 ⟨rfl, hb⟩
  have hc := bcell hb
  replace hb := Lib.hid (B1.out.trans (hb.mono (by simp)))
  clear C B1
  go_wp2_with ((go_at_call 50; ((with_reducible refine (C2 _).mono ?_); rintro e w' ⟨rfl, rfl⟩)))
  clear C2
  go_quiet ((go_at_call 45; with_reducible refine quiet_as (C3 _)))
  clear e1 e2 e3 e4 e5 C3
  go_wp2_with ((go_at_call 42; ((with_reducible refine (I _).mono ?_); rintro e w' ⟨rfl, rfl⟩)))
  go_ret2
  exact ⟨rfl, bl_drewN hb.out _⟩
set_option maxRecDepth 100000 in
set_option maxHeartbeats 1000000 in
theorem from_out {y m d h i s k : Int} (H : isD y m d h i s k = true) (hI : isI (inst y m d h i s k) = false) (y1 : -45965 ≤ y) (y2 : y ≤ 45965) (w : World) :
    Calls Tryz.prog 26 #[dAgg y m d h i s k] w fun e w' => e = .returned (fromV y m d h i s k) ∧ Below w.heap.size w w' := by
  rw [fromV_i hI]
  have C := fun w => isdate_t H w
  have C2 := fun w => within_t y1 y2 w
  have C3 := fun w => firstday_run y (by omega) (by omega) w
  have B1 := Lib.hid (date_block w y m d h i s k)
  obtain ⟨n1, n2⟩ := inst_range H (by omega) (by omega)
  obtain ⟨⟨m1, m2⟩, ⟨d1, d2⟩, ⟨h1, h2⟩, ⟨i1, i2⟩, ⟨s1, s2⟩, ⟨k1, k2⟩⟩ := isD_parts H
  have d3 : d ≤ 28 := by have := mLen_le y m; omega
  obtain ⟨f1, f2⟩ := fdy_range (y := y) (by omega) (by omega)
  have I := fun w => isinst_run (inst y m d h i s k) w
  rw [hI] at I
  have e1 : IntKind.i64.wrap (m - 1) = m - 1 := IntWalk.i64_in _ (by omega)
  have e2 : IntKind.i64.wrap ((m - 1) * 28) = (m - 1) * 28 := IntWalk.i64_in _ (by omega)
  have e3 : IntKind.i64.wrap ((m - 1) * 28 + d) = (m - 1) * 28 + d := IntWalk.i64_in _ (by omega)
  have e4 : IntKind.i64.wrap ((m - 1) * 28 + d - 1) = (m - 1) * 28 + d - 1 := IntWalk.i64_in _ (by omega)
  have e5 : IntKind.i64.wrap (fdy y + ((m - 1) * 28 + d - 1)) = fdy y + ((m - 1) * 28 + d - 1) := IntWalk.i64_in _ (by omega)
  unfold inst at *
  unfold dAgg at *
  clear y1 y2 d2 hI H
  go_enter Tryz.func26, Tryz.ntmps26
  go_wp2_with fail
  refine (C _).mono ?_
  rintro _ w1 ⟨rfl, hb⟩
  have hc := bcell hb
  replace hb := Lib.hid (B1.out.trans (hb.mono (by simp)))
  clear C B1
  go_wp2_with ((go_at_call 50; ((with_reducible refine (C2 _).mono ?_); rintro e w' ⟨rfl, rfl⟩)))
  clear C2
  go_quiet ((go_at_call 45; with_reducible refine quiet_as (C3 _)))
  clear e1 e2 e3 e4 e5 C3
  go_wp2_with ((go_at_call 42; ((with_reducible refine (I _).mono ?_); rintro e w' ⟨rfl, rfl⟩)))
  go_ret2
  exact ⟨rfl, bl_drewN hb.out _⟩
set_option maxRecDepth 100000 in
theorem from_run (y m d h i s k : Int) (w : World) :
    Calls Tryz.prog 26 #[dAgg y m d h i s k] w fun e w' => e = .returned (fromV y m d h i s k) ∧ Below w.heap.size w w' := by
  cases H : isD y m d h i s k with
  | false => exact from_no H w
  | true =>
    by_cases hy : y < -45965 ∨ 45965 < y
    · exact from_far H hy w
    · cases hI : isI (inst y m d h i s k) with
      | true => exact from_in H hI (by omega) (by omega) w
      | false => exact from_out H hI (by omega) (by omega) w
end Go.Proofs.YtpnncmdeidbemaaGreatDoor

namespace Go.Proofs.YtpnncmdeidbemaaGreatDoor
open Go.ChangeShapes Go.WideShapes Go.ChangeAt Go.RowKit

set_option maxHeartbeats 1000000 in
set_option maxRecDepth 100000 in
theorem rfrom_a0 {y m d h i s k : Int}  (t0 : decide (y < -50000) = true) (w : World) :
    Calls Tryz.prog 28 #[dAgg y m d h i s k] w fun e w' => e = .returned (.tuple #[.int .i64 0, .int .i64 80]) ∧ Below w.heap.size w w' := by
  have B1 := Lib.hid (date_block w y m d h i s k)
  unfold dAgg at *
  go_enter Tryz.func28, Tryz.ntmps28
  go_wp2_with fail
  go_ret2
  exact ⟨rfl, B1.out⟩
set_option maxHeartbeats 1000000 in
set_option maxRecDepth 100000 in
theorem rfrom_a1 {y m d h i s k : Int} (t0 : decide (y < -50000) = false) (t1 : decide (50000 < y) = true) (w : World) :
    Calls Tryz.prog 28 #[dAgg y m d h i s k] w fun e w' => e = .returned (.tuple #[.int .i64 0, .int .i64 80]) ∧ Below w.heap.size w w' := by
  have B1 := Lib.hid (date_block w y m d h i s k)
  unfold dAgg at *
  go_enter Tryz.func28, Tryz.ntmps28
  go_wp2_with fail
  go_ret2
  exact ⟨rfl, B1.out⟩
set_option maxHeartbeats 1000000 in
set_option maxRecDepth 100000 in
theorem rfrom_a2 {y m d h i s k : Int} (t0 : decide (y < -50000) = false) (t1 : decide (50000 < y) = false) (t2 : decide (m < 1) = true) (w : World) :
    Calls Tryz.prog 28 #[dAgg y m d h i s k] w fun e w' => e = .returned (.tuple #[.int .i64 0, .int .i64 80]) ∧ Below w.heap.size w w' := by
  have B1 := Lib.hid (date_block w y m d h i s k)
  unfold dAgg at *
  go_enter Tryz.func28, Tryz.ntmps28
  go_wp2_with fail
  go_ret2
  exact ⟨rfl, B1.out⟩
set_option maxHeartbeats 1000000 in
set_option maxRecDepth 100000 in
theorem rfrom_a3 {y m d h i s k : Int} (t0 : decide (y < -50000) = false) (t1 : decide (50000 < y) = false) (t2 : decide (m < 1) = false) (t3 : decide (14 < m) = true) (w : World) :
    Calls Tryz.prog 28 #[dAgg y m d h i s k] w fun e w' => e = .returned (.tuple #[.int .i64 0, .int .i64 80]) ∧ Below w.heap.size w w' := by
  have B1 := Lib.hid (date_block w y m d h i s k)
  unfold dAgg at *
  go_enter Tryz.func28, Tryz.ntmps28
  go_wp2_with fail
  go_ret2
  exact ⟨rfl, B1.out⟩
set_option maxHeartbeats 1000000 in
set_option maxRecDepth 100000 in
theorem rfrom_a4 {y m d h i s k : Int} (t0 : decide (y < -50000) = false) (t1 : decide (50000 < y) = false) (t2 : decide (m < 1) = false) (t3 : decide (14 < m) = false) (t4 : decide (d < 1) = true) (w : World) :
    Calls Tryz.prog 28 #[dAgg y m d h i s k] w fun e w' => e = .returned (.tuple #[.int .i64 0, .int .i64 80]) ∧ Below w.heap.size w w' := by
  have B1 := Lib.hid (date_block w y m d h i s k)
  unfold dAgg at *
  go_enter Tryz.func28, Tryz.ntmps28
  go_wp2_with fail
  go_ret2
  exact ⟨rfl, B1.out⟩
set_option maxHeartbeats 1000000 in
set_option maxRecDepth 100000 in
theorem rfrom_a5 {y m d h i s k : Int} (t0 : decide (y < -50000) = false) (t1 : decide (50000 < y) = false) (t2 : decide (m < 1) = false) (t3 : decide (14 < m) = false) (t4 : decide (d < 1) = false) (t5 : decide (28 < d) = true) (w : World) :
    Calls Tryz.prog 28 #[dAgg y m d h i s k] w fun e w' => e = .returned (.tuple #[.int .i64 0, .int .i64 80]) ∧ Below w.heap.size w w' := by
  have B1 := Lib.hid (date_block w y m d h i s k)
  unfold dAgg at *
  go_enter Tryz.func28, Tryz.ntmps28
  go_wp2_with fail
  go_ret2
  exact ⟨rfl, B1.out⟩
set_option maxHeartbeats 1000000 in
set_option maxRecDepth 100000 in
theorem rfrom_b {y m d h i s k : Int} (t0 : decide (y < -50000) = false) (t1 : decide (50000 < y) = false) (t2 : decide (m < 1) = false) (t3 : decide (14 < m) = false) (t4 : decide (d < 1) = false) (t5 : decide (28 < d) = false) (hm : m = 14) (hd : mLen y 14 < d) (w : World) :
    Calls Tryz.prog 28 #[dAgg y m d h i s k] w fun e w' => e = .returned (.tuple #[.int .i64 0, .int .i64 80]) ∧ Below w.heap.size w w' := by
  subst hm
  have B1 := Lib.hid (date_block w y 14 d h i s k)
  have L := fun w => rlong_run y w
  unfold mLen at hd
  rw [if_neg (by decide)] at hd
  unfold dAgg at *
  cases hl : lng y with
  | true =>
    rw [hl] at L hd
    rw [if_pos rfl] at hd
    have g : decide (2 < d) = true := decide_eq_true hd
    clear hl hd
    go_enter Tryz.func28, Tryz.ntmps28
    go_wp2_with ((go_at_call 51; ((with_reducible refine (L _).mono ?_); rintro e w' ⟨rfl, ⟨n, rfl⟩⟩)))
    go_ret2
    exact ⟨rfl, bl_drewN B1.out _⟩
  | false =>
    rw [hl] at L hd
    rw [if_neg (by decide)] at hd
    have g : decide (1 < d) = true := decide_eq_true hd
    clear hl hd
    go_enter Tryz.func28, Tryz.ntmps28
    go_wp2_with ((go_at_call 51; ((with_reducible refine (L _).mono ?_); rintro e w' ⟨rfl, ⟨n, rfl⟩⟩)))
    go_ret2
    exact ⟨rfl, bl_drewN B1.out _⟩
/-- the last month's days do not refuse: the tests' facts -/
def DayOk (y m d : Int) : Prop := ((m == 14) = false) ∨ ((m == 14) = true ∧ ((lng y = true ∧ decide (2 < d) = false) ∨ (lng y = false ∧ decide (1 < d) = false)))
theorem dayOk_of {y m d : Int} (h : ¬ (m = 14 ∧ mLen y 14 < d)) : DayOk y m d := by
  by_cases hm : m = 14
  · right
    refine ⟨by rw [hm]; rfl, ?_⟩
    have hd : ¬ mLen y 14 < d := fun e => h ⟨hm, e⟩
    unfold mLen at hd
    rw [if_neg (by decide)] at hd
    cases hl : lng y with
    | true => rw [hl, if_pos rfl] at hd; exact .inl ⟨rfl, decide_eq_false hd⟩
    | false => rw [hl, if_neg (by decide)] at hd; exact .inr ⟨rfl, decide_eq_false hd⟩
  · left; simpa using hm
set_option maxHeartbeats 1000000 in
set_option maxRecDepth 100000 in
theorem rfrom_c0 {y m d h i s k : Int} (t0 : decide (y < -50000) = false) (t1 : decide (50000 < y) = false) (t2 : decide (m < 1) = false) (t3 : decide (14 < m) = false) (t4 : decide (d < 1) = false) (t5 : decide (28 < d) = false) (D : DayOk y m d)  (u0 : decide (h < 0) = true) (w : World) :
    Calls Tryz.prog 28 #[dAgg y m d h i s k] w fun e w' => e = .returned (.tuple #[.int .i64 0, .int .i64 80]) ∧ Below w.heap.size w w' := by
  have B1 := Lib.hid (date_block w y m d h i s k)
  have L := fun w => rlong_run y w
  unfold dAgg at *
  rcases D with D1 | ⟨D1, ⟨hl, D2⟩ | ⟨hl, D2⟩⟩
  · cases hl : lng y with
    | true =>
      rw [hl] at L
      clear hl
      go_enter Tryz.func28, Tryz.ntmps28
      go_wp2_with ((go_at_call 51; ((with_reducible refine (L _).mono ?_); rintro e w' ⟨rfl, ⟨n, rfl⟩⟩)))
      go_ret2
      exact ⟨rfl, bl_drewN B1.out _⟩
    | false =>
      rw [hl] at L
      clear hl
      go_enter Tryz.func28, Tryz.ntmps28
      go_wp2_with ((go_at_call 51; ((with_reducible refine (L _).mono ?_); rintro e w' ⟨rfl, ⟨n, rfl⟩⟩)))
      go_ret2
      exact ⟨rfl, bl_drewN B1.out _⟩
  · rw [hl] at L
    clear hl
    go_enter Tryz.func28, Tryz.ntmps28
    go_wp2_with ((go_at_call 51; ((with_reducible refine (L _).mono ?_); rintro e w' ⟨rfl, ⟨n, rfl⟩⟩)))
    go_ret2
    exact ⟨rfl, bl_drewN B1.out _⟩
  · rw [hl] at L
    clear hl
    go_enter Tryz.func28, Tryz.ntmps28
    go_wp2_with ((go_at_call 51; ((with_reducible refine (L _).mono ?_); rintro e w' ⟨rfl, ⟨n, rfl⟩⟩)))
    go_ret2
    exact ⟨rfl, bl_drewN B1.out _⟩
set_option maxHeartbeats 1000000 in
set_option maxRecDepth 100000 in
theorem rfrom_c1 {y m d h i s k : Int} (t0 : decide (y < -50000) = false) (t1 : decide (50000 < y) = false) (t2 : decide (m < 1) = false) (t3 : decide (14 < m) = false) (t4 : decide (d < 1) = false) (t5 : decide (28 < d) = false) (D : DayOk y m d) (u0 : decide (h < 0) = false) (u1 : decide (15 < h) = true) (w : World) :
    Calls Tryz.prog 28 #[dAgg y m d h i s k] w fun e w' => e = .returned (.tuple #[.int .i64 0, .int .i64 80]) ∧ Below w.heap.size w w' := by
  have B1 := Lib.hid (date_block w y m d h i s k)
  have L := fun w => rlong_run y w
  unfold dAgg at *
  rcases D with D1 | ⟨D1, ⟨hl, D2⟩ | ⟨hl, D2⟩⟩
  · cases hl : lng y with
    | true =>
      rw [hl] at L
      clear hl
      go_enter Tryz.func28, Tryz.ntmps28
      go_wp2_with ((go_at_call 51; ((with_reducible refine (L _).mono ?_); rintro e w' ⟨rfl, ⟨n, rfl⟩⟩)))
      go_ret2
      exact ⟨rfl, bl_drewN B1.out _⟩
    | false =>
      rw [hl] at L
      clear hl
      go_enter Tryz.func28, Tryz.ntmps28
      go_wp2_with ((go_at_call 51; ((with_reducible refine (L _).mono ?_); rintro e w' ⟨rfl, ⟨n, rfl⟩⟩)))
      go_ret2
      exact ⟨rfl, bl_drewN B1.out _⟩
  · rw [hl] at L
    clear hl
    go_enter Tryz.func28, Tryz.ntmps28
    go_wp2_with ((go_at_call 51; ((with_reducible refine (L _).mono ?_); rintro e w' ⟨rfl, ⟨n, rfl⟩⟩)))
    go_ret2
    exact ⟨rfl, bl_drewN B1.out _⟩
  · rw [hl] at L
    clear hl
    go_enter Tryz.func28, Tryz.ntmps28
    go_wp2_with ((go_at_call 51; ((with_reducible refine (L _).mono ?_); rintro e w' ⟨rfl, ⟨n, rfl⟩⟩)))
    go_ret2
    exact ⟨rfl, bl_drewN B1.out _⟩
set_option maxHeartbeats 1000000 in
set_option maxRecDepth 100000 in
theorem rfrom_c2 {y m d h i s k : Int} (t0 : decide (y < -50000) = false) (t1 : decide (50000 < y) = false) (t2 : decide (m < 1) = false) (t3 : decide (14 < m) = false) (t4 : decide (d < 1) = false) (t5 : decide (28 < d) = false) (D : DayOk y m d) (u0 : decide (h < 0) = false) (u1 : decide (15 < h) = false) (u2 : decide (i < 0) = true) (w : World) :
    Calls Tryz.prog 28 #[dAgg y m d h i s k] w fun e w' => e = .returned (.tuple #[.int .i64 0, .int .i64 80]) ∧ Below w.heap.size w w' := by
  have B1 := Lib.hid (date_block w y m d h i s k)
  have L := fun w => rlong_run y w
  unfold dAgg at *
  rcases D with D1 | ⟨D1, ⟨hl, D2⟩ | ⟨hl, D2⟩⟩
  · cases hl : lng y with
    | true =>
      rw [hl] at L
      clear hl
      go_enter Tryz.func28, Tryz.ntmps28
      go_wp2_with ((go_at_call 51; ((with_reducible refine (L _).mono ?_); rintro e w' ⟨rfl, ⟨n, rfl⟩⟩)))
      go_ret2
      exact ⟨rfl, bl_drewN B1.out _⟩
    | false =>
      rw [hl] at L
      clear hl
      go_enter Tryz.func28, Tryz.ntmps28
      go_wp2_with ((go_at_call 51; ((with_reducible refine (L _).mono ?_); rintro e w' ⟨rfl, ⟨n, rfl⟩⟩)))
      go_ret2
      exact ⟨rfl, bl_drewN B1.out _⟩
  · rw [hl] at L
    clear hl
    go_enter Tryz.func28, Tryz.ntmps28
    go_wp2_with ((go_at_call 51; ((with_reducible refine (L _).mono ?_); rintro e w' ⟨rfl, ⟨n, rfl⟩⟩)))
    go_ret2
    exact ⟨rfl, bl_drewN B1.out _⟩
  · rw [hl] at L
    clear hl
    go_enter Tryz.func28, Tryz.ntmps28
    go_wp2_with ((go_at_call 51; ((with_reducible refine (L _).mono ?_); rintro e w' ⟨rfl, ⟨n, rfl⟩⟩)))
    go_ret2
    exact ⟨rfl, bl_drewN B1.out _⟩
set_option maxHeartbeats 1000000 in
set_option maxRecDepth 100000 in
theorem rfrom_c3 {y m d h i s k : Int} (t0 : decide (y < -50000) = false) (t1 : decide (50000 < y) = false) (t2 : decide (m < 1) = false) (t3 : decide (14 < m) = false) (t4 : decide (d < 1) = false) (t5 : decide (28 < d) = false) (D : DayOk y m d) (u0 : decide (h < 0) = false) (u1 : decide (15 < h) = false) (u2 : decide (i < 0) = false) (u3 : decide (63 < i) = true) (w : World) :
    Calls Tryz.prog 28 #[dAgg y m d h i s k] w fun e w' => e = .returned (.tuple #[.int .i64 0, .int .i64 80]) ∧ Below w.heap.size w w' := by
  have B1 := Lib.hid (date_block w y m d h i s k)
  have L := fun w => rlong_run y w
  unfold dAgg at *
  rcases D with D1 | ⟨D1, ⟨hl, D2⟩ | ⟨hl, D2⟩⟩
  · cases hl : lng y with
    | true =>
      rw [hl] at L
      clear hl
      go_enter Tryz.func28, Tryz.ntmps28
      go_wp2_with ((go_at_call 51; ((with_reducible refine (L _).mono ?_); rintro e w' ⟨rfl, ⟨n, rfl⟩⟩)))
      go_ret2
      exact ⟨rfl, bl_drewN B1.out _⟩
    | false =>
      rw [hl] at L
      clear hl
      go_enter Tryz.func28, Tryz.ntmps28
      go_wp2_with ((go_at_call 51; ((with_reducible refine (L _).mono ?_); rintro e w' ⟨rfl, ⟨n, rfl⟩⟩)))
      go_ret2
      exact ⟨rfl, bl_drewN B1.out _⟩
  · rw [hl] at L
    clear hl
    go_enter Tryz.func28, Tryz.ntmps28
    go_wp2_with ((go_at_call 51; ((with_reducible refine (L _).mono ?_); rintro e w' ⟨rfl, ⟨n, rfl⟩⟩)))
    go_ret2
    exact ⟨rfl, bl_drewN B1.out _⟩
  · rw [hl] at L
    clear hl
    go_enter Tryz.func28, Tryz.ntmps28
    go_wp2_with ((go_at_call 51; ((with_reducible refine (L _).mono ?_); rintro e w' ⟨rfl, ⟨n, rfl⟩⟩)))
    go_ret2
    exact ⟨rfl, bl_drewN B1.out _⟩
set_option maxHeartbeats 1000000 in
set_option maxRecDepth 100000 in
theorem rfrom_c4 {y m d h i s k : Int} (t0 : decide (y < -50000) = false) (t1 : decide (50000 < y) = false) (t2 : decide (m < 1) = false) (t3 : decide (14 < m) = false) (t4 : decide (d < 1) = false) (t5 : decide (28 < d) = false) (D : DayOk y m d) (u0 : decide (h < 0) = false) (u1 : decide (15 < h) = false) (u2 : decide (i < 0) = false) (u3 : decide (63 < i) = false) (u4 : decide (s < 0) = true) (w : World) :
    Calls Tryz.prog 28 #[dAgg y m d h i s k] w fun e w' => e = .returned (.tuple #[.int .i64 0, .int .i64 80]) ∧ Below w.heap.size w w' := by
  have B1 := Lib.hid (date_block w y m d h i s k)
  have L := fun w => rlong_run y w
  unfold dAgg at *
  rcases D with D1 | ⟨D1, ⟨hl, D2⟩ | ⟨hl, D2⟩⟩
  · cases hl : lng y with
    | true =>
      rw [hl] at L
      clear hl
      go_enter Tryz.func28, Tryz.ntmps28
      go_wp2_with ((go_at_call 51; ((with_reducible refine (L _).mono ?_); rintro e w' ⟨rfl, ⟨n, rfl⟩⟩)))
      go_ret2
      exact ⟨rfl, bl_drewN B1.out _⟩
    | false =>
      rw [hl] at L
      clear hl
      go_enter Tryz.func28, Tryz.ntmps28
      go_wp2_with ((go_at_call 51; ((with_reducible refine (L _).mono ?_); rintro e w' ⟨rfl, ⟨n, rfl⟩⟩)))
      go_ret2
      exact ⟨rfl, bl_drewN B1.out _⟩
  · rw [hl] at L
    clear hl
    go_enter Tryz.func28, Tryz.ntmps28
    go_wp2_with ((go_at_call 51; ((with_reducible refine (L _).mono ?_); rintro e w' ⟨rfl, ⟨n, rfl⟩⟩)))
    go_ret2
    exact ⟨rfl, bl_drewN B1.out _⟩
  · rw [hl] at L
    clear hl
    go_enter Tryz.func28, Tryz.ntmps28
    go_wp2_with ((go_at_call 51; ((with_reducible refine (L _).mono ?_); rintro e w' ⟨rfl, ⟨n, rfl⟩⟩)))
    go_ret2
    exact ⟨rfl, bl_drewN B1.out _⟩
set_option maxHeartbeats 1000000 in
set_option maxRecDepth 100000 in
theorem rfrom_c5 {y m d h i s k : Int} (t0 : decide (y < -50000) = false) (t1 : decide (50000 < y) = false) (t2 : decide (m < 1) = false) (t3 : decide (14 < m) = false) (t4 : decide (d < 1) = false) (t5 : decide (28 < d) = false) (D : DayOk y m d) (u0 : decide (h < 0) = false) (u1 : decide (15 < h) = false) (u2 : decide (i < 0) = false) (u3 : decide (63 < i) = false) (u4 : decide (s < 0) = false) (u5 : decide (63 < s) = true) (w : World) :
    Calls Tryz.prog 28 #[dAgg y m d h i s k] w fun e w' => e = .returned (.tuple #[.int .i64 0, .int .i64 80]) ∧ Below w.heap.size w w' := by
  have B1 := Lib.hid (date_block w y m d h i s k)
  have L := fun w => rlong_run y w
  unfold dAgg at *
  rcases D with D1 | ⟨D1, ⟨hl, D2⟩ | ⟨hl, D2⟩⟩
  · cases hl : lng y with
    | true =>
      rw [hl] at L
      clear hl
      go_enter Tryz.func28, Tryz.ntmps28
      go_wp2_with ((go_at_call 51; ((with_reducible refine (L _).mono ?_); rintro e w' ⟨rfl, ⟨n, rfl⟩⟩)))
      go_ret2
      exact ⟨rfl, bl_drewN B1.out _⟩
    | false =>
      rw [hl] at L
      clear hl
      go_enter Tryz.func28, Tryz.ntmps28
      go_wp2_with ((go_at_call 51; ((with_reducible refine (L _).mono ?_); rintro e w' ⟨rfl, ⟨n, rfl⟩⟩)))
      go_ret2
      exact ⟨rfl, bl_drewN B1.out _⟩
  · rw [hl] at L
    clear hl
    go_enter Tryz.func28, Tryz.ntmps28
    go_wp2_with ((go_at_call 51; ((with_reducible refine (L _).mono ?_); rintro e w' ⟨rfl, ⟨n, rfl⟩⟩)))
    go_ret2
    exact ⟨rfl, bl_drewN B1.out _⟩
  · rw [hl] at L
    clear hl
    go_enter Tryz.func28, Tryz.ntmps28
    go_wp2_with ((go_at_call 51; ((with_reducible refine (L _).mono ?_); rintro e w' ⟨rfl, ⟨n, rfl⟩⟩)))
    go_ret2
    exact ⟨rfl, bl_drewN B1.out _⟩
set_option maxHeartbeats 1000000 in
set_option maxRecDepth 100000 in
theorem rfrom_c6 {y m d h i s k : Int} (t0 : decide (y < -50000) = false) (t1 : decide (50000 < y) = false) (t2 : decide (m < 1) = false) (t3 : decide (14 < m) = false) (t4 : decide (d < 1) = false) (t5 : decide (28 < d) = false) (D : DayOk y m d) (u0 : decide (h < 0) = false) (u1 : decide (15 < h) = false) (u2 : decide (i < 0) = false) (u3 : decide (63 < i) = false) (u4 : decide (s < 0) = false) (u5 : decide (63 < s) = false) (u6 : decide (k < 0) = true) (w : World) :
    Calls Tryz.prog 28 #[dAgg y m d h i s k] w fun e w' => e = .returned (.tuple #[.int .i64 0, .int .i64 80]) ∧ Below w.heap.size w w' := by
  have B1 := Lib.hid (date_block w y m d h i s k)
  have L := fun w => rlong_run y w
  unfold dAgg at *
  rcases D with D1 | ⟨D1, ⟨hl, D2⟩ | ⟨hl, D2⟩⟩
  · cases hl : lng y with
    | true =>
      rw [hl] at L
      clear hl
      go_enter Tryz.func28, Tryz.ntmps28
      go_wp2_with ((go_at_call 51; ((with_reducible refine (L _).mono ?_); rintro e w' ⟨rfl, ⟨n, rfl⟩⟩)))
      go_ret2
      exact ⟨rfl, bl_drewN B1.out _⟩
    | false =>
      rw [hl] at L
      clear hl
      go_enter Tryz.func28, Tryz.ntmps28
      go_wp2_with ((go_at_call 51; ((with_reducible refine (L _).mono ?_); rintro e w' ⟨rfl, ⟨n, rfl⟩⟩)))
      go_ret2
      exact ⟨rfl, bl_drewN B1.out _⟩
  · rw [hl] at L
    clear hl
    go_enter Tryz.func28, Tryz.ntmps28
    go_wp2_with ((go_at_call 51; ((with_reducible refine (L _).mono ?_); rintro e w' ⟨rfl, ⟨n, rfl⟩⟩)))
    go_ret2
    exact ⟨rfl, bl_drewN B1.out _⟩
  · rw [hl] at L
    clear hl
    go_enter Tryz.func28, Tryz.ntmps28
    go_wp2_with ((go_at_call 51; ((with_reducible refine (L _).mono ?_); rintro e w' ⟨rfl, ⟨n, rfl⟩⟩)))
    go_ret2
    exact ⟨rfl, bl_drewN B1.out _⟩
set_option maxHeartbeats 1000000 in
set_option maxRecDepth 100000 in
theorem rfrom_c7 {y m d h i s k : Int} (t0 : decide (y < -50000) = false) (t1 : decide (50000 < y) = false) (t2 : decide (m < 1) = false) (t3 : decide (14 < m) = false) (t4 : decide (d < 1) = false) (t5 : decide (28 < d) = false) (D : DayOk y m d) (u0 : decide (h < 0) = false) (u1 : decide (15 < h) = false) (u2 : decide (i < 0) = false) (u3 : decide (63 < i) = false) (u4 : decide (s < 0) = false) (u5 : decide (63 < s) = false) (u6 : decide (k < 0) = false) (u7 : decide (1023 < k) = true) (w : World) :
    Calls Tryz.prog 28 #[dAgg y m d h i s k] w fun e w' => e = .returned (.tuple #[.int .i64 0, .int .i64 80]) ∧ Below w.heap.size w w' := by
  have B1 := Lib.hid (date_block w y m d h i s k)
  have L := fun w => rlong_run y w
  unfold dAgg at *
  rcases D with D1 | ⟨D1, ⟨hl, D2⟩ | ⟨hl, D2⟩⟩
  · cases hl : lng y with
    | true =>
      rw [hl] at L
      clear hl
      go_enter Tryz.func28, Tryz.ntmps28
      go_wp2_with ((go_at_call 51; ((with_reducible refine (L _).mono ?_); rintro e w' ⟨rfl, ⟨n, rfl⟩⟩)))
      go_ret2
      exact ⟨rfl, bl_drewN B1.out _⟩
    | false =>
      rw [hl] at L
      clear hl
      go_enter Tryz.func28, Tryz.ntmps28
      go_wp2_with ((go_at_call 51; ((with_reducible refine (L _).mono ?_); rintro e w' ⟨rfl, ⟨n, rfl⟩⟩)))
      go_ret2
      exact ⟨rfl, bl_drewN B1.out _⟩
  · rw [hl] at L
    clear hl
    go_enter Tryz.func28, Tryz.ntmps28
    go_wp2_with ((go_at_call 51; ((with_reducible refine (L _).mono ?_); rintro e w' ⟨rfl, ⟨n, rfl⟩⟩)))
    go_ret2
    exact ⟨rfl, bl_drewN B1.out _⟩
  · rw [hl] at L
    clear hl
    go_enter Tryz.func28, Tryz.ntmps28
    go_wp2_with ((go_at_call 51; ((with_reducible refine (L _).mono ?_); rintro e w' ⟨rfl, ⟨n, rfl⟩⟩)))
    go_ret2
    exact ⟨rfl, bl_drewN B1.out _⟩
end Go.Proofs.YtpnncmdeidbemaaGreatDoor
