/- Proved here: what the program's From answers: the instant of a date, or the error, over the translated code. -/
import Derived.Test.YtppggaibhfajjaaDai
namespace Go.Proofs.Ytppggaibhfajjaa
open Go.ChangeShapes Go.WideShapes Go.ChangeAt Go.RowKit

theorem bcell {W w1 : World} {B : Nat} (hb : Below B W w1) : (∀ b o, b < B → w1.cell? ⟨b, o, none⟩ = W.cell? ⟨b, o, none⟩) :=
  fun b o h => hb.cell (p := ⟨b, o, none⟩) h
/-- an instant and an error, whatever the date -/
def fromV (y m d h i s k : Int) : Value := if isD y m d h i s k = true ∧ isI (inst y m d h i s k) = true then .tuple #[.int .i64 (inst y m d h i s k), .int .i64 0] else .tuple #[.int .i64 0, .int .i64 80]
theorem fromV_t {y m d h i s k : Int} (H : isD y m d h i s k = true) (I : isI (inst y m d h i s k) = true) : fromV y m d h i s k = .tuple #[.int .i64 (inst y m d h i s k), .int .i64 0] := if_pos ⟨H, I⟩
theorem fromV_f {y m d h i s k : Int} (H : isD y m d h i s k = false) : fromV y m d h i s k = .tuple #[.int .i64 0, .int .i64 80] := if_neg fun h => by rw [H] at h; cases h.1
theorem fromV_i {y m d h i s k : Int} (I : isI (inst y m d h i s k) = false) : fromV y m d h i s k = .tuple #[.int .i64 0, .int .i64 80] := if_neg fun h => by rw [I] at h; cases h.2
theorem date_block (w : World) (y m d h i s k : Int) : Below w.heap.size w (w.alloc (.cells #[.int .i64 y, .int .i64 m, .int .i64 d, .int .i64 h, .int .i64 i, .int .i64 s, .int .i64 k] 23)) := (Below.refl _ _).alloc (Nat.le_refl _) _

theorem from_no {y m d h i s k : Int} (H : isD y m d h i s k = false) (w : World) :
    Calls Try.prog 14 #[dAgg y m d h i s k] w fun e w' => e = .returned (fromV y m d h i s k) ∧ Below w.heap.size w w' := by
  rw [fromV_f H]
  have C := fun w => isdate_f H w
  have B1 := Lib.hid (date_block w y m d h i s k)
  unfold dAgg at *
  clear H
  go_enter Try.func14, Try.ntmps14
  go_wp2_with fail
  refine (C _).mono ?_
  rintro _ w1 ⟨rfl, hb⟩
  replace hb := Lib.hid (B1.out.trans (hb.mono (by simp)))
  clear C B1
  go_wp2_with fail
  go_ret2
  exact ⟨rfl, hb.out⟩
theorem from_far {y m d h i s k : Int} (H : isD y m d h i s k = true) (hy : y < -45965 ∨ 45965 < y) (w : World) :
    Calls Try.prog 14 #[dAgg y m d h i s k] w fun e w' => e = .returned (fromV y m d h i s k) ∧ Below w.heap.size w w' := by
  rw [fromV_i (inst_far H hy)]
  have C := fun w => isdate_t H w
  have C2 := fun w => within_f hy w
  have B1 := Lib.hid (date_block w y m d h i s k)
  unfold dAgg at *
  clear H hy
  go_enter Try.func14, Try.ntmps14
  go_wp2_with fail
  refine (C _).mono ?_
  rintro _ w1 ⟨rfl, hb⟩
  have hc := bcell hb
  replace hb := Lib.hid (B1.out.trans (hb.mono (by simp)))
  clear C B1
  go_wp2_with ((go_at_call 35; ((with_reducible refine (C2 _).mono ?_); rintro e w' ⟨rfl, rfl⟩)))
  go_ret2
  exact ⟨rfl, hb.out⟩
set_option maxHeartbeats 1000000 in
theorem from_in {y m d h i s k : Int} (H : isD y m d h i s k = true) (hI : isI (inst y m d h i s k) = true) (y1 : -45965 ≤ y) (y2 : y ≤ 45965) (w : World) :
    Calls Try.prog 14 #[dAgg y m d h i s k] w fun e w' => e = .returned (fromV y m d h i s k) ∧ Below w.heap.size w w' := by
  rw [fromV_t H hI]
  have C := fun w => isdate_t H w
  have C2 := fun w => within_t y1 y2 w
  have C3 := fun w => firstday_run y (by omega) (by omega) w
  have B1 := Lib.hid (date_block w y m d h i s k)
  obtain ⟨n1, n2⟩ := inst_range H (by omega) (by omega)
  obtain ⟨⟨m1, m2⟩, ⟨d1, d2⟩, ⟨h1, h2⟩, ⟨i1, i2⟩, ⟨s1, s2⟩, ⟨k1, k2⟩⟩ := isD_parts H
  have d3 : d ≤ 28 := by have := mLen_le y m; omega
  obtain ⟨f1, f2⟩ := fdy_range (y := y) (by omega) (by omega)
  have I := fun w => isinst_run (inst y m d h i s k) w
  rw [hI] at I
  have e1 : IntKind.i64.wrap (m - 1) = m - 1 := IntWalk.i64_in _ (by omega)
  have e2 : IntKind.i64.wrap ((m - 1) * 28) = (m - 1) * 28 := IntWalk.i64_in _ (by omega)
  have e3 : IntKind.i64.wrap ((m - 1) * 28 + d) = (m - 1) * 28 + d := IntWalk.i64_in _ (by omega)
  have e4 : IntKind.i64.wrap ((m - 1) * 28 + d - 1) = (m - 1) * 28 + d - 1 := IntWalk.i64_in _ (by omega)
  have e5 : IntKind.i64.wrap (fdy y + ((m - 1) * 28 + d - 1)) = fdy y + ((m - 1) * 28 + d - 1) := IntWalk.i64_in _ (by omega)
  unfold inst at *
  unfold dAgg at *
  clear y1 y2 d2 hI H
  go_enter Try.func14, Try.ntmps14
  go_wp2_with fail
  refine (C _).mono ?_
  rintro _ w1 ⟨rfl, hb⟩
  have hc := bcell hb
  replace hb := Lib.hid (B1.out.trans (hb.mono (by simp)))
  clear C B1
  go_wp2_with ((go_at_call 35; ((with_reducible refine (C2 _).mono ?_); rintro e w' ⟨rfl, rfl⟩)))
  clear C2
  go_quiet ((go_at_call 32; with_reducible refine quiet_as (C3 _)))
  clear e1 e2 e3 e4 e5 C3
  go_wp2_with ((go_at_call 30; ((with_reducible refine (I _).mono ?_); rintro e w' ⟨rfl, rfl⟩)))
  go_ret2
  exact ⟨rfl, bl_drewN hb.out _⟩
set_option maxHeartbeats 1000000 in
theorem from_out {y m d h i s k : Int} (H : isD y m d h i s k = true) (hI : isI (inst y m d h i s k) = false) (y1 : -45965 ≤ y) (y2 : y ≤ 45965) (w : World) :
    Calls Try.prog 14 #[dAgg y m d h i s k] w fun e w' => e = .returned (fromV y m d h i s k) ∧ Below w.heap.size w w' := by
  rw [fromV_i hI]
  have C := fun w => isdate_t H w
  have C2 := fun w => within_t y1 y2 w
  have C3 := fun w => firstday_run y (by omega) (by omega) w
  have B1 := Lib.hid (date_block w y m d h i s k)
  obtain ⟨n1, n2⟩ := inst_range H (by omega) (by omega)
  obtain ⟨⟨m1, m2⟩, ⟨d1, d2⟩, ⟨h1, h2⟩, ⟨i1, i2⟩, ⟨s1, s2⟩, ⟨k1, k2⟩⟩ := isD_parts H
  have d3 : d ≤ 28 := by have := mLen_le y m; omega
  obtain ⟨f1, f2⟩ := fdy_range (y := y) (by omega) (by omega)
  have I := fun w => isinst_run (inst y m d h i s k) w
  rw [hI] at I
  have e1 : IntKind.i64.wrap (m - 1) = m - 1 := IntWalk.i64_in _ (by omega)
  have e2 : IntKind.i64.wrap ((m - 1) * 28) = (m - 1) * 28 := IntWalk.i64_in _ (by omega)
  have e3 : IntKind.i64.wrap ((m - 1) * 28 + d) = (m - 1) * 28 + d := IntWalk.i64_in _ (by omega)
  have e4 : IntKind.i64.wrap ((m - 1) * 28 + d - 1) = (m - 1) * 28 + d - 1 := IntWalk.i64_in _ (by omega)
  have e5 : IntKind.i64.wrap (fdy y + ((m - 1) * 28 + d - 1)) = fdy y + ((m - 1) * 28 + d - 1) := IntWalk.i64_in _ (by omega)
  unfold inst at *
  unfold dAgg at *
  clear y1 y2 d2 hI H
  go_enter Try.func14, Try.ntmps14
  go_wp2_with fail
  refine (C _).mono ?_
  rintro _ w1 ⟨rfl, hb⟩
  have hc := bcell hb
  replace hb := Lib.hid (B1.out.trans (hb.mono (by simp)))
  clear C B1
  go_wp2_with ((go_at_call 35; ((with_reducible refine (C2 _).mono ?_); rintro e w' ⟨rfl, rfl⟩)))
  clear C2
  go_quiet ((go_at_call 32; with_reducible refine quiet_as (C3 _)))
  clear e1 e2 e3 e4 e5 C3
  go_wp2_with ((go_at_call 30; ((with_reducible refine (I _).mono ?_); rintro e w' ⟨rfl, rfl⟩)))
  go_ret2
  exact ⟨rfl, bl_drewN hb.out _⟩
theorem from_run (y m d h i s k : Int) (w : World) :
    Calls Try.prog 14 #[dAgg y m d h i s k] w fun e w' => e = .returned (fromV y m d h i s k) ∧ Below w.heap.size w w' := by
  cases H : isD y m d h i s k with
  | false => exact from_no H w
  | true =>
    by_cases hy : y < -45965 ∨ 45965 < y
    · exact from_far H hy w
    · cases hI : isI (inst y m d h i s k) with
      | true => exact from_in H hI (by omega) (by omega) w
      | false => exact from_out H hI (by omega) (by omega) w
end Go.Proofs.Ytppggaibhfajjaa
