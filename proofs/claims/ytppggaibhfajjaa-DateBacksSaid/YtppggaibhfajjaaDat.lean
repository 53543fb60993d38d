/- Proved here: what To answers, the program's and the reference's: the date of an instant, or the error, over the translated code. -/
import Derived.Test.YtppggaibhfajjaaDac
import Derived.Laws.ResultCell
namespace Go.Proofs.Ytppggaibhfajjaa
open Go.ChangeShapes Go.WideShapes Go.ChangeAt Go.RowKit

/-- a date as a value -/
def dAgg (y m d h i s k : Int) : Value := .agg #[.int .i64 y, .int .i64 m, .int .i64 d, .int .i64 h, .int .i64 i, .int .i64 s, .int .i64 k]
def dateV (t : Int) : Value := dAgg (dYr t) (dMo t) (dDy t) (dHr t) (dMi t) (dSe t) (dTk t)
def noDate : Value := dAgg 0 0 0 0 0 0 0

set_option maxHeartbeats 1000000 in
theorem to_yes (t : Int) (h1 : -1125899906842624 ≤ t) (h2 : t ≤ 1125899906842624) (w : World) :
    Calls Try.prog 12 #[.int .i64 t] w fun e w' => e = .returned (.tuple #[dateV t, .int .i64 0]) ∧ Below w.heap.size w w' := by
  have I := fun w => isinst_run t w
  rw [isI_t h1 h2] at I
  obtain ⟨d, hd⟩ : ∃ d, d = t / 67108864 := ⟨_, rfl⟩
  have C1 := fun w => floor_run t 67108864 (by decide) (by decide) (by omega) (by omega) w
  rw [← hd] at C1
  have C2 := fun w => yearof_run d (by omega) (by omega) w
  obtain ⟨Y, hY⟩ : ∃ Y, Y = yof d := ⟨_, rfl⟩
  have yr := yof_range (d := d) (by omega) (by omega)
  rw [← hY] at C2 yr
  have C3 := fun w => firstday_run Y (by omega) (by omega) w
  obtain ⟨N, hN⟩ : ∃ N, N = dIn t := ⟨_, rfl⟩
  have eN : d - fdy Y = N := by rw [hN, hY, hd]; rfl
  obtain ⟨R, hR⟩ : ∃ R, R = t % 67108864 := ⟨_, rfl⟩
  have eR : t - d * 67108864 = R := by omega
  have eV : dateV t = .agg #[.int .i64 Y, .int .i64 (N / 28 + 1), .int .i64 (N % 28 + 1), .int .i64 (R / 4194304), .int .i64 (R % 4194304 / 65536), .int .i64 (R % 65536 / 1024), .int .i64 (R % 1024)] := by
    unfold dateV dAgg dMo dDy dHr dMi dSe dTk
    rw [← hN, ← hR]
    unfold dYr
    rw [← hd, ← hY]
  rw [eV]
  have n1 := dIn_range t
  have n3 := fdy_more (dYr t)
  rw [← hN] at n1
  have n2 : N ≤ 365 := by omega
  obtain ⟨n1, _⟩ := n1
  have r1 : 0 ≤ R := by omega
  have r2 : R < 67108864 := by omega
  have r3 : 0 ≤ R % 4194304 := by omega
  have r4 : 0 ≤ R % 65536 := by omega
  clear eV hN hR n3
  have f1 := fdy_range (y := Y) (by omega) (by omega)
  have d1 : -16777216 ≤ d := by omega
  have d2 : d ≤ 16777216 := by omega
  replace hd := Lib.hid hd
  replace hY := Lib.hid hY
  obtain ⟨f1, f2⟩ := f1
  obtain ⟨yr, yr2⟩ := yr
  clear yr yr2
  go_enter Try.func12, Try.ntmps12
  go_wp2_with (first | (go_at_call 30; ((with_reducible refine (I _).mono ?_); rintro e w' ⟨rfl, rfl⟩)) | (go_at_call 28; ((with_reducible refine (C1 _).mono ?_); rintro e w' ⟨rfl, rfl⟩)) | (go_at_call 31; ((with_reducible refine (C2 _).mono ?_); rintro e w' ⟨rfl, rfl⟩)) | (go_at_call 32; ((with_reducible refine (C3 _).mono ?_); rintro e w' ⟨rfl, rfl⟩)))
  refine bodyPost_ret (v := .tuple #[.agg #[.int .i64 Y, .int .i64 (N / 28 + 1), .int .i64 (N % 28 + 1), .int .i64 (R / 4194304), .int .i64 (R % 4194304 / 65536), .int .i64 (R % 65536 / 1024), .int .i64 (R % 1024)], .int .i64 0]) ?_ rfl ⟨rfl, (Below.refl _ _).alloc (Nat.le_refl _) _⟩
  rw [results_cell_tmp rfl]; go_simp
theorem to_no (t : Int) (h : t < -1125899906842624 ∨ 1125899906842624 < t) (w : World) :
    Calls Try.prog 12 #[.int .i64 t] w fun e w' => e = .returned (.tuple #[noDate, .int .i64 80]) ∧ Below w.heap.size w w' := by
  have I := fun w => isinst_run t w
  rw [isI_f h] at I
  unfold noDate dAgg
  clear h
  go_enter Try.func12, Try.ntmps12
  go_wp2_with (go_at_call 30; ((with_reducible refine (I _).mono ?_); rintro e w' ⟨rfl, rfl⟩))
  refine bodyPost_ret (v := .tuple #[.agg #[.int .i64 0, .int .i64 0, .int .i64 0, .int .i64 0, .int .i64 0, .int .i64 0, .int .i64 0], .int .i64 80]) ?_ rfl ⟨rfl, (Below.refl _ _).alloc (Nat.le_refl _) _⟩
  rw [results_cell_tmp rfl]; go_simp
/-- a date and an error, whatever the instant -/
def toV (t : Int) : Value := if isI t = true then .tuple #[dateV t, .int .i64 0] else .tuple #[noDate, .int .i64 80]
theorem toV_t {t : Int} (h : isI t = true) : toV t = .tuple #[dateV t, .int .i64 0] := if_pos h
theorem toV_f {t : Int} (h : isI t = false) : toV t = .tuple #[noDate, .int .i64 80] := if_neg (by rw [h]; decide)
theorem to_run (t : Int) (w : World) : Calls Try.prog 12 #[.int .i64 t] w fun e w' => e = .returned (toV t) ∧ Below w.heap.size w w' := by
  cases h : isI t with
  | true => rw [toV_t h]; exact to_yes t (isI_b h).1 (isI_b h).2 w
  | false => rw [toV_f h]; exact to_no t (isI_n h) w

theorem rto_no (t : Int) (h : t < -1125899906842624 ∨ 1125899906842624 < t) (w : World) :
    Calls Try.prog 13 #[.int .i64 t] w fun e w' => e = .returned (.tuple #[noDate, .int .i64 80]) ∧ Below w.heap.size w w' := by
  unfold noDate dAgg
  rcases h with h | h
  · have t1 : decide (t < -1125899906842624) = true := decide_eq_true h
    clear h
    go_enter Try.func13, Try.ntmps13
    go_wp2_with fail
    refine bodyPost_ret (v := .tuple #[.agg #[.int .i64 0, .int .i64 0, .int .i64 0, .int .i64 0, .int .i64 0, .int .i64 0, .int .i64 0], .int .i64 80]) ?_ rfl ⟨rfl, (Below.refl _ _).alloc (Nat.le_refl _) _⟩
    rw [results_cell_tmp rfl]; go_simp
  · have t1 : decide (t < -1125899906842624) = false := decide_eq_false (by omega)
    have t2 : decide (1125899906842624 < t) = true := decide_eq_true h
    clear h
    go_enter Try.func13, Try.ntmps13
    go_wp2_with fail
    refine bodyPost_ret (v := .tuple #[.agg #[.int .i64 0, .int .i64 0, .int .i64 0, .int .i64 0, .int .i64 0, .int .i64 0, .int .i64 0], .int .i64 80]) ?_ rfl ⟨rfl, (Below.refl _ _).alloc (Nat.le_refl _) _⟩
    rw [results_cell_tmp rfl]; go_simp
theorem bl_drewN {B : Nat} {a w : World} (h : Below B a w) (n : Nat) : Below B a (w.drewN n) := ⟨h.os, h.tape, h.output, h.size, h.block⟩
theorem i64_and63 (n : Int) : bits .and .i64 n 63 = n % 64 := by
  have h63 : (BitVec.ofInt 64 63).toNat = 2 ^ 6 - 1 := by decide
  have key : (BitVec.ofInt 64 n &&& BitVec.ofInt 64 63).toNat = (n % ((2 ^ 64 : Nat) : Int)).toNat % 2 ^ 6 := by
    rw [BitVec.toNat_and, BitVec.toNat_ofInt, h63, Nat.and_two_pow_sub_one_eq_mod]
  show IntKind.i64.wrap ((BitVec.ofInt 64 n &&& BitVec.ofInt 64 63).toNat : Nat) = n % 64
  rw [key, IntKind.wrap_i64]
  omega
theorem i64_and1023 (n : Int) : bits .and .i64 n 1023 = n % 1024 := by
  have h : (BitVec.ofInt 64 1023).toNat = 2 ^ 10 - 1 := by decide
  have key : (BitVec.ofInt 64 n &&& BitVec.ofInt 64 1023).toNat = (n % ((2 ^ 64 : Nat) : Int)).toNat % 2 ^ 10 := by
    rw [BitVec.toNat_and, BitVec.toNat_ofInt, h, Nat.and_two_pow_sub_one_eq_mod]
  show IntKind.i64.wrap ((BitVec.ofInt 64 n &&& BitVec.ofInt 64 1023).toNat : Nat) = n % 1024
  rw [key, IntKind.wrap_i64]
  omega
set_option maxHeartbeats 1000000 in
theorem rto_yes (t : Int) (h1 : -1125899906842624 ≤ t) (h2 : t ≤ 1125899906842624) (w : World) :
    Calls Try.prog 13 #[.int .i64 t] w fun e w' => e = .returned (.tuple #[dateV t, .int .i64 0]) ∧ Below w.heap.size w w' := by
  have t1 : decide (t < -1125899906842624) = false := decide_eq_false (by omega)
  have t2 : decide (1125899906842624 < t) = false := decide_eq_false (by omega)
  obtain ⟨d, hd⟩ : ∃ d, d = t / 67108864 := ⟨_, rfl⟩
  obtain ⟨R, hR⟩ : ∃ R, R = t % 67108864 := ⟨_, rfl⟩
  have C1 := fun w => rfloor_run t 67108864 (by decide) (by decide) (by omega) (by omega) w
  rw [← hd, ← hR] at C1
  have C2 := fun w => rfloor_run d 366 (by decide) (by decide) (by omega) (by omega) w
  obtain ⟨g, hg⟩ : ∃ g, g = d / 366 := ⟨_, rfl⟩
  rw [← hg] at C2
  have g1 : -46000 ≤ g := by omega
  have g2 : g ≤ 46000 := by omega
  have d1 : -16777216 ≤ d := by omega
  have d2 : d ≤ 16777216 := by omega
  have r1 : 0 ≤ R := by omega
  have r2 : R < 67108864 := by omega
  replace hd := Lib.hid hd
  replace hR := Lib.hid hR
  replace hg := Lib.hid hg
  clear h1 h2
  go_enter Try.func13, Try.ntmps13
  go_wp2_with (first | (go_at_call 29; ((with_reducible refine (C1 _).mono ?_); rintro e w' ⟨rfl, ⟨n, rfl⟩⟩)) | (go_at_call 29; ((with_reducible refine (C2 _).mono ?_); rintro e w' ⟨rfl, ⟨n, rfl⟩⟩)))
  go_loopw [6] (fun y6 wr => ∃ (y : Int) (m : Nat), -46000 ≤ y ∧ y ≤ 46000 ∧ y6 = .int .i64 y ∧ wr = (w.alloc (.cells #[.int .i64 0, .int .i64 0, .int .i64 0, .int .i64 0, .int .i64 0, .int .i64 0, .int .i64 0] 23)).drewN m) (fun y6 _ => (46000 - intOf y6).toNat)
  case atStart => exact ⟨g, _, g1, g2, rfl, rfl⟩
  case round =>
    obtain ⟨y, m, y1, y2, rfl, rfl⟩ := hrel
    have C3 := fun w => before_run (y + 1) (by omega) (by omega) w
    by_cases hlt : fdy (y + 1) ≤ d
    · have hy : y + 1 ≤ 46000 := by
        have e : ¬ 46000 ≤ y := fun h => by
          have := fdy_mono (a := 46001) (b := y + 1) (by omega)
          have e : fdy 46001 = 16801516 := by decide
          omega
        omega
      have tt : decide (fdy (y + 1) ≤ d) = true := decide_eq_true hlt
      replace hlt := Lib.hid hlt
      go_wp2_with (go_at_call 33; ((with_reducible refine (C3 _).mono ?_); rintro e w' ⟨rfl, ⟨n, rfl⟩⟩))
      go_roundw
      case rel => exact ⟨y + 1, _, by omega, hy, rfl, rfl⟩
      case measure => simp [intOf]; omega
    · have tt : decide (fdy (y + 1) ≤ d) = false := decide_eq_false hlt
      have hlt' := Lib.hid hlt
      clear hlt
      go_wp2_with (go_at_call 33; ((with_reducible refine (C3 _).mono ?_); rintro e w' ⟨rfl, ⟨n, rfl⟩⟩))
      clear tt C3 C1 C2
      go_loopw [6] (fun y6 wr => ∃ (z : Int) (m : Nat), -46000 ≤ z ∧ z ≤ 46000 ∧ d < fdy (z + 1) ∧ y6 = .int .i64 z ∧ wr = (w.alloc (.cells #[.int .i64 0, .int .i64 0, .int .i64 0, .int .i64 0, .int .i64 0, .int .i64 0, .int .i64 0] 23)).drewN m) (fun y6 _ => (intOf y6 + 46000).toNat)
      case atStart => exact ⟨y, _, y1, y2, by have := hlt'.out; omega, rfl, rfl⟩
      case round =>
        obtain ⟨z, m, z1, z2, zd, rfl, rfl⟩ := hrel
        clear y1 y2 hlt'
        have C4 := fun w => before_run z (by omega) (by omega) w
        by_cases hgt : d < fdy z
        · have hz : -46000 ≤ z - 1 := by
            have e : ¬ z ≤ -46000 := fun h => by
              have := fdy_mono (a := z) (b := -46000) (by omega)
              have e : fdy (-46000) = -16801152 := by decide
              omega
            omega
          have tt : decide (d < fdy z) = true := decide_eq_true hgt
          have hg2 : Hid (d < fdy (z - 1 + 1)) := by
            have e : z - 1 + 1 = z := by omega
            rw [e]; exact hgt
          clear hgt zd
          go_wp2_with (go_at_call 33; ((with_reducible refine (C4 _).mono ?_); rintro e w' ⟨rfl, ⟨n, rfl⟩⟩))
          go_roundw
          case rel => exact ⟨z - 1, _, hz, by omega, hg2.out, rfl, rfl⟩
          case measure => simp [intOf]; omega
        · have tt : decide (d < fdy z) = false := decide_eq_false hgt
          have ez : z = dYr t := by
            unfold dYr
            rw [← hd.out]
            exact (yof_is (by omega) zd).symm
          obtain ⟨N, hN⟩ : ∃ N, N = dIn t := ⟨_, rfl⟩
          have eN : d - fdy z = N := by rw [hN, ez, hd.out]; rfl
          have n1 := dIn_range t
          have n3 := fdy_more (dYr t)
          rw [← hN] at n1
          have n2 : N ≤ 365 := by omega
          obtain ⟨n1, _⟩ := n1
          have eV : dateV t = .agg #[.int .i64 z, .int .i64 (N / 28 + 1), .int .i64 (N % 28 + 1), .int .i64 (R / 4194304), .int .i64 (R % 4194304 / 65536), .int .i64 (R % 65536 / 1024), .int .i64 (R % 1024)] := by
            unfold dateV dAgg dMo dDy dHr dMi dSe dTk
            rw [← hN, ← hR.out, ez]
          replace eV := Lib.hid eV
          clear hN ez hgt zd n3
          have f1 := fdy_range (y := z) (by omega) (by omega)
          obtain ⟨f1, f2⟩ := f1
          have b1 : bits BinOp.and IntKind.i64 (R / 65536) 63 = R % 4194304 / 65536 := by rw [i64_and63]; omega
          have b2 : bits BinOp.and IntKind.i64 (R / 1024) 63 = R % 65536 / 1024 := by rw [i64_and63]; omega
          have b3 : bits BinOp.and IntKind.i64 R 1023 = R % 1024 := i64_and1023 R
          go_wp2_with (go_at_call 33; ((with_reducible refine (C4 _).mono ?_); rintro e w' ⟨rfl, ⟨n, rfl⟩⟩))
          refine bodyPost_ret (v := .tuple #[.agg #[.int .i64 z, .int .i64 (N / 28 + 1), .int .i64 (N % 28 + 1), .int .i64 (R / 4194304), .int .i64 (R % 4194304 / 65536), .int .i64 (R % 65536 / 1024), .int .i64 (R % 1024)], .int .i64 0]) ?_ rfl ⟨by rw [eV.out], ?_⟩
          · rw [results_cell_tmp rfl]; go_simp
          · exact (((((((bl_drewN ((Below.refl w.heap.size w).alloc (Nat.le_refl _) _) _).setCell (by simp) _).setCell (by simp) _).setCell (by simp) _).setCell (by simp) _).setCell (by simp) _).setCell (by simp) _).setCell (by simp) _
theorem rto_run (t : Int) (w : World) : Calls Try.prog 13 #[.int .i64 t] w fun e w' => e = .returned (toV t) ∧ Below w.heap.size w w' := by
  cases h : isI t with
  | true => rw [toV_t h]; exact rto_yes t (isI_b h).1 (isI_b h).2 w
  | false => rw [toV_f h]; exact rto_no t (isI_n h) w
end Go.Proofs.Ytppggaibhfajjaa
