/- Proved here: what the texts Sdm, Dam, Dac, Dat, Sdc, Sdr, Sdf, Dai prove, one behind the other. -/
import Derived.Test.YtocnpcjpkieogaaGreatDoorRows
import Derived.Lib.Hide
import Derived.WalkKit
import Derived.ProofKit
import Derived.OpenShut
import Derived.IntWalk
import Derived.Deep.QuietTactic
import Derived.BigQuiet
import Derived.OwnWalk
import Derived.Carry
import Derived.SizedLaws
import Derived.Laws.ResultCell
import Derived.Laws.MakeOwn
import Derived.Laws.BytesArg
import Derived.Laws.Strings
import Derived.Laws.Strings2
import Derived.Laws.Strings3
import Derived.Laws.Concat
import Derived.Shelf.Bits.Mul64
import Derived.Laws.BitsAllLaws
import Derived.Laws.Externs

namespace Go.Proofs.YtocnpcjpkieogaaGreatDoor

/-- the last w decimal digits of n, as bytes -/
def dgI : Nat → Nat → List Int
  | 0, _ => []
  | w + 1, n => dgI w (n / 10) ++ [48 + ((n % 10 : Nat) : Int)]
theorem dgI_succ (w n : Nat) : dgI (w + 1) n = dgI w (n / 10) ++ [48 + ((n % 10 : Nat) : Int)] := rfl
theorem dgI_len : ∀ w n, (dgI w n).length = w
  | 0, _ => rfl
  | w + 1, n => by rw [dgI_succ, List.length_append, dgI_len w]; rfl
theorem dgI_digit : ∀ w n x, x ∈ dgI w n → 48 ≤ x ∧ x ≤ 57
  | 0, _, _, h => by simp [dgI] at h
  | w + 1, n, x, h => by
    rw [dgI_succ, List.mem_append] at h
    rcases h with h | h
    · exact dgI_digit w _ x h
    · simp only [List.mem_singleton] at h
      omega
/-- the number that digits write -/
def numI : List Int → Nat → Nat
  | [], a => a
  | x :: l, a => numI l (a * 10 + (x - 48).toNat)
theorem numI_app : ∀ (l m : List Int) (a : Nat), numI (l ++ m) a = numI m (numI l a)
  | [], _, _ => rfl
  | _ :: l, m, _ => numI_app l m _
theorem numI_lt : ∀ (l : List Int), (∀ x ∈ l, 48 ≤ x ∧ x ≤ 57) → ∀ a, numI l a < (a + 1) * 10 ^ l.length
  | [], _, _ => by simp [numI]
  | x :: l, h, a => by
    have hx := h x (by simp)
    have := numI_lt l (fun y hy => h y (by simp [hy])) (a * 10 + (x - 48).toNat)
    have e : (a * 10 + (x - 48).toNat + 1) * 10 ^ l.length ≤ (a + 1) * 10 * 10 ^ l.length := Nat.mul_le_mul_right _ (by omega)
    simp only [numI, List.length_cons, Nat.pow_succ]
    rw [Nat.mul_comm (10 ^ l.length) 10, ← Nat.mul_assoc]
    omega
end Go.Proofs.YtocnpcjpkieogaaGreatDoor

namespace Go.Proofs.YtocnpcjpkieogaaGreatDoor

/-- the day with which a year begins -/
def fdy (y : Int) : Int := (12053 * y + 5) / 33
/-- the year of a day -/
def yof (d : Int) : Int := (33 * (d + 1) - 6) / 12053
def lng (y : Int) : Bool := decide (25 ≤ (8 * y + 5) % 33)
theorem fdy_le (d : Int) : fdy (yof d) ≤ d := by unfold fdy yof; omega
theorem fdy_gt (d : Int) : d < fdy (yof d + 1) := by unfold fdy yof; omega
theorem before_is (y : Int) : 365 * y + (8 * y + 5) / 33 = fdy y := by unfold fdy; omega
theorem fdy_next (y : Int) : fdy (y + 1) = fdy y + (if lng y = true then 366 else 365) := by
  rw [← before_is, ← before_is]
  unfold lng
  simp only [decide_eq_true_eq]
  split <;> omega
theorem fdy_more (y : Int) : fdy (y + 1) ≤ fdy y + 366 := by unfold fdy; omega
theorem fdy_range {y : Int} (h1 : -50001 ≤ y) (h2 : y ≤ 50001) : -20000000 ≤ fdy y ∧ fdy y ≤ 20000000 := by unfold fdy; omega
theorem yof_range {d : Int} (h1 : -16777216 ≤ d) (h2 : d ≤ 16777216) : -45965 ≤ yof d ∧ yof d ≤ 45965 := by unfold yof; omega

/-! ### dates -/
def dYr (t : Int) : Int := yof (t / 67108864)
def dIn (t : Int) : Int := t / 67108864 - fdy (dYr t)
def dMo (t : Int) : Int := dIn t / 28 + 1
def dDy (t : Int) : Int := dIn t % 28 + 1
def dHr (t : Int) : Int := t % 67108864 / 4194304
def dMi (t : Int) : Int := t % 67108864 % 4194304 / 65536
def dSe (t : Int) : Int := t % 67108864 % 65536 / 1024
def dTk (t : Int) : Int := t % 67108864 % 1024
/-- how many days a month has -/
def mLen (y m : Int) : Int := if m < 14 then 28 else if lng y = true then 2 else 1
/-- is there such a date? -/
def isD (y m d h i s k : Int) : Bool := decide ((1 ≤ m ∧ m ≤ 14) ∧ (1 ≤ d ∧ d ≤ mLen y m) ∧ (0 ≤ h ∧ h ≤ 15) ∧ (0 ≤ i ∧ i ≤ 63) ∧ (0 ≤ s ∧ s ≤ 63) ∧ (0 ≤ k ∧ k ≤ 1023))
def isI (t : Int) : Bool := decide (-1125899906842624 ≤ t ∧ t ≤ 1125899906842624)
theorem isI_t {t : Int} (h1 : -1125899906842624 ≤ t) (h2 : t ≤ 1125899906842624) : isI t = true := decide_eq_true ⟨h1, h2⟩
theorem isI_f {t : Int} (h : t < -1125899906842624 ∨ 1125899906842624 < t) : isI t = false := decide_eq_false (by omega)
theorem isI_b {t : Int} (h : isI t = true) : -1125899906842624 ≤ t ∧ t ≤ 1125899906842624 := of_decide_eq_true h
theorem isI_n {t : Int} (h : isI t = false) : t < -1125899906842624 ∨ 1125899906842624 < t := by have := of_decide_eq_false h; omega
theorem dIn_range (t : Int) : 0 ≤ dIn t ∧ dIn t < fdy (dYr t + 1) - fdy (dYr t) := by
  have a := fdy_le (t / 67108864)
  have b := fdy_gt (t / 67108864)
  unfold dIn dYr
  omega
theorem mLen_le (y m : Int) : 1 ≤ mLen y m ∧ mLen y m ≤ 28 := by unfold mLen; split <;> (try split) <;> omega
/-- the date of an instant is one -/
theorem isD_of (t : Int) : isD (dYr t) (dMo t) (dDy t) (dHr t) (dMi t) (dSe t) (dTk t) = true := by
  have a := dIn_range t
  rw [fdy_next] at a
  unfold isD
  simp only [decide_eq_true_eq]
  unfold dMo dDy dHr dMi dSe dTk mLen
  revert a
  generalize dIn t = n
  split <;> intro a <;> refine ⟨by omega, ?_, by omega, by omega, by omega, by omega⟩ <;> split <;> omega
theorem isD_parts {y m d h i s k : Int} (H : isD y m d h i s k = true) : (1 ≤ m ∧ m ≤ 14) ∧ (1 ≤ d ∧ d ≤ mLen y m) ∧ (0 ≤ h ∧ h ≤ 15) ∧ (0 ≤ i ∧ i ≤ 63) ∧ (0 ≤ s ∧ s ≤ 63) ∧ (0 ≤ k ∧ k ≤ 1023) := of_decide_eq_true H
/-! ### in order -/
/-! ### years -/
/-! ### Go's division -/
theorem floor_neg {a b : Int} (hb : 0 < b) (h : a.tmod b < 0) : a.tdiv b - 1 = a / b ∧ a.tmod b + b = a % b := by
  have h1 := Int.tmod_add_mul_tdiv a b
  have h3 : -b < a.tmod b := Int.lt_tmod_of_pos a hb
  have e : (a.tdiv b - 1) * b = b * a.tdiv b - b := by rw [Int.sub_mul, Int.one_mul, Int.mul_comm]
  have q : a / b = a.tdiv b - 1 := (Int.ediv_eq_iff_of_pos hb).2 ⟨by omega, by omega⟩
  have m := Int.emod_add_mul_ediv a b
  rw [q, Int.mul_comm b (a.tdiv b - 1), e] at m
  exact ⟨q.symm, by omega⟩
theorem floor_pos {a b : Int} (hb : 0 < b) (h : ¬ a.tmod b < 0) : a.tdiv b = a / b ∧ a.tmod b = a % b := by
  have h1 := Int.tmod_add_mul_tdiv a b
  have h2 := Int.tmod_lt_of_pos a hb
  have e : a.tdiv b * b = b * a.tdiv b := Int.mul_comm _ _
  have q : a / b = a.tdiv b := (Int.ediv_eq_iff_of_pos hb).2 ⟨by omega, by omega⟩
  have m := Int.emod_add_mul_ediv a b
  rw [q] at m
  exact ⟨q.symm, by omega⟩
theorem ediv_in {a b : Int} (hb : 0 < b) (h1 : -9000000000000000000 ≤ a) (h2 : a ≤ 9000000000000000000) : -9000000000000000000 ≤ a / b ∧ a / b ≤ 9000000000000000000 := by
  constructor
  · rw [Int.le_ediv_iff_mul_le hb]
    have : -9000000000000000000 * b ≤ -9000000000000000000 * 1 := by omega
    omega
  · by_cases h : 0 ≤ a
    · exact Int.le_trans (Int.ediv_le_self b h) h2
    · have := Int.ediv_neg_of_neg_of_pos (by omega : a < 0) hb
      omega
end Go.Proofs.YtocnpcjpkieogaaGreatDoor

namespace Go.Proofs.YtocnpcjpkieogaaGreatDoor
open Go.ChangeShapes Go.WideShapes Go.ChangeAt Go.RowKit

theorem ret_i {k : IntKind} {a b : Int} (h : a = b) : Ending.returned (.int k a) = .returned (.int k b) := by rw [h]
theorem ret_bo {a b : Bool} (h : a = b) : Ending.returned (.bool a) = .returned (.bool b) := by rw [h]

set_option maxRecDepth 100000 in
theorem floor_run (a b : Int) (hb : 0 < b) (hb2 : b ≤ 67108864) (h1 : -9000000000000000000 ≤ a) (h2 : a ≤ 9000000000000000000) (w : World) :
    Calls Tryz.prog 43 #[.int .i64 a, .int .i64 b] w fun e w' => e = .returned (.int .i64 (a / b)) ∧ w = w' := by
  obtain ⟨q1, q2⟩ := ediv_in hb h1 h2
  have b0 : (b == 0) = false := by simp; omega
  by_cases h : a.tmod b < 0
  · obtain ⟨e, _⟩ := floor_neg hb h
    go_enter Tryz.func43, Tryz.ntmps43
    go_wp2
    go_ret
    exact ⟨rfl, rfl⟩
  · obtain ⟨e, _⟩ := floor_pos hb h
    go_enter Tryz.func43, Tryz.ntmps43
    go_wp2
    go_ret
    exact ⟨rfl, rfl⟩
set_option maxRecDepth 100000 in
theorem isinst_run (t : Int) (w : World) : Calls Tryz.prog 42 #[.int .i64 t] w fun e w' => e = .returned (.bool (isI t)) ∧ w = w' := by
  by_cases h1 : -1125899906842624 ≤ t
  · have t1 : decide (-1125899906842624 ≤ t) = true := decide_eq_true h1
    by_cases h2 : t ≤ 1125899906842624
    · have t2 : decide (t ≤ 1125899906842624) = true := decide_eq_true h2
      rw [isI_t h1 h2]
      go_enter Tryz.func42, Tryz.ntmps42
      go_wp2_with go_in
      go_ret
      exact ⟨rfl, rfl⟩
    · have t2 : decide (t ≤ 1125899906842624) = false := decide_eq_false h2
      rw [isI_f (by omega)]
      go_enter Tryz.func42, Tryz.ntmps42
      go_wp2_with go_in
      go_ret
      exact ⟨rfl, rfl⟩
  · have t1 : decide (-1125899906842624 ≤ t) = false := decide_eq_false h1
    rw [isI_f (by omega)]
    go_enter Tryz.func42, Tryz.ntmps42
    go_wp2_with go_in
    go_ret
    exact ⟨rfl, rfl⟩
set_option maxRecDepth 100000 in
theorem yearof_run (d : Int) (h1 : -100000000 ≤ d) (h2 : d ≤ 100000000) (w : World) : Calls Tryz.prog 44 #[.int .i64 d] w fun e w' => e = .returned (.int .i64 (yof d)) ∧ w = w' := by
  unfold yof
  have C := fun w => floor_run (33 * (d + 1) - 6) 12053 (by decide) (by decide) (by omega) (by omega) w
  go_enter Tryz.func44, Tryz.ntmps44
  go_wp2_with (go_at_call 43; ((with_reducible refine (C _).mono ?_); rintro e w' ⟨rfl, rfl⟩))
  go_ret
  exact ⟨rfl, rfl⟩
set_option maxRecDepth 100000 in
theorem firstday_run (y : Int) (h1 : -100000000 ≤ y) (h2 : y ≤ 100000000) (w : World) : Calls Tryz.prog 45 #[.int .i64 y] w fun e w' => e = .returned (.int .i64 (fdy y)) ∧ w = w' := by
  unfold fdy
  have C := fun w => floor_run (12053 * y + 5) 33 (by decide) (by decide) (by omega) (by omega) w
  go_enter Tryz.func45, Tryz.ntmps45
  go_wp2_with (go_at_call 43; ((with_reducible refine (C _).mono ?_); rintro e w' ⟨rfl, rfl⟩))
  go_ret
  exact ⟨rfl, rfl⟩
end Go.Proofs.YtocnpcjpkieogaaGreatDoor

namespace Go.Proofs.YtocnpcjpkieogaaGreatDoor
open Go.ChangeShapes Go.WideShapes Go.ChangeAt Go.RowKit

/-- a date as a value -/
def dAgg (y m d h i s k : Int) : Value := .agg #[.int .i64 y, .int .i64 m, .int .i64 d, .int .i64 h, .int .i64 i, .int .i64 s, .int .i64 k]
def dateV (t : Int) : Value := dAgg (dYr t) (dMo t) (dDy t) (dHr t) (dMi t) (dSe t) (dTk t)
def noDate : Value := dAgg 0 0 0 0 0 0 0

set_option maxRecDepth 100000 in
set_option maxHeartbeats 1000000 in
theorem to_yes (t : Int) (h1 : -1125899906842624 ≤ t) (h2 : t ≤ 1125899906842624) (w : World) :
    Calls Tryz.prog 26 #[.int .i64 t] w fun e w' => e = .returned (.tuple #[dateV t, .int .i64 0]) ∧ Below w.heap.size w w' := by
  have I := fun w => isinst_run t w
  rw [isI_t h1 h2] at I
  obtain ⟨d, hd⟩ : ∃ d, d = t / 67108864 := ⟨_, rfl⟩
  have C1 := fun w => floor_run t 67108864 (by decide) (by decide) (by omega) (by omega) w
  rw [← hd] at C1
  have C2 := fun w => yearof_run d (by omega) (by omega) w
  obtain ⟨Y, hY⟩ : ∃ Y, Y = yof d := ⟨_, rfl⟩
  have yr := yof_range (d := d) (by omega) (by omega)
  rw [← hY] at C2 yr
  have C3 := fun w => firstday_run Y (by omega) (by omega) w
  obtain ⟨N, hN⟩ : ∃ N, N = dIn t := ⟨_, rfl⟩
  have eN : d - fdy Y = N := by rw [hN, hY, hd]; rfl
  obtain ⟨R, hR⟩ : ∃ R, R = t % 67108864 := ⟨_, rfl⟩
  have eR : t - d * 67108864 = R := by omega
  have eV : dateV t = .agg #[.int .i64 Y, .int .i64 (N / 28 + 1), .int .i64 (N % 28 + 1), .int .i64 (R / 4194304), .int .i64 (R % 4194304 / 65536), .int .i64 (R % 65536 / 1024), .int .i64 (R % 1024)] := by
    unfold dateV dAgg dMo dDy dHr dMi dSe dTk
    rw [← hN, ← hR]
    unfold dYr
    rw [← hd, ← hY]
  rw [eV]
  have n1 := dIn_range t
  have n3 := fdy_more (dYr t)
  rw [← hN] at n1
  have n2 : N ≤ 365 := by omega
  obtain ⟨n1, _⟩ := n1
  have r1 : 0 ≤ R := by omega
  have r2 : R < 67108864 := by omega
  have r3 : 0 ≤ R % 4194304 := by omega
  have r4 : 0 ≤ R % 65536 := by omega
  clear eV hN hR n3
  have f1 := fdy_range (y := Y) (by omega) (by omega)
  have d1 : -16777216 ≤ d := by omega
  have d2 : d ≤ 16777216 := by omega
  replace hd := Lib.hid hd
  replace hY := Lib.hid hY
  obtain ⟨f1, f2⟩ := f1
  obtain ⟨yr, yr2⟩ := yr
  clear yr yr2
  go_enter Tryz.func26, Tryz.ntmps26
  go_wp2_with (first | (go_at_call 42; ((with_reducible refine (I _).mono ?_); rintro e w' ⟨rfl, rfl⟩)) | (go_at_call 43; ((with_reducible refine (C1 _).mono ?_); rintro e w' ⟨rfl, rfl⟩)) | (go_at_call 44; ((with_reducible refine (C2 _).mono ?_); rintro e w' ⟨rfl, rfl⟩)) | (go_at_call 45; ((with_reducible refine (C3 _).mono ?_); rintro e w' ⟨rfl, rfl⟩)))
  refine bodyPost_ret (v := .tuple #[.agg #[.int .i64 Y, .int .i64 (N / 28 + 1), .int .i64 (N % 28 + 1), .int .i64 (R / 4194304), .int .i64 (R % 4194304 / 65536), .int .i64 (R % 65536 / 1024), .int .i64 (R % 1024)], .int .i64 0]) ?_ rfl ⟨rfl, (Below.refl _ _).alloc (Nat.le_refl _) _⟩
  rw [results_cell_tmp rfl]; go_simp
set_option maxRecDepth 100000 in
theorem to_no (t : Int) (h : t < -1125899906842624 ∨ 1125899906842624 < t) (w : World) :
    Calls Tryz.prog 26 #[.int .i64 t] w fun e w' => e = .returned (.tuple #[noDate, .int .i64 80]) ∧ Below w.heap.size w w' := by
  have I := fun w => isinst_run t w
  rw [isI_f h] at I
  unfold noDate dAgg
  clear h
  go_enter Tryz.func26, Tryz.ntmps26
  go_wp2_with (go_at_call 42; ((with_reducible refine (I _).mono ?_); rintro e w' ⟨rfl, rfl⟩))
  refine bodyPost_ret (v := .tuple #[.agg #[.int .i64 0, .int .i64 0, .int .i64 0, .int .i64 0, .int .i64 0, .int .i64 0, .int .i64 0], .int .i64 80]) ?_ rfl ⟨rfl, (Below.refl _ _).alloc (Nat.le_refl _) _⟩
  rw [results_cell_tmp rfl]; go_simp
/-- a date and an error, whatever the instant -/
def toV (t : Int) : Value := if isI t = true then .tuple #[dateV t, .int .i64 0] else .tuple #[noDate, .int .i64 80]
theorem toV_t {t : Int} (h : isI t = true) : toV t = .tuple #[dateV t, .int .i64 0] := if_pos h
theorem toV_f {t : Int} (h : isI t = false) : toV t = .tuple #[noDate, .int .i64 80] := if_neg (by rw [h]; decide)
set_option maxRecDepth 100000 in
theorem to_run (t : Int) (w : World) : Calls Tryz.prog 26 #[.int .i64 t] w fun e w' => e = .returned (toV t) ∧ Below w.heap.size w w' := by
  cases h : isI t with
  | true => rw [toV_t h]; exact to_yes t (isI_b h).1 (isI_b h).2 w
  | false => rw [toV_f h]; exact to_no t (isI_n h) w

theorem bl_drewN {B : Nat} {a w : World} (h : Below B a w) (n : Nat) : Below B a (w.drewN n) := ⟨h.os, h.tape, h.output, h.size, h.block⟩
theorem i64_and63 (n : Int) : bits .and .i64 n 63 = n % 64 := by
  have h63 : (BitVec.ofInt 64 63).toNat = 2 ^ 6 - 1 := by decide
  have key : (BitVec.ofInt 64 n &&& BitVec.ofInt 64 63).toNat = (n % ((2 ^ 64 : Nat) : Int)).toNat % 2 ^ 6 := by
    rw [BitVec.toNat_and, BitVec.toNat_ofInt, h63, Nat.and_two_pow_sub_one_eq_mod]
  show IntKind.i64.wrap ((BitVec.ofInt 64 n &&& BitVec.ofInt 64 63).toNat : Nat) = n % 64
  rw [key, IntKind.wrap_i64]
  omega
end Go.Proofs.YtocnpcjpkieogaaGreatDoor

namespace Go.Proofs.YtocnpcjpkieogaaGreatDoor
open Go.ChangeShapes Go.WideShapes Go.ChangeAt Go.RowKit

set_option maxRecDepth 100000 in
theorem infoB : (Tryz.prog.info? 5).map (fun i => (i.zero, i.size, i.bytes)) = some (some (.int .u8 0), 1, 1) := by kernel_rfl
theorem info_ofB {P : Program} {t : TypeId} {z : Value} {s b : Nat} (h : (P.info? t).map (fun i => (i.zero, i.size, i.bytes)) = some (some z, s, b)) : ∃ i, P.info? t = some i ∧ i.zero = some z ∧ i.size = s ∧ i.bytes = b := by
  cases hi : P.info? t with
  | none => rw [hi] at h; cases h
  | some i =>
    rw [hi] at h
    simp only [Option.map_some, Option.some.injEq, Prod.mk.injEq] at h
    exact ⟨i, rfl, h.1, h.2.1, h.2.2⟩
/-- a row of w bytes that the call made: from j on they are told -/
structure Byt (w0 : World) (g w : Nat) (D : List Int) (j : Nat) (u : World) : Prop where
  old : Below w0.heap.size w0 u
  size : w0.heap.size ≤ u.heap.size
  base : w0.heap.size ≤ g
  cell : ∀ k, k < w → ∃ v, u.cell? ⟨g, k, none⟩ = some v
  warm : ∀ k, k < w → u.frozen? ⟨g, k, none⟩ = false
  told : ∀ k, j ≤ k → k < w → u.cell? ⟨g, k, none⟩ = some (.int .u8 (D.getD k 0))
theorem Byt.store {w0 u : World} {g w j : Nat} {D : List Int} (h : Byt w0 g w D (j + 1) u) (hj : j < w) : Byt w0 g w D j (u.setCell ⟨g, j, none⟩ (.int .u8 (D.getD j 0))) := by
  obtain ⟨v, hv⟩ := h.cell j hj
  have hb : Below w0.heap.size w0 (u.setCell ⟨g, j, none⟩ (.int .u8 (D.getD j 0))) := h.old.setCell h.base _
  have same : (u.setCell ⟨g, j, none⟩ (.int .u8 (D.getD j 0))).cell? ⟨g, j, none⟩ = some (.int .u8 (D.getD j 0)) := World.cell?_setCell_same _ _ _ hv
  have other : ∀ k, k ≠ j → (u.setCell ⟨g, j, none⟩ (.int .u8 (D.getD j 0))).cell? ⟨g, k, none⟩ = u.cell? ⟨g, k, none⟩ := fun k hk => World.cell?_setCell_other _ _ _ _ (by intro e; simp only [Addr.mk.injEq] at e; omega)
  refine ⟨hb, hb.size, h.base, fun k hk => ?_, fun k hk => ?_, fun k h1 h2 => ?_⟩
  · by_cases e : k = j
    · rw [e]; exact ⟨_, same⟩
    · rw [other k e]; exact h.cell k hk
  · rw [World.frozen?_setCell]; exact h.warm k hk
  · by_cases e : k = j
    · rw [e]; exact same
    · rw [other k e]; exact h.told k (by omega) h2
theorem Byt.start (w0 : World) (w : Nat) (D : List Int) : Byt w0 w0.heap.size w D w (w0.alloc (.cells (madeCells #[Value.int .u8 0] w) 5)) := by
  have hc : ∀ k, k < w → (w0.alloc (.cells (madeCells #[Value.int .u8 0] w) 5)).cell? ⟨w0.heap.size, k, none⟩ = (madeCells #[Value.int .u8 0] w)[k]? := fun k _ => World.cell?_alloc_at _ _ _ _ rfl
  have hb := (Below.refl w0.heap.size w0).alloc (Nat.le_refl _) (.cells (madeCells #[Value.int .u8 0] w) 5)
  refine ⟨hb, hb.size, Nat.le_refl _, fun k hk => ?_, fun k hk => ?_, fun k h1 h2 => by omega⟩
  · rw [hc k hk]
    exact ⟨_, Array.getElem?_eq_getElem (by rw [size_madeCells]; exact hk)⟩
  · exact World.frozen?_alloc_at _ _ _ _ rfl
/-- the text of digits -/
def dgS (w n : Nat) : ByteArray := strOfNums (dgI w n)
set_option maxRecDepth 100000 in
theorem make_run (n : Nat) (hn : n ≤ 100) (w : World) : (Instr.makeSlice 52 (.int .i64 (n : Int)) (.int .i64 (n : Int))).run Tryz.prog w = .ok (.slice (some ⟨w.heap.size, 0, none⟩) n n) (w.alloc (.cells (madeCells #[Value.int .u8 0] n) 5)) := by
  obtain ⟨i0, hi0, hz0, hz1, hz2⟩ := info_ofB infoB
  have := run_make (P := Tryz.prog) w 52 5 i0 (.int .u8 0) Tryz.underlying52 hi0 hz0 .i64 .i64 (n : Int) (n : Int) (by omega) (Int.le_refl _) (by rw [hz2]; omega) (by omega)
  rw [hz1] at this
  simp only [Nat.mul_one, Int.toNat_natCast] at this
  exact this
set_option maxRecDepth 100000 in
set_option maxHeartbeats 1000000 in
theorem rdigits_run (n w : Nat) (hn : n < 18446744073709551616) (hw : w ≤ 100) (u : World) :
    Calls Tryz.prog 19 #[.int .u64 (n : Int), .int .i64 (w : Int)] u fun e u' => e = .returned (.string (dgS w n)) ∧ Below u.heap.size u u' := by
  have M := fun u => make_run w hw u
  have S0 := Lib.hid (Byt.start u w (dgI w n))
  go_enter Tryz.func19, Tryz.ntmps19
  go_wp2_with fail
  go_loopw [0, 6] (fun nv iv wr => ∃ (j m : Nat), j ≤ w ∧ m < 18446744073709551616 ∧ nv = .int .u64 (m : Int) ∧ iv = .int .i64 ((j : Int) - 1) ∧ (∃ T, dgI w n = dgI j m ++ T) ∧ Byt u u.heap.size w (dgI w n) j wr) (fun _ iv _ => (intOf iv + 1).toNat)
  case atStart => exact ⟨w, n, Nat.le_refl _, hn, rfl, rfl, ⟨[], (List.append_nil _).symm⟩, S0.out⟩
  case round =>
    obtain ⟨j, m, hj, hm, rfl, rfl, ⟨T, hT⟩, R⟩ := hrel
    by_cases hlt : 0 < j
    · obtain ⟨i, rfl⟩ : ∃ i, j = i + 1 := ⟨j - 1, by omega⟩
      have hiw : i < w := by omega
      have hd : (dgI w n).getD i 0 = 48 + ((m % 10 : Nat) : Int) := by
        rw [hT, dgI_succ]
        have hl := dgI_len i (m / 10)
        simp [List.getD, hl]
      have R2 := R.store hiw
      rw [hd] at R2
      have hT2 : Hid (∃ T, dgI w n = dgI i (m / 10) ++ T) := ⟨_, by rw [hT, dgI_succ, List.append_assoc]⟩
      obtain ⟨v, c1⟩ := R.cell i hiw
      have f1 := R.warm i hiw
      replace R2 := Lib.hid R2
      clear hT hd R
      go_wp2_with fail
      go_roundw
      case rel => exact ⟨i, m / 10, by omega, by omega, congrArg (Value.int .u64) (by omega), rfl, hT2.out, by rw [show (48 + (m : Int) % 10) = 48 + ((m % 10 : Nat) : Int) by omega]; exact R2.out⟩
      case measure => first | (simp [intOf]; done) | (simp [intOf]; omega)
    · obtain rfl : j = 0 := by omega
      have CV := run_convert_bytes_arg wr 52 5 Tryz.underlying52 Tryz.underlying5 u.heap.size 0 w w (dgI w n) (dgI_len w n) (fun k hk => by rw [Nat.zero_add]; exact R.told k (Nat.zero_le _) hk) 9 Tryz.underlying9
      have hD : Hid (strOfNums (dgI w n) = dgS w n) := rfl
      rw [hD.out] at CV
      have B := Lib.hid R.old
      clear R hT S0 M
      go_wp2_with fail
      go_ret
      exact ⟨rfl, B.out⟩
/-- a power of ten, as a name -/
def tenN (p : Nat) : Nat := 10 ^ p
theorem tenN_succ (p : Nat) : tenN (p + 1) = tenN p * 10 := Nat.pow_succ 10 p
theorem tenN_le {p q : Nat} (h : p ≤ q) : tenN p ≤ tenN q := Nat.pow_le_pow_right (by decide) h
theorem tenN_pos (p : Nat) : 1 ≤ tenN p := Nat.pow_pos (by decide)
set_option maxRecDepth 100000 in
theorem rten_run (p : Nat) (hp : p ≤ 19) (u : World) : Calls Tryz.prog 18 #[.int .i64 (p : Int)] u fun e u' => e = .returned (.int .u64 (tenN p : Int)) ∧ u = u' := by
  have top : tenN 19 = 10000000000000000000 := by decide
  have lim : ∀ i, i ≤ p → tenN i ≤ 10000000000000000000 := fun i hi => by rw [← top]; exact tenN_le (by omega)
  replace lim := Lib.hid lim
  clear top
  go_enter Tryz.func18, Tryz.ntmps18
  go_wp2_with fail
  go_loop [3, 4] (fun nv iv => ∃ i : Nat, i ≤ p ∧ iv = .int .i64 i ∧ nv = .int .u64 (tenN i : Int)) (fun _ iv => p - (intOf iv).toNat)
  case atStart => exact ⟨0, Nat.zero_le _, rfl, rfl⟩
  case round =>
    obtain ⟨i, hi, rfl, rfl⟩ := hrel
    have li := lim.out i hi
    by_cases hlt : i < p
    · have l2 := lim.out (i + 1) hlt
      have e := Lib.hid (tenN_succ i)
      rw [e.out] at l2
      generalize tenN i = q at *
      go_wp2_with fail
      go_round
      case rel => exact ⟨i + 1, hlt, by go_num, by rw [e.out]; exact congrArg (Value.int .u64) (by omega)⟩
      case measure => simp [intOf]; omega
    · obtain rfl : i = p := by omega
      go_wp2_with fail
      go_ret
      exact ⟨rfl, rfl⟩
end Go.Proofs.YtocnpcjpkieogaaGreatDoor

namespace Go.Proofs.YtocnpcjpkieogaaGreatDoor

/-- M / 2^k to the nearest, ties to even -/
def rneN (M k : Nat) : Nat := M / 2 ^ k + (if 2 ^ k < 2 * (M % 2 ^ k) ∨ (2 ^ k = 2 * (M % 2 ^ k) ∧ M / 2 ^ k % 2 = 1) then 1 else 0)
theorem sc_pow {k : Nat} (hk : k ≤ 64) : 2 ^ (64 - k) * 2 ^ k = 18446744073709551616 := by
  rw [← Nat.pow_add, show 64 - k + k = 64 by omega]
theorem sc_none {M k : Nat} (h : M < 9671406556917033397649408) (hk : 120 < k) : rneN M k = 0 := by
  have h1 : 2 ^ 121 ≤ 2 ^ k := Nat.pow_le_pow_right (by decide) (by omega)
  have h2 : (2 : Nat) ^ 121 = 2658455991569831745807614120560689152 := by decide
  have h3 : M / 2 ^ k = 0 := Nat.div_eq_of_lt (by omega)
  have h4 : M % 2 ^ k = M := Nat.mod_eq_of_lt (by omega)
  unfold rneN
  rw [h3, h4, if_neg (by omega)]
theorem sc_half {A B r : Nat} (h : B * A = 18446744073709551616) (hB : 1 ≤ B) : (9223372036854775808 < r * B ↔ A < 2 * r) ∧ (r * B = 9223372036854775808 ↔ A = 2 * r) := by
  have e : 2 * (r * B) = (2 * r) * B := (Nat.mul_assoc 2 r B).symm
  have e2 : A * B = 18446744073709551616 := by rw [Nat.mul_comm]; exact h
  constructor
  · constructor
    · intro h1
      exact Nat.lt_of_mul_lt_mul_right (a := B) (by omega)
    · intro h1
      have := Nat.mul_lt_mul_of_pos_right h1 hB
      omega
  · constructor
    · intro h1
      exact Nat.eq_of_mul_eq_mul_right hB (by omega)
    · intro h1
      rw [← h1] at e
      omega
theorem sc_lo {H L k : Nat} (hk : k ≤ 64) :
    (H * 18446744073709551616 + L) / 2 ^ k = H * 2 ^ (64 - k) + L / 2 ^ k ∧ (H * 18446744073709551616 + L) % 2 ^ k = L % 2 ^ k ∧ L * 2 ^ (64 - k) % 18446744073709551616 = L % 2 ^ k * 2 ^ (64 - k) := by
  have hp := sc_pow hk
  have e : H * 18446744073709551616 + L = L + 2 ^ k * (H * 2 ^ (64 - k)) := by
    rw [← hp, Nat.mul_comm (2 ^ k) (H * 2 ^ (64 - k)), Nat.mul_assoc, Nat.add_comm]
  refine ⟨?_, ?_, ?_⟩
  · rw [e, Nat.add_mul_div_left _ _ (Nat.two_pow_pos k), Nat.add_comm]
  · rw [e, Nat.add_mul_mod_self_left]
  · rw [← hp, Nat.mul_comm (2 ^ (64 - k)) (2 ^ k), Nat.mul_mod_mul_right]
theorem sc_or {H L k : Nat} (hk : k ≤ 64) (hL : L < 18446744073709551616) : H * 2 ^ (64 - k) ||| L / 2 ^ k = H * 2 ^ (64 - k) + L / 2 ^ k := by
  have hp := sc_pow hk
  have h1 : L / 2 ^ k < 2 ^ (64 - k) := by
    rw [Nat.div_lt_iff_lt_mul (Nat.two_pow_pos k), hp]; exact hL
  rw [Nat.mul_comm, Nat.two_pow_add_eq_or_of_lt h1]
/-- above the middle word -/
theorem sc_hi {H L j : Nat} (hL : L < 18446744073709551616) :
    (H * 18446744073709551616 + L) / 2 ^ (64 + j) = H / 2 ^ j ∧ (H * 18446744073709551616 + L) % 2 ^ (64 + j) = H % 2 ^ j * 18446744073709551616 + L := by
  have e : (2 : Nat) ^ (64 + j) = 18446744073709551616 * 2 ^ j := by rw [Nat.pow_add]
  have h1 : (H * 18446744073709551616 + L) / 18446744073709551616 = H := by omega
  refine ⟨by rw [e, ← Nat.div_div_eq_div_mul, h1], ?_⟩
  rw [e, Nat.mod_mul, h1]
  omega
theorem sc_up {H L j r : Nat} (hj1 : 1 ≤ j) (hj : j ≤ 64) (hL : L < 18446744073709551616) (hr : r = H % 2 ^ j) :
    H * 2 ^ (64 - j) % 18446744073709551616 = r * 2 ^ (64 - j) ∧
    (2 ^ (64 + j) < 2 * (r * 18446744073709551616 + L) ↔ 9223372036854775808 < r * 2 ^ (64 - j) ∨ (r * 2 ^ (64 - j) = 9223372036854775808 ∧ 0 < L)) ∧
    (2 ^ (64 + j) = 2 * (r * 18446744073709551616 + L) ↔ r * 2 ^ (64 - j) = 9223372036854775808 ∧ L = 0) := by
  have hp := sc_pow hj
  have hB : 1 ≤ 2 ^ (64 - j) := Nat.two_pow_pos _
  obtain ⟨g1, g2⟩ := sc_half (r := r) hp hB
  have e : (2 : Nat) ^ (64 + j) = 18446744073709551616 * 2 ^ j := by rw [Nat.pow_add]
  obtain ⟨C, hC⟩ : ∃ C, 2 ^ j = 2 * C := ⟨2 ^ (j - 1), by rw [Nat.mul_comm, ← Nat.pow_succ, show (j - 1).succ = j by omega]⟩
  refine ⟨?_, ?_, ?_⟩
  · rw [hr]; exact (sc_lo (H := 0) (L := H) hj).2.2
  · rw [g1, g2, e]
    rw [hC]
    clear hr g1 g2 hp hB e hC
    omega
  · rw [g2, e]
    rw [hC]
    clear hr g1 g2 hp hB e hC
    omega
end Go.Proofs.YtocnpcjpkieogaaGreatDoor

namespace Go.Proofs.YtocnpcjpkieogaaGreatDoor
open Go.Shelf Go.ChangeShapes Go.WideShapes Go.ChangeAt Go.RowKit

def sc_ren : Ren := ⟨fun _ => 32, fun n => if n = 46 then 55 else 37, fun n => n⟩
set_option maxRecDepth 100000 in
theorem sc_lays : Lays.n264 Tryz.prog sc_ren :=
  ⟨by kernel_rfl, Tryz.func32.trans (congrArg some (by kernel_rfl)), Tryz.underlying55, fun _ => by kernel_rfl, fun _ => by kernel_rfl, fun _ => by kernel_rfl, Tryz.underlying37, fun _ => by kernel_rfl, fun _ => by kernel_rfl, fun _ => by kernel_rfl⟩
set_option maxRecDepth 100000 in
theorem sc_mul (x y : Nat) (hx : x < 18446744073709551616) (hy : y < 18446744073709551616) (w : World) :
    Calls Tryz.prog 32 #[.int .u64 x, .int .u64 y] w fun e w' => e = .returned (.tuple #[.int .u64 ((x * y / 18446744073709551616 : Nat) : Int), .int .u64 ((x * y % 18446744073709551616 : Nat) : Int)]) ∧ w = w' :=
  (Any.bits_Mul64 sc_lays x y hx hy w).mono fun _ _ ⟨he, hw⟩ => ⟨he, hw.symm⟩
set_option maxRecDepth 100000 in
theorem sc_x39 (b : Nat) (w : World) : (callFunc 25 #[.float .f64 b]).run Tryz.prog w = .ok (.value (.int .u64 (b : Int))) w := by
  rw [run_callFunc_extern (e := Extern.MathFloatBits.float64bits) Tryz.func25 (by kernel_rfl) (by kernel_rfl) (by kernel_rfl) (by kernel_rfl)]; rfl
theorem sc_andn (b : Nat) (hb : b < 18446744073709551616) : bits BinOp.andNot IntKind.u64 (b : Int) 9223372036854775808 = ((b % 9223372036854775808 : Nat) : Int) := by
  rw [show (9223372036854775808 : Int) = ((9223372036854775808 : Nat) : Int) from rfl, u64_andNot_nat b 9223372036854775808 hb (by omega)]
  exact congrArg _ (Nat.and_two_pow_sub_one_eq_mod b 63)
theorem sc_and (b : Nat) (hb : b < 18446744073709551616) : bits BinOp.and IntKind.u64 (b : Int) 4503599627370495 = ((b % 4503599627370496 : Nat) : Int) := by
  rw [show (4503599627370495 : Int) = ((4503599627370495 : Nat) : Int) from rfl, u64_and_nat b 4503599627370495 hb (by omega)]
  exact congrArg _ (Nat.and_two_pow_sub_one_eq_mod b 52)
theorem sc_or52 (x : Nat) (hx : x < 4503599627370496) : bits BinOp.or IntKind.u64 (x : Int) 4503599627370496 = ((x + 4503599627370496 : Nat) : Int) := by
  rw [show (4503599627370496 : Int) = ((4503599627370496 : Nat) : Int) from rfl, u64_or_nat x 4503599627370496 (by omega) (by omega), Nat.or_comm]
  have := Nat.two_pow_add_eq_or_of_lt (i := 52) hx 1
  rw [show (4503599627370496 : Nat) = 2 ^ 52 * 1 by decide, ← this, Nat.add_comm]

theorem sc_and1 (q : Nat) (hq : q < 18446744073709551616) : bits BinOp.and IntKind.u64 (q : Int) 1 = ((q % 2 : Nat) : Int) := by
  rw [show (1 : Int) = ((1 : Nat) : Int) from rfl, u64_and_nat q 1 hq (by omega)]
  exact congrArg _ (Nat.and_two_pow_sub_one_eq_mod q 1)
theorem sc_div (L k : Nat) : (L : Int) / 2 ^ k = ((L / 2 ^ k : Nat) : Int) := by simp
theorem sc_wrap (H j : Nat) : IntKind.u64.wrap ((H : Int) * 2 ^ j) = ((H * 2 ^ j % 18446744073709551616 : Nat) : Int) := by
  simp [IntKind.wrap, IntKind.bits, IntKind.signed]
theorem sc_split {M H L : Nat} (hH : M / 18446744073709551616 = H) (hL : M % 18446744073709551616 = L) : M = H * 18446744073709551616 + L := by omega
theorem sc_H {M H : Nat} (h : M < 9671406556917033397649408) (hH : M / 18446744073709551616 = H) : H < 524288 := by omega

theorem ret_u {k : IntKind} {a b : Int} (h : a = b) : Ending.returned (.int k a) = .returned (.int k b) := by rw [h]
/-- the magnitude of a number times 10^p, to the nearest -/
def scN (b p : Nat) : Nat := if b % 9223372036854775808 = 0 then 0 else rneN ((b % 4503599627370496 + 4503599627370496) * tenN p) (1075 - b % 9223372036854775808 / 4503599627370496)

set_option maxRecDepth 100000 in
set_option maxHeartbeats 1000000 in
theorem rscaled_zero (b p : Nat) (hb : b < 18446744073709551616) (h0 : b % 9223372036854775808 = 0) (u : World) :
    Calls Tryz.prog 17 #[.float .f64 b, .int .i64 (p : Int)] u fun e u' => e = .returned (.int .u64 (scN b p : Int)) ∧ u = u' := by
  have R : Hid (scN b p = 0) := if_pos h0
  have X := sc_x39 b
  have A := sc_andn b hb
  rw [h0] at A
  clear h0 hb
  go_enter Tryz.func17, Tryz.ntmps17
  go_wp2_with fail
  go_ret
  rw [R.out]
  exact ⟨rfl, rfl⟩
set_option maxRecDepth 100000 in
set_option maxHeartbeats 2000000 in
theorem rscaled_low (b p a m H L k : Nat) (hb : b < 18446744073709551616) (ha : b % 9223372036854775808 = a) (hp : p ≤ 9) (hm : a % 4503599627370496 + 4503599627370496 = m)
    (hk : a / 4503599627370496 + k = 1075) (hk1 : 22 ≤ k) (hk2 : k < 64) (hH : m * tenN p / 18446744073709551616 = H) (hL : m * tenN p % 18446744073709551616 = L) (u : World) :
    Calls Tryz.prog 17 #[.float .f64 b, .int .i64 (p : Int)] u fun e u' => e = .returned (.int .u64 (rneN (m * tenN p) k : Int)) ∧ u = u' := by
  have X := sc_x39 b
  have A := sc_andn b hb
  rw [ha] at A
  have B := sc_and a (by omega)
  have C := sc_or52 (a % 4503599627370496) (by omega)
  rw [hm] at C
  rw [show ((a % 4503599627370496 : Nat) : Int) = (a : Int) % 4503599627370496 by omega] at B C
  have hk' : (a : Int) / 4503599627370496 = 1075 - (k : Int) := by omega
  have E : 1075 - (k : Int) - 1075 = -(k : Int) := by omega
  have T := Lib.hid (fun u => rten_run p (by omega) u)
  have ht : tenN p ≤ 1000000000 := by have := tenN_le hp; rw [show tenN 9 = 1000000000 by decide] at this; exact this
  have M := sc_mul m (tenN p) (by omega) (by omega)
  rw [hH, hL] at M
  replace M := Lib.hid M
  have h0' : ((a : Int) == 0) = false := by simp; omega
  have hLl : L < 18446744073709551616 := by omega
  have hMM : m * tenN p < 9671406556917033397649408 := by
    have : m * tenN p ≤ 9007199254740991 * 1000000000 := Nat.mul_le_mul (by omega) ht
    omega
  have hs := sc_split hH hL
  have hHH := sc_H hMM hH
  generalize m * tenN p = N at *
  have W1 := sc_wrap H (64 - k)
  have W2 := sc_wrap L (64 - k)
  obtain ⟨d1, d2, d3⟩ := sc_lo (H := H) (L := L) (k := k) (by omega)
  rw [← hs] at d1 d2
  have hor := sc_or (H := H) (L := L) (k := k) (by omega) hLl
  have hp42 : 2 ^ (64 - k) ≤ 2 ^ 42 := Nat.pow_le_pow_right (by decide) (by omega)
  rw [show (2 : Nat) ^ 42 = 4398046511104 by decide] at hp42
  have h61 : H * 2 ^ (64 - k) ≤ 524288 * 4398046511104 := Nat.mul_le_mul (by omega) hp42
  rw [Nat.mod_eq_of_lt (by omega)] at W1
  rw [d3] at W2
  have hld : L / 2 ^ k ≤ 4398046511104 := by
    have h1 : 2 ^ 22 ≤ 2 ^ k := Nat.pow_le_pow_right (by decide) hk1
    rw [show (2 : Nat) ^ 22 = 4194304 by decide] at h1
    exact Nat.le_trans (Nat.div_le_div_left h1 (by decide)) (by omega)
  have D := u64_or_nat (H * 2 ^ (64 - k)) (L / 2 ^ k) (by omega) (by omega)
  rw [hor, ← d1, ← sc_div] at D
  obtain ⟨g1, g2⟩ := sc_half (r := L % 2 ^ k) (sc_pow (k := k) (by omega)) (Nat.two_pow_pos _)
  rw [← d2] at g1 g2 d3
  rw [← d2] at W2
  have R : rneN N k = N / 2 ^ k + (if 9223372036854775808 < N % 2 ^ k * 2 ^ (64 - k) ∨ (N % 2 ^ k * 2 ^ (64 - k) = 9223372036854775808 ∧ N / 2 ^ k % 2 = 1) then 1 else 0) := by
    unfold rneN; simp only [g1, g2]
  have hq : N / 2 ^ k < 4611686018427387904 := by omega
  generalize N / 2 ^ k = q at *
  generalize N % 2 ^ k * 2 ^ (64 - k) = r at *
  have O := sc_and1 q (by omega)
  rw [show ((q % 2 : Nat) : Int) = (q : Int) % 2 by omega] at O
  have hq' : (q : Int) ≤ 4611686018427387904 := by omega
  generalize H * 2 ^ (64 - k) = V at *
  have hk2' : (k : Int) ≤ 63 := by omega
  replace R := Lib.hid R
  clear hb ha hm hH hL ht hMM hs hHH hLl hk d1 d2 d3 hor hp42 h61 hld g1 g2 hq
  go_enter Tryz.func17, Tryz.ntmps17
  go_wp2_with (first | (go_at_call 18; ((with_reducible refine (T.out _).mono ?_); rintro e w' ⟨rfl, rfl⟩)) | (go_at_call 32; ((with_reducible refine (M.out _).mono ?_); rintro e w' ⟨rfl, rfl⟩)))
  go_wp2_with fail
  all_goals
    go_ret
    rw [R.out]
    refine ⟨ret_u ?_, rfl⟩
    simp only [beq_iff_eq, beq_eq_false_iff_ne, ne_eq] at *
    first
    | (rw [if_pos (by omega)]; omega)
    | (rw [if_neg (by omega)]; omega)
set_option maxRecDepth 100000 in
set_option maxHeartbeats 2000000 in
theorem rscaled_mid (b p a m H L : Nat) (hb : b < 18446744073709551616) (ha : b % 9223372036854775808 = a) (hp : p ≤ 9) (hm : a % 4503599627370496 + 4503599627370496 = m)
    (hk : a / 4503599627370496 + 64 = 1075) (hH : m * tenN p / 18446744073709551616 = H) (hL : m * tenN p % 18446744073709551616 = L) (u : World) :
    Calls Tryz.prog 17 #[.float .f64 b, .int .i64 (p : Int)] u fun e u' => e = .returned (.int .u64 (rneN (m * tenN p) 64 : Int)) ∧ u = u' := by
  have X := sc_x39 b
  have A := sc_andn b hb
  rw [ha] at A
  have B := sc_and a (by omega)
  have C := sc_or52 (a % 4503599627370496) (by omega)
  rw [hm] at C
  rw [show ((a % 4503599627370496 : Nat) : Int) = (a : Int) % 4503599627370496 by omega] at B C
  have hk' : (a : Int) / 4503599627370496 = 1075 - 64 := by omega
  have E : 1075 - 64 - 1075 = -64 := by omega
  have T := Lib.hid (fun u => rten_run p (by omega) u)
  have ht : tenN p ≤ 1000000000 := by have := tenN_le hp; rw [show tenN 9 = 1000000000 by decide] at this; exact this
  have M := sc_mul m (tenN p) (by omega) (by omega)
  rw [hH, hL] at M
  replace M := Lib.hid M
  have h0' : ((a : Int) == 0) = false := by simp; omega
  have hLl : L < 18446744073709551616 := by omega
  have hMM : m * tenN p < 9671406556917033397649408 := by
    have : m * tenN p ≤ 9007199254740991 * 1000000000 := Nat.mul_le_mul (by omega) ht
    omega
  have hs := sc_split hH hL
  have hHH := sc_H hMM hH
  generalize m * tenN p = N at *
  have R : rneN N 64 = H + (if 9223372036854775808 < L ∨ (L = 9223372036854775808 ∧ H % 2 = 1) then 1 else 0) := by
    unfold rneN
    rw [show (2 : Nat) ^ 64 = 18446744073709551616 by decide, hH, hL]
    simp only [show (18446744073709551616 < 2 * L ↔ 9223372036854775808 < L) from by omega, show (18446744073709551616 = 2 * L ↔ L = 9223372036854775808) from by omega]
  have O := sc_and1 H (by omega)
  rw [show ((H % 2 : Nat) : Int) = (H : Int) % 2 by omega] at O
  have hq' : (H : Int) ≤ 524288 := by omega
  replace R := Lib.hid R
  clear hb ha hm hH hL ht hMM hs hHH hLl hk
  go_enter Tryz.func17, Tryz.ntmps17
  go_wp2_with (first | (go_at_call 18; ((with_reducible refine (T.out _).mono ?_); rintro e w' ⟨rfl, rfl⟩)) | (go_at_call 32; ((with_reducible refine (M.out _).mono ?_); rintro e w' ⟨rfl, rfl⟩)))
  go_wp2_with fail
  all_goals
    go_ret
    rw [R.out]
    refine ⟨ret_u ?_, rfl⟩
    simp only [beq_iff_eq, beq_eq_false_iff_ne, ne_eq] at *
    first
    | (rw [if_pos (by omega)]; omega)
    | (rw [if_neg (by omega)]; omega)
set_option maxRecDepth 100000 in
set_option maxHeartbeats 2000000 in
theorem rscaled_high (b p a m H L j : Nat) (hb : b < 18446744073709551616) (ha : b % 9223372036854775808 = a) (hp : p ≤ 9) (hm : a % 4503599627370496 + 4503599627370496 = m)
    (hk : a / 4503599627370496 + (64 + j) = 1075) (hk1 : 1 ≤ j) (hk2 : j ≤ 56) (hH : m * tenN p / 18446744073709551616 = H) (hL : m * tenN p % 18446744073709551616 = L) (u : World) :
    Calls Tryz.prog 17 #[.float .f64 b, .int .i64 (p : Int)] u fun e u' => e = .returned (.int .u64 (rneN (m * tenN p) (64 + j) : Int)) ∧ u = u' := by
  have X := sc_x39 b
  have A := sc_andn b hb
  rw [ha] at A
  have B := sc_and a (by omega)
  have C := sc_or52 (a % 4503599627370496) (by omega)
  rw [hm] at C
  rw [show ((a % 4503599627370496 : Nat) : Int) = (a : Int) % 4503599627370496 by omega] at B C
  have hk' : (a : Int) / 4503599627370496 = 1075 - (64 + (j : Int)) := by omega
  have E : 1075 - (64 + (j : Int)) - 1075 = -(64 + (j : Int)) := by omega
  have T := Lib.hid (fun u => rten_run p (by omega) u)
  have ht : tenN p ≤ 1000000000 := by have := tenN_le hp; rw [show tenN 9 = 1000000000 by decide] at this; exact this
  have M := sc_mul m (tenN p) (by omega) (by omega)
  rw [hH, hL] at M
  replace M := Lib.hid M
  have h0' : ((a : Int) == 0) = false := by simp; omega
  have hLl : L < 18446744073709551616 := by omega
  have hMM : m * tenN p < 9671406556917033397649408 := by
    have : m * tenN p ≤ 9007199254740991 * 1000000000 := Nat.mul_le_mul (by omega) ht
    omega
  have hs := sc_split hH hL
  have hHH := sc_H hMM hH
  generalize m * tenN p = N at *
  have E2 : 64 + (j : Int) - 64 = (j : Int) := by omega
  have W1 := sc_wrap H (64 - j)
  have W3 := sc_div H j
  obtain ⟨d1, d2⟩ := sc_hi (H := H) (L := L) (j := j) hLl
  rw [← hs] at d1 d2
  obtain ⟨d3, g1, g2⟩ := sc_up (H := H) (L := L) (j := j) hk1 (by omega) hLl rfl
  rw [d3] at W1
  have R : rneN N (64 + j) = H / 2 ^ j + (if (9223372036854775808 < H % 2 ^ j * 2 ^ (64 - j) ∨ H % 2 ^ j * 2 ^ (64 - j) = 9223372036854775808 ∧ 0 < L) ∨ ((H % 2 ^ j * 2 ^ (64 - j) = 9223372036854775808 ∧ L = 0) ∧ H / 2 ^ j % 2 = 1) then 1 else 0) := by
    unfold rneN; rw [d1, d2]; simp only [g1, g2]
  have hq : H / 2 ^ j < 524288 := Nat.lt_of_le_of_lt (Nat.div_le_self _ _) (by omega)
  generalize H / 2 ^ j = q at *
  generalize H % 2 ^ j * 2 ^ (64 - j) = r at *
  have O := sc_and1 q (by omega)
  rw [show ((q % 2 : Nat) : Int) = (q : Int) % 2 by omega] at O
  have hq' : (q : Int) ≤ 524288 := by omega
  have hk2' : (j : Int) ≤ 56 := by omega
  have hk1' : 1 ≤ (j : Int) := by omega
  replace R := Lib.hid R
  clear hb ha hm hH hL ht hMM hs hHH hLl hk d1 d2 d3 g1 g2 hq
  go_enter Tryz.func17, Tryz.ntmps17
  go_wp2_with (first | (go_at_call 18; ((with_reducible refine (T.out _).mono ?_); rintro e w' ⟨rfl, rfl⟩)) | (go_at_call 32; ((with_reducible refine (M.out _).mono ?_); rintro e w' ⟨rfl, rfl⟩)))
  go_wp2_with fail
  all_goals
    go_ret
    rw [R.out]
    refine ⟨ret_u ?_, rfl⟩
    simp only [beq_iff_eq, beq_eq_false_iff_ne, ne_eq] at *
    first
    | (rw [if_pos (by omega)]; omega)
    | (rw [if_neg (by omega)]; omega)
set_option maxRecDepth 100000 in
set_option maxHeartbeats 2000000 in
theorem rscaled_none (b p a m H L k : Nat) (hb : b < 18446744073709551616) (ha : b % 9223372036854775808 = a) (hp : p ≤ 9) (hm : a % 4503599627370496 + 4503599627370496 = m)
    (hk : a / 4503599627370496 + k = 1075) (hk1 : 121 ≤ k) (hk3 : k ≤ 300) (hH : m * tenN p / 18446744073709551616 = H) (hL : m * tenN p % 18446744073709551616 = L) (u : World) :
    Calls Tryz.prog 17 #[.float .f64 b, .int .i64 (p : Int)] u fun e u' => e = .returned (.int .u64 (rneN (m * tenN p) k : Int)) ∧ u = u' := by
  have X := sc_x39 b
  have A := sc_andn b hb
  rw [ha] at A
  have B := sc_and a (by omega)
  have C := sc_or52 (a % 4503599627370496) (by omega)
  rw [hm] at C
  rw [show ((a % 4503599627370496 : Nat) : Int) = (a : Int) % 4503599627370496 by omega] at B C
  have hk' : (a : Int) / 4503599627370496 = 1075 - (k : Int) := by omega
  have E : 1075 - (k : Int) - 1075 = -(k : Int) := by omega
  have T := Lib.hid (fun u => rten_run p (by omega) u)
  have ht : tenN p ≤ 1000000000 := by have := tenN_le hp; rw [show tenN 9 = 1000000000 by decide] at this; exact this
  have M := sc_mul m (tenN p) (by omega) (by omega)
  rw [hH, hL] at M
  replace M := Lib.hid M
  have h0' : ((a : Int) == 0) = false := by simp; omega
  have hLl : L < 18446744073709551616 := by omega
  have hMM : m * tenN p < 9671406556917033397649408 := by
    have : m * tenN p ≤ 9007199254740991 * 1000000000 := Nat.mul_le_mul (by omega) ht
    omega
  have hs := sc_split hH hL
  have hHH := sc_H hMM hH
  generalize m * tenN p = N at *
  have R : rneN N k = 0 := sc_none hMM (by omega)
  have hk1' : 121 ≤ (k : Int) := by omega
  have hk2' : (k : Int) ≤ 1075 := by omega
  replace R := Lib.hid R
  clear hb ha hm hH hL ht hMM hs hHH hLl hk hk1 hk3
  go_enter Tryz.func17, Tryz.ntmps17
  go_wp2_with (first | (go_at_call 18; ((with_reducible refine (T.out _).mono ?_); rintro e w' ⟨rfl, rfl⟩)) | (go_at_call 32; ((with_reducible refine (M.out _).mono ?_); rintro e w' ⟨rfl, rfl⟩)))
  go_wp2_with fail
  go_ret
  rw [R.out]
  exact ⟨rfl, rfl⟩
set_option maxRecDepth 100000 in
/-- scaled, for what fits -/
theorem rscaled_run (b p : Nat) (hb : b < 18446744073709551616) (hp : p ≤ 9) (hf : b % 9223372036854775808 = 0 ∨ 3706462493325918208 ≤ b % 9223372036854775808 ∧ b % 9223372036854775808 ≤ 4742290407621132288) (u : World) :
    Calls Tryz.prog 17 #[.float .f64 b, .int .i64 (p : Int)] u fun e u' => e = .returned (.int .u64 (scN b p : Int)) ∧ u = u' := by
  by_cases h0 : b % 9223372036854775808 = 0
  · exact rscaled_zero b p hb h0 u
  · obtain ⟨a, ha⟩ : ∃ a, b % 9223372036854775808 = a := ⟨_, rfl⟩
    obtain ⟨k, hk⟩ : ∃ k, a / 4503599627370496 + k = 1075 := ⟨1075 - a / 4503599627370496, by omega⟩
    have e1 : b % 4503599627370496 = a % 4503599627370496 := by omega
    have R : scN b p = rneN ((a % 4503599627370496 + 4503599627370496) * tenN p) k := by
      unfold scN
      rw [if_neg h0, e1, ha, show 1075 - a / 4503599627370496 = k by omega]
    rw [R]
    by_cases h1 : k < 64
    · exact rscaled_low b p a _ _ _ k hb ha hp rfl hk (by omega) h1 rfl rfl u
    · by_cases h2 : k = 64
      · subst h2
        exact rscaled_mid b p a _ _ _ hb ha hp rfl hk rfl rfl u
      · by_cases h3 : k ≤ 120
        · obtain ⟨j, rfl⟩ : ∃ j, k = 64 + j := ⟨k - 64, by omega⟩
          exact rscaled_high b p a _ _ _ j hb ha hp rfl hk (by omega) (by omega) rfl rfl u
        · exact rscaled_none b p a _ _ _ k hb ha hp rfl hk (by omega) (by omega) rfl rfl u
end Go.Proofs.YtocnpcjpkieogaaGreatDoor

namespace Go.Proofs.YtocnpcjpkieogaaGreatDoor
open Go.ChangeShapes Go.WideShapes Go.ChangeAt Go.RowKit

theorem quiet_as {P : Program} {f : FuncId} {args : Array Value} {w : World} {n : Nat} {v : Value}
    (h : Calls P f args (w.drewN n) fun e w' => e = .returned v ∧ w.drewN n = w') : Calls P f args (w.drewN n) fun e w'' => e = .returned v ∧ ∃ m, w'' = w.drewN m :=
  h.mono fun _ _ ⟨he, hm⟩ => ⟨he, n, hm.symm⟩
end Go.Proofs.YtocnpcjpkieogaaGreatDoor
