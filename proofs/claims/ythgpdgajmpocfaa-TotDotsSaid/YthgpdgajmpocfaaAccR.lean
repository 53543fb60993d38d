/- Proved here: what the reference's long sums answer when their digits and their sign are read, over the translated code. -/
import Derived.Test.YthgpdgajmpocfaaAcc
import Derived.Test.YthgpdgajmpocfaaAccRm
import Derived.WalkSmall
namespace Go.Proofs.Ythgpdgajmpocfaa
open Go.ChangeShapes Go.WideShapes Go.ChangeAt Go.RowKit Ieee.Own

theorem ret_i {k : IntKind} {a b : Int} (h : a = b) : Ending.returned (.int k a) = .returned (.int k b) := by rw [h]

theorem ret_b {a b : Bool} (h : a = b) : Ending.returned (.bool a) = .returned (.bool b) := by rw [h]

theorem bit_any (k i : Nat) (z : Int) (ws : Nat → Nat) (w : World) (H : Holds k w z ws) (hi : i < 1536) :
    Calls Try.prog 58 #[.pointer (some ⟨k, 0, none⟩), .int .i64 i] w fun e w' => e = .returned (.int .u64 ((sumW ws 24 / 2 ^ i % 2 : Nat) : Int)) ∧ w = w' := by
  obtain ⟨j, r, rfl, hr⟩ : ∃ j r, i = 64 * j + r ∧ r < 64 := ⟨i / 64, i % 64, by omega, by omega⟩
  have c := H.cell j (by omega)
  have hb := word_bit ws H.lt j r 24 (by omega) hr
  have t1 : ((64 * j + r : Nat) : Int) / 64 = (j : Int) := by omega
  have t2 : ((64 * j + r : Nat) : Int) % 64 = (r : Int) := by omega
  have t3 : 0 ≤ ((64 * j + r : Nat) : Int) := by omega
  have t4 : ((64 * j + r : Nat) : Int) ≤ 1536 := by omega
  have t5 : (j : Int) < 24 := by omega
  have t6 : (r : Int) ≤ 63 := by omega
  rw [← hb]
  have hlt := H.lt j
  clear hb H hi hr
  generalize ws j = x at *
  obtain ⟨y, hy⟩ : ∃ y, y = x / 2 ^ r := ⟨_, rfl⟩
  have hq2 : y ≤ x := by rw [hy]; exact Nat.div_le_self _ _
  have hq : ((x : Int) / 2 ^ r) = (y : Int) := by rw [hy]; simp
  rw [← hy]
  clear hy
  have hx := Lib.hid (and_one_u64 ((x : Int) / 2 ^ r) (by rw [hq]; omega) (by rw [hq]; omega))
  have hf : Hid ((x : Int) / 2 ^ r % 2 = ((y % 2 : Nat) : Int)) := by show _ = _; rw [hq]; omega
  clear hq hq2 hlt
  generalize 64 * j + r = i at *
  go_enter Try.func58, Try.ntmps58
  go_wp2
  go_ret
  refine ⟨ret_i ?_, rfl⟩
  show bits BinOp.and IntKind.u64 ((x : Int) / 2 ^ r) 1 = _
  rw [hx.out, hf.out]

theorem bit_neg (k : Nat) (i : Int) (hi : i < 0) (w : World) :
    Calls Try.prog 58 #[.pointer (some ⟨k, 0, none⟩), .int .i64 i] w fun e w' => e = .returned (.int .u64 0) ∧ w = w' := by
  have t : decide (i < 0) = true := decide_eq_true hi
  clear hi
  go_enter Try.func58, Try.ntmps58
  go_wp2
  go_ret
  exact ⟨rfl, rfl⟩

/-- is a digit below place i 1? -/
def anyLow (A i : Nat) : Bool := decide (A % 2 ^ i ≠ 0)

theorem below_any (k i : Nat) (z : Int) (ws : Nat → Nat) (w : World) (H : Holds k w z ws) (hi : i ≤ 1536) :
    Calls Try.prog 59 #[.pointer (some ⟨k, 0, none⟩), .int .i64 i] w fun e w' => e = .returned (.bool (anyLow (sumW ws 24) i)) ∧ w = w' := by
  have C := fun (j : Nat) (hj : j < 1536) => bit_any k j z ws w H hj
  have hl := low_zero (sumW ws 24) i
  generalize sumW ws 24 = A at *
  clear H
  replace C := Lib.hid C
  replace hl := Lib.hid hl
  have hi' : (i : Int) ≤ 1536 := by omega
  replace hi := Lib.hid hi
  go_enter Try.func59, Try.ntmps59
  go_wp2_with fail
  go_loop [5] (fun s => ∃ j : Nat, j ≤ i ∧ s = .int .i64 j ∧ ∀ t, t < j → A / 2 ^ t % 2 = 0) (fun s => i - (intOf s).toNat)
  case atStart => exact ⟨0, by omega, rfl, fun t ht => by omega⟩
  case round =>
    obtain ⟨j, hj, rfl, ha⟩ := hrel
    replace ha := Lib.hid ha
    by_cases hlt : j < i
    · have D := C.out j (by have := hi.out; omega)
      by_cases hb : A / 2 ^ j % 2 = 1
      · have hF : Hid (anyLow A i = true) := by
          refine decide_eq_true fun h => ?_
          have := hl.out.1 h j hlt
          omega
        rw [hb] at D
        clear hb
        go_wp2_with (go_at_call 58; ((with_reducible refine D.mono ?_); rintro e w' ⟨rfl, rfl⟩))
        go_ret
        exact ⟨ret_b hF.out.symm, rfl⟩
      · have hb0 : A / 2 ^ j % 2 = 0 := by omega
        have ha' : Hid (∀ t, t < j + 1 → A / 2 ^ t % 2 = 0) := by
          intro t ht
          by_cases e : t = j
          · rw [e]; exact hb0
          · exact ha.out t (by omega)
        rw [hb0] at D
        clear hb hb0
        go_wp2_with (go_at_call 58; ((with_reducible refine D.mono ?_); rintro e w' ⟨rfl, rfl⟩))
        go_round
        case rel => exact ⟨j + 1, hlt, by go_num, ha'.out⟩
        case measure => simp [intOf]; omega
    · obtain rfl : j = i := by omega
      have hF : Hid (anyLow A j = false) := decide_eq_false fun h => h (hl.out.2 ha.out)
      go_wp2_with fail
      go_ret
      exact ⟨ret_b hF.out.symm, rfl⟩

/-! ### the sign: of a number z that the words tell, of magnitude below 2^1535 -/
def signI (z : Int) : Int := if z < 0 then -1 else if z = 0 then 0 else 1
theorem sign_any (k : Nat) (z : Int) (ws : Nat → Nat) (w : World) (H : Holds k w z ws) (hneg : z < 0 ↔ ws 23 / 9223372036854775808 = 1) (hz : z = 0 ↔ ∀ i, i < 24 → ws i = 0) :
    Calls Try.prog 47 #[.pointer (some ⟨k, 0, none⟩)] w fun e w' => e = .returned (.int .i64 (signI z)) ∧ w = w' := by
  have c23 := H.cell 23 (by omega)
  have hc := Lib.hid H.cell
  have hl := H.lt 23
  unfold signI
  by_cases h1 : z < 0
  · rw [if_pos h1]
    have t : ((ws 23 : Int) / 9223372036854775808 == 1) = true := by have := hneg.1 h1; simp; omega
    generalize ws 23 = x at *
    clear hneg hz h1 H hl
    go_enter Try.func47, Try.ntmps47
    go_wp2
    go_ret
    exact ⟨rfl, rfl⟩
  rw [if_neg h1]
  have t : ((ws 23 : Int) / 9223372036854775808 == 1) = false := by
    have : ¬ ws 23 / 9223372036854775808 = 1 := fun h => h1 (hneg.2 h)
    simp; omega
  replace hz := Lib.hid hz
  generalize hG : (if z = 0 then (0 : Int) else 1) = G
  replace hG := Lib.hid hG
  clear hneg h1 H hl
  go_enter Try.func47, Try.ntmps47
  go_wp2
  go_loop [3] (fun s => ∃ j : Nat, j ≤ 24 ∧ s = .int .i64 j ∧ ∀ t, t < j → ws t = 0) (fun s => 24 - (intOf s).toNat)
  case atStart => exact ⟨0, by omega, rfl, fun t ht => by omega⟩
  case round =>
    obtain ⟨j, hj, rfl, ha⟩ := hrel
    replace ha := Lib.hid ha
    by_cases hlt : j < 24
    · have g := hc.out j hlt
      by_cases hb : ws j = 0
      · have ha' : Hid (∀ t, t < j + 1 → ws t = 0) := by
          intro t ht
          by_cases e : t = j
          · rw [e]; exact hb
          · exact ha.out t (by omega)
        rw [hb] at g
        clear hb
        go_wp2
        go_round
        case rel => exact ⟨j + 1, hlt, by go_num, ha'.out⟩
        case measure => simp [intOf]; omega
      · have hF : Hid (1 = G) := (if_neg (fun h => hb (hz.out.1 h j hlt))).symm.trans hG.out
        have tb : ((ws j : Int) != 0) = true := by simp; omega
        clear hb
        go_wp2
        go_ret
        exact ⟨ret_i hF.out, rfl⟩
    · obtain rfl : j = 24 := by omega
      have hF : Hid (0 = G) := (if_pos (hz.out.2 ha.out)).symm.trans hG.out
      go_wp2
      go_ret
      exact ⟨ret_i hF.out, rfl⟩
end Go.Proofs.Ythgpdgajmpocfaa
