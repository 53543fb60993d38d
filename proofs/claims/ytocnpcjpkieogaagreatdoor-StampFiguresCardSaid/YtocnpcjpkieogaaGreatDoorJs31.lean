/- Proved here: what the texts Sqb, Sqd prove, one behind the other. -/
import Derived.Test.YtocnpcjpkieogaaGreatDoorJs1
import Derived.Test.YtocnpcjpkieogaaGreatDoorJs3

namespace Go.Proofs.YtocnpcjpkieogaaGreatDoor
open Go.ChangeShapes Go.WideShapes Go.ChangeAt Go.RowKit

/-- three words -/
def w3 (a b c : Nat) : Value := .agg #[.int .u64 (a : Int), .int .u64 (b : Int), .int .u64 (c : Int)]
theorem qb_shift (x j : Nat) (hx : x < 18446744073709551616) : bits BinOp.and IntKind.u64 ((x : Int) / 2 ^ j) 1 = ((x / 2 ^ j % 2 : Nat) : Int) := by
  rw [sc_div, sc_and1 _ (Nat.lt_of_le_of_lt (Nat.div_le_self _ _) hx)]
set_option maxRecDepth 100000 in
set_option maxHeartbeats 1000000 in
theorem rbit_high (a b c j : Nat) (hx : a < 18446744073709551616) (hj : j ≤ 63) (u : World) :
    Calls Tryz.prog 40 #[w3 a b c, .int .i64 (64 + (j : Int))] u fun e u' => e = .returned (.int .u64 ((a / 2 ^ j % 2 : Nat) : Int)) ∧ Below u.heap.size u u' := by
  have S := qb_shift a j hx
  have hj' : (j : Int) ≤ 63 := by omega
  have E : 64 + (j : Int) - 64 = (j : Int) := by omega
  have g : decide (64 ≤ 64 + (j : Int)) = true := decide_eq_true (by omega)
  generalize a / 2 ^ j % 2 = r at *
  clear hx
  unfold w3
  go_enter Tryz.func40, Tryz.ntmps40
  go_wp2_with fail
  go_ret
  exact ⟨rfl, (Below.refl _ _).alloc (Nat.le_refl _) _⟩
set_option maxRecDepth 100000 in
set_option maxHeartbeats 1000000 in
theorem rbit_mid (a b c j : Nat) (hx : b < 18446744073709551616) (hj : j ≤ 63) (u : World) :
    Calls Tryz.prog 40 #[w3 a b c, .int .i64 (j : Int)] u fun e u' => e = .returned (.int .u64 ((b / 2 ^ j % 2 : Nat) : Int)) ∧ Below u.heap.size u u' := by
  have S := qb_shift b j hx
  have hj' : (j : Int) ≤ 63 := by omega
  have g1 : decide (64 ≤ (j : Int)) = false := decide_eq_false (by omega)
  have g2 : decide (0 ≤ (j : Int)) = true := decide_eq_true (by omega)
  generalize b / 2 ^ j % 2 = r at *
  clear hx
  unfold w3
  go_enter Tryz.func40, Tryz.ntmps40
  go_wp2_with fail
  go_ret
  exact ⟨rfl, (Below.refl _ _).alloc (Nat.le_refl _) _⟩
set_option maxRecDepth 100000 in
set_option maxHeartbeats 1000000 in
theorem rbit_low (a b c j : Nat) (hx : c < 18446744073709551616) (hj : j ≤ 63) (u : World) :
    Calls Tryz.prog 40 #[w3 a b c, .int .i64 ((j : Int) - 64)] u fun e u' => e = .returned (.int .u64 ((c / 2 ^ j % 2 : Nat) : Int)) ∧ Below u.heap.size u u' := by
  have S := qb_shift c j hx
  have hj' : (j : Int) ≤ 63 := by omega
  have E : (j : Int) - 64 + 64 = (j : Int) := by omega
  have g1 : decide (64 ≤ (j : Int) - 64) = false := decide_eq_false (by omega)
  have g2 : decide (0 ≤ (j : Int) - 64) = false := decide_eq_false (by omega)
  generalize c / 2 ^ j % 2 = r at *
  clear hx
  unfold w3
  go_enter Tryz.func40, Tryz.ntmps40
  go_wp2_with fail
  go_ret
  exact ⟨rfl, (Below.refl _ _).alloc (Nat.le_refl _) _⟩
/-- the whole number of three words -/
def n3 (a b c : Nat) : Nat := (a * 18446744073709551616 + b) * 18446744073709551616 + c
set_option maxRecDepth 100000 in
theorem rbit_run (a b c k : Nat) (i : Int) (hi : i = (k : Int) - 64) (hk : k < 192) (ha : a < 18446744073709551616) (hb : b < 18446744073709551616) (hc : c < 18446744073709551616) (u : World) :
    Calls Tryz.prog 40 #[w3 a b c, .int .i64 i] u fun e u' => e = .returned (.int .u64 ((n3 a b c / 2 ^ k % 2 : Nat) : Int)) ∧ Below u.heap.size u u' := by
  unfold n3
  by_cases h1 : k < 64
  · have e : ((a * 18446744073709551616 + b) * 18446744073709551616 + c) / 2 ^ k % 2 = c / 2 ^ k % 2 := by
      have h2 := (sc_lo (H := a * 18446744073709551616 + b) (L := c) (k := k) (by omega)).1
      rw [h2, show 64 - k = (63 - k) + 1 by omega, Nat.pow_succ, ← Nat.mul_assoc, Nat.mul_comm _ 2]
      omega
    rw [e, hi]
    exact rbit_low a b c k hc (by omega) u
  · by_cases h2 : k < 128
    · obtain ⟨j, rfl⟩ : ∃ j, k = 64 + j := ⟨k - 64, by omega⟩
      have e : ((a * 18446744073709551616 + b) * 18446744073709551616 + c) / 2 ^ (64 + j) % 2 = b / 2 ^ j % 2 := by
        rw [(sc_hi (H := a * 18446744073709551616 + b) (j := j) hc).1]
        have h3 := (sc_lo (H := a) (L := b) (k := j) (by omega)).1
        rw [h3, show 64 - j = (63 - j) + 1 by omega, Nat.pow_succ, ← Nat.mul_assoc, Nat.mul_comm _ 2]
        omega
      rw [e, hi, show ((64 + j : Nat) : Int) - 64 = (j : Int) by omega]
      exact rbit_mid a b c j hb (by omega) u
    · obtain ⟨j, rfl⟩ : ∃ j, k = 64 + (64 + j) := ⟨k - 128, by omega⟩
      have e : ((a * 18446744073709551616 + b) * 18446744073709551616 + c) / 2 ^ (64 + (64 + j)) % 2 = a / 2 ^ j % 2 := by
        rw [(sc_hi (H := a * 18446744073709551616 + b) (j := 64 + j) hc).1, (sc_hi (H := a) (j := j) hb).1]
      rw [e, hi, show ((64 + (64 + j) : Nat) : Int) - 64 = 64 + (j : Int) by omega]
      exact rbit_high a b c j ha (by omega) u
end Go.Proofs.YtocnpcjpkieogaaGreatDoor

namespace Go.Proofs.YtocnpcjpkieogaaGreatDoor
open Go.ChangeShapes Go.WideShapes Go.ChangeAt Go.RowKit

theorem qd_fact {d s : Nat} (h0 : 0 < d) (hd : d < 4294967296) (hs : s = 63 - d.log2) : 32 ≤ s ∧ s ≤ 63 ∧ (63 - (d.log2 : Int)) = (s : Int) ∧ 2 ^ 31 ≤ d * 2 ^ (s - 32) ∧ d * 2 ^ (s - 32) < 4294967296 := by
  have h1 := (Nat.log2_eq_iff (n := d) (k := d.log2) (by omega)).1 rfl
  have h2 : d.log2 ≤ 31 := by
    rcases Nat.lt_or_ge d.log2 32 with h | h
    · omega
    · have := Nat.pow_le_pow_right (n := 2) (by decide) h
      rw [show (2 : Nat) ^ 32 = 4294967296 by decide] at this
      omega
  have e : s - 32 + d.log2 = 31 := by omega
  have hp : 0 < 2 ^ (s - 32) := Nat.two_pow_pos _
  have k1 : 2 ^ d.log2 * 2 ^ (s - 32) ≤ d * 2 ^ (s - 32) := Nat.mul_le_mul_right _ h1.1
  have k2 : d * 2 ^ (s - 32) < 2 ^ (d.log2 + 1) * 2 ^ (s - 32) := Nat.mul_lt_mul_of_pos_right h1.2 hp
  rw [← Nat.pow_add, show d.log2 + (s - 32) = 31 by omega] at k1
  rw [← Nat.pow_add, show d.log2 + 1 + (s - 32) = 32 by omega, show (2 : Nat) ^ 32 = 4294967296 by decide] at k2
  exact ⟨by omega, by omega, by omega, k1, k2⟩
/-- the two steps of the long division come to the whole one -/
theorem qd_math {h d s X Y : Nat} (h0 : 0 < d) (hs : 32 ≤ s) (hX : X = h * 2 ^ s) (hY : Y = d * 2 ^ (s - 32)) :
    X / Y * 4294967296 + X % Y * 4294967296 / Y = h * 18446744073709551616 / d ∧ X % Y * 4294967296 % Y * 4294967296 / 2 ^ s = h * 18446744073709551616 % d := by
  have hp : 0 < 2 ^ (s - 32) := Nat.two_pow_pos _
  have hY0 : 0 < Y := by rw [hY]; exact Nat.mul_pos h0 hp
  have es : (2 : Nat) ^ s = 2 ^ (s - 32) * 4294967296 := by rw [show (4294967296 : Nat) = 2 ^ 32 by decide, ← Nat.pow_add]; congr 1; omega
  have e1 : X * 4294967296 = h * 18446744073709551616 * 2 ^ (s - 32) := by
    rw [hX, es]
    generalize (2 : Nat) ^ (s - 32) = c
    rw [Nat.mul_assoc h, Nat.mul_assoc c, Nat.mul_comm c, ← Nat.mul_assoc]
  have e2 : X * 4294967296 / Y = h * 18446744073709551616 / d := by rw [e1, hY, Nat.mul_div_mul_right _ _ hp]
  have e3 : X * 4294967296 % Y = h * 18446744073709551616 % d * 2 ^ (s - 32) := by rw [e1, hY, Nat.mul_mod_mul_right]
  have e4 : X * 4294967296 = X % Y * 4294967296 + Y * (X / Y * 4294967296) := by
    rw [← Nat.mul_assoc, ← Nat.add_mul, Nat.mod_add_div]
  constructor
  · rw [← e2, e4, Nat.add_mul_div_left _ _ hY0, Nat.add_comm]
  · have e5 : X % Y * 4294967296 % Y = X * 4294967296 % Y := by rw [e4, Nat.add_mul_mod_self_left]
    rw [e5, e3, es, Nat.mul_assoc, Nat.mul_div_cancel _ (Nat.mul_pos hp (by decide))]
theorem qd_mask (Y : Nat) (hY : Y < 4294967296) : bits BinOp.and IntKind.u64 ((Y * 4294967296 : Nat) : Int) 4294967295 = 0 := by
  rw [show (4294967295 : Int) = ((4294967295 : Nat) : Int) from rfl, u64_and_nat _ 4294967295 (by omega) (by omega)]
  have := Nat.and_two_pow_sub_one_eq_mod (Y * 4294967296) 32
  rw [show (2 : Nat) ^ 32 - 1 = 4294967295 by decide, show (2 : Nat) ^ 32 = 4294967296 by decide] at this
  rw [this]
  simp
theorem qd_wrap {a b v : Int} (h : a - b = v) (h0 : 0 ≤ v) (h1 : v < 18446744073709551616) : IntKind.u64.wrap (IntKind.u64.wrap (IntKind.u64.wrap a) - IntKind.u64.wrap b) = v := by
  have wr : ∀ x : Int, IntKind.u64.wrap x = x % 18446744073709551616 := fun x => by simp [IntKind.wrap, IntKind.bits, IntKind.signed]
  rw [wr, wr, wr, wr, Int.emod_emod, ← Int.sub_emod, h, Int.emod_eq_of_lt h0 h1]
end Go.Proofs.YtocnpcjpkieogaaGreatDoor
