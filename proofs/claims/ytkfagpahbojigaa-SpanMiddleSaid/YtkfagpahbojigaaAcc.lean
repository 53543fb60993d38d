/- Proved here: what the reference's long sums (Acc: Add, AddProd, Sign) answer, over the translated code; each under the conditions of its theorem. -/
import Derived.Test.YtkfagpahbojigaaPut
import Derived.Test.YtkfagpahbojigaaQuo
namespace Go.Proofs.Ytkfagpahbojigaa
open Go.ChangeShapes Go.WideShapes Go.ChangeAt Go.RowKit Ieee.Own

/-- the long sum at block b tells z, modulo 2^1536 -/
structure Holds (b : Nat) (w : World) (z : Int) (ws : Nat → Nat) : Prop where
  lt : ∀ i, ws i < 18446744073709551616
  size : b < w.heap.size
  cell : ∀ i, i < 24 → w.cell? ⟨b, i, none⟩ = some (.int .u64 (ws i))
  free : ∀ i, i < 24 → w.frozen? ⟨b, i, none⟩ = false
  val : ((2 ^ (64 * 24) : Nat) : Int) ∣ (sumW ws 24 : Int) - z

def PutPost (b : Nat) (w : World) (z : Int) (e : Ending) (w' : World) : Prop := e = .returned (.tuple #[]) ∧ (∃ ns, Holds b w' z ns) ∧ Still b w w'

theorem put_any (b m at_ : Nat) (neg : Bool) (w : World) (z : Int) (ws : Nat → Nat) (H : Holds b w z ws) (hm : m < 18446744073709551616) (hat : at_ < 1472) :
    Calls Try.prog 63 #[.pointer (some ⟨b, 0, none⟩), .int .u64 m, .int .i64 at_, .bool neg] w (PutPost b w (z + (if neg then -((m * 2 ^ at_ : Nat) : Int) else ((m * 2 ^ at_ : Nat) : Int)))) := by
  have hk64 : at_ % 64 < 64 := Nat.mod_lt _ (by omega)
  obtain ⟨hs1, hs2⟩ := shifted_high m (at_ % 64) hk64 hm
  have hs0 := shifted m (at_ % 64)
  have hp0 : m * 2 ^ (at_ % 64) % 18446744073709551616 < 18446744073709551616 := Nat.mod_lt _ (by omega)
  generalize hP0 : m * 2 ^ (at_ % 64) % 18446744073709551616 = p0 at *
  generalize hP1 : m * 2 ^ (at_ % 64) / 18446744073709551616 = p1 at *
  have hwr : IntKind.u64.wrap ((m : Int) * 2 ^ (at_ % 64)) = (p0 : Int) := by
    rw [← hP0]
    have : ((m : Int) * 2 ^ (at_ % 64)) = ((m * 2 ^ (at_ % 64) : Nat) : Int) := by simp
    rw [this]
    generalize m * 2 ^ (at_ % 64) = x
    simp [IntKind.wrap, IntKind.bits, IntKind.signed]
  have hcase : decide (0 < (at_ : Int) % 64) = true ∧ (m : Int) / 2 ^ (64 - at_ % 64) = (p1 : Int) ∨ decide (0 < (at_ : Int) % 64) = false ∧ p1 = 0 := by
    by_cases h0 : at_ % 64 = 0
    · right
      refine ⟨decide_eq_false (by omega), ?_⟩
      rw [hs1, h0]
      exact Nat.div_eq_of_lt (Nat.lt_of_lt_of_le hm (by decide))
    · left
      refine ⟨decide_eq_true (by omega), ?_⟩
      rw [hs1]; simp
  have hp1 : p1 < 18446744073709551616 := by rw [hs1]; exact hs2
  have hcy := cy_le neg ws (at_ / 64) p0 p1 H.lt hp0 hp1
  refine (put_core b m at_ (at_ / 64) p0 p1 w neg ws (by omega) (by omega) hwr hcase (Lib.hid H.size) (Lib.hid H.cell) (Lib.hid H.free) (by omega) (by omega) (Lib.hid hcy)).mono ?_
  rintro e w' ⟨he, R⟩
  refine ⟨he, ⟨nw neg ws (at_ / 64) p0 p1, nw_lt _ _ _ _ _, ?_, ?_, ?_, ?_⟩, R.old⟩
  · have := R.size; have := H.size; omega
  · intro i hi; exact R.done i hi
  · exact R.free
  · have hx := sum_xw (at_ / 64) p0 p1 24 (by omega)
    have hmat : p0 * 2 ^ (64 * (at_ / 64)) + p1 * 2 ^ (64 * (at_ / 64 + 1)) = m * 2 ^ at_ := by
      have e : at_ % 64 + 64 * (at_ / 64) = at_ := by omega
      rw [pow64, ← Nat.mul_assoc, ← Nat.add_mul, hs0, Nat.mul_assoc, ← Nat.pow_add, e]
    rw [hmat] at hx
    obtain ⟨k, hk⟩ := H.val
    cases neg
    · have h := sum_add ws (at_ / 64) p0 p1 24
      rw [hx] at h
      refine ⟨k - cy false ws (at_ / 64) p0 p1 24, ?_⟩
      rw [Int.mul_sub, ← hk]
      simp only [Bool.false_eq_true, if_false]
      generalize (2 ^ (64 * 24) : Nat) = Z at *
      have h' : ((sumW (nw false ws (at_ / 64) p0 p1) 24 : Nat) : Int) + ((cy false ws (at_ / 64) p0 p1 24 * Z : Nat) : Int) = ((sumW ws 24 : Nat) : Int) + ((m * 2 ^ at_ : Nat) : Int) := by omega
      rw [Int.natCast_mul (cy false ws (at_ / 64) p0 p1 24) Z, Int.mul_comm] at h'
      omega
    · have h := sum_sub ws (at_ / 64) p0 p1 H.lt hp0 hp1 24
      rw [hx] at h
      refine ⟨k + cy true ws (at_ / 64) p0 p1 24, ?_⟩
      rw [Int.mul_add, ← hk]
      simp only [if_true]
      generalize (2 ^ (64 * 24) : Nat) = Z at *
      have h' : ((sumW (nw true ws (at_ / 64) p0 p1) 24 : Nat) : Int) + ((m * 2 ^ at_ : Nat) : Int) = ((sumW ws 24 : Nat) : Int) + ((cy true ws (at_ / 64) p0 p1 24 * Z : Nat) : Int) := by omega
      rw [Int.natCast_mul (cy true ws (at_ / 64) p0 p1 24) Z, Int.mul_comm] at h'
      omega

/-! ### single calls -/
theorem x34 (b : Nat) (w : World) : (callFunc 65 #[.float .f64 b]).run Try.prog w = .ok (.value (.int .u64 (b : Int))) w := by
  rw [run_callFunc_extern (e := Extern.MathFloatBits.float64bits) Try.func65 (by kernel_rfl) (by kernel_rfl) (by kernel_rfl) (by kernel_rfl)]; rfl
theorem andn63 (b : Nat) (hb : b < 18446744073709551616) : bits BinOp.andNot IntKind.u64 (b : Int) 9223372036854775808 = ((b % 9223372036854775808 : Nat) : Int) := by
  rw [show (9223372036854775808 : Int) = ((9223372036854775808 : Nat) : Int) from rfl, u64_andNot_nat b 9223372036854775808 hb (by omega)]
  exact congrArg _ (Nat.and_two_pow_sub_one_eq_mod b 63)
theorem and52 (b : Nat) (hb : b < 18446744073709551616) : bits BinOp.and IntKind.u64 (b : Int) 4503599627370495 = ((b % 4503599627370496 : Nat) : Int) := by
  rw [show (4503599627370495 : Int) = ((4503599627370495 : Nat) : Int) from rfl, u64_and_nat b 4503599627370495 hb (by omega)]
  exact congrArg _ (Nat.and_two_pow_sub_one_eq_mod b 52)
theorem or52 (b : Nat) (hb : b < 4503599627370496) : bits BinOp.or IntKind.u64 (b : Int) 4503599627370496 = ((4503599627370496 + b : Nat) : Int) := by
  rw [show (4503599627370496 : Int) = ((4503599627370496 : Nat) : Int) from rfl, u64_or_nat b _ (by omega) (by omega), Nat.or_comm]
  have := Nat.two_pow_add_eq_or_of_lt (i := 52) (b := b) (by omega) 1
  rw [show (2 : Nat) ^ 52 * 1 = 4503599627370496 from rfl] at this
  rw [← this]
theorem ieq_f {a b : Int} (h : ¬ a = b) : (a == b) = false := by simpa using h
theorem ieq_t {a b : Int} (h : a = b) : (a == b) = true := by simpa using h

theorem ret_ii {k l : IntKind} {a b c d : Int} (h : a = c) (h2 : b = d) : Ending.returned (.tuple #[.int k a, .int l b]) = .returned (.tuple #[.int k c, .int l d]) := by rw [h, h2]
theorem mant_any (b : Nat) (hb : FinW b) (w : World) :
    Calls Try.prog 62 #[.float .f64 b] w fun e w' => e = .returned (.tuple #[.int .u64 (mg 52 (b % 9223372036854775808)), .int .i64 ((ex 52 (b % 9223372036854775808) : Int) - 1074)]) ∧ w = w' := by
  have H := andn63 b hb.1
  have hr : b % 9223372036854775808 < 9223372036854775808 := by omega
  generalize b % 9223372036854775808 = r at *
  by_cases h : r < 4503599627370496
  · have e1 : mg 52 r = r := if_pos h
    have e2 : ex 52 r = 0 := if_pos h
    have t : ((r : Int) / 4503599627370496 == 0) = true := ieq_t (by omega)
    rw [e1, e2]
    clear e1 e2 h hr hb
    go_enter Try.func62, Try.ntmps62
    go_wp2_with (simp only [x34])
    go_ret2
    exact ⟨rfl, rfl⟩
  · have e1 : mg 52 r = 4503599627370496 + r % 4503599627370496 := if_neg h
    have e2 : ex 52 r = r / 4503599627370496 - 1 := if_neg h
    have t : ((r : Int) / 4503599627370496 == 0) = false := ieq_f (by omega)
    have K1 := and52 r (by omega)
    have K2 := Lib.hid (or52 (r % 4503599627370496) (by omega))
    have K3 : 0 ≤ (r : Int) / 4503599627370496 := by omega
    have K4 : (r : Int) / 4503599627370496 ≤ 2047 := by omega
    have K5 : Hid ((r : Int) / 4503599627370496 - 1075 = ((r / 4503599627370496 - 1 : Nat) : Int) - 1074) := by show _ = _; omega
    rw [e1, e2]
    clear e1 e2 h hr hb
    go_enter Try.func62, Try.ntmps62
    go_wp2_with (simp only [x34])
    go_ret2
    refine ⟨ret_ii ?_ K5.out, rfl⟩
    have K2 := K2.out
    simp only [Int.natCast_emod] at K2
    exact K2
end Go.Proofs.Ytkfagpahbojigaa
