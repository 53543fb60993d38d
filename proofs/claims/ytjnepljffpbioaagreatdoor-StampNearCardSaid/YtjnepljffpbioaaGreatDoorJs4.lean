/- Proved here: what the texts Sfg prove, one behind the other. -/
import Derived.Test.YtjnepljffpbioaaGreatDoorJs1
import Derived.Test.YtjnepljffpbioaaGreatDoorJs3

namespace Go.Proofs.YtjnepljffpbioaaGreatDoor
open Go.ChangeShapes Go.WideShapes Go.ChangeAt Go.RowKit Ieee.Own

/-! ### the tests -/
/-- is the number one that Figure takes? -/
def figB (b : Nat) : Bool := fitB b && decide (b % 9223372036854775808 ≤ 4742290407621132288)
/-- how many digits -/
def wdN (n : Nat) : Nat := if n < 10 then 1 else wdN (n / 10) + 1
termination_by n
theorem wdN_low {n : Nat} (h : n < 10) : wdN n = 1 := by rw [wdN]; exact if_pos h
theorem wdN_high {n : Nat} (h : ¬ n < 10) : wdN n = wdN (n / 10) + 1 := by rw [wdN]; exact if_neg h
theorem wdN_le : ∀ (k n : Nat), 1 ≤ k → n < 10 ^ k → wdN n ≤ k := by
  intro k
  induction k with
  | zero => intro n h _; omega
  | succ k ih =>
    intro n _ h
    by_cases h1 : n < 10
    · rw [wdN_low h1]; omega
    · rw [wdN_high h1]
      have : k ≠ 0 := by rintro rfl; rw [show (10 : Nat) ^ (0 + 1) = 10 by decide] at h; omega
      have := ih (n / 10) (by omega) (by rw [Nat.pow_succ] at h; omega)
      omega
theorem wdN_pos (n : Nat) : 1 ≤ wdN n := by
  rw [wdN]; split <;> omega
/-- a number's text -/
def sgS (b n : Nat) : ByteArray := if 9223372036854775808 < b ∧ 0 < n then ⟨#[45]⟩ else ⟨#[]⟩
def figS (b p : Nat) : ByteArray :=
  if 0 < p then sgS b (scN b p) ++ dgS (wdN (scN b p / tenN p)) (scN b p / tenN p) ++ (⟨#[46]⟩ ++ dgS p (scN b p % tenN p))
  else sgS b (scN b p) ++ dgS (wdN (scN b p / tenN p)) (scN b p / tenN p)
def figV (b : Nat) (p : Int) : Value :=
  if p < 0 ∨ 9 < p then .tuple #[.string ⟨#[]⟩, .int .i64 1]
  else if figB b = true then .tuple #[.string (figS b p.toNat), .int .i64 0] else .tuple #[.string ⟨#[]⟩, .int .i64 3]

theorem scN_le (b p : Nat) (hp : p ≤ 9) (hf : b % 9223372036854775808 = 0 ∨ b % 9223372036854775808 ≤ 4742290407621132288) : scN b p < 4611686018427387904 := by
  unfold scN
  split
  · omega
  · have ht : tenN p ≤ 1000000000 := by have := tenN_le hp; rw [show tenN 9 = 1000000000 by decide] at this; exact this
    have hM : (b % 4503599627370496 + 4503599627370496) * tenN p ≤ 9007199254740991 * 1000000000 := Nat.mul_le_mul (by omega) ht
    have hk : 22 ≤ 1075 - b % 9223372036854775808 / 4503599627370496 := by omega
    generalize (b % 4503599627370496 + 4503599627370496) * tenN p = M at *
    generalize 1075 - b % 9223372036854775808 / 4503599627370496 = k at *
    have h1 : 2 ^ 22 ≤ 2 ^ k := Nat.pow_le_pow_right (by decide) hk
    rw [show (2 : Nat) ^ 22 = 4194304 by decide] at h1
    have h2 : M / 2 ^ k ≤ M / 4194304 := Nat.div_le_div_left h1 (by decide)
    unfold rneN
    have h3 : M / 4194304 ≤ 2305843009213693952 := by omega
    split <;> omega
end Go.Proofs.YtjnepljffpbioaaGreatDoor
