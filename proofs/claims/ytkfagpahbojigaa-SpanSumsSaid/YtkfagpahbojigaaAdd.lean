/- Proved here: what the reference's long sums answer when numbers and products are put to them. -/
import Derived.Test.YtkfagpahbojigaaAcc
namespace Go.Proofs.Ytkfagpahbojigaa
open Go.ChangeShapes Go.WideShapes Go.ChangeAt Go.RowKit Ieee.Own

theorem mg_zero (r : Nat) : mg 52 r = 0 ↔ r = 0 := by unfold mg; split <;> omega

/-- is a word that is no nought below 0? -/
theorem below0 (b : Nat) (hb : FinW b) (h0 : mg 52 (b % 9223372036854775808) ≠ 0) : (FloatKind.f64.format.order b 0 == some Ordering.lt) = decide (9223372036854775808 ≤ b) := by
  have h1 : b % 9223372036854775808 ≠ 0 := fun h => h0 ((mg_zero _).2 h)
  have h2 := hb.2
  show (Ieee.double.order b 0 == some Ordering.lt) = _
  rw [order64 b 0 hb.1 (by omega) (by omega) (by omega), cmp_lt]
  simp only [decide_eq_decide]
  have hb1 := hb.1
  unfold key64
  split <;> split <;> omega

theorem V_mg (b : Nat) (hb : FinW b) : V b = if 9223372036854775808 ≤ b then -((mg 52 (b % 9223372036854775808) * 2 ^ ex 52 (b % 9223372036854775808) : Nat) : Int) else ((mg 52 (b % 9223372036854775808) * 2 ^ ex 52 (b % 9223372036854775808) : Nat) : Int) := by
  have h1 := hb.1
  unfold V
  by_cases h : b < 9223372036854775808
  · rw [if_pos h, if_neg (by omega), show b % 9223372036854775808 = b by omega]; rfl
  · rw [if_neg h, if_pos (by omega), show b % 9223372036854775808 = b - 9223372036854775808 by omega]; rfl

theorem add_any (k : Nat) (b : Nat) (X z : Int) (ws : Nat → Nat) (w : World) (hb : FinW b) (hX : V b = X * 2 ^ 50)
    (hr : mg 52 (b % 9223372036854775808) = 0 ∨ 50 ≤ ex 52 (b % 9223372036854775808) ∧ ex 52 (b % 9223372036854775808) < 1522) (H : Holds k w z ws) :
    Calls Try.prog 28 #[.pointer (some ⟨k, 0, none⟩), .float .f64 b] w (PutPost k w (z + X)) := by
  have M := fun w => mant_any b hb w
  have hv := V_mg b hb
  have hlt := below0 b hb
  have hml : mg 52 (b % 9223372036854775808) < 18446744073709551616 := Nat.lt_trans (mg_lt 52 _) (by decide)
  generalize mg 52 (b % 9223372036854775808) = m at *
  generalize ex 52 (b % 9223372036854775808) = e at *
  by_cases h0 : m = 0
  · subst h0
    have hX0 : X = 0 := by
      have : X * 2 ^ 50 = 0 := by rw [← hX, hv]; split <;> simp
      omega
    have hPost : Hid (PutPost k w (z + X) (.returned (.tuple #[])) w) := ⟨rfl, ⟨ws, by rw [hX0, Int.add_zero]; exact H⟩, Still.refl _ _⟩
    clear hv hlt hml hX hr H hX0 hb
    go_enter Try.func28, Try.ntmps28
    go_wp2_with (go_at_call 62; ((with_reducible refine (M _).mono ?_); rintro e w' ⟨rfl, rfl⟩))
    go_end0
    exact hPost.out
  · obtain ⟨g, rfl⟩ : ∃ g, e = g + 50 := ⟨e - 50, by omega⟩
    have e1 := hlt h0
    have P := put_any k m g (decide (9223372036854775808 ≤ b)) w z ws H hml (by omega)
    have hXe : (if (decide (9223372036854775808 ≤ b)) = true then -((m * 2 ^ g : Nat) : Int) else ((m * 2 ^ g : Nat) : Int)) = X := by
      rw [hX] at hv
      rw [Nat.pow_add, ← Nat.mul_assoc] at hv
      generalize m * 2 ^ g = y at *
      by_cases hs : 9223372036854775808 ≤ b
      · rw [if_pos hs] at hv; rw [if_pos (decide_eq_true hs)]; omega
      · rw [if_neg hs] at hv; rw [if_neg (by simp; omega)]; omega
    rw [hXe] at P
    have t0 : ((m : Int) != 0) = true := by simp; omega
    have t1 : (g : Int) + 50 - 1074 + 1024 = (g : Int) := by omega
    have t2 : (g : Int) ≤ 1500 := by omega
    have t3 : 0 ≤ (g : Int) := by omega
    clear hv hlt hml hX hr H hXe hb h0
    generalize decide (9223372036854775808 ≤ b) = neg at *
    go_enter Try.func28, Try.ntmps28
    go_wp2_with (first | (go_at_call 62; ((with_reducible refine (M _).mono ?_); rintro e w' ⟨rfl, rfl⟩)) | (go_at_call 63; ((with_reducible refine P.mono ?_); rintro e w' ⟨rfl, hp⟩)))
    go_end0
    exact ⟨rfl, hp⟩
end Go.Proofs.Ytkfagpahbojigaa
