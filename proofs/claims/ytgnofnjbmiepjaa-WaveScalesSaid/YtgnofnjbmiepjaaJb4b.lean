/- Proved here: what the texts Sset, Thn, Sts prove, one behind the other. -/
import Derived.Test.YtgnofnjbmiepjaaJb4
import Derived.Test.YtgnofnjbmiepjaaJb3
import Derived.BigQuiet

namespace Go.Proofs.Ytgnofnjbmiepjaa
open Go.ChangeShapes Go.WideShapes Go.ChangeAt Go.RowKit Ieee.Own

/-! ### halves -/
/-! ### Hull, Meet -/
theorem pos_fit {x : Nat} (h : x < 18446744073709551616) (f : fitB x = true) : fitB (posW x) = true ∧ posW x < 18446744073709551616 := by
  have := posW_fin (fit_fin h f)
  exact ⟨(fit_iff this).2 (by rw [posW_V]; exact (fit_iff (fit_fin h f)).1 f), this.1⟩
theorem mn_fit {x y : Nat} (hx : x < 18446744073709551616) (hy : y < 18446744073709551616) (f : fitB x = true) (g : fitB y = true) : fitB (mnW x y) = true := by
  rcases (mnW_spec (fit_fin hx f) (fit_fin hy g)).1 with h | h <;> rw [h] <;> assumption
theorem mx_fit {x y : Nat} (hx : x < 18446744073709551616) (hy : y < 18446744073709551616) (f : fitB x = true) (g : fitB y = true) : fitB (mxW x y) = true := by
  rcases (mxW_spec (fit_fin hx f) (fit_fin hy g)).1 with h | h <;> rw [h] <;> assumption
def meetB (a0 b0 a1 b1 : Nat) : Bool := decide (V (mxW a0 a1) ≤ V (mnW b0 b1))
def meetX (a0 b0 a1 b1 : Nat) : Nat := if meetB a0 b0 a1 b1 = true then posW (mxW a0 a1) else 0
def meetY (a0 b0 a1 b1 : Nat) : Nat := if meetB a0 b0 a1 b1 = true then posW (mnW b0 b1) else 0
section
variable {a0 b0 a1 b1 : Nat} (ha0 : a0 < 18446744073709551616) (hb0 : b0 < 18446744073709551616) (ha1 : a1 < 18446744073709551616) (hb1 : b1 < 18446744073709551616) (h0 : errSS a0 b0 a1 b1 = 0)
include ha0 hb0 ha1 hb1 h0
end

end Go.Proofs.Ytgnofnjbmiepjaa

namespace Go.Proofs.Ytgnofnjbmiepjaa
open Go.ChangeShapes Go.WideShapes Go.ChangeAt Go.RowKit Ieee.Own

theorem key_V {a b : Nat} (ha : FinW a) (hb : FinW b) : key64 a = key64 b ↔ V a = V b := by
  have h1 := V_lt_key ha hb
  have h2 := V_lt_key hb ha
  omega
theorem eq_words {a b : Nat} (ha : FinW a) (hb : FinW b) : (FloatKind.f64.format.order a b == some Ordering.eq) = decide (V a = V b) := by
  rw [o_eql a b ha.1 hb.1, decide_eq_decide]
  have := key_V ha hb
  exact ⟨fun h => this.1 h.2.2, fun h => ⟨fin_nn ha, fin_nn hb, this.2 h⟩⟩
/-! ### each operation, of single numbers -/
/-! ### thin -/
end Go.Proofs.Ytgnofnjbmiepjaa

namespace Go.Proofs.Ytgnofnjbmiepjaa
open Go.ChangeShapes Go.WideShapes Go.ChangeAt Go.RowKit Ieee.Own

structure Sets (a0 b0 a1 b1 : Nat) : Prop where
  la0 : a0 < 18446744073709551616
  lb0 : b0 < 18446744073709551616
  la1 : a1 < 18446744073709551616
  lb1 : b1 < 18446744073709551616
  e0 : errS a0 b0 = 0
  e1 : errS a1 b1 = 0
section
variable {a0 b0 a1 b1 : Nat} (T : Sets a0 b0 a1 b1)
include T
end
end Go.Proofs.Ytgnofnjbmiepjaa
