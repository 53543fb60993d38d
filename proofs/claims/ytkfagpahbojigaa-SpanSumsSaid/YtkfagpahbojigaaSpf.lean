/- Proved here: a span that came in, opened. -/
import Derived.Test.YtkfagpahbojigaaSpr
import Derived.SizedLaws
import Derived.ProofKit
import Derived.OpenShut
import Derived.Carry
import Derived.Lib.SmallJoins
namespace Go.Proofs.Ytkfagpahbojigaa
open Go.ChangeShapes Go.WideShapes Go.ChangeAt Go.RowKit Ieee.Own

theorem float_cell {H : Type} {enc : TypeId × Value → H} {P : Program} {w : World} {base : Nat} {spare : Nat → Bool} {held : Bool} {n : Nat} {e : TypeId} {v : Value} {x : DataW H × List MemPlace}
    (he : P.underlying e = some (.float .f64)) (h : DataW.trod enc P w base spare held n e [v] = some x) : ∃ b, v = .float .f64 b ∧ b < 18446744073709551616 := by
  cases n with
  | zero => simp [DataW.trod] at h
  | succ n =>
    simp only [DataW.trod, he] at h
    cases v with
    | float k b =>
      cases k with
      | f64 => exact ⟨b, rfl, by
          by_cases hw : (Lit.float .f64 b).wf = true
          · simpa only [Lit.wf, decide_eq_true_eq] using hw
          · simp [hw] at h⟩
      | f32 => simp at h
    | _ => simp at h
theorem open_span {H : Type} {enc : TypeId × Value → H} {W : World} {r : Reach} {b0 base : Nat} {spare : Nat → Bool} {held : Bool} {v : Value} {d : DataW H} {p : List MemPlace}
    (hv : Value.okWide Try.prog W r b0 24 v) (h : DataW.Trod enc Try.prog W base spare held 24 v d p) : ∃ a b, v = spanV a b ∧ a < 18446744073709551616 ∧ b < 18446744073709551616 := by
  obtain ⟨v0, v1, y0, y1, n, rfl, -, -, h0, h1⟩ := Go.Joins.open_agg2 Try.underlying24 (by kernel_rfl) (by kernel_rfl) hv h
  obtain ⟨a, rfl, ha⟩ := float_cell Try.underlying22 h0
  obtain ⟨b, rfl, hb⟩ := float_cell Try.underlying22 h1
  exact ⟨a, b, rfl, ha, hb⟩
end Go.Proofs.Ytkfagpahbojigaa
