/- Proved here: what the texts Upa, Usn, Uhf prove, one behind the other. -/
import Derived.Test.YtgnofnjbmiepjaaJb8

namespace Go.Proofs.Ytgnofnjbmiepjaa
open Go.ChangeShapes Go.WideShapes Go.ChangeAt Go.RowKit Ieee.Own

/-- may all of a span be angles? the error's number -/
def errT (a b : Nat) : Int := if errS a b ≠ 0 then errS a b else if errA a ≠ 0 then errA a else errA b
/-- the whole number at 4 x or next above it, next below it -/
def topN (x : Nat) : Int := -(-(4 * V x) / 2 ^ 1074)
def botN (x : Nat) : Int := 4 * V x / 2 ^ 1074
def passB (a b : Nat) (k : Int) : Bool := decide (topN a + (k - topN a) % 4 ≤ botN b)
/-- up to 1, down to -1 -/
def stP (p : Pr) (h l : Bool) : Pr := (if l then noneW else p.1, if h then oneW else p.2)
end Go.Proofs.Ytgnofnjbmiepjaa

namespace Go.Proofs.Ytgnofnjbmiepjaa
open Go.ChangeShapes Go.WideShapes Go.ChangeAt Go.RowKit Ieee.Own

/-! ### whatever the span -/
def hullP (p q : Pr) : Pr := (posW (mnW p.1 q.1), posW (mxW p.2 q.2))
/-- what Spans answers -/
structure SpRes (Y p q : Pr) (k : Int) : Prop where
  err : k = errT Y.1 Y.2
  no : k ≠ 0 → p = (0, 0) ∧ q = (0, 0)
  ok : k = 0 → ∃ m, FinW m ∧ Up (fun u => V Y.2 - V Y.1 - u) m ∧ (V oneW ≤ V m → p = (noneW, oneW) ∧ q = (noneW, oneW)) ∧
    (¬ V oneW ≤ V m → ∃ S C T D, PtH Y.1 S C ∧ PtH Y.2 T D ∧ p = stP (hullP S T) (passB Y.1 Y.2 1) (passB Y.1 Y.2 3) ∧ q = stP (hullP C D) (passB Y.1 Y.2 0) (passB Y.1 Y.2 2))
theorem SpRes.uniq {Y p q p' q' : Pr} {k l : Int} (h : SpRes Y p q k) (j : SpRes Y p' q' l) : p = p' ∧ q = q' ∧ k = l := by
  have e : k = l := by rw [h.err, j.err]
  subst e
  by_cases hk : k = 0
  · obtain ⟨m, -, u, a, b⟩ := h.ok hk
    obtain ⟨m', -, u', a', b'⟩ := j.ok hk
    have ev := Up.uniq u u'
    by_cases c : V oneW ≤ V m
    · obtain ⟨rfl, rfl⟩ := a c
      obtain ⟨rfl, rfl⟩ := a' (by omega)
      exact ⟨rfl, rfl, rfl⟩
    · obtain ⟨S, C, T, D, H, H', rfl, rfl⟩ := b c
      obtain ⟨S2, C2, T2, D2, J, J', rfl, rfl⟩ := b' (by omega)
      obtain ⟨rfl, rfl⟩ := H.rel.uniq J.rel
      obtain ⟨rfl, rfl⟩ := H'.rel.uniq J'.rel
      exact ⟨rfl, rfl, rfl⟩
  · obtain ⟨rfl, rfl⟩ := h.no hk
    obtain ⟨rfl, rfl⟩ := j.no hk
    exact ⟨rfl, rfl, rfl⟩
end Go.Proofs.Ytgnofnjbmiepjaa

namespace Go.Proofs.Ytgnofnjbmiepjaa
open Go.ChangeShapes Go.WideShapes Go.ChangeAt Go.RowKit Ieee.Own

/-! ### Spans -/
end Go.Proofs.Ytgnofnjbmiepjaa
