/- Proved here: what the texts Sqp prove, one behind the other. -/
import Derived.Test.YtpnncmdeidbemaaDoorJs7
import Derived.Test.YtpnncmdeidbemaaDoorJs9
import Derived.Test.YtpnncmdeidbemaaDoorJs13

namespace Go.Proofs.YtpnncmdeidbemaaDoor
open Go.ChangeShapes Go.WideShapes Go.ChangeAt Go.RowKit

theorem exK_move {P : Program} {ρ : Operand → Value} {o : Oper} {x : Operand} {v : Value} (w : World) (ho : o.op = .move x) (h : ρ x = v) : (execOp ρ o).run P w = .ok (.value v) w := by
  unfold execOp; rw [ho]; simp [h]
/-- the instant of a text and an error -/
def parV (L : List Int) : Value := if isSt L = true then fromV (stY L) (nf L 7 9) (nf L 10 12) (nf L 13 15) (nf L 16 18) (nf L 19 21) (nf L 22 26) else .tuple #[.int .i64 0, .int .i64 90]
theorem parV_no {L : List Int} (h : isSt L = false) : parV L = .tuple #[.int .i64 0, .int .i64 90] := if_neg (by rw [h]; decide)
theorem parV_yes {L : List Int} (h : isSt L = true) : parV L = fromV (stY L) (nf L 7 9) (nf L 10 12) (nf L 13 15) (nf L 16 18) (nf L 19 21) (nf L 22 26) := if_pos h
theorem byI_extract (s : ByteArray) (a b : Nat) : byI (s.extract a b) = pc (byI s) a b := by
  unfold byI pc
  rw [ByteArray.data_extract]
  simp [List.map_drop, List.map_take]
theorem isSt_nod {L : List Int} (h : ¬ (digB (pc L 1 6) = true ∧ digB (pc L 7 9) = true ∧ digB (pc L 10 12) = true ∧ digB (pc L 13 15) = true ∧ digB (pc L 16 18) = true ∧ digB (pc L 19 21) = true ∧ digB (pc L 22 26) = true)) : isSt L = false := by
  rw [← Bool.not_eq_true]
  intro e
  obtain ⟨_, _, _, _, _, _, _, _, a, b, c, d, e, f, g, _⟩ := isSt_parts e
  exact h ⟨a, b, c, d, e, f, g⟩
theorem isSt_minus {L : List Int} (h : at_ L 0 = 45) (k : numI (pc L 1 6) 0 = 0) : isSt L = false := by
  rw [← Bool.not_eq_true]
  intro e
  obtain ⟨_, _, _, _, _, _, _, _, _, _, _, _, _, _, _, q⟩ := isSt_parts e
  exact q ⟨h, k⟩
theorem fromV_anyP (y m d h i s k : Int) : ∃ x e : Int, fromV y m d h i s k = .tuple #[.int .i64 x, .int .i64 e] := by
  unfold fromV
  split
  · exact ⟨_, _, rfl⟩
  · exact ⟨_, _, rfl⟩
theorem extract_size (s : ByteArray) (a b : Nat) (h : b ≤ s.size) : (s.extract a b).size = b - a := by
  rw [ByteArray.size_extract]; omega
theorem isSt_no {L : List Int} {i : Nat} {c : Int} (hc : (i = 6 ∧ c = 45) ∨ (i = 9 ∧ c = 45) ∨ (i = 12 ∧ c = 32) ∨ (i = 15 ∧ c = 58) ∨ (i = 18 ∧ c = 58) ∨ (i = 21 ∧ c = 46)) (h : at_ L i ≠ c) : isSt L = false := by
  rw [← Bool.not_eq_true]
  intro e
  obtain ⟨_, _, h6, h9, h12, h15, h18, h21, _⟩ := isSt_parts e
  rcases hc with ⟨rfl, rfl⟩ | ⟨rfl, rfl⟩ | ⟨rfl, rfl⟩ | ⟨rfl, rfl⟩ | ⟨rfl, rfl⟩ | ⟨rfl, rfl⟩
  · exact h h6
  · exact h h9
  · exact h h12
  · exact h h15
  · exact h h18
  · exact h h21
end Go.Proofs.YtpnncmdeidbemaaDoor
