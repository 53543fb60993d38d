/- Proved here: what the texts Stm, Sdn prove, one behind the other. -/
import Derived.Test.YtjnepljffpbioaaGreatDoorJs1

namespace Go.Proofs.YtjnepljffpbioaaGreatDoor

def digB (l : List Int) : Bool := l.all fun x => decide (48 ≤ x ∧ x ≤ 57)
theorem digB_iff {l : List Int} : digB l = true ↔ ∀ x ∈ l, 48 ≤ x ∧ x ≤ 57 := by
  unfold digB
  rw [List.all_eq_true]
  simp only [decide_eq_true_eq]
theorem digB_dgI (w n : Nat) : digB (dgI w n) = true := digB_iff.2 (dgI_digit w n)
/-- the text of a date: its sign, its numbers' digits -/
def stD (y : Int) (mo dy hr mi se tk : Nat) : List Int :=
  ((((((((((((([if y < 0 then 45 else 43]) ++ (dgI 5 y.natAbs)) ++ [45]) ++ (dgI 2 mo)) ++ [45]) ++ (dgI 2 dy)) ++ [32]) ++ (dgI 2 hr)) ++ [58]) ++ (dgI 2 mi)) ++ [58]) ++ (dgI 2 se)) ++ [46]) ++ (dgI 4 tk)
/-- the stamp of an instant -/
def stampL (t : Int) : List Int := stD (dYr t) (dMo t).toNat (dDy t).toNat (dHr t).toNat (dMi t).toNat (dSe t).toNat (dTk t).toNat
theorem form2 {l : List Int} (h : l.length = 2) : ∃ a b, l = [a, b] := by
  match l, h with
  | [a, b], _ => exact ⟨a, b, rfl⟩
theorem form4 {l : List Int} (h : l.length = 4) : ∃ a b c d, l = [a, b, c, d] := by
  match l, h with
  | [a, b, c, d], _ => exact ⟨a, b, c, d, rfl⟩
theorem form5 {l : List Int} (h : l.length = 5) : ∃ a b c d e, l = [a, b, c, d, e] := by
  match l, h with
  | [a, b, c, d, e], _ => exact ⟨a, b, c, d, e, rfl⟩
/-- a piece of a text -/
def pc (L : List Int) (a b : Nat) : List Int := (L.drop a).take (b - a)
def at_ (L : List Int) (i : Nat) : Int := L.getD i 0
/-! ### in order -/
end Go.Proofs.YtjnepljffpbioaaGreatDoor

namespace Go.Proofs.YtjnepljffpbioaaGreatDoor
open Go.ChangeShapes Go.WideShapes Go.ChangeAt Go.RowKit

/-- a text's bytes as numbers -/
def byI (s : ByteArray) : List Int := s.data.toList.map fun c => ((c.toNat : Nat) : Int)
theorem byI_len (s : ByteArray) : (byI s).length = s.size := by simp [byI]
theorem byI_at (s : ByteArray) (i : Nat) (h : i < s.size) : (byI s).getD i 0 = ((s[i].toNat : Nat) : Int) := by
  have hl : i < s.data.toList.length := by simpa using h
  simp only [byI, List.getD, List.getElem?_map, List.getElem?_eq_getElem hl, Option.map_some, Option.getD_some]
  rfl
theorem digB_not {l : List Int} {i : Nat} (hi : i < l.length) (h : ¬ (48 ≤ l.getD i 0 ∧ l.getD i 0 ≤ 57)) : digB l = false := by
  rw [← Bool.not_eq_true]
  intro e
  refine h (digB_iff.1 e _ ?_)
  simp [List.getD, hi]
theorem take_next {l : List Int} {i : Nat} (h : i < l.length) : l.take (i + 1) = l.take i ++ [l.getD i 0] := by
  rw [List.take_succ_eq_append_getElem h]; simp [List.getD, h]
theorem numI_range {l : List Int} (hd : ∀ x ∈ l, 48 ≤ x ∧ x ≤ 57) (h : l.length ≤ 17) : numI l 0 < 100000000000000000 := by
  have a := numI_lt l hd 0
  have b : 10 ^ l.length ≤ 10 ^ 17 := Nat.pow_le_pow_right (by decide) h
  have c : (10 : Nat) ^ 17 = 100000000000000000 := by decide
  omega
end Go.Proofs.YtjnepljffpbioaaGreatDoor
