/- Proved here: what the texts Stm, Sdn prove, one behind the other. -/
import Derived.Test.YtocnpcjpkieogaaGreatDoorJs1

namespace Go.Proofs.YtocnpcjpkieogaaGreatDoor

def digB (l : List Int) : Bool := l.all fun x => decide (48 ≤ x ∧ x ≤ 57)
theorem digB_iff {l : List Int} : digB l = true ↔ ∀ x ∈ l, 48 ≤ x ∧ x ≤ 57 := by
  unfold digB
  rw [List.all_eq_true]
  simp only [decide_eq_true_eq]
/-- the text of a date: its sign, its numbers' digits -/
def stD (y : Int) (mo dy hr mi se tk : Nat) : List Int :=
  ((((((((((((([if y < 0 then 45 else 43]) ++ (dgI 5 y.natAbs)) ++ [45]) ++ (dgI 2 mo)) ++ [45]) ++ (dgI 2 dy)) ++ [32]) ++ (dgI 2 hr)) ++ [58]) ++ (dgI 2 mi)) ++ [58]) ++ (dgI 2 se)) ++ [46]) ++ (dgI 4 tk)
/-- the stamp of an instant -/
def stampL (t : Int) : List Int := stD (dYr t) (dMo t).toNat (dDy t).toNat (dHr t).toNat (dMi t).toNat (dSe t).toNat (dTk t).toNat
theorem form2 {l : List Int} (h : l.length = 2) : ∃ a b, l = [a, b] := by
  match l, h with
  | [a, b], _ => exact ⟨a, b, rfl⟩
theorem form4 {l : List Int} (h : l.length = 4) : ∃ a b c d, l = [a, b, c, d] := by
  match l, h with
  | [a, b, c, d], _ => exact ⟨a, b, c, d, rfl⟩
theorem form5 {l : List Int} (h : l.length = 5) : ∃ a b c d e, l = [a, b, c, d, e] := by
  match l, h with
  | [a, b, c, d, e], _ => exact ⟨a, b, c, d, e, rfl⟩
/-- a piece of a text -/
def pc (L : List Int) (a b : Nat) : List Int := (L.drop a).take (b - a)
def at_ (L : List Int) (i : Nat) : Int := L.getD i 0
def nf (L : List Int) (a b : Nat) : Nat := numI (pc L a b) 0
/-! ### in order -/
end Go.Proofs.YtocnpcjpkieogaaGreatDoor

namespace Go.Proofs.YtocnpcjpkieogaaGreatDoor
open Go.ChangeShapes Go.WideShapes Go.ChangeAt Go.RowKit

/-- a text's bytes as numbers -/
def byI (s : ByteArray) : List Int := s.data.toList.map fun c => ((c.toNat : Nat) : Int)
theorem byI_len (s : ByteArray) : (byI s).length = s.size := by simp [byI]
theorem byI_at (s : ByteArray) (i : Nat) (h : i < s.size) : (byI s).getD i 0 = ((s[i].toNat : Nat) : Int) := by
  have hl : i < s.data.toList.length := by simpa using h
  simp only [byI, List.getD, List.getElem?_map, List.getElem?_eq_getElem hl, Option.map_some, Option.getD_some]
  rfl
theorem digB_not {l : List Int} {i : Nat} (hi : i < l.length) (h : ¬ (48 ≤ l.getD i 0 ∧ l.getD i 0 ≤ 57)) : digB l = false := by
  rw [← Bool.not_eq_true]
  intro e
  refine h (digB_iff.1 e _ ?_)
  simp [List.getD, hi]
theorem take_next {l : List Int} {i : Nat} (h : i < l.length) : l.take (i + 1) = l.take i ++ [l.getD i 0] := by
  rw [List.take_succ_eq_append_getElem h]; simp [List.getD, h]
/-- the value of digits; -1 where others stand -/
def valI (l : List Int) : Int := if digB l = true then (numI l 0 : Int) else -1
theorem numI_range {l : List Int} (hd : ∀ x ∈ l, 48 ≤ x ∧ x ≤ 57) (h : l.length ≤ 17) : numI l 0 < 100000000000000000 := by
  have a := numI_lt l hd 0
  have b : 10 ^ l.length ≤ 10 ^ 17 := Nat.pow_le_pow_right (by decide) h
  have c : (10 : Nat) ^ 17 = 100000000000000000 := by decide
  omega
set_option maxRecDepth 100000 in
set_option maxHeartbeats 1000000 in
theorem rnumber_run (s : ByteArray) (hs : s.size ≤ 17) (u : World) : Calls Tryz.prog 23 #[.string s] u fun e u' => e = .returned (.int .i64 (valI (byI s))) ∧ u = u' := by
  obtain ⟨L, hL⟩ : ∃ L, L = byI s := ⟨_, rfl⟩
  have ll : L.length = s.size := by rw [hL]; exact byI_len s
  have at_ : Hid (∀ i (h : i < s.size), ((s[i].toNat : Nat) : Int) = L.getD i 0) := fun i h => by rw [hL]; exact (byI_at s i h).symm
  obtain ⟨V, hV⟩ : ∃ V, V = valI L := ⟨_, rfl⟩
  rw [← hL, ← hV]
  replace hV := Lib.hid hV
  replace hL := Lib.hid hL
  replace ll := Lib.hid ll
  go_enter Tryz.func23, Tryz.ntmps23
  go_wp2_with fail
  go_loop [3, 4] (fun nv iv => ∃ i : Nat, i ≤ s.size ∧ iv = .int .i64 i ∧ nv = .int .i64 (numI (L.take i) 0 : Nat) ∧ ∀ x ∈ L.take i, 48 ≤ x ∧ x ≤ 57) (fun _ iv => s.size - (intOf iv).toNat)
  case atStart => exact ⟨0, Nat.zero_le _, rfl, rfl, fun x hx => by simp at hx⟩
  case round =>
    obtain ⟨i, hi, rfl, rfl, hd⟩ := hrel
    have r := numI_range hd (by rw [List.length_take]; have := ll.out; omega)
    by_cases hlt : i < s.size
    · have hil : i < L.length := by have := ll.out; omega
      have hx := at_.out i hlt
      have tn := take_next hil
      have hb : s[i].toNat < 256 := s[i].toNat_lt
      by_cases h1 : s[i].toNat < 48
      · have hv : V = -1 := by
          rw [hV.out]; unfold valI
          rw [if_neg (by rw [digB_not hil (by omega)]; decide)]
        have t1 : decide ((s[i].toNat : Int) < 48) = true := decide_eq_true (by omega)
        replace hv := Lib.hid hv
        clear tn hx h1 hd
        go_wp2_with fail
        go_ret
        exact ⟨ret_i hv.out.symm, rfl⟩
      · by_cases h2 : 57 < s[i].toNat
        · have hv : V = -1 := by
            rw [hV.out]; unfold valI
            rw [if_neg (by rw [digB_not hil (by omega)]; decide)]
          have t1 : decide ((s[i].toNat : Int) < 48) = false := decide_eq_false (by omega)
          have t2 : decide (57 < (s[i].toNat : Int)) = true := decide_eq_true (by omega)
          replace hv := Lib.hid hv
          clear tn hx h1 h2 hd
          go_wp2_with fail
          go_ret
          exact ⟨ret_i hv.out.symm, rfl⟩
        · have hd2 : Hid (∀ x ∈ L.take (i + 1), 48 ≤ x ∧ x ≤ 57) := fun x hm => by
            rw [tn, List.mem_append] at hm
            rcases hm with hm | hm
            · exact hd x hm
            · simp only [List.mem_singleton] at hm
              omega
          have hn2 : Hid (numI (L.take (i + 1)) 0 = numI (L.take i) 0 * 10 + (s[i].toNat - 48)) := by
            show numI (L.take (i + 1)) 0 = _
            rw [tn, numI_app]
            simp only [numI]
            omega
          have t1 : decide ((s[i].toNat : Int) < 48) = false := decide_eq_false (by omega)
          have t2 : decide (57 < (s[i].toNat : Int)) = false := decide_eq_false (by omega)
          have g1 : 48 ≤ (s[i].toNat : Int) := by omega
          have g2 : (s[i].toNat : Int) ≤ 57 := by omega
          generalize numI (L.take i) 0 = q at *
          clear tn hx h1 h2 hd
          go_wp2_with fail
          go_round
          case rel => exact ⟨i + 1, hlt, by go_num, by rw [hn2.out]; exact congrArg (Value.int .i64) (by omega), hd2.out⟩
          case measure => simp [intOf]; omega
    · obtain rfl : i = s.size := by omega
      have hv : V = (numI (L.take s.size) 0 : Nat) := by
        rw [hV.out]; unfold valI
        rw [List.take_of_length_le (by have := ll.out; omega)] at hd ⊢
        rw [if_pos (digB_iff.2 hd)]
      replace hv := Lib.hid hv
      clear hd
      go_wp2_with fail
      go_ret
      exact ⟨ret_i hv.out.symm, rfl⟩
end Go.Proofs.YtocnpcjpkieogaaGreatDoor
