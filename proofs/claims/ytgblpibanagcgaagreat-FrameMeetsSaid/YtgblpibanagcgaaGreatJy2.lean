/- Proved here: what the texts Fma prove, one behind the other. -/
import Derived.Test.YtgblpibanagcgaaGreatJv5

namespace Fma
open Go.Proofs.YtgblpibanagcgaaGreat Pol

abbrev R3 := Rat × Rat × Rat
def nsq (p : R3) : Rat := p.1 * p.1 + p.2.1 * p.2.1 + p.2.2 * p.2.2
/-- no longer than A -/
def Len (p : R3) (A : Rat) : Prop := 0 ≤ A ∧ nsq p ≤ A * A
def addQ (p q : R3) : R3 := (p.1 + q.1, p.2.1 + q.2.1, p.2.2 + q.2.2)
/-- turned about an axis -/
def rotQ (a : Int) (s c : Rat) (p : R3) : R3 :=
  if a = 0 then (p.1, c * p.2.1 - s * p.2.2, s * p.2.1 + c * p.2.2)
  else if a = 1 then (s * p.2.2 + c * p.1, p.2.1, c * p.2.2 - s * p.1)
  else (c * p.1 - s * p.2.1, s * p.1 + c * p.2.1, p.2.2)

theorem sq_nn (x : Rat) : 0 ≤ x * x := by
  rcases Rat.le_total (a := 0) (b := x) with q | q
  · exact Rat.mul_nonneg q q
  · have := Rat.mul_nonneg (by grind : 0 ≤ -x) (by grind : 0 ≤ -x); grind
theorem sq_mono {x y : Rat} (h : 0 ≤ x) (k : x ≤ y) : x * x ≤ y * y := by
  have a := Rat.mul_nonneg h (show 0 ≤ y - x by grind)
  have b := Rat.mul_nonneg (show 0 ≤ y by grind) (show 0 ≤ y - x by grind)
  grind
theorem sq_le_of {x y : Rat} (h : 0 ≤ y) (k : x * x ≤ y * y) : x ≤ y := by
  rcases Rat.le_total (a := x) (b := y) with q | q
  · exact q
  · by_cases e : x = y
    · rw [e]; exact Rat.le_refl
    · have d : 0 < x - y := by grind
      have a := Rat.mul_nonneg (show 0 ≤ x by grind) (show 0 ≤ x - y by grind)
      have b := Rat.mul_nonneg h (show 0 ≤ x - y by grind)
      have c := Rat.mul_pos d d
      grind
theorem dot_le {p q : R3} {A B : Rat} (hp : Len p A) (hq : Len q B) : p.1 * q.1 + p.2.1 * q.2.1 + p.2.2 * q.2.2 ≤ A * B := by
  obtain ⟨a0, ha⟩ := hp
  obtain ⟨b0, hb⟩ := hq
  refine sq_le_of (Rat.mul_nonneg a0 b0) ?_
  have n1 : 0 ≤ nsq p := by
    have := sq_nn p.1; have := sq_nn p.2.1; have := sq_nn p.2.2
    unfold nsq; grind
  have n2 : 0 ≤ nsq q := by
    have := sq_nn q.1; have := sq_nn q.2.1; have := sq_nn q.2.2
    unfold nsq; grind
  have k1 := Rat.mul_le_mul_of_nonneg_right ha n2
  have k2 := Rat.mul_le_mul_of_nonneg_left hb (Rat.mul_nonneg a0 a0)
  have c1 := sq_nn (p.1 * q.2.1 - p.2.1 * q.1)
  have c2 := sq_nn (p.1 * q.2.2 - p.2.2 * q.1)
  have c3 := sq_nn (p.2.1 * q.2.2 - p.2.2 * q.2.1)
  unfold nsq at *
  generalize p.1 = x at *
  generalize p.2.1 = y at *
  generalize p.2.2 = z at *
  generalize q.1 = u at *
  generalize q.2.1 = v at *
  generalize q.2.2 = w at *
  have k3 := Rat.le_trans k1 k2
  have e1 : A * A * (B * B) = A * B * (A * B) := by grind
  rw [e1] at k3
  generalize A * B * (A * B) = M at *
  grind
theorem Len.add {p q : R3} {A B : Rat} (hp : Len p A) (hq : Len q B) : Len (addQ p q) (A + B) := by
  have d := dot_le hp hq
  obtain ⟨a0, ha⟩ := hp
  obtain ⟨b0, hb⟩ := hq
  refine ⟨by grind, ?_⟩
  unfold nsq addQ at *
  dsimp only
  grind
theorem Len.le {p : R3} {A B : Rat} (h : Len p A) (k : A ≤ B) : Len p B := ⟨Rat.le_trans h.1 k, Rat.le_trans h.2 (sq_mono h.1 k)⟩
end Fma
