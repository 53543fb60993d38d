/- Proved here: what the texts Fma prove, one behind the other. -/
import Derived.Test.YtkpdnhbifokhlaaJv5

namespace Fma
open Go.Proofs.Ytkpdnhbifokhlaa Pol

abbrev R3 := Rat × Rat × Rat
def nsq (p : R3) : Rat := p.1 * p.1 + p.2.1 * p.2.1 + p.2.2 * p.2.2
/-- no longer than A -/
def Len (p : R3) (A : Rat) : Prop := 0 ≤ A ∧ nsq p ≤ A * A
def addQ (p q : R3) : R3 := (p.1 + q.1, p.2.1 + q.2.1, p.2.2 + q.2.2)
def subQ (p q : R3) : R3 := (p.1 - q.1, p.2.1 - q.2.1, p.2.2 - q.2.2)
/-- turned about an axis -/
def rotQ (a : Int) (s c : Rat) (p : R3) : R3 :=
  if a = 0 then (p.1, c * p.2.1 - s * p.2.2, s * p.2.1 + c * p.2.2)
  else if a = 1 then (s * p.2.2 + c * p.1, p.2.1, c * p.2.2 - s * p.1)
  else (c * p.1 - s * p.2.1, s * p.1 + c * p.2.1, p.2.2)

theorem sq_nn (x : Rat) : 0 ≤ x * x := by
  rcases Rat.le_total (a := 0) (b := x) with q | q
  · exact Rat.mul_nonneg q q
  · have := Rat.mul_nonneg (by grind : 0 ≤ -x) (by grind : 0 ≤ -x); grind
theorem sq_mono {x y : Rat} (h : 0 ≤ x) (k : x ≤ y) : x * x ≤ y * y := by
  have a := Rat.mul_nonneg h (show 0 ≤ y - x by grind)
  have b := Rat.mul_nonneg (show 0 ≤ y by grind) (show 0 ≤ y - x by grind)
  grind
theorem sq_le_of {x y : Rat} (h : 0 ≤ y) (k : x * x ≤ y * y) : x ≤ y := by
  rcases Rat.le_total (a := x) (b := y) with q | q
  · exact q
  · by_cases e : x = y
    · rw [e]; exact Rat.le_refl
    · have d : 0 < x - y := by grind
      have a := Rat.mul_nonneg (show 0 ≤ x by grind) (show 0 ≤ x - y by grind)
      have b := Rat.mul_nonneg h (show 0 ≤ x - y by grind)
      have c := Rat.mul_pos d d
      grind
theorem dot_le {p q : R3} {A B : Rat} (hp : Len p A) (hq : Len q B) : p.1 * q.1 + p.2.1 * q.2.1 + p.2.2 * q.2.2 ≤ A * B := by
  obtain ⟨a0, ha⟩ := hp
  obtain ⟨b0, hb⟩ := hq
  refine sq_le_of (Rat.mul_nonneg a0 b0) ?_
  have n1 : 0 ≤ nsq p := by
    have := sq_nn p.1; have := sq_nn p.2.1; have := sq_nn p.2.2
    unfold nsq; grind
  have n2 : 0 ≤ nsq q := by
    have := sq_nn q.1; have := sq_nn q.2.1; have := sq_nn q.2.2
    unfold nsq; grind
  have k1 := Rat.mul_le_mul_of_nonneg_right ha n2
  have k2 := Rat.mul_le_mul_of_nonneg_left hb (Rat.mul_nonneg a0 a0)
  have c1 := sq_nn (p.1 * q.2.1 - p.2.1 * q.1)
  have c2 := sq_nn (p.1 * q.2.2 - p.2.2 * q.1)
  have c3 := sq_nn (p.2.1 * q.2.2 - p.2.2 * q.2.1)
  unfold nsq at *
  generalize p.1 = x at *
  generalize p.2.1 = y at *
  generalize p.2.2 = z at *
  generalize q.1 = u at *
  generalize q.2.1 = v at *
  generalize q.2.2 = w at *
  have k3 := Rat.le_trans k1 k2
  have e1 : A * A * (B * B) = A * B * (A * B) := by grind
  rw [e1] at k3
  generalize A * B * (A * B) = M at *
  grind
theorem Len.add {p q : R3} {A B : Rat} (hp : Len p A) (hq : Len q B) : Len (addQ p q) (A + B) := by
  have d := dot_le hp hq
  obtain ⟨a0, ha⟩ := hp
  obtain ⟨b0, hb⟩ := hq
  refine ⟨by grind, ?_⟩
  unfold nsq addQ at *
  dsimp only
  grind
theorem Len.le {p : R3} {A B : Rat} (h : Len p A) (k : A ≤ B) : Len p B := ⟨Rat.le_trans h.1 k, Rat.le_trans h.2 (sq_mono h.1 k)⟩
theorem len_of {p : R3} {a b c : Rat} (h1 : mag p.1 ≤ a) (h2 : mag p.2.1 ≤ b) (h3 : mag p.2.2 ≤ c) : Len p (a + b + c) := by
  have x0 := (mag_le p.1).2.2
  have y0 := (mag_le p.2.1).2.2
  have z0 := (mag_le p.2.2).2.2
  refine ⟨by grind, ?_⟩
  unfold nsq
  have e1 := mag_sq p.1
  have e2 := mag_sq p.2.1
  have e3 := mag_sq p.2.2
  have a1 := sq_mono x0 h1
  have a2 := sq_mono y0 h2
  have a3 := sq_mono z0 h3
  have b1 := Rat.mul_nonneg (show 0 ≤ a by grind) (show 0 ≤ b by grind)
  have b2 := Rat.mul_nonneg (show 0 ≤ a by grind) (show 0 ≤ c by grind)
  have b3 := Rat.mul_nonneg (show 0 ≤ b by grind) (show 0 ≤ c by grind)
  rw [e1] at a1
  rw [e2] at a2
  rw [e3] at a3
  grind
theorem Len.mags {p : R3} {A : Rat} (h : Len p A) : mag p.1 ≤ A ∧ mag p.2.1 ≤ A ∧ mag p.2.2 ≤ A := by
  obtain ⟨a0, h⟩ := h
  have x0 := sq_nn p.1
  have y0 := sq_nn p.2.1
  have z0 := sq_nn p.2.2
  unfold nsq at h
  have e1 := mag_sq p.1
  have e2 := mag_sq p.2.1
  have e3 := mag_sq p.2.2
  exact ⟨sq_le_of a0 (by grind), sq_le_of a0 (by grind), sq_le_of a0 (by grind)⟩
theorem nsq_nn (p : R3) : 0 ≤ nsq p := by
  have := sq_nn p.1; have := sq_nn p.2.1; have := sq_nn p.2.2
  unfold nsq; grind
/-- turning keeps lengths, but for d -/
theorem nsq_rot (a : Int) (s c : Rat) (p : R3) {d : Rat} (hd : mag (c * c + s * s - 1) ≤ d) : nsq (rotQ a s c p) ≤ (1 + d) * nsq p := by
  have d0 : 0 ≤ d := Rat.le_trans (mag_le _).2.2 hd
  have m := (mag_le (c * c + s * s - 1)).2.1
  have x0 := sq_nn p.1
  have y0 := sq_nn p.2.1
  have z0 := sq_nn p.2.2
  unfold rotQ
  split
  · have k := Rat.mul_nonneg (show 0 ≤ d - (c * c + s * s - 1) by grind) (show 0 ≤ p.2.1 * p.2.1 + p.2.2 * p.2.2 by grind)
    have k2 := Rat.mul_nonneg d0 x0
    unfold nsq; dsimp only; grind
  · split
    · have k := Rat.mul_nonneg (show 0 ≤ d - (c * c + s * s - 1) by grind) (show 0 ≤ p.1 * p.1 + p.2.2 * p.2.2 by grind)
      have k2 := Rat.mul_nonneg d0 y0
      unfold nsq; dsimp only; grind
    · have k := Rat.mul_nonneg (show 0 ≤ d - (c * c + s * s - 1) by grind) (show 0 ≤ p.1 * p.1 + p.2.1 * p.2.1 by grind)
      have k2 := Rat.mul_nonneg d0 z0
      unfold nsq; dsimp only; grind
theorem Len.rot {p : R3} {A : Rat} (h : Len p A) (a : Int) {s c d : Rat} (hd : mag (c * c + s * s - 1) ≤ d) : Len (rotQ a s c p) (A * (1 + d)) := by
  have d0 : 0 ≤ d := Rat.le_trans (mag_le _).2.2 hd
  obtain ⟨a0, h⟩ := h
  refine ⟨Rat.mul_nonneg a0 (by grind), Rat.le_trans (nsq_rot a s c p hd) ?_⟩
  have k := Rat.mul_le_mul_of_nonneg_left h (show 0 ≤ 1 + d by grind)
  have k2 := Rat.mul_nonneg (Rat.mul_nonneg d0 (show 0 ≤ 1 + d by grind)) (sq_nn A)
  grind
end Fma
