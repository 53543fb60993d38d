/- Proved here: what the texts Omg, Omh prove, one behind the other. -/
import Derived.Test.YtgnofnjbmiepjaaJy1
import Derived.Test.YtgnofnjbmiepjaaJo2

namespace Fma
open Go.Proofs.Ytgnofnjbmiepjaa Pol

/-- at least so long -/
def Far (p : R3) (B : Rat) : Prop := 0 ≤ B ∧ B * B ≤ nsq p
theorem amgm {l m x y : Rat} (h : l * m = 1) (l0 : 0 ≤ l) : -(l * (x * x) + m * (y * y)) ≤ 2 * (x * y) := by
  have a := Rat.mul_nonneg l0 (sq_nn (x + m * y))
  have e : l * ((x + m * y) * (x + m * y)) = l * (x * x) + 2 * ((l * m) * (x * y)) + (l * m) * (m * (y * y)) := by grind
  rw [e, h] at a
  grind
theorem Far.add {p q : R3} {B D : Rat} (hp : Far p B) (hq : Len q D) (h : D ≤ B) : Far (addQ p q) (B - D) := by
  refine ⟨by grind, ?_⟩
  obtain ⟨b0, hp⟩ := hp
  obtain ⟨d0, hq⟩ := hq
  by_cases z : D = 0
  · subst z
    have q0 : nsq q = 0 := by have := nsq_nn q; grind
    have q1 : q.1 * q.1 = 0 ∧ q.2.1 * q.2.1 = 0 ∧ q.2.2 * q.2.2 = 0 := by
      have a := sq_nn q.1
      have b := sq_nn q.2.1
      have c := sq_nn q.2.2
      unfold nsq at q0
      refine ⟨?_, ?_, ?_⟩ <;> grind
    have z1 : q.1 = 0 := by rcases Rat.mul_eq_zero.1 q1.1 with h | h <;> exact h
    have z2 : q.2.1 = 0 := by rcases Rat.mul_eq_zero.1 q1.2.1 with h | h <;> exact h
    have z3 : q.2.2 = 0 := by rcases Rat.mul_eq_zero.1 q1.2.2 with h | h <;> exact h
    unfold nsq addQ at *
    dsimp only
    rw [z1, z2, z3]
    grind
  · have dp : 0 < D := by grind
    have bp : 0 < B := by grind
    obtain ⟨l, hl⟩ : ∃ l, l = D / B := ⟨_, rfl⟩
    obtain ⟨m, hm⟩ : ∃ m, m = B / D := ⟨_, rfl⟩
    have lB : l * B = D := by rw [hl]; exact Rat.div_mul_cancel (by grind)
    have mD : m * D = B := by rw [hm]; exact Rat.div_mul_cancel (by grind)
    have l0 : 0 ≤ l := by
      rw [hl, Rat.div_def]; exact Rat.mul_nonneg d0 (Rat.le_of_lt (Rat.inv_pos.2 bp))
    have m0 : 0 ≤ m := by
      rw [hm, Rat.div_def]; exact Rat.mul_nonneg b0 (Rat.le_of_lt (Rat.inv_pos.2 dp))
    have lm : l * m = 1 := by
      have e : (l * m) * D = 1 * D := by rw [Rat.mul_assoc, mD, lB, Rat.one_mul]
      have := congrArg (· * D⁻¹) e
      simpa only [Rat.mul_assoc, Rat.mul_inv_cancel _ z, Rat.mul_one] using this
    have l1 : l ≤ 1 := Rat.le_of_mul_le_mul_right (by rw [lB, Rat.one_mul]; exact h) bp
    have a1 := amgm (x := p.1) (y := q.1) lm l0
    have a2 := amgm (x := p.2.1) (y := q.2.1) lm l0
    have a3 := amgm (x := p.2.2) (y := q.2.2) lm l0
    have m1 : 1 ≤ m := by
      have := Rat.mul_nonneg (show 0 ≤ 1 - l by grind) m0
      have e1 : (1 - l) * m = m - l * m := by grind
      rw [e1, lm] at this
      grind
    have k1 := Rat.mul_nonneg (show 0 ≤ 1 - l by grind) (show 0 ≤ nsq p - B * B by grind)
    have k2 := Rat.mul_nonneg (show 0 ≤ m - 1 by grind) (show 0 ≤ D * D - nsq q by grind)
    have key : nsq (addQ p q) = nsq p + nsq q + (2 * (p.1 * q.1) + 2 * (p.2.1 * q.2.1) + 2 * (p.2.2 * q.2.2)) := by unfold nsq addQ; grind
    have s1 : l * (p.1 * p.1) + m * (q.1 * q.1) + (l * (p.2.1 * p.2.1) + m * (q.2.1 * q.2.1)) + (l * (p.2.2 * p.2.2) + m * (q.2.2 * q.2.2)) = l * nsq p + m * nsq q := by unfold nsq; grind
    have t1 : (1 - l) * (nsq p - B * B) = nsq p - l * nsq p - B * B + D * B := by rw [← lB]; grind
    have t2 : (m - 1) * (D * D - nsq q) = B * D - D * D - m * nsq q + nsq q := by rw [← mD]; grind
    rw [t1] at k1
    rw [t2] at k2
    rw [key]
    generalize nsq p = np at *
    generalize nsq q = nq at *
    generalize l * np = X at *
    generalize m * nq = Y at *
    have e3 : (B - D) * (B - D) = B * B - 2 * (D * B) + D * D := by grind
    have e4 : B * D = D * B := by grind
    rw [e3]
    rw [e4] at k2
    generalize B * B = BB at *
    generalize D * D = DD at *
    generalize D * B = DB at *
    grind
theorem nsq_rot_lo (a : Int) (s c : Rat) (p : R3) {d : Rat} (hd : mag (c * c + s * s - 1) ≤ d) : (1 - d) * nsq p ≤ nsq (rotQ a s c p) := by
  have d0 : 0 ≤ d := Rat.le_trans (mag_le _).2.2 hd
  have m := (mag_le (c * c + s * s - 1)).1
  have x0 := sq_nn p.1
  have y0 := sq_nn p.2.1
  have z0 := sq_nn p.2.2
  unfold rotQ
  split
  · have k := Rat.mul_nonneg (show 0 ≤ d + (c * c + s * s - 1) by grind) (show 0 ≤ p.2.1 * p.2.1 + p.2.2 * p.2.2 by grind)
    have k2 := Rat.mul_nonneg d0 x0
    unfold nsq; dsimp only; grind
  · split
    · have k := Rat.mul_nonneg (show 0 ≤ d + (c * c + s * s - 1) by grind) (show 0 ≤ p.1 * p.1 + p.2.2 * p.2.2 by grind)
      have k2 := Rat.mul_nonneg d0 y0
      unfold nsq; dsimp only; grind
    · have k := Rat.mul_nonneg (show 0 ≤ d + (c * c + s * s - 1) by grind) (show 0 ≤ p.1 * p.1 + p.2.1 * p.2.1 by grind)
      have k2 := Rat.mul_nonneg d0 z0
      unfold nsq; dsimp only; grind
theorem Far.rot {p : R3} {B : Rat} (h : Far p B) (a : Int) {s c d : Rat} (hd : mag (c * c + s * s - 1) ≤ d) (d1 : d ≤ 1) : Far (rotQ a s c p) (B * (1 - d)) := by
  have d0 : 0 ≤ d := Rat.le_trans (mag_le _).2.2 hd
  obtain ⟨b0, h⟩ := h
  refine ⟨Rat.mul_nonneg b0 (by grind), Rat.le_trans ?_ (nsq_rot_lo a s c p hd)⟩
  have k := Rat.mul_le_mul_of_nonneg_left h (show 0 ≤ 1 - d by grind)
  have k2 := Rat.mul_nonneg (Rat.mul_nonneg d0 (show 0 ≤ 1 - d by grind)) (sq_nn B)
  grind
/-- between two lengths -/
structure Ring (p : R3) (B A : Rat) : Prop where
  lo : Far p B
  hi : Len p A
/-- turned, and off by D -/
theorem Ring.step {p w : R3} {B A D d : Rat} (h : Ring p B A) (a : Int) {s c : Rat} (hd : mag (c * c + s * s - 1) ≤ d) (d1 : d ≤ 1) (off : Len (subQ w (rotQ a s c p)) D) (k : D ≤ B * (1 - d)) : Ring w (B * (1 - d) - D) (A * (1 + d) + D) := by
  have e : addQ (rotQ a s c p) (subQ w (rotQ a s c p)) = w := by
    unfold addQ subQ
    refine Prod.ext ?_ (Prod.ext ?_ ?_)
    all_goals dsimp only; grind
  have l := (h.lo.rot a hd d1).add off k
  have u := (h.hi.rot a hd).add off
  rw [e] at l u
  exact ⟨l, u⟩
end Fma

namespace Go.Proofs.Ytgnofnjbmiepjaa
open Go.ChangeShapes Go.WideShapes Go.ChangeAt Go.RowKit Ieee.Own Pol Fma

/-- the sine and the cosine of z turns, as quarters say them -/
def Sin_ (z S C : Rat) : Prop := ∃ (k : Int) (r : Rat), Ply.Says z k r ∧ S = Ply.sq k (Ply.tau * r) ∧ C = Ply.sq (k + 1) (Ply.tau * r)
theorem Sin_.turn {z S C : Rat} (h : Sin_ z S C) : Sin_ (z + 1) S C := by
  obtain ⟨k, r, ⟨a, b, c⟩, e, f⟩ := h
  refine ⟨k + 4, r, ⟨?_, b, c⟩, ?_, ?_⟩
  · rw [Rat.intCast_add, show ((4 : Int) : Rat) = 4 by decide +kernel]; grind
  · rw [Ply.sq_four]; exact e
  · rw [show k + 4 + 1 = k + 1 + 4 by omega, Ply.sq_four]; exact f
theorem Sin_.one {z S C : Rat} (h : Sin_ z S C) : -1 ≤ S ∧ S ≤ 1 ∧ -1 ≤ C ∧ C ≤ 1 := by
  obtain ⟨k, r, ⟨a, b, c⟩, e, f⟩ := h
  have t := Ply.top_mul b c
  have u := Ply.sq_le_one t.1 t.2 k
  have v := Ply.sq_le_one t.1 t.2 (k + 1)
  rw [e, f]
  exact ⟨u.1, u.2, v.1, v.2⟩
end Go.Proofs.Ytgnofnjbmiepjaa
