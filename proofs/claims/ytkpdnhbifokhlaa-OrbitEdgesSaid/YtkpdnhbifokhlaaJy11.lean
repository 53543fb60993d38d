/- Proved here: what the texts Frp, Frq prove, one behind the other. -/
import Derived.Test.YtkpdnhbifokhlaaJy3
import Derived.Test.YtkpdnhbifokhlaaJx3
import Derived.Test.YtkpdnhbifokhlaaJx9
import Derived.Test.YtkpdnhbifokhlaaJy1
import Derived.Test.YtkpdnhbifokhlaaJx7
import Derived.Test.YtkpdnhbifokhlaaJx1

namespace Go.Proofs.Ytkpdnhbifokhlaa
open Go.ChangeShapes Go.WideShapes Go.ChangeAt Go.RowKit Ieee.Own

end Go.Proofs.Ytkpdnhbifokhlaa

namespace Go.Proofs.Ytkpdnhbifokhlaa
open Go.ChangeShapes Go.WideShapes Go.ChangeAt Go.RowKit Ieee.Own Pol Fma

theorem fit_big {x : Nat} (hx : FinW x) (f : fitB x = true) : V x = 0 ∨ 2 ^ 874 ≤ (V x).natAbs := by
  unfold fitB at f
  rw [decide_eq_true_eq] at f
  rcases f with h | ⟨h, -⟩
  · exact .inl ((V_zero_iff hx).2 h)
  · right
    rw [V_abs' x hx]
    have e : val 52 3706462493325918208 = 2 ^ 874 := by decide +kernel
    rw [← e]
    by_cases q : x % 9223372036854775808 = 3706462493325918208
    · rw [q]; exact Nat.le_refl _
    · exact Nat.le_of_lt (val_lt (by omega))
theorem unfit_small {x : Nat} (hx : FinW x) (f : fitB x = false) (b : (V x).natAbs ≤ 2 ^ 1110) : (V x).natAbs < 2 ^ 874 := by
  unfold fitB at f
  rw [decide_eq_false_iff_not] at f
  rw [V_abs' x hx] at b ⊢
  have e : val 52 3706462493325918208 = 2 ^ 874 := by decide +kernel
  have e2 : val 52 5507902344274116608 = 2 ^ 1274 := by decide +kernel
  by_cases q : x % 9223372036854775808 < 3706462493325918208
  · rw [← e]; exact val_lt q
  · exfalso
    have q2 : 5507902344274116608 < x % 9223372036854775808 := by omega
    have := val_lt (F := 52) q2
    rw [e2] at this
    exact absurd (Nat.lt_of_lt_of_le this (Nat.le_trans b (two_le (a := 1110) (b := 1274) (by omega)))) (Nat.lt_irrefl _)
/-! ### the angles -/
/-! ### boxes that hold -/
/-- the true sine and cosine of a word -/
def SQ (x : Nat) : Rat := Ply.sq (kq eig (V x)) (Ply.tau * ((rq eig (V x) : Rat) / unit))
def CQ (x : Nat) : Rat := Ply.sq (kq eig (V x) + 1) (Ply.tau * ((rq eig (V x) : Rat) / unit))
theorem SQ_of {x r : Nat} (R : Rst x r) : SQ x = Ply.sq (kq eig (V x)) (Ply.tau * Q r) ∧ CQ x = Ply.sq (kq eig (V x) + 1) (Ply.tau * Q r) := by
  unfold SQ CQ Q
  rw [R.v]
  exact ⟨rfl, rfl⟩
theorem rst_ex {x : Nat} (h : Ang x) : ∃ r, Rst x r := by
  obtain ⟨r, R, -⟩ := uquarter_run h
  exact ⟨r, R⟩
structure Sn3 (b : B6) (k : Nat) : Prop where
  x : Sn b.1 k
  y : Sn b.2.1 k
  z : Sn b.2.2 k
theorem Sn3.w6 {b : B6} {k : Nat} (h : Sn3 b k) : W6 b := ⟨h.x.w2, h.y.w2, h.z.w2⟩
end Go.Proofs.Ytkpdnhbifokhlaa
