/- Proved here: what the texts Usn, Uhf, Vbk, Vbl, Vbn, Hcb prove, one behind the other. -/
import Derived.Test.YtnmadknpkhaolaaJz14
import Derived.Test.YtnmadknpkhaolaaJz12

namespace Go.Proofs.Ytnmadknpkhaolaa
open Go.ChangeShapes Go.WideShapes Go.ChangeAt Go.RowKit Ieee.Own

/-! ### whatever the span -/
def hullP (p q : Pr) : Pr := (posW (mnW p.1 q.1), posW (mxW p.2 q.2))
/-- what Spans answers -/
structure SpRes (Y p q : Pr) (k : Int) : Prop where
  err : k = errT Y.1 Y.2
  no : k ≠ 0 → p = (0, 0) ∧ q = (0, 0)
  ok : k = 0 → ∃ m, FinW m ∧ Up (fun u => V Y.2 - V Y.1 - u) m ∧ (V oneW ≤ V m → p = (noneW, oneW) ∧ q = (noneW, oneW)) ∧
    (¬ V oneW ≤ V m → ∃ S C T D, PtH Y.1 S C ∧ PtH Y.2 T D ∧ p = stP (hullP S T) (passB Y.1 Y.2 1) (passB Y.1 Y.2 3) ∧ q = stP (hullP C D) (passB Y.1 Y.2 0) (passB Y.1 Y.2 2))
theorem SpRes.uniq {Y p q p' q' : Pr} {k l : Int} (h : SpRes Y p q k) (j : SpRes Y p' q' l) : p = p' ∧ q = q' ∧ k = l := by
  have e : k = l := by rw [h.err, j.err]
  subst e
  by_cases hk : k = 0
  · obtain ⟨m, -, u, a, b⟩ := h.ok hk
    obtain ⟨m', -, u', a', b'⟩ := j.ok hk
    have ev := Up.uniq u u'
    by_cases c : V oneW ≤ V m
    · obtain ⟨rfl, rfl⟩ := a c
      obtain ⟨rfl, rfl⟩ := a' (by omega)
      exact ⟨rfl, rfl, rfl⟩
    · obtain ⟨S, C, T, D, H, H', rfl, rfl⟩ := b c
      obtain ⟨S2, C2, T2, D2, J, J', rfl, rfl⟩ := b' (by omega)
      obtain ⟨rfl, rfl⟩ := H.rel.uniq J.rel
      obtain ⟨rfl, rfl⟩ := H'.rel.uniq J'.rel
      exact ⟨rfl, rfl, rfl⟩
  · obtain ⟨rfl, rfl⟩ := h.no hk
    obtain ⟨rfl, rfl⟩ := j.no hk
    exact ⟨rfl, rfl, rfl⟩
end Go.Proofs.Ytnmadknpkhaolaa

namespace Go.Proofs.Ytnmadknpkhaolaa
open Go.ChangeShapes Go.WideShapes Go.ChangeAt Go.RowKit Ieee.Own

/-! ### Spans -/
end Go.Proofs.Ytnmadknpkhaolaa

namespace Go.Proofs.Ytnmadknpkhaolaa
open Ieee.Own Pol

/-! ### the circle -/
/-! ### two numbers turned forth and back -/
end Go.Proofs.Ytnmadknpkhaolaa

namespace Go.Proofs.Ytnmadknpkhaolaa
open Go.ChangeShapes Go.WideShapes Go.ChangeAt Go.RowKit Ieee.Own Pol

theorem D3.bb {p : V3} (hw : W3 p) (f : fitV p = true) : D3 (bV p) ∧ V (bV p).1 = V p.1 ∧ V (bV p).2.1 = V p.2.1 ∧ V (bV p).2.2 = V p.2.2 := by
  have B := fitV_bd hw f
  have fb : fitV (bV p) = true := by unfold fitV bV; rw [vnB_bW B.f1 B.b1, vnB_bW B.f2 B.b2, vnB_bW B.f3 B.b3]; rfl
  unfold fitV at f
  simp only [Bool.and_eq_true] at f
  exact ⟨fitV_wd B.fin.b.w fb, bW_fit B.f1 (vnB_spec hw.l1 f.1.1).2.1, bW_fit B.f2 (vnB_spec hw.l2 f.1.2).2.1, bW_fit B.f3 (vnB_spec hw.l3 f.2).2.1⟩
end Go.Proofs.Ytnmadknpkhaolaa

namespace Go.Proofs.Ytnmadknpkhaolaa
open Go.ChangeShapes Go.WideShapes Go.ChangeAt Go.RowKit Ieee.Own Pol

theorem div_norm {a n m q : Nat} (fa : FinW a) (hN : V a = 0 ∨ ∃ s m p, Norm a s m p ∧ 760 ≤ p ∧ p ≤ 1222) (N : Norm n false m q) (h1 : 760 ≤ q) (h2 : q ≤ 1100) :
    Ieee.double.div a n = some (qX a n) ∧ FinW (qX a n) ∧ 2 ^ 53 * (V (qX a n) * V n - V a * 2 ^ 1074).natAbs ≤ (V (qX a n) * V n).natAbs := by
  have vn := N.val
  rw [sv_pos] at vn
  rcases hN with z | ⟨s, m', p, N', p1, p2⟩
  · have nz : V n ≠ 0 := by
      rw [vn]
      have := N.lo
      exact Int.ne_of_gt (Int.mul_pos (by omega) (Int.pow_pos (by decide)))
    obtain ⟨r, q1, q2, q3⟩ := div_zero fa z N.fin nz
    have er : qX a n = r := by unfold qX; rw [q1]; rfl
    rw [er]
    refine ⟨q1, q2, ?_⟩
    rw [q3, z, Int.zero_mul, Int.zero_mul]
    decide
  · obtain ⟨r, Q, u, q1, q2, q3, u1, u2, Q1, Q2, i1, i2⟩ := div_spec N' N (by omega) (by omega)
    have er : qX a n = r := by unfold qX; rw [q1]; rfl
    rw [er]
    refine ⟨q1, q2, ?_⟩
    have key : 2 ^ 53 * (((Q * m : Nat) : Int) - ((m' * 2 ^ u : Nat) : Int)).natAbs ≤ Q * m := by
      have k1 : 2 * (((Q * m : Nat) : Int) - ((m' * 2 ^ u : Nat) : Int)).natAbs ≤ m := by
        generalize Q * m = X at *
        generalize m' * 2 ^ u = Y at *
        omega
      have k2 : 2 ^ 52 * m ≤ Q * m := Nat.mul_le_mul_right _ Q1
      generalize Q * m = X at *
      generalize m' * 2 ^ u = Y at *
      omega
    have x0 : (s ^^ false) = s := by cases s <;> rfl
    rw [x0] at q3
    have e1 : 1074 + p - q - u + q = 1074 + p - u := by omega
    have va := N'.val
    have sg : ∀ (s : Bool) (A B : Nat), sv s A B = (if s then -1 else 1) * ((A : Int) * 2 ^ B) := fun s A B => by
      unfold sv; cases s <;> simp
    rw [sg] at q3 va
    have x1 : V r * V n = (if s then -1 else 1) * ((Q * m : Nat) : Int) * 2 ^ (1074 + p - u) := by
      rw [q3, vn, Int.mul_assoc, prod_merge _ _ e1, Int.natCast_mul]
      generalize (2 : Int) ^ (1074 + p - u) = z
      ac_rfl
    have x2 : V a * 2 ^ 1074 = (if s then -1 else 1) * ((m' * 2 ^ u : Nat) : Int) * 2 ^ (1074 + p - u) := by
      rw [va, Int.natCast_mul, Int.natCast_pow, Int.mul_assoc, pow_merge (m' : Int) (p := p) (k := 1074) (j := 1074 + p - u) (u := u) (by omega)]
      rw [show ((2 : Nat) : Int) = 2 from rfl]
      generalize (2 : Int) ^ (1074 + p - u) = z
      ac_rfl
    refine scale_nat x1 x2 ?_
    rw [← Int.mul_sub, Int.natAbs_mul, Int.natAbs_mul]
    have o : (if s = true then (-1 : Int) else 1).natAbs = 1 := by cases s <;> rfl
    rw [o, Nat.one_mul, Nat.one_mul, Int.natAbs_natCast]
    exact key
theorem wd_norm {a : Nat} (W : Wd a 822 1140) : V a = 0 ∨ ∃ s m p, Norm a s m p ∧ 760 ≤ p ∧ p ≤ 1222 := by
  by_cases z : V a = 0
  · exact .inl z
  · have lo := pow_abs_dvd W.dvd z
    obtain ⟨s, m, p, N⟩ := is_norm W.fin lo (by omega)
    obtain ⟨p1, p2⟩ := norm_pl N lo W.abs (by omega) (by omega)
    exact .inr ⟨s, m, p, N, by omega, by omega⟩
end Go.Proofs.Ytnmadknpkhaolaa

namespace Go.Proofs.Ytnmadknpkhaolaa
open Ieee.Own

theorem V_pos_eq {a b : Nat} (fa : FinW a) (fb : FinW b) (h : V a = V b) (h0 : V a ≠ 0) : a = b := by
  have pa : Nz a := Nz.of fa h0
  have pb : Nz b := Nz.of fb (by rw [← h]; exact h0)
  exact pa.uniq pb h
structure NmOk (a : Nat) : Prop where
  fin : FinW a
  nm : V a = 0 ∨ ∃ s m p, Norm a s m p ∧ 760 ≤ p ∧ p ≤ 1222
end Go.Proofs.Ytnmadknpkhaolaa
