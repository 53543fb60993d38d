/- Proved here: what the texts Pmr, Psl, Psp prove, one behind the other. -/
import Derived.Test.YtgnofnjbmiepjaaJp
import Derived.Test.YtgnofnjbmiepjaaJb2
import Derived.Test.YtgnofnjbmiepjaaJb8

namespace Go.Proofs.Ytgnofnjbmiepjaa
open Ieee.Own Pol

/-! ### times a power of two -/
/-- 0, or not small: a whole number of 2^p units -/
def Nsm (L : Nat) (z : Int) : Prop := z = 0 ∨ 2 ^ L ≤ z.natAbs
theorem Nsm.le {L K : Nat} {z : Int} (h : Nsm L z) (hk : K ≤ L) : Nsm K z := h.imp id fun h => Nat.le_trans (two_le hk) h
theorem Nsm.RN {L : Nat} {z : Int} (h : Nsm L z) : Nsm L (RN z) := by
  rcases h with h | h
  · left; rw [h]; rfl
  · right
    rw [RN_abs]
    have := rn_mono h
    rwa [show rn (2 ^ L) = 2 ^ L by have := rn_exact 1 L (by omega); simpa using this] at this
end Go.Proofs.Ytgnofnjbmiepjaa

namespace Go.Proofs.Ytgnofnjbmiepjaa
open Ieee.Own Pol

end Go.Proofs.Ytgnofnjbmiepjaa

namespace Go.Proofs.Ytgnofnjbmiepjaa
open Go.ChangeShapes Go.WideShapes Go.ChangeAt Go.RowKit Ieee.Own

/-- a number as a span -/
def ptS (c : Nat) : Pr := (posW c, posW c)
def SubR (p q u : Pr) : Prop := OpIs (errSS p.1 p.2 q.1 q.2) (fun v => V p.1 - V q.2 - v) (fun v => V p.2 - V q.1 - v) (.returned (spanE u.1 u.2 0))
theorem SubR.uniq {p q u v : Pr} (h : SubR p q u) (k : SubR p q v) : u = v := pair_of (h.all.uniq k.all)
/-- HornerSpan -/
def HsR (X : Pr) : List Nat → Pr → Prop
  | [], P => P = (0, 0)
  | c :: cs, P => ∃ P' M, HsR X cs P' ∧ MulR X P' M ∧ AddR (ptS c) M P
theorem HsR.uniq {X : Pr} : ∀ {cs : List Nat} {P R : Pr}, HsR X cs P → HsR X cs R → P = R
  | [], P, R, h, k => by
    have h : P = (0, 0) := h
    have k : R = (0, 0) := k
    rw [h, k]
  | _ :: _, _, _, ⟨P', M, h1, h2, h3⟩, ⟨R', N, k1, k2, k3⟩ => by
    obtain rfl := HsR.uniq h1 k1
    obtain rfl := h2.uniq k2
    exact h3.uniq k3
/-- ChebSpan's two spans -/
def CsR (W : Pr) : List Nat → Pr → Pr → Prop
  | [], B, D => B = (0, 0) ∧ D = (0, 0)
  | c :: cs, B, D => ∃ D' M N, CsR W cs D D' ∧ MulR W D M ∧ SubR M D' N ∧ AddR N (ptS c) B
theorem CsR.uniq {W : Pr} : ∀ {cs : List Nat} {B D B' D' : Pr}, CsR W cs B D → CsR W cs B' D' → B = B' ∧ D = D'
  | [], _, _, _, _, ⟨h1, h2⟩, ⟨k1, k2⟩ => ⟨by rw [h1, k1], by rw [h2, k2]⟩
  | _ :: _, _, _, _, _, ⟨D2, M, N, h1, h2, h3, h4⟩, ⟨E2, K, L, k1, k2, k3, k4⟩ => by
    obtain ⟨rfl, rfl⟩ := CsR.uniq h1 k1
    obtain rfl := h2.uniq k2
    obtain rfl := h3.uniq k3
    exact ⟨h4.uniq k4, rfl⟩
/-- ChebSpan -/
def ChR (X : Pr) : List Nat → Pr → Prop
  | [], P => P = (0, 0)
  | c :: cs, P => ∃ W B D M N, AddR X X W ∧ CsR W cs B D ∧ MulR X B M ∧ SubR M D N ∧ AddR N (ptS c) P
theorem ChR.uniq {X : Pr} {cs : List Nat} {P R : Pr} (h : ChR X cs P) (k : ChR X cs R) : P = R := by
  cases cs with
  | nil =>
    have h : P = (0, 0) := h
    have k : R = (0, 0) := k
    rw [h, k]
  | cons c cs =>
    obtain ⟨W, B, D, M, N, h0, h1, h2, h3, h4⟩ := h
    obtain ⟨W', B', D', M', N', k0, k1, k2, k3, k4⟩ := k
    obtain rfl := h0.uniq k0
    obtain ⟨rfl, rfl⟩ := h1.uniq k1
    obtain rfl := h2.uniq k2
    obtain rfl := h3.uniq k3
    exact h4.uniq k4

/-! ### nothing grows too great -/
/-- a span within T -/
structure Wn (p : Pr) (T : Int) : Prop where
  l1 : p.1 < 18446744073709551616
  l2 : p.2 < 18446744073709551616
  ok : errS p.1 p.2 = 0
  lo : -T ≤ V p.1
  hi : V p.2 ≤ T
theorem Wn.le {p : Pr} {T S : Int} (h : Wn p T) (hs : T ≤ S) : Wn p S := ⟨h.l1, h.l2, h.ok, by have := h.lo; omega, by have := h.hi; omega⟩
end Go.Proofs.Ytgnofnjbmiepjaa
