/- Proved here: what the texts Pmr, Psl, Psp prove, one behind the other. -/
import Derived.Test.YtgnofnjbmiepjaaGreatJp
import Derived.Test.YtgnofnjbmiepjaaGreatJb2
import Derived.Test.YtgnofnjbmiepjaaGreatJb8

namespace Go.Proofs.YtgnofnjbmiepjaaGreat
open Ieee.Own Pol

theorem Alt.len {s : Bool} {al bl : List Nat} (h : Alt s al bl) : bl.length = al.length := by
 induction h with
 | nil => rfl
 | cons _ _ ih => simp [ih]
theorem Nsm.le {L K : Nat} {z : Int} (h : Nsm L z) (hk : K ≤ L) : Nsm K z := h.imp id fun h => Nat.le_trans (two_le hk) h
theorem Nsm.RN {L : Nat} {z : Int} (h : Nsm L z) : Nsm L (RN z) := by
 rcases h with h | h
 · left; rw [h]; rfl
 · right
   rw [RN_abs]
   have := rn_mono h
   rwa [show rn (2 ^ L) = 2 ^ L by have := rn_exact 1 L (by omega); simpa using this] at this
end Go.Proofs.YtgnofnjbmiepjaaGreat

namespace Go.Proofs.YtgnofnjbmiepjaaGreat
open Ieee.Own Pol

end Go.Proofs.YtgnofnjbmiepjaaGreat

namespace Go.Proofs.YtgnofnjbmiepjaaGreat
open Go.ChangeShapes Go.WideShapes Go.ChangeAt Go.RowKit Ieee.Own

theorem SubR.uniq {p q u v : Pr} (h : SubR p q u) (k : SubR p q v) : u = v := pair_of (h.all.uniq k.all)
theorem HsR.uniq {X : Pr} : ∀ {cs : List Nat} {P R : Pr}, HsR X cs P → HsR X cs R → P = R
 | [], P, R, h, k => by
   have h : P = (0, 0) := h
   have k : R = (0, 0) := k
   rw [h, k]
 | _ :: _, _, _, ⟨P', M, h1, h2, h3⟩, ⟨R', N, k1, k2, k3⟩ => by
   obtain rfl := HsR.uniq h1 k1
   obtain rfl := h2.uniq k2
   exact h3.uniq k3
theorem CsR.uniq {W : Pr} : ∀ {cs : List Nat} {B D B' D' : Pr}, CsR W cs B D → CsR W cs B' D' → B = B' ∧ D = D'
 | [], _, _, _, _, ⟨h1, h2⟩, ⟨k1, k2⟩ => ⟨by rw [h1, k1], by rw [h2, k2]⟩
 | _ :: _, _, _, _, _, ⟨D2, M, N, h1, h2, h3, h4⟩, ⟨E2, K, L, k1, k2, k3, k4⟩ => by
   obtain ⟨rfl, rfl⟩ := CsR.uniq h1 k1
   obtain rfl := h2.uniq k2
   obtain rfl := h3.uniq k3
   exact ⟨h4.uniq k4, rfl⟩
theorem ChR.uniq {X : Pr} {cs : List Nat} {P R : Pr} (h : ChR X cs P) (k : ChR X cs R) : P = R := by
 cases cs with
 | nil =>
   have h : P = (0, 0) := h
   have k : R = (0, 0) := k
   rw [h, k]
 | cons c cs =>
   obtain ⟨W, B, D, M, N, h0, h1, h2, h3, h4⟩ := h
   obtain ⟨W', B', D', M', N', k0, k1, k2, k3, k4⟩ := k
   obtain rfl := h0.uniq k0
   obtain ⟨rfl, rfl⟩ := h1.uniq k1
   obtain rfl := h2.uniq k2
   obtain rfl := h3.uniq k3
   exact h4.uniq k4

theorem Wn.le {p : Pr} {T S : Int} (h : Wn p T) (hs : T ≤ S) : Wn p S := ⟨h.l1, h.l2, h.ok, by have := h.lo; omega, by have := h.hi; omega⟩
end Go.Proofs.YtgnofnjbmiepjaaGreat
