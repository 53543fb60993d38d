/- Proved here: what the texts Hck, Hra prove, one behind the other. -/
import Derived.Test.YtnmadknpkhaolaaJz20

namespace Go.Proofs.Ytnmadknpkhaolaa
open Go.ChangeShapes Go.WideShapes Go.ChangeAt Go.RowKit Ieee.Own

theorem own_any {e : TypeId} {m base : Nat} {w w' : World} {M : List (List Value)} {v : Value} (h : OwnR e m base w M v w') : ∃ ao n c, v = .slice ao n c := by
  rcases h.own.2 with ⟨hv, _⟩ | ⟨g, cap, cur, hv, _⟩
  · exact ⟨_, _, _, hv⟩
  · exact ⟨_, _, _, hv⟩
end Go.Proofs.Ytnmadknpkhaolaa

namespace Go.Proofs.Ytnmadknpkhaolaa
open Go.ChangeShapes Go.WideShapes Go.ChangeAt Go.RowKit Ieee.Own

set_option maxRecDepth 100000 in
theorem rec64 : RecT 22 30 1 8 (.float .f64 0) := ⟨Try.underlying22, by kernel_rfl, rfl, by omega⟩
def r64 (L : List Nat) : List (List Value) := L.map fun x => [.float .f64 x]
theorem r64_at {w : World} {ao : Option Addr} {L : List Nat} (h : RAt w ao 1 (r64 L)) : At w ao L := by
  intro j hj
  have e : (r64 L)[j]? = some [.float .f64 (L.getD j 0)] := by unfold r64; simp [hj, List.getD]
  obtain ⟨b, o, eo, -, hc⟩ := h j _ e
  have := hc 0 _ rfl
  rw [Nat.mul_one, Nat.add_zero] at this
  exact ⟨b, o, eo, this⟩
abbrev OwnW (base : Nat) (w : World) (L : List Nat) (v : Value) (w' : World) : Prop := OwnR 30 1 base w (r64 L) v w'
theorem ownW_any {base : Nat} {w w' : World} {L : List Nat} {v : Value} (h : OwnW base w L v w') : ∃ ao m c, v = .slice ao m c := own_any h
theorem ownW_at {base : Nat} {w w' : World} {L : List Nat} {v : Value} (h : OwnW base w L v w') : ∃ ao cap, v = .slice ao L.length cap ∧ L.length ≤ cap ∧ cap ≤ maxLen ∧ At w' ao L := by
  obtain ⟨ao, cap, h1, h2, h3, h4, -, h5⟩ := ownsR_at h.ok h.own
  have e : (r64 L).length = L.length := by unfold r64; simp
  rw [e] at h1 h2
  exact ⟨ao, cap, h1, h2, by first | exact h3 | exact h4, by first | exact r64_at h4 | exact r64_at h3⟩
theorem r64_app (L : List Nat) (x : Nat) : r64 L ++ [[.float .f64 x]] = r64 (L ++ [x]) := by simp [r64]
end Go.Proofs.Ytnmadknpkhaolaa
