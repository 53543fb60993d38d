/- Proved here: what the texts Wvm, Wvn, Wvo prove, one behind the other. -/
import Derived.Test.YtgnofnjbmiepjaaJw2
import Derived.Test.YtgnofnjbmiepjaaJy6
import Derived.Test.YtgnofnjbmiepjaaJw5
import Derived.Test.YtgnofnjbmiepjaaJw6
import Derived.Test.YtgnofnjbmiepjaaJb4b
import Derived.Laws.MakeOwn

namespace Go.Proofs.Ytgnofnjbmiepjaa
open Go.ChangeShapes Go.WideShapes Go.ChangeAt Go.RowKit Ieee.Own Pol

end Go.Proofs.Ytgnofnjbmiepjaa

namespace Go.Proofs.Ytgnofnjbmiepjaa
open Go.ChangeShapes Go.WideShapes Go.ChangeAt Go.RowKit Ieee.Own Pol

def OwnV (base : Nat) (w : World) (M : List Wv) (v : Value) (w' : World) : Prop := OwnR 49 5 base w (M.map wvC) v w'
theorem ownV_any {base : Nat} {w w' : World} {M : List Wv} {v : Value} (h : OwnV base w M v w') : ∃ ao m c, v = .slice ao m c := by
  rcases h.own.2 with ⟨hv, _⟩ | ⟨g, cap, cur, hv, _⟩
  · exact ⟨_, _, _, hv⟩
  · exact ⟨_, _, _, hv⟩
end Go.Proofs.Ytgnofnjbmiepjaa

namespace Go.Proofs.Ytgnofnjbmiepjaa
open Go.ChangeShapes Go.WideShapes Go.ChangeAt Go.RowKit Ieee.Own Pol Fma

/-! ### the angle stays -/
/-! ### how far the exact sums move -/
structure Df (P P' : R3) (D : Rat) : Prop where
  x : mag (P.1 - P'.1) ≤ D
  y : mag (P.2.1 - P'.2.1) ≤ D
  z : mag (P.2.2 - P'.2.2) ≤ D
theorem Df.put {P P' : R3} {D r X X' : Rat} (h : Df P P' D) (r0 : 0 ≤ r) (a : Int) (hx : mag (X - X') ≤ r) : Df (putQ P a X) (putQ P' a X') (D + r) := by
  have k : ∀ {s s' : Rat}, mag (s - s') ≤ D → mag (s + X - (s' + X')) ≤ D + r := fun {s s'} g => by
    have := mag_add g hx
    rwa [show s - s' + (X - X') = s + X - (s' + X') by grind] at this
  have q : ∀ {s s' : Rat}, mag (s - s') ≤ D → mag (s - s') ≤ D + r := fun g => by grind
  unfold putQ
  by_cases h0 : a = 0
  · rw [if_pos h0, if_pos h0]; exact ⟨k h.x, q h.y, q h.z⟩
  · rw [if_neg h0, if_neg h0]
    by_cases h1 : a = 1
    · rw [if_pos h1, if_pos h1]; exact ⟨q h.x, k h.y, q h.z⟩
    · rw [if_neg h1, if_neg h1]; exact ⟨q h.x, q h.y, k h.z⟩
/-! ### magnitudes -/
/-! ### what is told -/
end Go.Proofs.Ytgnofnjbmiepjaa
