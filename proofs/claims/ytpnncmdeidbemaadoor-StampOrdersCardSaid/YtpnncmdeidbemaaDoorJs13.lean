/- Proved here: what the texts Das prove, one behind the other. -/
import Derived.Test.YtpnncmdeidbemaaDoorJs12

namespace Go.Proofs.YtpnncmdeidbemaaDoor
open Go.ChangeShapes Go.WideShapes Go.ChangeAt Go.RowKit

theorem drew_cells {w w1 : World} (h : ∃ n, w1 = w.drewN n) : ∀ b o, w1.cell? ⟨b, o, none⟩ = w.cell? ⟨b, o, none⟩ := by
  obtain ⟨n, rfl⟩ := h; intro b o; rfl
theorem drew_below {B : Nat} {u w w1 : World} (hb : Below B u w) (h : ∃ n, w1 = w.drewN n) : Below B u w1 := by
  obtain ⟨n, rfl⟩ := h; exact bl_drewN hb n

end Go.Proofs.YtpnncmdeidbemaaDoor
