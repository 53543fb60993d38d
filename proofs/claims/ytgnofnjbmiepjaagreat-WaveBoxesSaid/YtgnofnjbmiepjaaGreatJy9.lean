/- Proved here: what the texts Frk, Frm, Frn, Fro prove, one behind the other. -/
import Derived.Test.YtgnofnjbmiepjaaGreatJy3
import Derived.Test.YtgnofnjbmiepjaaGreatJy1
import Derived.Test.YtgnofnjbmiepjaaGreatJx1
import Derived.Test.YtgnofnjbmiepjaaGreatJy6

namespace Go.Proofs.YtgnofnjbmiepjaaGreat
open Ieee.Own Pol Fma

theorem Off3.len {w : V3} {p : R3} {e : Rat} (h : Off3 w p e) : Len (subQ (qv w) p) (3 * e) := by
 have := len_of (p := subQ (qv w) p) h.x h.y h.z
 have e3 : e + e + e = 3 * e := by grind
 rw [e3] at this
 exact this
end Go.Proofs.YtgnofnjbmiepjaaGreat

namespace Go.Proofs.YtgnofnjbmiepjaaGreat
open Ieee.Own Pol Fma

end Go.Proofs.YtgnofnjbmiepjaaGreat

namespace Go.Proofs.YtgnofnjbmiepjaaGreat
open Go.ChangeShapes Go.WideShapes Go.ChangeAt Go.RowKit Ieee.Own Pol Fma

end Go.Proofs.YtgnofnjbmiepjaaGreat

namespace Go.Proofs.YtgnofnjbmiepjaaGreat
open Go.ChangeShapes Go.WideShapes Go.ChangeAt Go.RowKit Ieee.Own Pol Fma

end Go.Proofs.YtgnofnjbmiepjaaGreat
