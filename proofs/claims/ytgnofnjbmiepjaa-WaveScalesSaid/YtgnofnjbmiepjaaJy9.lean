/- Proved here: what the texts Frk, Frm, Frn, Fro prove, one behind the other. -/
import Derived.Test.YtgnofnjbmiepjaaJy3
import Derived.Test.YtgnofnjbmiepjaaJy1
import Derived.Test.YtgnofnjbmiepjaaJx2
import Derived.Test.YtgnofnjbmiepjaaJy6

namespace Go.Proofs.Ytgnofnjbmiepjaa
open Ieee.Own Pol Fma

def qv (v : V3) : R3 := (Q v.1, Q v.2.1, Q v.2.2)
/-- how far words lie off a vector, number by number -/
structure Off3 (w : V3) (p : R3) (e : Rat) : Prop where
  x : mag (Q w.1 - p.1) ≤ e
  y : mag (Q w.2.1 - p.2.1) ≤ e
  z : mag (Q w.2.2 - p.2.2) ≤ e
theorem Off3.len {w : V3} {p : R3} {e : Rat} (h : Off3 w p e) : Len (subQ (qv w) p) (3 * e) := by
  have := len_of (p := subQ (qv w) p) h.x h.y h.z
  have e3 : e + e + e = 3 * e := by grind
  rw [e3] at this
  exact this
/-! ### up and down, in lengths -/
end Go.Proofs.Ytgnofnjbmiepjaa

namespace Go.Proofs.Ytgnofnjbmiepjaa
open Ieee.Own Pol Fma

def hh (R : Rat) : Rat := 500 * (uR * R) + 40 * sm
end Go.Proofs.Ytgnofnjbmiepjaa

namespace Go.Proofs.Ytgnofnjbmiepjaa
open Go.ChangeShapes Go.WideShapes Go.ChangeAt Go.RowKit Ieee.Own Pol Fma

/-! ### the bound -/
/-! ### the walk -/
end Go.Proofs.Ytgnofnjbmiepjaa

namespace Go.Proofs.Ytgnofnjbmiepjaa
open Go.ChangeShapes Go.WideShapes Go.ChangeAt Go.RowKit Ieee.Own Pol Fma

end Go.Proofs.Ytgnofnjbmiepjaa
