/- Proved here: what the texts Frk, Frm, Frn, Fro prove, one behind the other. -/
import Derived.Test.YtkpdnhbifokhlaaJy3
import Derived.Test.YtkpdnhbifokhlaaJy1
import Derived.Test.YtkpdnhbifokhlaaJx2
import Derived.Test.YtkpdnhbifokhlaaJy6

namespace Go.Proofs.Ytkpdnhbifokhlaa
open Ieee.Own Pol Fma

/-! ### up and down, in lengths -/
end Go.Proofs.Ytkpdnhbifokhlaa

namespace Go.Proofs.Ytkpdnhbifokhlaa
open Ieee.Own Pol Fma

def hh (R : Rat) : Rat := 500 * (uR * R) + 40 * sm
def gg (R : Rat) : Rat := 130 * (uR * R) + 9 * sm
end Go.Proofs.Ytkpdnhbifokhlaa

namespace Go.Proofs.Ytkpdnhbifokhlaa
open Go.ChangeShapes Go.WideShapes Go.ChangeAt Go.RowKit Ieee.Own Pol Fma

/-! ### the bound -/
/-! ### the walk -/
end Go.Proofs.Ytkpdnhbifokhlaa

namespace Go.Proofs.Ytkpdnhbifokhlaa
open Go.ChangeShapes Go.WideShapes Go.ChangeAt Go.RowKit Ieee.Own Pol Fma

end Go.Proofs.Ytkpdnhbifokhlaa
