/- Proved here: what the texts Frk, Frm, Frn, Fro prove, one behind the other. -/
import Derived.Test.YtgnofnjbmiepjaaJy3
import Derived.Test.YtgnofnjbmiepjaaJy1
import Derived.Test.YtgnofnjbmiepjaaJx2
import Derived.Test.YtgnofnjbmiepjaaJy6

namespace Go.Proofs.Ytgnofnjbmiepjaa
open Ieee.Own Pol Fma

/-! ### up and down, in lengths -/
end Go.Proofs.Ytgnofnjbmiepjaa

namespace Go.Proofs.Ytgnofnjbmiepjaa
open Ieee.Own Pol Fma

def hh (R : Rat) : Rat := 500 * (uR * R) + 40 * sm
end Go.Proofs.Ytgnofnjbmiepjaa

namespace Go.Proofs.Ytgnofnjbmiepjaa
open Go.ChangeShapes Go.WideShapes Go.ChangeAt Go.RowKit Ieee.Own Pol Fma

/-! ### the bound -/
/-! ### the walk -/
end Go.Proofs.Ytgnofnjbmiepjaa

namespace Go.Proofs.Ytgnofnjbmiepjaa
open Go.ChangeShapes Go.WideShapes Go.ChangeAt Go.RowKit Ieee.Own Pol Fma

end Go.Proofs.Ytgnofnjbmiepjaa
