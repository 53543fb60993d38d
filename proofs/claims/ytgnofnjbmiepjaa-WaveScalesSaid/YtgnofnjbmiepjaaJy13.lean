/- Proved here: what the texts Frr, Frs, Frt prove, one behind the other. -/
import Derived.Test.YtgnofnjbmiepjaaJy11
import Derived.Test.YtgnofnjbmiepjaaJy6
import Derived.Test.YtgnofnjbmiepjaaJy9
import Derived.Test.YtgnofnjbmiepjaaJx9
import Derived.Test.YtgnofnjbmiepjaaJb8

namespace Go.Proofs.Ytgnofnjbmiepjaa
open Go.ChangeShapes Go.WideShapes Go.ChangeAt Go.RowKit Ieee.Own Pol Fma

end Go.Proofs.Ytgnofnjbmiepjaa

namespace Go.Proofs.Ytgnofnjbmiepjaa
open Go.ChangeShapes Go.WideShapes Go.ChangeAt Go.RowKit Ieee.Own Pol Fma

end Go.Proofs.Ytgnofnjbmiepjaa

namespace Go.Proofs.Ytgnofnjbmiepjaa
open Go.ChangeShapes Go.WideShapes Go.ChangeAt Go.RowKit Ieee.Own Pol Fma

def pw : Nat → Rat
  | 0 => 1
  | n + 1 => 2 * pw n
end Go.Proofs.Ytgnofnjbmiepjaa
