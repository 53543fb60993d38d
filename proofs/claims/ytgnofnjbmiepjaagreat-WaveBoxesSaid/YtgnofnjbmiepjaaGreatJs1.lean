/- Proved here: what the texts Pmr, Psl, Psp prove, one behind the other. -/
import Derived.Test.YtgnofnjbmiepjaaGreatJp
import Derived.Test.YtgnofnjbmiepjaaGreatJb2
import Derived.Test.YtgnofnjbmiepjaaGreatJb8

namespace Go.Proofs.YtgnofnjbmiepjaaGreat
open Ieee.Own Pol

end Go.Proofs.YtgnofnjbmiepjaaGreat

namespace Go.Proofs.YtgnofnjbmiepjaaGreat
open Ieee.Own Pol

end Go.Proofs.YtgnofnjbmiepjaaGreat

namespace Go.Proofs.YtgnofnjbmiepjaaGreat
open Go.ChangeShapes Go.WideShapes Go.ChangeAt Go.RowKit Ieee.Own

def hw (a b : Nat) : Nat := (1053 + 10 * b) * 4503599627370496 + a * 281474976710656
end Go.Proofs.YtgnofnjbmiepjaaGreat
