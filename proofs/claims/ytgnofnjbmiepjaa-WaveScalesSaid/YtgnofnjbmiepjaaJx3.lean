/- Proved here: what the texts Bg, Vbx prove, one behind the other. -/
import Derived.Test.YtgnofnjbmiepjaaJb8
import Derived.Test.YtgnofnjbmiepjaaJv3

namespace Go.Proofs.Ytgnofnjbmiepjaa
open Go.ChangeShapes Go.WideShapes Go.ChangeAt Go.RowKit Ieee.Own

def SubQ (p q u : Pr) : Prop := OpIs (errSS p.1 p.2 q.1 q.2) (fun v => V p.1 - V q.2 - v) (fun v => V p.2 - V q.1 - v) (.returned (spanE u.1 u.2 0))
theorem SubQ.uniq {p q u v : Pr} (h : SubQ p q u) (k : SubQ p q v) : u = v := pair_of (h.all.uniq k.all)
end Go.Proofs.Ytgnofnjbmiepjaa

namespace Go.Proofs.Ytgnofnjbmiepjaa
open Go.ChangeShapes Go.WideShapes Go.ChangeAt Go.RowKit Ieee.Own

abbrev B6 := Pr × Pr × Pr
structure W2 (p : Pr) : Prop where
  l1 : p.1 < 18446744073709551616
  l2 : p.2 < 18446744073709551616
end Go.Proofs.Ytgnofnjbmiepjaa
