/- Proved here: what the texts Wvd, Wve prove, one behind the other. -/
import Derived.Test.YtgnofnjbmiepjaaJw2
import Derived.Test.YtgnofnjbmiepjaaJy11
import Derived.Test.YtgnofnjbmiepjaaJx8

namespace Go.Proofs.Ytgnofnjbmiepjaa
open Go.ChangeShapes Go.WideShapes Go.ChangeAt Go.RowKit Ieee.Own Pol

end Go.Proofs.Ytgnofnjbmiepjaa

namespace Go.Proofs.Ytgnofnjbmiepjaa
open Go.ChangeShapes Go.WideShapes Go.ChangeAt Go.RowKit Ieee.Own Pol

theorem fitV_eq {x y : Nat} (hx : FinW x) (hy : FinW y) (h : V x = V y) : fitB x = fitB y := by
  rw [Bool.eq_iff_iff, fit_iff hx, fit_iff hy, h]
/-! ### by the age's days -/
/-! ### heights -/
/-- powers -/
def pq (u : Rat) (n : Nat) : Rat := if n = 0 then 1 else if n = 1 then u else u * u
/-- the true height, at the rounded angle -/
def hgtQ (f : Wv) (d : Nat) : Rat := Q f.am * CQ (angW f.fr d) * pq (Q d * (1 / 65536)) f.pw.toNat
end Go.Proofs.Ytgnofnjbmiepjaa
