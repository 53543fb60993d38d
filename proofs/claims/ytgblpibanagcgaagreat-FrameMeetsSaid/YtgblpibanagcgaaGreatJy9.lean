/- Proved here: what the texts Frk, Frm prove, one behind the other. -/
import Derived.Test.YtgblpibanagcgaaGreatJy5
import Derived.Test.YtgblpibanagcgaaGreatJy2
import Derived.Test.YtgblpibanagcgaaGreatJx2
import Derived.Test.YtgblpibanagcgaaGreatJy7

namespace Go.Proofs.YtgblpibanagcgaaGreat
open Ieee.Own Pol Fma

def qv (v : V3) : R3 := (Q v.1, Q v.2.1, Q v.2.2)
/-! ### up and down, in lengths -/
end Go.Proofs.YtgblpibanagcgaaGreat

namespace Go.Proofs.YtgblpibanagcgaaGreat
open Ieee.Own Pol Fma

def hh (R : Rat) : Rat := 500 * (uR * R) + 40 * sm
end Go.Proofs.YtgblpibanagcgaaGreat
