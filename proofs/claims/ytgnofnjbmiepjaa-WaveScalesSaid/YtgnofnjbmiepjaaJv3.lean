/- Proved here: what the texts Vnm, Vlw prove, one behind the other. -/
import Derived.Test.YtgnofnjbmiepjaaJp
import Derived.Test.YtgnofnjbmiepjaaJb5
import Derived.Test.YtgnofnjbmiepjaaJv2

namespace Go.Proofs.Ytgnofnjbmiepjaa
open Ieee.Own

def qX (a b : Nat) : Nat := (Ieee.double.div a b).getD 0

/-! ### products of fit vectors -/
end Go.Proofs.Ytgnofnjbmiepjaa

namespace Go.Proofs.Ytgnofnjbmiepjaa
open Go.ChangeShapes Go.WideShapes Go.ChangeAt Go.RowKit Ieee.Own

theorem wdB {x : Nat} (hx : x < 18446744073709551616) (h : vnB x = true) : Wd x 822 1134 := by
  obtain ⟨f, g, b⟩ := vnB_spec hx h
  exact ⟨f, fit_822 hx g, b⟩
structure D3 (p : V3) : Prop where
  w1 : Wd p.1 822 1134
  w2 : Wd p.2.1 822 1134
  w3 : Wd p.2.2 822 1134
theorem fitV_wd {p : V3} (h : W3 p) (f : fitV p = true) : D3 p := by
  unfold fitV at f
  simp only [Bool.and_eq_true] at f
  exact ⟨wdB h.l1 f.1.1, wdB h.l2 f.1.2, wdB h.l3 f.2⟩
theorem D3.bd {p : V3} (h : D3 p) : Bd p 1134 := ⟨h.w1.fin, h.w2.fin, h.w3.fin, h.w1.abs, h.w2.abs, h.w3.abs⟩
/-! ### the calls -/
def both3 (a b : V3) : Bool := fitV a && fitV b
def addR (a b : V3) : V3 × Int := if both3 a b = true then toldR (aX a.1 b.1, aX a.2.1 b.2.1, aX a.2.2 b.2.2) else (z3, 3)
def subR (a b : V3) : V3 × Int := if both3 a b = true then toldR (lX a.1 b.1, lX a.2.1 b.2.1, lX a.2.2 b.2.2) else (z3, 3)
/-! ### awake -/
end Go.Proofs.Ytgnofnjbmiepjaa
