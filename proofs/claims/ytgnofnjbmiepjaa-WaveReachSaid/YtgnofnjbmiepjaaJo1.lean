/- Proved here: what the texts Oma, Omc, Omd prove, one behind the other. -/
import Derived.Test.YtgnofnjbmiepjaaJm
import Derived.Test.YtgnofnjbmiepjaaJb6

namespace Ply

/-- no faster than L -/
def Lip (f : Rat → Rat) (a b L : Rat) : Prop := ∀ x y, a ≤ x → x ≤ y → y ≤ b → -(L * (y - x)) ≤ f y - f x ∧ f y - f x ≤ L * (y - x)

theorem Lip.neg {f : Rat → Rat} {a b L : Rat} (h : Lip f a b L) : Lip (fun x => -f x) a b L := by
  intro x y h1 h2 h3
  have u := h x y h1 h2 h3
  constructor <;> grind
end Ply

namespace Go.Proofs.Ytgnofnjbmiepjaa
open Ieee Ieee.Own

end Go.Proofs.Ytgnofnjbmiepjaa

namespace Ply

end Ply
