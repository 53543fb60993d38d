/- Proved here: what the texts Omi, Omj prove, one behind the other. -/
import Derived.Test.YtgnofnjbmiepjaaJo1
import Derived.Test.YtgnofnjbmiepjaaJo3
import Derived.Test.YtgnofnjbmiepjaaJo2

namespace Fma
open Go.Proofs.Ytgnofnjbmiepjaa Pol

end Fma

namespace Go.Proofs.Ytgnofnjbmiepjaa
open Go.ChangeShapes Go.WideShapes Go.ChangeAt Go.RowKit Ieee.Own Pol Fma

theorem trig_wd {x : Nat} (A : Ang x) : Wd (tS x) 768 1075 ∧ Wd (tC x) 768 1075 := by
  obtain ⟨⟨r, R, e, f⟩, sz, cz⟩ := ang_trig A
  have s := (R.rest A).sin_wd
  have c := (R.rest A).cos_wd
  have d : ∀ k : Int, (2 : Int) ^ 768 ∣ vq k (V (sinX r)) (V (cosX r)) ∧ (vq k (V (sinX r)) (V (cosX r))).natAbs ≤ 2 ^ 1075 := fun k => by
    have := s.abs
    have := c.abs
    unfold vq
    repeat' split
    · exact ⟨s.dvd, by omega⟩
    · exact ⟨c.dvd, by omega⟩
    · exact ⟨Int.dvd_neg.2 s.dvd, by omega⟩
    · exact ⟨Int.dvd_neg.2 c.dvd, by omega⟩
  exact ⟨⟨sz.fin, by rw [e]; exact (d _).1, by rw [e]; exact (d _).2⟩, ⟨cz.fin, by rw [f]; exact (d _).1, by rw [f]; exact (d _).2⟩⟩
/-! ### the plane's numbers -/
end Go.Proofs.Ytgnofnjbmiepjaa
