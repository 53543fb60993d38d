/- Proved here: what the texts Oma, Omc, Omd, Ome, Omf, Omg, Omh, Omi, Omj, Omk prove, one behind the other. -/
import Derived.Test.YtgnofnjbmiepjaaGreatJm
import Derived.Test.YtgnofnjbmiepjaaGreatJb6
import Derived.Test.YtgnofnjbmiepjaaGreatJy9
import Derived.Test.YtgnofnjbmiepjaaGreatJy11
import Derived.Test.YtgnofnjbmiepjaaGreatJy3
import Derived.Test.YtgnofnjbmiepjaaGreatJy1
import Derived.Test.YtgnofnjbmiepjaaGreatJv1

namespace Ply

end Ply

namespace Go.Proofs.YtgnofnjbmiepjaaGreat
open Ieee Ieee.Own

end Go.Proofs.YtgnofnjbmiepjaaGreat

namespace Ply

end Ply

namespace Go.Proofs.YtgnofnjbmiepjaaGreat
open Go.ChangeShapes Go.WideShapes Go.ChangeAt Go.RowKit Ieee.Own Pol Fma

end Go.Proofs.YtgnofnjbmiepjaaGreat

namespace Go.Proofs.YtgnofnjbmiepjaaGreat
open Go.ChangeShapes Go.WideShapes Go.ChangeAt Go.RowKit Ieee.Own Pol Fma

def fnW (x : Nat) : Nat := if fitB x = true then x else 0
theorem zero_ang : Ang 0 := ⟨by unfold FinW; omega, by rw [V_zero]; exact Int.dvd_zero _, by rw [V_zero]; exact Nat.zero_le _⟩
theorem ang_trig {x : Nat} (A : Ang x) : Trig x (tS x) (tC x) := by
 obtain ⟨r, R⟩ := rst_ex A
 exact trig_ex ⟨_, _, Trig.own A R⟩
end Go.Proofs.YtgnofnjbmiepjaaGreat

namespace Fma
open Go.Proofs.YtgnofnjbmiepjaaGreat Pol

end Fma

namespace Go.Proofs.YtgnofnjbmiepjaaGreat
open Go.ChangeShapes Go.WideShapes Go.ChangeAt Go.RowKit Ieee.Own Pol Fma

end Go.Proofs.YtgnofnjbmiepjaaGreat

namespace Fma
open Go.Proofs.YtgnofnjbmiepjaaGreat Pol

end Fma

namespace Go.Proofs.YtgnofnjbmiepjaaGreat
open Go.ChangeShapes Go.WideShapes Go.ChangeAt Go.RowKit Ieee.Own Pol Fma

theorem trig_wd {x : Nat} (A : Ang x) : Wd (tS x) 768 1075 ∧ Wd (tC x) 768 1075 := by
 obtain ⟨⟨r, R, e, f⟩, sz, cz⟩ := ang_trig A
 have s := (R.rest A).sin_wd
 have c := (R.rest A).cos_wd
 have d : ∀ k : Int, (2 : Int) ^ 768 ∣ vq k (V (sinX r)) (V (cosX r)) ∧ (vq k (V (sinX r)) (V (cosX r))).natAbs ≤ 2 ^ 1075 := fun k => by
  have := s.abs
  have := c.abs
  unfold vq
  repeat' split
  · exact ⟨s.dvd, by omega⟩
  · exact ⟨c.dvd, by omega⟩
  · exact ⟨Int.dvd_neg.2 s.dvd, by omega⟩
  · exact ⟨Int.dvd_neg.2 c.dvd, by omega⟩
 exact ⟨⟨sz.fin, by rw [e]; exact (d _).1, by rw [e]; exact (d _).2⟩, ⟨cz.fin, by rw [f]; exact (d _).1, by rw [f]; exact (d _).2⟩⟩
end Go.Proofs.YtgnofnjbmiepjaaGreat

namespace Go.Proofs.YtgnofnjbmiepjaaGreat
open Go.ChangeShapes Go.WideShapes Go.ChangeAt Go.RowKit Ieee.Own Pol

theorem pow_as {n a b : Nat} (h : n ≤ 2 ^ a) (e : a = b) : n ≤ 2 ^ b := e ▸ h
end Go.Proofs.YtgnofnjbmiepjaaGreat
