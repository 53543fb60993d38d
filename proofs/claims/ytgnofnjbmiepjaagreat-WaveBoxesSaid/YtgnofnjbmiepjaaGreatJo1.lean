/- Proved here: what the texts Oma, Omc, Omd, Ome, Omf, Omg, Omh, Omi, Omj, Omk prove, one behind the other. -/
import Derived.Test.YtgnofnjbmiepjaaGreatJm
import Derived.Test.YtgnofnjbmiepjaaGreatJb6
import Derived.Test.YtgnofnjbmiepjaaGreatJy9
import Derived.Test.YtgnofnjbmiepjaaGreatJy11
import Derived.Test.YtgnofnjbmiepjaaGreatJy3
import Derived.Test.YtgnofnjbmiepjaaGreatJy1
import Derived.Test.YtgnofnjbmiepjaaGreatJv1

namespace Ply

end Ply

namespace Go.Proofs.YtgnofnjbmiepjaaGreat
open Ieee Ieee.Own

def hlf : Int := 4 * eig
theorem hlf_pos : 0 < hlf := by have := eig_pos; unfold hlf; omega
theorem hlf_two : 2 * hlf = 2 ^ 1074 := by decide +kernel
theorem left_more {v N : Int} (h : rq hlf v ≠ hlf ∧ rq hlf v ≠ -hlf) : rq hlf (v + N * 2 ^ 1074) = rq hlf v ∧ kq hlf (v + N * 2 ^ 1074) = kq hlf v + N := by
 have b := rq_bd hlf_pos v
 have e : v = 2 * hlf * kq hlf v + rq hlf v := by unfold rq; omega
 have u := kq_uniq (H := hlf) (v := v + N * 2 ^ 1074) (k := kq hlf v + N) (r := rq hlf v) hlf_pos (by
  rw [← hlf_two]
  generalize kq hlf v = k at *
  generalize rq hlf v = r at *
  rw [e]; grind) b.1 b.2.1 (fun q => absurd q (by omega))
 exact ⟨u.2, u.1⟩
end Go.Proofs.YtgnofnjbmiepjaaGreat

namespace Ply

end Ply

namespace Go.Proofs.YtgnofnjbmiepjaaGreat
open Go.ChangeShapes Go.WideShapes Go.ChangeAt Go.RowKit Ieee.Own Pol Fma

end Go.Proofs.YtgnofnjbmiepjaaGreat

namespace Go.Proofs.YtgnofnjbmiepjaaGreat
open Go.ChangeShapes Go.WideShapes Go.ChangeAt Go.RowKit Ieee.Own Pol Fma

def fnW (x : Nat) : Nat := if fitB x = true then x else 0
theorem zero_ang : Ang 0 := ⟨by unfold FinW; omega, by rw [V_zero]; exact Int.dvd_zero _, by rw [V_zero]; exact Nat.zero_le _⟩
theorem ang_trig {x : Nat} (A : Ang x) : Trig x (tS x) (tC x) := by
 obtain ⟨r, R⟩ := rst_ex A
 exact trig_ex ⟨_, _, Trig.own A R⟩
end Go.Proofs.YtgnofnjbmiepjaaGreat

namespace Fma
open Go.Proofs.YtgnofnjbmiepjaaGreat Pol

end Fma

namespace Go.Proofs.YtgnofnjbmiepjaaGreat
open Go.ChangeShapes Go.WideShapes Go.ChangeAt Go.RowKit Ieee.Own Pol Fma

end Go.Proofs.YtgnofnjbmiepjaaGreat

namespace Fma
open Go.Proofs.YtgnofnjbmiepjaaGreat Pol

end Fma

namespace Go.Proofs.YtgnofnjbmiepjaaGreat
open Go.ChangeShapes Go.WideShapes Go.ChangeAt Go.RowKit Ieee.Own Pol Fma

theorem trig_wd {x : Nat} (A : Ang x) : Wd (tS x) 768 1075 ∧ Wd (tC x) 768 1075 := by
 obtain ⟨⟨r, R, e, f⟩, sz, cz⟩ := ang_trig A
 have s := (R.rest A).sin_wd
 have c := (R.rest A).cos_wd
 have d : ∀ k : Int, (2 : Int) ^ 768 ∣ vq k (V (sinX r)) (V (cosX r)) ∧ (vq k (V (sinX r)) (V (cosX r))).natAbs ≤ 2 ^ 1075 := fun k => by
  have := s.abs
  have := c.abs
  unfold vq
  repeat' split
  · exact ⟨s.dvd, by omega⟩
  · exact ⟨c.dvd, by omega⟩
  · exact ⟨Int.dvd_neg.2 s.dvd, by omega⟩
  · exact ⟨Int.dvd_neg.2 c.dvd, by omega⟩
 exact ⟨⟨sz.fin, by rw [e]; exact (d _).1, by rw [e]; exact (d _).2⟩, ⟨cz.fin, by rw [f]; exact (d _).1, by rw [f]; exact (d _).2⟩⟩
end Go.Proofs.YtgnofnjbmiepjaaGreat

namespace Go.Proofs.YtgnofnjbmiepjaaGreat
open Go.ChangeShapes Go.WideShapes Go.ChangeAt Go.RowKit Ieee.Own Pol

structure Frc (x r : Nat) : Prop where
 nz : Nz r
 v : V r = rq hlf (V x)
theorem Frc.uniq {x r s : Nat} (h : Frc x r) (g : Frc x s) : r = s := h.nz.uniq g.nz (by rw [h.v, g.v])
theorem pow_as {n a b : Nat} (h : n ≤ 2 ^ a) (e : a = b) : n ≤ 2 ^ b := e ▸ h
theorem Frc.more {x y r : Nat} {N : Int} (h : Frc x r) (hn : V r ≠ hlf ∧ V r ≠ -hlf) (e : V y = V x + N * 2 ^ 1074) : Frc y r := by
 refine ⟨h.nz, ?_⟩
 rw [h.v] at hn
 rw [e, (left_more hn).1, h.v]
end Go.Proofs.YtgnofnjbmiepjaaGreat
