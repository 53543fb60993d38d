/- Proved here: what the texts Vma, Vmb, Vei prove, one behind the other. -/
import Derived.Test.YtnmadknpkhaolaaJz10
import Derived.LoopN

namespace Go.Proofs.Ytnmadknpkhaolaa
open Go.ChangeShapes Go.WideShapes Go.ChangeAt Go.RowKit Ieee.Own

abbrev M9 := V3 × V3 × V3
structure W9 (m : M9) : Prop where
  w1 : W3 m.1
  w2 : W3 m.2.1
  w3 : W3 m.2.2
def z9 : M9 := (z3, z3, z3)
end Go.Proofs.Ytnmadknpkhaolaa

namespace Go.Proofs.Ytnmadknpkhaolaa
open Go.ChangeShapes Go.WideShapes Go.ChangeAt Go.RowKit Ieee.Own

end Go.Proofs.Ytnmadknpkhaolaa

namespace Go.Proofs.Ytnmadknpkhaolaa
open Ieee.Own

theorem mag_eq {x y : Nat} (hx : FinW x) (hy : FinW y) (h : (V x).natAbs = (V y).natAbs) : x % 9223372036854775808 = y % 9223372036854775808 := by
  rw [V_abs' x hx, V_abs' y hy] at h
  rcases Nat.lt_trichotomy (x % 9223372036854775808) (y % 9223372036854775808) with c | c | c
  · have := val_lt (F := 52) c; omega
  · exact c
  · have := val_lt (F := 52) c; omega
theorem fitB_mag {x y : Nat} (h : x % 9223372036854775808 = y % 9223372036854775808) : fitB x = fitB y := by unfold fitB; rw [h]
theorem vnB_mag {x y : Nat} (h : x % 9223372036854775808 = y % 9223372036854775808) : vnB x = vnB y := by unfold vnB; rw [fitB_mag h, h]
end Go.Proofs.Ytnmadknpkhaolaa
