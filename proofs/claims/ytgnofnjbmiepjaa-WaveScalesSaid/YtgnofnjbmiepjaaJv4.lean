/- Proved here: what the texts Vei prove, one behind the other. -/
import Derived.Test.YtgnofnjbmiepjaaJv3

namespace Go.Proofs.Ytgnofnjbmiepjaa
open Ieee.Own

theorem mag_eq {x y : Nat} (hx : FinW x) (hy : FinW y) (h : (V x).natAbs = (V y).natAbs) : x % 9223372036854775808 = y % 9223372036854775808 := by
  rw [V_abs' x hx, V_abs' y hy] at h
  rcases Nat.lt_trichotomy (x % 9223372036854775808) (y % 9223372036854775808) with c | c | c
  · have := val_lt (F := 52) c; omega
  · exact c
  · have := val_lt (F := 52) c; omega
theorem fitB_mag {x y : Nat} (h : x % 9223372036854775808 = y % 9223372036854775808) : fitB x = fitB y := by unfold fitB; rw [h]
theorem vnB_mag {x y : Nat} (h : x % 9223372036854775808 = y % 9223372036854775808) : vnB x = vnB y := by unfold vnB; rw [fitB_mag h, h]
end Go.Proofs.Ytgnofnjbmiepjaa
