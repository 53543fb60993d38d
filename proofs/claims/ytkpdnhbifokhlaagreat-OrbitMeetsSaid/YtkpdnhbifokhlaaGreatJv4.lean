/- Proved here: what the texts Vei prove, one behind the other. -/
import Derived.Test.YtkpdnhbifokhlaaGreatJv3

namespace Go.Proofs.YtkpdnhbifokhlaaGreat
open Ieee.Own

theorem mag_eq {x y : Nat} (hx : FinW x) (hy : FinW y) (h : (V x).natAbs = (V y).natAbs) : x % 9223372036854775808 = y % 9223372036854775808 := by
 rw [V_abs' x hx, V_abs' y hy] at h
 rcases Nat.lt_trichotomy (x % 9223372036854775808) (y % 9223372036854775808) with c | c | c
 · have := val_lt (F := 52) c; omega
 · exact c
 · have := val_lt (F := 52) c; omega
theorem fitB_mag {x y : Nat} (h : x % 9223372036854775808 = y % 9223372036854775808) : fitB x = fitB y := by unfold fitB; rw [h]
theorem vnB_mag {x y : Nat} (h : x % 9223372036854775808 = y % 9223372036854775808) : vnB x = vnB y := by unfold vnB; rw [fitB_mag h, h]
theorem plus0_nz {x : Nat} (h : FinW x) : Nz (aX x 0) := by
 have p := plus0 h
 by_cases q : V x = 0
 · have z := (V_zero_iff h).1 q
   have := h.1
   rcases (by omega : x = 0 ∨ x = 9223372036854775808) with rfl | rfl
   · have : aX 0 0 = 0 := by decide +kernel
     rw [this]; exact ⟨zero_fin, by omega⟩
   · have : aX 9223372036854775808 0 = 0 := by decide +kernel
     rw [this]; exact ⟨zero_fin, by omega⟩
 · exact Nz.of p.2.1 (by rw [p.2.2]; exact q)
end Go.Proofs.YtkpdnhbifokhlaaGreat
