/- Proved here: what the texts Omi, Omj prove, one behind the other. -/
import Derived.Test.YtkpdnhbifokhlaaGreatJo1
import Derived.Test.YtkpdnhbifokhlaaGreatJo3
import Derived.Test.YtkpdnhbifokhlaaGreatJo2

namespace Fma
open Go.Proofs.YtkpdnhbifokhlaaGreat Pol

end Fma

namespace Go.Proofs.YtkpdnhbifokhlaaGreat
open Go.ChangeShapes Go.WideShapes Go.ChangeAt Go.RowKit Ieee.Own Pol Fma

def rooW (e : Nat) : Nat := rX (lX oneW (mX e e))
structure Roo (e : Nat) : Prop where
 m : Ieee.double.mul e e = some (mX e e)
 s : Ieee.double.sub oneW (mX e e) = some (lX oneW (mX e e))
 r : Ieee.double.sqrt (lX oneW (mX e e)) = some (rooW e)
 wd : Wd (rooW e) 700 1075
 nn : 0 ≤ Q (rooW e)
 le : Q (rooW e) ≤ 2
 sq : mag (Q (rooW e) * Q (rooW e) - (1 - Q e * Q e)) ≤ 6 * uR
theorem roo_low {u E p w : Rat} (u0 : 0 ≤ u) (u1 : 1000000 * u ≤ 1) (e0 : 0 ≤ E) (e1 : E ≤ 49 / 64) (hp : mag (p - E) ≤ u * E) (hw : mag (w - (1 - p)) ≤ u * mag (1 - p)) : 1 / 8 ≤ w ∧ w ≤ 1 + 2 * u ∧ mag (w - (1 - E)) ≤ 3 * u := by
 have a := mag_le (p - E)
 have uE := Rat.mul_le_mul_of_nonneg_left e1 u0
 have m1 : mag (1 - p) ≤ 101 / 100 := mag_of (by grind) (by grind)
 have um := Rat.mul_le_mul_of_nonneg_left m1 u0
 have c := mag_le (w - (1 - p))
 generalize u * E = Y at *
 generalize u * mag (1 - p) = Z at *
 exact ⟨by grind, by grind, mag_of (by grind) (by grind)⟩
theorem roo_poly {u E w b : Rat} (u0 : 0 ≤ u) (u1 : 1000000 * u ≤ 1) (h0 : 1 / 8 ≤ w) (h1 : w ≤ 1 + 2 * u) (hw : mag (w - (1 - E)) ≤ 3 * u) (hb : mag (b * b - w) ≤ 2 * u * (b * b)) : mag (b * b - (1 - E)) ≤ 6 * u ∧ b * b ≤ 2 ∧ 1 / 16 ≤ b * b := by
 have c := mag_le (w - (1 - E))
 have d := mag_le (b * b - w)
 have bb := Pol.sq_nn b
 have ub := Rat.mul_nonneg (show 0 ≤ 1 / 1000000 - u by grind) bb
 have k : (1 / 1000000 - u) * (b * b) = b * b / 1000000 - u * (b * b) := by grind
 rw [k] at ub
 have k2 : 2 * u * (b * b) = 2 * (u * (b * b)) := by grind
 rw [k2] at hb
 have ub0 := Rat.mul_nonneg u0 bb
 have hi : b * b ≤ 11 / 10 := by
   generalize b * b = B at *
   generalize u * B = X at *
   grind
 have ub2 := Rat.mul_le_mul_of_nonneg_left hi u0
 generalize b * b = B at *
 generalize u * B = X at *
 exact ⟨mag_of (by grind) (by grind), by grind, by grind⟩
theorem roo_of {e : Nat} (he : e < 18446744073709551616) (fe : fitB e = true) (e0 : 0 ≤ Q e) (e1 : Q e ≤ 7 / 8) : Roo e := by
 have u0 := uR0
 have u1 := uR1
 have We : Wd e 822 1074 := ⟨fit_fin he fe, fit_822 he fe, by
   have v0 := Q_nn.1 e0
   have c1 : V oneW = 2 ^ 1074 := by decide +kernel
   have q1 : Q oneW = 1 := by decide +kernel
   have : V e ≤ 2 ^ 1074 := by rw [← c1]; exact Q_le.1 (by rw [q1]; grind)
   have ce : ((2 ^ 1074 : Nat) : Int) = 2 ^ 1074 := Int.natCast_pow 2 1074
   omega⟩
 obtain ⟨a1, a2, a3⟩ := We.mul We (by omega) (by omega) (by omega)
 obtain ⟨b1, b2, b3, b4⟩ := sub_ok (i := 1074) (k := 1075) one_wd.fin a2.fin one_wd.abs (a2.le (q := 500) (l := 1074) (by omega) (by omega)).abs rfl (by omega)
 have q1 : Q oneW = 1 := by decide +kernel
 have E1 : Q e * Q e ≤ 49 / 64 := by
   have := sq_mono e0 e1
   grind
 have E0 := Pol.sq_nn (Q e)
 have r1 := rd_of a3 _ (mag_self (Q e))
 have r2 := rd_of (sub_rel b3) _ Rat.le_refl
 rw [Rat.add_zero] at r1 r2
 rw [q1] at r2
 have Ww : Wd (lX oneW (mX e e)) 570 1196 := ⟨b2, by
   rw [b3]
   exact RN_dvd (Int.dvd_sub (one_wd.le (q := 570) (l := 1074) (by omega) (Nat.le_refl _)).dvd (a2.le (q := 570) (l := 1074) (by omega) (by omega)).dvd), Nat.le_trans b4 (two_le (a := 1075) (b := 1196) (by omega))⟩
 obtain ⟨wlo, whi, wn⟩ := roo_low u0 u1 E0 E1 r1 r2
 have wp : 0 < V (lX oneW (mX e e)) := by
   have h0 : 0 ≤ V (lX oneW (mX e e)) := Q_nn.1 (Rat.le_trans (by decide +kernel) wlo)
   have : V (lX oneW (mX e e)) ≠ 0 := fun z => by
     have : Q (lX oneW (mX e e)) = 0 := by unfold Q; rw [z]; decide +kernel
     grind
   omega
 have N := nrm_any Ww (by omega)
 obtain ⟨n0, n1⟩ := nrm_rat N (by omega)
 obtain ⟨p1, p2, p4⟩ := roo_poly u0 u1 wlo whi wn n1
 have b0 : 0 ≤ Q (rooW e) := Rat.le_of_lt n0
 have ble : Q (rooW e) ≤ 2 := by
   have : Q (rooW e) * Q (rooW e) ≤ 2 * 2 := by
     show Q (rX _) * Q (rX _) ≤ _
     grind
   exact Fma.sq_le_of (by decide +kernel) this
 have blo : 1 / 4 ≤ Q (rooW e) := by
   have : (1 / 4 : Rat) * (1 / 4) ≤ Q (rooW e) * Q (rooW e) := by
     show _ ≤ Q (rX _) * Q (rX _)
     grind
   exact Fma.sq_le_of b0 this
 refine ⟨a1, b1, N.run, ⟨N.fin, ?_, ?_⟩, b0, ble, p1⟩
 · exact Q_dvd_big (x := 1 / 4) (.inl blo) (by decide +kernel)
 · have v0 := Q_nn.1 b0
   have c1 : V 4611686018427387904 = 2 ^ 1075 := by decide +kernel
   have q2 : Q 4611686018427387904 = 2 := by decide +kernel
   have : V (rooW e) ≤ 2 ^ 1075 := by rw [← c1]; exact Q_le.1 (by rw [q2]; exact ble)
   have ce : ((2 ^ 1075 : Nat) : Int) = 2 ^ 1075 := Int.natCast_pow 2 1075
   show (V (rooW e)).natAbs ≤ _
   omega
structure Axi (A : Nat) : Prop where
 lt : A < 18446744073709551616
 fit : fitB A = true
 lo : 1 / 1048576 ≤ Q A
 hi : Q A ≤ 1099511627776
theorem Axi.wd {A : Nat} (h : Axi A) : Wd A 822 1114 := by
 refine ⟨fit_fin h.lt h.fit, fit_822 h.lt h.fit, ?_⟩
 have v0 := Q_nn.1 (Rat.le_trans (show (0 : Rat) ≤ 1 / 1048576 by decide +kernel) h.lo)
 have c1 : V 4787326403894837248 = 2 ^ 1114 := by decide +kernel
 have q2 : Q 4787326403894837248 = 1099511627776 := by decide +kernel
 have : V A ≤ 2 ^ 1114 := by rw [← c1]; exact Q_le.1 (by rw [q2]; exact h.hi)
 have ce : ((2 ^ 1114 : Nat) : Int) = 2 ^ 1114 := Int.natCast_pow 2 1114
 omega
end Go.Proofs.YtkpdnhbifokhlaaGreat
