/- Proved here: what the texts Omk, Oml prove, one behind the other. -/
import Derived.Test.YtkpdnhbifokhlaaJo1
import Derived.Test.YtkpdnhbifokhlaaJv4
import Derived.Test.YtkpdnhbifokhlaaJv1
import Derived.Test.YtkpdnhbifokhlaaJo4
import Derived.Test.YtkpdnhbifokhlaaJy9

namespace Go.Proofs.Ytkpdnhbifokhlaa
open Go.ChangeShapes Go.WideShapes Go.ChangeAt Go.RowKit Ieee.Own Pol

/-- what is left, fit or not -/
structure Frc (x r : Nat) : Prop where
  nz : Nz r
  v : V r = rq hlf (V x)
theorem Frc.uniq {x r s : Nat} (h : Frc x r) (g : Frc x s) : r = s := h.nz.uniq g.nz (by rw [h.v, g.v])
/-- a word whose left part is told: a fourth of it is whole, it isn't too great -/
structure Lft (x : Nat) : Prop where
  fin : FinW x
  dvd : (4 : Int) ∣ V x
  abs : (V x).natAbs ≤ 2 ^ 1124
/-- the whole number below -/
structure FlW (x : Nat) (F : Int) : Prop where
  fin : FinW (wholeW .down x)
  v : V (wholeW .down x) = F * 2 ^ 1074
  int : (Ieee.double.read (wholeW .down x)).toInt .zero = some F
  d : Ieee.double.sub x (wholeW .down x) = some (lX x (wholeW .down x))
  df : FinW (lX x (wholeW .down x))
  dv : V (lX x (wholeW .down x)) = RN (V x - F * 2 ^ 1074)
  u : Ieee.double.add (wholeW .down x) oneW = some (aX (wholeW .down x) oneW)
  uf : FinW (aX (wholeW .down x) oneW)
  uv : V (aX (wholeW .down x) oneW) = (F + 1) * 2 ^ 1074
  e : Ieee.double.sub x (aX (wholeW .down x) oneW) = some (lX x (aX (wholeW .down x) oneW))
  ef : FinW (lX x (aX (wholeW .down x) oneW))
  ev : V (lX x (aX (wholeW .down x) oneW)) = RN (V x - (F + 1) * 2 ^ 1074)
theorem fdiv_le {v : Int} {k M : Nat} (hM : M = k + 1074) (h : v.natAbs ≤ 2 ^ M) : (v / 2 ^ 1074).natAbs ≤ 2 ^ k + 1 := by
  rw [hM] at h
  have hp : (0 : Int) < 2 ^ 1074 := Int.pow_pos (by omega)
  have a := Int.mul_ediv_add_emod v (2 ^ 1074)
  have b := Int.emod_nonneg v (show (2 : Int) ^ 1074 ≠ 0 by omega)
  have c := Int.emod_lt_of_pos v hp
  have e : ((2 ^ (k + 1074) : Nat) : Int) = 2 ^ k * 2 ^ 1074 := by rw [Int.natCast_pow, ← Int.pow_add]; rfl
  have ek : ((2 ^ k : Nat) : Int) = 2 ^ k := Int.natCast_pow 2 k
  have h1 : v ≤ 2 ^ k * 2 ^ 1074 := by omega
  have h2 : -(2 ^ k * 2 ^ 1074) ≤ v := by omega
  generalize (2 : Int) ^ 1074 = T at *
  generalize (2 : Int) ^ k = K at *
  generalize v / T = q at *
  generalize v % T = m at *
  have q1 : q ≤ K := by
    refine Int.not_lt.1 fun c' => ?_
    have := Int.mul_le_mul_of_nonneg_right (show K + 1 ≤ q by omega) (show 0 ≤ T by omega)
    rw [Int.add_mul, Int.one_mul] at this
    rw [Int.mul_comm q T] at this
    omega
  have q2 : -(K + 1) ≤ q := by
    refine Int.not_lt.1 fun c' => ?_
    have := Int.mul_le_mul_of_nonneg_right (show q ≤ -(K + 2) by omega) (show 0 ≤ T by omega)
    rw [Int.neg_mul, Int.add_mul] at this
    rw [Int.mul_comm q T] at this
    omega
  omega
theorem whole_rep {F : Int} (h : F.natAbs ≤ 2 ^ 53) : Rep (F * 2 ^ 1074) := Rep_mul F 1074 (Rep_small h)
theorem pow_as {n a b : Nat} (h : n ≤ 2 ^ a) (e : a = b) : n ≤ 2 ^ b := e ▸ h
theorem cap_pow {n k D M : Nat} (hM : M = k + D) (h : n ≤ 2 ^ k) : n * 2 ^ D ≤ 2 ^ M := by subst hM; exact mul_pow h D
theorem flw_of {x : Nat} (h : Lft x) : ∃ F, F = V x / 2 ^ 1074 ∧ F.natAbs ≤ 2 ^ 51 ∧ FlW x F := by
  obtain ⟨f1, f2⟩ := floor_spec h.fin (Nat.le_trans h.abs (two_le (a := 1124) (b := 1126) (by omega)))
  have fb := fdiv_le (k := 50) (M := 1124) (v := V x) rfl h.abs
  obtain ⟨F, hF⟩ : ∃ F, F = V x / 2 ^ 1074 := ⟨_, rfl⟩
  rw [← hF] at f2 fb
  have F51 : F.natAbs ≤ 2 ^ 51 := by
    have : (2 : Nat) ^ 50 + 1 ≤ 2 ^ 51 := by decide
    omega
  have bf : (V (wholeW .down x)).natAbs ≤ 2 ^ 1125 := by
    rw [f2, Int.natAbs_mul, Int.natAbs_pow, show (2 : Int).natAbs = 2 from rfl]
    exact cap_pow (k := 51) (D := 1074) (M := 1125) rfl F51
  obtain ⟨a1, a2, a3, a4⟩ := sub_ok (i := 1125) (k := 1126) h.fin f1 (Nat.le_trans h.abs (two_le (a := 1124) (b := 1125) (by omega))) bf rfl (by omega)
  obtain ⟨r, b1, b2, b3, b4⟩ := addW (k := 1125) f1 one_wd.fin bf (Nat.le_trans one_wd.abs (two_le (a := 1074) (b := 1125) (by omega))) (by omega)
  have er : aX (wholeW .down x) oneW = r := by unfold aX; rw [b1]; rfl
  have v1 : V oneW = 1 * 2 ^ 1074 := by decide +kernel
  have ev : V (wholeW .down x) + V oneW = (F + 1) * 2 ^ 1074 := by rw [f2, v1, ← Int.add_mul]
  rw [ev, RN_exact (whole_rep (by have : (2 : Nat) ^ 51 + 1 ≤ 2 ^ 53 := by decide
                                  omega))] at b3
  rw [← er] at b1 b2 b3 b4
  obtain ⟨c1, c2, c3, -⟩ := sub_ok (i := 1126) (k := 1127) h.fin b2 (Nat.le_trans h.abs (two_le (a := 1124) (b := 1126) (by omega))) (pow_as (a := 1125 + 1) (b := 1126) b4 rfl) rfl (by omega)
  rw [f2] at a3
  rw [b3] at c3
  exact ⟨F, hF, F51, f1, f2, int_of f1 f2, a1, a2, a3, b1, b2, b3, c1, c2, c3⟩
/-- the test, as the words tell it -/
theorem frc_up {x : Nat} {F : Int} (h : Lft x) (hF : F = V x / 2 ^ 1074) (L : FlW x F) (t : hlf < V (lX x (wholeW .down x)) ∨ (V (lX x (wholeW .down x)) = hlf ∧ F % 2 = 1)) : Frc x (aX (lX x (aX (wholeW .down x) oneW)) 0) := by
  have m : V x - F * 2 ^ 1074 = V x % (2 * hlf) := by
    rw [hF, hlf_two, Int.emod_def, Int.mul_comm]
  rw [L.dv, m, hF, ← hlf_two] at t
  have k := (left_test (Rep_V x) h.dvd).1 t
  refine ⟨plus0_nz L.ef, ?_⟩
  rw [(plus0 L.ef).2.2, L.ev]
  have e : V x - (F + 1) * 2 ^ 1074 = rq hlf (V x) := by
    unfold rq
    rw [k, hlf_two, ← hF, Int.mul_comm]
  rw [e]
  exact RN_exact (left_rep (Rep_V x) h.dvd)
theorem frc_down {x : Nat} {F : Int} (h : Lft x) (hF : F = V x / 2 ^ 1074) (L : FlW x F) (t : ¬ (hlf < V (lX x (wholeW .down x)) ∨ (V (lX x (wholeW .down x)) = hlf ∧ F % 2 = 1))) : Frc x (aX (lX x (wholeW .down x)) 0) := by
  have m : V x - F * 2 ^ 1074 = V x % (2 * hlf) := by
    rw [hF, hlf_two, Int.emod_def, Int.mul_comm]
  rw [L.dv, m, hF, ← hlf_two] at t
  have k := left_else (fun q => t ((left_test (Rep_V x) h.dvd).2 q))
  refine ⟨plus0_nz L.df, ?_⟩
  rw [(plus0 L.df).2.2, L.dv]
  have e : V x - F * 2 ^ 1074 = rq hlf (V x) := by
    unfold rq
    rw [k, hlf_two, ← hF, Int.mul_comm]
  rw [e]
  exact RN_exact (left_rep (Rep_V x) h.dvd)
/-- whole numbers more leave the same -/
theorem Frc.more {x y r : Nat} {N : Int} (h : Frc x r) (hn : V r ≠ hlf ∧ V r ≠ -hlf) (e : V y = V x + N * 2 ^ 1074) : Frc y r := by
  refine ⟨h.nz, ?_⟩
  rw [h.v] at hn
  rw [e, (left_more hn).1, h.v]
end Go.Proofs.Ytkpdnhbifokhlaa

namespace Fma
open Go.Proofs.Ytkpdnhbifokhlaa Pol

end Fma
