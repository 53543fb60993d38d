/- Proved here: what the texts Mgn, Pol, Pch, Pcr, Pwd, Vmt prove, one behind the other. -/
import Derived.Test.YtgnofnjbmiepjaaGreatJm

namespace Ieee.Own

def dz (n : Nat) : Nat := max (dr n) 1074
def rz (n : Nat) : Nat := rne n (dz n) * 2 ^ (dz n - 1074)
def RZ (z : Int) : Int := if z < 0 then -(rz z.natAbs : Int) else (rz z.natAbs : Int)

theorem div_cap {n k d : Nat} (h : n < 2 ^ (k + d)) : n / 2 ^ d < 2 ^ k := by
 rw [Nat.div_lt_iff_lt_mul (Nat.two_pow_pos d), ← Nat.pow_add]; exact h
theorem rz_range (n : Nat) : rne n (dz n) ≤ 2 ^ 53 ∧ (0 < dz n - 1074 → 2 ^ 52 ≤ rne n (dz n)) := by
 by_cases h : dr n ≤ 1074
 · have e : dz n = 1074 := by unfold dz; omega
   rw [e]
   refine ⟨?_, fun h => by omega⟩
   have b := rne_bounds n 1074
   have := div_cap (k := 53) (Nat.lt_of_lt_of_le (dr_lt n) (Nat.pow_le_pow_right (by omega) (show 53 + dr n ≤ 53 + 1074 by omega)))
   omega
 · have e : dz n = dr n := by unfold dz; omega
   rw [e]
   exact ⟨(rne_range n).1, fun h => (rne_range n).2 (by omega)⟩

theorem nearest_rz (s : Bool) (m : Nat) (place : Int) (n a c : Nat) (hm : m * 2 ^ a = n * 2 ^ c) (hp : place = -2148 + a - c) (hn : rz n < 2 ^ 2098) :
 ∃ r, r < 9218868437227405312 ∧ double.nearest s m place = double.word s r ∧ val 52 r = rz n := by
 by_cases h0 : m = 0
 · subst h0
   have : n = 0 := by
    have hc := Nat.two_pow_pos c
    rcases Nat.mul_eq_zero.1 (by omega : n * 2 ^ c = 0) with h | h <;> omega
   subst this
   refine ⟨0, by omega, by unfold Format.nearest; rw [if_pos rfl], ?_⟩
   rw [val_zero]
   have : rne 0 (dz 0) = 0 := by simpa using rne_exact 0 (dz 0)
   unfold rz
   rw [this, Nat.zero_mul]
 have hn0 : n ≠ 0 := by
  intro h; subst h
  have ha := Nat.two_pow_pos a
  rcases Nat.mul_eq_zero.1 (by omega : m * 2 ^ a = 0) with h | h <;> omega
 have hlog : m.log2 + a = n.log2 + c := by rw [← log2_shift m a h0, hm, log2_shift n c hn0]
 have hlast : max (place + m.log2 - double.fractionBits) double.leastPlace = -2148 + dz n := by
  rw [frac64', least64']; unfold dz dr; omega
 have hk : Toward.even.cut s (m <<< (place - (-2148 + dz n)).toNat) (-2148 + dz n - place).toNat = rne n (dz n) := by
  rw [Nat.shiftLeft_eq, cut_rne]
  generalize dz n = d at *
  by_cases hac : d + c ≤ a
  · have e1 : (place - (-2148 + (d : Int))).toNat = a - (d + c) := by omega
    have e2 : (-2148 + (d : Int) - place).toNat = 0 := by omega
    rw [e1, e2]
    have hq : n = (m * 2 ^ (a - (d + c))) * 2 ^ d := by
        have h2 : 2 ^ a = 2 ^ (a - (d + c)) * 2 ^ d * 2 ^ c := by rw [← Nat.pow_add, ← Nat.pow_add]; congr 1; omega
        rw [h2, ← Nat.mul_assoc, ← Nat.mul_assoc] at hm
        exact (Nat.eq_of_mul_eq_mul_right (Nat.two_pow_pos c) hm).symm
    have g1 : rne n d = m * 2 ^ (a - (d + c)) := by rw [hq]; exact rne_exact _ d
    rw [g1]
    have := rne_exact (m * 2 ^ (a - (d + c))) 0
    simpa using this
  · have e1 : (place - (-2148 + (d : Int))).toNat = 0 := by omega
    have e2 : (-2148 + (d : Int) - place).toNat = d + c - a := by omega
    rw [e1, e2, Nat.pow_zero, Nat.mul_one, ← rne_scale n d c, ← hm, ← rne_scale m (d + c - a) a]
    congr 1; omega
 have hv : val 52 ((dz n - 1074) * 2 ^ 52 + rne n (dz n)) = rz n := rung_val _ _ (rz_range n).1 (rz_range n).2
 have hr : (dz n - 1074) * 2 ^ 52 + rne n (dz n) < 9218868437227405312 := by
  rw [← val_lt_iff 52, hv, top64']; exact hn
 refine ⟨(dz n - 1074) * 2 ^ 52 + rne n (dz n), hr, ?_, hv⟩
 have hd : 1074 ≤ dz n := by unfold dz; omega
 unfold Format.nearest
 rw [if_neg h0]
 dsimp only
 rw [hlast, hk, least64', show (-2148 + (dz n : Int) - -1074).toNat = dz n - 1074 by omega, inf64]
 rw [show double.binade = 2 ^ 52 from rfl, Nat.min_eq_left (Nat.le_of_lt hr)]

theorem RZ_abs (z : Int) : (RZ z).natAbs = rz z.natAbs := by unfold RZ; split <;> omega
theorem rz_zero : rz 0 = 0 := by
 have : rne 0 (dz 0) = 0 := by simpa using rne_exact 0 (dz 0)
 unfold rz
 rw [this, Nat.zero_mul]
theorem mul_gen {a b : Nat} (ha : FinW a) (hb : FinW b) (h : rz (V a * V b).natAbs < 2 ^ 2098) :
 ∃ r, double.mul a b = some r ∧ FinW r ∧ V r = RZ (V a * V b) := by
 obtain ⟨s, m, p, hr, hV, -⟩ := read_sv ha
 obtain ⟨t, n, q, hr', hV', -⟩ := read_sv hb
 unfold Format.mul
 rw [hr, hr']
 simp only [Datum.product, Option.map]
 rw [hV, hV', sv_mul] at h ⊢
 have hNa : m * n * 2 ^ (p + q) = (sv (s ^^ t) (m * n) (p + q)).natAbs * 2 ^ 0 := by
  rw [sv_abs, Nat.pow_zero, Nat.mul_one]
 obtain ⟨r, h1, h2, h3⟩ := nearest_rz (s ^^ t) (m * n) (-1074 + (p : Int) + (-1074 + (q : Int))) _ (p + q) 0 hNa (by clear hNa h; omega) h
 refine ⟨double.word (s ^^ t) r, by simp only [Format.write]; rw [h2], (V_word _ r h1).1, ?_⟩
 rw [(V_word _ r h1).2, h3]
 have hs := sv_sign (s ^^ t) (m * n) (p + q)
 generalize sv (s ^^ t) (m * n) (p + q) = S at *
 cases hst : s ^^ t
 · rw [hst] at hs
   simp only [Bool.false_eq_true, if_false]
   have := hs.2 rfl
   unfold RZ; rw [if_neg (by omega)]
 · rw [hst] at hs
   simp only [if_true]
   have := hs.1 rfl
   by_cases h0 : S = 0
   · subst h0; unfold RZ; simp [rz_zero]
   · unfold RZ; rw [if_pos (by omega)]

end Ieee.Own

namespace Pol
open Go.Proofs.YtgnofnjbmiepjaaGreat

def mag (a : Rat) : Rat := if 0 ≤ a then a else -a
def hv (x : Rat) : List Rat → Rat
 | [] => 0
 | a :: al => a + x * hv x al
end Pol

namespace Pol
open Go.Proofs.YtgnofnjbmiepjaaGreat

def sm : List Rat → Rat
 | [] => 0
 | a :: al => mag a + sm al
end Pol

namespace Pol
open Go.Proofs.YtgnofnjbmiepjaaGreat

end Pol

namespace Ieee.Own
theorem rne_cap {n d k : Nat} (h : n ≤ 2 ^ (k + d)) : rne n d ≤ 2 ^ k := by
 rw [Nat.pow_add] at h
 have := rne_mono d h
 rwa [rne_exact] at this
theorem rz_cap {n k : Nat} (h : n ≤ 2 ^ (k + 1074)) : rz n ≤ 2 ^ k := by
 have h1 : dr n ≤ k + 1074 := by
  have : n < 2 ^ (53 + (k + 1074)) := Nat.lt_of_le_of_lt h (Nat.pow_lt_pow_right (by omega) (by omega))
  exact dr_of_lt this
 have h2 : dz n ≤ k + 1074 := by unfold dz; omega
 have h3 : 1074 ≤ dz n := by unfold dz; omega
 unfold rz
 generalize dz n = d at *
 have c := rne_cap (n := n) (d := d) (k := k + 1074 - d) (by rwa [show k + 1074 - d + d = k + 1074 by omega])
 have := Nat.mul_le_mul_right (2 ^ (d - 1074)) c
 rwa [← Nat.pow_add, show k + 1074 - d + (d - 1074) = k by omega] at this
theorem mulB {a b i j k : Nat} (ha : FinW a) (hb : FinW b) (xa : (V a).natAbs ≤ 2 ^ i) (xb : (V b).natAbs ≤ 2 ^ j) (e : i + j = k + 1074) (hk : k < 2098) :
 ∃ r, double.mul a b = some r ∧ FinW r ∧ V r = RZ (V a * V b) ∧ (V r).natAbs ≤ 2 ^ k := by
 have c : (V a * V b).natAbs ≤ 2 ^ (k + 1074) := by
  rw [Int.natAbs_mul, ← e, Nat.pow_add]
  exact Nat.mul_le_mul xa xb
 have z := rz_cap c
 obtain ⟨r, h1, h2, h3⟩ := mul_gen ha hb (Nat.lt_of_le_of_lt z (two_lt (a := k) (b := 2098) hk))
 exact ⟨r, h1, h2, h3, by rw [h3, RZ_abs]; exact z⟩
end Ieee.Own
namespace Go.Proofs.YtgnofnjbmiepjaaGreat
open Ieee.Own Pol

def uR : Rat := mkRat 1 (2^53)
end Go.Proofs.YtgnofnjbmiepjaaGreat

namespace Pol
open Go.Proofs.YtgnofnjbmiepjaaGreat

end Pol
