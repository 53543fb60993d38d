/- Proved here: what the texts Mgn, Pol, Pch, Pcr, Pwd, Vck, Uck, Uqr, Ufc, Unr, Unb prove, one behind the other. -/
import Derived.Test.YtacinenddnfcbaaGreatJy1
import Derived.Test.YtacinenddnfcbaaGreatJy2
import Derived.Test.YtacinenddnfcbaaGreatJy4
import Derived.Test.YtacinenddnfcbaaGreatJy3
import Derived.Deep.MidRow
import Derived.Deep.WholeRow
import Derived.Laws.IdiomCopy
import Derived.BigQuiet

set_option maxRecDepth 100000
set_option maxHeartbeats 1000000
namespace Ieee.Own

def dz (n : Nat) : Nat := max (dr n) 1074
def rz (n : Nat) : Nat := rne n (dz n) * 2 ^ (dz n - 1074)
def RZ (z : Int) : Int := if z < 0 then -(rz z.natAbs : Int) else (rz z.natAbs : Int)

theorem div_cap {n k d : Nat} (h : n < 2 ^ (k + d)) : n / 2 ^ d < 2 ^ k := by
 rw [Nat.div_lt_iff_lt_mul (Nat.two_pow_pos d), ← Nat.pow_add]; exact h
theorem shift_pow {x d k : Nat} (h : k ≤ d) : x * 2 ^ (d - k) * 2 ^ k = x * 2 ^ d := by
 rw [Nat.mul_assoc, ← Nat.pow_add, Nat.sub_add_cancel h]
theorem pow_same {d k : Nat} (h : d = k) : 2 ^ d = 2 ^ k := by rw [h]
theorem cast_pow (x k : Nat) : ((x * 2 ^ k : Nat) : Int) = (x : Int) * 2 ^ k := by rw [Int.natCast_mul, Int.natCast_pow]; rfl
theorem rz_range (n : Nat) : rne n (dz n) ≤ 2 ^ 53 ∧ (0 < dz n - 1074 → 2 ^ 52 ≤ rne n (dz n)) := by
 by_cases h : dr n ≤ 1074
 · have e : dz n = 1074 := by unfold dz; omega
   rw [e]
   refine ⟨?_, fun h => by omega⟩
   have b := rne_bounds n 1074
   have := div_cap (k := 53) (Nat.lt_of_lt_of_le (dr_lt n) (Nat.pow_le_pow_right (by omega) (show 53 + dr n ≤ 53 + 1074 by omega)))
   omega
 · have e : dz n = dr n := by unfold dz; omega
   rw [e]
   exact ⟨(rne_range n).1, fun h => (rne_range n).2 (by omega)⟩

theorem nearest_rz (s : Bool) (m : Nat) (place : Int) (n a c : Nat) (hm : m * 2 ^ a = n * 2 ^ c) (hp : place = -2148 + a - c) (hn : rz n < 2 ^ 2098) :
 ∃ r, r < 9218868437227405312 ∧ double.nearest s m place = double.word s r ∧ val 52 r = rz n := by
 by_cases h0 : m = 0
 · subst h0
   have : n = 0 := by
    have hc := Nat.two_pow_pos c
    rcases Nat.mul_eq_zero.1 (by omega : n * 2 ^ c = 0) with h | h <;> omega
   subst this
   refine ⟨0, by omega, by unfold Format.nearest; rw [if_pos rfl], ?_⟩
   rw [val_zero]
   have : rne 0 (dz 0) = 0 := by simpa using rne_exact 0 (dz 0)
   unfold rz
   rw [this, Nat.zero_mul]
 have hn0 : n ≠ 0 := by
  intro h; subst h
  have ha := Nat.two_pow_pos a
  rcases Nat.mul_eq_zero.1 (by omega : m * 2 ^ a = 0) with h | h <;> omega
 have hlog : m.log2 + a = n.log2 + c := by rw [← log2_shift m a h0, hm, log2_shift n c hn0]
 have hlast : max (place + m.log2 - double.fractionBits) double.leastPlace = -2148 + dz n := by
  rw [frac64', least64']; unfold dz dr; omega
 have hk : Toward.even.cut s (m <<< (place - (-2148 + dz n)).toNat) (-2148 + dz n - place).toNat = rne n (dz n) := by
  rw [Nat.shiftLeft_eq, cut_rne]
  generalize dz n = d at *
  by_cases hac : d + c ≤ a
  · have e1 : (place - (-2148 + (d : Int))).toNat = a - (d + c) := by omega
    have e2 : (-2148 + (d : Int) - place).toNat = 0 := by omega
    rw [e1, e2]
    have hq : n = (m * 2 ^ (a - (d + c))) * 2 ^ d := by
        have h2 : 2 ^ a = 2 ^ (a - (d + c)) * 2 ^ d * 2 ^ c := by rw [← Nat.pow_add, ← Nat.pow_add]; congr 1; omega
        rw [h2, ← Nat.mul_assoc, ← Nat.mul_assoc] at hm
        exact (Nat.eq_of_mul_eq_mul_right (Nat.two_pow_pos c) hm).symm
    have g1 : rne n d = m * 2 ^ (a - (d + c)) := by rw [hq]; exact rne_exact _ d
    rw [g1]
    have := rne_exact (m * 2 ^ (a - (d + c))) 0
    simpa using this
  · have e1 : (place - (-2148 + (d : Int))).toNat = 0 := by omega
    have e2 : (-2148 + (d : Int) - place).toNat = d + c - a := by omega
    rw [e1, e2, Nat.pow_zero, Nat.mul_one, ← rne_scale n d c, ← hm, ← rne_scale m (d + c - a) a]
    congr 1; omega
 have hv : val 52 ((dz n - 1074) * 2 ^ 52 + rne n (dz n)) = rz n := rung_val _ _ (rz_range n).1 (rz_range n).2
 have hr : (dz n - 1074) * 2 ^ 52 + rne n (dz n) < 9218868437227405312 := by
  rw [← val_lt_iff 52, hv, top64']; exact hn
 refine ⟨(dz n - 1074) * 2 ^ 52 + rne n (dz n), hr, ?_, hv⟩
 have hd : 1074 ≤ dz n := by unfold dz; omega
 unfold Format.nearest
 rw [if_neg h0]
 dsimp only
 rw [hlast, hk, least64', show (-2148 + (dz n : Int) - -1074).toNat = dz n - 1074 by omega, inf64]
 rw [show double.binade = 2 ^ 52 from rfl, Nat.min_eq_left (Nat.le_of_lt hr)]

theorem RZ_abs (z : Int) : (RZ z).natAbs = rz z.natAbs := by unfold RZ; split <;> omega
theorem rz_zero : rz 0 = 0 := by
 have : rne 0 (dz 0) = 0 := by simpa using rne_exact 0 (dz 0)
 unfold rz
 rw [this, Nat.zero_mul]
theorem mul_gen {a b : Nat} (ha : FinW a) (hb : FinW b) (h : rz (V a * V b).natAbs < 2 ^ 2098) :
 ∃ r, double.mul a b = some r ∧ FinW r ∧ V r = RZ (V a * V b) := by
 obtain ⟨s, m, p, hr, hV, -⟩ := read_sv ha
 obtain ⟨t, n, q, hr', hV', -⟩ := read_sv hb
 unfold Format.mul
 rw [hr, hr']
 simp only [Datum.product, Option.map]
 rw [hV, hV', sv_mul] at h ⊢
 have hNa : m * n * 2 ^ (p + q) = (sv (s ^^ t) (m * n) (p + q)).natAbs * 2 ^ 0 := by
  rw [sv_abs, Nat.pow_zero, Nat.mul_one]
 obtain ⟨r, h1, h2, h3⟩ := nearest_rz (s ^^ t) (m * n) (-1074 + (p : Int) + (-1074 + (q : Int))) _ (p + q) 0 hNa (by clear hNa h; omega) h
 refine ⟨double.word (s ^^ t) r, by simp only [Format.write]; rw [h2], (V_word _ r h1).1, ?_⟩
 rw [(V_word _ r h1).2, h3]
 have hs := sv_sign (s ^^ t) (m * n) (p + q)
 generalize sv (s ^^ t) (m * n) (p + q) = S at *
 cases hst : s ^^ t
 · rw [hst] at hs
   simp only [Bool.false_eq_true, if_false]
   have := hs.2 rfl
   unfold RZ; rw [if_neg (by omega)]
 · rw [hst] at hs
   simp only [if_true]
   have := hs.1 rfl
   by_cases h0 : S = 0
   · subst h0; unfold RZ; simp [rz_zero]
   · unfold RZ; rw [if_pos (by omega)]

theorem rz_err (n : Nat) : 2 * (rz n * 2 ^ 1074) ≤ 2 * n + 2 ^ dz n ∧ 2 * n ≤ 2 * (rz n * 2 ^ 1074) + 2 ^ dz n := by
 have e : rz n * 2 ^ 1074 = rne n (dz n) * 2 ^ dz n := shift_pow (x := rne n (dz n)) (d := dz n) (k := 1074) (by unfold dz; omega)
 rw [e]
 exact ⟨rne_up n _, rne_down n _⟩
theorem dz_le (n : Nat) : 2 ^ 52 * 2 ^ dz n ≤ n + 2 ^ 52 * 2 ^ 1074 := by
 by_cases h : dr n ≤ 1074
 · have e : dz n = 1074 := by unfold dz; omega
   have q := pow_same e
   rw [q]
   generalize 2 ^ 1074 = T
   omega
 · have e : dz n = dr n := by unfold dz; omega
   have c := dr_le n (by omega)
   rw [Nat.pow_add] at c
   rw [e]
   generalize 2 ^ 1074 = T
   generalize 2 ^ dr n = Y at *
   omega
theorem RZ_err (z : Int) : 2 ^ 53 * (RZ z * 2 ^ 1074 - z).natAbs ≤ z.natAbs + 2 ^ 52 * 2 ^ 1074 := by
 obtain ⟨a, b⟩ := rz_err z.natAbs
 have c := dz_le z.natAbs
 have key : (RZ z * 2 ^ 1074 - z).natAbs = ((rz z.natAbs * 2 ^ 1074 : Nat) - (z.natAbs : Nat) : Int).natAbs := by
  have e : ((rz z.natAbs * 2 ^ 1074 : Nat) : Int) = (rz z.natAbs : Int) * 2 ^ 1074 := cast_pow (rz z.natAbs) 1074
  rw [e]
  unfold RZ
  split
  · rw [Int.neg_mul]
    generalize (rz z.natAbs : Int) * 2 ^ 1074 = X
    omega
  · generalize (rz z.natAbs : Int) * 2 ^ 1074 = X
    omega
 rw [key]
 generalize rz z.natAbs * 2 ^ 1074 = X at *
 generalize 2 ^ dz z.natAbs = Y at *
 generalize 2 ^ 1074 = T at *
 omega
end Ieee.Own

namespace Pol
open Go.Proofs.YtacinenddnfcbaaGreat

def mag (a : Rat) : Rat := if 0 ≤ a then a else -a
theorem mag_le (a : Rat) : -mag a ≤ a ∧ a ≤ mag a ∧ 0 ≤ mag a := by
 unfold mag
 split <;> refine ⟨?_, ?_, ?_⟩ <;> grind
theorem mag_of {a M : Rat} (h : -M ≤ a) (h' : a ≤ M) : mag a ≤ M := by
 unfold mag
 split <;> grind
theorem mag_mul {x y B M : Rat} (hx : mag x ≤ B) (hy : mag y ≤ M) : mag (x * y) ≤ B * M := by
 have a := mag_le x
 have b := mag_le y
 have := abs_mul (x := x) (y := y) (B := B) (M := M) (by grind) (by grind) (by grind) (by grind)
 exact mag_of this.1 this.2
theorem mag_add {x y B M : Rat} (hx : mag x ≤ B) (hy : mag y ≤ M) : mag (x + y) ≤ B + M := by
 have a := mag_le x
 have b := mag_le y
 exact mag_of (by grind) (by grind)
theorem mag_sub {x y B M : Rat} (hx : mag x ≤ B) (hy : mag y ≤ M) : mag (x - y) ≤ B + M := by
 have a := mag_le x
 have b := mag_le y
 exact mag_of (by grind) (by grind)
theorem mag_neg (x : Rat) : mag (-x) = mag x := by
 unfold mag
 split <;> split <;> grind

def Rd (u t w v : Rat) : Prop := ∀ M, mag v ≤ M → mag (w - v) ≤ u * M + t

def hv (x : Rat) : List Rat → Rat
 | [] => 0
 | a :: al => a + x * hv x al
end Pol

namespace Pol
open Go.Proofs.YtacinenddnfcbaaGreat

theorem sq_nn (r : Rat) : 0 ≤ r * r := by
 rcases Rat.le_total (a := 0) (b := r) with h | h
 · exact Rat.mul_nonneg h h
 · have := Rat.mul_nonneg (show 0 ≤ -r by grind) (show 0 ≤ -r by grind)
   grind
def sm : List Rat → Rat
 | [] => 0
 | a :: al => mag a + sm al
end Pol

namespace Pol
open Go.Proofs.YtacinenddnfcbaaGreat

def ClA (u t x : Rat) : List Rat → Rat → Rat → Prop
 | [], b, d => b = 0 ∧ d = 0
 | a :: al, b, d => ∃ d' M N, ClA u t x al d d' ∧ Rd u t M (2 * x * d) ∧ Rd u 0 N (M - d') ∧ Rd u 0 b (N + a)
def ChA (u t x : Rat) : List Rat → Rat → Prop
 | [], p => p = 0
 | c :: cs, p => ∃ b d M N, ClA u t x cs b d ∧ Rd u t M (x * b) ∧ Rd u 0 N (M - d) ∧ Rd u 0 p (N + c)

end Pol

namespace Ieee.Own
theorem rne_cap {n d k : Nat} (h : n ≤ 2 ^ (k + d)) : rne n d ≤ 2 ^ k := by
 rw [Nat.pow_add] at h
 have := rne_mono d h
 rwa [rne_exact] at this
theorem rz_cap {n k : Nat} (h : n ≤ 2 ^ (k + 1074)) : rz n ≤ 2 ^ k := by
 have h1 : dr n ≤ k + 1074 := by
  have : n < 2 ^ (53 + (k + 1074)) := Nat.lt_of_le_of_lt h (Nat.pow_lt_pow_right (by omega) (by omega))
  exact dr_of_lt this
 have h2 : dz n ≤ k + 1074 := by unfold dz; omega
 have h3 : 1074 ≤ dz n := by unfold dz; omega
 unfold rz
 generalize dz n = d at *
 have c := rne_cap (n := n) (d := d) (k := k + 1074 - d) (by rwa [show k + 1074 - d + d = k + 1074 by omega])
 have := Nat.mul_le_mul_right (2 ^ (d - 1074)) c
 rwa [← Nat.pow_add, show k + 1074 - d + (d - 1074) = k by omega] at this
theorem mulB {a b i j k : Nat} (ha : FinW a) (hb : FinW b) (xa : (V a).natAbs ≤ 2 ^ i) (xb : (V b).natAbs ≤ 2 ^ j) (e : i + j = k + 1074) (hk : k < 2098) :
 ∃ r, double.mul a b = some r ∧ FinW r ∧ V r = RZ (V a * V b) ∧ (V r).natAbs ≤ 2 ^ k := by
 have c : (V a * V b).natAbs ≤ 2 ^ (k + 1074) := by
  rw [Int.natAbs_mul, ← e, Nat.pow_add]
  exact Nat.mul_le_mul xa xb
 have z := rz_cap c
 obtain ⟨r, h1, h2, h3⟩ := mul_gen ha hb (Nat.lt_of_le_of_lt z (two_lt (a := k) (b := 2098) hk))
 exact ⟨r, h1, h2, h3, by rw [h3, RZ_abs]; exact z⟩
end Ieee.Own
namespace Go.Proofs.YtacinenddnfcbaaGreat
open Ieee.Own Pol

theorem zeroF : FinW 0 := by unfold FinW; omega
theorem zeroV : V 0 = 0 := by decide +kernel
theorem cw_up {c k : Nat} (h : (V c).natAbs ≤ 2 ^ 1114) (hk : 1114 ≤ k) : (V c).natAbs ≤ 2 ^ k := Nat.le_trans h (two_le (a := 1114) (b := k) hk)
theorem zero_cap (k : Nat) : (V 0).natAbs ≤ 2 ^ k := by rw [zeroV]; exact Nat.zero_le _
def lX (a b : Nat) : Nat := (Ieee.double.sub a b).getD 0
def uR : Rat := mkRat 1 (2^53)
def tR : Rat := 1 / unit
theorem uR0 : 0 ≤ uR := by decide +kernel
theorem uR1 : 1000000 * uR ≤ 1 := by decide +kernel
theorem tR0 : 0 ≤ tR := by decide +kernel
theorem rd_of {w v : Rat} (h : Rld w v) : Rd uR 0 w v := by
 intro M hM
 have a := mag_le v
 have := h M (by grind) (by grind)
 have e : M * mkRat 1 (2^53) = uR * M := Rat.mul_comm _ _
 rw [e] at this
 exact mag_of (by grind) (by grind)
theorem Q_times (a b : Nat) : Q a * Q b = ((V a * V b : Int) : Rat) / unit / unit := by
 unfold Q
 rw [Rat.intCast_mul]
 simp only [Rat.div_def]
 grind
theorem unit_cast : ((2 ^ 1074 : Int) : Rat) = unit := by decide +kernel
theorem pow_int (k : Nat) : (2 : Int) ^ k = ((2 ^ k : Nat) : Int) := by rw [Int.natCast_pow]; rfl
theorem err_aux {w p t : Int} {T : Nat} (ht : t = (T : Int)) (h : 2 ^ 53 * (w * t - p).natAbs ≤ p.natAbs + 2 ^ 52 * T) :
 2 ^ 53 * (w * t - p) ≤ (p.natAbs : Int) + 2 ^ 52 * t ∧ 2 ^ 53 * (p - w * t) ≤ (p.natAbs : Int) + 2 ^ 52 * t := by
 subst ht
 generalize w * (T : Int) = X at *
 omega
theorem rd_mul {a b r : Nat} (h : V r = RZ (V a * V b)) : Rd uR tR (Q r) (Q a * Q b) := by
 intro M hM
 have er := RZ_err (V a * V b)
 rw [← h] at er
 rw [Q_times] at hM ⊢
 generalize V a * V b = P at *
 have hu := unit_pos
 obtain ⟨e1, e2⟩ := err_aux (w := V r) (p := P) (t := 2 ^ 1074) (T := 2 ^ 1074) (pow_int 1074) er
 have b1 := Rat.intCast_le_intCast.2 e1
 have b2 := Rat.intCast_le_intCast.2 e2
 rw [Rat.intCast_mul, Rat.intCast_sub, Rat.intCast_add, Rat.intCast_mul, Rat.intCast_mul, unit_cast] at b1 b2
 have k53 : ((2 ^ 53 : Int) : Rat) = 9007199254740992 := by decide +kernel
 have k52 : ((2 ^ 52 : Int) : Rat) = 4503599627370496 := by decide +kernel
 rw [k53, k52] at b1 b2
 clear er e1 e2 h
 -- the magnitude
 have c : ((P.natAbs : Int) : Rat) ≤ M * unit * unit := by
  have a := mag_le ((P : Rat) / unit / unit)
  have m1 : (P : Rat) / unit / unit ≤ M := by grind
  have m2 : -M ≤ (P : Rat) / unit / unit := by grind
  have n1 := Rat.mul_le_mul_of_nonneg_right (Rat.mul_le_mul_of_nonneg_right m1 (Rat.le_of_lt hu)) (Rat.le_of_lt hu)
  have n2 := Rat.mul_le_mul_of_nonneg_right (Rat.mul_le_mul_of_nonneg_right m2 (Rat.le_of_lt hu)) (Rat.le_of_lt hu)
  rw [mul_unit, mul_unit] at n1 n2
  rcases (by omega : (P.natAbs : Int) = P ∨ (P.natAbs : Int) = -P) with h | h
  · rw [h]; exact n1
  · rw [h, Rat.intCast_neg]; grind
 have d1 := div_le (div_le (show 9007199254740992 * ((V r : Rat) * unit - P) ≤ M * unit * unit + 4503599627370496 * unit by grind))
 have d2 := div_le (div_le (show 9007199254740992 * (P - (V r : Rat) * unit) ≤ M * unit * unit + 4503599627370496 * unit by grind))
 have s0 : (M * unit * unit + 4503599627370496 * unit) / unit / unit = M + 4503599627370496 * tR := by
  have e : M * unit * unit + 4503599627370496 * unit = (M * unit + 4503599627370496) * unit := by grind
  rw [e, unit_div]
  unfold tR
  simp only [Rat.div_def]
  have : M * unit * unit⁻¹ = M := by
   have := unit_div (x := M)
   rwa [Rat.div_def] at this
  grind
 have s1 : 9007199254740992 * ((V r : Rat) * unit - P) / unit / unit = 9007199254740992 * (Q r - (P : Rat) / unit / unit) := by
  unfold Q
  have : (V r : Rat) * unit * unit⁻¹ = V r := by
   have := unit_div (x := (V r : Rat))
   rwa [Rat.div_def] at this
  simp only [Rat.div_def]
  grind
 have s2 : 9007199254740992 * (P - (V r : Rat) * unit) / unit / unit = 9007199254740992 * ((P : Rat) / unit / unit - Q r) := by
  unfold Q
  have : (V r : Rat) * unit * unit⁻¹ = V r := by
   have := unit_div (x := (V r : Rat))
   rwa [Rat.div_def] at this
  simp only [Rat.div_def]
  grind
 rw [s0, s1] at d1
 rw [s0, s2] at d2
 have u53 : uR = 1 / 9007199254740992 := by decide +kernel
 have t0 := tR0
 rw [u53]
 exact mag_of (by grind) (by grind)

structure Cw (c : Nat) : Prop where
 fin : FinW c
 bd : (V c).natAbs ≤ 2 ^ 1114
def clW (x : Nat) : List Nat → Nat × Nat
 | [] => (0, 0)
 | a :: al => (aX (lX (mX (aX x x) (clW x al).1) (clW x al).2) a, (clW x al).1)
def chW (x : Nat) : List Nat → Nat
 | [] => 0
 | c :: cs => aX (lX (mX x (clW x cs).1) (clW x cs).2) c
theorem dbl_wd {x : Nat} (fx : FinW x) (bx : (V x).natAbs ≤ 2 ^ 1074) : Ieee.double.add x x = some (aX x x) ∧ FinW (aX x x) ∧ V (aX x x) = 2 * V x ∧ (V (aX x x)).natAbs ≤ 2 ^ (1074 + 1) := by
 obtain ⟨r, h1, h2, h3, h4⟩ := addW fx fx bx bx (by omega)
 have e : aX x x = r := by unfold aX; rw [h1]; rfl
 rw [e]
 refine ⟨h1, h2, ?_, h4⟩
 rw [h3, show V x + V x = V x * 2 ^ 1 by omega, RN_scale, RN_exact (Rep_V x)]
 omega
theorem Q_dbl {a b : Nat} (h : V a = 2 * V b) : Q a = 2 * Q b := by
 unfold Q; rw [h, Rat.intCast_mul]; simp only [Rat.div_def]
 rw [show ((2 : Int) : Rat) = 2 from rfl, Rat.mul_assoc]
structure Cl2 (x a : Nat) (b d : Nat) : Prop where
 m : Ieee.double.mul (aX x x) b = some (mX (aX x x) b)
 l : Ieee.double.sub (mX (aX x x) b) d = some (lX (mX (aX x x) b) d)
 s : Ieee.double.add (lX (mX (aX x x) b) d) a = some (aX (lX (mX (aX x x) b) d) a)
theorem cl_wd {x : Nat} (fx : FinW x) (bx : (V x).natAbs ≤ 2 ^ 1074) : ∀ (al : List Nat), (∀ c ∈ al, Cw c) → al.length ≤ 16 →
 (FinW (clW x al).1 ∧ (V (clW x al).1).natAbs ≤ 2 ^ (1115 + 3 * al.length)) ∧ (FinW (clW x al).2 ∧ (V (clW x al).2).natAbs ≤ 2 ^ (1115 + 3 * al.length)) ∧ ClA uR tR (Q x) (al.map Q) (Q (clW x al).1) (Q (clW x al).2) ∧
 (∀ a bl, al = a :: bl → Cl2 x a (clW x bl).1 (clW x bl).2)
 | [], _, _ => by
   have z : ∀ k, FinW 0 ∧ (V 0).natAbs ≤ 2 ^ k := fun k => ⟨zeroF, zero_cap k⟩
   exact ⟨z (1115 + 3 * ([] : List Nat).length), z (1115 + 3 * ([] : List Nat).length), ⟨by show Q 0 = 0; decide +kernel, by show Q 0 = 0; decide +kernel⟩, fun a bl h => by cases h⟩
 | a :: al, hc, hl => by
   have hl' : al.length ≤ 15 := by simp at hl; omega
   obtain ⟨⟨f, b⟩, ⟨g, e⟩, H, -⟩ := cl_wd fx bx al (fun c h => hc c (List.mem_cons_of_mem _ h)) (by omega)
   have ca := hc a (List.mem_cons_self ..)
   obtain ⟨-, fd, vd, bd⟩ := dbl_wd fx bx
   obtain ⟨M, m1, m2, m3, m4⟩ := mulB (k := 1116 + 3 * al.length) fd f bd b (by omega) (by omega)
   have eM : mX (aX x x) (clW x al).1 = M := by unfold mX; rw [m1]; rfl
   obtain ⟨l, l1, l2, l3, l4⟩ := subW (k := 1116 + 3 * al.length) m2 g m4 (Nat.le_trans e (two_le (by omega))) (by omega)
   have eL : lX M (clW x al).2 = l := by unfold lX; rw [l1]; rfl
   obtain ⟨s, s1, s2, s3, s4⟩ := addW (k := 1116 + 3 * al.length + 1) l2 ca.fin l4 (cw_up ca.bd (by omega)) (by omega)
   have eS : (clW x (a :: al)).1 = s := by show aX (lX (mX (aX x x) (clW x al).1) (clW x al).2) a = s; rw [eM, eL]; unfold aX; rw [s1]; rfl
   have eT : (clW x (a :: al)).2 = (clW x al).1 := rfl
   rw [eS, eT]
   refine ⟨⟨s2, ?_⟩, ⟨f, Nat.le_trans b (two_le (by simp; omega))⟩, ⟨Q (clW x al).2, Q M, Q l, H, ?_, rd_of (sub_rel l3), rd_of (add_rel s3)⟩, fun a' bl h => ?_⟩
   · rw [show 1115 + 3 * (a :: al).length = 1116 + 3 * al.length + 1 + 1 by simp; omega]; exact s4
   · have := rd_mul m3
     rwa [Q_dbl vd] at this
   · obtain ⟨rfl, rfl⟩ := List.cons.inj h
     refine ⟨by rw [eM]; exact m1, by rw [eM, eL]; exact l1, ?_⟩
     rw [eM, eL, s1]
     show some s = some (aX l a)
     unfold aX; rw [s1]; rfl
theorem ch_wd {x : Nat} (fx : FinW x) (bx : (V x).natAbs ≤ 2 ^ 1074) (al : List Nat) (hc : ∀ c ∈ al, Cw c) (hl : al.length ≤ 16) :
 FinW (chW x al) ∧ (V (chW x al)).natAbs ≤ 2 ^ 1200 ∧ ChA uR tR (Q x) (al.map Q) (Q (chW x al)) ∧
 (∀ a bl, al = a :: bl → Ieee.double.mul x (clW x bl).1 = some (mX x (clW x bl).1) ∧ Ieee.double.sub (mX x (clW x bl).1) (clW x bl).2 = some (lX (mX x (clW x bl).1) (clW x bl).2) ∧ Ieee.double.add (lX (mX x (clW x bl).1) (clW x bl).2) a = some (chW x al)) := by
 cases al with
 | nil =>
   refine ⟨zeroF, zero_cap 1200, ?_, fun a bl h => by cases h⟩
   show Q 0 = 0
   decide +kernel
 | cons a al =>
   have hl' : al.length ≤ 15 := by simp at hl; omega
   obtain ⟨⟨f, b⟩, ⟨g, e⟩, H, -⟩ := cl_wd fx bx al (fun c h => hc c (List.mem_cons_of_mem _ h)) (by omega)
   have ca := hc a (List.mem_cons_self ..)
   obtain ⟨M, m1, m2, m3, m4⟩ := mulB (k := 1115 + 3 * al.length) fx f bx b (by omega) (by omega)
   have eM : mX x (clW x al).1 = M := by unfold mX; rw [m1]; rfl
   obtain ⟨l, l1, l2, l3, l4⟩ := subW (k := 1115 + 3 * al.length) m2 g m4 e (by omega)
   have eL : lX M (clW x al).2 = l := by unfold lX; rw [l1]; rfl
   obtain ⟨s, s1, s2, s3, s4⟩ := addW (k := 1115 + 3 * al.length + 1) l2 ca.fin l4 (cw_up ca.bd (by omega)) (by omega)
   have eS : chW x (a :: al) = s := by show aX (lX (mX x (clW x al).1) (clW x al).2) a = s; rw [eM, eL]; unfold aX; rw [s1]; rfl
   rw [eS]
   refine ⟨s2, Nat.le_trans s4 (two_le (a := 1115 + 3 * al.length + 1 + 1) (b := 1200) (by omega)), ⟨Q (clW x al).1, Q (clW x al).2, Q M, Q l, H, rd_mul m3, rd_of (sub_rel l3), rd_of (add_rel s3)⟩, fun a' bl h => ?_⟩
   obtain ⟨rfl, rfl⟩ := List.cons.inj h
   rw [eM, eL]
   exact ⟨m1, l1, s1⟩
end Go.Proofs.YtacinenddnfcbaaGreat

namespace Go.Proofs.YtacinenddnfcbaaGreat
open Go.ChangeShapes Go.WideShapes Go.ChangeAt Go.RowKit Ieee.Own

def vnB (x : Nat) : Bool := decide (fitB x = true ∧ x % 9223372036854775808 ≤ 4877398396442247168)
theorem vnB_spec {x : Nat} (hx : x < 18446744073709551616) (h : vnB x = true) : FinW x ∧ fitB x = true ∧ (V x).natAbs ≤ 2 ^ 1134 := by
 unfold vnB at h
 rw [decide_eq_true_eq] at h
 have f := fit_fin hx h.1
 refine ⟨f, h.1, ?_⟩
 rw [V_abs' x f]
 have e : val 52 4877398396442247168 = 2 ^ 1134 := by decide +kernel
 rw [← e]
 by_cases q : x % 9223372036854775808 = 4877398396442247168
 · rw [q]; exact Nat.le_refl _
 · exact Nat.le_of_lt (val_lt (by omega))

theorem vwithin_run (x : Nat) (hx : x < 18446744073709551616) (w : World) :
 Calls Tryz.prog 163 #[.float .f64 x] w fun e w' => e = .returned (.bool (vnB x)) ∧ w = w' := by
 have CF := fun w => fit_any x hx w
 have CA := fun w => abs_any x hx w
 have g := o_leq (x % 9223372036854775808) 4877398396442247168 (by omega) (by omega)
 by_cases h1 : fitB x = true
 · have fn := fit_fin hx h1
   have m := fn.2
   rw [key_low (by omega), key_low (by omega)] at g
   rw [h1] at CF
   by_cases h2 : x % 9223372036854775808 ≤ 4877398396442247168
   · have e : vnB x = true := by unfold vnB; rw [decide_eq_true_eq]; exact ⟨h1, h2⟩
     rw [e]
     rw [decide_eq_true (by unfold nn; omega)] at g
     clear hx h1 fn m h2 e
     generalize x % 9223372036854775808 = y at *
     go_enter Tryz.func163, Tryz.ntmps163
     go_wp2_with (first | (go_at_call 72; ((with_reducible refine (CF _).mono ?_); rintro e w' ⟨rfl, rfl⟩)) | (go_at_call 37; ((with_reducible refine (CA _).mono ?_); rintro e w' ⟨rfl, rfl⟩)))
     go_ret
     exact ⟨rfl, rfl⟩
   · have e : vnB x = false := by unfold vnB; rw [decide_eq_false_iff_not]; exact fun h => h2 h.2
     rw [e]
     rw [decide_eq_false (by omega)] at g
     clear hx h1 fn m h2 e
     generalize x % 9223372036854775808 = y at *
     go_enter Tryz.func163, Tryz.ntmps163
     go_wp2_with (first | (go_at_call 72; ((with_reducible refine (CF _).mono ?_); rintro e w' ⟨rfl, rfl⟩)) | (go_at_call 37; ((with_reducible refine (CA _).mono ?_); rintro e w' ⟨rfl, rfl⟩)))
     go_ret
     exact ⟨rfl, rfl⟩
 · have e : vnB x = false := by unfold vnB; rw [decide_eq_false_iff_not]; exact fun h => h1 h.1
   rw [Bool.not_eq_true] at h1
   rw [h1] at CF
   rw [e]
   clear hx h1 e g
   go_enter Tryz.func163, Tryz.ntmps163
   go_wp2_with (first | (go_at_call 72; ((with_reducible refine (CF _).mono ?_); rintro e w' ⟨rfl, rfl⟩)) | (go_at_call 37; ((with_reducible refine (CA _).mono ?_); rintro e w' ⟨rfl, rfl⟩)))
   go_ret
   exact ⟨rfl, rfl⟩
def bW (x : Nat) : Nat := if fitB x = false ∧ x % 9223372036854775808 < 4607182418800017408 then 0 else aX x 0
theorem plus0 {x : Nat} (h : FinW x) : Ieee.double.add x 0 = some (aX x 0) ∧ FinW (aX x 0) ∧ V (aX x 0) = V x := by
 have e : V x + V 0 = V x := by rw [V_zero]; omega
 have R : RN (V x + V 0) = V x := by rw [e]; exact RN_exact (Rep_V x)
 obtain ⟨r, h1, h2, h3⟩ := add_spec h zero_fin (by rw [R]; exact fin_top h)
 have er : aX x 0 = r := by unfold aX; rw [h1]; rfl
 rw [er]
 rw [R] at h3
 exact ⟨h1, h2, h3⟩
theorem bW_spec {x : Nat} (h : FinW x) : FinW (bW x) ∧ (V (bW x) = V x ∨ (bW x = 0 ∧ fitB x = false ∧ x % 9223372036854775808 < 4607182418800017408)) := by
 unfold bW
 split
 · rename_i c; exact ⟨zero_fin, .inr ⟨rfl, c⟩⟩
 · exact ⟨(plus0 h).2.1, .inl (plus0 h).2.2⟩
theorem brought_run (x : Nat) (hx : FinW x) (w : World) :
 Calls Tryz.prog 114 #[.float .f64 x] w fun e w' => e = .returned (.float .f64 (bW x)) ∧ w = w' := by
 have CF := fun w => fit_any x hx.1 w
 have CA := fun w => abs_any x hx.1 w
 have P := run_add _ _ _ (plus0 hx).1
 have m := hx.2
 have g := o_lss (x % 9223372036854775808) 4607182418800017408 (by omega) (by omega)
 rw [key_low (by omega), key_low (by omega)] at g
 unfold bW
 generalize aX x 0 = z at *
 by_cases c1 : x % 9223372036854775808 < 4607182418800017408
 · rw [decide_eq_true (by unfold nn; omega)] at g
   cases c2 : fitB x
   · rw [if_pos ⟨rfl, c1⟩]
     rw [c2] at CF
     clear hx P m c1 c2
     generalize x % 9223372036854775808 = y at *
     go_enter Tryz.func114, Tryz.ntmps114
     go_wp2_with (first | (go_at_call 72; ((with_reducible refine (CF _).mono ?_); rintro e w' ⟨rfl, rfl⟩)) | (go_at_call 37; ((with_reducible refine (CA _).mono ?_); rintro e w' ⟨rfl, rfl⟩)))
     go_ret
     exact ⟨rfl, rfl⟩
   · rw [if_neg (fun h => by cases h.1)]
     rw [c2] at CF
     clear hx m c1 c2
     generalize x % 9223372036854775808 = y at *
     go_enter Tryz.func114, Tryz.ntmps114
     go_wp2_with (first | (go_at_call 72; ((with_reducible refine (CF _).mono ?_); rintro e w' ⟨rfl, rfl⟩)) | (go_at_call 37; ((with_reducible refine (CA _).mono ?_); rintro e w' ⟨rfl, rfl⟩)))
     go_ret
     exact ⟨rfl, rfl⟩
 · rw [decide_eq_false (by omega)] at g
   rw [if_neg (fun h => c1 h.2)]
   clear hx m c1
   generalize x % 9223372036854775808 = y at *
   go_enter Tryz.func114, Tryz.ntmps114
   go_wp2_with (first | (go_at_call 72; ((with_reducible refine (CF _).mono ?_); rintro e w' ⟨rfl, rfl⟩)) | (go_at_call 37; ((with_reducible refine (CA _).mono ?_); rintro e w' ⟨rfl, rfl⟩)))
   go_ret
   exact ⟨rfl, rfl⟩
abbrev V3 := Nat × Nat × Nat
def vecV (p : V3) : Value := .agg #[.float .f64 p.1, .float .f64 p.2.1, .float .f64 p.2.2]
def fitV (p : V3) : Bool := vnB p.1 && vnB p.2.1 && vnB p.2.2
structure W3 (p : V3) : Prop where
 l1 : p.1 < 18446744073709551616
 l2 : p.2.1 < 18446744073709551616
 l3 : p.2.2 < 18446744073709551616
def dW (a b : V3) : Nat := aX (aX (mX a.1 b.1) (mX a.2.1 b.2.1)) (mX a.2.2 b.2.2)
structure Bd (p : V3) (k : Nat) : Prop where
 f1 : FinW p.1
 f2 : FinW p.2.1
 f3 : FinW p.2.2
 b1 : (V p.1).natAbs ≤ 2 ^ k
 b2 : (V p.2.1).natAbs ≤ 2 ^ k
 b3 : (V p.2.2).natAbs ≤ 2 ^ k
theorem fitV_bd {p : V3} (h : W3 p) (f : fitV p = true) : Bd p 1134 := by
 unfold fitV at f
 simp only [Bool.and_eq_true] at f
 obtain ⟨a1, -, b1⟩ := vnB_spec h.l1 f.1.1
 obtain ⟨a2, -, b2⟩ := vnB_spec h.l2 f.1.2
 obtain ⟨a3, -, b3⟩ := vnB_spec h.l3 f.2
 exact ⟨a1, a2, a3, b1, b2, b3⟩
theorem mul_ok {a b i k : Nat} (ha : FinW a) (hb : FinW b) (xa : (V a).natAbs ≤ 2 ^ i) (xb : (V b).natAbs ≤ 2 ^ i) (e : i + i = k + 1074) (h2 : k < 2000) :
 Ieee.double.mul a b = some (mX a b) ∧ FinW (mX a b) ∧ V (mX a b) = RZ (V a * V b) ∧ (V (mX a b)).natAbs ≤ 2 ^ k := by
 obtain ⟨r, q1, q2, q3, q4⟩ := mulB ha hb xa xb e (by omega)
 have er : mX a b = r := by unfold mX; rw [q1]; rfl
 rw [er]
 exact ⟨q1, q2, q3, q4⟩
theorem add_ok {a b i k : Nat} (ha : FinW a) (hb : FinW b) (xa : (V a).natAbs ≤ 2 ^ i) (xb : (V b).natAbs ≤ 2 ^ i) (e : k = i + 1) (h2 : i < 2000) :
 Ieee.double.add a b = some (aX a b) ∧ FinW (aX a b) ∧ V (aX a b) = RN (V a + V b) ∧ (V (aX a b)).natAbs ≤ 2 ^ k := by
 subst e
 obtain ⟨r, q1, q2, q3, q4⟩ := addW ha hb xa xb h2
 have er : aX a b = r := by unfold aX; rw [q1]; rfl
 rw [er]
 exact ⟨q1, q2, q3, q4⟩
theorem sub_ok {a b i k : Nat} (ha : FinW a) (hb : FinW b) (xa : (V a).natAbs ≤ 2 ^ i) (xb : (V b).natAbs ≤ 2 ^ i) (e : k = i + 1) (h2 : i < 2000) :
 Ieee.double.sub a b = some (lX a b) ∧ FinW (lX a b) ∧ V (lX a b) = RN (V a - V b) ∧ (V (lX a b)).natAbs ≤ 2 ^ k := by
 subst e
 obtain ⟨r, q1, q2, q3, q4⟩ := subW ha hb xa xb h2
 have er : lX a b = r := by unfold lX; rw [q1]; rfl
 rw [er]
 exact ⟨q1, q2, q3, q4⟩
structure DotOk (a b : V3) : Prop where
 m1 : Ieee.double.mul a.1 b.1 = some (mX a.1 b.1)
 m2 : Ieee.double.mul a.2.1 b.2.1 = some (mX a.2.1 b.2.1)
 m3 : Ieee.double.mul a.2.2 b.2.2 = some (mX a.2.2 b.2.2)
 s1 : Ieee.double.add (mX a.1 b.1) (mX a.2.1 b.2.1) = some (aX (mX a.1 b.1) (mX a.2.1 b.2.1))
 s2 : Ieee.double.add (aX (mX a.1 b.1) (mX a.2.1 b.2.1)) (mX a.2.2 b.2.2) = some (dW a b)
 fin : FinW (dW a b)
 bd : (V (dW a b)).natAbs ≤ 2 ^ 1196
 v1 : V (mX a.1 b.1) = RZ (V a.1 * V b.1)
 v2 : V (mX a.2.1 b.2.1) = RZ (V a.2.1 * V b.2.1)
 v3 : V (mX a.2.2 b.2.2) = RZ (V a.2.2 * V b.2.2)
 t1 : V (aX (mX a.1 b.1) (mX a.2.1 b.2.1)) = RN (V (mX a.1 b.1) + V (mX a.2.1 b.2.1))
 t2 : V (dW a b) = RN (V (aX (mX a.1 b.1) (mX a.2.1 b.2.1)) + V (mX a.2.2 b.2.2))
theorem dot_ok {a b : V3} (ha : Bd a 1134) (hb : Bd b 1134) : DotOk a b := by
 obtain ⟨m1, f1, v1, b1⟩ := mul_ok ha.f1 hb.f1 ha.b1 hb.b1 (k := 1194) (by omega) (by omega)
 obtain ⟨m2, f2, v2, b2⟩ := mul_ok ha.f2 hb.f2 ha.b2 hb.b2 (k := 1194) (by omega) (by omega)
 obtain ⟨m3, f3, v3, b3⟩ := mul_ok ha.f3 hb.f3 ha.b3 hb.b3 (k := 1194) (by omega) (by omega)
 obtain ⟨s1, g1, t1, c1⟩ := add_ok f1 f2 b1 b2 (k := 1195) rfl (by omega)
 obtain ⟨s2, g2, t2, c2⟩ := add_ok g1 f3 c1 (abs_up (k := 1194) (l := 1195) b3 (by omega)) (k := 1196) rfl (by omega)
 exact ⟨m1, m2, m3, s1, s2, g2, c2, v1, v2, v3, t1, t2⟩
end Go.Proofs.YtacinenddnfcbaaGreat

namespace Go.Proofs.YtacinenddnfcbaaGreat
open Go.ChangeShapes Go.WideShapes Go.ChangeAt Go.RowKit Ieee.Own

def errA (x : Nat) : Int := if fitB x = true ∧ x % 9223372036854775808 ≤ 4787326403894837248 then 0 else 3

theorem errA_cases (x : Nat) : errA x = 0 ∨ errA x = 3 := by unfold errA; split <;> simp
theorem errA_ang {x : Nat} (hx : x < 18446744073709551616) (h : errA x = 0) : Ang x := by
 unfold errA at h
 split at h
 · rename_i c
   have f := fit_fin hx c.1
   refine ⟨f, fit_822 hx c.1, ?_⟩
   rw [V_abs' x f]
   have e : val 52 4787326403894837248 = 2 ^ 1114 := by decide +kernel
   rw [← e]
   by_cases q : x % 9223372036854775808 = 4787326403894837248
   · rw [q]; exact Nat.le_refl _
   · exact Nat.le_of_lt (val_lt (by omega))
 · omega

theorem ucheck_run (x : Nat) (hx : x < 18446744073709551616) (w : World) :
 Calls Tryz.prog 175 #[.float .f64 x] w fun e w' => e = .returned (.int .i64 (errA x)) ∧ w = w' := by
 have CF := fun w => fit_any x hx w
 have CA := fun w => abs_any x hx w
 have g := o_gtr (x % 9223372036854775808) 4787326403894837248 (by omega) (by omega)
 by_cases h1 : fitB x = true
 · have fn := fit_fin hx h1
   have m := fn.2
   rw [key_low (by omega), key_low (by omega)] at g
   rw [h1] at CF
   by_cases h2 : x % 9223372036854775808 ≤ 4787326403894837248
   · have e : errA x = 0 := if_pos ⟨h1, h2⟩
     rw [e]
     rw [decide_eq_false (by omega)] at g
     clear hx h1 fn m h2 e
     generalize x % 9223372036854775808 = y at *
     go_enter Tryz.func175, Tryz.ntmps175
     go_wp2_with (first | (go_at_call 72; ((with_reducible refine (CF _).mono ?_); rintro e w' ⟨rfl, rfl⟩)) | (go_at_call 37; ((with_reducible refine (CA _).mono ?_); rintro e w' ⟨rfl, rfl⟩)))
     go_ret
     exact ⟨rfl, rfl⟩
   · have e : errA x = 3 := if_neg (fun h => h2 h.2)
     rw [e]
     rw [decide_eq_true (by unfold nn; omega)] at g
     clear hx h1 fn m h2 e
     generalize x % 9223372036854775808 = y at *
     go_enter Tryz.func175, Tryz.ntmps175
     go_wp2_with (first | (go_at_call 72; ((with_reducible refine (CF _).mono ?_); rintro e w' ⟨rfl, rfl⟩)) | (go_at_call 37; ((with_reducible refine (CA _).mono ?_); rintro e w' ⟨rfl, rfl⟩)))
     go_ret
     exact ⟨rfl, rfl⟩
 · have e : errA x = 3 := if_neg (fun h => h1 h.1)
   rw [Bool.not_eq_true] at h1
   rw [h1] at CF
   rw [e]
   clear hx h1 e g
   go_enter Tryz.func175, Tryz.ntmps175
   go_wp2_with (first | (go_at_call 72; ((with_reducible refine (CF _).mono ?_); rintro e w' ⟨rfl, rfl⟩)) | (go_at_call 37; ((with_reducible refine (CA _).mono ?_); rintro e w' ⟨rfl, rfl⟩)))
   go_ret
   exact ⟨rfl, rfl⟩

end Go.Proofs.YtacinenddnfcbaaGreat

namespace Go.Proofs.YtacinenddnfcbaaGreat
open Go.ChangeShapes Go.WideShapes Go.ChangeAt Go.RowKit Ieee.Own

theorem i64_and3 (n : Int) : bits .and .i64 n 3 = n % 4 := by
 have h3 : (BitVec.ofInt 64 3).toNat = 2 ^ 2 - 1 := by decide
 have key : (BitVec.ofInt 64 n &&& BitVec.ofInt 64 3).toNat = (n % ((2 ^ 64 : Nat) : Int)).toNat % 2 ^ 2 := by
  rw [BitVec.toNat_and, BitVec.toNat_ofInt, h3, Nat.and_two_pow_sub_one_eq_mod]
 show IntKind.i64.wrap ((BitVec.ofInt 64 n &&& BitVec.ofInt 64 3).toNat : Nat) = n % 4
 rw [key, IntKind.wrap_i64]
 omega
structure Nz (b : Nat) : Prop where
 fin : FinW b
 nz : b ≠ 9223372036854775808
theorem Nz.zero {b : Nat} (h : Nz b) (h0 : V b = 0) : b = 0 := by
 have := (V_zero_iff h.fin).1 h0
 have := h.fin.1
 have := h.nz
 omega
theorem Nz.uniq {a b : Nat} (ha : Nz a) (hb : Nz b) (h : V a = V b) : a = b := by
 by_cases h0 : V a = 0
 · rw [ha.zero h0, hb.zero (by omega)]
 · exact V_inj ha.fin hb.fin h h0
theorem Nz.of {b : Nat} (h : FinW b) (h0 : V b ≠ 0) : Nz b := ⟨h, fun e => h0 (by rw [e]; decide +kernel)⟩
theorem Nz.pos {b : Nat} (h : FinW b) : Nz (posW b) := by
 refine ⟨posW_fin h, ?_⟩
 unfold posW; split
 · omega
 · assumption

theorem sub_self {a : Nat} (h : FinW a) : Ieee.double.sub a a = some 0 := by
 obtain ⟨s, m, p, e1, -, -, -, -⟩ := read_sv h
 unfold Ieee.Format.sub
 rw [e1]
 unfold Ieee.Datum.opposite Ieee.Datum.sum
 dsimp only
 have e : Ieee.signed s m (-1074 + (p : Int) - min (-1074 + (p : Int)) (-1074 + (p : Int))).toNat + Ieee.signed (!s) m (-1074 + (p : Int) - min (-1074 + (p : Int)) (-1074 + (p : Int))).toNat = 0 := by
  rw [signed_eq, signed_eq]
  cases s <;> simp <;> omega
 rw [e]
 have : (s && !s) = false := by cases s <;> rfl
 rw [if_pos rfl, this]
 rfl

structure Rst (x r : Nat) : Prop where
 nz : Nz r
 v : V r = rq eig (V x)
theorem Rst.rest {x r : Nat} (h : Ang x) (R : Rst x r) : Rest r := rest_of h R.nz.fin R.v
theorem Rst.uniq {x r s : Nat} (R : Rst x r) (S : Rst x s) : r = s := R.nz.uniq S.nz (by rw [R.v, S.v])

theorem rq_zero {v : Int} (h : v = 0) : rq eig v = 0 ∧ kq eig v = 0 := by
 subst h; exact ⟨by decide +kernel, by decide +kernel⟩

theorem rest_nz {x q r : Nat} (h : Ang x) (hq : FinW q) (vq : V q = kq eig (V x) * 2 ^ 1072) (h1 : Ieee.double.sub x q = some r) (h2 : FinW r) (h3 : V r = rq eig (V x)) (hm : x = 9223372036854775808 → q = 9223372036854775808) : Rst x r := by
 refine ⟨?_, h3⟩
 by_cases r0 : V r = 0
 · by_cases x0 : V x = 0
   · have zx := (V_zero_iff h.fin).1 x0
     have zq := (V_zero_iff hq).1 (by rw [vq, (rq_zero x0).2]; omega)
     have hx := h.fin.1
     have hq' := hq.1
     rcases (by omega : x = 0 ∨ x = 9223372036854775808) with rfl | rfl
     · rcases (by omega : q = 0 ∨ q = 9223372036854775808) with rfl | rfl
       · have : Ieee.double.sub 0 0 = some 0 := by decide +kernel
         rw [this] at h1; cases h1; exact ⟨h2, by omega⟩
       · have : Ieee.double.sub 0 9223372036854775808 = some 0 := by decide +kernel
         rw [this] at h1; cases h1; exact ⟨h2, by omega⟩
     · rw [hm rfl] at h1
       have : Ieee.double.sub 9223372036854775808 9223372036854775808 = some 0 := by decide +kernel
       rw [this] at h1; cases h1; exact ⟨h2, by omega⟩
   · have e : V x = V q := by
        have : V x = 2 * eig * kq eig (V x) + rq eig (V x) := by unfold rq; omega
        rw [vq, ← eig2, Int.mul_comm (kq eig (V x))]
        omega
     have := V_inj h.fin hq e x0
     subst this
     rw [sub_self h.fin] at h1
     cases h1; exact ⟨h2, by omega⟩
 · exact Nz.of h2 r0

theorem ext_whole {name : String} (way : Ieee.Toward) {b : Nat} (h : FinW b) (P : Program) (w : World) : (Extern.MathFloor.toIntegral name way #[.float .f64 b]).run P w = .ok (.float .f64 (wholeW way b)) w := by
 obtain ⟨s, m, p, e1, -, -, -, -⟩ := read_sv h
 have e2 : FloatKind.f64.decode b = .number s m (-1074 + p) := e1
 have key : ∀ d, FloatKind.f64.decode b = d → (∃ s m p, d = .number s m p) → (Extern.MathFloor.toIntegral name way #[.float .f64 b]).run P w = .ok (.float .f64 (FloatKind.f64.encode (d.integral way))) w := by
  intro d hd ⟨s, m, p, hn⟩
  subst hn
  delta Extern.MathFloor.toIntegral
  show Sem.run P (Extern.MathFloor.toIntegral.match_1 (fun _ => Sem Value) (FloatKind.f64.decode b) _ _) w = _
  rw [hd]
  rfl
 rw [key _ e2 ⟨_, _, _, rfl⟩]
 unfold wholeW
 rw [e1]
 rfl
theorem xeven {b : Nat} (h : FinW b) (w : World) : (callFunc 171 #[.float .f64 b]).run Tryz.prog w = .ok (.value (.float .f64 (wholeW .even b))) w := by
 rw [run_callFunc_extern (e := Extern.MathFloor.toIntegral "math.RoundToEven" .even) Tryz.func171 (by kernel_rfl) (by kernel_rfl) (by kernel_rfl) (by kernel_rfl), ext_whole _ h]; rfl
theorem xfloor {b : Nat} (h : FinW b) (w : World) : (callFunc 212 #[.float .f64 b]).run Tryz.prog w = .ok (.value (.float .f64 (wholeW .down b))) w := by
 rw [run_callFunc_extern (e := Extern.MathFloor.toIntegral "math.archFloor" .down) Tryz.func212 (by kernel_rfl) (by kernel_rfl) (by kernel_rfl) (by kernel_rfl), ext_whole _ h]; rfl
theorem floor_run {b : Nat} (h : FinW b) (w : World) : Calls Tryz.prog 141 #[.float .f64 b] w fun e w' => e = .returned (.float .f64 (wholeW .down b)) ∧ w = w' := by
 have X := fun w => xfloor h w
 clear h
 go_enter Tryz.func141, Tryz.ntmps141
 go_wp2_with (simp only [X])
 go_ret
 exact ⟨rfl, rfl⟩
theorem to_int64 {b : Nat} {K : Int} (h : FinW b) (hv : V b = K * 2 ^ 1074) (hK : K.natAbs ≤ 2 ^ 62) : floatToIntVal .f64 b .i64 = some K := by
 unfold floatToIntVal
 have : (FloatKind.f64.decode b).toInt .zero = some K := int_of h hv
 rw [this]
 have e1 : IntKind.i64.min = -9223372036854775808 := rfl
 have e2 : IntKind.i64.max = 9223372036854775807 := rfl
 dsimp only
 rw [if_pos (by omega)]
theorem xconv {b : Nat} {K : Int} (h : floatToIntVal .f64 b .i64 = some K) (w : World) : (convert 22 2 (.float .f64 b)).run Tryz.prog w = .ok (.int .i64 K) w :=
 run_convert_float_int w 22 2 .f64 .i64 b K (by rw [Tryz.underlying22]; rfl) Tryz.underlying2 h

theorem four_bd {x : Nat} (h : Ang x) : (4 * V x).natAbs ≤ 2 ^ 1126 := by
 have a := h.abs
 have b := two_dbl (m := 1114) (n := 1115) (by omega)
 have c := two_dbl (m := 1115) (n := 1116) (by omega)
 have d := two_le (a := 1116) (b := 1126) (by omega)
 omega
theorem even_four {x : Nat} (h : Ang x) : FinW (wholeW .even (mX fourW x)) ∧ V (wholeW .even (mX fourW x)) = kq eig (V x) * 2 ^ 1074 := by
 obtain ⟨-, f, v⟩ := four_x h
 have := even_spec f (by rw [v]; exact four_bd h)
 rw [v] at this
 have e : (2 : Int) ^ 1073 = 4 * eig := by decide +kernel
 rw [e, kq_scale eig_pos] at this
 exact this

theorem uquarter_run {x : Nat} (h : Ang x) : ∃ r, Rst x r ∧ ∀ w, Calls Tryz.prog 176 #[.float .f64 x] w fun e w' => e = .returned (.tuple #[.int .i64 (kq eig (V x) % 4), .float .f64 r]) ∧ w = w' := by
 obtain ⟨o1, f1, v1⟩ := four_x h
 obtain ⟨f2, v2⟩ := even_four h
 have bK := kq_bd h
 obtain ⟨q, o3, f3, v3⟩ := quarter_div f2 v2 bK
 obtain ⟨r, o4, f4, v4⟩ := rest_words h f3 v3
 have C := to_int64 f2 v2 (by omega)
 have R : Rst x r := rest_nz h f3 v3 o4 f4 v4 (fun e => by
  subst e
  have e1 : mX fourW 9223372036854775808 = 9223372036854775808 := by decide +kernel
  have e2 : wholeW .even 9223372036854775808 = 9223372036854775808 := by decide +kernel
  have e3 : Ieee.double.div 9223372036854775808 fourW = some 9223372036854775808 := by decide +kernel
  rw [e1, e2, e3] at o3
  cases o3; rfl)
 refine ⟨r, R, fun w => ?_⟩
 have X := fun w => xeven f1 w
 have r1 := run_mul _ _ _ o1
 have r3 := run_div _ _ _ o3
 have r4 := run_sub _ _ _ o4
 have c1 := fun w => xconv C w
 have a3 := i64_and3 (kq eig (V x))
 unfold fourW at *
 clear o1 f1 v1 f2 v2 bK o3 f3 v3 o4 f4 v4 C R h
 generalize wholeW .even (mX 4616189618054758400 x) = y at *
 generalize mX 4616189618054758400 x = z at *
 generalize kq eig (V x) = K at *
 go_enter Tryz.func176, Tryz.ntmps176
 go_wp2_with (simp only [X])
 go_ret2
 exact ⟨rfl, rfl⟩

end Go.Proofs.YtacinenddnfcbaaGreat

namespace Go.Proofs.YtacinenddnfcbaaGreat
open Go.ChangeShapes Go.WideShapes Go.ChangeAt Go.RowKit Ieee.Own

def flV (L : List Nat) : List Value := L.map (Value.float .f64)
def facL : List Nat := [0, 0, 13826050856027422720, 13818544856648471893, 4586165620538955093, 4575957461383581969, 13787419979223755799, 13774824197408792602, 4537941361671905306, 4523617214285662004, 13732177094651715420, 13716528800881525988, 4477122120089393304, 4460272573143870729, 13666517717442657437, 13648976655441704991, 4407590220077447199, 4389130328383466826]
theorem flV_len (L : List Nat) : (flV L).length = L.length := by simp [flV]
theorem fl_at {w : World} {g : Nat} {L : List Nat} (hc : w.rangeAt g 0 (flV L)) (i : Nat) (hi : i < L.length) : w.cell? ⟨g, i, none⟩ = some (.float .f64 (L.getD i 0)) := by
 have := hc i (.float .f64 (L.getD i 0)) (by simp [flV, List.getD, hi])
 rwa [Nat.zero_add] at this
theorem fl_one (L : List Nat) : (flV L).toArray.all (·.oneCell') = true := by
 rw [Array.all_eq_true_iff_forall_mem]
 intro v hv
 unfold flV at hv
 simp at hv
 obtain ⟨i, _, rfl⟩ := hv
 rfl
theorem range_alloc (w : World) (vs : List Value) (t : TypeId) : (w.alloc (.cells vs.toArray t)).rangeAt w.heap.size 0 vs := by
 intro j v hv
 rw [World.cell?_alloc_at _ _ _ _ rfl]
 simpa using hv
theorem ufac_store (L : List Nat) (hL : L.length = 18) (w : World) : (storeCells ⟨w.heap.size, 0, none⟩ (flV L)).run Tryz.prog (w.alloc (.cells #[.float .f64 0, .float .f64 0, .float .f64 0, .float .f64 0, .float .f64 0, .float .f64 0, .float .f64 0, .float .f64 0, .float .f64 0, .float .f64 0, .float .f64 0, .float .f64 0, .float .f64 0, .float .f64 0, .float .f64 0, .float .f64 0, .float .f64 0, .float .f64 0] 211)) = .ok () (w.alloc (.cells (flV L).toArray 211)) :=
 run_storeCells_new (P := Tryz.prog) w 211 _ (flV L).toArray (by rw [List.size_toArray, flV_len, hL]; kernel_rfl) (by simp [flV_len, hL]) (fl_one L)
theorem ufac_run (w : World) : Calls Tryz.prog 263 #[] w fun e w' => e = .returned (.agg (flV facL).toArray) ∧ Below w.heap.size w w' := by
 obtain ⟨L, hL⟩ : ∃ L, L = facL := ⟨_, rfl⟩
 have hl : L.length = 18 := by rw [hL]; rfl
 have hsn := ufac_store L hl w
 have ev : #[Value.float FloatKind.f64 0, Value.float FloatKind.f64 0, Value.float FloatKind.f64 13826050856027422720, Value.float FloatKind.f64 13818544856648471893, Value.float FloatKind.f64 4586165620538955093, Value.float FloatKind.f64 4575957461383581969, Value.float FloatKind.f64 13787419979223755799, Value.float FloatKind.f64 13774824197408792602, Value.float FloatKind.f64 4537941361671905306, Value.float FloatKind.f64 4523617214285662004, Value.float FloatKind.f64 13732177094651715420, Value.float FloatKind.f64 13716528800881525988, Value.float FloatKind.f64 4477122120089393304, Value.float FloatKind.f64 4460272573143870729, Value.float FloatKind.f64 13666517717442657437, Value.float FloatKind.f64 13648976655441704991, Value.float FloatKind.f64 4407590220077447199, Value.float FloatKind.f64 4389130328383466826] = (flV L).toArray := by rw [hL]; rfl
 rw [← hL]
 clear hL
 have hfl : (flV L).length = L.length := flV_len L
 rw [hl] at hfl
 replace hl := Lib.hid hl
 go_enter Tryz.func263, Tryz.ntmps263
 go_wp2_with fail
 (try simp only [Exit.inBlock, Exit.then])
 clear hsn ev
 refine bodyPost_ret (v := .agg (flV L).toArray) ?_ rfl ⟨rfl, (Below.refl _ w).alloc (Nat.le_refl _) _⟩
 rw [results_cell1 rfl]
 have hg := run_loadVar_mid (P := Tryz.prog) (w.alloc (.cells (flV L).toArray 211)) w.heap.size 0 211 (flV L) _ (range_alloc w (flV L) 211) Tryz.underlying211 rfl (by rw [flV_len, hl.out]; kernel_rfl)
 exact hg
end Go.Proofs.YtacinenddnfcbaaGreat

namespace Go.Proofs.YtacinenddnfcbaaGreat
open Go.ChangeShapes Go.WideShapes Go.ChangeAt Go.RowKit Ieee.Own

theorem hor_back {z : Nat} (hz : Wd z 470 1074) : ∀ (W : List Nat) (i : Nat), Grow W → i + 1 < W.length →
 Ieee.double.mul z (horW z (W.drop (W.length - 1 - i))) = some (mX z (horW z (W.drop (W.length - 1 - i)))) ∧
 Ieee.double.add (W.getD (W.length - 2 - i) 0) (mX z (horW z (W.drop (W.length - 1 - i)))) = some (horW z (W.drop (W.length - 2 - i)))
 | [], i, _, h => by simp at h
 | [a], i, _, h => by simp at h
 | a :: b :: cs, i, g, h => by
   by_cases e : i + 2 = (a :: b :: cs).length
   · have e1 : (a :: b :: cs).length - 1 - i = 1 := by omega
     have e2 : (a :: b :: cs).length - 2 - i = 0 := by omega
     rw [e1, e2]
     have := hor_some hz g
     simpa using this
   · have ih := hor_back hz (b :: cs) i g.2.2.2 (by simp at h e ⊢; omega)
     have e1 : (a :: b :: cs).length - 1 - i = (b :: cs).length - 1 - i + 1 := by simp at h e ⊢; omega
     have e2 : (a :: b :: cs).length - 2 - i = (b :: cs).length - 2 - i + 1 := by simp at h e ⊢; omega
     rw [e1, e2, List.drop_succ_cons, List.drop_succ_cons, List.getD_cons_succ]
     exact ih

theorem useries17 {z : Nat} (hz : Wd z 470 1074) (w : World) : Calls Tryz.prog 236 #[.int .i64 17, .float .f64 z] w fun e w' => e = .returned (.float .f64 (horW z sinW)) ∧ Below w.heap.size w w' := by
 have F := Lib.hid (fun w => ufac_run w)
 obtain ⟨L, hL⟩ : ∃ L, L = facL := ⟨_, rfl⟩
 have len : L.length = 18 := by rw [hL]; rfl
 have at17 : L.getD 17 0 = horW z (sinW.drop 7) := by rw [hL]; rfl
 have step : Hid (∀ i, i < 7 → Ieee.double.mul z (horW z (sinW.drop (7 - i))) = some (mX z (horW z (sinW.drop (7 - i)))) ∧ Ieee.double.add (L.getD (15 - 2 * i) 0) (mX z (horW z (sinW.drop (7 - i)))) = some (horW z (sinW.drop (6 - i)))) := by
  intro i hi
  have := hor_back hz sinW i grow_sin (by show i + 1 < 8; omega)
  have e : L.getD (15 - 2 * i) 0 = sinW.getD (6 - i) 0 := by
   rw [hL]
   have : i = 0 ∨ i = 1 ∨ i = 2 ∨ i = 3 ∨ i = 4 ∨ i = 5 ∨ i = 6 := by omega
   rcases this with rfl | rfl | rfl | rfl | rfl | rfl | rfl <;> rfl
  rw [e]; exact this
 have hsn := ufac_store L len
 have at0 : horW z sinW = horW z (sinW.drop 0) := rfl
 rw [at0]
 rw [← hL] at F
 generalize hW : sinW = W at *
 clear hL hz hW at0
 have hfl : (flV L).length = L.length := flV_len L
 rw [len] at hfl
 replace len := Lib.hid len
 go_enter Tryz.func236, Tryz.ntmps236
 go_wp2_with fail
 refine (F.out w).mono ?_
 rintro _ w1 ⟨rfl, hb1⟩
 have R := Lib.hid (range_alloc w1 (flV L) 211)
 have hb2 := Lib.hid (hb1.alloc hb1.size (.cells (flV L).toArray 211))
 have c17 : (w1.alloc (.cells (flV L).toArray 211)).cell? ⟨w1.heap.size, 17, none⟩ = some (.float .f64 (horW z (W.drop 7))) := by
  have := fl_at (range_alloc w1 (flV L) 211) 17 (by rw [len.out]; omega)
  rw [at17] at this
  exact this
 clear F hb1 at17
 go_wp2_with fail
 clear hsn hfl c17
 generalize w1.alloc _ = wr at *
 generalize w1.heap.size = g at *
 go_loop [6, 12] (fun s6 s12 => ∃ i : Nat, i ≤ 7 ∧ s6 = .float .f64 (horW z (W.drop (7 - i))) ∧ s12 = .int .i64 i) (fun _ s12 => 7 - (intOf s12).toNat)
 case atStart => exact ⟨0, by omega, rfl, rfl⟩
 case round =>
  obtain ⟨i, hi, rfl, rfl⟩ := hrel
  by_cases hlt : i < 7
  · obtain ⟨o1, o2⟩ := step.out i hlt
    have r1 := run_mul _ _ _ o1
    have r2 := run_add _ _ _ o2
    have cx := fl_at R.out (15 - 2 * i) (by have := len.out; omega)
    have p1 : 7 - (i + 1) = 6 - i := by omega
    generalize L.getD (15 - 2 * i) 0 = a at *
    generalize mX z (horW z (W.drop (7 - i))) = m at *
    generalize horW z (W.drop (7 - i)) = p at *
    generalize hq : horW z (W.drop (6 - i)) = q at *
    replace hq := Lib.hid hq
    replace p1 := Lib.hid p1
    clear o1 o2
    go_wp2_with fail
    exact ⟨⟨i + 1, by omega, by rw [p1.out, hq.out], by simp⟩, by simp [intOf]; omega⟩
  · obtain rfl : i = 7 := by omega
    go_wp2_with fail
    go_ret
    exact ⟨rfl, hb2.out⟩
theorem useries16 {z : Nat} (hz : Wd z 470 1074) (w : World) : Calls Tryz.prog 236 #[.int .i64 16, .float .f64 z] w fun e w' => e = .returned (.float .f64 (horW z cosW)) ∧ Below w.heap.size w w' := by
 have F := Lib.hid (fun w => ufac_run w)
 obtain ⟨L, hL⟩ : ∃ L, L = facL := ⟨_, rfl⟩
 have len : L.length = 18 := by rw [hL]; rfl
 have at16 : L.getD 16 0 = horW z (cosW.drop 7) := by rw [hL]; rfl
 have step : Hid (∀ i, i < 7 → Ieee.double.mul z (horW z (cosW.drop (7 - i))) = some (mX z (horW z (cosW.drop (7 - i)))) ∧ Ieee.double.add (L.getD (14 - 2 * i) 0) (mX z (horW z (cosW.drop (7 - i)))) = some (horW z (cosW.drop (6 - i)))) := by
  intro i hi
  have := hor_back hz cosW i grow_cos (by show i + 1 < 8; omega)
  have e : L.getD (14 - 2 * i) 0 = cosW.getD (6 - i) 0 := by
   rw [hL]
   have : i = 0 ∨ i = 1 ∨ i = 2 ∨ i = 3 ∨ i = 4 ∨ i = 5 ∨ i = 6 := by omega
   rcases this with rfl | rfl | rfl | rfl | rfl | rfl | rfl <;> rfl
  rw [e]; exact this
 have hsn := ufac_store L len
 have at0 : horW z cosW = horW z (cosW.drop 0) := rfl
 rw [at0]
 rw [← hL] at F
 generalize hW : cosW = W at *
 clear hL hz hW at0
 have hfl : (flV L).length = L.length := flV_len L
 rw [len] at hfl
 replace len := Lib.hid len
 go_enter Tryz.func236, Tryz.ntmps236
 go_wp2_with fail
 refine (F.out w).mono ?_
 rintro _ w1 ⟨rfl, hb1⟩
 have R := Lib.hid (range_alloc w1 (flV L) 211)
 have hb2 := Lib.hid (hb1.alloc hb1.size (.cells (flV L).toArray 211))
 have c16 : (w1.alloc (.cells (flV L).toArray 211)).cell? ⟨w1.heap.size, 16, none⟩ = some (.float .f64 (horW z (W.drop 7))) := by
  have := fl_at (range_alloc w1 (flV L) 211) 16 (by rw [len.out]; omega)
  rw [at16] at this
  exact this
 clear F hb1 at16
 go_wp2_with fail
 clear hsn hfl c16
 generalize w1.alloc _ = wr at *
 generalize w1.heap.size = g at *
 go_loop [6, 12] (fun s6 s12 => ∃ i : Nat, i ≤ 7 ∧ s6 = .float .f64 (horW z (W.drop (7 - i))) ∧ s12 = .int .i64 i) (fun _ s12 => 7 - (intOf s12).toNat)
 case atStart => exact ⟨0, by omega, rfl, rfl⟩
 case round =>
  obtain ⟨i, hi, rfl, rfl⟩ := hrel
  by_cases hlt : i < 7
  · obtain ⟨o1, o2⟩ := step.out i hlt
    have r1 := run_mul _ _ _ o1
    have r2 := run_add _ _ _ o2
    have cx := fl_at R.out (14 - 2 * i) (by have := len.out; omega)
    have p1 : 7 - (i + 1) = 6 - i := by omega
    generalize L.getD (14 - 2 * i) 0 = a at *
    generalize mX z (horW z (W.drop (7 - i))) = m at *
    generalize horW z (W.drop (7 - i)) = p at *
    generalize hq : horW z (W.drop (6 - i)) = q at *
    replace hq := Lib.hid hq
    replace p1 := Lib.hid p1
    clear o1 o2
    go_wp2_with fail
    exact ⟨⟨i + 1, by omega, by rw [p1.out, hq.out], by simp⟩, by simp [intOf]; omega⟩
  · obtain rfl : i = 7 := by omega
    go_wp2_with fail
    go_ret
    exact ⟨rfl, hb2.out⟩
end Go.Proofs.YtacinenddnfcbaaGreat

namespace Go.Proofs.YtacinenddnfcbaaGreat
open Go.ChangeShapes Go.WideShapes Go.ChangeAt Go.RowKit Ieee.Own

theorem unear_run {r : Nat} (h : Rest r) (w : World) : Calls Tryz.prog 177 #[.float .f64 r] w fun e w' => e = .returned (.tuple #[.float .f64 (sinX r), .float .f64 (cosX r)]) ∧ Below w.heap.size w w' := by
 have N := h.near
 have S17 := Lib.hid (fun w => useries17 N.zw w)
 have S16 := Lib.hid (fun w => useries16 N.zw w)
 have r1 := run_mul _ _ _ N.y
 have r2 := run_mul _ _ _ N.z
 have r3 := run_mul _ _ _ N.zp
 have r4 := run_mul _ _ _ N.yzp
 have r5 := run_add _ _ _ N.s
 have r6 := run_mul _ _ _ N.zq
 have r7 := run_add _ _ _ N.c
 have e1 : pW r = horW (zW r) sinW := rfl
 have e2 : qW r = horW (zW r) cosW := rfl
 rw [← e1] at S17
 rw [← e2] at S16
 clear N e1 e2 h
 unfold tauW oneW at *
 generalize mX (yW r) (mX (zW r) (pW r)) = a at *
 generalize mX (zW r) (pW r) = b at *
 generalize mX (zW r) (qW r) = c at *
 generalize pW r = p at *
 generalize qW r = q at *
 generalize yW r = y at *
 generalize zW r = z at *
 generalize sinX r = s at *
 generalize cosX r = t at *
 go_enter Tryz.func177, Tryz.ntmps177
 go_wp2_with fail
 refine (S17.out w).mono ?_
 rintro _ w1 ⟨rfl, hb1⟩
 replace hb1 := Lib.hid hb1
 go_wp2_with fail
 refine (S16.out w1).mono ?_
 rintro _ w2 ⟨rfl, hb2⟩
 have hb := Lib.hid (hb1.out.trans (hb2.mono hb1.out.size))
 clear hb1 hb2
 go_wp2_with fail
 go_ret2
 exact ⟨rfl, hb.out⟩

end Go.Proofs.YtacinenddnfcbaaGreat
