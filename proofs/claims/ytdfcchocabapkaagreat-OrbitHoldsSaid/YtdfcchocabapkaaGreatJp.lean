/- Proved here: what the texts Mgn, Pol, Pch, Pcr, Pwd, Vmt prove, one behind the other. -/
import Derived.Test.YtdfcchocabapkaaGreatJm

namespace Ieee.Own

def dz (n : Nat) : Nat := max (dr n) 1074
def rz (n : Nat) : Nat := rne n (dz n) * 2 ^ (dz n - 1074)
def RZ (z : Int) : Int := if z < 0 then -(rz z.natAbs : Int) else (rz z.natAbs : Int)

theorem div_cap {n k d : Nat} (h : n < 2 ^ (k + d)) : n / 2 ^ d < 2 ^ k := by
 rw [Nat.div_lt_iff_lt_mul (Nat.two_pow_pos d), ← Nat.pow_add]; exact h
theorem rz_range (n : Nat) : rne n (dz n) ≤ 2 ^ 53 ∧ (0 < dz n - 1074 → 2 ^ 52 ≤ rne n (dz n)) := by
 by_cases h : dr n ≤ 1074
 · have e : dz n = 1074 := by unfold dz; omega
   rw [e]
   refine ⟨?_, fun h => by omega⟩
   have b := rne_bounds n 1074
   have := div_cap (k := 53) (Nat.lt_of_lt_of_le (dr_lt n) (Nat.pow_le_pow_right (by omega) (show 53 + dr n ≤ 53 + 1074 by omega)))
   omega
 · have e : dz n = dr n := by unfold dz; omega
   rw [e]
   exact ⟨(rne_range n).1, fun h => (rne_range n).2 (by omega)⟩

theorem nearest_rz (s : Bool) (m : Nat) (place : Int) (n a c : Nat) (hm : m * 2 ^ a = n * 2 ^ c) (hp : place = -2148 + a - c) (hn : rz n < 2 ^ 2098) :
 ∃ r, r < 9218868437227405312 ∧ double.nearest s m place = double.word s r ∧ val 52 r = rz n := by
 by_cases h0 : m = 0
 · subst h0
   have : n = 0 := by
    have hc := Nat.two_pow_pos c
    rcases Nat.mul_eq_zero.1 (by omega : n * 2 ^ c = 0) with h | h <;> omega
   subst this
   refine ⟨0, by omega, by unfold Format.nearest; rw [if_pos rfl], ?_⟩
   rw [val_zero]
   have : rne 0 (dz 0) = 0 := by simpa using rne_exact 0 (dz 0)
   unfold rz
   rw [this, Nat.zero_mul]
 have hn0 : n ≠ 0 := by
  intro h; subst h
  have ha := Nat.two_pow_pos a
  rcases Nat.mul_eq_zero.1 (by omega : m * 2 ^ a = 0) with h | h <;> omega
 have hlog : m.log2 + a = n.log2 + c := by rw [← log2_shift m a h0, hm, log2_shift n c hn0]
 have hlast : max (place + m.log2 - double.fractionBits) double.leastPlace = -2148 + dz n := by
  rw [frac64', least64']; unfold dz dr; omega
 have hk : Toward.even.cut s (m <<< (place - (-2148 + dz n)).toNat) (-2148 + dz n - place).toNat = rne n (dz n) := by
  rw [Nat.shiftLeft_eq, cut_rne]
  generalize dz n = d at *
  by_cases hac : d + c ≤ a
  · have e1 : (place - (-2148 + (d : Int))).toNat = a - (d + c) := by omega
    have e2 : (-2148 + (d : Int) - place).toNat = 0 := by omega
    rw [e1, e2]
    have hq : n = (m * 2 ^ (a - (d + c))) * 2 ^ d := by
        have h2 : 2 ^ a = 2 ^ (a - (d + c)) * 2 ^ d * 2 ^ c := by rw [← Nat.pow_add, ← Nat.pow_add]; congr 1; omega
        rw [h2, ← Nat.mul_assoc, ← Nat.mul_assoc] at hm
        exact (Nat.eq_of_mul_eq_mul_right (Nat.two_pow_pos c) hm).symm
    have g1 : rne n d = m * 2 ^ (a - (d + c)) := by rw [hq]; exact rne_exact _ d
    rw [g1]
    have := rne_exact (m * 2 ^ (a - (d + c))) 0
    simpa using this
  · have e1 : (place - (-2148 + (d : Int))).toNat = 0 := by omega
    have e2 : (-2148 + (d : Int) - place).toNat = d + c - a := by omega
    rw [e1, e2, Nat.pow_zero, Nat.mul_one, ← rne_scale n d c, ← hm, ← rne_scale m (d + c - a) a]
    congr 1; omega
 have hv : val 52 ((dz n - 1074) * 2 ^ 52 + rne n (dz n)) = rz n := rung_val _ _ (rz_range n).1 (rz_range n).2
 have hr : (dz n - 1074) * 2 ^ 52 + rne n (dz n) < 9218868437227405312 := by
  rw [← val_lt_iff 52, hv, top64']; exact hn
 refine ⟨(dz n - 1074) * 2 ^ 52 + rne n (dz n), hr, ?_, hv⟩
 have hd : 1074 ≤ dz n := by unfold dz; omega
 unfold Format.nearest
 rw [if_neg h0]
 dsimp only
 rw [hlast, hk, least64', show (-2148 + (dz n : Int) - -1074).toNat = dz n - 1074 by omega, inf64]
 rw [show double.binade = 2 ^ 52 from rfl, Nat.min_eq_left (Nat.le_of_lt hr)]

theorem RZ_abs (z : Int) : (RZ z).natAbs = rz z.natAbs := by unfold RZ; split <;> omega
theorem rz_zero : rz 0 = 0 := by
 have : rne 0 (dz 0) = 0 := by simpa using rne_exact 0 (dz 0)
 unfold rz
 rw [this, Nat.zero_mul]
theorem mul_gen {a b : Nat} (ha : FinW a) (hb : FinW b) (h : rz (V a * V b).natAbs < 2 ^ 2098) :
 ∃ r, double.mul a b = some r ∧ FinW r ∧ V r = RZ (V a * V b) := by
 obtain ⟨s, m, p, hr, hV, -⟩ := read_sv ha
 obtain ⟨t, n, q, hr', hV', -⟩ := read_sv hb
 unfold Format.mul
 rw [hr, hr']
 simp only [Datum.product, Option.map]
 rw [hV, hV', sv_mul] at h ⊢
 have hNa : m * n * 2 ^ (p + q) = (sv (s ^^ t) (m * n) (p + q)).natAbs * 2 ^ 0 := by
  rw [sv_abs, Nat.pow_zero, Nat.mul_one]
 obtain ⟨r, h1, h2, h3⟩ := nearest_rz (s ^^ t) (m * n) (-1074 + (p : Int) + (-1074 + (q : Int))) _ (p + q) 0 hNa (by clear hNa h; omega) h
 refine ⟨double.word (s ^^ t) r, by simp only [Format.write]; rw [h2], (V_word _ r h1).1, ?_⟩
 rw [(V_word _ r h1).2, h3]
 have hs := sv_sign (s ^^ t) (m * n) (p + q)
 generalize sv (s ^^ t) (m * n) (p + q) = S at *
 cases hst : s ^^ t
 · rw [hst] at hs
   simp only [Bool.false_eq_true, if_false]
   have := hs.2 rfl
   unfold RZ; rw [if_neg (by omega)]
 · rw [hst] at hs
   simp only [if_true]
   have := hs.1 rfl
   by_cases h0 : S = 0
   · subst h0; unfold RZ; simp [rz_zero]
   · unfold RZ; rw [if_pos (by omega)]

end Ieee.Own

namespace Pol
open Go.Proofs.YtdfcchocabapkaaGreat

def mag (a : Rat) : Rat := if 0 ≤ a then a else -a
theorem mag_le (a : Rat) : -mag a ≤ a ∧ a ≤ mag a ∧ 0 ≤ mag a := by
 unfold mag
 split <;> refine ⟨?_, ?_, ?_⟩ <;> grind
theorem mag_of {a M : Rat} (h : -M ≤ a) (h' : a ≤ M) : mag a ≤ M := by
 unfold mag
 split <;> grind
theorem mag_mul {x y B M : Rat} (hx : mag x ≤ B) (hy : mag y ≤ M) : mag (x * y) ≤ B * M := by
 have a := mag_le x
 have b := mag_le y
 have := abs_mul (x := x) (y := y) (B := B) (M := M) (by grind) (by grind) (by grind) (by grind)
 exact mag_of this.1 this.2
theorem mag_add {x y B M : Rat} (hx : mag x ≤ B) (hy : mag y ≤ M) : mag (x + y) ≤ B + M := by
 have a := mag_le x
 have b := mag_le y
 exact mag_of (by grind) (by grind)
theorem mag_sub {x y B M : Rat} (hx : mag x ≤ B) (hy : mag y ≤ M) : mag (x - y) ≤ B + M := by
 have a := mag_le x
 have b := mag_le y
 exact mag_of (by grind) (by grind)
theorem mag_neg (x : Rat) : mag (-x) = mag x := by
 unfold mag
 split <;> split <;> grind

def Rd (u t w v : Rat) : Prop := ∀ M, mag v ≤ M → mag (w - v) ≤ u * M + t

def hv (x : Rat) : List Rat → Rat
 | [] => 0
 | a :: al => a + x * hv x al
end Pol

namespace Pol
open Go.Proofs.YtdfcchocabapkaaGreat

theorem sq_nn (r : Rat) : 0 ≤ r * r := by
 rcases Rat.le_total (a := 0) (b := r) with h | h
 · exact Rat.mul_nonneg h h
 · have := Rat.mul_nonneg (show 0 ≤ -r by grind) (show 0 ≤ -r by grind)
   grind
def sm : List Rat → Rat
 | [] => 0
 | a :: al => mag a + sm al
def cl (x : Rat) : List Rat → Rat × Rat
 | [] => (0, 0)
 | a :: al => (2 * (x * (cl x al).1) - (cl x al).2 + a, (cl x al).1)
end Pol

namespace Pol
open Go.Proofs.YtdfcchocabapkaaGreat

end Pol

namespace Ieee.Own
theorem rne_cap {n d k : Nat} (h : n ≤ 2 ^ (k + d)) : rne n d ≤ 2 ^ k := by
 rw [Nat.pow_add] at h
 have := rne_mono d h
 rwa [rne_exact] at this
theorem rz_cap {n k : Nat} (h : n ≤ 2 ^ (k + 1074)) : rz n ≤ 2 ^ k := by
 have h1 : dr n ≤ k + 1074 := by
  have : n < 2 ^ (53 + (k + 1074)) := Nat.lt_of_le_of_lt h (Nat.pow_lt_pow_right (by omega) (by omega))
  exact dr_of_lt this
 have h2 : dz n ≤ k + 1074 := by unfold dz; omega
 have h3 : 1074 ≤ dz n := by unfold dz; omega
 unfold rz
 generalize dz n = d at *
 have c := rne_cap (n := n) (d := d) (k := k + 1074 - d) (by rwa [show k + 1074 - d + d = k + 1074 by omega])
 have := Nat.mul_le_mul_right (2 ^ (d - 1074)) c
 rwa [← Nat.pow_add, show k + 1074 - d + (d - 1074) = k by omega] at this
theorem mulB {a b i j k : Nat} (ha : FinW a) (hb : FinW b) (xa : (V a).natAbs ≤ 2 ^ i) (xb : (V b).natAbs ≤ 2 ^ j) (e : i + j = k + 1074) (hk : k < 2098) :
 ∃ r, double.mul a b = some r ∧ FinW r ∧ V r = RZ (V a * V b) ∧ (V r).natAbs ≤ 2 ^ k := by
 have c : (V a * V b).natAbs ≤ 2 ^ (k + 1074) := by
  rw [Int.natAbs_mul, ← e, Nat.pow_add]
  exact Nat.mul_le_mul xa xb
 have z := rz_cap c
 obtain ⟨r, h1, h2, h3⟩ := mul_gen ha hb (Nat.lt_of_le_of_lt z (two_lt (a := k) (b := 2098) hk))
 exact ⟨r, h1, h2, h3, by rw [h3, RZ_abs]; exact z⟩
end Ieee.Own
namespace Go.Proofs.YtdfcchocabapkaaGreat
open Ieee.Own Pol

theorem zeroF : FinW 0 := by unfold FinW; omega
theorem zeroV : V 0 = 0 := by decide +kernel
def lX (a b : Nat) : Nat := (Ieee.double.sub a b).getD 0
def uR : Rat := mkRat 1 (2^53)
theorem uR0 : 0 ≤ uR := by decide +kernel
theorem uR1 : 1000000 * uR ≤ 1 := by decide +kernel
theorem rd_of {w v : Rat} (h : Rld w v) : Rd uR 0 w v := by
 intro M hM
 have a := mag_le v
 have := h M (by grind) (by grind)
 have e : M * mkRat 1 (2^53) = uR * M := Rat.mul_comm _ _
 rw [e] at this
 exact mag_of (by grind) (by grind)
theorem Q_times (a b : Nat) : Q a * Q b = ((V a * V b : Int) : Rat) / unit / unit := by
 unfold Q
 rw [Rat.intCast_mul]
 simp only [Rat.div_def]
 grind
theorem unit_cast : ((2 ^ 1074 : Int) : Rat) = unit := by decide +kernel
end Go.Proofs.YtdfcchocabapkaaGreat

namespace Pol
open Go.Proofs.YtdfcchocabapkaaGreat

def Dt (u t a1 a2 a3 b1 b2 b3 d : Rat) : Prop := ∃ p q r s, Rd u t p (a1 * b1) ∧ Rd u t q (a2 * b2) ∧ Rd u t r (a3 * b3) ∧ Rd u 0 s (p + q) ∧ Rd u 0 d (s + r)
theorem rd_near {u t w v M : Rat} (h : Rd u t w v) (hM : mag v ≤ M) : mag (w - v) ≤ u * M + t := h M hM
theorem rd_size {u t w v M : Rat} (h : Rd u t w v) (hM : mag v ≤ M) : mag w ≤ M + (u * M + t) := by
 have a := mag_add hM (h M hM)
 have e : v + (w - v) = w := by grind
 rwa [e] at a
theorem tiny_mul {u S : Rat} (u0 : 0 ≤ u) (u1 : 1000 * u ≤ 1) (hS : 0 ≤ S) : 0 ≤ u * S ∧ 1000 * (u * S) ≤ S := by
 have a := Rat.mul_nonneg u0 hS
 have b := Rat.mul_nonneg (show 0 ≤ 1 - 1000 * u by grind) hS
 exact ⟨a, by grind⟩
theorem dt_near {u t a1 a2 a3 b1 b2 b3 d S1 S2 S3 : Rat} (u0 : 0 ≤ u) (u1 : 1000 * u ≤ 1) (t0 : 0 ≤ t) (h : Dt u t a1 a2 a3 b1 b2 b3 d) (h1 : mag (a1 * b1) ≤ S1) (h2 : mag (a2 * b2) ≤ S2) (h3 : mag (a3 * b3) ≤ S3) :
 mag (d - (a1 * b1 + a2 * b2 + a3 * b3)) ≤ 4 * (u * (S1 + S2 + S3)) + 8 * t := by
 obtain ⟨p, q, r, s, hp, hq, hr, hs, hd⟩ := h
 have n1 : 0 ≤ S1 := Rat.le_trans (mag_le _).2.2 h1
 have n2 : 0 ≤ S2 := Rat.le_trans (mag_le _).2.2 h2
 have n3 : 0 ≤ S3 := Rat.le_trans (mag_le _).2.2 h3
 have p1 := rd_near hp h1
 have q1 := rd_near hq h2
 have r1 := rd_near hr h3
 have p2 := rd_size hp h1
 have q2 := rd_size hq h2
 have r2 := rd_size hr h3
 have s1 := rd_near hs (mag_add p2 q2)
 have s2 := rd_size hs (mag_add p2 q2)
 have d1 := rd_near hd (mag_add s2 r2)
 obtain ⟨a1', b1'⟩ := tiny_mul u0 u1 n1
 obtain ⟨a2', b2'⟩ := tiny_mul u0 u1 n2
 obtain ⟨a3', b3'⟩ := tiny_mul u0 u1 n3
 obtain ⟨at', bt'⟩ := tiny_mul u0 u1 t0
 obtain ⟨c1, e1⟩ := tiny_mul u0 u1 a1'
 obtain ⟨c2, e2⟩ := tiny_mul u0 u1 a2'
 obtain ⟨c3, e3⟩ := tiny_mul u0 u1 a3'
 obtain ⟨ct, et⟩ := tiny_mul u0 u1 at'
 obtain ⟨f1, g1⟩ := tiny_mul u0 u1 c1
 obtain ⟨f2, g2⟩ := tiny_mul u0 u1 c2
 obtain ⟨ft, gt⟩ := tiny_mul u0 u1 ct
 have x := mag_add (mag_add (mag_add (mag_add p1 q1) r1) s1) d1
 have e : p - a1 * b1 + (q - a2 * b2) + (r - a3 * b3) + (s - (p + q)) + (d - (s + r)) = d - (a1 * b1 + a2 * b2 + a3 * b3) := by grind
 rw [e] at x
 refine Rat.le_trans x ?_
 grind
end Pol
