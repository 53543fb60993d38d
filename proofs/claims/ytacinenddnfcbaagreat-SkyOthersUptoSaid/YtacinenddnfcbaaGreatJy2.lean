/- Proved here: what the texts Qtr, Nwd, Nea, Qwd, Reg, Accm, Put, Acc, Add, Mul, AccP, AccRm, AccS prove, one behind the other. -/
import Derived.Test.YtacinenddnfcbaaGreatJy1
import Derived.Deep.RegionHeld3
import Derived.Test.YtacinenddnfcbaaGreatRows
import Derived.WalkKit
import Derived.WalkLawsBesides
import Derived.ProofKit
import Derived.OpenShut
import Derived.Laws.Externs
import Derived.Lib.Hide
import Derived.IntWalk
import Derived.Laws.BitsAllLaws
import Derived.Shelf.Spec.BitsCarry
import Derived.Deep.RegionLaw
import Derived.Shelf.Bits.Mul64
import Derived.WalkSmall

set_option maxRecDepth 100000
namespace Go.Proofs.YtacinenddnfcbaaGreat
open Ieee.Own

def kq (H v : Int) : Int := if H < v % (2 * H) ∨ (v % (2 * H) = H ∧ v / (2 * H) % 2 = 1) then v / (2 * H) + 1 else v / (2 * H)
def rq (H v : Int) : Int := v - 2 * H * kq H v

theorem rq_bd {H : Int} (hH : 0 < H) (v : Int) : -H ≤ rq H v ∧ rq H v ≤ H ∧ (rq H v = H ∨ rq H v = -H → kq H v % 2 = 0) := by
 have h1 := Int.mul_ediv_add_emod v (2 * H)
 have h2 := Int.emod_nonneg v (show 2 * H ≠ 0 by omega)
 have h3 := Int.emod_lt_of_pos v (show 0 < 2 * H by omega)
 unfold rq kq
 generalize v / (2 * H) = f at *
 generalize v % (2 * H) = m at *
 split
 · rename_i h
   have e : 2 * H * (f + 1) = 2 * H * f + 2 * H := by rw [Int.mul_add, Int.mul_one]
   rw [e]
   generalize 2 * H * f = T at *
   omega
 · rename_i h
   generalize 2 * H * f = T at *
   omega

theorem kq_uniq {H v k r : Int} (hH : 0 < H) (e : v = 2 * H * k + r) (h1 : -H ≤ r) (h2 : r ≤ H) (h3 : r = H ∨ r = -H → k % 2 = 0) :
 kq H v = k ∧ rq H v = r := by
 have b := rq_bd hH v
 have d : v = 2 * H * kq H v + rq H v := by unfold rq; omega
 generalize kq H v = j at *
 generalize rq H v = s at *
 obtain ⟨b1, b2, b3⟩ := b
 have q : 2 * H * (j - k) = r - s := by rw [Int.mul_sub]; omega
 have lo : -2 < j - k := by
  by_cases h : j - k ≤ -2
  · have := Int.mul_le_mul_of_nonneg_left h (show 0 ≤ 2 * H by omega); omega
  · omega
 have hi : j - k < 2 := by
  by_cases h : 2 ≤ j - k
  · have := Int.mul_le_mul_of_nonneg_left h (show 0 ≤ 2 * H by omega); omega
  · omega
 rcases (by omega : j - k = -1 ∨ j - k = 0 ∨ j - k = 1) with h | h | h
 · rw [h] at q; omega
 · rw [h] at q; omega
 · rw [h] at q; omega

theorem kq_neg {H : Int} (hH : 0 < H) (v : Int) : kq H (-v) = -kq H v ∧ rq H (-v) = -rq H v := by
 have b := rq_bd hH v
 refine kq_uniq hH ?_ (by omega) (by omega) ?_
 · unfold rq; rw [Int.mul_neg]; omega
 · intro h
   have := b.2.2 (by omega)
   omega

def eig : Int := 2 ^ 1071
theorem eig_pos : 0 < eig := Int.pow_pos (by omega)

theorem says_of (b : Nat) : Ply.Says (Q b) (kq eig (V b)) ((rq eig (V b) : Rat) / unit) := by
 have h := rq_bd eig_pos (V b)
 have e : V b = 2 * eig * kq eig (V b) + rq eig (V b) := by unfold rq; omega
 have u8 : unit = 8 * (eig : Rat) := by decide +kernel
 have up := unit_pos
 refine ⟨?_, ?_, ?_⟩
 · have e' := congrArg (fun z : Int => (z : Rat)) e
   simp only [Rat.intCast_add, Rat.intCast_mul] at e'
   have two : ((2 : Int) : Rat) = 2 := by decide +kernel
   rw [two] at e'
   have q : Q b * unit = ((kq eig (V b) : Rat) / 4 + (rq eig (V b) : Rat) / unit) * unit := by
    rw [Q_unit, Rat.add_mul, mul_unit, e', u8]
    generalize (eig : Rat) = E
    generalize (kq eig (V b) : Rat) = K
    grind
   have := congrArg (· / unit) q
   simpa only [unit_div] using this
 · have a := Rat.intCast_le_intCast.2 h.1
   rw [Rat.intCast_neg] at a
   have := div_le a
   have z : -(eig : Rat) / unit = -(1/8) := by decide +kernel
   rw [z] at this
   exact this
 · have a := Rat.intCast_le_intCast.2 h.2.1
   have := div_le a
   have z : (eig : Rat) / unit = 1/8 := by decide +kernel
   rw [z] at this
   exact this

theorem rq_rep {v : Int} (h : Rep v) : Rep (rq eig v) := by
 obtain ⟨p, hp, hb⟩ := Rep_place h
 have b := rq_bd eig_pos v
 by_cases k0 : kq eig v = 0
 · have : rq eig v = v := by unfold rq; rw [k0]; omega
   rw [this]; exact h
 · -- then v is an eighth at least
   have big : eig ≤ (v.natAbs : Int) := by
    have e : v = 2 * eig * kq eig v + rq eig v := by unfold rq; omega
    have ep := eig_pos
    generalize kq eig v = k at *
    generalize rq eig v = r at *
    generalize eig = H at *
    rcases (by omega : 1 ≤ k ∨ k ≤ -1) with q | q
    · have := Int.mul_le_mul_of_nonneg_left q (show 0 ≤ 2 * H by omega); omega
    · have := Int.mul_le_mul_of_nonneg_left q (show 0 ≤ 2 * H by omega); omega
   by_cases hp2 : p ≤ 1072
   · refine Rep_of_dvd (f := p) ?_ ?_
     · have d : (2 : Int) ^ p ∣ 2 * eig * kq eig v := by
        have : (2 : Int) * eig = 2 ^ p * 2 ^ (1072 - p) := by
           rw [← Int.pow_add, show p + (1072 - p) = 1072 by omega]; decide +kernel
        rw [this, Int.mul_assoc]; exact Int.dvd_mul_right _ _
       exact Int.dvd_sub hp d
     · omega
   · -- v is a whole number of quarters: no rest
     have d : (2 : Int) * eig ∣ v := by
        have e : (2 : Int) ^ p = 2 * eig * 2 ^ (p - 1072) := by
         have : (2 : Int) * eig = 2 ^ 1072 := by decide +kernel
         rw [this, ← Int.pow_add, show 1072 + (p - 1072) = p by omega]
        rw [e] at hp
        exact Int.dvd_trans (Int.dvd_mul_right _ _) hp
     obtain ⟨c, hc⟩ := d
     have := (kq_uniq (H := eig) (v := v) (k := c) (r := 0) eig_pos (by omega) (by have := eig_pos; omega) (by have := eig_pos; omega) (by have := eig_pos; omega)).2
     rw [this]; exact Rep_zero

end Go.Proofs.YtacinenddnfcbaaGreat

namespace Go.Proofs.YtacinenddnfcbaaGreat
open Ieee.Own

structure Wd (b p k : Nat) : Prop where
 fin : FinW b
 dvd : (2 : Int) ^ p ∣ V b
 abs : (V b).natAbs ≤ 2 ^ k

def mX (a b : Nat) : Nat := (Ieee.double.mul a b).getD 0
def aX (a b : Nat) : Nat := (Ieee.double.add a b).getD 0

theorem abs_eq {a b n : Int} {d : Nat} (h : a * b = n * 2 ^ d) : a.natAbs * b.natAbs = n.natAbs * 2 ^ d := by
 rw [← Int.natAbs_mul, h, Int.natAbs_mul, Int.natAbs_pow]; rfl
theorem two_dbl {m n : Nat} (h : m + 1 ≤ n) : 2 * 2 ^ m ≤ 2 ^ n := by
 rw [← two_succ]; exact two_le h
theorem pow_cap {n m d : Nat} (hd : d ≤ m) (h : n * 2 ^ d ≤ 2 ^ m) : n ≤ 2 ^ (m - d) := by
 obtain ⟨k, rfl⟩ := Nat.exists_eq_add_of_le hd
 rw [Nat.pow_add, Nat.mul_comm] at h
 have := Nat.le_of_mul_le_mul_left h (Nat.two_pow_pos d)
 rwa [Nat.add_sub_cancel_left]
theorem mul_cap {a b n t : Nat} (h : a ≤ t) (e : a * b = n * t) (ht : 0 < t) : n ≤ b := by
 have := Nat.mul_le_mul_right b h
 rw [e, Nat.mul_comm] at this
 exact Nat.le_of_mul_le_mul_left this ht

theorem Wd.le {b p k q l : Nat} (h : Wd b p k) (hp : q ≤ p) (hk : k ≤ l) : Wd b q l := by
 refine ⟨h.fin, Int.dvd_trans ?_ h.dvd, Nat.le_trans h.abs (two_le hk)⟩
 rw [show p = q + (p - q) by omega, Int.pow_add]
 exact Int.dvd_mul_right _ _

theorem Wd.mul {a b p k q l : Nat} (h : Wd a p k) (g : Wd b q l) (e : 1074 ≤ p + q) (u : k + l < 3100) (u2 : 1074 ≤ k + l) :
    Ieee.double.mul a b = some (mX a b) ∧ Wd (mX a b) (p + q - 1074) (k + l - 1074) ∧ Rld (Q (mX a b)) (Q a * Q b) := by
  obtain ⟨c, hc⟩ := h.dvd
  obtain ⟨d, hd⟩ := g.dvd
  have eN : V a * V b = (2 ^ (p + q - 1074) * (c * d)) * 2 ^ 1074 := by
    rw [hc, hd]
    have : (2 : Int) ^ p * 2 ^ q = 2 ^ (p + q - 1074) * 2 ^ 1074 := by
      rw [← Int.pow_add, ← Int.pow_add, show p + q - 1074 + 1074 = p + q by omega]
    calc 2 ^ p * c * (2 ^ q * d) = (2 ^ p * 2 ^ q) * (c * d) := by
          simp only [Int.mul_assoc, Int.mul_left_comm c]
      _ = 2 ^ (p + q - 1074) * 2 ^ 1074 * (c * d) := by rw [this]
      _ = 2 ^ (p + q - 1074) * (c * d) * 2 ^ 1074 := by
          simp only [Int.mul_assoc, Int.mul_comm (2 ^ 1074)]
  generalize hN : (2 : Int) ^ (p + q - 1074) * (c * d) = N at eN
  have bd : N.natAbs ≤ 2 ^ (k + l - 1074) := by
    have h1 : (V a).natAbs * (V b).natAbs ≤ 2 ^ k * 2 ^ l := Nat.mul_le_mul h.abs g.abs
    rw [abs_eq eN, ← Nat.pow_add] at h1
    exact pow_cap (by omega) h1
  obtain ⟨r, h1, h2, h3⟩ := mulW h.fin g.fin eN bd (by omega)
  have er : mX a b = r := by unfold mX; rw [h1]; rfl
  rw [er]
  refine ⟨h1, ⟨h2, ?_, ?_⟩, mul_rel eN h3⟩
  · rw [h3]; exact RN_dvd (by rw [← hN]; exact Int.dvd_mul_right _ _)
  · rw [h3]; exact RN_bound bd

theorem Wd.add {a b p k : Nat} (h : Wd a p k) (g : Wd b p k) (u : k < 2000) :
 Ieee.double.add a b = some (aX a b) ∧ Wd (aX a b) p (k + 1) ∧ Rld (Q (aX a b)) (Q a + Q b) := by
 obtain ⟨r, h1, h2, h3, h4⟩ := addW h.fin g.fin h.abs g.abs u
 have er : aX a b = r := by unfold aX; rw [h1]; rfl
 rw [er]
 exact ⟨h1, ⟨h2, by rw [h3]; exact RN_dvd (Int.dvd_add h.dvd g.dvd), h4⟩, add_rel h3⟩

theorem dvd_big {b m : Nat} (h : 2 ^ (m + 53) ≤ (V b).natAbs) : (2 : Int) ^ m ∣ V b := by
 obtain ⟨k, e, h1, h2⟩ := Rep_V b
 have he : m ≤ e := by
  by_cases q : m ≤ e
  · exact q
  · exfalso
    have a1 : k * 2 ^ e ≤ 2 ^ 53 * 2 ^ e := Nat.mul_le_mul_right _ h1
    rw [← Nat.pow_add] at a1
    have a2 : 2 ^ (53 + e) < 2 ^ (m + 53) := Nat.pow_lt_pow_right (by omega) (by omega)
    omega
 apply Int.natAbs_dvd_natAbs.1
 rw [Int.natAbs_pow, h2, show e = m + (e - m) by omega, Nat.pow_add, ← Nat.mul_assoc, Nat.mul_right_comm]
 exact Nat.dvd_mul_left _ _

def horW (z : Nat) : List Nat → Nat
 | [] => 0
 | [a] => a
 | a :: al => aX a (mX z (horW z al))

def Grow : List Nat → Prop
 | [] => True
 | [a] => FinW a ∧ 2 ^ 1020 ≤ (V a).natAbs ∧ (V a).natAbs ≤ 2 ^ 1073
 | a :: b :: al => FinW a ∧ (V a).natAbs ≤ 2 ^ 1073 ∧ 8 * (V b).natAbs ≤ (V a).natAbs ∧ Grow (b :: al)

theorem Grow.head {a : Nat} {al : List Nat} (h : Grow (a :: al)) : FinW a ∧ 2 ^ 1020 ≤ (V a).natAbs ∧ (V a).natAbs ≤ 2 ^ 1073 := by
 induction al generalizing a with
 | nil => exact h
 | cons b al ih =>
   obtain ⟨h1, h2, h3, h4⟩ := h
   have := ih h4
   exact ⟨h1, by omega, h2⟩

theorem hor_step {z : Nat} (hz : Wd z 470 1074) : ∀ (al : List Nat) (a : Nat), Grow (a :: al) →
    FinW (horW z (a :: al)) ∧ (V a).natAbs ≤ 2 * (V (horW z (a :: al))).natAbs ∧ (V (horW z (a :: al))).natAbs ≤ 2 * (V a).natAbs ∧ Wd (horW z (a :: al)) 960 1074 ∧
    Hor (Q z) ((a :: al).map Q) (Q (horW z (a :: al)))
  | [], a, h => by
    have hh := h.head
    refine ⟨hh.1, by show _ ≤ 2 * (V a).natAbs; omega, by show (V a).natAbs ≤ _; omega, ⟨hh.1, dvd_big (b := a) (by have := two_le (a := 960 + 53) (b := 1020) (by omega); omega), by have := two_le (a := 1073) (b := 1074) (by omega); show (V a).natAbs ≤ _; omega⟩, rfl⟩
  | b :: al, a, h => by
    obtain ⟨h1, h2, h3, h4⟩ := h
    have hh := Grow.head (a := a) (al := b :: al) ⟨h1, h2, h3, h4⟩
    obtain ⟨f, l, u, w, r⟩ := hor_step hz al b h4
    have ew : horW z (a :: b :: al) = aX a (mX z (horW z (b :: al))) := rfl
    rw [ew]
    generalize hq : horW z (b :: al) = q at *
    obtain ⟨-, M, RM⟩ := hz.mul w (by omega) (by omega) (by omega)
    have A : Wd a 960 1074 := ⟨h1, dvd_big (by have := two_le (a := 960 + 53) (b := 1020) (by omega); omega), by have := two_le (a := 1073) (b := 1074) (by omega); omega⟩
    have M' := M.le (q := 356) (l := 1074) (by omega) (by omega)
    -- the product's size
    have MB : 4 * (V (mX z q)).natAbs ≤ 5 * (V q).natAbs := by
      obtain ⟨c, hc⟩ := hz.dvd
      obtain ⟨d, hd⟩ := w.dvd
      have eN : V z * V q = (2 ^ 356 * (c * d)) * 2 ^ 1074 := by
        rw [hc, hd]
        have : (2 : Int) ^ 470 * 2 ^ 960 = 2 ^ 356 * 2 ^ 1074 := by rw [← Int.pow_add, ← Int.pow_add]
        calc 2 ^ 470 * c * (2 ^ 960 * d) = (2 ^ 470 * 2 ^ 960) * (c * d) := by
              simp only [Int.mul_assoc, Int.mul_left_comm c]
          _ = 2 ^ 356 * 2 ^ 1074 * (c * d) := by rw [this]
          _ = 2 ^ 356 * (c * d) * 2 ^ 1074 := by
              simp only [Int.mul_assoc, Int.mul_comm (2 ^ 1074)]
      generalize (2 : Int) ^ 356 * (c * d) = N at eN
      have nb : N.natAbs ≤ (V q).natAbs := by
        have h1 := abs_eq eN
        have h0 := hz.abs
        have h2 := Nat.two_pow_pos 1074
        revert h1 h0 h2
        generalize (2 : Nat) ^ 1074 = T
        intro h1 h0 h2
        exact mul_cap h0 h1 h2
      have bd : N.natAbs ≤ 2 ^ 1074 := Nat.le_trans nb w.abs
      obtain ⟨r, h1, h2, h3⟩ := mulW hz.fin w.fin eN bd (by omega)
      have er : mX z q = r := by unfold mX; rw [h1]; rfl
      rw [er, h3]
      have := RN_rel N
      omega
    obtain ⟨-, S, RS⟩ := (A.le (q := 356) (l := 1074) (by omega) (by omega)).add M' (by omega)
    obtain ⟨r', h1', h2', h3', -⟩ := addW A.fin M'.fin A.abs M'.abs (by omega)
    have er : aX a (mX z q) = r' := by unfold aX; rw [h1']; rfl
    have sz := RN_rel (V a + V (mX z q))
    have e3 : V (aX a (mX z q)) = RN (V a + V (mX z q)) := by rw [er]; exact h3'
    rw [← e3] at sz
    have lo : (V a).natAbs ≤ 2 * (V (aX a (mX z q))).natAbs := by omega
    have hi : (V (aX a (mX z q))).natAbs ≤ 2 * (V a).natAbs := by omega
    refine ⟨S.fin, lo, hi, ⟨S.fin, dvd_big ?_, ?_⟩, ?_⟩
    · have e1 := two_dbl (m := 960 + 53) (n := 1020) (by omega)
      omega
    · have e1 := two_dbl (m := 1073) (n := 1074) (by omega)
      omega
    · exact ⟨Q q, Q (mX z q), r, RM, RS⟩

end Go.Proofs.YtacinenddnfcbaaGreat

namespace Go.Proofs.YtacinenddnfcbaaGreat
open Ieee.Own

theorem hor_some {z a b : Nat} {al : List Nat} (hz : Wd z 470 1074) (h : Grow (a :: b :: al)) :
 Ieee.double.mul z (horW z (b :: al)) = some (mX z (horW z (b :: al))) ∧
 Ieee.double.add a (mX z (horW z (b :: al))) = some (horW z (a :: b :: al)) := by
 obtain ⟨h1, h2, h3, h4⟩ := h
 have hh := Grow.head (a := a) (al := b :: al) ⟨h1, h2, h3, h4⟩
 obtain ⟨f, l, u, w, r⟩ := hor_step hz al b h4
 obtain ⟨e1, M, -⟩ := hz.mul w (by omega) (by omega) (by omega)
 have A : Wd a 356 1074 := (⟨h1, dvd_big (m := 960) (by have := two_le (a := 960 + 53) (b := 1020) (by omega); omega), by have := two_le (a := 1073) (b := 1074) (by omega); omega⟩ : Wd a 960 1074).le (by omega) (by omega)
 obtain ⟨e2, -, -⟩ := A.add (M.le (q := 356) (l := 1074) (by omega) (by omega)) (by omega)
 exact ⟨e1, e2⟩

theorem grow_sin : Grow sinW := by
 unfold sinW
 simp only [Grow]
 unfold FinW
 decide +kernel
theorem grow_cos : Grow cosW := by
 unfold cosW
 simp only [Grow]
 unfold FinW
 decide +kernel

theorem tau_wd : Wd tauW 1024 1077 := by
 refine ⟨by unfold FinW tauW; decide +kernel, ?_, by decide +kernel⟩
 exact ⟨V tauW / 2 ^ 1024, by decide +kernel⟩
def oneW : Nat := 4607182418800017408
theorem one_wd : Wd oneW 1024 1074 := by
 refine ⟨by unfold FinW oneW; decide +kernel, ?_, by decide +kernel⟩
 exact ⟨2 ^ 50, by decide +kernel⟩
theorem one_Q : Q oneW = 1 := by decide +kernel

def yW (r : Nat) : Nat := mX r tauW
def zW (r : Nat) : Nat := mX (yW r) (yW r)
def pW (r : Nat) : Nat := horW (zW r) sinW
def qW (r : Nat) : Nat := horW (zW r) cosW
def sinX (r : Nat) : Nat := aX (yW r) (mX (yW r) (mX (zW r) (pW r)))
def cosX (r : Nat) : Nat := aX oneW (mX (zW r) (qW r))

structure Rest (r : Nat) : Prop where
 fin : FinW r
 dvd : (2 : Int) ^ 822 ∣ V r
 abs : (V r).natAbs ≤ 2 ^ 1071

theorem pw_cast {x : Int} {n : Nat} (h : x.natAbs ≤ 2 ^ n) : -(2 ^ n) ≤ x ∧ x ≤ 2 ^ n := by
 have e : ((2 : Int) ^ n).natAbs = 2 ^ n := Int.natAbs_pow 2 n
 have p : (0 : Int) ≤ 2 ^ n := Int.pow_nonneg (by omega)
 omega
theorem Rest.Q_bd {r : Nat} (h : Rest r) : -(1/8) ≤ Q r ∧ Q r ≤ 1/8 := by
 have a := pw_cast h.abs
 have l : -eig ≤ V r := a.1
 have u : V r ≤ eig := a.2
 have l' := div_le (Rat.intCast_le_intCast.2 l)
 have u' := div_le (Rat.intCast_le_intCast.2 u)
 rw [Rat.intCast_neg] at l'
 have z1 : -(eig : Rat) / unit = -(1/8) := by decide +kernel
 have z2 : (eig : Rat) / unit = 1/8 := by decide +kernel
 rw [z1] at l'
 rw [z2] at u'
 exact ⟨l', u'⟩

structure Near (r : Nat) : Prop where
 y : Ieee.double.mul r tauW = some (yW r)
 z : Ieee.double.mul (yW r) (yW r) = some (zW r)
 zw : Wd (zW r) 470 1074
 zp : Ieee.double.mul (zW r) (pW r) = some (mX (zW r) (pW r))
 yzp : Ieee.double.mul (yW r) (mX (zW r) (pW r)) = some (mX (yW r) (mX (zW r) (pW r)))
 s : Ieee.double.add (yW r) (mX (yW r) (mX (zW r) (pW r))) = some (sinX r)
 zq : Ieee.double.mul (zW r) (qW r) = some (mX (zW r) (qW r))
 c : Ieee.double.add oneW (mX (zW r) (qW r)) = some (cosX r)
 sw : Wd (sinX r) 54 1075
 cw : Wd (cosX r) 356 1075
 pb : -(1/2) ≤ Q (pW r) ∧ Q (pW r) ≤ 1/2
 zb : -1 ≤ Q (zW r) ∧ Q (zW r) ≤ 1
 ry : Rld (Q (yW r)) (Q r * Q tauW)
 rzp : Rld (Q (mX (zW r) (pW r))) (Q (zW r) * Q (pW r))
 ryzp : Rld (Q (mX (yW r) (mX (zW r) (pW r)))) (Q (yW r) * Q (mX (zW r) (pW r)))
 rs : Rld (Q (sinX r)) (Q (yW r) + Q (mX (yW r) (mX (zW r) (pW r))))
 sn : Ap (Q (sinX r)) (Ply.s (Ply.tau * Q r)) (mkRat 1 (2^51)) 1
 cn : Ap (Q (cosX r)) (Ply.c (Ply.tau * Q r)) (mkRat 1 (2^50)) 1
 yw : Wd (yW r) 54 1074
 bw : Wd (mX (yW r) (mX (zW r) (pW r))) 54 1074

theorem Rest.near {r : Nat} (h : Rest r) : Near r := by
 have R : Wd r 822 1071 := ⟨h.fin, h.dvd, h.abs⟩
 obtain ⟨y1, Y, y3⟩ := R.mul tau_wd (by omega) (by omega) (by omega)
 have hy : mX r tauW = yW r := rfl
 rw [hy] at y1 Y y3
 replace Y := Y.le (q := 772) (l := 1074) (by omega) (by omega)
 obtain ⟨z1, Z, z3⟩ := Y.mul Y (by omega) (by omega) (by omega)
 have hz : mX (yW r) (yW r) = zW r := rfl
 rw [hz] at z1 Z z3
 replace Z := Z.le (q := 470) (l := 1074) (by omega) (by omega)
 obtain ⟨-, -, pu, P, hp⟩ := hor_step Z _ _ grow_sin
 obtain ⟨-, -, -, C, hc⟩ := hor_step Z _ _ grow_cos
 have ep : horW (zW r) sinW = pW r := rfl
 have eq : horW (zW r) cosW = qW r := rfl
 change Wd (horW (zW r) sinW) 960 1074 at P
 change (V (horW (zW r) sinW)).natAbs ≤ _ at pu
 change Wd (horW (zW r) cosW) 960 1074 at C
 change Hor (Q (zW r)) (sinW.map Q) (Q (horW (zW r) sinW)) at hp
 change Hor (Q (zW r)) (cosW.map Q) (Q (horW (zW r) cosW)) at hc
 rw [ep] at P hp pu
 rw [eq] at C hc
 obtain ⟨a1, A, a3⟩ := Z.mul P (by omega) (by omega) (by omega)
 replace A := A.le (q := 356) (l := 1074) (by omega) (by omega)
 obtain ⟨b1, B, b3⟩ := Y.mul A (by omega) (by omega) (by omega)
 replace B := B.le (q := 54) (l := 1074) (by omega) (by omega)
 obtain ⟨s1, S, s3⟩ := (Y.le (q := 54) (l := 1074) (by omega) (by omega)).add B (by omega)
 obtain ⟨d1, D, d3⟩ := Z.mul C (by omega) (by omega) (by omega)
 replace D := D.le (q := 356) (l := 1074) (by omega) (by omega)
 obtain ⟨c1, CC, c3⟩ := (one_wd.le (q := 356) (l := 1074) (by omega) (by omega)).add D (by omega)
 rw [one_Q] at c3
 have b := h.Q_bd
 have pb : -(1/2) ≤ Q (pW r) ∧ Q (pW r) ≤ 1/2 := by
  have e1 : (V (pW r)).natAbs ≤ 2 ^ 1073 := Nat.le_trans pu (by decide +kernel)
  have a := pw_cast e1
  have l' := div_le (Rat.intCast_le_intCast.2 a.1)
  have u' := div_le (Rat.intCast_le_intCast.2 a.2)
  have z1 : (((-(2 ^ 1073) : Int) : Int) : Rat) / unit = -(1/2) := by decide +kernel
  have z2 : (((2 ^ 1073 : Int) : Int) : Rat) / unit = 1/2 := by decide +kernel
  rw [z1] at l'
  rw [z2] at u'
  exact ⟨l', u'⟩
 have zb : -1 ≤ Q (zW r) ∧ Q (zW r) ≤ 1 := by
  have a := pw_cast Z.abs
  have l' := div_le (Rat.intCast_le_intCast.2 a.1)
  have u' := div_le (Rat.intCast_le_intCast.2 a.2)
  have z1 : (((-(2 ^ 1074) : Int) : Int) : Rat) / unit = -1 := by decide +kernel
  have z2 : (((2 ^ 1074 : Int) : Int) : Rat) / unit = 1 := by decide +kernel
  rw [z1] at l'
  rw [z2] at u'
  exact ⟨l', u'⟩
 exact ⟨y1, z1, Z, a1, b1, s1, d1, c1, S, CC, pb, zb, y3, a3, b3, s3, near_sine b.1 b.2 y3 z3 hp a3 b3 s3, near_cosine b.1 b.2 y3 z3 hc d3 c3, Y.le (by omega) (by omega), B⟩

end Go.Proofs.YtacinenddnfcbaaGreat

namespace Go.Proofs.YtacinenddnfcbaaGreat
open Ieee.Own

def fourW : Nat := 4616189618054758400
theorem four_wd : Wd fourW 1076 1076 := by
 refine ⟨by unfold FinW fourW; decide +kernel, ⟨1, by decide +kernel⟩, by decide +kernel⟩
theorem four_V : V fourW = 2 ^ 1076 := by decide +kernel
theorem norm_big {b : Nat} (h : FinW b) (hb : 2 ^ 52 ≤ (V b).natAbs) : 4503599627370496 ≤ b % 9223372036854775808 := by
 rw [V_abs' b h] at hb
 by_cases q : b % 9223372036854775808 < 2 ^ 52
 · unfold val mg ex at hb
   rw [if_pos q, if_pos q] at hb
   omega
 · omega

theorem pw_abs (n : Nat) : ((2 : Int) ^ n).natAbs = 2 ^ n := Int.natAbs_pow 2 n
theorem mul_pow {a k : Nat} (h : a ≤ 2 ^ k) (n : Nat) : a * 2 ^ n ≤ 2 ^ (k + n) := by
 rw [Nat.pow_add]; exact Nat.mul_le_mul_right _ h
theorem absk {v k : Int} {n : Nat} (h : v = k * 2 ^ n) : v.natAbs = k.natAbs * 2 ^ n := by
 rw [h, Int.natAbs_mul, Int.natAbs_pow]; rfl
theorem four_up (k : Int) {a b : Nat} (h : b = a + 2) : k * 2 ^ a * 4 = k * 2 ^ b := by
 subst h; rw [Int.pow_add, Int.mul_assoc]; rfl

theorem quarter_div {b : Nat} {K : Int} (h : FinW b) (hv : V b = K * 2 ^ 1074) (hK : K.natAbs ≤ 2 ^ 43) :
 ∃ q, Ieee.double.div b fourW = some q ∧ FinW q ∧ V q = K * 2 ^ 1072 := by
 by_cases h0 : K = 0
 · subst h0
   obtain ⟨r, h1, h2, h3⟩ := div_zero (b := fourW) h (by rw [hv]; omega) four_wd.fin (by rw [four_V]; exact Int.ne_of_gt (Int.pow_pos (by omega)))
   exact ⟨r, h1, h2, by rw [h3]; omega⟩
 · have va := absk hv
   have big : 2 ^ 1074 ≤ (V b).natAbs := by
    rw [va]; exact Nat.le_mul_of_pos_left _ (by omega)
   have N := norm_of h (norm_big h (by have := two_le (a := 52) (b := 1074) (by omega); omega))
   have F : Norm fourW false (2 ^ 52) 1024 := norm_of four_wd.fin (by unfold fourW; omega)
   generalize decide (9223372036854775808 ≤ b) = s at N
   generalize 4503599627370496 + b % 4503599627370496 = m at N
   generalize b % 9223372036854775808 / 4503599627370496 - 1 = p at N
   have hp : 1022 ≤ p := by
    by_cases q : 1022 ≤ p
    · exact q
    · exfalso
      rw [N.val, sv_abs] at big
      have a1 : m * 2 ^ p < 2 ^ 53 * 2 ^ p := Nat.mul_lt_mul_of_pos_right N.hi (Nat.two_pow_pos p)
      rw [← Nat.pow_add] at a1
      have := two_le (a := 53 + p) (b := 1074) (by omega)
      omega
   have hp2 : p ≤ 2024 := by
    by_cases q : p ≤ 2024
    · exact q
    · exfalso
      have a1 : 2 ^ 52 * 2 ^ p ≤ m * 2 ^ p := Nat.mul_le_mul_right _ N.lo
      have a2 := mul_pow hK 1074
      have a3 := va
      rw [N.val, sv_abs] at a3
      rw [← Nat.pow_add] at a1
      have := two_dbl (m := 43 + 1074) (n := 52 + p) (by omega)
      have := Nat.two_pow_pos (43 + 1074)
      omega
   obtain ⟨r, Q, u, h1, h2, h3, u1, u2, q1, q2, q3, q4⟩ := div_spec N F (by omega) (by omega)
   refine ⟨r, h1, h2, ?_⟩
   have m0 := N.lo
   have m1 := N.hi
   have sx : (s ^^ false) = s := by cases s <;> rfl
   rw [sx] at h3
   -- the quotient is the number itself, two places down
   have key : sv s Q (1074 + p - 1024 - u) * 4 = V b := by
    rw [N.val]
    obtain ⟨t, ht⟩ : ∃ t, p = t + 2 := ⟨p - 2, by omega⟩
    have hq : Q * 2 ^ (1074 + p - 1024 - u) = m * 2 ^ t := by
        rcases (by omega : u = 52 ∨ u = 53) with e | e
        · subst e
          have : Q = m := by omega
          rw [this, show 1074 + p - 1024 - 52 = t by omega]
        · subst e
          have : Q = 2 * m := by omega
          rw [this, show 1074 + p - 1024 - 53 = t - 1 by omega]
          obtain ⟨t', rfl⟩ : ∃ t', t = t' + 1 := ⟨t - 1, by omega⟩
          rw [Nat.add_sub_cancel, two_succ, Nat.mul_comm 2 m, Nat.mul_assoc]
    have e4 : m * 2 ^ p = m * 2 ^ t * 4 := by rw [ht, Nat.pow_add, Nat.mul_assoc]
    unfold sv
    have hq' : (Q : Int) * 2 ^ (1074 + p - 1024 - u) = (m : Int) * 2 ^ t := by exact_mod_cast hq
    have e4' : (m : Int) * 2 ^ p = (m : Int) * 2 ^ t * 4 := by exact_mod_cast e4
    cases s
    · simp only [Bool.false_eq_true, if_false]
      first
       | rw [hq', e4']
       | (have := hq'; have := e4'; omega)
    · simp only [if_true]
      first
       | (have := hq'; have := e4'; simp only [Int.neg_mul] at *; omega)
       | omega
   have e := four_up K (a := 1072) (b := 1074) rfl
   rw [h3]
   omega

structure Ang (x : Nat) : Prop where
 fin : FinW x
 dvd : (2 : Int) ^ 822 ∣ V x
 abs : (V x).natAbs ≤ 2 ^ 1114

theorem Ang.wd {x : Nat} (h : Ang x) : Wd x 822 1114 := ⟨h.fin, h.dvd, h.abs⟩

theorem four_x {x : Nat} (h : Ang x) : Ieee.double.mul fourW x = some (mX fourW x) ∧ FinW (mX fourW x) ∧ V (mX fourW x) = 4 * V x := by
 obtain ⟨h1, W, -⟩ := four_wd.mul h.wd (by omega) (by omega) (by omega)
 have eN : V fourW * V x = (4 * V x) * 2 ^ 1074 := by
  rw [four_V, Int.mul_comm, ← four_up 1 (a := 1074) (b := 1076) rfl |>.trans (Int.one_mul _)]
  generalize (2 : Int) ^ 1074 = T
  rw [Int.one_mul, Int.mul_comm T 4, ← Int.mul_assoc, Int.mul_comm (V x) 4]
 have bd : (4 * V x).natAbs ≤ 2 ^ 1116 := by
  have a := h.abs
  have b := two_dbl (m := 1114) (n := 1115) (by omega)
  have c := two_dbl (m := 1115) (n := 1116) (by omega)
  omega
 obtain ⟨r, h1, h2, h3⟩ := mulW four_wd.fin h.fin eN bd (by omega)
 have er : mX fourW x = r := by unfold mX; rw [h1]; rfl
 rw [er]
 refine ⟨h1, h2, ?_⟩
 rw [h3]
 have := Rep_mul _ 2 (Rep_V x)
 have e : V x * 2 ^ 2 = 4 * V x := by omega
 rw [e] at this
 exact RN_exact this

def fl (x : Nat) : Int := V x / (2 * eig)

theorem eig2 : 2 * eig = 2 ^ 1072 := by decide +kernel

theorem kq_bd {x : Nat} (h : Ang x) : (kq eig (V x)).natAbs ≤ 2 ^ 43 := by
 have a := pw_cast h.abs
 have b := rq_bd eig_pos (V x)
 have e : V x = 2 * eig * kq eig (V x) + rq eig (V x) := by unfold rq; omega
 have e1 : (2 : Int) ^ 1114 = 2 * eig * 2 ^ 42 := by decide +kernel
 have ep := eig_pos
 rw [e1] at a
 generalize kq eig (V x) = k at *
 generalize rq eig (V x) = r at *
 generalize eig = H at *
 by_cases q : k ≤ 2 ^ 42 + 1
 · by_cases q' : -(2 ^ 42 + 1) ≤ k
   · omega
   · have := Int.mul_le_mul_of_nonneg_left (show k ≤ -(2 ^ 42 + 2) by omega) (show 0 ≤ 2 * H by omega); omega
 · have := Int.mul_le_mul_of_nonneg_left (show 2 ^ 42 + 2 ≤ k by omega) (show 0 ≤ 2 * H by omega); omega

theorem rest_words {x q : Nat} (h : Ang x) (hq : FinW q) (vq : V q = kq eig (V x) * 2 ^ 1072) :
 ∃ r, Ieee.double.sub x q = some r ∧ FinW r ∧ V r = rq eig (V x) := by
 have e : V x - V q = rq eig (V x) := by
  rw [vq, ← eig2]; unfold rq; rw [Int.mul_comm (kq eig (V x))]
 have R := RN_exact (rq_rep (Rep_V x))
 have b := rq_bd eig_pos (V x)
 obtain ⟨r, g1, g2, g3⟩ := sub_spec h.fin hq (by
  rw [e]
  refine lt_top (k := 1071) ?_ (by omega)
  have p := pw_abs 1071
  have : eig = 2 ^ 1071 := rfl
  omega)
 exact ⟨r, g1, g2, by rw [g3, e, R]⟩

theorem rest_of {x r : Nat} (h : Ang x) (hr : FinW r) (vr : V r = rq eig (V x)) : Rest r := by
 have b := rq_bd eig_pos (V x)
 refine ⟨hr, ?_, ?_⟩
 · rw [vr]; unfold rq
   refine Int.dvd_sub h.dvd (Int.dvd_trans ?_ (Int.dvd_mul_right _ _))
   rw [eig2]
   exact ⟨2 ^ 250, by decide +kernel⟩
 · have p := pw_abs 1071
   have : eig = 2 ^ 1071 := rfl
   omega

end Go.Proofs.YtacinenddnfcbaaGreat

namespace Go.Proofs.YtacinenddnfcbaaGreat
open Go

def puts : List (Option Tmp) → List (Option Value) → Act → Act
 | d :: ds, some v :: L, a => puts ds L (a.put d v)
 | _ :: ds, none :: L, a => puts ds L a
 | _, _, a => a
def apartL : List (Option Tmp) → Bool
 | [] => true
 | none :: r => apartL r
 | some x :: r => !r.contains (some x) && apartL r
theorem put_size (a : Act) (d : Option Tmp) (v : Value) : (a.put d v).tmps.size = a.tmps.size := by cases d <;> simp [Act.put]
theorem puts_put {v : Value} {d : Option Tmp} : ∀ (ds : List (Option Tmp)) (L : List (Option Value)) (a : Act), (∀ x, d = some x → some x ∉ ds) → (puts ds L a).put d v = puts ds L (a.put d v)
 | [], _, _, _ => by simp [puts]
 | _ :: _, [], _, _ => by simp [puts]
 | e :: ds, none :: L, a, h => by simp only [puts]; exact puts_put ds L a fun x hx hm => h x hx (List.mem_cons_of_mem _ hm)
 | e :: ds, some u :: L, a, h => by
   simp only [puts]
   rw [puts_put ds L _ fun x hx hm => h x hx (List.mem_cons_of_mem _ hm)]
   rw [Act.put_comm a u v (x := e) (y := d)]
   intro x hx hd
   exact h x hd (by rw [hx]; exact List.mem_cons_self ..)
theorem puts_set {v : Value} : ∀ (i : Nat) (ds : List (Option Tmp)) (L : List (Option Value)) (a : Act) {d : Option Tmp}, apartL ds = true → ds[i]? = some d → L[i]? = some none → (puts ds L a).put d v = puts ds (L.set i (some v)) a
 | 0, [], _, _, _, _, h, _ => by simp at h
 | 0, _ :: _, [], _, _, _, _, h => by simp at h
 | 0, e :: ds, l :: L, a, d, hap, h, hl => by
   simp only [List.getElem?_cons_zero, Option.some.injEq] at h hl
   subst h hl
   simp only [puts, List.set_cons_zero]
   refine puts_put ds L a fun x hx hm => ?_
   subst hx
   simp only [apartL, Bool.and_eq_true, Bool.not_eq_true'] at hap
   have := hap.1
   rw [List.contains_eq_mem, decide_eq_false_iff_not] at this
   exact this hm
 | i + 1, [], _, _, _, _, h, _ => by simp at h
 | i + 1, _ :: _, [], _, _, _, _, h => by simp at h
 | i + 1, e :: ds, l :: L, a, d, hap, h, hl => by
   simp only [List.getElem?_cons_succ] at h hl
   have hap' : apartL ds = true := by
     cases e with
     | none => simpa [apartL] using hap
     | some x => simp only [apartL, Bool.and_eq_true] at hap; exact hap.2
   cases l with
   | none => simp only [puts, List.set_cons_succ]; exact puts_set i ds L a hap' h hl
   | some u => simp only [puts, List.set_cons_succ]; exact puts_set i ds L _ hap' h hl
theorem puts_old {t : Tmp} : ∀ (ds : List (Option Tmp)) (L : List (Option Value)) (a : Act), some t ∉ ds → (puts ds L a).eval (.tmp t) = a.eval (.tmp t)
 | [], _, _, _ => by simp [puts]
 | _ :: _, [], _, _ => by simp [puts]
 | _ :: ds, none :: L, a, h => by simp only [puts]; exact puts_old ds L a fun hm => h (List.mem_cons_of_mem _ hm)
 | e :: ds, some v :: L, a, h => by
   simp only [puts]
   rw [puts_old ds L _ fun hm => h (List.mem_cons_of_mem _ hm)]
   exact Act.eval_put fun d hd hx => by
     rw [Operand.tmp.injEq] at hx
     subst hx hd
     exact h (List.mem_cons_self ..)
theorem put_get {a : Act} {t : Tmp} {v : Value} (h : t < a.tmps.size) : (a.put (some t) v).eval (.tmp t) = v := by
 simp [Act.put, Act.eval, h]
theorem puts_get {t : Tmp} {v : Value} : ∀ (i : Nat) (ds : List (Option Tmp)) (L : List (Option Value)) (a : Act), apartL ds = true → ds[i]? = some (some t) → L[i]? = some (some v) → t < a.tmps.size → (puts ds L a).eval (.tmp t) = v
 | 0, [], _, _, _, h, _, _ => by simp at h
 | 0, _ :: _, [], _, _, _, h, _ => by simp at h
 | 0, e :: ds, l :: L, a, hap, h, hl, hs => by
   simp only [List.getElem?_cons_zero, Option.some.injEq] at h hl
   subst h hl
   simp only [puts]
   simp only [apartL, Bool.and_eq_true, Bool.not_eq_true'] at hap
   have := hap.1
   rw [List.contains_eq_mem, decide_eq_false_iff_not] at this
   rw [puts_old ds L _ this, put_get hs]
 | i + 1, [], _, _, _, h, _, _ => by simp at h
 | i + 1, _ :: _, [], _, _, _, h, _ => by simp at h
 | i + 1, e :: ds, l :: L, a, hap, h, hl, hs => by
   simp only [List.getElem?_cons_succ] at h hl
   have hap' : apartL ds = true := by
     cases e with
     | none => simpa [apartL] using hap
     | some x => simp only [apartL, Bool.and_eq_true] at hap; exact hap.2
   cases l with
   | none => simp only [puts]; exact puts_get i ds L a hap' h hl hs
   | some u => simp only [puts]; exact puts_get i ds L _ hap' h hl (by rw [put_size]; exact hs)

def lst (L : List (Option Value)) : Array Bool := (L.map Option.isSome).toArray
theorem lst_set {L : List (Option Value)} {i : Nat} {v : Value} : (lst L).setIfInBounds i true = lst (L.set i (some v)) := by
 unfold lst
 simp [List.setIfInBounds_toArray, List.map_set]
theorem lst_true {L : List (Option Value)} {i : Nat} (h : (lst L).getD i false = true) : ∃ v, L[i]? = some (some v) := by
 unfold lst at h
 simp only [Array.getD_eq_getD_getElem?, List.getElem?_toArray, List.getElem?_map] at h
 cases hl : L[i]? with
 | none => rw [hl] at h; simp at h
 | some o => cases o with
   | none => rw [hl] at h; simp at h
   | some v => exact ⟨v, rfl⟩
theorem lst_false {L : List (Option Value)} {i : Nat} (h : (lst L).getD i true = false) : L[i]? = some none := by
 unfold lst at h
 simp only [Array.getD_eq_getD_getElem?, List.getElem?_toArray, List.getElem?_map] at h
 cases hl : L[i]? with
 | none => rw [hl] at h; simp at h
 | some o => cases o with
   | none => rfl
   | some v => rw [hl] at h; simp at h
def open_ : List (Option Value) → Nat
 | [] => 0
 | none :: L => open_ L + 1
 | some _ :: L => open_ L
theorem open_set {v : Value} : ∀ (i : Nat) (L : List (Option Value)), L[i]? = some none → open_ (L.set i (some v)) + 1 = open_ L
 | 0, [], h => by simp at h
 | 0, l :: L, h => by
   simp only [List.getElem?_cons_zero, Option.some.injEq] at h
   subst h; rfl
 | i + 1, [], h => by simp at h
 | i + 1, l :: L, h => by
   simp only [List.getElem?_cons_succ] at h
   have := open_set (v := v) i L h
   cases l with
   | none => simp only [List.set_cons_succ, open_]; omega
   | some u => simp only [List.set_cons_succ, open_]; omega
theorem open_zero : ∀ (L : List (Option Value)), open_ L = 0 → ∀ i, i < L.length → ∃ v, L[i]? = some (some v)
 | [], _, i, h => by simp at h
 | none :: L, h0, _, _ => by simp [open_] at h0
 | some v :: L, h0, 0, _ => ⟨v, rfl⟩
 | some v :: L, h0, i + 1, h => by
   simp only [List.getElem?_cons_succ]
   exact open_zero L h0 i (by simpa using h)
def backward (ops : Array Oper) : Bool := (List.range ops.size).all fun i => ((ops[i]?).map (·.after.all fun e => !Region.binds .any e || decide (e.on < i))).getD true
def plainL (ops : Array Oper) : Bool := (List.range ops.size).all fun i => ((ops[i]?).map (·.guard.isNone)).getD true

section
variable {P : Program} {ops : Array Oper} {Q : Exit → Act → World → Prop}
theorem ready_all (hb : backward ops = true) {L : List (Option Value)} (hL : L.length = ops.size) (hr : Region.ready .any ops (lst L) = []) : ∀ n i, i < n → i < ops.size → ∃ v, L[i]? = some (some v) := by
 intro n
 induction n with
 | zero => intro i h; omega
 | succ n ih =>
   intro i hi hs
   by_cases hin : i < n
   · exact ih i hin hs
   · obtain rfl : i = n := by omega
     have hx : i ∉ Region.ready .any ops (lst L) := by rw [hr]; exact List.not_mem_nil
     cases hl : L[i]? with
     | none => rw [List.getElem?_eq_none_iff] at hl; omega
     | some o => cases o with
       | some v => exact ⟨v, rfl⟩
       | none =>
         refine absurd (mem_ready.2 ⟨?_, ops[i], Array.getElem?_eq_getElem hs, fun e he hbd => ?_⟩) hx
         · unfold lst; simp [Array.getD_eq_getD_getElem?, hl]
         · have hlt : e.on < i := by
             have h1 := (List.all_eq_true.1 hb) i (List.mem_range.2 hs)
             rw [Array.getElem?_eq_getElem hs] at h1
             simp only [Option.map_some, Option.getD_some, Array.all_eq_true] at h1
             obtain ⟨k, hk, rfl⟩ := Array.mem_iff_getElem.1 he
             have h2 := h1 k hk
             simpa [hbd] using h2
           obtain ⟨v, hv⟩ := ih e.on hlt (by omega)
           unfold lst; simp [Array.getD_eq_getD_getElem?, hv]
theorem wpAny_inv (ds : List (Option Tmp)) (hds : ops.toList.map (·.dst) = ds) (hap : apartL ds = true) (hb : backward ops = true) (hg : plainL ops = true) (a0 : Act) (W : List (Option Value) → World → Prop)
 (step : ∀ (L : List (Option Value)) (w : World) (i : Nat) (o : Oper), L.length = ops.size → ops[i]? = some o → L[i]? = some none → (∀ e ∈ o.after, Region.binds .any e = true → ∃ v, L[e.on]? = some (some v)) → W L w →
  o.wp P (puts ds L a0) w (fun a' w' => ∃ v, a' = (puts ds L a0).put o.dst v ∧ W (L.set i (some v)) w') Q)
 (fin : ∀ L w, L.length = ops.size → (∀ i, i < ops.size → ∃ v, L[i]? = some (some v)) → W L w → Q .normal (puts ds L a0) w) :
 ∀ fuel L w, L.length = ops.size → open_ L ≤ fuel → W L w → wpAny P .any ops Q fuel (lst L) (puts ds L a0) w := by
 intro fuel
 induction fuel with
 | zero =>
   intro L w hL ho hW
   have hall := open_zero L (by omega)
   refine ⟨?_, fin L w hL (fun i hi => hall i (by omega)) hW⟩
   refine List.eq_nil_iff_forall_not_mem.2 fun i hi => ?_
   obtain ⟨h1, oi, h2, -⟩ := mem_ready.1 hi
   have h3 := lst_false h1
   obtain ⟨v, hv⟩ := hall i (by have := (Array.getElem?_eq_some_iff.1 h2).1; omega)
   rw [hv] at h3; simp at h3
 | succ fuel ih =>
   intro L w hL ho hW
   refine ⟨fun hr => fin L w hL (fun i hi => ready_all hb hL hr (i + 1) i (by omega) hi) hW, fun i hi => ?_⟩
   obtain ⟨h1, o, h2, h3⟩ := mem_ready.1 hi
   have h4 := lst_false h1
   have his := (Array.getElem?_eq_some_iff.1 h2).1
   have hgi : o.guard = none := by
    have := (List.all_eq_true.1 hg) i (List.mem_range.2 his)
    rw [h2] at this
    simpa using this
   have hdi : ds[i]? = some o.dst := by rw [← hds, List.getElem?_map]; simp [h2]
   have s := step L w i o hL h2 h4 (fun e he hbd => lst_true (h3 e he hbd)) hW
   unfold wpOp
   rw [h2]
   simp only [Region.wanted, hgi, if_true]
   refine Or.inl (Oper.wp_mono (fun a' w' hh => ?_) s)
   obtain ⟨v, rfl, hW'⟩ := hh
   rw [puts_set i ds L a0 hap hdi h4, lst_set (v := v)]
   exact ih _ w' (by simpa using hL) (by have := open_set (v := v) i L h4; omega) hW'
def nones (n : Nat) : List (Option Value) := List.replicate n none
theorem puts_nones (n : Nat) : ∀ (ds : List (Option Tmp)) (a : Act), puts ds (nones n) a = a := by
 unfold nones
 induction n with
 | zero => intro ds a; cases ds <;> rfl
 | succ n ih => intro ds a; cases ds with
   | nil => rfl
   | cons d ds => simp only [List.replicate_succ, puts]; exact ih ds a
theorem open_nones (n : Nat) : open_ (nones n) = n := by
 unfold nones
 induction n with
 | zero => rfl
 | succ n ih => simp only [List.replicate_succ, open_, ih]
theorem wp_region_inv {id : Nat} {a0 : Act} {w : World} (hm : P.follows .mixedOrders = true) (ds : List (Option Tmp)) (hds : ops.toList.map (·.dst) = ds) (hap : apartL ds = true) (hb : backward ops = true) (hg : plainL ops = true)
 (W : List (Option Value) → World → Prop) (start : W (nones ops.size) w.drew)
 (step : ∀ (L : List (Option Value)) (w : World) (i : Nat) (o : Oper), L.length = ops.size → ops[i]? = some o → L[i]? = some none → (∀ e ∈ o.after, Region.binds .any e = true → ∃ v, L[e.on]? = some (some v)) → W L w →
  o.wp P (puts ds L a0) w (fun a' w' => ∃ v, a' = (puts ds L a0).put o.dst v ∧ W (L.set i (some v)) w') Q)
 (fin : ∀ L w, L.length = ops.size → (∀ i, i < ops.size → ∃ v, L[i]? = some (some v)) → W L w → Q .normal (puts ds L a0) w) : (Code.region id ops true).wp P Q a0 w := by
 have h := wpAny_inv ds hds hap hb hg a0 W step fin ops.size (nones ops.size) w.drew (by simp [nones]) (by rw [open_nones]; exact Nat.le_refl _) start
 rw [puts_nones] at h
 have e : lst (nones ops.size) = Array.replicate ops.size false := by unfold lst nones; simp
 rw [e] at h
 exact wp_region_any hm h

theorem wpAny_inv_g (ds : List (Option Tmp)) (hds : ops.toList.map (·.dst) = ds) (hap : apartL ds = true) (hb : backward ops = true) (a0 : Act) (W : List (Option Value) → World → Prop)
 (step : ∀ (L : List (Option Value)) (w : World) (i : Nat) (o : Oper), L.length = ops.size → ops[i]? = some o → L[i]? = some none → (∀ e ∈ o.after, Region.binds .any e = true → ∃ v, L[e.on]? = some (some v)) → W L w →
  (Region.wanted o (yielded ops (puts ds L a0).tmps) = true ∧ o.wp P (puts ds L a0) w (fun a' w' => ∃ v, a' = (puts ds L a0).put o.dst v ∧ W (L.set i (some v)) w') Q) ∨ (Region.wanted o (yielded ops (puts ds L a0).tmps) = false ∧ W (L.set i (some undef)) w))
 (fin : ∀ L w, L.length = ops.size → (∀ i, i < ops.size → ∃ v, L[i]? = some (some v)) → W L w → Q .normal (puts ds L a0) w) :
 ∀ fuel L w, L.length = ops.size → open_ L ≤ fuel → W L w → wpAny P .any ops Q fuel (lst L) (puts ds L a0) w := by
 intro fuel
 induction fuel with
 | zero =>
   intro L w hL ho hW
   have hall := open_zero L (by omega)
   refine ⟨?_, fin L w hL (fun i hi => hall i (by omega)) hW⟩
   refine List.eq_nil_iff_forall_not_mem.2 fun i hi => ?_
   obtain ⟨h1, oi, h2, -⟩ := mem_ready.1 hi
   have h3 := lst_false h1
   obtain ⟨v, hv⟩ := hall i (by have := (Array.getElem?_eq_some_iff.1 h2).1; omega)
   rw [hv] at h3; simp at h3
 | succ fuel ih =>
   intro L w hL ho hW
   refine ⟨fun hr => fin L w hL (fun i hi => ready_all hb hL hr (i + 1) i (by omega) hi) hW, fun i hi => ?_⟩
   obtain ⟨h1, o, h2, h3⟩ := mem_ready.1 hi
   have h4 := lst_false h1
   have hdi : ds[i]? = some o.dst := by rw [← hds, List.getElem?_map]; simp [h2]
   unfold wpOp
   rw [h2]
   simp only []
   rcases step L w i o hL h2 h4 (fun e he hbd => lst_true (h3 e he hbd)) hW with ⟨hw, s⟩ | ⟨hw, s⟩
   · rw [if_pos hw]
     refine Or.inl (Oper.wp_mono (fun a' w' hh => ?_) s)
     obtain ⟨v, rfl, hW'⟩ := hh
     rw [puts_set i ds L a0 hap hdi h4, lst_set (v := v)]
     exact ih _ w' (by simpa using hL) (by have := open_set (v := v) i L h4; omega) hW'
   · rw [if_neg (by rw [hw]; decide)]
     rw [puts_set i ds L a0 hap hdi h4, lst_set (v := undef)]
     exact ih _ w (by simpa using hL) (by have := open_set (v := undef) i L h4; omega) s
inductive Comes (P : Program) (ops : Array Oper) (S : World → Prop) (o : Oper) (a : Act) (w : World) (v : Value) : Prop
 | value (h : Region.wanted o (yielded ops a.tmps) = true) (w' : World) (r : (execOp a.eval o).run P w = .ok (.value v) w') (k : S w')
 | skip (h : Region.wanted o (yielded ops a.tmps) = true) (hv : v = undef) (w' : World) (r : (execOp a.eval o).run P w = .ok .skip w') (k : S w')
 | call (h : Region.wanted o (yielded ops a.tmps) = true) (f : FuncId) (args : Array Value) (r : (execOp a.eval o).run P w = .ok (.enter f args) w) (k : Calls P f args w fun e w' => e = .returned v ∧ S w')
 | no (h : Region.wanted o (yielded ops a.tmps) = false) (hv : v = undef)
def waits (o : Oper) (k : Nat) : Bool := o.after.toList.any fun e => e.on == k && Region.binds .any e
theorem wp_region_det {id : Nat} {a0 : Act} {w : World} (hm : P.follows .mixedOrders = true) (ds : List (Option Tmp)) (hds : ops.toList.map (·.dst) = ds) (hap : apartL ds = true) (hb : backward ops = true)
 (dv : List Value) (hl : dv.length = ops.size) (S : World → Prop) (start : S w.drew)
 (step : ∀ (L : List (Option Value)) (w : World) (i : Nat) (o : Oper), ops[i]? = some o → (∀ k, waits o k = true → L[k]? = some (some (dv.getD k undef))) → S w → Comes P ops S o (puts ds L a0) w (dv.getD i undef))
 (fin : ∀ w, S w → Q .normal (puts ds (dv.map some) a0) w) : (Code.region id ops true).wp P Q a0 w := by
 have h := wpAny_inv_g (P := P) (Q := Q) ds hds hap hb a0 (fun L w => (∀ i v, L[i]? = some (some v) → v = dv.getD i undef) ∧ S w) (fun L w i o hL ho hn hd hW => ?_) (fun L w hL hall hW => ?_) ops.size (nones ops.size) w.drew (by simp [nones]) (by rw [open_nones]; exact Nat.le_refl _) ⟨fun i v h => ?_, start⟩
 · rw [puts_nones] at h
   have e : lst (nones ops.size) = Array.replicate ops.size false := by unfold lst nones; simp
   rw [e] at h
   exact wp_region_any hm h
 · have key : ∀ v, v = dv.getD i undef → ∀ k u, (L.set i (some v))[k]? = some (some u) → u = dv.getD k undef := fun v hv k u hk => by
    by_cases hik : i = k
    · subst hik
      have : i < L.length := (List.getElem?_eq_some_iff.1 hn).1
      rw [List.getElem?_set_self this] at hk
      rw [← Option.some.inj (Option.some.inj hk)]; exact hv
    · rw [List.getElem?_set_ne hik] at hk; exact hW.1 k u hk
   have hd' : ∀ k, waits o k = true → L[k]? = some (some (dv.getD k undef)) := fun k hk => by
    unfold waits at hk
    rw [List.any_eq_true] at hk
    obtain ⟨e, he, h2⟩ := hk
    simp only [Bool.and_eq_true, beq_iff_eq] at h2
    obtain ⟨v, hv⟩ := hd e (Array.mem_toList_iff.1 he) h2.2
    rw [h2.1] at hv
    rw [hv, hW.1 k v hv]
   rcases step L w i o ho hd' hW.2 with ⟨h, w', r, k⟩ | ⟨h, hv, w', r, k⟩ | ⟨h, f, args, r, k⟩ | ⟨h, hv⟩
   · refine Or.inl ⟨h, ?_⟩
     unfold Oper.wp; rw [r]
     exact ⟨_, rfl, key _ rfl, k⟩
   · refine Or.inl ⟨h, ?_⟩
     unfold Oper.wp; rw [r]
     exact ⟨undef, rfl, key _ hv.symm, k⟩
   · refine Or.inl ⟨h, ?_⟩
     unfold Oper.wp; rw [r]
     refine Calls.mono k fun e w' hh => ?_
     obtain ⟨rfl, hS⟩ := hh
     exact ⟨_, rfl, key _ rfl, hS⟩
   · exact Or.inr ⟨h, key _ hv.symm, hW.2⟩
 · have e : L = dv.map some := by
    refine List.ext_getElem? fun i => ?_
    by_cases hi : i < ops.size
    · obtain ⟨v, hv⟩ := hall i hi
      rw [hv, hW.1 i v hv]
      simp [List.getD, hl, hi]
    · rw [List.getElem?_eq_none (by omega), List.getElem?_eq_none (by simp; omega)]
   rw [e]
   exact fin w hW.2
 · unfold nones at h; simp [List.getElem?_replicate] at h
end
end Go.Proofs.YtacinenddnfcbaaGreat

namespace Ieee.Own

def stepS (neg : Bool) (x y c : Nat) : Nat := if neg then (x + 18446744073709551616 - y - c) % 18446744073709551616 else (x + y + c) % 18446744073709551616
def stepC (neg : Bool) (x y c : Nat) : Nat := if neg then (if x < y + c then 1 else 0) else (x + y + c) / 18446744073709551616
def xw (q p0 p1 i : Nat) : Nat := if i = q then p0 else if i = q + 1 then p1 else 0
def cy (neg : Bool) (ws : Nat → Nat) (q p0 p1 : Nat) : Nat → Nat
 | 0 => 0
 | i + 1 => stepC neg (ws i) (xw q p0 p1 i) (cy neg ws q p0 p1 i)
def nw (neg : Bool) (ws : Nat → Nat) (q p0 p1 i : Nat) : Nat := stepS neg (ws i) (xw q p0 p1 i) (cy neg ws q p0 p1 i)

def sumW (ws : Nat → Nat) : Nat → Nat
 | 0 => 0
 | n + 1 => sumW ws n + ws n * 2 ^ (64 * n)

theorem pow64 (n : Nat) : 2 ^ (64 * (n + 1)) = 18446744073709551616 * 2 ^ (64 * n) := by
 rw [show 64 * (n + 1) = 64 + 64 * n by omega, Nat.pow_add]

theorem sumW_lt (ws : Nat → Nat) (h : ∀ i, ws i < 18446744073709551616) (n : Nat) : sumW ws n < 2 ^ (64 * n) := by
 induction n with
 | zero => simp [sumW]
 | succ n ih =>
   simp only [sumW]
   rw [pow64]
   have : (ws n + 1) * 2 ^ (64 * n) ≤ 18446744073709551616 * 2 ^ (64 * n) := Nat.mul_le_mul_right _ (h n)
   rw [Nat.add_mul] at this
   omega
end Ieee.Own

namespace Go.Proofs.YtacinenddnfcbaaGreat
open Go.ChangeShapes Go.WideShapes Go.ChangeAt Go.RowKit Ieee.Own

end Go.Proofs.YtacinenddnfcbaaGreat

namespace Go.Proofs.YtacinenddnfcbaaGreat
open Go.ChangeShapes Go.WideShapes Go.ChangeAt Go.RowKit Ieee.Own

theorem x34 (b : Nat) (w : World) : (callFunc 68 #[.float .f64 b]).run Tryz.prog w = .ok (.value (.int .u64 (b : Int))) w := by
 rw [run_callFunc_extern (e := Extern.MathFloatBits.float64bits) Tryz.func68 (by kernel_rfl) (by kernel_rfl) (by kernel_rfl) (by kernel_rfl)]; rfl
theorem andn63 (b : Nat) (hb : b < 18446744073709551616) : bits BinOp.andNot IntKind.u64 (b : Int) 9223372036854775808 = ((b % 9223372036854775808 : Nat) : Int) := by
 rw [show (9223372036854775808 : Int) = ((9223372036854775808 : Nat) : Int) from rfl, u64_andNot_nat b 9223372036854775808 hb (by omega)]
 exact congrArg _ (Nat.and_two_pow_sub_one_eq_mod b 63)
theorem ieq_f {a b : Int} (h : ¬ a = b) : (a == b) = false := by simpa using h
end Go.Proofs.YtacinenddnfcbaaGreat

namespace Go.Proofs.YtacinenddnfcbaaGreat
open Go.ChangeShapes Go.WideShapes Go.ChangeAt Go.RowKit Ieee.Own

end Go.Proofs.YtacinenddnfcbaaGreat

namespace Go.Proofs.YtacinenddnfcbaaGreat
open Go.Shelf Go.RowKit

end Go.Proofs.YtacinenddnfcbaaGreat

namespace Go.Proofs.YtacinenddnfcbaaGreat
open Go.ChangeShapes Go.WideShapes Go.ChangeAt Go.RowKit Ieee.Own

end Go.Proofs.YtacinenddnfcbaaGreat

namespace Ieee.Own

end Ieee.Own

namespace Go.Proofs.YtacinenddnfcbaaGreat
open Go.ChangeShapes Go.WideShapes Go.ChangeAt Go.RowKit Ieee.Own

theorem ret_i {k : IntKind} {a b : Int} (h : a = b) : Ending.returned (.int k a) = .returned (.int k b) := by rw [h]

theorem ret_b {a b : Bool} (h : a = b) : Ending.returned (.bool a) = .returned (.bool b) := by rw [h]

end Go.Proofs.YtacinenddnfcbaaGreat
