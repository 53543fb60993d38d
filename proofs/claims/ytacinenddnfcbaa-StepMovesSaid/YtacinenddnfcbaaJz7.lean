/- Proved here: what the texts Sml4, Abf, Cir, Bri, Whl, Gra, Grb prove, one behind the other. -/
import Derived.Test.YtacinenddnfcbaaJz6
import Derived.Test.YtacinenddnfcbaaJz1

namespace Go.Proofs.Ytacinenddnfcbaa
open Go.ChangeShapes Go.WideShapes Go.ChangeAt Go.RowKit Ieee.Own

/-! ### what a told span is -/
/-! ### Inside, in numbers -/
/-! ### products -/
def MM : Int := 2 ^ 1074
structure Two (a0 b0 a1 b1 c0 d0 c1 d1 : Nat) : Prop where
  la0 : a0 < 18446744073709551616
  lb0 : b0 < 18446744073709551616
  la1 : a1 < 18446744073709551616
  lb1 : b1 < 18446744073709551616
  lc0 : c0 < 18446744073709551616
  ld0 : d0 < 18446744073709551616
  lc1 : c1 < 18446744073709551616
  ld1 : d1 < 18446744073709551616
  i0 : insB a0 b0 c0 d0 = true
  i1 : insB a1 b1 c1 d1 = true
section
variable {a0 b0 a1 b1 c0 d0 c1 d1 : Nat} (T : Two a0 b0 a1 b1 c0 d0 c1 d1)
include T
end

/-! ### squares and roots -/
structure One (a0 b0 c0 d0 : Nat) : Prop where
  la0 : a0 < 18446744073709551616
  lb0 : b0 < 18446744073709551616
  lc0 : c0 < 18446744073709551616
  ld0 : d0 < 18446744073709551616
  i0 : insB a0 b0 c0 d0 = true
section
variable {a0 b0 c0 d0 : Nat} (T : One a0 b0 c0 d0)
include T
end
section
variable {a0 b0 c0 d0 : Nat} (T : One a0 b0 c0 d0)
include T
end

/-! ### the law's fits -/
end Go.Proofs.Ytacinenddnfcbaa

namespace Go.Proofs.Ytacinenddnfcbaa
open Go.ChangeShapes Go.WideShapes Go.ChangeAt Go.RowKit Ieee.Own

/-- the span from the least to the greatest of three fit numbers, the second of them within -/
structure Abt (l u x : Nat) : Prop where
  ll : l < 18446744073709551616
  lu : u < 18446744073709551616
  ok : errS l u = 0
  lo : V l ≤ V x
  hi : V x ≤ V u
section
variable {sl su tl tu x y : Nat} (S : Abt sl su x) (T : Abt tl tu y)
include S T
end
end Go.Proofs.Ytacinenddnfcbaa

namespace Go.Proofs.Ytacinenddnfcbaa
open Ieee.Own

end Go.Proofs.Ytacinenddnfcbaa

namespace Go.Proofs.Ytacinenddnfcbaa
open Ieee.Own

/-- a span of words in fractions -/
def sp (a b : Nat) : Sp := (Q a, Q b)

/-! ### the factors and Tau as spans -/
/-! ### nothing grows too great -/
end Go.Proofs.Ytacinenddnfcbaa

namespace Go.Proofs.Ytacinenddnfcbaa
open Ieee Ieee.Own

/-- the word of a number made whole -/
def wholeW (way : Toward) (b : Nat) : Nat := double.write ((double.read b).integral way)
/-- the word of a whole number -/
def numW (s : Bool) (n : Nat) : Nat := double.write (.number s n 0)

theorem cut_parts (n d : Nat) : n / 2 ^ min d (n.log2 + 2) = n / 2 ^ d ∧ n % 2 ^ min d (n.log2 + 2) = n % 2 ^ d := by
  by_cases h : d ≤ n.log2 + 2
  · rw [Nat.min_eq_left h]; exact ⟨rfl, rfl⟩
  · have h1 : n < 2 ^ (n.log2 + 2) := by
      by_cases z : n = 0
      · subst z; exact Nat.two_pow_pos _
      · exact Nat.lt_of_lt_of_le ((Nat.log2_eq_iff z).1 rfl).2 (two_le (by omega))
    have h2 : n < 2 ^ d := Nat.lt_of_lt_of_le h1 (two_le (by omega))
    rw [Nat.min_eq_right (by omega), Nat.div_eq_of_lt h1, Nat.div_eq_of_lt h2, Nat.mod_eq_of_lt h1, Nat.mod_eq_of_lt h2]
    exact ⟨rfl, rfl⟩

theorem cut_down (s : Bool) (n d : Nat) : Toward.down.cut s n d = n / 2 ^ d + (s && n % 2 ^ d != 0).toNat := by
  unfold Toward.cut
  simp only [Nat.one_shiftLeft]
  rw [(cut_parts n d).1, (cut_parts n d).2]
theorem cut_up (s : Bool) (n d : Nat) : Toward.up.cut s n d = n / 2 ^ d + (!s && n % 2 ^ d != 0).toNat := by
  unfold Toward.cut
  simp only [Nat.one_shiftLeft]
  rw [(cut_parts n d).1, (cut_parts n d).2]
theorem cut_zero (s : Bool) (n d : Nat) : Toward.zero.cut s n d = n / 2 ^ d := by
  unfold Toward.cut
  simp only [Nat.one_shiftLeft]
  rw [(cut_parts n d).1]; simp

theorem up_aux (m p d : Nat) : m * 2 ^ p / 2 ^ (d + p) = m / 2 ^ d ∧ (m * 2 ^ p % 2 ^ (d + p) = 0 ↔ m % 2 ^ d = 0) := by
  have hp := Nat.two_pow_pos p
  rw [Nat.pow_add, Nat.mul_div_mul_right _ _ hp, Nat.mul_mod_mul_right]
  refine ⟨rfl, ?_⟩
  constructor
  · intro h; rcases Nat.mul_eq_zero.1 h with h | h <;> omega
  · intro h; rw [h]; simp
theorem far_aux (m e : Nat) : m * 2 ^ e / 2 ^ 0 = m * 2 ^ e ∧ m * 2 ^ e % 2 ^ 0 = 0 := by
  rw [Nat.pow_zero, Nat.div_one]; exact ⟨rfl, Nat.mod_one _⟩

/-- the whole number, from the number of units: which way, and is the sign - -/
def wayN (way : Toward) (s : Bool) (n : Nat) : Nat :=
  match way with
  | .even => rne n 1074
  | .down => n / 2 ^ 1074 + (s && n % 2 ^ 1074 != 0).toNat
  | .up => n / 2 ^ 1074 + (!s && n % 2 ^ 1074 != 0).toNat
  | .zero => n / 2 ^ 1074

theorem bne_iff {a b : Nat} (h : a = 0 ↔ b = 0) : (a != 0) = (b != 0) := by
  rw [Bool.eq_iff_iff]; simp only [bne_iff_ne, ne_eq, h]

theorem way_cut (way : Toward) (s : Bool) (m p D : Nat) (hD : D = 1074) : way.cut s (m <<< ((-1074 : Int) + p).toNat) (-((-1074 : Int) + p)).toNat = 
    match way with
    | .even => rne (m * 2 ^ p) D
    | .down => m * 2 ^ p / 2 ^ D + (s && m * 2 ^ p % 2 ^ D != 0).toNat
    | .up => m * 2 ^ p / 2 ^ D + (!s && m * 2 ^ p % 2 ^ D != 0).toNat
    | .zero => m * 2 ^ p / 2 ^ D := by
  rw [Nat.shiftLeft_eq]
  by_cases h : p ≤ D
  · have e1 : ((-1074 : Int) + p).toNat = 0 := by omega
    have e2 : (-((-1074 : Int) + p)).toNat = D - p := by omega
    rw [e1, e2, Nat.pow_zero, Nat.mul_one]
    obtain ⟨d, rfl⟩ : ∃ d, D = d + p := ⟨D - p, by omega⟩
    rw [Nat.add_sub_cancel]
    have u := up_aux m p d
    have b := bne_iff u.2
    cases way with
    | even => dsimp only; rw [cut_rne, rne_scale]
    | down => dsimp only; rw [cut_down, u.1, b]
    | up => dsimp only; rw [cut_up, u.1, b]
    | zero => dsimp only; rw [cut_zero, u.1]
  · obtain ⟨e, rfl⟩ : ∃ e, p = e + D := ⟨p - D, by omega⟩
    have e1 : ((-1074 : Int) + (e + D : Nat)).toNat = e := by omega
    have e2 : (-((-1074 : Int) + (e + D : Nat))).toNat = 0 := by omega
    rw [e1, e2]
    have f := far_aux m e
    have g : m * 2 ^ (e + D) / 2 ^ D = m * 2 ^ e ∧ m * 2 ^ (e + D) % 2 ^ D = 0 := by
      rw [Nat.pow_add, ← Nat.mul_assoc]
      exact ⟨Nat.mul_div_cancel _ (Nat.two_pow_pos D), Nat.mul_mod_left _ _⟩
    cases way with
    | even =>
      dsimp only
      rw [cut_rne, Nat.pow_add, ← Nat.mul_assoc, rne_exact]
      have := rne_exact (m * 2 ^ e) 0
      rwa [Nat.pow_zero, Nat.mul_one] at this
    | down => dsimp only; rw [cut_down, f.1, f.2, g.1, g.2]
    | up => dsimp only; rw [cut_up, f.1, f.2, g.1, g.2]
    | zero => dsimp only; rw [cut_zero, f.1, g.1]

theorem way_cut' (way : Toward) (s : Bool) (m p : Nat) : way.cut s (m <<< ((-1074 : Int) + p).toNat) (-((-1074 : Int) + p)).toNat = wayN way s (m * 2 ^ p) := by
  rw [way_cut way s m p 1074 rfl]; rfl

/-- a whole number of few digits as a word -/
theorem num_spec (s : Bool) (n D : Nat) (hD : D = 1074) (hn : rn n = n) {T : Nat} (hT : T = 2098) (hb : n * 2 ^ D < 2 ^ T) : FinW (numW s n) ∧ V (numW s n) = sv s n D := by
  have hm : n * 2 ^ D = n * 2 ^ D * 2 ^ 0 := by rw [Nat.pow_zero, Nat.mul_one]
  have e : rn (n * 2 ^ D) = n * 2 ^ D := by rw [rn_scale, hn]
  obtain ⟨r, r1, r2, r3⟩ := nearest_rn s n 0 (n * 2 ^ D) D 0 hm (by omega) (by rw [e, ← hT]; exact hb)
  have w : numW s n = double.word s r := r2
  rw [w]
  have v := V_word s r r1
  refine ⟨v.1, ?_⟩
  rw [v.2, r3, e]; unfold sv; rfl

theorem small_top {n k D T : Nat} (hn : n ≤ 2 ^ k) (hD : k + D < T) : n * 2 ^ D < 2 ^ T := Nat.lt_of_le_of_lt (mul_pow hn D) (two_lt hD)
theorem num_small_any (s : Bool) (n D T : Nat) (hD : D = 1074) (hT : T = 2098) (hn : n ≤ 2 ^ 53) : FinW (numW s n) ∧ V (numW s n) = sv s n D := by
  refine num_spec s n D hD (rn_small n hn) hT (small_top (k := 53) hn (by omega))
theorem num_small (s : Bool) (n : Nat) (hn : n ≤ 2 ^ 53) : FinW (numW s n) ∧ V (numW s n) = sv s n 1074 := num_small_any s n 1074 2098 rfl rfl hn

/-- a finite word's number, made whole -/
theorem whole_form (way : Toward) {b : Nat} (h : FinW b) : ∃ s m p, V b = sv s m p ∧ m < 2 ^ 53 ∧ double.read b = .number s m (-1074 + p) ∧ wholeW way b = numW s (wayN way s (m * 2 ^ p)) := by
  obtain ⟨s, m, p, e1, e2, e3, -, -⟩ := read_sv h
  refine ⟨s, m, p, e2, e3, e1, ?_⟩
  unfold wholeW numW
  rw [e1]
  unfold Datum.integral
  dsimp only
  rw [way_cut']

theorem way_le (way : Toward) (s : Bool) (n : Nat) : wayN way s n ≤ n / 2 ^ 1074 + 1 := by
  have t : ∀ b : Bool, b.toNat ≤ 1 := fun b => by cases b <;> simp
  unfold wayN
  cases way <;> dsimp only
  · exact (rne_bounds n 1074).2
  · have := t (s && n % 2 ^ 1074 != 0); omega
  · have := t (!s && n % 2 ^ 1074 != 0); omega
  · omega

theorem div_cap {n k D M : Nat} (hM : M = k + D) (h : n ≤ 2 ^ M) : n / 2 ^ D ≤ 2 ^ k := by
  subst hM
  rw [Nat.pow_add] at h
  exact Nat.div_le_of_le_mul (by rwa [Nat.mul_comm] at h)

/-- the word of a number of 2^52 at most, made whole -/
theorem whole_spec (way : Toward) {b : Nat} (h : FinW b) (hb : (V b).natAbs ≤ 2 ^ 1126) :
    ∃ s m p, V b = sv s m p ∧ wholeW way b = numW s (wayN way s (m * 2 ^ p)) ∧ wayN way s (m * 2 ^ p) ≤ 2 ^ 53 ∧ FinW (wholeW way b) ∧ V (wholeW way b) = sv s (wayN way s (m * 2 ^ p)) 1074 := by
  obtain ⟨s, m, p, e1, e2, -, e3⟩ := whole_form way h
  rw [e1, sv_abs] at hb
  have c := div_cap (k := 52) (D := 1074) (M := 1126) rfl hb
  have l := way_le way s (m * 2 ^ p)
  have q : wayN way s (m * 2 ^ p) ≤ 2 ^ 53 := by omega
  have := num_small s _ q
  rw [← e3] at this
  exact ⟨s, m, p, e1, e3, q, this⟩

theorem sv_int (s : Bool) (n D : Nat) : sv s n D = (if s then -(n : Int) else n) * 2 ^ D := by
  unfold sv
  cases s
  · simp
  · simp [Int.neg_mul]

theorem fdiv_aux (s : Bool) (n T : Nat) (hT : 0 < T) : (if s then -((n : Int)) else n) / (T : Int) = if s then -((n / T + (s && n % T != 0).toNat : Nat) : Int) else ((n / T : Nat) : Int) := by
  cases s
  · simp
  · have h1 := Nat.div_add_mod n T
    have h2 := Nat.mod_lt n hT
    simp only [if_true, Bool.true_and]
    by_cases q : n % T = 0
    · rw [q]
      have e : (n : Int) = (T : Int) * ((n / T : Nat) : Int) := by exact_mod_cast (by omega : n = T * (n / T))
      have e0 : ((0 : Nat) != 0).toNat = 0 := rfl
      rw [e0, Nat.add_zero]
      conv => lhs; rw [e]
      rw [← Int.mul_neg, Int.mul_ediv_cancel_left _ (by omega)]
    · have e0 : (n % T != 0).toNat = 1 := by simp [q]
      rw [e0]
      have e : -(n : Int) = (T : Int) * (-((n / T + 1 : Nat) : Int)) + (T - n % T : Nat) := by
        have a : (n : Int) = (T : Int) * ((n / T : Nat) : Int) + ((n % T : Nat) : Int) := by exact_mod_cast h1.symm
        have b : ((T - n % T : Nat) : Int) = (T : Int) - ((n % T : Nat) : Int) := by omega
        have c : (T : Int) * (-((n / T + 1 : Nat) : Int)) = -((T : Int) * ((n / T : Nat) : Int)) - T := by
          rw [Int.mul_neg, Int.natCast_add, Int.mul_add]; simp; omega
        omega
      rw [e, Int.mul_add_ediv_left _ _ (by omega)]
      have : ((T - n % T : Nat) : Int) / (T : Int) = 0 := Int.ediv_eq_zero_of_lt (by omega) (by omega)
      omega

theorem two_cast (n : Nat) : (2 : Int) ^ n = ((2 ^ n : Nat) : Int) := by rw [Int.natCast_pow]; rfl
theorem fdiv_sv (s : Bool) (m p D : Nat) : sv s m p / 2 ^ D = if s then -((m * 2 ^ p / 2 ^ D + (s && m * 2 ^ p % 2 ^ D != 0).toNat : Nat) : Int) else ((m * 2 ^ p / 2 ^ D : Nat) : Int) := by
  have := fdiv_aux s (m * 2 ^ p) (2 ^ D) (Nat.two_pow_pos D)
  rw [two_cast]
  unfold sv
  exact this

/-- downwards -/
theorem floor_spec {b : Nat} (h : FinW b) (hb : (V b).natAbs ≤ 2 ^ 1126) : FinW (wholeW .down b) ∧ V (wholeW .down b) = V b / 2 ^ 1074 * 2 ^ 1074 := by
  obtain ⟨s, m, p, e1, -, -, f, v⟩ := whole_spec .down h hb
  refine ⟨f, ?_⟩
  rw [v, sv_int, e1, fdiv_sv]
  unfold wayN
  dsimp only
  cases s
  · simp only [Bool.false_eq_true, if_false, Bool.false_and, Bool.toNat_false, Nat.add_zero]
  · simp only [if_true]

theorem div_pow_cancel (a n : Nat) : a * 2 ^ n / 2 ^ n = a := Nat.mul_div_cancel _ (Nat.two_pow_pos n)
theorem sv_k {s : Bool} {m p D : Nat} {K : Int} (h : sv s m p = K * 2 ^ D) : m * 2 ^ p = K.natAbs * 2 ^ D := by
  have := absk h
  rwa [sv_abs] at this
/-- a whole number as an integer -/
theorem int_of {b : Nat} {K : Int} (h : FinW b) (hv : V b = K * 2 ^ 1074) : (double.read b).toInt .zero = some K := by
  obtain ⟨s, m, p, e1, e2, e3, -, -⟩ := read_sv h
  unfold Datum.toInt
  rw [e1]
  unfold Datum.integral
  dsimp only
  rw [way_cut']
  unfold wayN
  dsimp only
  rw [e2] at hv
  rw [sv_k (D := 1074) hv, div_pow_cancel _ 1074]
  unfold signed
  simp only [Nat.shiftLeft_zero]
  have P : (0 : Int) < 2 ^ 1074 := Int.pow_pos (by omega)
  have sg := sv_sign s m p
  cases s
  · have g := sg.2 rfl
    rw [hv] at g
    have : 0 ≤ K := by
      by_cases q : 0 ≤ K
      · exact q
      · have := Int.mul_neg_of_neg_of_pos (show K < 0 by omega) P; omega
    simp only [Bool.false_eq_true, if_false]; congr 1; omega
  · have g := sg.1 rfl
    rw [hv] at g
    have : K ≤ 0 := by
      by_cases q : K ≤ 0
      · exact q
      · have := Int.mul_pos (show 0 < K by omega) P; omega
    simp only [if_true]; congr 1; omega

/-- an integer as a number -/
theorem of_int (K : Int) (hK : K.natAbs ≤ 2 ^ 53) : FinW (FloatKind.f64.nearest K) ∧ V (FloatKind.f64.nearest K) = K * 2 ^ 1074 := by
  have e : FloatKind.f64.nearest K = numW (decide (K < 0)) K.natAbs := rfl
  rw [e]
  have := num_small (decide (K < 0)) K.natAbs hK
  refine ⟨this.1, ?_⟩
  rw [this.2, sv_int]
  congr 1
  by_cases q : K < 0
  · simp [q]; omega
  · simp [q]; omega

end Go.Proofs.Ytacinenddnfcbaa

namespace Go.Proofs.Ytacinenddnfcbaa
open Ieee Ieee.Own

def qG (a b : Nat) : Nat := (double.div a b).getD 0
def rG (a : Nat) : Nat := (double.sqrt a).getD 0
/-! ### how great -/
theorem rz_cap {n K : Nat} (h : n ≤ 2 ^ (K + 1074)) : rz n ≤ 2 ^ K := by
  have e : rz n * 2 ^ 1074 = rne n (dz n) * 2 ^ dz n := shift_pow (x := rne n (dz n)) (d := dz n) (k := 1074) (by unfold dz; omega)
  have key : rne n (dz n) * 2 ^ dz n ≤ 2 ^ (K + 1074) := by
    by_cases q : dr n ≤ 1074
    · have e1 : dz n = 1074 := by unfold dz; omega
      rw [e1, Nat.pow_add 2 K 1074]
      refine Nat.mul_le_mul_right _ ?_
      have a := rne_mono 1074 h
      have b := rne_exact (2 ^ K) 1074
      rw [Nat.pow_add 2 K 1074, b] at a
      exact a
    · have e1 : dz n = dr n := by unfold dz; omega
      rw [e1]
      have a := rn_mono h
      have b := rn_exact 1 (K + 1074) (by decide)
      rw [Nat.one_mul] at b
      rw [b] at a
      exact a
  rw [← e, Nat.pow_add 2 K 1074] at key
  exact Nat.le_of_mul_le_mul_right key (Nat.two_pow_pos 1074)
theorem rz_low {n K : Nat} (h : 2 ^ (K + 1074) ≤ n) : 2 ^ K ≤ rz n := by
  have e : rz n * 2 ^ 1074 = rne n (dz n) * 2 ^ dz n := shift_pow (x := rne n (dz n)) (d := dz n) (k := 1074) (by unfold dz; omega)
  have key : 2 ^ (K + 1074) ≤ rne n (dz n) * 2 ^ dz n := by
    by_cases q : dr n ≤ 1074
    · have e1 : dz n = 1074 := by unfold dz; omega
      rw [e1, Nat.pow_add 2 K 1074]
      refine Nat.mul_le_mul_right _ ?_
      have a := rne_mono 1074 h
      have b := rne_exact (2 ^ K) 1074
      rw [Nat.pow_add 2 K 1074, b] at a
      exact a
    · have e1 : dz n = dr n := by unfold dz; omega
      rw [e1]
      have a := rn_mono h
      have b := rn_exact 1 (K + 1074) (by decide)
      rw [Nat.one_mul] at b
      rw [b] at a
      exact a
  rw [← e, Nat.pow_add 2 K 1074] at key
  exact Nat.le_of_mul_le_mul_right key (Nat.two_pow_pos 1074)

/-! ### words of one magnitude -/
theorem nearest_word (m : Nat) (place : Int) : ∃ r, ∀ s, double.nearest s m place = double.word s r := by
  by_cases h : m = 0
  · exact ⟨0, fun s => by unfold Format.nearest; rw [if_pos h]⟩
  · refine ⟨_, fun s => by unfold Format.nearest; rw [if_neg h]; dsimp only; rw [cut_rne]⟩
theorem word_low {r q : Nat} (h : double.word false r = double.word false q) : r = q := by
  unfold Format.word at h
  simpa using h
theorem val_inj {x y : Nat} (h : val 52 x = val 52 y) : x = y := by
  rcases Nat.lt_trichotomy x y with q | q | q
  · have := (val_lt_iff 52 x y).2 q; omega
  · exact q
  · have := (val_lt_iff 52 y x).2 q; omega
theorem mag_same {a b : Nat} (ha : FinW a) (hb : FinW b) (h : (V b).natAbs = (V a).natAbs) : b % 9223372036854775808 = a % 9223372036854775808 := by
  rw [V_abs' a ha, V_abs' b hb] at h
  exact val_inj h

/-! ### quotients -/
theorem div_core {m p n q k j : Nat} (hm : m ≠ 0) (hn : n ≠ 0) (hn2 : n < 2 ^ 53) (hm2 : m < 2 ^ 53) (ka : m * 2 ^ p ≤ 2 ^ k) (kb : 2 ^ (1074 + j) ≤ n * 2 ^ q) (hq : q ≤ 1900) (hk0 : 60 + j ≤ k) (hk : k < 2000) :
    ∃ r, r < 9218868437227405312 ∧ val 52 r ≤ 2 ^ (k + 1 - j) ∧ ∀ s, double.nearest s (2 * ((m <<< (54 + n.log2 - m.log2)) / n) + ((m <<< (54 + n.log2 - m.log2)) % n != 0).toNat) (-1074 + (p : Int) - (-1074 + (q : Int)) - ((54 + n.log2 - m.log2 : Nat) : Int) - 1) = double.word s r := by
  have l1 : m.log2 < 53 := (Nat.log2_lt hm).2 hm2
  have l2 : n.log2 < 53 := (Nat.log2_lt hn).2 hn2
  have l3 : n < 2 ^ (n.log2 + 1) := Nat.lt_log2_self
  have l4 : 2 ^ m.log2 ≤ m := Nat.log2_self_le hm
  obtain ⟨M, hM⟩ : ∃ M, M = 54 + n.log2 - m.log2 := ⟨_, rfl⟩
  rw [← hM]
  have hMl : n.log2 + 1 ≤ m.log2 + M := by omega
  have hnm : n ≤ m * 2 ^ M := by
    have a : 2 ^ (n.log2 + 1) ≤ 2 ^ m.log2 * 2 ^ M := by rw [← Nat.pow_add]; exact two_le hMl
    have b := Nat.mul_le_mul_right (2 ^ M) l4
    omega
  have hM106 : M ≤ 107 := by omega
  clear l3 l4 hMl
  rw [Nat.shiftLeft_eq]
  obtain ⟨D, hD⟩ : ∃ D, D = m * 2 ^ M := ⟨_, rfl⟩
  rw [← hD] at hnm ⊢
  obtain ⟨X, hX⟩ : ∃ X, X = 2 * (D / n) + (D % n != 0).toNat := ⟨_, rfl⟩
  rw [← hX]
  have hXn : X * n ≤ 2 ^ 2 * D := by
    have t : (D % n != 0).toNat ≤ 1 := by cases D % n != 0 <;> simp
    have a := Nat.div_mul_le_self D n
    have b : X ≤ 2 * (D / n) + 1 := by omega
    have c := Nat.mul_le_mul_right n b
    rw [Nat.add_mul, Nat.mul_assoc, Nat.one_mul] at c
    omega
  obtain ⟨A, hA⟩ : ∃ A, A + M + q = 2147 + p := ⟨2147 + p - q - M, by omega⟩
  have hN : X * 2 ^ A ≤ 2 ^ (k + 1 - j + 1074) := by
    have a : X * 2 ^ A * (n * 2 ^ q) ≤ 2 ^ (k + 1 - j + 1074) * 2 ^ (1074 + j) := by
      have e1 : X * 2 ^ A * (n * 2 ^ q) = X * n * (2 ^ A * 2 ^ q) := by ac_rfl
      have e2 : 2 ^ 2 * D * (2 ^ A * 2 ^ q) = m * 2 ^ p * 2 ^ 2149 := by
        rw [hD, ← Nat.pow_add]
        have e3 : 2 ^ 2 * (m * 2 ^ M) * 2 ^ (A + q) = m * (2 ^ 2 * 2 ^ M * 2 ^ (A + q)) := by ac_rfl
        rw [e3, ← Nat.pow_add 2 2 M, ← Nat.pow_add 2 (2 + M) (A + q), Nat.mul_assoc, ← Nat.pow_add 2 p 2149, show 2 + M + (A + q) = p + 2149 by omega]
      rw [e1]
      refine Nat.le_trans (Nat.mul_le_mul_right _ hXn) ?_
      rw [e2]
      refine Nat.le_trans (Nat.mul_le_mul_right _ ka) ?_
      rw [← Nat.pow_add 2 k 2149, ← Nat.pow_add 2 (k + 1 - j + 1074) (1074 + j)]
      exact two_le (a := k + 2149) (b := k + 1 - j + 1074 + (1074 + j)) (by omega)
    have b := Nat.mul_le_mul_left (X * 2 ^ A) kb
    exact Nat.le_of_mul_le_mul_right (Nat.le_trans b a) (Nat.two_pow_pos (1074 + j))
  have c := rz_cap (K := k + 1 - j) hN
  have hlt : rz (X * 2 ^ A) < 2 ^ 2098 := Nat.lt_of_le_of_lt c (two_lt (a := k + 1 - j) (b := 2098) (by omega))
  obtain ⟨r, h1, h2, h3⟩ := nearest_rz false X (-1074 + (p : Int) - (-1074 + (q : Int)) - (M : Int) - 1) (X * 2 ^ A) A 0 (by rw [Nat.pow_zero, Nat.mul_one]) (by clear hN hlt c hXn hnm hX hD hm2 hn2 ka kb; omega) hlt
  obtain ⟨r', h4⟩ := nearest_word X (-1074 + (p : Int) - (-1074 + (q : Int)) - (M : Int) - 1)
  have e : r = r' := word_low (by rw [← h2, h4])
  subst e
  exact ⟨r, h1, by rw [h3]; exact c, h4⟩
theorem div_sign {b : Nat} {t : Bool} {n q j : Nat} (hb : Norm b t n q) (kb : 2 ^ (1074 + j) ≤ n * 2 ^ q) (hq : q ≤ 1900) {m p k : Nat} (hm : m ≠ 0) (hm2 : m < 2 ^ 53) (ka : m * 2 ^ p ≤ 2 ^ k) (hk0 : 60 + j ≤ k) (hk : k < 2000) :
    ∃ r0, r0 < 9218868437227405312 ∧ val 52 r0 ≤ 2 ^ (k + 1 - j) ∧ ∀ a s, double.read a = .number s m (-1074 + (p : Int)) → double.div a b = some (double.word (s ^^ t) r0) := by
  have hn : n ≠ 0 := by have := hb.lo; omega
  obtain ⟨r0, h1, h2, h3⟩ := div_core (m := m) (p := p) (n := n) (q := q) (k := k) (j := j) hm hn hb.hi hm2 ka kb hq hk0 hk
  refine ⟨r0, h1, h2, fun a s ha => ?_⟩
  unfold Format.div
  rw [ha, hb.read, frac64']
  simp only [Datum.quotient]
  rw [if_neg hn]
  simp only [Option.map, Format.write]
  rw [show (52 + 2 + n.log2 - m.log2) = 54 + n.log2 - m.log2 from rfl, h3]
structure Dvr (j b : Nat) : Prop where
  fin : FinW b
  lo : 2 ^ (1074 + j) ≤ (V b).natAbs
  hi : (V b).natAbs ≤ 2 ^ 1900
theorem Dvr.norm {j b : Nat} (h : Dvr j b) : ∃ t n q, Norm b t n q ∧ 2 ^ (1074 + j) ≤ n * 2 ^ q ∧ q ≤ 1900 := by
  have N := norm_of h.fin (norm_big h.fin (Nat.le_trans (two_le (a := 52) (b := 1074 + j) (by omega)) h.lo))
  refine ⟨_, _, _, N, ?_, ?_⟩
  · have := h.lo
    rw [N.val, sv_abs] at this
    exact this
  · have c := h.hi
    have l := N.lo
    rw [N.val, sv_abs] at c
    generalize b % 9223372036854775808 / 4503599627370496 - 1 = q at *
    generalize 4503599627370496 + b % 4503599627370496 = n at *
    refine Nat.le_of_not_lt fun g => ?_
    have a : 2 ^ 52 * 2 ^ q ≤ 2 ^ 1900 := Nat.le_trans (Nat.mul_le_mul_right _ l) c
    rw [← Nat.pow_add] at a
    have b := two_lt (a := 1900) (b := 52 + q) (by omega)
    omega
theorem Dvr.nz {j b : Nat} (h : Dvr j b) : V b ≠ 0 := by
  intro e
  have := h.lo
  rw [e] at this
  have := Nat.two_pow_pos (1074 + j)
  rw [Int.natAbs_zero] at *
  omega
/-- any finite number by one of magnitude 1 at least -/
theorem div_fin {a b k j u : Nat} (ha : FinW a) (hb : Dvr j b) (hka : (V a).natAbs ≤ 2 ^ k) (hk0 : 60 + j ≤ k) (hk : k < 2000) (hu : k + 1 = u + j) :
    double.div a b = some (qG a b) ∧ FinW (qG a b) ∧ (V (qG a b)).natAbs ≤ 2 ^ u := by
  obtain rfl : u = k + 1 - j := by omega
  obtain ⟨s, m, p, hr, hV, hm2, -, -⟩ := read_sv ha
  obtain ⟨t, n, q, N, n1, n2⟩ := hb.norm
  by_cases hm : m = 0
  · subst hm
    obtain ⟨r, h1, h2, h3⟩ := div_zero ha (by rw [hV]; unfold sv; simp) hb.fin hb.nz
    have e : qG a b = r := by unfold qG; rw [h1]; rfl
    rw [e]
    exact ⟨h1, h2, by rw [h3]; simp⟩
  · rw [hV, sv_abs] at hka
    obtain ⟨r0, h1, h2, h3⟩ := div_sign N n1 n2 hm hm2 hka hk0 hk
    have h4 := h3 a s hr
    have e : qG a b = double.word (s ^^ t) r0 := by unfold qG; rw [h4]; rfl
    rw [e]
    have v := V_word (s ^^ t) r0 h1
    refine ⟨h4, v.1, ?_⟩
    rw [v.2]
    cases s ^^ t <;> simpa using h2
theorem sv_flip {s s' : Bool} {m p : Nat} (hm : m ≠ 0) (h : sv s' m p = -sv s m p) : s' = !s := by
  have hp : 0 < m * 2 ^ p := Nat.mul_pos (by omega) (Nat.two_pow_pos p)
  unfold sv at h
  generalize m * 2 ^ p = x at *
  cases s <;> cases s' <;> simp at h ⊢ <;> omega
theorem div_odd {a a' b k j : Nat} (ha : FinW a) (ha' : FinW a') (hb : Dvr j b) (hka : (V a).natAbs ≤ 2 ^ k) (hk0 : 60 + j ≤ k) (hk : k < 2000) (h : V a' = -V a) : V (qG a' b) = -V (qG a b) := by
  obtain ⟨s, m, p, hr, hV, hm2, e1, e2⟩ := read_sv ha
  obtain ⟨s', m', p', hr', hV', -, e1', e2'⟩ := read_sv ha'
  have g := mag_same ha ha' (by rw [h]; omega)
  rw [g, ← e1] at e1'
  rw [g, ← e2] at e2'
  subst e1' e2'
  obtain ⟨t, n, q, N, n1, n2⟩ := hb.norm
  by_cases hm : m' = 0
  · subst hm
    obtain ⟨r, h1, h2, h3⟩ := div_zero ha (by rw [hV]; unfold sv; simp) hb.fin hb.nz
    obtain ⟨r', h1', h2', h3'⟩ := div_zero ha' (by rw [hV']; unfold sv; simp) hb.fin hb.nz
    unfold qG
    rw [h1, h1']
    simp only [Option.getD_some]
    rw [h3, h3']; rfl
  · rw [hV, sv_abs] at hka
    obtain ⟨r0, h1, h2, h3⟩ := div_sign N n1 n2 hm hm2 hka hk0 hk
    have h4 := h3 a s hr
    have h5 := h3 a' s' hr'
    rw [hV, hV'] at h
    obtain rfl := sv_flip hm h
    have v := V_word (s ^^ t) r0 h1
    have v' := V_word ((!s) ^^ t) r0 h1
    unfold qG
    rw [h4, h5]
    simp only [Option.getD_some]
    rw [v.2, v'.2]
    cases s <;> cases t <;> simp

/-! ### products -/
theorem mul_any {a b k l t : Nat} (ha : FinW a) (hb : FinW b) (hka : (V a).natAbs ≤ 2 ^ k) (hkb : (V b).natAbs ≤ 2 ^ l) (e : k + l = t + 1074) (h1 : t < 2098) :
    double.mul a b = some (mX a b) ∧ FinW (mX a b) ∧ V (mX a b) = RZ (V a * V b) ∧ (V (mX a b)).natAbs ≤ 2 ^ t := by
  have c : (V a * V b).natAbs ≤ 2 ^ (t + 1074) := by
    rw [Int.natAbs_mul, ← e, Nat.pow_add 2 k l]
    exact Nat.mul_le_mul hka hkb
  have d := rz_cap (K := t) c
  obtain ⟨r, r1, r2, r3⟩ := mul_gen ha hb (Nat.lt_of_le_of_lt d (two_lt (a := t) (b := 2098) h1))
  have e : mX a b = r := by unfold mX; rw [r1]; rfl
  rw [e]
  exact ⟨r1, r2, r3, by rw [r3, RZ_abs]; exact d⟩
theorem mul_low {a b k l t : Nat} (h : V (mX a b) = RZ (V a * V b)) (hka : (2 : Int) ^ k ≤ V a) (hkb : (2 : Int) ^ l ≤ V b) (e : k + l = t + 1074) : (2 : Int) ^ t ≤ V (mX a b) := by
  have pa : 0 ≤ V a := Int.le_trans (Int.le_of_lt (Int.pow_pos (by omega))) hka
  have pb : 0 ≤ V b := Int.le_trans (Int.le_of_lt (Int.pow_pos (by omega))) hkb
  rw [two_cast k] at hka
  rw [two_cast l] at hkb
  rw [two_cast t]
  have c : 2 ^ (t + 1074) ≤ (V a * V b).natAbs := by
    rw [Int.natAbs_mul, ← e, Nat.pow_add 2 k l]
    exact Nat.mul_le_mul (by omega) (by omega)
  have d := rz_low c
  rw [h]
  have e : 0 ≤ V a * V b := Int.mul_nonneg pa pb
  unfold RZ
  rw [if_neg (by omega)]
  exact Int.ofNat_le.2 d
theorem sq_same {a b : Nat} (ha : FinW a) (hb : FinW b) (h : (V b).natAbs = (V a).natAbs) : mX b b = mX a a := by
  obtain ⟨s, m, p, hr, hV, hm2, e1, e2⟩ := read_sv ha
  obtain ⟨s', m', p', hr', hV', -, e1', e2'⟩ := read_sv hb
  have g := mag_same ha hb h
  rw [g, ← e1] at e1'
  rw [g, ← e2] at e2'
  subst e1' e2'
  unfold mX Format.mul
  rw [hr, hr']
  simp only [Datum.product, Bool.xor_self]

/-! ### whole numbers -/
def rndI (v : Int) : Int := if v < 0 then -(RN (-v + 2 ^ 1073) / 2 ^ 1074) else RN (v + 2 ^ 1073) / 2 ^ 1074
theorem rnd_zero : rndI 0 = 0 := by
  unfold rndI
  rw [if_neg (by decide), Int.zero_add, two_cast 1073, RN_exact (Rep_pow 1073)]
  decide +kernel
theorem rnd_odd (v : Int) : rndI (-v) = -rndI v := by
  by_cases h : v = 0
  · subst h; rw [Int.neg_zero, rnd_zero]; rfl
  · by_cases q : v < 0
    · unfold rndI
      rw [if_neg (by omega), if_pos q, Int.neg_neg]
    · unfold rndI
      rw [if_pos (by omega), if_neg q, Int.neg_neg]
theorem rnd_cap_pos {w : Int} {k D : Nat} (hw : 0 ≤ w) (h : w.natAbs ≤ 2 ^ (D + 1 + k)) : 0 ≤ RN (w + 2 ^ D) / 2 ^ (D + 1) ∧ RN (w + 2 ^ D) / 2 ^ (D + 1) ≤ 2 ^ (k + 1) ∧ RN (w + 2 ^ D) ≤ 2 ^ (D + 1 + k + 1) ∧ 0 ≤ RN (w + 2 ^ D) := by
  have P : (0 : Int) < 2 ^ (D + 1) := Int.pow_pos (by omega)
  have e : (2 : Int) ^ D = ((2 ^ D : Nat) : Int) := two_cast D
  have a : (w + 2 ^ D).natAbs ≤ 2 ^ (D + 1 + k + 1) := by
    have b := two_le (a := D) (b := D + 1 + k) (by omega)
    have c := two_succ (D + 1 + k)
    rw [e]
    omega
  have b := RN_bound a
  have p0 : 0 ≤ w + 2 ^ D := by rw [e]; omega
  have c := (RN_sign (w + 2 ^ D)).1 p0
  have d : RN (w + 2 ^ D) ≤ 2 ^ (D + 1 + k + 1) := by rw [two_cast (D + 1 + k + 1)]; omega
  refine ⟨Int.ediv_nonneg c (Int.le_of_lt P), ?_, d, c⟩
  refine Int.ediv_le_of_le_mul P ?_
  rw [← Int.pow_add, show k + 1 + (D + 1) = D + 1 + k + 1 by omega]
  exact d
theorem rnd_cap {v : Int} {k : Nat} (h : v.natAbs ≤ 2 ^ (1074 + k)) : (rndI v).natAbs ≤ 2 ^ (k + 1) := by
  unfold rndI
  by_cases q : v < 0
  · rw [if_pos q]
    have := rnd_cap_pos (w := -v) (k := k) (D := 1073) (by omega) (by rw [Int.natAbs_neg]; exact h)
    have e : (2 : Int) ^ (k + 1) = ((2 ^ (k + 1) : Nat) : Int) := two_cast (k + 1)
    rw [e] at this
    have a := this.1
    have b := this.2.1
    rw [Int.natAbs_neg]
    exact Int.ofNat_le.1 (by rw [Int.natAbs_of_nonneg a]; exact b)
  · rw [if_neg q]
    have := rnd_cap_pos (w := v) (k := k) (D := 1073) (by omega) h
    have e : (2 : Int) ^ (k + 1) = ((2 ^ (k + 1) : Nat) : Int) := two_cast (k + 1)
    rw [e] at this
    have a := this.1
    have b := this.2.1
    exact Int.ofNat_le.1 (by rw [Int.natAbs_of_nonneg a]; exact b)
end Go.Proofs.Ytacinenddnfcbaa

namespace Go.Proofs.Ytacinenddnfcbaa
open Ieee Ieee.Own

def dW (d : Int) : Nat := FloatKind.f64.nearest d
theorem dw_fin {d : Int} (h : d.natAbs ≤ 2 ^ 53) : FinW (dW d) ∧ V (dW d) = d * 2 ^ 1074 := of_int d h
theorem dw_abs {d : Int} {k : Nat} (h : d.natAbs ≤ 2 ^ k) (hk : k ≤ 53) : FinW (dW d) ∧ (V (dW d)).natAbs ≤ 2 ^ (k + 1074) := by
  have a := dw_fin (abs_up h hk)
  exact ⟨a.1, by rw [a.2]; exact scale_le h⟩
theorem dw_neg {d : Int} (h : d.natAbs ≤ 2 ^ 53) : V (dW (-d)) = -V (dW d) := by
  rw [(dw_fin h).2, (dw_fin (d := -d) (by rw [Int.natAbs_neg]; exact h)).2, Int.neg_mul]
theorem dw_sq {d : Int} (h : d.natAbs ≤ 2 ^ 53) : mX (dW (-d)) (dW (-d)) = mX (dW d) (dW d) :=
  sq_same (dw_fin h).1 (dw_fin (d := -d) (by rw [Int.natAbs_neg]; exact h)).1 (by rw [dw_neg h, Int.natAbs_neg])
theorem RZ_nn {z : Int} (h : 0 ≤ z) : 0 ≤ RZ z := by
  unfold RZ; rw [if_neg (by omega)]; omega
theorem sq_pos {d : Int} (h : d.natAbs ≤ 2 ^ 53) : double.mul (dW d) (dW d) = some (mX (dW d) (dW d)) ∧ FinW (mX (dW d) (dW d)) ∧ 0 ≤ V (mX (dW d) (dW d)) ∧ V (mX (dW d) (dW d)) ≤ 2 ^ 1180 := by
  have a := dw_abs h (Nat.le_refl _)
  have m := mul_any (t := 1180) a.1 a.1 a.2 a.2 rfl (by decide)
  refine ⟨m.1, m.2.1, ?_, ?_⟩
  · rw [m.2.2.1]
    refine RZ_nn ?_
    rcases Int.le_total 0 (V (dW d)) with q | q
    · exact Int.mul_nonneg q q
    · exact Int.mul_nonneg_of_nonpos_of_nonpos q q
  · have := m.2.2.2
    rw [two_cast 1180]
    omega
theorem up_cast {a b : Nat} (h : a ≤ b) : (2 : Int) ^ a ≤ 2 ^ b := by
  rw [two_cast a, two_cast b]
  exact Int.ofNat_le.2 (two_le h)
theorem add_up {x y i k : Nat} (fx : FinW x) (fy : FinW y) (lx : (2 : Int) ^ i ≤ V x) (hx : V x ≤ 2 ^ k) (ly : 0 ≤ V y) (hy : V y ≤ 2 ^ k) (hk : k < 2000) :
    double.add x y = some (aX x y) ∧ FinW (aX x y) ∧ (2 : Int) ^ i ≤ V (aX x y) ∧ V (aX x y) ≤ 2 ^ (k + 1) := by
  have p : (0 : Int) < 2 ^ i := Int.pow_pos (by omega)
  rw [two_cast k] at hx hy
  obtain ⟨r, h1, h2, h3, h4⟩ := addW (k := k) fx fy (by omega) (by omega) hk
  have e : aX x y = r := by unfold aX; rw [h1]; rfl
  rw [e]
  have l : (2 : Int) ^ i ≤ V r := by
    rw [h3]
    have a := RN_mono (x := 2 ^ i) (y := V x + V y) (by omega)
    rw [two_cast i, RN_exact (Rep_pow i)] at a
    rw [two_cast i]
    exact a
  refine ⟨h1, h2, l, ?_⟩
  rw [two_cast (k + 1)]
  omega

/-! ### the length -/
def softW : Nat := 4697254411347427328
theorem soft_fin : FinW softW ∧ V softW = 2 ^ 1094 := by
  refine ⟨by unfold FinW softW; omega, by decide +kernel⟩
def lngP (d : Nat → Int) : Nat → Nat
  | 0 => softW
  | k + 1 => aX (lngP d k) (mX (dW (d k)) (dW (d k)))
theorem lng_any {d : Nat → Int} (h : ∀ k, (d k).natAbs ≤ 2 ^ 53) : ∀ k, k ≤ 8 → FinW (lngP d k) ∧ (2 : Int) ^ 1094 ≤ V (lngP d k) ∧ V (lngP d k) ≤ 2 ^ (1180 + k)
  | 0, _ => by
    refine ⟨soft_fin.1, by unfold lngP; rw [soft_fin.2]; exact Int.le_refl _, ?_⟩
    unfold lngP
    rw [soft_fin.2]
    exact up_cast (a := 1094) (b := 1180 + 0) (by omega)
  | k + 1, hk => by
    have a := lng_any h k (by omega)
    have s := sq_pos (h k)
    have up : (2 : Int) ^ 1180 ≤ 2 ^ (1180 + k) := up_cast (a := 1180) (b := 1180 + k) (by omega)
    have r := add_up (i := 1094) (k := 1180 + k) a.1 s.2.1 a.2.1 a.2.2 s.2.2.1 (Int.le_trans s.2.2.2 up) (by omega)
    exact ⟨r.2.1, r.2.2.1, r.2.2.2⟩
theorem lng_add {d : Nat → Int} (h : ∀ k, (d k).natAbs ≤ 2 ^ 53) {k : Nat} (hk : k < 8) : double.add (lngP d k) (mX (dW (d k)) (dW (d k))) = some (lngP d (k + 1)) := by
  have a := lng_any h k (by omega)
  have s := sq_pos (h k)
  have up : (2 : Int) ^ 1180 ≤ 2 ^ (1180 + k) := up_cast (a := 1180) (b := 1180 + k) (by omega)
  exact (add_up (i := 1094) (k := 1180 + k) a.1 s.2.1 a.2.1 a.2.2 s.2.2.1 (Int.le_trans s.2.2.2 up) (by omega)).1
/-- with some of the numbers negated the length is the same -/
theorem lng_flip {d e : Nat → Int} (h : ∀ k, (d k).natAbs ≤ 2 ^ 53) (he : ∀ k, e k = d k ∨ e k = -d k) : ∀ k, lngP e k = lngP d k
  | 0 => rfl
  | k + 1 => by
    unfold lngP
    rw [lng_flip h he k]
    rcases he k with q | q
    · rw [q]
    · rw [q, dw_sq (h k)]

/-! ### its root -/
theorem root_any {L i k : Nat} (f : FinW L) (lo : (2 : Int) ^ i ≤ V L) (hi : V L ≤ 2 ^ k) (h1 : 60 ≤ i) (h2 : k ≤ 2500) : 
    double.sqrt L = some (rG L) ∧ FinW (rG L) ∧ (2 : Int) ^ (563 + (i - 53) / 2) ≤ V (rG L) ∧ V (rG L) ≤ 2 ^ (564 + (k - 52) / 2) := by
  have p : (0 : Int) < 2 ^ i := Int.pow_pos (by omega)
  have la : 2 ^ i ≤ (V L).natAbs := by rw [two_cast i] at lo; omega
  have ha : (V L).natAbs ≤ 2 ^ k := by rw [two_cast k] at hi; omega
  have N := norm_of f (norm_big f (Nat.le_trans (two_le (a := 52) (b := i) (by omega)) la))
  have sg : decide (9223372036854775808 ≤ L) = false := by
    cases hs : decide (9223372036854775808 ≤ L) with
    | false => rfl
    | true =>
      rw [hs] at N
      have := (sv_sign true (4503599627370496 + L % 4503599627370496) (L % 9223372036854775808 / 4503599627370496 - 1)).1 rfl
      rw [← N.val] at this
      omega
  rw [sg] at N
  generalize hm : 4503599627370496 + L % 4503599627370496 = m at *
  generalize hp : L % 9223372036854775808 / 4503599627370496 - 1 = q at *
  rw [N.val, sv_abs] at la ha
  have q1 : i - 53 ≤ q := by
    refine Nat.le_of_not_lt fun g => ?_
    have a : m * 2 ^ q < 2 ^ 53 * 2 ^ q := Nat.mul_lt_mul_of_pos_right N.hi (Nat.two_pow_pos _)
    rw [← Nat.pow_add] at a
    have b := two_le (a := 53 + q) (b := i) (by omega)
    omega
  have q2 : q ≤ k - 52 := by
    refine Nat.le_of_not_lt fun g => ?_
    have a : 2 ^ 52 * 2 ^ q ≤ m * 2 ^ q := Nat.mul_le_mul_right _ N.lo
    rw [← Nat.pow_add] at a
    have b := two_lt (a := k) (b := 52 + q) (by omega)
    omega
  obtain ⟨r, Q, r1, r2, r3, r4, r5, -, -⟩ := sqrt_spec N (by omega)
  have e : rG L = r := by unfold rG; rw [r1]; rfl
  rw [e]
  have v : V r = ((Q * 2 ^ (511 + q / 2) : Nat) : Int) := by rw [r3]; unfold sv; simp
  refine ⟨r1, r2, ?_, ?_⟩
  · rw [v, two_cast]
    refine Int.ofNat_le.2 ?_
    refine Nat.le_trans ?_ (Nat.mul_le_mul_right _ r4)
    rw [← Nat.pow_add]
    exact two_le (by omega)
  · rw [v, two_cast (564 + (k - 52) / 2)]
    refine Int.ofNat_le.2 ?_
    refine Nat.le_trans (Nat.mul_le_mul_right _ r5) ?_
    rw [← Nat.pow_add]
    exact two_le (by omega)

/-! ### the pull -/
structure Gee (g : Nat) : Prop where
  fin : FinW g
  abs : (V g).natAbs ≤ 2 ^ 1114
def drwW (g : Nat) (mm : Int) : Nat := mX g (dW mm)
def prdW (d : Nat → Int) : Nat := mX (lngP d 3) (rG (lngP d 3))
def fW (g : Nat) (mm : Int) (d : Nat → Int) : Nat := qG (drwW g mm) (prdW d)
def capD (n : Nat) : Int := 2 ^ n
abbrev cap32 : Int := capD (1074 + 32)
def clI (B v : Int) : Int := if B < v then B else if v < -B then -B else v
def pulI (g : Nat) (mm : Int) (d : Nat → Int) (k : Nat) : Int := rndI (clI cap32 (V (mX (fW g mm d) (dW (d k)))))
theorem drw_ok {g : Nat} {mm : Int} (hg : Gee g) (hm : mm.natAbs ≤ 2 ^ 40) : double.mul g (dW mm) = some (drwW g mm) ∧ FinW (drwW g mm) ∧ (V (drwW g mm)).natAbs ≤ 2 ^ 1154 := by
  have a := dw_abs hm (by decide)
  have m := mul_any (k := 1114) (l := 40 + 1074) (t := 1154) hg.fin a.1 hg.abs a.2 rfl (by decide)
  exact ⟨m.1, m.2.1, m.2.2.2⟩
theorem root_ok {d : Nat → Int} (h : ∀ k, (d k).natAbs ≤ 2 ^ 53) : double.sqrt (lngP d 3) = some (rG (lngP d 3)) ∧ FinW (rG (lngP d 3)) ∧ (2 : Int) ^ 1083 ≤ V (rG (lngP d 3)) ∧ V (rG (lngP d 3)) ≤ 2 ^ 1129 := by
  have a := lng_any h 3 (by decide)
  have r := root_any (i := 1094) (k := 1180 + 3) a.1 a.2.1 a.2.2 (by decide) (by decide)
  exact ⟨r.1, r.2.1, r.2.2.1, r.2.2.2⟩
theorem abs_of {x : Int} {i k : Nat} (lo : (2 : Int) ^ i ≤ x) (hi : x ≤ 2 ^ k) : x.natAbs ≤ 2 ^ k ∧ 2 ^ i ≤ x.natAbs := by
  have p : (0 : Int) < 2 ^ i := Int.pow_pos (by omega)
  rw [two_cast k] at hi
  rw [two_cast i] at lo p
  omega
theorem dvr_of {j k b : Nat} (f : FinW b) (h : (2 : Int) ^ k ≤ V b) (hk : 1074 + j ≤ k) (hi : (V b).natAbs ≤ 2 ^ 1900) : Dvr j b := by
  refine ⟨f, Nat.le_trans (two_le hk) ?_, hi⟩
  rw [two_cast k] at h
  omega
theorem prd_ok {d : Nat → Int} (h : ∀ k, (d k).natAbs ≤ 2 ^ 53) : double.mul (lngP d 3) (rG (lngP d 3)) = some (prdW d) ∧ Dvr 0 (prdW d) := by
  have a := lng_any h 3 (by decide)
  have r := root_ok h
  have m := mul_any (k := 1180 + 3) (l := 1129) (t := 1238) a.1 r.2.1 (abs_of a.2.1 a.2.2).1 (abs_of r.2.2.1 r.2.2.2).1 rfl (by decide)
  have l := mul_low (k := 1094) (l := 1083) (t := 1103) m.2.2.1 a.2.1 r.2.2.1 rfl
  exact ⟨m.1, dvr_of (k := 1103) m.2.1 l (by decide) (Nat.le_trans m.2.2.2 (two_le (a := 1238) (b := 1900) (by omega)))⟩
theorem f_ok {g : Nat} {mm : Int} {d : Nat → Int} (hg : Gee g) (hm : mm.natAbs ≤ 2 ^ 40) (h : ∀ k, (d k).natAbs ≤ 2 ^ 53) : double.div (drwW g mm) (prdW d) = some (fW g mm d) ∧ FinW (fW g mm d) ∧ (V (fW g mm d)).natAbs ≤ 2 ^ 1155 := by
  have a := drw_ok hg hm
  have b := prd_ok h
  exact div_fin (k := 1154) (j := 0) (u := 1155) a.2.1 b.2 a.2.2 (by decide) (by decide) rfl
theorem fd_ok {g : Nat} {mm : Int} {d : Nat → Int} (hg : Gee g) (hm : mm.natAbs ≤ 2 ^ 40) (h : ∀ k, (d k).natAbs ≤ 2 ^ 53) (k : Nat) :
    double.mul (fW g mm d) (dW (d k)) = some (mX (fW g mm d) (dW (d k))) ∧ FinW (mX (fW g mm d) (dW (d k))) ∧ V (mX (fW g mm d) (dW (d k))) = RZ (V (fW g mm d) * V (dW (d k))) := by
  have a := f_ok hg hm h
  have b := dw_abs (h k) (Nat.le_refl _)
  have m := mul_any (k := 1155) (l := 53 + 1074) (t := 1208) a.2.1 b.1 a.2.2 b.2 rfl (by decide)
  exact ⟨m.1, m.2.1, m.2.2.1⟩
theorem cl_odd {B v : Int} (hB : 0 ≤ B) : clI B (-v) = -clI B v := by
  unfold clI
  by_cases h1 : B < v
  · rw [if_neg (by omega), if_pos (by omega), if_pos h1]
  · by_cases h2 : v < -B
    · rw [if_pos (by omega), if_neg h1, if_pos h2, Int.neg_neg]
    · rw [if_neg (by omega), if_neg (by omega), if_neg h1, if_neg h2]
theorem cl_cap {B v : Int} (hB : 0 ≤ B) : (clI B v).natAbs ≤ B.natAbs := by
  unfold clI
  by_cases h1 : B < v
  · rw [if_pos h1]; exact Nat.le_refl _
  · by_cases h2 : v < -B
    · rw [if_neg h1, if_pos h2, Int.natAbs_neg]; exact Nat.le_refl _
    · rw [if_neg h1, if_neg h2]; omega
theorem capD_pos (n : Nat) : 0 ≤ capD n := by unfold capD; exact Int.le_of_lt (Int.pow_pos (by omega))
theorem capD_abs (n : Nat) : (capD n).natAbs = 2 ^ n := pw_abs n
theorem cap_pos : 0 ≤ cap32 := capD_pos _
theorem rnd_capD {v : Int} {k : Nat} (h : v.natAbs ≤ (capD (1074 + k)).natAbs) : (rndI v).natAbs ≤ 2 ^ (k + 1) := rnd_cap (by rw [← capD_abs]; exact h)
theorem pul_cap (g : Nat) (mm : Int) (d : Nat → Int) (k : Nat) : (pulI g mm d k).natAbs ≤ 2 ^ 33 := by
  unfold pulI
  exact rnd_capD (k := 32) (cl_cap cap_pos)
/-- numbers negated: where they are, the pull is; where not, it stays -/
theorem pul_flip {g : Nat} {mm : Int} {d e : Nat → Int} (hg : Gee g) (hm : mm.natAbs ≤ 2 ^ 40) (h : ∀ k, (d k).natAbs ≤ 2 ^ 53) (he : ∀ k, e k = d k ∨ e k = -d k) (k : Nat) :
    (e k = d k → pulI g mm e k = pulI g mm d k) ∧ (e k = -d k → pulI g mm e k = -pulI g mm d k) := by
  have f : fW g mm e = fW g mm d := by unfold fW prdW; rw [lng_flip h he 3]
  have h' : ∀ k, (e k).natAbs ≤ 2 ^ 53 := fun k => by
    rcases he k with q | q
    · rw [q]; exact h k
    · rw [q, Int.natAbs_neg]; exact h k
  constructor
  · intro q
    unfold pulI
    rw [f, q]
  · intro q
    unfold pulI
    have a := (fd_ok hg hm h k).2.2
    have b := (fd_ok hg hm h' k).2.2
    rw [f] at b
    rw [f, b, a, q, dw_neg (h k), Int.mul_neg, RZ_neg, cl_odd cap_pos, rnd_odd]
/-! ### half of a step's way -/
def hfI (P M : Int) : Int := rndI (V (qG (dW P) (dW (2 * M))))
theorem dbl_low {M : Int} (D : Nat) (h : 1 ≤ M) : 2 ^ (D + 1) ≤ (2 * M * 2 ^ D).natAbs := by
  rw [scale_abs, two_succ]
  exact Nat.mul_le_mul_right _ (by omega)
theorem two_m {M : Int} (h1 : 1 ≤ M) (h2 : M ≤ 1048576) : Dvr 1 (dW (2 * M)) := by
  have a := dw_fin (d := 2 * M) (by omega)
  refine ⟨a.1, ?_, ?_⟩
  · rw [a.2]
    exact dbl_low 1074 h1
  · rw [a.2]
    exact abs_up (k := 53 + 1074) (l := 1900) (scale_le (A := 2 * M) (p := 1074) (k := 53) (by omega)) (by omega)
theorem hf_ok {P M : Int} (h1 : 1 ≤ M) (h2 : M ≤ 1048576) {k : Nat} (hp : P.natAbs ≤ 2 ^ k) (hk : k ≤ 52) : double.div (dW P) (dW (2 * M)) = some (qG (dW P) (dW (2 * M))) ∧ FinW (qG (dW P) (dW (2 * M))) ∧ (V (qG (dW P) (dW (2 * M)))).natAbs ≤ 2 ^ (1074 + k) := by
  have a := dw_abs hp (by omega)
  exact div_fin (k := k + 1074) (j := 1) (u := 1074 + k) a.1 (two_m h1 h2) a.2 (by omega) (by omega) (by omega)
theorem hf_cap {P M : Int} (h1 : 1 ≤ M) (h2 : M ≤ 1048576) {k : Nat} (hp : P.natAbs ≤ 2 ^ k) (hk : k ≤ 52) : (hfI P M).natAbs ≤ 2 ^ (k + 1) := rnd_cap (hf_ok h1 h2 hp hk).2.2
theorem hf_odd {P M : Int} (h1 : 1 ≤ M) (h2 : M ≤ 1048576) (hp : P.natAbs ≤ 2 ^ 52) : hfI (-P) M = -hfI P M := by
  have p53 : P.natAbs ≤ 2 ^ 53 := by omega
  have a := dw_abs hp (by omega)
  have b := dw_abs (d := -P) (k := 52) (by rw [Int.natAbs_neg]; exact hp) (by omega)
  unfold hfI
  rw [div_odd (k := 52 + 1074) a.1 b.1 (two_m h1 h2) a.2 (by omega) (by omega) (dw_neg p53), rnd_odd]
end Go.Proofs.Ytacinenddnfcbaa
