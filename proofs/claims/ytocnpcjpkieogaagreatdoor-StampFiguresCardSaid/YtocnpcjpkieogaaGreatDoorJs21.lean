/- Proved here: what the texts Yme, Ymf, Ymg prove, one behind the other. -/
import Derived.Test.YtocnpcjpkieogaaGreatDoorJs20
import Derived.Test.YtocnpcjpkieogaaGreatDoorJs5
import Derived.Test.YtocnpcjpkieogaaGreatDoorJs3

namespace Go.Proofs.YtocnpcjpkieogaaGreatDoor
open Ieee.Own

theorem usc_lin {h m m2 l q d r : Nat} (hm : m < 18446744073709551616) (hl : l < 18446744073709551616) (hm2 : m2 ≤ 18446744073709551613)
    (e : h * 340282366920938463463374607431768211456 + m * 18446744073709551616 = m2 * 18446744073709551616 + l + q * 87112285931760246646623899502532662132736 + d)
    (h0 : r = 0 → d < 18446744073709551616) (h1 : r ≠ 0 → 81129638414606681695789005144064 ≤ d ∧ d + 81129638414606681695789005144064 ≤ 87112285931760246646623899502532662132736 + 18446744073709551616) :
    (r = 0 → h = q * 256 ∧ m2 ≤ m ∧ m ≤ m2 + 1) ∧ (r ≠ 0 → (h % 256 ≠ 0 ∧ h / 256 = q) ∨ (h = q * 256 ∧ m2 + 2 ≤ m) ∨ (h = q * 256 + 256 ∧ m < m2)) := by
  constructor
  · intro z
    have := h0 z
    refine ⟨?_, ?_, ?_⟩ <;> omega
  · intro z
    have := h1 z
    omega
theorem usc_e {A B h m m2 l q d : Nat} (hA : 18446744073709551616 * h + m = A) (hB : 18446744073709551616 * m2 + l = B) (e : A * 18446744073709551616 = B + q * 87112285931760246646623899502532662132736 + d) :
    h * 340282366920938463463374607431768211456 + m * 18446744073709551616 = m2 * 18446744073709551616 + l + q * 87112285931760246646623899502532662132736 + d := by
  have k : (18446744073709551616 * h + m) * 18446744073709551616 = h * 340282366920938463463374607431768211456 + m * 18446744073709551616 := by
    rw [Nat.add_mul, Nat.mul_right_comm, Nat.mul_comm h]
  rw [hA] at k
  rw [← k, e, ← hB, Nat.mul_comm m2]
/-- the factor's two words serve: T times it is a power of two, and less than T more -/
theorem usc_neg {x a b T C' q r ep : Nat} (hx : x < 18446744073709551616) (hb : b ≤ 18446744073709551614) (hT : 0 < T) (hT2 : T ≤ 1073741824)
    (hp : a * 18446744073709551616 * T = b * T + 2 ^ C' * 87112285931760246646623899502532662132736 + ep) (he : ep < T) (hq : x * 2 ^ C' = q * T + r) (hr : r < T) :
    usc x a b 8 = or1 q (if r = 0 then 0 else 1) := by
  -- what is over
  have E : x * a * 18446744073709551616 * T = (x * b + q * 87112285931760246646623899502532662132736) * T + (r * 87112285931760246646623899502532662132736 + x * ep) := by
    have h1 : x * (a * 18446744073709551616 * T) = x * (b * T) + x * 2 ^ C' * 87112285931760246646623899502532662132736 + x * ep := by
      rw [hp, Nat.mul_add, Nat.mul_add, Nat.mul_assoc]
    rw [hq] at h1
    have h2 : x * a * 18446744073709551616 * T = x * (a * 18446744073709551616 * T) := by rw [Nat.mul_assoc, Nat.mul_assoc, Nat.mul_assoc]
    rw [h2, h1, Nat.add_mul, Nat.add_mul, Nat.mul_assoc x b T, Nat.mul_right_comm q T]
    omega
  obtain ⟨d, hd⟩ : ∃ d, r * 87112285931760246646623899502532662132736 + x * ep = d * T := by
    have k1 : T ∣ (x * b + q * 87112285931760246646623899502532662132736) * T + (r * 87112285931760246646623899502532662132736 + x * ep) := ⟨x * a * 18446744073709551616, by rw [← E, Nat.mul_comm]⟩
    have k2 := (Nat.dvd_add_right (Nat.dvd_mul_left T (x * b + q * 87112285931760246646623899502532662132736))).1 k1
    obtain ⟨d, hd⟩ := k2
    exact ⟨d, by rw [hd, Nat.mul_comm]⟩
  rw [hd, ← Nat.add_mul] at E
  have E2 := Nat.eq_of_mul_eq_mul_right hT E
  have xe : x * ep < 18446744073709551616 * T := Nat.mul_lt_mul'' hx he
  have d0 : r = 0 → d < 18446744073709551616 := by
    intro z
    rw [z, Nat.zero_mul, Nat.zero_add] at hd
    rw [hd] at xe
    exact Nat.lt_of_mul_lt_mul_right xe
  have d1 : r ≠ 0 → 81129638414606681695789005144064 ≤ d ∧ d + 81129638414606681695789005144064 ≤ 87112285931760246646623899502532662132736 + 18446744073709551616 := by
    intro z
    constructor
    · have k : 81129638414606681695789005144064 * T ≤ 81129638414606681695789005144064 * 1073741824 := Nat.mul_le_mul_left _ hT2
      have k2 : 81129638414606681695789005144064 * T ≤ d * T := by omega
      exact Nat.le_of_mul_le_mul_right k2 hT
    · have k : 81129638414606681695789005144064 * T ≤ 81129638414606681695789005144064 * 1073741824 := Nat.mul_le_mul_left _ hT2
      have k2 : (d + 81129638414606681695789005144064) * T ≤ (87112285931760246646623899502532662132736 + 18446744073709551616) * T := by
        rw [Nat.add_mul, Nat.add_mul]
        have : (r + 1) * 87112285931760246646623899502532662132736 ≤ T * 87112285931760246646623899502532662132736 := Nat.mul_le_mul_right _ hr
        rw [Nat.mul_comm T] at this
        omega
      exact Nat.le_of_mul_le_mul_right k2 hT
  unfold usc
  have hm : x * a % 18446744073709551616 < 18446744073709551616 := Nat.mod_lt _ (by decide)
  have hA := Nat.div_add_mod (x * a) 18446744073709551616
  have hl : x * b % 18446744073709551616 < 18446744073709551616 := Nat.mod_lt _ (by decide)
  have hB := Nat.div_add_mod (x * b) 18446744073709551616
  have hm2 : x * b / 18446744073709551616 ≤ 18446744073709551613 := by
    have : x * b / 18446744073709551616 < 18446744073709551614 := by
      rw [Nat.div_lt_iff_lt_mul (by decide)]
      have k := Nat.mul_le_mul (Nat.le_of_lt_succ hx) hb
      omega
    omega
  generalize x * a / 18446744073709551616 = h at *
  generalize x * a % 18446744073709551616 = m at *
  generalize x * b / 18446744073709551616 = m2 at *
  generalize x * b % 18446744073709551616 = l at *
  generalize x * a = A at *
  generalize x * b = B at *
  have L := usc_lin (h := h) (m := m) (m2 := m2) (l := l) (q := q) (d := d) (r := r) hm hl hm2 (usc_e hA hB E2) d0 d1
  clear E E2 hd d0 d1 xe hp hq he hA hB hx hb hT2
  rw [show (2 : Nat) ^ 8 = 256 by decide]
  by_cases z : r = 0
  · obtain ⟨a1, a2, a3⟩ := L.1 z
    rw [if_pos z, if_pos (by omega), if_neg (by omega), if_neg (by omega), a1, Nat.mul_div_cancel _ (by decide)]
  · rw [if_neg z]
    rcases L.2 z with ⟨a1, a2⟩ | ⟨a1, a2⟩ | ⟨a1, a2⟩
    · rw [if_neg a1, a2]
    · rw [if_pos (by omega), if_neg (by omega), if_pos (by omega), a1, Nat.mul_div_cancel _ (by decide)]
    · rw [if_pos (by omega), if_pos (by omega), if_pos (by omega), show (h - 1) / 256 = q by omega]
/-- halved -/
theorem or1_two (q s : Nat) (hs : s ≤ 1) : or1 (or1 q s / 2) (or1 q s % 2) = or1 (q / 2) (if q % 2 = 0 ∧ s = 0 then 0 else 1) := by
  have : s = 0 ∨ s = 1 := by omega
  rcases this with rfl | rfl
  · rw [or1_z]
    rcases Nat.mod_two_eq_zero_or_one q with k | k
    · rw [k, if_pos ⟨rfl, rfl⟩]
    · rw [k, if_neg (by omega)]
  · rw [if_neg (by omega)]
    rcases Nat.mod_two_eq_zero_or_one q with k | k
    · rw [or1_e k, show (q + 1) % 2 = 1 by omega, show (q + 1) / 2 = q / 2 by omega]
    · rw [or1_o k, k]
theorem unr_two {N D : Nat} (hD : 0 < D) : or1 (unr N D / 2) (unr N D % 2) = unr N (2 * D) := by
  unfold unr
  rw [or1_two _ _ (by split <;> omega)]
  have e1 : 4 * N / (2 * D) = 4 * N / D / 2 := by rw [Nat.div_div_eq_div_mul, Nat.mul_comm 2 D]
  have e2 : 4 * N % (2 * D) = D * (4 * N / D % 2) + 4 * N % D := by rw [Nat.mul_comm 2 D, Nat.mod_mul, Nat.add_comm]
  rw [e1, e2]
  congr 1
  by_cases h : 4 * N % D = 0
  · rw [if_pos h, h, Nat.add_zero]
    by_cases k : 4 * N / D % 2 = 0
    · rw [k, if_pos ⟨rfl, rfl⟩, Nat.mul_zero, if_pos rfl]
    · have : 4 * N / D % 2 = 1 := by omega
      rw [this, if_neg (by omega), Nat.mul_one, if_neg (by omega)]
  · rw [if_neg h, if_neg (by omega), if_neg (by omega)]
end Go.Proofs.YtocnpcjpkieogaaGreatDoor

namespace Go.Proofs.YtocnpcjpkieogaaGreatDoor
open Ieee.Own

/-- how far the power of ten lies -/
def lgN (p : Nat) : Nat := if p = 6 then 20 else if p = 7 then 24 else if p = 8 then 27 else 30
theorem lgN_at {p : Nat} (h1 : 6 ≤ p) (h2 : p ≤ 9) : 10 * 2 ^ lgN p ≤ 17 * 10 ^ p ∧ 10 ^ p ≤ 2 ^ lgN p ∧ lg2 (-(p : Int)) = -(lgN p : Int) ∧ 20 ≤ lgN p ∧ lgN p ≤ 30 := by
  have : p = 6 ∨ p = 7 ∨ p = 8 ∨ p = 9 := by omega
  rcases this with rfl | rfl | rfl | rfl <;> decide
/-- the row of the table -/
def rowN (p : Nat) : Nat × Nat := (Go.Pinned.pow10Rows[348 - p]?).getD (0, 0)
theorem row_all : ((List.range 4).all fun i => decide (Go.Pinned.pow10Rows[348 - (6 + i)]? = some (rowN (6 + i))) && (decide ((rowN (6 + i)).1 < 18446744073709551616) && (decide ((rowN (6 + i)).2 ≤ 18446744073709551614) &&
    (decide ((rowN (6 + i)).2 * 10 ^ (6 + i) + 2 ^ (lgN (6 + i) - 9) * 87112285931760246646623899502532662132736 ≤ (rowN (6 + i)).1 * 18446744073709551616 * 10 ^ (6 + i)) &&
    decide ((rowN (6 + i)).1 * 18446744073709551616 * 10 ^ (6 + i) - ((rowN (6 + i)).2 * 10 ^ (6 + i) + 2 ^ (lgN (6 + i) - 9) * 87112285931760246646623899502532662132736) < 10 ^ (6 + i)))))) = true := by decide +kernel
theorem row_at {p : Nat} (h1 : 6 ≤ p) (h2 : p ≤ 9) : Go.Pinned.pow10Rows[348 - p]? = some (rowN p) ∧ (rowN p).1 < 18446744073709551616 ∧ (rowN p).2 ≤ 18446744073709551614 ∧
    ∃ ep, ep < 10 ^ p ∧ (rowN p).1 * 18446744073709551616 * 10 ^ p = (rowN p).2 * 10 ^ p + 2 ^ (lgN p - 9) * 87112285931760246646623899502532662132736 + ep := by
  have h := row_all
  rw [List.all_eq_true] at h
  have g := h (p - 6) (List.mem_range.2 (by omega))
  rw [show 6 + (p - 6) = p by omega] at g
  simp only [Bool.and_eq_true, decide_eq_true_eq] at g
  obtain ⟨g1, g2, g3, g4, g5⟩ := g
  exact ⟨g1, g2, g3, _, g5, by omega⟩
/-- unrounded, by the table -/
theorem usc_val {D p b k0 : Nat} (h1 : 6 ≤ p) (h2 : p ≤ 9) (hb2 : b ≤ 64) (hD : D < 2 ^ b) (hk : k0 + b = lgN p + 53) :
    usc (D * 2 ^ (64 - b)) (rowN p).1 (rowN p).2 8 = unr (D * 2 ^ k0) (10 ^ p) := by
  obtain ⟨l1, l2, l3, l4, l5⟩ := lgN_at h1 h2
  obtain ⟨r1, r2, r3, ep, r4, r5⟩ := row_at h1 h2
  have hx : D * 2 ^ (64 - b) < 18446744073709551616 := by
    have := Nat.mul_lt_mul_of_pos_right hD (Nat.two_pow_pos (64 - b))
    rw [← Nat.pow_add, show b + (64 - b) = 64 by omega] at this
    exact this
  have e : D * 2 ^ (64 - b) * 2 ^ (lgN p - 9) = 4 * (D * 2 ^ k0) := by
    rw [Nat.mul_assoc, ← Nat.pow_add, show 64 - b + (lgN p - 9) = k0 + 2 by omega, Nat.pow_add, ← Nat.mul_assoc, Nat.mul_comm _ (2 ^ 2)]
  have t2 : 10 ^ p ≤ 1073741824 := by
    have : 10 ^ p ≤ 10 ^ 9 := Nat.pow_le_pow_right (by decide) h2
    rw [show (10 : Nat) ^ 9 = 1000000000 by decide] at this
    omega
  rw [usc_neg (q := 4 * (D * 2 ^ k0) / 10 ^ p) (r := 4 * (D * 2 ^ k0) % 10 ^ p) hx r3 (ten_pos p) t2 r5 r4 (by rw [e, Nat.mul_comm _ (10 ^ p)]; exact (Nat.div_add_mod _ _).symm) (Nat.mod_lt _ (ten_pos p))]
  rfl
theorem rndU_unr {N D : Nat} (hD : 0 < D) : rndU (unr N D) = rneD N D := unr_round hD
theorem or1_ge {q s : Nat} (h : 36028797018963966 ≤ or1 q s) : 36028797018963966 ≤ q := by
  unfold or1 at h
  split at h <;> omega
theorem rneD_two {N D k : Nat} (hk : 1 ≤ k) (d : Nat) (e : N = d * 2 ^ k) : rneD N (2 * D) = rneD (d * 2 ^ (k - 1)) D := by
  have s := rneD_scale (N := d * 2 ^ (k - 1)) (D := D) (c := 2) (by decide)
  rw [← s, Nat.mul_assoc, ← Nat.pow_succ, show (k - 1).succ = k by omega, ← e, Nat.mul_comm D]
/-- the word that parseFloat64 packs is the nearest -/
theorem pf_near {D p b k0 : Nat} (h1 : 6 ≤ p) (h2 : p ≤ 9) (hb1 : 1 ≤ b) (hb2 : b ≤ 64) (hD1 : 2 ^ (b - 1) ≤ D) (hD : D < 2 ^ b) (hk : k0 + b = lgN p + 53) :
    (unr (D * 2 ^ k0) (10 ^ p) < 36028797018963966 → 4503599627370496 ≤ rndU (unr (D * 2 ^ k0) (10 ^ p)) ∧ rndU (unr (D * 2 ^ k0) (10 ^ p)) < 9007199254740992 ∧
      ∃ k, ∀ x, x % 9223372036854775808 = rndU (unr (D * 2 ^ k0) (10 ^ p)) + (1074 - k0) * 4503599627370496 → NearK D p k x) ∧
    (36028797018963966 ≤ unr (D * 2 ^ k0) (10 ^ p) → 4503599627370496 ≤ rndU (or1 (unr (D * 2 ^ k0) (10 ^ p) / 2) (unr (D * 2 ^ k0) (10 ^ p) % 2)) ∧ rndU (or1 (unr (D * 2 ^ k0) (10 ^ p) / 2) (unr (D * 2 ^ k0) (10 ^ p) % 2)) < 9007199254740992 ∧
      ∃ k, ∀ x, x % 9223372036854775808 = rndU (or1 (unr (D * 2 ^ k0) (10 ^ p) / 2) (unr (D * 2 ^ k0) (10 ^ p) % 2)) + (1075 - k0) * 4503599627370496 → NearK D p k x) ∧ unr (D * 2 ^ k0) (10 ^ p) < 9223372036854775808 := by
  obtain ⟨l1, l2, l3, l4, l5⟩ := lgN_at h1 h2
  have t0 := ten_pos p
  have hN1 : 2 ^ (52 + lgN p) ≤ D * 2 ^ k0 := by
    have := Nat.mul_le_mul_right (2 ^ k0) hD1
    rw [← Nat.pow_add, show b - 1 + k0 = 52 + lgN p by omega] at this
    exact this
  have hN2 : D * 2 ^ k0 < 2 ^ (53 + lgN p) := by
    have := Nat.mul_lt_mul_of_pos_right hD (Nat.two_pow_pos k0)
    rw [← Nat.pow_add, show b + k0 = 53 + lgN p by omega] at this
    exact this
  rw [Nat.pow_add, show (2 : Nat) ^ 52 = 4503599627370496 by decide] at hN1
  rw [Nat.pow_add, show (2 : Nat) ^ 53 = 9007199254740992 by decide] at hN2
  generalize 2 ^ lgN p = G at *
  have lo : 4503599627370496 * 10 ^ p ≤ D * 2 ^ k0 := by omega
  have hi : 10 * (D * 2 ^ k0) < 17 * (9007199254740992 * 10 ^ p) := by omega
  clear hN1 hN2 l1 l2 l3 hD1 hD
  have rr := rndU_unr (N := D * 2 ^ k0) t0
  have r2 := rndU_unr (N := D * 2 ^ k0) (D := 2 * 10 ^ p) (by omega)
  rw [← unr_two t0] at r2
  have q2 : 4 * (D * 2 ^ k0) / 10 ^ p < 72057594037927936 := by
    rw [Nat.div_lt_iff_lt_mul t0]; omega
  have qs : ∃ q s, s ≤ 1 ∧ unr (D * 2 ^ k0) (10 ^ p) = or1 q s ∧ q = 4 * (D * 2 ^ k0) / 10 ^ p := ⟨_, _, by split <;> omega, rfl, rfl⟩
  obtain ⟨q, s, hs, hu, hq⟩ := qs
  rw [← hq] at q2
  have ol := or1_le q s
  have hq3 : q * 10 ^ p ≤ 4 * (D * 2 ^ k0) := by rw [hq]; exact Nat.div_mul_le_self _ _
  have hq4 : 4 * (D * 2 ^ k0) < (q + 1) * 10 ^ p := by
    have a := Nat.div_add_mod (4 * (D * 2 ^ k0)) (10 ^ p)
    have b := Nat.mod_lt (4 * (D * 2 ^ k0)) t0
    rw [← hq, Nat.mul_comm] at a
    rw [Nat.add_mul, Nat.one_mul]; omega
  refine ⟨fun h => ?_, fun h => ?_, by omega⟩
  · have hq5 : q + 1 ≤ 36028797018963966 := by omega
    have up : 4 * (D * 2 ^ k0) < 36028797018963966 * 10 ^ p := Nat.lt_of_lt_of_le hq4 (Nat.mul_le_mul_right _ hq5)
    obtain ⟨e1, e2⟩ := rneD_err (N := D * 2 ^ k0) t0
    have rg := rneD_range (N := D * 2 ^ k0) t0 (a := 4503599627370496) lo (by omega)
    rw [rr]
    refine ⟨rg.1, ?_, k0, fun x hx => ⟨lo, by omega, hx⟩⟩
    have : rneD (D * 2 ^ k0) (10 ^ p) * 10 ^ p < 9007199254740992 * 10 ^ p := by omega
    exact Nat.lt_of_mul_lt_mul_right this
  · rw [hu] at h
    have hq5 := or1_ge h
    have dn : 36028797018963966 * 10 ^ p ≤ 4 * (D * 2 ^ k0) := Nat.le_trans (Nat.mul_le_mul_right _ hq5) hq3
    have hk1 : 1 ≤ k0 := by omega
    rw [r2]
    by_cases c : 9007199254740992 * 10 ^ p ≤ D * 2 ^ k0
    · rw [rneD_two (D := 10 ^ p) hk1 D rfl]
      have h2k : D * 2 ^ k0 = 2 * (D * 2 ^ (k0 - 1)) := by
        rw [Nat.mul_left_comm, ← Nat.pow_succ', show (k0 - 1).succ = k0 by omega]
      have lo2 : 4503599627370496 * 10 ^ p ≤ D * 2 ^ (k0 - 1) := by omega
      have hi2 : D * 2 ^ (k0 - 1) < 9007199254740992 * 10 ^ p := by omega
      have rg := rneD_range (N := D * 2 ^ (k0 - 1)) t0 (a := 4503599627370496) lo2 (by omega)
      obtain ⟨e1, e2⟩ := rneD_err (N := D * 2 ^ (k0 - 1)) t0
      refine ⟨rg.1, ?_, k0 - 1, fun x hx => ⟨lo2, hi2, by rw [hx]; omega⟩⟩
      have : rneD (D * 2 ^ (k0 - 1)) (10 ^ p) * 10 ^ p < 9007199254740992 * 10 ^ p := by omega
      exact Nat.lt_of_mul_lt_mul_right this
    · have m2 : rneD (D * 2 ^ k0) (2 * 10 ^ p) = 4503599627370496 := rneD_near (by omega) (by omega) (by omega)
      have q6 : q < 36028797018963968 := by
        rw [hq, Nat.div_lt_iff_lt_mul t0]; omega
      have m1 : rneD (D * 2 ^ k0) (10 ^ p) = 9007199254740992 := by
        rw [← rr, hu]
        have : or1 q s = 36028797018963966 ∨ or1 q s = 36028797018963967 := by
          unfold or1; split <;> omega
        rcases this with r | r <;> rw [r] <;> decide
      rw [m2]
      refine ⟨by decide, by decide, k0, fun x hx => ⟨lo, by omega, ?_⟩⟩
      rw [m1, hx]; omega
end Go.Proofs.YtocnpcjpkieogaaGreatDoor

namespace Go.Proofs.YtocnpcjpkieogaaGreatDoor
open Ieee Ieee.Own

theorem odd_five (p q : Nat) (h : q % 2 = 1) : q * 5 ^ p % 2 = 1 := by
  rw [Nat.mul_mod, h, Nat.pow_mod]
  show 1 * (1 ^ p % 2) % 2 = 1
  rw [Nat.one_pow]
theorem no_tie {D p k q : Nat} (hk : p ≤ k) (hq : q % 2 = 1) (h : 2 * (D * 2 ^ k) = q * 10 ^ p) : False := by
  rw [show (10 : Nat) = 5 * 2 by rfl, Nat.mul_pow, ← Nat.mul_assoc, show k = (k - p) + p by omega, Nat.pow_add, ← Nat.mul_assoc, ← Nat.mul_assoc] at h
  have := Nat.eq_of_mul_eq_mul_right (Nat.two_pow_pos p) h
  have o := odd_five p q hq
  rw [← this, Nat.mul_mod, Nat.mul_mod_right] at o
  simp at o
theorem word_at {r Q e : Nat} (hf : FinW r) (hv : (V r).natAbs = Q * 2 ^ e) (h1 : 4503599627370496 ≤ Q) (h2 : Q ≤ 9007199254740992) : r % 9223372036854775808 = Q + e * 4503599627370496 := by
  rw [V_abs' r hf] at hv
  have g := rung_val e Q (by rw [show (2 : Nat) ^ 53 = 9007199254740992 by decide]; exact h2) (fun _ => by rw [show (2 : Nat) ^ 52 = 4503599627370496 by decide]; exact h1)
  rw [← g] at hv
  have := (val_eq_iff 52 _ _).1 hv
  rw [this, show (2 : Nat) ^ 52 = 4503599627370496 by decide, Nat.add_comm]
theorem exp_lt {a b x : Nat} (h1 : 4503599627370496 * 2 ^ a ≤ x) (h2 : x < 2 ^ b) : 52 + a < b := by
  rw [show 4503599627370496 = 2 ^ 52 by decide, ← Nat.pow_add] at h1
  exact (Nat.pow_lt_pow_iff_right (a := 2) (by decide)).1 (Nat.lt_of_le_of_lt h1 h2)
theorem exp_gt {a b x : Nat} (h1 : x < 9007199254740992 * 2 ^ a) (h2 : 2 ^ b ≤ x) : b < 53 + a := by
  rw [show 9007199254740992 = 2 ^ 53 by decide, ← Nat.pow_add] at h1
  exact (Nat.pow_lt_pow_iff_right (a := 2) (by decide)).1 (Nat.lt_of_le_of_lt h2 h1)
theorem cross_eq {D k n m u T qb pa c : Nat} (vm : m * 2 ^ pa = D * 2 ^ c) (vn : n * 2 ^ qb = T * 2 ^ c) (hk : pa + k = u + qb) : D * 2 ^ k * n = m * 2 ^ u * T := by
  apply Nat.eq_of_mul_eq_mul_right (Nat.mul_pos (Nat.two_pow_pos qb) (Nat.two_pow_pos c))
  have l : D * 2 ^ k * n * (2 ^ qb * 2 ^ c) = (D * 2 ^ c) * (2 ^ k * (n * 2 ^ qb)) := by ac_rfl
  have r : m * 2 ^ u * T * (2 ^ qb * 2 ^ c) = m * (2 ^ u * 2 ^ qb) * (T * 2 ^ c) := by ac_rfl
  rw [l, r, ← vm, vn, ← Nat.pow_add, ← hk, Nat.pow_add]
  ac_rfl
/-- the quotient's digits are the rounded ones -/
theorem quot_k {T N m n u Q : Nat} (hT : 0 < T) (m1 : 4503599627370496 ≤ m) (m2 : m < 9007199254740992) (n1 : 4503599627370496 ≤ n) (n2 : n < 9007199254740992) (hu : u = 52 ∨ u = 53)
    (x : N * n = m * 2 ^ u * T) (q1 : 4503599627370496 ≤ Q) (q2 : Q ≤ 9007199254740992) (c1 : 2 * (Q * n) ≤ 2 * (m * 2 ^ u) + n) (c2 : 2 * (m * 2 ^ u) ≤ 2 * (Q * n) + n)
    (tie : ∀ q, q % 2 = 1 → 2 * N ≠ q * T) :
    (4503599627370496 * T ≤ N ∧ N < 9007199254740992 * T ∧ rneD N T = Q) ∨ (Q = 9007199254740992 ∧ N = 9007199254740992 * T) := by
  have hn : 0 < n := by omega
  have low : ∀ c, c * n ≤ m * 2 ^ u → c * T ≤ N := fun c h => by
    have := Nat.mul_le_mul_right T h
    rw [← x, Nat.mul_right_comm] at this
    exact Nat.le_of_mul_le_mul_right this hn
  have high : ∀ c, m * 2 ^ u < c * n → N < c * T := fun c h => by
    have := Nat.mul_lt_mul_of_pos_right h hT
    rw [← x, Nat.mul_right_comm c] at this
    exact Nat.lt_of_mul_lt_mul_right this
  have eqv : ∀ c, m * 2 ^ u = c * n → N = c * T := fun c h => by
    have := congrArg (· * T) h
    change m * 2 ^ u * T = c * n * T at this
    rw [← x, Nat.mul_right_comm c] at this
    exact Nat.eq_of_mul_eq_mul_right hn this
  have near : rneD N T = Q := by
    rw [rneD_cross hT hn (N' := m * 2 ^ u) x]
    refine rneD_near hn ?_ ?_
    · rcases Nat.lt_or_ge (2 * (m * 2 ^ u)) (2 * (Q * n) + n) with h | h
      · exact h
      · exfalso
        refine tie (2 * Q + 1) (by omega) ?_
        have e : 2 * (m * 2 ^ u) = (2 * Q + 1) * n := by rw [Nat.add_mul, Nat.one_mul, Nat.mul_assoc]; omega
        have := congrArg (· * T) e
        change 2 * (m * 2 ^ u) * T = (2 * Q + 1) * n * T at this
        rw [Nat.mul_assoc, ← x, ← Nat.mul_assoc, Nat.mul_right_comm (2 * Q + 1)] at this
        exact Nat.eq_of_mul_eq_mul_right hn this
    · rcases Nat.lt_or_ge (2 * (Q * n)) (2 * (m * 2 ^ u) + n) with h | h
      · exact h
      · exfalso
        refine tie (2 * Q - 1) (by omega) ?_
        have e : 2 * (m * 2 ^ u) = (2 * Q - 1) * n := by rw [Nat.sub_mul, Nat.one_mul, Nat.mul_assoc]; omega
        have := congrArg (· * T) e
        change 2 * (m * 2 ^ u) * T = (2 * Q - 1) * n * T at this
        rw [Nat.mul_assoc, ← x, ← Nat.mul_assoc, Nat.mul_right_comm (2 * Q - 1)] at this
        exact Nat.eq_of_mul_eq_mul_right hn this
  rcases hu with rfl | rfl
  · rw [show (2 : Nat) ^ 52 = 4503599627370496 by decide] at *
    left
    have mn : n ≤ m := by
      rcases Nat.lt_or_ge m n with h | h
      · exfalso
        have a : Q * n ≥ 4503599627370496 * n := Nat.mul_le_mul_right _ q1
        omega
      · exact h
    exact ⟨low _ (by omega), high _ (by omega), near⟩
  · rw [show (2 : Nat) ^ 53 = 9007199254740992 by decide] at *
    rcases Nat.lt_trichotomy m n with h | h | h
    · left
      exact ⟨low _ (by omega), high _ (by omega), near⟩
    · right
      have e := eqv 9007199254740992 (by rw [h, Nat.mul_comm])
      refine ⟨?_, e⟩
      rw [← near, e]
      exact rneD_near hT (by omega) (by omega)
    · exfalso
      have a : Q * n ≤ 9007199254740992 * n := Nat.mul_le_mul_right _ q2
      omega
theorem quot_near {a b D p : Nat} {s : Bool} {m n pa qb : Nat} (ha : Norm a s m pa) (hb : Norm b false n qb) (hD1 : 1 ≤ D) (hD : D < 4503599627370496) (hp : p ≤ 9) {c : Nat} (hc : c = 1074) (vm : m * 2 ^ pa = D * 2 ^ c) (vn : n * 2 ^ qb = 10 ^ p * 2 ^ c) :
    ∃ r k, double.div a b = some r ∧ NearK D p k r ∧ FinW r ∧ (s = true → V r < 0) ∧ (s = false → 0 < V r) := by
  have m1 := ha.lo
  have m2 := ha.hi
  have n1 := hb.lo
  have n2 := hb.hi
  rw [show (2 : Nat) ^ 52 = 4503599627370496 by decide] at m1 n1
  rw [show (2 : Nat) ^ 53 = 9007199254740992 by decide] at m2 n2
  have t0 := ten_pos p
  have t1 : 10 ^ p < 1073741824 := by
    have : 10 ^ p ≤ 10 ^ 9 := Nat.pow_le_pow_right (by decide) hp
    rw [show (10 : Nat) ^ 9 = 1000000000 by decide] at this
    omega
  have a1 : 52 + pa < 52 + c := exp_lt (x := m * 2 ^ pa) (Nat.mul_le_mul_right _ m1) (by
    rw [vm, Nat.pow_add]
    exact Nat.mul_lt_mul_of_pos_right (by rw [show (2 : Nat) ^ 52 = 4503599627370496 by decide]; exact hD) (Nat.two_pow_pos _))
  have a2 : c < 53 + pa := exp_gt (x := m * 2 ^ pa) (Nat.mul_lt_mul_of_pos_right m2 (Nat.two_pow_pos _)) (by
    rw [vm]; exact Nat.le_mul_of_pos_left _ hD1)
  have b1 : 52 + qb < 30 + c := exp_lt (x := n * 2 ^ qb) (Nat.mul_le_mul_right _ n1) (by
    rw [vn, Nat.pow_add]
    exact Nat.mul_lt_mul_of_pos_right (by rw [show (2 : Nat) ^ 30 = 1073741824 by decide]; exact t1) (Nat.two_pow_pos _))
  have b2 : c < 53 + qb := exp_gt (x := n * 2 ^ qb) (Nat.mul_lt_mul_of_pos_right n2 (Nat.two_pow_pos _)) (by
    rw [vn]; exact Nat.le_mul_of_pos_left _ t0)
  obtain ⟨r, Q, u, hdiv, hf, hv, u1, u2, q1, q2, c1, c2⟩ := div_spec ha hb (by omega) (by omega)
  rw [show (2 : Nat) ^ 52 = 4503599627370496 by decide] at q1
  rw [show (2 : Nat) ^ 53 = 9007199254740992 by decide] at q2
  rw [Bool.xor_false] at hv
  obtain ⟨k, hk⟩ : ∃ k, pa + k = u + qb := ⟨u + qb - pa, by omega⟩
  have x := cross_eq vm vn hk
  have hkp : p ≤ k - 1 := by
    -- 2^k is beyond the power of ten
    have e : 4503599627370496 * 10 ^ p ≤ 2 * (D * 2 ^ k) := by
      refine Nat.le_of_mul_le_mul_right (c := n) ?_ (by omega)
      rw [Nat.mul_assoc 2, x]
      have g : 4503599627370496 * n ≤ 2 * (m * 2 ^ u) := by
        have := Nat.mul_le_mul_right n q1
        omega
      have := Nat.mul_le_mul_right (10 ^ p) g
      rw [Nat.mul_right_comm, Nat.mul_assoc 2] at this
      exact this
    have l : D * 2 ^ k < 4503599627370496 * 2 ^ k := Nat.mul_lt_mul_of_pos_right hD (Nat.two_pow_pos k)
    have g : 10 ^ p < 2 ^ (k + 1) := by rw [Nat.pow_succ]; omega
    have g2 : (2 : Nat) ^ p ≤ 10 ^ p := Nat.pow_le_pow_left (by decide) p
    rcases Nat.eq_zero_or_pos p with z | z
    · omega
    · have g3 : (2 : Nat) ^ (p + 2) ≤ 10 ^ p := by
        have : (8 : Nat) ^ p ≤ 10 ^ p := Nat.pow_le_pow_left (by decide) p
        refine Nat.le_trans ?_ this
        rw [show (8 : Nat) = 2 ^ 3 by rfl, ← Nat.pow_mul]
        exact Nat.pow_le_pow_right (by decide) (by omega)
      have := (Nat.pow_lt_pow_iff_right (a := 2) (by decide)).1 (Nat.lt_of_le_of_lt g3 g)
      omega
  have hk1 : 1 ≤ k := by omega
  have hkm : k ≤ 1074 := by omega
  have he : 1074 + pa - qb - u = 1074 - k := by omega
  rw [he] at hv
  have w := word_at hf (by rw [hv, sv_abs]) q1 q2
  have sgn : (s = true → V r < 0) ∧ (s = false → 0 < V r) := by
    have pos : 0 < Q * 2 ^ (1074 - k) := Nat.mul_pos (by omega) (Nat.two_pow_pos _)
    rw [hv]
    unfold sv
    generalize Q * 2 ^ (1074 - k) = z at *
    constructor
    · rintro rfl; rw [if_pos rfl]; omega
    · rintro rfl; rw [if_neg (by decide)]; omega
  have tie : ∀ q, q % 2 = 1 → 2 * (D * 2 ^ k) ≠ q * 10 ^ p := fun q hq h => no_tie (by omega) hq h
  rcases quot_k t0 m1 m2 n1 n2 (by omega) x q1 q2 c1 c2 tie with ⟨l, h, e⟩ | ⟨e1, e2⟩
  · exact ⟨r, k, hdiv, ⟨l, h, by rw [e, w]⟩, hf, sgn⟩
  · refine ⟨r, k - 1, hdiv, ?_, hf, sgn⟩
    have h2k : D * 2 ^ k = 2 * (D * 2 ^ (k - 1)) := by
      rw [Nat.mul_left_comm, ← Nat.pow_succ', show (k - 1).succ = k by omega]
    have n0 : D * 2 ^ (k - 1) = 4503599627370496 * 10 ^ p := by omega
    have rr : rneD (D * 2 ^ (k - 1)) (10 ^ p) = 4503599627370496 := by rw [n0]; exact rneD_near t0 (by omega) (by omega)
    exact ⟨by omega, by omega, by rw [rr, w, e1]; omega⟩
end Go.Proofs.YtocnpcjpkieogaaGreatDoor
