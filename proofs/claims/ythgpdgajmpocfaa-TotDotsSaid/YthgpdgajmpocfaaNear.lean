/- Proved here: parts that don't overlap, read from the greatest on till rounding leaves something, and then looked at on which side of a tie the rest lies, give the whole, rounded to 53 digits. No program is named. -/
import Derived.Test.YthgpdgajmpocfaaExp
namespace Ieee.Own

/-- q units of 2^d and r more -/
theorem rne_at (q r d : Nat) (hr : r < 2 ^ d) : rne (q * 2 ^ d + r) d = if 2 ^ d < 2 * r ∨ (2 ^ d = 2 * r ∧ q % 2 = 1) then q + 1 else q := by
  have hp := Nat.two_pow_pos d
  have e1 : (q * 2 ^ d + r) % 2 ^ d = r := by rw [Nat.add_comm, Nat.add_mul_mod_self_right, Nat.mod_eq_of_lt hr]
  have e2 : (q * 2 ^ d + r) / 2 ^ d = q := by rw [Nat.add_comm, Nat.add_mul_div_right _ _ hp, Nat.div_eq_of_lt hr]; omega
  unfold rne
  rw [e1, e2]
theorem dr_at (q r d : Nat) (h1 : 2 ^ 52 ≤ q) (h2 : q < 2 ^ 53) (hr : r < 2 ^ d) : dr (q * 2 ^ d + r) = d := by
  have hp := Nat.two_pow_pos d
  have a : 2 ^ 52 * 2 ^ d ≤ q * 2 ^ d := Nat.mul_le_mul_right _ h1
  have b : (q + 1) * 2 ^ d ≤ 2 ^ 53 * 2 ^ d := Nat.mul_le_mul_right _ h2
  rw [Nat.add_mul] at b
  rw [← Nat.pow_add] at a b
  have h0 : q * 2 ^ d + r ≠ 0 := by have := Nat.two_pow_pos (52 + d); omega
  have hl : (q * 2 ^ d + r).log2 = 52 + d := by
    rw [Nat.log2_eq_iff h0, show 52 + d + 1 = 53 + d by omega]
    omega
  unfold dr; omega
theorem rn_at (q r d : Nat) (h1 : 2 ^ 52 ≤ q) (h2 : q < 2 ^ 53) (hr : r < 2 ^ d) : rn (q * 2 ^ d + r) = (if 2 ^ d < 2 * r ∨ (2 ^ d = 2 * r ∧ q % 2 = 1) then q + 1 else q) * 2 ^ d := by
  unfold rn
  rw [dr_at q r d h1 h2 hr, rne_at q r d hr]
/-- a number that rounding changes, by its units -/
theorem rn_parts (n : Nat) (h : rn n ≠ n) : ∃ q r d, n = q * 2 ^ d + r ∧ 2 ^ 52 ≤ q ∧ q < 2 ^ 53 ∧ r < 2 ^ d ∧ 0 < d ∧ dr n = d := by
  have hd : 0 < dr n := by
    refine Nat.pos_of_ne_zero fun h0 => h ?_
    have := dr_lt n
    rw [h0] at this
    exact rn_small n (by omega)
  have hp := Nat.two_pow_pos (dr n)
  refine ⟨n / 2 ^ dr n, n % 2 ^ dr n, dr n, ?_, ?_, ?_, Nat.mod_lt _ hp, hd, rfl⟩
  · have := Nat.div_add_mod n (2 ^ dr n); rw [Nat.mul_comm] at this; exact this.symm
  · rw [Nat.le_div_iff_mul_le hp, ← Nat.pow_add]; exact dr_le n hd
  · rw [Nat.div_lt_iff_lt_mul hp, ← Nat.pow_add]; exact dr_lt n

/-- two numbers are each the other's neighbour: what lies between goes to one of them -/
theorem half_pow {d : Nat} (h : 0 < d) : 2 ^ d = 2 * 2 ^ (d - 1) := by rw [← two_succ]; congr 1; omega
theorem gap_dvd {g d r : Nat} (h1 : 2 ^ g ∣ r) (h2 : r < 2 ^ d) (h0 : r ≠ 0) : r + 2 ^ g ≤ 2 ^ d := by
  have := dvd_gap (p := (r : Int)) (f := g) (g := d) (by have := Int.natCast_dvd_natCast.2 h1; simpa using this) (by simpa using h2) (by omega)
  simpa using this
theorem RN_neg' (z : Int) : RN z = -RN (-z) := by rw [RN_neg]; omega

/-- THE LAST STEP at a number above 0: s the rounded y, rest what is left (no nought, a multiple of 2^g), L below 2^g -/
theorem last_pos {y s rest L : Int} {g : Nat} (hy : 0 < y) (hs : s = RN y) (hr : rest = y - s) (h0 : rest ≠ 0) (hg : (2 : Int) ^ g ∣ rest) (hL : L.natAbs < 2 ^ g) :
    (¬ (0 < rest ∧ 0 < L ∨ rest < 0 ∧ L < 0) → RN (y + L) = s) ∧
    ((0 < rest ∧ 0 < L ∨ rest < 0 ∧ L < 0) → (RN (RN (s + 2 * rest) - s) = 2 * rest → RN (y + L) = RN (s + 2 * rest)) ∧ (RN (RN (s + 2 * rest) - s) ≠ 2 * rest → RN (y + L) = s)) := by
  have hlr : L.natAbs < rest.natAbs := Nat.lt_of_lt_of_le hL (pow_le_abs hg h0)
  obtain ⟨n, rfl⟩ : ∃ n : Nat, y = n := ⟨y.toNat, by omega⟩
  rw [RN_pos] at hs
  obtain ⟨q, r, d, hn, q1, q2, hrd, hd, hdr⟩ := rn_parts n (by omega)
  have hrn := rn_at q r d q1 q2 hrd
  rw [← hn] at hrn
  have hh := half_pow hd
  have hp := Nat.two_pow_pos (d - 1)
  have hpos : ∀ (j : Nat), (RN ((j : Nat) : Int)) = (rn j : Int) := RN_pos
  have eS : RN s = s := by rw [hs, RN_pos, rn_exact _ _ (show (if 2 ^ d < 2 * r ∨ (2 ^ d = 2 * r ∧ q % 2 = 1) then q + 1 else q) ≤ 2 ^ 53 by split <;> omega) |> fun h => (congrArg rn hrn).trans (h.trans hrn.symm)]
  constructor
  · intro hn2
    -- L draws toward s
    have m1 : RN (n : Int) = s := by rw [RN_pos]; exact hs.symm
    by_cases hp2 : 0 < rest
    · have a := RN_mono (show s ≤ (n : Int) + L by omega)
      have b := RN_mono (show (n : Int) + L ≤ (n : Int) by omega)
      omega
    · have a := RN_mono (show (n : Int) + L ≤ s by omega)
      have b := RN_mono (show (n : Int) ≤ (n : Int) + L by omega)
      omega
  · intro hside
    by_cases hup : 2 ^ d < 2 * r ∨ (2 ^ d = 2 * r ∧ q % 2 = 1)
    · -- rounded up
      rw [if_pos hup, Nat.add_mul, Nat.one_mul] at hrn
      have hrest : rest = -((2 ^ d - r : Nat) : Int) := by omega
      have hL0 : L < 0 := by omega
      obtain ⟨l, hl⟩ : ∃ l : Nat, L = -(l : Int) := ⟨L.natAbs, by omega⟩
      subst hl
      have gd : (2 ^ d - r) + 2 ^ g ≤ 2 ^ (d - 1) ∨ 2 ^ d = 2 * r := by
        by_cases ht : 2 ^ d = 2 * r
        · exact Or.inr ht
        · left
          refine gap_dvd ?_ (by omega) (by omega)
          have := Int.natAbs_dvd_natAbs.2 hg
          rw [Int.natAbs_pow, hrest, Int.natAbs_neg] at this
          simpa using this
      have e1 : (n : Int) + -(l : Int) = ((q * 2 ^ d + (r - l) : Nat) : Int) := by omega
      rw [e1, RN_pos, rn_at q (r - l) d q1 q2 (by omega)]
      have e2 : s + 2 * rest = ((q * 2 ^ d + (2 * r - 2 ^ d) : Nat) : Int) := by omega
      rw [e2, RN_pos]
      rcases gd with gd | gd
      · -- no tie
        have hno : rn (q * 2 ^ d + (2 * r - 2 ^ d)) = (if 2 ^ d < 2 * (2 * r - 2 ^ d) ∨ (2 ^ d = 2 * (2 * r - 2 ^ d) ∧ q % 2 = 1) then q + 1 else q) * 2 ^ d := rn_at q _ d q1 q2 (by omega)
        rw [if_pos (by omega), Nat.add_mul, Nat.one_mul]
        refine ⟨fun h => ?_, fun _ => by omega⟩
        exfalso
        by_cases hc : 2 ^ d < 2 * (2 * r - 2 ^ d) ∨ (2 ^ d = 2 * (2 * r - 2 ^ d) ∧ q % 2 = 1)
        · rw [if_pos hc, Nat.add_mul, Nat.one_mul] at hno
          rw [show ((rn (q * 2 ^ d + (2 * r - 2 ^ d)) : Nat) : Int) - s = 0 by omega, RN_zero] at h
          omega
        · rw [if_neg hc] at hno
          rw [show ((rn (q * 2 ^ d + (2 * r - 2 ^ d)) : Nat) : Int) - s = -((2 ^ d : Nat) : Int) by omega, RN_neg, RN_exact (Rep_pow d)] at h
          omega
      · -- a tie
        have e3 : 2 * r - 2 ^ d = 0 := by omega
        have hx : rn (q * 2 ^ d + 0) = q * 2 ^ d := by rw [Nat.add_zero]; exact rn_exact q d (by omega)
        rw [e3, hx, if_neg (by omega)]
        refine ⟨fun _ => rfl, fun h => absurd ?_ h⟩
        rw [show ((q * 2 ^ d : Nat) : Int) - s = -((2 ^ d : Nat) : Int) by omega, RN_neg, RN_exact (Rep_pow d)]
        omega
    · -- rounded down
      rw [if_neg hup] at hrn
      have hrest : rest = (r : Int) := by omega
      have hL0 : 0 < L := by omega
      obtain ⟨l, hl⟩ : ∃ l : Nat, L = (l : Int) := ⟨L.natAbs, by omega⟩
      subst hl
      have gd : r + 2 ^ g ≤ 2 ^ (d - 1) ∨ 2 ^ d = 2 * r := by
        by_cases ht : 2 ^ d = 2 * r
        · exact Or.inr ht
        · left
          refine gap_dvd ?_ (by omega) (by omega)
          have := Int.natAbs_dvd_natAbs.2 hg
          rw [Int.natAbs_pow, hrest] at this
          simpa using this
      have e1 : (n : Int) + (l : Int) = ((q * 2 ^ d + (r + l) : Nat) : Int) := by omega
      rw [e1, RN_pos, rn_at q (r + l) d q1 q2 (by omega)]
      rcases gd with gd | gd
      · have e2 : s + 2 * rest = ((q * 2 ^ d + 2 * r : Nat) : Int) := by omega
        rw [e2, RN_pos]
        have hno : rn (q * 2 ^ d + 2 * r) = (if 2 ^ d < 2 * (2 * r) ∨ (2 ^ d = 2 * (2 * r) ∧ q % 2 = 1) then q + 1 else q) * 2 ^ d := rn_at q _ d q1 q2 (by omega)
        rw [if_neg (by omega)]
        refine ⟨fun h => ?_, fun _ => by omega⟩
        exfalso
        by_cases hc : 2 ^ d < 2 * (2 * r) ∨ (2 ^ d = 2 * (2 * r) ∧ q % 2 = 1)
        · rw [if_pos hc, Nat.add_mul, Nat.one_mul] at hno
          rw [show ((rn (q * 2 ^ d + 2 * r) : Nat) : Int) - s = ((2 ^ d : Nat) : Int) by omega, RN_exact (Rep_pow d)] at h
          omega
        · rw [if_neg hc] at hno
          rw [show ((rn (q * 2 ^ d + 2 * r) : Nat) : Int) - s = 0 by omega, RN_zero] at h
          omega
      · have e2 : s + 2 * rest = (((q + 1) * 2 ^ d : Nat) : Int) := by rw [Nat.add_mul]; omega
        have hx : rn ((q + 1) * 2 ^ d) = (q + 1) * 2 ^ d := rn_exact (q + 1) d (by omega)
        rw [e2, RN_pos, hx, if_pos (by omega)]
        refine ⟨fun _ => rfl, fun h => absurd ?_ h⟩
        rw [show (((q + 1) * 2 ^ d : Nat) : Int) - s = ((2 ^ d : Nat) : Int) by rw [Nat.add_mul]; omega, RN_exact (Rep_pow d)]
        omega

/-- THE LAST STEP -/
theorem last_step {y s rest L : Int} {g : Nat} (hs : s = RN y) (hr : rest = y - s) (h0 : rest ≠ 0) (hg : (2 : Int) ^ g ∣ rest) (hL : L.natAbs < 2 ^ g) :
    (¬ (0 < rest ∧ 0 < L ∨ rest < 0 ∧ L < 0) → RN (y + L) = s) ∧
    ((0 < rest ∧ 0 < L ∨ rest < 0 ∧ L < 0) → (RN (RN (s + 2 * rest) - s) = 2 * rest → RN (y + L) = RN (s + 2 * rest)) ∧ (RN (RN (s + 2 * rest) - s) ≠ 2 * rest → RN (y + L) = s)) := by
  by_cases hy : 0 < y
  · exact last_pos hy hs hr h0 hg hL
  · have hy0 : y ≠ 0 := by rintro rfl; rw [RN_zero] at hs; omega
    have h := last_pos (y := -y) (s := -s) (rest := -rest) (L := -L) (g := g) (by omega) (by rw [hs, RN_neg]) (by omega) (by omega) (Int.dvd_neg.2 hg) (by omega)
    rw [show -y + -L = -(y + L) by omega, RN_neg, show -s + 2 * -rest = -(s + 2 * rest) by omega, RN_neg, show -RN (s + 2 * rest) - -s = -(RN (s + 2 * rest) - s) by omega, RN_neg] at h
    constructor
    · intro h1; have := h.1 (by omega); omega
    · intro h1
      have h2 := h.2 (by omega)
      constructor
      · intro h3; have := h2.1 (by omega); omega
      · intro h3; have := h2.2 (by omega); omega

/-- what is known while the parts are read from the greatest on: k of them are still to come; s and rest are what has been read -/
structure Top (z : Int) (ps : List Int) (k : Nat) (s rest : Int) : Prop where
  le : k ≤ ps.length
  rep : Rep s
  sum : s + rest + (ps.take k).sum = z
  none : rest = 0 → s ≠ 0 ∧ ∃ f : Nat, (2 : Int) ^ f ∣ s ∧ absSum (ps.take k) < 2 ^ f
  some : rest ≠ 0 → s = RN (s + rest) ∧ ∃ g : Nat, (2 : Int) ^ g ∣ rest ∧ absSum (ps.take k) < 2 ^ g

theorem take_last {ps : List Int} {k : Nat} (h : k < ps.length) : ps.take (k + 1) = ps.take k ++ [ps.getD k 0] := by
  rw [List.take_add_one, List.getElem?_eq_getElem h]
  simp [List.getD, List.getElem?_eq_getElem h]
theorem absSum_app (a b : List Int) : absSum (a ++ b) = absSum a + absSum b := by simp [absSum]
theorem absSum_one (p : Int) : absSum [p] = p.natAbs := by simp [absSum]
theorem NoS_take {ps : List Int} {a : Nat} (n : NoS a ps) (k : Nat) : NoS a (ps.take k) := NoS_app (qs := ps.drop k) (by rw [List.take_append_drop]; exact n)
theorem NoS_at {ps : List Int} (n : NoS 0 ps) {k : Nat} (h : k < ps.length) : ps.getD k 0 ≠ 0 ∧ Rep (ps.getD k 0) ∧ ∃ f : Nat, (2 : Int) ^ f ∣ ps.getD k 0 ∧ absSum (ps.take k) < 2 ^ f := by
  have := NoS_take n (k + 1)
  rw [take_last h] at this
  obtain ⟨h1, h2, f, f1, f2⟩ := NoS_last this
  exact ⟨h1, h2, f, f1, by omega⟩
theorem Top.start {z : Int} {ps : List Int} (n : NoS 0 ps) (hz : ps.sum = z) {k : Nat} (hk : ps.length = k + 1) : Top z ps k (ps.getD k 0) 0 := by
  obtain ⟨h1, h2, f, f1, f2⟩ := NoS_at n (k := k) (by omega)
  refine ⟨by omega, h2, ?_, fun _ => ⟨h1, f, f1, f2⟩, fun h => absurd rfl h⟩
  have := take_last (ps := ps) (k := k) (by omega)
  rw [List.take_of_length_le (by omega)] at this
  rw [← hz]
  conv => rhs; rw [this]
  rw [List.sum_append]; simp; omega
theorem Top.step {z : Int} {ps : List Int} (n : NoS 0 ps) {k : Nat} {s : Int} (T : Top z ps (k + 1) s 0) :
    Top z ps k (RN (s + ps.getD k 0)) (s + ps.getD k 0 - RN (s + ps.getD k 0)) := by
  have hk := T.le
  obtain ⟨h1, h2, g, g1, g2⟩ := NoS_at n (k := k) (by omega)
  obtain ⟨hs0, f, f1, f2⟩ := T.none rfl
  have hsum := T.sum
  rw [take_last (by omega), List.sum_append] at hsum
  rw [take_last (by omega), absSum_app, absSum_one] at f2
  simp only [List.sum_cons, List.sum_nil] at hsum
  have hgf : g ≤ f := by
    refine Nat.le_of_not_lt fun h => ?_
    have a := pow_le_abs g1 h1
    have : 2 ^ f ≤ 2 ^ g := Nat.pow_le_pow_right (by omega) (by omega)
    omega
  have hd : (2 : Int) ^ g ∣ s + ps.getD k 0 := Int.dvd_add (Int.dvd_trans (pow_dvd hgf) f1) g1
  have hne : s + ps.getD k 0 ≠ 0 := by
    have := pow_le_abs f1 hs0
    omega
  generalize ps.getD k 0 = p at *
  refine ⟨by omega, RN_rep _, by omega, fun h => ⟨by omega, g, RN_dvd hd, g2⟩, fun h => ⟨?_, g, Int.dvd_sub hd (RN_dvd hd), g2⟩⟩
  rw [show RN (s + p) + (s + p - RN (s + p)) = s + p by omega]

/-- the signs that the code looks at: the rest's and the next part's -/
theorem take_sign {ps : List Int} (n : NoS 0 ps) {k : Nat} (h : k < ps.length) : ((ps.take (k + 1)).sum < 0 ↔ ps.getD k 0 < 0) ∧ (0 < (ps.take (k + 1)).sum ↔ 0 < ps.getD k 0) ∧ ps.getD k 0 ≠ 0 := by
  obtain ⟨h1, -, f, f1, f2⟩ := NoS_at n h
  have := sum_le_abs (ps.take k)
  have := pow_le_abs f1 h1
  rw [take_last h, List.sum_append]
  simp only [List.sum_cons, List.sum_nil]
  omega

/-- the end: nothing is left, or the next part draws the other way: s is it -/
theorem Top.plain {z : Int} {ps : List Int} (n : NoS 0 ps) {k : Nat} {s rest : Int} (T : Top z ps k s rest) (h : k = 0 ∨ ∃ j, k = j + 1 ∧ rest ≠ 0 ∧ ¬ ((rest < 0) ↔ (ps.getD j 0 < 0))) : RN z = s := by
  by_cases hr : rest = 0
  · have hk : k = 0 := by
      rcases h with h | ⟨j, rfl, h2, -⟩
      · exact h
      · exact absurd hr h2
    subst hk
    have := T.sum
    simp at this
    rw [← this, hr, Int.add_zero]; exact RN_exact T.rep
  · obtain ⟨h1, g, g1, g2⟩ := T.some hr
    have hL := sum_le_abs (ps.take k)
    have := (last_step (y := s + rest) (s := s) (rest := rest) (L := (ps.take k).sum) (g := g) h1 (by omega) hr g1 (by omega)).1
    rw [T.sum] at this
    apply this
    rcases h with rfl | ⟨j, rfl, -, h3⟩
    · simp
    · obtain ⟨a, b, c⟩ := take_sign n (k := j) (by have := T.le; omega)
      omega
theorem Top.other {z : Int} {ps : List Int} (n : NoS 0 ps) {j : Nat} {s rest : Int} (T : Top z ps (j + 1) s rest) (hr : rest ≠ 0) (h : (rest < 0) ↔ (ps.getD j 0 < 0)) :
    (RN (RN (s + 2 * rest) - s) = 2 * rest → RN z = RN (s + 2 * rest)) ∧ (RN (RN (s + 2 * rest) - s) ≠ 2 * rest → RN z = s) := by
  obtain ⟨h1, g, g1, g2⟩ := T.some hr
  have hL := sum_le_abs (ps.take (j + 1))
  have := (last_step (y := s + rest) (s := s) (rest := rest) (L := (ps.take (j + 1)).sum) (g := g) h1 (by omega) hr g1 (by omega)).2
  rw [T.sum] at this
  apply this
  obtain ⟨a, b, c⟩ := take_sign n (k := j) (by have := T.le; omega)
  omega
end Ieee.Own
