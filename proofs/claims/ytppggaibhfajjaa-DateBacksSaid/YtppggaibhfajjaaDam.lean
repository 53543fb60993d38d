/- Proved here: plain mathematics of the calendar: days, years, dates of instants and instants of dates, forth and back, in order; no program's text. -/
import Derived.Test.YtppggaibhfajjaaRows
import Derived.Lib.Hide
namespace Go.Proofs.Ytppggaibhfajjaa

/-- the day with which a year begins -/
def fdy (y : Int) : Int := (12053 * y + 5) / 33
/-- the year of a day -/
def yof (d : Int) : Int := (33 * (d + 1) - 6) / 12053
def lng (y : Int) : Bool := decide (25 ≤ (8 * y + 5) % 33)
theorem fdy_le (d : Int) : fdy (yof d) ≤ d := by unfold fdy yof; omega
theorem fdy_gt (d : Int) : d < fdy (yof d + 1) := by unfold fdy yof; omega
theorem before_is (y : Int) : 365 * y + (8 * y + 5) / 33 = fdy y := by unfold fdy; omega
theorem fdy_next (y : Int) : fdy (y + 1) = fdy y + (if lng y = true then 366 else 365) := by
  rw [← before_is, ← before_is]
  unfold lng
  simp only [decide_eq_true_eq]
  split <;> omega
theorem fdy_mono {a b : Int} (h : a ≤ b) : fdy a + 365 * (b - a) ≤ fdy b := by unfold fdy; omega
theorem fdy_more (y : Int) : fdy (y + 1) ≤ fdy y + 366 := by unfold fdy; omega
theorem yof_is {y d : Int} (h1 : fdy y ≤ d) (h2 : d < fdy (y + 1)) : yof d = y := by unfold fdy yof at *; omega
theorem fdy_lt {a b : Int} (h : a < b) : fdy a < fdy b := by have := fdy_mono (a := a) (b := b) (by omega); omega
theorem fdy_range {y : Int} (h1 : -50001 ≤ y) (h2 : y ≤ 50001) : -20000000 ≤ fdy y ∧ fdy y ≤ 20000000 := by unfold fdy; omega
theorem yof_range {d : Int} (h1 : -16777216 ≤ d) (h2 : d ≤ 16777216) : -45965 ≤ yof d ∧ yof d ≤ 45965 := by unfold yof; omega

/-! ### dates -/
def dYr (t : Int) : Int := yof (t / 67108864)
def dIn (t : Int) : Int := t / 67108864 - fdy (dYr t)
def dMo (t : Int) : Int := dIn t / 28 + 1
def dDy (t : Int) : Int := dIn t % 28 + 1
def dHr (t : Int) : Int := t % 67108864 / 4194304
def dMi (t : Int) : Int := t % 67108864 % 4194304 / 65536
def dSe (t : Int) : Int := t % 67108864 % 65536 / 1024
def dTk (t : Int) : Int := t % 67108864 % 1024
/-- how many days a month has -/
def mLen (y m : Int) : Int := if m < 14 then 28 else if lng y = true then 2 else 1
/-- is there such a date? -/
def isD (y m d h i s k : Int) : Bool := decide ((1 ≤ m ∧ m ≤ 14) ∧ (1 ≤ d ∧ d ≤ mLen y m) ∧ (0 ≤ h ∧ h ≤ 15) ∧ (0 ≤ i ∧ i ≤ 63) ∧ (0 ≤ s ∧ s ≤ 63) ∧ (0 ≤ k ∧ k ≤ 1023))
/-- the instant of a date -/
def inst (y m d h i s k : Int) : Int := (fdy y + ((m - 1) * 28 + d - 1)) * 67108864 + (h * 4194304 + i * 65536 + s * 1024 + k)
def isI (t : Int) : Bool := decide (-1125899906842624 ≤ t ∧ t ≤ 1125899906842624)
theorem isI_t {t : Int} (h1 : -1125899906842624 ≤ t) (h2 : t ≤ 1125899906842624) : isI t = true := decide_eq_true ⟨h1, h2⟩
theorem isI_f {t : Int} (h : t < -1125899906842624 ∨ 1125899906842624 < t) : isI t = false := decide_eq_false (by omega)
theorem isI_b {t : Int} (h : isI t = true) : -1125899906842624 ≤ t ∧ t ≤ 1125899906842624 := of_decide_eq_true h
theorem isI_n {t : Int} (h : isI t = false) : t < -1125899906842624 ∨ 1125899906842624 < t := by have := of_decide_eq_false h; omega
theorem dIn_range (t : Int) : 0 ≤ dIn t ∧ dIn t < fdy (dYr t + 1) - fdy (dYr t) := by
  have a := fdy_le (t / 67108864)
  have b := fdy_gt (t / 67108864)
  unfold dIn dYr
  omega
theorem mLen_le (y m : Int) : 1 ≤ mLen y m ∧ mLen y m ≤ 28 := by unfold mLen; split <;> (try split) <;> omega
/-- the date of an instant is one -/
theorem isD_of (t : Int) : isD (dYr t) (dMo t) (dDy t) (dHr t) (dMi t) (dSe t) (dTk t) = true := by
  have a := dIn_range t
  rw [fdy_next] at a
  unfold isD
  simp only [decide_eq_true_eq]
  unfold dMo dDy dHr dMi dSe dTk mLen
  revert a
  generalize dIn t = n
  split <;> intro a <;> refine ⟨by omega, ?_, by omega, by omega, by omega, by omega⟩ <;> split <;> omega
/-- and its instant is the one -/
theorem inst_of (t : Int) : inst (dYr t) (dMo t) (dDy t) (dHr t) (dMi t) (dSe t) (dTk t) = t := by
  have e : fdy (dYr t) = t / 67108864 - dIn t := by unfold dIn; omega
  unfold inst dMo dDy dHr dMi dSe dTk
  rw [e]
  generalize dIn t = n
  omega
theorem isD_parts {y m d h i s k : Int} (H : isD y m d h i s k = true) : (1 ≤ m ∧ m ≤ 14) ∧ (1 ≤ d ∧ d ≤ mLen y m) ∧ (0 ≤ h ∧ h ≤ 15) ∧ (0 ≤ i ∧ i ≤ 63) ∧ (0 ≤ s ∧ s ≤ 63) ∧ (0 ≤ k ∧ k ≤ 1023) := of_decide_eq_true H
/-- a date's day lies in its year -/
theorem day_in {y m d : Int} (hm : 1 ≤ m ∧ m ≤ 14) (hd : 1 ≤ d ∧ d ≤ mLen y m) : 0 ≤ (m - 1) * 28 + d - 1 ∧ fdy y + ((m - 1) * 28 + d - 1) < fdy (y + 1) := by
  rw [fdy_next]
  unfold mLen at hd
  revert hd
  split
  · split <;> omega
  · split <;> omega
theorem inst_day {y m d h i s k : Int} (H : isD y m d h i s k = true) : inst y m d h i s k / 67108864 = fdy y + ((m - 1) * 28 + d - 1) ∧ inst y m d h i s k % 67108864 = h * 4194304 + i * 65536 + s * 1024 + k := by
  have := isD_parts H
  unfold inst
  generalize fdy y + ((m - 1) * 28 + d - 1) = n
  omega
/-- the date of a date's instant is the date -/
theorem of_inst {y m d h i s k : Int} (H : isD y m d h i s k = true) :
    dYr (inst y m d h i s k) = y ∧ dMo (inst y m d h i s k) = m ∧ dDy (inst y m d h i s k) = d ∧ dHr (inst y m d h i s k) = h ∧ dMi (inst y m d h i s k) = i ∧ dSe (inst y m d h i s k) = s ∧ dTk (inst y m d h i s k) = k := by
  obtain ⟨e1, e2⟩ := inst_day H
  obtain ⟨hm, hd, hh, hi, hs, hk⟩ := isD_parts H
  have b := day_in hm hd
  have hl := (mLen_le y m).2
  have ey : dYr (inst y m d h i s k) = y := by
    unfold dYr; rw [e1]; exact yof_is (by omega) b.2
  have en : dIn (inst y m d h i s k) = (m - 1) * 28 + d - 1 := by
    unfold dIn; rw [ey, e1]; omega
  refine ⟨ey, ?_, ?_, ?_, ?_, ?_, ?_⟩
  · unfold dMo; rw [en]; omega
  · unfold dDy; rw [en]; omega
  · unfold dHr; rw [e2]; omega
  · unfold dMi; rw [e2]; omega
  · unfold dSe; rw [e2]; omega
  · unfold dTk; rw [e2]; omega
/-- a year farther off has no instant -/
theorem inst_far {y m d h i s k : Int} (H : isD y m d h i s k = true) (hy : y < -45965 ∨ 45965 < y) : isI (inst y m d h i s k) = false := by
  obtain ⟨hm, hd, hh, hi, hs, hk⟩ := isD_parts H
  have b := day_in hm hd
  refine isI_f ?_
  unfold inst
  rcases hy with hy | hy
  · have c := fdy_mono (a := y + 1) (b := -45965) (by omega)
    have e : fdy (-45965) = -16788368 := by decide
    left; omega
  · have c := fdy_mono (a := 45966) (b := y) (by omega)
    have e : fdy 45966 = 16788733 := by decide
    right; omega
theorem inst_range {y m d h i s k : Int} (H : isD y m d h i s k = true) (h1 : -50000 ≤ y) (h2 : y ≤ 50000) : -20000000 ≤ fdy y + ((m - 1) * 28 + d - 1) ∧ fdy y + ((m - 1) * 28 + d - 1) ≤ 20000000 := by
  obtain ⟨hm, hd, _⟩ := isD_parts H
  have b := day_in hm hd
  have c := fdy_range (y := y) (by omega) (by omega)
  have c' := fdy_range (y := y + 1) (by omega) (by omega)
  omega

/-! ### in order -/
/-- does one list of numbers stand ahead of another, at the first place where they differ? -/
def lexB : List Int → List Int → Bool
  | a :: l, b :: m => if a = b then lexB l m else decide (a < b)
  | _, _ => false
def dL (t : Int) : List Int := [dYr t, dMo t, dDy t, dHr t, dMi t, dSe t, dTk t]
theorem lex_lt {y m d h i s k y' m' d' h' i' s' k' : Int} (H : isD y m d h i s k = true) (H' : isD y' m' d' h' i' s' k' = true) :
    lexB [y, m, d, h, i, s, k] [y', m', d', h', i', s', k'] = decide (inst y m d h i s k < inst y' m' d' h' i' s' k') := by
  obtain ⟨hm, hd, hh, hi, hs, hk⟩ := isD_parts H
  obtain ⟨hm', hd', hh', hi', hs', hk'⟩ := isD_parts H'
  have b := day_in hm hd
  have b' := day_in hm' hd'
  have hl := (mLen_le y m).2
  have hl' := (mLen_le y' m').2
  have ne : ∀ {p q : Prop} [Decidable p] [Decidable q], (p ↔ q) → decide p = decide q := fun h => decide_eq_decide.2 h
  unfold inst
  by_cases ey : y = y'
  · subst ey
    generalize fdy y = F at *
    simp only [lexB, if_true]
    by_cases em : m = m'
    · subst em
      simp only [if_true]
      by_cases ed : d = d'
      · subst ed
        simp only [if_true]
        by_cases eh : h = h'
        · subst eh
          simp only [if_true]
          by_cases ei : i = i'
          · subst ei
            simp only [if_true]
            by_cases es : s = s'
            · subst es
              simp only [if_true]
              by_cases ek : k = k'
              · subst ek
                simp
              · rw [if_neg ek]; exact ne (by omega)
            · rw [if_neg es]; exact ne (by omega)
          · rw [if_neg ei]; exact ne (by omega)
        · rw [if_neg eh]; exact ne (by omega)
      · rw [if_neg ed]; exact ne (by omega)
    · rw [if_neg em]; exact ne (by omega)
  · simp only [lexB]
    rw [if_neg ey]
    refine ne ?_
    rcases Int.lt_or_gt_of_ne ey with hlt | hlt
    · have c := fdy_mono (a := y + 1) (b := y') (by omega)
      constructor
      · intro; omega
      · intro; exact hlt
    · have c := fdy_mono (a := y' + 1) (b := y) (by omega)
      constructor
      · intro; omega
      · intro; omega
theorem lex_dates (t u : Int) : lexB (dL t) (dL u) = decide (t < u) := by
  unfold dL
  rw [lex_lt (isD_of t) (isD_of u), inst_of, inst_of]
theorem dL_inj {t u : Int} (h : dL t = dL u) : t = u := by
  unfold dL at h
  simp only [List.cons.injEq, and_true] at h
  obtain ⟨h1, h2, h3, h4, h5, h6, h7⟩ := h
  rw [← inst_of t, ← inst_of u, h1, h2, h3, h4, h5, h6, h7]

/-! ### years -/
theorem inst_first (y : Int) : inst y 1 1 0 0 0 0 = fdy y * 67108864 := by unfold inst; omega
theorem isD_first (y : Int) : isD y 1 1 0 0 0 0 = true := by
  unfold isD
  have := (mLen_le y 1).1
  exact decide_eq_true ⟨by omega, by omega, by omega, by omega, by omega, by omega⟩
/-- of so many years in a row from y on, so many are long -/
def longs (y : Int) : Nat → Int
  | 0 => 0
  | n + 1 => longs y n + if lng (y + n) = true then 1 else 0
theorem longs_is (y : Int) : ∀ n : Nat, fdy (y + n) = fdy y + 365 * n + longs y n
  | 0 => by simp [longs]
  | n + 1 => by
    have e : y + ((n + 1 : Nat) : Int) = y + n + 1 := by omega
    have a := longs_is y n
    have e2 : longs y (n + 1) = longs y n + if lng (y + n) = true then 1 else 0 := rfl
    rw [e, fdy_next, a, e2]
    split <;> omega
theorem longs_33 (y : Int) : longs y 33 = 8 := by
  have a := longs_is y 33
  have b : fdy (y + (33 : Nat)) = fdy y + 12053 := by unfold fdy; omega
  omega
theorem longs_range (y : Int) : ∀ n : Nat, 0 ≤ longs y n ∧ longs y n ≤ n
  | 0 => by simp [longs]
  | n + 1 => by
    have a := longs_range y n
    have e : longs y (n + 1) = longs y n + if lng (y + n) = true then 1 else 0 := rfl
    rw [e]
    split <;> omega

/-! ### Go's division -/
theorem floor_neg {a b : Int} (hb : 0 < b) (h : a.tmod b < 0) : a.tdiv b - 1 = a / b ∧ a.tmod b + b = a % b := by
  have h1 := Int.tmod_add_mul_tdiv a b
  have h3 : -b < a.tmod b := Int.lt_tmod_of_pos a hb
  have e : (a.tdiv b - 1) * b = b * a.tdiv b - b := by rw [Int.sub_mul, Int.one_mul, Int.mul_comm]
  have q : a / b = a.tdiv b - 1 := (Int.ediv_eq_iff_of_pos hb).2 ⟨by omega, by omega⟩
  have m := Int.emod_add_mul_ediv a b
  rw [q, Int.mul_comm b (a.tdiv b - 1), e] at m
  exact ⟨q.symm, by omega⟩
theorem floor_pos {a b : Int} (hb : 0 < b) (h : ¬ a.tmod b < 0) : a.tdiv b = a / b ∧ a.tmod b = a % b := by
  have h1 := Int.tmod_add_mul_tdiv a b
  have h2 := Int.tmod_lt_of_pos a hb
  have e : a.tdiv b * b = b * a.tdiv b := Int.mul_comm _ _
  have q : a / b = a.tdiv b := (Int.ediv_eq_iff_of_pos hb).2 ⟨by omega, by omega⟩
  have m := Int.emod_add_mul_ediv a b
  rw [q] at m
  exact ⟨q.symm, by omega⟩
theorem ediv_in {a b : Int} (hb : 0 < b) (h1 : -9000000000000000000 ≤ a) (h2 : a ≤ 9000000000000000000) : -9000000000000000000 ≤ a / b ∧ a / b ≤ 9000000000000000000 := by
  constructor
  · rw [Int.le_ediv_iff_mul_le hb]
    have : -9000000000000000000 * b ≤ -9000000000000000000 * 1 := by omega
    omega
  · by_cases h : 0 ≤ a
    · exact Int.le_trans (Int.ediv_le_self b h) h2
    · have := Int.ediv_neg_of_neg_of_pos (by omega : a < 0) hb
      omega
/-- whether a year is long hangs on its place in the row alone, also by Go's own rest -/
theorem lng_tmod (y : Int) : (8 * y.tmod 33 + 5) % 33 = (8 * y + 5) % 33 := by
  have := Int.tmod_add_mul_tdiv y 33
  omega
theorem tmod33 (y : Int) : -33 < y.tmod 33 ∧ y.tmod 33 < 33 := ⟨Int.lt_tmod_of_pos y (by decide), Int.tmod_lt_of_pos y (by decide)⟩
end Go.Proofs.Ytppggaibhfajjaa
