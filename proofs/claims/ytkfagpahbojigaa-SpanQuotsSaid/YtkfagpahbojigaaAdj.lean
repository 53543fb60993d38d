/- Proved here: numbers next to an exact result (a sum, a product, a quotient, a root): the greatest word not above it, the least not below it. -/
import Derived.Test.YtkfagpahbojigaaWrd
import Derived.Test.YtkfagpahbojigaaNxs
namespace Go.Proofs.Ytkfagpahbojigaa
open Ieee.Own

/-! ### the order of words, and neighbours -/
theorem V_lt_key {a b : Nat} (ha : FinW a) (hb : FinW b) : V a < V b ↔ key64 a < key64 b := by
  have a1 := ha.1
  have b1 := hb.1
  unfold V key64
  by_cases h1 : a < 9223372036854775808 <;> by_cases h2 : b < 9223372036854775808
  · rw [if_pos h1, if_pos h1, if_pos h2, if_pos h2]
    have := val_lt_iff 52 a b
    omega
  · rw [if_pos h1, if_pos h1, if_neg h2, if_neg h2]; omega
  · rw [if_neg h1, if_neg h1, if_pos h2, if_pos h2]
    have x := val_zero_iff 52 (a - 9223372036854775808)
    have y := val_zero_iff 52 b
    omega
  · rw [if_neg h1, if_neg h1, if_neg h2, if_neg h2]
    have := val_lt_iff 52 (b - 9223372036854775808) (a - 9223372036854775808)
    omega

theorem small_word {b : Nat} (hb : FinW b) (h : (V b).natAbs ≤ 2 ^ 1500) : b % 9223372036854775808 < 9218868437227405311 := by
  rw [V_abs' b hb] at h
  have : val 52 (b % 9223372036854775808) < val 52 9218868437227405311 := Nat.lt_of_le_of_lt h (by decide +kernel)
  exact (val_lt_iff 52 _ _).1 this

theorem next_spec {b : Nat} (hb : FinW b) (h : (V b).natAbs ≤ 2 ^ 1500) : FinW (nextW b) ∧ V b < V (nextW b) ∧ ∀ u, FinW u → V b < V u → V (nextW b) ≤ V u := by
  have h1 := small_word hb h
  have b1 := hb.1
  have hf : FinW (nextW b) := by
    unfold FinW nextW
    repeat' split
    all_goals omega
  have hk : key64 (nextW b) = key64 b + 1 := by
    unfold key64 nextW
    repeat' split
    all_goals omega
  refine ⟨hf, (V_lt_key hb hf).2 (by omega), fun u hu hlt => ?_⟩
  have := (V_lt_key hb hu).1 hlt
  exact Int.not_lt.1 fun hc => by have := (V_lt_key hu hf).1 hc; omega
theorem prev_spec {b : Nat} (hb : FinW b) (h : (V b).natAbs ≤ 2 ^ 1500) : FinW (prevW b) ∧ V (prevW b) < V b ∧ ∀ u, FinW u → V u < V b → V u ≤ V (prevW b) := by
  have h1 := small_word hb h
  have b1 := hb.1
  have hf : FinW (prevW b) := by
    unfold FinW prevW
    repeat' split
    all_goals omega
  have hk : key64 (prevW b) = key64 b - 1 := by
    unfold key64 prevW
    repeat' split
    all_goals omega
  refine ⟨hf, (V_lt_key hf hb).2 (by omega), fun u hu hlt => ?_⟩
  have := (V_lt_key hu hb).1 hlt
  exact Int.not_lt.1 fun hc => by have := (V_lt_key hf hu).1 hc; omega

/-! ### an exact result, told by a sign: c v is above 0 for v below it, below 0 for v above it -/
/-- a word that lies next to the exact result: no other word between -/
structure Adj (c : Int → Int) (s : Nat) : Prop where
  fin : FinW s
  bd : (V s).natAbs ≤ 2 ^ 1500
  lo : ∀ u, FinW u → V u < V s → 0 < c (V u)
  hi : ∀ u, FinW u → V s < V u → c (V u) < 0
/-- the greatest word not above -/
structure Dn (c : Int → Int) (w : Nat) : Prop where
  fin : FinW w
  le : 0 ≤ c (V w)
  top : ∀ u, FinW u → 0 ≤ c (V u) → V u ≤ V w
/-- the least word not below -/
structure Up (c : Int → Int) (w : Nat) : Prop where
  fin : FinW w
  ge : c (V w) ≤ 0
  low : ∀ u, FinW u → c (V u) ≤ 0 → V w ≤ V u
theorem Dn.uniq {c : Int → Int} {w x : Nat} (h : Dn c w) (k : Dn c x) : V w = V x := by
  have := h.top x k.fin k.le
  have := k.top w h.fin h.le
  omega
theorem Up.uniq {c : Int → Int} {w x : Nat} (h : Up c w) (k : Up c x) : V w = V x := by
  have := h.low x k.fin k.ge
  have := k.low w h.fin h.ge
  omega

def dnW (neg : Prop) [Decidable neg] (s : Nat) : Nat := if neg then prevW s else s
def upW (pos : Prop) [Decidable pos] (s : Nat) : Nat := if pos then nextW s else s
theorem Adj.dn {c : Int → Int} {s : Nat} (A : Adj c s) {p : Prop} [Decidable p] (h : p ↔ c (V s) < 0) : Dn c (dnW p s) := by
  unfold dnW
  by_cases hc : p
  · rw [if_pos hc]
    obtain ⟨p1, p2, p3⟩ := prev_spec A.fin A.bd
    refine ⟨p1, Int.le_of_lt (A.lo _ p1 p2), fun u hu h0 => p3 u hu ?_⟩
    refine Int.not_le.1 fun h1 => ?_
    have h2 := h.1 hc
    by_cases e : V u = V s
    · rw [e] at h0; omega
    · have := A.hi u hu (by omega); omega
  · rw [if_neg hc]
    refine ⟨A.fin, ?_, fun u hu h0 => ?_⟩
    · have := mt h.2 hc; omega
    · refine Int.not_lt.1 fun h1 => ?_
      have := A.hi u hu h1; omega
theorem Adj.upp {c : Int → Int} {s : Nat} (A : Adj c s) {p : Prop} [Decidable p] (h : p ↔ 0 < c (V s)) : Up c (upW p s) := by
  unfold upW
  by_cases hc : p
  · rw [if_pos hc]
    obtain ⟨p1, p2, p3⟩ := next_spec A.fin A.bd
    refine ⟨p1, Int.le_of_lt (A.hi _ p1 p2), fun u hu h0 => p3 u hu ?_⟩
    refine Int.not_le.1 fun h1 => ?_
    have h2 := h.1 hc
    by_cases e : V u = V s
    · rw [e] at h0; omega
    · have := A.lo u hu (by omega); omega
  · rw [if_neg hc]
    refine ⟨A.fin, ?_, fun u hu h0 => ?_⟩
    · have := mt h.2 hc; omega
    · refine Int.not_lt.1 fun h1 => ?_
      have := A.lo u hu h1; omega

/-! ### the four: sums and products -/
theorem adj_rn {z : Int} {s : Nat} (hs : FinW s) (hv : V s = RN z) (hb : (V s).natAbs ≤ 2 ^ 1500) : Adj (fun v => z - v) s := by
  refine ⟨hs, hb, fun u hu h => ?_, fun u hu h => ?_⟩
  · have := RN_near z (V u) (Rep_V u)
    rw [hv] at h
    show 0 < z - V u
    omega
  · have := RN_near z (V u) (Rep_V u)
    rw [hv] at h
    show z - V u < 0
    omega

/-- a number of 53 digits is no nearer to another than half a step of that -/
theorem gap {u x : Int} {Q E : Nat} (hu : Rep u) (hx : x.natAbs = Q * 2 ^ (E + 1)) (hQ : 2 ^ 52 ≤ Q) (hne : u ≠ x) : 2 ^ E ≤ (u - x).natAbs := by
  obtain ⟨k, e, hk, he⟩ := hu
  by_cases hc : E ≤ e
  · have d1 : (2 : Int) ^ E ∣ u := by
      refine Int.natAbs_dvd_natAbs.1 ?_
      rw [he, Int.natAbs_pow]
      exact Nat.dvd_trans (Nat.pow_dvd_pow 2 hc) (Nat.dvd_mul_left _ _)
    have d2 : (2 : Int) ^ E ∣ x := by
      refine Int.natAbs_dvd_natAbs.1 ?_
      rw [hx, Int.natAbs_pow]
      exact Nat.dvd_trans (Nat.pow_dvd_pow 2 (by omega)) (Nat.dvd_mul_left _ _)
    exact pow_abs_dvd (Int.dvd_sub d1 d2) (by omega)
  · have h1 : u.natAbs ≤ 2 ^ 53 * 2 ^ (E - 1) := by
      rw [he]
      exact Nat.mul_le_mul hk (two_le (by omega))
    have h2 : 2 ^ 52 * 2 ^ (E + 1) ≤ x.natAbs := by rw [hx]; exact Nat.mul_le_mul_right _ hQ
    obtain ⟨f, rfl⟩ : ∃ f, E = f + 1 := ⟨E - 1, by omega⟩
    rw [show f + 1 - 1 = f by omega] at h1
    have e1 : 2 ^ (f + 1) = 2 * 2 ^ f := two_succ f
    have e2 : 2 ^ (f + 1 + 1) = 2 * 2 ^ (f + 1) := two_succ (f + 1)
    rw [e2, e1] at h2
    rw [e1]
    generalize 2 ^ f = y at *
    omega

theorem mul_le_r {a b c : Int} (h : a ≤ b) (hc : 0 ≤ c) : a * c ≤ b * c := Int.mul_le_mul_of_nonneg_right h hc
/-- QUOTIENTS: from half a step -/
theorem adj_quot {s : Nat} {X Y : Int} {Q E : Nat} (hs : FinW s) (hv : (V s).natAbs = Q * 2 ^ (E + 1)) (hQ : 2 ^ 52 ≤ Q) (hb : (V s).natAbs ≤ 2 ^ 1500)
    (hr : (X - V s * Y).natAbs < 2 ^ E * Y.natAbs) : Adj (fun v => (X - v * Y) * (if Y < 0 then -1 else 1)) s := by
  obtain ⟨G, hG⟩ : ∃ G : Int, G = ((2 ^ E : Nat) : Int) := ⟨_, rfl⟩
  have hr' : ((X - V s * Y).natAbs : Int) < G * (Y.natAbs : Int) := by rw [hG]; exact_mod_cast hr
  have key : ∀ u, FinW u → V u ≠ V s → G ≤ ((V u - V s).natAbs : Int) := fun u hu hne => by
    rw [hG]
    have := gap (Rep_V u) hv hQ hne
    omega
  have lin : ∀ v, X - v * Y = (X - V s * Y) - (v - V s) * Y := fun v => by rw [Int.sub_mul]; omega
  have ab : ∀ v, ((v - V s) * Y).natAbs = (v - V s).natAbs * Y.natAbs := fun v => Int.natAbs_mul _ _
  refine ⟨hs, hb, fun u hu h => ?_, fun u hu h => ?_⟩
  · have hg := key u hu (by omega)
    have h2 := mul_le_r hg (show (0 : Int) ≤ (Y.natAbs : Int) by omega)
    show 0 < (X - V u * Y) * _
    rw [lin]
    by_cases hy : Y < 0
    · rw [if_pos hy]
      have hp : 0 ≤ (V u - V s) * Y := Int.mul_nonneg_of_nonpos_of_nonpos (by omega) (by omega)
      have := ab (V u)
      have e : (((V u - V s).natAbs : Int) * (Y.natAbs : Int)) = (V u - V s) * Y := by rw [← Int.natCast_mul, ← this]; omega
      omega
    · rw [if_neg hy]
      have hp : (V u - V s) * Y ≤ 0 := Int.mul_nonpos_of_nonpos_of_nonneg (by omega) (by omega)
      have := ab (V u)
      have e : (((V u - V s).natAbs : Int) * (Y.natAbs : Int)) = -((V u - V s) * Y) := by rw [← Int.natCast_mul, ← this]; omega
      omega
  · have hg := key u hu (by omega)
    have h2 := mul_le_r hg (show (0 : Int) ≤ (Y.natAbs : Int) by omega)
    show (X - V u * Y) * _ < 0
    rw [lin]
    by_cases hy : Y < 0
    · rw [if_pos hy]
      have hp : (V u - V s) * Y ≤ 0 := Int.mul_nonpos_of_nonneg_of_nonpos (by omega) (by omega)
      have := ab (V u)
      have e : (((V u - V s).natAbs : Int) * (Y.natAbs : Int)) = -((V u - V s) * Y) := by rw [← Int.natCast_mul, ← this]; omega
      omega
    · rw [if_neg hy]
      have hp : 0 ≤ (V u - V s) * Y := Int.mul_nonneg (by omega) (by omega)
      have := ab (V u)
      have e : (((V u - V s).natAbs : Int) * (Y.natAbs : Int)) = (V u - V s) * Y := by rw [← Int.natCast_mul, ← this]; omega
      omega

/-- a nought by anything -/
theorem adj_quot0 {s : Nat} {Y : Int} (hs : FinW s) (hY : Y ≠ 0) (hv : V s = 0) : Adj (fun v => (0 - v * Y) * (if Y < 0 then -1 else 1)) s := by
  refine ⟨hs, by rw [hv]; exact Nat.zero_le _, fun u hu h => ?_, fun u hu h => ?_⟩
  · show 0 < (0 - V u * Y) * _
    by_cases hy : Y < 0
    · rw [if_pos hy]
      have := Int.mul_pos_of_neg_of_neg (show V u < 0 by omega) hy
      omega
    · rw [if_neg hy]
      have := Int.mul_neg_of_neg_of_pos (show V u < 0 by omega) (show 0 < Y by omega)
      omega
  · show (0 - V u * Y) * _ < 0
    by_cases hy : Y < 0
    · rw [if_pos hy]
      have := Int.mul_neg_of_pos_of_neg (show 0 < V u by omega) hy
      omega
    · rw [if_neg hy]
      have := Int.mul_pos (show 0 < V u by omega) (show 0 < Y by omega)
      omega

/-- division's own case: no quotient of 53 digits by 53 digits lies in the middle of two numbers of 53 digits -/
theorem no_tie {m n Q u : Nat} (hn : 0 < n) (n2 : n < 2 ^ 53) (hu : 52 ≤ u) : 2 * (Q * n) ≠ 2 * (m * 2 ^ u) + n ∧ 2 * (m * 2 ^ u) ≠ 2 * (Q * n) + n := by
  obtain ⟨f, rfl⟩ : ∃ f, u = 52 + f := ⟨u - 52, by omega⟩
  have e : 2 * (m * 2 ^ (52 + f)) = 9007199254740992 * (m * 2 ^ f) := by
    rw [Nat.pow_add, show (2 : Nat) ^ 52 = 4503599627370496 from rfl]
    generalize 2 ^ f = y
    rw [show m * (4503599627370496 * y) = 4503599627370496 * (m * y) by ac_rfl]
    omega
  rw [e]
  generalize m * 2 ^ f = z
  -- n times an odd number would be a multiple of 2^53
  have odd : ∀ k : Nat, n * (2 * k + 1) = 9007199254740992 * z → False := fun k h => by
    have hc : Nat.Coprime (2 ^ 53) (2 * k + 1) := Nat.Coprime.pow_left 53 (by
      rw [Nat.coprime_iff_gcd_eq_one, Nat.gcd_rec]
      have : (2 * k + 1) % 2 = 1 := by omega
      rw [this]; rfl)
    have hd : 2 ^ 53 ∣ n * (2 * k + 1) := ⟨z, by rw [h]⟩
    have := Nat.le_of_dvd hn (hc.dvd_of_dvd_mul_right hd)
    omega
  constructor
  · intro h
    have hQ : 0 < Q := by
      refine Nat.pos_of_ne_zero fun h0 => ?_
      rw [h0] at h; omega
    obtain ⟨k, rfl⟩ : ∃ k, Q = k + 1 := ⟨Q - 1, by omega⟩
    refine odd k ?_
    rw [Nat.add_mul] at h
    rw [Nat.mul_add, show n * (2 * k) = 2 * (k * n) by ac_rfl]
    omega
  · intro h
    refine odd Q ?_
    rw [Nat.mul_add, show n * (2 * Q) = 2 * (Q * n) by ac_rfl]
    omega

/-- ROOTS -/
theorem adj_root {s : Nat} {X : Int} {Q E : Nat} (hs : FinW s) (hv : V s = ((Q * 2 ^ (E + 1) : Nat) : Int)) (hQ : 2 ^ 52 ≤ Q) (hb : (V s).natAbs ≤ 2 ^ 1500)
    (h1 : (((2 * Q - 1) * 2 ^ E * ((2 * Q - 1) * 2 ^ E) : Nat) : Int) < X) (h2 : X < (((2 * Q + 1) * 2 ^ E * ((2 * Q + 1) * 2 ^ E) : Nat) : Int)) :
    Adj (fun v => if v < 0 then 1 else X - v * v) s := by
  have ex : Q * 2 ^ (E + 1) = 2 * Q * 2 ^ E := by rw [two_succ]; ac_rfl
  have key : ∀ u, FinW u → V u ≠ V s → 2 ^ E ≤ (V u - V s).natAbs := fun u hu hne => gap (Rep_V u) (by rw [hv]; rfl) hQ hne
  rw [ex] at hv
  refine ⟨hs, hb, fun u hu h => ?_, fun u hu h => ?_⟩
  · show 0 < ite _ _ _
    by_cases hn : V u < 0
    · rw [if_pos hn]; omega
    · rw [if_neg hn]
      have hg := key u hu (by omega)
      obtain ⟨x, hx⟩ : ∃ x : Nat, V u = (x : Int) := ⟨(V u).natAbs, by omega⟩
      rw [hx] at hg hn ⊢
      have hxl : x ≤ (2 * Q - 1) * 2 ^ E := by
        rw [Nat.sub_mul, Nat.one_mul]
        rw [hx] at h
        rw [hv] at h hg
        generalize 2 * Q * 2 ^ E = y at *
        generalize 2 ^ E = z at *
        omega
      have := Nat.mul_le_mul hxl hxl
      rw [← Int.natCast_mul]
      omega
  · show ite _ _ _ < 0
    have hn : ¬ V u < 0 := by omega
    rw [if_neg hn]
    have hg := key u hu (by omega)
    obtain ⟨x, hx⟩ : ∃ x : Nat, V u = (x : Int) := ⟨(V u).natAbs, by omega⟩
    rw [hx] at hg hn ⊢
    have hxl : (2 * Q + 1) * 2 ^ E ≤ x := by
      rw [Nat.add_mul, Nat.one_mul]
      rw [hx] at h
      rw [hv] at h hg
      generalize 2 * Q * 2 ^ E = y at *
      generalize 2 ^ E = z at *
      omega
    have := Nat.mul_le_mul hxl hxl
    rw [← Int.natCast_mul]
    omega
theorem adj_root0 {s : Nat} (hs : FinW s) (hv : V s = 0) : Adj (fun v => if v < 0 then 1 else 0 - v * v) s := by
  refine ⟨hs, by rw [hv]; exact Nat.zero_le _, fun u hu h => ?_, fun u hu h => ?_⟩
  · show 0 < ite _ _ _
    rw [if_pos (by omega)]; omega
  · show ite _ _ _ < 0
    rw [if_neg (by omega)]
    have := Int.mul_pos (show 0 < V u by omega) (show 0 < V u by omega)
    omega
end Go.Proofs.Ytkfagpahbojigaa
