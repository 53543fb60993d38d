/- Proved here: a number's exact sum kept as parts that don't overlap: what adding a number leaves, how great the parts are, and that the parts are read from the greatest on as the whole, rounded. No program is named. -/
import Derived.Test.YthgpdgajmpocfaaWrd
namespace Ieee.Own

theorem pow_cut {a b c : Nat} (h : a = b + c) : 2 ^ a = 2 ^ b * 2 ^ c := by subst h; exact Nat.pow_add 2 b c
/-- h lies below the lowest digit of z -/
def Und (h z : Int) : Prop := ∃ f : Nat, (2 : Int) ^ f ∣ z ∧ h.natAbs < 2 ^ f
/-- parts from the least on, above h: none is a nought, each lies below the next one's lowest digit -/
def NoL (h : Int) : List Int → Prop
  | [] => True
  | p :: ps => p ≠ 0 ∧ Rep p ∧ Und h p ∧ NoL p ps

theorem Und_zero (z : Int) : Und 0 z := ⟨0, by simp, by simp⟩
theorem Und_of_zero (h : Int) : Und h 0 := ⟨h.natAbs + 1, Int.dvd_zero _, Nat.lt_of_lt_of_le (Nat.lt_succ_self _) (Nat.le_of_lt Nat.lt_two_pow_self)⟩
theorem pow_le_abs {z : Int} {f : Nat} (h : (2 : Int) ^ f ∣ z) (h0 : z ≠ 0) : 2 ^ f ≤ z.natAbs := by
  have := Int.natAbs_dvd_natAbs.2 h
  rw [Int.natAbs_pow] at this
  exact Nat.le_of_dvd (by omega) this
theorem Und_lt {h z : Int} (u : Und h z) (h0 : z ≠ 0) : h.natAbs < z.natAbs := by
  obtain ⟨f, h1, h2⟩ := u
  have := pow_le_abs h1 h0; omega
theorem Und_mono {h h' z : Int} (u : Und h z) (hl : h'.natAbs ≤ h.natAbs) : Und h' z := by
  obtain ⟨f, h1, h2⟩ := u; exact ⟨f, h1, by omega⟩
theorem NoL_mono {h h' : Int} {ps : List Int} (n : NoL h ps) (hl : h'.natAbs ≤ h.natAbs) : NoL h' ps := by
  cases ps with
  | nil => trivial
  | cons p ps => exact ⟨n.1, n.2.1, Und_mono n.2.2.1 hl, n.2.2.2⟩
/-- below both, below the sum, its rounding and the rest -/
theorem Und_add {h a b : Int} (u : Und h a) (v : Und h b) : Und h (a + b) := by
  obtain ⟨f, h1, h2⟩ := u
  obtain ⟨g, h3, h4⟩ := v
  by_cases hl : f ≤ g
  · exact ⟨f, Int.dvd_add h1 (Int.dvd_trans (pow_dvd hl) h3), h2⟩
  · exact ⟨g, Int.dvd_add (Int.dvd_trans (pow_dvd (by omega)) h1) h3, h4⟩
theorem Und_RN {h a : Int} (u : Und h a) : Und h (RN a) := by
  obtain ⟨f, h1, h2⟩ := u; exact ⟨f, RN_dvd h1, h2⟩
theorem Und_rest {h a : Int} (u : Und h a) : Und h (a - RN a) := by
  obtain ⟨f, h1, h2⟩ := u; exact ⟨f, Int.dvd_sub h1 (RN_dvd h1), h2⟩

/-- what is left lies below what was rounded, and is at most 2^-53 of it -/
theorem rest_und (z : Int) : Und (z - RN z) (RN z) ∧ 2 ^ 53 * (z - RN z).natAbs ≤ (RN z).natAbs := by
  by_cases hd : dr z.natAbs = 0
  · have h : RN z = z := by
      have h1 : z.natAbs < 2 ^ (53 + 0) := by have := dr_lt z.natAbs; rw [hd] at this; exact this
      exact RN_exact (Rep_small (by omega))
    rw [h, Int.sub_self]
    exact ⟨Und_zero _, by simp⟩
  · have h1 : (2 : Int) ^ dr z.natAbs ∣ RN z := by
      apply Int.natAbs_dvd_natAbs.1
      rw [Int.natAbs_pow, RN_abs]
      exact Nat.dvd_mul_left _ _
    have h2 := RN_err (dr_lt z.natAbs)
    have h3 : 2 ^ (52 + dr z.natAbs) ≤ (RN z).natAbs := by
      rw [RN_abs]
      have := rn_near_lo z.natAbs 1 (52 + dr z.natAbs) (by omega) (by have := dr_le z.natAbs (by omega); omega)
      omega
    have hp := Nat.two_pow_pos (dr z.natAbs)
    rw [Nat.pow_add] at h3
    generalize dr z.natAbs = d at *
    refine ⟨⟨d, h1, ?_⟩, ?_⟩
    · generalize 2 ^ d = g at *
      omega
    · generalize 2 ^ d = g at *
      omega
theorem rest_le {x p : Int} (hx : Rep x) : (x + p - RN (x + p)).natAbs ≤ p.natAbs := by
  have := RN_near (x + p) x hx; omega

/-- a number more: through the parts from the least on -/
def grow (x : Int) : List Int → List Int
  | [] => if x = 0 then [] else [x]
  | p :: ps => if x + p - RN (x + p) = 0 then grow (RN (x + p)) ps else (x + p - RN (x + p)) :: grow (RN (x + p)) ps

theorem grow_sum (x : Int) (ps : List Int) : (grow x ps).sum = x + ps.sum := by
  induction ps generalizing x with
  | nil => unfold grow; split <;> simp_all
  | cons p ps ih =>
    unfold grow
    split
    · rw [ih, List.sum_cons]; omega
    · rw [List.sum_cons, ih, List.sum_cons]; omega
theorem grow_NoL (x h : Int) (ps : List Int) (hx : Rep x) (n : NoL h ps) (u : Und h x) : NoL h (grow x ps) := by
  induction ps generalizing x h with
  | nil =>
    unfold grow; split
    · trivial
    · exact ⟨by assumption, hx, u, trivial⟩
  | cons p ps ih =>
    obtain ⟨n1, n2, n3, n4⟩ := n
    have hb := Und_add u n3
    unfold grow
    split
    · exact ih _ _ (RN_rep _) (NoL_mono n4 (Nat.le_of_lt (Und_lt n3 n1))) (Und_RN hb)
    · rename_i hr
      exact ⟨hr, Rep_err hx n2, Und_rest hb, ih _ _ (RN_rep _) (NoL_mono n4 (rest_le hx)) (rest_und _).1⟩

/-! ### how great the parts are -/
def absSum (ps : List Int) : Nat := (ps.map Int.natAbs).sum
theorem absSum_cons (p : Int) (ps : List Int) : absSum (p :: ps) = p.natAbs + absSum ps := by simp [absSum]
theorem absSum_nil : absSum [] = 0 := rfl
theorem sum_le_abs (ps : List Int) : ps.sum.natAbs ≤ absSum ps := by
  induction ps with
  | nil => simp [absSum]
  | cons p ps ih => rw [absSum_cons, List.sum_cons]; omega

/-- parts, each above all that stand ahead of it taken together -/
def NoS (a : Nat) : List Int → Prop
  | [] => True
  | p :: ps => p ≠ 0 ∧ Rep p ∧ (∃ f : Nat, (2 : Int) ^ f ∣ p ∧ a < 2 ^ f) ∧ NoS (a + p.natAbs) ps

theorem dvd_gap {p : Int} {f g : Nat} (h1 : (2 : Int) ^ f ∣ p) (h2 : p.natAbs < 2 ^ g) (h0 : p ≠ 0) : p.natAbs + 2 ^ f ≤ 2 ^ g := by
  have hle := pow_le_abs h1 h0
  have hfg : f ≤ g := by
    refine Nat.le_of_not_lt fun h => ?_
    have : 2 ^ g ≤ 2 ^ f := Nat.pow_le_pow_right (by omega) (by omega)
    omega
  have h3 := Int.natAbs_dvd_natAbs.2 h1
  rw [Int.natAbs_pow] at h3
  obtain ⟨k, hk⟩ := h3
  have e : 2 ^ g = 2 ^ f * 2 ^ (g - f) := pow_cut (by omega)
  have e2 : (2 : Int).natAbs = 2 := rfl
  rw [e2] at hk
  rw [hk, e] at h2 ⊢
  have : k < 2 ^ (g - f) := Nat.lt_of_mul_lt_mul_left h2
  have := Nat.mul_le_mul_left (2 ^ f) (show k + 1 ≤ 2 ^ (g - f) from this)
  rw [Nat.mul_add] at this
  omega
theorem NoS_of {ps : List Int} {h : Int} {a : Nat} (n : NoL h ps) (ha : ∀ p q, ps = p :: q → ∃ f : Nat, (2 : Int) ^ f ∣ p ∧ a < 2 ^ f) : NoS a ps := by
  induction ps generalizing h a with
  | nil => trivial
  | cons p ps ih =>
    obtain ⟨n1, n2, n3, n4⟩ := n
    refine ⟨n1, n2, ha p ps rfl, ih n4 ?_⟩
    rintro q qs rfl
    obtain ⟨f, f1, f2⟩ := ha p _ rfl
    obtain ⟨g, g1, g2⟩ := n4.2.2.1
    refine ⟨g, g1, ?_⟩
    have := dvd_gap f1 g2 n1
    omega
theorem NoS_start {ps : List Int} (n : NoL 0 ps) : NoS 0 ps := NoS_of n (fun p _ _ => ⟨0, by simp, by simp⟩)
/-- all together are less than twice the greatest -/
theorem NoS_bound {ps : List Int} {a M : Nat} (n : NoS a ps) (ha : a ≤ 2 * M) (hm : ∀ p ∈ ps, p.natAbs ≤ M) : a + absSum ps ≤ 2 * M := by
  induction ps generalizing a with
  | nil => simpa [absSum]
  | cons p ps ih =>
    obtain ⟨n1, n2, ⟨f, f1, f2⟩, n4⟩ := n
    have h1 := pow_le_abs f1 n1
    have h2 := hm p (by simp)
    have := ih n4 (by omega) (fun q hq => hm q (by simp [hq]))
    rw [absSum_cons]; omega

/-- every number on the way is at most so great -/
theorem grow_way (x : Int) (ps : List Int) (hx : Rep x) (B : Nat) (hB : x.natAbs + 2 * absSum ps ≤ B) :
    ∀ p ∈ grow x ps, p.natAbs ≤ B := by
  induction ps generalizing x with
  | nil =>
    unfold grow; split
    · simp
    · simp [absSum] at hB; simpa using hB
  | cons p ps ih =>
    rw [absSum_cons] at hB
    have h1 := rest_le (p := p) hx
    have := ih (RN (x + p)) (RN_rep _) (by omega)
    unfold grow
    split
    · exact this
    · intro q hq
      rcases List.mem_cons.1 hq with rfl | hq
      · omega
      · exact this q hq

/-- the rests alone are small; the last one is what is left of the sum -/
theorem grow_small (x : Int) (ps : List Int) (hx : Rep x) (B : Nat) (hB : x.natAbs + 2 * absSum ps ≤ B) :
    ∃ (hs : List Int) (y : Int), grow x ps = hs ++ (if y = 0 then [] else [y]) ∧ ∀ p ∈ hs, 2 ^ 53 * p.natAbs ≤ B := by
  induction ps generalizing x with
  | nil => exact ⟨[], x, by simp [grow], by simp⟩
  | cons p ps ih =>
    rw [absSum_cons] at hB
    have h1 := rest_le (p := p) hx
    have h2 := (rest_und (x + p)).2
    obtain ⟨hs, y, e, h⟩ := ih (RN (x + p)) (RN_rep _) (by omega)
    unfold grow
    split
    · exact ⟨hs, y, e, h⟩
    · refine ⟨(x + p - RN (x + p)) :: hs, y, by rw [e]; rfl, ?_⟩
      intro q hq
      rcases List.mem_cons.1 hq with rfl | hq
      · omega
      · exact h q hq

theorem NoS_app {ps qs : List Int} {a : Nat} (n : NoS a (ps ++ qs)) : NoS a ps := by
  induction ps generalizing a with
  | nil => trivial
  | cons p ps ih => exact ⟨n.1, n.2.1, n.2.2.1, ih n.2.2.2⟩

/-- what is kept of the parts from number to number: they don't overlap, their sum is z, none is greater than 2^(K+1) -/
structure Parts (K : Nat) (z : Int) (ps : List Int) : Prop where
  no : NoL 0 ps
  sum : ps.sum = z
  le : ∀ p ∈ ps, p.natAbs ≤ 2 ^ (K + 1)

theorem Parts.abs {K : Nat} {z : Int} {ps : List Int} (P : Parts K z ps) : absSum ps ≤ 2 ^ (K + 2) := by
  have := NoS_bound (M := 2 ^ (K + 1)) (NoS_start P.no) (by omega) P.le
  rw [two_succ (K + 1)]; omega
theorem Parts.nil (K : Nat) : Parts K 0 [] := ⟨trivial, rfl, by simp⟩
theorem Parts.grow {K : Nat} {z x : Int} {ps : List Int} (P : Parts K z ps) (hx : Rep x) (h1 : x.natAbs ≤ 2 ^ K) (h2 : (z + x).natAbs ≤ 2 ^ K) (hK : 60 ≤ K) : Parts K (z + x) (grow x ps) := by
  have hA := P.abs
  have hn := grow_NoL x 0 ps hx P.no (Und_zero x)
  have hs : (Ieee.Own.grow x ps).sum = z + x := by rw [grow_sum, P.sum]; omega
  refine ⟨hn, hs, ?_⟩
  obtain ⟨k, rfl⟩ : ∃ k, K = k + 60 := ⟨K - 60, by omega⟩
  have hB : x.natAbs + 2 * absSum ps ≤ 2 ^ (k + 64) := by
    have e1 : 2 ^ (k + 60) = 2 ^ 60 * 2 ^ k := by rw [Nat.add_comm, Nat.pow_add]
    have e2 : 2 ^ (k + 60 + 2) = 2 ^ 62 * 2 ^ k := by rw [show k + 60 + 2 = 62 + k by omega, Nat.pow_add]
    have e3 : 2 ^ (k + 64) = 2 ^ 64 * 2 ^ k := by rw [Nat.add_comm, Nat.pow_add]
    rw [e1] at h1; rw [e2] at hA; rw [e3]
    generalize 2 ^ k = g at *
    omega
  obtain ⟨hs', y, e, h⟩ := grow_small x ps hx _ hB
  have hsm : ∀ p ∈ hs', p.natAbs ≤ 2 ^ (k + 11) := by
    intro p hp
    have := h p hp
    have e3 : 2 ^ (k + 64) = 2 ^ 53 * 2 ^ (k + 11) := pow_cut (by omega)
    rw [e3] at this
    exact Nat.le_of_mul_le_mul_left this (by decide)
  rw [e] at hn hs ⊢
  have hb := NoS_bound (M := 2 ^ (k + 11)) (NoS_app (NoS_start hn)) (by omega) hsm
  have hb2 := sum_le_abs hs'
  have e1 : 2 ^ (k + 60) = 2 ^ 49 * 2 ^ (k + 11) := pow_cut (by omega)
  have e2 : 2 ^ (k + 60 + 1) = 2 ^ 50 * 2 ^ (k + 11) := pow_cut (by omega)
  rw [e1] at h2
  rw [e2]
  rw [List.sum_append] at hs
  intro p hp
  rcases List.mem_append.1 hp with hp | hp
  · have := hsm p hp; omega
  · by_cases hy : y = 0
    · rw [if_pos hy] at hp; simp at hp
    · rw [if_neg hy] at hp hs
      simp at hp hs
      subst hp
      omega

/-- on the way to the parts each number that is rounded is small enough -/
theorem way_le {K : Nat} {z x : Int} {ps : List Int} (P : Parts K z ps) (h1 : x.natAbs ≤ 2 ^ K) : x.natAbs + 2 * absSum ps ≤ 2 ^ (K + 4) := by
  have hA := P.abs
  have e1 : 2 ^ (K + 2) = 4 * 2 ^ K := by rw [Nat.pow_add]; omega
  have e2 : 2 ^ (K + 4) = 16 * 2 ^ K := by rw [Nat.pow_add]; omega
  omega

/-! ### the sign of the whole -/
theorem NoS_last {ps : List Int} {q : Int} {a : Nat} (n : NoS a (ps ++ [q])) : q ≠ 0 ∧ Rep q ∧ ∃ f : Nat, (2 : Int) ^ f ∣ q ∧ a + absSum ps < 2 ^ f := by
  induction ps generalizing a with
  | nil => exact ⟨n.1, n.2.1, by simpa [absSum] using n.2.2.1⟩
  | cons p ps ih =>
    obtain ⟨h0, h1, f, f1, f2⟩ := ih n.2.2.2
    exact ⟨h0, h1, f, f1, by rw [absSum_cons]; omega⟩
theorem sign_last {ps : List Int} {q : Int} (n : NoL 0 (ps ++ [q])) : q ≠ 0 ∧ ((ps ++ [q]).sum < 0 ↔ q < 0) ∧ (0 < (ps ++ [q]).sum ↔ 0 < q) := by
  obtain ⟨h0, -, f, f1, f2⟩ := NoS_last (NoS_start n)
  have := sum_le_abs ps
  have := pow_le_abs f1 h0
  rw [List.sum_append]
  simp only [List.sum_cons, List.sum_nil]
  refine ⟨h0, ?_, ?_⟩ <;> constructor <;> intro h <;> omega
end Ieee.Own
