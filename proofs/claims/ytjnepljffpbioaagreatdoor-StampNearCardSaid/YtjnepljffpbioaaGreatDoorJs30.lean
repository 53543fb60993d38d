/- Proved here: what the texts Yde, Ydf, Ydg prove, one behind the other. -/
import Derived.Test.YtjnepljffpbioaaGreatDoorJs26
import Derived.Test.YtjnepljffpbioaaGreatDoorJs29

namespace Go.Proofs.YtjnepljffpbioaaGreatDoor
open Ieee Ieee.Own

theorem hd_app : ∀ (A : List Int), (∀ x ∈ A, x ≠ 46) → ∀ B : List Int, hdP (A ++ 46 :: B) = A ∧ tlP (A ++ 46 :: B) = B
  | [], _, B => by unfold hdP tlP; simp
  | a :: A, h, B => by
    have ha := h a (by simp)
    obtain ⟨i1, i2⟩ := hd_app A (fun x hx => h x (by simp [hx])) B
    unfold hdP tlP at *
    rw [List.cons_append, List.takeWhile_cons_of_pos (by simpa using ha), List.dropWhile_cons_of_pos (by simpa using ha)]
    exact ⟨by rw [i1], i2⟩
/-- the parts of a text that was written -/
theorem fig_written {L : List Int} {neg : Bool} {D p : Nat} (hL : L = sgL neg ++ nuL D p) (hp : p ≤ 9) (hD : D / 10 ^ p < 10000000000) (hn : neg = true → D ≠ 0) :
    ngP L = neg ∧ hdP (rsP L) = dgI (wdN (D / 10 ^ p)) (D / 10 ^ p) ∧ tlP (rsP L) = (if 0 < p then dgI p (D % 10 ^ p) else []) ∧ figT L = true := by
  have w1 := wdN_pos (D / 10 ^ p)
  have w2 : wdN (D / 10 ^ p) ≤ 10 := wdN_le 10 _ (by decide) hD
  obtain ⟨W, hW⟩ : ∃ W, W = dgI (wdN (D / 10 ^ p)) (D / 10 ^ p) := ⟨_, rfl⟩
  have dW : ∀ x ∈ W, 48 ≤ x ∧ x ≤ 57 := by rw [hW]; exact dgI_digit _ _
  have lW : W.length = wdN (D / 10 ^ p) := by rw [hW]; exact dgI_len _ _
  obtain ⟨c, W', hc⟩ : ∃ c W', W = c :: W' := by
    cases W with
    | nil => simp at lW; omega
    | cons c W' => exact ⟨c, W', rfl⟩
  have dc := dW c (by rw [hc]; simp)
  have nu : nuL D p = W ++ (if 0 < p then [46] ++ dgI p (D % 10 ^ p) else []) := by unfold nuL; rw [← hW]
  have ng : ngP L = neg := by
    rw [hL, nu, hc]
    unfold ngP sgL
    cases neg with
    | true => rfl
    | false => rw [if_neg (by decide)]; exact decide_eq_false (by simp only [List.nil_append, List.cons_append, List.headD_cons]; omega)
  have rs : rsP L = nuL D p := by
    unfold rsP
    rw [ng, hL]
    unfold sgL
    cases neg with
    | true => rfl
    | false => rfl
  have n46 : ∀ x ∈ W, x ≠ 46 := fun x hx => by have := dW x hx; omega
  have parts : hdP (nuL D p) = W ∧ tlP (nuL D p) = (if 0 < p then dgI p (D % 10 ^ p) else []) ∧ ptP (nuL D p) = decide (0 < p) := by
    rw [nu]
    by_cases h : 0 < p
    · rw [if_pos h, if_pos h]
      obtain ⟨a, b⟩ := hd_app W n46 (dgI p (D % 10 ^ p))
      refine ⟨a, b, ?_⟩
      unfold ptP
      rw [decide_eq_true h]
      exact decide_eq_true (by simp)
    · rw [if_neg h, if_neg h, List.append_nil]
      have q : ptP W = false := decide_eq_false (fun m => n46 46 m rfl)
      obtain ⟨a, b⟩ := hd_nil W q
      exact ⟨a, b, by rw [q, decide_eq_false h]⟩
  refine ⟨ng, by rw [rs, parts.1, hW], by rw [rs, parts.2.1], ?_⟩
  unfold figT
  rw [rs, parts.1, parts.2.1, parts.2.2, ng]
  have a1 : adL W 10 = true := by
    unfold adL
    rw [decide_eq_true (show 1 ≤ W.length ∧ W.length ≤ 10 by omega), Bool.true_and]
    exact digB_iff.2 dW
  have a2 : lzP W = false := by
    unfold lzP
    by_cases q : 1 < W.length
    · have : W.getD 0 0 ≠ 48 := by
        rw [hW, dgI_at _ _ 0 w1, show wdN (D / 10 ^ p) - 1 - 0 = wdN (D / 10 ^ p) - 1 by omega]
        have big : 10 ^ (wdN (D / 10 ^ p) - 1) ≤ D / 10 ^ p := by
          rcases Nat.lt_or_ge (D / 10 ^ p) (10 ^ (wdN (D / 10 ^ p) - 1)) with r | r
          · exfalso
            have := wdN_le (wdN (D / 10 ^ p) - 1) _ (by omega) r
            omega
          · exact r
        have lt := wdN_lt (D / 10 ^ p)
        have h1 : 1 ≤ D / 10 ^ p / 10 ^ (wdN (D / 10 ^ p) - 1) := Nat.div_pos big (Nat.pow_pos (by decide))
        have h2 : D / 10 ^ p / 10 ^ (wdN (D / 10 ^ p) - 1) < 10 := by
          rw [Nat.div_lt_iff_lt_mul (Nat.pow_pos (by decide))]
          have e : (10 : Nat) ^ wdN (D / 10 ^ p) = 10 ^ (wdN (D / 10 ^ p) - 1) * 10 := by rw [← Nat.pow_succ]; congr 1; omega
          rw [e] at lt
          rw [Nat.mul_comm]; exact lt
        omega
      rw [decide_eq_false this, Bool.and_false]
    · rw [decide_eq_false q]; rfl
  have a3 : (!decide (0 < p) || adL (if 0 < p then dgI p (D % 10 ^ p) else []) 9) = true := by
    by_cases h : 0 < p
    · rw [if_pos h]
      unfold adL
      rw [dgI_len, decide_eq_true (show 1 ≤ p ∧ p ≤ 9 by omega), Bool.true_and, digB_dgI, Bool.or_true]
    · rw [decide_eq_false h]; rfl
  have a4 : (!neg || !ngtL L) = true := by
    cases neg with
    | false => rfl
    | true =>
      have hd := hn rfl
      rw [Bool.not_true, Bool.false_or, Bool.not_eq_true', ← Bool.not_eq_true]
      intro q
      unfold ngtL at q
      rw [List.all_eq_true] at q
      have q' : ∀ x ∈ nuL D p, x = 45 ∨ x = 48 ∨ x = 46 := fun x hx => by
        have := q x (by rw [hL]; exact List.mem_append_right _ hx)
        simp only [Bool.or_eq_true, decide_eq_true_eq] at this
        omega
      unfold nuL at q'
      have q0 := all_noughts _ _ fun x hx => q' x (List.mem_append_left _ hx)
      rw [Nat.mod_eq_of_lt (wdN_lt _)] at q0
      by_cases hp0 : 0 < p
      · rw [if_pos hp0] at q'
        have r0 := all_noughts _ _ fun x hx => q' x (List.mem_append_right _ (List.mem_append_right _ hx))
        rw [Nat.mod_mod] at r0
        have := Nat.div_add_mod D (10 ^ p)
        rw [q0, r0] at this
        omega
      · obtain rfl : p = 0 := by omega
        rw [Nat.pow_zero, Nat.div_one] at q0
        exact hd q0
  rw [a1, a2, a3, a4]; rfl
theorem fig_sum {W P : List Int} {D p : Nat} (hp : P.length = p) (h1 : W = dgI (wdN (D / 10 ^ p)) (D / 10 ^ p)) (h2 : P = (if 0 < p then dgI p (D % 10 ^ p) else [])) : figD W P = D := by
  rw [figD_is, hp, h1, numI_dgI, Nat.zero_mul, Nat.zero_add, Nat.mod_eq_of_lt (wdN_lt _), h2]
  have := Nat.div_add_mod D (10 ^ p)
  rw [Nat.mul_comm] at this
  by_cases h : 0 < p
  · rw [if_pos h, numI_dgI, Nat.zero_mul, Nat.zero_add, Nat.mod_mod]; exact this
  · obtain rfl : p = 0 := by omega
    rw [if_neg h]
    simp [numI]
/-! ### how near -/
theorem near_a {Q N T : Nat} (lo : 4503599627370496 * T ≤ N) (e1 : 2 * N ≤ 2 * Q + T) (e2 : 2 * Q ≤ 2 * N + T) : Q * 9007199254740992 ≤ N * 9007199254740993 ∧ N * 9007199254740991 ≤ Q * 9007199254740992 := by
  omega
theorem near_val {D p k x : Nat} (h : NearK D p k x) (hx : FinW x) {c : Nat} (hc : c = 1074) (hk : k ≤ 83) : (V x).natAbs * 10 ^ p * 9007199254740992 ≤ (D * 2 ^ c) * 9007199254740993 ∧ (D * 2 ^ c) * 9007199254740991 ≤ (V x).natAbs * 10 ^ p * 9007199254740992 := by
  obtain ⟨r1, r2⟩ := h.range
  obtain ⟨e1, e2⟩ := rneD_err (N := D * 2 ^ k) (ten_pos p)
  have lo := h.lo
  have e := h.eq
  generalize hM : rneD (D * 2 ^ k) (10 ^ p) = M at *
  have vx : (V x).natAbs = M * 2 ^ (c - k) := by
    rw [V_abs' x hx, e]
    have g := rung_val (c - k) M (by rw [show (2 : Nat) ^ 53 = 9007199254740992 by decide]; exact r2) (fun _ => by rw [show (2 : Nat) ^ 52 = 4503599627370496 by decide]; exact r1)
    rw [← g, hc, show (2 : Nat) ^ 52 = 4503599627370496 by decide, Nat.add_comm]
  have dc : D * 2 ^ c = D * 2 ^ k * 2 ^ (c - k) := by rw [Nat.mul_assoc, ← Nat.pow_add, show k + (c - k) = c by omega]
  obtain ⟨a1, a2⟩ := near_a lo e1 e2
  have b1 := Nat.mul_le_mul_right (2 ^ (c - k)) a1
  have b2 := Nat.mul_le_mul_right (2 ^ (c - k)) a2
  have s1 : M * 10 ^ p * 9007199254740992 * 2 ^ (c - k) = M * 2 ^ (c - k) * 10 ^ p * 9007199254740992 := by
    rw [Nat.mul_right_comm, Nat.mul_right_comm M]
  have s2 : D * 2 ^ k * 9007199254740993 * 2 ^ (c - k) = D * 2 ^ k * 2 ^ (c - k) * 9007199254740993 := Nat.mul_right_comm _ _ _
  have s3 : D * 2 ^ k * 9007199254740991 * 2 ^ (c - k) = D * 2 ^ k * 2 ^ (c - k) * 9007199254740991 := Nat.mul_right_comm _ _ _
  rw [s1, s2] at b1
  rw [s1, s3] at b2
  rw [vx, dc]
  exact ⟨b1, b2⟩
theorem sc_far {b p : Nat} (hb : FinW b) (hf : b % 9223372036854775808 = 0 ∨ 3706462493325918208 ≤ b % 9223372036854775808 ∧ b % 9223372036854775808 ≤ 4742290407621132288) {c : Nat} (hc : c = 1074) :
    2 * ((V b).natAbs * 10 ^ p) ≤ 2 * (scN b p * 2 ^ c) + 2 ^ c ∧ 2 * (scN b p * 2 ^ c) ≤ 2 * ((V b).natAbs * 10 ^ p) + 2 ^ c := by
  rw [V_abs' b hb]
  unfold scN tenN
  rcases hf with z | ⟨f1, f2⟩
  · rw [z, if_pos rfl, val_zero, Nat.zero_mul, Nat.zero_mul, Nat.mul_zero]; exact ⟨Nat.zero_le _, Nat.zero_le _⟩
  · rw [if_neg (by omega), ← rneD_pow]
    have vb : val 52 (b % 9223372036854775808) = (b % 4503599627370496 + 4503599627370496) * 2 ^ (b % 9223372036854775808 / 4503599627370496 - 1) := by
      unfold val mg ex
      rw [show (2 : Nat) ^ 52 = 4503599627370496 by decide, if_neg (by omega), if_neg (by omega), Nat.add_comm, show b % 9223372036854775808 % 4503599627370496 = b % 4503599627370496 by omega]
    rw [vb]
    generalize hE : b % 9223372036854775808 / 4503599627370496 = E at *
    have hE1 : 823 ≤ E := by omega
    have hE2 : E ≤ 1053 := by omega
    obtain ⟨e1, e2⟩ := rneD_err (N := (b % 4503599627370496 + 4503599627370496) * 10 ^ p) (Nat.two_pow_pos (1075 - E))
    generalize rneD ((b % 4503599627370496 + 4503599627370496) * 10 ^ p) (2 ^ (1075 - E)) = D at *
    generalize b % 4503599627370496 + 4503599627370496 = m at *
    have sp : 2 ^ c = 2 ^ (1075 - E) * 2 ^ (E - 1) := by rw [← Nat.pow_add]; congr 1; omega
    have g1 := Nat.mul_le_mul_right (2 ^ (E - 1)) e1
    have g2 := Nat.mul_le_mul_right (2 ^ (E - 1)) e2
    rw [Nat.add_mul, Nat.mul_assoc 2, Nat.mul_assoc 2, Nat.mul_assoc D, ← sp, Nat.mul_right_comm m] at g1 g2
    exact ⟨g1, g2⟩
/-- the bound, in whole numbers -/
theorem near_lin {A Vt Xt N DN Rt Yt : Nat} (b1 : Vt * 9007199254740992 ≤ DN * 9007199254740993) (b2 : DN * 9007199254740991 ≤ Vt * 9007199254740992) (a1 : 2 * Xt ≤ 2 * DN + N) (a2 : 2 * DN ≤ 2 * Xt + N)
    (hA : A ≤ (Vt - Xt) + (Xt - Vt)) (hy : Xt = 4503599627370496 * Yt) (hr : N * 1000001 ≤ 2000000 * Rt) : A ≤ Rt + Yt := by
  omega
end Go.Proofs.YtjnepljffpbioaaGreatDoor

namespace Go.Proofs.YtjnepljffpbioaaGreatDoor
open Go.ChangeShapes Go.WideShapes Go.ChangeAt Go.RowKit Ieee Ieee.Own

def unL : List Nat := [4607182418800017408, 4591870180066957722, 4576918229304087675, 4562254508917369340, 4547007122018943789, 4532020583610935537, 4517329193108106638, 4502148214488346442, 4487126258331716667, 4472406533629990550]
def unW (p : Nat) : Nat := unL.getD p 0
def haL : List Nat := [4602678828179846167, 4587366594851106034, 4572414641205932225, 4557750918513370881, 4542503537148968552, 4527516995789481249, 4512825602925469108, 4497644629972548692, 4482622670793604367, 4467902943674026611]
def haW (p : Nat) : Nat := haL.getD p 0
theorem un_all : ((List.range 9).all fun i => decide (Ieee.double.div (unW i) 4621819117588971520 = some (unW (i + 1)))) = true := by decide +kernel
theorem un_next {i : Nat} (h : i < 9) : Ieee.double.div (unW i) 4621819117588971520 = some (unW (i + 1)) := by
  have := List.all_eq_true.1 un_all i (List.mem_range.2 h)
  rwa [decide_eq_true_eq] at this
theorem ha_all : ((List.range 10).all fun i => decide (Ieee.double.mul (unW i) 4602678828179846167 = some (haW i))) = true := by decide +kernel
theorem ha_mul {i : Nat} (h : i ≤ 9) : Ieee.double.mul (unW i) 4602678828179846167 = some (haW i) := by
  have := List.all_eq_true.1 ha_all i (List.mem_range.2 (by omega))
  rwa [decide_eq_true_eq] at this
theorem hb_all : ((List.range 10).all fun p => decide (4467570830351532032 ≤ haW p) && (decide (haW p ≤ 4607182418800017408) && decide (2 ^ (1075 - haW p / 4503599627370496) * 1000001 ≤ 2000000 * ((4503599627370496 + haW p % 4503599627370496) * 10 ^ p)))) = true := by decide +kernel
theorem ha_big {p : Nat} (h : p ≤ 9) {c : Nat} (hc : c = 1074) : FinW (haW p) ∧ haW p < 9223372036854775808 ∧ 2 ^ c * 1000001 ≤ 2000000 * (val 52 (haW p) * 10 ^ p) := by
  have g := List.all_eq_true.1 hb_all p (List.mem_range.2 (by omega))
  simp only [Bool.and_eq_true, decide_eq_true_eq] at g
  obtain ⟨g1, g2, g3⟩ := g
  refine ⟨by unfold FinW; omega, by omega, ?_⟩
  unfold val mg ex
  rw [show (2 : Nat) ^ 52 = 4503599627370496 by decide, if_neg (by omega), if_neg (by omega)]
  generalize haW p = w at *
  generalize hE : w / 4503599627370496 = E at *
  have hE1 : 992 ≤ E := by omega
  have hE2 : E ≤ 1023 := by omega
  have sp : 2 ^ c = 2 ^ (1075 - E) * 2 ^ (E - 1) := by rw [← Nat.pow_add]; congr 1; omega
  have k := Nat.mul_le_mul_right (2 ^ (E - 1)) g3
  rw [sp, Nat.mul_right_comm (2 ^ (1075 - E)), Nat.mul_right_comm (4503599627370496 + w % 4503599627370496), ← Nat.mul_assoc 2000000]
  rw [← Nat.mul_assoc] at k
  refine Nat.le_trans k ?_
  rw [Nat.mul_assoc 2000000, Nat.mul_assoc 2000000]
  exact Nat.le_refl _
/-- a number by 2^52 -/
theorem quot52 {a : Nat} (ha : a < 9223372036854775808) (hf : a = 0 ∨ 3706462493325918208 ≤ a ∧ a ≤ 4742290407621132288) : ∃ r, Ieee.double.div a 4841369599423283200 = some r ∧ FinW r ∧ (V r).natAbs * 4503599627370496 = (V a).natAbs ∧ 0 ≤ V r := by
  rcases hf with z | ⟨f1, f2⟩
  · subst z
    exact ⟨0, by decide +kernel, by unfold FinW; decide, by decide +kernel, by decide +kernel⟩
  · have N1 := norm_of (b := a) (by unfold FinW; omega) (by omega)
    have N2 := norm_of (b := 4841369599423283200) (by unfold FinW; omega) (by decide)
    rw [decide_eq_false (by omega)] at N1 N2
    rw [show 4503599627370496 + 4841369599423283200 % 4503599627370496 = 4503599627370496 by decide, show 4841369599423283200 % 9223372036854775808 / 4503599627370496 - 1 = 1074 by decide] at N2
    have va := N1.val
    have mlo := N1.lo
    have mhi := N1.hi
    rw [show (2 : Nat) ^ 52 = 4503599627370496 by decide] at mlo
    rw [show (2 : Nat) ^ 53 = 9007199254740992 by decide] at mhi
    obtain ⟨c, hc⟩ : ∃ c, c = 1074 := ⟨_, rfl⟩
    rw [← hc] at N2
    obtain ⟨r, Q, u, d1, d2, d3, u1, u2, q1, q2, c1, c2⟩ := div_spec N1 N2 (by omega) (by omega)
    obtain ⟨m, hm⟩ : ∃ m, m = 4503599627370496 + a % 4503599627370496 := ⟨_, rfl⟩
    rw [← hm] at va c1 c2 mlo mhi
    obtain ⟨e, he⟩ : ∃ e, e = a % 9223372036854775808 / 4503599627370496 - 1 := ⟨_, rfl⟩
    rw [← he] at va d3
    have e1 : 822 ≤ e := by omega
    refine ⟨r, d1, d2, ?_, by rw [d3]; exact Int.natCast_nonneg _⟩
    rw [d3, va, sv_abs, sv_abs]
    have hu : u = 52 ∨ u = 53 := by omega
    rw [show 4503599627370496 = 2 ^ 52 by decide, Nat.mul_assoc, ← Nat.pow_add]
    rcases hu with rfl | rfl
    · rw [show (2 : Nat) ^ 52 = 4503599627370496 by decide] at c1 c2
      have : Q = m := by omega
      rw [this]
      congr 2; omega
    · rw [show (2 : Nat) ^ 53 = 9007199254740992 by decide] at c1 c2
      have : Q = m * 2 := by omega
      rw [this, Nat.mul_assoc, ← Nat.pow_succ']
      congr 2; omega
theorem mul_T {A R Y T : Nat} (hT : 0 < T) (h : A * T ≤ R * T + Y * T) : A ≤ R + Y := by
  rw [← Nat.add_mul] at h
  exact Nat.le_of_mul_le_mul_right h hT
theorem ab_neg (A B : Nat) : (-(A : Int) - -(B : Int)).natAbs ≤ ((-(A : Int)).natAbs - (-(B : Int)).natAbs) + ((-(B : Int)).natAbs - (-(A : Int)).natAbs) := by omega
theorem ab_pos (A B : Nat) : ((A : Int) - (B : Int)).natAbs ≤ ((A : Int).natAbs - (B : Int).natAbs) + ((B : Int).natAbs - (A : Int).natAbs) := by omega
/-- the value of a figure lies by its number: the law's own reckoning -/
theorem near_words {b p D v : Nat} {neg : Bool} (hb : b < 18446744073709551616) (hfig : figB b = true) (hp : p ≤ 9) (hD : scN b p = D) (g : GotF neg D p v) (hneg : neg = true ↔ 9223372036854775808 < b ∧ 0 < D) :
    ∃ r1 r3 r4, Ieee.double.sub v b = some r1 ∧ Ieee.double.div (b % 9223372036854775808) 4841369599423283200 = some r3 ∧ Ieee.double.add (haW p) r3 = some r4 ∧ r1 < 18446744073709551616 ∧
      (FloatKind.f64.format.order (r1 % 9223372036854775808) r4 == some Ordering.lt || FloatKind.f64.format.order (r1 % 9223372036854775808) r4 == some Ordering.eq) = true := by
  unfold figB at hfig
  rw [Bool.and_eq_true, decide_eq_true_eq] at hfig
  obtain ⟨hf, hm⟩ := hfig
  have hfd := hf
  unfold fitB at hfd
  rw [decide_eq_true_eq] at hfd
  have hfd2 : b % 9223372036854775808 = 0 ∨ 3706462493325918208 ≤ b % 9223372036854775808 ∧ b % 9223372036854775808 ≤ 4742290407621132288 := by
    rcases hfd with q | q
    · exact Or.inl q
    · exact Or.inr ⟨q.1, hm⟩
  obtain ⟨c, hc⟩ : ∃ c, c = 1074 := ⟨_, rfl⟩
  have fb := fit_fin hb hf
  obtain ⟨s1, s2⟩ := sc_far (p := p) fb hfd2 hc
  rw [hD] at s1 s2
  obtain ⟨h1, h2, h3⟩ := ha_big hp hc
  obtain ⟨r3, q1, q2, q3, q4⟩ := quot52 (a := b % 9223372036854775808) (by omega) hfd2
  have fa : FinW (b % 9223372036854775808) := by have := fb.2; unfold FinW; omega
  have va : (V (b % 9223372036854775808)).natAbs = (V b).natAbs := by
    rw [V_abs' _ fa, V_abs' _ fb, show b % 9223372036854775808 % 9223372036854775808 = b % 9223372036854775808 by omega]
  rw [va] at q3
  -- the value's word
  have gv : FinW v ∧ ((V v).natAbs * 10 ^ p * 9007199254740992 ≤ (D * 2 ^ c) * 9007199254740993 ∧ (D * 2 ^ c) * 9007199254740991 ≤ (V v).natAbs * 10 ^ p * 9007199254740992) ∧ (V v - V b).natAbs ≤ ((V v).natAbs - (V b).natAbs) + ((V b).natAbs - (V v).natAbs) ∧ v % 9223372036854775808 ≤ 4742290407621132288 := by
    rcases g with ⟨d0, rfl⟩ | ⟨d1, k, nk, x1, x2⟩
    · have v0 : V 0 = 0 := by decide +kernel
      refine ⟨by unfold FinW; decide, ?_, ?_, by decide⟩
      · rw [v0, d0]; simp
      · rw [v0]; omega
    · have kf := (nk.far hp).2
      have top : D ≤ 1073741824 * 10 ^ p := by
        rcases Nat.lt_or_ge (1073741824 * 10 ^ p) D with r | r
        · exfalso
          have vb : (V b).natAbs ≤ 1073741824 * 2 ^ c := by
            rw [V_abs' b fb]
            have w := val_lt_iff 52 4742290407621132288 (b % 9223372036854775808)
            obtain ⟨d, hd⟩ : ∃ d, d = 1052 := ⟨_, rfl⟩
            have e : val 52 4742290407621132288 = 1073741824 * 2 ^ c := by
              rw [show (4742290407621132288 : Nat) = d * 2 ^ 52 + 4503599627370496 by rw [hd], rung_val d 4503599627370496 (by decide) (fun _ => by decide), show (4503599627370496 : Nat) = 1073741824 * 2 ^ 22 by decide, Nat.mul_assoc, ← Nat.pow_add, show 22 + d = c by omega]
            rw [e] at w
            rcases Nat.lt_or_ge (1073741824 * 2 ^ c) (val 52 (b % 9223372036854775808)) with r2 | r2
            · have := w.1 r2; omega
            · exact r2
          have vb2 := Nat.mul_le_mul_right (10 ^ p) vb
          have r2 := Nat.mul_le_mul_right (2 ^ c) r
          rw [Nat.succ_mul] at r2
          rw [Nat.mul_right_comm] at vb2
          have pos := Nat.two_pow_pos c
          generalize 1073741824 * 10 ^ p * 2 ^ c = G at *
          generalize D * 2 ^ c = DN at *
          generalize (V b).natAbs * 10 ^ p = Xt at *
          generalize 2 ^ c = N at *
          clear h3
          omega
        · exact r
      obtain ⟨a1, a2⟩ := near_fit hp top nk
      have fv : FinW v := by unfold FinW; omega
      refine ⟨fv, near_val nk fv hc kf, ?_, a2⟩
      have sv : (9223372036854775808 ≤ v) ↔ neg = true := by
        cases neg with
        | true => rw [if_pos rfl] at x2; exact ⟨fun _ => rfl, fun _ => by omega⟩
        | false => rw [if_neg (by decide)] at x2; exact ⟨fun _ => by omega, fun h => by cases h⟩
      rw [hneg] at sv
      unfold V
      by_cases c1 : 9223372036854775808 < b
      · have c2 := sv.2 ⟨c1, by omega⟩
        rw [if_neg (by omega), if_neg (by omega)]; exact ab_neg _ _
      · by_cases c3 : b = 9223372036854775808
        · exfalso
          have : D = 0 := by
            rw [← hD, c3]; rfl
          exact d1 this
        · have c2 : v < 9223372036854775808 := by
            rcases Nat.lt_or_ge v 9223372036854775808 with r | r
            · exact r
            · exact absurd (sv.1 r).1 c1
          rw [if_pos c2, if_pos (by omega)]; exact ab_pos _ _
  obtain ⟨fv, ⟨b1, b2⟩, df, hv⟩ := gv
  -- all below a power
  obtain ⟨d, hd⟩ : ∃ d, d = 1053 := ⟨_, rfl⟩
  have lim : ∀ x, FinW x → x % 9223372036854775808 ≤ 4742290407621132288 → (V x).natAbs ≤ 2 ^ (52 + d) := fun x fx hx => by
    rw [V_abs' x fx]
    have w := val_lt_iff 52 4746794007248502784 (x % 9223372036854775808)
    have e : val 52 4746794007248502784 = 2 ^ (52 + d) := by
      rw [show (4746794007248502784 : Nat) = d * 2 ^ 52 + 4503599627370496 by rw [hd], rung_val d 4503599627370496 (by decide) (fun _ => by decide), show (4503599627370496 : Nat) = 2 ^ 52 by decide, ← Nat.pow_add]
    rw [e] at w
    rcases Nat.lt_or_ge (2 ^ (52 + d)) (val 52 (x % 9223372036854775808)) with r2 | r2
    · have := w.1 r2; omega
    · exact r2
  obtain ⟨r1, k1, k2, k3, _⟩ := subW fv fb (lim v fv hv) (lim b fb hm) (by omega)
  have yl : (V r3).natAbs ≤ 2 ^ (52 + d) := by
    have := lim b fb hm
    omega
  have hl : (V (haW p)).natAbs ≤ 2 ^ (52 + d) := by
    refine lim _ h1 ?_
    have g := List.all_eq_true.1 hb_all p (List.mem_range.2 (by omega))
    simp only [Bool.and_eq_true, decide_eq_true_eq] at g
    omega
  obtain ⟨r4, j1, j2, j3, _⟩ := addW h1 q2 hl yl (by omega)
  refine ⟨r1, r3, r4, k1, q1, j1, k2.1, ?_⟩
  -- in whole numbers
  have hv1 : V (haW p) = (val 52 (haW p) : Int) := if_pos h2
  have key : (V v - V b).natAbs ≤ val 52 (haW p) + (V r3).natAbs := by
    refine mul_T (ten_pos p) ?_
    refine near_lin (N := 2 ^ c) (DN := D * 2 ^ c) (Vt := (V v).natAbs * 10 ^ p) (Xt := (V b).natAbs * 10 ^ p) b1 b2 s1 s2 ?_ ?_ h3
    · have := Nat.mul_le_mul_right (10 ^ p) df
      rw [Nat.add_mul, Nat.sub_mul, Nat.sub_mul] at this
      exact this
    · rw [← q3, Nat.mul_right_comm, Nat.mul_comm]
  have rhs : ((val 52 (haW p) + (V r3).natAbs : Nat) : Int) = V (haW p) + V r3 := by rw [hv1]; omega
  have r4v : V r4 = (rn (val 52 (haW p) + (V r3).natAbs) : Int) := by
    rw [j3, ← rhs, RN_pos]
  have hpos : 1 ≤ val 52 (haW p) := by
    rcases Nat.eq_zero_or_pos (val 52 (haW p)) with r | r
    · rw [r, Nat.zero_mul, Nat.mul_zero] at h3
      have := Nat.two_pow_pos c
      omega
    · exact r
  have rpos : 1 ≤ rn (val 52 (haW p) + (V r3).natAbs) := by
    have := rn_mono (n := 1) (m := val 52 (haW p) + (V r3).natAbs) (by omega)
    rw [rn_small 1 (Nat.one_le_two_pow)] at this
    exact this
  have r4lt : r4 < 9223372036854775808 := by
    rcases Nat.lt_or_ge r4 9223372036854775808 with r | r
    · exact r
    · exfalso
      generalize rn (val 52 (haW p) + (V r3).natAbs) = Z at r4v rpos
      unfold V at r4v
      rw [if_neg (by omega)] at r4v
      omega
  have le : val 52 (r1 % 9223372036854775808) ≤ val 52 r4 := by
    rw [← V_abs' r1 k2, k3, RN_abs]
    have e4 : val 52 r4 = rn (val 52 (haW p) + (V r3).natAbs) := by
      have : V r4 = (val 52 r4 : Int) := if_pos r4lt
      omega
    rw [e4]
    exact rn_mono key
  have ord : r1 % 9223372036854775808 ≤ r4 := by
    rcases Nat.lt_or_ge r4 (r1 % 9223372036854775808) with r | r
    · exact absurd (val_lt (F := 52) r) (by omega)
    · exact r
  rw [o_leq _ _ (by omega) j2.1, decide_eq_true_eq]
  refine ⟨?_, ?_, ?_⟩
  · unfold nn; have := k2.2; omega
  · unfold nn; have := j2.2; omega
  · unfold key64; rw [if_pos (by omega), if_pos r4lt]; omega
end Go.Proofs.YtjnepljffpbioaaGreatDoor

namespace Go.Proofs.YtjnepljffpbioaaGreatDoor
open Go.ChangeShapes Go.WideShapes Go.ChangeAt Go.RowKit Ieee Ieee.Own

theorem wf64 {b : Nat} (h : (Lit.float .f64 b).wf = true) : b < 18446744073709551616 := by
  simp only [Lit.wf, decide_eq_true_eq] at h; exact h
theorem sc_top {b p : Nat} (hb : b < 18446744073709551616) (_hp : p ≤ 9) (h : figB b = true) : scN b p ≤ 1073741824 * 10 ^ p := by
  unfold figB at h
  rw [Bool.and_eq_true, decide_eq_true_eq] at h
  obtain ⟨hf, hm⟩ := h
  have hfd := hf
  unfold fitB at hfd
  rw [decide_eq_true_eq] at hfd
  obtain ⟨c, hc⟩ : ∃ c, c = 1074 := ⟨_, rfl⟩
  have fb := fit_fin hb hf
  obtain ⟨_, s2⟩ := sc_far (p := p) fb (by
    rcases hfd with q | q
    · exact Or.inl q
    · exact Or.inr ⟨q.1, hm⟩) hc
  have vb : (V b).natAbs ≤ 1073741824 * 2 ^ c := by
    rw [V_abs' b fb]
    have w := val_lt_iff 52 4742290407621132288 (b % 9223372036854775808)
    obtain ⟨d, hd⟩ : ∃ d, d = 1052 := ⟨_, rfl⟩
    have e : val 52 4742290407621132288 = 1073741824 * 2 ^ c := by
      rw [show (4742290407621132288 : Nat) = d * 2 ^ 52 + 4503599627370496 by rw [hd], rung_val d 4503599627370496 (by decide) (fun _ => by decide), show (4503599627370496 : Nat) = 1073741824 * 2 ^ 22 by decide, Nat.mul_assoc, ← Nat.pow_add, show 22 + d = c by omega]
    rw [e] at w
    rcases Nat.lt_or_ge (1073741824 * 2 ^ c) (val 52 (b % 9223372036854775808)) with r2 | r2
    · have := w.1 r2; omega
    · exact r2
  have vb2 := Nat.mul_le_mul_right (10 ^ p) vb
  rw [Nat.mul_right_comm] at vb2
  rcases Nat.lt_or_ge (1073741824 * 10 ^ p) (scN b p) with r | r
  · exfalso
    have r2 := Nat.mul_le_mul_right (2 ^ c) r
    rw [Nat.succ_mul] at r2
    have pos := Nat.two_pow_pos c
    generalize 1073741824 * 10 ^ p * 2 ^ c = G at *
    generalize scN b p * 2 ^ c = DN at *
    generalize (V b).natAbs * 10 ^ p = Xt at *
    generalize 2 ^ c = N at *
    omega
  · exact r
set_option maxRecDepth 100000 in
theorem fig_arg (b : Nat) (a : Int) (_hb : b < 18446744073709551616) (h : a < 0 ∨ 9 < a) (w : World) :
    Calls Tryz.prog 13 #[.float .f64 b, .int .i64 a] w fun e w' => e = .returned (.tuple #[.string ⟨#[]⟩, .int .i64 1]) ∧ Below w.heap.size w w' := by
  by_cases h1 : a < 0
  · have t : decide (a < 0) = true := decide_eq_true h1
    clear h h1
    go_enter Tryz.func13, Tryz.ntmps13
    go_wp2_with fail
    go_ret2
    exact ⟨rfl, Below.refl _ _⟩
  · have t : decide (a < 0) = false := decide_eq_false h1
    have t2 : decide (9 < a) = true := decide_eq_true (by omega)
    clear h h1
    go_enter Tryz.func13, Tryz.ntmps13
    go_wp2_with fail
    go_ret2
    exact ⟨rfl, Below.refl _ _⟩
set_option maxRecDepth 100000 in
theorem fig_fit (b p : Nat) (hb : b < 18446744073709551616) (hp : p ≤ 9) (h : figB b = false) (w : World) :
    Calls Tryz.prog 13 #[.float .f64 b, .int .i64 (p : Int)] w fun e w' => e = .returned (.tuple #[.string ⟨#[]⟩, .int .i64 3]) ∧ Below w.heap.size w w' := by
  have F := Lib.hid (fun u => fit_any b hb u)
  have FA := Lib.hid (fun u => abs_any b hb u)
  have g1 : decide ((p : Int) < 0) = false := decide_eq_false (by omega)
  have g2 : decide (9 < (p : Int)) = false := decide_eq_false (by omega)
  cases hf : fitB b with
  | false =>
    rw [hf] at F
    clear h hb hp
    go_enter Tryz.func13, Tryz.ntmps13
    go_wp2_with (first | (go_at_call 29; ((with_reducible refine (F.out _).mono ?_); rintro e w' ⟨rfl, rfl⟩)) | (go_at_call 18; ((with_reducible refine (FA.out _).mono ?_); rintro e w' ⟨rfl, rfl⟩)))
    go_ret2
    exact ⟨rfl, Below.refl _ _⟩
  | true =>
    rw [hf] at F
    have hfd := hf
    unfold fitB at hfd
    rw [decide_eq_true_eq] at hfd
    have hm : b % 9223372036854775808 < 9223372036854775808 := by omega
    have big : 4742290407621132288 < b % 9223372036854775808 := by
      unfold figB at h
      rw [hf, Bool.true_and, decide_eq_false_iff_not] at h
      omega
    have A := o_gtr (b % 9223372036854775808) 4742290407621132288 (by omega) (by omega)
    rw [key_low hm, key_low (by omega), decide_eq_true (by unfold nn; omega)] at A
    generalize b % 9223372036854775808 = m at *
    clear h hb hp hf hfd hm big
    go_enter Tryz.func13, Tryz.ntmps13
    go_wp2_with (first | (go_at_call 29; ((with_reducible refine (F.out _).mono ?_); rintro e w' ⟨rfl, rfl⟩)) | (go_at_call 18; ((with_reducible refine (FA.out _).mono ?_); rintro e w' ⟨rfl, rfl⟩)))
    go_ret2
    exact ⟨rfl, Below.refl _ _⟩
end Go.Proofs.YtjnepljffpbioaaGreatDoor
