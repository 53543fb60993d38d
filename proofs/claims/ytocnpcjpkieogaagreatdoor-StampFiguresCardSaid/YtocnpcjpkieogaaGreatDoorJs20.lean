/- Proved here: what the texts Yma, Ymb, Ymc, Ymd prove, one behind the other. -/
import Derived.Test.YtocnpcjpkieogaaGreatDoorJs15
import Derived.Test.YtocnpcjpkieogaaGreatDoorJs19
import Derived.Test.YtocnpcjpkieogaaGreatDoorJs5
import Derived.Test.YtocnpcjpkieogaaGreatDoorJs17

namespace Go.Proofs.YtocnpcjpkieogaaGreatDoor

/-- ahead of the first point, and behind it -/
def hdP (L : List Int) : List Int := L.takeWhile fun c => decide (c ≠ 46)
def tlP (L : List Int) : List Int := (L.dropWhile fun c => decide (c ≠ 46)).drop 1
def ptP (L : List Int) : Bool := decide (46 ∈ L)
def ngP (L : List Int) : Bool := decide (L.headD 0 = 45)
def rsP (L : List Int) : List Int := if ngP L = true then L.drop 1 else L
/-- digits alone, one to so many -/
def adL (l : List Int) (n : Nat) : Bool := decide (1 ≤ l.length ∧ l.length ≤ n) && digB l
def lzP (l : List Int) : Bool := decide (1 < l.length) && decide (l.getD 0 0 = 48)
/-- may a text be read? -/
def figT (L : List Int) : Bool := adL (hdP (rsP L)) 10 && (!lzP (hdP (rsP L)) && ((!ptP (rsP L) || adL (tlP (rsP L)) 9) && (!ngP L || !ngtL L)))
theorem hd_nil (L : List Int) (h : ptP L = false) : hdP L = L ∧ tlP L = [] := by
  unfold ptP at h
  rw [decide_eq_false_iff_not] at h
  unfold hdP tlP
  have k : ∀ c ∈ L, decide (c ≠ 46) = true := fun c hc => decide_eq_true fun e => h (e ▸ hc)
  clear h
  have := List.takeWhile_append_dropWhile (p := fun c => decide (c ≠ (46 : Int))) (l := L)
  have d : L.dropWhile (fun c => decide (c ≠ (46 : Int))) = [] := (dropw_nil _ _).2 k
  rw [d, List.append_nil] at this
  rw [d]
  exact ⟨this, rfl⟩
theorem hd_split (L : List Int) (h : ptP L = true) : L = hdP L ++ 46 :: tlP L := by
  unfold ptP at h
  rw [decide_eq_true_eq] at h
  unfold hdP tlP
  induction L with
  | nil => simp at h
  | cons a l ih =>
    by_cases q : a = 46
    · rw [List.takeWhile_cons_of_neg (by simpa using q), List.dropWhile_cons_of_neg (by simpa using q), q]; rfl
    · rw [List.takeWhile_cons_of_pos (by simpa using q), List.dropWhile_cons_of_pos (by simpa using q)]
      have : 46 ∈ l := by
        rcases List.mem_cons.1 h with e | e
        · exact absurd e.symm q
        · exact e
      rw [List.cons_append, ← ih this]
/-- the parts of a figure that may be read -/
structure FigP (L : List Int) (neg : Bool) (W : List Int) (pt : Bool) (P : List Int) : Prop where
  ng : ngP L = neg
  eqL : L = sgL neg ++ (W ++ (if pt = true then 46 :: P else []))
  dW : ∀ x ∈ W, 48 ≤ x ∧ x ≤ 57
  dP : ∀ x ∈ P, 48 ≤ x ∧ x ≤ 57
  w1 : 1 ≤ W.length
  w2 : W.length ≤ 10
  lz : 1 < W.length → W.getD 0 0 ≠ 48
  p1 : pt = true → 1 ≤ P.length
  p2 : P.length ≤ 9
  p0 : pt = false → P = []
  nz : neg = true → numI (W ++ P) 0 ≠ 0
theorem sg_rest (L : List Int) : L = sgL (ngP L) ++ rsP L := by
  unfold sgL rsP
  by_cases h : ngP L = true
  · rw [if_pos h, if_pos h]
    unfold ngP at h
    rw [decide_eq_true_eq] at h
    cases L with
    | nil => simp at h
    | cons a l => simp at h; rw [h]; rfl
  · rw [if_neg h, if_neg h]; rfl
theorem num_zero : ∀ (l : List Int), (∀ x ∈ l, 48 ≤ x ∧ x ≤ 57) → numI l 0 = 0 → ∀ x ∈ l, x = 48
  | [], _, _, _, hx => by cases hx
  | a :: l, h, h0, x, hx => by
    have ha := h a (by simp)
    have g : ∀ (m : List Int) (b : Nat), b ≤ numI m b := by
      intro m
      induction m with
      | nil => intro b; exact Nat.le_refl _
      | cons y m ih => intro b; have := ih (b * 10 + (y - 48).toNat); simp only [numI]; omega
    have := g l (0 * 10 + (a - 48).toNat)
    have e : numI l (0 * 10 + (a - 48).toNat) = 0 := h0
    have e2 : (a - 48).toNat = 0 := by omega
    rcases List.mem_cons.1 hx with r | r
    · omega
    · refine num_zero l (fun y hy => h y (by simp [hy])) ?_ x r
      rw [e2] at e; exact e
theorem zero_num : ∀ (l : List Int), (∀ x ∈ l, x = 48) → numI l 0 = 0
  | [], _ => rfl
  | a :: l, h => by
    have ha := h a (by simp)
    have := zero_num l fun y hy => h y (by simp [hy])
    subst ha
    exact this
theorem fig_parts {L : List Int} (h : figT L = true) : FigP L (ngP L) (hdP (rsP L)) (ptP (rsP L)) (tlP (rsP L)) := by
  unfold figT adL lzP at h
  simp only [Bool.and_eq_true, Bool.or_eq_true, Bool.not_eq_true', decide_eq_true_eq, Bool.and_eq_false_iff, decide_eq_false_iff_not] at h
  obtain ⟨⟨⟨a1, a2⟩, a3⟩, b, c, d⟩ := h
  have e := sg_rest L
  have hdp : ptP (rsP L) = false → tlP (rsP L) = [] := fun q => (hd_nil _ q).2
  have hP : ∀ x ∈ tlP (rsP L), 48 ≤ x ∧ x ≤ 57 := by
    rcases c with c | c
    · rw [hdp c]; intro x hx; cases hx
    · exact digB_iff.1 c.2
  refine ⟨rfl, ?_, digB_iff.1 a3, hP, a1, a2, fun q => ?_, fun q => ?_, ?_, hdp, fun q => ?_⟩
  · refine e.trans (congrArg (sgL (ngP L) ++ ·) ?_)
    by_cases q : ptP (rsP L) = true
    · rw [if_pos q]; exact hd_split _ q
    · rw [if_neg q, List.append_nil]; exact (hd_nil _ (by simpa using q)).1.symm
  · rcases b with b | b
    · exact absurd q b
    · exact b
  · rcases c with c | c
    · rw [c] at q; cases q
    · exact c.1.1
  · rcases c with c | c
    · rw [hdp c]; decide
    · exact c.1.2
  · intro z
    rcases d with d | d
    · rw [d] at q; cases q
    · rw [← Bool.not_eq_true] at d
      refine d ?_
      unfold ngtL
      rw [List.all_eq_true]
      intro x hx
      have z2 := num_zero _ (fun y hy => by
        rcases List.mem_append.1 hy with r | r
        · exact digB_iff.1 a3 y r
        · exact hP y r) z
      rw [e] at hx
      simp only [Bool.or_eq_true, decide_eq_true_eq]
      rcases List.mem_append.1 hx with r | r
      · exact .inl (.inl (sgL_ok _ x r))
      · by_cases q2 : ptP (rsP L) = true
        · rw [hd_split _ q2] at r
          rcases List.mem_append.1 r with s | s
          · exact .inl (.inr (z2 x (List.mem_append_left _ s)))
          · rcases List.mem_cons.1 s with s | s
            · exact .inr s
            · exact .inl (.inr (z2 x (List.mem_append_right _ s)))
        · have := (hd_nil _ (by simpa using q2 : ptP (rsP L) = false)).1
          rw [← this] at r
          exact .inl (.inr (z2 x (List.mem_append_left _ r)))
/-! ### reading byte by byte: the number, its digits behind noughts, the digits (behind the point), whether a point was there -/
def rdStep (s : Nat × Nat × Nat × Bool) (c : Int) : Nat × Nat × Nat × Bool :=
  if c = 46 then (s.1, s.2.1, 0, true) else (s.1 * 10 + (c - 48).toNat, (if s.2.1 = 0 ∧ c = 48 then 0 else s.2.1 + 1), s.2.2.1 + 1, s.2.2.2)
def rdS (l : List Int) : Nat × Nat × Nat × Bool := l.foldl rdStep (0, 0, 0, false)
theorem rdS_app (l : List Int) (c : Int) : rdS (l ++ [c]) = rdStep (rdS l) c := by
  unfold rdS; rw [List.foldl_append]; rfl
theorem rd_dig : ∀ (l : List Int), (∀ x ∈ l, 48 ≤ x ∧ x ≤ 57) → ∀ s : Nat × Nat × Nat × Bool, ∃ d, l.foldl rdStep s = (numI l s.1, d, s.2.2.1 + l.length, s.2.2.2) ∧ s.2.1 ≤ d ∧ d ≤ s.2.1 + l.length
  | [], _, s => ⟨s.2.1, rfl, Nat.le_refl _, Nat.le_refl _⟩
  | x :: l, h, s => by
    have hx := h x (by simp)
    obtain ⟨d, h1, h2, h3⟩ := rd_dig l (fun y hy => h y (by simp [hy])) (rdStep s x)
    have e : rdStep s x = (s.1 * 10 + (x - 48).toNat, (if s.2.1 = 0 ∧ x = 48 then 0 else s.2.1 + 1), s.2.2.1 + 1, s.2.2.2) := if_neg (by omega)
    refine ⟨d, ?_, ?_, ?_⟩
    · rw [List.foldl_cons, h1, e, List.length_cons]
      simp only [numI]
      rw [Nat.add_right_comm, Nat.add_assoc]
    · rw [e] at h2
      simp only at h2
      split at h2 <;> omega
    · rw [e] at h3
      simp only at h3
      rw [List.length_cons]
      split at h3 <;> omega
theorem rd_W {W : List Int} (h : ∀ x ∈ W, 48 ≤ x ∧ x ≤ 57) : ∃ d, rdS W = (numI W 0, d, W.length, false) ∧ d ≤ W.length := by
  obtain ⟨d, h1, _, h3⟩ := rd_dig W h (0, 0, 0, false)
  exact ⟨d, by unfold rdS; rw [h1]; simp, by simpa using h3⟩
theorem rd_WP {W P : List Int} (h : ∀ x ∈ W, 48 ≤ x ∧ x ≤ 57) (k : ∀ x ∈ P, 48 ≤ x ∧ x ≤ 57) : ∃ d, rdS (W ++ 46 :: P) = (numI (W ++ P) 0, d, P.length, true) ∧ d ≤ W.length + P.length := by
  obtain ⟨d, h1, h2⟩ := rd_W h
  obtain ⟨d', k1, _, k3⟩ := rd_dig P k (numI W 0, d, 0, true)
  refine ⟨d', ?_, ?_⟩
  · unfold rdS at h1 ⊢
    rw [List.foldl_append, h1, List.foldl_cons]
    have : rdStep (numI W 0, d, W.length, false) 46 = (numI W 0, d, 0, true) := rfl
    rw [this, k1, numI_app]
    simp
  · simp only at k3; omega
theorem rd_zero : ∀ (l : List Int) (s : Nat × Nat × Nat × Bool), (s.2.1 = 0 → s.1 = 0) → (l.foldl rdStep s).2.1 = 0 → (l.foldl rdStep s).1 = 0
  | [], _, h => h
  | c :: l, s, h => by
    refine rd_zero l (rdStep s c) ?_
    unfold rdStep
    split
    · exact h
    · intro k
      show s.1 * 10 + (c - 48).toNat = 0
      have k' : (if s.2.1 = 0 ∧ c = 48 then 0 else s.2.1 + 1) = 0 := k
      split at k'
      · rename_i q
        have := h q.1
        omega
      · omega
theorem rdS_zero (l : List Int) : (rdS l).2.1 = 0 → (rdS l).1 = 0 := rd_zero l _ (fun _ => rfl)
theorem rd_len : ∀ (l : List Int) (s : Nat × Nat × Nat × Bool), (l.foldl rdStep s).2.1 ≤ s.2.1 + l.length ∧ (l.foldl rdStep s).2.2.1 ≤ s.2.2.1 + l.length
  | [], _ => ⟨Nat.le_refl _, Nat.le_refl _⟩
  | c :: l, s => by
    obtain ⟨a, b⟩ := rd_len l (rdStep s c)
    have k1 : (rdStep s c).2.1 ≤ s.2.1 + 1 := by
      unfold rdStep
      split
      · exact Nat.le_succ _
      · show (if s.2.1 = 0 ∧ c = 48 then 0 else s.2.1 + 1) ≤ _
        split <;> omega
    have k2 : (rdStep s c).2.2.1 ≤ s.2.2.1 + 1 := by
      unfold rdStep
      split
      · exact Nat.zero_le _
      · exact Nat.le_refl _
    rw [List.foldl_cons, List.length_cons]
    omega
theorem rdS_len (l : List Int) : (rdS l).2.1 ≤ l.length ∧ (rdS l).2.2.1 ≤ l.length := by
  have := rd_len l (0, 0, 0, false)
  unfold rdS
  simpa using this
/-- what a byte meets -/
def RdOk (R : List Int) : Prop := ∀ i, i < R.length →
  (R.getD i 0 = 46 ∧ (rdS (R.take i)).2.2.2 = false ∨ 48 ≤ R.getD i 0 ∧ R.getD i 0 ≤ 57 ∧ (rdS (R.take i)).1 < 1000000000000000000 ∧ (rdS (R.take i)).2.1 ≤ 18) ∧ (rdS (R.take i)).2.2.1 ≤ 20 ∧ (rdS (R.take i)).2.1 ≤ 19
theorem num_lim {l : List Int} (h : ∀ x ∈ l, 48 ≤ x ∧ x ≤ 57) (hl : l.length ≤ 18) : numI l 0 < 1000000000000000000 := by
  have a := numI_lt l h 0
  have b : (10 : Nat) ^ l.length ≤ 10 ^ 18 := Nat.pow_le_pow_right (by decide) hl
  have c : (10 : Nat) ^ 18 = 1000000000000000000 := by decide
  omega
theorem rd_ok {W P : List Int} {pt : Bool} (hW : ∀ x ∈ W, 48 ≤ x ∧ x ≤ 57) (hP : ∀ x ∈ P, 48 ≤ x ∧ x ≤ 57) (w2 : W.length ≤ 10) (p2 : P.length ≤ 9) : RdOk (W ++ (if pt = true then 46 :: P else [])) := by
  intro i hi
  by_cases c : i < W.length
  · have e : (W ++ (if pt = true then 46 :: P else [])).take i = W.take i := List.take_append_of_le_length (by omega)
    have g : (W ++ (if pt = true then 46 :: P else [])).getD i 0 = W.getD i 0 := by
      simp [List.getD, List.getElem?_append_left c]
    have hT : ∀ x ∈ W.take i, 48 ≤ x ∧ x ≤ 57 := fun x hx => hW x (List.mem_of_mem_take hx)
    obtain ⟨d, h1, h2⟩ := rd_W hT
    have hl : (W.take i).length = i := by rw [List.length_take]; omega
    have m : W.getD i 0 ∈ W := by simp [List.getD, c]
    have := hW _ m
    have := num_lim hT (by omega)
    rw [e, g, h1]
    refine ⟨.inr ⟨by omega, by omega, by simpa using this, by simp only; omega⟩, by simp only; omega, by simp only; omega⟩
  · rw [List.length_append] at hi
    cases pt with
    | false => simp at hi; omega
    | true =>
      rw [if_pos rfl] at hi ⊢
      rw [List.length_cons] at hi
      by_cases c2 : i = W.length
      · subst c2
        obtain ⟨d, h1, h2⟩ := rd_W hW
        have e : (W ++ 46 :: P).take W.length = W := List.take_left
        rw [e, h1]
        refine ⟨.inl ⟨by simp [List.getD], rfl⟩, by simp only; omega, by simp only; omega⟩
      · obtain ⟨j, rfl⟩ : ∃ j, i = W.length + (j + 1) := ⟨i - W.length - 1, by omega⟩
        have hj : j < P.length := by omega
        have e : (W ++ 46 :: P).take (W.length + (j + 1)) = W ++ 46 :: P.take j := by
          rw [List.take_length_add_append]; rfl
        have g : (W ++ 46 :: P).getD (W.length + (j + 1)) 0 = P.getD j 0 := by
          simp only [List.getD]
          rw [List.getElem?_append_right (by omega), show W.length + (j + 1) - W.length = j + 1 by omega]
          rfl
        have hT : ∀ x ∈ P.take j, 48 ≤ x ∧ x ≤ 57 := fun x hx => hP x (List.mem_of_mem_take hx)
        obtain ⟨d, h1, h2⟩ := rd_WP hW hT
        have hl : (P.take j).length = j := by rw [List.length_take]; omega
        have m : P.getD j 0 ∈ P := by simp [List.getD, hj]
        have := hP _ m
        have := num_lim (l := W ++ P.take j) (fun x hx => by
          rcases List.mem_append.1 hx with r | r
          · exact hW x r
          · exact hT x r) (by rw [List.length_append]; omega)
        rw [e, g, h1]
        refine ⟨.inr ⟨by omega, by omega, by simpa using this, by simp only; omega⟩, by simp only; omega, by simp only; omega⟩
end Go.Proofs.YtocnpcjpkieogaaGreatDoor

namespace Go.Proofs.YtocnpcjpkieogaaGreatDoor
open Ieee.Own

theorem rneD_err {N d : Nat} (hd : 0 < d) : 2 * N ≤ 2 * (rneD N d * d) + d ∧ 2 * (rneD N d * d) ≤ 2 * N + d := by
  unfold rneD
  have h1 := Nat.div_add_mod N d
  have h2 := Nat.mod_lt N hd
  generalize N / d = q at *
  generalize N % d = r at *
  rw [Nat.mul_comm d q] at h1
  split
  · rw [Nat.add_mul, Nat.one_mul]; omega
  · rw [Nat.add_zero]; omega
theorem rneD_near {N q d : Nat} (hd : 0 < d) (h1 : 2 * N < 2 * (q * d) + d) (h2 : 2 * (q * d) < 2 * N + d) : rneD N d = q := by
  obtain ⟨a, b⟩ := rneD_err (N := N) hd
  have k1 : rneD N d * d < (q + 1) * d := by rw [Nat.add_mul, Nat.one_mul]; omega
  have k2 : q * d < (rneD N d + 1) * d := by rw [Nat.add_mul, Nat.one_mul]; omega
  have := Nat.lt_of_mul_lt_mul_right k1
  have := Nat.lt_of_mul_lt_mul_right k2
  omega
theorem rneD_range {N d a : Nat} (hd : 0 < d) (h1 : a * d ≤ N) (h2 : N < 2 * a * d) : a ≤ rneD N d ∧ rneD N d ≤ 2 * a := by
  obtain ⟨x, y⟩ := rneD_err (N := N) hd
  rw [Nat.mul_assoc] at h2
  constructor
  · have : a * d < (rneD N d + 1) * d := by rw [Nat.add_mul, Nat.one_mul]; omega
    have := Nat.lt_of_mul_lt_mul_right this
    omega
  · have : rneD N d * d < (2 * a + 1) * d := by rw [Nat.add_mul, Nat.one_mul, Nat.mul_assoc]; omega
    have := Nat.lt_of_mul_lt_mul_right this
    omega
/-- x: the word nearest to D / 10^p (k: how far D is shifted) -/
structure NearK (D p k x : Nat) : Prop where
  lo : 4503599627370496 * 10 ^ p ≤ D * 2 ^ k
  hi : D * 2 ^ k < 9007199254740992 * 10 ^ p
  eq : x % 9223372036854775808 = rneD (D * 2 ^ k) (10 ^ p) + (1074 - k) * 4503599627370496
theorem ten_pos (p : Nat) : 0 < 10 ^ p := Nat.pow_pos (by decide)
theorem NearK.range {D p k x : Nat} (h : NearK D p k x) : 4503599627370496 ≤ rneD (D * 2 ^ k) (10 ^ p) ∧ rneD (D * 2 ^ k) (10 ^ p) ≤ 9007199254740992 :=
  rneD_range (ten_pos p) h.lo h.hi
/-- how far: not too far -/
theorem NearK.far {D p k x : Nat} (h : NearK D p k x) (hp : p ≤ 9) : 1 ≤ D ∧ k ≤ 83 := by
  have h1 := h.lo
  have h2 := h.hi
  have t : 10 ^ p ≤ 10 ^ 9 := Nat.pow_le_pow_right (by decide) hp
  rw [show (10 : Nat) ^ 9 = 1000000000 by decide] at t
  have t0 := ten_pos p
  have hD : 1 ≤ D := by
    rcases Nat.eq_zero_or_pos D with r | r
    · rw [r, Nat.zero_mul] at h1; omega
    · exact r
  refine ⟨hD, ?_⟩
  have k1 : 2 ^ k ≤ D * 2 ^ k := Nat.le_mul_of_pos_left _ hD
  have k2 : 2 ^ k < 2 ^ 84 := by rw [show (2 : Nat) ^ 84 = 19342813113834066795298816 by decide]; omega
  have := (Nat.pow_lt_pow_iff_right (a := 2) (by decide)).1 k2
  omega
/-- the word is no greater than that of 2^30, and not small -/
theorem near_fit {D p k x : Nat} (hp : p ≤ 9) (hD : D ≤ 1073741824 * 10 ^ p) (h : NearK D p k x) : 4467570830351532032 ≤ x % 9223372036854775808 ∧ x % 9223372036854775808 ≤ 4742290407621132288 := by
  obtain ⟨r1, r2⟩ := h.range
  obtain ⟨f1, f2⟩ := h.far hp
  have e := h.eq
  obtain ⟨x1, x2⟩ := rneD_err (N := D * 2 ^ k) (ten_pos p)
  have lo := h.lo
  have hi := h.hi
  have t0 := ten_pos p
  have up : D * 2 ^ k ≤ 1073741824 * 10 ^ p * 2 ^ k := Nat.mul_le_mul_right _ hD
  generalize hM : rneD (D * 2 ^ k) (10 ^ p) = M at *
  have k1 : 22 ≤ k := by
    rcases Nat.lt_or_ge k 22 with r | r
    · exfalso
      have : 2 ^ k ≤ 2 ^ 21 := Nat.pow_le_pow_right (by decide) (by omega)
      have : 1073741824 * 10 ^ p * 2 ^ k ≤ 1073741824 * 10 ^ p * 2 ^ 21 := Nat.mul_le_mul_left _ this
      rw [show (2 : Nat) ^ 21 = 2097152 by decide] at this
      omega
    · exact r
  by_cases c : k = 22
  · subst c
    rw [show (2 : Nat) ^ 22 = 4194304 by decide] at *
    have : M * 10 ^ p < (4503599627370496 + 1) * 10 ^ p := by rw [Nat.add_mul, Nat.one_mul]; omega
    have := Nat.lt_of_mul_lt_mul_right this
    omega
  · omega
end Go.Proofs.YtocnpcjpkieogaaGreatDoor

namespace Go.Proofs.YtocnpcjpkieogaaGreatDoor
open Ieee.Own

theorem numI_from : ∀ (l : List Int) (a : Nat), numI l a = a * 10 ^ l.length + numI l 0
  | [], a => by simp [numI]
  | x :: l, a => by
    have h1 := numI_from l (a * 10 + (x - 48).toNat)
    have h2 := numI_from l (0 * 10 + (x - 48).toNat)
    simp only [numI, List.length_cons]
    rw [h1, h2, Nat.zero_mul, Nat.zero_add, Nat.pow_succ, Nat.add_mul, Nat.add_assoc, Nat.mul_assoc, Nat.mul_comm 10]
/-- a figure's number: all its digits -/
def figD (W P : List Int) : Nat := numI (W ++ P) 0
theorem figD_is {W P : List Int} : figD W P = numI W 0 * 10 ^ P.length + numI P 0 := by
  unfold figD; rw [numI_app]; exact numI_from _ _
/-- is a figure above 2^30? -/
def abvT (W P : List Int) : Bool := decide (1073741824 < numI W 0) || (decide (numI W 0 = 1073741824) && !ngtL P)
theorem ngt_num {P : List Int} (h : ∀ x ∈ P, 48 ≤ x ∧ x ≤ 57) : ngtL P = decide (numI P 0 = 0) := by
  rw [Bool.eq_iff_iff, decide_eq_true_eq]
  unfold ngtL
  rw [List.all_eq_true]
  constructor
  · intro k
    refine zero_num P fun x hx => ?_
    have a := k x hx
    have b := h x hx
    simp only [Bool.or_eq_true, decide_eq_true_eq] at a
    omega
  · intro k x hx
    have := num_zero P h k x hx
    simp [this]
end Go.Proofs.YtocnpcjpkieogaaGreatDoor

namespace Go.Proofs.YtocnpcjpkieogaaGreatDoor
open Go.ChangeShapes Go.WideShapes Go.ChangeAt Go.RowKit Ieee.Own

end Go.Proofs.YtocnpcjpkieogaaGreatDoor
