/- Proved here: what the texts Yma, Ymb, Ymc, Ymd prove, one behind the other. -/
import Derived.Test.YtjnepljffpbioaaGreatDoorJs15
import Derived.Test.YtjnepljffpbioaaGreatDoorJs19
import Derived.Test.YtjnepljffpbioaaGreatDoorJs5
import Derived.Test.YtjnepljffpbioaaGreatDoorJs17

namespace Go.Proofs.YtjnepljffpbioaaGreatDoor

/-- ahead of the first point, and behind it -/
def hdP (L : List Int) : List Int := L.takeWhile fun c => decide (c ≠ 46)
def tlP (L : List Int) : List Int := (L.dropWhile fun c => decide (c ≠ 46)).drop 1
def ptP (L : List Int) : Bool := decide (46 ∈ L)
def ngP (L : List Int) : Bool := decide (L.headD 0 = 45)
def rsP (L : List Int) : List Int := if ngP L = true then L.drop 1 else L
/-- digits alone, one to so many -/
def adL (l : List Int) (n : Nat) : Bool := decide (1 ≤ l.length ∧ l.length ≤ n) && digB l
def lzP (l : List Int) : Bool := decide (1 < l.length) && decide (l.getD 0 0 = 48)
/-- may a text be read? -/
def figT (L : List Int) : Bool := adL (hdP (rsP L)) 10 && (!lzP (hdP (rsP L)) && ((!ptP (rsP L) || adL (tlP (rsP L)) 9) && (!ngP L || !ngtL L)))
theorem hd_nil (L : List Int) (h : ptP L = false) : hdP L = L ∧ tlP L = [] := by
  unfold ptP at h
  rw [decide_eq_false_iff_not] at h
  unfold hdP tlP
  have k : ∀ c ∈ L, decide (c ≠ 46) = true := fun c hc => decide_eq_true fun e => h (e ▸ hc)
  clear h
  have := List.takeWhile_append_dropWhile (p := fun c => decide (c ≠ (46 : Int))) (l := L)
  have d : L.dropWhile (fun c => decide (c ≠ (46 : Int))) = [] := (dropw_nil _ _).2 k
  rw [d, List.append_nil] at this
  rw [d]
  exact ⟨this, rfl⟩
theorem hd_split (L : List Int) (h : ptP L = true) : L = hdP L ++ 46 :: tlP L := by
  unfold ptP at h
  rw [decide_eq_true_eq] at h
  unfold hdP tlP
  induction L with
  | nil => simp at h
  | cons a l ih =>
    by_cases q : a = 46
    · rw [List.takeWhile_cons_of_neg (by simpa using q), List.dropWhile_cons_of_neg (by simpa using q), q]; rfl
    · rw [List.takeWhile_cons_of_pos (by simpa using q), List.dropWhile_cons_of_pos (by simpa using q)]
      have : 46 ∈ l := by
        rcases List.mem_cons.1 h with e | e
        · exact absurd e.symm q
        · exact e
      rw [List.cons_append, ← ih this]
/-- the parts of a figure that may be read -/
structure FigP (L : List Int) (neg : Bool) (W : List Int) (pt : Bool) (P : List Int) : Prop where
  ng : ngP L = neg
  eqL : L = sgL neg ++ (W ++ (if pt = true then 46 :: P else []))
  dW : ∀ x ∈ W, 48 ≤ x ∧ x ≤ 57
  dP : ∀ x ∈ P, 48 ≤ x ∧ x ≤ 57
  w1 : 1 ≤ W.length
  w2 : W.length ≤ 10
  lz : 1 < W.length → W.getD 0 0 ≠ 48
  p1 : pt = true → 1 ≤ P.length
  p2 : P.length ≤ 9
  p0 : pt = false → P = []
  nz : neg = true → numI (W ++ P) 0 ≠ 0
theorem sg_rest (L : List Int) : L = sgL (ngP L) ++ rsP L := by
  unfold sgL rsP
  by_cases h : ngP L = true
  · rw [if_pos h, if_pos h]
    unfold ngP at h
    rw [decide_eq_true_eq] at h
    cases L with
    | nil => simp at h
    | cons a l => simp at h; rw [h]; rfl
  · rw [if_neg h, if_neg h]; rfl
theorem num_zero : ∀ (l : List Int), (∀ x ∈ l, 48 ≤ x ∧ x ≤ 57) → numI l 0 = 0 → ∀ x ∈ l, x = 48
  | [], _, _, _, hx => by cases hx
  | a :: l, h, h0, x, hx => by
    have ha := h a (by simp)
    have g : ∀ (m : List Int) (b : Nat), b ≤ numI m b := by
      intro m
      induction m with
      | nil => intro b; exact Nat.le_refl _
      | cons y m ih => intro b; have := ih (b * 10 + (y - 48).toNat); simp only [numI]; omega
    have := g l (0 * 10 + (a - 48).toNat)
    have e : numI l (0 * 10 + (a - 48).toNat) = 0 := h0
    have e2 : (a - 48).toNat = 0 := by omega
    rcases List.mem_cons.1 hx with r | r
    · omega
    · refine num_zero l (fun y hy => h y (by simp [hy])) ?_ x r
      rw [e2] at e; exact e
theorem zero_num : ∀ (l : List Int), (∀ x ∈ l, x = 48) → numI l 0 = 0
  | [], _ => rfl
  | a :: l, h => by
    have ha := h a (by simp)
    have := zero_num l fun y hy => h y (by simp [hy])
    subst ha
    exact this
theorem fig_parts {L : List Int} (h : figT L = true) : FigP L (ngP L) (hdP (rsP L)) (ptP (rsP L)) (tlP (rsP L)) := by
  unfold figT adL lzP at h
  simp only [Bool.and_eq_true, Bool.or_eq_true, Bool.not_eq_true', decide_eq_true_eq, Bool.and_eq_false_iff, decide_eq_false_iff_not] at h
  obtain ⟨⟨⟨a1, a2⟩, a3⟩, b, c, d⟩ := h
  have e := sg_rest L
  have hdp : ptP (rsP L) = false → tlP (rsP L) = [] := fun q => (hd_nil _ q).2
  have hP : ∀ x ∈ tlP (rsP L), 48 ≤ x ∧ x ≤ 57 := by
    rcases c with c | c
    · rw [hdp c]; intro x hx; cases hx
    · exact digB_iff.1 c.2
  refine ⟨rfl, ?_, digB_iff.1 a3, hP, a1, a2, fun q => ?_, fun q => ?_, ?_, hdp, fun q => ?_⟩
  · refine e.trans (congrArg (sgL (ngP L) ++ ·) ?_)
    by_cases q : ptP (rsP L) = true
    · rw [if_pos q]; exact hd_split _ q
    · rw [if_neg q, List.append_nil]; exact (hd_nil _ (by simpa using q)).1.symm
  · rcases b with b | b
    · exact absurd q b
    · exact b
  · rcases c with c | c
    · rw [c] at q; cases q
    · exact c.1.1
  · rcases c with c | c
    · rw [hdp c]; decide
    · exact c.1.2
  · intro z
    rcases d with d | d
    · rw [d] at q; cases q
    · rw [← Bool.not_eq_true] at d
      refine d ?_
      unfold ngtL
      rw [List.all_eq_true]
      intro x hx
      have z2 := num_zero _ (fun y hy => by
        rcases List.mem_append.1 hy with r | r
        · exact digB_iff.1 a3 y r
        · exact hP y r) z
      rw [e] at hx
      simp only [Bool.or_eq_true, decide_eq_true_eq]
      rcases List.mem_append.1 hx with r | r
      · exact .inl (.inl (sgL_ok _ x r))
      · by_cases q2 : ptP (rsP L) = true
        · rw [hd_split _ q2] at r
          rcases List.mem_append.1 r with s | s
          · exact .inl (.inr (z2 x (List.mem_append_left _ s)))
          · rcases List.mem_cons.1 s with s | s
            · exact .inr s
            · exact .inl (.inr (z2 x (List.mem_append_right _ s)))
        · have := (hd_nil _ (by simpa using q2 : ptP (rsP L) = false)).1
          rw [← this] at r
          exact .inl (.inr (z2 x (List.mem_append_left _ r)))
/-! ### reading byte by byte: the number, its digits behind noughts, the digits (behind the point), whether a point was there -/
def rdStep (s : Nat × Nat × Nat × Bool) (c : Int) : Nat × Nat × Nat × Bool :=
  if c = 46 then (s.1, s.2.1, 0, true) else (s.1 * 10 + (c - 48).toNat, (if s.2.1 = 0 ∧ c = 48 then 0 else s.2.1 + 1), s.2.2.1 + 1, s.2.2.2)
def rdS (l : List Int) : Nat × Nat × Nat × Bool := l.foldl rdStep (0, 0, 0, false)
theorem rdS_app (l : List Int) (c : Int) : rdS (l ++ [c]) = rdStep (rdS l) c := by
  unfold rdS; rw [List.foldl_append]; rfl
theorem rd_dig : ∀ (l : List Int), (∀ x ∈ l, 48 ≤ x ∧ x ≤ 57) → ∀ s : Nat × Nat × Nat × Bool, ∃ d, l.foldl rdStep s = (numI l s.1, d, s.2.2.1 + l.length, s.2.2.2) ∧ s.2.1 ≤ d ∧ d ≤ s.2.1 + l.length
  | [], _, s => ⟨s.2.1, rfl, Nat.le_refl _, Nat.le_refl _⟩
  | x :: l, h, s => by
    have hx := h x (by simp)
    obtain ⟨d, h1, h2, h3⟩ := rd_dig l (fun y hy => h y (by simp [hy])) (rdStep s x)
    have e : rdStep s x = (s.1 * 10 + (x - 48).toNat, (if s.2.1 = 0 ∧ x = 48 then 0 else s.2.1 + 1), s.2.2.1 + 1, s.2.2.2) := if_neg (by omega)
    refine ⟨d, ?_, ?_, ?_⟩
    · rw [List.foldl_cons, h1, e, List.length_cons]
      simp only [numI]
      rw [Nat.add_right_comm, Nat.add_assoc]
    · rw [e] at h2
      simp only at h2
      split at h2 <;> omega
    · rw [e] at h3
      simp only at h3
      rw [List.length_cons]
      split at h3 <;> omega
theorem rd_W {W : List Int} (h : ∀ x ∈ W, 48 ≤ x ∧ x ≤ 57) : ∃ d, rdS W = (numI W 0, d, W.length, false) ∧ d ≤ W.length := by
  obtain ⟨d, h1, _, h3⟩ := rd_dig W h (0, 0, 0, false)
  exact ⟨d, by unfold rdS; rw [h1]; simp, by simpa using h3⟩
theorem rd_WP {W P : List Int} (h : ∀ x ∈ W, 48 ≤ x ∧ x ≤ 57) (k : ∀ x ∈ P, 48 ≤ x ∧ x ≤ 57) : ∃ d, rdS (W ++ 46 :: P) = (numI (W ++ P) 0, d, P.length, true) ∧ d ≤ W.length + P.length := by
  obtain ⟨d, h1, h2⟩ := rd_W h
  obtain ⟨d', k1, _, k3⟩ := rd_dig P k (numI W 0, d, 0, true)
  refine ⟨d', ?_, ?_⟩
  · unfold rdS at h1 ⊢
    rw [List.foldl_append, h1, List.foldl_cons]
    have : rdStep (numI W 0, d, W.length, false) 46 = (numI W 0, d, 0, true) := rfl
    rw [this, k1, numI_app]
    simp
  · simp only at k3; omega
theorem rd_zero : ∀ (l : List Int) (s : Nat × Nat × Nat × Bool), (s.2.1 = 0 → s.1 = 0) → (l.foldl rdStep s).2.1 = 0 → (l.foldl rdStep s).1 = 0
  | [], _, h => h
  | c :: l, s, h => by
    refine rd_zero l (rdStep s c) ?_
    unfold rdStep
    split
    · exact h
    · intro k
      show s.1 * 10 + (c - 48).toNat = 0
      have k' : (if s.2.1 = 0 ∧ c = 48 then 0 else s.2.1 + 1) = 0 := k
      split at k'
      · rename_i q
        have := h q.1
        omega
      · omega
theorem rdS_zero (l : List Int) : (rdS l).2.1 = 0 → (rdS l).1 = 0 := rd_zero l _ (fun _ => rfl)
theorem rd_len : ∀ (l : List Int) (s : Nat × Nat × Nat × Bool), (l.foldl rdStep s).2.1 ≤ s.2.1 + l.length ∧ (l.foldl rdStep s).2.2.1 ≤ s.2.2.1 + l.length
  | [], _ => ⟨Nat.le_refl _, Nat.le_refl _⟩
  | c :: l, s => by
    obtain ⟨a, b⟩ := rd_len l (rdStep s c)
    have k1 : (rdStep s c).2.1 ≤ s.2.1 + 1 := by
      unfold rdStep
      split
      · exact Nat.le_succ _
      · show (if s.2.1 = 0 ∧ c = 48 then 0 else s.2.1 + 1) ≤ _
        split <;> omega
    have k2 : (rdStep s c).2.2.1 ≤ s.2.2.1 + 1 := by
      unfold rdStep
      split
      · exact Nat.zero_le _
      · exact Nat.le_refl _
    rw [List.foldl_cons, List.length_cons]
    omega
theorem rdS_len (l : List Int) : (rdS l).2.1 ≤ l.length ∧ (rdS l).2.2.1 ≤ l.length := by
  have := rd_len l (0, 0, 0, false)
  unfold rdS
  simpa using this
/-- what a byte meets -/
def RdOk (R : List Int) : Prop := ∀ i, i < R.length →
  (R.getD i 0 = 46 ∧ (rdS (R.take i)).2.2.2 = false ∨ 48 ≤ R.getD i 0 ∧ R.getD i 0 ≤ 57 ∧ (rdS (R.take i)).1 < 1000000000000000000 ∧ (rdS (R.take i)).2.1 ≤ 18) ∧ (rdS (R.take i)).2.2.1 ≤ 20 ∧ (rdS (R.take i)).2.1 ≤ 19
theorem num_lim {l : List Int} (h : ∀ x ∈ l, 48 ≤ x ∧ x ≤ 57) (hl : l.length ≤ 18) : numI l 0 < 1000000000000000000 := by
  have a := numI_lt l h 0
  have b : (10 : Nat) ^ l.length ≤ 10 ^ 18 := Nat.pow_le_pow_right (by decide) hl
  have c : (10 : Nat) ^ 18 = 1000000000000000000 := by decide
  omega
theorem rd_ok {W P : List Int} {pt : Bool} (hW : ∀ x ∈ W, 48 ≤ x ∧ x ≤ 57) (hP : ∀ x ∈ P, 48 ≤ x ∧ x ≤ 57) (w2 : W.length ≤ 10) (p2 : P.length ≤ 9) : RdOk (W ++ (if pt = true then 46 :: P else [])) := by
  intro i hi
  by_cases c : i < W.length
  · have e : (W ++ (if pt = true then 46 :: P else [])).take i = W.take i := List.take_append_of_le_length (by omega)
    have g : (W ++ (if pt = true then 46 :: P else [])).getD i 0 = W.getD i 0 := by
      simp [List.getD, List.getElem?_append_left c]
    have hT : ∀ x ∈ W.take i, 48 ≤ x ∧ x ≤ 57 := fun x hx => hW x (List.mem_of_mem_take hx)
    obtain ⟨d, h1, h2⟩ := rd_W hT
    have hl : (W.take i).length = i := by rw [List.length_take]; omega
    have m : W.getD i 0 ∈ W := by simp [List.getD, c]
    have := hW _ m
    have := num_lim hT (by omega)
    rw [e, g, h1]
    refine ⟨.inr ⟨by omega, by omega, by simpa using this, by simp only; omega⟩, by simp only; omega, by simp only; omega⟩
  · rw [List.length_append] at hi
    cases pt with
    | false => simp at hi; omega
    | true =>
      rw [if_pos rfl] at hi ⊢
      rw [List.length_cons] at hi
      by_cases c2 : i = W.length
      · subst c2
        obtain ⟨d, h1, h2⟩ := rd_W hW
        have e : (W ++ 46 :: P).take W.length = W := List.take_left
        rw [e, h1]
        refine ⟨.inl ⟨by simp [List.getD], rfl⟩, by simp only; omega, by simp only; omega⟩
      · obtain ⟨j, rfl⟩ : ∃ j, i = W.length + (j + 1) := ⟨i - W.length - 1, by omega⟩
        have hj : j < P.length := by omega
        have e : (W ++ 46 :: P).take (W.length + (j + 1)) = W ++ 46 :: P.take j := by
          rw [List.take_length_add_append]; rfl
        have g : (W ++ 46 :: P).getD (W.length + (j + 1)) 0 = P.getD j 0 := by
          simp only [List.getD]
          rw [List.getElem?_append_right (by omega), show W.length + (j + 1) - W.length = j + 1 by omega]
          rfl
        have hT : ∀ x ∈ P.take j, 48 ≤ x ∧ x ≤ 57 := fun x hx => hP x (List.mem_of_mem_take hx)
        obtain ⟨d, h1, h2⟩ := rd_WP hW hT
        have hl : (P.take j).length = j := by rw [List.length_take]; omega
        have m : P.getD j 0 ∈ P := by simp [List.getD, hj]
        have := hP _ m
        have := num_lim (l := W ++ P.take j) (fun x hx => by
          rcases List.mem_append.1 hx with r | r
          · exact hW x r
          · exact hT x r) (by rw [List.length_append]; omega)
        rw [e, g, h1]
        refine ⟨.inr ⟨by omega, by omega, by simpa using this, by simp only; omega⟩, by simp only; omega, by simp only; omega⟩
end Go.Proofs.YtjnepljffpbioaaGreatDoor

namespace Go.Proofs.YtjnepljffpbioaaGreatDoor
open Ieee.Own

theorem rneD_err {N d : Nat} (hd : 0 < d) : 2 * N ≤ 2 * (rneD N d * d) + d ∧ 2 * (rneD N d * d) ≤ 2 * N + d := by
  unfold rneD
  have h1 := Nat.div_add_mod N d
  have h2 := Nat.mod_lt N hd
  generalize N / d = q at *
  generalize N % d = r at *
  rw [Nat.mul_comm d q] at h1
  split
  · rw [Nat.add_mul, Nat.one_mul]; omega
  · rw [Nat.add_zero]; omega
theorem rneD_near {N q d : Nat} (hd : 0 < d) (h1 : 2 * N < 2 * (q * d) + d) (h2 : 2 * (q * d) < 2 * N + d) : rneD N d = q := by
  obtain ⟨a, b⟩ := rneD_err (N := N) hd
  have k1 : rneD N d * d < (q + 1) * d := by rw [Nat.add_mul, Nat.one_mul]; omega
  have k2 : q * d < (rneD N d + 1) * d := by rw [Nat.add_mul, Nat.one_mul]; omega
  have := Nat.lt_of_mul_lt_mul_right k1
  have := Nat.lt_of_mul_lt_mul_right k2
  omega
theorem rneD_range {N d a : Nat} (hd : 0 < d) (h1 : a * d ≤ N) (h2 : N < 2 * a * d) : a ≤ rneD N d ∧ rneD N d ≤ 2 * a := by
  obtain ⟨x, y⟩ := rneD_err (N := N) hd
  rw [Nat.mul_assoc] at h2
  constructor
  · have : a * d < (rneD N d + 1) * d := by rw [Nat.add_mul, Nat.one_mul]; omega
    have := Nat.lt_of_mul_lt_mul_right this
    omega
  · have : rneD N d * d < (2 * a + 1) * d := by rw [Nat.add_mul, Nat.one_mul, Nat.mul_assoc]; omega
    have := Nat.lt_of_mul_lt_mul_right this
    omega
/-- x: the word nearest to D / 10^p (k: how far D is shifted) -/
structure NearK (D p k x : Nat) : Prop where
  lo : 4503599627370496 * 10 ^ p ≤ D * 2 ^ k
  hi : D * 2 ^ k < 9007199254740992 * 10 ^ p
  eq : x % 9223372036854775808 = rneD (D * 2 ^ k) (10 ^ p) + (1074 - k) * 4503599627370496
theorem ten_pos (p : Nat) : 0 < 10 ^ p := Nat.pow_pos (by decide)
theorem NearK.range {D p k x : Nat} (h : NearK D p k x) : 4503599627370496 ≤ rneD (D * 2 ^ k) (10 ^ p) ∧ rneD (D * 2 ^ k) (10 ^ p) ≤ 9007199254740992 :=
  rneD_range (ten_pos p) h.lo h.hi
/-- how far: not too far -/
theorem NearK.far {D p k x : Nat} (h : NearK D p k x) (hp : p ≤ 9) : 1 ≤ D ∧ k ≤ 83 := by
  have h1 := h.lo
  have h2 := h.hi
  have t : 10 ^ p ≤ 10 ^ 9 := Nat.pow_le_pow_right (by decide) hp
  rw [show (10 : Nat) ^ 9 = 1000000000 by decide] at t
  have t0 := ten_pos p
  have hD : 1 ≤ D := by
    rcases Nat.eq_zero_or_pos D with r | r
    · rw [r, Nat.zero_mul] at h1; omega
    · exact r
  refine ⟨hD, ?_⟩
  have k1 : 2 ^ k ≤ D * 2 ^ k := Nat.le_mul_of_pos_left _ hD
  have k2 : 2 ^ k < 2 ^ 84 := by rw [show (2 : Nat) ^ 84 = 19342813113834066795298816 by decide]; omega
  have := (Nat.pow_lt_pow_iff_right (a := 2) (by decide)).1 k2
  omega
theorem sc_near {D p k x : Nat} (hp : p ≤ 9) (hD : D < 4503599627370496) (h : NearK D p k x) : scN x p = D := by
  obtain ⟨r1, r2⟩ := h.range
  obtain ⟨f1, f2⟩ := h.far hp
  have e := h.eq
  obtain ⟨x1, x2⟩ := rneD_err (N := D * 2 ^ k) (ten_pos p)
  have lo := h.lo
  generalize hM : rneD (D * 2 ^ k) (10 ^ p) = M at *
  have hk1 : 1 ≤ k := by
    rcases Nat.eq_zero_or_pos k with r | r
    · rw [r, Nat.pow_zero, Nat.mul_one] at lo
      have := ten_pos p
      omega
    · exact r
  have key : rneD (M * 10 ^ p) (2 ^ k) = D := by
    have lim : D * 2 ^ k < 4503599627370496 * 2 ^ k := Nat.mul_lt_mul_of_pos_right hD (Nat.two_pow_pos k)
    refine rneD_near (Nat.two_pow_pos k) ?_ ?_ <;> omega
  unfold scN tenN
  rw [if_neg (by omega)]
  have e52 : x % 4503599627370496 = x % 9223372036854775808 % 4503599627370496 := by omega
  rw [e52, e]
  by_cases c : M < 9007199254740992
  · rw [show (M + (1074 - k) * 4503599627370496) % 4503599627370496 = M - 4503599627370496 by omega, show (M + (1074 - k) * 4503599627370496) / 4503599627370496 = 1075 - k by omega, show M - 4503599627370496 + 4503599627370496 = M by omega, show 1075 - (1075 - k) = k by omega]
    exact (rneD_pow _ _).symm.trans key
  · obtain rfl : M = 9007199254740992 := by omega
    rw [show (9007199254740992 + (1074 - k) * 4503599627370496) % 4503599627370496 = 0 by omega, show (9007199254740992 + (1074 - k) * 4503599627370496) / 4503599627370496 = 1076 - k by omega, show 1075 - (1076 - k) = k - 1 by omega]
    refine (rneD_pow _ _).symm.trans ?_
    have s := rneD_scale (N := (0 + 4503599627370496) * 10 ^ p) (D := 2 ^ (k - 1)) (c := 2) (by decide)
    rw [← s, ← Nat.pow_succ, show (k - 1).succ = k by omega, ← key]
    congr 1
    rw [Nat.mul_comm _ 2, ← Nat.mul_assoc]
/-- the word is no greater than that of 2^30, and not small -/
theorem near_fit {D p k x : Nat} (hp : p ≤ 9) (hD : D ≤ 1073741824 * 10 ^ p) (h : NearK D p k x) : 4467570830351532032 ≤ x % 9223372036854775808 ∧ x % 9223372036854775808 ≤ 4742290407621132288 := by
  obtain ⟨r1, r2⟩ := h.range
  obtain ⟨f1, f2⟩ := h.far hp
  have e := h.eq
  obtain ⟨x1, x2⟩ := rneD_err (N := D * 2 ^ k) (ten_pos p)
  have lo := h.lo
  have hi := h.hi
  have t0 := ten_pos p
  have up : D * 2 ^ k ≤ 1073741824 * 10 ^ p * 2 ^ k := Nat.mul_le_mul_right _ hD
  generalize hM : rneD (D * 2 ^ k) (10 ^ p) = M at *
  have k1 : 22 ≤ k := by
    rcases Nat.lt_or_ge k 22 with r | r
    · exfalso
      have : 2 ^ k ≤ 2 ^ 21 := Nat.pow_le_pow_right (by decide) (by omega)
      have : 1073741824 * 10 ^ p * 2 ^ k ≤ 1073741824 * 10 ^ p * 2 ^ 21 := Nat.mul_le_mul_left _ this
      rw [show (2 : Nat) ^ 21 = 2097152 by decide] at this
      omega
    · exact r
  by_cases c : k = 22
  · subst c
    rw [show (2 : Nat) ^ 22 = 4194304 by decide] at *
    have : M * 10 ^ p < (4503599627370496 + 1) * 10 ^ p := by rw [Nat.add_mul, Nat.one_mul]; omega
    have := Nat.lt_of_mul_lt_mul_right this
    omega
  · omega
/-- the numbers of digits that the fast way is asked for -/
theorem fdig_small : ((List.range 62).all fun e => (List.range 10).all fun p => decide (fdig (992 + e) p ≤ 18) || (decide (31 ≤ e) && decide (4503599627370496 < 2 ^ (e - 31) * 10 ^ p))) = true := by decide +kernel
theorem fdig_near {D p k x : Nat} (hp : p ≤ 9) (hD : D ≤ 1073741824 * 10 ^ p) (hD2 : D < 4503599627370496) (h : NearK D p k x) : fdig (x % 9223372036854775808 / 4503599627370496) p ≤ 18 := by
  obtain ⟨a1, a2⟩ := near_fit hp hD h
  have all := fdig_small
  rw [List.all_eq_true] at all
  have b := all (x % 9223372036854775808 / 4503599627370496 - 992) (List.mem_range.2 (by omega))
  rw [List.all_eq_true] at b
  have c := b p (List.mem_range.2 (by omega))
  rw [show 992 + (x % 9223372036854775808 / 4503599627370496 - 992) = x % 9223372036854775808 / 4503599627370496 by omega] at c
  simp only [Bool.or_eq_true, Bool.and_eq_true, decide_eq_true_eq] at c
  rcases c with c | ⟨c1, c2⟩
  · exact c
  · exfalso
    obtain ⟨r1, r2⟩ := h.range
    obtain ⟨f1, f2⟩ := h.far hp
    have e := h.eq
    obtain ⟨x1, x2⟩ := rneD_err (N := D * 2 ^ k) (ten_pos p)
    have lo := h.lo
    generalize hM : rneD (D * 2 ^ k) (10 ^ p) = M at *
    -- the exponent: 1075 - k, or 1076 - k where the digits are 2^53
    have hE : x % 9223372036854775808 / 4503599627370496 = 1075 - k ∨ (M = 9007199254740992 ∧ x % 9223372036854775808 / 4503599627370496 = 1076 - k) := by omega
    have lim : D * 2 ^ k < 4503599627370496 * 2 ^ k := Nat.mul_lt_mul_of_pos_right hD2 (Nat.two_pow_pos k)
    rcases hE with q | ⟨q0, q⟩
    · rw [q, show 1075 - k - 992 - 31 = 52 - k by omega] at c2
      have hk : k ≤ 52 := by omega
      have : 2 ^ (52 - k) * 10 ^ p * 2 ^ k = 4503599627370496 * 10 ^ p := by
        rw [Nat.mul_right_comm, ← Nat.pow_add, show 52 - k + k = 52 by omega]
      have := Nat.mul_lt_mul_of_pos_right c2 (Nat.two_pow_pos k)
      omega
    · rw [q, show 1076 - k - 992 - 31 = 53 - k by omega] at c2
      have hk : k ≤ 53 := by omega
      have g : 2 ^ (53 - k) * 10 ^ p * 2 ^ k = 9007199254740992 * 10 ^ p := by
        rw [Nat.mul_right_comm, ← Nat.pow_add, show 53 - k + k = 53 by omega]
      have := Nat.mul_lt_mul_of_pos_right c2 (Nat.two_pow_pos k)
      have hk2 : 2 ^ k ≤ 2 ^ 53 := Nat.pow_le_pow_right (by decide) hk
      rw [show (2 : Nat) ^ 53 = 9007199254740992 by decide] at hk2
      subst q0
      omega
end Go.Proofs.YtjnepljffpbioaaGreatDoor

namespace Go.Proofs.YtjnepljffpbioaaGreatDoor
open Ieee.Own

theorem numI_from : ∀ (l : List Int) (a : Nat), numI l a = a * 10 ^ l.length + numI l 0
  | [], a => by simp [numI]
  | x :: l, a => by
    have h1 := numI_from l (a * 10 + (x - 48).toNat)
    have h2 := numI_from l (0 * 10 + (x - 48).toNat)
    simp only [numI, List.length_cons]
    rw [h1, h2, Nat.zero_mul, Nat.zero_add, Nat.pow_succ, Nat.add_mul, Nat.add_assoc, Nat.mul_assoc, Nat.mul_comm 10]
theorem num_wd {W : List Int} (h : ∀ x ∈ W, 48 ≤ x ∧ x ≤ 57) (w1 : 1 ≤ W.length) (lz : 1 < W.length → W.getD 0 0 ≠ 48) : wdN (numI W 0) = W.length := by
  have lt := numI_lt W h 0
  cases W with
  | nil => simp at w1
  | cons c l =>
    by_cases q : l.length = 0
    · have : l = [] := List.eq_nil_of_length_eq_zero q
      subst this
      rw [wdN_low (by simpa using lt)]
      rfl
    · have hc := h c (by simp)
      have hz := lz (by rw [List.length_cons]; omega)
      have hz' : c ≠ 48 := by simpa [List.getD] using hz
      have e : numI (c :: l) 0 = (c - 48).toNat * 10 ^ l.length + numI l 0 := by
        have := numI_from l (0 * 10 + (c - 48).toNat)
        rw [Nat.zero_mul, Nat.zero_add] at this
        simp only [numI]
        rw [Nat.zero_mul, Nat.zero_add]; exact this
      have g : 10 ^ l.length ≤ (c - 48).toNat * 10 ^ l.length := Nat.le_mul_of_pos_left _ (by omega)
      rw [List.length_cons] at lt ⊢
      exact wdN_is _ _ (by omega) (by omega)
/-- a figure's number: all its digits -/
def figD (W P : List Int) : Nat := numI (W ++ P) 0
theorem figD_is {W P : List Int} : figD W P = numI W 0 * 10 ^ P.length + numI P 0 := by
  unfold figD; rw [numI_app]; exact numI_from _ _
theorem figD_parts {W P : List Int} (h : ∀ x ∈ P, 48 ≤ x ∧ x ≤ 57) : figD W P / 10 ^ P.length = numI W 0 ∧ figD W P % 10 ^ P.length = numI P 0 := by
  have lt := numI_lt P h 0
  have p := ten_pos P.length
  rw [Nat.zero_add, Nat.one_mul] at lt
  rw [figD_is, Nat.mul_comm]
  constructor
  · rw [Nat.mul_add_div p, Nat.div_eq_of_lt lt, Nat.add_zero]
  · rw [Nat.mul_add_mod, Nat.mod_eq_of_lt lt]
theorem nu_fig {L : List Int} {neg : Bool} {W : List Int} {pt : Bool} {P : List Int} (h : FigP L neg W pt P) : sgL neg ++ nuL (figD W P) P.length = L := by
  obtain ⟨a, b⟩ := figD_parts (W := W) h.dP
  unfold nuL
  rw [a, b, num_wd h.dW h.w1 h.lz, dgI_numI W h.dW, dgI_numI P h.dP, h.eqL]
  congr 2
  cases pt with
  | true => rw [if_pos (show 0 < P.length from h.p1 rfl), if_pos rfl]; rfl
  | false => rw [h.p0 rfl]; rfl
/-- the texts are the same -/
theorem fig_same {s : ByteArray} {neg : Bool} {W : List Int} {pt : Bool} {P : List Int} (h : FigP (byI s) neg W pt P) {x : Nat} (hs : (9223372036854775808 < x ∧ 0 < figD W P) ↔ neg = true) (hx : scN x P.length = figD W P) : figS x P.length = s := by
  apply byI_inj
  rw [figS_is, hx]
  have e : (if 9223372036854775808 < x ∧ 0 < figD W P then ([45] : List Int) else []) = sgL neg := by
    unfold sgL
    by_cases q : neg = true
    · rw [if_pos q, if_pos (hs.2 q)]
    · rw [if_neg q, if_neg (fun k => q (hs.1 k))]
  rw [e, nu_fig h]
  refine byI_str _ fun y hy => ?_
  unfold byI at hy
  rw [List.mem_map] at hy
  obtain ⟨c, _, rfl⟩ := hy
  have := c.toNat_lt
  omega
/-- is a figure above 2^30? -/
def abvT (W P : List Int) : Bool := decide (1073741824 < numI W 0) || (decide (numI W 0 = 1073741824) && !ngtL P)
theorem ngt_num {P : List Int} (h : ∀ x ∈ P, 48 ≤ x ∧ x ≤ 57) : ngtL P = decide (numI P 0 = 0) := by
  rw [Bool.eq_iff_iff, decide_eq_true_eq]
  unfold ngtL
  rw [List.all_eq_true]
  constructor
  · intro k
    refine zero_num P fun x hx => ?_
    have a := k x hx
    have b := h x hx
    simp only [Bool.or_eq_true, decide_eq_true_eq] at a
    omega
  · intro k x hx
    have := num_zero P h k x hx
    simp [this]
theorem abv_not {W P : List Int} (h : ∀ x ∈ P, 48 ≤ x ∧ x ≤ 57) (k : abvT W P = false) : figD W P ≤ 1073741824 * 10 ^ P.length := by
  unfold abvT at k
  rw [ngt_num h, Bool.or_eq_false_iff, Bool.and_eq_false_iff, decide_eq_false_iff_not, decide_eq_false_iff_not, Bool.not_eq_false', decide_eq_true_eq] at k
  rw [figD_is]
  have lt := numI_lt P h 0
  rw [Nat.zero_add, Nat.one_mul] at lt
  rcases Nat.lt_or_ge (numI W 0) 1073741824 with q | q
  · have : (numI W 0 + 1) * 10 ^ P.length ≤ 1073741824 * 10 ^ P.length := Nat.mul_le_mul_right _ q
    rw [Nat.add_mul, Nat.one_mul] at this
    omega
  · have e : numI W 0 = 1073741824 := by omega
    rcases k.2 with r | r
    · exact absurd e r
    · rw [r, e]; exact Nat.le_refl _
end Go.Proofs.YtjnepljffpbioaaGreatDoor

namespace Go.Proofs.YtjnepljffpbioaaGreatDoor
open Go.ChangeShapes Go.WideShapes Go.ChangeAt Go.RowKit Ieee.Own

def ldStep (s : Nat × Nat × Bool) (c : Int) : Nat × Nat × Bool :=
  if c = 46 then (s.1, s.2.1, true) else if 48 ≤ c ∧ c ≤ 57 then ((s.1 * 10 + (c - 48).toNat) % 18446744073709551616, (if s.2.2 = true then s.2.1 + 1 else s.2.1), s.2.2) else s
def ldS (l : List Int) : Nat × Nat × Bool := l.foldl ldStep (0, 0, false)
theorem ldS_app (l : List Int) (c : Int) : ldS (l ++ [c]) = ldStep (ldS l) c := by
  unfold ldS; rw [List.foldl_append]; rfl
theorem ld_places : ∀ (l : List Int) (s : Nat × Nat × Bool), (l.foldl ldStep s).2.1 ≤ s.2.1 + l.length
  | [], _ => Nat.le_refl _
  | c :: l, s => by
    have := ld_places l (ldStep s c)
    rw [List.foldl_cons, List.length_cons]
    have k : (ldStep s c).2.1 ≤ s.2.1 + 1 := by
      unfold ldStep
      split
      · exact Nat.le_succ _
      · split
        · show (if s.2.2 = true then s.2.1 + 1 else s.2.1) ≤ _
          split <;> omega
        · exact Nat.le_succ _
    omega
theorem ldS_places (l : List Int) : (ldS l).2.1 ≤ l.length := by
  have := ld_places l (0, 0, false)
  unfold ldS
  simpa using this
theorem ld_lim : ∀ (l : List Int) (s : Nat × Nat × Bool), s.1 < 18446744073709551616 → (l.foldl ldStep s).1 < 18446744073709551616
  | [], _, h => h
  | c :: l, s, h => by
    refine ld_lim l (ldStep s c) ?_
    unfold ldStep
    split
    · exact h
    · split
      · exact Nat.mod_lt _ (by decide)
      · exact h
theorem ldS_lim (l : List Int) : (ldS l).1 < 18446744073709551616 := ld_lim l _ (by decide)
theorem numI_mod (l : List Int) (a : Nat) : numI l (a % 18446744073709551616) % 18446744073709551616 = numI l a % 18446744073709551616 := by
  rw [numI_from l, numI_from l a, Nat.add_mod, Nat.mul_mod, Nat.mod_mod, ← Nat.mul_mod, ← Nat.add_mod]
theorem ld_dig : ∀ (l : List Int), (∀ x ∈ l, 48 ≤ x ∧ x ≤ 57) → ∀ s : Nat × Nat × Bool, s.1 < 18446744073709551616 → l.foldl ldStep s = (numI l s.1 % 18446744073709551616, (if s.2.2 = true then s.2.1 + l.length else s.2.1), s.2.2)
  | [], _, s, h => by
    show s = _
    simp only [numI, List.length_nil, Nat.add_zero, ite_self]
    rw [Nat.mod_eq_of_lt h]
  | x :: l, h, s, hs => by
    have hx := h x (by simp)
    have e : ldStep s x = ((s.1 * 10 + (x - 48).toNat) % 18446744073709551616, (if s.2.2 = true then s.2.1 + 1 else s.2.1), s.2.2) := by
      unfold ldStep
      rw [if_neg (by omega), if_pos hx]
    rw [List.foldl_cons, ld_dig l (fun y hy => h y (by simp [hy])) (ldStep s x) (by rw [e]; exact Nat.mod_lt _ (by decide)), e]
    simp only [numI_mod, List.length_cons]
    simp only [numI]
    congr 2
    split <;> omega
theorem ld_fig {L : List Int} {neg : Bool} {W : List Int} {pt : Bool} {P : List Int} (h : FigP L neg W pt P) : (ldS L).1 = figD W P ∧ (ldS L).2.1 = P.length := by
  have hlt : figD W P < 18446744073709551616 := by
    have a := numI_lt (W ++ P) (fun x hx => by
      rcases List.mem_append.1 hx with r | r
      · exact h.dW x r
      · exact h.dP x r) 0
    have := h.w2
    have := h.p2
    have b : 10 ^ (W ++ P).length ≤ 10 ^ 19 := Nat.pow_le_pow_right (by decide) (by rw [List.length_append]; omega)
    rw [show (10 : Nat) ^ 19 = 10000000000000000000 by decide] at b
    unfold figD
    omega
  have sg : (sgL neg).foldl ldStep (0, 0, false) = (0, 0, false) := by cases neg <;> rfl
  have wlt : numI W 0 < 18446744073709551616 := by
    have a := numI_lt W h.dW 0
    have := h.w2
    have b : 10 ^ W.length ≤ 10 ^ 19 := Nat.pow_le_pow_right (by decide) (by omega)
    rw [show (10 : Nat) ^ 19 = 10000000000000000000 by decide] at b
    omega
  have e : ldS L = (figD W P, P.length, pt) := by
    unfold ldS
    rw [h.eqL, List.foldl_append, sg, List.foldl_append, ld_dig W h.dW _ (by decide)]
    simp only [Bool.false_eq_true, if_false]
    rw [Nat.mod_eq_of_lt wlt]
    cases pt with
    | false =>
      have := h.p0 rfl
      subst this
      unfold figD
      rw [List.append_nil]; rfl
    | true =>
      rw [if_pos rfl, List.foldl_cons]
      have : ldStep (numI W 0, 0, false) 46 = (numI W 0, 0, true) := rfl
      rw [this, ld_dig P h.dP _ wlt]
      simp only [if_true, Nat.zero_add]
      unfold figD at hlt ⊢
      rw [numI_app] at hlt ⊢
      rw [Nat.mod_eq_of_lt hlt]
  rw [e]; exact ⟨rfl, rfl⟩
theorem ld_wrap (n c : Nat) (h : 48 ≤ c) : IntKind.u64.wrap (IntKind.u64.wrap ((n : Int) * 10) + ((c : Int) - 48)) = (((n * 10 + (c - 48)) % 18446744073709551616 : Nat) : Int) := by
  simp only [IntKind.wrap, IntKind.bits, IntKind.signed]
  simp
  omega
set_option maxRecDepth 100000 in
set_option maxHeartbeats 1000000 in
theorem ldig_run (s : ByteArray) (hs : s.size ≤ 9223372036854775807) (u : World) : Calls Tryz.prog 19 #[.string s] u fun e u' => e = .returned (.tuple #[.int .u64 ((ldS (byI s)).1 : Int), .int .i64 ((ldS (byI s)).2.1 : Int)]) ∧ u = u' := by
  obtain ⟨L, hL⟩ : ∃ L, L = byI s := ⟨_, rfl⟩
  have ll : L.length = s.size := by rw [hL]; exact byI_len s
  have at_ : Hid (∀ i (h : i < s.size), ((s[i].toNat : Nat) : Int) = L.getD i 0) := fun i h => by rw [hL]; exact (byI_at s i h).symm
  rw [← hL]
  replace hL := Lib.hid hL
  replace ll := Lib.hid ll
  go_enter Tryz.func19, Tryz.ntmps19
  go_wp2_with fail
  go_loop [4, 5, 6, 7] (fun nv pv sv iv => ∃ i : Nat, i ≤ s.size ∧ iv = .int .i64 i ∧ nv = .int .u64 ((ldS (L.take i)).1 : Int) ∧ pv = .int .i64 ((ldS (L.take i)).2.1 : Int) ∧ sv = .bool (ldS (L.take i)).2.2) (fun _ _ _ iv => s.size - (intOf iv).toNat)
  case atStart => exact ⟨0, Nat.zero_le _, rfl, rfl, rfl, rfl⟩
  case round =>
    obtain ⟨i, hi, rfl, rfl, rfl, rfl⟩ := hrel
    have pl := ldS_places (L.take i)
    rw [List.length_take] at pl
    have nl := ldS_lim (L.take i)
    by_cases hlt : i < s.size
    · have hil : i < L.length := by have := ll.out; omega
      have hx := at_.out i hlt
      have hn : Hid (ldS (L.take (i + 1)) = ldStep (ldS (L.take i)) (L.getD i 0)) := by show _ = _; rw [take_next hil, ldS_app]
      generalize ldS (L.take i) = st at *
      obtain ⟨n, p, b⟩ := st
      try simp only at pl nl
      have hb : s[i].toNat < 256 := s[i].toNat_lt
      have gp : (p : Int) ≤ (i : Int) := by omega
      have gn : (n : Int) ≤ 18446744073709551615 := by omega
      by_cases h46 : s[i].toNat = 46
      · have t1 : ((s[i].toNat : Int) == 46) = true := by simp; omega
        have hn2 : Hid (ldS (L.take (i + 1)) = (n, p, true)) := by
          show _ = _
          rw [hn.out]; exact if_pos (by omega)
        clear hn hx h46 pl nl
        go_wp2_with fail
        go_round
        case rel => exact ⟨i + 1, hlt, by go_num, by rw [hn2.out], by rw [hn2.out], by rw [hn2.out]⟩
        case measure => simp [intOf]; omega
      · have t1 : ((s[i].toNat : Int) == 46) = false := by simp; omega
        by_cases hd : 48 ≤ s[i].toNat ∧ s[i].toNat ≤ 57
        · have t2 : decide (48 ≤ (s[i].toNat : Int)) = true := decide_eq_true (by omega)
          have t3 : decide ((s[i].toNat : Int) ≤ 57) = true := decide_eq_true (by omega)
          have hn2 : Hid (ldS (L.take (i + 1)) = ((n * 10 + (s[i].toNat - 48)) % 18446744073709551616, (if b = true then p + 1 else p), b)) := by
            show _ = _
            rw [hn.out]
            unfold ldStep
            rw [if_neg (by omega), if_pos (by omega), show (L.getD i 0 - 48).toNat = s[i].toNat - 48 by omega]
          have g1 : 48 ≤ (s[i].toNat : Int) := by omega
          have g2 : (s[i].toNat : Int) ≤ 57 := by omega
          clear hn hx h46 pl nl hd
          cases b with
          | true =>
            go_wp2_with fail
            go_round
            case rel => exact ⟨i + 1, hlt, by go_num, by rw [hn2.out]; exact congrArg (Value.int .u64) (ld_wrap n _ (by omega)), by rw [hn2.out]; go_num, by rw [hn2.out]⟩
            case measure => simp [intOf]; omega
          | false =>
            go_wp2_with fail
            go_round
            case rel => exact ⟨i + 1, hlt, by go_num, by rw [hn2.out]; exact congrArg (Value.int .u64) (ld_wrap n _ (by omega)), by rw [hn2.out]; rfl, by rw [hn2.out]⟩
            case measure => simp [intOf]; omega
        · have hn2 : Hid (ldS (L.take (i + 1)) = (n, p, b)) := by
            show _ = _
            rw [hn.out]
            unfold ldStep
            rw [if_neg (by omega), if_neg (by omega)]
          by_cases h48 : s[i].toNat < 48
          · have t2 : decide (48 ≤ (s[i].toNat : Int)) = false := decide_eq_false (by omega)
            clear hn hx h46 pl nl hd
            go_wp2_with fail
            go_round
            case rel => exact ⟨i + 1, hlt, by go_num, by rw [hn2.out], by rw [hn2.out], by rw [hn2.out]⟩
            case measure => simp [intOf]; omega
          · have t2 : decide (48 ≤ (s[i].toNat : Int)) = true := decide_eq_true (by omega)
            have t3 : decide ((s[i].toNat : Int) ≤ 57) = false := decide_eq_false (by omega)
            clear hn hx h46 pl nl hd
            go_wp2_with fail
            go_round
            case rel => exact ⟨i + 1, hlt, by go_num, by rw [hn2.out], by rw [hn2.out], by rw [hn2.out]⟩
            case measure => simp [intOf]; omega
    · obtain rfl : i = s.size := by omega
      have hv : Hid (L.take s.size = L) := by
        show _ = _
        exact List.take_of_length_le (by have := ll.out; omega)
      clear pl nl
      rw [hv.out]
      go_wp2_with fail
      go_ret2
      exact ⟨rfl, rfl⟩
end Go.Proofs.YtjnepljffpbioaaGreatDoor
