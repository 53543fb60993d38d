/- Proved here: plain mathematics of civil time that jumps: lists of jumps, the sum of what they add, which instants have a civil instant; no program's text. -/
import Derived.Test.YtppggaibhfajjaaDam
namespace Go.Proofs.Ytppggaibhfajjaa

/-- the jump at a place -/
def jAt (L : List (Int × Int)) (i : Nat) : Int := (L.getD i (0, 0)).1
def jAdd (L : List (Int × Int)) (i : Nat) : Int := (L.getD i (0, 0)).2
/-- may the jump at a place be? -/
def okJ (L : List (Int × Int)) (i : Nat) : Prop := (-1125899906842624 ≤ jAt L i ∧ jAt L i ≤ 1125899906842624) ∧ (jAdd L i = 1024 ∨ jAdd L i = -1024) ∧ (0 < i → 67108864 ≤ jAt L i - jAt L (i - 1))
instance (L : List (Int × Int)) (i : Nat) : Decidable (okJ L i) := by unfold okJ; exact inferInstance
def goodJ (L : List (Int × Int)) : Bool := (List.range L.length).all fun i => decide (okJ L i)
/-- what is wrong with jumps -/
def chkJ (L : List (Int × Int)) : Int := if 64 < L.length then 2 else if goodJ L = true then 0 else 81
theorem goodJ_iff {L : List (Int × Int)} : goodJ L = true ↔ ∀ i, i < L.length → okJ L i := by
  unfold goodJ
  rw [List.all_eq_true]
  simp only [List.mem_range, decide_eq_true_eq]
theorem goodJ_not {L : List (Int × Int)} {i : Nat} (hi : i < L.length) (h : ¬ okJ L i) : goodJ L = false := by
  rw [← Bool.not_eq_true]
  exact fun e => h (goodJ_iff.1 e i hi)
theorem chkJ_long {L : List (Int × Int)} (h : 64 < L.length) : chkJ L = 2 := if_pos h
theorem chkJ_bad {L : List (Int × Int)} (h : ¬ 64 < L.length) (hg : goodJ L = false) : chkJ L = 81 := by
  unfold chkJ; rw [if_neg h, if_neg (by rw [hg]; decide)]
theorem chkJ_good {L : List (Int × Int)} (h : ¬ 64 < L.length) (hg : goodJ L = true) : chkJ L = 0 := by
  unfold chkJ; rw [if_neg h, if_pos hg]
theorem chkJ_zero {L : List (Int × Int)} (h : chkJ L = 0) : L.length ≤ 64 ∧ goodJ L = true := by
  unfold chkJ at h
  split at h
  · omega
  · split at h
    · exact ⟨by omega, by assumption⟩
    · omega
theorem chkJ_cases (L : List (Int × Int)) : chkJ L = 0 ∨ chkJ L = 2 ∨ chkJ L = 81 := by
  unfold chkJ
  split
  · exact .inr (.inl rfl)
  · split
    · exact .inl rfl
    · exact .inr (.inr rfl)

/-- what the first so many jumps add -/
def jsum (L : List (Int × Int)) : Nat → Int
  | 0 => 0
  | n + 1 => jsum L n + jAdd L n
theorem jsum_succ (L : List (Int × Int)) (n : Nat) : jsum L (n + 1) = jsum L n + jAdd L n := rfl
theorem jsum_range {L : List (Int × Int)} (hg : goodJ L = true) : ∀ n : Nat, n ≤ L.length → -1024 * (n : Int) ≤ jsum L n ∧ jsum L n ≤ 1024 * (n : Int)
  | 0, _ => ⟨by simp [jsum], by simp [jsum]⟩
  | n + 1, h => by
    have a := jsum_range hg n (by omega)
    have b := (goodJ_iff.1 hg n (by omega)).2.1
    rw [jsum_succ]
    omega
theorem jsum_diff {L : List (Int × Int)} (hg : goodJ L = true) (i : Nat) : ∀ n : Nat, i + n ≤ L.length → -1024 * (n : Int) ≤ jsum L (i + n) - jsum L i ∧ jsum L (i + n) - jsum L i ≤ 1024 * (n : Int)
  | 0, _ => ⟨by simp, by simp⟩
  | n + 1, h => by
    have a := jsum_diff hg i n (by omega)
    have b := (goodJ_iff.1 hg (i + n) (by omega)).2.1
    have e : jsum L (i + (n + 1)) = jsum L (i + n) + jAdd L (i + n) := rfl
    rw [e]
    omega
/-- the jumps rise, a day at least from each to the next -/
theorem jumps_rise {L : List (Int × Int)} (hg : goodJ L = true) (i : Nat) : ∀ n : Nat, i + n < L.length → jAt L i + 67108864 * (n : Int) ≤ jAt L (i + n)
  | 0, _ => by simp
  | n + 1, h => by
    have a := jumps_rise hg i n (by omega)
    have b := (goodJ_iff.1 hg (i + n + 1) h).2.2 (by omega)
    rw [Nat.add_sub_cancel] at b
    have e : i + (n + 1) = i + n + 1 := by omega
    rw [e]
    omega

/-- how many jumps have come -/
def pasF (L : List (Int × Int)) (t : Int) : Nat → Nat → Nat
  | 0, n => n
  | k + 1, n => if n < L.length ∧ jAt L n ≤ t then pasF L t k (n + 1) else n
def pas (L : List (Int × Int)) (t : Int) : Nat := pasF L t L.length 0
/-- just so many have come -/
def PasIs (L : List (Int × Int)) (t : Int) (n : Nat) : Prop := n ≤ L.length ∧ (∀ j, j < n → jAt L j ≤ t) ∧ (n < L.length → t < jAt L n)
theorem PasIs.uniq {L : List (Int × Int)} {t : Int} {n m : Nat} (h : PasIs L t n) (k : PasIs L t m) : n = m := by
  rcases Nat.lt_trichotomy n m with e | e | e
  · have := k.2.1 n e
    have := h.2.2 (by have := k.1; omega)
    omega
  · exact e
  · have := h.2.1 m e
    have := k.2.2 (by have := h.1; omega)
    omega
theorem pasF_is {L : List (Int × Int)} {t : Int} : ∀ k n : Nat, n + k = L.length → (∀ j, j < n → jAt L j ≤ t) → PasIs L t (pasF L t k n)
  | 0, n, h, hp => ⟨by unfold pasF; omega, hp, fun e => by unfold pasF at e; omega⟩
  | k + 1, n, h, hp => by
    unfold pasF
    split
    · rename_i c
      exact pasF_is k (n + 1) (by omega) (fun j hj => by
        by_cases e : j < n
        · exact hp j e
        · have : j = n := by omega
          rw [this]; exact c.2)
    · rename_i c
      exact ⟨by omega, hp, fun e => by
        by_cases g : jAt L n ≤ t
        · exact absurd ⟨e, g⟩ c
        · omega⟩
theorem pas_is (L : List (Int × Int)) (t : Int) : PasIs L t (pas L t) := pasF_is _ 0 (by omega) (fun j hj => by omega)
theorem pas_eq {L : List (Int × Int)} {t : Int} {n : Nat} (h : PasIs L t n) : pas L t = n := (pas_is L t).uniq h
/-- in rising jumps: those that have come are the first ones -/
theorem pas_iff {L : List (Int × Int)} (hg : goodJ L = true) {t : Int} {n : Nat} (hn : n ≤ L.length) : pas L t = n ↔ (0 < n → jAt L (n - 1) ≤ t) ∧ (n < L.length → t < jAt L n) := by
  constructor
  · intro h
    have := pas_is L t
    rw [h] at this
    exact ⟨fun e => this.2.1 (n - 1) (by omega), this.2.2⟩
  · intro ⟨h1, h2⟩
    refine pas_eq ⟨hn, fun j hj => ?_, h2⟩
    have a := jumps_rise hg j (n - 1 - j) (by omega)
    have e : j + (n - 1 - j) = n - 1 := by omega
    rw [e] at a
    have := h1 (by omega)
    omega
/-- a jump has come just if it is one of the first -/
theorem come_iff {L : List (Int × Int)} (hg : goodJ L = true) {t : Int} {i : Nat} (hi : i < L.length) : jAt L i ≤ t ↔ i < pas L t := by
  have h := pas_is L t
  constructor
  · intro e
    by_cases g : i < pas L t
    · exact g
    · have a := jumps_rise hg (pas L t) (i - pas L t) (by omega)
      have e2 : pas L t + (i - pas L t) = i := by omega
      rw [e2] at a
      have := h.2.2 (by omega)
      omega
  · exact h.2.1 i

/-! ### civil instants -/
def civJ (L : List (Int × Int)) (t : Int) : Int := t + jsum L (pas L t)
/-- the sum over those that have come, up to a place -/
def csum (L : List (Int × Int)) (t : Int) : Nat → Int
  | 0 => 0
  | n + 1 => csum L t n + if jAt L n ≤ t then jAdd L n else 0
theorem csum_succ (L : List (Int × Int)) (t : Int) (n : Nat) : csum L t (n + 1) = csum L t n + if jAt L n ≤ t then jAdd L n else 0 := rfl
theorem csum_is {L : List (Int × Int)} (hg : goodJ L = true) (t : Int) : ∀ n : Nat, n ≤ L.length → csum L t n = jsum L (min n (pas L t))
  | 0, _ => by simp [csum, jsum]
  | n + 1, h => by
    have a := csum_is hg t n (by omega)
    have c := come_iff hg (t := t) (i := n) (by omega)
    rw [csum_succ, a]
    by_cases e : n < pas L t
    · rw [if_pos (c.2 e), Nat.min_eq_left (by omega), Nat.min_eq_left (by omega), jsum_succ]
    · rw [if_neg (fun q => e (c.1 q)), Nat.min_eq_right (by omega), Nat.min_eq_right (by omega), Int.add_zero]
theorem csum_all {L : List (Int × Int)} (hg : goodJ L = true) (t : Int) : csum L t L.length = jsum L (pas L t) := by
  rw [csum_is hg t _ (Nat.le_refl _), Nat.min_eq_right (pas_is L t).1]
theorem csum_range {L : List (Int × Int)} (hg : goodJ L = true) (t : Int) : ∀ n : Nat, n ≤ L.length → -1024 * (n : Int) ≤ csum L t n ∧ csum L t n ≤ 1024 * (n : Int)
  | 0, _ => ⟨by simp [csum], by simp [csum]⟩
  | n + 1, h => by
    have a := csum_range hg t n (by omega)
    have b := (goodJ_iff.1 hg n (by omega)).2.1
    rw [csum_succ]
    split <;> omega

/-! ### and back -/
def bT (L : List (Int × Int)) (c : Int) (i : Nat) : Int := c - jsum L i
def fnd (L : List (Int × Int)) (c : Int) (i : Nat) : Bool := isI (bT L c i) && decide (pas L (bT L c i) = i)
/-- the places of those found among the first so many -/
def plc (L : List (Int × Int)) (c : Int) (k : Nat) : List Nat := (List.range k).filter (fnd L c)
def bakK (L : List (Int × Int)) (c : Int) (k : Nat) : List Int := (plc L c k).map (bT L c)
def bak (L : List (Int × Int)) (c : Int) : List Int := bakK L c (L.length + 1)
theorem bakK_zero (L : List (Int × Int)) (c : Int) : bakK L c 0 = [] := rfl
theorem bakK_yes {L : List (Int × Int)} {c : Int} {k : Nat} (h : fnd L c k = true) : bakK L c (k + 1) = bakK L c k ++ [bT L c k] := by
  unfold bakK plc
  rw [List.range_succ, List.filter_append, List.map_append]
  simp [h]
theorem bakK_no {L : List (Int × Int)} {c : Int} {k : Nat} (h : fnd L c k = false) : bakK L c (k + 1) = bakK L c k := by
  unfold bakK plc
  rw [List.range_succ, List.filter_append, List.map_append]
  simp [h]
theorem bakK_len (L : List (Int × Int)) (c : Int) (k : Nat) : (bakK L c k).length ≤ k := by
  unfold bakK plc
  rw [List.length_map]
  exact Nat.le_trans (List.length_filter_le _ _) (by simp)
theorem fnd_parts {L : List (Int × Int)} {c : Int} {i : Nat} (h : fnd L c i = true) : isI (bT L c i) = true ∧ pas L (bT L c i) = i := by
  unfold fnd at h
  simpa using h
theorem fnd_civ {L : List (Int × Int)} {c : Int} {i : Nat} (h : fnd L c i = true) : civJ L (bT L c i) = c := by
  unfold civJ
  rw [(fnd_parts h).2]
  unfold bT
  omega
/-- two that are found are neighbours, and the later one is later -/
theorem fnd_two {L : List (Int × Int)} (hg : goodJ L = true) (_hl : L.length ≤ 64) {c : Int} {i j : Nat} (hj : j ≤ L.length) (hij : i < j) (h1 : fnd L c i = true) (h2 : fnd L c j = true) : j = i + 1 ∧ bT L c i < bT L c j := by
  obtain ⟨_, p1⟩ := fnd_parts h1
  obtain ⟨_, p2⟩ := fnd_parts h2
  have q1 := ((pas_iff hg (by omega)).1 p1).2 (by omega)
  have q2 := ((pas_iff hg hj).1 p2).1 (by omega)
  have a := jumps_rise hg i (j - 1 - i) (by omega)
  have e : i + (j - 1 - i) = j - 1 := by omega
  rw [e] at a
  have s := jsum_diff hg i (j - i) (by omega)
  have e2 : i + (j - i) = j := by omega
  rw [e2] at s
  unfold bT at *
  exact ⟨by omega, by omega⟩
theorem plc_mem {L : List (Int × Int)} {c : Int} {k i : Nat} : i ∈ plc L c k ↔ i < k ∧ fnd L c i = true := by
  unfold plc; rw [List.mem_filter, List.mem_range]
theorem plc_rise (L : List (Int × Int)) (c : Int) (k : Nat) : (plc L c k).Pairwise (· < ·) := List.Pairwise.filter _ List.pairwise_lt_range
theorem plc_at {L : List (Int × Int)} {c : Int} {k i : Nat} (h : i < (plc L c k).length) : (plc L c k)[i] < k ∧ fnd L c (plc L c k)[i] = true := plc_mem.1 (List.getElem_mem h)
theorem plc_lt {L : List (Int × Int)} {c : Int} {k i j : Nat} (h : j < (plc L c k).length) (hij : i < j) : (plc L c k)[i]'(by omega) < (plc L c k)[j] := List.pairwise_iff_getElem.1 (plc_rise L c k) i j (by omega) h hij
/-- there are at most two -/
theorem bak_two {L : List (Int × Int)} (hg : goodJ L = true) (hl : L.length ≤ 64) (c : Int) : (bak L c).length ≤ 2 := by
  unfold bak bakK
  rw [List.length_map]
  by_cases h : (plc L c (L.length + 1)).length ≤ 2
  · exact h
  · have a0 := plc_at (L := L) (c := c) (k := L.length + 1) (i := 0) (by omega)
    have a1 := plc_at (L := L) (c := c) (k := L.length + 1) (i := 1) (by omega)
    have a2 := plc_at (L := L) (c := c) (k := L.length + 1) (i := 2) (by omega)
    have l1 := plc_lt (L := L) (c := c) (k := L.length + 1) (i := 0) (j := 1) (by omega) (by omega)
    have l2 := plc_lt (L := L) (c := c) (k := L.length + 1) (i := 1) (j := 2) (by omega) (by omega)
    have b1 := (fnd_two hg hl (by omega) l1 a0.2 a1.2).1
    have b2 := (fnd_two hg hl (by omega) (Nat.lt_trans l1 l2) a0.2 a2.2).1
    omega
/-- each of them has the civil instant -/
theorem bak_civ {L : List (Int × Int)} {c : Int} {i : Nat} (h : i < (bak L c).length) : civJ L ((bak L c).getD i 0) = c ∧ isI ((bak L c).getD i 0) = true := by
  have h' : i < (plc L c (L.length + 1)).length := by unfold bak bakK at h; rwa [List.length_map] at h
  have e : (bak L c).getD i 0 = bT L c ((plc L c (L.length + 1))[i]) := by
    unfold bak bakK; simp [List.getD, h']
  rw [e]
  have := (plc_at h').2
  exact ⟨fnd_civ this, (fnd_parts this).1⟩
theorem bak_rise {L : List (Int × Int)} (hg : goodJ L = true) (hl : L.length ≤ 64) {c : Int} {i : Nat} (h : i + 1 < (bak L c).length) : (bak L c).getD i 0 < (bak L c).getD (i + 1) 0 := by
  have h' : i + 1 < (plc L c (L.length + 1)).length := by unfold bak bakK at h; rwa [List.length_map] at h
  have e : ∀ j (q : j < (plc L c (L.length + 1)).length), (bak L c).getD j 0 = bT L c ((plc L c (L.length + 1))[j]) := fun j q => by
    unfold bak bakK; simp [List.getD, q]
  rw [e i (by omega), e (i + 1) h']
  have a0 := plc_at (L := L) (c := c) (k := L.length + 1) (i := i) (by omega)
  have a1 := plc_at h'
  exact (fnd_two hg hl (by omega) (plc_lt h' (by omega)) a0.2 a1.2).2
/-- every instant is among those of its own civil instant -/
theorem bak_own {L : List (Int × Int)} {t : Int} (ht : isI t = true) : t ∈ bak L (civJ L t) := by
  have hp := pas_is L t
  have e : bT L (civJ L t) (pas L t) = t := by unfold bT civJ; omega
  unfold bak bakK
  rw [List.mem_map]
  refine ⟨pas L t, plc_mem.2 ⟨by have := hp.1; omega, ?_⟩, e⟩
  unfold fnd
  rw [e, ht]
  simp
theorem civJ_range {L : List (Int × Int)} (hg : goodJ L = true) (hl : L.length ≤ 64) {t : Int} (ht : isI t = true) : -1125899906908160 ≤ civJ L t ∧ civJ L t ≤ 1125899906908160 := by
  have a := jsum_range hg (pas L t) (pas_is L t).1
  have b := isI_b ht
  have c := (pas_is L t).1
  unfold civJ
  omega
/-- the reference's test: between the ends of the piece -/
theorem fnd_iff {L : List (Int × Int)} (hg : goodJ L = true) {c : Int} {i : Nat} (hi : i ≤ L.length) :
    fnd L c i = true ↔ (if 0 < i then jAt L (i - 1) else -1125899906842624) ≤ bT L c i ∧ bT L c i ≤ (if i < L.length then jAt L i - 1 else 1125899906842624) := by
  have r : ∀ j, j < L.length → -1125899906842624 ≤ jAt L j ∧ jAt L j ≤ 1125899906842624 := fun j hj => (goodJ_iff.1 hg j hj).1
  constructor
  · intro h
    obtain ⟨h1, h2⟩ := fnd_parts h
    have b := isI_b h1
    have p := (pas_iff hg hi).1 h2
    constructor
    · split
      · exact p.1 (by assumption)
      · exact b.1
    · split
      · have := p.2 (by assumption); omega
      · exact b.2
  · intro ⟨h1, h2⟩
    have hI : isI (bT L c i) = true := by
      refine isI_t ?_ ?_
      · revert h1; split
        · intro h1; have := r (i - 1) (by omega); omega
        · exact id
      · revert h2; split
        · intro h2; have := r i (by assumption); omega
        · exact id
    have hP : pas L (bT L c i) = i := by
      refine (pas_iff hg hi).2 ⟨fun e => ?_, fun e => ?_⟩
      · rw [if_pos e] at h1; exact h1
      · rw [if_pos e] at h2; omega
    unfold fnd
    rw [hI, hP]
    simp
end Go.Proofs.Ytppggaibhfajjaa
