/- Proved here: what the texts Grc, Rgn, Wrg prove, one behind the other. -/
import Derived.Test.YtacinenddnfcbaaJz7
import Derived.Test.YtacinenddnfcbaaJz6

namespace Go.Proofs.Ytacinenddnfcbaa
open Ieee Ieee.Own

/-! ### three numbers -/
structure T3 where
  a : Int
  b : Int
  c : Int
def T3.get (v : T3) : Nat → Int
  | 0 => v.a
  | 1 => v.b
  | _ => v.c
def T3.of (f : Nat → Int) : T3 := ⟨f 0, f 1, f 2⟩
def T3.put (v : T3) (k : Nat) (y : Int) : T3 :=
  match k with
  | 0 => ⟨y, v.b, v.c⟩
  | 1 => ⟨v.a, y, v.c⟩
  | _ => ⟨v.a, v.b, y⟩
theorem lt3 {k : Nat} (h : k < 3) : k = 0 ∨ k = 1 ∨ k = 2 := by omega
theorem get_of (f : Nat → Int) {k : Nat} (h : k < 3) : (T3.of f).get k = f k := by
  rcases lt3 h with rfl | rfl | rfl <;> rfl
theorem T3.same {v w : T3} (h : ∀ k, k < 3 → v.get k = w.get k) : v = w := by
  obtain ⟨a, b, c⟩ := v
  obtain ⟨d, e, f⟩ := w
  have h0 := h 0 (by decide)
  have h1 := h 1 (by decide)
  have h2 := h 2 (by decide)
  simp only [T3.get] at h0 h1 h2
  subst h0 h1 h2
  rfl
theorem of_same {f g : Nat → Int} (h : ∀ k, k < 3 → f k = g k) : T3.of f = T3.of g := by
  unfold T3.of
  rw [h 0 (by decide), h 1 (by decide), h 2 (by decide)]
theorem get_all {v : T3} {Q : Int → Prop} (h : ∀ k, k < 3 → Q (v.get k)) : ∀ k, Q (v.get k)
  | 0 => h 0 (by decide)
  | 1 => h 1 (by decide)
  | k + 2 => h 2 (by decide)
def T3.mix (v : T3) (f : Nat → Int) (k : Nat) : T3 := T3.of fun i => if i < k then f i else v.get i
theorem mix_three (v : T3) (f : Nat → Int) : v.mix f 3 = T3.of f := rfl
theorem mix_put (v : T3) (f : Nat → Int) {k : Nat} (h : k < 3) : (v.mix f k).put k (f k) = v.mix f (k + 1) := by
  rcases lt3 h with rfl | rfl | rfl <;> rfl
theorem mix_get (v : T3) (f : Nat → Int) {k : Nat} (h : k < 3) : (v.mix f k).get k = v.get k := by
  rcases lt3 h with rfl | rfl | rfl <;> rfl

/-! ### masses -/
structure Ma where
  m : Int
  x : T3
  p : T3
structure OkM (a : Ma) : Prop where
  m1 : 1 ≤ a.m
  m2 : a.m ≤ 1048576
  x : ∀ k, (a.x.get k).natAbs ≤ 2 ^ 40
  p : ∀ k, (a.p.get k).natAbs ≤ 2 ^ 50
/-- on the way: behind a drift -/
structure Mid (a : Ma) : Prop where
  m1 : 1 ≤ a.m
  m2 : a.m ≤ 1048576
  x : ∀ k, (a.x.get k).natAbs ≤ 2 ^ 52
  p : ∀ k, (a.p.get k).natAbs ≤ 2 ^ 50
/-- what a pull asks of a mass -/
structure Mid0 (a : Ma) : Prop where
  m1 : 1 ≤ a.m
  m2 : a.m ≤ 1048576
  x : ∀ k, (a.x.get k).natAbs ≤ 2 ^ 52
theorem Mid.m0 {a : Ma} (h : Mid a) : Mid0 a := ⟨h.m1, h.m2, h.x⟩
def wth (c x : Int) : Bool := decide (-c ≤ x) && decide (x ≤ c)
def okB (a : Ma) : Bool := ((List.range 3).all fun k => wth 1099511627776 (a.x.get k) && wth 1125899906842624 (a.p.get k)) && (decide (1 ≤ a.m) && decide (a.m ≤ 1048576))
theorem wth_iff {c x : Int} (hc : 0 ≤ c) : wth c x = true ↔ x.natAbs ≤ c.natAbs := by
  unfold wth
  simp only [Bool.and_eq_true, decide_eq_true_eq]
  omega
theorem okB_iff {a : Ma} : okB a = true ↔ OkM a := by
  unfold okB
  simp only [Bool.and_eq_true, List.all_eq_true, List.mem_range, decide_eq_true_eq]
  constructor
  · rintro ⟨h, h1, h2⟩
    refine ⟨h1, h2, get_all (Q := fun y => y.natAbs ≤ 2 ^ 40) fun k hk => ?_, get_all (Q := fun y => y.natAbs ≤ 2 ^ 50) fun k hk => ?_⟩
    · exact (wth_iff (by decide)).1 (h k hk).1
    · exact (wth_iff (by decide)).1 (h k hk).2
  · rintro ⟨h1, h2, h3, h4⟩
    exact ⟨fun k _ => ⟨(wth_iff (by decide)).2 (h3 k), (wth_iff (by decide)).2 (h4 k)⟩, h1, h2⟩

/-! ### pulls -/
def df (a b : Ma) (k : Nat) : Int := b.x.get k - a.x.get k
def pl (g : Nat) (a b : Ma) (k : Nat) : Int := pulI g (a.m * b.m) (df a b) k
theorem df_cap {a b : Ma} (ha : Mid0 a) (hb : Mid0 b) (k : Nat) : (df a b k).natAbs ≤ 2 ^ 53 := by
  have := ha.x k
  have := hb.x k
  unfold df
  omega
theorem mm_cap {a b : Ma} (ha : Mid0 a) (hb : Mid0 b) : (a.m * b.m).natAbs ≤ 2 ^ 40 := by
  have h1 := ha.m1
  have h2 := ha.m2
  have h3 := hb.m1
  have h4 := hb.m2
  have x : a.m.natAbs ≤ 2 ^ 20 := by omega
  have y : b.m.natAbs ≤ 2 ^ 20 := by omega
  rw [Int.natAbs_mul]
  exact Nat.le_trans (Nat.mul_le_mul x y) (by decide)
theorem pl_anti {g : Nat} (hg : Gee g) {a b : Ma} (ha : Mid0 a) (hb : Mid0 b) (k : Nat) : pl g b a k = -pl g a b k := by
  unfold pl
  rw [Int.mul_comm b.m a.m]
  have e : ∀ k, df b a k = -df a b k := fun k => by unfold df; omega
  exact (pul_flip hg (mm_cap ha hb) (df_cap ha hb) (fun k => Or.inr (e k)) k).2 (e k)
theorem pl_self {g : Nat} (hg : Gee g) {a : Ma} (ha : Mid0 a) (k : Nat) : pl g a a k = 0 := by
  have := pl_anti hg ha ha k
  omega
theorem pl_cap (g : Nat) (a b : Ma) (k : Nat) : (pl g a b k).natAbs ≤ 2 ^ 33 := pul_cap _ _ _ _

/-! ### sums over lists -/
def sm (L : List Ma) (f : Ma → Int) : Int :=
  match L with
  | [] => 0
  | b :: R => f b + sm R f
theorem sm_app (f : Ma → Int) : ∀ (L R : List Ma), sm (L ++ R) f = sm L f + sm R f
  | [], R => by simp [sm]
  | b :: L, R => by
    simp only [List.cons_append, sm]
    rw [sm_app f L R]; omega
theorem sm_congr {f g : Ma → Int} : ∀ {L : List Ma}, (∀ b ∈ L, f b = g b) → sm L f = sm L g
  | [], _ => rfl
  | b :: L, h => by
    simp only [sm]
    rw [h b (List.mem_cons_self ..), sm_congr fun x hx => h x (List.mem_cons_of_mem _ hx)]
theorem sm_map (f : Ma → Int) (F : Ma → Ma) : ∀ L : List Ma, sm (L.map F) f = sm L fun b => f (F b)
  | [] => rfl
  | b :: L => by simp only [List.map_cons, sm]; rw [sm_map f F L]
theorem sm_neg (f : Ma → Int) : ∀ L : List Ma, sm L (fun b => -f b) = -sm L f
  | [] => rfl
  | b :: L => by simp only [sm]; rw [sm_neg f L]; omega
theorem sm_cap {f : Ma → Int} {c : Nat} : ∀ {L : List Ma}, (∀ b ∈ L, (f b).natAbs ≤ c) → (sm L f).natAbs ≤ L.length * c
  | [], _ => by simp [sm]
  | b :: L, h => by
    have h1 := h b (List.mem_cons_self ..)
    have h2 := sm_cap (f := f) (L := L) fun x hx => h x (List.mem_cons_of_mem _ hx)
    simp only [sm, List.length_cons, Nat.add_mul]
    omega

/-! ### drifts and kicks -/
def dr (h : Int) (a : Ma) : Ma := { a with x := T3.of fun k => a.x.get k + h * hfI (a.p.get k) a.m }
def kk (g : Nat) (h : Int) (L : List Ma) (a : Ma) : Ma := { a with p := T3.of fun k => a.p.get k + h * sm L fun b => pl g a b k }
def zM : Ma := ⟨0, ⟨0, 0, 0⟩, ⟨0, 0, 0⟩⟩
def mAt (l : List Ma) (j : Nat) : Ma := l.getD j zM
theorem mAt_get {l : List Ma} {j : Nat} (h : j < l.length) : l[j]? = some (mAt l j) := by
  unfold mAt; simp [List.getD, h]
theorem mAt_mem {l : List Ma} {j : Nat} (h : j < l.length) : mAt l j ∈ l := by
  unfold mAt
  have : l.getD j zM = l[j] := by simp [List.getD, h]
  rw [this]; exact List.getElem_mem h
theorem mAt_of {l : List Ma} {j : Nat} {a : Ma} (h : l[j]? = some a) : mAt l j = a := by
  unfold mAt; simp [List.getD, h]
theorem mAt_map {l : List Ma} {j : Nat} (F : Ma → Ma) (h : j < l.length) : mAt (l.map F) j = F (mAt l j) := by
  refine mAt_of ?_
  rw [List.getElem?_map, mAt_get h]; rfl
theorem take_next {l : List Ma} {i : Nat} (h : i < l.length) (f : Ma → Int) : sm (l.take (i + 1)) f = sm (l.take i) f + f (mAt l i) := by
  rw [List.take_add_one, mAt_get h, sm_app]
  simp only [Option.toList_some, sm]
  omega
theorem kk_nil (g : Nat) (h : Int) (a : Ma) : kk g h [] a = a := by
  unfold kk
  simp only [sm, Int.mul_zero, Int.add_zero]
  rfl
theorem kk_same {g : Nat} {h : Int} {L R : List Ma} {a : Ma} (e : ∀ k, k < 3 → sm L (fun b => pl g a b k) = sm R fun b => pl g a b k) : kk g h L a = kk g h R a := by
  unfold kk
  rw [of_same fun k hk => by rw [e k hk]]
/-- the masses when of each some of its pulls came -/
def kst (g : Nat) (h : Int) (l : List Ma) (f : Nat → Nat) : List Ma := (List.range l.length).map fun t => kk g h (l.take (f t)) (mAt l t)
theorem kst_len (g : Nat) (h : Int) (l : List Ma) (f : Nat → Nat) : (kst g h l f).length = l.length := by unfold kst; simp
theorem kst_get (g : Nat) (h : Int) (l : List Ma) (f : Nat → Nat) {t : Nat} (ht : t < l.length) : (kst g h l f)[t]? = some (kk g h (l.take (f t)) (mAt l t)) := by
  unfold kst; simp [ht]
theorem kst_at (g : Nat) (h : Int) (l : List Ma) (f : Nat → Nat) {t : Nat} (ht : t < l.length) : mAt (kst g h l f) t = kk g h (l.take (f t)) (mAt l t) := mAt_of (kst_get g h l f ht)
theorem list_same {L R : List Ma} (e : L.length = R.length) (h : ∀ t, t < L.length → mAt L t = mAt R t) : L = R := by
  refine List.ext_getElem? fun t => ?_
  by_cases q : t < L.length
  · rw [mAt_get q, mAt_get (by omega), h t q]
  · rw [List.getElem?_eq_none (by omega), List.getElem?_eq_none (by omega)]
theorem kst_same {g : Nat} (hg : Gee g) {h : Int} {l : List Ma} (hl : ∀ a ∈ l, Mid a) {f f' : Nat → Nat} (e : ∀ t, t < l.length → f t = f' t ∨ (f t = t ∧ f' t = t + 1)) : kst g h l f = kst g h l f' := by
  refine list_same (by rw [kst_len, kst_len]) fun t ht => ?_
  rw [kst_len] at ht
  rw [kst_at _ _ _ _ ht, kst_at _ _ _ _ ht]
  rcases e t ht with q | ⟨q, r⟩
  · rw [q]
  · rw [q, r]
    refine kk_same fun k _ => ?_
    rw [take_next ht, pl_self hg (hl _ (mAt_mem ht)).m0, Int.add_zero]
theorem kst_start (g : Nat) (h : Int) (l : List Ma) : kst g h l (fun _ => 0) = l := by
  refine list_same (kst_len ..) fun t ht => ?_
  rw [kst_len] at ht
  rw [kst_at _ _ _ _ ht, List.take_zero, kk_nil]
theorem kst_end (g : Nat) (h : Int) (l : List Ma) : kst g h l (fun _ => l.length) = l.map (kk g h l) := by
  refine list_same (by rw [kst_len, List.length_map]) fun t ht => ?_
  rw [kst_len] at ht
  rw [kst_at _ _ _ _ ht, List.take_length, mAt_map _ ht]
theorem mAt_set {L : List Ma} {i t : Nat} (v : Ma) (hi : i < L.length) : mAt (L.set i v) t = if i = t then v else mAt L t := by
  by_cases q : i = t
  · subst q
    rw [if_pos rfl]
    exact mAt_of (List.getElem?_set_self hi)
  · rw [if_neg q]
    unfold mAt
    simp only [List.getD]
    rw [List.getElem?_set_ne q]
def pUp (g : Nat) (h : Int) (a b : Ma) : Ma := { a with p := T3.of fun k => a.p.get k + h * pl g a b k }
def pDn (g : Nat) (h : Int) (a b : Ma) : Ma := { b with p := T3.of fun k => b.p.get k - h * pl g a b k }
theorem kst_pair {g : Nat} (hg : Gee g) {h : Int} {l : List Ma} (hl : ∀ a ∈ l, Mid a) {f : Nat → Nat} {i j : Nat} (hi : i < l.length) (hj : j < l.length) (hij : i ≠ j) (fi : f i = j) (fj : f j = i) :
    ((kst g h l f).set i (pUp g h (mAt (kst g h l f) i) (mAt (kst g h l f) j))).set j (pDn g h (mAt (kst g h l f) i) (mAt (kst g h l f) j)) = kst g h l (fun t => if t = i then j + 1 else if t = j then i + 1 else f t) := by
  refine list_same (by simp [kst_len]) fun t ht => ?_
  have ht' : t < l.length := by simpa [kst_len] using ht
  rw [mAt_set _ (by simpa [kst_len] using hj), mAt_set _ (by rw [kst_len]; exact hi), kst_at _ _ _ _ ht', kst_at _ _ _ _ hi, kst_at _ _ _ _ hj, kst_at _ _ _ _ ht', fi, fj]
  by_cases q : j = t
  · subst q
    rw [if_pos rfl, if_neg (Ne.symm hij), if_pos rfl]
    unfold pDn kk
    dsimp only
    congr 1
    refine of_same fun k hk => ?_
    rw [get_of _ hk, take_next hi, Int.mul_add, pl_anti hg (hl _ (mAt_mem hi)).m0 (hl _ (mAt_mem hj)).m0, Int.mul_neg]
    show _ - h * pl g (mAt l i) (mAt l j) k = _
    omega
  · rw [if_neg q]
    by_cases r : i = t
    · subst r
      rw [if_pos rfl, if_pos rfl]
      unfold pUp kk
      dsimp only
      congr 1
      refine of_same fun k hk => ?_
      rw [get_of _ hk, take_next hj, Int.mul_add]
      show _ + h * pl g (mAt l i) (mAt l j) k = _
      omega
    · rw [if_neg r, if_neg (Ne.symm r), if_neg (Ne.symm q)]
theorem sgn_cap {h y : Int} (hh : h = 1 ∨ h = -1) : (h * y).natAbs = y.natAbs := by rcases hh with rfl | rfl <;> omega
theorem kk_cap {g : Nat} {h : Int} (hh : h = 1 ∨ h = -1) {L : List Ma} (hL : L.length ≤ 8) {a : Ma} (ha : Mid a) (k : Nat) : ((kk g h L a).p.get k).natAbs ≤ 2 ^ 51 := by
  unfold kk
  dsimp only
  refine get_all (Q := fun y => y.natAbs ≤ 2 ^ 51) (fun k hk => ?_) k
  rw [get_of _ hk]
  have c := sm_cap (f := fun b => pl g a b k) (c := 2 ^ 33) (L := L) fun b _ => pl_cap g a b k
  have d := sgn_cap (h := h) (y := sm L fun b => pl g a b k) hh
  have e := ha.p k
  have : L.length * 2 ^ 33 ≤ 8 * 2 ^ 33 := Nat.mul_le_mul_right _ hL
  generalize h * sm L (fun b => pl g a b k) = Y at *
  omega
theorem dr_mid {h : Int} (hh : h = 1 ∨ h = -1) {a : Ma} (ha : OkM a) : Mid (dr h a) := by
  refine ⟨ha.m1, ha.m2, get_all (Q := fun y => y.natAbs ≤ 2 ^ 52) fun k hk => ?_, ha.p⟩
  unfold dr
  dsimp only
  rw [get_of _ hk]
  have c := hf_cap ha.m1 ha.m2 (ha.p k) (by decide)
  have d := sgn_cap (h := h) (y := hfI (a.p.get k) a.m) hh
  have e := ha.x k
  generalize h * hfI (a.p.get k) a.m = Y at *
  omega
/-! ### steps -/
def allB (l : List Ma) : Bool := l.all okB
theorem allB_iff {l : List Ma} : allB l = true ↔ ∀ a ∈ l, OkM a := by
  unfold allB
  rw [List.all_eq_true]
  exact ⟨fun h a ha => okB_iff.1 (h a ha), fun h a ha => okB_iff.2 (h a ha)⟩
def dft (h : Int) (l : List Ma) : List Ma := l.map (dr h)
def kck (g : Nat) (h : Int) (l : List Ma) : List Ma := l.map (kk g h l)
def stp (g : Nat) (h : Int) (l : List Ma) : Option (List Ma) :=
  if allB (kck g h (dft h l)) = true then (if allB (dft h (kck g h (dft h l))) = true then some (dft h (kck g h (dft h l))) else none) else none
def rawS (g : Nat) (h : Int) (l : List Ma) : List Ma := dft h (kck g h (dft h l))
theorem stp_some {g : Nat} {h : Int} {l r : List Ma} : stp g h l = some r ↔ allB (kck g h (dft h l)) = true ∧ allB r = true ∧ r = rawS g h l := by
  unfold stp
  by_cases h1 : allB (kck g h (dft h l)) = true
  · rw [if_pos h1]
    by_cases h2 : allB (dft h (kck g h (dft h l))) = true
    · rw [if_pos h2]
      constructor
      · rintro e
        obtain rfl := Option.some.inj e
        exact ⟨h1, h2, rfl⟩
      · rintro ⟨-, -, e⟩
        rw [e]; rfl
    · rw [if_neg h2]
      constructor
      · intro e; cases e
      · rintro ⟨-, a, e⟩
        rw [e] at a
        exact absurd a h2
  · rw [if_neg h1]
    constructor
    · intro e; cases e
    · rintro ⟨a, -⟩; exact absurd a h1
theorem dft_len (h : Int) (l : List Ma) : (dft h l).length = l.length := by unfold dft; simp
theorem kck_len (g : Nat) (h : Int) (l : List Ma) : (kck g h l).length = l.length := by unfold kck; simp
theorem raw_len (g : Nat) (h : Int) (l : List Ma) : (rawS g h l).length = l.length := by unfold rawS; rw [dft_len, kck_len, dft_len]
def runN (g : Nat) (h : Int) : Nat → List Ma → Option (List Ma)
  | 0, l => some l
  | n + 1, l => (stp g h l).bind (runN g h n)
theorem grun_add (g : Nat) (h : Int) : ∀ (m n : Nat) (l : List Ma), runN g h (m + n) l = (runN g h m l).bind (runN g h n)
  | 0, n, l => by rw [Nat.zero_add]; rfl
  | m + 1, n, l => by
    rw [show m + 1 + n = (m + n) + 1 by omega]
    unfold runN
    cases stp g h l with
    | none => rfl
    | some r => exact grun_add g h m n r
theorem grun_one (g : Nat) (h : Int) (l : List Ma) : runN g h 1 l = stp g h l := by
  unfold runN
  cases stp g h l <;> rfl
theorem grun_last (g : Nat) (h : Int) (n : Nat) (l : List Ma) : runN g h (n + 1) l = (runN g h n l).bind (stp g h) := by
  rw [grun_add g h n 1 l]
  congr 1
  exact funext fun r => grun_one g h r
theorem grun_ok {g : Nat} {h : Int} : ∀ {n : Nat} {l r : List Ma}, allB l = true → runN g h n l = some r → allB r = true ∧ r.length = l.length
  | 0, l, r, hl, e => by
    obtain rfl := Option.some.inj e
    exact ⟨hl, rfl⟩
  | n + 1, l, r, hl, e => by
    unfold runN at e
    cases hs : stp g h l with
    | none => rw [hs] at e; cases e
    | some q =>
      rw [hs] at e
      obtain ⟨-, h2, h3⟩ := stp_some.1 hs
      have := grun_ok h2 e
      exact ⟨this.1, by rw [this.2, h3, raw_len]⟩
/-! ### sums -/
theorem dft_mid {h : Int} (hh : h = 1 ∨ h = -1) {l : List Ma} (hl : allB l = true) : ∀ a ∈ dft h l, Mid a := by
  intro a ha
  obtain ⟨b, hb, rfl⟩ := List.mem_map.1 (show a ∈ l.map (dr h) from ha)
  exact dr_mid hh (allB_iff.1 hl b hb)
/-! ### orders -/
/-! ### moves -/
def mv (t : T3) (a : Ma) : Ma := { a with x := T3.of fun k => a.x.get k + t.get k }
theorem dr_mv (h : Int) (t : T3) (a : Ma) : dr h (mv t a) = mv t (dr h a) := by
  unfold dr mv
  dsimp only
  congr 1
  refine of_same fun k hk => ?_
  rw [get_of _ hk, get_of _ hk]
  omega
theorem pul_same {g : Nat} {mm : Int} {d e : Nat → Int} (h : ∀ k, k < 3 → e k = d k) {k : Nat} (hk : k < 3) : pulI g mm e k = pulI g mm d k := by
  have : lngP e 3 = lngP d 3 := by
    simp only [lngP]
    rw [h 0 (by decide), h 1 (by decide), h 2 (by decide)]
  unfold pulI fW prdW
  rw [this, h k hk]
theorem pl_mv (g : Nat) (t : T3) (a b : Ma) {k : Nat} (hk : k < 3) : pl g (mv t a) (mv t b) k = pl g a b k := by
  unfold pl
  refine pul_same (fun k hk => ?_) hk
  unfold df mv
  dsimp only
  rw [get_of _ hk, get_of _ hk]
  omega
theorem kck_mv (g : Nat) (h : Int) (t : T3) (l : List Ma) : kck g h (l.map (mv t)) = (kck g h l).map (mv t) := by
  unfold kck
  rw [List.map_map, List.map_map]
  refine List.map_congr_left fun a _ => ?_
  simp only [Function.comp]
  obtain ⟨m, x, p⟩ := a
  show (⟨m, (mv t ⟨m, x, p⟩).x, T3.of fun k => p.get k + h * sm (l.map (mv t)) fun b => pl g (mv t ⟨m, x, p⟩) b k⟩ : Ma) = ⟨m, (mv t ⟨m, x, p⟩).x, T3.of fun k => p.get k + h * sm l fun b => pl g ⟨m, x, p⟩ b k⟩
  congr 1
  refine of_same fun k hk => ?_
  rw [sm_map]
  have : sm l (fun b => pl g (mv t ⟨m, x, p⟩) (mv t b) k) = sm l fun b => pl g ⟨m, x, p⟩ b k := sm_congr fun b _ => pl_mv g t _ b hk
  rw [this]
theorem dft_mv (h : Int) (t : T3) (l : List Ma) : dft h (l.map (mv t)) = (dft h l).map (mv t) := by
  unfold dft
  rw [List.map_map, List.map_map]
  exact List.map_congr_left fun a _ => dr_mv h t a
theorem raw_mv (g : Nat) (h : Int) (t : T3) (l : List Ma) : rawS g h (l.map (mv t)) = (rawS g h l).map (mv t) := by
  unfold rawS
  rw [dft_mv, kck_mv, dft_mv]
theorem grun_mv {g : Nat} {h : Int} {t : T3} : ∀ {n : Nat} {l r s : List Ma}, runN g h n l = some r → runN g h n (l.map (mv t)) = some s → s = r.map (mv t)
  | 0, l, r, s, e, e' => by
    obtain rfl := Option.some.inj e
    obtain rfl := Option.some.inj e'
    rfl
  | n + 1, l, r, s, e, e' => by
    unfold runN at e e'
    cases hs : stp g h l with
    | none => rw [hs] at e; cases e
    | some q =>
      cases hs' : stp g h (l.map (mv t)) with
      | none => rw [hs'] at e'; cases e'
      | some q' =>
        rw [hs] at e
        rw [hs'] at e'
        obtain ⟨-, -, h3⟩ := stp_some.1 hs
        obtain ⟨-, -, h3'⟩ := stp_some.1 hs'
        rw [raw_mv, ← h3] at h3'
        subst h3'
        exact grun_mv e e'

/-! ### one axis turned about -/
def ng (j : Nat) (v : T3) : T3 := T3.of fun k => if k = j then -v.get k else v.get k
def tn (j : Nat) (a : Ma) : Ma := { a with x := ng j a.x, p := ng j a.p }
theorem ng_get (j : Nat) (v : T3) {k : Nat} (hk : k < 3) : (ng j v).get k = if k = j then -v.get k else v.get k := get_of _ hk
theorem ng_abs (j : Nat) (v : T3) {k : Nat} (hk : k < 3) : ((ng j v).get k).natAbs = (v.get k).natAbs := by
  rw [ng_get j v hk]; split <;> omega
theorem ng_ng (j : Nat) (v : T3) : ng j (ng j v) = v := by
  refine T3.same fun k hk => ?_
  rw [ng_get _ _ hk, ng_get _ _ hk]
  split <;> omega
theorem ok_tn {j : Nat} {a : Ma} (h : OkM a) : OkM (tn j a) :=
  ⟨h.m1, h.m2, get_all (Q := fun y => y.natAbs ≤ 2 ^ 40) fun k hk => by show ((ng j a.x).get k).natAbs ≤ _; rw [ng_abs j _ hk]; exact h.x k,
    get_all (Q := fun y => y.natAbs ≤ 2 ^ 50) fun k hk => by show ((ng j a.p).get k).natAbs ≤ _; rw [ng_abs j _ hk]; exact h.p k⟩
theorem tn_tn (j : Nat) (a : Ma) : tn j (tn j a) = a := by
  obtain ⟨m, x, p⟩ := a
  unfold tn
  dsimp only
  rw [ng_ng, ng_ng]
theorem all_tn (j : Nat) (l : List Ma) : allB (l.map (tn j)) = allB l := by
  rw [Bool.eq_iff_iff, allB_iff, allB_iff]
  constructor
  · intro h a ha
    have := ok_tn (j := j) (h (tn j a) (List.mem_map_of_mem ha))
    rwa [tn_tn] at this
  · intro h a ha
    obtain ⟨b, hb, rfl⟩ := List.mem_map.1 ha
    exact ok_tn (h b hb)
theorem dr_tn {h : Int} {j : Nat} {a : Ma} (m1 : 1 ≤ a.m) (m2 : a.m ≤ 1048576) (hp : ∀ k, (a.p.get k).natAbs ≤ 2 ^ 52) : dr h (tn j a) = tn j (dr h a) := by
  unfold dr tn
  dsimp only
  congr 1
  refine of_same fun k hk => ?_
  rw [ng_get _ _ hk, ng_get _ _ hk, get_of _ hk]
  split
  · rw [hf_odd m1 m2 (hp k), Int.mul_neg]; omega
  · rfl
theorem pl_tn {g : Nat} (hg : Gee g) (j : Nat) {a b : Ma} (ha : Mid a) (hb : Mid b) {k : Nat} (hk : k < 3) : pl g (tn j a) (tn j b) k = if k = j then -pl g a b k else pl g a b k := by
  have d : ∀ k, k < 3 → df (tn j a) (tn j b) k = if k = j then -df a b k else df a b k := fun k hk => by
    show (ng j b.x).get k - (ng j a.x).get k = _
    rw [ng_get _ _ hk, ng_get _ _ hk]
    unfold df
    split <;> omega
  -- beyond the third number nothing is asked
  have e : pulI g (a.m * b.m) (df (tn j a) (tn j b)) k = pulI g (a.m * b.m) (fun k => if k = j then -df a b k else df a b k) k := pul_same d hk
  show pulI g (a.m * b.m) (df (tn j a) (tn j b)) k = _
  rw [e]
  have f := pul_flip hg (mm_cap ha.m0 hb.m0) (df_cap ha.m0 hb.m0) (e := fun k => if k = j then -df a b k else df a b k) (fun k => by split <;> simp) k
  by_cases q : k = j
  · rw [if_pos q]; exact f.2 (if_pos q)
  · rw [if_neg q]; exact f.1 (if_neg q)
theorem kck_tn {g : Nat} (hg : Gee g) (h : Int) (j : Nat) {l : List Ma} (hl : ∀ a ∈ l, Mid a) : kck g h (l.map (tn j)) = (kck g h l).map (tn j) := by
  unfold kck
  rw [List.map_map, List.map_map]
  refine List.map_congr_left fun a ha => ?_
  simp only [Function.comp]
  unfold kk tn
  dsimp only
  congr 1
  refine T3.same fun k hk => ?_
  rw [get_of _ hk, ng_get _ _ hk, ng_get _ _ hk, get_of _ hk, sm_map]
  have : sm l (fun b => pl g (tn j a) (tn j b) k) = sm l fun b => if k = j then -pl g a b k else pl g a b k := sm_congr fun b hb => pl_tn hg j (hl a ha) (hl b hb) hk
  show _ + h * sm l (fun b => pl g (tn j a) (tn j b) k) = _
  rw [this]
  split
  · rw [sm_neg, Int.mul_neg]; omega
  · rfl
theorem raw_tn {g : Nat} (hg : Gee g) {h : Int} (hh : h = 1 ∨ h = -1) (j : Nat) {l : List Ma} (hl : allB l = true) (h8 : l.length ≤ 8) : kck g h (dft h (l.map (tn j))) = (kck g h (dft h l)).map (tn j) ∧ rawS g h (l.map (tn j)) = (rawS g h l).map (tn j) := by
  have a : dft h (l.map (tn j)) = (dft h l).map (tn j) := by
    unfold dft
    rw [List.map_map, List.map_map]
    refine List.map_congr_left fun a ha => ?_
    have o := allB_iff.1 hl a ha
    exact dr_tn o.m1 o.m2 fun k => abs_up (o.p k) (by omega)
  have b := kck_tn hg h j (dft_mid hh hl)
  have c : dft h ((kck g h (dft h l)).map (tn j)) = (dft h (kck g h (dft h l))).map (tn j) := by
    unfold dft
    rw [List.map_map, List.map_map]
    refine List.map_congr_left fun a ha => ?_
    obtain ⟨b, hb, rfl⟩ := List.mem_map.1 (show a ∈ (l.map (dr h)).map (kk g h (l.map (dr h))) from ha)
    have o := dft_mid hh hl b hb
    exact dr_tn o.m1 o.m2 fun k => abs_up (kk_cap (g := g) hh (by rw [List.length_map]; exact h8) o k) (by omega)
  refine ⟨by rw [a, b], ?_⟩
  unfold rawS
  rw [a, b, c]
theorem grun_tn {g : Nat} (hg : Gee g) {h : Int} (hh : h = 1 ∨ h = -1) (j : Nat) : ∀ (n : Nat) {l : List Ma}, allB l = true → l.length ≤ 8 → runN g h n (l.map (tn j)) = (runN g h n l).map fun r => r.map (tn j)
  | 0, _, _, _ => rfl
  | n + 1, l, hl, h8 => by
    have r := raw_tn hg hh j hl h8
    have e : stp g h (l.map (tn j)) = (stp g h l).map fun r => r.map (tn j) := by
      show (if allB (kck g h (dft h (l.map (tn j)))) = true then (if allB (rawS g h (l.map (tn j))) = true then some (rawS g h (l.map (tn j))) else none) else none) = Option.map _ (if allB (kck g h (dft h l)) = true then (if allB (rawS g h l) = true then some (rawS g h l) else none) else none)
      rw [r.1, r.2, all_tn, all_tn]
      split
      · split <;> rfl
      · rfl
    unfold runN
    rw [e]
    cases hs : stp g h l with
    | none => rfl
    | some q =>
      obtain ⟨-, h2, h3⟩ := stp_some.1 hs
      exact grun_tn hg hh j n h2 (by rw [h3, raw_len]; exact h8)
end Go.Proofs.Ytacinenddnfcbaa

namespace Go.Proofs.Ytacinenddnfcbaa
open Go.ChangeShapes Go.WideShapes Go.ChangeAt Go.RowKit Ieee.Own

/-- has operation i come up? -/
def doneL (L : List (Option Value)) (i : Nat) : Prop := ∃ v, L[i]? = some (some v)
def waitsAt (ops : Array Oper) (i k : Nat) : Bool := ((ops[i]?).map fun o => waits o k).getD false
/-- does i wait for k, at last? -/
def needs (ops : Array Oper) : Nat → Nat → Nat → Bool
  | 0, _, _ => false
  | n + 1, i, k => (List.range ops.size).any fun m => waitsAt ops i m && (m == k || needs ops n m k)
def Closed (ops : Array Oper) (L : List (Option Value)) : Prop := ∀ i k, doneL L i → waitsAt ops i k = true → doneL L k
theorem Closed.needs {ops : Array Oper} {L : List (Option Value)} (C : Closed ops L) : ∀ (n i k : Nat), needs ops n i k = true → doneL L i → doneL L k
  | 0, _, _, h, _ => by simp [Go.Proofs.Ytacinenddnfcbaa.needs] at h
  | n + 1, i, k, h, d => by
    unfold Go.Proofs.Ytacinenddnfcbaa.needs at h
    rw [List.any_eq_true] at h
    obtain ⟨m, -, h⟩ := h
    simp only [Bool.and_eq_true, Bool.or_eq_true, beq_iff_eq] at h
    obtain ⟨h1, h2⟩ := h
    have dm := C i m d h1
    rcases h2 with rfl | h2
    · exact dm
    · exact C.needs n m k h2 dm
theorem done_set {L : List (Option Value)} {i : Nat} {v : Value} (hn : L[i]? = some none) (k : Nat) : doneL (L.set i (some v)) k ↔ k = i ∨ doneL L k := by
  unfold doneL
  have hl : i < L.length := (List.getElem?_eq_some_iff.1 hn).1
  by_cases e : k = i
  · subst e; rw [List.getElem?_set_self hl]; simp
  · rw [List.getElem?_set_ne (Ne.symm e)]; simp [e]
theorem Closed.set {ops : Array Oper} {L : List (Option Value)} (C : Closed ops L) {i : Nat} {o : Oper} {v : Value} (ho : ops[i]? = some o) (hn : L[i]? = some none)
    (hd : ∀ e ∈ o.after, Region.binds .any e = true → ∃ v, L[e.on]? = some (some v)) : Closed ops (L.set i (some v)) := by
  intro k m dk wk
  rw [done_set hn] at dk ⊢
  rcases dk with rfl | dk
  · right
    unfold waitsAt at wk
    rw [ho] at wk
    simp only [Option.map_some, Option.getD_some] at wk
    unfold waits at wk
    rw [List.any_eq_true] at wk
    obtain ⟨e, he, h2⟩ := wk
    simp only [Bool.and_eq_true, beq_iff_eq] at h2
    have := hd e (Array.mem_toList_iff.1 he) h2.2
    rw [h2.1] at this
    exact this
  · exact .inr (C k m dk wk)
theorem Closed.none (ops : Array Oper) (n : Nat) : Closed ops (nones n) := by
  intro i k h
  obtain ⟨v, hv⟩ := h
  exact absurd hv (nones_get _ _ _)

/-- what an operation comes to: a value, or a call's answer; but for what it makes, the world stands -/
inductive Came (o : Oper) (a : Act) (w : World) (v : Value) : Prop
  | value (w' : World) (r : (execOp a.eval o).run Try.prog w = .ok (.value v) w') (k : Below w.heap.size w w')
  | call (f : FuncId) (args : Array Value) (r : (execOp a.eval o).run Try.prog w = .ok (.enter f args) w) (k : Calls Try.prog f args w fun e w' => e = .returned v ∧ Below w.heap.size w w')

section
variable {ops : Array Oper} {Q : Exit → Act → World → Prop}
end
end Go.Proofs.Ytacinenddnfcbaa

namespace Go.Proofs.Ytacinenddnfcbaa
open Go.ChangeShapes Go.WideShapes Go.ChangeAt Go.RowKit Ieee.Own

/-! ### a block that holds words -/
structure BW (w : World) (g : Nat) (us : List Nat) : Prop where
  lt : g < w.heap.size
  at_ : ∀ i u, us[i]? = some u → w.cell? ⟨g, i, none⟩ = some (.float .f64 u)
  fr : ∀ i u, us[i]? = some u → w.frozen? ⟨g, i, none⟩ = false
def objW (t : TypeId) (us : List Nat) : Obj := .cells (us.map (Value.float .f64)).toArray t (0, 0)
theorem BW.on {w w' : World} {g : Nat} {us : List Nat} (b : BW w g us) (h : Below w.heap.size w w') : BW w' g us :=
  ⟨Nat.lt_of_lt_of_le b.lt h.size, fun i u e => (cell_on h _ b.lt).trans (b.at_ i u e), fun i u e => (frozen_on h _ b.lt).trans (b.fr i u e)⟩
theorem BW.box (w : World) (t : TypeId) (us : List Nat) : BW (w.alloc (objW t us)) w.heap.size us := by
  have S : Blocks w [objW t us] (w.alloc (objW t us)) := (Blocks.nil w).alloc (by simp) _
  unfold objW at S
  refine ⟨by simp, fun i u e => (S.cell 0 rfl i w.heap.size rfl).trans (by simp [e]), fun i u e => S.free 0 rfl i w.heap.size rfl⟩
theorem BW.set1 {w : World} {g k x : Nat} {us : List Nat} (b : BW w g us) (hk : us[k]? = some x) (v : Nat) : BW (w.setCell ⟨g, k, none⟩ (.float .f64 v)) g (us.set k v) := by
  have hl := (List.getElem?_eq_some_iff.1 hk).1
  refine ⟨by simpa using b.lt, fun i u e => ?_, fun i u e => ?_⟩
  · by_cases h : k = i
    · subst h
      rw [List.getElem?_set_self hl] at e
      obtain rfl := Option.some.inj e
      exact World.cell?_setCell_same _ _ _ (b.at_ _ _ hk)
    · rw [List.getElem?_set_ne h] at e
      rw [World.cell?_setCell_other _ _ _ _ (by simp)]
      exact b.at_ i u e
  · rw [World.frozen?_setCell]
    by_cases h : k = i
    · subst h; exact b.fr _ _ hk
    · rw [List.getElem?_set_ne h] at e; exact b.fr i u e
theorem BW.other1 {w : World} {g h k : Nat} {us : List Nat} (b : BW w g us) (hg : g ≠ h) (v : Nat) : BW (w.setCell ⟨h, k, none⟩ (.float .f64 v)) g us := by
  refine ⟨by simpa using b.lt, fun i u e => ?_, fun i u e => ?_⟩
  · rw [World.cell?_setCell_other _ _ _ _ (by simp)]; exact b.at_ i u e
  · rw [World.frozen?_setCell]; exact b.fr i u e
def putW (w : World) (g : Nat) : Nat → List Nat → World
  | _, [] => w
  | k, v :: vs => putW (w.setCell ⟨g, k, none⟩ (.float .f64 v)) g (k + 1) vs
def setL : List Nat → Nat → List Nat → List Nat
  | us, _, [] => us
  | us, k, v :: vs => setL (us.set k v) (k + 1) vs
theorem BW.put {g : Nat} : ∀ (vs : List Nat) {w : World} {us : List Nat} (k : Nat), BW w g us → k + vs.length ≤ us.length → BW (putW w g k vs) g (setL us k vs)
  | [], _, _, _, b, _ => b
  | v :: vs, w, us, k, b, h => by
    simp only [List.length_cons] at h
    obtain ⟨x, hx⟩ : ∃ x, us[k]? = some x := ⟨us[k]'(by omega), List.getElem?_eq_getElem (by omega)⟩
    exact BW.put vs (k + 1) (b.set1 hx v) (by simp; omega)
theorem BW.other {g h : Nat} {us : List Nat} (hg : g ≠ h) : ∀ (vs : List Nat) {w : World} (k : Nat), BW w g us → BW (putW w h k vs) g us
  | [], _, _, b => b
  | v :: vs, _, k, b => BW.other hg vs (k + 1) (b.other1 hg v)
theorem putW_below {B g : Nat} {u : World} (hg : B ≤ g) : ∀ (vs : List Nat) {w : World} (k : Nat), Below B u w → Below B u (putW w g k vs)
  | [], _, _, b => b
  | _ :: vs, _, k, b => putW_below hg vs (k + 1) (b.setCell hg _)
/-! ### the call's blocks -/
structure Kw (w0 : World) (L : List (Option (Nat × List Nat))) (w : World) : Prop where
  old : Below w0.heap.size w0 w
  blk : ∀ (j g : Nat) (us : List Nat), L[j]? = some (some (g, us)) → w0.heap.size ≤ g ∧ BW w g us
  inj : ∀ (i j g : Nat) (us vs : List Nat), L[i]? = some (some (g, us)) → L[j]? = some (some (g, vs)) → i = j
theorem Kw.nil (w : World) : Kw w [] w := ⟨Below.refl _ w, fun j g us h => by simp at h, fun i j g us vs h => by simp at h⟩
theorem Kw.at_ {w0 w : World} {L : List (Option (Nat × List Nat))} (C : Kw w0 L w) (j : Nat) {g : Nat} {us : List Nat} (hj : L[j]? = some (some (g, us))) : BW w g us := (C.blk j g us hj).2
theorem Kw.on {w0 w w' : World} {L : List (Option (Nat × List Nat))} (C : Kw w0 L w) (h : Below w.heap.size w w') : Kw w0 L w' :=
  ⟨C.old.trans (h.mono C.old.size), fun j g us hj => ⟨(C.blk j g us hj).1, (C.at_ j hj).on h⟩, C.inj⟩
theorem Kw.draws {w0 w : World} {L : List (Option (Nat × List Nat))} (C : Kw w0 L w) : Kw w0 L w.drew :=
  ⟨C.old.drew, fun j g us h => ⟨(C.blk j g us h).1, ⟨(C.at_ j h).1, (C.at_ j h).2, (C.at_ j h).3⟩⟩, C.inj⟩
/-- entry j comes to be -/
theorem Kw.make {w0 w : World} {L : List (Option (Nat × List Nat))} (C : Kw w0 L w) (j : Nat) (hj : L[j]? = some none) (t : TypeId) (us : List Nat) : Kw w0 (L.set j (some (w.heap.size, us))) (w.alloc (objW t us)) := by
  have hb : Below w.heap.size w (w.alloc (objW t us)) := (Below.refl _ w).alloc (Nat.le_refl _) _
  have hl := (List.getElem?_eq_some_iff.1 hj).1
  have old : ∀ i g vs, i ≠ j → (L.set j (some (w.heap.size, us)))[i]? = some (some (g, vs)) → L[i]? = some (some (g, vs)) := fun i g vs hi h => by
    rwa [List.getElem?_set_ne (Ne.symm hi)] at h
  have new : ∀ g vs, (L.set j (some (w.heap.size, us)))[j]? = some (some (g, vs)) → g = w.heap.size ∧ vs = us := fun g vs h => by
    rw [List.getElem?_set_self hl] at h
    simp at h
    exact ⟨h.1.symm, h.2.symm⟩
  refine ⟨C.old.trans (hb.mono C.old.size), fun i g vs hi => ?_, fun i k g vs ws hi hk => ?_⟩
  · by_cases e : i = j
    · subst e
      obtain ⟨rfl, rfl⟩ := new _ _ hi
      exact ⟨C.old.size, BW.box w t vs⟩
    · have h := old _ _ _ e hi
      exact ⟨(C.blk i g vs h).1, (C.at_ i h).on hb⟩
  · by_cases e : i = j <;> by_cases f : k = j
    · omega
    · subst e
      have := (C.at_ k (old _ _ _ f hk)).lt
      have := (new _ _ hi).1
      omega
    · subst f
      have := (C.at_ i (old _ _ _ e hi)).lt
      have := (new _ _ hk).1
      omega
    · exact C.inj i k g vs ws (old _ _ _ e hi) (old _ _ _ f hk)
theorem Kw.more {w0 w : World} {L : List (Option (Nat × List Nat))} (C : Kw w0 L w) : Kw w0 (L ++ [none]) w := by
  have key : ∀ i g vs, (L ++ [none])[i]? = some (some (g, vs)) → L[i]? = some (some (g, vs)) := fun i g vs h => by
    by_cases hi : i < L.length
    · rwa [List.getElem?_append_left hi] at h
    · have := (List.getElem?_eq_some_iff.1 h).1
      simp at this
      obtain rfl : i = L.length := by omega
      simp at h
  exact ⟨C.old, fun j g us h => C.blk j g us (key _ _ _ h), fun i j g us vs h k => C.inj i j g us vs (key _ _ _ h) (key _ _ _ k)⟩
theorem Kw.nones {w0 w : World} {L : List (Option (Nat × List Nat))} (C : Kw w0 L w) : ∀ n, Kw w0 (L ++ List.replicate n none) w
  | 0 => by simpa using C
  | n + 1 => by
    have := (C.nones n).more
    rwa [List.append_assoc, ← List.replicate_succ'] at this
theorem Kw.new {w0 w : World} {L : List (Option (Nat × List Nat))} (C : Kw w0 L w) (t : TypeId) (us : List Nat) : Kw w0 (L ++ [some (w.heap.size, us)]) (w.alloc (objW t us)) := by
  have := C.more.make L.length (by simp) t us
  simpa using this
theorem Kw.put {w0 w : World} {L : List (Option (Nat × List Nat))} (C : Kw w0 L w) (j : Nat) {g : Nat} {us : List Nat} (hj : L[j]? = some (some (g, us))) (k : Nat) (vs : List Nat) (hk : k + vs.length ≤ us.length) : Kw w0 (L.set j (some (g, setL us k vs))) (putW w g k vs) := by
  have hl := (List.getElem?_eq_some_iff.1 hj).1
  have hg := C.blk j g us hj
  have old : ∀ i h ws, i ≠ j → (L.set j (some (g, setL us k vs)))[i]? = some (some (h, ws)) → L[i]? = some (some (h, ws)) := fun i h ws hi e => by
    rwa [List.getElem?_set_ne (Ne.symm hi)] at e
  have new : ∀ h ws, (L.set j (some (g, setL us k vs)))[j]? = some (some (h, ws)) → h = g ∧ ws = setL us k vs := fun h ws e => by
    rw [List.getElem?_set_self hl] at e
    simp at e
    exact ⟨e.1.symm, e.2.symm⟩
  have back : ∀ i h ws, (L.set j (some (g, setL us k vs)))[i]? = some (some (h, ws)) → ∃ ws', L[i]? = some (some (h, ws')) := fun i h ws e => by
    by_cases q : i = j
    · subst q
      obtain ⟨rfl, -⟩ := new _ _ e
      exact ⟨_, hj⟩
    · exact ⟨_, old _ _ _ q e⟩
  refine ⟨putW_below hg.1 vs k C.old, fun i h ws hi => ?_, fun i m h ws xs hi hm => ?_⟩
  · by_cases q : i = j
    · subst q
      obtain ⟨rfl, rfl⟩ := new _ _ hi
      exact ⟨hg.1, hg.2.put vs k hk⟩
    · have e := old _ _ _ q hi
      refine ⟨(C.blk i h ws e).1, BW.other (fun z => ?_) vs k (C.at_ i e)⟩
      subst z
      exact q (C.inj i j _ _ _ e hj)
  · obtain ⟨a, ha⟩ := back _ _ _ hi
    obtain ⟨b, hb⟩ := back _ _ _ hm
    exact C.inj i m h _ _ ha hb

theorem Kw.and {w0 w : World} {L : List (Option (Nat × List Nat))} {n : Nat} (C : Kw w0 L w) (h : w.heap.size = n) (t : TypeId) (us : List Nat) : Kw w0 (L ++ [some (n, us)]) (w.alloc (objW t us)) := by
  subst h; exact C.new t us
/-! ### a region -/
/-- a store of a region: which operation, into which entry, from which cell on, what -/
structure Sw where
  i : Nat
  j : Nat
  k : Nat
  vs : List Nat
def ptrV (h : Nat) : Value := .pointer (some ⟨h, 0, none⟩)
/-- the entries as they are when L has come up: base, the stores -/
def stored (sts : List Sw) (L : List (Option Value)) (j : Nat) (us vs : List Nat) : Prop :=
  (∀ st ∈ sts, st.j = j → doneL L st.i → vs = setL us st.k st.vs) ∧ ((∀ st ∈ sts, st.j = j → ¬ doneL L st.i) → vs = us)
section
variable {ops : Array Oper} {Q : Exit → Act → World → Prop}
end
end Go.Proofs.Ytacinenddnfcbaa
