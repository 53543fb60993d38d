/- Proved here: what the texts Smd, Cls, Acv, Win, Lab, Ssqs prove, one behind the other. -/
import Derived.Test.YtacinenddnfcbaaJz5
import Derived.Test.YtacinenddnfcbaaJz2
import Derived.Deep.MidRow
import Derived.Deep.WholeRow
import Derived.Laws.IdiomCopy
import Derived.Test.YtacinenddnfcbaaJz4
import Derived.BigQuiet
import Derived.Deep.CutRange
import Derived.Deep.RegionHeld3

namespace Go.Proofs.Ytacinenddnfcbaa
open Go.ChangeShapes Go.WideShapes Go.ChangeAt Go.RowKit Ieee.Own

/-! ### Has -/
/-! ### Inside -/
/-! ### ends of four -/
theorem DnAll.congr {cs : List (Int → Int)} {x y : Nat} (h : DnAll cs x) (hy : FinW y) (e : V y = V x) : DnAll cs y := ⟨hy, by rw [e]; exact h.le, by rw [e]; exact h.top⟩
theorem UpAll.congr {cs : List (Int → Int)} {x y : Nat} (h : UpAll cs x) (hy : FinW y) (e : V y = V x) : UpAll cs y := ⟨hy, by rw [e]; exact h.ge, by rw [e]; exact h.low⟩
theorem DnAll.mn {cs : List (Int → Int)} {c : Int → Int} {x y : Nat} (h : DnAll cs x) (k : Dn c y) (hcs : ∀ d ∈ cs, Falls d) (hc : Falls c) : DnAll (cs ++ [c]) (mnW x y) := by
  obtain ⟨a, b, d⟩ := mnW_spec h.fin k.fin
  obtain ⟨m1, m2, m3⟩ := minW_V y x
  refine (h.more k hcs hc).congr (mnW_fin h.fin k.fin) ?_
  rcases a with a | a <;> rw [a] at b d ⊢ <;> omega
theorem UpAll.mx {cs : List (Int → Int)} {c : Int → Int} {x y : Nat} (h : UpAll cs x) (k : Up c y) (hcs : ∀ d ∈ cs, Falls d) (hc : Falls c) : UpAll (cs ++ [c]) (mxW x y) := by
  obtain ⟨a, b, d⟩ := mxW_spec h.fin k.fin
  obtain ⟨m1, m2, m3⟩ := maxW_V y x
  refine (h.more k hcs hc).congr (mxW_fin h.fin k.fin) ?_
  rcases a with a | a <;> rw [a] at b d ⊢ <;> omega
end Go.Proofs.Ytacinenddnfcbaa

namespace Go.Proofs.Ytacinenddnfcbaa
open Go.ChangeShapes Go.WideShapes Go.ChangeAt Go.RowKit Ieee.Own

/-! ### blocks that hold spans -/
/-- the call's own blocks so far: where, and what each holds -/
structure Cls (w0 : World) (L : List (Nat × Nat × Nat)) (w : World) : Prop where
  old : Below w0.heap.size w0 w
  blk : ∀ (j g x y : Nat), L[j]? = some (g, x, y) → w0.heap.size ≤ g ∧ Blk w g x y
  inj : ∀ (i j g x y u v : Nat), L[i]? = some (g, x, y) → L[j]? = some (g, u, v) → i = j
theorem Cls.nil (w : World) : Cls w [] w := ⟨Below.refl _ w, fun j g x y h => by simp at h, fun i j g x y u v h => by simp at h⟩
theorem Cls.on {w0 w w' : World} {L : List (Nat × Nat × Nat)} (C : Cls w0 L w) (h : Below w.heap.size w w') : Cls w0 L w' :=
  ⟨C.old.trans (h.mono C.old.size), fun j g x y hj => ⟨(C.blk j g x y hj).1, (C.blk j g x y hj).2.on h⟩, C.inj⟩
theorem Cls.put {w0 w : World} {L : List (Nat × Nat × Nat)} (C : Cls w0 L w) (j : Nat) {g x y : Nat} (hj : L[j]? = some (g, x, y)) (s t : Nat) : Cls w0 (L.set j (g, s, t)) (put2 w g s t) := by
  have hl := (List.getElem?_eq_some_iff.1 hj).1
  have hg := C.blk j g x y hj
  refine ⟨put2_below C.old hg.1 s t, fun k h p q hk => ?_, fun i k h p q u v hi hk => ?_⟩
  · by_cases hjk : j = k
    · subst hjk
      rw [List.getElem?_set_self hl] at hk
      simp at hk
      obtain ⟨rfl, rfl, rfl⟩ := hk
      exact ⟨hg.1, hg.2.put _ _⟩
    · rw [List.getElem?_set_ne hjk] at hk
      refine ⟨(C.blk k h p q hk).1, (C.blk k h p q hk).2.other (fun e => ?_) _ _⟩
      subst e
      exact hjk (C.inj j k _ _ _ _ _ hj hk)
  · have back : ∀ n p q, (L.set j (g, s, t))[n]? = some (h, p, q) → ∃ p' q', L[n]? = some (h, p', q') := fun n p q hn => by
      by_cases hjn : j = n
      · subst hjn
        rw [List.getElem?_set_self hl] at hn
        simp at hn
        rw [← hn.1]
        exact ⟨_, _, hj⟩
      · rw [List.getElem?_set_ne hjn] at hn; exact ⟨_, _, hn⟩
    obtain ⟨p1, q1, h1⟩ := back i p q hi
    obtain ⟨p2, q2, h2⟩ := back k u v hk
    exact C.inj i k h _ _ _ _ h1 h2
theorem Cls.at_ {w0 w : World} {L : List (Nat × Nat × Nat)} (C : Cls w0 L w) (j : Nat) {g x y : Nat} (hj : L[j]? = some (g, x, y)) : Blk w g x y := (C.blk j g x y hj).2
theorem Cls.draws {w0 w : World} {L : List (Nat × Nat × Nat)} (C : Cls w0 L w) : Cls w0 L w.drew := ⟨C.old.drew, fun j g x y h => ⟨(C.blk j g x y h).1, ⟨(C.at_ j h).1, (C.at_ j h).2, (C.at_ j h).3, (C.at_ j h).4, (C.at_ j h).5⟩⟩, C.inj⟩

/-! ### awake -/
end Go.Proofs.Ytacinenddnfcbaa

namespace Ieee.Own
end Ieee.Own
namespace Go.Proofs.Ytacinenddnfcbaa
open Go.ChangeShapes Go.WideShapes Go.ChangeAt Go.RowKit Ieee.Own

def arrW (ws : Nat → Nat) : List Value := (List.range 24).map fun i => .int .u64 ((ws i : Nat) : Int)
theorem arrW_len (ws : Nat → Nat) : (arrW ws).length = 24 := by simp [arrW]
theorem arrW_at (ws : Nat → Nat) {i : Nat} (h : i < 24) : (arrW ws)[i]? = some (.int .u64 ((ws i : Nat) : Int)) := by simp [arrW, h]
theorem Holds.range {b : Nat} {w : World} {z : Int} {ws : Nat → Nat} (H : Holds b w z ws) : w.rangeAt b 0 (arrW ws) := by
  intro j v hv
  have hj : j < 24 := by
    have := (List.getElem?_eq_some_iff.1 hv).1
    rwa [arrW_len] at this
  rw [arrW_at ws hj] at hv
  rw [Nat.zero_add, H.cell j hj]; exact hv
/-- a number's words in a block that was made last -/
structure Copy (w : World) (bs : Nat → Nat) (wr : World) : Prop where
  old : Below w.heap.size w wr
  size : w.heap.size < wr.heap.size
  cell : ∀ i, i < 24 → wr.cell? ⟨w.heap.size, i, none⟩ = some (.int .u64 (bs i))
  free : ∀ i, i < 24 → wr.frozen? ⟨w.heap.size, i, none⟩ = false
theorem Holds.drew {b : Nat} {w : World} {z : Int} {ws : Nat → Nat} (H : Holds b w z ws) : Holds b w.drew z ws := ⟨H.lt, H.size, H.cell, H.free, H.val⟩

/-- the words and the number they tell -/
structure Sums (ws : Nat → Nat) (z : Int) : Prop where
  lt : ∀ i, ws i < 18446744073709551616
  val : ((2 ^ (64 * 24) : Nat) : Int) ∣ (sumW ws 24 : Int) - z
theorem Sums.holds {ws : Nat → Nat} {z : Int} (S : Sums ws z) {w wr : World} (C : Copy w ws wr) : Holds w.heap.size wr z ws := ⟨S.lt, C.size, C.cell, C.free, S.val⟩

theorem there_len {w : World} {b : Nat} (h : w.there b 0 24) (ws : Nat → Nat) : w.there b 0 (arrW ws).length := by rw [arrW_len]; exact h
/-! ### spans and long sums in variables -/
structure Env (w0 : World) (L : List (Nat × Nat × Nat)) (A : List (Nat × Int)) (w : World) : Prop where
  cls : Cls w0 L w
  acc : ∀ (j k : Nat) (z : Int), A[j]? = some (k, z) → w0.heap.size ≤ k ∧ ∃ ws, Holds k w z ws
  inj : ∀ (i j k : Nat) (z y : Int), A[i]? = some (k, z) → A[j]? = some (k, y) → i = j
  sep : ∀ (i j g k x y : Nat) (z : Int), L[i]? = some (g, x, y) → A[j]? = some (k, z) → g ≠ k
theorem Holds.heap {k : Nat} {w w' : World} {z : Int} {ws : Nat → Nat} (H : Holds k w z ws) (h : w'.heap[k]? = w.heap[k]?) (hs : w.heap.size ≤ w'.heap.size) : Holds k w' z ws :=
  ⟨H.lt, Nat.lt_of_lt_of_le H.size hs, fun i hi => by rw [← H.cell i hi]; unfold World.cell?; rw [h], fun i hi => by rw [← H.free i hi]; unfold World.frozen?; rw [h], H.val⟩
theorem Blk.heap {g x y : Nat} {w w' : World} (b : Blk w g x y) (h : w'.heap[g]? = w.heap[g]?) (hs : w.heap.size ≤ w'.heap.size) : Blk w' g x y :=
  ⟨Nat.lt_of_lt_of_le b.lt hs, by rw [← b.lo]; unfold World.cell?; rw [h], by rw [← b.hi]; unfold World.cell?; rw [h], by rw [← b.f0]; unfold World.frozen?; rw [h], by rw [← b.f1]; unfold World.frozen?; rw [h]⟩
theorem Env.of {w0 w : World} {L : List (Nat × Nat × Nat)} (C : Cls w0 L w) : Env w0 L [] w :=
  ⟨C, fun j k z h => by simp at h, fun i j k z y h => by simp at h, fun i j g k x y z _ h => by simp at h⟩
section
variable {w0 w w' : World} {L : List (Nat × Nat × Nat)} {A : List (Nat × Int)}
theorem Env.on (E : Env w0 L A w) (h : Below w.heap.size w w') : Env w0 L A w' :=
  ⟨E.cls.on h, fun j k z hj => ⟨(E.acc j k z hj).1, by obtain ⟨ws, H⟩ := (E.acc j k z hj).2; exact ⟨ws, H.heap (h.block _ H.size) h.size⟩⟩, E.inj, E.sep⟩
theorem Env.draws (E : Env w0 L A w) : Env w0 L A w.drew := E.on (Below.refl _ w).drew
theorem Env.put (E : Env w0 L A w) (j : Nat) {g x y : Nat} (hj : L[j]? = some (g, x, y)) (s t : Nat) : Env w0 (L.set j (g, s, t)) A (put2 w g s t) := by
  have hl := (List.getElem?_eq_some_iff.1 hj).1
  have back : ∀ n h p q, (L.set j (g, s, t))[n]? = some (h, p, q) → ∃ p' q', L[n]? = some (h, p', q') := fun n h p q hn => by
    by_cases hjn : j = n
    · subst hjn
      rw [List.getElem?_set_self hl] at hn
      simp at hn
      rw [← hn.1]
      exact ⟨_, _, hj⟩
    · rw [List.getElem?_set_ne hjn] at hn; exact ⟨_, _, hn⟩
  refine ⟨E.cls.put j hj s t, fun i k z hi => ⟨(E.acc i k z hi).1, ?_⟩, E.inj, fun i n h k p q z hi hn => ?_⟩
  · obtain ⟨ws, H⟩ := (E.acc i k z hi).2
    have hne := E.sep j i g k x y z hj hi
    exact ⟨ws, H.heap (by unfold put2; rw [Below.heap_setCell _ _ _ _ (by simpa using Ne.symm hne), Below.heap_setCell _ _ _ _ (by simpa using Ne.symm hne)]) (by rw [put2_size]; exact Nat.le_refl _)⟩
  · obtain ⟨p', q', h'⟩ := back i h p q hi
    exact E.sep i n h k p' q' z h' hn
theorem Env.add (E : Env w0 L A w) (j : Nat) {k : Nat} {z z' : Int} (hj : A[j]? = some (k, z)) (hP : ∃ ns, Holds k w' z' ns) (hs : Still k w w') : Env w0 L (A.set j (k, z')) w' := by
  have hl := (List.getElem?_eq_some_iff.1 hj).1
  have hk := (E.acc j k z hj).1
  have back : ∀ n m y, (A.set j (k, z'))[n]? = some (m, y) → ∃ y', A[n]? = some (m, y') := fun n m y hn => by
    by_cases hjn : j = n
    · subst hjn
      rw [List.getElem?_set_self hl] at hn
      simp at hn
      rw [← hn.1]
      exact ⟨_, hj⟩
    · rw [List.getElem?_set_ne hjn] at hn; exact ⟨_, hn⟩
  refine ⟨⟨E.cls.old.trans (hs.1.mono hk), fun i g x y hi => ?_, E.cls.inj⟩, fun i m y hi => ?_, fun i n m y y' hi hn => ?_, fun i n g m x y y' hi hn => ?_⟩
  · have b := E.cls.blk i g x y hi
    exact ⟨b.1, b.2.heap (hs.2.2 g b.2.lt (E.sep i j g k x y z hi hj)) hs.1.size⟩
  · by_cases hij : j = i
    · subst hij
      rw [List.getElem?_set_self hl] at hi
      simp at hi
      obtain ⟨rfl, rfl⟩ := hi
      exact ⟨hk, hP⟩
    · rw [List.getElem?_set_ne hij] at hi
      obtain ⟨ws, H⟩ := (E.acc i m y hi).2
      have hne : m ≠ k := fun e => by subst e; exact hij (E.inj j i m z y hj hi)
      exact ⟨(E.acc i m y hi).1, ws, H.heap (hs.2.2 m H.size hne) hs.1.size⟩
  · obtain ⟨p, hp⟩ := back i m y hi
    obtain ⟨q, hq⟩ := back n m y' hn
    exact E.inj i n m p q hp hq
  · obtain ⟨q, hq⟩ := back n m y' hn
    exact E.sep i n g m x y q hi hq
end

/-! ### fit numbers, in units of the long sum -/
end Go.Proofs.Ytacinenddnfcbaa

namespace Go.Proofs.Ytacinenddnfcbaa
open Go.ChangeShapes Go.WideShapes Go.ChangeAt Go.RowKit Ieee.Own

theorem Still.setCells {b : Nat} : ∀ (vs : List Value) (o : Nat) {u w : World}, Still b u w → Still b u (w.setCells b o vs)
  | [], _, _, _, h => h
  | v :: r, o, u, w, h => by
    rw [World.setCells]
    exact Still.setCells r (o + 1) (h.setCell (p := ⟨b, o, none⟩) rfl v)
theorem Holds.there {b : Nat} {w : World} {z : Int} {ws : Nat → Nat} (H : Holds b w z ws) : w.there b 0 24 := fun j hj => by
  rw [Nat.zero_add]; exact ⟨by rw [H.cell j hj]; rfl, H.free j hj⟩
theorem Sums.stored {ws : Nat → Nat} {z : Int} (S : Sums ws z) {b : Nat} {w : World} (ht : w.there b 0 24) (hb : b < w.heap.size) : Holds b (w.setCells b 0 (arrW ws)) z ws := by
  have r := World.rangeAt_setCells_same w b 0 (arrW ws) (there_len ht ws)
  refine ⟨S.lt, ?_, fun i hi => ?_, fun i hi => ?_, S.val⟩
  · have := (Still.setCells (arrW ws) 0 (Still.refl b w)).1.size; omega
  · have := r i _ (arrW_at ws hi); rw [Nat.zero_add] at this; exact this
  · rw [World.frozen?_setCells]; have := (ht i hi).2; rw [Nat.zero_add] at this; exact this
theorem Env.copy {w0 w : World} {L : List (Nat × Nat × Nat)} {A : List (Nat × Int)} (E : Env w0 L A w) (j : Nat) {k : Nat} {z z' : Int} (hj : A[j]? = some (k, z)) {ws : Nat → Nat} (S : Sums ws z') : Env w0 L (A.set j (k, z')) (w.setCells k 0 (arrW ws)) := by
  obtain ⟨-, ns, H⟩ := E.acc j k z hj
  exact E.add j hj ⟨ws, S.stored H.there H.size⟩ (Still.setCells (arrW ws) 0 (Still.refl k w))
theorem Env.there {w0 w : World} {L : List (Nat × Nat × Nat)} {A : List (Nat × Int)} (E : Env w0 L A w) (j : Nat) {k : Nat} {z : Int} (hj : A[j]? = some (k, z)) : w.there k 0 24 := by
  obtain ⟨-, ns, H⟩ := E.acc j k z hj
  exact H.there
/-! ### the region that copies the long sum into two variables, in whatever order -/
def ptr (g : Nat) : Value := .pointer (some ⟨g, 0, none⟩)
theorem ptr_inj {g h : Nat} (e : ptr g = ptr h) : g = h := by
  unfold ptr at e
  simp only [Value.pointer.injEq, Option.some.injEq, Addr.mk.injEq] at e
  exact e.1
def done4 (L : List (Option Value)) (i : Nat) (z : Int) : Int := if (L[4 + i]?.getD none).isSome then z else 0
structure WinR (w : World) (LS : List (Nat × Nat × Nat)) (a0 : Nat) (z : Int) (ws : Nat → Nat) (L : List (Option Value)) (wx : World) : Prop where
  det : ∀ (i : Nat) (v : Value), i < 2 → L[i]? = some (some v) → v = .agg (arrW ws).toArray
  ord : ∀ i : Nat, i < 2 → L[2 + i]? = some none → ∀ o : Value, L[4 + i]? ≠ some (some o)
  env : ∃ A, Env w LS A wx ∧ A[0]? = some (a0, z) ∧ (∀ i : Nat, i < 2 → ∀ v : Value, L[2 + i]? = some (some v) → ∃ g j, v = ptr g ∧ 0 < j ∧ A[j]? = some (g, done4 L i z))
  ne : ∀ v u : Value, L[2]? = some (some v) → L[3]? = some (some u) → v ≠ u
section
variable {w : World} {LS : List (Nat × Nat × Nat)} {a0 : Nat} {z : Int} {ws : Nat → Nat} {L : List (Option Value)} {wx : World}
theorem WinR.store (H : WinR w LS a0 z ws L wx) (S : Sums ws z) {i g : Nat} {o : Value} (hi : i < 2) (hn : L[4 + i]? = some none) (hv : L[2 + i]? = some (some (ptr g))) : WinR w LS a0 z ws (L.set (4 + i) (some o)) (wx.setCells g 0 (arrW ws)) ∧ wx.there g 0 24 ∧ a0 ≠ g := by
  have hl : 4 + i < L.length := (List.getElem?_eq_some_iff.1 hn).1
  obtain ⟨A, E, h0, hA⟩ := H.env
  obtain ⟨g', j, e1, e2, e3⟩ := hA i hi _ hv
  obtain rfl := ptr_inj e1
  refine ⟨⟨fun k v hk hv => ?_, fun k hk hk2 o => ?_, ⟨A.set j (g, z), E.copy j e3 S, by rw [List.getElem?_set_ne (by omega)]; exact h0, fun k hk v hv2 => ?_⟩, ?_⟩, E.there j e3, fun e => by subst e; have := E.inj 0 j _ _ _ h0 e3; omega⟩
  · rw [List.getElem?_set_ne (by omega)] at hv; exact H.det k v hk hv
  · rw [List.getElem?_set_ne (by omega)] at hk2
    by_cases e : i = k
    · subst e
      rw [hv] at hk2
      simp at hk2
    · rw [List.getElem?_set_ne (by omega)]; exact H.ord k hk hk2 o
  · rw [List.getElem?_set_ne (by omega)] at hv2
    have hjl : j < A.length := (List.getElem?_eq_some_iff.1 e3).1
    by_cases e : i = k
    · subst e
      rw [hv] at hv2
      refine ⟨g, j, (Option.some.inj (Option.some.inj hv2)).symm, e2, ?_⟩
      rw [List.getElem?_set_self hjl]
      unfold done4
      rw [List.getElem?_set_self hl]
      rfl
    · obtain ⟨h, m, x1, x2, x3⟩ := hA k hk v hv2
      have hne : ptr g ≠ v := by
        have hc : (i = 0 ∧ k = 1) ∨ (i = 1 ∧ k = 0) := by omega
        rcases hc with ⟨rfl, rfl⟩ | ⟨rfl, rfl⟩
        · exact H.ne _ _ hv hv2
        · exact (H.ne _ _ hv2 hv).symm
      refine ⟨h, m, x1, x2, ?_⟩
      have hjm : j ≠ m := fun ee => by
        subst ee
        rw [e3] at x3
        have := (Prod.mk.inj (Option.some.inj x3)).1
        rw [x1, this] at hne
        exact hne rfl
      rw [List.getElem?_set_ne hjm]
      have d4 : done4 (L.set (4 + i) (some o)) k z = done4 L k z := by unfold done4; rw [List.getElem?_set_ne (by omega)]
      rw [d4]
      exact x3
  · rw [List.getElem?_set_ne (by omega), List.getElem?_set_ne (by omega)]; exact H.ne
end
end Go.Proofs.Ytacinenddnfcbaa

namespace Go.Proofs.Ytacinenddnfcbaa
open Go.ChangeShapes Go.WideShapes Go.ChangeAt Go.RowKit Ieee.Own

/-! ### one end of a span in a variable -/
theorem Blk.setLo {w : World} {g x y : Nat} (b : Blk w g x y) (s : Nat) : Blk (w.setCell ⟨g, 0, none⟩ (.float .f64 s)) g s y :=
  ⟨by simp; exact b.lt, World.cell?_setCell_same _ _ _ b.lo, by rw [World.cell?_setCell_other _ _ _ _ (by simp)]; exact b.hi, by rw [World.frozen?_setCell]; exact b.f0, by rw [World.frozen?_setCell]; exact b.f1⟩
theorem Blk.setHi {w : World} {g x y : Nat} (b : Blk w g x y) (s : Nat) : Blk (w.setCell ⟨g, 1, none⟩ (.float .f64 s)) g x s :=
  ⟨by simp; exact b.lt, by rw [World.cell?_setCell_other _ _ _ _ (by simp)]; exact b.lo, World.cell?_setCell_same _ _ _ b.hi, by rw [World.frozen?_setCell]; exact b.f0, by rw [World.frozen?_setCell]; exact b.f1⟩
theorem Blk.setOther {w : World} {g x y h i : Nat} (b : Blk w g x y) (hg : g ≠ h) (v : Value) : Blk (w.setCell ⟨h, i, none⟩ v) g x y := by
  have e : (w.setCell ⟨h, i, none⟩ v).heap[g]? = w.heap[g]? := Below.heap_setCell _ _ _ _ hg
  exact ⟨by simp; exact b.lt, by rw [← b.lo]; unfold World.cell?; rw [e], by rw [← b.hi]; unfold World.cell?; rw [e], by rw [World.frozen?_setCell]; exact b.f0, by rw [World.frozen?_setCell]; exact b.f1⟩
theorem Cls.one {w0 w : World} {L : List (Nat × Nat × Nat)} (C : Cls w0 L w) (j : Nat) {g x y s t i : Nat} {v : Value} (hj : L[j]? = some (g, x, y)) (hb : Blk (w.setCell ⟨g, i, none⟩ v) g s t) : Cls w0 (L.set j (g, s, t)) (w.setCell ⟨g, i, none⟩ v) := by
  have hl := (List.getElem?_eq_some_iff.1 hj).1
  have hg := C.blk j g x y hj
  refine ⟨C.old.setCell hg.1 _, fun k h p q hk => ?_, fun i k h p q u v hi hk => ?_⟩
  · by_cases hjk : j = k
    · subst hjk
      rw [List.getElem?_set_self hl] at hk
      simp at hk
      obtain ⟨rfl, rfl, rfl⟩ := hk
      exact ⟨hg.1, hb⟩
    · rw [List.getElem?_set_ne hjk] at hk
      refine ⟨(C.blk k h p q hk).1, (C.blk k h p q hk).2.setOther (fun e => ?_) _⟩
      subst e
      exact hjk (C.inj j k _ _ _ _ _ hj hk)
  · have back : ∀ n p q, (L.set j (g, s, t))[n]? = some (h, p, q) → ∃ p' q', L[n]? = some (h, p', q') := fun n p q hn => by
      by_cases hjn : j = n
      · subst hjn
        rw [List.getElem?_set_self hl] at hn
        simp at hn
        rw [← hn.1]
        exact ⟨_, _, hj⟩
      · rw [List.getElem?_set_ne hjn] at hn; exact ⟨_, _, hn⟩
    obtain ⟨p1, q1, h1⟩ := back i p q hi
    obtain ⟨p2, q2, h2⟩ := back k u v hk
    exact C.inj i k h _ _ _ _ h1 h2
theorem Cls.lo {w0 w : World} {L : List (Nat × Nat × Nat)} (C : Cls w0 L w) (j : Nat) {g x y : Nat} (hj : L[j]? = some (g, x, y)) (s : Nat) : Cls w0 (L.set j (g, s, y)) (w.setCell ⟨g, 0, none⟩ (.float .f64 s)) :=
  C.one j hj ((C.at_ j hj).setLo s)
theorem Cls.hi {w0 w : World} {L : List (Nat × Nat × Nat)} (C : Cls w0 L w) (j : Nat) {g x y : Nat} (hj : L[j]? = some (g, x, y)) (s : Nat) : Cls w0 (L.set j (g, x, s)) (w.setCell ⟨g, 1, none⟩ (.float .f64 s)) :=
  C.one j hj ((C.at_ j hj).setHi s)

/-! ### about -/
end Go.Proofs.Ytacinenddnfcbaa

namespace Go.Proofs.Ytacinenddnfcbaa
open Go.ChangeShapes Go.WideShapes Go.ChangeAt Go.RowKit Ieee.Own

end Go.Proofs.Ytacinenddnfcbaa
