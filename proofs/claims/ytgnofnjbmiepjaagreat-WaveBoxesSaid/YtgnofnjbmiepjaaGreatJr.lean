/- Proved here: what the texts Wrg, Pof prove, one behind the other. -/
import Derived.Test.YtgnofnjbmiepjaaGreatJb8
import Derived.Test.YtgnofnjbmiepjaaGreatJb4
import Derived.Test.YtgnofnjbmiepjaaGreatJp

namespace Go.Proofs.YtgnofnjbmiepjaaGreat
open Go.ChangeShapes Go.WideShapes Go.ChangeAt Go.RowKit Ieee.Own

theorem BW.on {w w' : World} {g : Nat} {us : List Nat} (b : BW w g us) (h : Below w.heap.size w w') : BW w' g us :=
 ⟨Nat.lt_of_lt_of_le b.lt h.size, fun i u e => (cell_on h _ b.lt).trans (b.at_ i u e), fun i u e => (frozen_on h _ b.lt).trans (b.fr i u e)⟩
theorem BW.box (w : World) (t : TypeId) (us : List Nat) : BW (w.alloc (objW t us)) w.heap.size us := by
 have S : Blocks w [objW t us] (w.alloc (objW t us)) := (Blocks.nil w).alloc (by simp) _
 unfold objW at S
 refine ⟨by simp, fun i u e => (S.cell 0 rfl i w.heap.size rfl).trans (by simp [e]), fun i u e => S.free 0 rfl i w.heap.size rfl⟩
theorem BW.set1 {w : World} {g k x : Nat} {us : List Nat} (b : BW w g us) (hk : us[k]? = some x) (v : Nat) : BW (w.setCell ⟨g, k, none⟩ (.float .f64 v)) g (us.set k v) := by
 have hl := (List.getElem?_eq_some_iff.1 hk).1
 refine ⟨by simpa using b.lt, fun i u e => ?_, fun i u e => ?_⟩
 · by_cases h : k = i
   · subst h
     rw [List.getElem?_set_self hl] at e
     obtain rfl := Option.some.inj e
     exact World.cell?_setCell_same _ _ _ (b.at_ _ _ hk)
   · rw [List.getElem?_set_ne h] at e
     rw [World.cell?_setCell_other _ _ _ _ (by simp)]
     exact b.at_ i u e
 · rw [World.frozen?_setCell]
   by_cases h : k = i
   · subst h; exact b.fr _ _ hk
   · rw [List.getElem?_set_ne h] at e; exact b.fr i u e
theorem BW.other1 {w : World} {g h k : Nat} {us : List Nat} (b : BW w g us) (hg : g ≠ h) (v : Nat) : BW (w.setCell ⟨h, k, none⟩ (.float .f64 v)) g us := by
 refine ⟨by simpa using b.lt, fun i u e => ?_, fun i u e => ?_⟩
 · rw [World.cell?_setCell_other _ _ _ _ (by simp)]; exact b.at_ i u e
 · rw [World.frozen?_setCell]; exact b.fr i u e
theorem BW.put {g : Nat} : ∀ (vs : List Nat) {w : World} {us : List Nat} (k : Nat), BW w g us → k + vs.length ≤ us.length → BW (putW w g k vs) g (setL us k vs)
 | [], _, _, _, b, _ => b
 | v :: vs, w, us, k, b, h => by
   simp only [List.length_cons] at h
   obtain ⟨x, hx⟩ : ∃ x, us[k]? = some x := ⟨us[k]'(by omega), List.getElem?_eq_getElem (by omega)⟩
   exact BW.put vs (k + 1) (b.set1 hx v) (by simp; omega)
theorem BW.other {g h : Nat} {us : List Nat} (hg : g ≠ h) : ∀ (vs : List Nat) {w : World} (k : Nat), BW w g us → BW (putW w h k vs) g us
 | [], _, _, b => b
 | v :: vs, _, k, b => BW.other hg vs (k + 1) (b.other1 hg v)
theorem Kw.nil (w : World) : Kw w [] w := ⟨Below.refl _ w, fun j g us h => by simp at h, fun i j g us vs h => by simp at h⟩
theorem Kw.at_ {w0 w : World} {L : List (Option (Nat × List Nat))} (C : Kw w0 L w) (j : Nat) {g : Nat} {us : List Nat} (hj : L[j]? = some (some (g, us))) : BW w g us := (C.blk j g us hj).2
theorem Kw.on {w0 w w' : World} {L : List (Option (Nat × List Nat))} (C : Kw w0 L w) (h : Below w.heap.size w w') : Kw w0 L w' :=
 ⟨C.old.trans (h.mono C.old.size), fun j g us hj => ⟨(C.blk j g us hj).1, (C.at_ j hj).on h⟩, C.inj⟩
theorem Kw.draws {w0 w : World} {L : List (Option (Nat × List Nat))} (C : Kw w0 L w) : Kw w0 L w.drew :=
 ⟨C.old.drew, fun j g us h => ⟨(C.blk j g us h).1, ⟨(C.at_ j h).1, (C.at_ j h).2, (C.at_ j h).3⟩⟩, C.inj⟩
theorem Kw.make {w0 w : World} {L : List (Option (Nat × List Nat))} (C : Kw w0 L w) (j : Nat) (hj : L[j]? = some none) (t : TypeId) (us : List Nat) : Kw w0 (L.set j (some (w.heap.size, us))) (w.alloc (objW t us)) := by
 have hb : Below w.heap.size w (w.alloc (objW t us)) := (Below.refl _ w).alloc (Nat.le_refl _) _
 have hl := (List.getElem?_eq_some_iff.1 hj).1
 have old : ∀ i g vs, i ≠ j → (L.set j (some (w.heap.size, us)))[i]? = some (some (g, vs)) → L[i]? = some (some (g, vs)) := fun i g vs hi h => by
  rwa [List.getElem?_set_ne (Ne.symm hi)] at h
 have new : ∀ g vs, (L.set j (some (w.heap.size, us)))[j]? = some (some (g, vs)) → g = w.heap.size ∧ vs = us := fun g vs h => by
  rw [List.getElem?_set_self hl] at h
  simp at h
  exact ⟨h.1.symm, h.2.symm⟩
 refine ⟨C.old.trans (hb.mono C.old.size), fun i g vs hi => ?_, fun i k g vs ws hi hk => ?_⟩
 · by_cases e : i = j
   · subst e
     obtain ⟨rfl, rfl⟩ := new _ _ hi
     exact ⟨C.old.size, BW.box w t vs⟩
   · have h := old _ _ _ e hi
     exact ⟨(C.blk i g vs h).1, (C.at_ i h).on hb⟩
 · by_cases e : i = j <;> by_cases f : k = j
   · omega
   · subst e
     have := (C.at_ k (old _ _ _ f hk)).lt
     have := (new _ _ hi).1
     omega
   · subst f
     have := (C.at_ i (old _ _ _ e hi)).lt
     have := (new _ _ hk).1
     omega
   · exact C.inj i k g vs ws (old _ _ _ e hi) (old _ _ _ f hk)
theorem Kw.more {w0 w : World} {L : List (Option (Nat × List Nat))} (C : Kw w0 L w) : Kw w0 (L ++ [none]) w := by
 have key : ∀ i g vs, (L ++ [none])[i]? = some (some (g, vs)) → L[i]? = some (some (g, vs)) := fun i g vs h => by
  by_cases hi : i < L.length
  · rwa [List.getElem?_append_left hi] at h
  · have := (List.getElem?_eq_some_iff.1 h).1
    simp at this
    obtain rfl : i = L.length := by omega
    simp at h
 exact ⟨C.old, fun j g us h => C.blk j g us (key _ _ _ h), fun i j g us vs h k => C.inj i j g us vs (key _ _ _ h) (key _ _ _ k)⟩
theorem Kw.nones {w0 w : World} {L : List (Option (Nat × List Nat))} (C : Kw w0 L w) : ∀ n, Kw w0 (L ++ List.replicate n none) w
 | 0 => by simpa using C
 | n + 1 => by
   have := (C.nones n).more
   rwa [List.append_assoc, ← List.replicate_succ'] at this
theorem Kw.new {w0 w : World} {L : List (Option (Nat × List Nat))} (C : Kw w0 L w) (t : TypeId) (us : List Nat) : Kw w0 (L ++ [some (w.heap.size, us)]) (w.alloc (objW t us)) := by
 have := C.more.make L.length (by simp) t us
 simpa using this
theorem Kw.put {w0 w : World} {L : List (Option (Nat × List Nat))} (C : Kw w0 L w) (j : Nat) {g : Nat} {us : List Nat} (hj : L[j]? = some (some (g, us))) (k : Nat) (vs : List Nat) (hk : k + vs.length ≤ us.length) : Kw w0 (L.set j (some (g, setL us k vs))) (putW w g k vs) := by
 have hl := (List.getElem?_eq_some_iff.1 hj).1
 have hg := C.blk j g us hj
 have old : ∀ i h ws, i ≠ j → (L.set j (some (g, setL us k vs)))[i]? = some (some (h, ws)) → L[i]? = some (some (h, ws)) := fun i h ws hi e => by
  rwa [List.getElem?_set_ne (Ne.symm hi)] at e
 have new : ∀ h ws, (L.set j (some (g, setL us k vs)))[j]? = some (some (h, ws)) → h = g ∧ ws = setL us k vs := fun h ws e => by
  rw [List.getElem?_set_self hl] at e
  simp at e
  exact ⟨e.1.symm, e.2.symm⟩
 have back : ∀ i h ws, (L.set j (some (g, setL us k vs)))[i]? = some (some (h, ws)) → ∃ ws', L[i]? = some (some (h, ws')) := fun i h ws e => by
  by_cases q : i = j
  · subst q
    obtain ⟨rfl, -⟩ := new _ _ e
    exact ⟨_, hj⟩
  · exact ⟨_, old _ _ _ q e⟩
 refine ⟨putW_below hg.1 vs k C.old, fun i h ws hi => ?_, fun i m h ws xs hi hm => ?_⟩
 · by_cases q : i = j
   · subst q
     obtain ⟨rfl, rfl⟩ := new _ _ hi
     exact ⟨hg.1, hg.2.put vs k hk⟩
   · have e := old _ _ _ q hi
     refine ⟨(C.blk i h ws e).1, BW.other (fun z => ?_) vs k (C.at_ i e)⟩
     subst z
     exact q (C.inj i j _ _ _ e hj)
 · obtain ⟨a, ha⟩ := back _ _ _ hi
   obtain ⟨b, hb⟩ := back _ _ _ hm
   exact C.inj i m h _ _ ha hb

theorem Kw.and {w0 w : World} {L : List (Option (Nat × List Nat))} {n : Nat} (C : Kw w0 L w) (h : w.heap.size = n) (t : TypeId) (us : List Nat) : Kw w0 (L ++ [some (n, us)]) (w.alloc (objW t us)) := by
 subst h; exact C.new t us
def ptrV (h : Nat) : Value := .pointer (some ⟨h, 0, none⟩)
section
variable {ops : Array Oper} {Q : Exit → Act → World → Prop}
end
end Go.Proofs.YtgnofnjbmiepjaaGreat

namespace Go.Proofs.YtgnofnjbmiepjaaGreat
open Go.ChangeShapes Go.WideShapes Go.ChangeAt Go.RowKit Ieee.Own

end Go.Proofs.YtgnofnjbmiepjaaGreat
