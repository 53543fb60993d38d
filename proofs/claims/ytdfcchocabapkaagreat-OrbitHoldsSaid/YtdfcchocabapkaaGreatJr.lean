/- Proved here: what the texts Wrg, Pof prove, one behind the other. -/
import Derived.Test.YtdfcchocabapkaaGreatJb8
import Derived.Test.YtdfcchocabapkaaGreatJb4
import Derived.Test.YtdfcchocabapkaaGreatJp

set_option maxRecDepth 100000
set_option maxHeartbeats 1000000
namespace Go.Proofs.YtdfcchocabapkaaGreat
open Go.ChangeShapes Go.WideShapes Go.ChangeAt Go.RowKit Ieee.Own

structure BW (w : World) (g : Nat) (us : List Nat) : Prop where
 lt : g < w.heap.size
 at_ : ∀ i u, us[i]? = some u → w.cell? ⟨g, i, none⟩ = some (.float .f64 u)
 fr : ∀ i u, us[i]? = some u → w.frozen? ⟨g, i, none⟩ = false
def objW (t : TypeId) (us : List Nat) : Obj := .cells (us.map (Value.float .f64)).toArray t (0, 0)
theorem BW.on {w w' : World} {g : Nat} {us : List Nat} (b : BW w g us) (h : Below w.heap.size w w') : BW w' g us :=
 ⟨Nat.lt_of_lt_of_le b.lt h.size, fun i u e => (cell_on h _ b.lt).trans (b.at_ i u e), fun i u e => (frozen_on h _ b.lt).trans (b.fr i u e)⟩
theorem BW.box (w : World) (t : TypeId) (us : List Nat) : BW (w.alloc (objW t us)) w.heap.size us := by
 have S : Blocks w [objW t us] (w.alloc (objW t us)) := (Blocks.nil w).alloc (by simp) _
 unfold objW at S
 refine ⟨by simp, fun i u e => (S.cell 0 rfl i w.heap.size rfl).trans (by simp [e]), fun i u e => S.free 0 rfl i w.heap.size rfl⟩
theorem BW.set1 {w : World} {g k x : Nat} {us : List Nat} (b : BW w g us) (hk : us[k]? = some x) (v : Nat) : BW (w.setCell ⟨g, k, none⟩ (.float .f64 v)) g (us.set k v) := by
 have hl := (List.getElem?_eq_some_iff.1 hk).1
 refine ⟨by simpa using b.lt, fun i u e => ?_, fun i u e => ?_⟩
 · by_cases h : k = i
   · subst h
     rw [List.getElem?_set_self hl] at e
     obtain rfl := Option.some.inj e
     exact World.cell?_setCell_same _ _ _ (b.at_ _ _ hk)
   · rw [List.getElem?_set_ne h] at e
     rw [World.cell?_setCell_other _ _ _ _ (by simp)]
     exact b.at_ i u e
 · rw [World.frozen?_setCell]
   by_cases h : k = i
   · subst h; exact b.fr _ _ hk
   · rw [List.getElem?_set_ne h] at e; exact b.fr i u e
theorem BW.other1 {w : World} {g h k : Nat} {us : List Nat} (b : BW w g us) (hg : g ≠ h) (v : Nat) : BW (w.setCell ⟨h, k, none⟩ (.float .f64 v)) g us := by
 refine ⟨by simpa using b.lt, fun i u e => ?_, fun i u e => ?_⟩
 · rw [World.cell?_setCell_other _ _ _ _ (by simp)]; exact b.at_ i u e
 · rw [World.frozen?_setCell]; exact b.fr i u e
def putW (w : World) (g : Nat) : Nat → List Nat → World
 | _, [] => w
 | k, v :: vs => putW (w.setCell ⟨g, k, none⟩ (.float .f64 v)) g (k + 1) vs
def setL : List Nat → Nat → List Nat → List Nat
 | us, _, [] => us
 | us, k, v :: vs => setL (us.set k v) (k + 1) vs
theorem BW.put {g : Nat} : ∀ (vs : List Nat) {w : World} {us : List Nat} (k : Nat), BW w g us → k + vs.length ≤ us.length → BW (putW w g k vs) g (setL us k vs)
 | [], _, _, _, b, _ => b
 | v :: vs, w, us, k, b, h => by
   simp only [List.length_cons] at h
   obtain ⟨x, hx⟩ : ∃ x, us[k]? = some x := ⟨us[k]'(by omega), List.getElem?_eq_getElem (by omega)⟩
   exact BW.put vs (k + 1) (b.set1 hx v) (by simp; omega)
theorem BW.other {g h : Nat} {us : List Nat} (hg : g ≠ h) : ∀ (vs : List Nat) {w : World} (k : Nat), BW w g us → BW (putW w h k vs) g us
 | [], _, _, b => b
 | v :: vs, _, k, b => BW.other hg vs (k + 1) (b.other1 hg v)
theorem putW_below {B g : Nat} {u : World} (hg : B ≤ g) : ∀ (vs : List Nat) {w : World} (k : Nat), Below B u w → Below B u (putW w g k vs)
 | [], _, _, b => b
 | _ :: vs, _, k, b => putW_below hg vs (k + 1) (b.setCell hg _)
structure Kw (w0 : World) (L : List (Option (Nat × List Nat))) (w : World) : Prop where
 old : Below w0.heap.size w0 w
 blk : ∀ (j g : Nat) (us : List Nat), L[j]? = some (some (g, us)) → w0.heap.size ≤ g ∧ BW w g us
 inj : ∀ (i j g : Nat) (us vs : List Nat), L[i]? = some (some (g, us)) → L[j]? = some (some (g, vs)) → i = j
theorem Kw.nil (w : World) : Kw w [] w := ⟨Below.refl _ w, fun j g us h => by simp at h, fun i j g us vs h => by simp at h⟩
theorem Kw.at_ {w0 w : World} {L : List (Option (Nat × List Nat))} (C : Kw w0 L w) (j : Nat) {g : Nat} {us : List Nat} (hj : L[j]? = some (some (g, us))) : BW w g us := (C.blk j g us hj).2
theorem Kw.ce {w0 w : World} {L : List (Option (Nat × List Nat))} (C : Kw w0 L w) (j k : Nat) {g : Nat} {us : List Nat} {u : Nat} (hj : L[j]? = some (some (g, us))) (hk : us[k]? = some u) : w.cell? ⟨g, k, none⟩ = some (.float .f64 u) := (C.at_ j hj).at_ k u hk
theorem Kw.fe {w0 w : World} {L : List (Option (Nat × List Nat))} (C : Kw w0 L w) (j k : Nat) {g : Nat} {us : List Nat} {u : Nat} (hj : L[j]? = some (some (g, us))) (hk : us[k]? = some u) : w.frozen? ⟨g, k, none⟩ = false := (C.at_ j hj).fr k u hk
theorem Kw.on {w0 w w' : World} {L : List (Option (Nat × List Nat))} (C : Kw w0 L w) (h : Below w.heap.size w w') : Kw w0 L w' :=
 ⟨C.old.trans (h.mono C.old.size), fun j g us hj => ⟨(C.blk j g us hj).1, (C.at_ j hj).on h⟩, C.inj⟩
theorem Kw.draws {w0 w : World} {L : List (Option (Nat × List Nat))} (C : Kw w0 L w) : Kw w0 L w.drew :=
 ⟨C.old.drew, fun j g us h => ⟨(C.blk j g us h).1, ⟨(C.at_ j h).1, (C.at_ j h).2, (C.at_ j h).3⟩⟩, C.inj⟩
theorem Kw.make {w0 w : World} {L : List (Option (Nat × List Nat))} (C : Kw w0 L w) (j : Nat) (hj : L[j]? = some none) (t : TypeId) (us : List Nat) : Kw w0 (L.set j (some (w.heap.size, us))) (w.alloc (objW t us)) := by
 have hb : Below w.heap.size w (w.alloc (objW t us)) := (Below.refl _ w).alloc (Nat.le_refl _) _
 have hl := (List.getElem?_eq_some_iff.1 hj).1
 have old : ∀ i g vs, i ≠ j → (L.set j (some (w.heap.size, us)))[i]? = some (some (g, vs)) → L[i]? = some (some (g, vs)) := fun i g vs hi h => by
  rwa [List.getElem?_set_ne (Ne.symm hi)] at h
 have new : ∀ g vs, (L.set j (some (w.heap.size, us)))[j]? = some (some (g, vs)) → g = w.heap.size ∧ vs = us := fun g vs h => by
  rw [List.getElem?_set_self hl] at h
  simp at h
  exact ⟨h.1.symm, h.2.symm⟩
 refine ⟨C.old.trans (hb.mono C.old.size), fun i g vs hi => ?_, fun i k g vs ws hi hk => ?_⟩
 · by_cases e : i = j
   · subst e
     obtain ⟨rfl, rfl⟩ := new _ _ hi
     exact ⟨C.old.size, BW.box w t vs⟩
   · have h := old _ _ _ e hi
     exact ⟨(C.blk i g vs h).1, (C.at_ i h).on hb⟩
 · by_cases e : i = j <;> by_cases f : k = j
   · omega
   · subst e
     have := (C.at_ k (old _ _ _ f hk)).lt
     have := (new _ _ hi).1
     omega
   · subst f
     have := (C.at_ i (old _ _ _ e hi)).lt
     have := (new _ _ hk).1
     omega
   · exact C.inj i k g vs ws (old _ _ _ e hi) (old _ _ _ f hk)
theorem Kw.more {w0 w : World} {L : List (Option (Nat × List Nat))} (C : Kw w0 L w) : Kw w0 (L ++ [none]) w := by
 have key : ∀ i g vs, (L ++ [none])[i]? = some (some (g, vs)) → L[i]? = some (some (g, vs)) := fun i g vs h => by
  by_cases hi : i < L.length
  · rwa [List.getElem?_append_left hi] at h
  · have := (List.getElem?_eq_some_iff.1 h).1
    simp at this
    obtain rfl : i = L.length := by omega
    simp at h
 exact ⟨C.old, fun j g us h => C.blk j g us (key _ _ _ h), fun i j g us vs h k => C.inj i j g us vs (key _ _ _ h) (key _ _ _ k)⟩
theorem Kw.nones {w0 w : World} {L : List (Option (Nat × List Nat))} (C : Kw w0 L w) : ∀ n, Kw w0 (L ++ List.replicate n none) w
 | 0 => by simpa using C
 | n + 1 => by
   have := (C.nones n).more
   rwa [List.append_assoc, ← List.replicate_succ'] at this
theorem Kw.new {w0 w : World} {L : List (Option (Nat × List Nat))} (C : Kw w0 L w) (t : TypeId) (us : List Nat) : Kw w0 (L ++ [some (w.heap.size, us)]) (w.alloc (objW t us)) := by
 have := C.more.make L.length (by simp) t us
 simpa using this
theorem Kw.put {w0 w : World} {L : List (Option (Nat × List Nat))} (C : Kw w0 L w) (j : Nat) {g : Nat} {us : List Nat} (hj : L[j]? = some (some (g, us))) (k : Nat) (vs : List Nat) (hk : k + vs.length ≤ us.length) : Kw w0 (L.set j (some (g, setL us k vs))) (putW w g k vs) := by
 have hl := (List.getElem?_eq_some_iff.1 hj).1
 have hg := C.blk j g us hj
 have old : ∀ i h ws, i ≠ j → (L.set j (some (g, setL us k vs)))[i]? = some (some (h, ws)) → L[i]? = some (some (h, ws)) := fun i h ws hi e => by
  rwa [List.getElem?_set_ne (Ne.symm hi)] at e
 have new : ∀ h ws, (L.set j (some (g, setL us k vs)))[j]? = some (some (h, ws)) → h = g ∧ ws = setL us k vs := fun h ws e => by
  rw [List.getElem?_set_self hl] at e
  simp at e
  exact ⟨e.1.symm, e.2.symm⟩
 have back : ∀ i h ws, (L.set j (some (g, setL us k vs)))[i]? = some (some (h, ws)) → ∃ ws', L[i]? = some (some (h, ws')) := fun i h ws e => by
  by_cases q : i = j
  · subst q
    obtain ⟨rfl, -⟩ := new _ _ e
    exact ⟨_, hj⟩
  · exact ⟨_, old _ _ _ q e⟩
 refine ⟨putW_below hg.1 vs k C.old, fun i h ws hi => ?_, fun i m h ws xs hi hm => ?_⟩
 · by_cases q : i = j
   · subst q
     obtain ⟨rfl, rfl⟩ := new _ _ hi
     exact ⟨hg.1, hg.2.put vs k hk⟩
   · have e := old _ _ _ q hi
     refine ⟨(C.blk i h ws e).1, BW.other (fun z => ?_) vs k (C.at_ i e)⟩
     subst z
     exact q (C.inj i j _ _ _ e hj)
 · obtain ⟨a, ha⟩ := back _ _ _ hi
   obtain ⟨b, hb⟩ := back _ _ _ hm
   exact C.inj i m h _ _ ha hb

theorem kw1 (w : World) (t : TypeId) (us : List Nat) : Kw w [some (w.heap.size, us)] (w.alloc (objW t us)) := (Kw.nil w).new t us
theorem Kw.and {w0 w : World} {L : List (Option (Nat × List Nat))} {n : Nat} (C : Kw w0 L w) (h : w.heap.size = n) (t : TypeId) (us : List Nat) : Kw w0 (L ++ [some (n, us)]) (w.alloc (objW t us)) := by
 subst h; exact C.new t us
theorem kw2 (w : World) (t t' : TypeId) (us vs : List Nat) : Kw w [some (w.heap.size, us), some (w.heap.size + 1, vs)] ((w.alloc (objW t us)).alloc (objW t' vs)) := (kw1 w t us).and (by simp) t' vs
theorem kw3 (w : World) (t t' t'' : TypeId) (us vs xs : List Nat) : Kw w [some (w.heap.size, us), some (w.heap.size + 1, vs), some (w.heap.size + 1 + 1, xs)] (((w.alloc (objW t us)).alloc (objW t' vs)).alloc (objW t'' xs)) := (kw2 w t t' us vs).and (by simp) t'' xs
structure Sw where
 i : Nat
 j : Nat
 k : Nat
 vs : List Nat
structure Al where
 i : Nat
 j : Nat
 t : TypeId
 us : List Nat
theorem qal {als : List Al} {k : Nat} (h : als.all (fun al => !(al.i == k)) = true) : ∀ al ∈ als, al.i ≠ k := fun al hal e => by
 have := List.all_eq_true.1 h al hal
 rw [e] at this
 simp at this
def ptrV (h : Nat) : Value := .pointer (some ⟨h, 0, none⟩)
def stored (sts : List Sw) (L : List (Option Value)) (j : Nat) (us vs : List Nat) : Prop :=
 (∀ st ∈ sts, st.j = j → doneL L st.i → vs = setL us st.k st.vs) ∧ ((∀ st ∈ sts, st.j = j → ¬ doneL L st.i) → vs = us)
structure Curw (C D : List (Option (Nat × List Nat))) (als : List Al) (sts : List Sw) (L : List (Option Value)) : Prop where
 len : D.length = C.length
 old : ∀ j, (∀ al ∈ als, al.j ≠ j) → (∃ g us vs, C[j]? = some (some (g, us)) ∧ D[j]? = some (some (g, vs)) ∧ stored sts L j us vs) ∨ ((∀ g us, C[j]? ≠ some (some (g, us))) ∧ D[j]? = C[j]?)
 new : ∀ al ∈ als, (¬ doneL L al.i ∧ D[al.j]? = some none) ∨ ∃ h vs, L[al.i]? = some (some (ptrV h)) ∧ D[al.j]? = some (some (h, vs)) ∧ stored sts L al.j al.us vs

theorem stored_same {sts : List Sw} {L : List (Option Value)} {i j : Nat} {v : Value} {us vs : List Nat} (hn : L[i]? = some none) (hs : ∀ st ∈ sts, st.j = j → st.i ≠ i) (h : stored sts L j us vs) : stored sts (L.set i (some v)) j us vs :=
 ⟨fun st hst e d => h.1 st hst e (by
  rcases (done_set hn _).1 d with q | q
  · exact absurd q (hs st hst e)
  · exact q), fun k => h.2 fun st hst e d => k st hst e ((done_set hn _).2 (.inr d))⟩
theorem stored_now {sts : List Sw} {L : List (Option Value)} {st : Sw} {v : Value} {us vs : List Nat} (hst : st ∈ sts) (hn : L[st.i]? = some none) (hi : ∀ st ∈ sts, ∀ st' ∈ sts, (st.j = st'.j ∨ st.i = st'.i) → st = st') (h : stored sts L st.j us vs) : vs = us ∧ stored sts (L.set st.i (some v)) st.j us (setL us st.k st.vs) := by
 have nd : ¬ doneL L st.i := fun ⟨v, hv⟩ => by rw [hn] at hv; simp at hv
 refine ⟨h.2 fun st' hst' e d => ?_, fun st' hst' e _ => by rw [hi st' hst' st hst (.inl e)], fun k => absurd ((done_set hn _).2 (.inl rfl)) (k st hst rfl)⟩
 rw [hi st' hst' st hst (.inl e)] at d
 exact nd d

section
variable {ops : Array Oper} {Q : Exit → Act → World → Prop}
theorem wp_region_w {id : Nat} {a0 : Act} {w w0 : World} {C : List (Option (Nat × List Nat))} (als : List Al) (sts : List Sw) (dv : List Value) (ds : List (Option Tmp))
 (hm : Tryz.prog.follows .mixedOrders = true) (hds : ops.toList.map (·.dst) = ds) (hap : apartL ds = true) (hb : backward ops = true) (hg : plainL ops = true) (hC : Kw w0 C w)
 (ha : ∀ al ∈ als, C[al.j]? = some none) (haj : ∀ al ∈ als, ∀ al' ∈ als, (al.j = al'.j ∨ al.i = al'.i) → al = al') (hai : ∀ al ∈ als, al.i < ops.size)
 (hsi : ∀ st ∈ sts, ∀ st' ∈ sts, (st.j = st'.j ∨ st.i = st'.i) → st = st') (hss : ∀ st ∈ sts, st.i < ops.size) (hsa : ∀ st ∈ sts, ∀ al ∈ als, st.i ≠ al.i)
 (hsw : ∀ st ∈ sts, ∀ al ∈ als, st.j = al.j → waitsAt ops st.i al.i = true)
 (htg : ∀ st ∈ sts, (∃ g us, C[st.j]? = some (some (g, us)) ∧ st.k + st.vs.length ≤ us.length) ∨ ∃ al ∈ als, al.j = st.j ∧ st.k + st.vs.length ≤ al.us.length)
 (alloc : ∀ al ∈ als, ∀ (o : Oper) (ρ : Operand → Value) (W : World), ops[al.i]? = some o → (execOp ρ o).run Tryz.prog W = .ok (.value (ptrV W.heap.size)) (W.alloc (objW al.t al.us)))
 (step : ∀ (L : List (Option Value)) (W : World) (i : Nat) (o : Oper), ops[i]? = some o → (∀ st ∈ sts, st.i ≠ i) → (∀ al ∈ als, al.i ≠ i) → (∀ k, waits o k = true → (∀ al ∈ als, al.i ≠ k) → L[k]? = some (some (dv.getD k undef))) →
  (∀ (j g : Nat) (us : List Nat), C[j]? = some (some (g, us)) → (∀ st ∈ sts, st.j = j → needs ops ops.size st.i i = true) → BW W g us) → Came o (puts ds L a0) W (dv.getD i undef))
 (store : ∀ st ∈ sts, ∀ (L : List (Option Value)) (W : World) (o : Oper) (h : Nat) (us : List Nat), ops[st.i]? = some o → (∀ k, waits o k = true → (∀ al ∈ als, al.i ≠ k) → L[k]? = some (some (dv.getD k undef))) →
  (∀ al ∈ als, al.j = st.j → L[al.i]? = some (some (ptrV h)) ∧ us = al.us) → (∀ g vs, C[st.j]? = some (some (g, vs)) → h = g ∧ us = vs) → BW W h us →
  (execOp (puts ds L a0).eval o).run Tryz.prog W = .ok .skip (putW W h st.k st.vs) ∧ dv.getD st.i undef = undef)
 (fin : ∀ (L : List (Option Value)) (D : List (Option (Nat × List Nat))) (W : World), L.length = ops.size → (∀ i, i < ops.size → (∀ al ∈ als, al.i ≠ i) → L[i]? = some (some (dv.getD i undef))) → D.length = C.length →
  (∀ j, (∀ st ∈ sts, st.j ≠ j) → (∀ al ∈ als, al.j ≠ j) → D[j]? = C[j]?) →
  (∀ st ∈ sts, ∀ g us, C[st.j]? = some (some (g, us)) → D[st.j]? = some (some (g, setL us st.k st.vs))) →
  (∀ al ∈ als, ∃ h, L[al.i]? = some (some (ptrV h)) ∧ (∀ st ∈ sts, st.j = al.j → D[al.j]? = some (some (h, setL al.us st.k st.vs))) ∧ ((∀ st ∈ sts, st.j ≠ al.j) → D[al.j]? = some (some (h, al.us)))) →
  Kw w0 D W → Q .normal (puts ds L a0) W) : (Code.region id ops true).wp Tryz.prog Q a0 w := by
 refine wp_region_inv hm ds hds hap hb hg (fun L W => (∀ i v, (∀ al ∈ als, al.i ≠ i) → L[i]? = some (some v) → v = dv.getD i undef) ∧ Closed ops L ∧ ∃ D, Curw C D als sts L ∧ Kw w0 D W) ?_ ?_ ?_
 · have nd : ∀ i, ¬ doneL (nones ops.size) i := fun i ⟨v, hv⟩ => absurd hv (nones_get _ _ _)
   refine ⟨fun i v _ h => absurd h (nones_get _ _ _), Closed.none _ _, C, ⟨rfl, fun j _ => ?_, fun al hal => .inl ⟨nd _, ha al hal⟩⟩, hC.draws⟩
   by_cases q : ∃ g us, C[j]? = some (some (g, us))
   · obtain ⟨g, us, e⟩ := q
     exact .inl ⟨g, us, us, e, e, fun st _ _ d => absurd d (nd _), fun _ => rfl⟩
   · exact .inr ⟨fun g us e => q ⟨g, us, e⟩, rfl⟩
 · intro L W i o hL ho hn hd ⟨hdet, hcl, D, hD, hK⟩
   have hd' : ∀ k, waits o k = true → (∀ al ∈ als, al.i ≠ k) → L[k]? = some (some (dv.getD k undef)) := fun k hk hka => by
    unfold waits at hk
    rw [List.any_eq_true] at hk
    obtain ⟨e, he, h2⟩ := hk
    simp only [Bool.and_eq_true, beq_iff_eq] at h2
    obtain ⟨v, hv⟩ := hd e (Array.mem_toList_iff.1 he) h2.2
    rw [h2.1] at hv
    rw [hv, hdet k v hka hv]
   have hil : i < L.length := (List.getElem?_eq_some_iff.1 hn).1
   have key : ∀ v, ((∀ al ∈ als, al.i ≠ i) → v = dv.getD i undef) → ∀ k u, (∀ al ∈ als, al.i ≠ k) → (L.set i (some v))[k]? = some (some u) → u = dv.getD k undef := fun v hv k u hka hk => by
    by_cases hik : i = k
    · subst hik
      rw [List.getElem?_set_self hil] at hk
      rw [← Option.some.inj (Option.some.inj hk)]; exact hv hka
    · rw [List.getElem?_set_ne hik] at hk; exact hdet k u hka hk
   have nd : ¬ doneL L i := fun ⟨v, hv⟩ => by rw [hn] at hv; simp at hv
   by_cases ea : ∃ al ∈ als, al.i = i
   · obtain ⟨al, hal, rfl⟩ := ea
     have r := alloc al hal o (puts ds L a0).eval W ho
     have hDj : D[al.j]? = some none := by
        rcases hD.new al hal with ⟨-, e⟩ | ⟨h, vs, e, -⟩
        · exact e
        · rw [hn] at e; simp at e
     have hjl : al.j < D.length := (List.getElem?_eq_some_iff.1 hDj).1
     unfold Oper.wp; rw [r]
     refine ⟨_, rfl, key _ (fun z => absurd rfl (z al hal)), hcl.set ho hn hd, D.set al.j (some (W.heap.size, al.us)), ⟨by simp [hD.len], fun j hj => ?_, fun al' hal' => ?_⟩, hK.make al.j hDj al.t al.us⟩
     · have hne : al.j ≠ j := hj al hal
       rw [List.getElem?_set_ne hne]
       rcases hD.old j hj with ⟨g, us, vs, e1, e2, e3⟩ | e
       · exact .inl ⟨g, us, vs, e1, e2, stored_same hn (fun st hst _ => hsa st hst al hal) e3⟩
       · exact .inr e
     · by_cases q : al' = al
       · subst q
         refine .inr ⟨W.heap.size, al'.us, ?_, by rw [List.getElem?_set_self hjl], fun st hst e d => ?_, fun _ => rfl⟩
         · rw [List.getElem?_set_self hil]
         · rcases (done_set hn _).1 d with z | z
           · exact absurd z (hsa st hst al' hal)
           · exact absurd (hcl _ _ z (hsw st hst al' hal e)) nd
       · have hne : al.j ≠ al'.j := fun e => q (haj al' hal' al hal (.inl e.symm))
         have hni : al.i ≠ al'.i := fun e => q (haj al' hal' al hal (.inr e.symm))
         rw [List.getElem?_set_ne hne, List.getElem?_set_ne hni]
         rcases hD.new al' hal' with ⟨e1, e2⟩ | ⟨h, vs, e1, e2, e3⟩
         · exact .inl ⟨fun z => ((done_set hn _).1 z).elim (fun z => hni z.symm) e1, e2⟩
         · exact .inr ⟨h, vs, e1, e2, stored_same hn (fun st hst _ => hsa st hst al hal) e3⟩
   · have ha' : ∀ al ∈ als, al.i ≠ i := fun al hal e => ea ⟨al, hal, e⟩
     by_cases es : ∃ st ∈ sts, st.i = i
     · obtain ⟨st, hst, rfl⟩ := es
       -- the block that is stored into
       have B : ∃ h us, D[st.j]? = some (some (h, us)) ∧ st.k + st.vs.length ≤ us.length ∧ (∀ al ∈ als, al.j = st.j → L[al.i]? = some (some (ptrV h)) ∧ us = al.us) ∧ (∀ g vs, C[st.j]? = some (some (g, vs)) → h = g ∧ us = vs) := by
         by_cases q : ∃ al ∈ als, al.j = st.j
         · obtain ⟨al, hal, e⟩ := q
           have da : doneL L al.i := by
             have hs := hsw st hst al hal e.symm
             unfold waitsAt at hs
             rw [ho] at hs
             simp only [Option.map_some, Option.getD_some] at hs
             unfold waits at hs
             rw [List.any_eq_true] at hs
             obtain ⟨e', he, h2⟩ := hs
             simp only [Bool.and_eq_true, beq_iff_eq] at h2
             have := hd e' (Array.mem_toList_iff.1 he) h2.2
             rw [h2.1] at this
             exact this
           rcases hD.new al hal with ⟨z, -⟩ | ⟨h, vs, e1, e2, e3⟩
           · exact absurd da z
           · have hu := (stored_now (v := undef) hst hn hsi (e ▸ e3)).1
             subst hu
             refine ⟨h, al.us, e ▸ e2, ?_, fun al' hal' e' => ?_, fun g vs' e' => ?_⟩
             · rcases htg st hst with ⟨g, us, c, -⟩ | ⟨al', hal', e', c⟩
               · rw [← e, ha al hal] at c; simp at c
               · rw [haj al' hal' al hal (.inl (by omega))] at c; exact c
             · rw [haj al' hal' al hal (.inl (by omega))]; exact ⟨e1, rfl⟩
             · rw [← e, ha al hal] at e'; simp at e'
         · have q' : ∀ al ∈ als, al.j ≠ st.j := fun al hal e => q ⟨al, hal, e⟩
           rcases htg st hst with ⟨g, us, c, c2⟩ | ⟨al', hal', e', -⟩
           · rcases hD.old st.j q' with ⟨g', us', vs', e1, e2, e3⟩ | ⟨e1, -⟩
             · rw [c] at e1
               simp at e1
               obtain ⟨rfl, rfl⟩ := e1
               have hu := (stored_now (v := undef) hst hn hsi e3).1
               subst hu
               refine ⟨g, vs', e2, c2, fun al hal e => absurd e (q' al hal), fun g2 vs2 e => ?_⟩
               rw [c] at e
               simp at e
               exact ⟨e.1, e.2⟩
             · exact absurd c (e1 g us)
           · exact absurd e' (q' al' hal')
       obtain ⟨h, us, hDj, hk, b1, b2⟩ := B
       obtain ⟨r, u⟩ := store st hst L W o h us ho hd' b1 b2 (hK.at_ st.j hDj)
       have hjl : st.j < D.length := (List.getElem?_eq_some_iff.1 hDj).1
       unfold Oper.wp; rw [r]
       refine ⟨undef, rfl, key _ (fun _ => u.symm), hcl.set ho hn hd, D.set st.j (some (h, setL us st.k st.vs)), ⟨by simp [hD.len], fun j hj => ?_, fun al hal => ?_⟩, hK.put st.j hDj st.k st.vs hk⟩
       · by_cases e : st.j = j
         · subst e
           rcases hD.old _ hj with ⟨g, us', vs', e1, e2, e3⟩ | ⟨e1, e2⟩
           · rw [hDj] at e2
             simp at e2
             obtain ⟨rfl, rfl⟩ := e2
             obtain ⟨rfl, S⟩ := stored_now (v := undef) hst hn hsi e3
             exact .inl ⟨_, _, _, e1, by rw [List.getElem?_set_self hjl], S⟩
           · rw [hDj] at e2
             exact absurd e2.symm (e1 h us)
         · rw [List.getElem?_set_ne e]
           rcases hD.old j hj with ⟨g, us', vs', e1, e2, e3⟩ | e'
           · exact .inl ⟨g, us', vs', e1, e2, stored_same hn (fun st' hst' e' z => e (by rw [← hsi st' hst' st hst (.inr z)]; exact e')) e3⟩
           · exact .inr e'
       · have hni : st.i ≠ al.i := hsa st hst al hal
         rw [List.getElem?_set_ne hni]
         by_cases e : st.j = al.j
         · rcases hD.new al hal with ⟨-, e2⟩ | ⟨h', vs', e1, e2, e3⟩
           · rw [← e, hDj] at e2; simp at e2
           · rw [← e, hDj] at e2
             simp at e2
             obtain ⟨rfl, rfl⟩ := e2
             rw [← e] at e3 ⊢
             obtain ⟨rfl, S⟩ := stored_now (v := undef) hst hn hsi e3
             exact .inr ⟨_, _, e1, by rw [List.getElem?_set_self hjl], S⟩
         · rw [List.getElem?_set_ne e]
           rcases hD.new al hal with ⟨e1, e2⟩ | ⟨h', vs', e1, e2, e3⟩
           · exact .inl ⟨fun z => ((done_set hn _).1 z).elim (fun z => hni z.symm) e1, e2⟩
           · exact .inr ⟨h', vs', e1, e2, stored_same hn (fun st' hst' e' z => e (by rw [← hsi st' hst' st hst (.inr z)]; exact e')) e3⟩
     · have hs' : ∀ st ∈ sts, st.i ≠ i := fun st hst e => es ⟨st, hst, e⟩
       have hB : ∀ (j g : Nat) (us : List Nat), C[j]? = some (some (g, us)) → (∀ st ∈ sts, st.j = j → needs ops ops.size st.i i = true) → BW W g us := fun j g us h hh => by
         refine hK.at_ j ?_
         have q : ∀ al ∈ als, al.j ≠ j := fun al hal e => by
           have := ha al hal
           rw [e, h] at this
           simp at this
         rcases hD.old j q with ⟨g', us', vs', e1, e2, e3⟩ | ⟨e1, -⟩
         · rw [h] at e1
           simp at e1
           obtain ⟨rfl, rfl⟩ := e1
           rw [e2, e3.2 fun st hst e d => nd (hcl.needs _ _ _ (hh st hst e) d)]
         · exact absurd h (e1 g us)
       have hcur : ∀ v, Curw C D als sts (L.set i (some v)) := fun v => ⟨hD.len, fun j hj => by
           rcases hD.old j hj with ⟨g, us', vs', e1, e2, e3⟩ | e'
           · exact .inl ⟨g, us', vs', e1, e2, stored_same hn (fun st hst _ => hs' st hst) e3⟩
           · exact .inr e', fun al hal => by
           rcases hD.new al hal with ⟨e1, e2⟩ | ⟨h', vs', e1, e2, e3⟩
           · exact .inl ⟨fun z => ((done_set hn _).1 z).elim (ha' al hal) e1, e2⟩
           · exact .inr ⟨h', vs', by rw [List.getElem?_set_ne (Ne.symm (ha' al hal))]; exact e1, e2, stored_same hn (fun st hst _ => hs' st hst) e3⟩⟩
       rcases step L W i o ho hs' ha' hd' hB with ⟨w', r, k⟩ | ⟨f, args, r, k⟩
       · unfold Oper.wp; rw [r]
         exact ⟨_, rfl, key _ (fun _ => rfl), hcl.set ho hn hd, D, hcur _, hK.on k⟩
       · unfold Oper.wp; rw [r]
         refine Calls.mono k fun e w' hh => ?_
         obtain ⟨rfl, hS⟩ := hh
         exact ⟨_, rfl, key _ (fun _ => rfl), hcl.set ho hn hd, D, hcur _, hK.on hS⟩
 · rintro L W hL hall ⟨hdet, -, D, hD, hK⟩
   refine fin L D W hL (fun i hi hia => ?_) hD.len (fun j hj q => ?_) (fun st hst g us h => ?_) (fun al hal => ?_) hK
   · obtain ⟨v, hv⟩ := hall i hi
     rw [hv, hdet i v hia hv]
   · rcases hD.old j q with ⟨g', us', vs', e1, e2, e3⟩ | ⟨-, e⟩
     · rw [e1, e2, e3.2 fun st hst e => absurd e (hj st hst)]
     · exact e
   · have q : ∀ al ∈ als, al.j ≠ st.j := fun al hal e => by
        have := ha al hal
        rw [e, h] at this
        simp at this
     rcases hD.old st.j q with ⟨g', us', vs', e1, e2, e3⟩ | ⟨e1, -⟩
     · rw [h] at e1
       simp at e1
       obtain ⟨rfl, rfl⟩ := e1
       rw [e2, e3.1 st hst rfl (hall _ (hss st hst))]
     · exact absurd h (e1 g us)
   · rcases hD.new al hal with ⟨z, -⟩ | ⟨h, vs, e1, e2, e3⟩
     · exact absurd (hall _ (hai al hal)) z
     · refine ⟨h, e1, fun st hst e => ?_, fun hn => ?_⟩
       · rw [e2, e3.1 st hst e (hall _ (hss st hst))]
       · rw [e2, e3.2 fun st hst e => absurd e (hn st hst)]
theorem wp_region_k {id : Nat} {a0 : Act} {w w0 : World} {C : List (Option (Nat × List Nat))} (E : (Nat → Nat) → List (Option (Nat × List Nat))) (Lf : (Nat → Nat) → List (Option Value)) (als : List Al) (sts : List Sw) (dv : List Value) (ds : List (Option Tmp))
 (hm : Tryz.prog.follows .mixedOrders = true) (hds : ops.toList.map (·.dst) = ds) (hap : apartL ds = true) (hb : backward ops = true) (hg : plainL ops = true) (hC : Kw w0 C w)
 (ha : ∀ al ∈ als, C[al.j]? = some none) (haj : ∀ al ∈ als, ∀ al' ∈ als, (al.j = al'.j ∨ al.i = al'.i) → al = al') (hai : ∀ al ∈ als, al.i < ops.size)
 (hsi : ∀ st ∈ sts, ∀ st' ∈ sts, (st.j = st'.j ∨ st.i = st'.i) → st = st') (hss : ∀ st ∈ sts, st.i < ops.size) (hsa : ∀ st ∈ sts, ∀ al ∈ als, st.i ≠ al.i)
 (hsw : ∀ st ∈ sts, ∀ al ∈ als, st.j = al.j → waitsAt ops st.i al.i = true)
 (htg : ∀ st ∈ sts, (∃ g us, C[st.j]? = some (some (g, us)) ∧ st.k + st.vs.length ≤ us.length) ∨ ∃ al ∈ als, al.j = st.j ∧ st.k + st.vs.length ≤ al.us.length)
 (hE2 : ∀ hf j, (∀ st ∈ sts, st.j ≠ j) → (∀ al ∈ als, al.j ≠ j) → (E hf)[j]? = C[j]?)
 (hE3 : ∀ hf, ∀ st ∈ sts, ∀ g us, C[st.j]? = some (some (g, us)) → (E hf)[st.j]? = some (some (g, setL us st.k st.vs)))
 (hE4 : ∀ hf, ∀ al ∈ als, (∀ st ∈ sts, st.j = al.j → (E hf)[al.j]? = some (some (hf al.i, setL al.us st.k st.vs))) ∧ ((∀ st ∈ sts, st.j ≠ al.j) → (E hf)[al.j]? = some (some (hf al.i, al.us))))
 (hL1 : ∀ hf, (Lf hf).length = ops.size)
 (hL2 : ∀ hf i, i < ops.size → (∀ al ∈ als, al.i ≠ i) → (Lf hf)[i]? = some (some (dv.getD i undef)))
 (hL3 : ∀ hf, ∀ al ∈ als, (Lf hf)[al.i]? = some (some (ptrV (hf al.i))))
 (alloc : ∀ al ∈ als, ∀ (o : Oper) (ρ : Operand → Value) (W : World), ops[al.i]? = some o → (execOp ρ o).run Tryz.prog W = .ok (.value (ptrV W.heap.size)) (W.alloc (objW al.t al.us)))
 (step : ∀ (L : List (Option Value)) (W : World) (i : Nat) (o : Oper), ops[i]? = some o → (∀ st ∈ sts, st.i ≠ i) → (∀ al ∈ als, al.i ≠ i) → (∀ k, waits o k = true → (∀ al ∈ als, al.i ≠ k) → L[k]? = some (some (dv.getD k undef))) →
  (∀ (j g : Nat) (us : List Nat), C[j]? = some (some (g, us)) → (∀ st ∈ sts, st.j = j → needs ops ops.size st.i i = true) → BW W g us) → Came o (puts ds L a0) W (dv.getD i undef))
 (store : ∀ st ∈ sts, ∀ (L : List (Option Value)) (W : World) (o : Oper) (h : Nat) (us : List Nat), ops[st.i]? = some o → (∀ k, waits o k = true → (∀ al ∈ als, al.i ≠ k) → L[k]? = some (some (dv.getD k undef))) →
  (∀ al ∈ als, al.j = st.j → L[al.i]? = some (some (ptrV h)) ∧ us = al.us) → (∀ g vs, C[st.j]? = some (some (g, vs)) → h = g ∧ us = vs) → BW W h us →
  (execOp (puts ds L a0).eval o).run Tryz.prog W = .ok .skip (putW W h st.k st.vs) ∧ dv.getD st.i undef = undef)
 (fin : ∀ (hf : Nat → Nat) (W : World), Kw w0 (E hf) W → Q .normal (puts ds (Lf hf) a0) W) : (Code.region id ops true).wp Tryz.prog Q a0 w := by
 refine wp_region_w als sts dv ds hm hds hap hb hg hC ha haj hai hsi hss hsa hsw htg alloc step store fun L D W hL hall hlen hold hst hal hK => ?_
 -- the addresses
 let hf : Nat → Nat := fun i => match L[i]? with
  | some (some (.pointer (some p))) => p.block
  | _ => 0
 have hfe : ∀ al ∈ als, ∀ h, L[al.i]? = some (some (ptrV h)) → hf al.i = h := fun al _ h e => by
  show (match L[al.i]? with | some (some (.pointer (some p))) => p.block | _ => 0) = h
  rw [e]; rfl
 have eL : L = Lf hf := by
  refine List.ext_getElem? fun i => ?_
  by_cases hi : i < ops.size
  · by_cases q : ∃ al ∈ als, al.i = i
    · obtain ⟨al, m, rfl⟩ := q
      obtain ⟨h, e, -⟩ := hal al m
      rw [hL3 hf al m, hfe al m h e, e]
    · have q' : ∀ al ∈ als, al.i ≠ i := fun al m e => q ⟨al, m, e⟩
      rw [hall i hi q', hL2 hf i hi q']
  · rw [List.getElem?_eq_none (by omega), List.getElem?_eq_none (by rw [hL1 hf]; omega)]
 have eD : D = E hf := by
  refine List.ext_getElem? fun j => ?_
  by_cases q : ∃ al ∈ als, al.j = j
  · obtain ⟨al, m, rfl⟩ := q
    obtain ⟨h, e, d1, d2⟩ := hal al m
    have e4 := hE4 hf al m
    rw [hfe al m h e] at e4
    by_cases r : ∃ st ∈ sts, st.j = al.j
    · obtain ⟨st, ms, es⟩ := r
      rw [d1 st ms es, e4.1 st ms es]
    · have r' : ∀ st ∈ sts, st.j ≠ al.j := fun st ms es => r ⟨st, ms, es⟩
      rw [d2 r', e4.2 r']
  · have q' : ∀ al ∈ als, al.j ≠ j := fun al m e => q ⟨al, m, e⟩
    by_cases r : ∃ st ∈ sts, st.j = j
    · obtain ⟨st, ms, rfl⟩ := r
      rcases htg st ms with ⟨g, us, c, -⟩ | ⟨al, m, e, -⟩
      · rw [hst st ms g us c, hE3 hf st ms g us c]
      · exact absurd e (q' al m)
    · have r' : ∀ st ∈ sts, st.j ≠ j := fun st ms es => r ⟨st, ms, es⟩
      rw [hold j r' q', hE2 hf j r' q']
 rw [eL]
 rw [eD] at hK
 exact fin hf W hK
end

theorem off_any {a b x : Nat} (ha : FinW a) (hb : FinW b) (hx : FinW x) (ba : (V a).natAbs ≤ 2 ^ 1400) (bb : (V b).natAbs ≤ 2 ^ 1400) (bx : (V x).natAbs ≤ 2 ^ 1400) :
 ∃ o, FinW o ∧ (∀ L, 0 ≤ L → V a - V x ≤ L → V x - V b ≤ L → V o ≤ RN L) ∧ ∀ w, Calls Tryz.prog 47 #[spanV a b, .float .f64 x] w fun e w' => e = .returned (.float .f64 o) ∧ Below w.heap.size w w' := by
 have t1 := lt_words hx ha
 have t2 := gt_words hx hb
 have t3 := ge_words hx ha
 have t4 := le_words hx hb
 by_cases c1 : V x < V a
 · obtain ⟨o, e1, e2, e3, -⟩ := subW ha hx ba bx (by omega)
   refine ⟨o, e2, fun L _ h1 _ => by rw [e3]; exact RN_mono h1, fun w => ?_⟩
   · have r1 := run_sub _ _ _ e1
     rw [decide_eq_true c1] at t1
     have C0 : Cls w [(w.heap.size, a, b)] (w.alloc (boxO a b)) := (Cls.nil w).new a b
     unfold boxO at C0
     unfold spanV
     have p0 := (C0.at_ 0 rfl).lo
     have B := Lib.hid C0.old
     clear ha hb hx ba bb bx t2 t3 t4 c1 e1 e2 e3 C0
     go_enter Tryz.func47, Tryz.ntmps47
     go_wp2_with fail
     go_ret
     exact ⟨rfl, B.out⟩
 · rw [decide_eq_false c1] at t1
   by_cases c2 : V b < V x
   · obtain ⟨o, e1, e2, e3, -⟩ := subW hx hb bx bb (by omega)
     refine ⟨o, e2, fun L _ _ h2 => by rw [e3]; exact RN_mono h2, fun w => ?_⟩
     · have r1 := run_sub _ _ _ e1
       rw [decide_eq_true c2] at t2
       have C0 : Cls w [(w.heap.size, a, b)] (w.alloc (boxO a b)) := (Cls.nil w).new a b
       unfold boxO at C0
       unfold spanV
       have p0 := (C0.at_ 0 rfl).lo
       have p1 := (C0.at_ 0 rfl).hi
       have B := Lib.hid C0.old
       clear ha hb hx ba bb bx t3 t4 c1 c2 e1 e2 e3 C0
       go_enter Tryz.func47, Tryz.ntmps47
       go_wp2_with fail
       go_ret
       exact ⟨rfl, B.out⟩
   · refine ⟨0, zeroF, fun L h _ _ => by rw [zeroV]; exact (RN_sign L).1 h, fun w => ?_⟩
     rw [decide_eq_false c2] at t2
     rw [decide_eq_true (by omega)] at t3 t4
     have C0 : Cls w [(w.heap.size, a, b)] (w.alloc (boxO a b)) := (Cls.nil w).new a b
     unfold boxO at C0
     unfold spanV
     have p0 := (C0.at_ 0 rfl).lo
     have p1 := (C0.at_ 0 rfl).hi
     have B := Lib.hid C0.old
     clear ha hb hx ba bb bx c1 c2 C0
     go_enter Tryz.func47, Tryz.ntmps47
     go_wp2_with fail
     go_ret
     exact ⟨rfl, B.out⟩
end Go.Proofs.YtdfcchocabapkaaGreat
