/- Proved here: what the texts Wrv, Lrw, Uck, Uqr, Grd, Gre prove, one behind the other. -/
import Derived.Test.YtacinenddnfcbaaJz8
import Derived.Laws.AppendOwn
import Derived.Laws.AppendOwnNone
import Derived.Deep.Slices
import Derived.Deep.Fields
import Derived.ChangeSame
import Derived.Lib.SmallJoins
import Derived.Deep.AppendLies
import Derived.Test.YtacinenddnfcbaaJz7
import Derived.Test.YtacinenddnfcbaaJz4
import Derived.StillTailTactics
import Derived.BigQuiet

namespace Go.Proofs.Ytacinenddnfcbaa
open Go.ChangeShapes Go.WideShapes Go.ChangeAt Go.RowKit Ieee.Own

/-! ### a block that holds words -/
structure BV (w : World) (g : Nat) (us : List Value) : Prop where
  lt : g < w.heap.size
  at_ : ∀ i u, us[i]? = some u → w.cell? ⟨g, i, none⟩ = some u
  fr : ∀ i u, us[i]? = some u → w.frozen? ⟨g, i, none⟩ = false
def objV (t : TypeId) (us : List Value) : Obj := .cells us.toArray t (0, 0)
theorem BV.on {w w' : World} {g : Nat} {us : List Value} (b : BV w g us) (h : Below w.heap.size w w') : BV w' g us :=
  ⟨Nat.lt_of_lt_of_le b.lt h.size, fun i u e => (cell_on h _ b.lt).trans (b.at_ i u e), fun i u e => (frozen_on h _ b.lt).trans (b.fr i u e)⟩
theorem BV.box (w : World) (t : TypeId) (us : List Value) : BV (w.alloc (objV t us)) w.heap.size us := by
  have S : Blocks w [objV t us] (w.alloc (objV t us)) := (Blocks.nil w).alloc (by simp) _
  unfold objV at S
  refine ⟨by simp, fun i u e => (S.cell 0 rfl i w.heap.size rfl).trans (by simp [e]), fun i u e => S.free 0 rfl i w.heap.size rfl⟩
theorem BV.set1 {w : World} {g k : Nat} {x : Value} {us : List Value} (b : BV w g us) (hk : us[k]? = some x) (v : Value) : BV (w.setCell ⟨g, k, none⟩ v) g (us.set k v) := by
  have hl := (List.getElem?_eq_some_iff.1 hk).1
  refine ⟨by simpa using b.lt, fun i u e => ?_, fun i u e => ?_⟩
  · by_cases h : k = i
    · subst h
      rw [List.getElem?_set_self hl] at e
      obtain rfl := Option.some.inj e
      exact World.cell?_setCell_same _ _ _ (b.at_ _ _ hk)
    · rw [List.getElem?_set_ne h] at e
      rw [World.cell?_setCell_other _ _ _ _ (by simp)]
      exact b.at_ i u e
  · rw [World.frozen?_setCell]
    by_cases h : k = i
    · subst h; exact b.fr _ _ hk
    · rw [List.getElem?_set_ne h] at e; exact b.fr i u e
theorem BV.other1 {w : World} {g h k : Nat} {us : List Value} (b : BV w g us) (hg : g ≠ h) (v : Value) : BV (w.setCell ⟨h, k, none⟩ v) g us := by
  refine ⟨by simpa using b.lt, fun i u e => ?_, fun i u e => ?_⟩
  · rw [World.cell?_setCell_other _ _ _ _ (by simp)]; exact b.at_ i u e
  · rw [World.frozen?_setCell]; exact b.fr i u e
def putV (w : World) (g : Nat) : Nat → List Value → World
  | _, [] => w
  | k, v :: vs => putV (w.setCell ⟨g, k, none⟩ v) g (k + 1) vs
def setV : List Value → Nat → List Value → List Value
  | us, _, [] => us
  | us, k, v :: vs => setV (us.set k v) (k + 1) vs
theorem BV.put {g : Nat} : ∀ (vs : List Value) {w : World} {us : List Value} (k : Nat), BV w g us → k + vs.length ≤ us.length → BV (putV w g k vs) g (setV us k vs)
  | [], _, _, _, b, _ => b
  | v :: vs, w, us, k, b, h => by
    simp only [List.length_cons] at h
    obtain ⟨x, hx⟩ : ∃ x, us[k]? = some x := ⟨us[k]'(by omega), List.getElem?_eq_getElem (by omega)⟩
    exact BV.put vs (k + 1) (b.set1 hx v) (by simp; omega)
theorem BV.other {g h : Nat} {us : List Value} (hg : g ≠ h) : ∀ (vs : List Value) {w : World} (k : Nat), BV w g us → BV (putV w h k vs) g us
  | [], _, _, b => b
  | v :: vs, _, k, b => BV.other hg vs (k + 1) (b.other1 hg v)
theorem putV_below {B g : Nat} {u : World} (hg : B ≤ g) : ∀ (vs : List Value) {w : World} (k : Nat), Below B u w → Below B u (putV w g k vs)
  | [], _, _, b => b
  | _ :: vs, _, k, b => putV_below hg vs (k + 1) (b.setCell hg _)
/-! ### the call's blocks -/
structure Kv (w0 : World) (L : List (Option (Nat × List Value))) (w : World) : Prop where
  old : Below w0.heap.size w0 w
  blk : ∀ (j g : Nat) (us : List Value), L[j]? = some (some (g, us)) → w0.heap.size ≤ g ∧ BV w g us
  inj : ∀ (i j g : Nat) (us vs : List Value), L[i]? = some (some (g, us)) → L[j]? = some (some (g, vs)) → i = j
theorem Kv.nil (w : World) : Kv w [] w := ⟨Below.refl _ w, fun j g us h => by simp at h, fun i j g us vs h => by simp at h⟩
theorem Kv.at_ {w0 w : World} {L : List (Option (Nat × List Value))} (C : Kv w0 L w) (j : Nat) {g : Nat} {us : List Value} (hj : L[j]? = some (some (g, us))) : BV w g us := (C.blk j g us hj).2
theorem Kv.on {w0 w w' : World} {L : List (Option (Nat × List Value))} (C : Kv w0 L w) (h : Below w.heap.size w w') : Kv w0 L w' :=
  ⟨C.old.trans (h.mono C.old.size), fun j g us hj => ⟨(C.blk j g us hj).1, (C.at_ j hj).on h⟩, C.inj⟩
theorem Kv.draws {w0 w : World} {L : List (Option (Nat × List Value))} (C : Kv w0 L w) : Kv w0 L w.drew :=
  ⟨C.old.drew, fun j g us h => ⟨(C.blk j g us h).1, ⟨(C.at_ j h).1, (C.at_ j h).2, (C.at_ j h).3⟩⟩, C.inj⟩
/-- entry j comes to be -/
theorem Kv.make {w0 w : World} {L : List (Option (Nat × List Value))} (C : Kv w0 L w) (j : Nat) (hj : L[j]? = some none) (t : TypeId) (us : List Value) : Kv w0 (L.set j (some (w.heap.size, us))) (w.alloc (objV t us)) := by
  have hb : Below w.heap.size w (w.alloc (objV t us)) := (Below.refl _ w).alloc (Nat.le_refl _) _
  have hl := (List.getElem?_eq_some_iff.1 hj).1
  have old : ∀ i g vs, i ≠ j → (L.set j (some (w.heap.size, us)))[i]? = some (some (g, vs)) → L[i]? = some (some (g, vs)) := fun i g vs hi h => by
    rwa [List.getElem?_set_ne (Ne.symm hi)] at h
  have new : ∀ g vs, (L.set j (some (w.heap.size, us)))[j]? = some (some (g, vs)) → g = w.heap.size ∧ vs = us := fun g vs h => by
    rw [List.getElem?_set_self hl] at h
    simp at h
    exact ⟨h.1.symm, h.2.symm⟩
  refine ⟨C.old.trans (hb.mono C.old.size), fun i g vs hi => ?_, fun i k g vs ws hi hk => ?_⟩
  · by_cases e : i = j
    · subst e
      obtain ⟨rfl, rfl⟩ := new _ _ hi
      exact ⟨C.old.size, BV.box w t vs⟩
    · have h := old _ _ _ e hi
      exact ⟨(C.blk i g vs h).1, (C.at_ i h).on hb⟩
  · by_cases e : i = j <;> by_cases f : k = j
    · omega
    · subst e
      have := (C.at_ k (old _ _ _ f hk)).lt
      have := (new _ _ hi).1
      omega
    · subst f
      have := (C.at_ i (old _ _ _ e hi)).lt
      have := (new _ _ hk).1
      omega
    · exact C.inj i k g vs ws (old _ _ _ e hi) (old _ _ _ f hk)
theorem Kv.more {w0 w : World} {L : List (Option (Nat × List Value))} (C : Kv w0 L w) : Kv w0 (L ++ [none]) w := by
  have key : ∀ i g vs, (L ++ [none])[i]? = some (some (g, vs)) → L[i]? = some (some (g, vs)) := fun i g vs h => by
    by_cases hi : i < L.length
    · rwa [List.getElem?_append_left hi] at h
    · have := (List.getElem?_eq_some_iff.1 h).1
      simp at this
      obtain rfl : i = L.length := by omega
      simp at h
  exact ⟨C.old, fun j g us h => C.blk j g us (key _ _ _ h), fun i j g us vs h k => C.inj i j g us vs (key _ _ _ h) (key _ _ _ k)⟩
theorem Kv.nones {w0 w : World} {L : List (Option (Nat × List Value))} (C : Kv w0 L w) : ∀ n, Kv w0 (L ++ List.replicate n none) w
  | 0 => by simpa using C
  | n + 1 => by
    have := (C.nones n).more
    rwa [List.append_assoc, ← List.replicate_succ'] at this
theorem Kv.new {w0 w : World} {L : List (Option (Nat × List Value))} (C : Kv w0 L w) (t : TypeId) (us : List Value) : Kv w0 (L ++ [some (w.heap.size, us)]) (w.alloc (objV t us)) := by
  have := C.more.make L.length (by simp) t us
  simpa using this
theorem Kv.put {w0 w : World} {L : List (Option (Nat × List Value))} (C : Kv w0 L w) (j : Nat) {g : Nat} {us : List Value} (hj : L[j]? = some (some (g, us))) (k : Nat) (vs : List Value) (hk : k + vs.length ≤ us.length) : Kv w0 (L.set j (some (g, setV us k vs))) (putV w g k vs) := by
  have hl := (List.getElem?_eq_some_iff.1 hj).1
  have hg := C.blk j g us hj
  have old : ∀ i h ws, i ≠ j → (L.set j (some (g, setV us k vs)))[i]? = some (some (h, ws)) → L[i]? = some (some (h, ws)) := fun i h ws hi e => by
    rwa [List.getElem?_set_ne (Ne.symm hi)] at e
  have new : ∀ h ws, (L.set j (some (g, setV us k vs)))[j]? = some (some (h, ws)) → h = g ∧ ws = setV us k vs := fun h ws e => by
    rw [List.getElem?_set_self hl] at e
    simp at e
    exact ⟨e.1.symm, e.2.symm⟩
  have back : ∀ i h ws, (L.set j (some (g, setV us k vs)))[i]? = some (some (h, ws)) → ∃ ws', L[i]? = some (some (h, ws')) := fun i h ws e => by
    by_cases q : i = j
    · subst q
      obtain ⟨rfl, -⟩ := new _ _ e
      exact ⟨_, hj⟩
    · exact ⟨_, old _ _ _ q e⟩
  refine ⟨putV_below hg.1 vs k C.old, fun i h ws hi => ?_, fun i m h ws xs hi hm => ?_⟩
  · by_cases q : i = j
    · subst q
      obtain ⟨rfl, rfl⟩ := new _ _ hi
      exact ⟨hg.1, hg.2.put vs k hk⟩
    · have e := old _ _ _ q hi
      refine ⟨(C.blk i h ws e).1, BV.other (fun z => ?_) vs k (C.at_ i e)⟩
      subst z
      exact q (C.inj i j _ _ _ e hj)
  · obtain ⟨a, ha⟩ := back _ _ _ hi
    obtain ⟨b, hb⟩ := back _ _ _ hm
    exact C.inj i m h _ _ ha hb

/-- a block that a call made, beside those that were there -/
theorem Kv.own {w0 w w' : World} {L : List (Option (Nat × List Value))} (C : Kv w0 L w) (hb : Below w.heap.size w w') {g : Nat} {us : List Value} (hg : w.heap.size ≤ g) (b : BV w' g us) : Kv w0 (L ++ [some (g, us)]) w' := by
  have C' := C.on hb
  have key : ∀ i h vs, (L ++ [some (g, us)])[i]? = some (some (h, vs)) → L[i]? = some (some (h, vs)) ∨ (i = L.length ∧ h = g ∧ vs = us) := fun i h vs hi => by
    by_cases q : i < L.length
    · rw [List.getElem?_append_left q] at hi; exact .inl hi
    · have := (List.getElem?_eq_some_iff.1 hi).1
      simp at this
      obtain rfl : i = L.length := by omega
      simp at hi
      exact .inr ⟨rfl, hi.1.symm, hi.2.symm⟩
  have far : ∀ i h vs, L[i]? = some (some (h, vs)) → h ≠ g := fun i h vs hi e => by
    have := (C.at_ i hi).lt
    omega
  refine ⟨C'.old, fun i h vs hi => ?_, fun i k h vs ws hi hk => ?_⟩
  · rcases key _ _ _ hi with q | ⟨rfl, rfl, rfl⟩
    · exact C'.blk i h vs q
    · exact ⟨Nat.le_trans C.old.size hg, b⟩
  · rcases key _ _ _ hi with q | ⟨rfl, rfl, rfl⟩ <;> rcases key _ _ _ hk with r | ⟨rfl, e, rfl⟩
    · exact C.inj i k h vs ws q r
    · exact absurd e (far _ _ _ q)
    · exact absurd rfl (far _ _ _ r)
    · rfl

/-- the blocks that a call begins with -/
theorem kv1 (w : World) (t : TypeId) (us : List Value) : Kv w [some (w.heap.size, us)] (w.alloc (objV t us)) := (Kv.nil w).new t us
theorem Kv.and {w0 w : World} {L : List (Option (Nat × List Value))} {n : Nat} (C : Kv w0 L w) (h : w.heap.size = n) (t : TypeId) (us : List Value) : Kv w0 (L ++ [some (n, us)]) (w.alloc (objV t us)) := by
  subst h; exact C.new t us
theorem kv2 (w : World) (t t' : TypeId) (us vs : List Value) : Kv w [some (w.heap.size, us), some (w.heap.size + 1, vs)] ((w.alloc (objV t us)).alloc (objV t' vs)) := (kv1 w t us).and (by simp) t' vs
theorem kv3 (w : World) (t t' t'' : TypeId) (us vs xs : List Value) : Kv w [some (w.heap.size, us), some (w.heap.size + 1, vs), some (w.heap.size + 1 + 1, xs)] (((w.alloc (objV t us)).alloc (objV t' vs)).alloc (objV t'' xs)) := (kv2 w t t' us vs).and (by simp) t'' xs
theorem kv4 (w : World) (t t' t'' t3 : TypeId) (us vs xs ys : List Value) : Kv w [some (w.heap.size, us), some (w.heap.size + 1, vs), some (w.heap.size + 1 + 1, xs), some (w.heap.size + 1 + 1 + 1, ys)] ((((w.alloc (objV t us)).alloc (objV t' vs)).alloc (objV t'' xs)).alloc (objV t3 ys)) := (kv3 w t t' t'' us vs xs).and (by simp) t3 ys

/-! ### a region -/
/-- a store of a region: which operation, into which entry, from which cell on, what -/
structure Sv where
  i : Nat
  j : Nat
  k : Nat
  vs : List Value
/-- an allocation of a region: which operation, which entry, of what type, the words in it -/
structure Av where
  i : Nat
  j : Nat
  t : TypeId
  us : List Value
/-- the entries as they are when L has come up: base, the stores -/
def storedV (sts : List Sv) (L : List (Option Value)) (j : Nat) (us vs : List Value) : Prop :=
  (∀ st ∈ sts, st.j = j → doneL L st.i → vs = setV us st.k st.vs) ∧ ((∀ st ∈ sts, st.j = j → ¬ doneL L st.i) → vs = us)
structure CurV (C D : List (Option (Nat × List Value))) (als : List Av) (sts : List Sv) (L : List (Option Value)) : Prop where
  len : D.length = C.length
  old : ∀ j, (∀ al ∈ als, al.j ≠ j) → (∃ g us vs, C[j]? = some (some (g, us)) ∧ D[j]? = some (some (g, vs)) ∧ storedV sts L j us vs) ∨ ((∀ g us, C[j]? ≠ some (some (g, us))) ∧ D[j]? = C[j]?)
  new : ∀ al ∈ als, (¬ doneL L al.i ∧ D[al.j]? = some none) ∨ ∃ h vs, L[al.i]? = some (some (ptrV h)) ∧ D[al.j]? = some (some (h, vs)) ∧ storedV sts L al.j al.us vs

theorem storedV_same {sts : List Sv} {L : List (Option Value)} {i j : Nat} {v : Value} {us vs : List Value} (hn : L[i]? = some none) (hs : ∀ st ∈ sts, st.j = j → st.i ≠ i) (h : storedV sts L j us vs) : storedV sts (L.set i (some v)) j us vs :=
  ⟨fun st hst e d => h.1 st hst e (by
    rcases (done_set hn _).1 d with q | q
    · exact absurd q (hs st hst e)
    · exact q), fun k => h.2 fun st hst e d => k st hst e ((done_set hn _).2 (.inr d))⟩
theorem storedV_now {sts : List Sv} {L : List (Option Value)} {st : Sv} {v : Value} {us vs : List Value} (hst : st ∈ sts) (hn : L[st.i]? = some none) (hi : ∀ st ∈ sts, ∀ st' ∈ sts, (st.j = st'.j ∨ st.i = st'.i) → st = st') (h : storedV sts L st.j us vs) : vs = us ∧ storedV sts (L.set st.i (some v)) st.j us (setV us st.k st.vs) := by
  have nd : ¬ doneL L st.i := fun ⟨v, hv⟩ => by rw [hn] at hv; simp at hv
  refine ⟨h.2 fun st' hst' e d => ?_, fun st' hst' e _ => by rw [hi st' hst' st hst (.inl e)], fun k => absurd ((done_set hn _).2 (.inl rfl)) (k st hst rfl)⟩
  rw [hi st' hst' st hst (.inl e)] at d
  exact nd d

section
variable {ops : Array Oper} {Q : Exit → Act → World → Prop}
set_option maxRecDepth 100000 in
theorem wp_region_v {id : Nat} {a0 : Act} {w w0 : World} {C : List (Option (Nat × List Value))} (als : List Av) (sts : List Sv) (dv : List Value) (ds : List (Option Tmp))
    (hm : Try.prog.follows .mixedOrders = true) (hds : ops.toList.map (·.dst) = ds) (hap : apartL ds = true) (hb : backward ops = true) (hg : plainL ops = true) (hC : Kv w0 C w)
    (ha : ∀ al ∈ als, C[al.j]? = some none) (haj : ∀ al ∈ als, ∀ al' ∈ als, (al.j = al'.j ∨ al.i = al'.i) → al = al') (hai : ∀ al ∈ als, al.i < ops.size)
    (hsi : ∀ st ∈ sts, ∀ st' ∈ sts, (st.j = st'.j ∨ st.i = st'.i) → st = st') (hss : ∀ st ∈ sts, st.i < ops.size) (hsa : ∀ st ∈ sts, ∀ al ∈ als, st.i ≠ al.i)
    (hsw : ∀ st ∈ sts, ∀ al ∈ als, st.j = al.j → waitsAt ops st.i al.i = true)
    (htg : ∀ st ∈ sts, (∃ g us, C[st.j]? = some (some (g, us)) ∧ st.k + st.vs.length ≤ us.length) ∨ ∃ al ∈ als, al.j = st.j ∧ st.k + st.vs.length ≤ al.us.length)
    (alloc : ∀ al ∈ als, ∀ (o : Oper) (ρ : Operand → Value) (W : World), ops[al.i]? = some o → (execOp ρ o).run Try.prog W = .ok (.value (ptrV W.heap.size)) (W.alloc (objV al.t al.us)))
    (step : ∀ (L : List (Option Value)) (W : World) (i : Nat) (o : Oper), ops[i]? = some o → (∀ st ∈ sts, st.i ≠ i) → (∀ al ∈ als, al.i ≠ i) → (∀ k, waits o k = true → (∀ al ∈ als, al.i ≠ k) → L[k]? = some (some (dv.getD k undef))) →
      (∀ (j g : Nat) (us : List Value), C[j]? = some (some (g, us)) → (∀ st ∈ sts, st.j = j → needs ops ops.size st.i i = true) → BV W g us) → Below w0.heap.size w0 W → Came o (puts ds L a0) W (dv.getD i undef))
    (store : ∀ st ∈ sts, ∀ (L : List (Option Value)) (W : World) (o : Oper) (h : Nat) (us : List Value), ops[st.i]? = some o → (∀ k, waits o k = true → (∀ al ∈ als, al.i ≠ k) → L[k]? = some (some (dv.getD k undef))) →
      (∀ al ∈ als, al.j = st.j → L[al.i]? = some (some (ptrV h)) ∧ us = al.us) → (∀ g vs, C[st.j]? = some (some (g, vs)) → h = g ∧ us = vs) → BV W h us →
      (execOp (puts ds L a0).eval o).run Try.prog W = .ok .skip (putV W h st.k st.vs) ∧ dv.getD st.i undef = undef)
    (fin : ∀ (L : List (Option Value)) (D : List (Option (Nat × List Value))) (W : World), L.length = ops.size → (∀ i, i < ops.size → (∀ al ∈ als, al.i ≠ i) → L[i]? = some (some (dv.getD i undef))) → D.length = C.length →
      (∀ j, (∀ st ∈ sts, st.j ≠ j) → (∀ al ∈ als, al.j ≠ j) → D[j]? = C[j]?) →
      (∀ st ∈ sts, ∀ g us, C[st.j]? = some (some (g, us)) → D[st.j]? = some (some (g, setV us st.k st.vs))) →
      (∀ al ∈ als, ∃ h, L[al.i]? = some (some (ptrV h)) ∧ (∀ st ∈ sts, st.j = al.j → D[al.j]? = some (some (h, setV al.us st.k st.vs))) ∧ ((∀ st ∈ sts, st.j ≠ al.j) → D[al.j]? = some (some (h, al.us)))) →
      Kv w0 D W → Q .normal (puts ds L a0) W) : (Code.region id ops true).wp Try.prog Q a0 w := by
  refine wp_region_inv hm ds hds hap hb hg (fun L W => (∀ i v, (∀ al ∈ als, al.i ≠ i) → L[i]? = some (some v) → v = dv.getD i undef) ∧ Closed ops L ∧ ∃ D, CurV C D als sts L ∧ Kv w0 D W) ?_ ?_ ?_
  · have nd : ∀ i, ¬ doneL (nones ops.size) i := fun i ⟨v, hv⟩ => absurd hv (nones_get _ _ _)
    refine ⟨fun i v _ h => absurd h (nones_get _ _ _), Closed.none _ _, C, ⟨rfl, fun j _ => ?_, fun al hal => .inl ⟨nd _, ha al hal⟩⟩, hC.draws⟩
    by_cases q : ∃ g us, C[j]? = some (some (g, us))
    · obtain ⟨g, us, e⟩ := q
      exact .inl ⟨g, us, us, e, e, fun st _ _ d => absurd d (nd _), fun _ => rfl⟩
    · exact .inr ⟨fun g us e => q ⟨g, us, e⟩, rfl⟩
  · intro L W i o hL ho hn hd ⟨hdet, hcl, D, hD, hK⟩
    have hd' : ∀ k, waits o k = true → (∀ al ∈ als, al.i ≠ k) → L[k]? = some (some (dv.getD k undef)) := fun k hk hka => by
      unfold waits at hk
      rw [List.any_eq_true] at hk
      obtain ⟨e, he, h2⟩ := hk
      simp only [Bool.and_eq_true, beq_iff_eq] at h2
      obtain ⟨v, hv⟩ := hd e (Array.mem_toList_iff.1 he) h2.2
      rw [h2.1] at hv
      rw [hv, hdet k v hka hv]
    have hil : i < L.length := (List.getElem?_eq_some_iff.1 hn).1
    have key : ∀ v, ((∀ al ∈ als, al.i ≠ i) → v = dv.getD i undef) → ∀ k u, (∀ al ∈ als, al.i ≠ k) → (L.set i (some v))[k]? = some (some u) → u = dv.getD k undef := fun v hv k u hka hk => by
      by_cases hik : i = k
      · subst hik
        rw [List.getElem?_set_self hil] at hk
        rw [← Option.some.inj (Option.some.inj hk)]; exact hv hka
      · rw [List.getElem?_set_ne hik] at hk; exact hdet k u hka hk
    have nd : ¬ doneL L i := fun ⟨v, hv⟩ => by rw [hn] at hv; simp at hv
    by_cases ea : ∃ al ∈ als, al.i = i
    · obtain ⟨al, hal, rfl⟩ := ea
      have r := alloc al hal o (puts ds L a0).eval W ho
      have hDj : D[al.j]? = some none := by
        rcases hD.new al hal with ⟨-, e⟩ | ⟨h, vs, e, -⟩
        · exact e
        · rw [hn] at e; simp at e
      have hjl : al.j < D.length := (List.getElem?_eq_some_iff.1 hDj).1
      unfold Oper.wp; rw [r]
      refine ⟨_, rfl, key _ (fun z => absurd rfl (z al hal)), hcl.set ho hn hd, D.set al.j (some (W.heap.size, al.us)), ⟨by simp [hD.len], fun j hj => ?_, fun al' hal' => ?_⟩, hK.make al.j hDj al.t al.us⟩
      · have hne : al.j ≠ j := hj al hal
        rw [List.getElem?_set_ne hne]
        rcases hD.old j hj with ⟨g, us, vs, e1, e2, e3⟩ | e
        · exact .inl ⟨g, us, vs, e1, e2, storedV_same hn (fun st hst _ => hsa st hst al hal) e3⟩
        · exact .inr e
      · by_cases q : al' = al
        · subst q
          refine .inr ⟨W.heap.size, al'.us, ?_, by rw [List.getElem?_set_self hjl], fun st hst e d => ?_, fun _ => rfl⟩
          · rw [List.getElem?_set_self hil]
          · rcases (done_set hn _).1 d with z | z
            · exact absurd z (hsa st hst al' hal)
            · exact absurd (hcl _ _ z (hsw st hst al' hal e)) nd
        · have hne : al.j ≠ al'.j := fun e => q (haj al' hal' al hal (.inl e.symm))
          have hni : al.i ≠ al'.i := fun e => q (haj al' hal' al hal (.inr e.symm))
          rw [List.getElem?_set_ne hne, List.getElem?_set_ne hni]
          rcases hD.new al' hal' with ⟨e1, e2⟩ | ⟨h, vs, e1, e2, e3⟩
          · exact .inl ⟨fun z => ((done_set hn _).1 z).elim (fun z => hni z.symm) e1, e2⟩
          · exact .inr ⟨h, vs, e1, e2, storedV_same hn (fun st hst _ => hsa st hst al hal) e3⟩
    · have ha' : ∀ al ∈ als, al.i ≠ i := fun al hal e => ea ⟨al, hal, e⟩
      by_cases es : ∃ st ∈ sts, st.i = i
      · obtain ⟨st, hst, rfl⟩ := es
        -- the block that is storedV into
        have B : ∃ h us, D[st.j]? = some (some (h, us)) ∧ st.k + st.vs.length ≤ us.length ∧ (∀ al ∈ als, al.j = st.j → L[al.i]? = some (some (ptrV h)) ∧ us = al.us) ∧ (∀ g vs, C[st.j]? = some (some (g, vs)) → h = g ∧ us = vs) := by
          by_cases q : ∃ al ∈ als, al.j = st.j
          · obtain ⟨al, hal, e⟩ := q
            have da : doneL L al.i := by
              have hs := hsw st hst al hal e.symm
              unfold waitsAt at hs
              rw [ho] at hs
              simp only [Option.map_some, Option.getD_some] at hs
              unfold waits at hs
              rw [List.any_eq_true] at hs
              obtain ⟨e', he, h2⟩ := hs
              simp only [Bool.and_eq_true, beq_iff_eq] at h2
              have := hd e' (Array.mem_toList_iff.1 he) h2.2
              rw [h2.1] at this
              exact this
            rcases hD.new al hal with ⟨z, -⟩ | ⟨h, vs, e1, e2, e3⟩
            · exact absurd da z
            · have hu := (storedV_now (v := undef) hst hn hsi (e ▸ e3)).1
              subst hu
              refine ⟨h, al.us, e ▸ e2, ?_, fun al' hal' e' => ?_, fun g vs' e' => ?_⟩
              · rcases htg st hst with ⟨g, us, c, -⟩ | ⟨al', hal', e', c⟩
                · rw [← e, ha al hal] at c; simp at c
                · rw [haj al' hal' al hal (.inl (by omega))] at c; exact c
              · rw [haj al' hal' al hal (.inl (by omega))]; exact ⟨e1, rfl⟩
              · rw [← e, ha al hal] at e'; simp at e'
          · have q' : ∀ al ∈ als, al.j ≠ st.j := fun al hal e => q ⟨al, hal, e⟩
            rcases htg st hst with ⟨g, us, c, c2⟩ | ⟨al', hal', e', -⟩
            · rcases hD.old st.j q' with ⟨g', us', vs', e1, e2, e3⟩ | ⟨e1, -⟩
              · rw [c] at e1
                simp at e1
                obtain ⟨rfl, rfl⟩ := e1
                have hu := (storedV_now (v := undef) hst hn hsi e3).1
                subst hu
                refine ⟨g, vs', e2, c2, fun al hal e => absurd e (q' al hal), fun g2 vs2 e => ?_⟩
                rw [c] at e
                simp at e
                exact ⟨e.1, e.2⟩
              · exact absurd c (e1 g us)
            · exact absurd e' (q' al' hal')
        obtain ⟨h, us, hDj, hk, b1, b2⟩ := B
        obtain ⟨r, u⟩ := store st hst L W o h us ho hd' b1 b2 (hK.at_ st.j hDj)
        have hjl : st.j < D.length := (List.getElem?_eq_some_iff.1 hDj).1
        unfold Oper.wp; rw [r]
        refine ⟨undef, rfl, key _ (fun _ => u.symm), hcl.set ho hn hd, D.set st.j (some (h, setV us st.k st.vs)), ⟨by simp [hD.len], fun j hj => ?_, fun al hal => ?_⟩, hK.put st.j hDj st.k st.vs hk⟩
        · by_cases e : st.j = j
          · subst e
            rcases hD.old _ hj with ⟨g, us', vs', e1, e2, e3⟩ | ⟨e1, e2⟩
            · rw [hDj] at e2
              simp at e2
              obtain ⟨rfl, rfl⟩ := e2
              obtain ⟨rfl, S⟩ := storedV_now (v := undef) hst hn hsi e3
              exact .inl ⟨_, _, _, e1, by rw [List.getElem?_set_self hjl], S⟩
            · rw [hDj] at e2
              exact absurd e2.symm (e1 h us)
          · rw [List.getElem?_set_ne e]
            rcases hD.old j hj with ⟨g, us', vs', e1, e2, e3⟩ | e'
            · exact .inl ⟨g, us', vs', e1, e2, storedV_same hn (fun st' hst' e' z => e (by rw [← hsi st' hst' st hst (.inr z)]; exact e')) e3⟩
            · exact .inr e'
        · have hni : st.i ≠ al.i := hsa st hst al hal
          rw [List.getElem?_set_ne hni]
          by_cases e : st.j = al.j
          · rcases hD.new al hal with ⟨-, e2⟩ | ⟨h', vs', e1, e2, e3⟩
            · rw [← e, hDj] at e2; simp at e2
            · rw [← e, hDj] at e2
              simp at e2
              obtain ⟨rfl, rfl⟩ := e2
              rw [← e] at e3 ⊢
              obtain ⟨rfl, S⟩ := storedV_now (v := undef) hst hn hsi e3
              exact .inr ⟨_, _, e1, by rw [List.getElem?_set_self hjl], S⟩
          · rw [List.getElem?_set_ne e]
            rcases hD.new al hal with ⟨e1, e2⟩ | ⟨h', vs', e1, e2, e3⟩
            · exact .inl ⟨fun z => ((done_set hn _).1 z).elim (fun z => hni z.symm) e1, e2⟩
            · exact .inr ⟨h', vs', e1, e2, storedV_same hn (fun st' hst' e' z => e (by rw [← hsi st' hst' st hst (.inr z)]; exact e')) e3⟩
      · have hs' : ∀ st ∈ sts, st.i ≠ i := fun st hst e => es ⟨st, hst, e⟩
        have hB : ∀ (j g : Nat) (us : List Value), C[j]? = some (some (g, us)) → (∀ st ∈ sts, st.j = j → needs ops ops.size st.i i = true) → BV W g us := fun j g us h hh => by
          refine hK.at_ j ?_
          have q : ∀ al ∈ als, al.j ≠ j := fun al hal e => by
            have := ha al hal
            rw [e, h] at this
            simp at this
          rcases hD.old j q with ⟨g', us', vs', e1, e2, e3⟩ | ⟨e1, -⟩
          · rw [h] at e1
            simp at e1
            obtain ⟨rfl, rfl⟩ := e1
            rw [e2, e3.2 fun st hst e d => nd (hcl.needs _ _ _ (hh st hst e) d)]
          · exact absurd h (e1 g us)
        have hcur : ∀ v, CurV C D als sts (L.set i (some v)) := fun v => ⟨hD.len, fun j hj => by
            rcases hD.old j hj with ⟨g, us', vs', e1, e2, e3⟩ | e'
            · exact .inl ⟨g, us', vs', e1, e2, storedV_same hn (fun st hst _ => hs' st hst) e3⟩
            · exact .inr e', fun al hal => by
            rcases hD.new al hal with ⟨e1, e2⟩ | ⟨h', vs', e1, e2, e3⟩
            · exact .inl ⟨fun z => ((done_set hn _).1 z).elim (ha' al hal) e1, e2⟩
            · exact .inr ⟨h', vs', by rw [List.getElem?_set_ne (Ne.symm (ha' al hal))]; exact e1, e2, storedV_same hn (fun st hst _ => hs' st hst) e3⟩⟩
        rcases step L W i o ho hs' ha' hd' hB hK.old with ⟨w', r, k⟩ | ⟨f, args, r, k⟩
        · unfold Oper.wp; rw [r]
          exact ⟨_, rfl, key _ (fun _ => rfl), hcl.set ho hn hd, D, hcur _, hK.on k⟩
        · unfold Oper.wp; rw [r]
          refine Calls.mono k fun e w' hh => ?_
          obtain ⟨rfl, hS⟩ := hh
          exact ⟨_, rfl, key _ (fun _ => rfl), hcl.set ho hn hd, D, hcur _, hK.on hS⟩
  · rintro L W hL hall ⟨hdet, -, D, hD, hK⟩
    refine fin L D W hL (fun i hi hia => ?_) hD.len (fun j hj q => ?_) (fun st hst g us h => ?_) (fun al hal => ?_) hK
    · obtain ⟨v, hv⟩ := hall i hi
      rw [hv, hdet i v hia hv]
    · rcases hD.old j q with ⟨g', us', vs', e1, e2, e3⟩ | ⟨-, e⟩
      · rw [e1, e2, e3.2 fun st hst e => absurd e (hj st hst)]
      · exact e
    · have q : ∀ al ∈ als, al.j ≠ st.j := fun al hal e => by
        have := ha al hal
        rw [e, h] at this
        simp at this
      rcases hD.old st.j q with ⟨g', us', vs', e1, e2, e3⟩ | ⟨e1, -⟩
      · rw [h] at e1
        simp at e1
        obtain ⟨rfl, rfl⟩ := e1
        rw [e2, e3.1 st hst rfl (hall _ (hss st hst))]
      · exact absurd h (e1 g us)
    · rcases hD.new al hal with ⟨z, -⟩ | ⟨h, vs, e1, e2, e3⟩
      · exact absurd (hall _ (hai al hal)) z
      · refine ⟨h, e1, fun st hst e => ?_, fun hn => ?_⟩
        · rw [e2, e3.1 st hst e (hall _ (hss st hst))]
        · rw [e2, e3.2 fun st hst e => absurd e (hn st hst)]
set_option maxRecDepth 100000 in
/-- what is left when all has come up, told by the addresses of what was made -/
theorem wp_region_kv {id : Nat} {a0 : Act} {w w0 : World} {C : List (Option (Nat × List Value))} (E : (Nat → Nat) → List (Option (Nat × List Value))) (Lf : (Nat → Nat) → List (Option Value)) (als : List Av) (sts : List Sv) (dv : List Value) (ds : List (Option Tmp))
    (hm : Try.prog.follows .mixedOrders = true) (hds : ops.toList.map (·.dst) = ds) (hap : apartL ds = true) (hb : backward ops = true) (hg : plainL ops = true) (hC : Kv w0 C w)
    (ha : ∀ al ∈ als, C[al.j]? = some none) (haj : ∀ al ∈ als, ∀ al' ∈ als, (al.j = al'.j ∨ al.i = al'.i) → al = al') (hai : ∀ al ∈ als, al.i < ops.size)
    (hsi : ∀ st ∈ sts, ∀ st' ∈ sts, (st.j = st'.j ∨ st.i = st'.i) → st = st') (hss : ∀ st ∈ sts, st.i < ops.size) (hsa : ∀ st ∈ sts, ∀ al ∈ als, st.i ≠ al.i)
    (hsw : ∀ st ∈ sts, ∀ al ∈ als, st.j = al.j → waitsAt ops st.i al.i = true)
    (htg : ∀ st ∈ sts, (∃ g us, C[st.j]? = some (some (g, us)) ∧ st.k + st.vs.length ≤ us.length) ∨ ∃ al ∈ als, al.j = st.j ∧ st.k + st.vs.length ≤ al.us.length)
    (hE2 : ∀ hf j, (∀ st ∈ sts, st.j ≠ j) → (∀ al ∈ als, al.j ≠ j) → (E hf)[j]? = C[j]?)
    (hE3 : ∀ hf, ∀ st ∈ sts, ∀ g us, C[st.j]? = some (some (g, us)) → (E hf)[st.j]? = some (some (g, setV us st.k st.vs)))
    (hE4 : ∀ hf, ∀ al ∈ als, (∀ st ∈ sts, st.j = al.j → (E hf)[al.j]? = some (some (hf al.i, setV al.us st.k st.vs))) ∧ ((∀ st ∈ sts, st.j ≠ al.j) → (E hf)[al.j]? = some (some (hf al.i, al.us))))
    (hL1 : ∀ hf, (Lf hf).length = ops.size)
    (hL2 : ∀ hf i, i < ops.size → (∀ al ∈ als, al.i ≠ i) → (Lf hf)[i]? = some (some (dv.getD i undef)))
    (hL3 : ∀ hf, ∀ al ∈ als, (Lf hf)[al.i]? = some (some (ptrV (hf al.i))))
    (alloc : ∀ al ∈ als, ∀ (o : Oper) (ρ : Operand → Value) (W : World), ops[al.i]? = some o → (execOp ρ o).run Try.prog W = .ok (.value (ptrV W.heap.size)) (W.alloc (objV al.t al.us)))
    (step : ∀ (L : List (Option Value)) (W : World) (i : Nat) (o : Oper), ops[i]? = some o → (∀ st ∈ sts, st.i ≠ i) → (∀ al ∈ als, al.i ≠ i) → (∀ k, waits o k = true → (∀ al ∈ als, al.i ≠ k) → L[k]? = some (some (dv.getD k undef))) →
      (∀ (j g : Nat) (us : List Value), C[j]? = some (some (g, us)) → (∀ st ∈ sts, st.j = j → needs ops ops.size st.i i = true) → BV W g us) → Below w0.heap.size w0 W → Came o (puts ds L a0) W (dv.getD i undef))
    (store : ∀ st ∈ sts, ∀ (L : List (Option Value)) (W : World) (o : Oper) (h : Nat) (us : List Value), ops[st.i]? = some o → (∀ k, waits o k = true → (∀ al ∈ als, al.i ≠ k) → L[k]? = some (some (dv.getD k undef))) →
      (∀ al ∈ als, al.j = st.j → L[al.i]? = some (some (ptrV h)) ∧ us = al.us) → (∀ g vs, C[st.j]? = some (some (g, vs)) → h = g ∧ us = vs) → BV W h us →
      (execOp (puts ds L a0).eval o).run Try.prog W = .ok .skip (putV W h st.k st.vs) ∧ dv.getD st.i undef = undef)
    (fin : ∀ (hf : Nat → Nat) (W : World), Kv w0 (E hf) W → Q .normal (puts ds (Lf hf) a0) W) : (Code.region id ops true).wp Try.prog Q a0 w := by
  refine wp_region_v als sts dv ds hm hds hap hb hg hC ha haj hai hsi hss hsa hsw htg alloc step store fun L D W hL hall hlen hold hst hal hK => ?_
  -- the addresses
  let hf : Nat → Nat := fun i => match L[i]? with
    | some (some (.pointer (some p))) => p.block
    | _ => 0
  have hfe : ∀ al ∈ als, ∀ h, L[al.i]? = some (some (ptrV h)) → hf al.i = h := fun al _ h e => by
    show (match L[al.i]? with | some (some (.pointer (some p))) => p.block | _ => 0) = h
    rw [e]; rfl
  have eL : L = Lf hf := by
    refine List.ext_getElem? fun i => ?_
    by_cases hi : i < ops.size
    · by_cases q : ∃ al ∈ als, al.i = i
      · obtain ⟨al, m, rfl⟩ := q
        obtain ⟨h, e, -⟩ := hal al m
        rw [hL3 hf al m, hfe al m h e, e]
      · have q' : ∀ al ∈ als, al.i ≠ i := fun al m e => q ⟨al, m, e⟩
        rw [hall i hi q', hL2 hf i hi q']
    · rw [List.getElem?_eq_none (by omega), List.getElem?_eq_none (by rw [hL1 hf]; omega)]
  have eD : D = E hf := by
    refine List.ext_getElem? fun j => ?_
    by_cases q : ∃ al ∈ als, al.j = j
    · obtain ⟨al, m, rfl⟩ := q
      obtain ⟨h, e, d1, d2⟩ := hal al m
      have e4 := hE4 hf al m
      rw [hfe al m h e] at e4
      by_cases r : ∃ st ∈ sts, st.j = al.j
      · obtain ⟨st, ms, es⟩ := r
        rw [d1 st ms es, e4.1 st ms es]
      · have r' : ∀ st ∈ sts, st.j ≠ al.j := fun st ms es => r ⟨st, ms, es⟩
        rw [d2 r', e4.2 r']
    · have q' : ∀ al ∈ als, al.j ≠ j := fun al m e => q ⟨al, m, e⟩
      by_cases r : ∃ st ∈ sts, st.j = j
      · obtain ⟨st, ms, rfl⟩ := r
        rcases htg st ms with ⟨g, us, c, -⟩ | ⟨al, m, e, -⟩
        · rw [hst st ms g us c, hE3 hf st ms g us c]
        · exact absurd e (q' al m)
      · have r' : ∀ st ∈ sts, st.j ≠ j := fun st ms es => r ⟨st, ms, es⟩
        rw [hold j r' q', hE2 hf j r' q']
  rw [eL]
  rw [eD] at hK
  exact fin hf W hK
end
end Go.Proofs.Ytacinenddnfcbaa

namespace Go.Proofs.Ytacinenddnfcbaa
open Go.ChangeShapes Go.WideShapes Go.ChangeAt Go.RowKit Go.Joins Go.Deep

/-- a slice that holds records of m cells each -/
def RAt (w : World) (ao : Option Addr) (m : Nat) (R : List (List Value)) : Prop :=
  ∀ j r, R[j]? = some r → ∃ b o, ao = some ⟨b, o, none⟩ ∧ b < w.heap.size ∧ ∀ k u, r[k]? = some u → w.cell? ⟨b, o + j * m + k, none⟩ = some u
theorem RAt.below {w w' : World} {ao : Option Addr} {m B : Nat} {R : List (List Value)} (h : RAt w ao m R) (hB : ∀ b o, ao = some ⟨b, o, none⟩ → 0 < R.length → b < B) (hb : Below B w w') : RAt w' ao m R := by
  intro j r hj
  obtain ⟨b, o, e, hl, h1⟩ := h j r hj
  have hlt : b < B := hB b o e (by have := (List.getElem?_eq_some_iff.1 hj).1; omega)
  exact ⟨b, o, e, Nat.lt_of_lt_of_le hl hb.size, fun k u hu => (hb.cell (p := ⟨b, o + j * m + k, none⟩) hlt).trans (h1 k u hu)⟩
theorem RAt.on {w w' : World} {ao : Option Addr} {m : Nat} {R : List (List Value)} (h : RAt w ao m R) (hb : Below w.heap.size w w') : RAt w' ao m R := by
  intro j r hj
  obtain ⟨b, o, e, hl, h1⟩ := h j r hj
  exact ⟨b, o, e, Nat.lt_of_lt_of_le hl hb.size, fun k u hu => (hb.cell (p := ⟨b, o + j * m + k, none⟩) hl).trans (h1 k u hu)⟩
theorem RAt.lt {w : World} {ao : Option Addr} {m : Nat} {R : List (List Value)} (h : RAt w ao m R) : ∀ b o, ao = some ⟨b, o, none⟩ → 0 < R.length → b < w.heap.size := by
  rintro b o rfl hl
  obtain ⟨b', o', e, hb, _⟩ := h 0 (R[0]'hl) (List.getElem?_eq_getElem hl)
  simp at e
  obtain ⟨rfl, rfl⟩ := e
  exact hb
theorem RAt.alloc {w : World} {ao : Option Addr} {m : Nat} {R : List (List Value)} (h : RAt w ao m R) (o : Obj) : RAt (w.alloc o) ao m R := h.on ((Below.refl _ _).alloc (Nat.le_refl _) o)
theorem RAt.drew {w : World} {ao : Option Addr} {m : Nat} {R : List (List Value)} (h : RAt w ao m R) (n : Nat) : RAt (w.drewN n) ao m R := h

/-- records of m cells -/
structure RowsOk (m : Nat) (R : List (List Value)) : Prop where
  len : ∀ r ∈ R, r.length = m
  one : ∀ r ∈ R, ∀ u ∈ r, u.oneCell' = true
theorem RowsOk.tail {m : Nat} {r : List Value} {R : List (List Value)} (h : RowsOk m (r :: R)) : RowsOk m R := ⟨fun x hx => h.len x (List.mem_cons_of_mem _ hx), fun x hx => h.one x (List.mem_cons_of_mem _ hx)⟩
theorem flat_len {m : Nat} : ∀ {R : List (List Value)}, RowsOk m R → R.flatten.length = R.length * m
  | [], _ => by simp
  | r :: R, h => by
    rw [List.flatten_cons, List.length_append, flat_len h.tail, h.len r (List.mem_cons_self ..), List.length_cons, Nat.add_mul]; omega
theorem flat_at {m : Nat} : ∀ {R : List (List Value)}, RowsOk m R → ∀ {j c : Nat} {r : List Value} {u : Value}, R[j]? = some r → r[c]? = some u → R.flatten[j * m + c]? = some u
  | [], _, j, c, r, u, h, _ => by simp at h
  | q :: R, h, 0, c, r, u, hj, hc => by
    simp at hj
    subst hj
    have hl := (List.getElem?_eq_some_iff.1 hc).1
    rw [List.flatten_cons, Nat.zero_mul, Nat.zero_add, List.getElem?_append_left hl]
    exact hc
  | q :: R, h, j + 1, c, r, u, hj, hc => by
    have hq := h.len q (List.mem_cons_self ..)
    rw [List.flatten_cons, List.getElem?_append_right (by rw [hq, Nat.add_mul]; omega), hq]
    have e : (j + 1) * m + c - m = j * m + c := by rw [Nat.add_mul]; omega
    rw [e]
    exact flat_at h.tail (by simpa using hj) hc
theorem flat_place {m : Nat} : ∀ {R : List (List Value)}, RowsOk m R → ∀ {k : Nat} {u : Value}, R.flatten[k]? = some u → ∃ j c r, R[j]? = some r ∧ r[c]? = some u ∧ k = j * m + c
  | [], _, k, u, h => by simp at h
  | q :: R, h, k, u, hk => by
    have hq := h.len q (List.mem_cons_self ..)
    rw [List.flatten_cons] at hk
    by_cases hl : k < q.length
    · rw [List.getElem?_append_left hl] at hk
      exact ⟨0, k, q, by simp, hk, by omega⟩
    · rw [List.getElem?_append_right (by omega), hq] at hk
      obtain ⟨j, c, r, h1, h2, h3⟩ := flat_place h.tail hk
      exact ⟨j + 1, c, r, by simpa using h1, h2, by rw [Nat.add_mul]; omega⟩
theorem flat_one {m : Nat} {R : List (List Value)} (h : RowsOk m R) : ∀ u ∈ R.flatten, u.oneCell' = true := by
  intro u hu
  obtain ⟨r, hr, hu⟩ := List.mem_flatten.1 hu
  exact h.one r hr u hu
theorem info_ofR {P : Program} {t : TypeId} {z : Value} {s b : Nat} (h : (P.info? t).map (fun i => (i.zero, i.size, i.bytes)) = some (some z, s, b)) : ∃ i, P.info? t = some i ∧ i.zero = some z ∧ i.size = s ∧ i.bytes = b := by
  cases hi : P.info? t with
  | none => rw [hi] at h; cases h
  | some i =>
    rw [hi] at h
    simp only [Option.map_some, Option.some.injEq, Prod.mk.injEq] at h
    exact ⟨i, rfl, h.1, h.2.1, h.2.2⟩
theorem ad_plainR (b o i : Nat) : (⟨b, o, none⟩ : Addr).add i = ⟨b, o + i, none⟩ := by
  unfold Addr.add
  split
  · rename_i h; subst h; rfl
  · rfl
/-- what the program tells of a type of records and of its slices -/
structure RecT (t e : TypeId) (m bytes : Nat) (z : Value) : Prop where
  te : Try.prog.underlying t = some (.slice e)
  info : (Try.prog.info? e).map (fun i => (i.zero, i.size, i.bytes)) = some (some z, m, bytes)
  zs : z.cells.size = m
  pos : 0 < m
set_option maxRecDepth 100000 in
/-- a list appended to what the call owns, at one operation -/
theorem wp_dupR {w : World} {o : Oper} {a : Act} {K : Act → World → Prop} {Q : Exit → Act → World → Prop} {t e : TypeId} {m bytes : Nat} {z : Value} (T : RecT t e m bytes z) (s x : Operand)
    (ho : o.op = .call { callee := .builtin .append, args := #[s, x], argTypes := #[t, t] }) (base : Nat) (v : Value) (us : List (List Value)) (hs : a.eval s = v)
    (hown : w.ownsRow base e m v us.length us.flatten) (ao : Option Addr) (n cap : Nat) (R : List (List Value)) (hx : a.eval x = .slice ao n cap) (hn : n = R.length) (hnone : ao = none → cap = 0) (ha : RAt w ao m R) (hR : RowsOk m R)
    (hmax : us.length + R.length ≤ maxLen) (hby : (us.length + R.length) * bytes ≤ 140737488355328) (hbase : base ≤ w.heap.size)
    (h : ∀ v' w', w'.ownsRow base e m v' (us ++ R).length (us ++ R).flatten → w.grownBy w' v.ownBlock → K (a.put o.dst v') w') :
    o.wp Try.prog a w K Q := by
  obtain ⟨i0, hi0, hz0, hz1, hz2⟩ := info_ofR T.info
  subst hn
  cases ao with
  | none =>
    have hL : R = [] := by
      refine List.eq_nil_of_length_eq_zero (Nat.eq_zero_of_not_pos fun hp => ?_)
      obtain ⟨b, o, e, _⟩ := ha 0 _ (List.getElem?_eq_getElem hp)
      simp at e
    subst hL
    rw [hnone rfl] at hx
    have hrun := run_append_owned_none (P := Try.prog) (w := w) base t o.type e i0 m T.te hi0 v us.length _ hown
    unfold Oper.wp
    simp [execOp, ho, resolve, invoke, builtin, hs, hx, hrun, Result.andThen]
    exact h v w (by simpa using hown) (World.grownBy.refl _ _)
  | some ad =>
    refine wp_append_own w s x t ho base e i0 z m bytes T.te hi0 hz0 hz1 hz2 T.zs T.pos v us.length _ hs hown ad R.length cap R.flatten hx (flat_len hR) ?_ (flat_one hR) hmax hby hbase ?_
    · intro k u hk
      obtain ⟨j, c, r, h1, h2, rfl⟩ := flat_place hR hk
      obtain ⟨b, o', e, _, h3⟩ := ha j r h1
      simp only [Option.some.injEq] at e
      subst e
      rw [ad_plainR, ← Nat.add_assoc]
      exact h3 c u h2
    · intro v' w' h1 h2 _
      exact h v' w' (by rw [List.flatten_append, List.length_append]; exact h1) h2
/-- a copy of a list of records -/
structure CopiedR (w w' : World) (ao' : Option Addr) (n cap' m : Nat) (R : List (List Value)) : Prop where
  room : n ≤ cap'
  most : cap' ≤ maxLen
  bare : ao' = none → cap' = 0
  at_ : RAt w' ao' m R
  old : Below w.heap.size w w'
  own : ∀ b o, ao' = some ⟨b, o, none⟩ → o = 0 ∧ w.heap.size ≤ b ∧ ∀ k, k < n * m → w'.frozen? ⟨b, k, none⟩ = false
theorem ownsR_at {w : World} {base m : Nat} {e : TypeId} {v : Value} {us : List (List Value)} (hu : RowsOk m us) (h : w.ownsRow base e m v us.length us.flatten) :
    ∃ ao cap, v = .slice ao us.length cap ∧ us.length ≤ cap ∧ cap ≤ maxLen ∧ RAt w ao m us ∧ (ao = none → cap = 0) ∧ ∀ b o, ao = some ⟨b, o, none⟩ → o = 0 ∧ base ≤ b ∧ ∀ k, k < us.length * m → w.frozen? ⟨b, k, none⟩ = false := by
  rcases h.2 with ⟨rfl, h0⟩ | ⟨g, cap, cur, rfl, hg, hr, hn, hcm, hsz, ht⟩
  · have hu : us = [] := List.eq_nil_of_length_eq_zero h0
    subst hu
    exact ⟨none, 0, rfl, Nat.le_refl _, by decide, by intro j r hj; simp at hj, fun _ => rfl, by intro b o e; simp at e⟩
  · have hc : ∀ j u, us.flatten[j]? = some u → w.cell? ⟨g, j, none⟩ = some u := by
      intro j u hj
      have hjl : j < us.length * m := by rw [← flat_len hu]; exact (List.getElem?_eq_some_iff.1 hj).1
      rw [cell_of_row w g j cur _ _ hr]
      rw [← ht, List.getElem?_take, if_pos hjl, Array.getElem?_toList] at hj
      exact hj
    refine ⟨_, cap, rfl, hn, hcm, fun j r hj => ⟨g, 0, rfl, (Array.getElem?_eq_some_iff.1 hr).1, fun k u hk => ?_⟩, by intro e; simp at e, ?_⟩
    · rw [Nat.zero_add]; exact hc _ _ (flat_at hu hj hk)
    · intro b o e
      simp only [Option.some.injEq, Addr.mk.injEq, and_true] at e
      obtain ⟨rfl, rfl⟩ := e
      exact ⟨rfl, hg, fun k _ => frozen_of_row w g k cur _ hr⟩
theorem ownsR_empty (w : World) (e : TypeId) (m : Nat) : (w.alloc (.cells #[] e)).ownsRow w.heap.size e m (.slice (some ⟨w.heap.size, 0, none⟩) 0 0) ([] : List (List Value)).length ([] : List (List Value)).flatten := by
  have := World.ownsRow_lit w #[] (e := e) (size := m) 0 (Nat.le_refl _) (by decide) (by simp)
  exact this
set_option maxRecDepth 100000 in
theorem wpList_copyR {w : World} {ops : Array Oper} {rest : List Oper} {o : Oper} {a : Act} {Q : Exit → Act → World → Prop} {t e : TypeId} {m bytes : Nat} {z : Value} (T : RecT t e m bytes z) (hgd : o.guard = none) (s x : Operand)
    (ho : o.op = .call { callee := .builtin .append, args := #[s, x], argTypes := #[t, t] }) (hs : a.eval s = .slice (some ⟨w.heap.size, 0, none⟩) 0 0)
    (ao : Option Addr) (n cap : Nat) (R : List (List Value)) (hx : a.eval x = .slice ao n cap) (hn : n = R.length) (hnone : ao = none → cap = 0) (ha : RAt w ao m R) (hR : RowsOk m R) (hmax : n ≤ maxLen) (hr : n * bytes ≤ 140737488351232)
    (h : ∀ ao' cap' w', CopiedR w w' ao' n cap' m R → wpList Try.prog ops Q rest (a.put o.dst (.slice ao' n cap')) w') :
    wpList Try.prog ops Q (o :: rest) a (w.alloc (.cells #[] e)) := by
  have B1 := (Below.refl w.heap.size w).alloc (Nat.le_refl _) (.cells #[] e)
  refine wpList_plain hgd fun _ hK => wp_dupR T s x ho w.heap.size _ [] hs (ownsR_empty w e m) ao n cap R hx hn hnone (ha.alloc _) hR (by simp; omega) (by simp; rw [← hn]; omega) (by simp) fun v' w' ho' hg' => hK _ _ ?_
  have B2 : Below w.heap.size w w' := B1.grown hg' (by simp) (by intro k hk; simp [Value.ownBlock] at hk; omega)
  rw [List.nil_append] at ho'
  obtain ⟨ao', cap', rfl, h1, h2, h3, h4, h5⟩ := ownsR_at hR ho'
  rw [← hn] at h1 h5 ⊢
  exact h ao' cap' w' ⟨h1, h2, h4, h3, B2, h5⟩
/-- one cell of one record written -/
theorem RAt.set1 {w : World} {b m : Nat} {R : List (List Value)} (h : RAt w (some ⟨b, 0, none⟩) m R) (hR : RowsOk m R) {j c : Nat} {r : List Value} {u : Value} (hj : R[j]? = some r) (hc : r[c]? = some u) (v : Value) :
    RAt (w.setCell ⟨b, j * m + c, none⟩ v) (some ⟨b, 0, none⟩) m (R.set j (r.set c v)) := by
  have hjl := (List.getElem?_eq_some_iff.1 hj).1
  have hcl := (List.getElem?_eq_some_iff.1 hc).1
  have hm : c < m := by rw [← hR.len r (List.mem_of_getElem? hj)]; exact hcl
  obtain ⟨b0, o0, e0, hb, hcell⟩ := h j r hj
  simp only [Option.some.injEq, Addr.mk.injEq, and_true] at e0
  obtain ⟨rfl, rfl⟩ := e0
  intro i q hq
  refine ⟨b, 0, rfl, by simpa using hb, fun k x hx => ?_⟩
  by_cases hij : j = i
  · subst hij
    rw [List.getElem?_set_self hjl] at hq
    obtain rfl := Option.some.inj hq
    by_cases hk : c = k
    · subst hk
      rw [List.getElem?_set_self hcl] at hx
      obtain rfl := Option.some.inj hx
      rw [Nat.zero_add]
      have h2 := hcell c u hc
      rw [Nat.zero_add] at h2
      exact World.cell?_setCell_same _ _ _ h2
    · rw [List.getElem?_set_ne hk] at hx
      rw [Nat.zero_add, World.cell?_setCell_other _ _ _ _ (fun e => by simp at e <;> omega)]
      have h2 := hcell k x hx
      rwa [Nat.zero_add] at h2
  · rw [List.getElem?_set_ne hij] at hq
    have hk : k < m := by rw [← hR.len q (List.mem_of_getElem? hq)]; exact (List.getElem?_eq_some_iff.1 hx).1
    have hne : j * m + c ≠ i * m + k := by
      intro e
      rcases Nat.lt_or_ge j i with g | g
      · have := Nat.mul_le_mul_right m (show j + 1 ≤ i by omega)
        rw [Nat.add_mul] at this
        omega
      · have := Nat.mul_le_mul_right m (show i + 1 ≤ j by omega)
        rw [Nat.add_mul] at this
        omega
    rw [Nat.zero_add, World.cell?_setCell_other _ _ _ _ (fun e => by simp at e <;> omega)]
    obtain ⟨b1, o1, e1, -, h2⟩ := h i q hq
    simp only [Option.some.injEq, Addr.mk.injEq, and_true] at e1
    obtain ⟨rfl, rfl⟩ := e1
    have h3 := h2 k x hx
    rwa [Nat.zero_add] at h3
theorem RowsOk.set {m : Nat} {R : List (List Value)} (h : RowsOk m R) {j : Nat} {r : List Value} (hr : r.length = m) (ho : ∀ u ∈ r, u.oneCell' = true) : RowsOk m (R.set j r) := by
  refine ⟨fun x hx => ?_, fun x hx => ?_⟩
  · rcases List.mem_or_eq_of_mem_set hx with q | q
    · exact h.len x q
    · exact q ▸ hr
  · rcases List.mem_or_eq_of_mem_set hx with q | q
    · exact h.one x q
    · exact q ▸ ho
/-- a list of records of the call's own -/
structure OwnR (e : TypeId) (m : Nat) (base : Nat) (w : World) (R : List (List Value)) (v : Value) (w' : World) : Prop where
  old : Below base w w'
  own : w'.ownsRow base e m v R.length R.flatten
  size : base ≤ w'.heap.size
  ok : RowsOk m R
theorem OwnR.nil (e : TypeId) (m : Nat) (w : World) : OwnR e m w.heap.size w [] (.slice none 0 0) w := ⟨Below.refl _ _, World.ownsRow_nil _ _ _ _, Nat.le_refl _, ⟨by simp, by simp⟩⟩
section
variable {H : Type} {enc : TypeId × Value → H}
set_option maxRecDepth 100000 in
/-- a list of records that came in, opened -/
theorem open_rows {W : World} {v : Value} {d : DataW H} {ps : List MemPlace} {t e : TypeId} {m : Nat} (Good : List Value → Prop) (te : Try.prog.underlying t = some (.slice e)) (hC : Try.prog.cellsOf e = m) (hm0 : 0 < m)
    (rd : ∀ n cs y, cs.length = m → DataW.trod enc Try.prog W 0 (fun _ => true) true n e cs = some y → Good cs)
    (hval : ∃ ao n c, v = .slice ao n c) (h : DataW.Trod enc Try.prog W 0 (fun _ => true) true t v d ps) :
    ∃ ao cap R, v = .slice ao (List.length R) cap ∧ R.length ≤ cap ∧ cap ≤ maxLen ∧ RAt W ao m R ∧ (∀ r ∈ R, Good r ∧ r.length = m) ∧ ((ao = none ∧ cap = 0) ∨ ((∃ a, ao = some a) ∧ ∃ es sp : List (DataW H), d = .slice es sp ∧ es.length + sp.length = cap)) := by
  obtain ⟨a0, n0, c0, rfl⟩ := hval
  obtain ⟨fuel, hf⟩ := h
  rcases open_slice te hf with ⟨h1, _⟩ | ⟨a, len, cap, k, n, D, Pl, h1, _, hl, hm, hmm, hx, hcell⟩
  · simp [Value.cells] at h1
    obtain ⟨rfl, rfl, rfl⟩ := h1
    exact ⟨none, 0, [], rfl, Nat.le_refl _, by decide, by intro j r hj; simp at hj, by intro r hr; simp at hr, Or.inl ⟨rfl, rfl⟩⟩
  · simp [Value.cells] at h1
    obtain ⟨rfl, rfl, rfl⟩ := h1
    simp only [if_true] at hmm
    subst hmm
    rw [hC] at hcell
    obtain ⟨F, hF⟩ := Deep.choose_lt (n := k) (p := fun i (q : List Value) => W.cells? 0 (a.add (i * m)) m = some q ∧ Good q) (fun i hi => by
      obtain ⟨cs, h1, h2⟩ := hcell i hi
      have hl := (World.cells?_some h1).2.1
      exact ⟨cs, h1, rd n cs _ hl h2⟩)
    refine ⟨some a, k, (List.range n0).map F, by simp, by simpa using hl, hm, ?_, ?_, Or.inr ⟨⟨a, rfl⟩, (List.range n0).map D, (List.range (k - n0)).map fun j => D (n0 + j), by simpa using (congrArg Prod.fst hx), by simp; omega⟩⟩
    · intro j r hj
      have hjl : j < n0 := by have := (List.getElem?_eq_some_iff.1 hj).1; simpa using this
      have hr : r = F j := by
        have : ((List.range n0).map F)[j]? = some (F j) := by simp [hjl]
        rw [this] at hj
        exact (Option.some.inj hj).symm
      subst hr
      obtain ⟨h1, -⟩ := hF j (by omega)
      obtain ⟨_, hlen, hat⟩ := World.cells?_some h1
      obtain ⟨b, o, s⟩ := a
      have hv : (F j)[0]? = some ((F j)[0]'(by omega)) := List.getElem?_eq_getElem (by omega)
      have hc0 := (hat 0 hm0).trans hv
      have hsp : s = none := by
        obtain ⟨g1, -⟩ := hF 0 (by omega)
        obtain ⟨_, hlen1, hat1⟩ := World.cells?_some g1
        have hv1 : (F 0)[0]? = some ((F 0)[0]'(by omega)) := List.getElem?_eq_getElem (by omega)
        have hc1 := (hat1 0 hm0).trans hv1
        simpa [Addr.add] using World.cell?_spot hc1
      subst hsp
      rw [ad_plainR, ad_plainR] at hc0
      refine ⟨b, o, rfl, World.block_lt_of_cell? W _ hc0, fun c u hu => ?_⟩
      have hcl := (List.getElem?_eq_some_iff.1 hu).1
      have h2 := (hat c (by omega)).trans hu
      rwa [ad_plainR, ad_plainR] at h2
    · intro r hr
      obtain ⟨j, hj, rfl⟩ := List.mem_map.1 hr
      have hj' := List.mem_range.1 hj
      obtain ⟨h1, h2⟩ := hF j (by omega)
      exact ⟨h2, (World.cells?_some h1).2.1⟩
end
end Go.Proofs.Ytacinenddnfcbaa

namespace Go.Proofs.Ytacinenddnfcbaa
open Go.ChangeShapes Go.WideShapes Go.ChangeAt Go.RowKit Ieee.Own

end Go.Proofs.Ytacinenddnfcbaa

namespace Go.Proofs.Ytacinenddnfcbaa
open Go.ChangeShapes Go.WideShapes Go.ChangeAt Go.RowKit Ieee.Own

/-- a finite word, not -0 -/
structure Nz (b : Nat) : Prop where
  fin : FinW b
  nz : b ≠ 9223372036854775808
theorem Nz.zero {b : Nat} (h : Nz b) (h0 : V b = 0) : b = 0 := by
  have := (V_zero_iff h.fin).1 h0
  have := h.fin.1
  have := h.nz
  omega
theorem Nz.of {b : Nat} (h : FinW b) (h0 : V b ≠ 0) : Nz b := ⟨h, fun e => h0 (by rw [e]; decide +kernel)⟩
/-! ### the library's calls -/
theorem ext_whole {name : String} (way : Ieee.Toward) {b : Nat} (h : FinW b) (P : Program) (w : World) : (Extern.MathFloor.toIntegral name way #[.float .f64 b]).run P w = .ok (.float .f64 (wholeW way b)) w := by
  obtain ⟨s, m, p, e1, -, -, -, -⟩ := read_sv h
  have e2 : FloatKind.f64.decode b = .number s m (-1074 + p) := e1
  have key : ∀ d, FloatKind.f64.decode b = d → (∃ s m p, d = .number s m p) → (Extern.MathFloor.toIntegral name way #[.float .f64 b]).run P w = .ok (.float .f64 (FloatKind.f64.encode (d.integral way))) w := by
    intro d hd ⟨s, m, p, hn⟩
    subst hn
    delta Extern.MathFloor.toIntegral
    show Sem.run P (Extern.MathFloor.toIntegral.match_1 (fun _ => Sem Value) (FloatKind.f64.decode b) _ _) w = _
    rw [hd]
    rfl
  rw [key _ e2 ⟨_, _, _, rfl⟩]
  unfold wholeW
  rw [e1]
  rfl
set_option maxRecDepth 100000 in
theorem xfloor {b : Nat} (h : FinW b) (w : World) : (callFunc 20 #[.float .f64 b]).run Try.prog w = .ok (.value (.float .f64 (wholeW .down b))) w := by
  rw [run_callFunc_extern (e := Extern.MathFloor.toIntegral "math.archFloor" .down) Try.func20 (by kernel_rfl) (by kernel_rfl) (by kernel_rfl) (by kernel_rfl), ext_whole _ h]; rfl
set_option maxRecDepth 100000 in
theorem floor_run {b : Nat} (h : FinW b) (w : World) : Calls Try.prog 16 #[.float .f64 b] w fun e w' => e = .returned (.float .f64 (wholeW .down b)) ∧ w = w' := by
  have X := fun w => xfloor h w
  clear h
  go_enter Try.func16, Try.ntmps16
  go_wp2_with (simp only [X])
  go_ret
  exact ⟨rfl, rfl⟩
/-- a whole number as an int64 -/
theorem to_int64 {b : Nat} {K : Int} (h : FinW b) (hv : V b = K * 2 ^ 1074) (hK : K.natAbs ≤ 2 ^ 62) : floatToIntVal .f64 b .i64 = some K := by
  unfold floatToIntVal
  have : (FloatKind.f64.decode b).toInt .zero = some K := int_of h hv
  rw [this]
  have e1 : IntKind.i64.min = -9223372036854775808 := rfl
  have e2 : IntKind.i64.max = 9223372036854775807 := rfl
  dsimp only
  rw [if_pos (by omega)]
set_option maxRecDepth 100000 in
theorem xconv {b : Nat} {K : Int} (h : floatToIntVal .f64 b .i64 = some K) (w : World) : (convert 23 2 (.float .f64 b)).run Try.prog w = .ok (.int .i64 K) w :=
  run_convert_float_int w 23 2 .f64 .i64 b K (by rw [Try.underlying23]; rfl) Try.underlying2 h

end Go.Proofs.Ytacinenddnfcbaa

namespace Go.Proofs.Ytacinenddnfcbaa
open Go.ChangeShapes Go.WideShapes Go.ChangeAt Go.RowKit Go.Deep Ieee.Own

def maC (a : Ma) : List Value := [.int .i64 a.m, .int .i64 a.x.a, .int .i64 a.x.b, .int .i64 a.x.c, .int .i64 a.p.a, .int .i64 a.p.b, .int .i64 a.p.c]
def maV (a : Ma) : Value := .agg #[.int .i64 a.m, .int .i64 a.x.a, .int .i64 a.x.b, .int .i64 a.x.c, .int .i64 a.p.a, .int .i64 a.p.b, .int .i64 a.p.c]
theorem maC_m (a : Ma) : (maC a)[0]? = some (.int .i64 a.m) := rfl
theorem maC_x (a : Ma) {k : Nat} (hk : k < 3) : (maC a)[1 + k]? = some (.int .i64 (a.x.get k)) := by
  rcases lt3 hk with rfl | rfl | rfl <;> rfl
theorem maC_p (a : Ma) {k : Nat} (hk : k < 3) : (maC a)[4 + k]? = some (.int .i64 (a.p.get k)) := by
  rcases lt3 hk with rfl | rfl | rfl <;> rfl
theorem maC_setx (a : Ma) {k : Nat} (hk : k < 3) (y : Int) : (maC a).set (1 + k) (.int .i64 y) = maC { a with x := a.x.put k y } := by
  rcases lt3 hk with rfl | rfl | rfl <;> rfl
theorem maC_setp (a : Ma) {k : Nat} (hk : k < 3) (y : Int) : (maC a).set (4 + k) (.int .i64 y) = maC { a with p := a.p.put k y } := by
  rcases lt3 hk with rfl | rfl | rfl <;> rfl
def MAt (w : World) (ao : Option Addr) (L : List Ma) : Prop := RAt w ao 7 (L.map maC)
theorem rows_ma (L : List Ma) : RowsOk 7 (L.map maC) := by
  refine ⟨fun r hr => ?_, fun r hr u hu => ?_⟩
  · obtain ⟨f, -, rfl⟩ := List.mem_map.1 hr; rfl
  · obtain ⟨f, -, rfl⟩ := List.mem_map.1 hr
    simp only [maC, List.mem_cons, List.not_mem_nil, or_false] at hu
    rcases hu with rfl | rfl | rfl | rfl | rfl | rfl | rfl <;> rfl
theorem ma_get {L : List Ma} {j : Nat} (h : j < L.length) : (L.map maC)[j]? = some (maC (mAt L j)) := by
  rw [List.getElem?_map, mAt_get h]; rfl
theorem MAt.cells {w : World} {ao : Option Addr} {L : List Ma} (h : MAt w ao L) {j : Nat} (hj : j < L.length) :
    ∃ b o, ao = some ⟨b, o, none⟩ ∧ b < w.heap.size ∧ w.cell? ⟨b, o + j * 7, none⟩ = some (.int .i64 (mAt L j).m) ∧ w.cell? ⟨b, o + j * 7 + 1, none⟩ = some (.int .i64 (mAt L j).x.a) ∧ w.cell? ⟨b, o + j * 7 + 2, none⟩ = some (.int .i64 (mAt L j).x.b) ∧
      w.cell? ⟨b, o + j * 7 + 3, none⟩ = some (.int .i64 (mAt L j).x.c) ∧ w.cell? ⟨b, o + j * 7 + 4, none⟩ = some (.int .i64 (mAt L j).p.a) ∧ w.cell? ⟨b, o + j * 7 + 5, none⟩ = some (.int .i64 (mAt L j).p.b) ∧ w.cell? ⟨b, o + j * 7 + 6, none⟩ = some (.int .i64 (mAt L j).p.c) := by
  obtain ⟨b, o, e, hb, hc⟩ := h j _ (ma_get hj)
  exact ⟨b, o, e, hb, hc 0 _ rfl, hc 1 _ rfl, hc 2 _ rfl, hc 3 _ rfl, hc 4 _ rfl, hc 5 _ rfl, hc 6 _ rfl⟩

/-! ### within, may -/
set_option maxRecDepth 100000 in
theorem gwith_run (x c : Int) (hc : 0 ≤ c) (hc2 : c ≤ 4611686018427387904) (w : World) : Calls Try.prog 15 #[.int .i64 x, .int .i64 c] w fun e w' => e = .returned (.bool (wth c x)) ∧ w = w' := by
  have wf : IntKind.i64.wrap (-c) = -c := IntWalk.i64_in _ (by omega)
  unfold wth
  by_cases h1 : -c ≤ x
  · rw [decide_eq_true h1]
    clear hc hc2
    go_enter Try.func15, Try.ntmps15
    go_wp2_with fail
    go_ret
    exact ⟨rfl, rfl⟩
  · rw [decide_eq_false h1]
    clear hc hc2
    go_enter Try.func15, Try.ntmps15
    go_wp2_with fail
    go_ret
    exact ⟨rfl, rfl⟩
def preB (a : Ma) (k : Nat) : Bool := wth 1099511627776 (a.x.get k) && wth 1125899906842624 (a.p.get k)
theorem okB_no {a : Ma} {k : Nat} (hk : k < 3) (h : preB a k = false) : okB a = false := by
  cases e : okB a with
  | false => rfl
  | true =>
    unfold okB at e
    simp only [Bool.and_eq_true, List.all_eq_true, List.mem_range] at e
    have := e.1 k hk
    unfold preB at h
    rw [this.1, this.2] at h
    cases h
theorem okB_yes {a : Ma} (h : ∀ k, k < 3 → preB a k = true) : okB a = (decide (1 ≤ a.m) && decide (a.m ≤ 1048576)) := by
  unfold okB
  have : ((List.range 3).all fun k => wth 1099511627776 (a.x.get k) && wth 1125899906842624 (a.p.get k)) = true := by
    rw [List.all_eq_true]
    intro k hk
    exact h k (List.mem_range.1 hk)
  rw [this, Bool.true_and]
theorem ret_bG {a b : Bool} (h : a = b) : Ending.returned (.bool a) = .returned (.bool b) := by rw [h]
theorem ret_iG {a b : Int} (h : a = b) : Ending.returned (.int .i64 a) = .returned (.int .i64 b) := by rw [h]
set_option maxHeartbeats 4000000 in
set_option maxRecDepth 100000 in
theorem gmay_run (a : Ma) (w : World) : Calls Try.prog 12 #[maV a] w fun e w' => e = .returned (.bool (okB a)) ∧ Below w.heap.size w w' := by
  have CX := Lib.hid (fun k w => gwith_run (a.x.get k) 1099511627776 (by decide) (by decide) w)
  have CP := Lib.hid (fun k w => gwith_run (a.p.get k) 1125899906842624 (by decide) (by decide) w)
  have K := kv1 w 28 (maC a)
  simp only [objV] at K
  have B0 := K.old
  have cm := (K.at_ 0 rfl).at_ 0 _ (maC_m a)
  have cx := Lib.hid (fun k (hk : k < 3) => (K.at_ 0 rfl).at_ (1 + k) _ (maC_x a hk))
  have cp := Lib.hid (fun k (hk : k < 3) => (K.at_ 0 rfl).at_ (4 + k) _ (maC_p a hk))
  clear K
  have eV : maV a = .agg (maC a).toArray := rfl
  rw [eV]
  obtain ⟨B, hB⟩ : ∃ B, B = okB a := ⟨_, rfl⟩
  rw [← hB]
  have no := Lib.hid (fun k (hk : k < 3) (h : preB a k = false) => (hB.trans (okB_no hk h)).symm)
  have yes := Lib.hid (fun h : ∀ k, k < 3 → preB a k = true => (hB.trans (okB_yes h)).symm)
  clear hB eV
  generalize maC a = C at *
  replace B0 := Lib.hid B0
  go_enter Try.func12, Try.ntmps12
  go_upto_region 2 with fail
  go_wp2_with fail
  go_loopw [4] (fun iv wr => ∃ k : Nat, k ≤ 3 ∧ iv = .int .i64 k ∧ (∀ j, j < k → preB a j = true) ∧ wr = w.alloc (.cells C.toArray 28)) (fun iv _ => 3 - (intOf iv).toNat)
  case atStart => exact ⟨0, by omega, rfl, fun j hj => by omega, rfl⟩
  case round =>
    obtain ⟨k, hk, rfl, ho, rfl⟩ := hrel
    by_cases hlt : k < 3
    · have c1 := cx.out k hlt
      have c2 := cp.out k hlt
      have c3 := CX.out k
      have c4 := CP.out k
      have good : Hid (preB a k = true → ∀ j, j < k + 1 → preB a j = true) := fun h j hj => by
        by_cases e : j < k
        · exact ho j e
        · have e : j = k := by omega
          rw [e]; exact h
      have bad : Hid (preB a k = false → false = B) := no.out k hlt
      have eP : Hid (preB a k = (wth 1099511627776 (a.x.get k) && wth 1125899906842624 (a.p.get k))) := Lib.hid rfl
      clear ho no yes cm CX CP cx cp
      generalize wth 1099511627776 (a.x.get k) = bx at *
      generalize wth 1125899906842624 (a.p.get k) = bp at *
      generalize a.x.get k = xk at *
      generalize a.p.get k = pk at *
      cases bx with
      | false =>
        have b1 := Lib.hid (bad.out (by rw [eP.out]; rfl))
        clear bad good eP c2 c4
        go_wp2_with (go_at_call 15; ((with_reducible refine (c3 _).mono ?_); rintro e w' ⟨rfl, rfl⟩))
        go_ret
        exact ⟨by first | rfl | exact ret_bG b1.out, B0.out⟩
      | true =>
        cases bp with
        | false =>
          have b1 := Lib.hid (bad.out (by rw [eP.out]; rfl))
          clear bad good eP
          go_wp2_with (first | (go_at_call 15; ((with_reducible refine (c3 _).mono ?_); rintro e w' ⟨rfl, rfl⟩)) | (go_at_call 15; ((with_reducible refine (c4 _).mono ?_); rintro e w' ⟨rfl, rfl⟩)))
          go_ret
          exact ⟨by first | rfl | exact ret_bG b1.out, B0.out⟩
        | true =>
          have b1 := Lib.hid (good.out (by rw [eP.out]; rfl))
          clear bad good eP
          go_wp2_with (first | (go_at_call 15; ((with_reducible refine (c3 _).mono ?_); rintro e w' ⟨rfl, rfl⟩)) | (go_at_call 15; ((with_reducible refine (c4 _).mono ?_); rintro e w' ⟨rfl, rfl⟩)))
          go_roundw
          case rel => exact ⟨k + 1, hlt, by go_num, b1.out, by first | rfl | trivial⟩
          case measure => simp [intOf]; omega
    · obtain rfl : k = 3 := by omega
      have y := yes.out ho
      clear yes no ho cx cp CX CP
      generalize a.m = m at *
      by_cases h1 : 1 ≤ m
      · rw [decide_eq_true h1] at y
        by_cases h2 : m ≤ 1048576
        · rw [decide_eq_true h2] at y
          replace y := Lib.hid y
          go_wp2_with fail
          go_ret
          exact ⟨ret_bG y.out, B0.out⟩
        · rw [decide_eq_false h2] at y
          replace y := Lib.hid y
          go_wp2_with fail
          go_ret
          exact ⟨ret_bG y.out, B0.out⟩
      · rw [decide_eq_false h1] at y
        replace y := Lib.hid y
        go_wp2_with fail
        go_ret
        exact ⟨ret_bG y.out, B0.out⟩

/-! ### Check -/
def chkM (l : List Ma) : Int := if 8 < l.length then 2 else if allB l = true then 0 else 140
theorem chkM_long {L : List Ma} (h : 8 < L.length) : chkM L = 2 := if_pos h
theorem chkM_bad {L : List Ma} (h : ¬ 8 < L.length) {j : Nat} (hj : j < L.length) (hg : okB (mAt L j) = false) : chkM L = 140 := by
  unfold chkM
  rw [if_neg h, if_neg]
  intro e
  unfold allB at e
  rw [List.all_eq_true] at e
  rw [e _ (mAt_mem hj)] at hg
  cases hg
theorem chkM_good {L : List Ma} (h : ¬ 8 < L.length) (hg : ∀ j, j < L.length → okB (mAt L j) = true) : chkM L = 0 := by
  unfold chkM
  rw [if_neg h, if_pos]
  unfold allB
  rw [List.all_eq_true]
  intro a ha
  obtain ⟨j, hj, rfl⟩ := List.mem_iff_getElem.1 ha
  have := hg j hj
  unfold mAt at this
  rwa [show L.getD j zM = L[j] by simp [List.getD, hj]] at this
theorem chkM_zero {L : List Ma} (h : chkM L = 0) : L.length ≤ 8 ∧ allB L = true := by
  unfold chkM at h
  by_cases h1 : 8 < L.length
  · rw [if_pos h1] at h; omega
  · rw [if_neg h1] at h
    by_cases h2 : allB L = true
    · exact ⟨by omega, h2⟩
    · rw [if_neg h2] at h; omega
theorem chkM_ok {L : List Ma} (h : L.length ≤ 8) (h2 : allB L = true) : chkM L = 0 := by
  unfold chkM
  rw [if_neg (by omega), if_pos h2]
theorem chkM_no {L : List Ma} (h : L.length ≤ 8) (h2 : allB L = false) : chkM L = 140 := by
  unfold chkM
  rw [if_neg (by omega), if_neg (by rw [h2]; decide)]
set_option maxHeartbeats 4000000 in
set_option maxRecDepth 100000 in
theorem gcheck_run (ao : Option Addr) (cap n : Nat) (L : List Ma) (w : World) (hn : n = L.length) (hm : n ≤ 4611686018427387904) (ha : MAt w ao L) :
    Calls Try.prog 9 #[.slice ao n cap] w fun e w' => e = .returned (.int .i64 (chkM L)) ∧ Below w.heap.size w w' := by
  by_cases hl : 8 < n
  · have t1 : decide (8 < n) = true := decide_eq_true hl
    rw [chkM_long (by omega)]
    clear hn ha
    go_enter Try.func9, Try.ntmps9
    go_wp2_with fail
    go_ret
    exact ⟨rfl, Below.refl _ _⟩
  · have t1 : decide (8 < n) = false := decide_eq_false hl
    replace hn := Lib.hid hn
    replace ha := Lib.hid ha
    obtain ⟨V, hV⟩ : ∃ V, V = chkM L := ⟨_, rfl⟩
    rw [← hV]
    replace hV := Lib.hid hV
    go_enter Try.func9, Try.ntmps9
    go_wp2_with fail
    go_loopw [10] (fun iv wr => ∃ i : Nat, i ≤ n ∧ iv = .int .i64 i ∧ (∀ j, j < i → okB (mAt L j) = true) ∧ Below w.heap.size w wr) (fun iv _ => n - (intOf iv).toNat)
    case atStart => exact ⟨0, Nat.zero_le _, rfl, fun j hj => by omega, Below.refl _ _⟩
    case round =>
      obtain ⟨i, hi, rfl, ho, hb⟩ := hrel
      by_cases hlt : i < n
      · have hil : i < L.length := by have := hn.out; omega
        obtain ⟨b, o, rfl, hbl, c0, c1, c2, c3, c4, c5, c6⟩ := MAt.cells (ha.out.below (fun b o e _ => ha.out.lt b o e (by simp; omega)) hb) hil
        have M := fun w => gmay_run (mAt L i) w
        have bad : Hid (okB (mAt L i) = false → V = 140) := fun h => by rw [hV.out]; exact chkM_bad (by have := hn.out; omega) hil h
        have good : Hid (okB (mAt L i) = true → ∀ j, j < i + 1 → okB (mAt L j) = true) := fun h j hj => by
          by_cases e : j < i
          · exact ho j e
          · have e : j = i := by omega
            rw [e]; exact h
        clear ho
        generalize hf : okB (mAt L i) = mb at *
        generalize mAt L i = f at *
        obtain ⟨m, ⟨xa, xb, xc⟩, ⟨pa, pb, pc⟩⟩ := f
        unfold maV at M
        dsimp only at *
        have B1 := Lib.hid (hb.alloc hb.size (.cells #[.int .i64 m, .int .i64 xa, .int .i64 xb, .int .i64 xc, .int .i64 pa, .int .i64 pb, .int .i64 pc] 28))
        have K := (Kv.nil wr).new 28 [.int .i64 m, .int .i64 xa, .int .i64 xb, .int .i64 xc, .int .i64 pa, .int .i64 pb, .int .i64 pc]
        simp only [objV, List.nil_append] at K
        have d0 := (K.at_ 0 rfl).at_ 0 _ rfl
        have d1 := (K.at_ 0 rfl).at_ 1 _ rfl
        have d2 := (K.at_ 0 rfl).at_ 2 _ rfl
        have d3 := (K.at_ 0 rfl).at_ 3 _ rfl
        have d4 := (K.at_ 0 rfl).at_ 4 _ rfl
        have d5 := (K.at_ 0 rfl).at_ 5 _ rfl
        have d6 := (K.at_ 0 rfl).at_ 6 _ rfl
        replace hb := Lib.hid hb
        clear K hf hbl
        cases mb with
        | true =>
          replace good := Lib.hid (good.out rfl)
          clear bad
          go_wp2_with fail
          refine (M _).mono ?_
          rintro _ w1 ⟨rfl, hb1⟩
          replace B1 := Lib.hid (B1.out.trans (hb1.mono B1.out.size))
          clear d0 d1 d2 d3 d4 d5 d6 c0 c1 c2 c3 c4 c5 c6 hb1
          go_wp2_with fail
          go_roundw
          case rel => exact ⟨i + 1, hlt, by go_num, good.out, B1.out⟩
          case measure => simp [intOf]; omega
        | false =>
          replace bad := Lib.hid (bad.out rfl)
          clear good
          go_wp2_with fail
          refine (M _).mono ?_
          rintro _ w1 ⟨rfl, hb1⟩
          replace B1 := Lib.hid (B1.out.trans (hb1.mono B1.out.size))
          clear d0 d1 d2 d3 d4 d5 d6 c0 c1 c2 c3 c4 c5 c6 hb1
          go_wp2_with fail
          go_ret
          exact ⟨ret_iG bad.out.symm, B1.out⟩
      · obtain rfl : i = n := by omega
        have hv : V = 0 := by
          rw [hV.out]
          exact chkM_good (by have := hn.out; omega) (fun j hj => ho j (by have := hn.out; omega))
        replace hv := Lib.hid hv
        replace hb := Lib.hid hb
        clear ho
        go_wp2_with fail
        go_ret
        exact ⟨ret_iG hv.out.symm, hb.out⟩

/-! ### rounded -/
def hlfW : Nat := 4602678819172646912
theorem hlf_fin : FinW hlfW ∧ V hlfW = 2 ^ 1073 := by
  refine ⟨by unfold FinW hlfW; omega, by decide +kernel⟩
theorem half_le (D : Nat) {k : Nat} (h : D ≤ k) : ((2 : Int) ^ D).natAbs ≤ 2 ^ k := by rw [pw_abs]; exact two_le h
/-- x and a half, rounded, and downwards -/
theorem rnd_words {x : Nat} (h : FinW x) (h0 : 0 ≤ V x) (hb : (V x).natAbs ≤ 2 ^ (1074 + 51)) :
    Ieee.double.add x hlfW = some (aX x hlfW) ∧ FinW (aX x hlfW) ∧ floatToIntVal .f64 (wholeW .down (aX x hlfW)) .i64 = some (rndI (V x)) := by
  have q := half_le 1073 (k := 1074 + 51) (by omega)
  rw [← hlf_fin.2] at q
  obtain ⟨r, h1, h2, h3, h4⟩ := addW (k := 1074 + 51) h hlf_fin.1 hb q (by omega)
  have e : aX x hlfW = r := by unfold aX; rw [h1]; rfl
  rw [e]
  have f := floor_spec h2 (abs_up (k := 1074 + 51 + 1) (l := 1126) h4 (by omega))
  have v : V (wholeW .down r) = rndI (V x) * 2 ^ 1074 := by
    rw [f.2, h3, hlf_fin.2]
    unfold rndI
    rw [if_neg (by omega)]
  exact ⟨h1, h2, to_int64 f.1 v (Nat.le_trans (rnd_cap (k := 51) hb) (by decide))⟩
set_option maxHeartbeats 4000000 in
set_option maxRecDepth 100000 in
theorem ground_pos {x : Nat} (h : FinW x) (h0 : 0 ≤ V x) (hb : (V x).natAbs ≤ 2 ^ (1074 + 51)) (w : World) : Calls Try.prog 13 #[.float .f64 x] w fun e w' => e = .returned (.int .i64 (rndI (V x))) ∧ w = w' := by
  obtain ⟨h1, h2, h3⟩ := rnd_words h h0 hb
  have r1 := run_add _ _ _ h1
  have F := fun w => floor_run h2 w
  have c1 := fun w => xconv h3 w
  have e0 := lt_zero x h
  rw [decide_eq_false (by omega)] at e0
  unfold hlfW at *
  generalize aX x 4602678819172646912 = y at *
  generalize wholeW .down y = z at *
  generalize rndI (V x) = K at *
  clear h h0 hb h1 h2 h3
  go_enter Try.func13, Try.ntmps13
  go_wp2_with (go_at_call 16; ((with_reducible refine (F _).mono ?_); rintro e w' ⟨rfl, rfl⟩))
  go_ret
  exact ⟨rfl, rfl⟩
set_option maxHeartbeats 4000000 in
set_option maxRecDepth 100000 in
theorem ground_run {x : Nat} (h : FinW x) (hb : (V x).natAbs ≤ 2 ^ (1074 + 51)) (w : World) : Calls Try.prog 13 #[.float .f64 x] w fun e w' => e = .returned (.int .i64 (rndI (V x))) ∧ w = w' := by
  by_cases h0 : 0 ≤ V x
  · exact ground_pos h h0 hb w
  · have e0 := lt_zero x h
    rw [decide_eq_true (by omega)] at e0
    have n := negW_V h
    have N := fun w => xneg' x h.1 w
    have C := fun w => ground_pos (negW_fin h) (by rw [n]; omega) (by rw [n, Int.natAbs_neg]; exact hb) w
    have o := rnd_odd (V x)
    have cp : (rndI (V x)).natAbs ≤ 2 ^ 52 := rnd_cap (k := 51) hb
    rw [n, o] at C
    have wf : IntKind.i64.wrap (-(-rndI (V x))) = rndI (V x) := by rw [Int.neg_neg]; exact IntWalk.i64_in _ (by omega)
    clear o cp hb n h h0
    generalize rndI (V x) = K at *
    generalize negW x = y at *
    generalize -K = M at *
    go_enter Try.func13, Try.ntmps13
    go_wp2_with (go_at_call 13; ((with_reducible refine (C _).mono ?_); rintro e w' ⟨rfl, rfl⟩))
    go_ret
    exact ⟨rfl, rfl⟩
end Go.Proofs.Ytacinenddnfcbaa

namespace Go.Proofs.Ytacinenddnfcbaa
open Go.ChangeShapes Go.WideShapes Go.ChangeAt Go.RowKit Go.Deep Ieee.Own

def fl3 (f : Nat → Nat) : List Value := [.float .f64 (f 0), .float .f64 (f 1), .float .f64 (f 2)]
def mixF (f : Nat → Nat) (k : Nat) : Nat → Nat := fun i => if i < k then f i else 0
theorem fl3_get (f : Nat → Nat) {k : Nat} (h : k < 3) : (fl3 f)[k]? = some (.float .f64 (f k)) := by
  rcases lt3 h with rfl | rfl | rfl <;> rfl
theorem fl3_set (f : Nat → Nat) {k : Nat} (h : k < 3) : (fl3 (mixF f k)).set k (.float .f64 (f k)) = fl3 (mixF f (k + 1)) := by
  rcases lt3 h with rfl | rfl | rfl <;> rfl
theorem mixF_new (f : Nat → Nat) (k : Nat) : mixF f (k + 1) k = f k := if_pos (by omega)
def in3 (v : T3) : List Value := [.int .i64 v.a, .int .i64 v.b, .int .i64 v.c]
theorem in3_get (v : T3) {k : Nat} (h : k < 3) : (in3 v)[k]? = some (.int .i64 (v.get k)) := by
  rcases lt3 h with rfl | rfl | rfl <;> rfl
theorem in3_put (v : T3) {k : Nat} (h : k < 3) (y : Int) : (in3 v).set k (.int .i64 y) = in3 (v.put k y) := by
  rcases lt3 h with rfl | rfl | rfl <;> rfl
set_option maxRecDepth 100000 in
theorem conv_i64 (d : Int) (w : World) : (convert 2 23 (.int .i64 d)).run Try.prog w = .ok (.float .f64 (dW d)) w :=
  run_convert_int_float w 2 23 .i64 .f64 d (by rw [Try.underlying2]; rfl) Try.underlying23
set_option maxRecDepth 100000 in
theorem istore (a : Addr) (b : Int) (m : Mode) (x : World) : (store a (.int .i64 b) m).run Try.prog x = Go.stored Try.prog x a (.int .i64 b) m := run_store _ x a _ m rfl
def f3V (f : Nat → Nat) : Value := .agg #[.float .f64 (f 0), .float .f64 (f 1), .float .f64 (f 2)]
def i3V (v : T3) : Value := .agg #[.int .i64 v.a, .int .i64 v.b, .int .i64 v.c]
set_option maxHeartbeats 4000000 in
set_option maxRecDepth 100000 in
theorem gapart_run {a b : Ma} (ha : Mid0 a) (hb : Mid0 b) (w : World) :
    Calls Try.prog 17 #[maV a, maV b] w fun e w' => e = .returned (.tuple #[f3V fun k => dW (df a b k), .float .f64 (lngP (df a b) 3)]) ∧ Below w.heap.size w w' := by
  have hd := df_cap ha hb
  have wf := Lib.hid (fun k => (show IntKind.i64.wrap (b.x.get k - a.x.get k) = df a b k from IntWalk.i64_in _ (by have := hd k; unfold df at this; omega)))
  have rm := Lib.hid (fun k => run_mul _ _ _ (sq_pos (hd k)).1)
  have ra := Lib.hid (fun k (hk : k < 8) => run_add _ _ _ (lng_add hd hk))
  clear hd ha hb
  generalize df a b = d at *
  have K := kv4 w 28 28 45 45 (maC a) (maC b) (fl3 fun _ => 0) (fl3 (mixF (fun k => dW (d k)) 0))
  simp only [objV] at K
  have eA : maV a = .agg (maC a).toArray := rfl
  have eB : maV b = .agg (maC b).toArray := rfl
  rw [eA, eB]
  clear eA eB
  unfold f3V
  have hst := @fstore
  have ca := Lib.hid (fun k (hk : k < 3) => maC_x a hk)
  have cb := Lib.hid (fun k (hk : k < 3) => maC_x b hk)
  replace K := Lib.hid K
  go_enter Try.func17, Try.ntmps17
  go_wp2_with fail
  go_loopw [7, 9] (fun lv iv wr => ∃ k : Nat, k ≤ 3 ∧ iv = .int .i64 k ∧ lv = .float .f64 (lngP d k) ∧ Kv w [some (w.heap.size, maC a), some (w.heap.size + 1, maC b), some (w.heap.size + 1 + 1, fl3 fun _ => 0), some (w.heap.size + 1 + 1 + 1, fl3 (mixF (fun k => dW (d k)) k))] wr) (fun _ iv _ => 3 - (intOf iv).toNat)
  case atStart => exact ⟨0, by omega, rfl, rfl, K.out⟩
  case round =>
    obtain ⟨k, hk, rfl, rfl, C⟩ := hrel
    clear K
    by_cases hlt : k < 3
    · have c1 := (C.at_ 1 rfl).at_ (1 + k) _ (cb.out k hlt)
      have c0 := (C.at_ 0 rfl).at_ (1 + k) _ (ca.out k hlt)
      have c3 := (C.at_ 3 rfl).at_ k _ (fl3_get _ hlt)
      have f3 := (C.at_ 3 rfl).fr k _ (fl3_get _ hlt)
      have w1 := wf.out k
      have r1 := rm.out k
      have r2 := ra.out k (by omega)
      have P := (C.put 3 rfl k [.float .f64 (dW (d k))] (by simp [fl3]; omega)).draws
      simp only [setV, fl3_set _ hlt, putV] at P
      have P3 := (P.at_ 3 rfl).at_ k _ (fl3_get _ hlt)
      rw [mixF_new] at P3
      have cv := conv_i64 (d k)
      clear wf rm ra ca cb C
      generalize lngP d k = l0 at *
      generalize hl1 : lngP d (k + 1) = l1 at *
      replace hl1 := Lib.hid hl1
      generalize mX (dW (d k)) (dW (d k)) = m1 at *
      generalize hD : dW (d k) = D at *
      generalize d k = dk at *
      clear hD
      replace P := Lib.hid P
      go_wp2_with fail
      go_still_tail 12, (by kernel_rfl)
      change wpList _ _ _ _ _ wr.drew
      go_wp2_with fail
      go_quiet (fail)
      replace P := Lib.hid (P.out.on (below_drewN (Below.refl _ _) nq))
      clear c0 c1 c3 f3 P3
      generalize World.drewN _ _ = wq at *
      go_wp2_with fail
      go_roundw
      case rel => exact ⟨k + 1, hlt, by go_num, congrArg (Value.float .f64) hl1.out.symm, P.out⟩
      case measure => simp [intOf]; omega
    · obtain rfl : k = 3 := by omega
      have e0 := (C.at_ 3 rfl).at_ 0 _ rfl
      have e1 := (C.at_ 3 rfl).at_ 1 _ rfl
      have e2 := (C.at_ 3 rfl).at_ 2 _ rfl
      have f0 := (C.at_ 2 rfl).at_ 0 _ rfl
      have f1 := (C.at_ 2 rfl).at_ 1 _ rfl
      have f2 := (C.at_ 2 rfl).at_ 2 _ rfl
      have g0 := (C.at_ 2 rfl).fr 0 _ rfl
      have g1 := (C.at_ 2 rfl).fr 1 _ rfl
      have g2 := (C.at_ 2 rfl).fr 2 _ rfl
      simp only [mixF, Nat.reduceLT, if_true] at e0 e1 e2
      have P := Lib.hid (C.put 2 rfl 0 [.float .f64 (dW (d 0)), .float .f64 (dW (d 1)), .float .f64 (dW (d 2))] (by simp [fl3]))
      simp only [putV, Nat.zero_add, Nat.reduceAdd] at P
      clear C
      go_wp2_with fail
      replace P := P.out
      (try simp only [Exit.inBlock, Exit.then])
      refine bodyPost_ret (v := .tuple #[.agg #[.float .f64 (dW (d 0)), .float .f64 (dW (d 1)), .float .f64 (dW (d 2))], .float .f64 (lngP d 3)]) ?_ rfl ⟨rfl, P.old⟩
      have q0 := (P.at_ 2 rfl).at_ 0 _ rfl
      have q1 := (P.at_ 2 rfl).at_ 1 _ rfl
      have q2 := (P.at_ 2 rfl).at_ 2 _ rfl
      rw [results_cell_tmp rfl]; go_simp

/-! ### drawing -/
theorem mm_wrap {a b : Ma} (ha : Mid0 a) (hb : Mid0 b) : IntKind.i64.wrap (a.m * b.m) = a.m * b.m := IntWalk.i64_in _ (by have := mm_cap ha hb; omega)
set_option maxHeartbeats 4000000 in
set_option maxRecDepth 100000 in
theorem gdrawing_run {a b : Ma} {g : Nat} (hg : Gee g) (ha : Mid0 a) (hb : Mid0 b) (w : World) :
    Calls Try.prog 18 #[maV a, maV b, .float .f64 g] w fun e w' => e = .returned (.float .f64 (drwW g (a.m * b.m))) ∧ Below w.heap.size w w' := by
  have r1 := run_mul _ _ _ (drw_ok hg (mm_cap ha hb)).1
  have wm := mm_wrap ha hb
  have cv := conv_i64 (a.m * b.m)
  clear hg ha hb
  have K := kv2 w 28 28 (maC a) (maC b)
  simp only [objV] at K
  have B0 := Lib.hid K.old
  have c0 := (K.at_ 0 rfl).at_ 0 _ (maC_m a)
  have c1 := (K.at_ 1 rfl).at_ 0 _ (maC_m b)
  have eA : maV a = .agg (maC a).toArray := rfl
  have eB : maV b = .agg (maC b).toArray := rfl
  rw [eA, eB]
  clear K eA eB
  generalize maC a = A at *
  generalize maC b = B at *
  generalize dW (a.m * b.m) = D at *
  generalize drwW g (a.m * b.m) = R at *
  generalize a.m = m at *
  generalize b.m = n at *
  go_enter Try.func18, Try.ntmps18
  go_wp2_with fail
  go_ret
  exact ⟨rfl, B0.out⟩

/-! ### pull -/
theorem clW_own {c n y : Nat} (fc : FinW c) (fn : FinW n) (fy : FinW y) (vn : V n = -V c) (h0 : 0 ≤ V c) : FinW (mxW n (mnW c y)) ∧ V (mxW n (mnW c y)) = clI (V c) (V y) := by
  have a := mnW_spec fc fy
  have fm := mnW_fin fc fy
  have b := mxW_spec fn fm
  refine ⟨mxW_fin fn fm, ?_⟩
  have a1 : V (mnW c y) = V c ∨ V (mnW c y) = V y := by rcases a.1 with e | e <;> rw [e] <;> simp
  have b1 : V (mxW n (mnW c y)) = V n ∨ V (mxW n (mnW c y)) = V (mnW c y) := by rcases b.1 with e | e <;> rw [e] <;> simp
  have a2 := a.2
  have b2 := b.2
  unfold clI
  by_cases h1 : V c < V y
  · rw [if_pos h1]; omega
  · by_cases h2 : V y < -V c
    · rw [if_neg h1, if_pos h2]; omega
    · rw [if_neg h1, if_neg h2]; omega
def capW : Nat := 4751297606875873280
def ncapW : Nat := 13974669643730649088
theorem capW_ok : FinW capW ∧ V capW = cap32 := ⟨by unfold FinW capW; omega, by decide +kernel⟩
theorem ncapW_ok : FinW ncapW ∧ V ncapW = -cap32 := ⟨by unfold FinW ncapW; omega, by decide +kernel⟩
theorem clc_D {D : Nat} (v : Int) : (clI (capD (D + 32)) v).natAbs ≤ 2 ^ (D + 51) := Nat.le_trans (cl_cap (capD_pos _)) (by rw [capD_abs]; exact two_le (by omega))
theorem clc_cap (v : Int) : (clI cap32 v).natAbs ≤ 2 ^ (1074 + 51) := clc_D (D := 1074) v
def pl3 (g : Nat) (a b : Ma) : T3 := T3.of (pl g a b)
end Go.Proofs.Ytacinenddnfcbaa
