/- Proved here: what the texts Wrv, Lrw, Lst, Pmr, Psl, Psp, Phs prove, one behind the other. -/
import Derived.Test.YtnmadknpkhaolaaJz8
import Derived.Laws.AppendOwn
import Derived.Laws.AppendOwnNone
import Derived.Deep.Slices
import Derived.Deep.Fields
import Derived.ChangeSame
import Derived.Lib.SmallJoins
import Derived.Deep.AppendLies
import Derived.Test.YtnmadknpkhaolaaJz2
import Derived.Test.YtnmadknpkhaolaaJz5
import Derived.Test.YtnmadknpkhaolaaJz9
import Derived.OwnWalk
import Derived.SizedLaws
import Derived.ProofKit
import Derived.OpenShut
import Derived.Carry
import Derived.BigQuiet
import Derived.Test.YtnmadknpkhaolaaJz3
import Derived.Test.YtnmadknpkhaolaaJz13

namespace Go.Proofs.Ytnmadknpkhaolaa
open Go.ChangeShapes Go.WideShapes Go.ChangeAt Go.RowKit Ieee.Own

/-! ### a block that holds words -/
structure BV (w : World) (g : Nat) (us : List Value) : Prop where
  lt : g < w.heap.size
  at_ : ∀ i u, us[i]? = some u → w.cell? ⟨g, i, none⟩ = some u
  fr : ∀ i u, us[i]? = some u → w.frozen? ⟨g, i, none⟩ = false
def objV (t : TypeId) (us : List Value) : Obj := .cells us.toArray t (0, 0)
theorem BV.on {w w' : World} {g : Nat} {us : List Value} (b : BV w g us) (h : Below w.heap.size w w') : BV w' g us :=
  ⟨Nat.lt_of_lt_of_le b.lt h.size, fun i u e => (cell_on h _ b.lt).trans (b.at_ i u e), fun i u e => (frozen_on h _ b.lt).trans (b.fr i u e)⟩
theorem BV.box (w : World) (t : TypeId) (us : List Value) : BV (w.alloc (objV t us)) w.heap.size us := by
  have S : Blocks w [objV t us] (w.alloc (objV t us)) := (Blocks.nil w).alloc (by simp) _
  unfold objV at S
  refine ⟨by simp, fun i u e => (S.cell 0 rfl i w.heap.size rfl).trans (by simp [e]), fun i u e => S.free 0 rfl i w.heap.size rfl⟩
theorem BV.set1 {w : World} {g k : Nat} {x : Value} {us : List Value} (b : BV w g us) (hk : us[k]? = some x) (v : Value) : BV (w.setCell ⟨g, k, none⟩ v) g (us.set k v) := by
  have hl := (List.getElem?_eq_some_iff.1 hk).1
  refine ⟨by simpa using b.lt, fun i u e => ?_, fun i u e => ?_⟩
  · by_cases h : k = i
    · subst h
      rw [List.getElem?_set_self hl] at e
      obtain rfl := Option.some.inj e
      exact World.cell?_setCell_same _ _ _ (b.at_ _ _ hk)
    · rw [List.getElem?_set_ne h] at e
      rw [World.cell?_setCell_other _ _ _ _ (by simp)]
      exact b.at_ i u e
  · rw [World.frozen?_setCell]
    by_cases h : k = i
    · subst h; exact b.fr _ _ hk
    · rw [List.getElem?_set_ne h] at e; exact b.fr i u e
theorem BV.other1 {w : World} {g h k : Nat} {us : List Value} (b : BV w g us) (hg : g ≠ h) (v : Value) : BV (w.setCell ⟨h, k, none⟩ v) g us := by
  refine ⟨by simpa using b.lt, fun i u e => ?_, fun i u e => ?_⟩
  · rw [World.cell?_setCell_other _ _ _ _ (by simp)]; exact b.at_ i u e
  · rw [World.frozen?_setCell]; exact b.fr i u e
def putV (w : World) (g : Nat) : Nat → List Value → World
  | _, [] => w
  | k, v :: vs => putV (w.setCell ⟨g, k, none⟩ v) g (k + 1) vs
def setV : List Value → Nat → List Value → List Value
  | us, _, [] => us
  | us, k, v :: vs => setV (us.set k v) (k + 1) vs
theorem BV.put {g : Nat} : ∀ (vs : List Value) {w : World} {us : List Value} (k : Nat), BV w g us → k + vs.length ≤ us.length → BV (putV w g k vs) g (setV us k vs)
  | [], _, _, _, b, _ => b
  | v :: vs, w, us, k, b, h => by
    simp only [List.length_cons] at h
    obtain ⟨x, hx⟩ : ∃ x, us[k]? = some x := ⟨us[k]'(by omega), List.getElem?_eq_getElem (by omega)⟩
    exact BV.put vs (k + 1) (b.set1 hx v) (by simp; omega)
theorem BV.other {g h : Nat} {us : List Value} (hg : g ≠ h) : ∀ (vs : List Value) {w : World} (k : Nat), BV w g us → BV (putV w h k vs) g us
  | [], _, _, b => b
  | v :: vs, _, k, b => BV.other hg vs (k + 1) (b.other1 hg v)
theorem putV_below {B g : Nat} {u : World} (hg : B ≤ g) : ∀ (vs : List Value) {w : World} (k : Nat), Below B u w → Below B u (putV w g k vs)
  | [], _, _, b => b
  | _ :: vs, _, k, b => putV_below hg vs (k + 1) (b.setCell hg _)
/-! ### the call's blocks -/
structure Kv (w0 : World) (L : List (Option (Nat × List Value))) (w : World) : Prop where
  old : Below w0.heap.size w0 w
  blk : ∀ (j g : Nat) (us : List Value), L[j]? = some (some (g, us)) → w0.heap.size ≤ g ∧ BV w g us
  inj : ∀ (i j g : Nat) (us vs : List Value), L[i]? = some (some (g, us)) → L[j]? = some (some (g, vs)) → i = j
theorem Kv.nil (w : World) : Kv w [] w := ⟨Below.refl _ w, fun j g us h => by simp at h, fun i j g us vs h => by simp at h⟩
theorem Kv.at_ {w0 w : World} {L : List (Option (Nat × List Value))} (C : Kv w0 L w) (j : Nat) {g : Nat} {us : List Value} (hj : L[j]? = some (some (g, us))) : BV w g us := (C.blk j g us hj).2
theorem Kv.on {w0 w w' : World} {L : List (Option (Nat × List Value))} (C : Kv w0 L w) (h : Below w.heap.size w w') : Kv w0 L w' :=
  ⟨C.old.trans (h.mono C.old.size), fun j g us hj => ⟨(C.blk j g us hj).1, (C.at_ j hj).on h⟩, C.inj⟩
theorem Kv.draws {w0 w : World} {L : List (Option (Nat × List Value))} (C : Kv w0 L w) : Kv w0 L w.drew :=
  ⟨C.old.drew, fun j g us h => ⟨(C.blk j g us h).1, ⟨(C.at_ j h).1, (C.at_ j h).2, (C.at_ j h).3⟩⟩, C.inj⟩
/-- entry j comes to be -/
theorem Kv.make {w0 w : World} {L : List (Option (Nat × List Value))} (C : Kv w0 L w) (j : Nat) (hj : L[j]? = some none) (t : TypeId) (us : List Value) : Kv w0 (L.set j (some (w.heap.size, us))) (w.alloc (objV t us)) := by
  have hb : Below w.heap.size w (w.alloc (objV t us)) := (Below.refl _ w).alloc (Nat.le_refl _) _
  have hl := (List.getElem?_eq_some_iff.1 hj).1
  have old : ∀ i g vs, i ≠ j → (L.set j (some (w.heap.size, us)))[i]? = some (some (g, vs)) → L[i]? = some (some (g, vs)) := fun i g vs hi h => by
    rwa [List.getElem?_set_ne (Ne.symm hi)] at h
  have new : ∀ g vs, (L.set j (some (w.heap.size, us)))[j]? = some (some (g, vs)) → g = w.heap.size ∧ vs = us := fun g vs h => by
    rw [List.getElem?_set_self hl] at h
    simp at h
    exact ⟨h.1.symm, h.2.symm⟩
  refine ⟨C.old.trans (hb.mono C.old.size), fun i g vs hi => ?_, fun i k g vs ws hi hk => ?_⟩
  · by_cases e : i = j
    · subst e
      obtain ⟨rfl, rfl⟩ := new _ _ hi
      exact ⟨C.old.size, BV.box w t vs⟩
    · have h := old _ _ _ e hi
      exact ⟨(C.blk i g vs h).1, (C.at_ i h).on hb⟩
  · by_cases e : i = j <;> by_cases f : k = j
    · omega
    · subst e
      have := (C.at_ k (old _ _ _ f hk)).lt
      have := (new _ _ hi).1
      omega
    · subst f
      have := (C.at_ i (old _ _ _ e hi)).lt
      have := (new _ _ hk).1
      omega
    · exact C.inj i k g vs ws (old _ _ _ e hi) (old _ _ _ f hk)
theorem Kv.more {w0 w : World} {L : List (Option (Nat × List Value))} (C : Kv w0 L w) : Kv w0 (L ++ [none]) w := by
  have key : ∀ i g vs, (L ++ [none])[i]? = some (some (g, vs)) → L[i]? = some (some (g, vs)) := fun i g vs h => by
    by_cases hi : i < L.length
    · rwa [List.getElem?_append_left hi] at h
    · have := (List.getElem?_eq_some_iff.1 h).1
      simp at this
      obtain rfl : i = L.length := by omega
      simp at h
  exact ⟨C.old, fun j g us h => C.blk j g us (key _ _ _ h), fun i j g us vs h k => C.inj i j g us vs (key _ _ _ h) (key _ _ _ k)⟩
theorem Kv.nones {w0 w : World} {L : List (Option (Nat × List Value))} (C : Kv w0 L w) : ∀ n, Kv w0 (L ++ List.replicate n none) w
  | 0 => by simpa using C
  | n + 1 => by
    have := (C.nones n).more
    rwa [List.append_assoc, ← List.replicate_succ'] at this
theorem Kv.new {w0 w : World} {L : List (Option (Nat × List Value))} (C : Kv w0 L w) (t : TypeId) (us : List Value) : Kv w0 (L ++ [some (w.heap.size, us)]) (w.alloc (objV t us)) := by
  have := C.more.make L.length (by simp) t us
  simpa using this
theorem Kv.put {w0 w : World} {L : List (Option (Nat × List Value))} (C : Kv w0 L w) (j : Nat) {g : Nat} {us : List Value} (hj : L[j]? = some (some (g, us))) (k : Nat) (vs : List Value) (hk : k + vs.length ≤ us.length) : Kv w0 (L.set j (some (g, setV us k vs))) (putV w g k vs) := by
  have hl := (List.getElem?_eq_some_iff.1 hj).1
  have hg := C.blk j g us hj
  have old : ∀ i h ws, i ≠ j → (L.set j (some (g, setV us k vs)))[i]? = some (some (h, ws)) → L[i]? = some (some (h, ws)) := fun i h ws hi e => by
    rwa [List.getElem?_set_ne (Ne.symm hi)] at e
  have new : ∀ h ws, (L.set j (some (g, setV us k vs)))[j]? = some (some (h, ws)) → h = g ∧ ws = setV us k vs := fun h ws e => by
    rw [List.getElem?_set_self hl] at e
    simp at e
    exact ⟨e.1.symm, e.2.symm⟩
  have back : ∀ i h ws, (L.set j (some (g, setV us k vs)))[i]? = some (some (h, ws)) → ∃ ws', L[i]? = some (some (h, ws')) := fun i h ws e => by
    by_cases q : i = j
    · subst q
      obtain ⟨rfl, -⟩ := new _ _ e
      exact ⟨_, hj⟩
    · exact ⟨_, old _ _ _ q e⟩
  refine ⟨putV_below hg.1 vs k C.old, fun i h ws hi => ?_, fun i m h ws xs hi hm => ?_⟩
  · by_cases q : i = j
    · subst q
      obtain ⟨rfl, rfl⟩ := new _ _ hi
      exact ⟨hg.1, hg.2.put vs k hk⟩
    · have e := old _ _ _ q hi
      refine ⟨(C.blk i h ws e).1, BV.other (fun z => ?_) vs k (C.at_ i e)⟩
      subst z
      exact q (C.inj i j _ _ _ e hj)
  · obtain ⟨a, ha⟩ := back _ _ _ hi
    obtain ⟨b, hb⟩ := back _ _ _ hm
    exact C.inj i m h _ _ ha hb

/-- a block that a call made, beside those that were there -/
theorem Kv.own {w0 w w' : World} {L : List (Option (Nat × List Value))} (C : Kv w0 L w) (hb : Below w.heap.size w w') {g : Nat} {us : List Value} (hg : w.heap.size ≤ g) (b : BV w' g us) : Kv w0 (L ++ [some (g, us)]) w' := by
  have C' := C.on hb
  have key : ∀ i h vs, (L ++ [some (g, us)])[i]? = some (some (h, vs)) → L[i]? = some (some (h, vs)) ∨ (i = L.length ∧ h = g ∧ vs = us) := fun i h vs hi => by
    by_cases q : i < L.length
    · rw [List.getElem?_append_left q] at hi; exact .inl hi
    · have := (List.getElem?_eq_some_iff.1 hi).1
      simp at this
      obtain rfl : i = L.length := by omega
      simp at hi
      exact .inr ⟨rfl, hi.1.symm, hi.2.symm⟩
  have far : ∀ i h vs, L[i]? = some (some (h, vs)) → h ≠ g := fun i h vs hi e => by
    have := (C.at_ i hi).lt
    omega
  refine ⟨C'.old, fun i h vs hi => ?_, fun i k h vs ws hi hk => ?_⟩
  · rcases key _ _ _ hi with q | ⟨rfl, rfl, rfl⟩
    · exact C'.blk i h vs q
    · exact ⟨Nat.le_trans C.old.size hg, b⟩
  · rcases key _ _ _ hi with q | ⟨rfl, rfl, rfl⟩ <;> rcases key _ _ _ hk with r | ⟨rfl, e, rfl⟩
    · exact C.inj i k h vs ws q r
    · exact absurd e (far _ _ _ q)
    · exact absurd rfl (far _ _ _ r)
    · rfl

/-- the blocks that a call begins with -/
theorem kv1 (w : World) (t : TypeId) (us : List Value) : Kv w [some (w.heap.size, us)] (w.alloc (objV t us)) := (Kv.nil w).new t us
theorem Kv.and {w0 w : World} {L : List (Option (Nat × List Value))} {n : Nat} (C : Kv w0 L w) (h : w.heap.size = n) (t : TypeId) (us : List Value) : Kv w0 (L ++ [some (n, us)]) (w.alloc (objV t us)) := by
  subst h; exact C.new t us
theorem kv2 (w : World) (t t' : TypeId) (us vs : List Value) : Kv w [some (w.heap.size, us), some (w.heap.size + 1, vs)] ((w.alloc (objV t us)).alloc (objV t' vs)) := (kv1 w t us).and (by simp) t' vs
theorem kv3 (w : World) (t t' t'' : TypeId) (us vs xs : List Value) : Kv w [some (w.heap.size, us), some (w.heap.size + 1, vs), some (w.heap.size + 1 + 1, xs)] (((w.alloc (objV t us)).alloc (objV t' vs)).alloc (objV t'' xs)) := (kv2 w t t' us vs).and (by simp) t'' xs
theorem kv4 (w : World) (t t' t'' t3 : TypeId) (us vs xs ys : List Value) : Kv w [some (w.heap.size, us), some (w.heap.size + 1, vs), some (w.heap.size + 1 + 1, xs), some (w.heap.size + 1 + 1 + 1, ys)] ((((w.alloc (objV t us)).alloc (objV t' vs)).alloc (objV t'' xs)).alloc (objV t3 ys)) := (kv3 w t t' t'' us vs xs).and (by simp) t3 ys

/-! ### a region -/
/-- a store of a region: which operation, into which entry, from which cell on, what -/
structure Sv where
  i : Nat
  j : Nat
  k : Nat
  vs : List Value
/-- an allocation of a region: which operation, which entry, of what type, the words in it -/
structure Av where
  i : Nat
  j : Nat
  t : TypeId
  us : List Value
/-- the entries as they are when L has come up: base, the stores -/
def storedV (sts : List Sv) (L : List (Option Value)) (j : Nat) (us vs : List Value) : Prop :=
  (∀ st ∈ sts, st.j = j → doneL L st.i → vs = setV us st.k st.vs) ∧ ((∀ st ∈ sts, st.j = j → ¬ doneL L st.i) → vs = us)
structure CurV (C D : List (Option (Nat × List Value))) (als : List Av) (sts : List Sv) (L : List (Option Value)) : Prop where
  len : D.length = C.length
  old : ∀ j, (∀ al ∈ als, al.j ≠ j) → (∃ g us vs, C[j]? = some (some (g, us)) ∧ D[j]? = some (some (g, vs)) ∧ storedV sts L j us vs) ∨ ((∀ g us, C[j]? ≠ some (some (g, us))) ∧ D[j]? = C[j]?)
  new : ∀ al ∈ als, (¬ doneL L al.i ∧ D[al.j]? = some none) ∨ ∃ h vs, L[al.i]? = some (some (ptrV h)) ∧ D[al.j]? = some (some (h, vs)) ∧ storedV sts L al.j al.us vs

theorem storedV_same {sts : List Sv} {L : List (Option Value)} {i j : Nat} {v : Value} {us vs : List Value} (hn : L[i]? = some none) (hs : ∀ st ∈ sts, st.j = j → st.i ≠ i) (h : storedV sts L j us vs) : storedV sts (L.set i (some v)) j us vs :=
  ⟨fun st hst e d => h.1 st hst e (by
    rcases (done_set hn _).1 d with q | q
    · exact absurd q (hs st hst e)
    · exact q), fun k => h.2 fun st hst e d => k st hst e ((done_set hn _).2 (.inr d))⟩
theorem storedV_now {sts : List Sv} {L : List (Option Value)} {st : Sv} {v : Value} {us vs : List Value} (hst : st ∈ sts) (hn : L[st.i]? = some none) (hi : ∀ st ∈ sts, ∀ st' ∈ sts, (st.j = st'.j ∨ st.i = st'.i) → st = st') (h : storedV sts L st.j us vs) : vs = us ∧ storedV sts (L.set st.i (some v)) st.j us (setV us st.k st.vs) := by
  have nd : ¬ doneL L st.i := fun ⟨v, hv⟩ => by rw [hn] at hv; simp at hv
  refine ⟨h.2 fun st' hst' e d => ?_, fun st' hst' e _ => by rw [hi st' hst' st hst (.inl e)], fun k => absurd ((done_set hn _).2 (.inl rfl)) (k st hst rfl)⟩
  rw [hi st' hst' st hst (.inl e)] at d
  exact nd d

section
variable {ops : Array Oper} {Q : Exit → Act → World → Prop}
set_option maxRecDepth 100000 in
theorem wp_region_v {id : Nat} {a0 : Act} {w w0 : World} {C : List (Option (Nat × List Value))} (als : List Av) (sts : List Sv) (dv : List Value) (ds : List (Option Tmp))
    (hm : Try.prog.follows .mixedOrders = true) (hds : ops.toList.map (·.dst) = ds) (hap : apartL ds = true) (hb : backward ops = true) (hg : plainL ops = true) (hC : Kv w0 C w)
    (ha : ∀ al ∈ als, C[al.j]? = some none) (haj : ∀ al ∈ als, ∀ al' ∈ als, (al.j = al'.j ∨ al.i = al'.i) → al = al') (hai : ∀ al ∈ als, al.i < ops.size)
    (hsi : ∀ st ∈ sts, ∀ st' ∈ sts, (st.j = st'.j ∨ st.i = st'.i) → st = st') (hss : ∀ st ∈ sts, st.i < ops.size) (hsa : ∀ st ∈ sts, ∀ al ∈ als, st.i ≠ al.i)
    (hsw : ∀ st ∈ sts, ∀ al ∈ als, st.j = al.j → waitsAt ops st.i al.i = true)
    (htg : ∀ st ∈ sts, (∃ g us, C[st.j]? = some (some (g, us)) ∧ st.k + st.vs.length ≤ us.length) ∨ ∃ al ∈ als, al.j = st.j ∧ st.k + st.vs.length ≤ al.us.length)
    (alloc : ∀ al ∈ als, ∀ (o : Oper) (ρ : Operand → Value) (W : World), ops[al.i]? = some o → (execOp ρ o).run Try.prog W = .ok (.value (ptrV W.heap.size)) (W.alloc (objV al.t al.us)))
    (step : ∀ (L : List (Option Value)) (W : World) (i : Nat) (o : Oper), ops[i]? = some o → (∀ st ∈ sts, st.i ≠ i) → (∀ al ∈ als, al.i ≠ i) → (∀ k, waits o k = true → (∀ al ∈ als, al.i ≠ k) → L[k]? = some (some (dv.getD k undef))) →
      (∀ (j g : Nat) (us : List Value), C[j]? = some (some (g, us)) → (∀ st ∈ sts, st.j = j → needs ops ops.size st.i i = true) → BV W g us) → Below w0.heap.size w0 W → Came o (puts ds L a0) W (dv.getD i undef))
    (store : ∀ st ∈ sts, ∀ (L : List (Option Value)) (W : World) (o : Oper) (h : Nat) (us : List Value), ops[st.i]? = some o → (∀ k, waits o k = true → (∀ al ∈ als, al.i ≠ k) → L[k]? = some (some (dv.getD k undef))) →
      (∀ al ∈ als, al.j = st.j → L[al.i]? = some (some (ptrV h)) ∧ us = al.us) → (∀ g vs, C[st.j]? = some (some (g, vs)) → h = g ∧ us = vs) → BV W h us →
      (execOp (puts ds L a0).eval o).run Try.prog W = .ok .skip (putV W h st.k st.vs) ∧ dv.getD st.i undef = undef)
    (fin : ∀ (L : List (Option Value)) (D : List (Option (Nat × List Value))) (W : World), L.length = ops.size → (∀ i, i < ops.size → (∀ al ∈ als, al.i ≠ i) → L[i]? = some (some (dv.getD i undef))) → D.length = C.length →
      (∀ j, (∀ st ∈ sts, st.j ≠ j) → (∀ al ∈ als, al.j ≠ j) → D[j]? = C[j]?) →
      (∀ st ∈ sts, ∀ g us, C[st.j]? = some (some (g, us)) → D[st.j]? = some (some (g, setV us st.k st.vs))) →
      (∀ al ∈ als, ∃ h, L[al.i]? = some (some (ptrV h)) ∧ (∀ st ∈ sts, st.j = al.j → D[al.j]? = some (some (h, setV al.us st.k st.vs))) ∧ ((∀ st ∈ sts, st.j ≠ al.j) → D[al.j]? = some (some (h, al.us)))) →
      Kv w0 D W → Q .normal (puts ds L a0) W) : (Code.region id ops true).wp Try.prog Q a0 w := by
  refine wp_region_inv hm ds hds hap hb hg (fun L W => (∀ i v, (∀ al ∈ als, al.i ≠ i) → L[i]? = some (some v) → v = dv.getD i undef) ∧ Closed ops L ∧ ∃ D, CurV C D als sts L ∧ Kv w0 D W) ?_ ?_ ?_
  · have nd : ∀ i, ¬ doneL (nones ops.size) i := fun i ⟨v, hv⟩ => absurd hv (nones_get _ _ _)
    refine ⟨fun i v _ h => absurd h (nones_get _ _ _), Closed.none _ _, C, ⟨rfl, fun j _ => ?_, fun al hal => .inl ⟨nd _, ha al hal⟩⟩, hC.draws⟩
    by_cases q : ∃ g us, C[j]? = some (some (g, us))
    · obtain ⟨g, us, e⟩ := q
      exact .inl ⟨g, us, us, e, e, fun st _ _ d => absurd d (nd _), fun _ => rfl⟩
    · exact .inr ⟨fun g us e => q ⟨g, us, e⟩, rfl⟩
  · intro L W i o hL ho hn hd ⟨hdet, hcl, D, hD, hK⟩
    have hd' : ∀ k, waits o k = true → (∀ al ∈ als, al.i ≠ k) → L[k]? = some (some (dv.getD k undef)) := fun k hk hka => by
      unfold waits at hk
      rw [List.any_eq_true] at hk
      obtain ⟨e, he, h2⟩ := hk
      simp only [Bool.and_eq_true, beq_iff_eq] at h2
      obtain ⟨v, hv⟩ := hd e (Array.mem_toList_iff.1 he) h2.2
      rw [h2.1] at hv
      rw [hv, hdet k v hka hv]
    have hil : i < L.length := (List.getElem?_eq_some_iff.1 hn).1
    have key : ∀ v, ((∀ al ∈ als, al.i ≠ i) → v = dv.getD i undef) → ∀ k u, (∀ al ∈ als, al.i ≠ k) → (L.set i (some v))[k]? = some (some u) → u = dv.getD k undef := fun v hv k u hka hk => by
      by_cases hik : i = k
      · subst hik
        rw [List.getElem?_set_self hil] at hk
        rw [← Option.some.inj (Option.some.inj hk)]; exact hv hka
      · rw [List.getElem?_set_ne hik] at hk; exact hdet k u hka hk
    have nd : ¬ doneL L i := fun ⟨v, hv⟩ => by rw [hn] at hv; simp at hv
    by_cases ea : ∃ al ∈ als, al.i = i
    · obtain ⟨al, hal, rfl⟩ := ea
      have r := alloc al hal o (puts ds L a0).eval W ho
      have hDj : D[al.j]? = some none := by
        rcases hD.new al hal with ⟨-, e⟩ | ⟨h, vs, e, -⟩
        · exact e
        · rw [hn] at e; simp at e
      have hjl : al.j < D.length := (List.getElem?_eq_some_iff.1 hDj).1
      unfold Oper.wp; rw [r]
      refine ⟨_, rfl, key _ (fun z => absurd rfl (z al hal)), hcl.set ho hn hd, D.set al.j (some (W.heap.size, al.us)), ⟨by simp [hD.len], fun j hj => ?_, fun al' hal' => ?_⟩, hK.make al.j hDj al.t al.us⟩
      · have hne : al.j ≠ j := hj al hal
        rw [List.getElem?_set_ne hne]
        rcases hD.old j hj with ⟨g, us, vs, e1, e2, e3⟩ | e
        · exact .inl ⟨g, us, vs, e1, e2, storedV_same hn (fun st hst _ => hsa st hst al hal) e3⟩
        · exact .inr e
      · by_cases q : al' = al
        · subst q
          refine .inr ⟨W.heap.size, al'.us, ?_, by rw [List.getElem?_set_self hjl], fun st hst e d => ?_, fun _ => rfl⟩
          · rw [List.getElem?_set_self hil]
          · rcases (done_set hn _).1 d with z | z
            · exact absurd z (hsa st hst al' hal)
            · exact absurd (hcl _ _ z (hsw st hst al' hal e)) nd
        · have hne : al.j ≠ al'.j := fun e => q (haj al' hal' al hal (.inl e.symm))
          have hni : al.i ≠ al'.i := fun e => q (haj al' hal' al hal (.inr e.symm))
          rw [List.getElem?_set_ne hne, List.getElem?_set_ne hni]
          rcases hD.new al' hal' with ⟨e1, e2⟩ | ⟨h, vs, e1, e2, e3⟩
          · exact .inl ⟨fun z => ((done_set hn _).1 z).elim (fun z => hni z.symm) e1, e2⟩
          · exact .inr ⟨h, vs, e1, e2, storedV_same hn (fun st hst _ => hsa st hst al hal) e3⟩
    · have ha' : ∀ al ∈ als, al.i ≠ i := fun al hal e => ea ⟨al, hal, e⟩
      by_cases es : ∃ st ∈ sts, st.i = i
      · obtain ⟨st, hst, rfl⟩ := es
        -- the block that is storedV into
        have B : ∃ h us, D[st.j]? = some (some (h, us)) ∧ st.k + st.vs.length ≤ us.length ∧ (∀ al ∈ als, al.j = st.j → L[al.i]? = some (some (ptrV h)) ∧ us = al.us) ∧ (∀ g vs, C[st.j]? = some (some (g, vs)) → h = g ∧ us = vs) := by
          by_cases q : ∃ al ∈ als, al.j = st.j
          · obtain ⟨al, hal, e⟩ := q
            have da : doneL L al.i := by
              have hs := hsw st hst al hal e.symm
              unfold waitsAt at hs
              rw [ho] at hs
              simp only [Option.map_some, Option.getD_some] at hs
              unfold waits at hs
              rw [List.any_eq_true] at hs
              obtain ⟨e', he, h2⟩ := hs
              simp only [Bool.and_eq_true, beq_iff_eq] at h2
              have := hd e' (Array.mem_toList_iff.1 he) h2.2
              rw [h2.1] at this
              exact this
            rcases hD.new al hal with ⟨z, -⟩ | ⟨h, vs, e1, e2, e3⟩
            · exact absurd da z
            · have hu := (storedV_now (v := undef) hst hn hsi (e ▸ e3)).1
              subst hu
              refine ⟨h, al.us, e ▸ e2, ?_, fun al' hal' e' => ?_, fun g vs' e' => ?_⟩
              · rcases htg st hst with ⟨g, us, c, -⟩ | ⟨al', hal', e', c⟩
                · rw [← e, ha al hal] at c; simp at c
                · rw [haj al' hal' al hal (.inl (by omega))] at c; exact c
              · rw [haj al' hal' al hal (.inl (by omega))]; exact ⟨e1, rfl⟩
              · rw [← e, ha al hal] at e'; simp at e'
          · have q' : ∀ al ∈ als, al.j ≠ st.j := fun al hal e => q ⟨al, hal, e⟩
            rcases htg st hst with ⟨g, us, c, c2⟩ | ⟨al', hal', e', -⟩
            · rcases hD.old st.j q' with ⟨g', us', vs', e1, e2, e3⟩ | ⟨e1, -⟩
              · rw [c] at e1
                simp at e1
                obtain ⟨rfl, rfl⟩ := e1
                have hu := (storedV_now (v := undef) hst hn hsi e3).1
                subst hu
                refine ⟨g, vs', e2, c2, fun al hal e => absurd e (q' al hal), fun g2 vs2 e => ?_⟩
                rw [c] at e
                simp at e
                exact ⟨e.1, e.2⟩
              · exact absurd c (e1 g us)
            · exact absurd e' (q' al' hal')
        obtain ⟨h, us, hDj, hk, b1, b2⟩ := B
        obtain ⟨r, u⟩ := store st hst L W o h us ho hd' b1 b2 (hK.at_ st.j hDj)
        have hjl : st.j < D.length := (List.getElem?_eq_some_iff.1 hDj).1
        unfold Oper.wp; rw [r]
        refine ⟨undef, rfl, key _ (fun _ => u.symm), hcl.set ho hn hd, D.set st.j (some (h, setV us st.k st.vs)), ⟨by simp [hD.len], fun j hj => ?_, fun al hal => ?_⟩, hK.put st.j hDj st.k st.vs hk⟩
        · by_cases e : st.j = j
          · subst e
            rcases hD.old _ hj with ⟨g, us', vs', e1, e2, e3⟩ | ⟨e1, e2⟩
            · rw [hDj] at e2
              simp at e2
              obtain ⟨rfl, rfl⟩ := e2
              obtain ⟨rfl, S⟩ := storedV_now (v := undef) hst hn hsi e3
              exact .inl ⟨_, _, _, e1, by rw [List.getElem?_set_self hjl], S⟩
            · rw [hDj] at e2
              exact absurd e2.symm (e1 h us)
          · rw [List.getElem?_set_ne e]
            rcases hD.old j hj with ⟨g, us', vs', e1, e2, e3⟩ | e'
            · exact .inl ⟨g, us', vs', e1, e2, storedV_same hn (fun st' hst' e' z => e (by rw [← hsi st' hst' st hst (.inr z)]; exact e')) e3⟩
            · exact .inr e'
        · have hni : st.i ≠ al.i := hsa st hst al hal
          rw [List.getElem?_set_ne hni]
          by_cases e : st.j = al.j
          · rcases hD.new al hal with ⟨-, e2⟩ | ⟨h', vs', e1, e2, e3⟩
            · rw [← e, hDj] at e2; simp at e2
            · rw [← e, hDj] at e2
              simp at e2
              obtain ⟨rfl, rfl⟩ := e2
              rw [← e] at e3 ⊢
              obtain ⟨rfl, S⟩ := storedV_now (v := undef) hst hn hsi e3
              exact .inr ⟨_, _, e1, by rw [List.getElem?_set_self hjl], S⟩
          · rw [List.getElem?_set_ne e]
            rcases hD.new al hal with ⟨e1, e2⟩ | ⟨h', vs', e1, e2, e3⟩
            · exact .inl ⟨fun z => ((done_set hn _).1 z).elim (fun z => hni z.symm) e1, e2⟩
            · exact .inr ⟨h', vs', e1, e2, storedV_same hn (fun st' hst' e' z => e (by rw [← hsi st' hst' st hst (.inr z)]; exact e')) e3⟩
      · have hs' : ∀ st ∈ sts, st.i ≠ i := fun st hst e => es ⟨st, hst, e⟩
        have hB : ∀ (j g : Nat) (us : List Value), C[j]? = some (some (g, us)) → (∀ st ∈ sts, st.j = j → needs ops ops.size st.i i = true) → BV W g us := fun j g us h hh => by
          refine hK.at_ j ?_
          have q : ∀ al ∈ als, al.j ≠ j := fun al hal e => by
            have := ha al hal
            rw [e, h] at this
            simp at this
          rcases hD.old j q with ⟨g', us', vs', e1, e2, e3⟩ | ⟨e1, -⟩
          · rw [h] at e1
            simp at e1
            obtain ⟨rfl, rfl⟩ := e1
            rw [e2, e3.2 fun st hst e d => nd (hcl.needs _ _ _ (hh st hst e) d)]
          · exact absurd h (e1 g us)
        have hcur : ∀ v, CurV C D als sts (L.set i (some v)) := fun v => ⟨hD.len, fun j hj => by
            rcases hD.old j hj with ⟨g, us', vs', e1, e2, e3⟩ | e'
            · exact .inl ⟨g, us', vs', e1, e2, storedV_same hn (fun st hst _ => hs' st hst) e3⟩
            · exact .inr e', fun al hal => by
            rcases hD.new al hal with ⟨e1, e2⟩ | ⟨h', vs', e1, e2, e3⟩
            · exact .inl ⟨fun z => ((done_set hn _).1 z).elim (ha' al hal) e1, e2⟩
            · exact .inr ⟨h', vs', by rw [List.getElem?_set_ne (Ne.symm (ha' al hal))]; exact e1, e2, storedV_same hn (fun st hst _ => hs' st hst) e3⟩⟩
        rcases step L W i o ho hs' ha' hd' hB hK.old with ⟨w', r, k⟩ | ⟨f, args, r, k⟩
        · unfold Oper.wp; rw [r]
          exact ⟨_, rfl, key _ (fun _ => rfl), hcl.set ho hn hd, D, hcur _, hK.on k⟩
        · unfold Oper.wp; rw [r]
          refine Calls.mono k fun e w' hh => ?_
          obtain ⟨rfl, hS⟩ := hh
          exact ⟨_, rfl, key _ (fun _ => rfl), hcl.set ho hn hd, D, hcur _, hK.on hS⟩
  · rintro L W hL hall ⟨hdet, -, D, hD, hK⟩
    refine fin L D W hL (fun i hi hia => ?_) hD.len (fun j hj q => ?_) (fun st hst g us h => ?_) (fun al hal => ?_) hK
    · obtain ⟨v, hv⟩ := hall i hi
      rw [hv, hdet i v hia hv]
    · rcases hD.old j q with ⟨g', us', vs', e1, e2, e3⟩ | ⟨-, e⟩
      · rw [e1, e2, e3.2 fun st hst e => absurd e (hj st hst)]
      · exact e
    · have q : ∀ al ∈ als, al.j ≠ st.j := fun al hal e => by
        have := ha al hal
        rw [e, h] at this
        simp at this
      rcases hD.old st.j q with ⟨g', us', vs', e1, e2, e3⟩ | ⟨e1, -⟩
      · rw [h] at e1
        simp at e1
        obtain ⟨rfl, rfl⟩ := e1
        rw [e2, e3.1 st hst rfl (hall _ (hss st hst))]
      · exact absurd h (e1 g us)
    · rcases hD.new al hal with ⟨z, -⟩ | ⟨h, vs, e1, e2, e3⟩
      · exact absurd (hall _ (hai al hal)) z
      · refine ⟨h, e1, fun st hst e => ?_, fun hn => ?_⟩
        · rw [e2, e3.1 st hst e (hall _ (hss st hst))]
        · rw [e2, e3.2 fun st hst e => absurd e (hn st hst)]
set_option maxRecDepth 100000 in
/-- what is left when all has come up, told by the addresses of what was made -/
theorem wp_region_kv {id : Nat} {a0 : Act} {w w0 : World} {C : List (Option (Nat × List Value))} (E : (Nat → Nat) → List (Option (Nat × List Value))) (Lf : (Nat → Nat) → List (Option Value)) (als : List Av) (sts : List Sv) (dv : List Value) (ds : List (Option Tmp))
    (hm : Try.prog.follows .mixedOrders = true) (hds : ops.toList.map (·.dst) = ds) (hap : apartL ds = true) (hb : backward ops = true) (hg : plainL ops = true) (hC : Kv w0 C w)
    (ha : ∀ al ∈ als, C[al.j]? = some none) (haj : ∀ al ∈ als, ∀ al' ∈ als, (al.j = al'.j ∨ al.i = al'.i) → al = al') (hai : ∀ al ∈ als, al.i < ops.size)
    (hsi : ∀ st ∈ sts, ∀ st' ∈ sts, (st.j = st'.j ∨ st.i = st'.i) → st = st') (hss : ∀ st ∈ sts, st.i < ops.size) (hsa : ∀ st ∈ sts, ∀ al ∈ als, st.i ≠ al.i)
    (hsw : ∀ st ∈ sts, ∀ al ∈ als, st.j = al.j → waitsAt ops st.i al.i = true)
    (htg : ∀ st ∈ sts, (∃ g us, C[st.j]? = some (some (g, us)) ∧ st.k + st.vs.length ≤ us.length) ∨ ∃ al ∈ als, al.j = st.j ∧ st.k + st.vs.length ≤ al.us.length)
    (hE2 : ∀ hf j, (∀ st ∈ sts, st.j ≠ j) → (∀ al ∈ als, al.j ≠ j) → (E hf)[j]? = C[j]?)
    (hE3 : ∀ hf, ∀ st ∈ sts, ∀ g us, C[st.j]? = some (some (g, us)) → (E hf)[st.j]? = some (some (g, setV us st.k st.vs)))
    (hE4 : ∀ hf, ∀ al ∈ als, (∀ st ∈ sts, st.j = al.j → (E hf)[al.j]? = some (some (hf al.i, setV al.us st.k st.vs))) ∧ ((∀ st ∈ sts, st.j ≠ al.j) → (E hf)[al.j]? = some (some (hf al.i, al.us))))
    (hL1 : ∀ hf, (Lf hf).length = ops.size)
    (hL2 : ∀ hf i, i < ops.size → (∀ al ∈ als, al.i ≠ i) → (Lf hf)[i]? = some (some (dv.getD i undef)))
    (hL3 : ∀ hf, ∀ al ∈ als, (Lf hf)[al.i]? = some (some (ptrV (hf al.i))))
    (alloc : ∀ al ∈ als, ∀ (o : Oper) (ρ : Operand → Value) (W : World), ops[al.i]? = some o → (execOp ρ o).run Try.prog W = .ok (.value (ptrV W.heap.size)) (W.alloc (objV al.t al.us)))
    (step : ∀ (L : List (Option Value)) (W : World) (i : Nat) (o : Oper), ops[i]? = some o → (∀ st ∈ sts, st.i ≠ i) → (∀ al ∈ als, al.i ≠ i) → (∀ k, waits o k = true → (∀ al ∈ als, al.i ≠ k) → L[k]? = some (some (dv.getD k undef))) →
      (∀ (j g : Nat) (us : List Value), C[j]? = some (some (g, us)) → (∀ st ∈ sts, st.j = j → needs ops ops.size st.i i = true) → BV W g us) → Below w0.heap.size w0 W → Came o (puts ds L a0) W (dv.getD i undef))
    (store : ∀ st ∈ sts, ∀ (L : List (Option Value)) (W : World) (o : Oper) (h : Nat) (us : List Value), ops[st.i]? = some o → (∀ k, waits o k = true → (∀ al ∈ als, al.i ≠ k) → L[k]? = some (some (dv.getD k undef))) →
      (∀ al ∈ als, al.j = st.j → L[al.i]? = some (some (ptrV h)) ∧ us = al.us) → (∀ g vs, C[st.j]? = some (some (g, vs)) → h = g ∧ us = vs) → BV W h us →
      (execOp (puts ds L a0).eval o).run Try.prog W = .ok .skip (putV W h st.k st.vs) ∧ dv.getD st.i undef = undef)
    (fin : ∀ (hf : Nat → Nat) (W : World), Kv w0 (E hf) W → Q .normal (puts ds (Lf hf) a0) W) : (Code.region id ops true).wp Try.prog Q a0 w := by
  refine wp_region_v als sts dv ds hm hds hap hb hg hC ha haj hai hsi hss hsa hsw htg alloc step store fun L D W hL hall hlen hold hst hal hK => ?_
  -- the addresses
  let hf : Nat → Nat := fun i => match L[i]? with
    | some (some (.pointer (some p))) => p.block
    | _ => 0
  have hfe : ∀ al ∈ als, ∀ h, L[al.i]? = some (some (ptrV h)) → hf al.i = h := fun al _ h e => by
    show (match L[al.i]? with | some (some (.pointer (some p))) => p.block | _ => 0) = h
    rw [e]; rfl
  have eL : L = Lf hf := by
    refine List.ext_getElem? fun i => ?_
    by_cases hi : i < ops.size
    · by_cases q : ∃ al ∈ als, al.i = i
      · obtain ⟨al, m, rfl⟩ := q
        obtain ⟨h, e, -⟩ := hal al m
        rw [hL3 hf al m, hfe al m h e, e]
      · have q' : ∀ al ∈ als, al.i ≠ i := fun al m e => q ⟨al, m, e⟩
        rw [hall i hi q', hL2 hf i hi q']
    · rw [List.getElem?_eq_none (by omega), List.getElem?_eq_none (by rw [hL1 hf]; omega)]
  have eD : D = E hf := by
    refine List.ext_getElem? fun j => ?_
    by_cases q : ∃ al ∈ als, al.j = j
    · obtain ⟨al, m, rfl⟩ := q
      obtain ⟨h, e, d1, d2⟩ := hal al m
      have e4 := hE4 hf al m
      rw [hfe al m h e] at e4
      by_cases r : ∃ st ∈ sts, st.j = al.j
      · obtain ⟨st, ms, es⟩ := r
        rw [d1 st ms es, e4.1 st ms es]
      · have r' : ∀ st ∈ sts, st.j ≠ al.j := fun st ms es => r ⟨st, ms, es⟩
        rw [d2 r', e4.2 r']
    · have q' : ∀ al ∈ als, al.j ≠ j := fun al m e => q ⟨al, m, e⟩
      by_cases r : ∃ st ∈ sts, st.j = j
      · obtain ⟨st, ms, rfl⟩ := r
        rcases htg st ms with ⟨g, us, c, -⟩ | ⟨al, m, e, -⟩
        · rw [hst st ms g us c, hE3 hf st ms g us c]
        · exact absurd e (q' al m)
      · have r' : ∀ st ∈ sts, st.j ≠ j := fun st ms es => r ⟨st, ms, es⟩
        rw [hold j r' q', hE2 hf j r' q']
  rw [eL]
  rw [eD] at hK
  exact fin hf W hK
end
end Go.Proofs.Ytnmadknpkhaolaa

namespace Go.Proofs.Ytnmadknpkhaolaa
open Go.ChangeShapes Go.WideShapes Go.ChangeAt Go.RowKit Go.Joins Go.Deep

/-- a slice that holds records of m cells each -/
def RAt (w : World) (ao : Option Addr) (m : Nat) (R : List (List Value)) : Prop :=
  ∀ j r, R[j]? = some r → ∃ b o, ao = some ⟨b, o, none⟩ ∧ b < w.heap.size ∧ ∀ k u, r[k]? = some u → w.cell? ⟨b, o + j * m + k, none⟩ = some u
theorem RAt.below {w w' : World} {ao : Option Addr} {m B : Nat} {R : List (List Value)} (h : RAt w ao m R) (hB : ∀ b o, ao = some ⟨b, o, none⟩ → 0 < R.length → b < B) (hb : Below B w w') : RAt w' ao m R := by
  intro j r hj
  obtain ⟨b, o, e, hl, h1⟩ := h j r hj
  have hlt : b < B := hB b o e (by have := (List.getElem?_eq_some_iff.1 hj).1; omega)
  exact ⟨b, o, e, Nat.lt_of_lt_of_le hl hb.size, fun k u hu => (hb.cell (p := ⟨b, o + j * m + k, none⟩) hlt).trans (h1 k u hu)⟩
theorem RAt.on {w w' : World} {ao : Option Addr} {m : Nat} {R : List (List Value)} (h : RAt w ao m R) (hb : Below w.heap.size w w') : RAt w' ao m R := by
  intro j r hj
  obtain ⟨b, o, e, hl, h1⟩ := h j r hj
  exact ⟨b, o, e, Nat.lt_of_lt_of_le hl hb.size, fun k u hu => (hb.cell (p := ⟨b, o + j * m + k, none⟩) hl).trans (h1 k u hu)⟩
theorem RAt.lt {w : World} {ao : Option Addr} {m : Nat} {R : List (List Value)} (h : RAt w ao m R) : ∀ b o, ao = some ⟨b, o, none⟩ → 0 < R.length → b < w.heap.size := by
  rintro b o rfl hl
  obtain ⟨b', o', e, hb, _⟩ := h 0 (R[0]'hl) (List.getElem?_eq_getElem hl)
  simp at e
  obtain ⟨rfl, rfl⟩ := e
  exact hb
theorem RAt.alloc {w : World} {ao : Option Addr} {m : Nat} {R : List (List Value)} (h : RAt w ao m R) (o : Obj) : RAt (w.alloc o) ao m R := h.on ((Below.refl _ _).alloc (Nat.le_refl _) o)
theorem RAt.drew {w : World} {ao : Option Addr} {m : Nat} {R : List (List Value)} (h : RAt w ao m R) (n : Nat) : RAt (w.drewN n) ao m R := h

/-- records of m cells -/
structure RowsOk (m : Nat) (R : List (List Value)) : Prop where
  len : ∀ r ∈ R, r.length = m
  one : ∀ r ∈ R, ∀ u ∈ r, u.oneCell' = true
theorem RowsOk.tail {m : Nat} {r : List Value} {R : List (List Value)} (h : RowsOk m (r :: R)) : RowsOk m R := ⟨fun x hx => h.len x (List.mem_cons_of_mem _ hx), fun x hx => h.one x (List.mem_cons_of_mem _ hx)⟩
/-- one cell of one record written -/
theorem RAt.set1 {w : World} {b m : Nat} {R : List (List Value)} (h : RAt w (some ⟨b, 0, none⟩) m R) (hR : RowsOk m R) {j c : Nat} {r : List Value} {u : Value} (hj : R[j]? = some r) (hc : r[c]? = some u) (v : Value) :
    RAt (w.setCell ⟨b, j * m + c, none⟩ v) (some ⟨b, 0, none⟩) m (R.set j (r.set c v)) := by
  have hjl := (List.getElem?_eq_some_iff.1 hj).1
  have hcl := (List.getElem?_eq_some_iff.1 hc).1
  have hm : c < m := by rw [← hR.len r (List.mem_of_getElem? hj)]; exact hcl
  obtain ⟨b0, o0, e0, hb, hcell⟩ := h j r hj
  simp only [Option.some.injEq, Addr.mk.injEq, and_true] at e0
  obtain ⟨rfl, rfl⟩ := e0
  intro i q hq
  refine ⟨b, 0, rfl, by simpa using hb, fun k x hx => ?_⟩
  by_cases hij : j = i
  · subst hij
    rw [List.getElem?_set_self hjl] at hq
    obtain rfl := Option.some.inj hq
    by_cases hk : c = k
    · subst hk
      rw [List.getElem?_set_self hcl] at hx
      obtain rfl := Option.some.inj hx
      rw [Nat.zero_add]
      have h2 := hcell c u hc
      rw [Nat.zero_add] at h2
      exact World.cell?_setCell_same _ _ _ h2
    · rw [List.getElem?_set_ne hk] at hx
      rw [Nat.zero_add, World.cell?_setCell_other _ _ _ _ (fun e => by simp at e <;> omega)]
      have h2 := hcell k x hx
      rwa [Nat.zero_add] at h2
  · rw [List.getElem?_set_ne hij] at hq
    have hk : k < m := by rw [← hR.len q (List.mem_of_getElem? hq)]; exact (List.getElem?_eq_some_iff.1 hx).1
    have hne : j * m + c ≠ i * m + k := by
      intro e
      rcases Nat.lt_or_ge j i with g | g
      · have := Nat.mul_le_mul_right m (show j + 1 ≤ i by omega)
        rw [Nat.add_mul] at this
        omega
      · have := Nat.mul_le_mul_right m (show i + 1 ≤ j by omega)
        rw [Nat.add_mul] at this
        omega
    rw [Nat.zero_add, World.cell?_setCell_other _ _ _ _ (fun e => by simp at e <;> omega)]
    obtain ⟨b1, o1, e1, -, h2⟩ := h i q hq
    simp only [Option.some.injEq, Addr.mk.injEq, and_true] at e1
    obtain ⟨rfl, rfl⟩ := e1
    have h3 := h2 k x hx
    rwa [Nat.zero_add] at h3
theorem RowsOk.set {m : Nat} {R : List (List Value)} (h : RowsOk m R) {j : Nat} {r : List Value} (hr : r.length = m) (ho : ∀ u ∈ r, u.oneCell' = true) : RowsOk m (R.set j r) := by
  refine ⟨fun x hx => ?_, fun x hx => ?_⟩
  · rcases List.mem_or_eq_of_mem_set hx with q | q
    · exact h.len x q
    · exact q ▸ hr
  · rcases List.mem_or_eq_of_mem_set hx with q | q
    · exact h.one x q
    · exact q ▸ ho
/-- a list of records of the call's own -/
structure OwnR (e : TypeId) (m : Nat) (base : Nat) (w : World) (R : List (List Value)) (v : Value) (w' : World) : Prop where
  old : Below base w w'
  own : w'.ownsRow base e m v R.length R.flatten
  size : base ≤ w'.heap.size
  ok : RowsOk m R
theorem OwnR.grow {e : TypeId} {m base : Nat} {w w1 w2 : World} {R : List (List Value)} {v : Value} (h : OwnR e m base w R v w1) (hb : Below w1.heap.size w1 w2) : OwnR e m base w R v w2 := by
  refine ⟨h.old.trans (hb.mono h.size), ⟨h.own.1, ?_⟩, Nat.le_trans h.size hb.size, h.ok⟩
  rcases h.own.2 with hn | ⟨g, cap, cur, hv, hg, hr, rest⟩
  · exact .inl hn
  · exact .inr ⟨g, cap, cur, hv, hg, by rw [hb.block g (Array.getElem?_eq_some_iff.1 hr).1]; exact hr, rest⟩
theorem OwnR.nil (e : TypeId) (m : Nat) (w : World) : OwnR e m w.heap.size w [] (.slice none 0 0) w := ⟨Below.refl _ _, World.ownsRow_nil _ _ _ _, Nat.le_refl _, ⟨by simp, by simp⟩⟩
section
variable {H : Type} {enc : TypeId × Value → H}
end
end Go.Proofs.Ytnmadknpkhaolaa

namespace Go.Proofs.Ytnmadknpkhaolaa
open Go.ChangeShapes Go.WideShapes Go.ChangeAt Go.RowKit Ieee.Own

set_option maxRecDepth 100000 in
theorem infoF : (Try.prog.info? 30).map (fun i => (i.zero, i.size, i.bytes)) = some (some (.float .f64 0), 1, 8) := by kernel_rfl
/-- block g is a row of cells of numbers -/
def RowAt (w : World) (g : Nat) (cur : Array Value) : Prop := w.heap[g]? = some (.cells cur 30 (0, 0))
theorem RowAt.cell {w : World} {g : Nat} {cur : Array Value} (h : RowAt w g cur) (j : Nat) : w.cell? ⟨g, j, none⟩ = cur[j]? := cell_of_row w g j cur _ _ h
theorem RowAt.lt {w : World} {g : Nat} {cur : Array Value} (h : RowAt w g cur) : g < w.heap.size := (Array.getElem?_eq_some_iff.1 h).1
theorem RowAt.kept {w w' : World} {g : Nat} {cur : Array Value} {row : Option Nat} (h : RowAt w g cur) (hg : w.grownBy w' row) (hne : row ≠ some g) : RowAt w' g cur := by
  unfold RowAt at h ⊢
  rw [hg.block g (Array.getElem?_eq_some_iff.1 h).1 (fun e => hne e.symm)]; exact h
theorem RowAt.alloc {w : World} {g : Nat} {cur : Array Value} (h : RowAt w g cur) (o : Obj) : RowAt (w.alloc o) g cur := h.kept (World.grownBy_alloc w o none) (by simp)
/-- the numbers of a list stand in a row's cells from place i on -/
def InRow (cur : Array Value) (us : List Nat) (i : Nat) : Prop := ∀ j, i ≤ j → j < us.length → cur[j]? = some (.float .f64 (us.getD j 0))
theorem InRow.later {cur : Array Value} {us : List Nat} {i j : Nat} (h : InRow cur us i) (hij : i ≤ j) : InRow cur us j := fun k hk hl => h k (by omega) hl
theorem InRow.set {cur : Array Value} {us : List Nat} {i m : Nat} {v : Value} (h : InRow cur us i) (hm : m < i) : InRow (cur.setIfInBounds m v) us i := by
  intro j hj hl
  rw [Array.getElem?_setIfInBounds_ne (by omega)]; exact h j hj hl
theorem InRow.take {cur : Array Value} {us : List Nat} (h : InRow cur us 0) : cur.toList.take us.length = us.map (Value.float .f64) := by
  apply List.ext_getElem?
  intro j
  by_cases hj : j < us.length
  · rw [List.getElem?_take, if_pos hj, Array.getElem?_toList, h j (by omega) hj]
    simp [List.getD, hj]
  · rw [List.getElem?_take, if_neg hj]
    simp [Nat.not_lt.1 hj]
theorem InRow.of_take {cur : Array Value} {us : List Nat} (h : cur.toList.take us.length = us.map (Value.float .f64)) : InRow cur us 0 := by
  intro j _ hj
  have := congrArg (·[j]?) h
  simp only [List.getElem?_take, if_pos hj, Array.getElem?_toList] at this
  rw [this]; simp [List.getD, hj]
/-- a slice that holds a list of words -/
def At (w : World) (ao : Option Addr) (L : List Nat) : Prop := ∀ j, j < L.length → ∃ b o, ao = some ⟨b, o, none⟩ ∧ w.cell? ⟨b, o + j, none⟩ = some (.float .f64 (L.getD j 0))
def Words (L : List Nat) : Prop := ∀ x ∈ L, x < 18446744073709551616
theorem Words.at {L : List Nat} (h : Words L) {j : Nat} (hj : j < L.length) : L.getD j 0 < 18446744073709551616 := h _ (by simp [List.getD, hj])
theorem At.later {w w' : World} {ao : Option Addr} {L : List Nat} {B : Nat} (h : At w ao L) (hb : Below B w w') (hB : ∀ b o, ao = some ⟨b, o, none⟩ → 0 < L.length → b < B) : At w' ao L := by
  intro j hj
  obtain ⟨b, o, e, hc⟩ := h j hj
  exact ⟨b, o, e, (hb.cell (hB b o e (by omega))).trans hc⟩
theorem At.lt {w : World} {ao : Option Addr} {L : List Nat} (h : At w ao L) : ∀ b o, ao = some ⟨b, o, none⟩ → 0 < L.length → b < w.heap.size := by
  rintro b o rfl hl
  obtain ⟨b', o', e, hc⟩ := h 0 hl
  simp at e
  obtain ⟨rfl, rfl⟩ := e
  exact World.block_lt_of_cell? w _ hc
theorem Drawn.trans {w w' w'' : World} (h : Drawn w w') (k : Drawn w' w'') : Drawn w w'' := by
  obtain ⟨m, rfl⟩ := k; exact h.more m
theorem open_flts {H : Type} {enc : TypeId × Value → H} {P : Program} {W : World} {t e : TypeId} {v : Value} {d : DataW H} {ps : List MemPlace}
    (ht : P.underlying t = some (.slice e)) (he : P.underlying e = some (.float .f64)) (hc : P.cellsOf e = 1) (hval : ∃ ao n c, v = .slice ao n c) (h : DataW.Trod enc P W 0 (fun _ => true) true t v d ps) :
    ∃ ao cap L, v = .slice ao (List.length L) cap ∧ L.length ≤ cap ∧ Words L ∧ At W ao L ∧ ((ao = none ∧ cap = 0) ∨ ((∃ a, ao = some a) ∧ ∃ es sp : List (DataW H), d = .slice es sp ∧ es.length + sp.length = cap)) := by
  obtain ⟨a0, n0, c0, rfl⟩ := hval
  obtain ⟨fuel, hf⟩ := h
  rcases Deep.open_slice1 ht hc hf with ⟨h1, h2⟩ | ⟨a, len, cap, m, n, V, D, Pl, h1, hb, hl, hm, hmm, hx, hcell⟩
  · simp [Value.cells] at h1
    obtain ⟨rfl, rfl, rfl⟩ := h1
    exact ⟨none, 0, [], rfl, Nat.le_refl _, by intro x hx; simp at hx, by intro j hj; simp at hj, Or.inl ⟨rfl, rfl⟩⟩
  · simp [Value.cells] at h1
    obtain ⟨rfl, rfl, rfl⟩ := h1
    simp only [if_true] at hmm
    subst hmm
    obtain ⟨F, hF⟩ := Deep.choose_lt (n := m) (p := fun i b => V i = .float .f64 b ∧ b < 18446744073709551616) (fun i hi => float_cell he (hcell i hi).2)
    refine ⟨some a, m, (List.range n0).map F, by simp, by simpa using hl, ?_, ?_, Or.inr ⟨⟨a, rfl⟩, (List.range n0).map D, (List.range (m - n0)).map fun j => D (n0 + j), by simpa using (congrArg Prod.fst hx), by simp; omega⟩⟩
    · intro x hx
      obtain ⟨i, hi, rfl⟩ := List.mem_map.1 hx
      exact (hF i (by simp at hi; omega)).2
    · intro j hj
      have hj' : j < n0 := by simpa using hj
      have hc := (hcell j (by omega)).1
      obtain ⟨b, o, s⟩ := a
      have hsp : s = none := by simpa [Addr.add] using World.cell?_spot (hcell 0 (by omega)).1
      subst hsp
      refine ⟨b, o, rfl, ?_⟩
      rw [← add_plain, hc, (hF j (by omega)).1]
      simp [List.getD, hj']
theorem flts_one (L : List Nat) : ∀ u ∈ L.map (Value.float .f64), u.oneCell' = true := by
  intro u hu
  obtain ⟨x, _, rfl⟩ := List.mem_map.1 hu
  rfl
set_option maxRecDepth 100000 in
/-- A LIST APPENDED TO WHAT THE CALL OWNS -/
theorem wpList_dup {w : World} {ops : Array Oper} {rest : List Oper} {o : Oper} {a : Act} {Q : Exit → Act → World → Prop} (hgd : o.guard = none) (s x : Operand) (t : TypeId)
    (ho : o.op = .call { callee := .builtin .append, args := #[s, x], argTypes := #[t, t] }) (ht : Try.prog.underlying t = some (.slice 30)) (base : Nat) (v : Value) (us : List Nat) (hs : a.eval s = v)
    (hown : w.ownsRow base 30 1 v us.length (us.map (Value.float .f64))) (ao : Option Addr) (n cap : Nat) (L : List Nat) (hx : a.eval x = .slice ao n cap) (hn : n = L.length) (hnone : ao = none → cap = 0) (ha : At w ao L)
    (hby : (us.length + L.length) * 8 ≤ 140737488355328) (hbase : base ≤ w.heap.size)
    (h : ∀ v' w', w'.ownsRow base 30 1 v' (us ++ L).length ((us ++ L).map (Value.float .f64)) → w.grownBy w' v.ownBlock → wpList Try.prog ops Q rest (a.put o.dst v') w') :
    wpList Try.prog ops Q (o :: rest) a w := by
  obtain ⟨i0, hi0, hz0, hz1, hz2⟩ := info_parts infoF
  subst hn
  cases ao with
  | none =>
    have hL : L = [] := by
      refine List.eq_nil_of_length_eq_zero (Nat.eq_zero_of_not_pos fun hp => ?_)
      obtain ⟨b, o, e, _⟩ := ha 0 hp
      simp at e
    subst hL
    rw [hnone rfl] at hx
    refine wpList_append_own_none hgd s x t ho base 30 i0 1 ht hi0 v us.length _ hs hown hx ?_
    have := h v w (by simpa using hown) (World.grownBy.refl _ _)
    exact this
  | some ad =>
    refine wpList_append_own w hgd s x t ho base 30 i0 (.float .f64 0) 1 8 ht hi0 hz0 hz1 hz2 rfl (by decide) v us.length _ hs hown ad L.length cap (L.map (Value.float .f64)) hx (by simp) ?_ (flts_one L) (by unfold maxLen; omega) hby hbase ?_
    · intro j u hj
      obtain ⟨hj1, hj2⟩ := List.getElem?_eq_some_iff.1 hj
      have hj3 : j < L.length := by simpa using hj1
      obtain ⟨b, o', e, hc⟩ := ha j hj3
      simp only [Option.some.injEq] at e
      subst e
      rw [add_plain, hc, ← hj2]
      simp [List.getD, hj3]
    · intro v' w' h1 h2 _
      exact h v' w' (by simpa using h1) h2
/-- what the call owns, as a list that lies there -/
theorem owns_at {w : World} {base : Nat} {v : Value} {us : List Nat} (h : w.ownsRow base 30 1 v us.length (us.map (Value.float .f64))) :
    ∃ ao cap, v = .slice ao us.length cap ∧ us.length ≤ cap ∧ cap ≤ maxLen ∧ At w ao us ∧ (ao = none → cap = 0) ∧ ∀ b o, ao = some ⟨b, o, none⟩ → base ≤ b ∧ b < w.heap.size := by
  rcases h.2 with ⟨rfl, h0⟩ | ⟨g, cap, cur, rfl, hg, hr, hn, hcm, hsz, ht⟩
  · have hu : us = [] := List.eq_nil_of_length_eq_zero h0
    subst hu
    exact ⟨none, 0, rfl, Nat.le_refl _, by decide, by intro j hj; simp at hj, fun _ => rfl, by intro b o e; simp at e⟩
  · rw [Nat.mul_one] at hsz ht
    have hIn := InRow.of_take ht
    refine ⟨_, cap, rfl, hn, hcm, fun j hj => ⟨g, 0, rfl, ?_⟩, by intro e; simp at e, ?_⟩
    · rw [Nat.zero_add]; exact (RowAt.cell hr j).trans (hIn j (by omega) hj)
    · intro b o e
      simp only [Option.some.injEq, Addr.mk.injEq, and_true] at e
      obtain ⟨rfl, rfl⟩ := e
      exact ⟨hg, RowAt.lt hr⟩
/-- an empty row of the call's own -/
theorem owns_empty (w : World) : (w.alloc (.cells #[] 30)).ownsRow w.heap.size 30 1 (.slice (some ⟨w.heap.size, 0, none⟩) 0 0) ([] : List Nat).length (([] : List Nat).map (Value.float .f64)) :=
  World.ownsRow_lit w #[] 0 (Nat.le_refl _) (by decide) rfl
theorem At.alloc {w : World} {ao : Option Addr} {L : List Nat} (h : At w ao L) (o : Obj) : At (w.alloc o) ao L := by
  intro j hj
  obtain ⟨b, o', e, hc⟩ := h j hj
  exact ⟨b, o', e, by rw [World.cell?_alloc_past _ _ _ (World.block_lt_of_cell? w _ hc)]; exact hc⟩
theorem At.left {w : World} {ao : Option Addr} {L M : List Nat} (h : At w ao (L ++ M)) : At w ao L := by
  intro j hj
  obtain ⟨b, o, e, hc⟩ := h j (by simp; omega)
  exact ⟨b, o, e, by rw [hc]; simp [List.getD, List.getElem?_append_left hj]⟩
/-- what a copy is: the list lies there, in blocks of the call's own; below them nothing has turned -/
structure Copied (w w' : World) (ao : Option Addr) (n cap : Nat) (L : List Nat) : Prop where
  room : n ≤ cap
  bare : ao = none → cap = 0
  at_ : At w' ao L
  base : ∀ b o, ao = some ⟨b, o, none⟩ → w.heap.size ≤ b ∧ b < w'.heap.size
  old : Below w.heap.size w w'
  own : w'.ownsRow w.heap.size 30 1 (.slice ao n cap) L.length (L.map (Value.float .f64))
set_option maxRecDepth 100000 in
theorem wpList_copy {w : World} {ops : Array Oper} {rest : List Oper} {o : Oper} {a : Act} {Q : Exit → Act → World → Prop} (hgd : o.guard = none) (s x : Operand)
    (ho : o.op = .call { callee := .builtin .append, args := #[s, x], argTypes := #[22, 22] }) (hs : a.eval s = .slice (some ⟨w.heap.size, 0, none⟩) 0 0)
    (ao : Option Addr) (n cap : Nat) (L : List Nat) (hx : a.eval x = .slice ao n cap) (hn : n = L.length) (hnone : ao = none → cap = 0) (ha : At w ao L) (hr : n * 8 ≤ 140737488351232)
    (h : ∀ ao' cap' w', Copied w w' ao' n cap' L → wpList Try.prog ops Q rest (a.put o.dst (.slice ao' n cap')) w') :
    wpList Try.prog ops Q (o :: rest) a (w.alloc (.cells #[] 30)) := by
  have B1 := (Below.refl w.heap.size w).alloc (Nat.le_refl _) (.cells #[] 30)
  refine wpList_dup hgd s x _ ho Try.underlying22 w.heap.size _ [] hs (owns_empty w) ao n cap L hx hn hnone (ha.alloc _) (by simp; omega) (by simp) ?_
  intro v' w' ho' hg'
  rw [List.nil_append] at ho'
  have B2 : Below w.heap.size w w' := B1.grown hg' (by simp) (by intro k hk; simp [Value.ownBlock] at hk; omega)
  obtain ⟨ao', cap', rfl, h1, h2, h3, h4, h5⟩ := owns_at ho'
  rw [← hn] at h1 ho' ⊢
  exact h ao' cap' w' ⟨h1, h4, h3, h5, B2, by rw [hn] at ho' ⊢; exact ho'⟩
end Go.Proofs.Ytnmadknpkhaolaa

namespace Go.Proofs.Ytnmadknpkhaolaa
open Ieee.Own Pol

def sg (s : Bool) (z : Int) : Int := if s then -z else z
/-- every second one negated, the first as s says -/
inductive Alt : Bool → List Nat → List Nat → Prop
  | nil (s : Bool) : Alt s [] []
  | cons {s : Bool} {a b : Nat} {al bl : List Nat} (h : V b = sg s (V a)) (t : Alt (!s) al bl) : Alt s (a :: al) (b :: bl)
theorem Alt.len {s : Bool} {al bl : List Nat} (h : Alt s al bl) : bl.length = al.length := by
  induction h with
  | nil => rfl
  | cons _ _ ih => simp [ih]
/-! ### times a power of two -/
/-- 0, or not small: a whole number of 2^p units -/
def Nsm (L : Nat) (z : Int) : Prop := z = 0 ∨ 2 ^ L ≤ z.natAbs
theorem Nsm.dvd {L : Nat} {b : Nat} (h : Nsm (L + 53) (V b)) : (2 : Int) ^ L ∣ V b := by
  rcases h with h | h
  · rw [h]; exact Int.dvd_zero _
  · exact dvd_big h
theorem Nsm.le {L K : Nat} {z : Int} (h : Nsm L z) (hk : K ≤ L) : Nsm K z := h.imp id fun h => Nat.le_trans (two_le hk) h
theorem Nsm.RN {L : Nat} {z : Int} (h : Nsm L z) : Nsm L (RN z) := by
  rcases h with h | h
  · left; rw [h]; rfl
  · right
    rw [RN_abs]
    have := rn_mono h
    rwa [show rn (2 ^ L) = 2 ^ L by have := rn_exact 1 L (by omega); simpa using this] at this
end Go.Proofs.Ytnmadknpkhaolaa

namespace Go.Proofs.Ytnmadknpkhaolaa
open Ieee.Own Pol

/-- a coefficient: 0, or not small -/
structure Fw (c : Nat) : Prop extends Cw c where
  big : Nsm (820 + 53 + 1) (V c)
end Go.Proofs.Ytnmadknpkhaolaa

namespace Go.Proofs.Ytnmadknpkhaolaa
open Go.ChangeShapes Go.WideShapes Go.ChangeAt Go.RowKit Ieee.Own

/-- a number as a span -/
def ptS (c : Nat) : Pr := (posW c, posW c)
def SubR (p q u : Pr) : Prop := OpIs (errSS p.1 p.2 q.1 q.2) (fun v => V p.1 - V q.2 - v) (fun v => V p.2 - V q.1 - v) (.returned (spanE u.1 u.2 0))
theorem SubR.uniq {p q u v : Pr} (h : SubR p q u) (k : SubR p q v) : u = v := pair_of (h.all.uniq k.all)
/-- HornerSpan -/
def HsR (X : Pr) : List Nat → Pr → Prop
  | [], P => P = (0, 0)
  | c :: cs, P => ∃ P' M, HsR X cs P' ∧ MulR X P' M ∧ AddR (ptS c) M P
theorem HsR.uniq {X : Pr} : ∀ {cs : List Nat} {P R : Pr}, HsR X cs P → HsR X cs R → P = R
  | [], P, R, h, k => by
    have h : P = (0, 0) := h
    have k : R = (0, 0) := k
    rw [h, k]
  | _ :: _, _, _, ⟨P', M, h1, h2, h3⟩, ⟨R', N, k1, k2, k3⟩ => by
    obtain rfl := HsR.uniq h1 k1
    obtain rfl := h2.uniq k2
    exact h3.uniq k3
/-- ChebSpan's two spans -/
def CsR (W : Pr) : List Nat → Pr → Pr → Prop
  | [], B, D => B = (0, 0) ∧ D = (0, 0)
  | c :: cs, B, D => ∃ D' M N, CsR W cs D D' ∧ MulR W D M ∧ SubR M D' N ∧ AddR N (ptS c) B
theorem CsR.uniq {W : Pr} : ∀ {cs : List Nat} {B D B' D' : Pr}, CsR W cs B D → CsR W cs B' D' → B = B' ∧ D = D'
  | [], _, _, _, _, ⟨h1, h2⟩, ⟨k1, k2⟩ => ⟨by rw [h1, k1], by rw [h2, k2]⟩
  | _ :: _, _, _, _, _, ⟨D2, M, N, h1, h2, h3, h4⟩, ⟨E2, K, L, k1, k2, k3, k4⟩ => by
    obtain ⟨rfl, rfl⟩ := CsR.uniq h1 k1
    obtain rfl := h2.uniq k2
    obtain rfl := h3.uniq k3
    exact ⟨h4.uniq k4, rfl⟩
/-- ChebSpan -/
def ChR (X : Pr) : List Nat → Pr → Prop
  | [], P => P = (0, 0)
  | c :: cs, P => ∃ W B D M N, AddR X X W ∧ CsR W cs B D ∧ MulR X B M ∧ SubR M D N ∧ AddR N (ptS c) P
theorem ChR.uniq {X : Pr} {cs : List Nat} {P R : Pr} (h : ChR X cs P) (k : ChR X cs R) : P = R := by
  cases cs with
  | nil =>
    have h : P = (0, 0) := h
    have k : R = (0, 0) := k
    rw [h, k]
  | cons c cs =>
    obtain ⟨W, B, D, M, N, h0, h1, h2, h3, h4⟩ := h
    obtain ⟨W', B', D', M', N', k0, k1, k2, k3, k4⟩ := k
    obtain rfl := h0.uniq k0
    obtain ⟨rfl, rfl⟩ := h1.uniq k1
    obtain rfl := h2.uniq k2
    obtain rfl := h3.uniq k3
    exact h4.uniq k4

/-! ### nothing grows too great -/
def hw (a b : Nat) : Nat := (1053 + 10 * b) * 4503599627370496 + a * 281474976710656
/-- a span within T -/
structure Wn (p : Pr) (T : Int) : Prop where
  l1 : p.1 < 18446744073709551616
  l2 : p.2 < 18446744073709551616
  ok : errS p.1 p.2 = 0
  lo : -T ≤ V p.1
  hi : V p.2 ≤ T
theorem Wn.le {p : Pr} {T S : Int} (h : Wn p T) (hs : T ≤ S) : Wn p S := ⟨h.l1, h.l2, h.ok, by have := h.lo; omega, by have := h.hi; omega⟩
end Go.Proofs.Ytnmadknpkhaolaa

namespace Go.Proofs.Ytnmadknpkhaolaa
open Go.ChangeShapes Go.WideShapes Go.ChangeAt Go.RowKit Ieee.Own Pol

/-- a coefficient, as the checks let it through -/
structure Fc (c : Nat) : Prop where
  lt : c < 18446744073709551616
  fit : fitB c = true
  bd : (V c).natAbs ≤ 2 ^ 1114
/-! ### ChebSpan -/
def SubSp (A B C : Sp) : Prop := C.1 ≤ A.1 - B.2 ∧ A.2 - B.1 ≤ C.2
theorem _root_.Go.Proofs.Ytnmadknpkhaolaa.In.sub {x y : Rat} {A B C : Sp} (hx : In x A) (hy : In y B) (h : SubSp A B C) : In (x - y) C := by
  obtain ⟨h1, h2⟩ := hx
  obtain ⟨h3, h4⟩ := hy
  obtain ⟨h5, h6⟩ := h
  exact ⟨by grind, by grind⟩
end Go.Proofs.Ytnmadknpkhaolaa
