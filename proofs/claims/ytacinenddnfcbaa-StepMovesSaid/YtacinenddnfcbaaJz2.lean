/- Proved here: what the texts Reg, Accm, Put, Acc, Add, Mul, AccP, AccRm, AccS, Flt, Nxs prove, one behind the other. -/
import Derived.Deep.RegionHeld3
import Derived.Test.YtacinenddnfcbaaRows
import Derived.WalkKit
import Derived.WalkLawsBesides
import Derived.ProofKit
import Derived.OpenShut
import Derived.Laws.Externs
import Derived.Lib.Hide
import Derived.IntWalk
import Derived.Laws.BitsAllLaws
import Derived.Shelf.Spec.BitsCarry
import Derived.Deep.RegionLaw
import Derived.Test.YtacinenddnfcbaaJz0
import Derived.Shelf.Bits.Mul64
import Derived.WalkSmall

namespace Go.Proofs.Ytacinenddnfcbaa
open Go

/-- the frame behind those that have come up: what each has left, in the order of the text -/
def puts : List (Option Tmp) → List (Option Value) → Act → Act
  | d :: ds, some v :: L, a => puts ds L (a.put d v)
  | _ :: ds, none :: L, a => puts ds L a
  | _, _, a => a
def apartL : List (Option Tmp) → Bool
  | [] => true
  | none :: r => apartL r
  | some x :: r => !r.contains (some x) && apartL r
theorem put_size (a : Act) (d : Option Tmp) (v : Value) : (a.put d v).tmps.size = a.tmps.size := by cases d <;> simp [Act.put]
theorem puts_put {v : Value} {d : Option Tmp} : ∀ (ds : List (Option Tmp)) (L : List (Option Value)) (a : Act), (∀ x, d = some x → some x ∉ ds) → (puts ds L a).put d v = puts ds L (a.put d v)
  | [], _, _, _ => by simp [puts]
  | _ :: _, [], _, _ => by simp [puts]
  | e :: ds, none :: L, a, h => by simp only [puts]; exact puts_put ds L a fun x hx hm => h x hx (List.mem_cons_of_mem _ hm)
  | e :: ds, some u :: L, a, h => by
    simp only [puts]
    rw [puts_put ds L _ fun x hx hm => h x hx (List.mem_cons_of_mem _ hm)]
    rw [Act.put_comm a u v (x := e) (y := d)]
    intro x hx hd
    exact h x hd (by rw [hx]; exact List.mem_cons_self ..)
theorem puts_set {v : Value} : ∀ (i : Nat) (ds : List (Option Tmp)) (L : List (Option Value)) (a : Act) {d : Option Tmp}, apartL ds = true → ds[i]? = some d → L[i]? = some none → (puts ds L a).put d v = puts ds (L.set i (some v)) a
  | 0, [], _, _, _, _, h, _ => by simp at h
  | 0, _ :: _, [], _, _, _, _, h => by simp at h
  | 0, e :: ds, l :: L, a, d, hap, h, hl => by
    simp only [List.getElem?_cons_zero, Option.some.injEq] at h hl
    subst h hl
    simp only [puts, List.set_cons_zero]
    refine puts_put ds L a fun x hx hm => ?_
    subst hx
    simp only [apartL, Bool.and_eq_true, Bool.not_eq_true'] at hap
    have := hap.1
    rw [List.contains_eq_mem, decide_eq_false_iff_not] at this
    exact this hm
  | i + 1, [], _, _, _, _, h, _ => by simp at h
  | i + 1, _ :: _, [], _, _, _, _, h => by simp at h
  | i + 1, e :: ds, l :: L, a, d, hap, h, hl => by
    simp only [List.getElem?_cons_succ] at h hl
    have hap' : apartL ds = true := by
      cases e with
      | none => simpa [apartL] using hap
      | some x => simp only [apartL, Bool.and_eq_true] at hap; exact hap.2
    cases l with
    | none => simp only [puts, List.set_cons_succ]; exact puts_set i ds L a hap' h hl
    | some u => simp only [puts, List.set_cons_succ]; exact puts_set i ds L _ hap' h hl
/-- an old slot -/
theorem puts_old {t : Tmp} : ∀ (ds : List (Option Tmp)) (L : List (Option Value)) (a : Act), some t ∉ ds → (puts ds L a).eval (.tmp t) = a.eval (.tmp t)
  | [], _, _, _ => by simp [puts]
  | _ :: _, [], _, _ => by simp [puts]
  | _ :: ds, none :: L, a, h => by simp only [puts]; exact puts_old ds L a fun hm => h (List.mem_cons_of_mem _ hm)
  | e :: ds, some v :: L, a, h => by
    simp only [puts]
    rw [puts_old ds L _ fun hm => h (List.mem_cons_of_mem _ hm)]
    exact Act.eval_put fun d hd hx => by
      rw [Operand.tmp.injEq] at hx
      subst hx hd
      exact h (List.mem_cons_self ..)
theorem put_get {a : Act} {t : Tmp} {v : Value} (h : t < a.tmps.size) : (a.put (some t) v).eval (.tmp t) = v := by
  simp [Act.put, Act.eval, h]
/-- what has come up lies in its slot -/
theorem puts_get {t : Tmp} {v : Value} : ∀ (i : Nat) (ds : List (Option Tmp)) (L : List (Option Value)) (a : Act), apartL ds = true → ds[i]? = some (some t) → L[i]? = some (some v) → t < a.tmps.size → (puts ds L a).eval (.tmp t) = v
  | 0, [], _, _, _, h, _, _ => by simp at h
  | 0, _ :: _, [], _, _, _, h, _ => by simp at h
  | 0, e :: ds, l :: L, a, hap, h, hl, hs => by
    simp only [List.getElem?_cons_zero, Option.some.injEq] at h hl
    subst h hl
    simp only [puts]
    simp only [apartL, Bool.and_eq_true, Bool.not_eq_true'] at hap
    have := hap.1
    rw [List.contains_eq_mem, decide_eq_false_iff_not] at this
    rw [puts_old ds L _ this, put_get hs]
  | i + 1, [], _, _, _, h, _, _ => by simp at h
  | i + 1, _ :: _, [], _, _, _, h, _ => by simp at h
  | i + 1, e :: ds, l :: L, a, hap, h, hl, hs => by
    simp only [List.getElem?_cons_succ] at h hl
    have hap' : apartL ds = true := by
      cases e with
      | none => simpa [apartL] using hap
      | some x => simp only [apartL, Bool.and_eq_true] at hap; exact hap.2
    cases l with
    | none => simp only [puts]; exact puts_get i ds L a hap' h hl hs
    | some u => simp only [puts]; exact puts_get i ds L _ hap' h hl (by rw [put_size]; exact hs)

/-! ### the walk over all orders -/
def lst (L : List (Option Value)) : Array Bool := (L.map Option.isSome).toArray
theorem lst_set {L : List (Option Value)} {i : Nat} {v : Value} : (lst L).setIfInBounds i true = lst (L.set i (some v)) := by
  unfold lst
  simp [List.setIfInBounds_toArray, List.map_set]
theorem lst_true {L : List (Option Value)} {i : Nat} (h : (lst L).getD i false = true) : ∃ v, L[i]? = some (some v) := by
  unfold lst at h
  simp only [Array.getD_eq_getD_getElem?, List.getElem?_toArray, List.getElem?_map] at h
  cases hl : L[i]? with
  | none => rw [hl] at h; simp at h
  | some o => cases o with
    | none => rw [hl] at h; simp at h
    | some v => exact ⟨v, rfl⟩
theorem lst_false {L : List (Option Value)} {i : Nat} (h : (lst L).getD i true = false) : L[i]? = some none := by
  unfold lst at h
  simp only [Array.getD_eq_getD_getElem?, List.getElem?_toArray, List.getElem?_map] at h
  cases hl : L[i]? with
  | none => rw [hl] at h; simp at h
  | some o => cases o with
    | none => rfl
    | some v => rw [hl] at h; simp at h
/-- how many have not come up -/
def open_ : List (Option Value) → Nat
  | [] => 0
  | none :: L => open_ L + 1
  | some _ :: L => open_ L
theorem open_set {v : Value} : ∀ (i : Nat) (L : List (Option Value)), L[i]? = some none → open_ (L.set i (some v)) + 1 = open_ L
  | 0, [], h => by simp at h
  | 0, l :: L, h => by
    simp only [List.getElem?_cons_zero, Option.some.injEq] at h
    subst h; rfl
  | i + 1, [], h => by simp at h
  | i + 1, l :: L, h => by
    simp only [List.getElem?_cons_succ] at h
    have := open_set (v := v) i L h
    cases l with
    | none => simp only [List.set_cons_succ, open_]; omega
    | some u => simp only [List.set_cons_succ, open_]; omega
theorem open_zero : ∀ (L : List (Option Value)), open_ L = 0 → ∀ i, i < L.length → ∃ v, L[i]? = some (some v)
  | [], _, i, h => by simp at h
  | none :: L, h0, _, _ => by simp [open_] at h0
  | some v :: L, h0, 0, _ => ⟨v, rfl⟩
  | some v :: L, h0, i + 1, h => by
    simp only [List.getElem?_cons_succ]
    exact open_zero L h0 i (by simpa using h)
def backward (ops : Array Oper) : Bool := (List.range ops.size).all fun i => ((ops[i]?).map (·.after.all fun e => !Region.binds .any e || decide (e.on < i))).getD true
def plainL (ops : Array Oper) : Bool := (List.range ops.size).all fun i => ((ops[i]?).map (·.guard.isNone)).getD true

section
variable {P : Program} {ops : Array Oper} {Q : Exit → Act → World → Prop}
theorem ready_all (hb : backward ops = true) {L : List (Option Value)} (hL : L.length = ops.size) (hr : Region.ready .any ops (lst L) = []) : ∀ n i, i < n → i < ops.size → ∃ v, L[i]? = some (some v) := by
  intro n
  induction n with
  | zero => intro i h; omega
  | succ n ih =>
    intro i hi hs
    by_cases hin : i < n
    · exact ih i hin hs
    · obtain rfl : i = n := by omega
      have hx : i ∉ Region.ready .any ops (lst L) := by rw [hr]; exact List.not_mem_nil
      cases hl : L[i]? with
      | none => rw [List.getElem?_eq_none_iff] at hl; omega
      | some o => cases o with
        | some v => exact ⟨v, rfl⟩
        | none =>
          refine absurd (mem_ready.2 ⟨?_, ops[i], Array.getElem?_eq_getElem hs, fun e he hbd => ?_⟩) hx
          · unfold lst; simp [Array.getD_eq_getD_getElem?, hl]
          · have hlt : e.on < i := by
              have h1 := (List.all_eq_true.1 hb) i (List.mem_range.2 hs)
              rw [Array.getElem?_eq_getElem hs] at h1
              simp only [Option.map_some, Option.getD_some, Array.all_eq_true] at h1
              obtain ⟨k, hk, rfl⟩ := Array.mem_iff_getElem.1 he
              have h2 := h1 k hk
              simpa [hbd] using h2
            obtain ⟨v, hv⟩ := ih e.on hlt (by omega)
            unfold lst; simp [Array.getD_eq_getD_getElem?, hv]
theorem wpAny_inv (ds : List (Option Tmp)) (hds : ops.toList.map (·.dst) = ds) (hap : apartL ds = true) (hb : backward ops = true) (hg : plainL ops = true) (a0 : Act) (W : List (Option Value) → World → Prop)
    (step : ∀ (L : List (Option Value)) (w : World) (i : Nat) (o : Oper), L.length = ops.size → ops[i]? = some o → L[i]? = some none → (∀ e ∈ o.after, Region.binds .any e = true → ∃ v, L[e.on]? = some (some v)) → W L w →
      o.wp P (puts ds L a0) w (fun a' w' => ∃ v, a' = (puts ds L a0).put o.dst v ∧ W (L.set i (some v)) w') Q)
    (fin : ∀ L w, L.length = ops.size → (∀ i, i < ops.size → ∃ v, L[i]? = some (some v)) → W L w → Q .normal (puts ds L a0) w) :
    ∀ fuel L w, L.length = ops.size → open_ L ≤ fuel → W L w → wpAny P .any ops Q fuel (lst L) (puts ds L a0) w := by
  intro fuel
  induction fuel with
  | zero =>
    intro L w hL ho hW
    have hall := open_zero L (by omega)
    refine ⟨?_, fin L w hL (fun i hi => hall i (by omega)) hW⟩
    refine List.eq_nil_iff_forall_not_mem.2 fun i hi => ?_
    obtain ⟨h1, oi, h2, -⟩ := mem_ready.1 hi
    have h3 := lst_false h1
    obtain ⟨v, hv⟩ := hall i (by have := (Array.getElem?_eq_some_iff.1 h2).1; omega)
    rw [hv] at h3; simp at h3
  | succ fuel ih =>
    intro L w hL ho hW
    refine ⟨fun hr => fin L w hL (fun i hi => ready_all hb hL hr (i + 1) i (by omega) hi) hW, fun i hi => ?_⟩
    obtain ⟨h1, o, h2, h3⟩ := mem_ready.1 hi
    have h4 := lst_false h1
    have his := (Array.getElem?_eq_some_iff.1 h2).1
    have hgi : o.guard = none := by
      have := (List.all_eq_true.1 hg) i (List.mem_range.2 his)
      rw [h2] at this
      simpa using this
    have hdi : ds[i]? = some o.dst := by rw [← hds, List.getElem?_map]; simp [h2]
    have s := step L w i o hL h2 h4 (fun e he hbd => lst_true (h3 e he hbd)) hW
    unfold wpOp
    rw [h2]
    simp only [Region.wanted, hgi, if_true]
    refine Or.inl (Oper.wp_mono (fun a' w' hh => ?_) s)
    obtain ⟨v, rfl, hW'⟩ := hh
    rw [puts_set i ds L a0 hap hdi h4, lst_set (v := v)]
    exact ih _ w' (by simpa using hL) (by have := open_set (v := v) i L h4; omega) hW'
def nones (n : Nat) : List (Option Value) := List.replicate n none
theorem puts_nones (n : Nat) : ∀ (ds : List (Option Tmp)) (a : Act), puts ds (nones n) a = a := by
  unfold nones
  induction n with
  | zero => intro ds a; cases ds <;> rfl
  | succ n ih => intro ds a; cases ds with
    | nil => rfl
    | cons d ds => simp only [List.replicate_succ, puts]; exact ih ds a
theorem open_nones (n : Nat) : open_ (nones n) = n := by
  unfold nones
  induction n with
  | zero => rfl
  | succ n ih => simp only [List.replicate_succ, open_, ih]
theorem wp_region_inv {id : Nat} {a0 : Act} {w : World} (hm : P.follows .mixedOrders = true) (ds : List (Option Tmp)) (hds : ops.toList.map (·.dst) = ds) (hap : apartL ds = true) (hb : backward ops = true) (hg : plainL ops = true)
    (W : List (Option Value) → World → Prop) (start : W (nones ops.size) w.drew)
    (step : ∀ (L : List (Option Value)) (w : World) (i : Nat) (o : Oper), L.length = ops.size → ops[i]? = some o → L[i]? = some none → (∀ e ∈ o.after, Region.binds .any e = true → ∃ v, L[e.on]? = some (some v)) → W L w →
      o.wp P (puts ds L a0) w (fun a' w' => ∃ v, a' = (puts ds L a0).put o.dst v ∧ W (L.set i (some v)) w') Q)
    (fin : ∀ L w, L.length = ops.size → (∀ i, i < ops.size → ∃ v, L[i]? = some (some v)) → W L w → Q .normal (puts ds L a0) w) : (Code.region id ops true).wp P Q a0 w := by
  have h := wpAny_inv ds hds hap hb hg a0 W step fin ops.size (nones ops.size) w.drew (by simp [nones]) (by rw [open_nones]; exact Nat.le_refl _) start
  rw [puts_nones] at h
  have e : lst (nones ops.size) = Array.replicate ops.size false := by unfold lst nones; simp
  rw [e] at h
  exact wp_region_any hm h

/-! ### operations that may not be wanted; regions whose values hang on nothing that is drawn -/
/-- those that it waits for -/
def waits (o : Oper) (k : Nat) : Bool := o.after.toList.any fun e => e.on == k && Region.binds .any e
end
end Go.Proofs.Ytacinenddnfcbaa

namespace Ieee.Own

def stepC (neg : Bool) (x y c : Nat) : Nat := if neg then (if x < y + c then 1 else 0) else (x + y + c) / 18446744073709551616
def xw (q p0 p1 i : Nat) : Nat := if i = q then p0 else if i = q + 1 then p1 else 0
def cy (neg : Bool) (ws : Nat → Nat) (q p0 p1 : Nat) : Nat → Nat
  | 0 => 0
  | i + 1 => stepC neg (ws i) (xw q p0 p1 i) (cy neg ws q p0 p1 i)
/-- the number that words tell -/
def sumW (ws : Nat → Nat) : Nat → Nat
  | 0 => 0
  | n + 1 => sumW ws n + ws n * 2 ^ (64 * n)

end Ieee.Own

namespace Go.Proofs.Ytacinenddnfcbaa
open Go.ChangeShapes Go.WideShapes Go.ChangeAt Go.RowKit Ieee.Own

/-- below block b the world is as it was, no mark has turned, and of the blocks that were there b alone may have turned -/
def Still (b : Nat) (w w' : World) : Prop := Below b w w' ∧ (∀ a, w'.frozen? a = w.frozen? a) ∧ ∀ g, g < w.heap.size → g ≠ b → w'.heap[g]? = w.heap[g]?
theorem Still.refl (b : Nat) (w : World) : Still b w w := ⟨Below.refl b w, fun _ => rfl, fun _ _ _ => rfl⟩
theorem Still.trans {b : Nat} {u v w : World} (h : Still b u v) (k : Still b v w) : Still b u w := ⟨h.1.trans k.1, fun a => (k.2.1 a).trans (h.2.1 a), fun g hg hb => (k.2.2 g (Nat.lt_of_lt_of_le hg h.1.size) hb).trans (h.2.2 g hg hb)⟩
theorem Still.setCell {b : Nat} {u w : World} (h : Still b u w) {p : Addr} (hp : p.block = b) (v : Value) : Still b u (w.setCell p v) :=
  ⟨h.1.setCell (Nat.le_of_eq hp.symm) v, fun a => (World.frozen?_setCell _ _ _ _).trans (h.2.1 a), fun g hg hb => (Below.heap_setCell _ _ _ _ (by omega)).trans (h.2.2 g hg hb)⟩
theorem Still.drew {b : Nat} {u w : World} (h : Still b u w) : Still b u w.drew := ⟨h.1.drew, h.2.1, h.2.2⟩
theorem Still.alloc {b : Nat} {u w : World} (h : Still b u w) (hb : b ≤ w.heap.size) (c : Array Value) (t : TypeId) : Still b u (w.alloc (.cells c t)) :=
  ⟨h.1.alloc hb _, fun a => (frozen?_alloc_cells _ _ _ a).trans (h.2.1 a), fun g hg hb => (heap_alloc_old w _ (Nat.lt_of_lt_of_le hg h.1.size)).trans (h.2.2 g hg hb)⟩
theorem Still.grown {w w' : World} (h : Still w.heap.size w w') : Grown w w' := ⟨h.1.frame _, h.2.1, h.1.size⟩

structure Rel (b B j : Nat) (w wr : World) (ws ns : Nat → Nat) (p0 p1 : Nat) : Prop where
  old : Still b w wr
  size : B < wr.heap.size
  done : ∀ t, t < j → wr.cell? ⟨b, t, none⟩ = some (.int .u64 (ns t))
  todo : ∀ t, j ≤ t → t < 24 → wr.cell? ⟨b, t, none⟩ = some (.int .u64 (ws t))
  free : ∀ t, t < 24 → wr.frozen? ⟨b, t, none⟩ = false
  c0 : wr.cell? ⟨B, 0, none⟩ = some (.int .u64 p0)
  c1 : wr.cell? ⟨B, 1, none⟩ = some (.int .u64 p1)

theorem Rel.step {b B j : Nat} {w wr : World} {ws ns : Nat → Nat} {p0 p1 : Nat} (R : Rel b B j w wr ws ns p0 p1) (hb : b < B) (hj : j < 24) :
    Rel b B (j + 1) w (wr.setCell ⟨b, j, none⟩ (.int .u64 (ns j))).drew ws ns p0 p1 := by
  have ne : ∀ t, t ≠ j → (⟨b, j, none⟩ : Addr) ≠ ⟨b, t, none⟩ := by intro t h e; cases e; exact h rfl
  have nB : ∀ t, (⟨b, j, none⟩ : Addr) ≠ ⟨B, t, none⟩ := by intro t e; cases e; omega
  refine ⟨(R.old.setCell (p := ⟨b, j, none⟩) rfl _).drew, ?_, ?_, ?_, ?_, ?_, ?_⟩
  · have := R.size; simp [World.setCell, World.drew]; exact this
  · intro t ht
    rw [World.cell?_drew]
    by_cases e : t = j
    · subst e; exact World.cell?_setCell_same _ _ _ (R.todo t (Nat.le_refl _) hj)
    · rw [World.cell?_setCell_other _ _ _ _ (ne t e)]; exact R.done t (by omega)
  · intro t ht ht2
    rw [World.cell?_drew, World.cell?_setCell_other _ _ _ _ (ne t (by omega))]; exact R.todo t (by omega) ht2
  · intro t ht
    show (wr.setCell _ _).frozen? _ = false
    rw [World.frozen?_setCell]; exact R.free t ht
  · rw [World.cell?_drew, World.cell?_setCell_other _ _ _ _ (nB 0)]; exact R.c0
  · rw [World.cell?_drew, World.cell?_setCell_other _ _ _ _ (nB 1)]; exact R.c1

end Go.Proofs.Ytacinenddnfcbaa

namespace Go.Proofs.Ytacinenddnfcbaa
open Go.ChangeShapes Go.WideShapes Go.ChangeAt Go.RowKit Ieee.Own

/-- the long sum at block b tells z, modulo 2^1536 -/
structure Holds (b : Nat) (w : World) (z : Int) (ws : Nat → Nat) : Prop where
  lt : ∀ i, ws i < 18446744073709551616
  size : b < w.heap.size
  cell : ∀ i, i < 24 → w.cell? ⟨b, i, none⟩ = some (.int .u64 (ws i))
  free : ∀ i, i < 24 → w.frozen? ⟨b, i, none⟩ = false
  val : ((2 ^ (64 * 24) : Nat) : Int) ∣ (sumW ws 24 : Int) - z

/-! ### single calls -/
end Go.Proofs.Ytacinenddnfcbaa

namespace Go.Proofs.Ytacinenddnfcbaa
open Go.ChangeShapes Go.WideShapes Go.ChangeAt Go.RowKit Ieee.Own

end Go.Proofs.Ytacinenddnfcbaa

namespace Go.Proofs.Ytacinenddnfcbaa
open Go.Shelf Go.RowKit

end Go.Proofs.Ytacinenddnfcbaa

namespace Go.Proofs.Ytacinenddnfcbaa
open Go.ChangeShapes Go.WideShapes Go.ChangeAt Go.RowKit Ieee.Own

/-! ### the sign -/
end Go.Proofs.Ytacinenddnfcbaa

namespace Ieee.Own

end Ieee.Own

namespace Go.Proofs.Ytacinenddnfcbaa
open Go.ChangeShapes Go.WideShapes Go.ChangeAt Go.RowKit Ieee.Own

/-! ### the sign: of a number z that the words tell, of magnitude below 2^1535 -/
end Go.Proofs.Ytacinenddnfcbaa

namespace Go.Proofs.Ytacinenddnfcbaa
open Go.ChangeShapes Go.WideShapes Go.ChangeAt Go.RowKit Ieee.Own

/-! ### comparisons in plain numbers -/
def nn (a : Nat) : Prop := a % 9223372036854775808 ≤ 9218868437227405312
instance (a : Nat) : Decidable (nn a) := inferInstanceAs (Decidable (_ ≤ _))
theorem o_lss (a b : Nat) (ha : a < 18446744073709551616) (hb : b < 18446744073709551616) :
    (FloatKind.f64.format.order a b == some Ordering.lt) = decide (nn a ∧ nn b ∧ key64 a < key64 b) := by
  show (Ieee.double.order a b == some Ordering.lt) = _
  by_cases h : nn a ∧ nn b
  · rw [order64 a b ha hb h.1 h.2, cmp_lt]; simp [h]
  · rw [order64_nan a b (by unfold nn at h; omega)]; symm; simp; intro h1 h2; exact absurd ⟨h1, h2⟩ h
theorem o_gtr (a b : Nat) (ha : a < 18446744073709551616) (hb : b < 18446744073709551616) :
    (FloatKind.f64.format.order a b == some Ordering.gt) = decide (nn a ∧ nn b ∧ key64 b < key64 a) := by
  show (Ieee.double.order a b == some Ordering.gt) = _
  by_cases h : nn a ∧ nn b
  · rw [order64 a b ha hb h.1 h.2, cmp_gt]; simp [h]
  · rw [order64_nan a b (by unfold nn at h; omega)]; symm; simp; intro h1 h2; exact absurd ⟨h1, h2⟩ h
theorem o_eql (a b : Nat) (ha : a < 18446744073709551616) (hb : b < 18446744073709551616) :
    (FloatKind.f64.format.order a b == some Ordering.eq) = decide (nn a ∧ nn b ∧ key64 a = key64 b) := by
  show (Ieee.double.order a b == some Ordering.eq) = _
  by_cases h : nn a ∧ nn b
  · rw [order64 a b ha hb h.1 h.2, cmp_eq]; simp [h]
  · rw [order64_nan a b (by unfold nn at h; omega)]; symm; simp; intro h1 h2; exact absurd ⟨h1, h2⟩ h
theorem o_leq (a b : Nat) (ha : a < 18446744073709551616) (hb : b < 18446744073709551616) :
    (FloatKind.f64.format.order a b == some Ordering.lt || FloatKind.f64.format.order a b == some Ordering.eq) = decide (nn a ∧ nn b ∧ key64 a ≤ key64 b) := by
  rw [o_lss a b ha hb, o_eql a b ha hb, Bool.eq_iff_iff]
  simp only [Bool.or_eq_true, decide_eq_true_eq]
  constructor
  · rintro (⟨h1, h2, h3⟩ | ⟨h1, h2, h3⟩)
    · exact ⟨h1, h2, by omega⟩
    · exact ⟨h1, h2, by omega⟩
  · rintro ⟨h1, h2, h3⟩
    by_cases h : key64 a < key64 b
    · exact Or.inl ⟨h1, h2, h⟩
    · exact Or.inr ⟨h1, h2, by omega⟩
/-! ### fit -/
/-! ### the operations, as the walk takes them -/
set_option maxRecDepth 100000 in
theorem run_add (x y r : Nat) (h : Ieee.double.add x y = some r) (t : TypeId) (w : World) : (binOp .add t (.float .f64 x) (.float .f64 y)).run Try.prog w = .ok (.float .f64 r) w :=
  run_float_arith w .add t .f64 x y r h
set_option maxRecDepth 100000 in
theorem run_mul (x y r : Nat) (h : Ieee.double.mul x y = some r) (t : TypeId) (w : World) : (binOp .mul t (.float .f64 x) (.float .f64 y)).run Try.prog w = .ok (.float .f64 r) w :=
  run_float_arith w .mul t .f64 x y r h
set_option maxRecDepth 100000 in
theorem run_div (x y r : Nat) (h : Ieee.double.div x y = some r) (t : TypeId) (w : World) : (binOp .quo t (.float .f64 x) (.float .f64 y)).run Try.prog w = .ok (.float .f64 r) w :=
  run_float_arith w .quo t .f64 x y r h
theorem lt_zero (b : Nat) (hb : FinW b) : (FloatKind.f64.format.order b 0 == some Ordering.lt) = decide (V b < 0) := by
  rw [o_lss b 0 hb.1 (by omega), decide_eq_decide]
  have h1 := hb.1
  have h2 := hb.2
  have hz : val 52 (b % 9223372036854775808) = 0 ↔ b % 9223372036854775808 = 0 := val_zero_iff 52 _
  unfold V nn key64
  by_cases h : b < 9223372036854775808
  · rw [if_pos h, if_pos h]
    constructor
    · rintro ⟨-, -, h3⟩; split at h3 <;> omega
    · intro h3; omega
  · rw [show b % 9223372036854775808 = b - 9223372036854775808 by omega] at hz
    rw [if_neg h, if_neg h, if_pos (by omega)]
    constructor
    · rintro ⟨-, -, h3⟩; omega
    · intro h3; exact ⟨by omega, by omega, by omega⟩

end Go.Proofs.Ytacinenddnfcbaa

namespace Go.Proofs.Ytacinenddnfcbaa
open Go.ChangeShapes Go.WideShapes Go.ChangeAt Go.RowKit Ieee.Own

/-! ### the library's calls between words and numbers -/
set_option maxRecDepth 100000 in
theorem xneg (b : Nat) (hb : b < 18446744073709551616) (w : World) : (Op.unary .neg (.float .f64 b)).run Try.prog w = .ok (.float .f64 (if b < 9223372036854775808 then b + 9223372036854775808 else b - 9223372036854775808)) w := by
  rw [← Ieee.Own.xor_top64 b hb]; rfl
/-! ### Canon -/
/-! ### infinities -/
/-! ### neighbours -/
end Go.Proofs.Ytacinenddnfcbaa
