/- Proved here: what the texts Reg, Rop, Cor, Smd, Cls, Sml4 prove, one behind the other. -/
import Derived.Deep.RegionHeld3
import Derived.Test.YtgnofnjbmiepjaaJb3
import Derived.BigQuiet
import Derived.Deep.CutRange

namespace Go.Proofs.Ytgnofnjbmiepjaa
open Go

/-- the frame behind those that have come up: what each has left, in the order of the text -/
def puts : List (Option Tmp) → List (Option Value) → Act → Act
  | d :: ds, some v :: L, a => puts ds L (a.put d v)
  | _ :: ds, none :: L, a => puts ds L a
  | _, _, a => a
def apartL : List (Option Tmp) → Bool
  | [] => true
  | none :: r => apartL r
  | some x :: r => !r.contains (some x) && apartL r
theorem put_size (a : Act) (d : Option Tmp) (v : Value) : (a.put d v).tmps.size = a.tmps.size := by cases d <;> simp [Act.put]
theorem puts_put {v : Value} {d : Option Tmp} : ∀ (ds : List (Option Tmp)) (L : List (Option Value)) (a : Act), (∀ x, d = some x → some x ∉ ds) → (puts ds L a).put d v = puts ds L (a.put d v)
  | [], _, _, _ => by simp [puts]
  | _ :: _, [], _, _ => by simp [puts]
  | e :: ds, none :: L, a, h => by simp only [puts]; exact puts_put ds L a fun x hx hm => h x hx (List.mem_cons_of_mem _ hm)
  | e :: ds, some u :: L, a, h => by
    simp only [puts]
    rw [puts_put ds L _ fun x hx hm => h x hx (List.mem_cons_of_mem _ hm)]
    rw [Act.put_comm a u v (x := e) (y := d)]
    intro x hx hd
    exact h x hd (by rw [hx]; exact List.mem_cons_self ..)
theorem puts_set {v : Value} : ∀ (i : Nat) (ds : List (Option Tmp)) (L : List (Option Value)) (a : Act) {d : Option Tmp}, apartL ds = true → ds[i]? = some d → L[i]? = some none → (puts ds L a).put d v = puts ds (L.set i (some v)) a
  | 0, [], _, _, _, _, h, _ => by simp at h
  | 0, _ :: _, [], _, _, _, _, h => by simp at h
  | 0, e :: ds, l :: L, a, d, hap, h, hl => by
    simp only [List.getElem?_cons_zero, Option.some.injEq] at h hl
    subst h hl
    simp only [puts, List.set_cons_zero]
    refine puts_put ds L a fun x hx hm => ?_
    subst hx
    simp only [apartL, Bool.and_eq_true, Bool.not_eq_true'] at hap
    have := hap.1
    rw [List.contains_eq_mem, decide_eq_false_iff_not] at this
    exact this hm
  | i + 1, [], _, _, _, _, h, _ => by simp at h
  | i + 1, _ :: _, [], _, _, _, _, h => by simp at h
  | i + 1, e :: ds, l :: L, a, d, hap, h, hl => by
    simp only [List.getElem?_cons_succ] at h hl
    have hap' : apartL ds = true := by
      cases e with
      | none => simpa [apartL] using hap
      | some x => simp only [apartL, Bool.and_eq_true] at hap; exact hap.2
    cases l with
    | none => simp only [puts, List.set_cons_succ]; exact puts_set i ds L a hap' h hl
    | some u => simp only [puts, List.set_cons_succ]; exact puts_set i ds L _ hap' h hl
/-- an old slot -/
theorem puts_old {t : Tmp} : ∀ (ds : List (Option Tmp)) (L : List (Option Value)) (a : Act), some t ∉ ds → (puts ds L a).eval (.tmp t) = a.eval (.tmp t)
  | [], _, _, _ => by simp [puts]
  | _ :: _, [], _, _ => by simp [puts]
  | _ :: ds, none :: L, a, h => by simp only [puts]; exact puts_old ds L a fun hm => h (List.mem_cons_of_mem _ hm)
  | e :: ds, some v :: L, a, h => by
    simp only [puts]
    rw [puts_old ds L _ fun hm => h (List.mem_cons_of_mem _ hm)]
    exact Act.eval_put fun d hd hx => by
      rw [Operand.tmp.injEq] at hx
      subst hx hd
      exact h (List.mem_cons_self ..)
theorem put_get {a : Act} {t : Tmp} {v : Value} (h : t < a.tmps.size) : (a.put (some t) v).eval (.tmp t) = v := by
  simp [Act.put, Act.eval, h]
/-- what has come up lies in its slot -/
theorem puts_get {t : Tmp} {v : Value} : ∀ (i : Nat) (ds : List (Option Tmp)) (L : List (Option Value)) (a : Act), apartL ds = true → ds[i]? = some (some t) → L[i]? = some (some v) → t < a.tmps.size → (puts ds L a).eval (.tmp t) = v
  | 0, [], _, _, _, h, _, _ => by simp at h
  | 0, _ :: _, [], _, _, _, h, _ => by simp at h
  | 0, e :: ds, l :: L, a, hap, h, hl, hs => by
    simp only [List.getElem?_cons_zero, Option.some.injEq] at h hl
    subst h hl
    simp only [puts]
    simp only [apartL, Bool.and_eq_true, Bool.not_eq_true'] at hap
    have := hap.1
    rw [List.contains_eq_mem, decide_eq_false_iff_not] at this
    rw [puts_old ds L _ this, put_get hs]
  | i + 1, [], _, _, _, h, _, _ => by simp at h
  | i + 1, _ :: _, [], _, _, _, h, _ => by simp at h
  | i + 1, e :: ds, l :: L, a, hap, h, hl, hs => by
    simp only [List.getElem?_cons_succ] at h hl
    have hap' : apartL ds = true := by
      cases e with
      | none => simpa [apartL] using hap
      | some x => simp only [apartL, Bool.and_eq_true] at hap; exact hap.2
    cases l with
    | none => simp only [puts]; exact puts_get i ds L a hap' h hl hs
    | some u => simp only [puts]; exact puts_get i ds L _ hap' h hl (by rw [put_size]; exact hs)

/-! ### the walk over all orders -/
def lst (L : List (Option Value)) : Array Bool := (L.map Option.isSome).toArray
theorem lst_set {L : List (Option Value)} {i : Nat} {v : Value} : (lst L).setIfInBounds i true = lst (L.set i (some v)) := by
  unfold lst
  simp [List.setIfInBounds_toArray, List.map_set]
theorem lst_true {L : List (Option Value)} {i : Nat} (h : (lst L).getD i false = true) : ∃ v, L[i]? = some (some v) := by
  unfold lst at h
  simp only [Array.getD_eq_getD_getElem?, List.getElem?_toArray, List.getElem?_map] at h
  cases hl : L[i]? with
  | none => rw [hl] at h; simp at h
  | some o => cases o with
    | none => rw [hl] at h; simp at h
    | some v => exact ⟨v, rfl⟩
theorem lst_false {L : List (Option Value)} {i : Nat} (h : (lst L).getD i true = false) : L[i]? = some none := by
  unfold lst at h
  simp only [Array.getD_eq_getD_getElem?, List.getElem?_toArray, List.getElem?_map] at h
  cases hl : L[i]? with
  | none => rw [hl] at h; simp at h
  | some o => cases o with
    | none => rfl
    | some v => rw [hl] at h; simp at h
/-- how many have not come up -/
def open_ : List (Option Value) → Nat
  | [] => 0
  | none :: L => open_ L + 1
  | some _ :: L => open_ L
theorem open_set {v : Value} : ∀ (i : Nat) (L : List (Option Value)), L[i]? = some none → open_ (L.set i (some v)) + 1 = open_ L
  | 0, [], h => by simp at h
  | 0, l :: L, h => by
    simp only [List.getElem?_cons_zero, Option.some.injEq] at h
    subst h; rfl
  | i + 1, [], h => by simp at h
  | i + 1, l :: L, h => by
    simp only [List.getElem?_cons_succ] at h
    have := open_set (v := v) i L h
    cases l with
    | none => simp only [List.set_cons_succ, open_]; omega
    | some u => simp only [List.set_cons_succ, open_]; omega
theorem open_zero : ∀ (L : List (Option Value)), open_ L = 0 → ∀ i, i < L.length → ∃ v, L[i]? = some (some v)
  | [], _, i, h => by simp at h
  | none :: L, h0, _, _ => by simp [open_] at h0
  | some v :: L, h0, 0, _ => ⟨v, rfl⟩
  | some v :: L, h0, i + 1, h => by
    simp only [List.getElem?_cons_succ]
    exact open_zero L h0 i (by simpa using h)
def backward (ops : Array Oper) : Bool := (List.range ops.size).all fun i => ((ops[i]?).map (·.after.all fun e => !Region.binds .any e || decide (e.on < i))).getD true
def plainL (ops : Array Oper) : Bool := (List.range ops.size).all fun i => ((ops[i]?).map (·.guard.isNone)).getD true

section
variable {P : Program} {ops : Array Oper} {Q : Exit → Act → World → Prop}
theorem ready_all (hb : backward ops = true) {L : List (Option Value)} (hL : L.length = ops.size) (hr : Region.ready .any ops (lst L) = []) : ∀ n i, i < n → i < ops.size → ∃ v, L[i]? = some (some v) := by
  intro n
  induction n with
  | zero => intro i h; omega
  | succ n ih =>
    intro i hi hs
    by_cases hin : i < n
    · exact ih i hin hs
    · obtain rfl : i = n := by omega
      have hx : i ∉ Region.ready .any ops (lst L) := by rw [hr]; exact List.not_mem_nil
      cases hl : L[i]? with
      | none => rw [List.getElem?_eq_none_iff] at hl; omega
      | some o => cases o with
        | some v => exact ⟨v, rfl⟩
        | none =>
          refine absurd (mem_ready.2 ⟨?_, ops[i], Array.getElem?_eq_getElem hs, fun e he hbd => ?_⟩) hx
          · unfold lst; simp [Array.getD_eq_getD_getElem?, hl]
          · have hlt : e.on < i := by
              have h1 := (List.all_eq_true.1 hb) i (List.mem_range.2 hs)
              rw [Array.getElem?_eq_getElem hs] at h1
              simp only [Option.map_some, Option.getD_some, Array.all_eq_true] at h1
              obtain ⟨k, hk, rfl⟩ := Array.mem_iff_getElem.1 he
              have h2 := h1 k hk
              simpa [hbd] using h2
            obtain ⟨v, hv⟩ := ih e.on hlt (by omega)
            unfold lst; simp [Array.getD_eq_getD_getElem?, hv]
theorem wpAny_inv (ds : List (Option Tmp)) (hds : ops.toList.map (·.dst) = ds) (hap : apartL ds = true) (hb : backward ops = true) (hg : plainL ops = true) (a0 : Act) (W : List (Option Value) → World → Prop)
    (step : ∀ (L : List (Option Value)) (w : World) (i : Nat) (o : Oper), L.length = ops.size → ops[i]? = some o → L[i]? = some none → (∀ e ∈ o.after, Region.binds .any e = true → ∃ v, L[e.on]? = some (some v)) → W L w →
      o.wp P (puts ds L a0) w (fun a' w' => ∃ v, a' = (puts ds L a0).put o.dst v ∧ W (L.set i (some v)) w') Q)
    (fin : ∀ L w, L.length = ops.size → (∀ i, i < ops.size → ∃ v, L[i]? = some (some v)) → W L w → Q .normal (puts ds L a0) w) :
    ∀ fuel L w, L.length = ops.size → open_ L ≤ fuel → W L w → wpAny P .any ops Q fuel (lst L) (puts ds L a0) w := by
  intro fuel
  induction fuel with
  | zero =>
    intro L w hL ho hW
    have hall := open_zero L (by omega)
    refine ⟨?_, fin L w hL (fun i hi => hall i (by omega)) hW⟩
    refine List.eq_nil_iff_forall_not_mem.2 fun i hi => ?_
    obtain ⟨h1, oi, h2, -⟩ := mem_ready.1 hi
    have h3 := lst_false h1
    obtain ⟨v, hv⟩ := hall i (by have := (Array.getElem?_eq_some_iff.1 h2).1; omega)
    rw [hv] at h3; simp at h3
  | succ fuel ih =>
    intro L w hL ho hW
    refine ⟨fun hr => fin L w hL (fun i hi => ready_all hb hL hr (i + 1) i (by omega) hi) hW, fun i hi => ?_⟩
    obtain ⟨h1, o, h2, h3⟩ := mem_ready.1 hi
    have h4 := lst_false h1
    have his := (Array.getElem?_eq_some_iff.1 h2).1
    have hgi : o.guard = none := by
      have := (List.all_eq_true.1 hg) i (List.mem_range.2 his)
      rw [h2] at this
      simpa using this
    have hdi : ds[i]? = some o.dst := by rw [← hds, List.getElem?_map]; simp [h2]
    have s := step L w i o hL h2 h4 (fun e he hbd => lst_true (h3 e he hbd)) hW
    unfold wpOp
    rw [h2]
    simp only [Region.wanted, hgi, if_true]
    refine Or.inl (Oper.wp_mono (fun a' w' hh => ?_) s)
    obtain ⟨v, rfl, hW'⟩ := hh
    rw [puts_set i ds L a0 hap hdi h4, lst_set (v := v)]
    exact ih _ w' (by simpa using hL) (by have := open_set (v := v) i L h4; omega) hW'
def nones (n : Nat) : List (Option Value) := List.replicate n none
theorem puts_nones (n : Nat) : ∀ (ds : List (Option Tmp)) (a : Act), puts ds (nones n) a = a := by
  unfold nones
  induction n with
  | zero => intro ds a; cases ds <;> rfl
  | succ n ih => intro ds a; cases ds with
    | nil => rfl
    | cons d ds => simp only [List.replicate_succ, puts]; exact ih ds a
theorem open_nones (n : Nat) : open_ (nones n) = n := by
  unfold nones
  induction n with
  | zero => rfl
  | succ n ih => simp only [List.replicate_succ, open_, ih]
theorem wp_region_inv {id : Nat} {a0 : Act} {w : World} (hm : P.follows .mixedOrders = true) (ds : List (Option Tmp)) (hds : ops.toList.map (·.dst) = ds) (hap : apartL ds = true) (hb : backward ops = true) (hg : plainL ops = true)
    (W : List (Option Value) → World → Prop) (start : W (nones ops.size) w.drew)
    (step : ∀ (L : List (Option Value)) (w : World) (i : Nat) (o : Oper), L.length = ops.size → ops[i]? = some o → L[i]? = some none → (∀ e ∈ o.after, Region.binds .any e = true → ∃ v, L[e.on]? = some (some v)) → W L w →
      o.wp P (puts ds L a0) w (fun a' w' => ∃ v, a' = (puts ds L a0).put o.dst v ∧ W (L.set i (some v)) w') Q)
    (fin : ∀ L w, L.length = ops.size → (∀ i, i < ops.size → ∃ v, L[i]? = some (some v)) → W L w → Q .normal (puts ds L a0) w) : (Code.region id ops true).wp P Q a0 w := by
  have h := wpAny_inv ds hds hap hb hg a0 W step fin ops.size (nones ops.size) w.drew (by simp [nones]) (by rw [open_nones]; exact Nat.le_refl _) start
  rw [puts_nones] at h
  have e : lst (nones ops.size) = Array.replicate ops.size false := by unfold lst nones; simp
  rw [e] at h
  exact wp_region_any hm h

/-! ### operations that may not be wanted; regions whose values hang on nothing that is drawn -/
/-- those that it waits for -/
def waits (o : Oper) (k : Nat) : Bool := o.after.toList.any fun e => e.on == k && Region.binds .any e
end
end Go.Proofs.Ytgnofnjbmiepjaa

namespace Go.Proofs.Ytgnofnjbmiepjaa
open Go.ChangeShapes Go.WideShapes Go.ChangeAt Go.RowKit Ieee.Own

end Go.Proofs.Ytgnofnjbmiepjaa

namespace Go.Proofs.Ytgnofnjbmiepjaa
open Go.ChangeShapes Go.WideShapes Go.ChangeAt Go.RowKit Ieee.Own

/-- a block of the call's own that holds a span -/
structure Blk (w : World) (g x y : Nat) : Prop where
  lt : g < w.heap.size
  lo : w.cell? ⟨g, 0, none⟩ = some (.float .f64 x)
  hi : w.cell? ⟨g, 1, none⟩ = some (.float .f64 y)
  f0 : w.frozen? ⟨g, 0, none⟩ = false
  f1 : w.frozen? ⟨g, 1, none⟩ = false
theorem cell_on {B : Nat} {w w' : World} (h : Below B w w') (a : Addr) (hb : a.block < B) : w'.cell? a = w.cell? a := by
  unfold World.cell?; rw [h.block _ hb]
theorem frozen_on {B : Nat} {w w' : World} (h : Below B w w') (a : Addr) (hb : a.block < B) : w'.frozen? a = w.frozen? a := by
  unfold World.frozen?; rw [h.block _ hb]
theorem Blk.on {w w' : World} {g x y : Nat} (b : Blk w g x y) (h : Below w.heap.size w w') : Blk w' g x y :=
  ⟨Nat.lt_of_lt_of_le b.lt h.size, (cell_on h _ b.lt).trans b.lo, (cell_on h _ b.lt).trans b.hi, (frozen_on h _ b.lt).trans b.f0, (frozen_on h _ b.lt).trans b.f1⟩
theorem Blk.new (w : World) : Blk (w.alloc zeroO) w.heap.size 0 0 := by
  have S : Blocks w [zeroO] (w.alloc zeroO) := (Blocks.nil w).alloc (by simp) _
  unfold zeroO at S
  exact ⟨by simp, S.cell 0 rfl 0 w.heap.size rfl, S.cell 0 rfl 1 w.heap.size rfl, S.free 0 rfl 0 w.heap.size rfl, S.free 0 rfl 1 w.heap.size rfl⟩
def put2 (w : World) (g s t : Nat) : World := (w.setCell ⟨g, 0, none⟩ (.float .f64 s)).setCell ⟨g, 1, none⟩ (.float .f64 t)
theorem put2_size (w : World) (g s t : Nat) : (put2 w g s t).heap.size = w.heap.size := by unfold put2; simp
theorem Blk.put {w : World} {g x y : Nat} (b : Blk w g x y) (s t : Nat) : Blk (put2 w g s t) g s t := by
  obtain ⟨v0, h0⟩ := cell?_setCell_some (w := w) (p := ⟨g, 0, none⟩) (x := .float .f64 s) (q := ⟨g, 1, none⟩) (v := _) b.hi
  refine ⟨by rw [put2_size]; exact b.lt, ?_, ?_, ?_, ?_⟩
  · unfold put2
    rw [World.cell?_setCell_other _ _ _ _ (by simp)]
    exact World.cell?_setCell_same _ _ _ b.lo
  · unfold put2
    exact World.cell?_setCell_same _ _ _ h0
  · unfold put2; rw [World.frozen?_setCell, World.frozen?_setCell]; exact b.f0
  · unfold put2; rw [World.frozen?_setCell, World.frozen?_setCell]; exact b.f1
theorem Blk.other {w : World} {g h x y : Nat} (b : Blk w g x y) (hg : g ≠ h) (s t : Nat) : Blk (put2 w h s t) g x y := by
  refine ⟨by rw [put2_size]; exact b.lt, ?_, ?_, ?_, ?_⟩
  · unfold put2
    rw [World.cell?_setCell_other _ _ _ _ (by simp), World.cell?_setCell_other _ _ _ _ (by simp)]
    exact b.lo
  · unfold put2
    rw [World.cell?_setCell_other _ _ _ _ (by simp), World.cell?_setCell_other _ _ _ _ (by simp)]
    exact b.hi
  · unfold put2; rw [World.frozen?_setCell, World.frozen?_setCell]; exact b.f0
  · unfold put2; rw [World.frozen?_setCell, World.frozen?_setCell]; exact b.f1
theorem put2_below {B : Nat} {u w : World} (h : Below B u w) {g : Nat} (hg : B ≤ g) (s t : Nat) : Below B u (put2 w g s t) := (h.setCell hg _).setCell hg _

/-! ### the region: which of its values hang on nothing that is drawn -/
def corD (g : FuncId) (wz a1 a2 b1 b2 : Nat) (es : List (Nat × Nat)) : List (Option Value) := [some (.func (.func g) #[] #[]),
  some (.pointer (some ⟨wz, 0, none⟩)),
  some (.float .f64 a1),
  some (.pointer (some ⟨wz + 1, 0, none⟩)),
  some (.float .f64 b1),
  some (spanV (es.getD 0 (0, 0)).1 (es.getD 0 (0, 0)).2),
  some (.func (.func g) #[] #[]),
  some (.pointer (some ⟨wz, 0, none⟩)),
  some (.float .f64 a1),
  some (.pointer (some ⟨wz + 1, 1, none⟩)),
  some (.float .f64 b2),
  some (spanV (es.getD 1 (0, 0)).1 (es.getD 1 (0, 0)).2),
  some (.func (.func g) #[] #[]),
  some (.pointer (some ⟨wz, 1, none⟩)),
  some (.float .f64 a2),
  some (.pointer (some ⟨wz + 1, 0, none⟩)),
  some (.float .f64 b1),
  some (spanV (es.getD 2 (0, 0)).1 (es.getD 2 (0, 0)).2),
  some (.func (.func g) #[] #[]),
  some (.pointer (some ⟨wz, 1, none⟩)),
  some (.float .f64 a2),
  some (.pointer (some ⟨wz + 1, 1, none⟩)),
  some (.float .f64 b2),
  some (spanV (es.getD 3 (0, 0)).1 (es.getD 3 (0, 0)).2),
  none,
  none,
  none,
  none,
  none,
  none,
  none,
  none]
/-- what operation 24 + j's block holds: nothing yet, or corner j -/
def corE (es : List (Nat × Nat)) (L : List (Option Value)) (j : Nat) : Nat × Nat := if (L[28 + j]?.getD none).isSome then es.getD j (0, 0) else (0, 0)
structure CorW (g : FuncId) (wz a1 a2 b1 b2 : Nat) (es : List (Nat × Nat)) (w1 : World) (L : List (Option Value)) (w : World) : Prop where
  old : Below w1.heap.size w1 w
  det : ∀ (i : Nat) (v u : Value), L[i]? = some (some v) → (corD g wz a1 a2 b1 b2 es)[i]? = some (some u) → v = u
  blk : ∀ (j : Nat), j < 4 → ∀ v : Value, L[24 + j]? = some (some v) → ∃ h, v = .pointer (some ⟨h, 0, none⟩) ∧ w1.heap.size ≤ h ∧ Blk w h (corE es L j).1 (corE es L j).2
  apart : ∀ (j k : Nat), j < 4 → k < 4 → j ≠ k → ∀ v u : Value, L[24 + j]? = some (some v) → L[24 + k]? = some (some u) → v ≠ u
  ord : ∀ (j : Nat), j < 4 → L[24 + j]? = some none → ∀ o : Value, L[28 + j]? ≠ some (some o)
section
variable {g : FuncId} {wz a1 a2 b1 b2 : Nat} {es : List (Nat × Nat)} {w1 w w' : World} {L : List (Option Value)}
theorem CorW.on (H : CorW g wz a1 a2 b1 b2 es w1 L w) (h : Below w.heap.size w w') : CorW g wz a1 a2 b1 b2 es w1 L w' :=
  ⟨H.old.trans (h.mono H.old.size), H.det, fun j hj v hv => by obtain ⟨x, e, l, b⟩ := H.blk j hj v hv; exact ⟨x, e, l, b.on h⟩, H.apart, H.ord⟩
end

theorem nones_get (n i : Nat) (v : Value) : (nones n)[i]? ≠ some (some v) := by unfold nones; simp [List.getElem?_replicate]
end Go.Proofs.Ytgnofnjbmiepjaa

namespace Go.Proofs.Ytgnofnjbmiepjaa
open Go.ChangeShapes Go.WideShapes Go.ChangeAt Go.RowKit Ieee.Own

/-! ### Has -/
/-! ### Inside -/
/-! ### ends of four -/
theorem DnAll.congr {cs : List (Int → Int)} {x y : Nat} (h : DnAll cs x) (hy : FinW y) (e : V y = V x) : DnAll cs y := ⟨hy, by rw [e]; exact h.le, by rw [e]; exact h.top⟩
theorem UpAll.congr {cs : List (Int → Int)} {x y : Nat} (h : UpAll cs x) (hy : FinW y) (e : V y = V x) : UpAll cs y := ⟨hy, by rw [e]; exact h.ge, by rw [e]; exact h.low⟩
theorem DnAll.mn {cs : List (Int → Int)} {c : Int → Int} {x y : Nat} (h : DnAll cs x) (k : Dn c y) (hcs : ∀ d ∈ cs, Falls d) (hc : Falls c) : DnAll (cs ++ [c]) (mnW x y) := by
  obtain ⟨a, b, d⟩ := mnW_spec h.fin k.fin
  obtain ⟨m1, m2, m3⟩ := minW_V y x
  refine (h.more k hcs hc).congr (mnW_fin h.fin k.fin) ?_
  rcases a with a | a <;> rw [a] at b d ⊢ <;> omega
theorem UpAll.mx {cs : List (Int → Int)} {c : Int → Int} {x y : Nat} (h : UpAll cs x) (k : Up c y) (hcs : ∀ d ∈ cs, Falls d) (hc : Falls c) : UpAll (cs ++ [c]) (mxW x y) := by
  obtain ⟨a, b, d⟩ := mxW_spec h.fin k.fin
  obtain ⟨m1, m2, m3⟩ := maxW_V y x
  refine (h.more k hcs hc).congr (mxW_fin h.fin k.fin) ?_
  rcases a with a | a <;> rw [a] at b d ⊢ <;> omega
end Go.Proofs.Ytgnofnjbmiepjaa

namespace Go.Proofs.Ytgnofnjbmiepjaa
open Go.ChangeShapes Go.WideShapes Go.ChangeAt Go.RowKit Ieee.Own

/-! ### blocks that hold spans -/
/-- the call's own blocks so far: where, and what each holds -/
structure Cls (w0 : World) (L : List (Nat × Nat × Nat)) (w : World) : Prop where
  old : Below w0.heap.size w0 w
  blk : ∀ (j g x y : Nat), L[j]? = some (g, x, y) → w0.heap.size ≤ g ∧ Blk w g x y
  inj : ∀ (i j g x y u v : Nat), L[i]? = some (g, x, y) → L[j]? = some (g, u, v) → i = j
theorem Cls.nil (w : World) : Cls w [] w := ⟨Below.refl _ w, fun j g x y h => by simp at h, fun i j g x y u v h => by simp at h⟩
theorem Cls.on {w0 w w' : World} {L : List (Nat × Nat × Nat)} (C : Cls w0 L w) (h : Below w.heap.size w w') : Cls w0 L w' :=
  ⟨C.old.trans (h.mono C.old.size), fun j g x y hj => ⟨(C.blk j g x y hj).1, (C.blk j g x y hj).2.on h⟩, C.inj⟩
theorem Blk.box (w : World) (a b : Nat) : Blk (w.alloc (boxO a b)) w.heap.size a b := by
  have S : Blocks w [boxO a b] (w.alloc (boxO a b)) := (Blocks.nil w).alloc (by simp) _
  unfold boxO at S
  exact ⟨by simp, S.cell 0 rfl 0 w.heap.size rfl, S.cell 0 rfl 1 w.heap.size rfl, S.free 0 rfl 0 w.heap.size rfl, S.free 0 rfl 1 w.heap.size rfl⟩
theorem Cls.new {w0 w : World} {L : List (Nat × Nat × Nat)} (C : Cls w0 L w) (a b : Nat) : Cls w0 (L ++ [(w.heap.size, a, b)]) (w.alloc (boxO a b)) := by
  have hb : Below w.heap.size w (w.alloc (boxO a b)) := (Below.refl _ w).alloc (Nat.le_refl _) _
  refine ⟨C.old.trans (hb.mono C.old.size), fun j g x y hj => ?_, fun i j g x y u v hi hj => ?_⟩
  · by_cases hl : j < L.length
    · rw [List.getElem?_append_left hl] at hj
      exact ⟨(C.blk j g x y hj).1, (C.blk j g x y hj).2.on hb⟩
    · have hj' : j = L.length := by
        have := (List.getElem?_eq_some_iff.1 hj).1
        simp at this; omega
      subst hj'
      simp at hj
      obtain ⟨rfl, rfl, rfl⟩ := hj
      exact ⟨C.old.size, Blk.box w _ _⟩
  · have key : ∀ k, k < L.length → ∀ x y, L[k]? = some (g, x, y) → g < w.heap.size := fun k _ x y h => (C.blk k g x y h).2.lt
    have last : ∀ k x y, (L ++ [(w.heap.size, a, b)])[k]? = some (g, x, y) → ¬ k < L.length → k = L.length ∧ g = w.heap.size := fun k x y h hk => by
      have h1 := (List.getElem?_eq_some_iff.1 h).1
      simp at h1
      have hk' : k = L.length := by omega
      subst hk'
      simp at h
      exact ⟨rfl, h.1.symm⟩
    by_cases hil : i < L.length <;> by_cases hjl : j < L.length
    · rw [List.getElem?_append_left hil] at hi
      rw [List.getElem?_append_left hjl] at hj
      exact C.inj i j g x y u v hi hj
    · obtain ⟨-, e⟩ := last j u v hj hjl
      rw [List.getElem?_append_left hil] at hi
      have := key i hil x y hi
      omega
    · obtain ⟨-, e⟩ := last i x y hi hil
      rw [List.getElem?_append_left hjl] at hj
      have := key j hjl u v hj
      omega
    · have := (last i x y hi hil).1
      have := (last j u v hj hjl).1
      omega
theorem Cls.put {w0 w : World} {L : List (Nat × Nat × Nat)} (C : Cls w0 L w) (j : Nat) {g x y : Nat} (hj : L[j]? = some (g, x, y)) (s t : Nat) : Cls w0 (L.set j (g, s, t)) (put2 w g s t) := by
  have hl := (List.getElem?_eq_some_iff.1 hj).1
  have hg := C.blk j g x y hj
  refine ⟨put2_below C.old hg.1 s t, fun k h p q hk => ?_, fun i k h p q u v hi hk => ?_⟩
  · by_cases hjk : j = k
    · subst hjk
      rw [List.getElem?_set_self hl] at hk
      simp at hk
      obtain ⟨rfl, rfl, rfl⟩ := hk
      exact ⟨hg.1, hg.2.put _ _⟩
    · rw [List.getElem?_set_ne hjk] at hk
      refine ⟨(C.blk k h p q hk).1, (C.blk k h p q hk).2.other (fun e => ?_) _ _⟩
      subst e
      exact hjk (C.inj j k _ _ _ _ _ hj hk)
  · have back : ∀ n p q, (L.set j (g, s, t))[n]? = some (h, p, q) → ∃ p' q', L[n]? = some (h, p', q') := fun n p q hn => by
      by_cases hjn : j = n
      · subst hjn
        rw [List.getElem?_set_self hl] at hn
        simp at hn
        rw [← hn.1]
        exact ⟨_, _, hj⟩
      · rw [List.getElem?_set_ne hjn] at hn; exact ⟨_, _, hn⟩
    obtain ⟨p1, q1, h1⟩ := back i p q hi
    obtain ⟨p2, q2, h2⟩ := back k u v hk
    exact C.inj i k h _ _ _ _ h1 h2
theorem Cls.at_ {w0 w : World} {L : List (Nat × Nat × Nat)} (C : Cls w0 L w) (j : Nat) {g x y : Nat} (hj : L[j]? = some (g, x, y)) : Blk w g x y := (C.blk j g x y hj).2
theorem Cls.draws {w0 w : World} {L : List (Nat × Nat × Nat)} (C : Cls w0 L w) : Cls w0 L w.drew := ⟨C.old.drew, fun j g x y h => ⟨(C.blk j g x y h).1, ⟨(C.at_ j h).1, (C.at_ j h).2, (C.at_ j h).3, (C.at_ j h).4, (C.at_ j h).5⟩⟩, C.inj⟩

/-! ### awake -/
end Go.Proofs.Ytgnofnjbmiepjaa

namespace Go.Proofs.Ytgnofnjbmiepjaa
open Go.ChangeShapes Go.WideShapes Go.ChangeAt Go.RowKit Ieee.Own

/-! ### what a told span is -/
theorem spanE_inj {a b c d : Nat} {k l : Int} (h : spanE a b k = spanE c d l) : a = c ∧ b = d ∧ k = l := by
  unfold spanE at h
  simpa [and_assoc] using h
theorem told_ok {lo hi x y : Nat} {k : Int} (h1 : FinW lo) (h2 : FinW hi) (h : toldE lo hi = spanE x y k) : x < 18446744073709551616 ∧ y < 18446744073709551616 ∧ (k = 0 → V lo ≤ V hi → x = lowW lo ∧ y = highW hi ∧ errS x y = 0) := by
  unfold toldE at h
  by_cases c : V (lowW lo) < -mostV ∨ mostV < V (highW hi)
  · rw [if_pos c] at h
    obtain ⟨rfl, rfl, rfl⟩ := spanE_inj h
    exact ⟨by decide, by decide, fun h => by omega⟩
  · rw [if_neg c] at h
    obtain ⟨rfl, rfl, rfl⟩ := spanE_inj h
    refine ⟨(lowW_fin h1).1, (highW_fin h2).1, fun _ le => ⟨rfl, rfl, ?_⟩⟩
    have i1 := fit_iff (lowW_fin h1)
    have i2 := fit_iff (highW_fin h2)
    have o1 := lowW_out lo
    have o2 := highW_out hi
    have l1 := lowW_le lo
    have l2 := highW_ge hi
    unfold errS
    rw [if_pos ⟨i1.2 (by omega), i2.2 (by omega)⟩, if_neg (by omega)]
/-- what an operation's answer is, whatever it is -/
theorem OpAll.bd {er : Int} {cs ds : List (Int → Int)} {x y : Nat} {k : Int} (h : OpAll er cs ds (.returned (spanE x y k))) : x < 18446744073709551616 ∧ y < 18446744073709551616 ∧ (k = 0 → er = 0) ∧
    (k = 0 → (∀ lo hi, DnAll cs lo → UpAll ds hi → V lo ≤ V hi) → ∃ lo hi, DnAll cs lo ∧ UpAll ds hi ∧ x = lowW lo ∧ y = highW hi ∧ errS x y = 0) := by
  by_cases h0 : er = 0
  · obtain ⟨lo, hi, e, d, u⟩ := h.1 h0
    have e' : toldE lo hi = spanE x y k := (Ending.returned.inj e).symm
    obtain ⟨b1, b2, ok⟩ := told_ok d.fin u.fin e'
    refine ⟨b1, b2, fun _ => h0, fun hk hl => ?_⟩
    obtain ⟨p, q, r⟩ := ok hk (hl lo hi d u)
    exact ⟨lo, hi, d, u, p, q, r⟩
  · have e := Ending.returned.inj (h.2 h0)
    obtain ⟨rfl, rfl, rfl⟩ := spanE_inj e
    exact ⟨by decide, by decide, fun h => absurd h h0, fun h => absurd h h0⟩
theorem fits_of {er er' : Int} {cs ds cs' ds' : List (Int → Int)} {x y u v : Nat} {k l : Int} (h : OpAll er cs ds (.returned (spanE x y k))) (h' : OpAll er' cs' ds' (.returned (spanE u v l)))
    (lle : er = 0 → ∀ lo hi, DnAll cs lo → UpAll ds hi → V lo ≤ V hi) (lle' : er' = 0 → ∀ lo hi, DnAll cs' lo → UpAll ds' hi → V lo ≤ V hi)
    (md : er = 0 → er' = 0 → ∀ u, (∀ c ∈ cs', 0 ≤ c u) → ∀ d ∈ cs, 0 ≤ d u) (mu : er = 0 → er' = 0 → ∀ u, (∀ c ∈ ds', c u ≤ 0) → ∀ d ∈ ds, d u ≤ 0) : k = 0 → l = 0 → insB x y u v = true := by
  intro hk hl
  obtain ⟨-, -, z, o⟩ := h.bd
  obtain ⟨-, -, z', o'⟩ := h'.bd
  obtain ⟨lo, hi, d, up, rfl, rfl, e⟩ := o hk (lle (z hk))
  obtain ⟨lo', hi', d', up', rfl, rfl, e'⟩ := o' hl (lle' (z' hl))
  unfold insB
  rw [decide_eq_true_eq]
  exact ⟨errSS_of e e', lowW_mono (d'.mono d (md (z hk) (z' hl))), highW_mono (up'.mono up (mu (z hk) (z' hl)))⟩

/-! ### Inside, in numbers -/
theorem insB_spec {a b c d : Nat} (h : insB a b c d = true) : errS a b = 0 ∧ errS c d = 0 ∧ V c ≤ V a ∧ V b ≤ V d := by
  unfold insB at h
  rw [decide_eq_true_eq] at h
  obtain ⟨e1, e2⟩ := errSS_zero h.1
  exact ⟨e1, e2, h.2⟩

/-! ### products -/
theorem corner_le {p q r s x y z : Int} (h1 : p ≤ x) (h2 : x ≤ q) (h3 : r ≤ y) (h4 : y ≤ s) (a : z ≤ p * r) (b : z ≤ p * s) (c : z ≤ q * r) (d : z ≤ q * s) : z ≤ x * y := by
  have side : ∀ t : Int, z ≤ t * r → z ≤ t * s → z ≤ t * y := fun t e f => by
    by_cases ht : 0 ≤ t
    · exact Int.le_trans e (Int.mul_le_mul_of_nonneg_left h3 ht)
    · exact Int.le_trans f (Int.mul_le_mul_of_nonpos_left (by omega) h4)
  by_cases hy : 0 ≤ y
  · exact Int.le_trans (side p a b) (Int.mul_le_mul_of_nonneg_right h1 hy)
  · exact Int.le_trans (side q c d) (Int.mul_le_mul_of_nonpos_right h2 (by omega))
theorem corner_ge {p q r s x y z : Int} (h1 : p ≤ x) (h2 : x ≤ q) (h3 : r ≤ y) (h4 : y ≤ s) (a : p * r ≤ z) (b : p * s ≤ z) (c : q * r ≤ z) (d : q * s ≤ z) : x * y ≤ z := by
  have := corner_le (p := -q) (q := -p) (x := -x) (z := -z) (by omega) (by omega) h3 h4 (by rw [Int.neg_mul]; omega) (by rw [Int.neg_mul]; omega) (by rw [Int.neg_mul]; omega) (by rw [Int.neg_mul]; omega)
  rw [Int.neg_mul] at this
  omega
def MM : Int := 2 ^ 1074
theorem MM_pos : 0 < MM := Int.pow_pos (by omega)
theorem prod_dn_iff (a b : Nat) (u : Int) : 0 ≤ prodC a b u ↔ u * MM ≤ V a * V b := by
  unfold prodC prodN
  show 0 ≤ V a * V b / MM - u ↔ _
  have := Int.le_ediv_iff_mul_le (a := u) (b := V a * V b) MM_pos
  omega
theorem four_mem {α : Type} {p : α → Prop} {a b c d : α} : (∀ x ∈ [a, b, c, d], p x) ↔ p a ∧ p b ∧ p c ∧ p d := by simp
theorem one_mem {α : Type} {p : α → Prop} {a : α} : (∀ x ∈ [a], p x) ↔ p a := by simp
theorem two_mem {α : Type} {p : α → Prop} {a b : α} : (∀ x ∈ [a, b], p x) ↔ p a ∧ p b := by simp
/-- a product, exact: both fit -/
theorem prod_ex {a b : Nat} (ha : a < 18446744073709551616) (hb : b < 18446744073709551616) (h1 : fitB a = true) (h2 : fitB b = true) : prodN a b * MM = V a * V b := by
  obtain ⟨p, e, N, Z, g, R, -, -, -⟩ := prod_fit a b ha hb h1 h2
  rw [prodN_of R]
  exact R.ex.symm
theorem prod_up_iff {a b : Nat} (ha : a < 18446744073709551616) (hb : b < 18446744073709551616) (h1 : fitB a = true) (h2 : fitB b = true) (u : Int) : prodC a b u ≤ 0 ↔ V a * V b ≤ u * MM := by
  have e := prod_ex ha hb h1 h2
  have p := MM_pos
  unfold prodC
  rw [← e]
  constructor
  · intro h; exact Int.mul_le_mul_of_nonneg_right (by omega) (Int.le_of_lt p)
  · intro h
    have := Int.le_of_mul_le_mul_right h p
    omega
theorem quot_lo_pos {a b : Nat} {u : Int} (h : 0 < V b) : 0 ≤ quotC a b u ↔ u * V b ≤ V a * MM := by
  unfold quotC MM
  rw [if_neg (by omega)]
  omega
theorem quot_lo_neg {a b : Nat} {u : Int} (h : V b < 0) : 0 ≤ quotC a b u ↔ V a * MM ≤ u * V b := by
  unfold quotC MM
  rw [if_pos h]
  omega
theorem quot_up_pos {a b : Nat} {u : Int} (h : 0 < V b) : quotC a b u ≤ 0 ↔ V a * MM ≤ u * V b := by
  unfold quotC MM
  rw [if_neg (by omega)]
  omega
theorem quot_up_neg {a b : Nat} {u : Int} (h : V b < 0) : quotC a b u ≤ 0 ↔ u * V b ≤ V a * MM := by
  unfold quotC MM
  rw [if_pos h]
  omega
theorem errD_zero {a1 a2 b1 b2 : Nat} (h : errD a1 a2 b1 b2 = 0) (le : V b1 ≤ V b2) : (0 < V b1 ∧ 0 < V b2) ∨ (V b1 < 0 ∧ V b2 < 0) := by
  unfold errD at h
  by_cases c : errSS a1 a2 b1 b2 ≠ 0
  · rw [if_pos c] at h; exact absurd h c
  · rw [if_neg c] at h
    by_cases d : V b1 ≤ 0 ∧ 0 ≤ V b2
    · rw [if_pos d] at h; omega
    · omega
/-- u times what lies between -/
theorem lin_le {r s y u z : Int} (h3 : r ≤ y) (h4 : y ≤ s) (a : u * r ≤ z) (b : u * s ≤ z) : u * y ≤ z := by
  by_cases hu : 0 ≤ u
  · exact Int.le_trans (Int.mul_le_mul_of_nonneg_left h4 hu) b
  · exact Int.le_trans (Int.mul_le_mul_of_nonpos_left (by omega) h3) a
theorem lin_ge {r s y u z : Int} (h3 : r ≤ y) (h4 : y ≤ s) (a : z ≤ u * r) (b : z ≤ u * s) : z ≤ u * y := by
  by_cases hu : 0 ≤ u
  · exact Int.le_trans a (Int.mul_le_mul_of_nonneg_left h3 hu)
  · exact Int.le_trans b (Int.mul_le_mul_of_nonpos_left (by omega) h4)
theorem MM_mono {x y : Int} (h : x ≤ y) : x * MM ≤ y * MM := Int.mul_le_mul_of_nonneg_right h (Int.le_of_lt MM_pos)
theorem quot_lu' {a b : Nat} {l u : Int} (h0 : V b ≠ 0) (h1 : 0 ≤ quotC a b l) (h2 : quotC a b u ≤ 0) : l ≤ u := by
  refine Int.not_lt.1 fun hlt => ?_
  unfold quotC at h1 h2
  by_cases hb : V b < 0
  · rw [if_pos hb] at h1 h2
    have := Int.mul_lt_mul_of_neg_right hlt hb
    omega
  · rw [if_neg hb] at h1 h2
    have := Int.mul_lt_mul_of_pos_right hlt (show 0 < V b by omega)
    omega
structure Two (a0 b0 a1 b1 c0 d0 c1 d1 : Nat) : Prop where
  la0 : a0 < 18446744073709551616
  lb0 : b0 < 18446744073709551616
  la1 : a1 < 18446744073709551616
  lb1 : b1 < 18446744073709551616
  lc0 : c0 < 18446744073709551616
  ld0 : d0 < 18446744073709551616
  lc1 : c1 < 18446744073709551616
  ld1 : d1 < 18446744073709551616
  i0 : insB a0 b0 c0 d0 = true
  i1 : insB a1 b1 c1 d1 = true
section
variable {a0 b0 a1 b1 c0 d0 c1 d1 : Nat} (T : Two a0 b0 a1 b1 c0 d0 c1 d1)
include T
theorem Two.facts : (fitB a0 = true ∧ fitB b0 = true ∧ V a0 ≤ V b0) ∧ (fitB a1 = true ∧ fitB b1 = true ∧ V a1 ≤ V b1) ∧ (fitB c0 = true ∧ fitB d0 = true ∧ V c0 ≤ V d0) ∧ (fitB c1 = true ∧ fitB d1 = true ∧ V c1 ≤ V d1) ∧ (V c0 ≤ V a0 ∧ V b0 ≤ V d0) ∧ (V c1 ≤ V a1 ∧ V b1 ≤ V d1) := by
  obtain ⟨e1, e2, e3, e4⟩ := insB_spec T.i0
  obtain ⟨f1, f2, f3, f4⟩ := insB_spec T.i1
  exact ⟨errS_zero e1, errS_zero f1, errS_zero e2, errS_zero f2, ⟨e3, e4⟩, f3, f4⟩
theorem add_mono {x y u v : Nat} {k l : Int} (h : OpIs (errSS a0 b0 a1 b1) (fun v => V a0 + V a1 - v) (fun v => V b0 + V b1 - v) (.returned (spanE x y k))) (h' : OpIs (errSS c0 d0 c1 d1) (fun v => V c0 + V c1 - v) (fun v => V d0 + V d1 - v) (.returned (spanE u v l))) : k = 0 → l = 0 → insB x y u v = true := by
  obtain ⟨⟨-, -, o1⟩, ⟨-, -, o2⟩, ⟨-, -, o3⟩, ⟨-, -, o4⟩, ⟨m1, m2⟩, m3, m4⟩ := T.facts
  refine fits_of h.all h'.all (fun _ lo hi d u => ?_) (fun _ lo hi d u => ?_) (fun _ _ u => ?_) (fun _ _ u => ?_)
  · have p := d.le _ (List.mem_singleton.2 rfl)
    replace p : 0 ≤ V a0 + V a1 - V lo := p
    have q := u.ge _ (List.mem_singleton.2 rfl)
    replace q : V b0 + V b1 - V hi ≤ 0 := q
    omega
  · have p := d.le _ (List.mem_singleton.2 rfl)
    replace p : 0 ≤ V c0 + V c1 - V lo := p
    have q := u.ge _ (List.mem_singleton.2 rfl)
    replace q : V d0 + V d1 - V hi ≤ 0 := q
    omega
  · rw [one_mem, one_mem]; intro h; show 0 ≤ V a0 + V a1 - u; have : 0 ≤ V c0 + V c1 - u := h; omega
  · rw [one_mem, one_mem]; intro h; show V b0 + V b1 - u ≤ 0; have : V d0 + V d1 - u ≤ 0 := h; omega
theorem mul_mono {x y u v : Nat} {k l : Int} (h : OpAll (errSS a0 b0 a1 b1) [prodC a0 a1, prodC a0 b1, prodC b0 a1, prodC b0 b1] [prodC a0 a1, prodC a0 b1, prodC b0 a1, prodC b0 b1] (.returned (spanE x y k)))
    (h' : OpAll (errSS c0 d0 c1 d1) [prodC c0 c1, prodC c0 d1, prodC d0 c1, prodC d0 d1] [prodC c0 c1, prodC c0 d1, prodC d0 c1, prodC d0 d1] (.returned (spanE u v l))) : k = 0 → l = 0 → insB x y u v = true := by
  obtain ⟨⟨f1, f2, o1⟩, ⟨f3, f4, o2⟩, ⟨f5, f6, o3⟩, ⟨f7, f8, o4⟩, ⟨m1, m2⟩, m3, m4⟩ := T.facts
  refine fits_of h h' (fun _ lo hi d u => ?_) (fun _ lo hi d u => ?_) (fun _ _ u => ?_) (fun _ _ u => ?_)
  · have p : 0 ≤ prodN a0 a1 - V lo := (four_mem.1 d.le).1
    have q : prodN a0 a1 - V hi ≤ 0 := (four_mem.1 u.ge).1
    omega
  · have p : 0 ≤ prodN c0 c1 - V lo := (four_mem.1 d.le).1
    have q : prodN c0 c1 - V hi ≤ 0 := (four_mem.1 u.ge).1
    omega
  · rw [four_mem, four_mem]
    simp only [prod_dn_iff]
    rintro ⟨z1, z2, z3, z4⟩
    exact ⟨corner_le m1 (by omega) m3 (by omega) z1 z2 z3 z4, corner_le m1 (by omega) (by omega) m4 z1 z2 z3 z4, corner_le (by omega) m2 m3 (by omega) z1 z2 z3 z4, corner_le (by omega) m2 (by omega) m4 z1 z2 z3 z4⟩
  · rw [four_mem, four_mem]
    rw [prod_up_iff T.lc0 T.lc1 f5 f7, prod_up_iff T.lc0 T.ld1 f5 f8, prod_up_iff T.ld0 T.lc1 f6 f7, prod_up_iff T.ld0 T.ld1 f6 f8]
    rw [prod_up_iff T.la0 T.la1 f1 f3, prod_up_iff T.la0 T.lb1 f1 f4, prod_up_iff T.lb0 T.la1 f2 f3, prod_up_iff T.lb0 T.lb1 f2 f4]
    rintro ⟨z1, z2, z3, z4⟩
    exact ⟨corner_ge m1 (by omega) m3 (by omega) z1 z2 z3 z4, corner_ge m1 (by omega) (by omega) m4 z1 z2 z3 z4, corner_ge (by omega) m2 m3 (by omega) z1 z2 z3 z4, corner_ge (by omega) m2 (by omega) m4 z1 z2 z3 z4⟩
theorem div_mono {x y u v : Nat} {k l : Int} (h : OpAll (errD a0 b0 a1 b1) [quotC a0 a1, quotC a0 b1, quotC b0 a1, quotC b0 b1] [quotC a0 a1, quotC a0 b1, quotC b0 a1, quotC b0 b1] (.returned (spanE x y k)))
    (h' : OpAll (errD c0 d0 c1 d1) [quotC c0 c1, quotC c0 d1, quotC d0 c1, quotC d0 d1] [quotC c0 c1, quotC c0 d1, quotC d0 c1, quotC d0 d1] (.returned (spanE u v l))) : k = 0 → l = 0 → insB x y u v = true := by
  obtain ⟨⟨f1, f2, o1⟩, ⟨f3, f4, o2⟩, ⟨f5, f6, o3⟩, ⟨f7, f8, o4⟩, ⟨m1, m2⟩, m3, m4⟩ := T.facts
  refine fits_of h h' (fun h0 lo hi d u => ?_) (fun h0 lo hi d u => ?_) (fun h0 h0' u => ?_) (fun h0 h0' u => ?_)
  · have := errD_zero h0 o2
    exact quot_lu' (a := a0) (b := a1) (by omega) (d.le _ (by simp)) (u.ge _ (by simp))
  · have := errD_zero h0 o4
    exact quot_lu' (a := c0) (b := c1) (by omega) (d.le _ (by simp)) (u.ge _ (by simp))
  · have s1 := errD_zero h0 o2
    have s2 := errD_zero h0' o4
    rw [four_mem, four_mem]
    have n1 := MM_mono m1
    have n2 := MM_mono m2
    have n3 := MM_mono o1
    rcases s2 with ⟨p1, p2⟩ | ⟨p1, p2⟩
    · have q1 : 0 < V a1 := by omega
      have q2 : 0 < V b1 := by omega
      rw [quot_lo_pos p1, quot_lo_pos p2, quot_lo_pos p1, quot_lo_pos p2, quot_lo_pos q1, quot_lo_pos q2, quot_lo_pos q1, quot_lo_pos q2]
      rintro ⟨z1, z2, z3, z4⟩
      have y1 := lin_le m3 (show V a1 ≤ V d1 by omega) z1 z2
      have y2 := lin_le (show V c1 ≤ V b1 by omega) m4 z1 z2
      exact ⟨by omega, by omega, by omega, by omega⟩
    · have q1 : V a1 < 0 := by omega
      have q2 : V b1 < 0 := by omega
      rw [quot_lo_neg p1, quot_lo_neg p2, quot_lo_neg p1, quot_lo_neg p2, quot_lo_neg q1, quot_lo_neg q2, quot_lo_neg q1, quot_lo_neg q2]
      rintro ⟨z1, z2, z3, z4⟩
      have y1 := lin_ge m3 (show V a1 ≤ V d1 by omega) z3 z4
      have y2 := lin_ge (show V c1 ≤ V b1 by omega) m4 z3 z4
      exact ⟨by omega, by omega, by omega, by omega⟩
  · have s1 := errD_zero h0 o2
    have s2 := errD_zero h0' o4
    rw [four_mem, four_mem]
    have n1 := MM_mono m1
    have n2 := MM_mono m2
    have n3 := MM_mono o1
    rcases s2 with ⟨p1, p2⟩ | ⟨p1, p2⟩
    · have q1 : 0 < V a1 := by omega
      have q2 : 0 < V b1 := by omega
      rw [quot_up_pos p1, quot_up_pos p2, quot_up_pos p1, quot_up_pos p2, quot_up_pos q1, quot_up_pos q2, quot_up_pos q1, quot_up_pos q2]
      rintro ⟨z1, z2, z3, z4⟩
      have y1 := lin_ge m3 (show V a1 ≤ V d1 by omega) z3 z4
      have y2 := lin_ge (show V c1 ≤ V b1 by omega) m4 z3 z4
      exact ⟨by omega, by omega, by omega, by omega⟩
    · have q1 : V a1 < 0 := by omega
      have q2 : V b1 < 0 := by omega
      rw [quot_up_neg p1, quot_up_neg p2, quot_up_neg p1, quot_up_neg p2, quot_up_neg q1, quot_up_neg q2, quot_up_neg q1, quot_up_neg q2]
      rintro ⟨z1, z2, z3, z4⟩
      have y1 := lin_le m3 (show V a1 ≤ V d1 by omega) z1 z2
      have y2 := lin_le (show V c1 ≤ V b1 by omega) m4 z1 z2
      exact ⟨by omega, by omega, by omega, by omega⟩
end

/-! ### squares and roots -/
structure One (a0 b0 c0 d0 : Nat) : Prop where
  la0 : a0 < 18446744073709551616
  lb0 : b0 < 18446744073709551616
  lc0 : c0 < 18446744073709551616
  ld0 : d0 < 18446744073709551616
  i0 : insB a0 b0 c0 d0 = true
section
variable {a0 b0 c0 d0 : Nat} (T : One a0 b0 c0 d0)
include T
theorem One.facts : (fitB a0 = true ∧ fitB b0 = true ∧ V a0 ≤ V b0) ∧ (fitB c0 = true ∧ fitB d0 = true ∧ V c0 ≤ V d0) ∧ V c0 ≤ V a0 ∧ V b0 ≤ V d0 := by
  obtain ⟨e1, e2, e3, e4⟩ := insB_spec T.i0
  exact ⟨errS_zero e1, errS_zero e2, e3, e4⟩
end
theorem sq_ge {x y : Int} (h0 : y ≤ 0) (h : x ≤ y) : y * y ≤ x * x := by
  have := sq_le (x := -y) (y := -x) (by omega) (by omega)
  rwa [Int.neg_mul_neg, Int.neg_mul_neg] at this
theorem prodN_nn (a : Nat) : 0 ≤ prodN a a := by
  unfold prodN
  refine Int.ediv_nonneg ?_ (Int.le_of_lt (Int.pow_pos (by omega)))
  by_cases h : 0 ≤ V a
  · exact Int.mul_nonneg h h
  · exact Int.mul_nonneg_of_nonpos_of_nonpos (by omega) (by omega)
theorem prodN_le_iff {a b : Nat} {u : Int} : prodC a b u ≤ 0 ↔ prodN a b ≤ u := by unfold prodC; omega
theorem le_prodN_iff {a b : Nat} {u : Int} : 0 ≤ prodC a b u ↔ u ≤ prodN a b := by unfold prodC; omega
theorem sq_le_of {a b : Nat} (le : V a ≤ V b) (lo hi : Nat) (d : DnAll (sqLo a b) lo) (u : UpAll (sqHi a b) hi) : V lo ≤ V hi := by
  unfold sqLo at d
  unfold sqHi at u
  by_cases c1 : 0 ≤ V a
  · rw [if_pos c1] at d u
    have p := le_prodN_iff.1 (d.le _ (List.mem_singleton.2 rfl))
    have q := prodN_le_iff.1 (u.ge _ (List.mem_singleton.2 rfl))
    have := prodN_le (a := a) (b := a) (c := b) (d := b) (sq_le c1 le)
    omega
  · rw [if_neg c1] at d u
    by_cases c2 : V b ≤ 0
    · rw [if_pos c2] at d u
      have p := le_prodN_iff.1 (d.le _ (List.mem_singleton.2 rfl))
      have q := prodN_le_iff.1 (u.ge _ (List.mem_singleton.2 rfl))
      have := prodN_le (a := b) (b := b) (c := a) (d := a) (sq_ge c2 le)
      omega
    · rw [if_neg c2] at d u
      have p := d.le _ (List.mem_singleton.2 rfl)
      replace p : 0 ≤ 0 - V lo := p
      have q := prodN_le_iff.1 (u.ge (prodC a a) (by simp))
      have := prodN_nn a
      omega
theorem sq_dn {a0 b0 c0 d0 : Nat} (o1 : V a0 ≤ V b0) (m1 : V c0 ≤ V a0) (m2 : V b0 ≤ V d0) (u : Int) (h : ∀ c ∈ sqLo c0 d0, 0 ≤ c u) : ∀ d ∈ sqLo a0 b0, 0 ≤ d u := by
  have key : u ≤ prodN a0 a0 ∧ u ≤ prodN b0 b0 ∧ (V a0 < 0 → 0 < V b0 → u ≤ 0) := by
    unfold sqLo at h
    by_cases c1 : 0 ≤ V c0
    · rw [if_pos c1, one_mem, le_prodN_iff] at h
      have h1 := prodN_le (a := c0) (b := c0) (c := a0) (d := a0) (sq_le c1 m1)
      have h2 := prodN_le (a := a0) (b := a0) (c := b0) (d := b0) (sq_le (by omega) o1)
      exact ⟨by omega, by omega, fun _ _ => by omega⟩
    · rw [if_neg c1] at h
      by_cases c2 : V d0 ≤ 0
      · rw [if_pos c2, one_mem, le_prodN_iff] at h
        have h1 := prodN_le (a := d0) (b := d0) (c := b0) (d := b0) (sq_ge c2 m2)
        have h2 := prodN_le (a := b0) (b := b0) (c := a0) (d := a0) (sq_ge (by omega) o1)
        exact ⟨by omega, by omega, fun _ _ => by omega⟩
      · rw [if_neg c2, one_mem] at h
        have h0 : 0 ≤ 0 - u := h
        have := prodN_nn a0
        have := prodN_nn b0
        exact ⟨by omega, by omega, fun _ _ => by omega⟩
  obtain ⟨k1, k2, k3⟩ := key
  unfold sqLo
  by_cases c1 : 0 ≤ V a0
  · rw [if_pos c1, one_mem, le_prodN_iff]; exact k1
  · rw [if_neg c1]
    by_cases c2 : V b0 ≤ 0
    · rw [if_pos c2, one_mem, le_prodN_iff]; exact k2
    · rw [if_neg c2, one_mem]; have := k3 (by omega) (by omega); show 0 ≤ 0 - u; omega
theorem sq_up {a0 b0 c0 d0 : Nat} (o1 : V a0 ≤ V b0) (m1 : V c0 ≤ V a0) (m2 : V b0 ≤ V d0) (u : Int) (h : ∀ c ∈ sqHi c0 d0, c u ≤ 0) : ∀ d ∈ sqHi a0 b0, d u ≤ 0 := by
  have key : prodN a0 a0 ≤ u ∧ prodN b0 b0 ≤ u := by
    have both : prodN c0 c0 ≤ u ∧ prodN d0 d0 ≤ u := by
      unfold sqHi at h
      by_cases c1 : 0 ≤ V c0
      · rw [if_pos c1, one_mem, prodN_le_iff] at h
        have := prodN_le (a := c0) (b := c0) (c := d0) (d := d0) (sq_le c1 (by omega))
        exact ⟨by omega, h⟩
      · rw [if_neg c1] at h
        by_cases c2 : V d0 ≤ 0
        · rw [if_pos c2, one_mem, prodN_le_iff] at h
          have := prodN_le (a := d0) (b := d0) (c := c0) (d := c0) (sq_ge c2 (by omega))
          exact ⟨h, by omega⟩
        · rw [if_neg c2, two_mem, prodN_le_iff, prodN_le_iff] at h
          exact h
    have q1 : ∀ x : Nat, V c0 ≤ V x → V x ≤ V d0 → prodN x x ≤ u := fun x h1 h2 => by
      by_cases c : 0 ≤ V x
      · exact Int.le_trans (prodN_le (sq_le c h2)) both.2
      · exact Int.le_trans (prodN_le (sq_ge (by omega) h1)) both.1
    exact ⟨q1 a0 m1 (by omega), q1 b0 (by omega) m2⟩
  unfold sqHi
  by_cases c1 : 0 ≤ V a0
  · rw [if_pos c1, one_mem, prodN_le_iff]; exact key.2
  · rw [if_neg c1]
    by_cases c2 : V b0 ≤ 0
    · rw [if_pos c2, one_mem, prodN_le_iff]; exact key.1
    · rw [if_neg c2, two_mem, prodN_le_iff, prodN_le_iff]; exact key
section
variable {a0 b0 c0 d0 : Nat} (T : One a0 b0 c0 d0)
include T
theorem square_mono {x y u v : Nat} {k l : Int} (h : OpAll (errS a0 b0) (sqLo a0 b0) (sqHi a0 b0) (.returned (spanE x y k))) (h' : OpAll (errS c0 d0) (sqLo c0 d0) (sqHi c0 d0) (.returned (spanE u v l))) : k = 0 → l = 0 → insB x y u v = true := by
  obtain ⟨⟨-, -, o1⟩, ⟨-, -, o2⟩, m1, m2⟩ := T.facts
  exact fits_of h h' (fun _ => sq_le_of o1) (fun _ => sq_le_of o2) (fun _ _ => sq_dn o1 m1 m2) (fun _ _ => sq_up o1 m1 m2)
theorem root_mono {x y u v : Nat} {k l : Int} (h : OpIs (errR a0 b0) (rootC a0) (rootC b0) (.returned (spanE x y k))) (h' : OpIs (errR c0 d0) (rootC c0) (rootC d0) (.returned (spanE u v l))) : k = 0 → l = 0 → insB x y u v = true := by
  obtain ⟨⟨-, -, o1⟩, ⟨-, -, o2⟩, m1, m2⟩ := T.facts
  have n1 := MM_mono m1
  have n2 := MM_mono m2
  unfold MM at n1 n2
  refine fits_of h.all h'.all (fun _ lo hi d u => root_le o1 (d.le _ (List.mem_singleton.2 rfl)) (u.ge _ (List.mem_singleton.2 rfl))) (fun _ lo hi d u => root_le o2 (d.le _ (List.mem_singleton.2 rfl)) (u.ge _ (List.mem_singleton.2 rfl))) (fun _ _ u => ?_) (fun _ _ u => ?_)
  · rw [one_mem, one_mem]
    unfold rootC
    by_cases c : u < 0
    · rw [if_pos c, if_pos c]; exact id
    · rw [if_neg c, if_neg c]; intro hh; omega
  · rw [one_mem, one_mem]
    unfold rootC
    by_cases c : u < 0
    · rw [if_pos c, if_pos c]; exact id
    · rw [if_neg c, if_neg c]; intro hh; omega
end

/-! ### the law's fits -/
end Go.Proofs.Ytgnofnjbmiepjaa
