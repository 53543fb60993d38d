/- Proved here: what the texts Reg, Rgk, Rgl prove, one behind the other. -/
import Derived.Deep.RegionHeld3
import Derived.Calls
import Derived.WalkKit

namespace Go.Proofs.YtocnpcjpkieogaaGreatDoor
open Go

/-- the frame behind those that have come up: what each has left, in the order of the text -/
def puts : List (Option Tmp) → List (Option Value) → Act → Act
  | d :: ds, some v :: L, a => puts ds L (a.put d v)
  | _ :: ds, none :: L, a => puts ds L a
  | _, _, a => a
def apartL : List (Option Tmp) → Bool
  | [] => true
  | none :: r => apartL r
  | some x :: r => !r.contains (some x) && apartL r
theorem put_size (a : Act) (d : Option Tmp) (v : Value) : (a.put d v).tmps.size = a.tmps.size := by cases d <;> simp [Act.put]
theorem puts_put {v : Value} {d : Option Tmp} : ∀ (ds : List (Option Tmp)) (L : List (Option Value)) (a : Act), (∀ x, d = some x → some x ∉ ds) → (puts ds L a).put d v = puts ds L (a.put d v)
  | [], _, _, _ => by simp [puts]
  | _ :: _, [], _, _ => by simp [puts]
  | e :: ds, none :: L, a, h => by simp only [puts]; exact puts_put ds L a fun x hx hm => h x hx (List.mem_cons_of_mem _ hm)
  | e :: ds, some u :: L, a, h => by
    simp only [puts]
    rw [puts_put ds L _ fun x hx hm => h x hx (List.mem_cons_of_mem _ hm)]
    rw [Act.put_comm a u v (x := e) (y := d)]
    intro x hx hd
    exact h x hd (by rw [hx]; exact List.mem_cons_self ..)
theorem puts_set {v : Value} : ∀ (i : Nat) (ds : List (Option Tmp)) (L : List (Option Value)) (a : Act) {d : Option Tmp}, apartL ds = true → ds[i]? = some d → L[i]? = some none → (puts ds L a).put d v = puts ds (L.set i (some v)) a
  | 0, [], _, _, _, _, h, _ => by simp at h
  | 0, _ :: _, [], _, _, _, _, h => by simp at h
  | 0, e :: ds, l :: L, a, d, hap, h, hl => by
    simp only [List.getElem?_cons_zero, Option.some.injEq] at h hl
    subst h hl
    simp only [puts, List.set_cons_zero]
    refine puts_put ds L a fun x hx hm => ?_
    subst hx
    simp only [apartL, Bool.and_eq_true, Bool.not_eq_true'] at hap
    have := hap.1
    rw [List.contains_eq_mem, decide_eq_false_iff_not] at this
    exact this hm
  | i + 1, [], _, _, _, _, h, _ => by simp at h
  | i + 1, _ :: _, [], _, _, _, _, h => by simp at h
  | i + 1, e :: ds, l :: L, a, d, hap, h, hl => by
    simp only [List.getElem?_cons_succ] at h hl
    have hap' : apartL ds = true := by
      cases e with
      | none => simpa [apartL] using hap
      | some x => simp only [apartL, Bool.and_eq_true] at hap; exact hap.2
    cases l with
    | none => simp only [puts, List.set_cons_succ]; exact puts_set i ds L a hap' h hl
    | some u => simp only [puts, List.set_cons_succ]; exact puts_set i ds L _ hap' h hl
/-- an old slot -/
theorem puts_old {t : Tmp} : ∀ (ds : List (Option Tmp)) (L : List (Option Value)) (a : Act), some t ∉ ds → (puts ds L a).eval (.tmp t) = a.eval (.tmp t)
  | [], _, _, _ => by simp [puts]
  | _ :: _, [], _, _ => by simp [puts]
  | _ :: ds, none :: L, a, h => by simp only [puts]; exact puts_old ds L a fun hm => h (List.mem_cons_of_mem _ hm)
  | e :: ds, some v :: L, a, h => by
    simp only [puts]
    rw [puts_old ds L _ fun hm => h (List.mem_cons_of_mem _ hm)]
    exact Act.eval_put fun d hd hx => by
      rw [Operand.tmp.injEq] at hx
      subst hx hd
      exact h (List.mem_cons_self ..)
theorem put_get {a : Act} {t : Tmp} {v : Value} (h : t < a.tmps.size) : (a.put (some t) v).eval (.tmp t) = v := by
  simp [Act.put, Act.eval, h]
/-- what has come up lies in its slot -/
theorem puts_get {t : Tmp} {v : Value} : ∀ (i : Nat) (ds : List (Option Tmp)) (L : List (Option Value)) (a : Act), apartL ds = true → ds[i]? = some (some t) → L[i]? = some (some v) → t < a.tmps.size → (puts ds L a).eval (.tmp t) = v
  | 0, [], _, _, _, h, _, _ => by simp at h
  | 0, _ :: _, [], _, _, _, h, _ => by simp at h
  | 0, e :: ds, l :: L, a, hap, h, hl, hs => by
    simp only [List.getElem?_cons_zero, Option.some.injEq] at h hl
    subst h hl
    simp only [puts]
    simp only [apartL, Bool.and_eq_true, Bool.not_eq_true'] at hap
    have := hap.1
    rw [List.contains_eq_mem, decide_eq_false_iff_not] at this
    rw [puts_old ds L _ this, put_get hs]
  | i + 1, [], _, _, _, h, _, _ => by simp at h
  | i + 1, _ :: _, [], _, _, _, h, _ => by simp at h
  | i + 1, e :: ds, l :: L, a, hap, h, hl, hs => by
    simp only [List.getElem?_cons_succ] at h hl
    have hap' : apartL ds = true := by
      cases e with
      | none => simpa [apartL] using hap
      | some x => simp only [apartL, Bool.and_eq_true] at hap; exact hap.2
    cases l with
    | none => simp only [puts]; exact puts_get i ds L a hap' h hl hs
    | some u => simp only [puts]; exact puts_get i ds L _ hap' h hl (by rw [put_size]; exact hs)

/-! ### the walk over all orders -/
def lst (L : List (Option Value)) : Array Bool := (L.map Option.isSome).toArray
theorem lst_set {L : List (Option Value)} {i : Nat} {v : Value} : (lst L).setIfInBounds i true = lst (L.set i (some v)) := by
  unfold lst
  simp [List.setIfInBounds_toArray, List.map_set]
theorem lst_true {L : List (Option Value)} {i : Nat} (h : (lst L).getD i false = true) : ∃ v, L[i]? = some (some v) := by
  unfold lst at h
  simp only [Array.getD_eq_getD_getElem?, List.getElem?_toArray, List.getElem?_map] at h
  cases hl : L[i]? with
  | none => rw [hl] at h; simp at h
  | some o => cases o with
    | none => rw [hl] at h; simp at h
    | some v => exact ⟨v, rfl⟩
theorem lst_false {L : List (Option Value)} {i : Nat} (h : (lst L).getD i true = false) : L[i]? = some none := by
  unfold lst at h
  simp only [Array.getD_eq_getD_getElem?, List.getElem?_toArray, List.getElem?_map] at h
  cases hl : L[i]? with
  | none => rw [hl] at h; simp at h
  | some o => cases o with
    | none => rfl
    | some v => rw [hl] at h; simp at h
/-- how many have not come up -/
def open_ : List (Option Value) → Nat
  | [] => 0
  | none :: L => open_ L + 1
  | some _ :: L => open_ L
theorem open_set {v : Value} : ∀ (i : Nat) (L : List (Option Value)), L[i]? = some none → open_ (L.set i (some v)) + 1 = open_ L
  | 0, [], h => by simp at h
  | 0, l :: L, h => by
    simp only [List.getElem?_cons_zero, Option.some.injEq] at h
    subst h; rfl
  | i + 1, [], h => by simp at h
  | i + 1, l :: L, h => by
    simp only [List.getElem?_cons_succ] at h
    have := open_set (v := v) i L h
    cases l with
    | none => simp only [List.set_cons_succ, open_]; omega
    | some u => simp only [List.set_cons_succ, open_]; omega
theorem open_zero : ∀ (L : List (Option Value)), open_ L = 0 → ∀ i, i < L.length → ∃ v, L[i]? = some (some v)
  | [], _, i, h => by simp at h
  | none :: L, h0, _, _ => by simp [open_] at h0
  | some v :: L, h0, 0, _ => ⟨v, rfl⟩
  | some v :: L, h0, i + 1, h => by
    simp only [List.getElem?_cons_succ]
    exact open_zero L h0 i (by simpa using h)
def backward (ops : Array Oper) : Bool := (List.range ops.size).all fun i => ((ops[i]?).map (·.after.all fun e => !Region.binds .any e || decide (e.on < i))).getD true
def plainL (ops : Array Oper) : Bool := (List.range ops.size).all fun i => ((ops[i]?).map (·.guard.isNone)).getD true

section
variable {P : Program} {ops : Array Oper} {Q : Exit → Act → World → Prop}
theorem ready_all (hb : backward ops = true) {L : List (Option Value)} (hL : L.length = ops.size) (hr : Region.ready .any ops (lst L) = []) : ∀ n i, i < n → i < ops.size → ∃ v, L[i]? = some (some v) := by
  intro n
  induction n with
  | zero => intro i h; omega
  | succ n ih =>
    intro i hi hs
    by_cases hin : i < n
    · exact ih i hin hs
    · obtain rfl : i = n := by omega
      have hx : i ∉ Region.ready .any ops (lst L) := by rw [hr]; exact List.not_mem_nil
      cases hl : L[i]? with
      | none => rw [List.getElem?_eq_none_iff] at hl; omega
      | some o => cases o with
        | some v => exact ⟨v, rfl⟩
        | none =>
          refine absurd (mem_ready.2 ⟨?_, ops[i], Array.getElem?_eq_getElem hs, fun e he hbd => ?_⟩) hx
          · unfold lst; simp [Array.getD_eq_getD_getElem?, hl]
          · have hlt : e.on < i := by
              have h1 := (List.all_eq_true.1 hb) i (List.mem_range.2 hs)
              rw [Array.getElem?_eq_getElem hs] at h1
              simp only [Option.map_some, Option.getD_some, Array.all_eq_true] at h1
              obtain ⟨k, hk, rfl⟩ := Array.mem_iff_getElem.1 he
              have h2 := h1 k hk
              simpa [hbd] using h2
            obtain ⟨v, hv⟩ := ih e.on hlt (by omega)
            unfold lst; simp [Array.getD_eq_getD_getElem?, hv]
theorem wpAny_inv (ds : List (Option Tmp)) (hds : ops.toList.map (·.dst) = ds) (hap : apartL ds = true) (hb : backward ops = true) (hg : plainL ops = true) (a0 : Act) (W : List (Option Value) → World → Prop)
    (step : ∀ (L : List (Option Value)) (w : World) (i : Nat) (o : Oper), L.length = ops.size → ops[i]? = some o → L[i]? = some none → (∀ e ∈ o.after, Region.binds .any e = true → ∃ v, L[e.on]? = some (some v)) → W L w →
      o.wp P (puts ds L a0) w (fun a' w' => ∃ v, a' = (puts ds L a0).put o.dst v ∧ W (L.set i (some v)) w') Q)
    (fin : ∀ L w, L.length = ops.size → (∀ i, i < ops.size → ∃ v, L[i]? = some (some v)) → W L w → Q .normal (puts ds L a0) w) :
    ∀ fuel L w, L.length = ops.size → open_ L ≤ fuel → W L w → wpAny P .any ops Q fuel (lst L) (puts ds L a0) w := by
  intro fuel
  induction fuel with
  | zero =>
    intro L w hL ho hW
    have hall := open_zero L (by omega)
    refine ⟨?_, fin L w hL (fun i hi => hall i (by omega)) hW⟩
    refine List.eq_nil_iff_forall_not_mem.2 fun i hi => ?_
    obtain ⟨h1, oi, h2, -⟩ := mem_ready.1 hi
    have h3 := lst_false h1
    obtain ⟨v, hv⟩ := hall i (by have := (Array.getElem?_eq_some_iff.1 h2).1; omega)
    rw [hv] at h3; simp at h3
  | succ fuel ih =>
    intro L w hL ho hW
    refine ⟨fun hr => fin L w hL (fun i hi => ready_all hb hL hr (i + 1) i (by omega) hi) hW, fun i hi => ?_⟩
    obtain ⟨h1, o, h2, h3⟩ := mem_ready.1 hi
    have h4 := lst_false h1
    have his := (Array.getElem?_eq_some_iff.1 h2).1
    have hgi : o.guard = none := by
      have := (List.all_eq_true.1 hg) i (List.mem_range.2 his)
      rw [h2] at this
      simpa using this
    have hdi : ds[i]? = some o.dst := by rw [← hds, List.getElem?_map]; simp [h2]
    have s := step L w i o hL h2 h4 (fun e he hbd => lst_true (h3 e he hbd)) hW
    unfold wpOp
    rw [h2]
    simp only [Region.wanted, hgi, if_true]
    refine Or.inl (Oper.wp_mono (fun a' w' hh => ?_) s)
    obtain ⟨v, rfl, hW'⟩ := hh
    rw [puts_set i ds L a0 hap hdi h4, lst_set (v := v)]
    exact ih _ w' (by simpa using hL) (by have := open_set (v := v) i L h4; omega) hW'
def nones (n : Nat) : List (Option Value) := List.replicate n none
theorem puts_nones (n : Nat) : ∀ (ds : List (Option Tmp)) (a : Act), puts ds (nones n) a = a := by
  unfold nones
  induction n with
  | zero => intro ds a; cases ds <;> rfl
  | succ n ih => intro ds a; cases ds with
    | nil => rfl
    | cons d ds => simp only [List.replicate_succ, puts]; exact ih ds a
theorem open_nones (n : Nat) : open_ (nones n) = n := by
  unfold nones
  induction n with
  | zero => rfl
  | succ n ih => simp only [List.replicate_succ, open_, ih]
theorem wp_region_inv {id : Nat} {a0 : Act} {w : World} (hm : P.follows .mixedOrders = true) (ds : List (Option Tmp)) (hds : ops.toList.map (·.dst) = ds) (hap : apartL ds = true) (hb : backward ops = true) (hg : plainL ops = true)
    (W : List (Option Value) → World → Prop) (start : W (nones ops.size) w.drew)
    (step : ∀ (L : List (Option Value)) (w : World) (i : Nat) (o : Oper), L.length = ops.size → ops[i]? = some o → L[i]? = some none → (∀ e ∈ o.after, Region.binds .any e = true → ∃ v, L[e.on]? = some (some v)) → W L w →
      o.wp P (puts ds L a0) w (fun a' w' => ∃ v, a' = (puts ds L a0).put o.dst v ∧ W (L.set i (some v)) w') Q)
    (fin : ∀ L w, L.length = ops.size → (∀ i, i < ops.size → ∃ v, L[i]? = some (some v)) → W L w → Q .normal (puts ds L a0) w) : (Code.region id ops true).wp P Q a0 w := by
  have h := wpAny_inv ds hds hap hb hg a0 W step fin ops.size (nones ops.size) w.drew (by simp [nones]) (by rw [open_nones]; exact Nat.le_refl _) start
  rw [puts_nones] at h
  have e : lst (nones ops.size) = Array.replicate ops.size false := by unfold lst nones; simp
  rw [e] at h
  exact wp_region_any hm h

/-! ### operations that may not be wanted; regions whose values hang on nothing that is drawn -/
/-- those that it waits for -/
def waits (o : Oper) (k : Nat) : Bool := o.after.toList.any fun e => e.on == k && Region.binds .any e
end
end Go.Proofs.YtocnpcjpkieogaaGreatDoor

namespace Go.Proofs.YtocnpcjpkieogaaGreatDoor
open Go Go.RowKit

theorem nones_getK (n i : Nat) (v : Value) : (nones n)[i]? ≠ some (some v) := by unfold nones; simp [List.getElem?_replicate]
def doneK (L : List (Option Value)) (i : Nat) : Prop := ∃ v, L[i]? = some (some v)
def waitsAtK (ops : Array Oper) (i k : Nat) : Bool := ((ops[i]?).map fun o => waits o k).getD false
def ClosedK (ops : Array Oper) (L : List (Option Value)) : Prop := ∀ i k, doneK L i → waitsAtK ops i k = true → doneK L k
theorem done_setK {L : List (Option Value)} {i : Nat} {v : Value} (hn : L[i]? = some none) (k : Nat) : doneK (L.set i (some v)) k ↔ k = i ∨ doneK L k := by
  unfold doneK
  have hl : i < L.length := (List.getElem?_eq_some_iff.1 hn).1
  by_cases e : k = i
  · subst e; rw [List.getElem?_set_self hl]; simp
  · rw [List.getElem?_set_ne (Ne.symm e)]; simp [e]
theorem ClosedK.set {ops : Array Oper} {L : List (Option Value)} (C : ClosedK ops L) {i : Nat} {o : Oper} {v : Value} (ho : ops[i]? = some o) (hn : L[i]? = some none)
    (hd : ∀ e ∈ o.after, Region.binds .any e = true → ∃ v, L[e.on]? = some (some v)) : ClosedK ops (L.set i (some v)) := by
  intro k m dk wk
  rw [done_setK hn] at dk ⊢
  rcases dk with rfl | dk
  · right
    unfold waitsAtK at wk
    rw [ho] at wk
    simp only [Option.map_some, Option.getD_some] at wk
    unfold waits at wk
    rw [List.any_eq_true] at wk
    obtain ⟨e, he, h2⟩ := wk
    simp only [Bool.and_eq_true, beq_iff_eq] at h2
    have := hd e (Array.mem_toList_iff.1 he) h2.2
    rw [h2.1] at this
    exact this
  · exact .inr (C k m dk wk)
theorem ClosedK.none (ops : Array Oper) (n : Nat) : ClosedK ops (nones n) := by
  intro i k h
  obtain ⟨v, hv⟩ := h
  exact absurd hv (nones_getK _ _ _)
theorem waits_doneK {ops : Array Oper} {L : List (Option Value)} {o : Oper} {i k : Nat} (ho : ops[i]? = some o) (hw : waitsAtK ops i k = true) (hd : ∀ e ∈ o.after, Region.binds .any e = true → ∃ v, L[e.on]? = some (some v)) : doneK L k := by
  unfold waitsAtK at hw
  rw [ho] at hw
  simp only [Option.map_some, Option.getD_some] at hw
  unfold waits at hw
  rw [List.any_eq_true] at hw
  obtain ⟨e, he, h2⟩ := hw
  simp only [Bool.and_eq_true, beq_iff_eq] at h2
  have := hd e (Array.mem_toList_iff.1 he) h2.2
  rw [h2.1] at this
  exact this
/-- what an operation comes to: a value, or a call's answer; the world stands -/
inductive CameK (P : Program) (o : Oper) (a : Act) (w : World) (v : Value) : Prop
  | value (r : (execOp a.eval o).run P w = .ok (.value v) w)
  | call (f : FuncId) (args : Array Value) (r : (execOp a.eval o).run P w = .ok (.enter f args) w) (k : Calls P f args w fun e w' => e = .returned v ∧ w = w')
section
variable {P : Program} {ops : Array Oper} {Q : Exit → Act → World → Prop}
end
end Go.Proofs.YtocnpcjpkieogaaGreatDoor

namespace Go.Proofs.YtocnpcjpkieogaaGreatDoor
open Go Go.RowKit

section
variable {P : Program} {ops : Array Oper} {Q : Exit → Act → World → Prop}
/-- each of tl waits for the call or for another of tl -/
def tailB (ops : Array Oper) (ic : Nat) (tl : List Nat) : Bool := tl.all fun i => (List.range ops.size).any fun k => waitsAtK ops i k && (k == ic || tl.contains k)
/-- each of the others is waited for by the call or by another one of the others that stands behind it -/
def headB (ops : Array Oper) (ic : Nat) (tl : List Nat) : Bool := (List.range ops.size).all fun h => h == ic || tl.contains h || (List.range ops.size).any fun k => waitsAtK ops k h && (k == ic || (decide (h < k) && !tl.contains k))
theorem head_done {ic : Nat} {tl : List Nat} (hh : headB ops ic tl = true) {L : List (Option Value)} (hc : ClosedK ops L) (hic : ic < ops.size) (dic : doneK L ic) : ∀ n h, ops.size - h ≤ n → h < ops.size → tl.contains h = false → doneK L h := by
  intro n
  induction n with
  | zero => intro h h1 h2; omega
  | succ n ih =>
    intro h h1 h2 h3
    have q := List.all_eq_true.1 hh h (List.mem_range.2 h2)
    simp only [Bool.or_eq_true, beq_iff_eq, h3, Bool.false_eq_true, or_false] at q
    rcases q with q | q
    · rw [q]; exact dic
    · obtain ⟨k, hk, q⟩ := List.any_eq_true.1 q
      simp only [Bool.and_eq_true, Bool.or_eq_true, beq_iff_eq, decide_eq_true_eq, Bool.not_eq_true'] at q
      obtain ⟨q1, q2⟩ := q
      rcases q2 with rfl | ⟨q2, q3⟩
      · exact hc _ _ dic q1
      · exact hc _ _ (ih k (by omega) (List.mem_range.1 hk) q3) q1
theorem tail_not {ic : Nat} {tl : List Nat} (ht : tailB ops ic tl = true) {L : List (Option Value)} (hc : ClosedK ops L) (nd : ¬ doneK L ic) (hb : backward ops = true) : ∀ n i, i < n → tl.contains i = true → ¬ doneK L i := by
  intro n
  induction n with
  | zero => intro i h; omega
  | succ n ih =>
    intro i hi hti di
    have q := List.all_eq_true.1 ht i (List.contains_iff_mem.1 hti)
    obtain ⟨k, hk, q⟩ := List.any_eq_true.1 q
    simp only [Bool.and_eq_true, Bool.or_eq_true, beq_iff_eq] at q
    obtain ⟨q1, q2⟩ := q
    have dk := hc _ _ di q1
    rcases q2 with rfl | q2
    · exact nd dk
    · have hlt : k < i := by
        unfold waitsAtK at q1
        cases ho : ops[i]? with
        | none => rw [ho] at q1; simp at q1
        | some o =>
          rw [ho] at q1
          simp only [Option.map_some, Option.getD_some] at q1
          unfold waits at q1
          rw [List.any_eq_true] at q1
          obtain ⟨e, he, h2⟩ := q1
          simp only [Bool.and_eq_true, beq_iff_eq] at h2
          have h1 := (List.all_eq_true.1 hb) i (List.mem_range.2 (Array.getElem?_eq_some_iff.1 ho).1)
          rw [ho] at h1
          simp only [Option.map_some, Option.getD_some, Array.all_eq_true] at h1
          obtain ⟨m, hm, rfl⟩ := Array.mem_iff_getElem.1 (Array.mem_toList_iff.1 he)
          have h3 := h1 m hm
          rw [← h2.1]
          simpa [h2.2] using h3
      exact ih k (by omega) q2 dk
theorem wp_region_mid {Z : Type} {id : Nat} {a0 : Act} {W : World} (ic : Nat) (tl : List Nat) (dv : List Value) (dz : Z → List Value) (R : Z → World → Prop) (ds : List (Option Tmp))
    (hm : P.follows .mixedOrders = true) (hds : ops.toList.map (·.dst) = ds) (hap : apartL ds = true) (hb : backward ops = true) (hg : plainL ops = true) (hl : ∀ z, (dz z).length = ops.size)
    (hic : ic < ops.size) (ht : tailB ops ic tl = true) (hh : headB ops ic tl = true) (hnt : tl.contains ic = false)
    (same : ∀ z k, k ≠ ic → tl.contains k = false → (dz z).getD k undef = dv.getD k undef)
    (step : ∀ (L : List (Option Value)) (i : Nat) (o : Oper), ops[i]? = some o → i ≠ ic → tl.contains i = false → (∀ k, waits o k = true → L[k]? = some (some (dv.getD k undef))) → CameK P o (puts ds L a0) W.drew (dv.getD i undef))
    (call : ∀ (L : List (Option Value)) (o : Oper), ops[ic]? = some o → (∀ k, waits o k = true → L[k]? = some (some (dv.getD k undef))) → ∃ f args, (execOp (puts ds L a0).eval o).run P W.drew = .ok (.enter f args) W.drew ∧ Calls P f args W.drew fun e w' => ∃ z, e = .returned ((dz z).getD ic undef) ∧ R z w')
    (after : ∀ (z : Z) (L : List (Option Value)) (w : World) (i : Nat) (o : Oper), R z w → ops[i]? = some o → tl.contains i = true → (∀ k, waits o k = true → L[k]? = some (some ((dz z).getD k undef))) → (execOp (puts ds L a0).eval o).run P w = .ok (.value ((dz z).getD i undef)) w)
    (fin : ∀ z w, R z w → Q .normal (puts ds ((dz z).map some) a0) w) : (Code.region id ops true).wp P Q a0 W := by
  refine wp_region_inv hm ds hds hap hb hg (fun L w => ClosedK ops L ∧ ((¬ doneK L ic ∧ w = W.drew ∧ ∀ i v, L[i]? = some (some v) → v = dv.getD i undef) ∨ (doneK L ic ∧ ∃ z, R z w ∧ ∀ i v, L[i]? = some (some v) → v = (dz z).getD i undef))) ?_ ?_ ?_
  · exact ⟨ClosedK.none _ _, .inl ⟨fun ⟨v, hv⟩ => absurd hv (nones_getK _ _ _), rfl, fun i v h => absurd h (nones_getK _ _ _)⟩⟩
  · intro L w i o hL ho hn hd ⟨hcl, hK⟩
    have his := (Array.getElem?_eq_some_iff.1 ho).1
    have hil : i < L.length := by omega
    have nd : ¬ doneK L i := fun ⟨v, hv⟩ => by rw [hn] at hv; simp at hv
    have wd : ∀ k, waits o k = true → ∃ v, L[k]? = some (some v) := fun k hk => by
      unfold waits at hk
      rw [List.any_eq_true] at hk
      obtain ⟨e, he, h2⟩ := hk
      simp only [Bool.and_eq_true, beq_iff_eq] at h2
      obtain ⟨v, hv⟩ := hd e (Array.mem_toList_iff.1 he) h2.2
      rw [h2.1] at hv
      exact ⟨v, hv⟩
    have put : ∀ {f : Nat → Value} (v : Value), v = f i → (∀ k u, L[k]? = some (some u) → u = f k) → ∀ k u, (L.set i (some v))[k]? = some (some u) → u = f k := fun v hv h k u hk => by
      by_cases e : i = k
      · subst e
        rw [List.getElem?_set_self hil] at hk
        rw [← Option.some.inj (Option.some.inj hk)]; exact hv
      · rw [List.getElem?_set_ne e] at hk; exact h k u hk
    rcases hK with ⟨n1, rfl, hdet⟩ | ⟨d1, z, hR, hdet⟩
    · have wv : ∀ k, waits o k = true → L[k]? = some (some (dv.getD k undef)) := fun k hk => by
        obtain ⟨v, hv⟩ := wd k hk
        rw [hv, hdet k v hv]
      by_cases ei : i = ic
      · subst ei
        obtain ⟨f, args, r, c⟩ := call L o ho wv
        unfold Oper.wp; rw [r]
        refine Calls.mono c fun e w' hz => ?_
        obtain ⟨z, rfl, hR⟩ := hz
        refine ⟨_, rfl, hcl.set ho hn hd, .inr ⟨(done_setK hn _).2 (.inl rfl), z, hR, ?_⟩⟩
        intro k u hk
        by_cases e : i = k
        · subst e
          rw [List.getElem?_set_self hil] at hk
          rw [← Option.some.inj (Option.some.inj hk)]
        · rw [List.getElem?_set_ne e] at hk
          have htk : tl.contains k = false := by
            rw [← Bool.not_eq_true]
            intro h
            exact tail_not ht hcl n1 hb (k + 1) k (by omega) h ⟨u, hk⟩
          rw [same z k (Ne.symm e) htk]
          exact hdet k u hk
      · have hti : tl.contains i = false := by
          rw [← Bool.not_eq_true]
          intro h
          have q := List.all_eq_true.1 ht i (List.contains_iff_mem.1 h)
          obtain ⟨k, _, q⟩ := List.any_eq_true.1 q
          simp only [Bool.and_eq_true, Bool.or_eq_true, beq_iff_eq] at q
          have dk := waits_doneK ho q.1 hd
          rcases q.2 with q2 | q2
          · rw [q2] at dk; exact n1 dk
          · exact tail_not ht hcl n1 hb (k + 1) k (by omega) q2 dk
        have n2 : ∀ v, ¬ doneK (L.set i (some v)) ic := fun v h => by
          rw [done_setK hn] at h
          rcases h with h | h
          · exact ei h.symm
          · exact n1 h
        rcases step L i o ho ei hti wv with r | ⟨f, args, r, c⟩
        · unfold Oper.wp; rw [r]
          exact ⟨_, rfl, hcl.set ho hn hd, .inl ⟨n2 _, rfl, put (f := fun k => dv.getD k undef) _ rfl hdet⟩⟩
        · unfold Oper.wp; rw [r]
          refine Calls.mono c fun e w' hz => ?_
          obtain ⟨rfl, rfl⟩ := hz
          exact ⟨_, rfl, hcl.set ho hn hd, .inl ⟨n2 _, rfl, put (f := fun k => dv.getD k undef) _ rfl hdet⟩⟩
    · have hti : tl.contains i = true := by
        rw [← Bool.not_eq_false]
        intro h
        exact nd (head_done hh hcl hic d1 _ i (Nat.le_refl _) his h)
      have wv : ∀ k, waits o k = true → L[k]? = some (some ((dz z).getD k undef)) := fun k hk => by
        obtain ⟨v, hv⟩ := wd k hk
        rw [hv, hdet k v hv]
      have r := after z L w i o hR ho hti wv
      unfold Oper.wp; rw [r]
      exact ⟨_, rfl, hcl.set ho hn hd, .inr ⟨(done_setK hn _).2 (.inr d1), z, hR, put (f := fun k => (dz z).getD k undef) _ rfl hdet⟩⟩
  · intro L w hL hallv ⟨_, hK⟩
    rcases hK with ⟨n1, _⟩ | ⟨_, z, hR, hdet⟩
    · exact absurd (hallv ic hic) n1
    · have eL : L = (dz z).map some := by
        refine List.ext_getElem? fun i => ?_
        by_cases hi : i < ops.size
        · obtain ⟨v, hv⟩ := hallv i hi
          rw [hv, hdet i v hv]
          simp [List.getD, hl z, hi]
        · rw [List.getElem?_eq_none (by omega), List.getElem?_eq_none (by simp [hl z]; omega)]
      rw [eL]
      exact fin z w hR
end
end Go.Proofs.YtocnpcjpkieogaaGreatDoor
