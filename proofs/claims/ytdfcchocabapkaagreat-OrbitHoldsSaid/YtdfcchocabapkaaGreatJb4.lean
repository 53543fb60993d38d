/- Proved here: what the texts Reg, Rop, Cor, Smd, Cls, Sml4 prove, one behind the other. -/
import Derived.Deep.RegionHeld3
import Derived.Test.YtdfcchocabapkaaGreatJb3
import Derived.BigQuiet
import Derived.Deep.CutRange

set_option maxRecDepth 100000
set_option maxHeartbeats 4000000
namespace Go.Proofs.YtdfcchocabapkaaGreat
open Go

def puts : List (Option Tmp) → List (Option Value) → Act → Act
 | d :: ds, some v :: L, a => puts ds L (a.put d v)
 | _ :: ds, none :: L, a => puts ds L a
 | _, _, a => a
def apartL : List (Option Tmp) → Bool
 | [] => true
 | none :: r => apartL r
 | some x :: r => !r.contains (some x) && apartL r
theorem put_size (a : Act) (d : Option Tmp) (v : Value) : (a.put d v).tmps.size = a.tmps.size := by cases d <;> simp [Act.put]
theorem puts_put {v : Value} {d : Option Tmp} : ∀ (ds : List (Option Tmp)) (L : List (Option Value)) (a : Act), (∀ x, d = some x → some x ∉ ds) → (puts ds L a).put d v = puts ds L (a.put d v)
 | [], _, _, _ => by simp [puts]
 | _ :: _, [], _, _ => by simp [puts]
 | e :: ds, none :: L, a, h => by simp only [puts]; exact puts_put ds L a fun x hx hm => h x hx (List.mem_cons_of_mem _ hm)
 | e :: ds, some u :: L, a, h => by
   simp only [puts]
   rw [puts_put ds L _ fun x hx hm => h x hx (List.mem_cons_of_mem _ hm)]
   rw [Act.put_comm a u v (x := e) (y := d)]
   intro x hx hd
   exact h x hd (by rw [hx]; exact List.mem_cons_self ..)
theorem puts_set {v : Value} : ∀ (i : Nat) (ds : List (Option Tmp)) (L : List (Option Value)) (a : Act) {d : Option Tmp}, apartL ds = true → ds[i]? = some d → L[i]? = some none → (puts ds L a).put d v = puts ds (L.set i (some v)) a
 | 0, [], _, _, _, _, h, _ => by simp at h
 | 0, _ :: _, [], _, _, _, _, h => by simp at h
 | 0, e :: ds, l :: L, a, d, hap, h, hl => by
   simp only [List.getElem?_cons_zero, Option.some.injEq] at h hl
   subst h hl
   simp only [puts, List.set_cons_zero]
   refine puts_put ds L a fun x hx hm => ?_
   subst hx
   simp only [apartL, Bool.and_eq_true, Bool.not_eq_true'] at hap
   have := hap.1
   rw [List.contains_eq_mem, decide_eq_false_iff_not] at this
   exact this hm
 | i + 1, [], _, _, _, _, h, _ => by simp at h
 | i + 1, _ :: _, [], _, _, _, _, h => by simp at h
 | i + 1, e :: ds, l :: L, a, d, hap, h, hl => by
   simp only [List.getElem?_cons_succ] at h hl
   have hap' : apartL ds = true := by
     cases e with
     | none => simpa [apartL] using hap
     | some x => simp only [apartL, Bool.and_eq_true] at hap; exact hap.2
   cases l with
   | none => simp only [puts, List.set_cons_succ]; exact puts_set i ds L a hap' h hl
   | some u => simp only [puts, List.set_cons_succ]; exact puts_set i ds L _ hap' h hl
theorem puts_old {t : Tmp} : ∀ (ds : List (Option Tmp)) (L : List (Option Value)) (a : Act), some t ∉ ds → (puts ds L a).eval (.tmp t) = a.eval (.tmp t)
 | [], _, _, _ => by simp [puts]
 | _ :: _, [], _, _ => by simp [puts]
 | _ :: ds, none :: L, a, h => by simp only [puts]; exact puts_old ds L a fun hm => h (List.mem_cons_of_mem _ hm)
 | e :: ds, some v :: L, a, h => by
   simp only [puts]
   rw [puts_old ds L _ fun hm => h (List.mem_cons_of_mem _ hm)]
   exact Act.eval_put fun d hd hx => by
     rw [Operand.tmp.injEq] at hx
     subst hx hd
     exact h (List.mem_cons_self ..)
theorem put_get {a : Act} {t : Tmp} {v : Value} (h : t < a.tmps.size) : (a.put (some t) v).eval (.tmp t) = v := by
 simp [Act.put, Act.eval, h]
theorem puts_get {t : Tmp} {v : Value} : ∀ (i : Nat) (ds : List (Option Tmp)) (L : List (Option Value)) (a : Act), apartL ds = true → ds[i]? = some (some t) → L[i]? = some (some v) → t < a.tmps.size → (puts ds L a).eval (.tmp t) = v
 | 0, [], _, _, _, h, _, _ => by simp at h
 | 0, _ :: _, [], _, _, _, h, _ => by simp at h
 | 0, e :: ds, l :: L, a, hap, h, hl, hs => by
   simp only [List.getElem?_cons_zero, Option.some.injEq] at h hl
   subst h hl
   simp only [puts]
   simp only [apartL, Bool.and_eq_true, Bool.not_eq_true'] at hap
   have := hap.1
   rw [List.contains_eq_mem, decide_eq_false_iff_not] at this
   rw [puts_old ds L _ this, put_get hs]
 | i + 1, [], _, _, _, h, _, _ => by simp at h
 | i + 1, _ :: _, [], _, _, _, h, _ => by simp at h
 | i + 1, e :: ds, l :: L, a, hap, h, hl, hs => by
   simp only [List.getElem?_cons_succ] at h hl
   have hap' : apartL ds = true := by
     cases e with
     | none => simpa [apartL] using hap
     | some x => simp only [apartL, Bool.and_eq_true] at hap; exact hap.2
   cases l with
   | none => simp only [puts]; exact puts_get i ds L a hap' h hl hs
   | some u => simp only [puts]; exact puts_get i ds L _ hap' h hl (by rw [put_size]; exact hs)

theorem qsj {α : Type _} {a b : α} (h : some a = some b) : a = b := Option.some.inj h
theorem qrc {ds : List (Option Tmp)} {L : List (Option Value)} {a : Act} {ρ : Operand → Value} (h : (puts ds L a).eval = ρ) : ∀ v, ρ (.const v) = v := fun v => by rw [← h]; rfl
theorem qrg {ds : List (Option Tmp)} {L : List (Option Value)} {a : Act} {ρ : Operand → Value} (h : (puts ds L a).eval = ρ) : ∀ g, ρ (.func g) = .func (.func g) #[] #[] := fun v => by rw [← h]; rfl
theorem qpe {ds : List (Option Tmp)} {L : List (Option Value)} {a : Act} {ρ : Operand → Value} {t : Tmp} {v : Value} (k : Nat) (hA : (puts ds L a).eval = ρ) (hap : apartL ds = true) (h : ds[k]? = some (some t)) (hl : L[k]? = some (some v)) (hs : t < a.tmps.size) : ρ (.tmp t) = v := by rw [← hA]; exact puts_get k ds L a hap h hl hs
theorem qpn {ds : List (Option Tmp)} {L : List (Option Value)} {a : Act} {ρ : Operand → Value} {t : Tmp} (hA : (puts ds L a).eval = ρ) (h : some t ∉ ds) : ρ (.tmp t) = a.eval (.tmp t) := by rw [← hA]; exact puts_old ds L a h
theorem qh0 {α : Type _} {a : α} {l : List α} : a ∈ a :: l := List.mem_cons_self ..
theorem qh1 {α : Type _} {a b : α} {l : List α} : b ∈ a :: b :: l := List.mem_cons_of_mem _ qh0
theorem qh2 {α : Type _} {a b c : α} {l : List α} : c ∈ a :: b :: c :: l := List.mem_cons_of_mem _ qh1
theorem qnd {p : Prop} {a b : Nat} (e : a = b) (h : (a == b) = false) : p := by subst e; simp at h
theorem qns {σ : Type _} {l : List σ} {f : σ → Nat} {j : Nat} {p : σ → Prop} (h : l.all (fun s => !(f s == j)) = true) : ∀ s ∈ l, f s = j → p s := fun s hs e => by
 have := List.all_eq_true.1 h s hs
 rw [e] at this
 simp at this
theorem qne {σ : Type _} {l : List σ} {f : σ → Nat} {j : Nat} (h : l.all (fun s => !(f s == j)) = true) : ∀ s ∈ l, f s ≠ j := qns h
theorem qsa {σ τ : Type _} {l : List σ} {m : List τ} {f : σ → Nat} {g : τ → Nat} (h : l.all (fun s => m.all fun a => !(f s == g a)) = true) : ∀ s ∈ l, ∀ a ∈ m, f s ≠ g a := fun s hs a ha e => by
 have := List.all_eq_true.1 (List.all_eq_true.1 h s hs) a ha
 rw [e] at this
 simp at this
theorem qss {σ : Type _} {l : List σ} {f : σ → Nat} {n : Nat} (h : l.all (fun s => decide (f s < n)) = true) : ∀ s ∈ l, f s < n := fun s hs => of_decide_eq_true (List.all_eq_true.1 h s hs)
def qnB : List Nat → Bool
 | [] => true
 | a :: l => l.all (fun b => !(a == b)) && qnB l
theorem qnB_ne {σ : Type _} {f : σ → Nat} {c : σ} {l : List σ} (h : qnB ((c :: l).map f) = true) : (∀ s ∈ l, f c ≠ f s) ∧ qnB (l.map f) = true := by
 rw [List.map_cons] at h
 unfold qnB at h
 rw [Bool.and_eq_true] at h
 refine ⟨fun s hs e => ?_, h.2⟩
 have := List.all_eq_true.1 h.1 (f s) (List.mem_map_of_mem hs)
 rw [e] at this
 simp at this
theorem quq {σ : Type _} (f g : σ → Nat) : ∀ (l : List σ), qnB (l.map f) = true → qnB (l.map g) = true → ∀ a ∈ l, ∀ b ∈ l, (f a = f b ∨ g a = g b) → a = b
 | [], _, _, a, ha, _, _, _ => by cases ha
 | c :: l, hf, hg, a, ha, b, hb, e => by
   have hf := qnB_ne hf
   have hg := qnB_ne hg
   rcases List.mem_cons.1 ha with rfl | xa
   · rcases List.mem_cons.1 hb with rfl | xb
     · rfl
     · rcases e with e | e
       · exact absurd e (hf.1 _ xb)
       · exact absurd e (hg.1 _ xb)
   · rcases List.mem_cons.1 hb with rfl | xb
     · rcases e with e | e
       · exact absurd e.symm (hf.1 _ xa)
       · exact absurd e.symm (hg.1 _ xa)
     · exact quq f g l hf.2 hg.2 a xa b xb e
theorem qm2 {α : Type _} {x a0 a1 : α} (h : x ∈ [a0, a1]) : x = a0 ∨ x = a1 := by simpa using h
theorem qm3 {α : Type _} {x a0 a1 a2 : α} (h : x ∈ [a0, a1, a2]) : x = a0 ∨ x = a1 ∨ x = a2 := by simpa using h
theorem qm4 {α : Type _} {x a0 a1 a2 a3 : α} (h : x ∈ [a0, a1, a2, a3]) : x = a0 ∨ x = a1 ∨ x = a2 ∨ x = a3 := by simpa using h
theorem qm5 {α : Type _} {x a0 a1 a2 a3 a4 : α} (h : x ∈ [a0, a1, a2, a3, a4]) : x = a0 ∨ x = a1 ∨ x = a2 ∨ x = a3 ∨ x = a4 := by simpa using h
theorem qm6 {α : Type _} {x a0 a1 a2 a3 a4 a5 : α} (h : x ∈ [a0, a1, a2, a3, a4, a5]) : x = a0 ∨ x = a1 ∨ x = a2 ∨ x = a3 ∨ x = a4 ∨ x = a5 := by simpa using h
theorem ql4 {i : Nat} (h : i < 4) : i = 0 ∨ i = 1 ∨ i = 2 ∨ i = 3 := by omega
theorem ql5 {i : Nat} (h : i < 5) : i = 0 ∨ i = 1 ∨ i = 2 ∨ i = 3 ∨ i = 4 := by omega
theorem ql6 {i : Nat} (h : i < 6) : i = 0 ∨ i = 1 ∨ i = 2 ∨ i = 3 ∨ i = 4 ∨ i = 5 := by omega
theorem ql7 {i : Nat} (h : i < 7) : i = 0 ∨ i = 1 ∨ i = 2 ∨ i = 3 ∨ i = 4 ∨ i = 5 ∨ i = 6 := by omega
theorem ql8 {i : Nat} (h : i < 8) : i = 0 ∨ i = 1 ∨ i = 2 ∨ i = 3 ∨ i = 4 ∨ i = 5 ∨ i = 6 ∨ i = 7 := by omega
theorem ql10 {i : Nat} (h : i < 10) : i = 0 ∨ i = 1 ∨ i = 2 ∨ i = 3 ∨ i = 4 ∨ i = 5 ∨ i = 6 ∨ i = 7 ∨ i = 8 ∨ i = 9 := by omega
theorem ql11 {i : Nat} (h : i < 11) : i = 0 ∨ i = 1 ∨ i = 2 ∨ i = 3 ∨ i = 4 ∨ i = 5 ∨ i = 6 ∨ i = 7 ∨ i = 8 ∨ i = 9 ∨ i = 10 := by omega
theorem ql12 {i : Nat} (h : i < 12) : i = 0 ∨ i = 1 ∨ i = 2 ∨ i = 3 ∨ i = 4 ∨ i = 5 ∨ i = 6 ∨ i = 7 ∨ i = 8 ∨ i = 9 ∨ i = 10 ∨ i = 11 := by omega
theorem ql13 {i : Nat} (h : i < 13) : i = 0 ∨ i = 1 ∨ i = 2 ∨ i = 3 ∨ i = 4 ∨ i = 5 ∨ i = 6 ∨ i = 7 ∨ i = 8 ∨ i = 9 ∨ i = 10 ∨ i = 11 ∨ i = 12 := by omega
theorem ql14 {i : Nat} (h : i < 14) : i = 0 ∨ i = 1 ∨ i = 2 ∨ i = 3 ∨ i = 4 ∨ i = 5 ∨ i = 6 ∨ i = 7 ∨ i = 8 ∨ i = 9 ∨ i = 10 ∨ i = 11 ∨ i = 12 ∨ i = 13 := by omega
theorem ql17 {i : Nat} (h : i < 17) : i = 0 ∨ i = 1 ∨ i = 2 ∨ i = 3 ∨ i = 4 ∨ i = 5 ∨ i = 6 ∨ i = 7 ∨ i = 8 ∨ i = 9 ∨ i = 10 ∨ i = 11 ∨ i = 12 ∨ i = 13 ∨ i = 14 ∨ i = 15 ∨ i = 16 := by omega
theorem ql18 {i : Nat} (h : i < 18) : i = 0 ∨ i = 1 ∨ i = 2 ∨ i = 3 ∨ i = 4 ∨ i = 5 ∨ i = 6 ∨ i = 7 ∨ i = 8 ∨ i = 9 ∨ i = 10 ∨ i = 11 ∨ i = 12 ∨ i = 13 ∨ i = 14 ∨ i = 15 ∨ i = 16 ∨ i = 17 := by omega
theorem ql32 {i : Nat} (h : i < 32) : i = 0 ∨ i = 1 ∨ i = 2 ∨ i = 3 ∨ i = 4 ∨ i = 5 ∨ i = 6 ∨ i = 7 ∨ i = 8 ∨ i = 9 ∨ i = 10 ∨ i = 11 ∨ i = 12 ∨ i = 13 ∨ i = 14 ∨ i = 15 ∨ i = 16 ∨ i = 17 ∨ i = 18 ∨ i = 19 ∨ i = 20 ∨ i = 21 ∨ i = 22 ∨ i = 23 ∨ i = 24 ∨ i = 25 ∨ i = 26 ∨ i = 27 ∨ i = 28 ∨ i = 29 ∨ i = 30 ∨ i = 31 := by omega
def lst (L : List (Option Value)) : Array Bool := (L.map Option.isSome).toArray
theorem lst_set {L : List (Option Value)} {i : Nat} {v : Value} : (lst L).setIfInBounds i true = lst (L.set i (some v)) := by
 unfold lst
 simp [List.setIfInBounds_toArray, List.map_set]
theorem lst_true {L : List (Option Value)} {i : Nat} (h : (lst L).getD i false = true) : ∃ v, L[i]? = some (some v) := by
 unfold lst at h
 simp only [Array.getD_eq_getD_getElem?, List.getElem?_toArray, List.getElem?_map] at h
 cases hl : L[i]? with
 | none => rw [hl] at h; simp at h
 | some o => cases o with
   | none => rw [hl] at h; simp at h
   | some v => exact ⟨v, rfl⟩
theorem lst_false {L : List (Option Value)} {i : Nat} (h : (lst L).getD i true = false) : L[i]? = some none := by
 unfold lst at h
 simp only [Array.getD_eq_getD_getElem?, List.getElem?_toArray, List.getElem?_map] at h
 cases hl : L[i]? with
 | none => rw [hl] at h; simp at h
 | some o => cases o with
   | none => rfl
   | some v => rw [hl] at h; simp at h
def open_ : List (Option Value) → Nat
 | [] => 0
 | none :: L => open_ L + 1
 | some _ :: L => open_ L
theorem open_set {v : Value} : ∀ (i : Nat) (L : List (Option Value)), L[i]? = some none → open_ (L.set i (some v)) + 1 = open_ L
 | 0, [], h => by simp at h
 | 0, l :: L, h => by
   simp only [List.getElem?_cons_zero, Option.some.injEq] at h
   subst h; rfl
 | i + 1, [], h => by simp at h
 | i + 1, l :: L, h => by
   simp only [List.getElem?_cons_succ] at h
   have := open_set (v := v) i L h
   cases l with
   | none => simp only [List.set_cons_succ, open_]; omega
   | some u => simp only [List.set_cons_succ, open_]; omega
theorem open_zero : ∀ (L : List (Option Value)), open_ L = 0 → ∀ i, i < L.length → ∃ v, L[i]? = some (some v)
 | [], _, i, h => by simp at h
 | none :: L, h0, _, _ => by simp [open_] at h0
 | some v :: L, h0, 0, _ => ⟨v, rfl⟩
 | some v :: L, h0, i + 1, h => by
   simp only [List.getElem?_cons_succ]
   exact open_zero L h0 i (by simpa using h)
def backward (ops : Array Oper) : Bool := (List.range ops.size).all fun i => ((ops[i]?).map (·.after.all fun e => !Region.binds .any e || decide (e.on < i))).getD true
def plainL (ops : Array Oper) : Bool := (List.range ops.size).all fun i => ((ops[i]?).map (·.guard.isNone)).getD true

section
variable {P : Program} {ops : Array Oper} {Q : Exit → Act → World → Prop}
theorem ready_all (hb : backward ops = true) {L : List (Option Value)} (hL : L.length = ops.size) (hr : Region.ready .any ops (lst L) = []) : ∀ n i, i < n → i < ops.size → ∃ v, L[i]? = some (some v) := by
 intro n
 induction n with
 | zero => intro i h; omega
 | succ n ih =>
   intro i hi hs
   by_cases hin : i < n
   · exact ih i hin hs
   · obtain rfl : i = n := by omega
     have hx : i ∉ Region.ready .any ops (lst L) := by rw [hr]; exact List.not_mem_nil
     cases hl : L[i]? with
     | none => rw [List.getElem?_eq_none_iff] at hl; omega
     | some o => cases o with
       | some v => exact ⟨v, rfl⟩
       | none =>
         refine absurd (mem_ready.2 ⟨?_, ops[i], Array.getElem?_eq_getElem hs, fun e he hbd => ?_⟩) hx
         · unfold lst; simp [Array.getD_eq_getD_getElem?, hl]
         · have hlt : e.on < i := by
             have h1 := (List.all_eq_true.1 hb) i (List.mem_range.2 hs)
             rw [Array.getElem?_eq_getElem hs] at h1
             simp only [Option.map_some, Option.getD_some, Array.all_eq_true] at h1
             obtain ⟨k, hk, rfl⟩ := Array.mem_iff_getElem.1 he
             have h2 := h1 k hk
             simpa [hbd] using h2
           obtain ⟨v, hv⟩ := ih e.on hlt (by omega)
           unfold lst; simp [Array.getD_eq_getD_getElem?, hv]
theorem wpAny_inv (ds : List (Option Tmp)) (hds : ops.toList.map (·.dst) = ds) (hap : apartL ds = true) (hb : backward ops = true) (hg : plainL ops = true) (a0 : Act) (W : List (Option Value) → World → Prop)
 (step : ∀ (L : List (Option Value)) (w : World) (i : Nat) (o : Oper), L.length = ops.size → ops[i]? = some o → L[i]? = some none → (∀ e ∈ o.after, Region.binds .any e = true → ∃ v, L[e.on]? = some (some v)) → W L w →
  o.wp P (puts ds L a0) w (fun a' w' => ∃ v, a' = (puts ds L a0).put o.dst v ∧ W (L.set i (some v)) w') Q)
 (fin : ∀ L w, L.length = ops.size → (∀ i, i < ops.size → ∃ v, L[i]? = some (some v)) → W L w → Q .normal (puts ds L a0) w) :
 ∀ fuel L w, L.length = ops.size → open_ L ≤ fuel → W L w → wpAny P .any ops Q fuel (lst L) (puts ds L a0) w := by
 intro fuel
 induction fuel with
 | zero =>
   intro L w hL ho hW
   have hall := open_zero L (by omega)
   refine ⟨?_, fin L w hL (fun i hi => hall i (by omega)) hW⟩
   refine List.eq_nil_iff_forall_not_mem.2 fun i hi => ?_
   obtain ⟨h1, oi, h2, -⟩ := mem_ready.1 hi
   have h3 := lst_false h1
   obtain ⟨v, hv⟩ := hall i (by have := (Array.getElem?_eq_some_iff.1 h2).1; omega)
   rw [hv] at h3; simp at h3
 | succ fuel ih =>
   intro L w hL ho hW
   refine ⟨fun hr => fin L w hL (fun i hi => ready_all hb hL hr (i + 1) i (by omega) hi) hW, fun i hi => ?_⟩
   obtain ⟨h1, o, h2, h3⟩ := mem_ready.1 hi
   have h4 := lst_false h1
   have his := (Array.getElem?_eq_some_iff.1 h2).1
   have hgi : o.guard = none := by
    have := (List.all_eq_true.1 hg) i (List.mem_range.2 his)
    rw [h2] at this
    simpa using this
   have hdi : ds[i]? = some o.dst := by rw [← hds, List.getElem?_map]; simp [h2]
   have s := step L w i o hL h2 h4 (fun e he hbd => lst_true (h3 e he hbd)) hW
   unfold wpOp
   rw [h2]
   simp only [Region.wanted, hgi, if_true]
   refine Or.inl (Oper.wp_mono (fun a' w' hh => ?_) s)
   obtain ⟨v, rfl, hW'⟩ := hh
   rw [puts_set i ds L a0 hap hdi h4, lst_set (v := v)]
   exact ih _ w' (by simpa using hL) (by have := open_set (v := v) i L h4; omega) hW'
def nones (n : Nat) : List (Option Value) := List.replicate n none
theorem puts_nones (n : Nat) : ∀ (ds : List (Option Tmp)) (a : Act), puts ds (nones n) a = a := by
 unfold nones
 induction n with
 | zero => intro ds a; cases ds <;> rfl
 | succ n ih => intro ds a; cases ds with
   | nil => rfl
   | cons d ds => simp only [List.replicate_succ, puts]; exact ih ds a
theorem open_nones (n : Nat) : open_ (nones n) = n := by
 unfold nones
 induction n with
 | zero => rfl
 | succ n ih => simp only [List.replicate_succ, open_, ih]
theorem wp_region_inv {id : Nat} {a0 : Act} {w : World} (hm : P.follows .mixedOrders = true) (ds : List (Option Tmp)) (hds : ops.toList.map (·.dst) = ds) (hap : apartL ds = true) (hb : backward ops = true) (hg : plainL ops = true)
 (W : List (Option Value) → World → Prop) (start : W (nones ops.size) w.drew)
 (step : ∀ (L : List (Option Value)) (w : World) (i : Nat) (o : Oper), L.length = ops.size → ops[i]? = some o → L[i]? = some none → (∀ e ∈ o.after, Region.binds .any e = true → ∃ v, L[e.on]? = some (some v)) → W L w →
  o.wp P (puts ds L a0) w (fun a' w' => ∃ v, a' = (puts ds L a0).put o.dst v ∧ W (L.set i (some v)) w') Q)
 (fin : ∀ L w, L.length = ops.size → (∀ i, i < ops.size → ∃ v, L[i]? = some (some v)) → W L w → Q .normal (puts ds L a0) w) : (Code.region id ops true).wp P Q a0 w := by
 have h := wpAny_inv ds hds hap hb hg a0 W step fin ops.size (nones ops.size) w.drew (by simp [nones]) (by rw [open_nones]; exact Nat.le_refl _) start
 rw [puts_nones] at h
 have e : lst (nones ops.size) = Array.replicate ops.size false := by unfold lst nones; simp
 rw [e] at h
 exact wp_region_any hm h

def waits (o : Oper) (k : Nat) : Bool := o.after.toList.any fun e => e.on == k && Region.binds .any e
end
end Go.Proofs.YtdfcchocabapkaaGreat

namespace Go.Proofs.YtdfcchocabapkaaGreat
open Go.ChangeShapes Go.WideShapes Go.ChangeAt Go.RowKit Ieee.Own

theorem step_value {P : Program} {o : Oper} {a : Act} {w w' : World} {K : Act → World → Prop} {Q : Exit → Act → World → Prop} {v : Value} (h : (execOp a.eval o).run P w = .ok (.value v) w') (k : K (a.put o.dst v) w') : o.wp P a w K Q := by
 unfold Oper.wp; rw [h]; exact k
theorem step_skip {P : Program} {o : Oper} {a : Act} {w w' : World} {K : Act → World → Prop} {Q : Exit → Act → World → Prop} (h : (execOp a.eval o).run P w = .ok .skip w') (k : K (a.put o.dst undef) w') : o.wp P a w K Q := by
 unfold Oper.wp; rw [h]; exact k
theorem step_call {P : Program} {o : Oper} {a : Act} {w : World} {K : Act → World → Prop} {Q : Exit → Act → World → Prop} {f : FuncId} {args : Array Value} (h : (execOp a.eval o).run P w = .ok (.enter f args) w)
 (k : Calls P f args w fun e w' => ∃ v, e = .returned v ∧ K (a.put o.dst v) w') : o.wp P a w K Q := by
 unfold Oper.wp; rw [h]
 refine Calls.mono k fun e w' h => ?_
 obtain ⟨v, rfl, hk⟩ := h
 exact hk
theorem ex_move {P : Program} {ρ : Operand → Value} {o : Oper} {x : Operand} {v : Value} (w : World) (ho : o.op = .move x) (h : ρ x = v) : (execOp ρ o).run P w = .ok (.value v) w := by
 unfold execOp; rw [ho]; simp [h]
theorem ex_fa0 {ρ : Operand → Value} {o : Oper} {x : Operand} {b : Nat} (w : World) (ho : o.op = .fieldAddr 26 x 0) (h : ρ x = .pointer (some ⟨b, 0, none⟩)) : (execOp ρ o).run Tryz.prog w = .ok (.value (.pointer (some ⟨b, 0, none⟩))) w := by
 unfold execOp; rw [ho]; simp only [h]; go_simp
theorem ex_fa1 {ρ : Operand → Value} {o : Oper} {x : Operand} {b : Nat} (w : World) (ho : o.op = .fieldAddr 26 x 1) (h : ρ x = .pointer (some ⟨b, 0, none⟩)) : (execOp ρ o).run Tryz.prog w = .ok (.value (.pointer (some ⟨b, 1, none⟩))) w := by
 unfold execOp; rw [ho]; simp only [h]; go_simp
theorem ex_load {ρ : Operand → Value} {o : Oper} {x : Operand} {b k y : Nat} {w : World} (ho : o.op = .load 22 x) (h : ρ x = .pointer (some ⟨b, k, none⟩)) (hc : w.cell? ⟨b, k, none⟩ = some (.float .f64 y)) : (execOp ρ o).run Tryz.prog w = .ok (.value (.float .f64 y)) w := by
 unfold execOp; rw [ho]; simp only [h]; go_simp
theorem ex_call {P : Program} {ρ : Operand → Value} {o : Oper} {x y z : Operand} {ts : Array TypeId} {g : FuncId} {u v : Value} (w : World) (ho : o.op = .call { callee := .value x, args := #[y, z], argTypes := ts }) (h : ρ x = .func (.func g) #[] #[]) (h1 : ρ y = u) (h2 : ρ z = v) (hg : (callFunc g #[u, v]).run P w = .ok (.enter g #[u, v]) w) :
 (execOp ρ o).run P w = .ok (.enter g #[u, v]) w := by
 unfold execOp; rw [ho]; simp [h, h1, h2, hg, go_sem]
theorem ex_alloc {ρ : Operand → Value} {o : Oper} (w : World) (ho : o.op = .alloc 26) : (execOp ρ o).run Tryz.prog w = .ok (.value (.pointer (some ⟨w.heap.size, 0, none⟩))) (w.alloc zeroO) := by
 unfold execOp zeroO; rw [ho]; go_simp
theorem ex_store {ρ : Operand → Value} {o : Oper} {x y : Operand} {g s t a b : Nat} {w : World} (ho : o.op = .store 26 x y) (h : ρ x = .pointer (some ⟨g, 0, none⟩)) (h1 : ρ y = spanV s t)
 (c0 : w.cell? ⟨g, 0, none⟩ = some (.float .f64 a)) (c1 : w.cell? ⟨g, 1, none⟩ = some (.float .f64 b)) (f0 : w.frozen? ⟨g, 0, none⟩ = false) (f1 : w.frozen? ⟨g, 1, none⟩ = false) :
 (execOp ρ o).run Tryz.prog w = .ok .skip ((w.setCell ⟨g, 0, none⟩ (.float .f64 s)).setCell ⟨g, 1, none⟩ (.float .f64 t)) := by
 have hst := @fstore
 unfold spanV at h1
 unfold execOp; rw [ho]; simp only [h, h1]; go_simp
theorem ex_loads {ρ : Operand → Value} {o : Oper} {x : Operand} {b a c : Nat} {w : World} (ho : o.op = .load 26 x) (h : ρ x = .pointer (some ⟨b, 0, none⟩)) (h0 : w.cell? ⟨b, 0, none⟩ = some (.float .f64 a)) (h1 : w.cell? ⟨b, 1, none⟩ = some (.float .f64 c)) : (execOp ρ o).run Tryz.prog w = .ok (.value (spanV a c)) w := by
 unfold execOp spanV; rw [ho]; simp only [h]; go_simp
theorem ex_assign {P : Program} {ρ : Operand → Value} {o : Oper} {x : Operand} {v : Value} (w : World) (ho : o.op = .assign x) (h : ρ x = v) : (execOp ρ o).run P w = .ok (.value v) w := by
 unfold execOp; rw [ho]; simp [h]

structure Blk (w : World) (g x y : Nat) : Prop where
 lt : g < w.heap.size
 lo : w.cell? ⟨g, 0, none⟩ = some (.float .f64 x)
 hi : w.cell? ⟨g, 1, none⟩ = some (.float .f64 y)
 f0 : w.frozen? ⟨g, 0, none⟩ = false
 f1 : w.frozen? ⟨g, 1, none⟩ = false
theorem cell_on {B : Nat} {w w' : World} (h : Below B w w') (a : Addr) (hb : a.block < B) : w'.cell? a = w.cell? a := by
 unfold World.cell?; rw [h.block _ hb]
theorem frozen_on {B : Nat} {w w' : World} (h : Below B w w') (a : Addr) (hb : a.block < B) : w'.frozen? a = w.frozen? a := by
 unfold World.frozen?; rw [h.block _ hb]
theorem Blk.on {w w' : World} {g x y : Nat} (b : Blk w g x y) (h : Below w.heap.size w w') : Blk w' g x y :=
 ⟨Nat.lt_of_lt_of_le b.lt h.size, (cell_on h _ b.lt).trans b.lo, (cell_on h _ b.lt).trans b.hi, (frozen_on h _ b.lt).trans b.f0, (frozen_on h _ b.lt).trans b.f1⟩
theorem Blk.new (w : World) : Blk (w.alloc zeroO) w.heap.size 0 0 := by
 have S : Blocks w [zeroO] (w.alloc zeroO) := (Blocks.nil w).alloc (by simp) _
 unfold zeroO at S
 exact ⟨by simp, S.cell 0 rfl 0 w.heap.size rfl, S.cell 0 rfl 1 w.heap.size rfl, S.free 0 rfl 0 w.heap.size rfl, S.free 0 rfl 1 w.heap.size rfl⟩
theorem below_drewN {B : Nat} {u w : World} (h : Below B u w) (n : Nat) : Below B u (w.drewN n) := ⟨h.1, h.2, h.3, h.4, h.5⟩
def put2 (w : World) (g s t : Nat) : World := (w.setCell ⟨g, 0, none⟩ (.float .f64 s)).setCell ⟨g, 1, none⟩ (.float .f64 t)
theorem put2_size (w : World) (g s t : Nat) : (put2 w g s t).heap.size = w.heap.size := by unfold put2; simp
theorem Blk.put {w : World} {g x y : Nat} (b : Blk w g x y) (s t : Nat) : Blk (put2 w g s t) g s t := by
 obtain ⟨v0, h0⟩ := cell?_setCell_some (w := w) (p := ⟨g, 0, none⟩) (x := .float .f64 s) (q := ⟨g, 1, none⟩) (v := _) b.hi
 refine ⟨by rw [put2_size]; exact b.lt, ?_, ?_, ?_, ?_⟩
 · unfold put2
   rw [World.cell?_setCell_other _ _ _ _ (by simp)]
   exact World.cell?_setCell_same _ _ _ b.lo
 · unfold put2
   exact World.cell?_setCell_same _ _ _ h0
 · unfold put2; rw [World.frozen?_setCell, World.frozen?_setCell]; exact b.f0
 · unfold put2; rw [World.frozen?_setCell, World.frozen?_setCell]; exact b.f1
theorem Blk.other {w : World} {g h x y : Nat} (b : Blk w g x y) (hg : g ≠ h) (s t : Nat) : Blk (put2 w h s t) g x y := by
 refine ⟨by rw [put2_size]; exact b.lt, ?_, ?_, ?_, ?_⟩
 · unfold put2
   rw [World.cell?_setCell_other _ _ _ _ (by simp), World.cell?_setCell_other _ _ _ _ (by simp)]
   exact b.lo
 · unfold put2
   rw [World.cell?_setCell_other _ _ _ _ (by simp), World.cell?_setCell_other _ _ _ _ (by simp)]
   exact b.hi
 · unfold put2; rw [World.frozen?_setCell, World.frozen?_setCell]; exact b.f0
 · unfold put2; rw [World.frozen?_setCell, World.frozen?_setCell]; exact b.f1
theorem put2_below {B : Nat} {u w : World} (h : Below B u w) {g : Nat} (hg : B ≤ g) (s t : Nat) : Below B u (put2 w g s t) := (h.setCell hg _).setCell hg _

def corD (g : FuncId) (wz a1 a2 b1 b2 : Nat) (es : List (Nat × Nat)) : List (Option Value) := [some (.func (.func g) #[] #[]),
 some (.pointer (some ⟨wz, 0, none⟩)),
 some (.float .f64 a1),
 some (.pointer (some ⟨wz + 1, 0, none⟩)),
 some (.float .f64 b1),
 some (spanV (es.getD 0 (0, 0)).1 (es.getD 0 (0, 0)).2),
 some (.func (.func g) #[] #[]),
 some (.pointer (some ⟨wz, 0, none⟩)),
 some (.float .f64 a1),
 some (.pointer (some ⟨wz + 1, 1, none⟩)),
 some (.float .f64 b2),
 some (spanV (es.getD 1 (0, 0)).1 (es.getD 1 (0, 0)).2),
 some (.func (.func g) #[] #[]),
 some (.pointer (some ⟨wz, 1, none⟩)),
 some (.float .f64 a2),
 some (.pointer (some ⟨wz + 1, 0, none⟩)),
 some (.float .f64 b1),
 some (spanV (es.getD 2 (0, 0)).1 (es.getD 2 (0, 0)).2),
 some (.func (.func g) #[] #[]),
 some (.pointer (some ⟨wz, 1, none⟩)),
 some (.float .f64 a2),
 some (.pointer (some ⟨wz + 1, 1, none⟩)),
 some (.float .f64 b2),
 some (spanV (es.getD 3 (0, 0)).1 (es.getD 3 (0, 0)).2),
 none,
 none,
 none,
 none,
 none,
 none,
 none,
 none]
def corE (es : List (Nat × Nat)) (L : List (Option Value)) (j : Nat) : Nat × Nat := if (L[28 + j]?.getD none).isSome then es.getD j (0, 0) else (0, 0)
structure CorW (g : FuncId) (wz a1 a2 b1 b2 : Nat) (es : List (Nat × Nat)) (w1 : World) (L : List (Option Value)) (w : World) : Prop where
 old : Below w1.heap.size w1 w
 det : ∀ (i : Nat) (v u : Value), L[i]? = some (some v) → (corD g wz a1 a2 b1 b2 es)[i]? = some (some u) → v = u
 blk : ∀ (j : Nat), j < 4 → ∀ v : Value, L[24 + j]? = some (some v) → ∃ h, v = .pointer (some ⟨h, 0, none⟩) ∧ w1.heap.size ≤ h ∧ Blk w h (corE es L j).1 (corE es L j).2
 apart : ∀ (j k : Nat), j < 4 → k < 4 → j ≠ k → ∀ v u : Value, L[24 + j]? = some (some v) → L[24 + k]? = some (some u) → v ≠ u
 ord : ∀ (j : Nat), j < 4 → L[24 + j]? = some none → ∀ o : Value, L[28 + j]? ≠ some (some o)
section
variable {g : FuncId} {wz a1 a2 b1 b2 : Nat} {es : List (Nat × Nat)} {w1 w w' : World} {L : List (Option Value)}
theorem CorW.on (H : CorW g wz a1 a2 b1 b2 es w1 L w) (h : Below w.heap.size w w') : CorW g wz a1 a2 b1 b2 es w1 L w' :=
 ⟨H.old.trans (h.mono H.old.size), H.det, fun j hj v hv => by obtain ⟨x, e, l, b⟩ := H.blk j hj v hv; exact ⟨x, e, l, b.on h⟩, H.apart, H.ord⟩
theorem corE_set {i j : Nat} {o : Option Value} (hi : i < 28) : corE es (L.set i o) j = corE es L j := by
 unfold corE; rw [List.getElem?_set_ne (by omega)]
theorem CorW.det_step (H : CorW g wz a1 a2 b1 b2 es w1 L w) {i : Nat} {u : Value} (hi : i < 24) (hd : (corD g wz a1 a2 b1 b2 es)[i]? = some (some u)) : CorW g wz a1 a2 b1 b2 es w1 (L.set i (some u)) w := by
 refine ⟨H.old, fun k v t hv ht => ?_, fun j hj v hv => ?_, fun j k hj hk hjk v t hv ht => ?_, fun j hj hn o => ?_⟩
 · by_cases hik : i = k
   · subst hik
     rw [hd] at ht
     by_cases hl : i < L.length
     · rw [List.getElem?_set_self hl] at hv
       rw [← Option.some.inj (Option.some.inj hv), ← Option.some.inj (Option.some.inj ht)]
     · rw [List.getElem?_eq_none (by simp; omega)] at hv; simp at hv
   · rw [List.getElem?_set_ne hik] at hv; exact H.det k v t hv ht
 · rw [List.getElem?_set_ne (by omega)] at hv
   rw [corE_set (by omega)]
   exact H.blk j hj v hv
 · rw [List.getElem?_set_ne (by omega)] at hv ht
   exact H.apart j k hj hk hjk v t hv ht
 · rw [List.getElem?_set_ne (by omega)] at hn ⊢
   exact H.ord j hj hn o
theorem CorW.alloc_step (H : CorW g wz a1 a2 b1 b2 es w1 L w) {j : Nat} (hj : j < 4) (hn : L[24 + j]? = some none) : CorW g wz a1 a2 b1 b2 es w1 (L.set (24 + j) (some (.pointer (some ⟨w.heap.size, 0, none⟩)))) (w.alloc zeroO) := by
 have hb : Below w.heap.size w (w.alloc zeroO) := (Below.refl _ w).alloc (Nat.le_refl _) _
 have hl : 24 + j < L.length := (List.getElem?_eq_some_iff.1 hn).1
 have hs : ¬ (L[28 + j]?.getD none).isSome = true := by
  have ho := H.ord j hj hn
  cases hc : L[28 + j]? with
  | none => simp
  | some o => cases o with
    | none => simp
    | some v => exact absurd hc (ho v)
 refine ⟨H.old.trans (hb.mono H.old.size), fun k v t hv ht => ?_, fun k hk v hv => ?_, fun k m hk hm hkm v t hv ht => ?_, fun k hk hk2 o => ?_⟩
 · by_cases hik : 24 + j = k
   · subst hik
     exfalso
     have : j = 0 ∨ j = 1 ∨ j = 2 ∨ j = 3 := by omega
     rcases this with rfl | rfl | rfl | rfl <;> simp [corD] at ht
   · rw [List.getElem?_set_ne hik] at hv; exact H.det k v t hv ht
 · rw [corE_set (by omega)]
   by_cases hjk : j = k
   · subst hjk
     rw [List.getElem?_set_self hl] at hv
     rw [← Option.some.inj (Option.some.inj hv)]
     refine ⟨_, rfl, H.old.size, ?_⟩
     unfold corE
     rw [if_neg hs]
     exact Blk.new w
   · rw [List.getElem?_set_ne (by omega)] at hv
     obtain ⟨x, e, l, b⟩ := H.blk k hk v hv
     exact ⟨x, e, l, b.on hb⟩
 · have key : ∀ n v, n < 4 → L[24 + n]? = some (some v) → v ≠ .pointer (some ⟨w.heap.size, 0, none⟩) := by
    intro n v hn4 hv e
    obtain ⟨x, e2, l, b⟩ := H.blk n hn4 v hv
    rw [e2] at e
    have := b.lt
    simp only [Value.pointer.injEq, Option.some.injEq, Addr.mk.injEq] at e
    omega
   by_cases hjk : j = k
   · subst hjk
     rw [List.getElem?_set_self hl] at hv
     rw [List.getElem?_set_ne (by omega)] at ht
     rw [← Option.some.inj (Option.some.inj hv)]
     exact fun e => key m t hm ht e.symm
   · rw [List.getElem?_set_ne (by omega)] at hv
     by_cases hjm : j = m
     · subst hjm
       rw [List.getElem?_set_self hl] at ht
       rw [← Option.some.inj (Option.some.inj ht)]
       exact key k v hk hv
     · rw [List.getElem?_set_ne (by omega)] at ht
       exact H.apart k m hk hm hkm v t hv ht
 · rw [List.getElem?_set_ne (by omega)]
   by_cases hjk : j = k
   · subst hjk
     rw [List.getElem?_set_self hl] at hk2
     simp at hk2
   · rw [List.getElem?_set_ne (by omega)] at hk2
     exact H.ord k hk hk2 o
theorem CorW.store_step (H : CorW g wz a1 a2 b1 b2 es w1 L w) {j h : Nat} {o : Value} (hj : j < 4) (hn : L[28 + j]? = some none) (hh : L[24 + j]? = some (some (.pointer (some ⟨h, 0, none⟩)))) :
 CorW g wz a1 a2 b1 b2 es w1 (L.set (28 + j) (some o)) (put2 w h (es.getD j (0, 0)).1 (es.getD j (0, 0)).2) := by
 obtain ⟨h', e', l', b'⟩ := H.blk j hj _ hh
 have eh : h = h' := by simp only [Value.pointer.injEq, Option.some.injEq, Addr.mk.injEq] at e'; exact e'.1
 subst eh
 have hl : 28 + j < L.length := (List.getElem?_eq_some_iff.1 hn).1
 refine ⟨put2_below H.old l' _ _, fun k v t hv ht => ?_, fun k hk v hv => ?_, fun k m hk hm hkm v t hv ht => ?_, fun k hk hk2 o => ?_⟩
 · by_cases hik : 28 + j = k
   · subst hik
     exfalso
     have : j = 0 ∨ j = 1 ∨ j = 2 ∨ j = 3 := by omega
     rcases this with rfl | rfl | rfl | rfl <;> simp [corD] at ht
   · rw [List.getElem?_set_ne hik] at hv; exact H.det k v t hv ht
 · rw [List.getElem?_set_ne (by omega)] at hv
   obtain ⟨x, e, l, b⟩ := H.blk k hk v hv
   refine ⟨x, e, l, ?_⟩
   by_cases hjk : j = k
   · subst hjk
     rw [hh] at hv
     have := Option.some.inj (Option.some.inj hv)
     rw [e] at this
     simp only [Value.pointer.injEq, Option.some.injEq, Addr.mk.injEq] at this
     obtain ⟨rfl, -⟩ := this
     have ec : corE es (L.set (28 + j) (some o)) j = es.getD j (0, 0) := by
       unfold corE; rw [List.getElem?_set_self hl]; rfl
     rw [ec]
     exact b.put _ _
   · have ec : corE es (L.set (28 + j) (some o)) k = corE es L k := by
       unfold corE; rw [List.getElem?_set_ne (by omega)]
     rw [ec]
     refine b.other (fun e2 => ?_) _ _
     subst e2
     exact H.apart j k hj hk hjk _ _ hh hv e.symm
 · rw [List.getElem?_set_ne (by omega)] at hv ht
   exact H.apart k m hk hm hkm v t hv ht
 · rw [List.getElem?_set_ne (by omega)] at hk2
   by_cases hjk : j = k
   · subst hjk
     rw [hh] at hk2
     simp at hk2
   · rw [List.getElem?_set_ne (by omega)]
     exact H.ord k hk hk2 o
end

theorem nones_get (n i : Nat) (v : Value) : (nones n)[i]? ≠ some (some v) := by unfold nones; simp [List.getElem?_replicate]
theorem all_some {n : Nat} {L : List (Option Value)} (hL : L.length = n) (h : ∀ i, i < n → ∃ v, L[i]? = some (some v)) : ∃ f : Nat → Value, L = (List.range n).map (fun i => some (f i)) ∧ ∀ i, i < n → L[i]? = some (some (f i)) := by
 refine ⟨fun i => if hi : i < n then Classical.choose (h i hi) else undef, ?_, fun i hi => ?_⟩
 · refine List.ext_getElem? fun i => ?_
   by_cases hi : i < n
   · rw [Classical.choose_spec (h i hi)]
     simp [hi]
   · rw [List.getElem?_eq_none (by omega), List.getElem?_eq_none (by simp; omega)]
 · rw [Classical.choose_spec (h i hi)]
   simp [hi]

theorem corners_run (g : FuncId) (a1 a2 b1 b2 : Nat) (es : List (Nat × Nat)) (hg : ∀ x y w, (callFunc g #[.float .f64 x, .float .f64 y]).run Tryz.prog w = .ok (.enter g #[.float .f64 x, .float .f64 y]) w)
 (E1 : ∀ w, Calls Tryz.prog g #[.float .f64 a1, .float .f64 b1] w fun e w' => e = .returned (spanV (es.getD 0 (0, 0)).1 (es.getD 0 (0, 0)).2) ∧ Below w.heap.size w w')
 (E2 : ∀ w, Calls Tryz.prog g #[.float .f64 a1, .float .f64 b2] w fun e w' => e = .returned (spanV (es.getD 1 (0, 0)).1 (es.getD 1 (0, 0)).2) ∧ Below w.heap.size w w')
 (E3 : ∀ w, Calls Tryz.prog g #[.float .f64 a2, .float .f64 b1] w fun e w' => e = .returned (spanV (es.getD 2 (0, 0)).1 (es.getD 2 (0, 0)).2) ∧ Below w.heap.size w w')
 (E4 : ∀ w, Calls Tryz.prog g #[.float .f64 a2, .float .f64 b2] w fun e w' => e = .returned (spanV (es.getD 3 (0, 0)).1 (es.getD 3 (0, 0)).2) ∧ Below w.heap.size w w')
 (lo hi : Nat)
 (hmin : ∀ ts t w, (Builtin.min_ ts t #[.float .f64 (es.getD 0 (0, 0)).1, .float .f64 (es.getD 1 (0, 0)).1, .float .f64 (es.getD 2 (0, 0)).1, .float .f64 (es.getD 3 (0, 0)).1]).run Tryz.prog w = .ok (.float .f64 lo) w)
 (hmax : ∀ ts t w, (Builtin.max_ ts t #[.float .f64 (es.getD 0 (0, 0)).2, .float .f64 (es.getD 1 (0, 0)).2, .float .f64 (es.getD 2 (0, 0)).2, .float .f64 (es.getD 3 (0, 0)).2]).run Tryz.prog w = .ok (.float .f64 hi) w)
 (w : World) :
 Calls Tryz.prog 135 #[spanV a1 a2, spanV b1 b2, .func (.func g) #[] #[]] w fun e w' => e = .returned (.tuple #[.float .f64 lo, .float .f64 hi]) ∧ Below w.heap.size w w' := by
 have S0 : Blocks w ([boxO a1 a2] ++ [boxO b1 b2]) ((w.alloc (boxO a1 a2)).alloc (boxO b1 b2)) := ((Blocks.nil w).alloc (by simp) _).alloc (by simp) _
 unfold boxO at S0
 have hz : w.heap.size + 1 + 1 ≤ ((w.alloc (boxO a1 a2)).alloc (boxO b1 b2)).heap.size := by simp
 unfold boxO at hz
 unfold spanV
 replace S0 := Lib.hid S0
 replace hz := Lib.hid hz
 replace E1 := Lib.hid E1
 replace E2 := Lib.hid E2
 replace E3 := Lib.hid E3
 replace E4 := Lib.hid E4
 replace hg := Lib.hid hg
 replace hmin := Lib.hid hmin
 replace hmax := Lib.hid hmax
 go_enter Tryz.func135, Tryz.ntmps135
 go_upto_region 1 with fail
 have S1 := S0.out
 have hz := hz.out
 clear S0
 generalize (w.alloc _).alloc _ = w1 at *
 go_cut [8, 9, 10, 11] from 12 to 35 (fun t8 t9 t10 t11 wx => ∃ g0 g1 g2 g3 : Nat, t8 = .pointer (some ⟨g0, 0, none⟩) ∧ t9 = .pointer (some ⟨g1, 0, none⟩) ∧ t10 = .pointer (some ⟨g2, 0, none⟩) ∧ t11 = .pointer (some ⟨g3, 0, none⟩) ∧ Below w1.heap.size w1 wx
  ∧ Blk wx g0 (es.getD 0 (0, 0)).1 (es.getD 0 (0, 0)).2 ∧ Blk wx g1 (es.getD 1 (0, 0)).1 (es.getD 1 (0, 0)).2 ∧ Blk wx g2 (es.getD 2 (0, 0)).1 (es.getD 2 (0, 0)).2 ∧ Blk wx g3 (es.getD 3 (0, 0)).1 (es.getD 3 (0, 0)).2)
 case first =>
  clear hmin hmax
  have hC : ∀ W, Below w1.heap.size w1 W → W.cell? ⟨w.heap.size, 0, none⟩ = some (.float .f64 a1) ∧ W.cell? ⟨w.heap.size, 1, none⟩ = some (.float .f64 a2) ∧ W.cell? ⟨w.heap.size + 1, 0, none⟩ = some (.float .f64 b1) ∧ W.cell? ⟨w.heap.size + 1, 1, none⟩ = some (.float .f64 b2) := fun W hb => by
   have S2 := S1.on hb
   exact ⟨S2.cell 0 rfl 0 w.heap.size rfl, S2.cell 0 rfl 1 w.heap.size rfl, S2.cell 1 rfl 0 (w.heap.size + 1) rfl, S2.cell 1 rfl 1 (w.heap.size + 1) rfl⟩
  have E1 := E1.out
  have E2 := E2.out
  have E3 := E3.out
  have E4 := E4.out
  have hg := hg.out
  generalize w.heap.size = wz at *
  generalize hds : ([some 12, some 13, some 14, some 15, some 16, some 17, some 18, some 19, some 20, some 21, some 22, some 23, some 24, some 25, some 26, some 27, some 28, some 29, some 30, some 31, some 32, some 33, some 34, some 35, some 8, some 9, some 10, some 11, none, none, none, none] : List (Option Tmp)) = ds
  have hap : apartL ds = true := by rw [← hds]; decide
  have hds := hds.symm
  refine wp_region_inv (by kernel_rfl) ds (by rw [hds]; rfl) hap (by decide +kernel) (by decide +kernel) (CorW g wz a1 a2 b1 b2 es w1) ?start ?step ?fin
  case start =>
   refine ⟨(Below.refl _ w1).drew, fun i v u h => ?_, fun j hj v h => ?_, fun j k hj hk hjk v u h => ?_, fun j hj h o ho => ?_⟩
   · exact absurd h (nones_get _ _ _)
   · exact absurd h (nones_get _ _ _)
   · exact absurd h (nones_get _ _ _)
   · exact absurd ho (nones_get _ _ _)
  case step =>
   intro L W i o hL ho hn hd hW
   rcases (ql32 (Array.getElem?_eq_some_iff.1 ho).1) with rfl | rfl | rfl | rfl | rfl | rfl | rfl | rfl | rfl | rfl | rfl | rfl | rfl | rfl | rfl | rfl | rfl | rfl | rfl | rfl | rfl | rfl | rfl | rfl | rfl | rfl | rfl | rfl | rfl | rfl | rfl | rfl
   · obtain rfl := qsj ho
     refine step_value (ex_move W rfl (puts_old ds L _ (by rw [hds]; decide))) ⟨_, rfl, ?_⟩
     exact hW.det_step (by omega) rfl
   · obtain rfl := qsj ho
     refine step_value (ex_fa0 W rfl (puts_old ds L _ (by rw [hds]; decide))) ⟨_, rfl, ?_⟩
     exact hW.det_step (by omega) rfl
   · obtain rfl := qsj ho
     obtain ⟨v, hv⟩ := hd ⟨1, .data⟩ (by simp) rfl
     obtain rfl := hW.det 1 v _ hv rfl
     refine step_value (ex_load rfl (puts_get 1 ds L _ hap (by rw [hds]; rfl) hv (show 13 < 54 by decide)) ((hC _ hW.old).1)) ⟨_, rfl, ?_⟩
     exact hW.det_step (by omega) rfl
   · obtain rfl := qsj ho
     refine step_value (ex_fa0 W rfl (puts_old ds L _ (by rw [hds]; decide))) ⟨_, rfl, ?_⟩
     exact hW.det_step (by omega) rfl
   · obtain rfl := qsj ho
     obtain ⟨v, hv⟩ := hd ⟨3, .data⟩ (by simp) rfl
     obtain rfl := hW.det 3 v _ hv rfl
     refine step_value (ex_load rfl (puts_get 3 ds L _ hap (by rw [hds]; rfl) hv (show 15 < 54 by decide)) ((hC _ hW.old).2.2.1)) ⟨_, rfl, ?_⟩
     exact hW.det_step (by omega) rfl
   · obtain rfl := qsj ho
     obtain ⟨vf, hvf⟩ := hd ⟨0, .data⟩ (by simp) rfl
     obtain rfl := hW.det 0 vf _ hvf rfl
     obtain ⟨vx, hvx⟩ := hd ⟨2, .data⟩ (by simp) rfl
     obtain rfl := hW.det 2 vx _ hvx rfl
     obtain ⟨vy, hvy⟩ := hd ⟨4, .data⟩ (by simp) rfl
     obtain rfl := hW.det 4 vy _ hvy rfl
     refine step_call (ex_call W rfl (puts_get 0 ds L _ hap (by rw [hds]; rfl) hvf (show 12 < 54 by decide)) (puts_get 2 ds L _ hap (by rw [hds]; rfl) hvx (show 14 < 54 by decide)) (puts_get 4 ds L _ hap (by rw [hds]; rfl) hvy (show 16 < 54 by decide)) (hg _ _ _)) ?_
     refine (E1 W).mono fun e W' ⟨he, hB⟩ => ⟨_, he, _, rfl, ?_⟩
     exact (hW.on hB).det_step (by omega) rfl
   · obtain rfl := qsj ho
     refine step_value (ex_move W rfl (puts_old ds L _ (by rw [hds]; decide))) ⟨_, rfl, ?_⟩
     exact hW.det_step (by omega) rfl
   · obtain rfl := qsj ho
     refine step_value (ex_fa0 W rfl (puts_old ds L _ (by rw [hds]; decide))) ⟨_, rfl, ?_⟩
     exact hW.det_step (by omega) rfl
   · obtain rfl := qsj ho
     obtain ⟨v, hv⟩ := hd ⟨7, .data⟩ (by simp) rfl
     obtain rfl := hW.det 7 v _ hv rfl
     refine step_value (ex_load rfl (puts_get 7 ds L _ hap (by rw [hds]; rfl) hv (show 19 < 54 by decide)) ((hC _ hW.old).1)) ⟨_, rfl, ?_⟩
     exact hW.det_step (by omega) rfl
   · obtain rfl := qsj ho
     refine step_value (ex_fa1 W rfl (puts_old ds L _ (by rw [hds]; decide))) ⟨_, rfl, ?_⟩
     exact hW.det_step (by omega) rfl
   · obtain rfl := qsj ho
     obtain ⟨v, hv⟩ := hd ⟨9, .data⟩ (by simp) rfl
     obtain rfl := hW.det 9 v _ hv rfl
     refine step_value (ex_load rfl (puts_get 9 ds L _ hap (by rw [hds]; rfl) hv (show 21 < 54 by decide)) ((hC _ hW.old).2.2.2)) ⟨_, rfl, ?_⟩
     exact hW.det_step (by omega) rfl
   · obtain rfl := qsj ho
     obtain ⟨vf, hvf⟩ := hd ⟨6, .data⟩ (by simp) rfl
     obtain rfl := hW.det 6 vf _ hvf rfl
     obtain ⟨vx, hvx⟩ := hd ⟨8, .data⟩ (by simp) rfl
     obtain rfl := hW.det 8 vx _ hvx rfl
     obtain ⟨vy, hvy⟩ := hd ⟨10, .data⟩ (by simp) rfl
     obtain rfl := hW.det 10 vy _ hvy rfl
     refine step_call (ex_call W rfl (puts_get 6 ds L _ hap (by rw [hds]; rfl) hvf (show 18 < 54 by decide)) (puts_get 8 ds L _ hap (by rw [hds]; rfl) hvx (show 20 < 54 by decide)) (puts_get 10 ds L _ hap (by rw [hds]; rfl) hvy (show 22 < 54 by decide)) (hg _ _ _)) ?_
     refine (E2 W).mono fun e W' ⟨he, hB⟩ => ⟨_, he, _, rfl, ?_⟩
     exact (hW.on hB).det_step (by omega) rfl
   · obtain rfl := qsj ho
     refine step_value (ex_move W rfl (puts_old ds L _ (by rw [hds]; decide))) ⟨_, rfl, ?_⟩
     exact hW.det_step (by omega) rfl
   · obtain rfl := qsj ho
     refine step_value (ex_fa1 W rfl (puts_old ds L _ (by rw [hds]; decide))) ⟨_, rfl, ?_⟩
     exact hW.det_step (by omega) rfl
   · obtain rfl := qsj ho
     obtain ⟨v, hv⟩ := hd ⟨13, .data⟩ (by simp) rfl
     obtain rfl := hW.det 13 v _ hv rfl
     refine step_value (ex_load rfl (puts_get 13 ds L _ hap (by rw [hds]; rfl) hv (show 25 < 54 by decide)) ((hC _ hW.old).2.1)) ⟨_, rfl, ?_⟩
     exact hW.det_step (by omega) rfl
   · obtain rfl := qsj ho
     refine step_value (ex_fa0 W rfl (puts_old ds L _ (by rw [hds]; decide))) ⟨_, rfl, ?_⟩
     exact hW.det_step (by omega) rfl
   · obtain rfl := qsj ho
     obtain ⟨v, hv⟩ := hd ⟨15, .data⟩ (by simp) rfl
     obtain rfl := hW.det 15 v _ hv rfl
     refine step_value (ex_load rfl (puts_get 15 ds L _ hap (by rw [hds]; rfl) hv (show 27 < 54 by decide)) ((hC _ hW.old).2.2.1)) ⟨_, rfl, ?_⟩
     exact hW.det_step (by omega) rfl
   · obtain rfl := qsj ho
     obtain ⟨vf, hvf⟩ := hd ⟨12, .data⟩ (by simp) rfl
     obtain rfl := hW.det 12 vf _ hvf rfl
     obtain ⟨vx, hvx⟩ := hd ⟨14, .data⟩ (by simp) rfl
     obtain rfl := hW.det 14 vx _ hvx rfl
     obtain ⟨vy, hvy⟩ := hd ⟨16, .data⟩ (by simp) rfl
     obtain rfl := hW.det 16 vy _ hvy rfl
     refine step_call (ex_call W rfl (puts_get 12 ds L _ hap (by rw [hds]; rfl) hvf (show 24 < 54 by decide)) (puts_get 14 ds L _ hap (by rw [hds]; rfl) hvx (show 26 < 54 by decide)) (puts_get 16 ds L _ hap (by rw [hds]; rfl) hvy (show 28 < 54 by decide)) (hg _ _ _)) ?_
     refine (E3 W).mono fun e W' ⟨he, hB⟩ => ⟨_, he, _, rfl, ?_⟩
     exact (hW.on hB).det_step (by omega) rfl
   · obtain rfl := qsj ho
     refine step_value (ex_move W rfl (puts_old ds L _ (by rw [hds]; decide))) ⟨_, rfl, ?_⟩
     exact hW.det_step (by omega) rfl
   · obtain rfl := qsj ho
     refine step_value (ex_fa1 W rfl (puts_old ds L _ (by rw [hds]; decide))) ⟨_, rfl, ?_⟩
     exact hW.det_step (by omega) rfl
   · obtain rfl := qsj ho
     obtain ⟨v, hv⟩ := hd ⟨19, .data⟩ (by simp) rfl
     obtain rfl := hW.det 19 v _ hv rfl
     refine step_value (ex_load rfl (puts_get 19 ds L _ hap (by rw [hds]; rfl) hv (show 31 < 54 by decide)) ((hC _ hW.old).2.1)) ⟨_, rfl, ?_⟩
     exact hW.det_step (by omega) rfl
   · obtain rfl := qsj ho
     refine step_value (ex_fa1 W rfl (puts_old ds L _ (by rw [hds]; decide))) ⟨_, rfl, ?_⟩
     exact hW.det_step (by omega) rfl
   · obtain rfl := qsj ho
     obtain ⟨v, hv⟩ := hd ⟨21, .data⟩ (by simp) rfl
     obtain rfl := hW.det 21 v _ hv rfl
     refine step_value (ex_load rfl (puts_get 21 ds L _ hap (by rw [hds]; rfl) hv (show 33 < 54 by decide)) ((hC _ hW.old).2.2.2)) ⟨_, rfl, ?_⟩
     exact hW.det_step (by omega) rfl
   · obtain rfl := qsj ho
     obtain ⟨vf, hvf⟩ := hd ⟨18, .data⟩ (by simp) rfl
     obtain rfl := hW.det 18 vf _ hvf rfl
     obtain ⟨vx, hvx⟩ := hd ⟨20, .data⟩ (by simp) rfl
     obtain rfl := hW.det 20 vx _ hvx rfl
     obtain ⟨vy, hvy⟩ := hd ⟨22, .data⟩ (by simp) rfl
     obtain rfl := hW.det 22 vy _ hvy rfl
     refine step_call (ex_call W rfl (puts_get 18 ds L _ hap (by rw [hds]; rfl) hvf (show 30 < 54 by decide)) (puts_get 20 ds L _ hap (by rw [hds]; rfl) hvx (show 32 < 54 by decide)) (puts_get 22 ds L _ hap (by rw [hds]; rfl) hvy (show 34 < 54 by decide)) (hg _ _ _)) ?_
     refine (E4 W).mono fun e W' ⟨he, hB⟩ => ⟨_, he, _, rfl, ?_⟩
     exact (hW.on hB).det_step (by omega) rfl
   · obtain rfl := qsj ho
     refine step_value (ex_alloc W rfl) ⟨_, rfl, ?_⟩
     exact hW.alloc_step (j := 0) (by omega) hn
   · obtain rfl := qsj ho
     refine step_value (ex_alloc W rfl) ⟨_, rfl, ?_⟩
     exact hW.alloc_step (j := 1) (by omega) hn
   · obtain rfl := qsj ho
     refine step_value (ex_alloc W rfl) ⟨_, rfl, ?_⟩
     exact hW.alloc_step (j := 2) (by omega) hn
   · obtain rfl := qsj ho
     refine step_value (ex_alloc W rfl) ⟨_, rfl, ?_⟩
     exact hW.alloc_step (j := 3) (by omega) hn
   · obtain rfl := qsj ho
     obtain ⟨vp, hvp⟩ := hd ⟨24, .data⟩ (by simp) rfl
     obtain ⟨vs, hvs⟩ := hd ⟨5, .data⟩ (by simp) rfl
     obtain ⟨h, rfl, -, b⟩ := hW.blk 0 (by omega) vp hvp
     obtain rfl := hW.det 5 vs _ hvs rfl
     refine step_skip (ex_store rfl (puts_get 24 ds L _ hap (by rw [hds]; rfl) hvp (show 8 < 54 by decide)) (puts_get 5 ds L _ hap (by rw [hds]; rfl) hvs (show 17 < 54 by decide)) b.lo b.hi b.f0 b.f1) ⟨undef, rfl, ?_⟩
     exact hW.store_step (j := 0) (by omega) hn hvp
   · obtain rfl := qsj ho
     obtain ⟨vp, hvp⟩ := hd ⟨25, .data⟩ (by simp) rfl
     obtain ⟨vs, hvs⟩ := hd ⟨11, .data⟩ (by simp) rfl
     obtain ⟨h, rfl, -, b⟩ := hW.blk 1 (by omega) vp hvp
     obtain rfl := hW.det 11 vs _ hvs rfl
     refine step_skip (ex_store rfl (puts_get 25 ds L _ hap (by rw [hds]; rfl) hvp (show 9 < 54 by decide)) (puts_get 11 ds L _ hap (by rw [hds]; rfl) hvs (show 23 < 54 by decide)) b.lo b.hi b.f0 b.f1) ⟨undef, rfl, ?_⟩
     exact hW.store_step (j := 1) (by omega) hn hvp
   · obtain rfl := qsj ho
     obtain ⟨vp, hvp⟩ := hd ⟨26, .data⟩ (by simp) rfl
     obtain ⟨vs, hvs⟩ := hd ⟨17, .data⟩ (by simp) rfl
     obtain ⟨h, rfl, -, b⟩ := hW.blk 2 (by omega) vp hvp
     obtain rfl := hW.det 17 vs _ hvs rfl
     refine step_skip (ex_store rfl (puts_get 26 ds L _ hap (by rw [hds]; rfl) hvp (show 10 < 54 by decide)) (puts_get 17 ds L _ hap (by rw [hds]; rfl) hvs (show 29 < 54 by decide)) b.lo b.hi b.f0 b.f1) ⟨undef, rfl, ?_⟩
     exact hW.store_step (j := 2) (by omega) hn hvp
   · obtain rfl := qsj ho
     obtain ⟨vp, hvp⟩ := hd ⟨27, .data⟩ (by simp) rfl
     obtain ⟨vs, hvs⟩ := hd ⟨23, .data⟩ (by simp) rfl
     obtain ⟨h, rfl, -, b⟩ := hW.blk 3 (by omega) vp hvp
     obtain rfl := hW.det 23 vs _ hvs rfl
     refine step_skip (ex_store rfl (puts_get 27 ds L _ hap (by rw [hds]; rfl) hvp (show 11 < 54 by decide)) (puts_get 23 ds L _ hap (by rw [hds]; rfl) hvs (show 35 < 54 by decide)) b.lo b.hi b.f0 b.f1) ⟨undef, rfl, ?_⟩
     exact hW.store_step (j := 3) (by omega) hn hvp
  case fin =>
   intro L W hL hall hW
   obtain ⟨f, hf, hall⟩ := all_some (n := 32) hL hall
   have key : ∀ j, j < 4 → ∃ h, f (24 + j) = .pointer (some ⟨h, 0, none⟩) ∧ Blk W h (es.getD j (0, 0)).1 (es.getD j (0, 0)).2 := fun j hj => by
        obtain ⟨h, e, -, b⟩ := hW.blk j hj _ (hall (24 + j) (by omega))
        have ec : corE es L j = es.getD j (0, 0) := by unfold corE; rw [hall (28 + j) (by omega)]; rfl
        rw [ec] at b
        exact ⟨h, e, b⟩
   obtain ⟨g0, e0, B0⟩ := key 0 (by omega)
   obtain ⟨g1, e1, B1⟩ := key 1 (by omega)
   obtain ⟨g2, e2, B2⟩ := key 2 (by omega)
   obtain ⟨g3, e3, B3⟩ := key 3 (by omega)
   have old := hW.old
   rw [hf, hds, show List.range 32 = [0, 1, 2, 3, 4, 5, 6, 7, 8, 9, 10, 11, 12, 13, 14, 15, 16, 17, 18, 19, 20, 21, 22, 23, 24, 25, 26, 27, 28, 29, 30, 31] by decide]
   clear hW hall key hf hL hC E1 E2 E3 E4 hg
   simp only [List.map_cons, List.map_nil, puts, Act.put, List.setIfInBounds_toArray, List.set_cons_zero, List.set_cons_succ]
   go_step
   go_step
   go_meet
   exact ⟨g0, g1, g2, g3, e0, e1, e2, e3, old, B0, B1, B2, B3⟩
 case rest =>
  obtain ⟨g0, g1, g2, g3, rfl, rfl, rfl, rfl, old, B0, B1, B2, B3⟩ := hcut
  have l0 := B0.lo
  have l1 := B1.lo
  have l2 := B2.lo
  have l3 := B3.lo
  have m0 := B0.hi
  have m1 := B1.hi
  have m2 := B2.hi
  have m3 := B3.hi
  have BB := Lib.hid (S1.old.trans (old.mono S1.old.size))
  have hmin := hmin.out
  have hmax := hmax.out
  clear B0 B1 B2 B3 old S1 hz E1 E2 E3 E4 hg
  generalize (es.getD 0 (0, 0)).1 = p0 at *
  generalize (es.getD 1 (0, 0)).1 = p1 at *
  generalize (es.getD 2 (0, 0)).1 = p2 at *
  generalize (es.getD 3 (0, 0)).1 = p3 at *
  generalize (es.getD 0 (0, 0)).2 = q0 at *
  generalize (es.getD 1 (0, 0)).2 = q1 at *
  generalize (es.getD 2 (0, 0)).2 = q2 at *
  generalize (es.getD 3 (0, 0)).2 = q3 at *
  go_wp2_with fail
  go_quiet (fail)
  go_wp2_with fail
  go_ret2
  exact ⟨rfl, below_drewN BB.out _⟩

def hasB (a b x : Nat) : Bool := decide (errS a b = 0 ∧ nn x ∧ key64 a ≤ key64 x ∧ key64 x ≤ key64 b)
theorem shas_run (a b x : Nat) (ha : a < 18446744073709551616) (hb : b < 18446744073709551616) (hx : x < 18446744073709551616) (w : World) :
 Calls Tryz.prog 180 #[spanV a b, .float .f64 x] w fun e w' => e = .returned (.bool (hasB a b x)) ∧ Below w.heap.size w w' := by
 have CB := Lib.hid (fun w => scheck_run a b ha hb w)
 have S0 : Blocks w [boxO a b] (w.alloc (boxO a b)) := (Blocks.nil w).alloc (by simp) _
 unfold boxO at S0
 unfold spanV at *
 replace S0 := Lib.hid S0
 by_cases h0 : errS a b = 0
 · obtain ⟨f1, f2, -⟩ := errS_zero h0
   have t1 := o_leq a x ha hx
   have t2 := o_leq x b hx hb
   have n1 := fin_nn (fit_fin ha f1)
   have n2 := fin_nn (fit_fin hb f2)
   have hI : hasB a b x = (decide (nn a ∧ nn x ∧ key64 a ≤ key64 x) && decide (nn x ∧ nn b ∧ key64 x ≤ key64 b)) := by
    unfold hasB; rw [Bool.eq_iff_iff]; simp only [decide_eq_true_eq, Bool.and_eq_true]
    constructor
    · rintro ⟨-, h1, h2, h3⟩; exact ⟨⟨n1, h1, h2⟩, h1, n2, h3⟩
    · rintro ⟨⟨-, h1, h2⟩, -, -, h3⟩; exact ⟨h0, h1, h2, h3⟩
   rw [hI, ← t1, ← t2]
   rw [h0] at CB
   clear h0 f1 f2 n1 n2 ha hb hx t1 t2 hI
   generalize hp : (FloatKind.f64.format.order a x == some Ordering.lt || FloatKind.f64.format.order a x == some Ordering.eq) = p at *
   generalize hq : (FloatKind.f64.format.order x b == some Ordering.lt || FloatKind.f64.format.order x b == some Ordering.eq) = q at *
   cases p <;> cases q
   all_goals
    go_enter Tryz.func180, Tryz.ntmps180
    go_wp2_with fail
    have S := S0.out
    clear S0
    generalize w.alloc _ = wr at *
    refine (CB.out wr).mono ?_
    rintro _ w1 ⟨rfl, hb1⟩
    have S1 := S.on hb1
    have c00 := S1.cell 0 rfl 0 w.heap.size rfl
    have c01 := S1.cell 0 rfl 1 w.heap.size rfl
    have B1 := Lib.hid S1.old
    clear S S1 hb1
    go_wp2_with fail
    go_ret
    exact ⟨rfl, B1.out⟩
 · have hI : hasB a b x = false := by unfold hasB; simp [h0]
   rw [hI]
   have t : (errS a b == 0) = false := by simpa using h0
   clear h0 ha hb hx hI
   generalize errS a b = er at *
   go_enter Tryz.func180, Tryz.ntmps180
   go_wp2_with fail
   have S := S0.out
   clear S0
   generalize w.alloc _ = wr at *
   refine (CB.out wr).mono ?_
   rintro _ w1 ⟨rfl, hb1⟩
   have B1 := Lib.hid (S.on hb1).old
   clear S hb1
   go_wp2_with fail
   go_ret
   exact ⟨rfl, B1.out⟩
theorem has_zero {a b : Nat} (ha : a < 18446744073709551616) (hb : b < 18446744073709551616) (h0 : errS a b = 0) : hasB a b 0 = decide (V a ≤ 0 ∧ 0 ≤ V b) := by
 obtain ⟨f1, f2, -⟩ := errS_zero h0
 have k1 := V_lt_key zero_fin (fit_fin ha f1)
 have k2 := V_lt_key (fit_fin hb f2) zero_fin
 rw [V_zero] at k1 k2
 unfold hasB
 rw [decide_eq_decide]
 constructor
 · rintro ⟨-, -, h2, h3⟩; exact ⟨by omega, by omega⟩
 · rintro ⟨h2, h3⟩; exact ⟨h0, fin_nn zero_fin, by omega, by omega⟩

theorem DnAll.congr {cs : List (Int → Int)} {x y : Nat} (h : DnAll cs x) (hy : FinW y) (e : V y = V x) : DnAll cs y := ⟨hy, by rw [e]; exact h.le, by rw [e]; exact h.top⟩
theorem UpAll.congr {cs : List (Int → Int)} {x y : Nat} (h : UpAll cs x) (hy : FinW y) (e : V y = V x) : UpAll cs y := ⟨hy, by rw [e]; exact h.ge, by rw [e]; exact h.low⟩
theorem DnAll.mn {cs : List (Int → Int)} {c : Int → Int} {x y : Nat} (h : DnAll cs x) (k : Dn c y) (hcs : ∀ d ∈ cs, Falls d) (hc : Falls c) : DnAll (cs ++ [c]) (mnW x y) := by
 obtain ⟨a, b, d⟩ := mnW_spec h.fin k.fin
 obtain ⟨m1, m2, m3⟩ := minW_V y x
 refine (h.more k hcs hc).congr (mnW_fin h.fin k.fin) ?_
 rcases a with a | a <;> rw [a] at b d ⊢ <;> omega
theorem UpAll.mx {cs : List (Int → Int)} {c : Int → Int} {x y : Nat} (h : UpAll cs x) (k : Up c y) (hcs : ∀ d ∈ cs, Falls d) (hc : Falls c) : UpAll (cs ++ [c]) (mxW x y) := by
 obtain ⟨a, b, d⟩ := mxW_spec h.fin k.fin
 obtain ⟨m1, m2, m3⟩ := maxW_V y x
 refine (h.more k hcs hc).congr (mxW_fin h.fin k.fin) ?_
 rcases a with a | a <;> rw [a] at b d ⊢ <;> omega
theorem falls_prod (a b : Nat) : Falls (prodC a b) := falls_sub _
structure Four (c1 c2 c3 c4 : Int → Int) (l1 l2 l3 l4 u1 u2 u3 u4 : Nat) : Prop where
 lo : DnAll [c1, c2, c3, c4] (mnW (mnW (mnW l1 l2) l3) l4)
 hi : UpAll [c1, c2, c3, c4] (mxW (mxW (mxW u1 u2) u3) u4)
 le : V l1 ≤ V u1 → V (mnW (mnW (mnW l1 l2) l3) l4) ≤ V (mxW (mxW (mxW u1 u2) u3) u4)
theorem four_of {c1 c2 c3 c4 : Int → Int} {l1 l2 l3 l4 u1 u2 u3 u4 : Nat} (d1 : Dn c1 l1) (d2 : Dn c2 l2) (d3 : Dn c3 l3) (d4 : Dn c4 l4) (e1 : Up c1 u1) (e2 : Up c2 u2) (e3 : Up c3 u3) (e4 : Up c4 u4)
 (h1 : Falls c1) (h2 : Falls c2) (h3 : Falls c3) (h4 : Falls c4) : Four c1 c2 c3 c4 l1 l2 l3 l4 u1 u2 u3 u4 := by
 have q1 : ∀ d ∈ [c1], Falls d := fun d hd => by rw [List.mem_singleton.1 hd]; exact h1
 have q2 : ∀ d ∈ [c1, c2], Falls d := fun d hd => by
  rcases List.mem_cons.1 hd with rfl | hd
  · exact h1
  · rw [List.mem_singleton.1 hd]; exact h2
 have q3 : ∀ d ∈ [c1, c2, c3], Falls d := fun d hd => by
  rcases List.mem_cons.1 hd with rfl | hd
  · exact h1
  · rcases List.mem_cons.1 hd with rfl | hd
    · exact h2
    · rw [List.mem_singleton.1 hd]; exact h3
 have a2 := d1.all.mn d2 q1 h2
 have a3 := DnAll.mn (cs := [c1, c2]) a2 d3 q2 h3
 have a4 := DnAll.mn (cs := [c1, c2, c3]) a3 d4 q3 h4
 have b2 := e1.all.mx e2 q1 h2
 have b3 := UpAll.mx (cs := [c1, c2]) b2 e3 q2 h3
 have b4 := UpAll.mx (cs := [c1, c2, c3]) b3 e4 q3 h4
 refine ⟨a4, b4, fun hle => ?_⟩
 have := (mnW_spec d1.fin d2.fin).2.1
 have := (mnW_spec a2.fin d3.fin).2.1
 have := (mnW_spec a3.fin d4.fin).2.1
 have := (mxW_spec e1.fin e2.fin).2.1
 have := (mxW_spec b2.fin e3.fin).2.1
 have := (mxW_spec b3.fin e4.fin).2.1
 omega
theorem prod_lu {a b l u : Nat} (d : Dn (prodC a b) l) (e : Up (prodC a b) u) : V l ≤ V u := by
 have h1 : 0 ≤ prodN a b - V l := d.le
 have h2 : prodN a b - V u ≤ 0 := e.ge
 omega
theorem quot_lu {a b l u : Nat} (h0 : V b ≠ 0) (d : Dn (quotC a b) l) (e : Up (quotC a b) u) : V l ≤ V u := by
 have h1 := d.le
 have h2 := e.ge
 refine Int.not_lt.1 fun hlt => ?_
 unfold quotC at h1 h2
 by_cases hb : V b < 0
 · rw [if_pos hb] at h1 h2
   have := Int.mul_lt_mul_of_neg_right hlt hb
   omega
 · rw [if_neg hb] at h1 h2
   have := Int.mul_lt_mul_of_pos_right hlt (show 0 < V b by omega)
   omega
theorem cf_prod (x y : Nat) (w : World) : (callFunc 129 #[.float .f64 x, .float .f64 y]).run Tryz.prog w = .ok (.enter 129 #[.float .f64 x, .float .f64 y]) w := by
 have h := Tryz.func129
 go_simp
theorem cf_quot (x y : Nat) (w : World) : (callFunc 181 #[.float .f64 x, .float .f64 y]).run Tryz.prog w = .ok (.enter 181 #[.float .f64 x, .float .f64 y]) w := by
 have h := Tryz.func181
 go_simp

theorem smul_run (a1 a2 b1 b2 : Nat) (ha : a1 < 18446744073709551616) (ha' : a2 < 18446744073709551616) (hb : b1 < 18446744073709551616) (hb' : b2 < 18446744073709551616) (w : World) :
 Calls Tryz.prog 76 #[spanV a1 a2, spanV b1 b2] w fun e w' => OpAll (errSS a1 a2 b1 b2) [prodC a1 b1, prodC a1 b2, prodC a2 b1, prodC a2 b2] [prodC a1 b1, prodC a1 b2, prodC a2 b1, prodC a2 b2] e ∧ Below w.heap.size w w' := by
 have CB := Lib.hid (fun w => sboth_run a1 a2 b1 b2 ha ha' hb hb' w)
 have S0 : Blocks w (([boxO a1 a2] ++ [boxO b1 b2]) ++ [zeroO]) (((w.alloc (boxO a1 a2)).alloc (boxO b1 b2)).alloc zeroO) := (((Blocks.nil w).alloc (by simp) _).alloc (by simp) _).alloc (by simp) _
 unfold boxO zeroO at S0
 unfold spanV at *
 replace S0 := Lib.hid S0
 have hst := @fstore
 by_cases h0 : errSS a1 a2 b1 b2 = 0
 · obtain ⟨e1, e2⟩ := errSS_zero h0
   obtain ⟨f1, f2, le1⟩ := errS_zero e1
   obtain ⟨f3, f4, le2⟩ := errS_zero e2
   obtain ⟨l1, u1, d1, v1, A1⟩ := sprod_run ha hb f1 f3
   obtain ⟨l2, u2, d2, v2, A2⟩ := sprod_run ha hb' f1 f4
   obtain ⟨l3, u3, d3, v3, A3⟩ := sprod_run ha' hb f2 f3
   obtain ⟨l4, u4, d4, v4, A4⟩ := sprod_run ha' hb' f2 f4
   have F4 := four_of d1 d2 d3 d4 v1 v2 v3 v4 (falls_prod _ _) (falls_prod _ _) (falls_prod _ _) (falls_prod _ _)
   have hle := F4.le (prod_lu d1 v1)
   have M1 := fun ts t w => run_minf4 (P := Tryz.prog) d1.fin d2.fin d3.fin d4.fin ts t w
   have M2 := fun ts t w => run_maxf4 (P := Tryz.prog) v1.fin v2.fin v3.fin v4.fin ts t w
   have CR := Lib.hid (fun w => corners_run 129 a1 a2 b1 b2 [(l1, u1), (l2, u2), (l3, u3), (l4, u4)] cf_prod A1 A2 A3 A4 _ _ M1 M2 w)
   have TR := Lib.hid (fun w => out_run _ _ F4.lo.fin F4.hi.fin hle w)
   have hD := F4.lo
   have hU := F4.hi
   clear F4 hle M1 M2
   generalize mnW (mnW (mnW l1 l2) l3) l4 = lo at *
   generalize mxW (mxW (mxW u1 u2) u3) u4 = hi at *
   obtain ⟨x, y, c, hT⟩ := toldE_span lo hi
   rw [hT] at TR
   have hO : Hid (OpAll (errSS a1 a2 b1 b2) [prodC a1 b1, prodC a1 b2, prodC a2 b1, prodC a2 b2] [prodC a1 b1, prodC a1 b2, prodC a2 b1, prodC a2 b2] (.returned (spanE x y c))) := ⟨fun _ => ⟨lo, hi, by rw [hT], hD, hU⟩, fun h => absurd h0 h⟩
   rw [h0] at CB
   unfold spanE at TR
   unfold spanV at CR
   clear h0 e1 e2 f1 f2 f3 f4 le1 le2 hD hU hT ha ha' hb hb' d1 d2 d3 d4 v1 v2 v3 v4 A1 A2 A3 A4 
   go_enter Tryz.func76, Tryz.ntmps76
   go_wp2_with fail
   have S := S0.out
   clear S0
   generalize ((w.alloc _).alloc _).alloc _ = wr at *
   refine (CB.out wr).mono ?_
   rintro _ w1 ⟨rfl, hb1⟩
   have S1 := S.on hb1
   have c00 := S1.cell 0 rfl 0 w.heap.size rfl
   have c01 := S1.cell 0 rfl 1 w.heap.size rfl
   have c10 := S1.cell 1 rfl 0 (w.heap.size + 1) rfl
   have c11 := S1.cell 1 rfl 1 (w.heap.size + 1) rfl
   replace S1 := Lib.hid S1
   clear S hb1
   go_wp2_with fail
   refine (CR.out w1).mono ?_
   rintro _ w2 ⟨rfl, hb2⟩
   have S2 := Lib.hid (S1.out.on hb2)
   clear S1 hb2 c00 c01 c10 c11
   go_wp2_with fail
   refine (TR.out w2).mono ?_
   rintro _ w3 ⟨rfl, hb3⟩
   have S3 := S2.out.on hb3
   have r0 := S3.cell 2 rfl 0 (w.heap.size + 1 + 1) rfl
   have r1 := S3.cell 2 rfl 1 (w.heap.size + 1 + 1) rfl
   have f0 := S3.free 2 rfl 0 (w.heap.size + 1 + 1) rfl
   have f1 := S3.free 2 rfl 1 (w.heap.size + 1 + 1) rfl
   have B2 := Lib.hid S3.old
   clear S2 S3 hb3
   go_wp2_with fail
   (try simp only [Exit.inBlock, Exit.then])
   refine bodyPost_ret (v := spanE x y c) ?_ rfl ⟨hO.out, ?_⟩
   · rw [results_cell_tmp rfl]; unfold spanE; go_simp
   · exact (B2.out.setCell (by show _ ≤ (w.heap.size + 1 + 1); omega) _).setCell (by show _ ≤ (w.heap.size + 1 + 1); omega) _
 · have hO : Hid (OpAll (errSS a1 a2 b1 b2) [prodC a1 b1, prodC a1 b2, prodC a2 b1, prodC a2 b2] [prodC a1 b1, prodC a1 b2, prodC a2 b1, prodC a2 b2] (.returned (spanE 0 0 (errSS a1 a2 b1 b2)))) := ⟨fun h => absurd h h0, fun _ => rfl⟩
   have t : (errSS a1 a2 b1 b2 != 0) = true := by simpa using h0
   clear h0 ha ha' hb hb'
   generalize errSS a1 a2 b1 b2 = er at *
   go_enter Tryz.func76, Tryz.ntmps76
   go_wp2_with fail
   have S := S0.out
   clear S0
   generalize ((w.alloc _).alloc _).alloc _ = wr at *
   refine (CB.out wr).mono ?_
   rintro _ w1 ⟨rfl, hb1⟩
   have S1 := S.on hb1
   have r0 := S1.cell 2 rfl 0 (w.heap.size + 1 + 1) rfl
   have r1 := S1.cell 2 rfl 1 (w.heap.size + 1 + 1) rfl
   have f0 := S1.free 2 rfl 0 (w.heap.size + 1 + 1) rfl
   have f1 := S1.free 2 rfl 1 (w.heap.size + 1 + 1) rfl
   have B2 := Lib.hid S1.old
   clear S S1 hb1
   go_wp2_with fail
   (try simp only [Exit.inBlock, Exit.then])
   refine bodyPost_ret (v := spanE 0 0 er) ?_ rfl ⟨hO.out, ?_⟩
   · rw [results_cell_tmp rfl]; unfold spanE; go_simp
   · exact (B2.out.setCell (by show _ ≤ (w.heap.size + 1 + 1); omega) _).setCell (by show _ ≤ (w.heap.size + 1 + 1); omega) _

theorem sdiv_run (a1 a2 b1 b2 : Nat) (ha : a1 < 18446744073709551616) (ha' : a2 < 18446744073709551616) (hb : b1 < 18446744073709551616) (hb' : b2 < 18446744073709551616) (w : World) :
 Calls Tryz.prog 149 #[spanV a1 a2, spanV b1 b2] w fun e w' => OpAll (errD a1 a2 b1 b2) [quotC a1 b1, quotC a1 b2, quotC a2 b1, quotC a2 b2] [quotC a1 b1, quotC a1 b2, quotC a2 b1, quotC a2 b2] e ∧ Below w.heap.size w w' := by
 have CB := Lib.hid (fun w => sboth_run a1 a2 b1 b2 ha ha' hb hb' w)
 have S0 : Blocks w (([boxO a1 a2] ++ [boxO b1 b2]) ++ [zeroO]) (((w.alloc (boxO a1 a2)).alloc (boxO b1 b2)).alloc zeroO) := (((Blocks.nil w).alloc (by simp) _).alloc (by simp) _).alloc (by simp) _
 unfold boxO zeroO at S0
 unfold spanV at *
 replace S0 := Lib.hid S0
 have hst := @fstore
 by_cases h0 : errSS a1 a2 b1 b2 = 0
 · obtain ⟨e1, e2⟩ := errSS_zero h0
   obtain ⟨f1, f2, le1⟩ := errS_zero e1
   obtain ⟨f3, f4, le2⟩ := errS_zero e2
   have HB := Lib.hid (fun w => shas_run b1 b2 0 hb hb' zero_fin.1 w)
   rw [has_zero hb hb' e2] at HB
   by_cases hz : V b1 ≤ 0 ∧ 0 ≤ V b2
   · have hO : Hid (OpAll (errD a1 a2 b1 b2) [quotC a1 b1, quotC a1 b2, quotC a2 b1, quotC a2 b2] [quotC a1 b1, quotC a1 b2, quotC a2 b1, quotC a2 b2] (.returned (spanE 0 0 4))) := by
        have e : errD a1 a2 b1 b2 = 4 := by unfold errD; rw [if_neg (by simpa using h0), if_pos hz]
        rw [e]; exact ⟨fun h => by omega, fun _ => rfl⟩
     rw [decide_eq_true hz] at HB
     rw [h0] at CB
     clear h0 hz e1 e2 f1 f2 f3 f4 le1 le2 ha ha' hb hb'
     go_enter Tryz.func149, Tryz.ntmps149
     go_wp2_with fail
     have S := S0.out
     clear S0
     generalize ((w.alloc _).alloc _).alloc _ = wr at *
     refine (CB.out wr).mono ?_
     rintro _ w1 ⟨rfl, hb1⟩
     have S1 := S.on hb1
     have c10 := S1.cell 1 rfl 0 (w.heap.size + 1) rfl
     have c11 := S1.cell 1 rfl 1 (w.heap.size + 1) rfl
     replace S1 := Lib.hid S1
     clear S hb1
     go_wp2_with fail
     refine (HB.out w1).mono ?_
     rintro _ w2 ⟨rfl, hb2⟩
     have S2 := S1.out.on hb2
     have r0 := S2.cell 2 rfl 0 (w.heap.size + 1 + 1) rfl
     have r1 := S2.cell 2 rfl 1 (w.heap.size + 1 + 1) rfl
     have f0 := S2.free 2 rfl 0 (w.heap.size + 1 + 1) rfl
     have f1 := S2.free 2 rfl 1 (w.heap.size + 1 + 1) rfl
     have B2 := Lib.hid S2.old
     clear S1 S2 hb2 c10 c11
     go_wp2_with fail
     (try simp only [Exit.inBlock, Exit.then])
     refine bodyPost_ret (v := spanE 0 0 4) ?_ rfl ⟨hO.out, ?_⟩
     · rw [results_cell_tmp rfl]; unfold spanE; go_simp
     · exact (B2.out.setCell (by show _ ≤ (w.heap.size + 1 + 1); omega) _).setCell (by show _ ≤ (w.heap.size + 1 + 1); omega) _
   rw [decide_eq_false hz] at HB
   have z1 : V b1 ≠ 0 := by omega
   have z2 : V b2 ≠ 0 := by omega
   have hE : errD a1 a2 b1 b2 = 0 := by unfold errD; rw [if_neg (by simpa using h0), if_neg hz]
   obtain ⟨l1, u1, d1, v1, A1⟩ := squot_run ha hb f1 f3 z1
   obtain ⟨l2, u2, d2, v2, A2⟩ := squot_run ha hb' f1 f4 z2
   obtain ⟨l3, u3, d3, v3, A3⟩ := squot_run ha' hb f2 f3 z1
   obtain ⟨l4, u4, d4, v4, A4⟩ := squot_run ha' hb' f2 f4 z2
   have F4 := four_of d1 d2 d3 d4 v1 v2 v3 v4 (falls_quot _ _) (falls_quot _ _) (falls_quot _ _) (falls_quot _ _)
   have hle := F4.le (quot_lu (by omega) d1 v1)
   have M1 := fun ts t w => run_minf4 (P := Tryz.prog) d1.fin d2.fin d3.fin d4.fin ts t w
   have M2 := fun ts t w => run_maxf4 (P := Tryz.prog) v1.fin v2.fin v3.fin v4.fin ts t w
   have CR := Lib.hid (fun w => corners_run 181 a1 a2 b1 b2 [(l1, u1), (l2, u2), (l3, u3), (l4, u4)] cf_quot A1 A2 A3 A4 _ _ M1 M2 w)
   have TR := Lib.hid (fun w => out_run _ _ F4.lo.fin F4.hi.fin hle w)
   have hD := F4.lo
   have hU := F4.hi
   clear F4 hle M1 M2
   generalize mnW (mnW (mnW l1 l2) l3) l4 = lo at *
   generalize mxW (mxW (mxW u1 u2) u3) u4 = hi at *
   obtain ⟨x, y, c, hT⟩ := toldE_span lo hi
   rw [hT] at TR
   have hO : Hid (OpAll (errD a1 a2 b1 b2) [quotC a1 b1, quotC a1 b2, quotC a2 b1, quotC a2 b2] [quotC a1 b1, quotC a1 b2, quotC a2 b1, quotC a2 b2] (.returned (spanE x y c))) := ⟨fun _ => ⟨lo, hi, by rw [hT], hD, hU⟩, fun h => absurd hE h⟩
   rw [h0] at CB
   unfold spanE at TR
   unfold spanV at CR
   clear h0 e1 e2 f1 f2 f3 f4 le1 le2 hD hU hT ha ha' hb hb' d1 d2 d3 d4 v1 v2 v3 v4 A1 A2 A3 A4 hz hE z1 z2
   go_enter Tryz.func149, Tryz.ntmps149
   go_wp2_with fail
   have S := S0.out
   clear S0
   generalize ((w.alloc _).alloc _).alloc _ = wr at *
   refine (CB.out wr).mono ?_
   rintro _ w1 ⟨rfl, hb1⟩
   have S1 := S.on hb1
   have c00 := S1.cell 0 rfl 0 w.heap.size rfl
   have c01 := S1.cell 0 rfl 1 w.heap.size rfl
   have c10 := S1.cell 1 rfl 0 (w.heap.size + 1) rfl
   have c11 := S1.cell 1 rfl 1 (w.heap.size + 1) rfl
   replace S1 := Lib.hid S1
   clear S hb1
   go_wp2_with fail
   refine (HB.out w1).mono ?_
   rintro _ wh ⟨rfl, hbh⟩
   have Sh := S1.out.on hbh
   have c00 := Sh.cell 0 rfl 0 w.heap.size rfl
   have c01 := Sh.cell 0 rfl 1 w.heap.size rfl
   have c10 := Sh.cell 1 rfl 0 (w.heap.size + 1) rfl
   have c11 := Sh.cell 1 rfl 1 (w.heap.size + 1) rfl
   replace S1 := Lib.hid Sh
   clear hbh
   go_wp2_with fail
   refine (CR.out wh).mono ?_
   rintro _ w2 ⟨rfl, hb2⟩
   have S2 := Lib.hid (S1.out.on hb2)
   clear S1 hb2 c00 c01 c10 c11
   go_wp2_with fail
   refine (TR.out w2).mono ?_
   rintro _ w3 ⟨rfl, hb3⟩
   have S3 := S2.out.on hb3
   have r0 := S3.cell 2 rfl 0 (w.heap.size + 1 + 1) rfl
   have r1 := S3.cell 2 rfl 1 (w.heap.size + 1 + 1) rfl
   have f0 := S3.free 2 rfl 0 (w.heap.size + 1 + 1) rfl
   have f1 := S3.free 2 rfl 1 (w.heap.size + 1 + 1) rfl
   have B2 := Lib.hid S3.old
   clear S2 S3 hb3
   go_wp2_with fail
   (try simp only [Exit.inBlock, Exit.then])
   refine bodyPost_ret (v := spanE x y c) ?_ rfl ⟨hO.out, ?_⟩
   · rw [results_cell_tmp rfl]; unfold spanE; go_simp
   · exact (B2.out.setCell (by show _ ≤ (w.heap.size + 1 + 1); omega) _).setCell (by show _ ≤ (w.heap.size + 1 + 1); omega) _
 · have hO : Hid (OpAll (errD a1 a2 b1 b2) [quotC a1 b1, quotC a1 b2, quotC a2 b1, quotC a2 b2] [quotC a1 b1, quotC a1 b2, quotC a2 b1, quotC a2 b2] (.returned (spanE 0 0 (errSS a1 a2 b1 b2)))) := by
    have e : errD a1 a2 b1 b2 = errSS a1 a2 b1 b2 := by unfold errD; rw [if_pos h0]
    rw [e]; exact ⟨fun h => absurd h h0, fun _ => rfl⟩
   have t : (errSS a1 a2 b1 b2 != 0) = true := by simpa using h0
   clear h0 ha ha' hb hb'
   generalize errSS a1 a2 b1 b2 = er at *
   go_enter Tryz.func149, Tryz.ntmps149
   go_wp2_with fail
   have S := S0.out
   clear S0
   generalize ((w.alloc _).alloc _).alloc _ = wr at *
   refine (CB.out wr).mono ?_
   rintro _ w1 ⟨rfl, hb1⟩
   have S1 := S.on hb1
   have r0 := S1.cell 2 rfl 0 (w.heap.size + 1 + 1) rfl
   have r1 := S1.cell 2 rfl 1 (w.heap.size + 1 + 1) rfl
   have f0 := S1.free 2 rfl 0 (w.heap.size + 1 + 1) rfl
   have f1 := S1.free 2 rfl 1 (w.heap.size + 1 + 1) rfl
   have B2 := Lib.hid S1.old
   clear S S1 hb1
   go_wp2_with fail
   (try simp only [Exit.inBlock, Exit.then])
   refine bodyPost_ret (v := spanE 0 0 er) ?_ rfl ⟨hO.out, ?_⟩
   · rw [results_cell_tmp rfl]; unfold spanE; go_simp
   · exact (B2.out.setCell (by show _ ≤ (w.heap.size + 1 + 1); omega) _).setCell (by show _ ≤ (w.heap.size + 1 + 1); omega) _

structure Cls (w0 : World) (L : List (Nat × Nat × Nat)) (w : World) : Prop where
 old : Below w0.heap.size w0 w
 blk : ∀ (j g x y : Nat), L[j]? = some (g, x, y) → w0.heap.size ≤ g ∧ Blk w g x y
 inj : ∀ (i j g x y u v : Nat), L[i]? = some (g, x, y) → L[j]? = some (g, u, v) → i = j
theorem Cls.nil (w : World) : Cls w [] w := ⟨Below.refl _ w, fun j g x y h => by simp at h, fun i j g x y u v h => by simp at h⟩
theorem Cls.on {w0 w w' : World} {L : List (Nat × Nat × Nat)} (C : Cls w0 L w) (h : Below w.heap.size w w') : Cls w0 L w' :=
 ⟨C.old.trans (h.mono C.old.size), fun j g x y hj => ⟨(C.blk j g x y hj).1, (C.blk j g x y hj).2.on h⟩, C.inj⟩
theorem Blk.box (w : World) (a b : Nat) : Blk (w.alloc (boxO a b)) w.heap.size a b := by
 have S : Blocks w [boxO a b] (w.alloc (boxO a b)) := (Blocks.nil w).alloc (by simp) _
 unfold boxO at S
 exact ⟨by simp, S.cell 0 rfl 0 w.heap.size rfl, S.cell 0 rfl 1 w.heap.size rfl, S.free 0 rfl 0 w.heap.size rfl, S.free 0 rfl 1 w.heap.size rfl⟩
theorem Cls.new {w0 w : World} {L : List (Nat × Nat × Nat)} (C : Cls w0 L w) (a b : Nat) : Cls w0 (L ++ [(w.heap.size, a, b)]) (w.alloc (boxO a b)) := by
 have hb : Below w.heap.size w (w.alloc (boxO a b)) := (Below.refl _ w).alloc (Nat.le_refl _) _
 refine ⟨C.old.trans (hb.mono C.old.size), fun j g x y hj => ?_, fun i j g x y u v hi hj => ?_⟩
 · by_cases hl : j < L.length
   · rw [List.getElem?_append_left hl] at hj
     exact ⟨(C.blk j g x y hj).1, (C.blk j g x y hj).2.on hb⟩
   · have hj' : j = L.length := by
        have := (List.getElem?_eq_some_iff.1 hj).1
        simp at this; omega
     subst hj'
     simp at hj
     obtain ⟨rfl, rfl, rfl⟩ := hj
     exact ⟨C.old.size, Blk.box w _ _⟩
 · have key : ∀ k, k < L.length → ∀ x y, L[k]? = some (g, x, y) → g < w.heap.size := fun k _ x y h => (C.blk k g x y h).2.lt
   have last : ∀ k x y, (L ++ [(w.heap.size, a, b)])[k]? = some (g, x, y) → ¬ k < L.length → k = L.length ∧ g = w.heap.size := fun k x y h hk => by
    have h1 := (List.getElem?_eq_some_iff.1 h).1
    simp at h1
    have hk' : k = L.length := by omega
    subst hk'
    simp at h
    exact ⟨rfl, h.1.symm⟩
   by_cases hil : i < L.length <;> by_cases hjl : j < L.length
   · rw [List.getElem?_append_left hil] at hi
     rw [List.getElem?_append_left hjl] at hj
     exact C.inj i j g x y u v hi hj
   · obtain ⟨-, e⟩ := last j u v hj hjl
     rw [List.getElem?_append_left hil] at hi
     have := key i hil x y hi
     omega
   · obtain ⟨-, e⟩ := last i x y hi hil
     rw [List.getElem?_append_left hjl] at hj
     have := key j hjl u v hj
     omega
   · have := (last i x y hi hil).1
     have := (last j u v hj hjl).1
     omega
theorem Cls.put {w0 w : World} {L : List (Nat × Nat × Nat)} (C : Cls w0 L w) (j : Nat) {g x y : Nat} (hj : L[j]? = some (g, x, y)) (s t : Nat) : Cls w0 (L.set j (g, s, t)) (put2 w g s t) := by
 have hl := (List.getElem?_eq_some_iff.1 hj).1
 have hg := C.blk j g x y hj
 refine ⟨put2_below C.old hg.1 s t, fun k h p q hk => ?_, fun i k h p q u v hi hk => ?_⟩
 · by_cases hjk : j = k
   · subst hjk
     rw [List.getElem?_set_self hl] at hk
     simp at hk
     obtain ⟨rfl, rfl, rfl⟩ := hk
     exact ⟨hg.1, hg.2.put _ _⟩
   · rw [List.getElem?_set_ne hjk] at hk
     refine ⟨(C.blk k h p q hk).1, (C.blk k h p q hk).2.other (fun e => ?_) _ _⟩
     subst e
     exact hjk (C.inj j k _ _ _ _ _ hj hk)
 · have back : ∀ n p q, (L.set j (g, s, t))[n]? = some (h, p, q) → ∃ p' q', L[n]? = some (h, p', q') := fun n p q hn => by
    by_cases hjn : j = n
    · subst hjn
      rw [List.getElem?_set_self hl] at hn
      simp at hn
      rw [← hn.1]
      exact ⟨_, _, hj⟩
    · rw [List.getElem?_set_ne hjn] at hn; exact ⟨_, _, hn⟩
   obtain ⟨p1, q1, h1⟩ := back i p q hi
   obtain ⟨p2, q2, h2⟩ := back k u v hk
   exact C.inj i k h _ _ _ _ h1 h2
theorem Cls.at_ {w0 w : World} {L : List (Nat × Nat × Nat)} (C : Cls w0 L w) (j : Nat) {g x y : Nat} (hj : L[j]? = some (g, x, y)) : Blk w g x y := (C.blk j g x y hj).2
theorem Cls.draws {w0 w : World} {L : List (Nat × Nat × Nat)} (C : Cls w0 L w) : Cls w0 L w.drew := ⟨C.old.drew, fun j g x y h => ⟨(C.blk j g x y h).1, ⟨(C.at_ j h).1, (C.at_ j h).2, (C.at_ j h).3, (C.at_ j h).4, (C.at_ j h).5⟩⟩, C.inj⟩


theorem spanE_inj {a b c d : Nat} {k l : Int} (h : spanE a b k = spanE c d l) : a = c ∧ b = d ∧ k = l := by
 unfold spanE at h
 simpa [and_assoc] using h
theorem told_ok {lo hi x y : Nat} {k : Int} (h1 : FinW lo) (h2 : FinW hi) (h : toldE lo hi = spanE x y k) : x < 18446744073709551616 ∧ y < 18446744073709551616 ∧ (k = 0 → V lo ≤ V hi → x = lowW lo ∧ y = highW hi ∧ errS x y = 0) := by
 unfold toldE at h
 by_cases c : V (lowW lo) < -mostV ∨ mostV < V (highW hi)
 · rw [if_pos c] at h
   obtain ⟨rfl, rfl, rfl⟩ := spanE_inj h
   exact ⟨by decide, by decide, fun h => by omega⟩
 · rw [if_neg c] at h
   obtain ⟨rfl, rfl, rfl⟩ := spanE_inj h
   refine ⟨(lowW_fin h1).1, (highW_fin h2).1, fun _ le => ⟨rfl, rfl, ?_⟩⟩
   have i1 := fit_iff (lowW_fin h1)
   have i2 := fit_iff (highW_fin h2)
   have o1 := lowW_out lo
   have o2 := highW_out hi
   have l1 := lowW_le lo
   have l2 := highW_ge hi
   unfold errS
   rw [if_pos ⟨i1.2 (by omega), i2.2 (by omega)⟩, if_neg (by omega)]
theorem OpAll.bd {er : Int} {cs ds : List (Int → Int)} {x y : Nat} {k : Int} (h : OpAll er cs ds (.returned (spanE x y k))) : x < 18446744073709551616 ∧ y < 18446744073709551616 ∧ (k = 0 → er = 0) ∧
 (k = 0 → (∀ lo hi, DnAll cs lo → UpAll ds hi → V lo ≤ V hi) → ∃ lo hi, DnAll cs lo ∧ UpAll ds hi ∧ x = lowW lo ∧ y = highW hi ∧ errS x y = 0) := by
 by_cases h0 : er = 0
 · obtain ⟨lo, hi, e, d, u⟩ := h.1 h0
   have e' : toldE lo hi = spanE x y k := (Ending.returned.inj e).symm
   obtain ⟨b1, b2, ok⟩ := told_ok d.fin u.fin e'
   refine ⟨b1, b2, fun _ => h0, fun hk hl => ?_⟩
   obtain ⟨p, q, r⟩ := ok hk (hl lo hi d u)
   exact ⟨lo, hi, d, u, p, q, r⟩
 · have e := Ending.returned.inj (h.2 h0)
   obtain ⟨rfl, rfl, rfl⟩ := spanE_inj e
   exact ⟨by decide, by decide, fun h => absurd h h0, fun h => absurd h h0⟩
theorem insB_spec {a b c d : Nat} (h : insB a b c d = true) : errS a b = 0 ∧ errS c d = 0 ∧ V c ≤ V a ∧ V b ≤ V d := by
 unfold insB at h
 rw [decide_eq_true_eq] at h
 obtain ⟨e1, e2⟩ := errSS_zero h.1
 exact ⟨e1, e2, h.2⟩

def MM : Int := 2 ^ 1074
theorem MM_pos : 0 < MM := Int.pow_pos (by omega)
theorem four_mem {α : Type} {p : α → Prop} {a b c d : α} : (∀ x ∈ [a, b, c, d], p x) ↔ p a ∧ p b ∧ p c ∧ p d := by simp
theorem quot_lo_pos {a b : Nat} {u : Int} (h : 0 < V b) : 0 ≤ quotC a b u ↔ u * V b ≤ V a * MM := by
 unfold quotC MM
 rw [if_neg (by omega)]
 omega
theorem quot_up_pos {a b : Nat} {u : Int} (h : 0 < V b) : quotC a b u ≤ 0 ↔ V a * MM ≤ u * V b := by
 unfold quotC MM
 rw [if_neg (by omega)]
 omega
theorem errD_zero {a1 a2 b1 b2 : Nat} (h : errD a1 a2 b1 b2 = 0) (le : V b1 ≤ V b2) : (0 < V b1 ∧ 0 < V b2) ∨ (V b1 < 0 ∧ V b2 < 0) := by
 unfold errD at h
 by_cases c : errSS a1 a2 b1 b2 ≠ 0
 · rw [if_pos c] at h; exact absurd h c
 · rw [if_neg c] at h
   by_cases d : V b1 ≤ 0 ∧ 0 ≤ V b2
   · rw [if_pos d] at h; omega
   · omega
theorem quot_lu' {a b : Nat} {l u : Int} (h0 : V b ≠ 0) (h1 : 0 ≤ quotC a b l) (h2 : quotC a b u ≤ 0) : l ≤ u := by
 refine Int.not_lt.1 fun hlt => ?_
 unfold quotC at h1 h2
 by_cases hb : V b < 0
 · rw [if_pos hb] at h1 h2
   have := Int.mul_lt_mul_of_neg_right hlt hb
   omega
 · rw [if_neg hb] at h1 h2
   have := Int.mul_lt_mul_of_pos_right hlt (show 0 < V b by omega)
   omega
structure Two (a0 b0 a1 b1 c0 d0 c1 d1 : Nat) : Prop where
 la0 : a0 < 18446744073709551616
 lb0 : b0 < 18446744073709551616
 la1 : a1 < 18446744073709551616
 lb1 : b1 < 18446744073709551616
 lc0 : c0 < 18446744073709551616
 ld0 : d0 < 18446744073709551616
 lc1 : c1 < 18446744073709551616
 ld1 : d1 < 18446744073709551616
 i0 : insB a0 b0 c0 d0 = true
 i1 : insB a1 b1 c1 d1 = true
section
variable {a0 b0 a1 b1 c0 d0 c1 d1 : Nat} (T : Two a0 b0 a1 b1 c0 d0 c1 d1)
include T
theorem Two.facts : (fitB a0 = true ∧ fitB b0 = true ∧ V a0 ≤ V b0) ∧ (fitB a1 = true ∧ fitB b1 = true ∧ V a1 ≤ V b1) ∧ (fitB c0 = true ∧ fitB d0 = true ∧ V c0 ≤ V d0) ∧ (fitB c1 = true ∧ fitB d1 = true ∧ V c1 ≤ V d1) ∧ (V c0 ≤ V a0 ∧ V b0 ≤ V d0) ∧ (V c1 ≤ V a1 ∧ V b1 ≤ V d1) := by
 obtain ⟨e1, e2, e3, e4⟩ := insB_spec T.i0
 obtain ⟨f1, f2, f3, f4⟩ := insB_spec T.i1
 exact ⟨errS_zero e1, errS_zero f1, errS_zero e2, errS_zero f2, ⟨e3, e4⟩, f3, f4⟩
end

structure One (a0 b0 c0 d0 : Nat) : Prop where
 la0 : a0 < 18446744073709551616
 lb0 : b0 < 18446744073709551616
 lc0 : c0 < 18446744073709551616
 ld0 : d0 < 18446744073709551616
 i0 : insB a0 b0 c0 d0 = true
section
variable {a0 b0 c0 d0 : Nat} (T : One a0 b0 c0 d0)
include T
theorem One.facts : (fitB a0 = true ∧ fitB b0 = true ∧ V a0 ≤ V b0) ∧ (fitB c0 = true ∧ fitB d0 = true ∧ V c0 ≤ V d0) ∧ V c0 ≤ V a0 ∧ V b0 ≤ V d0 := by
 obtain ⟨e1, e2, e3, e4⟩ := insB_spec T.i0
 exact ⟨errS_zero e1, errS_zero e2, e3, e4⟩
end
theorem sq_ge {x y : Int} (h0 : y ≤ 0) (h : x ≤ y) : y * y ≤ x * x := by
 have := sq_le (x := -y) (y := -x) (by omega) (by omega)
 rwa [Int.neg_mul_neg, Int.neg_mul_neg] at this
theorem prodN_nn (a : Nat) : 0 ≤ prodN a a := by
 unfold prodN
 refine Int.ediv_nonneg ?_ (Int.le_of_lt (Int.pow_pos (by omega)))
 by_cases h : 0 ≤ V a
 · exact Int.mul_nonneg h h
 · exact Int.mul_nonneg_of_nonpos_of_nonpos (by omega) (by omega)
theorem prodN_le_iff {a b : Nat} {u : Int} : prodC a b u ≤ 0 ↔ prodN a b ≤ u := by unfold prodC; omega
theorem le_prodN_iff {a b : Nat} {u : Int} : 0 ≤ prodC a b u ↔ u ≤ prodN a b := by unfold prodC; omega
theorem sq_le_of {a b : Nat} (le : V a ≤ V b) (lo hi : Nat) (d : DnAll (sqLo a b) lo) (u : UpAll (sqHi a b) hi) : V lo ≤ V hi := by
 unfold sqLo at d
 unfold sqHi at u
 by_cases c1 : 0 ≤ V a
 · rw [if_pos c1] at d u
   have p := le_prodN_iff.1 (d.le _ (List.mem_singleton.2 rfl))
   have q := prodN_le_iff.1 (u.ge _ (List.mem_singleton.2 rfl))
   have := prodN_le (a := a) (b := a) (c := b) (d := b) (sq_le c1 le)
   omega
 · rw [if_neg c1] at d u
   by_cases c2 : V b ≤ 0
   · rw [if_pos c2] at d u
     have p := le_prodN_iff.1 (d.le _ (List.mem_singleton.2 rfl))
     have q := prodN_le_iff.1 (u.ge _ (List.mem_singleton.2 rfl))
     have := prodN_le (a := b) (b := b) (c := a) (d := a) (sq_ge c2 le)
     omega
   · rw [if_neg c2] at d u
     have p := d.le _ (List.mem_singleton.2 rfl)
     replace p : 0 ≤ 0 - V lo := p
     have q := prodN_le_iff.1 (u.ge (prodC a a) (by simp))
     have := prodN_nn a
     omega
theorem errR_zero {a b : Nat} (h : errR a b = 0) : 0 ≤ V a := by
 unfold errR at h
 by_cases c : errS a b ≠ 0
 · rw [if_pos c] at h; exact absurd h c
 · rw [if_neg c] at h
   by_cases d : V a < 0
   · rw [if_pos d] at h; omega
   · omega
section
variable {a0 b0 c0 d0 : Nat} (T : One a0 b0 c0 d0)
include T
end

end Go.Proofs.YtdfcchocabapkaaGreat
