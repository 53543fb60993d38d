/- Proved here: what the texts Rgn, Usp, Upt, Ush, Uss, Usu, Ubs, Uwi, Upo, Urf prove, one behind the other. -/
import Derived.Test.YtdfcchocabapkaaGreatJb4
import Derived.Test.YtdfcchocabapkaaGreatJb6
import Derived.Test.YtdfcchocabapkaaGreatJb4b
import Derived.Deep.CutRange
import Derived.BigQuiet

set_option maxRecDepth 100000
set_option maxHeartbeats 4000000
namespace Go.Proofs.YtdfcchocabapkaaGreat
open Go.ChangeShapes Go.WideShapes Go.ChangeAt Go.RowKit Ieee.Own

def doneL (L : List (Option Value)) (i : Nat) : Prop := ∃ v, L[i]? = some (some v)
def waitsAt (ops : Array Oper) (i k : Nat) : Bool := ((ops[i]?).map fun o => waits o k).getD false
def needs (ops : Array Oper) : Nat → Nat → Nat → Bool
 | 0, _, _ => false
 | n + 1, i, k => (List.range ops.size).any fun m => waitsAt ops i m && (m == k || needs ops n m k)
def Closed (ops : Array Oper) (L : List (Option Value)) : Prop := ∀ i k, doneL L i → waitsAt ops i k = true → doneL L k
theorem Closed.needs {ops : Array Oper} {L : List (Option Value)} (C : Closed ops L) : ∀ (n i k : Nat), needs ops n i k = true → doneL L i → doneL L k
 | 0, _, _, h, _ => by simp [Go.Proofs.YtdfcchocabapkaaGreat.needs] at h
 | n + 1, i, k, h, d => by
   unfold Go.Proofs.YtdfcchocabapkaaGreat.needs at h
   rw [List.any_eq_true] at h
   obtain ⟨m, -, h⟩ := h
   simp only [Bool.and_eq_true, Bool.or_eq_true, beq_iff_eq] at h
   obtain ⟨h1, h2⟩ := h
   have dm := C i m d h1
   rcases h2 with rfl | h2
   · exact dm
   · exact C.needs n m k h2 dm
theorem done_set {L : List (Option Value)} {i : Nat} {v : Value} (hn : L[i]? = some none) (k : Nat) : doneL (L.set i (some v)) k ↔ k = i ∨ doneL L k := by
 unfold doneL
 have hl : i < L.length := (List.getElem?_eq_some_iff.1 hn).1
 by_cases e : k = i
 · subst e; rw [List.getElem?_set_self hl]; simp
 · rw [List.getElem?_set_ne (Ne.symm e)]; simp [e]
theorem Closed.set {ops : Array Oper} {L : List (Option Value)} (C : Closed ops L) {i : Nat} {o : Oper} {v : Value} (ho : ops[i]? = some o) (hn : L[i]? = some none)
 (hd : ∀ e ∈ o.after, Region.binds .any e = true → ∃ v, L[e.on]? = some (some v)) : Closed ops (L.set i (some v)) := by
 intro k m dk wk
 rw [done_set hn] at dk ⊢
 rcases dk with rfl | dk
 · right
   unfold waitsAt at wk
   rw [ho] at wk
   simp only [Option.map_some, Option.getD_some] at wk
   unfold waits at wk
   rw [List.any_eq_true] at wk
   obtain ⟨e, he, h2⟩ := wk
   simp only [Bool.and_eq_true, beq_iff_eq] at h2
   have := hd e (Array.mem_toList_iff.1 he) h2.2
   rw [h2.1] at this
   exact this
 · exact .inr (C k m dk wk)
theorem Closed.none (ops : Array Oper) (n : Nat) : Closed ops (nones n) := by
 intro i k h
 obtain ⟨v, hv⟩ := h
 exact absurd hv (nones_get _ _ _)

inductive Came (o : Oper) (a : Act) (w : World) (v : Value) : Prop
 | value (w' : World) (r : (execOp a.eval o).run Tryz.prog w = .ok (.value v) w') (k : Below w.heap.size w w')
 | call (f : FuncId) (args : Array Value) (r : (execOp a.eval o).run Tryz.prog w = .ok (.enter f args) w) (k : Calls Tryz.prog f args w fun e w' => e = .returned v ∧ Below w.heap.size w w')

theorem qvr {ds : List (Option Tmp)} {L : List (Option Value)} {o : Oper} {a : Act} {w : World} {v : Value} (h : ∀ ρ, (puts ds L a).eval = ρ → (execOp ρ o).run Tryz.prog w = .ok (.value v) w) : Came o (puts ds L a) w v := .value w (h _ rfl) (Below.refl _ _)
structure St where
 i : Nat
 j : Nat
 g : Nat
 s : Nat
 t : Nat
structure Curr (C D : List (Nat × Nat × Nat)) (sts : List St) (L : List (Option Value)) : Prop where
 len : D.length = C.length
 old : ∀ j, (∀ st ∈ sts, st.j = j → ¬ doneL L st.i) → D[j]? = C[j]?
 new : ∀ st ∈ sts, doneL L st.i → D[st.j]? = some (st.g, st.s, st.t)

section
variable {ops : Array Oper} {Q : Exit → Act → World → Prop}
theorem wp_region_sts {id : Nat} {a0 : Act} {w w0 : World} {C : List (Nat × Nat × Nat)} (E : List (Nat × Nat × Nat)) (sts : List St) (dv : List Value) (ds : List (Option Tmp))
 (hm : Tryz.prog.follows .mixedOrders = true) (hds : ops.toList.map (·.dst) = ds) (hap : apartL ds = true) (hb : backward ops = true) (hg : plainL ops = true) (hl : dv.length = ops.size) (hC : Cls w0 C w)
 (hE2 : ∀ j, (∀ st ∈ sts, st.j ≠ j) → E[j]? = C[j]?) (hE3 : ∀ st ∈ sts, E[st.j]? = some (st.g, st.s, st.t))
 (hj : ∀ st ∈ sts, ∃ x y, C[st.j]? = some (st.g, x, y)) (hi : ∀ st ∈ sts, ∀ st' ∈ sts, (st.j = st'.j ∨ st.i = st'.i) → st = st') (his : ∀ st ∈ sts, st.i < ops.size)
 (J : World → Prop) (hJ0 : J w.drew) (hJb : ∀ w w', J w → Below w.heap.size w w' → J w') (hJs : ∀ st ∈ sts, ∀ w, J w → J (put2 w st.g st.s st.t))
 (step : ∀ (L : List (Option Value)) (w : World) (i : Nat) (o : Oper), ops[i]? = some o → (∀ st ∈ sts, st.i ≠ i) → (∀ k, waits o k = true → L[k]? = some (some (dv.getD k undef))) →
  (∀ (j g x y : Nat), C[j]? = some (g, x, y) → (∀ st ∈ sts, st.j = j → needs ops ops.size st.i i = true) → Blk w g x y) → J w → Came o (puts ds L a0) w (dv.getD i undef))
 (store : ∀ st ∈ sts, ∀ (L : List (Option Value)) (w : World) (o : Oper) (x y : Nat), ops[st.i]? = some o → (∀ k, waits o k = true → L[k]? = some (some (dv.getD k undef))) → Blk w st.g x y →
  (execOp (puts ds L a0).eval o).run Tryz.prog w = .ok .skip (put2 w st.g st.s st.t) ∧ dv.getD st.i undef = undef)
 (fin : ∀ w', Cls w0 E w' → J w' → Q .normal (puts ds (dv.map some) a0) w') : (Code.region id ops true).wp Tryz.prog Q a0 w := by
 refine wp_region_inv hm ds hds hap hb hg (fun L w => (∀ i v, L[i]? = some (some v) → v = dv.getD i undef) ∧ Closed ops L ∧ J w ∧ ∃ D, Curr C D sts L ∧ Cls w0 D w) ?_ ?_ ?_
 · refine ⟨fun i v h => absurd h (nones_get _ _ _), Closed.none _ _, hJ0, C, ⟨rfl, fun _ _ => rfl, fun st _ h => ?_⟩, hC.draws⟩
   obtain ⟨v, hv⟩ := h
   exact absurd hv (nones_get _ _ _)
 · intro L w i o hL ho hn hd ⟨hdet, hcl, hJ, D, hD, hK⟩
   have hd' : ∀ k, waits o k = true → L[k]? = some (some (dv.getD k undef)) := fun k hk => by
    unfold waits at hk
    rw [List.any_eq_true] at hk
    obtain ⟨e, he, h2⟩ := hk
    simp only [Bool.and_eq_true, beq_iff_eq] at h2
    obtain ⟨v, hv⟩ := hd e (Array.mem_toList_iff.1 he) h2.2
    rw [h2.1] at hv
    rw [hv, hdet k v hv]
   have key : ∀ v, v = dv.getD i undef → ∀ k u, (L.set i (some v))[k]? = some (some u) → u = dv.getD k undef := fun v hv k u hk => by
    by_cases hik : i = k
    · subst hik
      have : i < L.length := (List.getElem?_eq_some_iff.1 hn).1
      rw [List.getElem?_set_self this] at hk
      rw [← Option.some.inj (Option.some.inj hk)]; exact hv
    · rw [List.getElem?_set_ne hik] at hk; exact hdet k u hk
   have nd : ¬ doneL L i := fun ⟨v, hv⟩ => by rw [hn] at hv; simp at hv
   by_cases hs : ∃ st ∈ sts, st.i = i
   · obtain ⟨st, hst, rfl⟩ := hs
     obtain ⟨x, y, hc⟩ := hj st hst
     have hDj : D[st.j]? = some (st.g, x, y) := by
        rw [hD.old st.j fun st' hst' e => by rw [hi st' hst' st hst (.inl e)]; exact nd]; exact hc
     have B := hK.at_ st.j hDj
     obtain ⟨r, u⟩ := store st hst L w o x y ho hd' B
     unfold Oper.wp; rw [r]
     refine ⟨undef, rfl, key _ u.symm, hcl.set ho hn hd, hJs st hst w hJ, D.set st.j (st.g, st.s, st.t), ⟨by simp [hD.len], fun j h => ?_, fun st' hst' h => ?_⟩, hK.put st.j hDj st.s st.t⟩
     · have hne : st.j ≠ j := fun e => h st hst e ((done_set hn _).2 (.inl rfl))
       rw [List.getElem?_set_ne hne]
       exact hD.old j fun st' hst' e d => h st' hst' e ((done_set hn _).2 (.inr d))
     · have hjl : st.j < D.length := (List.getElem?_eq_some_iff.1 hDj).1
       by_cases e : st.j = st'.j
       · have := hi st hst st' hst' (.inl e)
         subst this
         rw [List.getElem?_set_self hjl]
       · rw [List.getElem?_set_ne e]
         rcases (done_set hn _).1 h with q | q
         · exact absurd (hi st' hst' st hst (.inr q)) (fun z => e (by rw [z]))
         · exact hD.new st' hst' q
   · have hs' : ∀ st ∈ sts, st.i ≠ i := fun st hst e => hs ⟨st, hst, e⟩
     have hB : ∀ (j g x y : Nat), C[j]? = some (g, x, y) → (∀ st ∈ sts, st.j = j → needs ops ops.size st.i i = true) → Blk w g x y := fun j g x y h hh => by
        refine hK.at_ j ?_
        rw [hD.old j fun st hst e d => nd (hcl.needs _ _ _ (hh st hst e) d)]
        exact h
     have hcur : ∀ v, Curr C D sts (L.set i (some v)) := fun v => ⟨hD.len, fun j h => hD.old j fun st hst e d => h st hst e ((done_set hn _).2 (.inr d)), fun st hst h => by
        rcases (done_set hn _).1 h with q | q
        · exact absurd q (hs' st hst)
        · exact hD.new st hst q⟩
     rcases step L w i o ho hs' hd' hB hJ with ⟨w', r, k⟩ | ⟨f, args, r, k⟩
     · unfold Oper.wp; rw [r]
       exact ⟨_, rfl, key _ rfl, hcl.set ho hn hd, hJb _ _ hJ k, D, hcur _, hK.on k⟩
     · unfold Oper.wp; rw [r]
       refine Calls.mono k fun e w' hh => ?_
       obtain ⟨rfl, hS⟩ := hh
       exact ⟨_, rfl, key _ rfl, hcl.set ho hn hd, hJb _ _ hJ hS, D, hcur _, hK.on hS⟩
 · intro L w hL hall hh
   obtain ⟨hdet, -, hJ, D, hD, hK⟩ := hh
   have e : L = dv.map some := by
    refine List.ext_getElem? fun i => ?_
    by_cases hi : i < ops.size
    · obtain ⟨v, hv⟩ := hall i hi
      rw [hv, hdet i v hv]
      simp [List.getD, hl, hi]
    · rw [List.getElem?_eq_none (by omega), List.getElem?_eq_none (by simp; omega)]
   have eD : D = E := by
    refine List.ext_getElem? fun j => ?_
    by_cases q : ∃ st ∈ sts, st.j = j
    · obtain ⟨st, hst, rfl⟩ := q
      rw [hE3 st hst]
      exact hD.new st hst (hall _ (his st hst))
    · have q' : ∀ st ∈ sts, st.j ≠ j := fun st hst e => q ⟨st, hst, e⟩
      rw [hE2 j q']
      exact hD.old j fun st hst e => absurd e (q' st hst)
   rw [e]
   rw [eD] at hK
   exact fin w hK hJ

theorem wp_region_var {id : Nat} {a0 : Act} {w w0 : World} {C : List (Nat × Nat × Nat)} (ia is s t : Nat) (dv : List Value) (ds : List (Option Tmp))
 (hm : Tryz.prog.follows .mixedOrders = true) (hds : ops.toList.map (·.dst) = ds) (hap : apartL ds = true) (hb : backward ops = true) (hg : plainL ops = true) (hl : dv.length = ops.size) (hC : Cls w0 C w)
 (hw : waitsAt ops is ia = true) (hia : ia < ops.size) (his : is < ops.size)
 (alloc : ∀ o, ops[ia]? = some o → o.op = .alloc 26)
 (step : ∀ (L : List (Option Value)) (w : World) (i : Nat) (o : Oper), ops[i]? = some o → i ≠ ia → i ≠ is → (∀ k, waits o k = true → k ≠ ia → L[k]? = some (some (dv.getD k undef))) →
  (∀ (j g x y : Nat), C[j]? = some (g, x, y) → Blk w g x y) → Came o (puts ds L a0) w (dv.getD i undef))
 (store : ∀ (L : List (Option Value)) (w : World) (o : Oper) (h x y : Nat), ops[is]? = some o → (∀ k, waits o k = true → k ≠ ia → L[k]? = some (some (dv.getD k undef))) → L[ia]? = some (some (.pointer (some ⟨h, 0, none⟩))) → Blk w h x y →
  (execOp (puts ds L a0).eval o).run Tryz.prog w = .ok .skip (put2 w h s t) ∧ dv.getD is undef = undef)
 (fin : ∀ h w', Cls w0 (C ++ [(h, s, t)]) w' → Q .normal (puts ds ((dv.map some).set ia (some (.pointer (some ⟨h, 0, none⟩)))) a0) w') : (Code.region id ops true).wp Tryz.prog Q a0 w := by
 refine wp_region_inv hm ds hds hap hb hg (fun L w => (∀ i v, i ≠ ia → L[i]? = some (some v) → v = dv.getD i undef) ∧ Closed ops L ∧
  ((¬ doneL L ia ∧ Cls w0 C w) ∨ ∃ h x y, L[ia]? = some (some (.pointer (some ⟨h, 0, none⟩))) ∧ Cls w0 (C ++ [(h, x, y)]) w ∧ (doneL L is → x = s ∧ y = t))) ?_ ?_ ?_
 · refine ⟨fun i v _ h => absurd h (nones_get _ _ _), Closed.none _ _, .inl ⟨fun ⟨v, hv⟩ => absurd hv (nones_get _ _ _), hC.draws⟩⟩
 · intro L w i o hL ho hn hd ⟨hdet, hcl, hK⟩
   have hd' : ∀ k, waits o k = true → k ≠ ia → L[k]? = some (some (dv.getD k undef)) := fun k hk hka => by
    unfold waits at hk
    rw [List.any_eq_true] at hk
    obtain ⟨e, he, h2⟩ := hk
    simp only [Bool.and_eq_true, beq_iff_eq] at h2
    obtain ⟨v, hv⟩ := hd e (Array.mem_toList_iff.1 he) h2.2
    rw [h2.1] at hv
    rw [hv, hdet k v hka hv]
   have hil : i < L.length := (List.getElem?_eq_some_iff.1 hn).1
   have key : ∀ v, (i ≠ ia → v = dv.getD i undef) → ∀ k u, k ≠ ia → (L.set i (some v))[k]? = some (some u) → u = dv.getD k undef := fun v hv k u hka hk => by
    by_cases hik : i = k
    · subst hik
      rw [List.getElem?_set_self hil] at hk
      rw [← Option.some.inj (Option.some.inj hk)]; exact hv hka
    · rw [List.getElem?_set_ne hik] at hk; exact hdet k u hka hk
   have nd : ¬ doneL L i := fun ⟨v, hv⟩ => by rw [hn] at hv; simp at hv
   by_cases ea : i = ia
   · subst ea
     have hoa := alloc o ho
     rcases hK with ⟨-, hK⟩ | ⟨h, x, y, e, -⟩
     · have r := ex_alloc (ρ := (puts ds L a0).eval) w hoa
       unfold Oper.wp; rw [r]
       refine ⟨_, rfl, key _ (fun e => absurd rfl e), hcl.set ho hn hd, .inr ⟨w.heap.size, 0, 0, ?_, hK.new 0 0, fun d => ?_⟩⟩
       · rw [List.getElem?_set_self hil]
       · rcases (done_set hn _).1 d with q | q
         · exact absurd (hcl.needs ops.size is i (by
             have : ops.size ≠ 0 := by omega
             obtain ⟨n, hn'⟩ : ∃ n, ops.size = n + 1 := ⟨ops.size - 1, by omega⟩
             rw [hn']
             unfold needs
             rw [List.any_eq_true]
             exact ⟨i, List.mem_range.2 hia, by simp [hw]⟩)) (fun z => by
               have hs : waitsAt ops is i = true := hw
               rw [q] at hs
               unfold waitsAt at hs
               rw [ho] at hs
               simp only [Option.map_some, Option.getD_some] at hs
               unfold waits at hs
               rw [List.any_eq_true] at hs
               obtain ⟨e, he, h2⟩ := hs
               simp only [Bool.and_eq_true, beq_iff_eq] at h2
               have := hd e (Array.mem_toList_iff.1 he) h2.2
               rw [h2.1] at this
               exact nd this)
         · exact absurd (hcl is i q hw) nd
     · rw [e] at hn; simp at hn
   · by_cases es : i = is
     · subst es
       have da : doneL L ia := by
         have hs := hw
         unfold waitsAt at hs
         rw [ho] at hs
         simp only [Option.map_some, Option.getD_some] at hs
         unfold waits at hs
         rw [List.any_eq_true] at hs
         obtain ⟨e, he, h2⟩ := hs
         simp only [Bool.and_eq_true, beq_iff_eq] at h2
         have := hd e (Array.mem_toList_iff.1 he) h2.2
         rw [h2.1] at this
         exact this
       rcases hK with ⟨q, -⟩ | ⟨h, x, y, e, hK, -⟩
       · exact absurd da q
       · have hlast : (C ++ [(h, x, y)])[C.length]? = some (h, x, y) := by simp
         have B := hK.at_ C.length hlast
         obtain ⟨r, u⟩ := store L w o h x y ho hd' e B
         unfold Oper.wp; rw [r]
         refine ⟨undef, rfl, key _ (fun _ => u.symm), hcl.set ho hn hd, .inr ⟨h, s, t, by rw [List.getElem?_set_ne ea]; exact e, ?_, fun _ => ⟨rfl, rfl⟩⟩⟩
         have := hK.put C.length hlast s t
         simpa using this
     · have hB : ∀ (j g x y : Nat), C[j]? = some (g, x, y) → Blk w g x y := fun j g x y h => by
         rcases hK with ⟨-, hK⟩ | ⟨h', x', y', -, hK, -⟩
         · exact hK.at_ j h
         · exact hK.at_ j (by rw [List.getElem?_append_left (List.getElem?_eq_some_iff.1 h).1]; exact h)
       have hK' : ∀ v w', Below w.heap.size w w' → (¬ doneL (L.set i (some v)) ia ∧ Cls w0 C w') ∨ ∃ h x y, (L.set i (some v))[ia]? = some (some (.pointer (some ⟨h, 0, none⟩))) ∧ Cls w0 (C ++ [(h, x, y)]) w' ∧ (doneL (L.set i (some v)) is → x = s ∧ y = t) := fun v w' k => by
         rcases hK with ⟨q, hK⟩ | ⟨h, x, y, e, hK, d⟩
         · refine .inl ⟨fun z => ?_, hK.on k⟩
           rcases (done_set hn _).1 z with z | z
           · exact ea z.symm
           · exact q z
         · refine .inr ⟨h, x, y, by rw [List.getElem?_set_ne ea]; exact e, hK.on k, fun z => ?_⟩
           rcases (done_set hn _).1 z with z | z
           · exact absurd z.symm es
           · exact d z
       rcases step L w i o ho ea es hd' hB with ⟨w', r, k⟩ | ⟨f, args, r, k⟩
       · unfold Oper.wp; rw [r]
         exact ⟨_, rfl, key _ (fun _ => rfl), hcl.set ho hn hd, hK' _ _ k⟩
       · unfold Oper.wp; rw [r]
         refine Calls.mono k fun e w' hh => ?_
         obtain ⟨rfl, hS⟩ := hh
         exact ⟨_, rfl, key _ (fun _ => rfl), hcl.set ho hn hd, hK' _ _ hS⟩
 · intro L w hL hall ⟨hdet, hcl, hK⟩
   rcases hK with ⟨q, -⟩ | ⟨h, x, y, e, hK, d⟩
   · exact absurd (hall ia hia) q
   · obtain ⟨rfl, rfl⟩ := d (hall is his)
     have eL : L = (dv.map some).set ia (some (.pointer (some ⟨h, 0, none⟩))) := by
        refine List.ext_getElem? fun i => ?_
        by_cases hi : i < ops.size
        · by_cases q : ia = i
          · subst q
            rw [e, List.getElem?_set_self (by simp; omega)]
          · obtain ⟨v, hv⟩ := hall i hi
            rw [List.getElem?_set_ne q, hv, hdet i v (Ne.symm q) hv]
            simp [List.getD, hl, hi]
        · rw [List.getElem?_eq_none (by omega), List.getElem?_eq_none (by simp; omega)]
     rw [eL]
     exact fin h w hK
end

abbrev Pr := Nat × Nat
def pv (p : Pr) : Value := spanV p.1 p.2
def ps (p : Pr) : Sp := sp p.1 p.2
structure Sn (p : Pr) (m : Nat) : Prop where
 l1 : p.1 < 18446744073709551616
 l2 : p.2 < 18446744073709551616
 ok : errS p.1 p.2 = 0
 bd : Bnd p.1 p.2 m
theorem Sn.le {p : Pr} {m n : Nat} (h : Sn p m) (hm : m ≤ n) : Sn p n := ⟨h.l1, h.l2, h.ok, abs_up h.bd.1 (by omega), abs_up h.bd.2 (by omega)⟩
theorem Sn.fits {p : Pr} {m : Nat} (h : Sn p m) : fitB p.1 = true ∧ fitB p.2 = true ∧ V p.1 ≤ V p.2 := errS_zero h.ok

def AddR (p q u : Pr) : Prop := OpIs (errSS p.1 p.2 q.1 q.2) (fun v => V p.1 + V q.1 - v) (fun v => V p.2 + V q.2 - v) (.returned (spanE u.1 u.2 0))
def MulR (p q u : Pr) : Prop := OpAll (errSS p.1 p.2 q.1 q.2) [prodC p.1 q.1, prodC p.1 q.2, prodC p.2 q.1, prodC p.2 q.2] [prodC p.1 q.1, prodC p.1 q.2, prodC p.2 q.1, prodC p.2 q.2] (.returned (spanE u.1 u.2 0))
def SqR (p u : Pr) : Prop := OpAll (errS p.1 p.2) (sqLo p.1 p.2) (sqHi p.1 p.2) (.returned (spanE u.1 u.2 0))
def NegR (p u : Pr) : Prop := OpIs (errS p.1 p.2) (fun v => -V p.2 - v) (fun v => -V p.1 - v) (.returned (spanE u.1 u.2 0))

theorem pair_of {a b c d : Nat} {k l : Int} (h : Ending.returned (spanE a b k) = .returned (spanE c d l)) : ((a, b) : Pr) = (c, d) := by
 obtain ⟨rfl, rfl, -⟩ := spanE_inj (Ending.returned.inj h)
 rfl
theorem AddR.uniq {p q u v : Pr} (h : AddR p q u) (k : AddR p q v) : u = v := pair_of (h.all.uniq k.all)
theorem MulR.uniq {p q u v : Pr} (h : MulR p q u) (k : MulR p q v) : u = v := pair_of (OpAll.uniq h k)
theorem SqR.uniq {p u v : Pr} (h : SqR p u) (k : SqR p v) : u = v := pair_of (OpAll.uniq h k)
theorem NegR.uniq {p u v : Pr} (h : NegR p u) (k : NegR p v) : u = v := pair_of (h.all.uniq k.all)

theorem add_step {p q : Pr} {m : Nat} (hp : Sn p m) (hq : Sn q m) (hm : m + 1 < 100) : ∃ u, Sn u (m + 1) ∧ AddR p q u ∧ AddSp (ps p) (ps q) (ps u) := by
 obtain ⟨f1, f2, -⟩ := hp.fits
 obtain ⟨g1, g2, -⟩ := hq.fits
 obtain ⟨s, e, R, ⟨-, -, K, hK, hs, -⟩, -⟩ := sum_fit p.1 q.1 hp.l1 hq.l1 f1 g1
 obtain ⟨t, d, R', ⟨-, -, K', hK', hs', -⟩, -⟩ := sum_fit p.2 q.2 hp.l2 hq.l2 f2 g2
 have A := sum_dn R (bd_of hs hK)
 have B := sum_up R' (bd_of hs' hK')
 have h0 := errSS_of' hp.ok hq.ok
 obtain ⟨x, y, c, ht⟩ := toldE_span (dnW (V e < 0) s) (upW (0 < V d) t)
 have O : OpIs (errSS p.1 p.2 q.1 q.2) (fun v => V p.1 + V q.1 - v) (fun v => V p.2 + V q.2 - v) (.returned (spanE x y c)) := ⟨fun _ => ⟨_, _, by rw [ht], A, B⟩, fun h => absurd h0 h⟩
 obtain ⟨rfl, e0, b, S⟩ := sum_ok hp.ok hq.ok hp.bd hq.bd hm O
 obtain ⟨lx, ly, -⟩ := O.all.bd
 exact ⟨(x, y), ⟨lx, ly, e0, b⟩, O, S⟩
theorem corner_ex {x y : Nat} (hx : x < 18446744073709551616) (hy : y < 18446744073709551616) (h1 : fitB x = true) (h2 : fitB y = true) : ∃ lo hi, Dn (prodC x y) lo ∧ Up (prodC x y) hi := by
 obtain ⟨p, r, N, Z, g, R, -, ⟨-, -, K, hK, hs, -⟩, -⟩ := prod_fit x y hx hy h1 h2
 exact ⟨_, _, prod_dn R (bd_of hs hK), prod_up R (bd_of hs hK)⟩
theorem mul_step {p q : Pr} {i j : Nat} (hp : Sn p i) (hq : Sn q j) (hm : i + j < 100) : ∃ u, Sn u (i + j) ∧ MulR p q u ∧ MulSp (ps p) (ps q) (ps u) := by
 obtain ⟨f1, f2, -⟩ := hp.fits
 obtain ⟨g1, g2, -⟩ := hq.fits
 obtain ⟨_, _, d1, u1⟩ := corner_ex hp.l1 hq.l1 f1 g1
 obtain ⟨_, _, d2, u2⟩ := corner_ex hp.l1 hq.l2 f1 g2
 obtain ⟨_, _, d3, u3⟩ := corner_ex hp.l2 hq.l1 f2 g1
 obtain ⟨_, _, d4, u4⟩ := corner_ex hp.l2 hq.l2 f2 g2
 have F := four_of d1 d2 d3 d4 u1 u2 u3 u4 (falls_prod _ _) (falls_prod _ _) (falls_prod _ _) (falls_prod _ _)
 have h0 := errSS_of' hp.ok hq.ok
 obtain ⟨x, y, c, ht⟩ := toldE_span _ _
 have O : OpAll (errSS p.1 p.2 q.1 q.2) [prodC p.1 q.1, prodC p.1 q.2, prodC p.2 q.1, prodC p.2 q.2] [prodC p.1 q.1, prodC p.1 q.2, prodC p.2 q.1, prodC p.2 q.2] (.returned (spanE x y c)) := ⟨fun _ => ⟨_, _, by rw [ht], F.lo, F.hi⟩, fun h => absurd h0 h⟩
 obtain ⟨rfl, e0, b, S⟩ := prod_ok hp.l1 hp.l2 hq.l1 hq.l2 hp.ok hq.ok hp.bd hq.bd hm O
 obtain ⟨lx, ly, -⟩ := O.bd
 exact ⟨(x, y), ⟨lx, ly, e0, b⟩, O, S⟩
theorem zero_dn : Dn (fun v => 0 - v) 0 := ⟨zero_fin, by rw [V_zero]; exact Int.le_refl _, fun u _ h => by rw [V_zero]; omega⟩
theorem sq_dn_ex {p : Pr} {m : Nat} (hp : Sn p m) : ∃ w, DnAll (sqLo p.1 p.2) w := by
 obtain ⟨f1, f2, -⟩ := hp.fits
 obtain ⟨_, _, d1, u1⟩ := corner_ex hp.l1 hp.l1 f1 f1
 obtain ⟨_, _, d2, u2⟩ := corner_ex hp.l2 hp.l2 f2 f2
 unfold sqLo
 split
 · exact ⟨_, d1.all⟩
 · split
   · exact ⟨_, d2.all⟩
   · exact ⟨_, zero_dn.all⟩
theorem sq_up_ex {p : Pr} {m : Nat} (hp : Sn p m) : ∃ w, UpAll (sqHi p.1 p.2) w := by
 obtain ⟨f1, f2, -⟩ := hp.fits
 obtain ⟨_, _, d1, u1⟩ := corner_ex hp.l1 hp.l1 f1 f1
 obtain ⟨_, _, d2, u2⟩ := corner_ex hp.l2 hp.l2 f2 f2
 unfold sqHi
 split
 · exact ⟨_, u2.all⟩
 · split
   · exact ⟨_, u1.all⟩
   · exact ⟨_, u1.all.more u2 (fun d hd => by rw [List.mem_singleton.1 hd]; exact falls_prod _ _) (falls_prod _ _)⟩
theorem sq_step {p : Pr} {i : Nat} (hp : Sn p i) (hm : i + i < 100) : ∃ u, Sn u (i + i) ∧ SqR p u ∧ SqSp (ps p) (ps u) := by
 obtain ⟨lo, A⟩ := sq_dn_ex hp
 obtain ⟨hi, B⟩ := sq_up_ex hp
 obtain ⟨x, y, c, ht⟩ := toldE_span lo hi
 have O : OpAll (errS p.1 p.2) (sqLo p.1 p.2) (sqHi p.1 p.2) (.returned (spanE x y c)) := ⟨fun _ => ⟨lo, hi, by rw [ht], A, B⟩, fun h => absurd hp.ok h⟩
 obtain ⟨rfl, e0, b, S⟩ := square_ok hp.l1 hp.l2 hp.ok hp.bd hm O
 obtain ⟨lx, ly, -⟩ := O.bd
 exact ⟨(x, y), ⟨lx, ly, e0, b⟩, O, S⟩

theorem neg_step {p : Pr} {m : Nat} (hp : Sn p m) : ∃ u, Sn u m ∧ NegR p u ∧ V u.1 = -V p.2 ∧ V u.2 = -V p.1 := by
 obtain ⟨f1, f2, le⟩ := hp.fits
 have g1 := fit_fin hp.l1 f1
 have g2 := fit_fin hp.l2 f2
 have n1 := negW_fin g1
 have n2 := negW_fin g2
 have v1 := negW_V g1
 have v2 := negW_V g2
 have A : Dn (fun v => -V p.2 - v) (negW p.2) := ⟨n2, by rw [v2]; omega, fun u _ h => by rw [v2]; omega⟩
 have B : Up (fun v => -V p.1 - v) (negW p.1) := ⟨n1, by rw [v1]; omega, fun u _ h => by rw [v1]; omega⟩
 have l1 := fit_low n1.1 (by rw [fit_neg hp.l1]; exact f1)
 have l2 := fit_low n2.1 (by rw [fit_neg hp.l2]; exact f2)
 have k1 := fit_most n1.1 (by rw [fit_neg hp.l1]; exact f1)
 have k2 := fit_most n2.1 (by rw [fit_neg hp.l2]; exact f2)
 have ht : toldE (negW p.2) (negW p.1) = spanE (lowW (negW p.2)) (highW (negW p.1)) 0 := by
  unfold toldE
  rw [if_neg (by rw [l2.2.2.1, l1.2.2.2]; omega)]
 have O : OpIs (errS p.1 p.2) (fun v => -V p.2 - v) (fun v => -V p.1 - v) (.returned (spanE (lowW (negW p.2)) (highW (negW p.1)) 0)) := ⟨fun _ => ⟨_, _, by rw [ht], A, B⟩, fun h => absurd hp.ok h⟩
 have w1 : V (lowW (negW p.2)) = -V p.2 := by rw [l2.2.2.1, v2]
 have w2 : V (highW (negW p.1)) = -V p.1 := by rw [l1.2.2.2, v1]
 obtain ⟨lx, ly, -, o⟩ := O.all.bd
 obtain ⟨_, _, -, -, _, _, e0⟩ := o rfl (fun lo hi d u => by
  have a := d.le _ (List.mem_singleton.2 rfl)
  have b := u.ge _ (List.mem_singleton.2 rfl)
  replace a : 0 ≤ -V p.2 - V lo := a
  replace b : -V p.1 - V hi ≤ 0 := b
  omega)
 refine ⟨(lowW (negW p.2), highW (negW p.1)), ⟨lx, ly, e0, ?_⟩, O, w1, w2⟩
 have := hp.bd
 exact ⟨by show (V (lowW (negW p.2))).natAbs ≤ _; rw [w1, Int.natAbs_neg]; exact this.2, by show (V (highW (negW p.1))).natAbs ≤ _; rw [w2, Int.natAbs_neg]; exact this.1⟩
def noneW : Nat := 13830554455654793216
def tauS : Pr := (tauW, nextW tauW)
def oneS : Pr := (oneW, oneW)
def epsS : Pr := (13546827679130451968, 4323455642275676160)
def epsC : Pr := (13569345677267304448, 4345973640412528640)
def facS (a : Nat) : Pr := (prevW a, nextW a)
theorem sn_tau : Sn tauS 3 := ⟨by decide +kernel, by decide +kernel, by decide +kernel, by unfold Bnd; decide +kernel⟩
theorem sn_one : Sn oneS 0 := ⟨by decide +kernel, by decide +kernel, by decide +kernel, by unfold Bnd; decide +kernel⟩
theorem sn_epsS : Sn epsS 0 := ⟨by decide +kernel, by decide +kernel, by decide +kernel, by unfold Bnd; decide +kernel⟩
theorem sn_epsC : Sn epsC 0 := ⟨by decide +kernel, by decide +kernel, by decide +kernel, by unfold Bnd; decide +kernel⟩
theorem fac_all : ∀ w ∈ sinW ++ cosW, (prevW w < 18446744073709551616 ∧ nextW w < 18446744073709551616) ∧ errS (prevW w) (nextW w) = 0 ∧ (V (prevW w)).natAbs ≤ 2 ^ (1074 + 0) ∧ (V (nextW w)).natAbs ≤ 2 ^ (1074 + 0) := by decide +kernel
theorem sn_fac {w : Nat} (h : w ∈ sinW ++ cosW) : Sn (facS w) 0 := by
 obtain ⟨⟨a, b⟩, c, d, e⟩ := fac_all w h
 exact ⟨a, b, c, d, e⟩
theorem sn_zero : Sn (0, 0) 0 := ⟨by decide, by decide, by decide +kernel, by unfold Bnd; decide +kernel⟩

def SerR (Z : Pr) : List Nat → Pr → Prop
 | [], P => P = (0, 0)
 | a :: al, P => ∃ P' M, SerR Z al P' ∧ MulR Z P' M ∧ AddR (facS a) M P
theorem SerR.uniq {Z : Pr} : ∀ {al : List Nat} {P R : Pr}, SerR Z al P → SerR Z al R → P = R
 | [], P, R, h, k => by
   have h : P = (0, 0) := h
   have k : R = (0, 0) := k
   rw [h, k]
 | _ :: _, _, _, ⟨_, _, h1, h2, h3⟩, ⟨_, _, k1, k2, k3⟩ => by
   obtain rfl := SerR.uniq h1 k1
   obtain rfl := h2.uniq k2
   exact h3.uniq k3
theorem ser_step {Z : Pr} (hz : Sn Z 6) : ∀ (al : List Nat), (∀ a ∈ al, a ∈ sinW ++ cosW) → al.length ≤ 8 → ∃ P, Sn P (7 * al.length) ∧ SerR Z al P ∧ Ser (ps Z) (al.map fun w => sp (prevW w) (nextW w)) (ps P)
 | [], _, _ => ⟨(0, 0), sn_zero, rfl, by
   show ps (0, 0) = (0, 0)
   unfold ps sp
   have : Q 0 = 0 := by decide +kernel
   rw [this]⟩
 | a :: al, h, hl => by
   have hl' : al.length + 1 ≤ 8 := hl
   obtain ⟨P', s1, r1, e1⟩ := ser_step hz al (fun x hx => h x (List.mem_cons_of_mem _ hx)) (by omega)
   obtain ⟨M, s2, r2, e2⟩ := mul_step hz s1 (by omega)
   obtain ⟨P, s3, r3, e3⟩ := add_step ((sn_fac (h a qh0)).le (Nat.zero_le (6 + 7 * al.length))) s2 (by omega)
   have hm : 6 + 7 * al.length + 1 = 7 * (a :: al).length := by simp only [List.length_cons]; omega
   rw [hm] at s3
   exact ⟨P, s3, ⟨P', M, r1, r2, r3⟩, ⟨ps P', ps M, e1, e2, e3⟩⟩

structure Sur (r : Nat) (Y Z P M N W S P2 M2 W2 C : Pr) : Prop where
 y : MulR (r, r) tauS Y
 z : SqR Y Z
 p : SerR Z sinW P
 m : MulR Z P M
 n : MulR Y M N
 w : AddR Y N W
 s : AddR W epsS S
 p2 : SerR Z cosW P2
 m2 : MulR Z P2 M2
 w2 : AddR oneS M2 W2
 c : AddR W2 epsC C
def SurR (r : Nat) (S C : Pr) : Prop := ∃ Y Z P M N W P2 M2 W2, Sur r Y Z P M N W S P2 M2 W2 C
theorem SurR.uniq {r : Nat} {S C S' C' : Pr} (h : SurR r S C) (k : SurR r S' C') : S = S' ∧ C = C' := by
 obtain ⟨Y, Z, P, M, N, W, P2, M2, W2, h⟩ := h
 obtain ⟨Y', Z', P', M', N', W', P2', M2', W2', k⟩ := k
 obtain rfl := h.y.uniq k.y
 obtain rfl := h.z.uniq k.z
 obtain rfl := h.p.uniq k.p
 obtain rfl := h.m.uniq k.m
 obtain rfl := h.n.uniq k.n
 obtain rfl := h.w.uniq k.w
 obtain rfl := h.p2.uniq k.p2
 obtain rfl := h.m2.uniq k.m2
 obtain rfl := h.w2.uniq k.w2
 exact ⟨h.s.uniq k.s, h.c.uniq k.c⟩

structure SurB (Y Z P M N W S P2 M2 W2 C : Pr) : Prop where
 y : Sn Y 3
 z : Sn Z 6
 p : Sn P 56
 m : Sn M 62
 n : Sn N 65
 w : Sn W 66
 s : Sn S 67
 p2 : Sn P2 56
 m2 : Sn M2 62
 w2 : Sn W2 63
 c : Sn C 64

theorem rest_fit {x r : Nat} (hx : x < 18446744073709551616) (fx : fitB x = true) (R : Rst x r) : fitB r = true := by
 rw [fit_iff R.nz.fin]
 by_cases r0 : V r = 0
 · exact .inl r0
 · right
   have b := rq_bd eig_pos (V x)
   have lm : eig ≤ mostV := by decide +kernel
   have ll : leastV ≤ 2 ^ 1018 := by decide +kernel
   have e : V x = 2 * eig * kq eig (V x) + rq eig (V x) := by unfold rq; omega
   refine ⟨?_, by rw [R.v]; omega⟩
   by_cases k0 : kq eig (V x) = 0
   · have : V r = V x := by rw [R.v]; unfold rq; rw [k0]; omega
     rw [this]
     rcases (fit_iff (fit_fin hx fx)).1 fx with z | z
     · omega
     · exact z.1
   · have big : 2 ^ (1018 + 53) ≤ (V x).natAbs := by
        have ep := eig_pos
        have : (eig : Int) ≤ ((V x).natAbs : Int) := by
         generalize kq eig (V x) = k at *
         generalize rq eig (V x) = q at *
         generalize eig = H at *
         rcases (by omega : 1 ≤ k ∨ k ≤ -1) with g | g
         · have := Int.mul_le_mul_of_nonneg_left g (show 0 ≤ 2 * H by omega); omega
         · have := Int.mul_le_mul_of_nonneg_left g (show 0 ≤ 2 * H by omega); omega
        have c : eig = ((2 ^ (1018 + 53) : Nat) : Int) := two_cast (1018 + 53)
        rw [c] at this
        exact Int.ofNat_le.1 this
     have dx : (2 : Int) ^ 1018 ∣ V x := dvd_big (b := x) (m := 1018) big
     have d2 : (2 : Int) ^ 1018 ∣ 2 * eig * kq eig (V x) := by
        refine Int.dvd_trans ?_ (Int.dvd_mul_right _ _)
        exact ⟨2 ^ 54, by decide +kernel⟩
     have dr : (2 : Int) ^ 1018 ∣ V r := by
        rw [R.v]; unfold rq
        exact Int.dvd_sub dx d2
     obtain ⟨c, hc⟩ := dr
     have c0 : c ≠ 0 := by rintro rfl; omega
     have g := le_mul_pow c0 1018
     have a : (V r).natAbs = 2 ^ 1018 * c.natAbs := by rw [hc, Int.natAbs_mul, pw_abs]
     rw [← a] at g
     have : ((2 : Int) ^ 1018) ≤ ((V r).natAbs : Int) := by rw [two_cast]; exact Int.ofNat_le.2 g
     exact Int.le_trans ll this

theorem bnd_of {r k m : Nat} (h : (V r).natAbs ≤ 2 ^ k) (hk : k ≤ 1074 + m) : Bnd r r m := ⟨abs_up h hk, abs_up h hk⟩
theorem sn_rest {r : Nat} (H : Rest r) (f : fitB r = true) : Sn (r, r) 0 := ⟨H.fin.1, H.fin.1, errS_of ⟨f, f⟩ (Int.le_refl _), bnd_of (k := 1071) H.abs (by omega)⟩

theorem sur_ex {r : Nat} (H : Rest r) (f : fitB r = true) : ∃ Y Z P M N W S P2 M2 W2 C, Sur r Y Z P M N W S P2 M2 W2 C ∧ SurB Y Z P M N W S P2 M2 W2 C ∧
 Ins (Ply.s (Ply.tau * Q r)) (ps S) ∧ Ins (Ply.c (Ply.tau * Q r)) (ps C) := by
 have b := H.Q_bd
 obtain ⟨Y, sy, ry, ey⟩ := mul_step (sn_rest H f) sn_tau (by omega)
 replace sy : Sn Y 3 := sy
 obtain ⟨Z, sz, rz, ez⟩ := sq_step sy (by omega)
 replace sz : Sn Z 6 := sz
 obtain ⟨P, sP, rP, eP⟩ := ser_step sz sinW (fun a h => List.mem_append_left _ h) (by decide)
 replace sP : Sn P 56 := sP
 obtain ⟨M, sM, rM, eM⟩ := mul_step sz sP (by omega)
 obtain ⟨N, sN, rN, eN⟩ := mul_step sy sM (by omega)
 obtain ⟨W, sW, rW, eW⟩ := add_step (sy.le (show 3 ≤ 65 by omega)) sN (by omega)
 obtain ⟨S, sS, rS, eS⟩ := add_step sW (sn_epsS.le (Nat.zero_le _)) (by omega)
 obtain ⟨P2, sP2, rP2, eP2⟩ := ser_step sz cosW (fun a h => List.mem_append_right _ h) (by decide)
 replace sP2 : Sn P2 56 := sP2
 obtain ⟨M2, sM2, rM2, eM2⟩ := mul_step sz sP2 (by omega)
 obtain ⟨W2, sW2, rW2, eW2⟩ := add_step (sn_one.le (Nat.zero_le _)) sM2 (by omega)
 obtain ⟨C, sC, rC, eC⟩ := add_step sW2 (sn_epsC.le (Nat.zero_le _)) (by omega)
 refine ⟨Y, Z, P, M, N, W, S, P2, M2, W2, C, ⟨ry, rz, rP, rM, rN, rW, rS, rP2, rM2, rW2, rC⟩, ⟨sy, sz, sP, sM, sN, sW, sS, sP2, sM2, sW2, sC⟩, ?_, ?_⟩
 · exact point_sine b.1 b.2 tau_span ey ez sin_spans eP eM eN eW (by unfold ps epsS sp; decide +kernel) eS
 · exact point_cosine b.1 b.2 tau_span ey ez cos_spans eP2 eM2 (by unfold ps oneS sp; decide +kernel) eW2 (by unfold ps epsC sp; decide +kernel) eC

def cutP (p : Pr) : Pr := (meetX p.1 p.2 noneW oneW, meetY p.1 p.2 noneW oneW)
structure Unit1 (u : Pr) : Prop where
 l1 : u.1 < 18446744073709551616
 l2 : u.2 < 18446744073709551616
 ok : errS u.1 u.2 = 0
 lo : V noneW ≤ V u.1
 hi : V u.2 ≤ V oneW
theorem none_Q : Q noneW = -1 := by decide +kernel
theorem sets_one {p : Pr} {m : Nat} (hp : Sn p m) : Sets p.1 p.2 noneW oneW := ⟨hp.l1, hp.l2, by decide +kernel, by decide +kernel, hp.ok, by decide +kernel⟩
theorem Q_congr {a b : Nat} (h : V a = V b) : Q a = Q b := by unfold Q; rw [h]
theorem cut_step {p : Pr} {m : Nat} {x : Rat} (hp : Sn p m) (hx : Ins x (ps p)) (x1 : -1 ≤ x) (x2 : x ≤ 1) : meetB p.1 p.2 noneW oneW = true ∧ Unit1 (cutP p) ∧ Inc x (ps (cutP p)) := by
 have T := sets_one hp
 obtain ⟨f1, f2, le⟩ := hp.fits
 have g1 := fit_fin hp.l1 f1
 have g2 := fit_fin hp.l2 f2
 have n1 : FinW noneW := by unfold FinW noneW; omega
 have n2 : FinW oneW := by unfold FinW oneW; omega
 have mx := mxW_spec g1 n1
 have mn := mnW_spec g2 n2
 obtain ⟨h1, h2⟩ := hx
 replace h1 : Q p.1 ≤ x - Ply.del := h1
 replace h2 : x + Ply.del ≤ Q p.2 := h2
 have d0 : 0 ≤ Ply.del := by decide +kernel
 have a1 : V p.1 ≤ V oneW := by rw [← Q_le, one_Q]; grind
 have a2 : V noneW ≤ V p.2 := by rw [← Q_le, none_Q]; grind
 have a3 : V noneW ≤ V oneW := by decide +kernel
 have B : meetB p.1 p.2 noneW oneW = true := by
  unfold meetB
  rw [decide_eq_true_eq]
  rcases mx.1 with e | e <;> rcases mn.1 with e' | e' <;> rw [e, e'] <;> omega
 obtain ⟨e1, e2, e0⟩ := T.meet_ok B
 have c1 : V (cutP p).1 = V (mxW p.1 noneW) := by show V (meetX _ _ _ _) = _; rw [e1, posW_V]
 have c2 : V (cutP p).2 = V (mnW p.2 oneW) := by show V (meetY _ _ _ _) = _; rw [e2, posW_V]
 have l := T.meet_lt
 refine ⟨B, ⟨l.1, l.2, e0, by rw [c1]; exact mx.2.2, by rw [c2]; exact mn.2.2⟩, ?_⟩
 refine Ins.cut (A := ps p) ⟨h1, h2⟩ ?_ ?_
 · rcases mx.1 with e | e
   · left; exact Q_congr (by rw [c1, e])
   · right; exact (Q_congr (by rw [c1, e])).trans none_Q
 · rcases mn.1 with e | e
   · left; exact Q_congr (by rw [c2, e])
   · right; exact (Q_congr (by rw [c2, e])).trans one_Q

def qsP (k : Int) (S C nS nC : Pr) : Pr := if k = 0 then S else if k = 1 then C else if k = 2 then nS else nC
def qcP (k : Int) (S C nS nC : Pr) : Pr := if k = 0 then C else if k = 1 then nS else if k = 2 then nC else S
structure PtR (x : Nat) (p q : Pr) : Prop where
 ex : ∃ r S C nS nC, Rst x r ∧ SurR r S C ∧ NegR S nS ∧ NegR C nC ∧ p = cutP (qsP (kq eig (V x) % 4) S C nS nC) ∧ q = cutP (qcP (kq eig (V x) % 4) S C nS nC)
theorem PtR.uniq {x : Nat} {p q p' q' : Pr} (h : PtR x p q) (k : PtR x p' q') : p = p' ∧ q = q' := by
 obtain ⟨r, S, C, nS, nC, R, U, n1, n2, e1, e2⟩ := h.ex
 obtain ⟨r', S', C', nS', nC', R', U', n1', n2', e1', e2'⟩ := k.ex
 obtain rfl := R.uniq R'
 obtain ⟨rfl, rfl⟩ := U.uniq U'
 obtain rfl := n1.uniq n1'
 obtain rfl := n2.uniq n2'
 rw [e1, e2, e1', e2']; exact ⟨rfl, rfl⟩

theorem Q_neg {a b : Nat} (h : V a = -V b) : Q a = -Q b := by
 unfold Q; rw [h, Rat.intCast_neg]; simp only [Rat.div_def]; grind
theorem neg_ins {p u : Pr} {x : Rat} (h : Ins x (ps p)) (h1 : V u.1 = -V p.2) (h2 : V u.2 = -V p.1) : Ins (-x) (ps u) := by
 have e : ps u = (-(ps p).2, -(ps p).1) := by
  unfold ps sp
  rw [Q_neg h1, Q_neg h2]
 rw [e]; exact h.neg

structure PtH (x : Nat) (p q : Pr) : Prop where
 rel : PtR x p q
 up : Unit1 p
 uq : Unit1 q
 rest : ∃ r, Rst x r ∧ Inc (Ply.sq (kq eig (V x)) (Ply.tau * Q r)) (ps p) ∧ Inc (Ply.sq (kq eig (V x) + 1) (Ply.tau * Q r)) (ps q)

theorem sq_parts (k : Int) (y : Rat) : (k % 4 = 0 → Ply.sq k y = Ply.s y) ∧ (k % 4 = 1 → Ply.sq k y = Ply.c y) ∧ (k % 4 = 2 → Ply.sq k y = -Ply.s y) ∧ (k % 4 = 3 → Ply.sq k y = -Ply.c y) := by
 have a : ∀ j : Int, k % 4 = j % 4 → Ply.sq k y = Ply.sq j y := fun j h => Ply.sq_mod h y
 have z0 : Ply.sq 0 y = Ply.s y := by unfold Ply.sq; rfl
 have z1 : Ply.sq 1 y = Ply.c y := by unfold Ply.sq; rfl
 refine ⟨fun h => ?_, fun h => ?_, fun h => ?_, fun h => ?_⟩
 · rw [a 0 (by omega), z0]
 · rw [a 1 (by omega), z1]
 · rw [a (0 + 2) (by omega), Ply.sq_two, z0]
 · rw [a (1 + 2) (by omega), Ply.sq_two, z1]

structure PtE (x r : Nat) (Y Z P M N W S P2 M2 W2 C nS nC : Pr) : Prop where
 rst : Rst x r
 rest : Rest r
 fit : fitB r = true
 sur : Sur r Y Z P M N W S P2 M2 W2 C
 sn : SurB Y Z P M N W S P2 M2 W2 C
 n1 : NegR S nS
 n2 : NegR C nC
 s1 : Sn nS 67
 s2 : Sn nC 64
 b : ∀ k : Int, k = 0 ∨ k = 1 ∨ k = 2 ∨ k = 3 → meetB (qsP k S C nS nC).1 (qsP k S C nS nC).2 noneW oneW = true ∧ meetB (qcP k S C nS nC).1 (qcP k S C nS nC).2 noneW oneW = true
 h : PtH x (cutP (qsP (kq eig (V x) % 4) S C nS nC)) (cutP (qcP (kq eig (V x) % 4) S C nS nC))
theorem pt_ex {x : Nat} (hx : x < 18446744073709551616) (h0 : errA x = 0) {r : Nat} (R : Rst x r) : ∃ Y Z P M N W S P2 M2 W2 C nS nC, PtE x r Y Z P M N W S P2 M2 W2 C nS nC := by
 have A := errA_ang hx h0
 have fx : fitB x = true := by
  unfold errA at h0
  split at h0
  · rename_i c; exact c.1
  · omega
 have H := R.rest A
 have f := rest_fit hx fx R
 obtain ⟨Y, Z, P, M, N, W, S, P2, M2, W2, C, U, B, iS, iC⟩ := sur_ex H f
 obtain ⟨nS, s1, r1, a1, a2⟩ := neg_step B.s
 obtain ⟨nC, s2, r2, b1, b2⟩ := neg_step B.c
 have jS := neg_ins iS a1 a2
 have jC := neg_ins iC b1 b2
 have bd := H.Q_bd
 have tp := Ply.top_mul bd.1 bd.2
 have o1 := Ply.s_le_one tp.1 tp.2
 have o2 := Ply.c_le_one tp.1 tp.2
 have o3 := Ply.c_nn tp.1 tp.2
 have q := sq_parts (kq eig (V x)) (Ply.tau * Q r)
 have q' := sq_parts (kq eig (V x) + 1) (Ply.tau * Q r)
 generalize Ply.s (Ply.tau * Q r) = s at *
 generalize Ply.c (Ply.tau * Q r) = c at *
 obtain ⟨m1, u1, c1⟩ := cut_step B.s iS o1.1 o1.2
 obtain ⟨m2, u2, c2⟩ := cut_step B.c iC (by grind) o2
 obtain ⟨m3, u3, c3⟩ := cut_step s1 jS (by grind) (by grind)
 obtain ⟨m4, u4, c4⟩ := cut_step s2 jC (by grind) (by grind)
 have X : ∃ r S C nS nC, Rst x r ∧ SurR r S C ∧ NegR S nS ∧ NegR C nC ∧ cutP (qsP (kq eig (V x) % 4) S C nS nC) = cutP (qsP (kq eig (V x) % 4) S C nS nC) ∧ cutP (qcP (kq eig (V x) % 4) S C nS nC) = cutP (qcP (kq eig (V x) % 4) S C nS nC) := ⟨r, S, C, nS, nC, R, ⟨_, _, _, _, _, _, _, _, _, U⟩, r1, r2, rfl, rfl⟩
 refine ⟨Y, Z, P, M, N, W, S, P2, M2, W2, C, nS, nC, R, H, f, U, B, r1, r2, s1, s2, ?_, ⟨⟨r, S, C, nS, nC, R, ⟨_, _, _, _, _, _, _, _, _, U⟩, r1, r2, rfl, rfl⟩, ?_, ?_, r, R, ?_, ?_⟩⟩
 · rintro k (rfl | rfl | rfl | rfl)
   · exact ⟨m1, m2⟩
   · exact ⟨m2, m3⟩
   · exact ⟨m3, m4⟩
   · exact ⟨m4, m1⟩
 all_goals
  have k4 : kq eig (V x) % 4 = 0 ∨ kq eig (V x) % 4 = 1 ∨ kq eig (V x) % 4 = 2 ∨ kq eig (V x) % 4 = 3 := by omega
  clear X
  rcases k4 with k | k | k | k
 · rw [k]; exact u1
 · rw [k]; exact u2
 · rw [k]; exact u3
 · rw [k]; exact u4
 · rw [k]; exact u2
 · rw [k]; exact u3
 · rw [k]; exact u4
 · rw [k]; exact u1
 · rw [q.1 k, k]; exact c1
 · rw [q.2.1 k, k]; exact c2
 · rw [q.2.2.1 k, k]; exact c3
 · rw [q.2.2.2 k, k]; exact c4
 · rw [q'.2.1 (by omega), k]; exact c2
 · rw [q'.2.2.1 (by omega), k]; exact c3
 · rw [q'.2.2.2 (by omega), k]; exact c4
 · rw [q'.1 (by omega), k]; exact c1

theorem umul_run {p q u : Pr} (hp1 : p.1 < 18446744073709551616) (hp2 : p.2 < 18446744073709551616) (hq1 : q.1 < 18446744073709551616) (hq2 : q.2 < 18446744073709551616) (R : MulR p q u) (w : World) :
 Calls Tryz.prog 182 #[pv p, pv q] w fun e w' => e = .returned (pv u) ∧ Below w.heap.size w w' := by
 obtain ⟨p1, p2⟩ := p
 obtain ⟨q1, q2⟩ := q
 obtain ⟨u1, u2⟩ := u
 have SM := Lib.hid (fun w => (smul_run p1 p2 q1 q2 hp1 hp2 hq1 hq2 w).mono fun e w' h => (⟨OpAll.uniq h.1 R, h.2⟩ : e = .returned (spanE u1 u2 0) ∧ Below w.heap.size w w'))
 have C0 : Cls w [(w.heap.size, p1, p2), (w.heap.size + 1, q1, q2), (w.heap.size + 1 + 1, 0, 0)] (((w.alloc (boxO p1 p2)).alloc (boxO q1 q2)).alloc (boxO 0 0)) := by
  have := (((Cls.nil w).new p1 p2).new q1 q2).new 0 0
  simp only [List.nil_append, List.cons_append] at this
  rw [show (w.alloc (boxO p1 p2)).heap.size = w.heap.size + 1 by simp, show ((w.alloc (boxO p1 p2)).alloc (boxO q1 q2)).heap.size = w.heap.size + 1 + 1 by simp] at this
  exact this
 have hst := @fstore
 unfold boxO at C0
 unfold pv spanV spanE at *
 dsimp only at *
 replace C0 := Lib.hid C0
 clear hp1 hp2 hq1 hq2 R
 go_enter Tryz.func182, Tryz.ntmps182
 go_wp2_with fail
 have C := C0.out
 clear C0
 generalize ((w.alloc _).alloc _).alloc _ = wr at *
 refine (SM.out wr).mono ?_
 rintro _ w1 ⟨rfl, hb⟩
 have C1 := (C.on hb).new u1 u2
 unfold boxO at C1
 have c0 := (C1.at_ 2 rfl).lo
 have c1 := (C1.at_ 2 rfl).hi
 have f0 := (C1.at_ 2 rfl).f0
 have f1 := (C1.at_ 2 rfl).f1
 have d0 := (C1.at_ 3 rfl).lo
 have d1 := (C1.at_ 3 rfl).hi
 have B := Lib.hid C1.old
 clear C C1 hb SM
 go_wp2_with fail
 (try simp only [Exit.inBlock, Exit.then])
 refine bodyPost_ret (v := spanV u1 u2) ?_ rfl ⟨rfl, ?_⟩
 · rw [results_cell1 rfl]; unfold spanV; go_simp
 · exact (B.out.setCell (by show _ ≤ w.heap.size + 1 + 1; omega) _).setCell (by show _ ≤ w.heap.size + 1 + 1; omega) _
theorem uadd_run {p q u : Pr} (hp1 : p.1 < 18446744073709551616) (hp2 : p.2 < 18446744073709551616) (hq1 : q.1 < 18446744073709551616) (hq2 : q.2 < 18446744073709551616) (R : AddR p q u) (w : World) :
 Calls Tryz.prog 183 #[pv p, pv q] w fun e w' => e = .returned (pv u) ∧ Below w.heap.size w w' := by
 obtain ⟨p1, p2⟩ := p
 obtain ⟨q1, q2⟩ := q
 obtain ⟨u1, u2⟩ := u
 have SM := Lib.hid (fun w => (sadd_run p1 p2 q1 q2 hp1 hp2 hq1 hq2 w).mono fun e w' h => (⟨h.1.all.uniq R.all, h.2⟩ : e = .returned (spanE u1 u2 0) ∧ Below w.heap.size w w'))
 have C0 : Cls w [(w.heap.size, p1, p2), (w.heap.size + 1, q1, q2), (w.heap.size + 1 + 1, 0, 0)] (((w.alloc (boxO p1 p2)).alloc (boxO q1 q2)).alloc (boxO 0 0)) := by
  have := (((Cls.nil w).new p1 p2).new q1 q2).new 0 0
  simp only [List.nil_append, List.cons_append] at this
  rw [show (w.alloc (boxO p1 p2)).heap.size = w.heap.size + 1 by simp, show ((w.alloc (boxO p1 p2)).alloc (boxO q1 q2)).heap.size = w.heap.size + 1 + 1 by simp] at this
  exact this
 have hst := @fstore
 unfold boxO at C0
 unfold pv spanV spanE at *
 dsimp only at *
 replace C0 := Lib.hid C0
 clear hp1 hp2 hq1 hq2 R
 go_enter Tryz.func183, Tryz.ntmps183
 go_wp2_with fail
 have C := C0.out
 clear C0
 generalize ((w.alloc _).alloc _).alloc _ = wr at *
 refine (SM.out wr).mono ?_
 rintro _ w1 ⟨rfl, hb⟩
 have C1 := (C.on hb).new u1 u2
 unfold boxO at C1
 have c0 := (C1.at_ 2 rfl).lo
 have c1 := (C1.at_ 2 rfl).hi
 have f0 := (C1.at_ 2 rfl).f0
 have f1 := (C1.at_ 2 rfl).f1
 have d0 := (C1.at_ 3 rfl).lo
 have d1 := (C1.at_ 3 rfl).hi
 have B := Lib.hid C1.old
 clear C C1 hb SM
 go_wp2_with fail
 (try simp only [Exit.inBlock, Exit.then])
 refine bodyPost_ret (v := spanV u1 u2) ?_ rfl ⟨rfl, ?_⟩
 · rw [results_cell1 rfl]; unfold spanV; go_simp
 · exact (B.out.setCell (by show _ ≤ w.heap.size + 1 + 1; omega) _).setCell (by show _ ≤ w.heap.size + 1 + 1; omega) _
theorem uhull_run {p q u : Pr} (hp1 : p.1 < 18446744073709551616) (hp2 : p.2 < 18446744073709551616) (hq1 : q.1 < 18446744073709551616) (hq2 : q.2 < 18446744073709551616) (R : errSS p.1 p.2 q.1 q.2 = 0 ∧ u = (posW (mnW p.1 q.1), posW (mxW p.2 q.2))) (w : World) :
 Calls Tryz.prog 120 #[pv p, pv q] w fun e w' => e = .returned (pv u) ∧ Below w.heap.size w w' := by
 obtain ⟨p1, p2⟩ := p
 obtain ⟨q1, q2⟩ := q
 obtain ⟨u1, u2⟩ := u
 obtain ⟨R, e⟩ := R
 have SM := Lib.hid (fun w => shull_ok hp1 hp2 hq1 hq2 R w)
 obtain ⟨e1, e2⟩ := Prod.mk.inj e
 dsimp only at e1 e2
 rw [← e1, ← e2] at SM
 clear e e1 e2
 have C0 : Cls w [(w.heap.size, p1, p2), (w.heap.size + 1, q1, q2), (w.heap.size + 1 + 1, 0, 0)] (((w.alloc (boxO p1 p2)).alloc (boxO q1 q2)).alloc (boxO 0 0)) := by
  have := (((Cls.nil w).new p1 p2).new q1 q2).new 0 0
  simp only [List.nil_append, List.cons_append] at this
  rw [show (w.alloc (boxO p1 p2)).heap.size = w.heap.size + 1 by simp, show ((w.alloc (boxO p1 p2)).alloc (boxO q1 q2)).heap.size = w.heap.size + 1 + 1 by simp] at this
  exact this
 have hst := @fstore
 unfold boxO at C0
 unfold pv spanV spanE at *
 dsimp only at *
 replace C0 := Lib.hid C0
 clear hp1 hp2 hq1 hq2 R
 go_enter Tryz.func120, Tryz.ntmps120
 go_wp2_with fail
 have C := C0.out
 clear C0
 generalize ((w.alloc _).alloc _).alloc _ = wr at *
 refine (SM.out wr).mono ?_
 rintro _ w1 ⟨rfl, hb⟩
 have C1 := (C.on hb).new u1 u2
 unfold boxO at C1
 have c0 := (C1.at_ 2 rfl).lo
 have c1 := (C1.at_ 2 rfl).hi
 have f0 := (C1.at_ 2 rfl).f0
 have f1 := (C1.at_ 2 rfl).f1
 have d0 := (C1.at_ 3 rfl).lo
 have d1 := (C1.at_ 3 rfl).hi
 have B := Lib.hid C1.old
 clear C C1 hb SM
 go_wp2_with fail
 (try simp only [Exit.inBlock, Exit.then])
 refine bodyPost_ret (v := spanV u1 u2) ?_ rfl ⟨rfl, ?_⟩
 · rw [results_cell1 rfl]; unfold spanV; go_simp
 · exact (B.out.setCell (by show _ ≤ w.heap.size + 1 + 1; omega) _).setCell (by show _ ≤ w.heap.size + 1 + 1; omega) _
theorem uneg_run {p u : Pr} (hp1 : p.1 < 18446744073709551616) (hp2 : p.2 < 18446744073709551616) (R : NegR p u) (w : World) :
 Calls Tryz.prog 155 #[pv p] w fun e w' => e = .returned (pv u) ∧ Below w.heap.size w w' := by
 obtain ⟨p1, p2⟩ := p
 obtain ⟨u1, u2⟩ := u
 have SM := Lib.hid (fun w => (sneg_run p1 p2 hp1 hp2 w).mono fun e w' h => (⟨h.1.all.uniq R.all, h.2⟩ : e = .returned (spanE u1 u2 0) ∧ Below w.heap.size w w'))
 have C0 : Cls w [(w.heap.size, p1, p2), (w.heap.size + 1, 0, 0)] ((w.alloc (boxO p1 p2)).alloc (boxO 0 0)) := by
  have := ((Cls.nil w).new p1 p2).new 0 0
  simp only [List.nil_append, List.cons_append] at this
  rw [show (w.alloc (boxO p1 p2)).heap.size = w.heap.size + 1 by simp] at this
  exact this
 have hst := @fstore
 unfold boxO at C0
 unfold pv spanV spanE at *
 dsimp only at *
 replace C0 := Lib.hid C0
 clear hp1 hp2 R
 go_enter Tryz.func155, Tryz.ntmps155
 go_wp2_with fail
 have C := C0.out
 clear C0
 generalize (w.alloc _).alloc _ = wr at *
 refine (SM.out wr).mono ?_
 rintro _ w1 ⟨rfl, hb⟩
 have C1 := (C.on hb).new u1 u2
 unfold boxO at C1
 have c0 := (C1.at_ 1 rfl).lo
 have c1 := (C1.at_ 1 rfl).hi
 have f0 := (C1.at_ 1 rfl).f0
 have f1 := (C1.at_ 1 rfl).f1
 have d0 := (C1.at_ 2 rfl).lo
 have d1 := (C1.at_ 2 rfl).hi
 have B := Lib.hid C1.old
 clear C C1 hb SM
 go_wp2_with fail
 (try simp only [Exit.inBlock, Exit.then])
 refine bodyPost_ret (v := spanV u1 u2) ?_ rfl ⟨rfl, ?_⟩
 · rw [results_cell1 rfl]; unfold spanV; go_simp
 · exact (B.out.setCell (by show _ ≤ w.heap.size + 1; omega) _).setCell (by show _ ≤ w.heap.size + 1; omega) _
theorem uabout_run {a : Nat} (ha : a < 18446744073709551616) (w : World) :
 Calls Tryz.prog 196 #[.float .f64 a] w fun e w' => e = .returned (pv (facS a)) ∧ Below w.heap.size w w' := by
 have P1 := fun w => prev_any a ha w
 have P2 := fun w => next_any a ha w
 have hst := @fstore
 unfold pv spanV facS
 dsimp only
 clear ha
 generalize prevW a = x at *
 generalize nextW a = y at *
 go_enter Tryz.func196, Tryz.ntmps196
 go_wp2_with (first | (go_at_call 189; ((with_reducible refine (P1 _).mono ?_); rintro e w' ⟨rfl, rfl⟩)) | (go_at_call 103; ((with_reducible refine (P2 _).mono ?_); rintro e w' ⟨rfl, rfl⟩)))
 (try simp only [Exit.inBlock, Exit.then])
 refine bodyPost_ret (v := spanV x y) ?_ rfl ⟨rfl, ?_⟩
 · rw [results_cell1 rfl]; unfold spanV; go_simp
 · exact (Below.refl _ w).alloc (Nat.le_refl _) _
theorem ucircle_run (w : World) :
 Calls Tryz.prog 118 #[] w fun e w' => e = .returned (pv (noneW, oneW)) ∧ Below w.heap.size w w' := by
 have hst := @fstore
 unfold pv spanV noneW oneW
 dsimp only
 go_enter Tryz.func118, Tryz.ntmps118
 go_wp2_with fail
 (try simp only [Exit.inBlock, Exit.then])
 refine bodyPost_ret (v := spanV 13830554455654793216 4607182418800017408) ?_ rfl ⟨rfl, ?_⟩
 · rw [results_cell1 rfl]; unfold spanV; go_simp
 · exact (Below.refl _ w).alloc (Nat.le_refl _) _

theorem put2_cell {w : World} {g s t : Nat} (a : Addr) (h : a.block ≠ g) : (put2 w g s t).cell? a = w.cell? a := by
 unfold put2
 rw [World.cell?_setCell_other _ _ _ _ (by intro e; exact h (by rw [← e])), World.cell?_setCell_other _ _ _ _ (by intro e; exact h (by rw [← e]))]
structure Arr (w : World) (g : Nat) (L : List Nat) : Prop where
 lt : g < w.heap.size
 at_ : ∀ i, i < L.length → w.cell? ⟨g, i, none⟩ = some (.float .f64 (L.getD i 0))
theorem Arr.on {w w' : World} {g : Nat} {L : List Nat} (A : Arr w g L) (h : Below w.heap.size w w') : Arr w' g L := ⟨Nat.lt_of_lt_of_le A.lt h.size, fun i hi => (cell_on h _ A.lt).trans (A.at_ i hi)⟩
theorem Arr.put {w : World} {g h s t : Nat} {L : List Nat} (A : Arr w g L) (hg : g ≠ h) : Arr (put2 w h s t) g L := ⟨by rw [put2_size]; exact A.lt, fun i hi => by rw [put2_cell _ hg]; exact A.at_ i hi⟩
theorem Arr.drew {w : World} {g : Nat} {L : List Nat} (A : Arr w g L) : Arr w.drew g L := ⟨A.lt, A.at_⟩

theorem ser_back {Z : Pr} : ∀ (al : List Nat) (P : Pr), SerR Z al P → ∀ i, i < al.length → ∃ P1 M P2, SerR Z (al.drop (al.length - i)) P1 ∧ MulR Z P1 M ∧ AddR (facS (al.getD (al.length - 1 - i) 0)) M P2 ∧ SerR Z (al.drop (al.length - 1 - i)) P2
 | [], _, _, i, h => by simp at h
 | a :: al, P, ⟨P', M, h1, h2, h3⟩, i, hi => by
   by_cases e : i = al.length
   · subst e
     have e1 : (a :: al).length - al.length = 1 := by simp
     have e2 : (a :: al).length - 1 - al.length = 0 := by simp
     rw [e1, e2]
     exact ⟨P', M, P, h1, h2, h3, P', M, h1, h2, h3⟩
   · have hi' : i < al.length := by simp at hi; omega
     obtain ⟨P1, M1, P2, k1, k2, k3, k4⟩ := ser_back al P' h1 i hi'
     have e1 : (a :: al).length - i = al.length - i + 1 := by simp; omega
     have e2 : (a :: al).length - 1 - i = al.length - 1 - i + 1 := by simp; omega
     rw [e1, e2, List.drop_succ_cons, List.drop_succ_cons, List.getD_cons_succ]
     exact ⟨P1, M1, P2, k1, k2, k3, k4⟩
theorem ser_lt {Z : Pr} : ∀ {al : List Nat} {P : Pr}, SerR Z al P → P.1 < 18446744073709551616 ∧ P.2 < 18446744073709551616
 | [], P, h => by
   have h : P = (0, 0) := h
   rw [h]; decide
 | _ :: _, P, ⟨_, _, _, _, h⟩ => by
   have := h.all.bd
   exact ⟨this.1, this.2.1⟩
theorem mul_lt {p q u : Pr} (h : MulR p q u) : u.1 < 18446744073709551616 ∧ u.2 < 18446744073709551616 := ⟨(OpAll.bd h).1, (OpAll.bd h).2.1⟩

theorem facS_lt {a : Nat} (ha : a < 18446744073709551616) : (facS a).1 < 18446744073709551616 ∧ (facS a).2 < 18446744073709551616 := ⟨prevW_lt a ha, nextW_lt a ha⟩

theorem uss17 {Z P : Pr} (hz : Z.1 < 18446744073709551616 ∧ Z.2 < 18446744073709551616) (hP : SerR Z sinW P) (w : World) : Calls Tryz.prog 184 #[.int .i64 17, pv Z] w fun e w' => e = .returned (pv P) ∧ Below w.heap.size w w' := by
 have F := Lib.hid (fun w => ufac_run w)
 obtain ⟨L0, hL⟩ : ∃ L, L = facL := ⟨_, rfl⟩
 have len : L0.length = 18 := by rw [hL]; rfl
 have lt : Hid (∀ i, L0.getD i 0 < 18446744073709551616) := by
  intro i
  rw [hL]
  by_cases h : i < 18
  · have : ∀ i, i < 18 → facL.getD i 0 < 18446744073709551616 := by decide
    exact this i h
  · rw [List.getD_eq_getElem?_getD, List.getElem?_eq_none (by show 18 ≤ i; omega)]; decide
 have step : Hid (∀ i, i < 8 → ∃ P1 M P2, SerR Z (sinW.drop (8 - i)) P1 ∧ MulR Z P1 M ∧ AddR (facS (L0.getD (17 - 2 * i) 0)) M P2 ∧ SerR Z (sinW.drop (7 - i)) P2) := by
  intro i hi
  obtain ⟨P1, M, P2, k1, k2, k3, k4⟩ := ser_back sinW P hP i hi
  have e : L0.getD (17 - 2 * i) 0 = sinW.getD (7 - i) 0 := by
   rw [hL]
   have : i = 0 ∨ i = 1 ∨ i = 2 ∨ i = 3 ∨ i = 4 ∨ i = 5 ∨ i = 6 ∨ i = 7 := by omega
   rcases this with rfl | rfl | rfl | rfl | rfl | rfl | rfl | rfl <;> rfl
  exact ⟨P1, M, P2, k1, k2, by rw [e]; exact k3, k4⟩
 have at0 : Hid (SerR Z (sinW.drop 0) P) := hP
 have at8 : Hid (SerR Z (sinW.drop 8) (0, 0)) := rfl
 have hsn := ufac_store L0 len
 have hfl : (flV L0).length = L0.length := flV_len L0
 rw [len] at hfl
 rw [← hL] at F
 have C0 : Cls w [(w.heap.size, Z.1, Z.2), (w.heap.size + 1, 0, 0)] ((w.alloc (boxO Z.1 Z.2)).alloc (boxO 0 0)) := by
  have := ((Cls.nil w).new Z.1 Z.2).new 0 0
  simp only [List.nil_append, List.cons_append] at this
  rw [show (w.alloc (boxO Z.1 Z.2)).heap.size = w.heap.size + 1 by simp] at this
  exact this
 have hst := @fstore
 generalize hW : sinW = W at *
 obtain ⟨z1, z2⟩ := Z
 dsimp only at *
 clear hL hW hP
 unfold boxO at C0
 have epz : pv (z1, z2) = .agg #[.float .f64 z1, .float .f64 z2] := rfl
 rw [epz]
 replace C0 := Lib.hid C0
 replace len := Lib.hid len
 replace hz := Lib.hid hz
 clear epz
 go_enter Tryz.func184, Tryz.ntmps184
 go_wp2_with fail
 have C := C0.out
 clear C0
 generalize (w.alloc _).alloc _ = wr at *
 refine (F.out wr).mono ?_
 rintro _ w1 ⟨rfl, hb1⟩
 have C1 := C.on hb1
 have ba : Below w1.heap.size w1 (w1.alloc (.cells (flV L0).toArray 132)) := (Below.refl _ w1).alloc (Nat.le_refl _) _
 have R : Arr (w1.alloc (.cells (flV L0).toArray 132)) w1.heap.size L0 := ⟨by simp, fun i hi => fl_at (range_alloc w1 (flV L0) 132) i hi⟩
 have gne : Hid (w1.heap.size ≠ (w1.alloc (.cells (flV L0).toArray 132)).heap.size) := by show _ ≠ _; simp
 have C2 := C1.on ba
 have C3 := C2.new 0 0
 have R3 := R.on ((Below.refl _ _).alloc (Nat.le_refl _) (boxO 0 0))
 unfold boxO at C3 R3
 simp only [List.cons_append, List.nil_append] at C3
 replace C3 := Lib.hid C3
 replace R3 := Lib.hid R3
 clear C C1 C2 R ba hb1 F
 go_wp2_with fail
 rw [show (w1.alloc (.cells (flV L0).toArray 132)).heap.size = w1.heap.size + 1 by simp] at C3
 clear gne hsn hfl hst
 generalize (w1.alloc _).alloc _ = wq at *
 generalize w1.heap.size = g at *
 go_loopw [10] (fun s10 wr => ∃ (i : Nat) (P1 : Pr), i ≤ 8 ∧ s10 = .int .i64 i ∧ SerR (z1, z2) (W.drop (8 - i)) P1 ∧ Cls w [(w.heap.size, z1, z2), (w.heap.size + 1, 0, 0), (g + 1, P1.1, P1.2)] wr ∧ Arr wr g L0) (fun s10 _ => 8 - (intOf s10).toNat)
 case atStart => exact ⟨0, (0, 0), by omega, rfl, at8.out, C3.out, R3.out⟩
 case round =>
  obtain ⟨i, P1, hi, rfl, hS, hC, hR⟩ := hrel
  by_cases hlt : i < 8
  · obtain ⟨P1', M, P2, k1, k2, k3, k4⟩ := step.out i hlt
    obtain rfl := hS.uniq k1
    have ha := lt.out (17 - 2 * i)
    have hk : 17 - 2 * i < L0.length := by have := len.out; omega
    have hp := ser_lt k1
    have hm := mul_lt k2
    have k4 := Lib.hid k4
    replace hC := Lib.hid hC
    replace hR := Lib.hid hR
    replace k2 := Lib.hid k2
    replace k3 := Lib.hid k3
    replace hp := Lib.hid hp
    replace hm := Lib.hid hm
    replace ha := Lib.hid ha
    replace hk := Lib.hid hk
    clear hS k1 step at0
    go_upto_region 6 with fail
    generalize hds : ([some 13, some 14, some 15, some 16, some 17, some 18, some 19, some 20, some 21, some 22, some 23, none] : List (Option Tmp)) = ds
    have hap : apartL ds = true := by rw [← hds]; decide
    have hds := hds.symm
    refine wp_region_sts [(w.heap.size, z1, z2), (w.heap.size + 1, 0, 0), (g + 1, P2.1, P2.2)] [⟨11, 2, g + 1, P2.1, P2.2⟩] [.int .i64 17, .int .i64 i, .int .i64 (2 * (i : Int)), .int .i64 (17 - 2 * (i : Int)), .pointer (some ⟨g, 17 - 2 * i, none⟩), .float .f64 (L0.getD (17 - 2 * i) 0), pv (facS (L0.getD (17 - 2 * i) 0)), pv (z1, z2), pv P1, pv M, pv P2, undef]
        ds (by kernel_rfl) (by rw [hds]; rfl) hap (by decide +kernel) (by decide +kernel) rfl hC.out ?hE2 ?hE3 ?hj ?hi ?his (fun W => Arr W g L0) hR.out.drew (fun _ _ A h => A.on h) ?hJs ?step ?store ?fin
    case hE2 =>
        intro j h
        have n0 : 2 ≠ j := h _ qh0
        rcases j with _ | _ | _ | j <;> first | rfl | exact absurd rfl n0
    case hE3 => intro st h; rcases List.mem_singleton.1 h with rfl <;> rfl
    case hj => intro st h; rcases List.mem_singleton.1 h with rfl <;> exact ⟨_, _, rfl⟩
    case hi => intro st h st' h' _; rcases List.mem_singleton.1 h with rfl; rcases List.mem_singleton.1 h' with rfl; rfl
    case his => intro st h; rcases List.mem_singleton.1 h with rfl
                · show 11 < 12; decide
    case hJs => intro st h W A; obtain rfl := List.mem_singleton.1 h; exact A.put (by show g ≠ g + 1; omega)
    case step =>
        intro L W i o ho hs hd hB hJ
        rcases (ql12 (Array.getElem?_eq_some_iff.1 ho).1) with rfl | rfl | rfl | rfl | rfl | rfl | rfl | rfl | rfl | rfl | rfl | rfl
        · obtain rfl := qsj ho
          refine qvr fun ρ hA => ?_
          have h0 : ρ (.tmp 0) = .int .i64 17 := (qpn hA (by rw [hds]; decide)).trans rfl
          exact ex_move W rfl h0
        · obtain rfl := qsj ho
          refine qvr fun ρ hA => ?_
          have h0 : ρ (.tmp 7) = .int .i64 i := (qpn hA (by rw [hds]; decide)).trans rfl
          exact ex_move W rfl h0
        · obtain rfl := qsj ho
          refine qvr fun ρ hA => ?_
          have hc := qrc hA
          have h0 : ρ (.tmp 14) = .int .i64 i := qpe 1 hA hap (by rw [hds]; rfl) (hd 1 (by decide +kernel)) (show 14 < 26 by decide)
          have e : IntKind.i64.wrap (2 * (i : Int)) = 2 * (i : Int) := by rw [IntKind.wrap_i64]; omega
          unfold execOp; go_simp
        · obtain rfl := qsj ho
          refine qvr fun ρ hA => ?_
          have hc := qrc hA
          have h0 : ρ (.tmp 13) = .int .i64 17 := qpe 0 hA hap (by rw [hds]; rfl) (hd 0 (by decide +kernel)) (show 13 < 26 by decide)
          have h1 : ρ (.tmp 15) = .int .i64 (2 * (i : Int)) := qpe 2 hA hap (by rw [hds]; rfl) (hd 2 (by decide +kernel)) (show 15 < 26 by decide)
          have e : IntKind.i64.wrap (17 - 2 * (i : Int)) = 17 - 2 * (i : Int) := by rw [IntKind.wrap_i64]; omega
          unfold execOp; go_simp
        · obtain rfl := qsj ho
          refine qvr fun ρ hA => ?_
          have hc := qrc hA
          have h0 : ρ (.tmp 5) = .pointer (some ⟨g, 0, none⟩) := (qpn hA (by rw [hds]; decide)).trans rfl
          have h1 : ρ (.tmp 16) = .int .i64 (17 - 2 * (i : Int)) := qpe 3 hA hap (by rw [hds]; rfl) (hd 3 (by decide +kernel)) (show 16 < 26 by decide)
          have e1 : 2 * (i : Int) ≤ 17 := by omega
          have e2 : 17 - 2 * (i : Int) < 18 := by omega
          have e3 : (17 - 2 * (i : Int)).toNat = 17 - 2 * i := by omega
          unfold execOp; go_simp
        · obtain rfl := qsj ho
          refine qvr fun ρ hA => ?_
          have hc := qrc hA
          have h0 : ρ (.tmp 17) = .pointer (some ⟨g, 17 - 2 * i, none⟩) := qpe 4 hA hap (by rw [hds]; rfl) (hd 4 (by decide +kernel)) (show 17 < 26 by decide)
          have c := hJ.at_ _ hk.out
          unfold execOp; go_simp
        · obtain rfl := qsj ho
          refine .call 196 #[.float .f64 (L0.getD (17 - 2 * i) 0)] ?_ (uabout_run ha.out W)
          generalize hA : (puts ds L _).eval = ρ
          have hc := qrc hA
          have hg := qrg hA
          have h0 : ρ (.tmp 18) = .float .f64 (L0.getD (17 - 2 * i) 0) := qpe 5 hA hap (by rw [hds]; rfl) (hd 5 (by decide +kernel)) (show 18 < 26 by decide)
          have hf := Tryz.func196
          unfold execOp; go_simp
        · obtain rfl := qsj ho
          have b := hB 0 _ _ _ rfl (qns rfl)
          refine qvr fun ρ hA => ?_
          have h0 : ρ (.tmp 3) = .pointer (some ⟨w.heap.size, 0, none⟩) := (qpn hA (by rw [hds]; decide)).trans rfl
          exact ex_loads rfl h0 b.lo b.hi
        · obtain rfl := qsj ho
          have b := hB 2 _ _ _ rfl (by
           intro st hst e
           simp only [List.mem_cons, List.not_mem_nil, or_false] at hst
           rcases hst with rfl
           · change needs _ _ 11 8 = true; decide +kernel)
          refine qvr fun ρ hA => ?_
          have h0 : ρ (.tmp 6) = .pointer (some ⟨g + 1, 0, none⟩) := (qpn hA (by rw [hds]; decide)).trans rfl
          exact ex_loads rfl h0 b.lo b.hi
        · obtain rfl := qsj ho
          refine .call 182 #[pv (z1, z2), pv P1] ?_ (umul_run hz.out.1 hz.out.2 hp.out.1 hp.out.2 k2.out W)
          generalize hA : (puts ds L _).eval = ρ
          have hc := qrc hA
          have hg := qrg hA
          have h0 : ρ (.tmp 20) = pv (z1, z2) := qpe 7 hA hap (by rw [hds]; rfl) (hd 7 (by decide +kernel)) (show 20 < 26 by decide)
          have h1 : ρ (.tmp 21) = pv P1 := qpe 8 hA hap (by rw [hds]; rfl) (hd 8 (by decide +kernel)) (show 21 < 26 by decide)
          have hf := Tryz.func182
          unfold execOp; go_simp
        · obtain rfl := qsj ho
          refine .call 183 #[pv (facS (L0.getD (17 - 2 * i) 0)), pv M] ?_ (uadd_run (facS_lt ha.out).1 (facS_lt ha.out).2 hm.out.1 hm.out.2 k3.out W)
          generalize hA : (puts ds L _).eval = ρ
          have hc := qrc hA
          have hg := qrg hA
          have h0 : ρ (.tmp 19) = pv (facS (L0.getD (17 - 2 * i) 0)) := qpe 6 hA hap (by rw [hds]; rfl) (hd 6 (by decide +kernel)) (show 19 < 26 by decide)
          have h1 : ρ (.tmp 22) = pv M := qpe 9 hA hap (by rw [hds]; rfl) (hd 9 (by decide +kernel)) (show 22 < 26 by decide)
          have hf := Tryz.func183
          unfold execOp; go_simp
        · exact absurd rfl (hs _ qh0)
    case store =>
        intro st hst L W o x y ho hd b
        generalize hA : (puts ds L _).eval = ρ
        simp only [List.mem_cons, List.not_mem_nil, or_false] at hst
        rcases hst with rfl
        · dsimp only at ho b ⊢
          obtain rfl := qsj ho
          have h0 : ρ (.tmp 6) = .pointer (some ⟨g + 1, 0, none⟩) := (qpn hA (by rw [hds]; decide)).trans rfl
          have h1 : ρ (.tmp 23) = pv P2 := qpe 10 hA hap (by rw [hds]; rfl) (hd 10 (by decide +kernel)) (show 23 < 26 by decide)
          exact ⟨ex_store rfl h0 h1 b.lo b.hi b.f0 b.f1, rfl⟩
    case fin =>
        intro w' hC' hR'
        rw [hds]
        clear hds hap k2 k3 hp hm ha hk hR hC lt
        simp only [List.map_cons, List.map_nil, puts, Act.put, List.setIfInBounds_toArray, List.set_cons_zero, List.set_cons_succ]
        go_wp2_with fail
        have e8 : 8 - (i + 1) = 7 - i := by omega
        refine ⟨⟨i + 1, P2, by omega, by simp, ?_, hC', hR'⟩, by simp only [intOf]; omega⟩
        rw [e8]; exact k4.out
  · obtain rfl : i = 8 := by omega
    obtain rfl := hS.uniq at0.out
    have c0 := (hC.at_ 2 rfl).lo
    have c1 := (hC.at_ 2 rfl).hi
    have d0 := (hC.at_ 1 rfl).lo
    have d1 := (hC.at_ 1 rfl).hi
    have f0 := (hC.at_ 1 rfl).f0
    have f1 := (hC.at_ 1 rfl).f1
    have B := Lib.hid hC.old
    have hst := @fstore
    obtain ⟨x1, x2⟩ := P1
    dsimp only at c0 c1
    clear hC hR hS at0 at8 step C3 R3
    go_wp2_with fail
    (try simp only [Exit.inBlock, Exit.then])
    refine bodyPost_ret (v := spanV x1 x2) ?_ rfl ⟨rfl, ?_⟩
    · rw [results_cell1 rfl]; unfold spanV; go_simp
    · exact (B.out.setCell (by show _ ≤ w.heap.size + 1; omega) _).setCell (by show _ ≤ w.heap.size + 1; omega) _
theorem uss16 {Z P : Pr} (hz : Z.1 < 18446744073709551616 ∧ Z.2 < 18446744073709551616) (hP : SerR Z cosW P) (w : World) : Calls Tryz.prog 184 #[.int .i64 16, pv Z] w fun e w' => e = .returned (pv P) ∧ Below w.heap.size w w' := by
 have F := Lib.hid (fun w => ufac_run w)
 obtain ⟨L0, hL⟩ : ∃ L, L = facL := ⟨_, rfl⟩
 have len : L0.length = 18 := by rw [hL]; rfl
 have lt : Hid (∀ i, L0.getD i 0 < 18446744073709551616) := by
  intro i
  rw [hL]
  by_cases h : i < 18
  · have : ∀ i, i < 18 → facL.getD i 0 < 18446744073709551616 := by decide
    exact this i h
  · rw [List.getD_eq_getElem?_getD, List.getElem?_eq_none (by show 18 ≤ i; omega)]; decide
 have step : Hid (∀ i, i < 8 → ∃ P1 M P2, SerR Z (cosW.drop (8 - i)) P1 ∧ MulR Z P1 M ∧ AddR (facS (L0.getD (16 - 2 * i) 0)) M P2 ∧ SerR Z (cosW.drop (7 - i)) P2) := by
  intro i hi
  obtain ⟨P1, M, P2, k1, k2, k3, k4⟩ := ser_back cosW P hP i hi
  have e : L0.getD (16 - 2 * i) 0 = cosW.getD (7 - i) 0 := by
   rw [hL]
   have : i = 0 ∨ i = 1 ∨ i = 2 ∨ i = 3 ∨ i = 4 ∨ i = 5 ∨ i = 6 ∨ i = 7 := by omega
   rcases this with rfl | rfl | rfl | rfl | rfl | rfl | rfl | rfl <;> rfl
  exact ⟨P1, M, P2, k1, k2, by rw [e]; exact k3, k4⟩
 have at0 : Hid (SerR Z (cosW.drop 0) P) := hP
 have at8 : Hid (SerR Z (cosW.drop 8) (0, 0)) := rfl
 have hsn := ufac_store L0 len
 have hfl : (flV L0).length = L0.length := flV_len L0
 rw [len] at hfl
 rw [← hL] at F
 have C0 : Cls w [(w.heap.size, Z.1, Z.2), (w.heap.size + 1, 0, 0)] ((w.alloc (boxO Z.1 Z.2)).alloc (boxO 0 0)) := by
  have := ((Cls.nil w).new Z.1 Z.2).new 0 0
  simp only [List.nil_append, List.cons_append] at this
  rw [show (w.alloc (boxO Z.1 Z.2)).heap.size = w.heap.size + 1 by simp] at this
  exact this
 have hst := @fstore
 generalize hW : cosW = W at *
 obtain ⟨z1, z2⟩ := Z
 dsimp only at *
 clear hL hW hP
 unfold boxO at C0
 have epz : pv (z1, z2) = .agg #[.float .f64 z1, .float .f64 z2] := rfl
 rw [epz]
 replace C0 := Lib.hid C0
 replace len := Lib.hid len
 replace hz := Lib.hid hz
 clear epz
 go_enter Tryz.func184, Tryz.ntmps184
 go_wp2_with fail
 have C := C0.out
 clear C0
 generalize (w.alloc _).alloc _ = wr at *
 refine (F.out wr).mono ?_
 rintro _ w1 ⟨rfl, hb1⟩
 have C1 := C.on hb1
 have ba : Below w1.heap.size w1 (w1.alloc (.cells (flV L0).toArray 132)) := (Below.refl _ w1).alloc (Nat.le_refl _) _
 have R : Arr (w1.alloc (.cells (flV L0).toArray 132)) w1.heap.size L0 := ⟨by simp, fun i hi => fl_at (range_alloc w1 (flV L0) 132) i hi⟩
 have gne : Hid (w1.heap.size ≠ (w1.alloc (.cells (flV L0).toArray 132)).heap.size) := by show _ ≠ _; simp
 have C2 := C1.on ba
 have C3 := C2.new 0 0
 have R3 := R.on ((Below.refl _ _).alloc (Nat.le_refl _) (boxO 0 0))
 unfold boxO at C3 R3
 simp only [List.cons_append, List.nil_append] at C3
 replace C3 := Lib.hid C3
 replace R3 := Lib.hid R3
 clear C C1 C2 R ba hb1 F
 go_wp2_with fail
 rw [show (w1.alloc (.cells (flV L0).toArray 132)).heap.size = w1.heap.size + 1 by simp] at C3
 clear gne hsn hfl hst
 generalize (w1.alloc _).alloc _ = wq at *
 generalize w1.heap.size = g at *
 go_loopw [10] (fun s10 wr => ∃ (i : Nat) (P1 : Pr), i ≤ 8 ∧ s10 = .int .i64 i ∧ SerR (z1, z2) (W.drop (8 - i)) P1 ∧ Cls w [(w.heap.size, z1, z2), (w.heap.size + 1, 0, 0), (g + 1, P1.1, P1.2)] wr ∧ Arr wr g L0) (fun s10 _ => 8 - (intOf s10).toNat)
 case atStart => exact ⟨0, (0, 0), by omega, rfl, at8.out, C3.out, R3.out⟩
 case round =>
  obtain ⟨i, P1, hi, rfl, hS, hC, hR⟩ := hrel
  by_cases hlt : i < 8
  · obtain ⟨P1', M, P2, k1, k2, k3, k4⟩ := step.out i hlt
    obtain rfl := hS.uniq k1
    have ha := lt.out (16 - 2 * i)
    have hk : 16 - 2 * i < L0.length := by have := len.out; omega
    have hp := ser_lt k1
    have hm := mul_lt k2
    have k4 := Lib.hid k4
    replace hC := Lib.hid hC
    replace hR := Lib.hid hR
    replace k2 := Lib.hid k2
    replace k3 := Lib.hid k3
    replace hp := Lib.hid hp
    replace hm := Lib.hid hm
    replace ha := Lib.hid ha
    replace hk := Lib.hid hk
    clear hS k1 step at0
    go_upto_region 6 with fail
    generalize hds : ([some 13, some 14, some 15, some 16, some 17, some 18, some 19, some 20, some 21, some 22, some 23, none] : List (Option Tmp)) = ds
    have hap : apartL ds = true := by rw [← hds]; decide
    have hds := hds.symm
    refine wp_region_sts [(w.heap.size, z1, z2), (w.heap.size + 1, 0, 0), (g + 1, P2.1, P2.2)] [⟨11, 2, g + 1, P2.1, P2.2⟩] [.int .i64 16, .int .i64 i, .int .i64 (2 * (i : Int)), .int .i64 (16 - 2 * (i : Int)), .pointer (some ⟨g, 16 - 2 * i, none⟩), .float .f64 (L0.getD (16 - 2 * i) 0), pv (facS (L0.getD (16 - 2 * i) 0)), pv (z1, z2), pv P1, pv M, pv P2, undef]
        ds (by kernel_rfl) (by rw [hds]; rfl) hap (by decide +kernel) (by decide +kernel) rfl hC.out ?hE2 ?hE3 ?hj ?hi ?his (fun W => Arr W g L0) hR.out.drew (fun _ _ A h => A.on h) ?hJs ?step ?store ?fin
    case hE2 =>
        intro j h
        have n0 : 2 ≠ j := h _ qh0
        rcases j with _ | _ | _ | j <;> first | rfl | exact absurd rfl n0
    case hE3 => intro st h; rcases List.mem_singleton.1 h with rfl <;> rfl
    case hj => intro st h; rcases List.mem_singleton.1 h with rfl <;> exact ⟨_, _, rfl⟩
    case hi => intro st h st' h' _; rcases List.mem_singleton.1 h with rfl; rcases List.mem_singleton.1 h' with rfl; rfl
    case his => intro st h; rcases List.mem_singleton.1 h with rfl
                · show 11 < 12; decide
    case hJs => intro st h W A; obtain rfl := List.mem_singleton.1 h; exact A.put (by show g ≠ g + 1; omega)
    case step =>
        intro L W i o ho hs hd hB hJ
        rcases (ql12 (Array.getElem?_eq_some_iff.1 ho).1) with rfl | rfl | rfl | rfl | rfl | rfl | rfl | rfl | rfl | rfl | rfl | rfl
        · obtain rfl := qsj ho
          refine qvr fun ρ hA => ?_
          have h0 : ρ (.tmp 0) = .int .i64 16 := (qpn hA (by rw [hds]; decide)).trans rfl
          exact ex_move W rfl h0
        · obtain rfl := qsj ho
          refine qvr fun ρ hA => ?_
          have h0 : ρ (.tmp 7) = .int .i64 i := (qpn hA (by rw [hds]; decide)).trans rfl
          exact ex_move W rfl h0
        · obtain rfl := qsj ho
          refine qvr fun ρ hA => ?_
          have hc := qrc hA
          have h0 : ρ (.tmp 14) = .int .i64 i := qpe 1 hA hap (by rw [hds]; rfl) (hd 1 (by decide +kernel)) (show 14 < 26 by decide)
          have e : IntKind.i64.wrap (2 * (i : Int)) = 2 * (i : Int) := by rw [IntKind.wrap_i64]; omega
          unfold execOp; go_simp
        · obtain rfl := qsj ho
          refine qvr fun ρ hA => ?_
          have hc := qrc hA
          have h0 : ρ (.tmp 13) = .int .i64 16 := qpe 0 hA hap (by rw [hds]; rfl) (hd 0 (by decide +kernel)) (show 13 < 26 by decide)
          have h1 : ρ (.tmp 15) = .int .i64 (2 * (i : Int)) := qpe 2 hA hap (by rw [hds]; rfl) (hd 2 (by decide +kernel)) (show 15 < 26 by decide)
          have e : IntKind.i64.wrap (16 - 2 * (i : Int)) = 16 - 2 * (i : Int) := by rw [IntKind.wrap_i64]; omega
          unfold execOp; go_simp
        · obtain rfl := qsj ho
          refine qvr fun ρ hA => ?_
          have hc := qrc hA
          have h0 : ρ (.tmp 5) = .pointer (some ⟨g, 0, none⟩) := (qpn hA (by rw [hds]; decide)).trans rfl
          have h1 : ρ (.tmp 16) = .int .i64 (16 - 2 * (i : Int)) := qpe 3 hA hap (by rw [hds]; rfl) (hd 3 (by decide +kernel)) (show 16 < 26 by decide)
          have e1 : 2 * (i : Int) ≤ 16 := by omega
          have e2 : 16 - 2 * (i : Int) < 18 := by omega
          have e3 : (16 - 2 * (i : Int)).toNat = 16 - 2 * i := by omega
          unfold execOp; go_simp
        · obtain rfl := qsj ho
          refine qvr fun ρ hA => ?_
          have hc := qrc hA
          have h0 : ρ (.tmp 17) = .pointer (some ⟨g, 16 - 2 * i, none⟩) := qpe 4 hA hap (by rw [hds]; rfl) (hd 4 (by decide +kernel)) (show 17 < 26 by decide)
          have c := hJ.at_ _ hk.out
          unfold execOp; go_simp
        · obtain rfl := qsj ho
          refine .call 196 #[.float .f64 (L0.getD (16 - 2 * i) 0)] ?_ (uabout_run ha.out W)
          generalize hA : (puts ds L _).eval = ρ
          have hc := qrc hA
          have hg := qrg hA
          have h0 : ρ (.tmp 18) = .float .f64 (L0.getD (16 - 2 * i) 0) := qpe 5 hA hap (by rw [hds]; rfl) (hd 5 (by decide +kernel)) (show 18 < 26 by decide)
          have hf := Tryz.func196
          unfold execOp; go_simp
        · obtain rfl := qsj ho
          have b := hB 0 _ _ _ rfl (qns rfl)
          refine qvr fun ρ hA => ?_
          have h0 : ρ (.tmp 3) = .pointer (some ⟨w.heap.size, 0, none⟩) := (qpn hA (by rw [hds]; decide)).trans rfl
          exact ex_loads rfl h0 b.lo b.hi
        · obtain rfl := qsj ho
          have b := hB 2 _ _ _ rfl (by
           intro st hst e
           simp only [List.mem_cons, List.not_mem_nil, or_false] at hst
           rcases hst with rfl
           · change needs _ _ 11 8 = true; decide +kernel)
          refine qvr fun ρ hA => ?_
          have h0 : ρ (.tmp 6) = .pointer (some ⟨g + 1, 0, none⟩) := (qpn hA (by rw [hds]; decide)).trans rfl
          exact ex_loads rfl h0 b.lo b.hi
        · obtain rfl := qsj ho
          refine .call 182 #[pv (z1, z2), pv P1] ?_ (umul_run hz.out.1 hz.out.2 hp.out.1 hp.out.2 k2.out W)
          generalize hA : (puts ds L _).eval = ρ
          have hc := qrc hA
          have hg := qrg hA
          have h0 : ρ (.tmp 20) = pv (z1, z2) := qpe 7 hA hap (by rw [hds]; rfl) (hd 7 (by decide +kernel)) (show 20 < 26 by decide)
          have h1 : ρ (.tmp 21) = pv P1 := qpe 8 hA hap (by rw [hds]; rfl) (hd 8 (by decide +kernel)) (show 21 < 26 by decide)
          have hf := Tryz.func182
          unfold execOp; go_simp
        · obtain rfl := qsj ho
          refine .call 183 #[pv (facS (L0.getD (16 - 2 * i) 0)), pv M] ?_ (uadd_run (facS_lt ha.out).1 (facS_lt ha.out).2 hm.out.1 hm.out.2 k3.out W)
          generalize hA : (puts ds L _).eval = ρ
          have hc := qrc hA
          have hg := qrg hA
          have h0 : ρ (.tmp 19) = pv (facS (L0.getD (16 - 2 * i) 0)) := qpe 6 hA hap (by rw [hds]; rfl) (hd 6 (by decide +kernel)) (show 19 < 26 by decide)
          have h1 : ρ (.tmp 22) = pv M := qpe 9 hA hap (by rw [hds]; rfl) (hd 9 (by decide +kernel)) (show 22 < 26 by decide)
          have hf := Tryz.func183
          unfold execOp; go_simp
        · exact absurd rfl (hs _ qh0)
    case store =>
        intro st hst L W o x y ho hd b
        generalize hA : (puts ds L _).eval = ρ
        simp only [List.mem_cons, List.not_mem_nil, or_false] at hst
        rcases hst with rfl
        · dsimp only at ho b ⊢
          obtain rfl := qsj ho
          have h0 : ρ (.tmp 6) = .pointer (some ⟨g + 1, 0, none⟩) := (qpn hA (by rw [hds]; decide)).trans rfl
          have h1 : ρ (.tmp 23) = pv P2 := qpe 10 hA hap (by rw [hds]; rfl) (hd 10 (by decide +kernel)) (show 23 < 26 by decide)
          exact ⟨ex_store rfl h0 h1 b.lo b.hi b.f0 b.f1, rfl⟩
    case fin =>
        intro w' hC' hR'
        rw [hds]
        clear hds hap k2 k3 hp hm ha hk hR hC lt
        simp only [List.map_cons, List.map_nil, puts, Act.put, List.setIfInBounds_toArray, List.set_cons_zero, List.set_cons_succ]
        go_wp2_with fail
        have e8 : 8 - (i + 1) = 7 - i := by omega
        refine ⟨⟨i + 1, P2, by omega, by simp, ?_, hC', hR'⟩, by simp only [intOf]; omega⟩
        rw [e8]; exact k4.out
  · obtain rfl : i = 8 := by omega
    obtain rfl := hS.uniq at0.out
    have c0 := (hC.at_ 2 rfl).lo
    have c1 := (hC.at_ 2 rfl).hi
    have d0 := (hC.at_ 1 rfl).lo
    have d1 := (hC.at_ 1 rfl).hi
    have f0 := (hC.at_ 1 rfl).f0
    have f1 := (hC.at_ 1 rfl).f1
    have B := Lib.hid hC.old
    have hst := @fstore
    obtain ⟨x1, x2⟩ := P1
    dsimp only at c0 c1
    clear hC hR hS at0 at8 step C3 R3
    go_wp2_with fail
    (try simp only [Exit.inBlock, Exit.then])
    refine bodyPost_ret (v := spanV x1 x2) ?_ rfl ⟨rfl, ?_⟩
    · rw [results_cell1 rfl]; unfold spanV; go_simp
    · exact (B.out.setCell (by show _ ≤ w.heap.size + 1; omega) _).setCell (by show _ ≤ w.heap.size + 1; omega) _

theorem results_cells2 {fn : Func} {p q : Tmp} {ty tz : TypeId} (h : fn.results = #[.cell p ty, .cell q tz]) (tmps : Array Value) (P : Program) (w : World) :
 (results fn tmps).run P w = ((asAddr (tmps.getD p undef)).run P w).andThen fun a w₁ => ((loadVar ty a).run P w₁).andThen fun x w₂ => ((asAddr (tmps.getD q undef)).run P w₂).andThen fun b w₃ => ((loadVar tz b).run P w₃).andThen fun y w₄ => .ok (.tuple #[x, y]) w₄ := by
 simp only [results, h]
 simp [Sem.run_bind, Result.andThen]
theorem results_cells2t {fn : Func} {p q u : Tmp} {ty tz : TypeId} (h : fn.results = #[.cell p ty, .cell q tz, .tmp u]) (tmps : Array Value) (P : Program) (w : World) :
 (results fn tmps).run P w = ((asAddr (tmps.getD p undef)).run P w).andThen fun a w₁ => ((loadVar ty a).run P w₁).andThen fun x w₂ => ((asAddr (tmps.getD q undef)).run P w₂).andThen fun b w₃ => ((loadVar tz b).run P w₃).andThen fun y w₄ => .ok (.tuple #[x, y, tmps.getD u undef]) w₄ := by
 simp only [results, h]
 simp [Sem.run_bind, Result.andThen]

theorem usure_run {r : Nat} {Y Z P M N W1 S P2 M2 W2 C : Pr} (hr : r < 18446744073709551616) (U : Sur r Y Z P M N W1 S P2 M2 W2 C) (B : SurB Y Z P M N W1 S P2 M2 W2 C) (w : World) :
 Calls Tryz.prog 153 #[.float .f64 r] w fun e w' => e = .returned (.tuple #[pv S, pv C]) ∧ Below w.heap.size w w' := by
 have SM := Lib.hid (fun w => umul_run (p := (r, r)) hr hr sn_tau.l1 sn_tau.l2 U.y w)
 have SZ := Lib.hid (fun w => (ssquare_run Y.1 Y.2 B.y.l1 B.y.l2 w).mono fun e w' h => (⟨OpAll.uniq h.1 U.z, h.2⟩ : e = .returned (spanE Z.1 Z.2 0) ∧ Below w.heap.size w w'))
 have NX := Lib.hid (fun w => next_any 4618760256179416344 (by decide) w)
 have C0 : Cls w [(w.heap.size, 0, 0), (w.heap.size + 1, 0, 0)] ((w.alloc (boxO 0 0)).alloc (boxO 0 0)) := by
  have := ((Cls.nil w).new 0 0).new 0 0
  simp only [List.nil_append, List.cons_append] at this
  rw [show (w.alloc (boxO 0 0)).heap.size = w.heap.size + 1 by simp] at this
  exact this
 have hst := @fstore
 have tauE : pv tauS = .agg #[.float .f64 4618760256179416344, .float .f64 (nextW 4618760256179416344)] := rfl
 rw [tauE] at SM
 have rE : pv (r, r) = .agg #[.float .f64 r, .float .f64 r] := rfl
 rw [rE] at SM
 unfold boxO at C0
 unfold spanE spanV at SZ
 have yE : pv Y = .agg #[.float .f64 Y.1, .float .f64 Y.2] := rfl
 rw [yE] at SM
 replace C0 := Lib.hid C0
 replace U := Lib.hid U
 replace B := Lib.hid B
 clear tauE rE yE hr
 generalize nextW 4618760256179416344 = tn at *
 go_enter Tryz.func153, Tryz.ntmps153
 go_wp2_with (go_at_call 103; ((with_reducible refine (NX.out _).mono ?_); rintro e w' ⟨rfl, rfl⟩))
 have C := C0.out
 clear C0 NX
 generalize (w.alloc _).alloc _ = wr at *
 refine (SM.out wr).mono ?_
 rintro _ w1 ⟨rfl, hb⟩
 have C1 := (C.on hb).new Y.1 Y.2
 unfold boxO at C1
 simp only [List.cons_append, List.nil_append] at C1
 have d0 := (C1.at_ 2 rfl).lo
 have d1 := (C1.at_ 2 rfl).hi
 replace C1 := Lib.hid C1
 clear C hb SM
 go_wp2_with fail
 have C1 := C1.out
 clear d0 d1
 generalize w1.alloc _ = wq at *
 generalize w1.heap.size = gy at *
 refine (SZ.out wq).mono ?_
 rintro _ w2 ⟨rfl, hb⟩
 have C2 := (C1.on hb).new Z.1 Z.2
 unfold boxO at C2
 simp only [List.cons_append, List.nil_append] at C2
 replace C2 := Lib.hid C2
 clear C1 hb SZ
 go_upto_region 3 with fail
 have C2 := C2.out
 generalize w2.alloc _ = wp at *
 generalize w2.heap.size = gz at *
 generalize hn : w.heap.size = n at *
 replace hn := Lib.hid hn
 have U := U.out
 have B := B.out
 generalize hds : ([some 20, some 21, some 22, some 23, some 24, some 25, some 26, some 27, some 7, none] : List (Option Tmp)) = ds
 have hap : apartL ds = true := by rw [← hds]; decide
 replace hds := hds.symm
 refine wp_region_var 8 9 W1.1 W1.2 [pv Y, pv Y, pv Z, pv Z, pv P, pv M, pv N, pv W1, undef, undef]
  ds (by kernel_rfl) (by rw [hds]; rfl) hap (by decide +kernel) (by decide +kernel) rfl C2 (by decide +kernel) (by decide) (by decide) ?alloc ?step ?store ?fin
 case alloc => intro o ho; obtain rfl := qsj ho; rfl
 case step =>
  intro L W i o ho hia his hd hB
  rcases (ql10 (Array.getElem?_eq_some_iff.1 ho).1) with rfl | rfl | rfl | rfl | rfl | rfl | rfl | rfl | rfl | rfl
  · obtain rfl := qsj ho
    have b := hB 2 _ _ _ rfl
    refine qvr fun ρ hA => ?_
    have h0 : ρ (.tmp 4) = .pointer (some ⟨gy, 0, none⟩) := (qpn hA (by rw [hds]; decide)).trans rfl
    exact ex_loads rfl h0 b.lo b.hi
  · obtain rfl := qsj ho
    have b := hB 2 _ _ _ rfl
    refine qvr fun ρ hA => ?_
    have h0 : ρ (.tmp 4) = .pointer (some ⟨gy, 0, none⟩) := (qpn hA (by rw [hds]; decide)).trans rfl
    exact ex_loads rfl h0 b.lo b.hi
  · obtain rfl := qsj ho
    have b := hB 3 _ _ _ rfl
    refine qvr fun ρ hA => ?_
    have h0 : ρ (.tmp 5) = .pointer (some ⟨gz, 0, none⟩) := (qpn hA (by rw [hds]; decide)).trans rfl
    exact ex_loads rfl h0 b.lo b.hi
  · obtain rfl := qsj ho
    have b := hB 3 _ _ _ rfl
    refine qvr fun ρ hA => ?_
    have h0 : ρ (.tmp 5) = .pointer (some ⟨gz, 0, none⟩) := (qpn hA (by rw [hds]; decide)).trans rfl
    exact ex_loads rfl h0 b.lo b.hi
  · obtain rfl := qsj ho
    refine .call 184 #[.int .i64 17, pv Z] ?_ (uss17 ⟨B.z.l1, B.z.l2⟩ U.p W)
    generalize hA : (puts ds L _).eval = ρ
    have hc := qrc hA
    have hg := qrg hA
    have h0 : ρ (.tmp 23) = pv Z := qpe 3 hA hap (by rw [hds]; rfl) (hd 3 (by decide +kernel) (by decide)) (show 23 < 40 by decide)
    have hf := Tryz.func184
    unfold execOp; go_simp
  · obtain rfl := qsj ho
    refine .call 182 #[pv Z, pv P] ?_ (umul_run B.z.l1 B.z.l2 B.p.l1 B.p.l2 U.m W)
    generalize hA : (puts ds L _).eval = ρ
    have hc := qrc hA
    have hg := qrg hA
    have h0 : ρ (.tmp 22) = pv Z := qpe 2 hA hap (by rw [hds]; rfl) (hd 2 (by decide +kernel) (by decide)) (show 22 < 40 by decide)
    have h1 : ρ (.tmp 24) = pv P := qpe 4 hA hap (by rw [hds]; rfl) (hd 4 (by decide +kernel) (by decide)) (show 24 < 40 by decide)
    have hf := Tryz.func182
    unfold execOp; go_simp
  · obtain rfl := qsj ho
    refine .call 182 #[pv Y, pv M] ?_ (umul_run B.y.l1 B.y.l2 B.m.l1 B.m.l2 U.n W)
    generalize hA : (puts ds L _).eval = ρ
    have hc := qrc hA
    have hg := qrg hA
    have h0 : ρ (.tmp 21) = pv Y := qpe 1 hA hap (by rw [hds]; rfl) (hd 1 (by decide +kernel) (by decide)) (show 21 < 40 by decide)
    have h1 : ρ (.tmp 25) = pv M := qpe 5 hA hap (by rw [hds]; rfl) (hd 5 (by decide +kernel) (by decide)) (show 25 < 40 by decide)
    have hf := Tryz.func182
    unfold execOp; go_simp
  · obtain rfl := qsj ho
    refine .call 183 #[pv Y, pv N] ?_ (uadd_run B.y.l1 B.y.l2 B.n.l1 B.n.l2 U.w W)
    generalize hA : (puts ds L _).eval = ρ
    have hc := qrc hA
    have hg := qrg hA
    have h0 : ρ (.tmp 20) = pv Y := qpe 0 hA hap (by rw [hds]; rfl) (hd 0 (by decide +kernel) (by decide)) (show 20 < 40 by decide)
    have h1 : ρ (.tmp 26) = pv N := qpe 6 hA hap (by rw [hds]; rfl) (hd 6 (by decide +kernel) (by decide)) (show 26 < 40 by decide)
    have hf := Tryz.func183
    unfold execOp; go_simp
  · exact absurd rfl hia
  · exact absurd rfl his
 case store =>
  intro L W o h x y ho hd hl b
  generalize hA : (puts ds L _).eval = ρ
  obtain rfl := qsj ho
  have h0 : ρ (.tmp 7) = .pointer (some ⟨h, 0, none⟩) := qpe 8 hA hap (by rw [hds]; rfl) hl (show 7 < 40 by decide)
  have h1 : ρ (.tmp 27) = pv W1 := qpe 7 hA hap (by rw [hds]; rfl) (hd 7 (by decide +kernel) (by decide)) (show 27 < 40 by decide)
  exact ⟨ex_store rfl h0 h1 b.lo b.hi b.f0 b.f1, rfl⟩
 case fin =>
  intro h3 w3 C3
  rw [hds]
  clear hds hap C2 ds
  simp only [List.cons_append, List.nil_append] at C3
  replace U := Lib.hid U
  replace B := Lib.hid B
  replace C3 := Lib.hid C3
  simp only [List.map_cons, List.map_nil, List.set_cons_zero, List.set_cons_succ, puts, Act.put, List.setIfInBounds_toArray]
  go_upto_region 4 with fail
  have U := U.out
  have B := B.out
  have C3 := C3.out
  generalize hds : ([some 28, some 29, some 30, some 31, some 32, some 33, some 8, none] : List (Option Tmp)) = ds
  have hap : apartL ds = true := by rw [← hds]; decide
  replace hds := hds.symm
  refine wp_region_var 6 7 W2.1 W2.2 [pv oneS, pv Z, pv Z, pv P2, pv M2, pv W2, undef, undef]
   ds (by kernel_rfl) (by rw [hds]; rfl) hap (by decide +kernel) (by decide +kernel) rfl C3 (by decide +kernel) (by decide) (by decide) ?alloc ?step ?store ?fin
  case alloc => intro o ho; obtain rfl := qsj ho; rfl
  case step =>
   intro L W i o ho hia his hd hB
   rcases (ql8 (Array.getElem?_eq_some_iff.1 ho).1) with rfl | rfl | rfl | rfl | rfl | rfl | rfl | rfl
   · obtain rfl := qsj ho
     refine qvr fun ρ hA => ?_
     have hc := qrc hA
     unfold execOp; go_simp
     rfl
   · obtain rfl := qsj ho
     have b := hB 3 _ _ _ rfl
     refine qvr fun ρ hA => ?_
     have h0 : ρ (.tmp 5) = .pointer (some ⟨gz, 0, none⟩) := (qpn hA (by rw [hds]; decide)).trans rfl
     exact ex_loads rfl h0 b.lo b.hi
   · obtain rfl := qsj ho
     have b := hB 3 _ _ _ rfl
     refine qvr fun ρ hA => ?_
     have h0 : ρ (.tmp 5) = .pointer (some ⟨gz, 0, none⟩) := (qpn hA (by rw [hds]; decide)).trans rfl
     exact ex_loads rfl h0 b.lo b.hi
   · obtain rfl := qsj ho
     refine .call 184 #[.int .i64 16, pv Z] ?_ (uss16 ⟨B.z.l1, B.z.l2⟩ U.p2 W)
     generalize hA : (puts ds L _).eval = ρ
     have hc := qrc hA
     have hg := qrg hA
     have h0 : ρ (.tmp 30) = pv Z := qpe 2 hA hap (by rw [hds]; rfl) (hd 2 (by decide +kernel) (by decide)) (show 30 < 40 by decide)
     have hf := Tryz.func184
     unfold execOp; go_simp
   · obtain rfl := qsj ho
     refine .call 182 #[pv Z, pv P2] ?_ (umul_run B.z.l1 B.z.l2 B.p2.l1 B.p2.l2 U.m2 W)
     generalize hA : (puts ds L _).eval = ρ
     have hc := qrc hA
     have hg := qrg hA
     have h0 : ρ (.tmp 29) = pv Z := qpe 1 hA hap (by rw [hds]; rfl) (hd 1 (by decide +kernel) (by decide)) (show 29 < 40 by decide)
     have h1 : ρ (.tmp 31) = pv P2 := qpe 3 hA hap (by rw [hds]; rfl) (hd 3 (by decide +kernel) (by decide)) (show 31 < 40 by decide)
     have hf := Tryz.func182
     unfold execOp; go_simp
   · obtain rfl := qsj ho
     refine .call 183 #[pv oneS, pv M2] ?_ (uadd_run sn_one.l1 sn_one.l2 B.m2.l1 B.m2.l2 U.w2 W)
     generalize hA : (puts ds L _).eval = ρ
     have hc := qrc hA
     have hg := qrg hA
     have h0 : ρ (.tmp 28) = pv oneS := qpe 0 hA hap (by rw [hds]; rfl) (hd 0 (by decide +kernel) (by decide)) (show 28 < 40 by decide)
     have h1 : ρ (.tmp 32) = pv M2 := qpe 4 hA hap (by rw [hds]; rfl) (hd 4 (by decide +kernel) (by decide)) (show 32 < 40 by decide)
     have hf := Tryz.func183
     unfold execOp; go_simp
   · exact absurd rfl hia
   · exact absurd rfl his
  case store =>
   intro L W o h x y ho hd hl b
   generalize hA : (puts ds L _).eval = ρ
   obtain rfl := qsj ho
   have h0 : ρ (.tmp 8) = .pointer (some ⟨h, 0, none⟩) := qpe 6 hA hap (by rw [hds]; rfl) hl (show 8 < 40 by decide)
   have h1 : ρ (.tmp 33) = pv W2 := qpe 5 hA hap (by rw [hds]; rfl) (hd 5 (by decide +kernel) (by decide)) (show 33 < 40 by decide)
   exact ⟨ex_store rfl h0 h1 b.lo b.hi b.f0 b.f1, rfl⟩
  case fin =>
   intro h4 w4 C4
   rw [hds]
   clear hds hap C3 ds
   simp only [List.cons_append, List.nil_append] at C4
   replace U := Lib.hid U
   replace B := Lib.hid B
   replace C4 := Lib.hid C4
   simp only [List.map_cons, List.map_nil, List.set_cons_zero, List.set_cons_succ, puts, Act.put, List.setIfInBounds_toArray]
   go_upto_region 5 with fail
   have U := U.out
   have B := B.out
   have C4 := C4.out
   generalize hds : ([some 34, some 35, some 36, some 37, some 38, some 39, none, none] : List (Option Tmp)) = ds
   have hap : apartL ds = true := by rw [← hds]; decide
   replace hds := hds.symm
   refine wp_region_sts [(n, S.1, S.2), (n + 1, C.1, C.2), (gy, Y.1, Y.2), (gz, Z.1, Z.2), (h3, W1.1, W1.2), (h4, W2.1, W2.2)] [⟨6, 0, n, S.1, S.2⟩, ⟨7, 1, n + 1, C.1, C.2⟩] [pv W1, pv epsS, pv S, pv W2, pv epsC, pv C, undef, undef]
        ds (by kernel_rfl) (by rw [hds]; rfl) hap (by decide +kernel) (by decide +kernel) rfl C4 ?hE2 ?hE3 ?hj ?hi ?his (fun _ => True) trivial (fun _ _ _ _ => trivial) (fun _ _ _ _ => trivial) ?step ?store ?fin
   case hE2 =>
        intro j h
        have n0 : 0 ≠ j := h _ qh0
        have n1 : 1 ≠ j := h _ qh1
        rcases j with _ | _ | _ | _ | _ | _ | j <;> first | rfl | exact absurd rfl n0 | exact absurd rfl n1
   case hE3 => intro st h; rcases qm2 h with rfl | rfl <;> rfl
   case hj => intro st h; rcases qm2 h with rfl | rfl <;> exact ⟨_, _, rfl⟩
   case hi =>
        intro st h st' h' e
        rcases qm2 h with rfl | rfl <;> (rcases qm2 h' with rfl | rfl) <;> first | rfl | (exfalso; revert e; simp)
   case his => intro st h; rcases qm2 h with rfl | rfl
               · show 6 < 8; decide
               · show 7 < 8; decide
   case step =>
        intro L W i o ho hs hd hB hJ
        rcases (ql8 (Array.getElem?_eq_some_iff.1 ho).1) with rfl | rfl | rfl | rfl | rfl | rfl | rfl | rfl
        · obtain rfl := qsj ho
          have b := hB 4 _ _ _ rfl (by
           intro st hst e
           simp only [List.mem_cons, List.not_mem_nil, or_false] at hst
           rcases hst with rfl | rfl
           · exact qnd e rfl
           · exact qnd e rfl)
          refine qvr fun ρ hA => ?_
          have h0 : ρ (.tmp 7) = .pointer (some ⟨h3, 0, none⟩) := (qpn hA (by rw [hds]; decide)).trans rfl
          exact ex_loads rfl h0 b.lo b.hi
        · obtain rfl := qsj ho
          refine qvr fun ρ hA => ?_
          have hc := qrc hA
          unfold execOp; go_simp
          rfl
        · obtain rfl := qsj ho
          refine .call 183 #[pv W1, pv epsS] ?_ (uadd_run B.w.l1 B.w.l2 sn_epsS.l1 sn_epsS.l2 U.s W)
          generalize hA : (puts ds L _).eval = ρ
          have hc := qrc hA
          have hg := qrg hA
          have h0 : ρ (.tmp 34) = pv W1 := qpe 0 hA hap (by rw [hds]; rfl) (hd 0 (by decide +kernel)) (show 34 < 40 by decide)
          have h1 : ρ (.tmp 35) = pv epsS := qpe 1 hA hap (by rw [hds]; rfl) (hd 1 (by decide +kernel)) (show 35 < 40 by decide)
          have hf := Tryz.func183
          unfold execOp; go_simp
        · obtain rfl := qsj ho
          have b := hB 5 _ _ _ rfl (by
           intro st hst e
           simp only [List.mem_cons, List.not_mem_nil, or_false] at hst
           rcases hst with rfl | rfl
           · exact qnd e rfl
           · exact qnd e rfl)
          refine qvr fun ρ hA => ?_
          have h0 : ρ (.tmp 8) = .pointer (some ⟨h4, 0, none⟩) := (qpn hA (by rw [hds]; decide)).trans rfl
          exact ex_loads rfl h0 b.lo b.hi
        · obtain rfl := qsj ho
          refine qvr fun ρ hA => ?_
          have hc := qrc hA
          unfold execOp; go_simp
          rfl
        · obtain rfl := qsj ho
          refine .call 183 #[pv W2, pv epsC] ?_ (uadd_run B.w2.l1 B.w2.l2 sn_epsC.l1 sn_epsC.l2 U.c W)
          generalize hA : (puts ds L _).eval = ρ
          have hc := qrc hA
          have hg := qrg hA
          have h0 : ρ (.tmp 37) = pv W2 := qpe 3 hA hap (by rw [hds]; rfl) (hd 3 (by decide +kernel)) (show 37 < 40 by decide)
          have h1 : ρ (.tmp 38) = pv epsC := qpe 4 hA hap (by rw [hds]; rfl) (hd 4 (by decide +kernel)) (show 38 < 40 by decide)
          have hf := Tryz.func183
          unfold execOp; go_simp
        · exact absurd rfl (hs _ qh0)
        · exact absurd rfl (hs _ qh1)
   case store =>
        intro st hst L W o x y ho hd b
        generalize hA : (puts ds L _).eval = ρ
        simp only [List.mem_cons, List.not_mem_nil, or_false] at hst
        rcases hst with rfl | rfl
        · dsimp only at ho b ⊢
          obtain rfl := qsj ho
          have h0 : ρ (.tmp 2) = .pointer (some ⟨n, 0, none⟩) := (qpn hA (by rw [hds]; decide)).trans rfl
          have h1 : ρ (.tmp 36) = pv S := qpe 2 hA hap (by rw [hds]; rfl) (hd 2 (by decide +kernel)) (show 36 < 40 by decide)
          exact ⟨ex_store rfl h0 h1 b.lo b.hi b.f0 b.f1, rfl⟩
        · dsimp only at ho b ⊢
          obtain rfl := qsj ho
          have h0 : ρ (.tmp 3) = .pointer (some ⟨n + 1, 0, none⟩) := (qpn hA (by rw [hds]; decide)).trans rfl
          have h1 : ρ (.tmp 39) = pv C := qpe 5 hA hap (by rw [hds]; rfl) (hd 5 (by decide +kernel)) (show 39 < 40 by decide)
          exact ⟨ex_store rfl h0 h1 b.lo b.hi b.f0 b.f1, rfl⟩
   case fin =>
        intro w5 C5 _
        rw [hds]
        clear hds hap C4 ds U B
        obtain ⟨s1, s2⟩ := S
        obtain ⟨c1, c2⟩ := C
        have l0 := (C5.at_ 0 rfl).lo
        have l1 := (C5.at_ 0 rfl).hi
        have m0 := (C5.at_ 1 rfl).lo
        have m1 := (C5.at_ 1 rfl).hi
        have O := Lib.hid C5.old
        dsimp only at l0 l1 m0 m1
        clear C5
        simp only [List.map_cons, List.map_nil, List.set_cons_zero, List.set_cons_succ, puts, Act.put, List.setIfInBounds_toArray]
        go_wp2_with fail
        (try simp only [Exit.inBlock, Exit.then])
        refine bodyPost_ret (v := .tuple #[spanV s1 s2, spanV c1 c2]) ?_ rfl ⟨rfl, ?_⟩
        · rw [results_cells2 rfl]; unfold spanV; go_simp
        · exact O.out

theorem ubys_run {S C nS nC : Pr} (S1 : S.1 < 18446744073709551616 ∧ S.2 < 18446744073709551616) (C1 : C.1 < 18446744073709551616 ∧ C.2 < 18446744073709551616) (N1 : NegR S nS) (N2 : NegR C nC) (k : Int) (hk : 0 ≤ k ∧ k < 4) (w : World) :
 Calls Tryz.prog 154 #[.int .i64 k, pv S, pv C, .func (.func 155) #[] #[]] w fun e w' => e = .returned (.tuple #[pv (qsP k S C nS nC), pv (qcP k S C nS nC)]) ∧ Below w.heap.size w w' := by
 have C0 : Cls w [(w.heap.size, S.1, S.2), (w.heap.size + 1, C.1, C.2), (w.heap.size + 1 + 1, 0, 0), (w.heap.size + 1 + 1 + 1, 0, 0)] ((((w.alloc (boxO S.1 S.2)).alloc (boxO C.1 C.2)).alloc (boxO 0 0)).alloc (boxO 0 0)) := by
  have := ((((Cls.nil w).new S.1 S.2).new C.1 C.2).new 0 0).new 0 0
  simp only [List.nil_append, List.cons_append] at this
  rw [show (w.alloc (boxO S.1 S.2)).heap.size = w.heap.size + 1 by simp, show ((w.alloc (boxO S.1 S.2)).alloc (boxO C.1 C.2)).heap.size = w.heap.size + 1 + 1 by simp, show (((w.alloc (boxO S.1 S.2)).alloc (boxO C.1 C.2)).alloc (boxO 0 0)).heap.size = w.heap.size + 1 + 1 + 1 by simp] at this
  exact this
 have hst := @fstore
 unfold boxO at C0
 have sE : pv S = .agg #[.float .f64 S.1, .float .f64 S.2] := rfl
 have cE : pv C = .agg #[.float .f64 C.1, .float .f64 C.2] := rfl
 replace C0 := Lib.hid C0
 replace S1 := Lib.hid S1
 replace C1 := Lib.hid C1
 replace N1 := Lib.hid N1
 replace N2 := Lib.hid N2
 have : k = 0 ∨ k = 1 ∨ k = 2 ∨ k = 3 := by omega
 clear hk
 rcases this with rfl | rfl | rfl | rfl
 · have e1 : qsP 0 S C nS nC = S := rfl
   have e2 : qcP 0 S C nS nC = C := rfl
   rw [e1, e2, sE, cE]
   clear e1 e2 sE cE
   go_enter Tryz.func154, Tryz.ntmps154
   go_upto_region 8 with fail
   have C0 := C0.out
   generalize (((w.alloc _).alloc _).alloc _).alloc _ = wr at *
   generalize hn : w.heap.size = n at *
   replace hn := Lib.hid hn
   have S1 := S1.out
   have C1 := C1.out
   have N1 := N1.out
   have N2 := N2.out
   generalize hds : ([some 31, some 32, none, none] : List (Option Tmp)) = ds
   have hap : apartL ds = true := by rw [← hds]; decide
   replace hds := hds.symm
   refine wp_region_sts [(n, S.1, S.2), (n + 1, C.1, C.2), (n + 1 + 1, S.1, S.2), (n + 1 + 1 + 1, C.1, C.2)] [⟨2, 2, n + 1 + 1, S.1, S.2⟩, ⟨3, 3, n + 1 + 1 + 1, C.1, C.2⟩] [pv S, pv C, undef, undef]
    ds (by kernel_rfl) (by rw [hds]; rfl) hap (by decide +kernel) (by decide +kernel) rfl C0 ?hE2 ?hE3 ?hj ?hi ?his (fun _ => True) trivial (fun _ _ _ _ => trivial) (fun _ _ _ _ => trivial) ?step ?store ?fin
   case hE2 =>
    intro j h
    have n0 : 2 ≠ j := h _ qh0
    have n1 : 3 ≠ j := h _ qh1
    rcases j with _ | _ | _ | _ | j <;> first | rfl | exact absurd rfl n0 | exact absurd rfl n1
   case hE3 => intro st h; rcases qm2 h with rfl | rfl <;> rfl
   case hj => intro st h; rcases qm2 h with rfl | rfl <;> exact ⟨_, _, rfl⟩
   case hi =>
    intro st h st' h' e
    rcases qm2 h with rfl | rfl <;> (rcases qm2 h' with rfl | rfl) <;> first | rfl | (exfalso; revert e; simp)
   case his => intro st h; rcases qm2 h with rfl | rfl
               · show 2 < 4; decide
               · show 3 < 4; decide
   case step =>
    intro L W i o ho hs hd hB hJ
    rcases (ql4 (Array.getElem?_eq_some_iff.1 ho).1) with rfl | rfl | rfl | rfl
    · obtain rfl := qsj ho
      have b := hB 0 _ _ _ rfl (by
       intro st hst e
       simp only [List.mem_cons, List.not_mem_nil, or_false] at hst
       rcases hst with rfl | rfl
       · exact qnd e rfl
       · exact qnd e rfl)
      refine qvr fun ρ hA => ?_
      have h0 : ρ (.tmp 5) = .pointer (some ⟨n, 0, none⟩) := (qpn hA (by rw [hds]; decide)).trans rfl
      exact ex_loads rfl h0 b.lo b.hi
    · obtain rfl := qsj ho
      have b := hB 1 _ _ _ rfl (by
       intro st hst e
       simp only [List.mem_cons, List.not_mem_nil, or_false] at hst
       rcases hst with rfl | rfl
       · exact qnd e rfl
       · exact qnd e rfl)
      refine qvr fun ρ hA => ?_
      have h0 : ρ (.tmp 6) = .pointer (some ⟨n + 1, 0, none⟩) := (qpn hA (by rw [hds]; decide)).trans rfl
      exact ex_loads rfl h0 b.lo b.hi
    · exact absurd rfl (hs _ qh0)
    · exact absurd rfl (hs _ qh1)
   case store =>
    intro st hst L W o x y ho hd b
    generalize hA : (puts ds L _).eval = ρ
    simp only [List.mem_cons, List.not_mem_nil, or_false] at hst
    rcases hst with rfl | rfl
    · dsimp only at ho b ⊢
      obtain rfl := qsj ho
      have h0 : ρ (.tmp 8) = .pointer (some ⟨n + 1 + 1, 0, none⟩) := (qpn hA (by rw [hds]; decide)).trans rfl
      have h1 : ρ (.tmp 31) = pv S := qpe 0 hA hap (by rw [hds]; rfl) (hd 0 (by decide +kernel)) (show 31 < 33 by decide)
      exact ⟨ex_store rfl h0 h1 b.lo b.hi b.f0 b.f1, rfl⟩
    · dsimp only at ho b ⊢
      obtain rfl := qsj ho
      have h0 : ρ (.tmp 9) = .pointer (some ⟨n + 1 + 1 + 1, 0, none⟩) := (qpn hA (by rw [hds]; decide)).trans rfl
      have h1 : ρ (.tmp 32) = pv C := qpe 1 hA hap (by rw [hds]; rfl) (hd 1 (by decide +kernel)) (show 32 < 33 by decide)
      exact ⟨ex_store rfl h0 h1 b.lo b.hi b.f0 b.f1, rfl⟩
   case fin =>
    intro w5 C5 _
    rw [hds]
    clear hds hap C0 ds S1 C1 N1 N2
    obtain ⟨s1, s2⟩ := S
    obtain ⟨c1, c2⟩ := C
    have l0 := (C5.at_ 2 rfl).lo
    have l1 := (C5.at_ 2 rfl).hi
    have m0 := (C5.at_ 3 rfl).lo
    have m1 := (C5.at_ 3 rfl).hi
    have O := Lib.hid C5.old
    dsimp only at l0 l1 m0 m1
    clear C5
    simp only [List.map_cons, List.map_nil, List.set_cons_zero, List.set_cons_succ, puts, Act.put, List.setIfInBounds_toArray]
    go_wp2_with fail
    (try simp only [Exit.inBlock, Exit.then])
    refine bodyPost_ret (v := .tuple #[spanV s1 s2, spanV c1 c2]) ?_ rfl ⟨rfl, ?_⟩
    · rw [results_cells2 rfl]; unfold spanV; go_simp
    · exact O.out
 · have e1 : qsP 1 S C nS nC = C := rfl
   have e2 : qcP 1 S C nS nC = nS := rfl
   rw [e1, e2, sE, cE]
   clear e1 e2 sE cE
   go_enter Tryz.func154, Tryz.ntmps154
   go_upto_region 3 with fail
   have C0 := C0.out
   generalize (((w.alloc _).alloc _).alloc _).alloc _ = wr at *
   generalize hn : w.heap.size = n at *
   replace hn := Lib.hid hn
   have S1 := S1.out
   have C1 := C1.out
   have N1 := N1.out
   have N2 := N2.out
   generalize hds : ([some 13, some 14, some 15, some 16, none, none] : List (Option Tmp)) = ds
   have hap : apartL ds = true := by rw [← hds]; decide
   replace hds := hds.symm
   refine wp_region_sts [(n, S.1, S.2), (n + 1, C.1, C.2), (n + 1 + 1, C.1, C.2), (n + 1 + 1 + 1, nS.1, nS.2)] [⟨4, 2, n + 1 + 1, C.1, C.2⟩, ⟨5, 3, n + 1 + 1 + 1, nS.1, nS.2⟩] [pv C, .func (.func 155) #[] #[], pv S, pv nS, undef, undef]
    ds (by kernel_rfl) (by rw [hds]; rfl) hap (by decide +kernel) (by decide +kernel) rfl C0 ?hE2 ?hE3 ?hj ?hi ?his (fun _ => True) trivial (fun _ _ _ _ => trivial) (fun _ _ _ _ => trivial) ?step ?store ?fin
   case hE2 =>
    intro j h
    have n0 : 2 ≠ j := h _ qh0
    have n1 : 3 ≠ j := h _ qh1
    rcases j with _ | _ | _ | _ | j <;> first | rfl | exact absurd rfl n0 | exact absurd rfl n1
   case hE3 => intro st h; rcases qm2 h with rfl | rfl <;> rfl
   case hj => intro st h; rcases qm2 h with rfl | rfl <;> exact ⟨_, _, rfl⟩
   case hi =>
    intro st h st' h' e
    rcases qm2 h with rfl | rfl <;> (rcases qm2 h' with rfl | rfl) <;> first | rfl | (exfalso; revert e; simp)
   case his => intro st h; rcases qm2 h with rfl | rfl
               · show 4 < 6; decide
               · show 5 < 6; decide
   case step =>
    intro L W i o ho hs hd hB hJ
    rcases (ql6 (Array.getElem?_eq_some_iff.1 ho).1) with rfl | rfl | rfl | rfl | rfl | rfl
    · obtain rfl := qsj ho
      have b := hB 1 _ _ _ rfl (by
       intro st hst e
       simp only [List.mem_cons, List.not_mem_nil, or_false] at hst
       rcases hst with rfl | rfl
       · exact qnd e rfl
       · exact qnd e rfl)
      refine qvr fun ρ hA => ?_
      have h0 : ρ (.tmp 6) = .pointer (some ⟨n + 1, 0, none⟩) := (qpn hA (by rw [hds]; decide)).trans rfl
      exact ex_loads rfl h0 b.lo b.hi
    · obtain rfl := qsj ho
      refine qvr fun ρ hA => ?_
      have h0 : ρ (.tmp 3) = .func (.func 155) #[] #[] := (qpn hA (by rw [hds]; decide)).trans rfl
      exact ex_move W rfl h0
    · obtain rfl := qsj ho
      have b := hB 0 _ _ _ rfl (by
       intro st hst e
       simp only [List.mem_cons, List.not_mem_nil, or_false] at hst
       rcases hst with rfl | rfl
       · exact qnd e rfl
       · exact qnd e rfl)
      refine qvr fun ρ hA => ?_
      have h0 : ρ (.tmp 5) = .pointer (some ⟨n, 0, none⟩) := (qpn hA (by rw [hds]; decide)).trans rfl
      exact ex_loads rfl h0 b.lo b.hi
    · obtain rfl := qsj ho
      refine .call 155 #[pv S] ?_ (uneg_run S1.1 S1.2 N1 W)
      generalize hA : (puts ds L _).eval = ρ
      have h0 : ρ (.tmp 14) = .func (.func 155) #[] #[] := qpe 1 hA hap (by rw [hds]; rfl) (hd 1 (by decide +kernel)) (show 14 < 33 by decide)
      have h1 : ρ (.tmp 15) = pv S := qpe 2 hA hap (by rw [hds]; rfl) (hd 2 (by decide +kernel)) (show 15 < 33 by decide)
      have hf := Tryz.func155
      unfold execOp; go_simp
    · exact absurd rfl (hs _ qh0)
    · exact absurd rfl (hs _ qh1)
   case store =>
    intro st hst L W o x y ho hd b
    generalize hA : (puts ds L _).eval = ρ
    simp only [List.mem_cons, List.not_mem_nil, or_false] at hst
    rcases hst with rfl | rfl
    · dsimp only at ho b ⊢
      obtain rfl := qsj ho
      have h0 : ρ (.tmp 8) = .pointer (some ⟨n + 1 + 1, 0, none⟩) := (qpn hA (by rw [hds]; decide)).trans rfl
      have h1 : ρ (.tmp 13) = pv C := qpe 0 hA hap (by rw [hds]; rfl) (hd 0 (by decide +kernel)) (show 13 < 33 by decide)
      exact ⟨ex_store rfl h0 h1 b.lo b.hi b.f0 b.f1, rfl⟩
    · dsimp only at ho b ⊢
      obtain rfl := qsj ho
      have h0 : ρ (.tmp 9) = .pointer (some ⟨n + 1 + 1 + 1, 0, none⟩) := (qpn hA (by rw [hds]; decide)).trans rfl
      have h1 : ρ (.tmp 16) = pv nS := qpe 3 hA hap (by rw [hds]; rfl) (hd 3 (by decide +kernel)) (show 16 < 33 by decide)
      exact ⟨ex_store rfl h0 h1 b.lo b.hi b.f0 b.f1, rfl⟩
   case fin =>
    intro w5 C5 _
    rw [hds]
    clear hds hap C0 ds S1 C1 N1 N2
    obtain ⟨s1, s2⟩ := C
    obtain ⟨c1, c2⟩ := nS
    have l0 := (C5.at_ 2 rfl).lo
    have l1 := (C5.at_ 2 rfl).hi
    have m0 := (C5.at_ 3 rfl).lo
    have m1 := (C5.at_ 3 rfl).hi
    have O := Lib.hid C5.old
    dsimp only at l0 l1 m0 m1
    clear C5
    simp only [List.map_cons, List.map_nil, List.set_cons_zero, List.set_cons_succ, puts, Act.put, List.setIfInBounds_toArray]
    go_wp2_with fail
    (try simp only [Exit.inBlock, Exit.then])
    refine bodyPost_ret (v := .tuple #[spanV s1 s2, spanV c1 c2]) ?_ rfl ⟨rfl, ?_⟩
    · rw [results_cells2 rfl]; unfold spanV; go_simp
    · exact O.out
 · have e1 : qsP 2 S C nS nC = nS := rfl
   have e2 : qcP 2 S C nS nC = nC := rfl
   rw [e1, e2, sE, cE]
   clear e1 e2 sE cE
   go_enter Tryz.func154, Tryz.ntmps154
   go_upto_region 5 with fail
   have C0 := C0.out
   generalize (((w.alloc _).alloc _).alloc _).alloc _ = wr at *
   generalize hn : w.heap.size = n at *
   replace hn := Lib.hid hn
   have S1 := S1.out
   have C1 := C1.out
   have N1 := N1.out
   have N2 := N2.out
   generalize hds : ([some 19, some 20, some 21, some 22, some 23, some 24, none, none] : List (Option Tmp)) = ds
   have hap : apartL ds = true := by rw [← hds]; decide
   replace hds := hds.symm
   refine wp_region_sts [(n, S.1, S.2), (n + 1, C.1, C.2), (n + 1 + 1, nS.1, nS.2), (n + 1 + 1 + 1, nC.1, nC.2)] [⟨6, 2, n + 1 + 1, nS.1, nS.2⟩, ⟨7, 3, n + 1 + 1 + 1, nC.1, nC.2⟩] [.func (.func 155) #[] #[], pv S, pv nS, .func (.func 155) #[] #[], pv C, pv nC, undef, undef]
    ds (by kernel_rfl) (by rw [hds]; rfl) hap (by decide +kernel) (by decide +kernel) rfl C0 ?hE2 ?hE3 ?hj ?hi ?his (fun _ => True) trivial (fun _ _ _ _ => trivial) (fun _ _ _ _ => trivial) ?step ?store ?fin
   case hE2 =>
    intro j h
    have n0 : 2 ≠ j := h _ qh0
    have n1 : 3 ≠ j := h _ qh1
    rcases j with _ | _ | _ | _ | j <;> first | rfl | exact absurd rfl n0 | exact absurd rfl n1
   case hE3 => intro st h; rcases qm2 h with rfl | rfl <;> rfl
   case hj => intro st h; rcases qm2 h with rfl | rfl <;> exact ⟨_, _, rfl⟩
   case hi =>
    intro st h st' h' e
    rcases qm2 h with rfl | rfl <;> (rcases qm2 h' with rfl | rfl) <;> first | rfl | (exfalso; revert e; simp)
   case his => intro st h; rcases qm2 h with rfl | rfl
               · show 6 < 8; decide
               · show 7 < 8; decide
   case step =>
    intro L W i o ho hs hd hB hJ
    rcases (ql8 (Array.getElem?_eq_some_iff.1 ho).1) with rfl | rfl | rfl | rfl | rfl | rfl | rfl | rfl
    · obtain rfl := qsj ho
      refine qvr fun ρ hA => ?_
      have h0 : ρ (.tmp 3) = .func (.func 155) #[] #[] := (qpn hA (by rw [hds]; decide)).trans rfl
      exact ex_move W rfl h0
    · obtain rfl := qsj ho
      have b := hB 0 _ _ _ rfl (by
       intro st hst e
       simp only [List.mem_cons, List.not_mem_nil, or_false] at hst
       rcases hst with rfl | rfl
       · exact qnd e rfl
       · exact qnd e rfl)
      refine qvr fun ρ hA => ?_
      have h0 : ρ (.tmp 5) = .pointer (some ⟨n, 0, none⟩) := (qpn hA (by rw [hds]; decide)).trans rfl
      exact ex_loads rfl h0 b.lo b.hi
    · obtain rfl := qsj ho
      refine .call 155 #[pv S] ?_ (uneg_run S1.1 S1.2 N1 W)
      generalize hA : (puts ds L _).eval = ρ
      have h0 : ρ (.tmp 19) = .func (.func 155) #[] #[] := qpe 0 hA hap (by rw [hds]; rfl) (hd 0 (by decide +kernel)) (show 19 < 33 by decide)
      have h1 : ρ (.tmp 20) = pv S := qpe 1 hA hap (by rw [hds]; rfl) (hd 1 (by decide +kernel)) (show 20 < 33 by decide)
      have hf := Tryz.func155
      unfold execOp; go_simp
    · obtain rfl := qsj ho
      refine qvr fun ρ hA => ?_
      have h0 : ρ (.tmp 3) = .func (.func 155) #[] #[] := (qpn hA (by rw [hds]; decide)).trans rfl
      exact ex_move W rfl h0
    · obtain rfl := qsj ho
      have b := hB 1 _ _ _ rfl (by
       intro st hst e
       simp only [List.mem_cons, List.not_mem_nil, or_false] at hst
       rcases hst with rfl | rfl
       · exact qnd e rfl
       · exact qnd e rfl)
      refine qvr fun ρ hA => ?_
      have h0 : ρ (.tmp 6) = .pointer (some ⟨n + 1, 0, none⟩) := (qpn hA (by rw [hds]; decide)).trans rfl
      exact ex_loads rfl h0 b.lo b.hi
    · obtain rfl := qsj ho
      refine .call 155 #[pv C] ?_ (uneg_run C1.1 C1.2 N2 W)
      generalize hA : (puts ds L _).eval = ρ
      have h0 : ρ (.tmp 22) = .func (.func 155) #[] #[] := qpe 3 hA hap (by rw [hds]; rfl) (hd 3 (by decide +kernel)) (show 22 < 33 by decide)
      have h1 : ρ (.tmp 23) = pv C := qpe 4 hA hap (by rw [hds]; rfl) (hd 4 (by decide +kernel)) (show 23 < 33 by decide)
      have hf := Tryz.func155
      unfold execOp; go_simp
    · exact absurd rfl (hs _ qh0)
    · exact absurd rfl (hs _ qh1)
   case store =>
    intro st hst L W o x y ho hd b
    generalize hA : (puts ds L _).eval = ρ
    simp only [List.mem_cons, List.not_mem_nil, or_false] at hst
    rcases hst with rfl | rfl
    · dsimp only at ho b ⊢
      obtain rfl := qsj ho
      have h0 : ρ (.tmp 8) = .pointer (some ⟨n + 1 + 1, 0, none⟩) := (qpn hA (by rw [hds]; decide)).trans rfl
      have h1 : ρ (.tmp 21) = pv nS := qpe 2 hA hap (by rw [hds]; rfl) (hd 2 (by decide +kernel)) (show 21 < 33 by decide)
      exact ⟨ex_store rfl h0 h1 b.lo b.hi b.f0 b.f1, rfl⟩
    · dsimp only at ho b ⊢
      obtain rfl := qsj ho
      have h0 : ρ (.tmp 9) = .pointer (some ⟨n + 1 + 1 + 1, 0, none⟩) := (qpn hA (by rw [hds]; decide)).trans rfl
      have h1 : ρ (.tmp 24) = pv nC := qpe 5 hA hap (by rw [hds]; rfl) (hd 5 (by decide +kernel)) (show 24 < 33 by decide)
      exact ⟨ex_store rfl h0 h1 b.lo b.hi b.f0 b.f1, rfl⟩
   case fin =>
    intro w5 C5 _
    rw [hds]
    clear hds hap C0 ds S1 C1 N1 N2
    obtain ⟨s1, s2⟩ := nS
    obtain ⟨c1, c2⟩ := nC
    have l0 := (C5.at_ 2 rfl).lo
    have l1 := (C5.at_ 2 rfl).hi
    have m0 := (C5.at_ 3 rfl).lo
    have m1 := (C5.at_ 3 rfl).hi
    have O := Lib.hid C5.old
    dsimp only at l0 l1 m0 m1
    clear C5
    simp only [List.map_cons, List.map_nil, List.set_cons_zero, List.set_cons_succ, puts, Act.put, List.setIfInBounds_toArray]
    go_wp2_with fail
    (try simp only [Exit.inBlock, Exit.then])
    refine bodyPost_ret (v := .tuple #[spanV s1 s2, spanV c1 c2]) ?_ rfl ⟨rfl, ?_⟩
    · rw [results_cells2 rfl]; unfold spanV; go_simp
    · exact O.out
 · have e1 : qsP 3 S C nS nC = nC := rfl
   have e2 : qcP 3 S C nS nC = S := rfl
   rw [e1, e2, sE, cE]
   clear e1 e2 sE cE
   go_enter Tryz.func154, Tryz.ntmps154
   go_upto_region 7 with fail
   have C0 := C0.out
   generalize (((w.alloc _).alloc _).alloc _).alloc _ = wr at *
   generalize hn : w.heap.size = n at *
   replace hn := Lib.hid hn
   have S1 := S1.out
   have C1 := C1.out
   have N1 := N1.out
   have N2 := N2.out
   generalize hds : ([some 27, some 28, some 29, some 30, none, none] : List (Option Tmp)) = ds
   have hap : apartL ds = true := by rw [← hds]; decide
   replace hds := hds.symm
   refine wp_region_sts [(n, S.1, S.2), (n + 1, C.1, C.2), (n + 1 + 1, nC.1, nC.2), (n + 1 + 1 + 1, S.1, S.2)] [⟨4, 2, n + 1 + 1, nC.1, nC.2⟩, ⟨5, 3, n + 1 + 1 + 1, S.1, S.2⟩] [.func (.func 155) #[] #[], pv C, pv nC, pv S, undef, undef]
    ds (by kernel_rfl) (by rw [hds]; rfl) hap (by decide +kernel) (by decide +kernel) rfl C0 ?hE2 ?hE3 ?hj ?hi ?his (fun _ => True) trivial (fun _ _ _ _ => trivial) (fun _ _ _ _ => trivial) ?step ?store ?fin
   case hE2 =>
    intro j h
    have n0 : 2 ≠ j := h _ qh0
    have n1 : 3 ≠ j := h _ qh1
    rcases j with _ | _ | _ | _ | j <;> first | rfl | exact absurd rfl n0 | exact absurd rfl n1
   case hE3 => intro st h; rcases qm2 h with rfl | rfl <;> rfl
   case hj => intro st h; rcases qm2 h with rfl | rfl <;> exact ⟨_, _, rfl⟩
   case hi =>
    intro st h st' h' e
    rcases qm2 h with rfl | rfl <;> (rcases qm2 h' with rfl | rfl) <;> first | rfl | (exfalso; revert e; simp)
   case his => intro st h; rcases qm2 h with rfl | rfl
               · show 4 < 6; decide
               · show 5 < 6; decide
   case step =>
    intro L W i o ho hs hd hB hJ
    rcases (ql6 (Array.getElem?_eq_some_iff.1 ho).1) with rfl | rfl | rfl | rfl | rfl | rfl
    · obtain rfl := qsj ho
      refine qvr fun ρ hA => ?_
      have h0 : ρ (.tmp 3) = .func (.func 155) #[] #[] := (qpn hA (by rw [hds]; decide)).trans rfl
      exact ex_move W rfl h0
    · obtain rfl := qsj ho
      have b := hB 1 _ _ _ rfl (by
       intro st hst e
       simp only [List.mem_cons, List.not_mem_nil, or_false] at hst
       rcases hst with rfl | rfl
       · exact qnd e rfl
       · exact qnd e rfl)
      refine qvr fun ρ hA => ?_
      have h0 : ρ (.tmp 6) = .pointer (some ⟨n + 1, 0, none⟩) := (qpn hA (by rw [hds]; decide)).trans rfl
      exact ex_loads rfl h0 b.lo b.hi
    · obtain rfl := qsj ho
      refine .call 155 #[pv C] ?_ (uneg_run C1.1 C1.2 N2 W)
      generalize hA : (puts ds L _).eval = ρ
      have h0 : ρ (.tmp 27) = .func (.func 155) #[] #[] := qpe 0 hA hap (by rw [hds]; rfl) (hd 0 (by decide +kernel)) (show 27 < 33 by decide)
      have h1 : ρ (.tmp 28) = pv C := qpe 1 hA hap (by rw [hds]; rfl) (hd 1 (by decide +kernel)) (show 28 < 33 by decide)
      have hf := Tryz.func155
      unfold execOp; go_simp
    · obtain rfl := qsj ho
      have b := hB 0 _ _ _ rfl (by
       intro st hst e
       simp only [List.mem_cons, List.not_mem_nil, or_false] at hst
       rcases hst with rfl | rfl
       · exact qnd e rfl
       · exact qnd e rfl)
      refine qvr fun ρ hA => ?_
      have h0 : ρ (.tmp 5) = .pointer (some ⟨n, 0, none⟩) := (qpn hA (by rw [hds]; decide)).trans rfl
      exact ex_loads rfl h0 b.lo b.hi
    · exact absurd rfl (hs _ qh0)
    · exact absurd rfl (hs _ qh1)
   case store =>
    intro st hst L W o x y ho hd b
    generalize hA : (puts ds L _).eval = ρ
    simp only [List.mem_cons, List.not_mem_nil, or_false] at hst
    rcases hst with rfl | rfl
    · dsimp only at ho b ⊢
      obtain rfl := qsj ho
      have h0 : ρ (.tmp 8) = .pointer (some ⟨n + 1 + 1, 0, none⟩) := (qpn hA (by rw [hds]; decide)).trans rfl
      have h1 : ρ (.tmp 29) = pv nC := qpe 2 hA hap (by rw [hds]; rfl) (hd 2 (by decide +kernel)) (show 29 < 33 by decide)
      exact ⟨ex_store rfl h0 h1 b.lo b.hi b.f0 b.f1, rfl⟩
    · dsimp only at ho b ⊢
      obtain rfl := qsj ho
      have h0 : ρ (.tmp 9) = .pointer (some ⟨n + 1 + 1 + 1, 0, none⟩) := (qpn hA (by rw [hds]; decide)).trans rfl
      have h1 : ρ (.tmp 30) = pv S := qpe 3 hA hap (by rw [hds]; rfl) (hd 3 (by decide +kernel)) (show 30 < 33 by decide)
      exact ⟨ex_store rfl h0 h1 b.lo b.hi b.f0 b.f1, rfl⟩
   case fin =>
    intro w5 C5 _
    rw [hds]
    clear hds hap C0 ds S1 C1 N1 N2
    obtain ⟨s1, s2⟩ := nC
    obtain ⟨c1, c2⟩ := S
    have l0 := (C5.at_ 2 rfl).lo
    have l1 := (C5.at_ 2 rfl).hi
    have m0 := (C5.at_ 3 rfl).lo
    have m1 := (C5.at_ 3 rfl).hi
    have O := Lib.hid C5.old
    dsimp only at l0 l1 m0 m1
    clear C5
    simp only [List.map_cons, List.map_nil, List.set_cons_zero, List.set_cons_succ, puts, Act.put, List.setIfInBounds_toArray]
    go_wp2_with fail
    (try simp only [Exit.inBlock, Exit.then])
    refine bodyPost_ret (v := .tuple #[spanV s1 s2, spanV c1 c2]) ?_ rfl ⟨rfl, ?_⟩
    · rw [results_cells2 rfl]; unfold spanV; go_simp
    · exact O.out

theorem wmeet_run {p u : Pr} (hu : u = cutP p) (l1 : p.1 < 18446744073709551616) (l2 : p.2 < 18446744073709551616) (ok : errS p.1 p.2 = 0) (hB : meetB p.1 p.2 noneW oneW = true) (w : World) :
 Calls Tryz.prog 116 #[pv p, pv (noneW, oneW)] w fun e w' => e = .returned (.tuple #[pv u, .bool true, .int .i64 0]) ∧ Below w.heap.size w w' := by
 subst hu
 have e0 : errSS p.1 p.2 noneW oneW = 0 := errSS_of' ok (by decide +kernel)
 have := smeet_ok l1 l2 (show noneW < 18446744073709551616 by decide) (show oneW < 18446744073709551616 by decide) e0 w
 rw [hB] at this
 exact this

theorem uwithin_run {p u : Pr} (hu : u = cutP p) (l1 : p.1 < 18446744073709551616) (l2 : p.2 < 18446744073709551616) (ok : errS p.1 p.2 = 0) (hB : meetB p.1 p.2 noneW oneW = true) (w : World) :
 Calls Tryz.prog 156 #[pv p] w fun e w' => e = .returned (pv u) ∧ Below w.heap.size w w' := by
 have C0 : Cls w [(w.heap.size, p.1, p.2), (w.heap.size + 1, 0, 0)] ((w.alloc (boxO p.1 p.2)).alloc (boxO 0 0)) := by
  have := ((Cls.nil w).new p.1 p.2).new 0 0
  simp only [List.nil_append, List.cons_append] at this
  rw [show (w.alloc (boxO p.1 p.2)).heap.size = w.heap.size + 1 by simp] at this
  exact this
 have hst := @fstore
 unfold boxO at C0
 have sE : pv p = .agg #[.float .f64 p.1, .float .f64 p.2] := rfl
 rw [sE]
 replace C0 := Lib.hid C0
 replace l1 := Lib.hid l1
 replace l2 := Lib.hid l2
 replace ok := Lib.hid ok
 replace hB := Lib.hid hB
 replace hu := Lib.hid hu
 clear sE
 go_enter Tryz.func156, Tryz.ntmps156
 go_upto_region 1 with fail
 have C0 := C0.out
 generalize (w.alloc _).alloc _ = wr at *
 generalize hn : w.heap.size = n at *
 replace hn := Lib.hid hn
 have l1 := l1.out
 have l2 := l2.out
 have ok := ok.out
 have mB := hB.out
 generalize hds : ([some 7, some 8, some 9, some 6, some 10, some 11, some 12, some 3, none, some 4, some 5] : List (Option Tmp)) = ds
 have hap : apartL ds = true := by rw [← hds]; decide
 replace hds := hds.symm
 refine wp_region_var 7 8 u.1 u.2 [pv p, pv (noneW, oneW), .tuple #[pv u, .bool true, .int .i64 0], .tuple #[pv u, .bool true, .int .i64 0], pv u, .bool true, .int .i64 0, undef, undef, .bool true, .int .i64 0]
  ds (by kernel_rfl) (by rw [hds]; rfl) hap (by decide +kernel) (by decide +kernel) rfl C0 (by decide +kernel) (by decide) (by decide) ?alloc ?step ?store ?fin
 case alloc => intro o ho; obtain rfl := qsj ho; rfl
 case step =>
  intro L W i o ho hia his hd hB
  rcases (ql11 (Array.getElem?_eq_some_iff.1 ho).1) with rfl | rfl | rfl | rfl | rfl | rfl | rfl | rfl | rfl | rfl | rfl
  · obtain rfl := qsj ho
    have b := hB 0 _ _ _ rfl
    refine qvr fun ρ hA => ?_
    have h0 : ρ (.tmp 1) = .pointer (some ⟨n, 0, none⟩) := (qpn hA (by rw [hds]; decide)).trans rfl
    exact ex_loads rfl h0 b.lo b.hi
  · obtain rfl := qsj ho
    refine .call 118 #[] ?_ (ucircle_run W)
    generalize hA : (puts ds L _).eval = ρ
    have hc := qrc hA
    have hg := qrg hA
    have hf := Tryz.func118
    unfold execOp; go_simp
  · obtain rfl := qsj ho
    refine .call 116 #[pv p, pv (noneW, oneW)] ?_ (wmeet_run hu.out l1 l2 ok mB W)
    generalize hA : (puts ds L _).eval = ρ
    have hc := qrc hA
    have hg := qrg hA
    have h0 : ρ (.tmp 7) = pv p := qpe 0 hA hap (by rw [hds]; rfl) (hd 0 (by decide +kernel) (by decide)) (show 7 < 14 by decide)
    have h1 : ρ (.tmp 8) = pv (noneW, oneW) := qpe 1 hA hap (by rw [hds]; rfl) (hd 1 (by decide +kernel) (by decide)) (show 8 < 14 by decide)
    have hf := Tryz.func116
    unfold execOp; go_simp
  · obtain rfl := qsj ho
    refine qvr fun ρ hA => ?_
    have h0 : ρ (.tmp 9) = .tuple #[pv u, .bool true, .int .i64 0] := qpe 2 hA hap (by rw [hds]; rfl) (hd 2 (by decide +kernel) (by decide)) (show 9 < 14 by decide)
    exact ex_move W rfl h0
  · obtain rfl := qsj ho
    refine qvr fun ρ hA => ?_
    have hc := qrc hA
    have h0 : ρ (.tmp 6) = .tuple #[pv u, .bool true, .int .i64 0] := qpe 3 hA hap (by rw [hds]; rfl) (hd 3 (by decide +kernel) (by decide)) (show 6 < 14 by decide)
    unfold execOp; go_simp
  · obtain rfl := qsj ho
    refine qvr fun ρ hA => ?_
    have hc := qrc hA
    have h0 : ρ (.tmp 6) = .tuple #[pv u, .bool true, .int .i64 0] := qpe 3 hA hap (by rw [hds]; rfl) (hd 3 (by decide +kernel) (by decide)) (show 6 < 14 by decide)
    unfold execOp; go_simp
  · obtain rfl := qsj ho
    refine qvr fun ρ hA => ?_
    have hc := qrc hA
    have h0 : ρ (.tmp 6) = .tuple #[pv u, .bool true, .int .i64 0] := qpe 3 hA hap (by rw [hds]; rfl) (hd 3 (by decide +kernel) (by decide)) (show 6 < 14 by decide)
    unfold execOp; go_simp
  · exact absurd rfl hia
  · exact absurd rfl his
  · obtain rfl := qsj ho
    refine qvr fun ρ hA => ?_
    have h0 : ρ (.tmp 11) = .bool true := qpe 5 hA hap (by rw [hds]; rfl) (hd 5 (by decide +kernel) (by decide)) (show 11 < 14 by decide)
    exact ex_assign W rfl h0
  · obtain rfl := qsj ho
    refine qvr fun ρ hA => ?_
    have h0 : ρ (.tmp 12) = .int .i64 0 := qpe 6 hA hap (by rw [hds]; rfl) (hd 6 (by decide +kernel) (by decide)) (show 12 < 14 by decide)
    exact ex_assign W rfl h0
 case store =>
  intro L W o h x y ho hd hl b
  generalize hA : (puts ds L _).eval = ρ
  obtain rfl := qsj ho
  have h0 : ρ (.tmp 3) = .pointer (some ⟨h, 0, none⟩) := qpe 7 hA hap (by rw [hds]; rfl) hl (show 3 < 14 by decide)
  have h1 : ρ (.tmp 10) = pv u := qpe 4 hA hap (by rw [hds]; rfl) (hd 4 (by decide +kernel) (by decide)) (show 10 < 14 by decide)
  exact ⟨ex_store rfl h0 h1 b.lo b.hi b.f0 b.f1, rfl⟩
 case fin =>
  intro h w5 C5
  rw [hds]
  clear hds hap C0 ds l1 l2 ok mB hu
  simp only [List.cons_append, List.nil_append] at C5
  obtain ⟨c1, c2⟩ := u
  have l0 := (C5.at_ 2 rfl).lo
  have l1 := (C5.at_ 2 rfl).hi
  have m0 := (C5.at_ 1 rfl).lo
  have m1 := (C5.at_ 1 rfl).hi
  have f0 := (C5.at_ 1 rfl).f0
  have f1 := (C5.at_ 1 rfl).f1
  have O := Lib.hid C5.old
  (try dsimp only at l0 l1)
  clear C5
  simp only [List.map_cons, List.map_nil, List.set_cons_zero, List.set_cons_succ, puts, Act.put, List.setIfInBounds_toArray]
  go_wp2_with fail
  (try simp only [Exit.inBlock, Exit.then])
  refine bodyPost_ret (v := spanV c1 c2) ?_ rfl ⟨rfl, ?_⟩
  · rw [results_cell1 rfl]; unfold spanV; go_simp
  · exact (O.out.setCell (by show _ ≤ n + 1; have := hn.out; omega) _).setCell (by show _ ≤ n + 1; have := hn.out; omega) _

def ppi (p q : Pr) (k : Int) : Value := .tuple #[pv p, pv q, .int .i64 k]
theorem upoint_walk {x r : Nat} {k : Int} {S C P Q U U2 : Pr}
 (K1 : ∀ w, Calls Tryz.prog 91 #[.float .f64 x] w fun e w' => e = .returned (.int .i64 0) ∧ w = w')
 (K2 : ∀ w, Calls Tryz.prog 92 #[.float .f64 x] w fun e w' => e = .returned (.tuple #[.int .i64 k, .float .f64 r]) ∧ w = w')
 (K3 : Hid (∀ w, Calls Tryz.prog 153 #[.float .f64 r] w fun e w' => e = .returned (.tuple #[pv S, pv C]) ∧ Below w.heap.size w w'))
 (K4 : Hid (∀ w, Calls Tryz.prog 154 #[.int .i64 k, pv S, pv C, .func (.func 155) #[] #[]] w fun e w' => e = .returned (.tuple #[pv P, pv Q]) ∧ Below w.heap.size w w'))
 (K5 : Hid (∀ w, Calls Tryz.prog 156 #[pv P] w fun e w' => e = .returned (pv U) ∧ Below w.heap.size w w'))
 (K6 : Hid (∀ w, Calls Tryz.prog 156 #[pv Q] w fun e w' => e = .returned (pv U2) ∧ Below w.heap.size w w')) (w : World) :
 Calls Tryz.prog 104 #[.float .f64 x] w fun e w' => e = .returned (ppi U U2 0) ∧ Below w.heap.size w w' := by
 have C0 : Cls w [(w.heap.size, 0, 0), (w.heap.size + 1, 0, 0)] ((w.alloc (boxO 0 0)).alloc (boxO 0 0)) := by
  have := ((Cls.nil w).new 0 0).new 0 0
  simp only [List.nil_append, List.cons_append] at this
  rw [show (w.alloc (boxO 0 0)).heap.size = w.heap.size + 1 by simp] at this
  exact this
 have hst := @fstore
 obtain ⟨s1, s2⟩ := S
 obtain ⟨c1, c2⟩ := C
 have sE : pv (s1, s2) = .agg #[.float .f64 s1, .float .f64 s2] := rfl
 have cE : pv (c1, c2) = .agg #[.float .f64 c1, .float .f64 c2] := rfl
 rw [sE, cE] at K3 K4
 have pE : pv P = .agg #[.float .f64 P.1, .float .f64 P.2] := rfl
 have qE : pv Q = .agg #[.float .f64 Q.1, .float .f64 Q.2] := rfl
 rw [pE, qE] at K4
 unfold boxO at C0
 replace C0 := Lib.hid C0
 clear sE cE pE qE
 go_enter Tryz.func104, Tryz.ntmps104
 go_wp2_with (first | (go_at_call 91; ((with_reducible refine (K1 _).mono ?_); rintro e w' ⟨rfl, rfl⟩)) | (go_at_call 92; ((with_reducible refine (K2 _).mono ?_); rintro e w' ⟨rfl, rfl⟩)))
 have C := C0.out
 clear C0 K1 K2
 generalize (w.alloc _).alloc _ = wr at *
 refine (K3.out wr).mono ?_
 rintro _ w1 ⟨rfl, hb⟩
 have C1 := ((C.on hb).new s1 s2).new c1 c2
 simp only [List.cons_append, List.nil_append] at C1
 rw [show (w1.alloc (boxO s1 s2)).heap.size = w1.heap.size + 1 by simp] at C1
 unfold boxO at C1
 have a0 := (C1.at_ 2 rfl).lo
 have a1 := (C1.at_ 2 rfl).hi
 have b0 := (C1.at_ 3 rfl).lo
 have b1 := (C1.at_ 3 rfl).hi
 replace C1 := Lib.hid C1
 clear C hb K3
 go_wp2_with fail
 have C1 := C1.out
 clear a0 a1 b0 b1
 generalize (w1.alloc _).alloc _ = wq at *
 generalize w1.heap.size = g at *
 refine (K4.out wq).mono ?_
 rintro _ w2 ⟨rfl, hb⟩
 have C2 := C1.on hb
 have a0 := (C2.at_ 2 rfl).lo
 have a1 := (C2.at_ 2 rfl).hi
 have b0 := (C2.at_ 3 rfl).lo
 have b1 := (C2.at_ 3 rfl).hi
 have a2 := (C2.at_ 2 rfl).f0
 have a3 := (C2.at_ 2 rfl).f1
 have b2 := (C2.at_ 3 rfl).f0
 have b3 := (C2.at_ 3 rfl).f1
 have C3 := (C2.put 2 rfl P.1 P.2).put 3 rfl Q.1 Q.2
 simp only [List.set_cons_zero, List.set_cons_succ] at C3
 unfold put2 at C3
 replace C3 := Lib.hid C3
 clear C1 C2 hb K4
 go_upto_region 7 with fail
 have C3 := C3.out
 clear a0 a1 b0 b1 a2 a3 b2 b3
 generalize World.setCell _ _ _ = wp at *
 generalize hn : w.heap.size = n at *
 replace hn := Lib.hid hn
 generalize hds : ([some 34, some 35, some 36, some 37, none, none, some 4] : List (Option Tmp)) = ds
 have hap : apartL ds = true := by rw [← hds]; decide
 replace hds := hds.symm
 refine wp_region_sts [(n, U.1, U.2), (n + 1, U2.1, U2.2), (g, P.1, P.2), (g + 1, Q.1, Q.2)] [⟨4, 0, n, U.1, U.2⟩, ⟨5, 1, n + 1, U2.1, U2.2⟩] [pv P, pv U, pv Q, pv U2, undef, undef, .int .i64 0]
  ds (by kernel_rfl) (by rw [hds]; rfl) hap (by decide +kernel) (by decide +kernel) rfl C3 ?hE2 ?hE3 ?hj ?hi ?his (fun _ => True) trivial (fun _ _ _ _ => trivial) (fun _ _ _ _ => trivial) ?step ?store ?fin
 case hE2 =>
  intro j h
  have n0 : 0 ≠ j := h _ qh0
  have n1 : 1 ≠ j := h _ qh1
  rcases j with _ | _ | _ | _ | j <;> first | rfl | exact absurd rfl n0 | exact absurd rfl n1
 case hE3 => intro st h; rcases qm2 h with rfl | rfl <;> rfl
 case hj => intro st h; rcases qm2 h with rfl | rfl <;> exact ⟨_, _, rfl⟩
 case hi =>
  intro st h st' h' e
  rcases qm2 h with rfl | rfl <;> (rcases qm2 h' with rfl | rfl) <;> first | rfl | (exfalso; revert e; simp)
 case his => intro st h; rcases qm2 h with rfl | rfl
             · show 4 < 7; decide
             · show 5 < 7; decide
 case step =>
  intro L W i o ho hs hd hB hJ
  rcases (ql7 (Array.getElem?_eq_some_iff.1 ho).1) with rfl | rfl | rfl | rfl | rfl | rfl | rfl
  · obtain rfl := qsj ho
    have b := hB 2 _ _ _ rfl (by
        intro st hst e
        simp only [List.mem_cons, List.not_mem_nil, or_false] at hst
        rcases hst with rfl | rfl
        · exact qnd e rfl
        · exact qnd e rfl)
    refine qvr fun ρ hA => ?_
    have h0 : ρ (.tmp 8) = .pointer (some ⟨g, 0, none⟩) := (qpn hA (by rw [hds]; decide)).trans rfl
    exact ex_loads rfl h0 b.lo b.hi
  · obtain rfl := qsj ho
    refine .call 156 #[pv P] ?_ (K5.out W)
    generalize hA : (puts ds L _).eval = ρ
    have hc := qrc hA
    have hg := qrg hA
    have h0 : ρ (.tmp 34) = pv P := qpe 0 hA hap (by rw [hds]; rfl) (hd 0 (by decide +kernel)) (show 34 < 38 by decide)
    have hf := Tryz.func156
    unfold execOp; go_simp
  · obtain rfl := qsj ho
    have b := hB 3 _ _ _ rfl (by
        intro st hst e
        simp only [List.mem_cons, List.not_mem_nil, or_false] at hst
        rcases hst with rfl | rfl
        · exact qnd e rfl
        · exact qnd e rfl)
    refine qvr fun ρ hA => ?_
    have h0 : ρ (.tmp 9) = .pointer (some ⟨g + 1, 0, none⟩) := (qpn hA (by rw [hds]; decide)).trans rfl
    exact ex_loads rfl h0 b.lo b.hi
  · obtain rfl := qsj ho
    refine .call 156 #[pv Q] ?_ (K6.out W)
    generalize hA : (puts ds L _).eval = ρ
    have hc := qrc hA
    have hg := qrg hA
    have h0 : ρ (.tmp 36) = pv Q := qpe 2 hA hap (by rw [hds]; rfl) (hd 2 (by decide +kernel)) (show 36 < 38 by decide)
    have hf := Tryz.func156
    unfold execOp; go_simp
  · exact absurd rfl (hs _ qh0)
  · exact absurd rfl (hs _ qh1)
  · obtain rfl := qsj ho
    refine qvr fun ρ hA => ?_
    have hc := qrc hA
    unfold execOp; go_simp
 case store =>
  intro st hst L W o x y ho hd b
  generalize hA : (puts ds L _).eval = ρ
  simp only [List.mem_cons, List.not_mem_nil, or_false] at hst
  rcases hst with rfl | rfl
  · dsimp only at ho b ⊢
    obtain rfl := qsj ho
    have h0 : ρ (.tmp 2) = .pointer (some ⟨n, 0, none⟩) := (qpn hA (by rw [hds]; decide)).trans rfl
    have h1 : ρ (.tmp 35) = pv U := qpe 1 hA hap (by rw [hds]; rfl) (hd 1 (by decide +kernel)) (show 35 < 38 by decide)
    exact ⟨ex_store rfl h0 h1 b.lo b.hi b.f0 b.f1, rfl⟩
  · dsimp only at ho b ⊢
    obtain rfl := qsj ho
    have h0 : ρ (.tmp 3) = .pointer (some ⟨n + 1, 0, none⟩) := (qpn hA (by rw [hds]; decide)).trans rfl
    have h1 : ρ (.tmp 37) = pv U2 := qpe 3 hA hap (by rw [hds]; rfl) (hd 3 (by decide +kernel)) (show 37 < 38 by decide)
    exact ⟨ex_store rfl h0 h1 b.lo b.hi b.f0 b.f1, rfl⟩
 case fin =>
  intro w5 C5 _
  rw [hds]
  clear hds hap C3 ds K5 K6
  obtain ⟨u1, u2⟩ := U
  obtain ⟨v1, v2⟩ := U2
  have l0 := (C5.at_ 0 rfl).lo
  have l1 := (C5.at_ 0 rfl).hi
  have m0 := (C5.at_ 1 rfl).lo
  have m1 := (C5.at_ 1 rfl).hi
  have O := Lib.hid C5.old
  dsimp only at l0 l1 m0 m1
  clear C5
  simp only [List.map_cons, List.map_nil, List.set_cons_zero, List.set_cons_succ, puts, Act.put, List.setIfInBounds_toArray]
  go_wp2_with fail
  (try simp only [Exit.inBlock, Exit.then])
  refine bodyPost_ret (v := .tuple #[spanV u1 u2, spanV v1 v2, .int .i64 0]) ?_ rfl ⟨rfl, ?_⟩
  · rw [results_cells2t rfl]; unfold spanV; go_simp
  · exact O.out

theorem qs_sn {S C nS nC : Pr} (a : Sn S 67) (b : Sn C 64) (c : Sn nS 67) (d : Sn nC 64) {k : Int} (hk : k = 0 ∨ k = 1 ∨ k = 2 ∨ k = 3) : Sn (qsP k S C nS nC) 67 ∧ Sn (qcP k S C nS nC) 67 := by
 have b' := b.le (show 64 ≤ 67 by omega)
 have d' := d.le (show 64 ≤ 67 by omega)
 rcases hk with rfl | rfl | rfl | rfl
 · exact ⟨a, b'⟩
 · exact ⟨b', c⟩
 · exact ⟨c, d'⟩
 · exact ⟨d', a⟩
theorem upoint_ok {x : Nat} (hx : x < 18446744073709551616) (h0 : errA x = 0) : ∃ p q, PtH x p q ∧ ∀ w, Calls Tryz.prog 104 #[.float .f64 x] w fun e w' => e = .returned (ppi p q 0) ∧ Below w.heap.size w w' := by
 have h := errA_ang hx h0
 obtain ⟨r, R, K2⟩ := uquarter_run h
 obtain ⟨Y, Z, P, M, N, W, S, P2, M2, W2, C, nS, nC, E⟩ := pt_ex hx h0 R
 have k4 : kq eig (V x) % 4 = 0 ∨ kq eig (V x) % 4 = 1 ∨ kq eig (V x) % 4 = 2 ∨ kq eig (V x) % 4 = 3 := by omega
 have b := E.b _ k4
 have s := qs_sn E.sn.s E.sn.c E.s1 E.s2 k4
 refine ⟨_, _, E.h, fun w => ?_⟩
 refine upoint_walk (fun w => h0 ▸ ucheck_run x hx w) K2 (Lib.hid fun w => usure_run E.rest.fin.1 E.sur E.sn w) (Lib.hid fun w => ubys_run ⟨E.sn.s.l1, E.sn.s.l2⟩ ⟨E.sn.c.l1, E.sn.c.l2⟩ E.n1 E.n2 _ (by omega) w)
  (Lib.hid fun w => uwithin_run rfl s.1.l1 s.1.l2 s.1.ok b.1 w) (Lib.hid fun w => uwithin_run rfl s.2.l1 s.2.l2 s.2.ok b.2 w) w

theorem unit_Bnd {a b m : Nat} (lo : -(2 ^ (1074 + m)) ≤ V a) (hi : V b ≤ 2 ^ (1074 + m)) (le : V a ≤ V b) : Bnd a b m := bnd_aux lo hi le (pw_abs _)
theorem unit_sn {u : Pr} (h : Unit1 u) : Sn u 0 := by
 obtain ⟨f1, f2, le⟩ := errS_zero h.ok
 have a : V noneW = -(2 ^ (1074 + 0)) := by decide +kernel
 have b : V oneW = 2 ^ (1074 + 0) := by decide +kernel
 have lo := h.lo
 have hi := h.hi
 rw [a] at lo
 rw [b] at hi
 exact ⟨h.l1, h.l2, h.ok, unit_Bnd (m := 0) lo hi le⟩
end Go.Proofs.YtdfcchocabapkaaGreat
