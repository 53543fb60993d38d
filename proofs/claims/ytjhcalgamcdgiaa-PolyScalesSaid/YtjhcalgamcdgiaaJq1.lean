/- Proved here: what the texts Rgn, Usp, Upt, Ush, Uss prove, one behind the other. -/
import Derived.Test.YtjhcalgamcdgiaaJb4
import Derived.Test.YtjhcalgamcdgiaaJb6
import Derived.Deep.CutRange
import Derived.BigQuiet

namespace Go.Proofs.Ytjhcalgamcdgiaa
open Go.ChangeShapes Go.WideShapes Go.ChangeAt Go.RowKit Ieee.Own

/-- has operation i come up? -/
def doneL (L : List (Option Value)) (i : Nat) : Prop := ∃ v, L[i]? = some (some v)
def waitsAt (ops : Array Oper) (i k : Nat) : Bool := ((ops[i]?).map fun o => waits o k).getD false
/-- does i wait for k, at last? -/
def needs (ops : Array Oper) : Nat → Nat → Nat → Bool
  | 0, _, _ => false
  | n + 1, i, k => (List.range ops.size).any fun m => waitsAt ops i m && (m == k || needs ops n m k)
def Closed (ops : Array Oper) (L : List (Option Value)) : Prop := ∀ i k, doneL L i → waitsAt ops i k = true → doneL L k
theorem Closed.needs {ops : Array Oper} {L : List (Option Value)} (C : Closed ops L) : ∀ (n i k : Nat), needs ops n i k = true → doneL L i → doneL L k
  | 0, _, _, h, _ => by simp [Go.Proofs.Ytjhcalgamcdgiaa.needs] at h
  | n + 1, i, k, h, d => by
    unfold Go.Proofs.Ytjhcalgamcdgiaa.needs at h
    rw [List.any_eq_true] at h
    obtain ⟨m, -, h⟩ := h
    simp only [Bool.and_eq_true, Bool.or_eq_true, beq_iff_eq] at h
    obtain ⟨h1, h2⟩ := h
    have dm := C i m d h1
    rcases h2 with rfl | h2
    · exact dm
    · exact C.needs n m k h2 dm
theorem done_set {L : List (Option Value)} {i : Nat} {v : Value} (hn : L[i]? = some none) (k : Nat) : doneL (L.set i (some v)) k ↔ k = i ∨ doneL L k := by
  unfold doneL
  have hl : i < L.length := (List.getElem?_eq_some_iff.1 hn).1
  by_cases e : k = i
  · subst e; rw [List.getElem?_set_self hl]; simp
  · rw [List.getElem?_set_ne (Ne.symm e)]; simp [e]
theorem Closed.set {ops : Array Oper} {L : List (Option Value)} (C : Closed ops L) {i : Nat} {o : Oper} {v : Value} (ho : ops[i]? = some o) (hn : L[i]? = some none)
    (hd : ∀ e ∈ o.after, Region.binds .any e = true → ∃ v, L[e.on]? = some (some v)) : Closed ops (L.set i (some v)) := by
  intro k m dk wk
  rw [done_set hn] at dk ⊢
  rcases dk with rfl | dk
  · right
    unfold waitsAt at wk
    rw [ho] at wk
    simp only [Option.map_some, Option.getD_some] at wk
    unfold waits at wk
    rw [List.any_eq_true] at wk
    obtain ⟨e, he, h2⟩ := wk
    simp only [Bool.and_eq_true, beq_iff_eq] at h2
    have := hd e (Array.mem_toList_iff.1 he) h2.2
    rw [h2.1] at this
    exact this
  · exact .inr (C k m dk wk)
theorem Closed.none (ops : Array Oper) (n : Nat) : Closed ops (nones n) := by
  intro i k h
  obtain ⟨v, hv⟩ := h
  exact absurd hv (nones_get _ _ _)

/-- what an operation comes to: a value, or a call's answer; but for what it makes, the world stands -/
inductive Came (o : Oper) (a : Act) (w : World) (v : Value) : Prop
  | value (w' : World) (r : (execOp a.eval o).run Try.prog w = .ok (.value v) w') (k : Below w.heap.size w w')
  | call (f : FuncId) (args : Array Value) (r : (execOp a.eval o).run Try.prog w = .ok (.enter f args) w) (k : Calls Try.prog f args w fun e w' => e = .returned v ∧ Below w.heap.size w w')

/-- a store of a region: which operation, into which of the blocks, where that lies, what -/
structure St where
  i : Nat
  j : Nat
  g : Nat
  s : Nat
  t : Nat
/-- the blocks as they are when L has come up -/
structure Curr (C D : List (Nat × Nat × Nat)) (sts : List St) (L : List (Option Value)) : Prop where
  len : D.length = C.length
  old : ∀ j, (∀ st ∈ sts, st.j = j → ¬ doneL L st.i) → D[j]? = C[j]?
  new : ∀ st ∈ sts, doneL L st.i → D[st.j]? = some (st.g, st.s, st.t)

section
variable {ops : Array Oper} {Q : Exit → Act → World → Prop}
theorem wp_region_sts {id : Nat} {a0 : Act} {w w0 : World} {C : List (Nat × Nat × Nat)} (E : List (Nat × Nat × Nat)) (sts : List St) (dv : List Value) (ds : List (Option Tmp))
    (hm : Try.prog.follows .mixedOrders = true) (hds : ops.toList.map (·.dst) = ds) (hap : apartL ds = true) (hb : backward ops = true) (hg : plainL ops = true) (hl : dv.length = ops.size) (hC : Cls w0 C w)
    (hE2 : ∀ j, (∀ st ∈ sts, st.j ≠ j) → E[j]? = C[j]?) (hE3 : ∀ st ∈ sts, E[st.j]? = some (st.g, st.s, st.t))
    (hj : ∀ st ∈ sts, ∃ x y, C[st.j]? = some (st.g, x, y)) (hi : ∀ st ∈ sts, ∀ st' ∈ sts, (st.j = st'.j ∨ st.i = st'.i) → st = st') (his : ∀ st ∈ sts, st.i < ops.size)
    (J : World → Prop) (hJ0 : J w.drew) (hJb : ∀ w w', J w → Below w.heap.size w w' → J w') (hJs : ∀ st ∈ sts, ∀ w, J w → J (put2 w st.g st.s st.t))
    (step : ∀ (L : List (Option Value)) (w : World) (i : Nat) (o : Oper), ops[i]? = some o → (∀ st ∈ sts, st.i ≠ i) → (∀ k, waits o k = true → L[k]? = some (some (dv.getD k undef))) →
      (∀ (j g x y : Nat), C[j]? = some (g, x, y) → (∀ st ∈ sts, st.j = j → needs ops ops.size st.i i = true) → Blk w g x y) → J w → Came o (puts ds L a0) w (dv.getD i undef))
    (store : ∀ st ∈ sts, ∀ (L : List (Option Value)) (w : World) (o : Oper) (x y : Nat), ops[st.i]? = some o → (∀ k, waits o k = true → L[k]? = some (some (dv.getD k undef))) → Blk w st.g x y →
      (execOp (puts ds L a0).eval o).run Try.prog w = .ok .skip (put2 w st.g st.s st.t) ∧ dv.getD st.i undef = undef)
    (fin : ∀ w', Cls w0 E w' → J w' → Q .normal (puts ds (dv.map some) a0) w') : (Code.region id ops true).wp Try.prog Q a0 w := by
  refine wp_region_inv hm ds hds hap hb hg (fun L w => (∀ i v, L[i]? = some (some v) → v = dv.getD i undef) ∧ Closed ops L ∧ J w ∧ ∃ D, Curr C D sts L ∧ Cls w0 D w) ?_ ?_ ?_
  · refine ⟨fun i v h => absurd h (nones_get _ _ _), Closed.none _ _, hJ0, C, ⟨rfl, fun _ _ => rfl, fun st _ h => ?_⟩, hC.draws⟩
    obtain ⟨v, hv⟩ := h
    exact absurd hv (nones_get _ _ _)
  · intro L w i o hL ho hn hd ⟨hdet, hcl, hJ, D, hD, hK⟩
    have hd' : ∀ k, waits o k = true → L[k]? = some (some (dv.getD k undef)) := fun k hk => by
      unfold waits at hk
      rw [List.any_eq_true] at hk
      obtain ⟨e, he, h2⟩ := hk
      simp only [Bool.and_eq_true, beq_iff_eq] at h2
      obtain ⟨v, hv⟩ := hd e (Array.mem_toList_iff.1 he) h2.2
      rw [h2.1] at hv
      rw [hv, hdet k v hv]
    have key : ∀ v, v = dv.getD i undef → ∀ k u, (L.set i (some v))[k]? = some (some u) → u = dv.getD k undef := fun v hv k u hk => by
      by_cases hik : i = k
      · subst hik
        have : i < L.length := (List.getElem?_eq_some_iff.1 hn).1
        rw [List.getElem?_set_self this] at hk
        rw [← Option.some.inj (Option.some.inj hk)]; exact hv
      · rw [List.getElem?_set_ne hik] at hk; exact hdet k u hk
    have nd : ¬ doneL L i := fun ⟨v, hv⟩ => by rw [hn] at hv; simp at hv
    by_cases hs : ∃ st ∈ sts, st.i = i
    · obtain ⟨st, hst, rfl⟩ := hs
      obtain ⟨x, y, hc⟩ := hj st hst
      have hDj : D[st.j]? = some (st.g, x, y) := by
        rw [hD.old st.j fun st' hst' e => by rw [hi st' hst' st hst (.inl e)]; exact nd]; exact hc
      have B := hK.at_ st.j hDj
      obtain ⟨r, u⟩ := store st hst L w o x y ho hd' B
      unfold Oper.wp; rw [r]
      refine ⟨undef, rfl, key _ u.symm, hcl.set ho hn hd, hJs st hst w hJ, D.set st.j (st.g, st.s, st.t), ⟨by simp [hD.len], fun j h => ?_, fun st' hst' h => ?_⟩, hK.put st.j hDj st.s st.t⟩
      · have hne : st.j ≠ j := fun e => h st hst e ((done_set hn _).2 (.inl rfl))
        rw [List.getElem?_set_ne hne]
        exact hD.old j fun st' hst' e d => h st' hst' e ((done_set hn _).2 (.inr d))
      · have hjl : st.j < D.length := (List.getElem?_eq_some_iff.1 hDj).1
        by_cases e : st.j = st'.j
        · have := hi st hst st' hst' (.inl e)
          subst this
          rw [List.getElem?_set_self hjl]
        · rw [List.getElem?_set_ne e]
          rcases (done_set hn _).1 h with q | q
          · exact absurd (hi st' hst' st hst (.inr q)) (fun z => e (by rw [z]))
          · exact hD.new st' hst' q
    · have hs' : ∀ st ∈ sts, st.i ≠ i := fun st hst e => hs ⟨st, hst, e⟩
      have hB : ∀ (j g x y : Nat), C[j]? = some (g, x, y) → (∀ st ∈ sts, st.j = j → needs ops ops.size st.i i = true) → Blk w g x y := fun j g x y h hh => by
        refine hK.at_ j ?_
        rw [hD.old j fun st hst e d => nd (hcl.needs _ _ _ (hh st hst e) d)]
        exact h
      have hcur : ∀ v, Curr C D sts (L.set i (some v)) := fun v => ⟨hD.len, fun j h => hD.old j fun st hst e d => h st hst e ((done_set hn _).2 (.inr d)), fun st hst h => by
        rcases (done_set hn _).1 h with q | q
        · exact absurd q (hs' st hst)
        · exact hD.new st hst q⟩
      rcases step L w i o ho hs' hd' hB hJ with ⟨w', r, k⟩ | ⟨f, args, r, k⟩
      · unfold Oper.wp; rw [r]
        exact ⟨_, rfl, key _ rfl, hcl.set ho hn hd, hJb _ _ hJ k, D, hcur _, hK.on k⟩
      · unfold Oper.wp; rw [r]
        refine Calls.mono k fun e w' hh => ?_
        obtain ⟨rfl, hS⟩ := hh
        exact ⟨_, rfl, key _ rfl, hcl.set ho hn hd, hJb _ _ hJ hS, D, hcur _, hK.on hS⟩
  · intro L w hL hall hh
    obtain ⟨hdet, -, hJ, D, hD, hK⟩ := hh
    have e : L = dv.map some := by
      refine List.ext_getElem? fun i => ?_
      by_cases hi : i < ops.size
      · obtain ⟨v, hv⟩ := hall i hi
        rw [hv, hdet i v hv]
        simp [List.getD, hl, hi]
      · rw [List.getElem?_eq_none (by omega), List.getElem?_eq_none (by simp; omega)]
    have eD : D = E := by
      refine List.ext_getElem? fun j => ?_
      by_cases q : ∃ st ∈ sts, st.j = j
      · obtain ⟨st, hst, rfl⟩ := q
        rw [hE3 st hst]
        exact hD.new st hst (hall _ (his st hst))
      · have q' : ∀ st ∈ sts, st.j ≠ j := fun st hst e => q ⟨st, hst, e⟩
        rw [hE2 j q']
        exact hD.old j fun st hst e => absurd e (q' st hst)
    rw [e]
    rw [eD] at hK
    exact fin w hK hJ

/-- one block is made, and stored into -/
theorem wp_region_var {id : Nat} {a0 : Act} {w w0 : World} {C : List (Nat × Nat × Nat)} (ia is s t : Nat) (dv : List Value) (ds : List (Option Tmp))
    (hm : Try.prog.follows .mixedOrders = true) (hds : ops.toList.map (·.dst) = ds) (hap : apartL ds = true) (hb : backward ops = true) (hg : plainL ops = true) (hl : dv.length = ops.size) (hC : Cls w0 C w)
    (hw : waitsAt ops is ia = true) (hia : ia < ops.size) (his : is < ops.size)
    (alloc : ∀ o, ops[ia]? = some o → o.op = .alloc 25)
    (step : ∀ (L : List (Option Value)) (w : World) (i : Nat) (o : Oper), ops[i]? = some o → i ≠ ia → i ≠ is → (∀ k, waits o k = true → k ≠ ia → L[k]? = some (some (dv.getD k undef))) →
      (∀ (j g x y : Nat), C[j]? = some (g, x, y) → Blk w g x y) → Came o (puts ds L a0) w (dv.getD i undef))
    (store : ∀ (L : List (Option Value)) (w : World) (o : Oper) (h x y : Nat), ops[is]? = some o → (∀ k, waits o k = true → k ≠ ia → L[k]? = some (some (dv.getD k undef))) → L[ia]? = some (some (.pointer (some ⟨h, 0, none⟩))) → Blk w h x y →
      (execOp (puts ds L a0).eval o).run Try.prog w = .ok .skip (put2 w h s t) ∧ dv.getD is undef = undef)
    (fin : ∀ h w', Cls w0 (C ++ [(h, s, t)]) w' → Q .normal (puts ds ((dv.map some).set ia (some (.pointer (some ⟨h, 0, none⟩)))) a0) w') : (Code.region id ops true).wp Try.prog Q a0 w := by
  refine wp_region_inv hm ds hds hap hb hg (fun L w => (∀ i v, i ≠ ia → L[i]? = some (some v) → v = dv.getD i undef) ∧ Closed ops L ∧
    ((¬ doneL L ia ∧ Cls w0 C w) ∨ ∃ h x y, L[ia]? = some (some (.pointer (some ⟨h, 0, none⟩))) ∧ Cls w0 (C ++ [(h, x, y)]) w ∧ (doneL L is → x = s ∧ y = t))) ?_ ?_ ?_
  · refine ⟨fun i v _ h => absurd h (nones_get _ _ _), Closed.none _ _, .inl ⟨fun ⟨v, hv⟩ => absurd hv (nones_get _ _ _), hC.draws⟩⟩
  · intro L w i o hL ho hn hd ⟨hdet, hcl, hK⟩
    have hd' : ∀ k, waits o k = true → k ≠ ia → L[k]? = some (some (dv.getD k undef)) := fun k hk hka => by
      unfold waits at hk
      rw [List.any_eq_true] at hk
      obtain ⟨e, he, h2⟩ := hk
      simp only [Bool.and_eq_true, beq_iff_eq] at h2
      obtain ⟨v, hv⟩ := hd e (Array.mem_toList_iff.1 he) h2.2
      rw [h2.1] at hv
      rw [hv, hdet k v hka hv]
    have hil : i < L.length := (List.getElem?_eq_some_iff.1 hn).1
    have key : ∀ v, (i ≠ ia → v = dv.getD i undef) → ∀ k u, k ≠ ia → (L.set i (some v))[k]? = some (some u) → u = dv.getD k undef := fun v hv k u hka hk => by
      by_cases hik : i = k
      · subst hik
        rw [List.getElem?_set_self hil] at hk
        rw [← Option.some.inj (Option.some.inj hk)]; exact hv hka
      · rw [List.getElem?_set_ne hik] at hk; exact hdet k u hka hk
    have nd : ¬ doneL L i := fun ⟨v, hv⟩ => by rw [hn] at hv; simp at hv
    by_cases ea : i = ia
    · subst ea
      have hoa := alloc o ho
      rcases hK with ⟨-, hK⟩ | ⟨h, x, y, e, -⟩
      · have r := ex_alloc (ρ := (puts ds L a0).eval) w hoa
        unfold Oper.wp; rw [r]
        refine ⟨_, rfl, key _ (fun e => absurd rfl e), hcl.set ho hn hd, .inr ⟨w.heap.size, 0, 0, ?_, hK.new 0 0, fun d => ?_⟩⟩
        · rw [List.getElem?_set_self hil]
        · rcases (done_set hn _).1 d with q | q
          · exact absurd (hcl.needs ops.size is i (by
              have : ops.size ≠ 0 := by omega
              obtain ⟨n, hn'⟩ : ∃ n, ops.size = n + 1 := ⟨ops.size - 1, by omega⟩
              rw [hn']
              unfold needs
              rw [List.any_eq_true]
              exact ⟨i, List.mem_range.2 hia, by simp [hw]⟩)) (fun z => by
                have hs : waitsAt ops is i = true := hw
                rw [q] at hs
                unfold waitsAt at hs
                rw [ho] at hs
                simp only [Option.map_some, Option.getD_some] at hs
                unfold waits at hs
                rw [List.any_eq_true] at hs
                obtain ⟨e, he, h2⟩ := hs
                simp only [Bool.and_eq_true, beq_iff_eq] at h2
                have := hd e (Array.mem_toList_iff.1 he) h2.2
                rw [h2.1] at this
                exact nd this)
          · exact absurd (hcl is i q hw) nd
      · rw [e] at hn; simp at hn
    · by_cases es : i = is
      · subst es
        have da : doneL L ia := by
          have hs := hw
          unfold waitsAt at hs
          rw [ho] at hs
          simp only [Option.map_some, Option.getD_some] at hs
          unfold waits at hs
          rw [List.any_eq_true] at hs
          obtain ⟨e, he, h2⟩ := hs
          simp only [Bool.and_eq_true, beq_iff_eq] at h2
          have := hd e (Array.mem_toList_iff.1 he) h2.2
          rw [h2.1] at this
          exact this
        rcases hK with ⟨q, -⟩ | ⟨h, x, y, e, hK, -⟩
        · exact absurd da q
        · have hlast : (C ++ [(h, x, y)])[C.length]? = some (h, x, y) := by simp
          have B := hK.at_ C.length hlast
          obtain ⟨r, u⟩ := store L w o h x y ho hd' e B
          unfold Oper.wp; rw [r]
          refine ⟨undef, rfl, key _ (fun _ => u.symm), hcl.set ho hn hd, .inr ⟨h, s, t, by rw [List.getElem?_set_ne ea]; exact e, ?_, fun _ => ⟨rfl, rfl⟩⟩⟩
          have := hK.put C.length hlast s t
          simpa using this
      · have hB : ∀ (j g x y : Nat), C[j]? = some (g, x, y) → Blk w g x y := fun j g x y h => by
          rcases hK with ⟨-, hK⟩ | ⟨h', x', y', -, hK, -⟩
          · exact hK.at_ j h
          · exact hK.at_ j (by rw [List.getElem?_append_left (List.getElem?_eq_some_iff.1 h).1]; exact h)
        have hK' : ∀ v w', Below w.heap.size w w' → (¬ doneL (L.set i (some v)) ia ∧ Cls w0 C w') ∨ ∃ h x y, (L.set i (some v))[ia]? = some (some (.pointer (some ⟨h, 0, none⟩))) ∧ Cls w0 (C ++ [(h, x, y)]) w' ∧ (doneL (L.set i (some v)) is → x = s ∧ y = t) := fun v w' k => by
          rcases hK with ⟨q, hK⟩ | ⟨h, x, y, e, hK, d⟩
          · refine .inl ⟨fun z => ?_, hK.on k⟩
            rcases (done_set hn _).1 z with z | z
            · exact ea z.symm
            · exact q z
          · refine .inr ⟨h, x, y, by rw [List.getElem?_set_ne ea]; exact e, hK.on k, fun z => ?_⟩
            rcases (done_set hn _).1 z with z | z
            · exact absurd z.symm es
            · exact d z
        rcases step L w i o ho ea es hd' hB with ⟨w', r, k⟩ | ⟨f, args, r, k⟩
        · unfold Oper.wp; rw [r]
          exact ⟨_, rfl, key _ (fun _ => rfl), hcl.set ho hn hd, hK' _ _ k⟩
        · unfold Oper.wp; rw [r]
          refine Calls.mono k fun e w' hh => ?_
          obtain ⟨rfl, hS⟩ := hh
          exact ⟨_, rfl, key _ (fun _ => rfl), hcl.set ho hn hd, hK' _ _ hS⟩
  · intro L w hL hall ⟨hdet, hcl, hK⟩
    rcases hK with ⟨q, -⟩ | ⟨h, x, y, e, hK, d⟩
    · exact absurd (hall ia hia) q
    · obtain ⟨rfl, rfl⟩ := d (hall is his)
      have eL : L = (dv.map some).set ia (some (.pointer (some ⟨h, 0, none⟩))) := by
        refine List.ext_getElem? fun i => ?_
        by_cases hi : i < ops.size
        · by_cases q : ia = i
          · subst q
            rw [e, List.getElem?_set_self (by simp; omega)]
          · obtain ⟨v, hv⟩ := hall i hi
            rw [List.getElem?_set_ne q, hv, hdet i v (Ne.symm q) hv]
            simp [List.getD, hl, hi]
        · rw [List.getElem?_eq_none (by omega), List.getElem?_eq_none (by simp; omega)]
      rw [eL]
      exact fin h w hK
end
end Go.Proofs.Ytjhcalgamcdgiaa

namespace Go.Proofs.Ytjhcalgamcdgiaa
open Go.ChangeShapes Go.WideShapes Go.ChangeAt Go.RowKit Ieee.Own

/-- a span's words -/
abbrev Pr := Nat × Nat
def pv (p : Pr) : Value := spanV p.1 p.2
def ps (p : Pr) : Sp := sp p.1 p.2
structure Sn (p : Pr) (m : Nat) : Prop where
  l1 : p.1 < 18446744073709551616
  l2 : p.2 < 18446744073709551616
  ok : errS p.1 p.2 = 0
  bd : Bnd p.1 p.2 m
theorem Sn.le {p : Pr} {m n : Nat} (h : Sn p m) (hm : m ≤ n) : Sn p n := ⟨h.l1, h.l2, h.ok, abs_up h.bd.1 (by omega), abs_up h.bd.2 (by omega)⟩
theorem Sn.fits {p : Pr} {m : Nat} (h : Sn p m) : fitB p.1 = true ∧ fitB p.2 = true ∧ V p.1 ≤ V p.2 := errS_zero h.ok

def AddR (p q u : Pr) : Prop := OpIs (errSS p.1 p.2 q.1 q.2) (fun v => V p.1 + V q.1 - v) (fun v => V p.2 + V q.2 - v) (.returned (spanE u.1 u.2 0))
def MulR (p q u : Pr) : Prop := OpAll (errSS p.1 p.2 q.1 q.2) [prodC p.1 q.1, prodC p.1 q.2, prodC p.2 q.1, prodC p.2 q.2] [prodC p.1 q.1, prodC p.1 q.2, prodC p.2 q.1, prodC p.2 q.2] (.returned (spanE u.1 u.2 0))
def SqR (p u : Pr) : Prop := OpAll (errS p.1 p.2) (sqLo p.1 p.2) (sqHi p.1 p.2) (.returned (spanE u.1 u.2 0))
def NegR (p u : Pr) : Prop := OpIs (errS p.1 p.2) (fun v => -V p.2 - v) (fun v => -V p.1 - v) (.returned (spanE u.1 u.2 0))

theorem pair_of {a b c d : Nat} {k l : Int} (h : Ending.returned (spanE a b k) = .returned (spanE c d l)) : ((a, b) : Pr) = (c, d) := by
  obtain ⟨rfl, rfl, -⟩ := spanE_inj (Ending.returned.inj h)
  rfl
theorem AddR.uniq {p q u v : Pr} (h : AddR p q u) (k : AddR p q v) : u = v := pair_of (h.all.uniq k.all)
theorem MulR.uniq {p q u v : Pr} (h : MulR p q u) (k : MulR p q v) : u = v := pair_of (OpAll.uniq h k)
theorem SqR.uniq {p u v : Pr} (h : SqR p u) (k : SqR p v) : u = v := pair_of (OpAll.uniq h k)
theorem NegR.uniq {p u v : Pr} (h : NegR p u) (k : NegR p v) : u = v := pair_of (h.all.uniq k.all)

theorem add_step {p q : Pr} {m : Nat} (hp : Sn p m) (hq : Sn q m) (hm : m + 1 < 100) : ∃ u, Sn u (m + 1) ∧ AddR p q u ∧ AddSp (ps p) (ps q) (ps u) := by
  obtain ⟨f1, f2, -⟩ := hp.fits
  obtain ⟨g1, g2, -⟩ := hq.fits
  obtain ⟨s, e, R, ⟨-, -, K, hK, hs, -⟩, -⟩ := sum_fit p.1 q.1 hp.l1 hq.l1 f1 g1
  obtain ⟨t, d, R', ⟨-, -, K', hK', hs', -⟩, -⟩ := sum_fit p.2 q.2 hp.l2 hq.l2 f2 g2
  have A := sum_dn R (bd_of hs hK)
  have B := sum_up R' (bd_of hs' hK')
  have h0 := errSS_of' hp.ok hq.ok
  obtain ⟨x, y, c, ht⟩ := toldE_span (dnW (V e < 0) s) (upW (0 < V d) t)
  have O : OpIs (errSS p.1 p.2 q.1 q.2) (fun v => V p.1 + V q.1 - v) (fun v => V p.2 + V q.2 - v) (.returned (spanE x y c)) := ⟨fun _ => ⟨_, _, by rw [ht], A, B⟩, fun h => absurd h0 h⟩
  obtain ⟨rfl, e0, b, S⟩ := sum_ok hp.ok hq.ok hp.bd hq.bd hm O
  obtain ⟨lx, ly, -⟩ := O.all.bd
  exact ⟨(x, y), ⟨lx, ly, e0, b⟩, O, S⟩
theorem mul_step {p q : Pr} {i j : Nat} (hp : Sn p i) (hq : Sn q j) (hm : i + j < 100) : ∃ u, Sn u (i + j) ∧ MulR p q u ∧ MulSp (ps p) (ps q) (ps u) := by
  obtain ⟨f1, f2, -⟩ := hp.fits
  obtain ⟨g1, g2, -⟩ := hq.fits
  obtain ⟨_, _, -, -, -, d1, u1⟩ := rcorner hp.l1 hq.l1 f1 g1
  obtain ⟨_, _, -, -, -, d2, u2⟩ := rcorner hp.l1 hq.l2 f1 g2
  obtain ⟨_, _, -, -, -, d3, u3⟩ := rcorner hp.l2 hq.l1 f2 g1
  obtain ⟨_, _, -, -, -, d4, u4⟩ := rcorner hp.l2 hq.l2 f2 g2
  have F := four_of d1 d2 d3 d4 u1 u2 u3 u4 (falls_prod _ _) (falls_prod _ _) (falls_prod _ _) (falls_prod _ _)
  have h0 := errSS_of' hp.ok hq.ok
  obtain ⟨x, y, c, ht⟩ := toldE_span _ _
  have O : OpAll (errSS p.1 p.2 q.1 q.2) [prodC p.1 q.1, prodC p.1 q.2, prodC p.2 q.1, prodC p.2 q.2] [prodC p.1 q.1, prodC p.1 q.2, prodC p.2 q.1, prodC p.2 q.2] (.returned (spanE x y c)) := ⟨fun _ => ⟨_, _, by rw [ht], F.lo, F.hi⟩, fun h => absurd h0 h⟩
  obtain ⟨rfl, e0, b, S⟩ := prod_ok hp.l1 hp.l2 hq.l1 hq.l2 hp.ok hq.ok hp.bd hq.bd hm O
  obtain ⟨lx, ly, -⟩ := O.bd
  exact ⟨(x, y), ⟨lx, ly, e0, b⟩, O, S⟩
theorem zero_dn : Dn (fun v => 0 - v) 0 := ⟨zero_fin, by rw [V_zero]; exact Int.le_refl _, fun u _ h => by rw [V_zero]; omega⟩
theorem sq_dn_ex {p : Pr} {m : Nat} (hp : Sn p m) : ∃ w, DnAll (sqLo p.1 p.2) w := by
  obtain ⟨f1, f2, -⟩ := hp.fits
  obtain ⟨_, _, -, -, -, d1, u1⟩ := rcorner hp.l1 hp.l1 f1 f1
  obtain ⟨_, _, -, -, -, d2, u2⟩ := rcorner hp.l2 hp.l2 f2 f2
  unfold sqLo
  split
  · exact ⟨_, d1.all⟩
  · split
    · exact ⟨_, d2.all⟩
    · exact ⟨_, zero_dn.all⟩
theorem sq_up_ex {p : Pr} {m : Nat} (hp : Sn p m) : ∃ w, UpAll (sqHi p.1 p.2) w := by
  obtain ⟨f1, f2, -⟩ := hp.fits
  obtain ⟨_, _, -, -, -, d1, u1⟩ := rcorner hp.l1 hp.l1 f1 f1
  obtain ⟨_, _, -, -, -, d2, u2⟩ := rcorner hp.l2 hp.l2 f2 f2
  unfold sqHi
  split
  · exact ⟨_, u2.all⟩
  · split
    · exact ⟨_, u1.all⟩
    · exact ⟨_, u1.all.more u2 (fun d hd => by rw [List.mem_singleton.1 hd]; exact falls_prod _ _) (falls_prod _ _)⟩
theorem sq_step {p : Pr} {i : Nat} (hp : Sn p i) (hm : i + i < 100) : ∃ u, Sn u (i + i) ∧ SqR p u ∧ SqSp (ps p) (ps u) := by
  obtain ⟨lo, A⟩ := sq_dn_ex hp
  obtain ⟨hi, B⟩ := sq_up_ex hp
  obtain ⟨x, y, c, ht⟩ := toldE_span lo hi
  have O : OpAll (errS p.1 p.2) (sqLo p.1 p.2) (sqHi p.1 p.2) (.returned (spanE x y c)) := ⟨fun _ => ⟨lo, hi, by rw [ht], A, B⟩, fun h => absurd hp.ok h⟩
  obtain ⟨rfl, e0, b, S⟩ := square_ok hp.l1 hp.l2 hp.ok hp.bd hm O
  obtain ⟨lx, ly, -⟩ := O.bd
  exact ⟨(x, y), ⟨lx, ly, e0, b⟩, O, S⟩

theorem neg_step {p : Pr} {m : Nat} (hp : Sn p m) : ∃ u, Sn u m ∧ NegR p u ∧ V u.1 = -V p.2 ∧ V u.2 = -V p.1 := by
  obtain ⟨f1, f2, le⟩ := hp.fits
  have g1 := fit_fin hp.l1 f1
  have g2 := fit_fin hp.l2 f2
  have n1 := negW_fin g1
  have n2 := negW_fin g2
  have v1 := negW_V g1
  have v2 := negW_V g2
  have A : Dn (fun v => -V p.2 - v) (negW p.2) := ⟨n2, by rw [v2]; omega, fun u _ h => by rw [v2]; omega⟩
  have B : Up (fun v => -V p.1 - v) (negW p.1) := ⟨n1, by rw [v1]; omega, fun u _ h => by rw [v1]; omega⟩
  have l1 := fit_low n1.1 (by rw [fit_neg hp.l1]; exact f1)
  have l2 := fit_low n2.1 (by rw [fit_neg hp.l2]; exact f2)
  have k1 := fit_most n1.1 (by rw [fit_neg hp.l1]; exact f1)
  have k2 := fit_most n2.1 (by rw [fit_neg hp.l2]; exact f2)
  have ht : toldE (negW p.2) (negW p.1) = spanE (lowW (negW p.2)) (highW (negW p.1)) 0 := by
    unfold toldE
    rw [if_neg (by rw [l2.2.2.1, l1.2.2.2]; omega)]
  have O : OpIs (errS p.1 p.2) (fun v => -V p.2 - v) (fun v => -V p.1 - v) (.returned (spanE (lowW (negW p.2)) (highW (negW p.1)) 0)) := ⟨fun _ => ⟨_, _, by rw [ht], A, B⟩, fun h => absurd hp.ok h⟩
  have w1 : V (lowW (negW p.2)) = -V p.2 := by rw [l2.2.2.1, v2]
  have w2 : V (highW (negW p.1)) = -V p.1 := by rw [l1.2.2.2, v1]
  obtain ⟨lx, ly, -, o⟩ := O.all.bd
  obtain ⟨_, _, -, -, _, _, e0⟩ := o rfl (fun lo hi d u => by
    have a := d.le _ (List.mem_singleton.2 rfl)
    have b := u.ge _ (List.mem_singleton.2 rfl)
    replace a : 0 ≤ -V p.2 - V lo := a
    replace b : -V p.1 - V hi ≤ 0 := b
    omega)
  refine ⟨(lowW (negW p.2), highW (negW p.1)), ⟨lx, ly, e0, ?_⟩, O, w1, w2⟩
  have := hp.bd
  exact ⟨by show (V (lowW (negW p.2))).natAbs ≤ _; rw [w1, Int.natAbs_neg]; exact this.2, by show (V (highW (negW p.1))).natAbs ≤ _; rw [w2, Int.natAbs_neg]; exact this.1⟩
/-! ### the series -/
def noneW : Nat := 13830554455654793216
def tauS : Pr := (tauW, nextW tauW)
def oneS : Pr := (oneW, oneW)
def epsS : Pr := (13546827679130451968, 4323455642275676160)
def epsC : Pr := (13569345677267304448, 4345973640412528640)
def facS (a : Nat) : Pr := (prevW a, nextW a)
theorem sn_tau : Sn tauS 3 := ⟨by decide +kernel, by decide +kernel, by decide +kernel, by unfold Bnd; decide +kernel⟩
theorem sn_one : Sn oneS 0 := ⟨by decide +kernel, by decide +kernel, by decide +kernel, by unfold Bnd; decide +kernel⟩
theorem sn_epsS : Sn epsS 0 := ⟨by decide +kernel, by decide +kernel, by decide +kernel, by unfold Bnd; decide +kernel⟩
theorem sn_epsC : Sn epsC 0 := ⟨by decide +kernel, by decide +kernel, by decide +kernel, by unfold Bnd; decide +kernel⟩
theorem fac_all : ∀ w ∈ sinW ++ cosW, (prevW w < 18446744073709551616 ∧ nextW w < 18446744073709551616) ∧ errS (prevW w) (nextW w) = 0 ∧ (V (prevW w)).natAbs ≤ 2 ^ (1074 + 0) ∧ (V (nextW w)).natAbs ≤ 2 ^ (1074 + 0) := by decide +kernel
theorem sn_fac {w : Nat} (h : w ∈ sinW ++ cosW) : Sn (facS w) 0 := by
  obtain ⟨⟨a, b⟩, c, d, e⟩ := fac_all w h
  exact ⟨a, b, c, d, e⟩
theorem sn_zero : Sn (0, 0) 0 := ⟨by decide, by decide, by decide +kernel, by unfold Bnd; decide +kernel⟩

def SerR (Z : Pr) : List Nat → Pr → Prop
  | [], P => P = (0, 0)
  | a :: al, P => ∃ P' M, SerR Z al P' ∧ MulR Z P' M ∧ AddR (facS a) M P
theorem SerR.uniq {Z : Pr} : ∀ {al : List Nat} {P R : Pr}, SerR Z al P → SerR Z al R → P = R
  | [], P, R, h, k => by
    have h : P = (0, 0) := h
    have k : R = (0, 0) := k
    rw [h, k]
  | _ :: _, _, _, ⟨_, _, h1, h2, h3⟩, ⟨_, _, k1, k2, k3⟩ => by
    obtain rfl := SerR.uniq h1 k1
    obtain rfl := h2.uniq k2
    exact h3.uniq k3
theorem ser_step {Z : Pr} (hz : Sn Z 6) : ∀ (al : List Nat), (∀ a ∈ al, a ∈ sinW ++ cosW) → al.length ≤ 8 → ∃ P, Sn P (7 * al.length) ∧ SerR Z al P ∧ Ser (ps Z) (al.map fun w => sp (prevW w) (nextW w)) (ps P)
  | [], _, _ => ⟨(0, 0), sn_zero, rfl, by
    show ps (0, 0) = (0, 0)
    unfold ps sp
    have : Q 0 = 0 := by decide +kernel
    rw [this]⟩
  | a :: al, h, hl => by
    have hl' : al.length + 1 ≤ 8 := hl
    obtain ⟨P', s1, r1, e1⟩ := ser_step hz al (fun x hx => h x (List.mem_cons_of_mem _ hx)) (by omega)
    obtain ⟨M, s2, r2, e2⟩ := mul_step hz s1 (by omega)
    obtain ⟨P, s3, r3, e3⟩ := add_step ((sn_fac (h a (List.mem_cons_self ..))).le (Nat.zero_le (6 + 7 * al.length))) s2 (by omega)
    have hm : 6 + 7 * al.length + 1 = 7 * (a :: al).length := by simp only [List.length_cons]; omega
    rw [hm] at s3
    exact ⟨P, s3, ⟨P', M, r1, r2, r3⟩, ⟨ps P', ps M, e1, e2, e3⟩⟩

/-- the spans of a rest's sine and cosine, step by step -/
structure Sur (r : Nat) (Y Z P M N W S P2 M2 W2 C : Pr) : Prop where
  y : MulR (r, r) tauS Y
  z : SqR Y Z
  p : SerR Z sinW P
  m : MulR Z P M
  n : MulR Y M N
  w : AddR Y N W
  s : AddR W epsS S
  p2 : SerR Z cosW P2
  m2 : MulR Z P2 M2
  w2 : AddR oneS M2 W2
  c : AddR W2 epsC C
def SurR (r : Nat) (S C : Pr) : Prop := ∃ Y Z P M N W P2 M2 W2, Sur r Y Z P M N W S P2 M2 W2 C
theorem SurR.uniq {r : Nat} {S C S' C' : Pr} (h : SurR r S C) (k : SurR r S' C') : S = S' ∧ C = C' := by
  obtain ⟨Y, Z, P, M, N, W, P2, M2, W2, h⟩ := h
  obtain ⟨Y', Z', P', M', N', W', P2', M2', W2', k⟩ := k
  obtain rfl := h.y.uniq k.y
  obtain rfl := h.z.uniq k.z
  obtain rfl := h.p.uniq k.p
  obtain rfl := h.m.uniq k.m
  obtain rfl := h.n.uniq k.n
  obtain rfl := h.w.uniq k.w
  obtain rfl := h.p2.uniq k.p2
  obtain rfl := h.m2.uniq k.m2
  obtain rfl := h.w2.uniq k.w2
  exact ⟨h.s.uniq k.s, h.c.uniq k.c⟩

/-- every span that comes up is fit -/
structure SurB (Y Z P M N W S P2 M2 W2 C : Pr) : Prop where
  y : Sn Y 3
  z : Sn Z 6
  p : Sn P 56
  m : Sn M 62
  n : Sn N 65
  w : Sn W 66
  s : Sn S 67
  p2 : Sn P2 56
  m2 : Sn M2 62
  w2 : Sn W2 63
  c : Sn C 64

theorem rest_fit {x r : Nat} (hx : x < 18446744073709551616) (fx : fitB x = true) (R : Rst x r) : fitB r = true := by
  rw [fit_iff R.nz.fin]
  by_cases r0 : V r = 0
  · exact .inl r0
  · right
    have b := rq_bd eig_pos (V x)
    have lm : eig ≤ mostV := by decide +kernel
    have ll : leastV ≤ 2 ^ 1018 := by decide +kernel
    have e : V x = 2 * eig * kq eig (V x) + rq eig (V x) := by unfold rq; omega
    refine ⟨?_, by rw [R.v]; omega⟩
    by_cases k0 : kq eig (V x) = 0
    · have : V r = V x := by rw [R.v]; unfold rq; rw [k0]; omega
      rw [this]
      rcases (fit_iff (fit_fin hx fx)).1 fx with z | z
      · omega
      · exact z.1
    · have big : 2 ^ (1018 + 53) ≤ (V x).natAbs := by
        have ep := eig_pos
        have : (eig : Int) ≤ ((V x).natAbs : Int) := by
          generalize kq eig (V x) = k at *
          generalize rq eig (V x) = q at *
          generalize eig = H at *
          rcases (by omega : 1 ≤ k ∨ k ≤ -1) with g | g
          · have := Int.mul_le_mul_of_nonneg_left g (show 0 ≤ 2 * H by omega); omega
          · have := Int.mul_le_mul_of_nonneg_left g (show 0 ≤ 2 * H by omega); omega
        have c : eig = ((2 ^ (1018 + 53) : Nat) : Int) := two_cast (1018 + 53)
        rw [c] at this
        exact Int.ofNat_le.1 this
      have dx : (2 : Int) ^ 1018 ∣ V x := dvd_big (b := x) (m := 1018) big
      have d2 : (2 : Int) ^ 1018 ∣ 2 * eig * kq eig (V x) := by
        refine Int.dvd_trans ?_ (Int.dvd_mul_right _ _)
        exact ⟨2 ^ 54, by decide +kernel⟩
      have dr : (2 : Int) ^ 1018 ∣ V r := by
        rw [R.v]; unfold rq
        exact Int.dvd_sub dx d2
      obtain ⟨c, hc⟩ := dr
      have c0 : c ≠ 0 := by rintro rfl; omega
      have g := le_mul_pow c0 1018
      have a : (V r).natAbs = 2 ^ 1018 * c.natAbs := by rw [hc, Int.natAbs_mul, pw_abs]
      rw [← a] at g
      have : ((2 : Int) ^ 1018) ≤ ((V r).natAbs : Int) := by rw [two_cast]; exact Int.ofNat_le.2 g
      exact Int.le_trans ll this

theorem bnd_of {r k m : Nat} (h : (V r).natAbs ≤ 2 ^ k) (hk : k ≤ 1074 + m) : Bnd r r m := ⟨abs_up h hk, abs_up h hk⟩
theorem sn_rest {r : Nat} (H : Rest r) (f : fitB r = true) : Sn (r, r) 0 := ⟨H.fin.1, H.fin.1, errS_of ⟨f, f⟩ (Int.le_refl _), bnd_of (k := 1071) H.abs (by omega)⟩

theorem sur_ex {r : Nat} (H : Rest r) (f : fitB r = true) : ∃ Y Z P M N W S P2 M2 W2 C, Sur r Y Z P M N W S P2 M2 W2 C ∧ SurB Y Z P M N W S P2 M2 W2 C ∧
    Ins (Ply.s (Ply.tau * Q r)) (ps S) ∧ Ins (Ply.c (Ply.tau * Q r)) (ps C) := by
  have b := H.Q_bd
  obtain ⟨Y, sy, ry, ey⟩ := mul_step (sn_rest H f) sn_tau (by omega)
  replace sy : Sn Y 3 := sy
  obtain ⟨Z, sz, rz, ez⟩ := sq_step sy (by omega)
  replace sz : Sn Z 6 := sz
  obtain ⟨P, sP, rP, eP⟩ := ser_step sz sinW (fun a h => List.mem_append_left _ h) (by decide)
  replace sP : Sn P 56 := sP
  obtain ⟨M, sM, rM, eM⟩ := mul_step sz sP (by omega)
  obtain ⟨N, sN, rN, eN⟩ := mul_step sy sM (by omega)
  obtain ⟨W, sW, rW, eW⟩ := add_step (sy.le (show 3 ≤ 65 by omega)) sN (by omega)
  obtain ⟨S, sS, rS, eS⟩ := add_step sW (sn_epsS.le (Nat.zero_le _)) (by omega)
  obtain ⟨P2, sP2, rP2, eP2⟩ := ser_step sz cosW (fun a h => List.mem_append_right _ h) (by decide)
  replace sP2 : Sn P2 56 := sP2
  obtain ⟨M2, sM2, rM2, eM2⟩ := mul_step sz sP2 (by omega)
  obtain ⟨W2, sW2, rW2, eW2⟩ := add_step (sn_one.le (Nat.zero_le _)) sM2 (by omega)
  obtain ⟨C, sC, rC, eC⟩ := add_step sW2 (sn_epsC.le (Nat.zero_le _)) (by omega)
  refine ⟨Y, Z, P, M, N, W, S, P2, M2, W2, C, ⟨ry, rz, rP, rM, rN, rW, rS, rP2, rM2, rW2, rC⟩, ⟨sy, sz, sP, sM, sN, sW, sS, sP2, sM2, sW2, sC⟩, ?_, ?_⟩
  · exact point_sine b.1 b.2 tau_span ey ez sin_spans eP eM eN eW (by unfold ps epsS sp; decide +kernel) eS
  · exact point_cosine b.1 b.2 tau_span ey ez cos_spans eP2 eM2 (by unfold ps oneS sp; decide +kernel) eW2 (by unfold ps epsC sp; decide +kernel) eC
end Go.Proofs.Ytjhcalgamcdgiaa

namespace Go.Proofs.Ytjhcalgamcdgiaa
open Go.ChangeShapes Go.WideShapes Go.ChangeAt Go.RowKit Ieee.Own

/-! ### cut to -1 .. 1 -/
def cutP (p : Pr) : Pr := (meetX p.1 p.2 noneW oneW, meetY p.1 p.2 noneW oneW)
/-- a span among -1 .. 1 -/
structure Unit1 (u : Pr) : Prop where
  l1 : u.1 < 18446744073709551616
  l2 : u.2 < 18446744073709551616
  ok : errS u.1 u.2 = 0
  lo : V noneW ≤ V u.1
  hi : V u.2 ≤ V oneW
theorem none_Q : Q noneW = -1 := by decide +kernel
theorem sets_one {p : Pr} {m : Nat} (hp : Sn p m) : Sets p.1 p.2 noneW oneW := ⟨hp.l1, hp.l2, by decide +kernel, by decide +kernel, hp.ok, by decide +kernel⟩
theorem Q_div (a : Nat) : Q a = (V a : Rat) / unit := rfl
theorem Q_congr {a b : Nat} (h : V a = V b) : Q a = Q b := by unfold Q; rw [h]
theorem cut_step {p : Pr} {m : Nat} {x : Rat} (hp : Sn p m) (hx : Ins x (ps p)) (x1 : -1 ≤ x) (x2 : x ≤ 1) : meetB p.1 p.2 noneW oneW = true ∧ Unit1 (cutP p) ∧ Inc x (ps (cutP p)) := by
  have T := sets_one hp
  obtain ⟨f1, f2, le⟩ := hp.fits
  have g1 := fit_fin hp.l1 f1
  have g2 := fit_fin hp.l2 f2
  have n1 : FinW noneW := by unfold FinW noneW; omega
  have n2 : FinW oneW := by unfold FinW oneW; omega
  have mx := mxW_spec g1 n1
  have mn := mnW_spec g2 n2
  obtain ⟨h1, h2⟩ := hx
  replace h1 : Q p.1 ≤ x - Ply.del := h1
  replace h2 : x + Ply.del ≤ Q p.2 := h2
  have d0 : 0 ≤ Ply.del := by decide +kernel
  have a1 : V p.1 ≤ V oneW := by rw [← Q_le, one_Q]; grind
  have a2 : V noneW ≤ V p.2 := by rw [← Q_le, none_Q]; grind
  have a3 : V noneW ≤ V oneW := by decide +kernel
  have B : meetB p.1 p.2 noneW oneW = true := by
    unfold meetB
    rw [decide_eq_true_eq]
    rcases mx.1 with e | e <;> rcases mn.1 with e' | e' <;> rw [e, e'] <;> omega
  obtain ⟨e1, e2, e0⟩ := T.meet_ok B
  have c1 : V (cutP p).1 = V (mxW p.1 noneW) := by show V (meetX _ _ _ _) = _; rw [e1, posW_V]
  have c2 : V (cutP p).2 = V (mnW p.2 oneW) := by show V (meetY _ _ _ _) = _; rw [e2, posW_V]
  have l := T.meet_lt
  refine ⟨B, ⟨l.1, l.2, e0, by rw [c1]; exact mx.2.2, by rw [c2]; exact mn.2.2⟩, ?_⟩
  refine Ins.cut (A := ps p) ⟨h1, h2⟩ ?_ ?_
  · rcases mx.1 with e | e
    · left; exact Q_congr (by rw [c1, e])
    · right; exact (Q_congr (by rw [c1, e])).trans none_Q
  · rcases mn.1 with e | e
    · left; exact Q_congr (by rw [c2, e])
    · right; exact (Q_congr (by rw [c2, e])).trans one_Q

/-! ### by quarters -/
def qsP (k : Int) (S C nS nC : Pr) : Pr := if k = 0 then S else if k = 1 then C else if k = 2 then nS else nC
def qcP (k : Int) (S C nS nC : Pr) : Pr := if k = 0 then C else if k = 1 then nS else if k = 2 then nC else S
structure PtR (x : Nat) (p q : Pr) : Prop where
  ex : ∃ r S C nS nC, Rst x r ∧ SurR r S C ∧ NegR S nS ∧ NegR C nC ∧ p = cutP (qsP (kq eig (V x) % 4) S C nS nC) ∧ q = cutP (qcP (kq eig (V x) % 4) S C nS nC)
theorem PtR.uniq {x : Nat} {p q p' q' : Pr} (h : PtR x p q) (k : PtR x p' q') : p = p' ∧ q = q' := by
  obtain ⟨r, S, C, nS, nC, R, U, n1, n2, e1, e2⟩ := h.ex
  obtain ⟨r', S', C', nS', nC', R', U', n1', n2', e1', e2'⟩ := k.ex
  obtain rfl := R.uniq R'
  obtain ⟨rfl, rfl⟩ := U.uniq U'
  obtain rfl := n1.uniq n1'
  obtain rfl := n2.uniq n2'
  rw [e1, e2, e1', e2']; exact ⟨rfl, rfl⟩

theorem Q_neg {a b : Nat} (h : V a = -V b) : Q a = -Q b := by
  unfold Q; rw [h, Rat.intCast_neg]; simp only [Rat.div_def]; grind
theorem neg_ins {p u : Pr} {x : Rat} (h : Ins x (ps p)) (h1 : V u.1 = -V p.2) (h2 : V u.2 = -V p.1) : Ins (-x) (ps u) := by
  have e : ps u = (-(ps p).2, -(ps p).1) := by
    unfold ps sp
    rw [Q_neg h1, Q_neg h2]
  rw [e]; exact h.neg

/-- what the spans at an angle hold -/
structure PtH (x : Nat) (p q : Pr) : Prop where
  rel : PtR x p q
  up : Unit1 p
  uq : Unit1 q
  rest : ∃ r, Rst x r ∧ Inc (Ply.sq (kq eig (V x)) (Ply.tau * Q r)) (ps p) ∧ Inc (Ply.sq (kq eig (V x) + 1) (Ply.tau * Q r)) (ps q)

theorem sq_parts (k : Int) (y : Rat) : (k % 4 = 0 → Ply.sq k y = Ply.s y) ∧ (k % 4 = 1 → Ply.sq k y = Ply.c y) ∧ (k % 4 = 2 → Ply.sq k y = -Ply.s y) ∧ (k % 4 = 3 → Ply.sq k y = -Ply.c y) := by
  have a : ∀ j : Int, k % 4 = j % 4 → Ply.sq k y = Ply.sq j y := fun j h => Ply.sq_mod h y
  have z0 : Ply.sq 0 y = Ply.s y := by unfold Ply.sq; rfl
  have z1 : Ply.sq 1 y = Ply.c y := by unfold Ply.sq; rfl
  refine ⟨fun h => ?_, fun h => ?_, fun h => ?_, fun h => ?_⟩
  · rw [a 0 (by omega), z0]
  · rw [a 1 (by omega), z1]
  · rw [a (0 + 2) (by omega), Ply.sq_two, z0]
  · rw [a (1 + 2) (by omega), Ply.sq_two, z1]

/-- all that comes up on the way to the spans at an angle -/
structure PtE (x r : Nat) (Y Z P M N W S P2 M2 W2 C nS nC : Pr) : Prop where
  rst : Rst x r
  rest : Rest r
  fit : fitB r = true
  sur : Sur r Y Z P M N W S P2 M2 W2 C
  sn : SurB Y Z P M N W S P2 M2 W2 C
  n1 : NegR S nS
  n2 : NegR C nC
  s1 : Sn nS 67
  s2 : Sn nC 64
  b : ∀ k : Int, k = 0 ∨ k = 1 ∨ k = 2 ∨ k = 3 → meetB (qsP k S C nS nC).1 (qsP k S C nS nC).2 noneW oneW = true ∧ meetB (qcP k S C nS nC).1 (qcP k S C nS nC).2 noneW oneW = true
  h : PtH x (cutP (qsP (kq eig (V x) % 4) S C nS nC)) (cutP (qcP (kq eig (V x) % 4) S C nS nC))
theorem pt_ex {x : Nat} (hx : x < 18446744073709551616) (h0 : errA x = 0) {r : Nat} (R : Rst x r) : ∃ Y Z P M N W S P2 M2 W2 C nS nC, PtE x r Y Z P M N W S P2 M2 W2 C nS nC := by
  have A := errA_ang hx h0
  have fx : fitB x = true := by
    unfold errA at h0
    split at h0
    · rename_i c; exact c.1
    · omega
  have H := R.rest A
  have f := rest_fit hx fx R
  obtain ⟨Y, Z, P, M, N, W, S, P2, M2, W2, C, U, B, iS, iC⟩ := sur_ex H f
  obtain ⟨nS, s1, r1, a1, a2⟩ := neg_step B.s
  obtain ⟨nC, s2, r2, b1, b2⟩ := neg_step B.c
  have jS := neg_ins iS a1 a2
  have jC := neg_ins iC b1 b2
  have bd := H.Q_bd
  have tp := Ply.top_mul bd.1 bd.2
  have o1 := Ply.s_le_one tp.1 tp.2
  have o2 := Ply.c_le_one tp.1 tp.2
  have o3 := Ply.c_nn tp.1 tp.2
  have q := sq_parts (kq eig (V x)) (Ply.tau * Q r)
  have q' := sq_parts (kq eig (V x) + 1) (Ply.tau * Q r)
  generalize Ply.s (Ply.tau * Q r) = s at *
  generalize Ply.c (Ply.tau * Q r) = c at *
  obtain ⟨m1, u1, c1⟩ := cut_step B.s iS o1.1 o1.2
  obtain ⟨m2, u2, c2⟩ := cut_step B.c iC (by grind) o2
  obtain ⟨m3, u3, c3⟩ := cut_step s1 jS (by grind) (by grind)
  obtain ⟨m4, u4, c4⟩ := cut_step s2 jC (by grind) (by grind)
  have X : ∃ r S C nS nC, Rst x r ∧ SurR r S C ∧ NegR S nS ∧ NegR C nC ∧ cutP (qsP (kq eig (V x) % 4) S C nS nC) = cutP (qsP (kq eig (V x) % 4) S C nS nC) ∧ cutP (qcP (kq eig (V x) % 4) S C nS nC) = cutP (qcP (kq eig (V x) % 4) S C nS nC) := ⟨r, S, C, nS, nC, R, ⟨_, _, _, _, _, _, _, _, _, U⟩, r1, r2, rfl, rfl⟩
  refine ⟨Y, Z, P, M, N, W, S, P2, M2, W2, C, nS, nC, R, H, f, U, B, r1, r2, s1, s2, ?_, ⟨⟨r, S, C, nS, nC, R, ⟨_, _, _, _, _, _, _, _, _, U⟩, r1, r2, rfl, rfl⟩, ?_, ?_, r, R, ?_, ?_⟩⟩
  · rintro k (rfl | rfl | rfl | rfl)
    · exact ⟨m1, m2⟩
    · exact ⟨m2, m3⟩
    · exact ⟨m3, m4⟩
    · exact ⟨m4, m1⟩
  all_goals
    have k4 : kq eig (V x) % 4 = 0 ∨ kq eig (V x) % 4 = 1 ∨ kq eig (V x) % 4 = 2 ∨ kq eig (V x) % 4 = 3 := by omega
    clear X
    rcases k4 with k | k | k | k
  · rw [k]; exact u1
  · rw [k]; exact u2
  · rw [k]; exact u3
  · rw [k]; exact u4
  · rw [k]; exact u2
  · rw [k]; exact u3
  · rw [k]; exact u4
  · rw [k]; exact u1
  · rw [q.1 k, k]; exact c1
  · rw [q.2.1 k, k]; exact c2
  · rw [q.2.2.1 k, k]; exact c3
  · rw [q.2.2.2 k, k]; exact c4
  · rw [q'.2.1 (by omega), k]; exact c2
  · rw [q'.2.2.1 (by omega), k]; exact c3
  · rw [q'.2.2.2 (by omega), k]; exact c4
  · rw [q'.1 (by omega), k]; exact c1
end Go.Proofs.Ytjhcalgamcdgiaa

namespace Go.Proofs.Ytjhcalgamcdgiaa
open Go.ChangeShapes Go.WideShapes Go.ChangeAt Go.RowKit Ieee.Own

end Go.Proofs.Ytjhcalgamcdgiaa

namespace Go.Proofs.Ytjhcalgamcdgiaa
open Go.ChangeShapes Go.WideShapes Go.ChangeAt Go.RowKit Ieee.Own

theorem put2_cell {w : World} {g s t : Nat} (a : Addr) (h : a.block ≠ g) : (put2 w g s t).cell? a = w.cell? a := by
  unfold put2
  rw [World.cell?_setCell_other _ _ _ _ (by intro e; exact h (by rw [← e])), World.cell?_setCell_other _ _ _ _ (by intro e; exact h (by rw [← e]))]
/-- an array of floats in a block -/
structure Arr (w : World) (g : Nat) (L : List Nat) : Prop where
  lt : g < w.heap.size
  at_ : ∀ i, i < L.length → w.cell? ⟨g, i, none⟩ = some (.float .f64 (L.getD i 0))
theorem Arr.on {w w' : World} {g : Nat} {L : List Nat} (A : Arr w g L) (h : Below w.heap.size w w') : Arr w' g L := ⟨Nat.lt_of_lt_of_le A.lt h.size, fun i hi => (cell_on h _ A.lt).trans (A.at_ i hi)⟩
theorem Arr.put {w : World} {g h s t : Nat} {L : List Nat} (A : Arr w g L) (hg : g ≠ h) : Arr (put2 w h s t) g L := ⟨by rw [put2_size]; exact A.lt, fun i hi => by rw [put2_cell _ hg]; exact A.at_ i hi⟩
theorem Arr.drew {w : World} {g : Nat} {L : List Nat} (A : Arr w g L) : Arr w.drew g L := ⟨A.lt, A.at_⟩

/-- the series, so far: from behind -/
theorem ser_back {Z : Pr} : ∀ (al : List Nat) (P : Pr), SerR Z al P → ∀ i, i < al.length → ∃ P1 M P2, SerR Z (al.drop (al.length - i)) P1 ∧ MulR Z P1 M ∧ AddR (facS (al.getD (al.length - 1 - i) 0)) M P2 ∧ SerR Z (al.drop (al.length - 1 - i)) P2
  | [], _, _, i, h => by simp at h
  | a :: al, P, ⟨P', M, h1, h2, h3⟩, i, hi => by
    by_cases e : i = al.length
    · subst e
      have e1 : (a :: al).length - al.length = 1 := by simp
      have e2 : (a :: al).length - 1 - al.length = 0 := by simp
      rw [e1, e2]
      exact ⟨P', M, P, h1, h2, h3, P', M, h1, h2, h3⟩
    · have hi' : i < al.length := by simp at hi; omega
      obtain ⟨P1, M1, P2, k1, k2, k3, k4⟩ := ser_back al P' h1 i hi'
      have e1 : (a :: al).length - i = al.length - i + 1 := by simp; omega
      have e2 : (a :: al).length - 1 - i = al.length - 1 - i + 1 := by simp; omega
      rw [e1, e2, List.drop_succ_cons, List.drop_succ_cons, List.getD_cons_succ]
      exact ⟨P1, M1, P2, k1, k2, k3, k4⟩
theorem ser_lt {Z : Pr} : ∀ {al : List Nat} {P : Pr}, SerR Z al P → P.1 < 18446744073709551616 ∧ P.2 < 18446744073709551616
  | [], P, h => by
    have h : P = (0, 0) := h
    rw [h]; decide
  | _ :: _, P, ⟨_, _, _, _, h⟩ => by
    have := h.all.bd
    exact ⟨this.1, this.2.1⟩
theorem mul_lt {p q u : Pr} (h : MulR p q u) : u.1 < 18446744073709551616 ∧ u.2 < 18446744073709551616 := ⟨(OpAll.bd h).1, (OpAll.bd h).2.1⟩

theorem facS_lt {a : Nat} (ha : a < 18446744073709551616) : (facS a).1 < 18446744073709551616 ∧ (facS a).2 < 18446744073709551616 := ⟨prevW_lt a ha, nextW_lt a ha⟩

end Go.Proofs.Ytjhcalgamcdgiaa
