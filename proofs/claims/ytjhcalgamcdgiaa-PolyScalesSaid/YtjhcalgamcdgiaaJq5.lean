/- Proved here: what the texts Rgr, Plh, Plm, Ldk, Pls prove, one behind the other. -/
import Derived.Test.YtjhcalgamcdgiaaJq3
import Derived.Deep.AppendLies
import Derived.Test.YtjhcalgamcdgiaaJq4
import Derived.Test.YtjhcalgamcdgiaaJq2
import Derived.Test.YtjhcalgamcdgiaaJb1
import Derived.Laws.FloatBits

namespace Go.Proofs.Ytjhcalgamcdgiaa
open Go.ChangeShapes Go.WideShapes Go.ChangeAt Go.RowKit Ieee.Own

/-- A LIST APPENDED TO WHAT THE CALL OWNS, at one operation -/
theorem wp_dup {w : World} {o : Oper} {a : Act} {K : Act → World → Prop} {Q : Exit → Act → World → Prop} (s x : Operand) (t : TypeId)
    (ho : o.op = .call { callee := .builtin .append, args := #[s, x], argTypes := #[t, t] }) (ht : Try.prog.underlying t = some (.slice 23)) (base : Nat) (v : Value) (us : List Nat) (hs : a.eval s = v)
    (hown : w.ownsRow base 23 1 v us.length (us.map (Value.float .f64))) (ao : Option Addr) (n cap : Nat) (L : List Nat) (hx : a.eval x = .slice ao n cap) (hn : n = L.length) (hnone : ao = none → cap = 0) (ha : At w ao L)
    (hby : (us.length + L.length) * 8 ≤ 140737488355328) (hbase : base ≤ w.heap.size)
    (h : ∀ v' w', w'.ownsRow base 23 1 v' (us ++ L).length ((us ++ L).map (Value.float .f64)) → w.grownBy w' v.ownBlock → K (a.put o.dst v') w') :
    o.wp Try.prog a w K Q := by
  obtain ⟨i0, hi0, hz0, hz1, hz2⟩ := info_parts infoF
  subst hn
  cases ao with
  | none =>
    have hL : L = [] := by
      refine List.eq_nil_of_length_eq_zero (Nat.eq_zero_of_not_pos fun hp => ?_)
      obtain ⟨b, o, e, _⟩ := ha 0 hp
      simp at e
    subst hL
    rw [hnone rfl] at hx
    have hrun := run_append_owned_none (P := Try.prog) (w := w) base t o.type 23 i0 1 ht hi0 v us.length _ hown
    unfold Oper.wp
    simp [execOp, ho, resolve, invoke, builtin, hs, hx, hrun, Result.andThen]
    exact h v w (by simpa using hown) (World.grownBy.refl _ _)
  | some ad =>
    refine wp_append_own w s x t ho base 23 i0 (.float .f64 0) 1 8 ht hi0 hz0 hz1 hz2 rfl (by decide) v us.length _ hs hown ad L.length cap (L.map (Value.float .f64)) hx (by simp) ?_ (flts_one L) (by unfold maxLen; omega) hby hbase ?_
    · intro j u hj
      obtain ⟨hj1, hj2⟩ := List.getElem?_eq_some_iff.1 hj
      have hj3 : j < L.length := by simpa using hj1
      obtain ⟨b, o', e, hc⟩ := ha j hj3
      simp only [Option.some.injEq] at e
      subst e
      rw [add_plain, hc, ← hj2]
      simp [List.getD, hj3]
    · intro v' w' h1 h2 _
      exact h v' w' (by simpa using h1) h2

/-- an empty row holds no number -/
theorem row_none {w : World} {g j : Nat} (h : RowAt w g #[]) : w.cell? ⟨g, j, none⟩ = none := by rw [h.cell]; rfl
theorem Blk.grown {w w' : World} {h x y g : Nat} (b : Blk w h x y) (r : RowAt w g #[]) (k : w.grownBy w' (some g)) : Blk w' h x y := by
  have ne : h ≠ g := by
    rintro rfl
    have := b.lo
    rw [row_none r] at this; simp at this
  have nb : ∀ j, some (⟨h, j, none⟩ : Addr).block ≠ some g := fun j e => ne (Option.some.inj e)
  refine ⟨Nat.lt_of_lt_of_le b.lt k.size, ?_, ?_, ?_, ?_⟩
  · rw [k.cell_far _ b.lt (nb 0)]; exact b.lo
  · rw [k.cell_far _ b.lt (nb 1)]; exact b.hi
  · rw [k.frozen_far _ b.lt (nb 0)]; exact b.f0
  · rw [k.frozen_far _ b.lt (nb 1)]; exact b.f1
theorem Cls.grown {w0 w w' : World} {C : List (Nat × Nat × Nat)} {g : Nat} (h : Cls w0 C w) (r : RowAt w g #[]) (k : w.grownBy w' (some g)) (hg : w0.heap.size ≤ g) : Cls w0 C w' := by
  refine ⟨h.old.grown k h.old.size (fun j e => by rw [← Option.some.inj e]; exact hg), fun j g' x y hj => ⟨(h.blk j g' x y hj).1, (h.blk j g' x y hj).2.grown r k⟩, h.inj⟩
theorem At.grown {w w' : World} {ao : Option Addr} {cs : List Nat} {g : Nat} (h : At w ao cs) (r : RowAt w g #[]) (k : w.grownBy w' (some g)) : At w' ao cs := by
  intro j hj
  obtain ⟨b, o, e, hc⟩ := h j hj
  refine ⟨b, o, e, ?_⟩
  have ne : b ≠ g := by
    rintro rfl
    rw [row_none r] at hc; simp at hc
  rw [k.cell_far _ (World.block_lt_of_cell? w _ hc) (fun e => ne (Option.some.inj e))]; exact hc

/-- an empty row of the call's own; then a copy of the list in it; then nobody looks -/
def RowI (ib ip ic B n : Nat) (cs : List Nat) (L : List (Option Value)) (w : World) : Prop :=
  ¬ doneL L ib ∨
  (doneL L ib ∧ ¬ doneL L ip ∧ ∃ g, L[ib]? = some (some (.slice (some ⟨g, 0, none⟩) 0 0)) ∧ B ≤ g ∧ RowAt w g #[]) ∨
  (doneL L ip ∧ ∃ ao cap, L[ip]? = some (some (.slice ao n cap)) ∧ (doneL L ic ∨ At w ao cs))
section
variable {ib ip ic B n : Nat} {cs : List Nat} {L : List (Option Value)} {w w' : World}
theorem RowI.keep {i : Nat} {v : Value} (h : RowI ib ip ic B n cs L w) (hn : L[i]? = some none) (h1 : i ≠ ib) (h2 : i ≠ ip) (hb : Below w.heap.size w w') : RowI ib ip ic B n cs (L.set i (some v)) w' := by
  rcases h with h | ⟨a, b, g, e, hg, r⟩ | ⟨a, ao, cap, e, k⟩
  · left
    rw [done_set hn]
    rintro (q | q)
    · exact h1 q.symm
    · exact h q
  · right; left
    refine ⟨(done_set hn _).2 (.inr a), ?_, g, by rw [List.getElem?_set_ne h1]; exact e, hg, ?_⟩
    · rw [done_set hn]
      rintro (q | q)
      · exact h2 q.symm
      · exact b q
    · unfold RowAt at r ⊢
      rw [hb.block _ (RowAt.lt r)]; exact r
  · right; right
    refine ⟨(done_set hn _).2 (.inr a), ao, cap, by rw [List.getElem?_set_ne h2]; exact e, ?_⟩
    rcases k with k | k
    · exact .inl ((done_set hn _).2 (.inr k))
    · exact .inr (k.later hb k.lt)
theorem RowI.past {i : Nat} {v : Value} (h : RowI ib ip ic B n cs L w) (hn : L[i]? = some none) (h2 : i ≠ ip) (d1 : doneL L ib) (d2 : doneL L ip) (d3 : doneL L ic) (w' : World) : RowI ib ip ic B n cs (L.set i (some v)) w' := by
  rcases h with h | ⟨_, b, _⟩ | ⟨a, ao, cap, e, -⟩
  · exact absurd d1 h
  · exact absurd d2 b
  · right; right
    exact ⟨(done_set hn _).2 (.inr a), ao, cap, by rw [List.getElem?_set_ne h2]; exact e, .inl ((done_set hn _).2 (.inr d3))⟩
theorem RowI.start (m : Nat) : RowI ib ip ic B n cs (nones m) w := .inl fun ⟨_, hv⟩ => absurd hv (nones_get _ _ _)
end
theorem waits_done {ops : Array Oper} {L : List (Option Value)} {o : Oper} {i k : Nat} (ho : ops[i]? = some o) (hw : waitsAt ops i k = true) (hd : ∀ e ∈ o.after, Region.binds .any e = true → ∃ v, L[e.on]? = some (some v)) : doneL L k := by
  unfold waitsAt at hw
  rw [ho] at hw
  simp only [Option.map_some, Option.getD_some] at hw
  unfold waits at hw
  rw [List.any_eq_true] at hw
  obtain ⟨e, he, h2⟩ := hw
  simp only [Bool.and_eq_true, beq_iff_eq] at h2
  have := hd e (Array.mem_toList_iff.1 he) h2.2
  rw [h2.1] at this
  exact this
/-- an operation waits for what is done: all that that needs is done too -/
theorem past_needs {ops : Array Oper} {L : List (Option Value)} (C : Closed ops L) {i k m : Nat} {o : Oper} (ho : ops[i]? = some o) (h : needs ops (m + 1) i k = true) (hd : ∀ e ∈ o.after, Region.binds .any e = true → ∃ v, L[e.on]? = some (some v)) : doneL L k := by
  unfold Go.Proofs.Ytjhcalgamcdgiaa.needs at h
  rw [List.any_eq_true] at h
  obtain ⟨q, -, h⟩ := h
  simp only [Bool.and_eq_true, Bool.or_eq_true, beq_iff_eq] at h
  obtain ⟨h1, h2⟩ := h
  have dq := waits_done ho h1 hd
  rcases h2 with rfl | h2
  · exact dq
  · exact C.needs m q k h2 dq

section
variable {ops : Array Oper} {Q : Exit → Act → World → Prop}
theorem wp_region_varR {id : Nat} {a0 : Act} {w w0 : World} {C : List (Nat × Nat × Nat)} (ia is ib ip ic s t : Nat) (dv : List Value) (ds : List (Option Tmp))
    (hm : Try.prog.follows .mixedOrders = true) (hds : ops.toList.map (·.dst) = ds) (hap : apartL ds = true) (hb : backward ops = true) (hg : plainL ops = true) (hl : dv.length = ops.size) (hC : Cls w0 C w)
    (hw : waitsAt ops is ia = true) (hia : ia < ops.size)
    (his : is < ops.size) (hwp : waitsAt ops ip ib = true) (hwc : waitsAt ops ic ip = true) (hws : needs ops ops.size is ic = true)
    (ne : (ia ≠ ib ∧ ia ≠ ip ∧ ic ≠ ia) ∧ (is ≠ ib ∧ is ≠ ip) ∧ (ic ≠ is ∧ ic ≠ ib ∧ ic ≠ ip) ∧ ib ≠ ip)
    (ao : Option Addr) (cap n : Nat) (cs : List Nat) (hn : n = cs.length) (hr : n * 8 ≤ 140737488351232) (hnone : ao = none → cap = 0)
    (J : World → Prop) (hJ0 : J w.drew) (hJb : ∀ w w', J w → Below w.heap.size w w' → J w') (hJs : ∀ w h s t, w0.heap.size ≤ h → J w → J (put2 w h s t)) (hJg : ∀ w w' g, J w → RowAt w g #[] → w.grownBy w' (some g) → J w') (hJA : ∀ w, J w → At w ao cs)
    (alloc : ∀ o, ops[ia]? = some o → o.op = .alloc 25)
    (build : ∀ o, ops[ib]? = some o → o.op = .buildSlice 22 0 #[])
    (app : ∀ (L : List (Option Value)) (o : Oper) (v : Value), ops[ip]? = some o → (∀ k, waits o k = true → k ≠ ia → k ≠ ib → k ≠ ip → L[k]? = some (some (dv.getD k undef))) → L[ib]? = some (some v) →
      ∃ p q, o.op = .call { callee := .builtin .append, args := #[p, q], argTypes := #[22, 22] } ∧ (puts ds L a0).eval p = v ∧ (puts ds L a0).eval q = .slice ao n cap)
    (call : ∀ (L : List (Option Value)) (w : World) (o : Oper) (ao' : Option Addr) (cap' : Nat), ops[ic]? = some o → (∀ k, waits o k = true → k ≠ ia → k ≠ ib → k ≠ ip → L[k]? = some (some (dv.getD k undef))) → L[ip]? = some (some (.slice ao' n cap')) → At w ao' cs → Came o (puts ds L a0) w (dv.getD ic undef))
    (step : ∀ (L : List (Option Value)) (w : World) (i : Nat) (o : Oper), ops[i]? = some o → i ≠ ia → i ≠ is → i ≠ ib → i ≠ ip → i ≠ ic → (∀ k, waits o k = true → k ≠ ia → k ≠ ib → k ≠ ip → L[k]? = some (some (dv.getD k undef))) →
      (∀ (j g x y : Nat), C[j]? = some (g, x, y) → Blk w g x y) → J w → Came o (puts ds L a0) w (dv.getD i undef))
    (store : ∀ (L : List (Option Value)) (w : World) (o : Oper) (h x y : Nat), ops[is]? = some o → (∀ k, waits o k = true → k ≠ ia → k ≠ ib → k ≠ ip → L[k]? = some (some (dv.getD k undef))) → L[ia]? = some (some (.pointer (some ⟨h, 0, none⟩))) → Blk w h x y →
      (execOp (puts ds L a0).eval o).run Try.prog w = .ok .skip (put2 w h s t) ∧ dv.getD is undef = undef)
    (fin : ∀ h v1 v2 w', Cls w0 (C ++ [(h, s, t)]) w' → J w' → Q .normal (puts ds ((((dv.map some).set ia (some (.pointer (some ⟨h, 0, none⟩)))).set ib (some v1)).set ip (some v2)) a0) w') : (Code.region id ops true).wp Try.prog Q a0 w := by
  obtain ⟨⟨nab, nap, nca⟩, ⟨nsb, nsp⟩, ⟨ncs, ncb, ncp⟩, nbp⟩ := ne
  refine wp_region_inv hm ds hds hap hb hg (fun L w => (∀ i v, i ≠ ia → i ≠ ib → i ≠ ip → L[i]? = some (some v) → v = dv.getD i undef) ∧ Closed ops L ∧ J w ∧ RowI ib ip ic w0.heap.size n cs L w ∧
    ((¬ doneL L ia ∧ Cls w0 C w) ∨ ∃ h x y, L[ia]? = some (some (.pointer (some ⟨h, 0, none⟩))) ∧ Cls w0 (C ++ [(h, x, y)]) w ∧ (doneL L is → x = s ∧ y = t))) ?_ ?_ ?_
  · refine ⟨fun i v _ _ _ h => absurd h (nones_get _ _ _), Closed.none _ _, hJ0, RowI.start _, .inl ⟨fun ⟨v, hv⟩ => absurd hv (nones_get _ _ _), hC.draws⟩⟩
  · intro L w i o hL ho hn' hd ⟨hdet, hcl, hJ, hR, hK⟩
    have hd' : ∀ k, waits o k = true → k ≠ ia → k ≠ ib → k ≠ ip → L[k]? = some (some (dv.getD k undef)) := fun k hk hka hkb hkp => by
      unfold waits at hk
      rw [List.any_eq_true] at hk
      obtain ⟨e, he, h2⟩ := hk
      simp only [Bool.and_eq_true, beq_iff_eq] at h2
      obtain ⟨v, hv⟩ := hd e (Array.mem_toList_iff.1 he) h2.2
      rw [h2.1] at hv
      rw [hv, hdet k v hka hkb hkp hv]
    have hil : i < L.length := (List.getElem?_eq_some_iff.1 hn').1
    have key : ∀ v, (i ≠ ia → i ≠ ib → i ≠ ip → v = dv.getD i undef) → ∀ k u, k ≠ ia → k ≠ ib → k ≠ ip → (L.set i (some v))[k]? = some (some u) → u = dv.getD k undef := fun v hv k u hka hkb hkp hk => by
      by_cases hik : i = k
      · subst hik
        rw [List.getElem?_set_self hil] at hk
        rw [← Option.some.inj (Option.some.inj hk)]; exact hv hka hkb hkp
      · rw [List.getElem?_set_ne hik] at hk; exact hdet k u hka hkb hkp hk
    have nd : ¬ doneL L i := fun ⟨v, hv⟩ => by rw [hn'] at hv; simp at hv
    have hK' : ∀ v w', i ≠ ia → i ≠ is → Below w.heap.size w w' → (¬ doneL (L.set i (some v)) ia ∧ Cls w0 C w') ∨ ∃ h x y, (L.set i (some v))[ia]? = some (some (.pointer (some ⟨h, 0, none⟩))) ∧ Cls w0 (C ++ [(h, x, y)]) w' ∧ (doneL (L.set i (some v)) is → x = s ∧ y = t) := fun v w' ea es k => by
      rcases hK with ⟨q, hK⟩ | ⟨h, x, y, e, hK, d⟩
      · refine .inl ⟨fun z => ?_, hK.on k⟩
        rcases (done_set hn' _).1 z with z | z
        · exact ea z.symm
        · exact q z
      · refine .inr ⟨h, x, y, by rw [List.getElem?_set_ne ea]; exact e, hK.on k, fun z => ?_⟩
        rcases (done_set hn' _).1 z with z | z
        · exact absurd z.symm es
        · exact d z
    have hG : ∀ v w' g, i ≠ ia → i ≠ is → RowAt w g #[] → w0.heap.size ≤ g → w.grownBy w' (some g) → (¬ doneL (L.set i (some v)) ia ∧ Cls w0 C w') ∨ ∃ h x y, (L.set i (some v))[ia]? = some (some (.pointer (some ⟨h, 0, none⟩))) ∧ Cls w0 (C ++ [(h, x, y)]) w' ∧ (doneL (L.set i (some v)) is → x = s ∧ y = t) := fun v w' g ea es r hg k => by
      rcases hK with ⟨q, hK⟩ | ⟨h, x, y, e, hK, d⟩
      · refine .inl ⟨fun z => ?_, hK.grown r k hg⟩
        rcases (done_set hn' _).1 z with z | z
        · exact ea z.symm
        · exact q z
      · refine .inr ⟨h, x, y, by rw [List.getElem?_set_ne ea]; exact e, hK.grown r k hg, fun z => ?_⟩
        rcases (done_set hn' _).1 z with z | z
        · exact absurd z.symm es
        · exact d z
    have hB0 : w0.heap.size ≤ w.heap.size := by rcases hK with ⟨-, hK⟩ | ⟨_, _, _, -, hK, -⟩ <;> exact hK.old.size
    by_cases eb : i = ib
    · subst eb
      have r : (execOp (puts ds L a0).eval o).run Try.prog w = .ok (.value (.slice (some ⟨w.heap.size, 0, none⟩) 0 0)) (w.alloc (.cells #[] 23)) := by
        unfold execOp; rw [build o ho]; go_simp
      have bw : Below w.heap.size w (w.alloc (.cells #[] 23)) := (Below.refl _ _).alloc (Nat.le_refl _) _
      unfold Oper.wp; rw [r]
      refine ⟨_, rfl, key _ (fun _ hib _ => absurd rfl hib), hcl.set ho hn' hd, hJb _ _ hJ bw, ?_, hK' _ _ (Ne.symm nab) (Ne.symm nsb) bw⟩
      right; left
      refine ⟨(done_set hn' _).2 (.inl rfl), ?_, w.heap.size, by rw [List.getElem?_set_self hil], hB0, heap_alloc_new w _⟩
      rw [done_set hn']
      rintro (q | q)
      · exact nbp q.symm
      · exact nd (hcl ip i q hwp)
    by_cases ep : i = ip
    · subst ep
      have db := waits_done ho hwp hd
      rcases hR with q | ⟨-, -, g, e, hg, r⟩ | ⟨q, -⟩
      · exact absurd db q
      · obtain ⟨p, q, hop, hp, hq⟩ := app L o _ ho hd' e
        have own : w.ownsRow w0.heap.size 23 1 (.slice (some ⟨g, 0, none⟩) 0 0) ([] : List Nat).length (([] : List Nat).map (Value.float .f64)) := RowAt.owns (cur := #[]) r hg (Nat.le_refl _) (by decide) rfl
        refine wp_dup p q _ hop Try.underlying22 w0.heap.size _ [] hp own ao n cap cs hq hn hnone (hJA w hJ) (by simp; omega) hB0 ?_
        intro v' w' ho' hg'
        rw [List.nil_append] at ho'
        obtain ⟨ao', cap', rfl, h1, h2, h3, h4, h5⟩ := owns_at ho'
        refine ⟨_, rfl, key _ (fun _ _ hip => absurd rfl hip), hcl.set ho hn' hd, hJg _ _ g hJ r hg', ?_, hG _ _ g (Ne.symm nap) (Ne.symm nsp) r hg hg'⟩
        right; right
        refine ⟨(done_set hn' _).2 (.inl rfl), ao', cap', by rw [List.getElem?_set_self hil, hn], .inr h3⟩
      · exact absurd q nd
    by_cases ea : i = ia
    · subst ea
      have hoa := alloc o ho
      have bw : Below w.heap.size w (w.alloc (boxO 0 0)) := (Below.refl _ _).alloc (Nat.le_refl _) _
      have hR' : ∀ v, RowI ib ip ic w0.heap.size n cs (L.set i (some v)) (w.alloc (boxO 0 0)) := fun v => hR.keep hn' eb ep bw
      rcases hK with ⟨-, hK⟩ | ⟨h, x, y, e, -⟩
      · have r := ex_alloc (ρ := (puts ds L a0).eval) w hoa
        unfold Oper.wp; rw [r]
        refine ⟨_, rfl, key _ (fun e _ _ => absurd rfl e), hcl.set ho hn' hd, hJb _ _ hJ bw, hR' _, .inr ⟨w.heap.size, 0, 0, ?_, hK.new 0 0, fun d => ?_⟩⟩
        · rw [List.getElem?_set_self hil]
        · rcases (done_set hn' _).1 d with q | q
          · exact absurd (waits_done (q ▸ ho) hw hd) (fun z => by
              exact nd z)
          · exact absurd (hcl is i q hw) nd
      · rw [e] at hn'; simp at hn'
    by_cases es : i = is
    · subst es
      have da : doneL L ia := waits_done ho hw hd
      have dc : doneL L ic := by
        obtain ⟨m, hm'⟩ : ∃ m, ops.size = m + 1 := ⟨ops.size - 1, by omega⟩
        rw [hm'] at hws
        exact past_needs hcl ho hws hd
      have dp := hcl ic ip dc hwc
      have db := hcl ip ib dp hwp
      rcases hK with ⟨q, -⟩ | ⟨h, x, y, e, hK, -⟩
      · exact absurd da q
      · have hlast : (C ++ [(h, x, y)])[C.length]? = some (h, x, y) := by simp
        have Bl := hK.at_ C.length hlast
        obtain ⟨r, u⟩ := store L w o h x y ho hd' e Bl
        unfold Oper.wp; rw [r]
        refine ⟨undef, rfl, key _ (fun _ _ _ => u.symm), hcl.set ho hn' hd, hJs w h s t (hK.blk C.length _ _ _ hlast).1 hJ, hR.past hn' ep db dp dc _, .inr ⟨h, s, t, by rw [List.getElem?_set_ne ea]; exact e, ?_, fun _ => ⟨rfl, rfl⟩⟩⟩
        have := hK.put C.length hlast s t
        simpa using this
    have hB : ∀ (j g x y : Nat), C[j]? = some (g, x, y) → Blk w g x y := fun j g x y h => by
      rcases hK with ⟨-, hK⟩ | ⟨h', x', y', -, hK, -⟩
      · exact hK.at_ j h
      · exact hK.at_ j (by rw [List.getElem?_append_left (List.getElem?_eq_some_iff.1 h).1]; exact h)
    by_cases ec : i = ic
    · subst ec
      have dp := waits_done ho hwc hd
      have dc0 := nd
      have ha : ∃ ao' cap', L[ip]? = some (some (.slice ao' n cap')) ∧ At w ao' cs := by
        rcases hR with q | ⟨-, q, -⟩ | ⟨-, ao', cap', e, k⟩
        · exact absurd (hcl ip ib dp hwp) q
        · exact absurd dp q
        · rcases k with k | k
          · exact absurd k nd
          · exact ⟨ao', cap', e, k⟩
      obtain ⟨ao', cap', e, hA⟩ := ha
      rcases call L w o ao' cap' ho hd' e hA with ⟨w', r, k⟩ | ⟨f, args, r, k⟩
      · unfold Oper.wp; rw [r]
        exact ⟨_, rfl, key _ (fun _ _ _ => rfl), hcl.set ho hn' hd, hJb _ _ hJ k, hR.keep hn' eb ep k, hK' _ _ ea es k⟩
      · unfold Oper.wp; rw [r]
        refine Calls.mono k fun e w' hh => ?_
        obtain ⟨rfl, hS⟩ := hh
        exact ⟨_, rfl, key _ (fun _ _ _ => rfl), hcl.set ho hn' hd, hJb _ _ hJ hS, hR.keep hn' eb ep hS, hK' _ _ ea es hS⟩
    · rcases step L w i o ho ea es eb ep ec hd' hB hJ with ⟨w', r, k⟩ | ⟨f, args, r, k⟩
      · unfold Oper.wp; rw [r]
        exact ⟨_, rfl, key _ (fun _ _ _ => rfl), hcl.set ho hn' hd, hJb _ _ hJ k, hR.keep hn' eb ep k, hK' _ _ ea es k⟩
      · unfold Oper.wp; rw [r]
        refine Calls.mono k fun e w' hh => ?_
        obtain ⟨rfl, hS⟩ := hh
        exact ⟨_, rfl, key _ (fun _ _ _ => rfl), hcl.set ho hn' hd, hJb _ _ hJ hS, hR.keep hn' eb ep hS, hK' _ _ ea es hS⟩
  · intro L w hL hall ⟨hdet, hcl, hJ, _, hK⟩
    have hib : ib < ops.size := by
      obtain ⟨v, hv⟩ := hcl ip ib (by
        obtain ⟨v, hv⟩ := hall is his
        obtain ⟨m, hm'⟩ : ∃ m, ops.size = m + 1 := ⟨ops.size - 1, by omega⟩
        exact hcl ic ip (hcl.needs _ _ _ hws ⟨v, hv⟩) hwc) hwp
      have := (List.getElem?_eq_some_iff.1 hv).1
      omega
    have hip : ip < ops.size := by
      obtain ⟨v, hv⟩ := hcl ic ip (hcl.needs _ _ _ hws (hall is his)) hwc
      have := (List.getElem?_eq_some_iff.1 hv).1
      omega
    obtain ⟨v1, e1⟩ := hall ib hib
    obtain ⟨v2, e2⟩ := hall ip hip
    rcases hK with ⟨q, -⟩ | ⟨h, x, y, e, hK, d⟩
    · exact absurd (hall ia hia) q
    · obtain ⟨rfl, rfl⟩ := d (hall is his)
      have eL : L = ((((dv.map some).set ia (some (.pointer (some ⟨h, 0, none⟩)))).set ib (some v1)).set ip (some v2)) := by
        refine List.ext_getElem? fun i => ?_
        by_cases hi : i < ops.size
        · by_cases q2 : ip = i
          · subst q2
            rw [e2, List.getElem?_set_self (by simp; omega)]
          · rw [List.getElem?_set_ne q2]
            by_cases q1 : ib = i
            · subst q1
              rw [e1, List.getElem?_set_self (by simp; omega)]
            · rw [List.getElem?_set_ne q1]
              by_cases q : ia = i
              · subst q
                rw [e, List.getElem?_set_self (by simp; omega)]
              · obtain ⟨v, hv⟩ := hall i hi
                rw [List.getElem?_set_ne q, hv, hdet i v (Ne.symm q) (Ne.symm q1) (Ne.symm q2) hv]
                simp [List.getD, hl, hi]
        · rw [List.getElem?_eq_none (by omega), List.getElem?_eq_none (by simp; omega)]
      rw [eL]
      exact fin h v1 v2 w hK hJ
theorem wp_region_stsR {id : Nat} {a0 : Act} {w w0 : World} {C : List (Nat × Nat × Nat)} (is ib ip ic jj gg s t : Nat) (dv : List Value) (ds : List (Option Tmp))
    (hm : Try.prog.follows .mixedOrders = true) (hds : ops.toList.map (·.dst) = ds) (hap : apartL ds = true) (hb : backward ops = true) (hg : plainL ops = true) (hl : dv.length = ops.size) (hC : Cls w0 C w)
    {x0 y0 : Nat} (hj : C[jj]? = some (gg, x0, y0))
    (his : is < ops.size) (hwp : waitsAt ops ip ib = true) (hwc : waitsAt ops ic ip = true) (hws : needs ops ops.size is ic = true)
    (ne : (is ≠ ib ∧ is ≠ ip) ∧ (ic ≠ is ∧ ic ≠ ib ∧ ic ≠ ip) ∧ ib ≠ ip)
    (ao : Option Addr) (cap n : Nat) (cs : List Nat) (hn : n = cs.length) (hr : n * 8 ≤ 140737488351232) (hnone : ao = none → cap = 0)
    (J : World → Prop) (hJ0 : J w.drew) (hJb : ∀ w w', J w → Below w.heap.size w w' → J w') (hJs : ∀ w h s t, w0.heap.size ≤ h → J w → J (put2 w h s t)) (hJg : ∀ w w' g, J w → RowAt w g #[] → w.grownBy w' (some g) → J w') (hJA : ∀ w, J w → At w ao cs)
    (build : ∀ o, ops[ib]? = some o → o.op = .buildSlice 22 0 #[])
    (app : ∀ (L : List (Option Value)) (o : Oper) (v : Value), ops[ip]? = some o → (∀ k, waits o k = true → k ≠ ib → k ≠ ip → L[k]? = some (some (dv.getD k undef))) → L[ib]? = some (some v) →
      ∃ p q, o.op = .call { callee := .builtin .append, args := #[p, q], argTypes := #[22, 22] } ∧ (puts ds L a0).eval p = v ∧ (puts ds L a0).eval q = .slice ao n cap)
    (call : ∀ (L : List (Option Value)) (w : World) (o : Oper) (ao' : Option Addr) (cap' : Nat), ops[ic]? = some o → (∀ k, waits o k = true → k ≠ ib → k ≠ ip → L[k]? = some (some (dv.getD k undef))) → L[ip]? = some (some (.slice ao' n cap')) → At w ao' cs → Came o (puts ds L a0) w (dv.getD ic undef))
    (step : ∀ (L : List (Option Value)) (w : World) (i : Nat) (o : Oper), ops[i]? = some o → i ≠ is → i ≠ ib → i ≠ ip → i ≠ ic → (∀ k, waits o k = true → k ≠ ib → k ≠ ip → L[k]? = some (some (dv.getD k undef))) →
      (∀ (j g x y : Nat), C[j]? = some (g, x, y) → j ≠ jj → Blk w g x y) → J w → Came o (puts ds L a0) w (dv.getD i undef))
    (store : ∀ (L : List (Option Value)) (w : World) (o : Oper) (x y : Nat), ops[is]? = some o → (∀ k, waits o k = true → k ≠ ib → k ≠ ip → L[k]? = some (some (dv.getD k undef))) → Blk w gg x y →
      (execOp (puts ds L a0).eval o).run Try.prog w = .ok .skip (put2 w gg s t) ∧ dv.getD is undef = undef)
    (fin : ∀ v1 v2 w', Cls w0 (C.set jj (gg, s, t)) w' → J w' → Q .normal (puts ds (((dv.map some).set ib (some v1)).set ip (some v2)) a0) w') : (Code.region id ops true).wp Try.prog Q a0 w := by
  obtain ⟨⟨nsb, nsp⟩, ⟨ncs, ncb, ncp⟩, nbp⟩ := ne
  refine wp_region_inv hm ds hds hap hb hg (fun L w => (∀ i v, i ≠ ib → i ≠ ip → L[i]? = some (some v) → v = dv.getD i undef) ∧ Closed ops L ∧ J w ∧ RowI ib ip ic w0.heap.size n cs L w ∧
    ((¬ doneL L is ∧ Cls w0 C w) ∨ (doneL L is ∧ Cls w0 (C.set jj (gg, s, t)) w))) ?_ ?_ ?_
  · refine ⟨fun i v _ _ h => absurd h (nones_get _ _ _), Closed.none _ _, hJ0, RowI.start _, .inl ⟨fun ⟨v, hv⟩ => absurd hv (nones_get _ _ _), hC.draws⟩⟩
  · intro L w i o hL ho hn' hd ⟨hdet, hcl, hJ, hR, hK⟩
    have hd' : ∀ k, waits o k = true → k ≠ ib → k ≠ ip → L[k]? = some (some (dv.getD k undef)) := fun k hk hkb hkp => by
      unfold waits at hk
      rw [List.any_eq_true] at hk
      obtain ⟨e, he, h2⟩ := hk
      simp only [Bool.and_eq_true, beq_iff_eq] at h2
      obtain ⟨v, hv⟩ := hd e (Array.mem_toList_iff.1 he) h2.2
      rw [h2.1] at hv
      rw [hv, hdet k v hkb hkp hv]
    have hil : i < L.length := (List.getElem?_eq_some_iff.1 hn').1
    have key : ∀ v, (i ≠ ib → i ≠ ip → v = dv.getD i undef) → ∀ k u, k ≠ ib → k ≠ ip → (L.set i (some v))[k]? = some (some u) → u = dv.getD k undef := fun v hv k u hkb hkp hk => by
      by_cases hik : i = k
      · subst hik
        rw [List.getElem?_set_self hil] at hk
        rw [← Option.some.inj (Option.some.inj hk)]; exact hv hkb hkp
      · rw [List.getElem?_set_ne hik] at hk; exact hdet k u hkb hkp hk
    have nd : ¬ doneL L i := fun ⟨v, hv⟩ => by rw [hn'] at hv; simp at hv
    have hK' : ∀ v w', i ≠ is → Below w.heap.size w w' → (¬ doneL (L.set i (some v)) is ∧ Cls w0 C w') ∨ (doneL (L.set i (some v)) is ∧ Cls w0 (C.set jj (gg, s, t)) w') := fun v w' es k => by
      rcases hK with ⟨q, hK⟩ | ⟨q, hK⟩
      · refine .inl ⟨fun z => ?_, hK.on k⟩
        rcases (done_set hn' _).1 z with z | z
        · exact es z.symm
        · exact q z
      · exact .inr ⟨(done_set hn' _).2 (.inr q), hK.on k⟩
    have hG : ∀ v w' g, i ≠ is → RowAt w g #[] → w0.heap.size ≤ g → w.grownBy w' (some g) → (¬ doneL (L.set i (some v)) is ∧ Cls w0 C w') ∨ (doneL (L.set i (some v)) is ∧ Cls w0 (C.set jj (gg, s, t)) w') := fun v w' g es r hg k => by
      rcases hK with ⟨q, hK⟩ | ⟨q, hK⟩
      · refine .inl ⟨fun z => ?_, hK.grown r k hg⟩
        rcases (done_set hn' _).1 z with z | z
        · exact es z.symm
        · exact q z
      · exact .inr ⟨(done_set hn' _).2 (.inr q), hK.grown r k hg⟩
    have hB0 : w0.heap.size ≤ w.heap.size := by rcases hK with ⟨-, hK⟩ | ⟨-, hK⟩ <;> exact hK.old.size
    by_cases eb : i = ib
    · subst eb
      have r : (execOp (puts ds L a0).eval o).run Try.prog w = .ok (.value (.slice (some ⟨w.heap.size, 0, none⟩) 0 0)) (w.alloc (.cells #[] 23)) := by
        unfold execOp; rw [build o ho]; go_simp
      have bw : Below w.heap.size w (w.alloc (.cells #[] 23)) := (Below.refl _ _).alloc (Nat.le_refl _) _
      unfold Oper.wp; rw [r]
      refine ⟨_, rfl, key _ (fun hib _ => absurd rfl hib), hcl.set ho hn' hd, hJb _ _ hJ bw, ?_, hK' _ _ (Ne.symm nsb) bw⟩
      right; left
      refine ⟨(done_set hn' _).2 (.inl rfl), ?_, w.heap.size, by rw [List.getElem?_set_self hil], hB0, heap_alloc_new w _⟩
      rw [done_set hn']
      rintro (q | q)
      · exact nbp q.symm
      · exact nd (hcl ip i q hwp)
    by_cases ep : i = ip
    · subst ep
      have db := waits_done ho hwp hd
      rcases hR with q | ⟨-, -, g, e, hg, r⟩ | ⟨q, -⟩
      · exact absurd db q
      · obtain ⟨p, q, hop, hp, hq⟩ := app L o _ ho hd' e
        have own : w.ownsRow w0.heap.size 23 1 (.slice (some ⟨g, 0, none⟩) 0 0) ([] : List Nat).length (([] : List Nat).map (Value.float .f64)) := RowAt.owns (cur := #[]) r hg (Nat.le_refl _) (by decide) rfl
        refine wp_dup p q _ hop Try.underlying22 w0.heap.size _ [] hp own ao n cap cs hq hn hnone (hJA w hJ) (by simp; omega) hB0 ?_
        intro v' w' ho' hg'
        rw [List.nil_append] at ho'
        obtain ⟨ao', cap', rfl, h1, h2, h3, h4, h5⟩ := owns_at ho'
        refine ⟨_, rfl, key _ (fun _ hip => absurd rfl hip), hcl.set ho hn' hd, hJg _ _ g hJ r hg', ?_, hG _ _ g (Ne.symm nsp) r hg hg'⟩
        right; right
        refine ⟨(done_set hn' _).2 (.inl rfl), ao', cap', by rw [List.getElem?_set_self hil, hn], .inr h3⟩
      · exact absurd q nd
    by_cases es : i = is
    · subst es
      have dc : doneL L ic := by
        obtain ⟨m, hm'⟩ : ∃ m, ops.size = m + 1 := ⟨ops.size - 1, by omega⟩
        rw [hm'] at hws
        exact past_needs hcl ho hws hd
      have dp := hcl ic ip dc hwc
      have db := hcl ip ib dp hwp
      rcases hK with ⟨-, hK⟩ | ⟨q, -⟩
      · have Bl := hK.at_ jj hj
        obtain ⟨r, u⟩ := store L w o x0 y0 ho hd' Bl
        unfold Oper.wp; rw [r]
        exact ⟨undef, rfl, key _ (fun _ _ => u.symm), hcl.set ho hn' hd, hJs w gg s t (hK.blk jj _ _ _ hj).1 hJ, hR.past hn' ep db dp dc _, .inr ⟨(done_set hn' _).2 (.inl rfl), hK.put jj hj s t⟩⟩
      · exact absurd q nd
    have hB : ∀ (j g x y : Nat), C[j]? = some (g, x, y) → j ≠ jj → Blk w g x y := fun j g x y h hne => by
      rcases hK with ⟨-, hK⟩ | ⟨-, hK⟩
      · exact hK.at_ j h
      · exact hK.at_ j (by rw [List.getElem?_set_ne (Ne.symm hne)]; exact h)
    by_cases ec : i = ic
    · subst ec
      have dp := waits_done ho hwc hd
      have dc0 := nd
      have ha : ∃ ao' cap', L[ip]? = some (some (.slice ao' n cap')) ∧ At w ao' cs := by
        rcases hR with q | ⟨-, q, -⟩ | ⟨-, ao', cap', e, k⟩
        · exact absurd (hcl ip ib dp hwp) q
        · exact absurd dp q
        · rcases k with k | k
          · exact absurd k nd
          · exact ⟨ao', cap', e, k⟩
      obtain ⟨ao', cap', e, hA⟩ := ha
      rcases call L w o ao' cap' ho hd' e hA with ⟨w', r, k⟩ | ⟨f, args, r, k⟩
      · unfold Oper.wp; rw [r]
        exact ⟨_, rfl, key _ (fun _ _ => rfl), hcl.set ho hn' hd, hJb _ _ hJ k, hR.keep hn' eb ep k, hK' _ _ es k⟩
      · unfold Oper.wp; rw [r]
        refine Calls.mono k fun e w' hh => ?_
        obtain ⟨rfl, hS⟩ := hh
        exact ⟨_, rfl, key _ (fun _ _ => rfl), hcl.set ho hn' hd, hJb _ _ hJ hS, hR.keep hn' eb ep hS, hK' _ _ es hS⟩
    · rcases step L w i o ho es eb ep ec hd' hB hJ with ⟨w', r, k⟩ | ⟨f, args, r, k⟩
      · unfold Oper.wp; rw [r]
        exact ⟨_, rfl, key _ (fun _ _ => rfl), hcl.set ho hn' hd, hJb _ _ hJ k, hR.keep hn' eb ep k, hK' _ _ es k⟩
      · unfold Oper.wp; rw [r]
        refine Calls.mono k fun e w' hh => ?_
        obtain ⟨rfl, hS⟩ := hh
        exact ⟨_, rfl, key _ (fun _ _ => rfl), hcl.set ho hn' hd, hJb _ _ hJ hS, hR.keep hn' eb ep hS, hK' _ _ es hS⟩
  · intro L w hL hall ⟨hdet, hcl, hJ, _, hK⟩
    have hip : ip < ops.size := by
      obtain ⟨v, hv⟩ := hcl ic ip (hcl.needs _ _ _ hws (hall is his)) hwc
      have := (List.getElem?_eq_some_iff.1 hv).1
      omega
    have hib : ib < ops.size := by
      obtain ⟨v, hv⟩ := hcl ip ib (hall ip hip) hwp
      have := (List.getElem?_eq_some_iff.1 hv).1
      omega
    obtain ⟨v1, e1⟩ := hall ib hib
    obtain ⟨v2, e2⟩ := hall ip hip
    rcases hK with ⟨q, -⟩ | ⟨-, hK⟩
    · exact absurd (hall is his) q
    · have eL : L = (((dv.map some).set ib (some v1)).set ip (some v2)) := by
        refine List.ext_getElem? fun i => ?_
        by_cases hi : i < ops.size
        · by_cases q2 : ip = i
          · subst q2
            rw [e2, List.getElem?_set_self (by simp; omega)]
          · rw [List.getElem?_set_ne q2]
            by_cases q1 : ib = i
            · subst q1
              rw [e1, List.getElem?_set_self (by simp; omega)]
            · obtain ⟨v, hv⟩ := hall i hi
              rw [List.getElem?_set_ne q1, hv, hdet i v (Ne.symm q1) (Ne.symm q2) hv]
              simp [List.getD, hl, hi]
        · rw [List.getElem?_eq_none (by omega), List.getElem?_eq_none (by simp; omega)]
      rw [eL]
      exact fin v1 v2 w hK hJ
end
end Go.Proofs.Ytjhcalgamcdgiaa

namespace Go.Proofs.Ytjhcalgamcdgiaa
open Go.ChangeShapes Go.WideShapes Go.ChangeAt Go.RowKit Ieee.Own Pol

theorem errS_pt {x : Nat} (f : fitB x = true) : errS x x = 0 := errS_of ⟨f, f⟩ (Int.le_refl _)
theorem errO_pt {m x : Nat} {L : List Nat} (h : errX m L x = 0) : errO m L x x = 0 := by
  obtain ⟨h1, h2⟩ := errX_zero h
  have f : fitB x = true := by unfold inM at h2; rw [decide_eq_true_eq] at h2; exact h2.1
  unfold errO
  rw [if_pos h1, if_pos (errS_pt f), if_pos ⟨h2, h2⟩]
theorem wn_fin {p : Pr} {T : Int} (h : Wn p T) : FinW p.1 ∧ FinW p.2 := by
  obtain ⟨f1, f2, -⟩ := errS_zero h.ok
  exact ⟨fit_fin h.l1 f1, fit_fin h.l2 f2⟩
theorem wn_cap {p : Pr} {T : Int} {k : Nat} (h : Wn p T) (hT : T ≤ 2 ^ k) : (V p.1).natAbs ≤ 2 ^ k ∧ (V p.2).natAbs ≤ 2 ^ k := by
  have a := h.ends
  have e := pow_int k
  omega
theorem capT_le {n : Nat} (hn : n ≤ 16) : hbT n ≤ 2 ^ 1400 := by
  have : ∀ n, n < 17 → hbT n ≤ 2 ^ 1400 := by decide +kernel
  exact this n (by omega)
theorem cap_1400 {c k : Nat} (h : (V c).natAbs ≤ 2 ^ k) (hk : k ≤ 1400) : (V c).natAbs ≤ 2 ^ 1400 := Nat.le_trans h (two_le (a := k) (b := 1400) hk)
theorem c190_cap : (V c190).natAbs ≤ 2 ^ 1500 := by
  have e : (V c190).natAbs = 2 ^ 884 := by rw [c190_V.2.1]; exact pw_abs 884
  exact cap_up (c := c190) (j := 884) (k := 1500) e (by omega)
/-- what the law asks of one value and its span: the quotient D of the weight, S the limit, o how far off -/
structure OffA (r y : Nat) (P : Pr) (W K : Nat) (D S : Nat) : Prop where
  d : Ieee.double.div W K = some D
  s : Ieee.double.add D c190 = some S
  le : (FloatKind.f64.format.order r S == some Ordering.lt || FloatKind.f64.format.order r S == some Ordering.eq) = true
  off : ∀ w, Calls Try.prog 19 #[spanV P.1 P.2, .float .f64 y] w fun e w' => e = .returned (.float .f64 r) ∧ Below w.heap.size w w'
theorem off_put {y : Nat} {P : Pr} {W K D : Nat} (f1 : FinW P.1) (f2 : FinW P.2) (fy : FinW y) (b1 : (V P.1).natAbs ≤ 2 ^ 1400) (b2 : (V P.2).natAbs ≤ 2 ^ 1400) (by' : (V y).natAbs ≤ 2 ^ 1400)
    (d : Ieee.double.div W K = some D) (fD : FinW D) (h1 : V P.1 - V y ≤ V D + V c190) (h2 : V y - V P.2 ≤ V D + V c190) (bD : (V D).natAbs ≤ 2 ^ 1500) (nD : 0 ≤ V D) : ∃ o S, OffA o y P W K D S := by
  obtain ⟨o, fo, ho, C⟩ := off_any f1 f2 fy b1 b2 by'
  obtain ⟨S, s1, s2, s3, -⟩ := addW (k := 1500) fD c190_V.1 bD c190_cap (by omega)
  have n0 : 0 ≤ V D + V c190 := by
    have : 0 ≤ V c190 := by rw [c190_V.2.1]; exact Int.pow_nonneg (by omega)
    omega
  have le := ho _ n0 h1 h2
  rw [← s3] at le
  have w := le_words fo s2
  rw [decide_eq_true le] at w
  exact ⟨o, S, d, s1, w, C⟩
/-- the greater of 1 and x's magnitude -/
def selM (x : Nat) : Nat := if V (x % 9223372036854775808) < V oneW then oneW else x % 9223372036854775808
theorem selM_ok {x : Nat} (fx : FinW x) (bx : (V x).natAbs ≤ 2 ^ 1084) : FinW (selM x) ∧ 2 ^ 1074 ≤ V (selM x) ∧ V (selM x) ≤ 2 ^ 1084 ∧ ((V x).natAbs : Int) ≤ V (selM x) ∧ (V (selM x)).natAbs ≤ 2 ^ 1084 := by
  obtain ⟨fa, va⟩ := abs_word fx
  have one : V oneW = 2 ^ 1074 := by decide +kernel
  have p := pow_int 1084
  have q : (2 : Int) ^ 1074 ≤ 2 ^ 1084 := pow_le_pow' (by omega)
  have t0 : (0 : Int) < 2 ^ 1074 := Int.pow_pos (by omega)
  unfold selM
  by_cases c : V (x % 9223372036854775808) < V oneW
  · rw [if_pos c]
    rw [va] at c
    refine ⟨by unfold FinW oneW; omega, ?_, ?_, ?_, ?_⟩ <;> rw [one] <;> rw [one] at c <;> omega
  · rw [if_neg c]
    rw [va] at c
    refine ⟨fa, ?_, ?_, ?_, ?_⟩ <;> rw [va] <;> rw [one] at c <;> omega
/-- by powers -/
theorem hor_off {x : Nat} {L : List Nat} {P : Pr} (hw : Words L) (hx : x < 18446744073709551616) (h0 : errX m10 L x = 0) (hP : HsR (x, x) L P) :
    FinW x ∧ (∃ D o S, OffA o (posW (polW x L)) P (wtW (selM x) 0 oneW L) 4805340802404319232 D S) ∧ (FinW (selM x) ∧ (V (selM x)).natAbs ≤ 2 ^ 1084 ∧ 0 ≤ V (selM x)) ∧ ∀ c ∈ L, Fc c := by
  obtain ⟨hC, hX⟩ := errX_zero h0
  obtain ⟨hl, hc⟩ := errC_zero hw hC
  obtain ⟨fx, bx⟩ := inM_x10 hx hX
  have wX := wn10 hx hx (errO_pt h0)
  obtain ⟨fm, m1, m2, mx, bm⟩ := selM_ok fx bx
  have t0 : (0 : Int) < 2 ^ 1074 := Int.pow_pos (by omega)
  obtain ⟨D, d1, d2, d3, d4, d5, d6⟩ := hor_holds fx bx wX fm m1 m2 mx hc hl hP
  obtain ⟨P', w', R', -⟩ := hs_ex wX L hc hl
  obtain rfl := hP.uniq R'
  obtain ⟨fa, ba, -, -⟩ := pol_wd fx bx L (fc_cw hc) hl
  obtain ⟨f1, f2⟩ := wn_fin w'
  obtain ⟨b1, b2⟩ := wn_cap w' (capT_le hl)
  refine ⟨fx, ?_, ⟨fm, bm, by omega⟩, hc⟩
  rw [← posW_V (polW x L)] at d3 d4
  obtain ⟨o, S, h⟩ := off_put f1 f2 (posW_fin fa) b1 b2 (by rw [posW_V]; exact cap_1400 ba (by omega)) d1 d2 d3 d4 d5 d6
  exact ⟨D, o, S, h⟩
/-- by Chebyshev's polynomials -/
theorem ch_off {x : Nat} {L : List Nat} {P : Pr} (hw : Words L) (hx : x < 18446744073709551616) (h0 : errX m00 L x = 0) (hP : ChR (x, x) L P) :
    (∃ D o S, OffA o (posW (chW x L)) P (wtW oneW 0 oneW L) 4787326403894837248 D S) ∧ ∀ c ∈ L, Fc c := by
  obtain ⟨hC, hX⟩ := errX_zero h0
  obtain ⟨hl, hc⟩ := errC_zero hw hC
  obtain ⟨fx, bx⟩ := inM_x00 hx hX
  have wX := wn00 hx hx (errO_pt h0)
  obtain ⟨D, d1, d2, d3, d4, d5, d6⟩ := ch_holds fx bx wX hc hl hP
  obtain ⟨P', w', R', -⟩ := ch_ex wX L hc hl
  obtain rfl := hP.uniq R'
  obtain ⟨fa, ba, -, -⟩ := ch_wd fx bx L (fc_cw hc) hl
  obtain ⟨f1, f2⟩ := wn_fin w'
  obtain ⟨b1, b2⟩ := wn_cap w' (pow_le_pow' (a := 1074 + 92) (b := 1400) (by omega))
  refine ⟨?_, hc⟩
  rw [← posW_V (chW x L)] at d3 d4
  obtain ⟨o, S, h⟩ := off_put f1 f2 (posW_fin fa) b1 b2 (by rw [posW_V]; exact cap_1400 ba (by omega)) d1 d2 d3 d4 d5 d6
  exact ⟨D, o, S, h⟩
end Go.Proofs.Ytjhcalgamcdgiaa

namespace Go.Proofs.Ytjhcalgamcdgiaa
open Go.ChangeShapes Go.WideShapes Go.ChangeAt Go.RowKit Ieee.Own Pol

theorem xneg6 (b : Nat) (hb : b < 18446744073709551616) (w : World) : (Op.unary .neg (.float .f64 b)).run Try.prog w = .ok (.float .f64 (negW b)) w := xneg' b hb w
/-- every second number through f, the first as s says -/
def flipF (f : Nat → Nat) : Bool → List Nat → List Nat
  | _, [] => []
  | s, a :: l => (if s then f a else a) :: flipF f (!s) l
theorem flipF_len (f : Nat → Nat) : ∀ (s : Bool) (l : List Nat), (flipF f s l).length = l.length
  | _, [] => rfl
  | s, _ :: l => by show (flipF f (!s) l).length + 1 = l.length + 1; rw [flipF_len]
theorem flipF_at (f : Nat → Nat) : ∀ (s : Bool) (l : List Nat) (j : Nat), j < l.length → (flipF f s l).getD j 0 = if (j + (if s then 1 else 0)) % 2 = 1 then f (l.getD j 0) else l.getD j 0
  | _, [], j, h => by simp at h
  | s, a :: l, 0, _ => by
    cases s
    · rw [if_neg (by decide)]; rfl
    · rw [if_pos (by decide)]; rfl
  | s, a :: l, j + 1, h => by
    show (flipF f (!s) l).getD j 0 = _
    rw [flipF_at f (!s) l j (by simpa using h), List.getD_cons_succ]
    cases s
    · simp only [Bool.not_false, if_true, Bool.false_eq_true, if_false, Nat.add_zero]
    · simp only [Bool.not_true, if_true, Bool.false_eq_true, if_false, Nat.add_zero]
      have e : (j + 1 + 1) % 2 = j % 2 := by omega
      rw [e]
theorem flipF_mem {f : Nat → Nat} {s : Bool} {l : List Nat} {x : Nat} (h : x ∈ flipF f s l) : ∃ a ∈ l, x = a ∨ x = f a := by
  induction l generalizing s with
  | nil => simp [flipF] at h
  | cons a l ih =>
    rcases List.mem_cons.1 h with h | h
    · refine ⟨a, List.mem_cons_self .., ?_⟩
      rw [h]
      cases s
      · exact .inl rfl
      · exact .inr rfl
    · obtain ⟨b, hb, e⟩ := ih h
      exact ⟨b, List.mem_cons_of_mem _ hb, e⟩
theorem flipF_all {f : Nat → Nat} {q : Nat → Bool} {s : Bool} {l : List Nat} (h : ∀ a ∈ l, q (f a) = q a) : (flipF f s l).all q = l.all q := by
  induction l generalizing s with
  | nil => rfl
  | cons a l ih =>
    show (q (if s then f a else a) && (flipF f (!s) l).all q) = (q a && l.all q)
    rw [ih (fun x hx => h x (List.mem_cons_of_mem _ hx))]
    cases s
    · rfl
    · show (q (f a) && _) = _
      rw [h a (List.mem_cons_self ..)]
theorem flipF_alt (f : Nat → Nat) (l : List Nat) (h : ∀ c ∈ l, V (f c) = -V c) : ∀ s, Alt s l (flipF f s l) := by
  induction l with
  | nil => exact fun s => .nil s
  | cons a l ih =>
    intro s
    refine .cons ?_ (ih (fun c hc => h c (List.mem_cons_of_mem _ hc)) (!s))
    have e := h a (List.mem_cons_self ..)
    generalize f a = b at *
    cases s
    · rw [if_neg (by decide), sg_f]
    · rw [if_pos (by decide), e]
      unfold sg
      rw [if_pos rfl]
def flipL (s : Bool) (l : List Nat) : List Nat := flipF negW s l
theorem flip_len (s : Bool) (l : List Nat) : (flipL s l).length = l.length := flipF_len negW s l
theorem flip_at (s : Bool) (l : List Nat) (j : Nat) (h : j < l.length) : (flipL s l).getD j 0 = if (j + (if s then 1 else 0)) % 2 = 1 then negW (l.getD j 0) else l.getD j 0 := flipF_at negW s l j h
theorem flip_mem {s : Bool} {l : List Nat} {x : Nat} (h : x ∈ flipL s l) : ∃ a ∈ l, x = a ∨ x = negW a := flipF_mem h
theorem neg_lt6 {a : Nat} (h : a < 18446744073709551616) : negW a < 18446744073709551616 := by unfold negW; split <;> omega
theorem neg_mod {a : Nat} (h : a < 18446744073709551616) : negW a % 9223372036854775808 = a % 9223372036854775808 := by unfold negW; split <;> omega
theorem flip_words {s : Bool} {l : List Nat} (h : Words l) : Words (flipL s l) := fun x hx => by
  obtain ⟨a, ha, rfl | rfl⟩ := flip_mem hx
  · exact h _ ha
  · exact neg_lt6 (h _ ha)
theorem inM_neg {m a : Nat} (h : a < 18446744073709551616) : inM m (negW a) = inM m a := by
  unfold inM
  rw [neg_mod h]
  have : fitB (negW a) = fitB a := by unfold fitB; rw [neg_mod h]
  rw [this]
theorem flip_all {s : Bool} {l : List Nat} (h : Words l) : (flipL s l).all (inM m40) = l.all (inM m40) := flipF_all (fun a ha => inM_neg (h a ha))
theorem flip_errC {l : List Nat} (h : Words l) : errC (flipL false l) = errC l := by
  unfold errC
  rw [flip_len, flip_all h]
theorem flip_errX {m x : Nat} {l : List Nat} (h : Words l) (hx : x < 18446744073709551616) : errX m (flipL false l) (negW x) = errX m l x := by
  unfold errX
  rw [flip_errC h, inM_neg hx]
theorem flip_alt (s : Bool) (l : List Nat) (h : ∀ c ∈ l, FinW c) : Alt s l (flipL s l) := flipF_alt negW l (fun c hc => negW_V (h c hc)) s

/-- Horner's answers at x and, of the mirrored coefficients, at -x: equal -/
theorem mir_h {L : List Nat} {n x : Nat} (hn : n = L.length) (hm : n ≤ 4611686018427387904) (hw : Words L) (hx : x < 18446744073709551616) :
    ∃ a b k, (∀ ao cap w, At w ao L → Calls Try.prog 17 #[.slice ao n cap, .float .f64 x] w fun e w' => e = .returned (fe a k) ∧ w = w') ∧
      (∀ ao cap w, At w ao (flipL false L) → Calls Try.prog 17 #[.slice ao n cap, .float .f64 (negW x)] w fun e w' => e = .returned (fe b k) ∧ w = w') ∧
      (FloatKind.f64.format.order a b == some Ordering.eq) = true := by
  have e := flip_errX (m := m10) hw hx
  have hn' : n = (flipL false L).length := by rw [flip_len]; exact hn
  have hw' := flip_words (s := false) hw
  have hx' := neg_lt6 hx
  by_cases h0 : errX m10 L x = 0
  · obtain ⟨hC, hX⟩ := errX_zero h0
    obtain ⟨hl, hc⟩ := errC_zero hw hC
    obtain ⟨hl', hc'⟩ := errC_zero hw' (by rw [flip_errC hw]; exact hC)
    obtain ⟨fx, bx⟩ := inM_x10 hx hX
    obtain ⟨fy, by'⟩ := inM_x10 hx' (by rw [inM_neg hx]; exact hX)
    have A := flip_alt false L (fun c h => (fc_cw hc c h).fin)
    have v := pol_mir fx bx fy by' (negW_V fx) A (fc_cw hc) (fc_cw hc') hl
    rw [sg_f] at v
    refine ⟨_, _, 0, fun ao cap w h => phorner_ok ao cap n L x w hn hm hw h hx h0, fun ao cap w h => phorner_ok ao cap n _ _ w hn' hm hw' h hx' (e.trans h0), ?_⟩
    rw [eq_words (posW_fin (pol_wd fx bx L (fc_cw hc) hl).1) (posW_fin (pol_wd fy by' _ (fc_cw hc') hl').1), posW_V, posW_V, v]
    exact decide_eq_true rfl
  · refine ⟨0, 0, _, fun ao cap w h => phorner_no ao cap n L x w hn hm hw h hx h0, fun ao cap w h => ?_, by decide +kernel⟩
    have := phorner_no ao cap n _ _ w hn' hm hw' h hx' (by rw [e]; exact h0)
    rw [e] at this
    exact this
theorem mir_c {L : List Nat} {n x : Nat} (hn : n = L.length) (hm : n ≤ 4611686018427387904) (hw : Words L) (hx : x < 18446744073709551616) :
    ∃ a b k, (∀ ao cap w, At w ao L → Calls Try.prog 21 #[.slice ao n cap, .float .f64 x] w fun e w' => e = .returned (fe a k) ∧ w = w') ∧
      (∀ ao cap w, At w ao (flipL false L) → Calls Try.prog 21 #[.slice ao n cap, .float .f64 (negW x)] w fun e w' => e = .returned (fe b k) ∧ w = w') ∧
      (FloatKind.f64.format.order a b == some Ordering.eq) = true := by
  have e := flip_errX (m := m00) hw hx
  have hn' : n = (flipL false L).length := by rw [flip_len]; exact hn
  have hw' := flip_words (s := false) hw
  have hx' := neg_lt6 hx
  by_cases h0 : errX m00 L x = 0
  · obtain ⟨hC, hX⟩ := errX_zero h0
    obtain ⟨hl, hc⟩ := errC_zero hw hC
    obtain ⟨hl', hc'⟩ := errC_zero hw' (by rw [flip_errC hw]; exact hC)
    obtain ⟨fx, bx⟩ := inM_x00 hx hX
    obtain ⟨fy, by'⟩ := inM_x00 hx' (by rw [inM_neg hx]; exact hX)
    have A := flip_alt false L (fun c h => (fc_cw hc c h).fin)
    have v := ch_mir fx bx fy by' (negW_V fx) A (fc_cw hc) (fc_cw hc') hl
    refine ⟨_, _, 0, fun ao cap w h => pcheb_ok ao cap n L x w hn hm hw h hx h0, fun ao cap w h => pcheb_ok ao cap n _ _ w hn' hm hw' h hx' (e.trans h0), ?_⟩
    rw [eq_words (posW_fin (ch_wd fx bx L (fc_cw hc) hl).1) (posW_fin (ch_wd fy by' _ (fc_cw hc') hl').1), posW_V, posW_V, v]
    exact decide_eq_true rfl
  · refine ⟨0, 0, _, fun ao cap w h => pcheb_no ao cap n L x w hn hm hw h hx h0, fun ao cap w h => ?_, by decide +kernel⟩
    have := pcheb_no ao cap n _ _ w hn' hm hw' h hx' (by rw [e]; exact h0)
    rw [e] at this
    exact this

/-- the copy, mirrored up to place i -/
structure Flip (B : Nat) (w0 : World) (L : List Nat) (g c i : Nat) (wr : World) : Prop where
  old : Below B w0 wr
  gb : B ≤ g
  odd : i % 2 = 1
  row : ∃ cur, RowAt wr g cur ∧ cur.size = c ∧ L.length ≤ c ∧ ∀ j, j < L.length → cur[j]? = some (.float .f64 (if j < i ∧ j % 2 = 1 then negW (L.getD j 0) else L.getD j 0))
theorem Flip.facts {B : Nat} {w0 : World} {L : List Nat} {g c i : Nat} {wr : World} (S : Flip B w0 L g c i wr) (hi : i < L.length) : wr.cell? ⟨g, i, none⟩ = some (.float .f64 (L.getD i 0)) ∧ wr.frozen? ⟨g, i, none⟩ = false := by
  obtain ⟨cur, r, -, -, h⟩ := S.row
  refine ⟨?_, frozen_of_row wr g i cur _ r⟩
  rw [RowAt.cell r, h i hi, if_neg (by omega)]
theorem Flip.next {B : Nat} {w0 : World} {L : List Nat} {g c i : Nat} {wr : World} (S : Flip B w0 L g c i wr) (hi : i < L.length) : Flip B w0 L g c (i + 2) (wr.setCell ⟨g, i, none⟩ (.float .f64 (negW (L.getD i 0)))) := by
  obtain ⟨cur, r, hs, hl, h⟩ := S.row
  have ho := S.odd
  refine ⟨S.old.setCell S.gb _, S.gb, by omega, cur.setIfInBounds i (.float .f64 (negW (L.getD i 0))), heap_setCell_same wr g i cur _ _ r, by simpa using hs, hl, ?_⟩
  intro j hj
  by_cases e : j = i
  · subst e
    rw [Array.getElem?_setIfInBounds_self_of_lt (by omega), if_pos (by omega)]
  · rw [Array.getElem?_setIfInBounds_ne (by omega), h j hj]
    by_cases q : j < i ∧ j % 2 = 1
    · rw [if_pos q, if_pos (by omega)]
    · rw [if_neg q, if_neg (by omega)]
theorem Flip.done {B : Nat} {w0 : World} {L : List Nat} {g c i : Nat} {wr : World} (S : Flip B w0 L g c i wr) (hi : L.length ≤ i) : At wr (some ⟨g, 0, none⟩) (flipL false L) ∧ g < wr.heap.size := by
  obtain ⟨cur, r, hs, hl, h⟩ := S.row
  refine ⟨fun j hj => ⟨g, 0, rfl, ?_⟩, RowAt.lt r⟩
  rw [flip_len] at hj
  rw [Nat.zero_add, RowAt.cell r, h j hj, flip_at false L j hj]
  by_cases q : j % 2 = 1
  · rw [if_pos ⟨by omega, q⟩, if_pos (by simpa using q)]
  · rw [if_neg (fun z => q z.2), if_neg (by simpa using q)]
end Go.Proofs.Ytjhcalgamcdgiaa

namespace Go.Proofs.Ytjhcalgamcdgiaa
open Go.ChangeShapes Go.WideShapes Go.ChangeAt Go.RowKit Ieee.Own

theorem x34k (b : Nat) (w : World) : (callFunc 38 #[.float .f64 b]).run Try.prog w = .ok (.value (.int .u64 (b : Int))) w := x34 b w
theorem one_times : ∀ m, m < 41 → Ieee.double.mul 4607182418800017408 ((m + 1003) * 4503599627370496) = some ((m + 1003) * 4503599627370496) := by decide +kernel
theorem or_none : ∀ m, m < 41 → bits BinOp.or IntKind.u64 0 ((((m + 1003 : Nat) : Int)) * 4503599627370496) = (((m + 1003 : Nat) : Int)) * 4503599627370496 := by decide +kernel
set_option maxHeartbeats 1000000 in
theorem ldexp_k (k : Int) (h1 : -20 ≤ k) (h2 : k ≤ 20) (w : World) : Calls Try.prog 22 #[.float .f64 4607182418800017408, .int .i64 k] w fun e w' => e = .returned (.float .f64 ((k + 1023).toNat * 4503599627370496)) ∧ w = w' := by
  have A : ∀ w, Calls Try.prog 18 #[.float .f64 4607182418800017408] w fun e w' => e = .returned (.float .f64 4607182418800017408) ∧ w = w' := fun w => abs_any _ (by omega) w
  have e1 : (FloatKind.f64.format.order 4607182418800017408 0 == some Ordering.eq) = false := by decide +kernel
  have e2 : (FloatKind.f64.format.order 4607182418800017408 9218868437227405311 == some Ordering.gt) = false := by decide +kernel
  have e3 : (FloatKind.f64.format.order 4607182418800017408 4607182418800017408 != some Ordering.eq) = false := by decide +kernel
  have e4 : (FloatKind.f64.format.order 4607182418800017408 4503599627370496 == some Ordering.lt) = false := by decide +kernel
  have k1 : bits BinOp.and IntKind.i64 1023 2047 = 1023 := by decide +kernel
  have k2 : bits BinOp.andNot IntKind.u64 4607182418800017408 9218868437227405312 = 0 := by decide +kernel
  obtain ⟨m, hm, rfl⟩ : ∃ m : Nat, m < 41 ∧ k = (m : Int) - 20 := ⟨(k + 20).toNat, by omega, by omega⟩
  have k3 := or_none m hm
  have k4 := one_times m hm
  have e7 : ((m : Int) - 20 + 1023) = ((m + 1003 : Nat) : Int) := by omega
  rw [e7, Int.toNat_natCast]
  rw [← e7] at k3
  have e8 : (((m : Int) - 20 + 1023) * 4503599627370496).toNat = (m + 1003) * 4503599627370496 := by omega
  have e5 : ∀ t w, (binOp .mul t (.float .f64 4607182418800017408) (.float .f64 ((m + 1003) * 4503599627370496))).run Try.prog w = .ok (.float .f64 ((m + 1003) * 4503599627370496)) w := fun t w => run_mul _ _ _ k4 t w
  rw [← e8] at e5
  clear e7 k4 hm
  obtain ⟨k, hk⟩ : ∃ k, k = (m : Int) - 20 := ⟨_, rfl⟩
  rw [← hk] at h1 h2 k3 e5 e8 ⊢
  replace hk := Lib.hid hk
  replace e8 := Lib.hid e8
  go_enter Try.func22, Try.ntmps22
  go_wp2_with (first | (go_at_call 18; ((with_reducible refine (A _).mono ?_); rintro e w' ⟨rfl, rfl⟩)) | simp only [x34k, x40] | go_in)
  go_ret
  exact ⟨by rw [← e8.out]; rfl, rfl⟩
end Go.Proofs.Ytjhcalgamcdgiaa

namespace Go.Proofs.Ytjhcalgamcdgiaa
open Go.ChangeShapes Go.WideShapes Go.ChangeAt Go.RowKit Ieee.Own Pol

/-- any product: the word, if it has one, else some word that is drawn -/
theorem mul_drawn (x y : Nat) (t : TypeId) (w : World) : ∃ r w1, (binOp .mul t (.float .f64 x) (.float .f64 y)).run Try.prog w = .ok (.float .f64 r) w1 ∧ Drawn w w1 ∧ r < 18446744073709551616 ∧ ∀ s, Ieee.double.mul x y = some s → r = s := by
  cases e : Ieee.double.mul x y with
  | some r => exact ⟨r, w, run_mul x y r e t w, Drawn.refl w, Ieee.Format.mul_lt Ieee.double e, fun s h => Option.some.inj h⟩
  | none =>
    have h : FloatKind.f64.format.mul x y = none := e
    refine ⟨Question.cut (.nanBits .f64 x y) (w.tape w.drawn (.nanBits .f64 x y)), w.drew, ?_, (Drawn.refl w).more 1, ?_, fun s h => by cases h⟩
    · simp [binOp, Op.floatArith, h, Question.forced]
    · show (_ % 2) * 2 ^ 63 + 0x7ff0000000000000 + 1 + (_ / 2) % (2 ^ 52 - 1) < 18446744073709551616
      omega
/-- a product that is exact -/
theorem times_exact {a y i j k : Nat} {N : Int} (ha : FinW a) (hy : FinW y) (xa : (V a).natAbs ≤ 2 ^ i) (xy : (V y).natAbs ≤ 2 ^ j) (e : i + j = k + 1074) (hk : k < 2098) (hN : V a * V y = N * 2 ^ 1074) (hr : RN N = N) :
    ∃ r, Ieee.double.mul a y = some r ∧ FinW r ∧ V r = N := by
  obtain ⟨r, r1, r2, r3, -⟩ := mulB ha hy xa xy e hk
  refine ⟨r, r1, r2, ?_⟩
  rw [r3, hN, RZ_whole, hr]
def pwW (m : Nat) : Nat := (m + 1003) * 4503599627370496
theorem pw_all : ∀ m, m < 41 → V (pwW m) = 2 ^ (1054 + m) ∧ (pwW m < 18446744073709551616 ∧ pwW m % 9223372036854775808 < 9218868437227405312) ∧ (V (pwW m)).natAbs ≤ 2 ^ 1094 := by decide +kernel
theorem pow_up (a b : Nat) : (2 : Int) ^ (a + b) = 2 ^ a * 2 ^ b := Int.pow_add ..
/-- a coefficient times a power of two, exactly -/
theorem coef_times {c m : Nat} (hc : Fc c) (hm : m < 41) : ∃ r, Ieee.double.mul c (pwW m) = some r ∧ FinW r ∧ V r * 2 ^ (20 - m) = V c * 2 ^ (m - 20) := by
  obtain ⟨v, f, b⟩ := pw_all m hm
  have fc := fit_fin hc.lt hc.fit
  by_cases h : 20 ≤ m
  · obtain ⟨r, r1, r2, r3⟩ := times_exact (i := 1114) (j := 1094) (k := 1134) (N := V c * 2 ^ (m - 20)) fc f hc.bd b (by omega) (by omega) (by
      rw [v, Int.mul_assoc (V c), ← pow_up, show m - 20 + 1074 = 1054 + m by omega]) (by rw [RN_scale, RN_exact (Rep_V c)])
    refine ⟨r, r1, r2, ?_⟩
    rw [show 20 - m = 0 by omega, r3, Int.pow_zero, Int.mul_one]
  · obtain ⟨q, hq⟩ := fit_822 hc.lt hc.fit
    have key : q * 2 ^ (822 - (20 - m)) * 2 ^ (20 - m) = V c := by
      rw [hq, Int.mul_assoc, ← pow_up, show 822 - (20 - m) + (20 - m) = 822 by omega, Int.mul_comm]
    have ex : RN (q * 2 ^ (822 - (20 - m))) = q * 2 ^ (822 - (20 - m)) := by
      have t : (0 : Int) < 2 ^ (20 - m) := Int.pow_pos (by omega)
      have := RN_scale (q * 2 ^ (822 - (20 - m))) (20 - m)
      rw [key, RN_exact (Rep_V c), ← key] at this
      exact (Int.eq_of_mul_eq_mul_right (Int.ne_of_gt t) this).symm
    obtain ⟨r, r1, r2, r3⟩ := times_exact (i := 1114) (j := 1094) (k := 1134) (N := q * 2 ^ (822 - (20 - m))) fc f hc.bd b (by omega) (by omega) (by
      rw [v, ← key, Int.mul_assoc (q * 2 ^ (822 - (20 - m))), ← pow_up, show 20 - m + (1054 + m) = 1074 by omega]) ex
    refine ⟨r, r1, r2, ?_⟩
    rw [r3, key, show m - 20 = 0 by omega, Int.pow_zero, Int.mul_one]
/-- the coefficients times y, so far -/
structure Scl (L : List Nat) (y : Nat) (M : List Nat) : Prop where
  wd : Words M
  at_ : ∀ j, j < M.length → ∀ s, Ieee.double.mul (L.getD j 0) y = some s → M.getD j 0 = s
theorem Scl.nil (L : List Nat) (y : Nat) : Scl L y [] := ⟨by intro x hx; simp at hx, fun j hj => by simp at hj⟩
theorem Scl.next {L M : List Nat} {y r : Nat} (h : Scl L y M) (hr : r < 18446744073709551616) (he : ∀ s, Ieee.double.mul (L.getD M.length 0) y = some s → r = s) : Scl L y (M ++ [r]) := by
  refine ⟨fun x hx => ?_, fun j hj s hs => ?_⟩
  · rcases List.mem_append.1 hx with hx | hx
    · exact h.wd x hx
    · rw [List.mem_singleton.1 hx]; exact hr
  · simp at hj
    by_cases e : j = M.length
    · subst e
      have : (M ++ [r]).getD M.length 0 = r := by simp [List.getD]
      rw [this]; exact he s hs
    · have hj' : j < M.length := by omega
      have : (M ++ [r]).getD j 0 = M.getD j 0 := by simp [List.getD, List.getElem?_append_left hj']
      rw [this]; exact h.at_ j hj' s hs
/-- is x 0, or of a magnitude from 2^-10 on? -/
theorem nsm_zero {x : Nat} (fx : FinW x) (h : (FloatKind.f64.format.order x 0 == some Ordering.eq) = true) : Nsm 1064 (V x) := by
  left
  have e := eq_words fx zeroF
  rw [h] at e
  have := of_decide_eq_true e.symm
  rw [this, zeroV]
theorem nsm_big6 {x : Nat} (fx : FinW x) (h : (FloatKind.f64.format.order (x % 9223372036854775808) 4562146422526312448 == some Ordering.gt || FloatKind.f64.format.order (x % 9223372036854775808) 4562146422526312448 == some Ordering.eq) = true) : Nsm 1064 (V x) := by
  right
  obtain ⟨fa, va⟩ := abs_word fx
  have e := ge_words fa (show FinW 4562146422526312448 from ⟨by omega, by omega⟩)
  rw [h] at e
  have := of_decide_eq_true e.symm
  have v : V 4562146422526312448 = 2 ^ 1064 := by decide +kernel
  have p := pow_int 1064
  omega
/-- the values: the second is the first times the power -/
theorem scale_eq {L M : List Nat} {x m : Nat} (hw : Words L) (hx : x < 18446744073709551616) (hm : m < 41) (S : Scl L (pwW m) M) (hlen : M.length = L.length) (h0 : errX m10 L x = 0) (h1 : errX m10 M x = 0) (hs : Nsm 1064 (V x)) :
    ∃ r, Ieee.double.mul (posW (polW x L)) (pwW m) = some r ∧ (FloatKind.f64.format.order r (posW (polW x M)) == some Ordering.eq) = true := by
  obtain ⟨hC, hX⟩ := errX_zero h0
  obtain ⟨hC', -⟩ := errX_zero h1
  obtain ⟨hl, hc⟩ := errC_zero hw hC
  obtain ⟨hl', hc'⟩ := errC_zero S.wd hC'
  obtain ⟨fx, bx⟩ := inM_x10 hx hX
  have key := pol_scale (i := m - 20) (j := 20 - m) fx bx hs L M hlen.symm (fun k hk => by
    obtain ⟨r, r1, r2, r3⟩ := coef_times (fc_at hc hk) hm
    rw [S.at_ k (by omega) r r1]; exact r3) (fun c h => (hc c h).fw) (fun c h => (hc' c h).fw) hl
  obtain ⟨v, f, b⟩ := pw_all m hm
  obtain ⟨fa, ba, -, -⟩ := pol_wd fx bx L (fc_cw hc) hl
  obtain ⟨fb, -, -, -⟩ := pol_wd fx bx M (fc_cw hc') hl'
  obtain ⟨r, r1, r2, r3⟩ := times_exact (a := posW (polW x L)) (i := 1291) (j := 1094) (k := 1311) (N := V (polW x M)) (posW_fin fa) f (by rw [posW_V]; exact Nat.le_trans ba (two_le (a := 1115 + 11 * L.length) (b := 1291) (by omega))) b (by omega) (by omega) (by
    rw [posW_V, v]
    by_cases h : 20 ≤ m
    · rw [show 20 - m = 0 by omega, Int.pow_zero, Int.mul_one] at key
      rw [key, Int.mul_assoc, ← pow_up, show m - 20 + 1074 = 1054 + m by omega]
    · rw [show m - 20 = 0 by omega, Int.pow_zero, Int.mul_one] at key
      rw [← key, Int.mul_assoc, ← pow_up, show 20 - m + (1054 + m) = 1074 by omega]) (RN_exact (Rep_V _))
  refine ⟨r, r1, ?_⟩
  rw [eq_words r2 (posW_fin fb), r3, posW_V]
  exact decide_eq_true rfl
/-- a list of the call's own -/
structure Own (B : Nat) (w0 : World) (us : List Nat) (v : Value) (wr : World) : Prop where
  old : Below B w0 wr
  own : wr.ownsRow B 23 1 v us.length (us.map (Value.float .f64))
  size : B ≤ wr.heap.size
theorem Own.drawn {B : Nat} {w0 : World} {us : List Nat} {v : Value} {wr w1 : World} (N : Own B w0 us v wr) (d : Drawn wr w1) : Own B w0 us v w1 := by
  obtain ⟨m, rfl⟩ := d
  exact ⟨N.old.trans (Drawn.below ⟨m, rfl⟩ B), N.own, N.size⟩
theorem Own.next {B : Nat} {w0 : World} {us : List Nat} {v v' : Value} {wr w' : World} {o : Obj} {x : Nat} (N : Own B w0 us v wr)
    (ho : w'.ownsRow B 23 1 v' (us ++ [x]).length ((us ++ [x]).map (Value.float .f64))) (hg : (wr.alloc o).grownBy w' v.ownBlock) : Own B w0 (us ++ [x]) v' w' := by
  have hlt := N.own.lt
  have hs := N.size
  exact ⟨(N.old.alloc hs o).grown hg (by simp; omega) (fun k hk => (hlt k hk).1), ho, by have := hg.size; simp at this; omega⟩
end Go.Proofs.Ytjhcalgamcdgiaa
