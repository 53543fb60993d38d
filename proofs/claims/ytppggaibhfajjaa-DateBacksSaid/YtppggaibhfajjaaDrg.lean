/- Proved here: a region whose operations come up in any order, that copies a list of jumps, reads and calls with the copy; and what single operations come to. -/
import Derived.Test.YtppggaibhfajjaaReg
import Derived.Test.YtppggaibhfajjaaDjl
namespace Go.Proofs.Ytppggaibhfajjaa
open Go.ChangeShapes Go.WideShapes Go.ChangeAt Go.RowKit Go.Deep

theorem nones_getJ (n i : Nat) (v : Value) : (nones n)[i]? ≠ some (some v) := by unfold nones; simp [List.getElem?_replicate]
/-- has operation i come up? -/
def doneJ (L : List (Option Value)) (i : Nat) : Prop := ∃ v, L[i]? = some (some v)
def waitsAtJ (ops : Array Oper) (i k : Nat) : Bool := ((ops[i]?).map fun o => waits o k).getD false
/-- does i wait for k, at last? -/
def needsJ (ops : Array Oper) : Nat → Nat → Nat → Bool
  | 0, _, _ => false
  | n + 1, i, k => (List.range ops.size).any fun m => waitsAtJ ops i m && (m == k || needsJ ops n m k)
def ClosedJ (ops : Array Oper) (L : List (Option Value)) : Prop := ∀ i k, doneJ L i → waitsAtJ ops i k = true → doneJ L k
theorem ClosedJ.needsJ {ops : Array Oper} {L : List (Option Value)} (C : ClosedJ ops L) : ∀ (n i k : Nat), needsJ ops n i k = true → doneJ L i → doneJ L k
  | 0, _, _, h, _ => by simp [Go.Proofs.Ytppggaibhfajjaa.needsJ] at h
  | n + 1, i, k, h, d => by
    unfold Go.Proofs.Ytppggaibhfajjaa.needsJ at h
    rw [List.any_eq_true] at h
    obtain ⟨m, -, h⟩ := h
    simp only [Bool.and_eq_true, Bool.or_eq_true, beq_iff_eq] at h
    obtain ⟨h1, h2⟩ := h
    have dm := C i m d h1
    rcases h2 with rfl | h2
    · exact dm
    · exact C.needsJ n m k h2 dm
theorem done_setJ {L : List (Option Value)} {i : Nat} {v : Value} (hn : L[i]? = some none) (k : Nat) : doneJ (L.set i (some v)) k ↔ k = i ∨ doneJ L k := by
  unfold doneJ
  have hl : i < L.length := (List.getElem?_eq_some_iff.1 hn).1
  by_cases e : k = i
  · subst e; rw [List.getElem?_set_self hl]; simp
  · rw [List.getElem?_set_ne (Ne.symm e)]; simp [e]
theorem ClosedJ.set {ops : Array Oper} {L : List (Option Value)} (C : ClosedJ ops L) {i : Nat} {o : Oper} {v : Value} (ho : ops[i]? = some o) (hn : L[i]? = some none)
    (hd : ∀ e ∈ o.after, Region.binds .any e = true → ∃ v, L[e.on]? = some (some v)) : ClosedJ ops (L.set i (some v)) := by
  intro k m dk wk
  rw [done_setJ hn] at dk ⊢
  rcases dk with rfl | dk
  · right
    unfold waitsAtJ at wk
    rw [ho] at wk
    simp only [Option.map_some, Option.getD_some] at wk
    unfold waits at wk
    rw [List.any_eq_true] at wk
    obtain ⟨e, he, h2⟩ := wk
    simp only [Bool.and_eq_true, beq_iff_eq] at h2
    have := hd e (Array.mem_toList_iff.1 he) h2.2
    rw [h2.1] at this
    exact this
  · exact .inr (C k m dk wk)
theorem ClosedJ.none (ops : Array Oper) (n : Nat) : ClosedJ ops (nones n) := by
  intro i k h
  obtain ⟨v, hv⟩ := h
  exact absurd hv (nones_getJ _ _ _)

/-- what an operation comes to: a value, or a call's answer; but for what it makes, the world stands -/
inductive CameJ (o : Oper) (a : Act) (w : World) (v : Value) : Prop
  | value (w' : World) (r : (execOp a.eval o).run Try.prog w = .ok (.value v) w') (k : Below w.heap.size w w')
  | call (f : FuncId) (args : Array Value) (r : (execOp a.eval o).run Try.prog w = .ok (.enter f args) w) (k : Calls Try.prog f args w fun e w' => e = .returned v ∧ Below w.heap.size w w')

theorem waits_doneJ {ops : Array Oper} {L : List (Option Value)} {o : Oper} {i k : Nat} (ho : ops[i]? = some o) (hw : waitsAtJ ops i k = true) (hd : ∀ e ∈ o.after, Region.binds .any e = true → ∃ v, L[e.on]? = some (some v)) : doneJ L k := by
  unfold waitsAtJ at hw
  rw [ho] at hw
  simp only [Option.map_some, Option.getD_some] at hw
  unfold waits at hw
  rw [List.any_eq_true] at hw
  obtain ⟨e, he, h2⟩ := hw
  simp only [Bool.and_eq_true, beq_iff_eq] at h2
  have := hd e (Array.mem_toList_iff.1 he) h2.2
  rw [h2.1] at this
  exact this

theorem exJ_move {P : Program} {ρ : Operand → Value} {o : Oper} {x : Operand} {v : Value} (w : World) (ho : o.op = .move x) (h : ρ x = v) : (execOp ρ o).run P w = .ok (.value v) w := by
  unfold execOp; rw [ho]; simp [h]
theorem exJ_assign {P : Program} {ρ : Operand → Value} {o : Oper} {x : Operand} {v : Value} (w : World) (ho : o.op = .assign x) (h : ρ x = v) : (execOp ρ o).run P w = .ok (.value v) w := by
  unfold execOp; rw [ho]; simp [h]
theorem exJ_load {ρ : Operand → Value} {o : Oper} {x : Operand} {b k : Nat} {y : Int} {w : World} (ho : o.op = .load 2 x) (h : ρ x = .pointer (some ⟨b, k, none⟩)) (hc : w.cell? ⟨b, k, none⟩ = some (.int .i64 y)) : (execOp ρ o).run Try.prog w = .ok (.value (.int .i64 y)) w := by
  unfold execOp; rw [ho]; simp only [h]; go_simp
/-- an empty row of the call's own; then a copy of the list in it; then nobody looks -/
def RowJ (ib ip ic B n : Nat) (cs : List (Int × Int)) (L : List (Option Value)) (w : World) : Prop :=
  ¬ doneJ L ib ∨
  (doneJ L ib ∧ ¬ doneJ L ip ∧ ∃ g, L[ib]? = some (some (.slice (some ⟨g, 0, none⟩) 0 0)) ∧ B ≤ g ∧ w.heap[g]? = some (.cells #[] 59 (0, 0))) ∨
  (doneJ L ip ∧ ∃ ao cap, L[ip]? = some (some (.slice ao n cap)) ∧ n ≤ cap ∧ cap ≤ maxLen ∧ (ao = none → cap = 0) ∧ (doneJ L ic ∨ JAt w ao cs))
section
variable {ib ip ic B n : Nat} {cs : List (Int × Int)} {L : List (Option Value)} {w w' : World}
theorem RowJ.keep {i : Nat} {v : Value} (h : RowJ ib ip ic B n cs L w) (hn : L[i]? = some none) (h1 : i ≠ ib) (h2 : i ≠ ip) (hb : Below w.heap.size w w') : RowJ ib ip ic B n cs (L.set i (some v)) w' := by
  rcases h with h | ⟨a, b, g, e, hg, r⟩ | ⟨a, ao, cap, e, q1, q2, q3, k⟩
  · left
    rw [done_setJ hn]
    rintro (q | q)
    · exact h1 q.symm
    · exact h q
  · right; left
    refine ⟨(done_setJ hn _).2 (.inr a), ?_, g, by rw [List.getElem?_set_ne h1]; exact e, hg, ?_⟩
    · rw [done_setJ hn]
      rintro (q | q)
      · exact h2 q.symm
      · exact b q
    · rw [hb.block _ (Array.getElem?_eq_some_iff.1 r).1]; exact r
  · right; right
    refine ⟨(done_setJ hn _).2 (.inr a), ao, cap, by rw [List.getElem?_set_ne h2]; exact e, q1, q2, q3, ?_⟩
    rcases k with k | k
    · exact .inl ((done_setJ hn _).2 (.inr k))
    · exact .inr (k.on hb)
theorem RowJ.start (m : Nat) : RowJ ib ip ic B n cs (nones m) w := .inl fun ⟨_, hv⟩ => absurd hv (nones_getJ _ _ _)
end
section
variable {ops : Array Oper} {Q : Exit → Act → World → Prop}
theorem wp_region_copyJ {id : Nat} {a0 : Act} {W : World} (ib ip ic : Nat) (dv : List Value) (ds : List (Option Tmp))
    (hm : Try.prog.follows .mixedOrders = true) (hds : ops.toList.map (·.dst) = ds) (hap : apartL ds = true) (hb : backward ops = true) (hg : plainL ops = true) (hl : dv.length = ops.size)
    (hib : ib < ops.size) (hip : ip < ops.size) (hwp : waitsAtJ ops ip ib = true) (hwc : waitsAtJ ops ic ip = true) (ne : ic ≠ ib ∧ ic ≠ ip ∧ ib ≠ ip)
    (ao : Option Addr) (cap n : Nat) (cs : List (Int × Int)) (hn : n = cs.length) (hr : n * 16 ≤ 140737488351232) (hnone : ao = none → cap = 0) (hA : JAt W ao cs)
    (build : ∀ o, ops[ib]? = some o → o.op = .buildSlice 36 0 #[])
    (app : ∀ (L : List (Option Value)) (o : Oper) (v : Value), ops[ip]? = some o → (∀ k, waits o k = true → k ≠ ib → k ≠ ip → L[k]? = some (some (dv.getD k undef))) → L[ib]? = some (some v) →
      ∃ p q, o.op = .call { callee := .builtin .append, args := #[p, q], argTypes := #[36, 36] } ∧ (puts ds L a0).eval p = v ∧ (puts ds L a0).eval q = .slice ao n cap)
    (call : ∀ (L : List (Option Value)) (w : World) (o : Oper) (ao' : Option Addr) (cap' : Nat), ops[ic]? = some o → (∀ k, waits o k = true → k ≠ ib → k ≠ ip → L[k]? = some (some (dv.getD k undef))) → L[ip]? = some (some (.slice ao' n cap')) →
      n ≤ cap' → cap' ≤ maxLen → (ao' = none → cap' = 0) → JAt w ao' cs → CameJ o (puts ds L a0) w (dv.getD ic undef))
    (step : ∀ (L : List (Option Value)) (w : World) (i : Nat) (o : Oper), ops[i]? = some o → i ≠ ib → i ≠ ip → i ≠ ic → (∀ k, waits o k = true → k ≠ ib → k ≠ ip → L[k]? = some (some (dv.getD k undef))) →
      Below W.heap.size W w → CameJ o (puts ds L a0) w (dv.getD i undef))
    (fin : ∀ v1 v2 w', Below W.heap.size W w' → Q .normal (puts ds (((dv.map some).set ib (some v1)).set ip (some v2)) a0) w') : (Code.region id ops true).wp Try.prog Q a0 W := by
  obtain ⟨ncb, ncp, nbp⟩ := ne
  refine wp_region_inv hm ds hds hap hb hg (fun L w => (∀ i v, i ≠ ib → i ≠ ip → L[i]? = some (some v) → v = dv.getD i undef) ∧ ClosedJ ops L ∧ Below W.heap.size W w ∧ RowJ ib ip ic W.heap.size n cs L w) ?_ ?_ ?_
  · exact ⟨fun i v _ _ h => absurd h (nones_getJ _ _ _), ClosedJ.none _ _, (Below.refl _ _).drew, RowJ.start _⟩
  · intro L w i o hL ho hn' hd ⟨hdet, hcl, hJ, hR⟩
    have hd' : ∀ k, waits o k = true → k ≠ ib → k ≠ ip → L[k]? = some (some (dv.getD k undef)) := fun k hk hkb hkp => by
      unfold waits at hk
      rw [List.any_eq_true] at hk
      obtain ⟨e, he, h2⟩ := hk
      simp only [Bool.and_eq_true, beq_iff_eq] at h2
      obtain ⟨v, hv⟩ := hd e (Array.mem_toList_iff.1 he) h2.2
      rw [h2.1] at hv
      rw [hv, hdet k v hkb hkp hv]
    have hil : i < L.length := (List.getElem?_eq_some_iff.1 hn').1
    have key : ∀ v, (i ≠ ib → i ≠ ip → v = dv.getD i undef) → ∀ k u, k ≠ ib → k ≠ ip → (L.set i (some v))[k]? = some (some u) → u = dv.getD k undef := fun v hv k u hkb hkp hk => by
      by_cases hik : i = k
      · subst hik
        rw [List.getElem?_set_self hil] at hk
        rw [← Option.some.inj (Option.some.inj hk)]; exact hv hkb hkp
      · rw [List.getElem?_set_ne hik] at hk; exact hdet k u hkb hkp hk
    have nd : ¬ doneJ L i := fun ⟨v, hv⟩ => by rw [hn'] at hv; simp at hv
    have hB0 : W.heap.size ≤ w.heap.size := hJ.size
    have grow : ∀ w', Below w.heap.size w w' → Below W.heap.size W w' := fun w' k => hJ.trans (k.mono hB0)
    by_cases eb : i = ib
    · subst eb
      have r : (execOp (puts ds L a0).eval o).run Try.prog w = .ok (.value (.slice (some ⟨w.heap.size, 0, none⟩) 0 0)) (w.alloc (.cells #[] 59)) := by
        unfold execOp; rw [build o ho]; go_simp
      have bw : Below w.heap.size w (w.alloc (.cells #[] 59)) := (Below.refl _ _).alloc (Nat.le_refl _) _
      unfold Oper.wp; rw [r]
      refine ⟨_, rfl, key _ (fun hib _ => absurd rfl hib), hcl.set ho hn' hd, grow _ bw, ?_⟩
      right; left
      refine ⟨(done_setJ hn' _).2 (.inl rfl), ?_, w.heap.size, by rw [List.getElem?_set_self hil], hB0, heap_alloc_new w _⟩
      rw [done_setJ hn']
      rintro (q | q)
      · exact nbp q.symm
      · exact nd (hcl ip i q hwp)
    by_cases ep : i = ip
    · subst ep
      have db := waits_doneJ ho hwp hd
      rcases hR with q | ⟨-, -, g, e, hg, r⟩ | ⟨q, -⟩
      · exact absurd db q
      · obtain ⟨p, q, hop, hp, hq⟩ := app L o _ ho hd' e
        have own : w.ownsRow W.heap.size 59 2 (.slice (some ⟨g, 0, none⟩) 0 0) ([] : List (Int × Int)).length (jC []) :=
          ⟨rfl, .inr ⟨g, 0, #[], rfl, hg, r, Nat.le_refl _, by decide, rfl, rfl⟩⟩
        refine wp_dupJ p q hop W.heap.size _ [] hp own ao n cap cs hq hn hnone (hA.on hJ) (by simp; omega) hB0 ?_
        intro v' w' ho' hg'
        obtain ⟨ao', cap', rfl, h1, h2, h3, h4, h5⟩ := ownsJ_at ho'
        refine ⟨_, rfl, key _ (fun _ hip => absurd rfl hip), hcl.set ho hn' hd, hJ.grown hg' hB0 (fun k hk => by rw [← Option.some.inj hk]; exact hg), ?_⟩
        right; right
        exact ⟨(done_setJ hn' _).2 (.inl rfl), ao', cap', by rw [List.getElem?_set_self hil, hn]; rfl, by rw [hn]; exact h1, h2, h4, .inr h3⟩
      · exact absurd q nd
    by_cases ec : i = ic
    · subst ec
      have dp := waits_doneJ ho hwc hd
      have ha : ∃ ao' cap', L[ip]? = some (some (.slice ao' n cap')) ∧ n ≤ cap' ∧ cap' ≤ maxLen ∧ (ao' = none → cap' = 0) ∧ JAt w ao' cs := by
        rcases hR with q | ⟨-, q, -⟩ | ⟨-, ao', cap', e, q1, q2, q3, k⟩
        · exact absurd (hcl ip ib dp hwp) q
        · exact absurd dp q
        · rcases k with k | k
          · exact absurd k nd
          · exact ⟨ao', cap', e, q1, q2, q3, k⟩
      obtain ⟨ao', cap', e, q1, q2, q3, hA'⟩ := ha
      rcases call L w o ao' cap' ho hd' e q1 q2 q3 hA' with ⟨w', r, k⟩ | ⟨f, args, r, k⟩
      · unfold Oper.wp; rw [r]
        exact ⟨_, rfl, key _ (fun _ _ => rfl), hcl.set ho hn' hd, grow _ k, hR.keep hn' eb ep k⟩
      · unfold Oper.wp; rw [r]
        refine Calls.mono k fun e w' hh => ?_
        obtain ⟨rfl, hS⟩ := hh
        exact ⟨_, rfl, key _ (fun _ _ => rfl), hcl.set ho hn' hd, grow _ hS, hR.keep hn' eb ep hS⟩
    · rcases step L w i o ho eb ep ec hd' hJ with ⟨w', r, k⟩ | ⟨f, args, r, k⟩
      · unfold Oper.wp; rw [r]
        exact ⟨_, rfl, key _ (fun _ _ => rfl), hcl.set ho hn' hd, grow _ k, hR.keep hn' eb ep k⟩
      · unfold Oper.wp; rw [r]
        refine Calls.mono k fun e w' hh => ?_
        obtain ⟨rfl, hS⟩ := hh
        exact ⟨_, rfl, key _ (fun _ _ => rfl), hcl.set ho hn' hd, grow _ hS, hR.keep hn' eb ep hS⟩
  · intro L w hL hall ⟨hdet, _, hJ, _⟩
    obtain ⟨v1, e1⟩ := hall ib hib
    obtain ⟨v2, e2⟩ := hall ip hip
    have eL : L = (((dv.map some).set ib (some v1)).set ip (some v2)) := by
      refine List.ext_getElem? fun i => ?_
      by_cases hi : i < ops.size
      · by_cases q2 : ip = i
        · subst q2
          rw [e2, List.getElem?_set_self (by simp; omega)]
        · rw [List.getElem?_set_ne q2]
          by_cases q1 : ib = i
          · subst q1
            rw [e1, List.getElem?_set_self (by simp; omega)]
          · rw [List.getElem?_set_ne q1]
            obtain ⟨v, hv⟩ := hall i hi
            rw [hv, hdet i v (Ne.symm q1) (Ne.symm q2) hv]
            simp [List.getD, hl, hi]
      · rw [List.getElem?_eq_none (by omega), List.getElem?_eq_none (by simp; omega)]
    rw [eL]
    exact fin v1 v2 w hJ
end
/-- what a copy is: the list lies there, in blocks of the call's own; below them nothing has turned -/
structure CopiedJ (w w' : World) (ao : Option Addr) (n cap : Nat) (L : List (Int × Int)) : Prop where
  room : n ≤ cap
  most : cap ≤ maxLen
  bare : ao = none → cap = 0
  at_ : JAt w' ao L
  old : Below w.heap.size w w'
theorem wpList_copyJ {w : World} {ops : Array Oper} {rest : List Oper} {o : Oper} {a : Act} {Q : Exit → Act → World → Prop} (hgd : o.guard = none) (s x : Operand)
    (ho : o.op = .call { callee := .builtin .append, args := #[s, x], argTypes := #[36, 36] }) (hs : a.eval s = .slice (some ⟨w.heap.size, 0, none⟩) 0 0)
    (ao : Option Addr) (n cap : Nat) (L : List (Int × Int)) (hx : a.eval x = .slice ao n cap) (hn : n = L.length) (hnone : ao = none → cap = 0) (ha : JAt w ao L) (hr : n * 16 ≤ 140737488351232)
    (h : ∀ ao' cap' w', CopiedJ w w' ao' n cap' L → wpList Try.prog ops Q rest (a.put o.dst (.slice ao' n cap')) w') :
    wpList Try.prog ops Q (o :: rest) a (w.alloc (.cells #[] 59)) := by
  have B1 := (Below.refl w.heap.size w).alloc (Nat.le_refl _) (.cells #[] 59)
  refine wpList_plain hgd fun _ hK => wp_dupJ s x ho w.heap.size _ [] hs (ownsJ_empty w) ao n cap L hx hn hnone (ha.alloc _) (by simp; omega) (by simp) fun v' w' ho' hg' => hK _ _ ?_
  have B2 : Below w.heap.size w w' := B1.grown hg' (by simp) (by intro k hk; simp [Value.ownBlock] at hk; omega)
  obtain ⟨ao', cap', rfl, h1, h2, h3, h4, h5⟩ := ownsJ_at ho'
  have e : ([] ++ L).length = n := by rw [hn]; rfl
  rw [e] at h1 ⊢
  exact h ao' cap' w' ⟨h1, h2, h4, h3, B2⟩
end Go.Proofs.Ytppggaibhfajjaa
