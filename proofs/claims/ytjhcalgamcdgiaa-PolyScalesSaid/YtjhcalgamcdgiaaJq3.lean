/- Proved here: what the texts Lst, Pck, Pcb, Psc, Phn, Rgj, Pcn prove, one behind the other. -/
import Derived.Test.YtjhcalgamcdgiaaJb2
import Derived.Test.YtjhcalgamcdgiaaJb3
import Derived.OwnWalk
import Derived.SizedLaws
import Derived.ProofKit
import Derived.OpenShut
import Derived.Deep.Slices
import Derived.Carry
import Derived.BigQuiet
import Derived.Laws.AppendOwnNone
import Derived.Test.YtjhcalgamcdgiaaJq2
import Derived.Test.YtjhcalgamcdgiaaJb4
import Derived.Test.YtjhcalgamcdgiaaJq1
import Derived.Deep.CutRange

namespace Go.Proofs.Ytjhcalgamcdgiaa
open Go.ChangeShapes Go.WideShapes Go.ChangeAt Go.RowKit Ieee.Own

theorem infoF : (Try.prog.info? 23).map (fun i => (i.zero, i.size, i.bytes)) = some (some (.float .f64 0), 1, 8) := by kernel_rfl
/-- block g is a row of cells of numbers -/
def RowAt (w : World) (g : Nat) (cur : Array Value) : Prop := w.heap[g]? = some (.cells cur 23 (0, 0))
theorem RowAt.cell {w : World} {g : Nat} {cur : Array Value} (h : RowAt w g cur) (j : Nat) : w.cell? ⟨g, j, none⟩ = cur[j]? := cell_of_row w g j cur _ _ h
theorem RowAt.lt {w : World} {g : Nat} {cur : Array Value} (h : RowAt w g cur) : g < w.heap.size := (Array.getElem?_eq_some_iff.1 h).1
theorem RowAt.kept {w w' : World} {g : Nat} {cur : Array Value} {row : Option Nat} (h : RowAt w g cur) (hg : w.grownBy w' row) (hne : row ≠ some g) : RowAt w' g cur := by
  unfold RowAt at h ⊢
  rw [hg.block g (Array.getElem?_eq_some_iff.1 h).1 (fun e => hne e.symm)]; exact h
theorem RowAt.alloc {w : World} {g : Nat} {cur : Array Value} (h : RowAt w g cur) (o : Obj) : RowAt (w.alloc o) g cur := h.kept (World.grownBy_alloc w o none) (by simp)
theorem RowAt.owns {w : World} {base g n : Nat} {cur : Array Value} {xs : List Value} (h : RowAt w g cur) (hb : base ≤ g) (hn : n ≤ cur.size) (hm : cur.size ≤ maxLen) (hx : cur.toList.take n = xs) :
    w.ownsRow base 23 1 (.slice (some ⟨g, 0, none⟩) n cur.size) n xs := by
  refine ⟨?_, .inr ⟨g, cur.size, cur, rfl, hb, h, hn, hm, by simp, by simpa using hx⟩⟩
  rw [← hx]; simp; omega
theorem setRow_grown {w : World} {g : Nat} {cs : Array Value} : w.grownBy (w.setRow g cs) (some g) := ⟨rfl, rfl, rfl, by simp, fun k _ hk => setRow_other w g k _ (fun e => hk (by simp [e]))⟩
/-- the numbers of a list stand in a row's cells from place i on -/
def InRow (cur : Array Value) (us : List Nat) (i : Nat) : Prop := ∀ j, i ≤ j → j < us.length → cur[j]? = some (.float .f64 (us.getD j 0))
theorem InRow.later {cur : Array Value} {us : List Nat} {i j : Nat} (h : InRow cur us i) (hij : i ≤ j) : InRow cur us j := fun k hk hl => h k (by omega) hl
theorem InRow.set {cur : Array Value} {us : List Nat} {i m : Nat} {v : Value} (h : InRow cur us i) (hm : m < i) : InRow (cur.setIfInBounds m v) us i := by
  intro j hj hl
  rw [Array.getElem?_setIfInBounds_ne (by omega)]; exact h j hj hl
theorem InRow.push {cur : Array Value} {us : List Nat} {u : Nat} (h : InRow cur us 0) (hl : us.length < cur.size) : InRow (cur.setIfInBounds us.length (.float .f64 u)) (us ++ [u]) 0 := by
  intro j _ hj
  by_cases e : j = us.length
  · subst e
    rw [Array.getElem?_setIfInBounds_self_of_lt hl]; simp
  · rw [Array.getElem?_setIfInBounds_ne (by omega), h j (by omega) (by simp at hj; omega)]
    have : j < us.length := by simp at hj; omega
    simp [List.getD, List.getElem?_append_left this]
theorem InRow.take {cur : Array Value} {us : List Nat} (h : InRow cur us 0) : cur.toList.take us.length = us.map (Value.float .f64) := by
  apply List.ext_getElem?
  intro j
  by_cases hj : j < us.length
  · rw [List.getElem?_take, if_pos hj, Array.getElem?_toList, h j (by omega) hj]
    simp [List.getD, hj]
  · rw [List.getElem?_take, if_neg hj]
    simp [Nat.not_lt.1 hj]
theorem InRow.of_take {cur : Array Value} {us : List Nat} (h : cur.toList.take us.length = us.map (Value.float .f64)) : InRow cur us 0 := by
  intro j _ hj
  have := congrArg (·[j]?) h
  simp only [List.getElem?_take, if_pos hj, Array.getElem?_toList] at this
  rw [this]; simp [List.getD, hj]
/-- a slice that holds a list of words -/
def At (w : World) (ao : Option Addr) (L : List Nat) : Prop := ∀ j, j < L.length → ∃ b o, ao = some ⟨b, o, none⟩ ∧ w.cell? ⟨b, o + j, none⟩ = some (.float .f64 (L.getD j 0))
def Words (L : List Nat) : Prop := ∀ x ∈ L, x < 18446744073709551616
def allFit (L : List Nat) : Bool := L.all fitB
theorem Words.at {L : List Nat} (h : Words L) {j : Nat} (hj : j < L.length) : L.getD j 0 < 18446744073709551616 := h _ (by simp [List.getD, hj])
theorem allFit_at {L : List Nat} : allFit L = true ↔ ∀ j, j < L.length → fitB (L.getD j 0) = true := by
  unfold allFit
  rw [List.all_eq_true]
  constructor
  · intro h j hj; exact h _ (by simp [List.getD, hj])
  · intro h x hx
    obtain ⟨j, hj, rfl⟩ := List.mem_iff_getElem.1 hx
    have := h j hj
    simpa [List.getD, hj] using this
theorem At.later {w w' : World} {ao : Option Addr} {L : List Nat} {B : Nat} (h : At w ao L) (hb : Below B w w') (hB : ∀ b o, ao = some ⟨b, o, none⟩ → 0 < L.length → b < B) : At w' ao L := by
  intro j hj
  obtain ⟨b, o, e, hc⟩ := h j hj
  exact ⟨b, o, e, (hb.cell (hB b o e (by omega))).trans hc⟩
theorem At.lt {w : World} {ao : Option Addr} {L : List Nat} (h : At w ao L) : ∀ b o, ao = some ⟨b, o, none⟩ → 0 < L.length → b < w.heap.size := by
  rintro b o rfl hl
  obtain ⟨b', o', e, hc⟩ := h 0 hl
  simp at e
  obtain ⟨rfl, rfl⟩ := e
  exact World.block_lt_of_cell? w _ hc
theorem At.drewN {w : World} {ao : Option Addr} {L : List Nat} (h : At w ao L) (n : Nat) : At (w.drewN n) ao L := h
theorem Drawn.trans {w w' w'' : World} (h : Drawn w w') (k : Drawn w' w'') : Drawn w w'' := by
  obtain ⟨m, rfl⟩ := k; exact h.more m
theorem At.drawn {w w' : World} {ao : Option Addr} {L : List Nat} (h : At w ao L) (d : Drawn w w') : At w' ao L := by
  obtain ⟨m, rfl⟩ := d; exact h
theorem open_flts {H : Type} {enc : TypeId × Value → H} {P : Program} {W : World} {t e : TypeId} {v : Value} {d : DataW H} {ps : List MemPlace}
    (ht : P.underlying t = some (.slice e)) (he : P.underlying e = some (.float .f64)) (hc : P.cellsOf e = 1) (hval : ∃ ao n c, v = .slice ao n c) (h : DataW.Trod enc P W 0 (fun _ => true) true t v d ps) :
    ∃ ao cap L, v = .slice ao (List.length L) cap ∧ L.length ≤ cap ∧ Words L ∧ At W ao L ∧ ((ao = none ∧ cap = 0) ∨ ((∃ a, ao = some a) ∧ ∃ es sp : List (DataW H), d = .slice es sp ∧ es.length + sp.length = cap)) := by
  obtain ⟨a0, n0, c0, rfl⟩ := hval
  obtain ⟨fuel, hf⟩ := h
  rcases Deep.open_slice1 ht hc hf with ⟨h1, h2⟩ | ⟨a, len, cap, m, n, V, D, Pl, h1, hb, hl, hm, hmm, hx, hcell⟩
  · simp [Value.cells] at h1
    obtain ⟨rfl, rfl, rfl⟩ := h1
    exact ⟨none, 0, [], rfl, Nat.le_refl _, by intro x hx; simp at hx, by intro j hj; simp at hj, Or.inl ⟨rfl, rfl⟩⟩
  · simp [Value.cells] at h1
    obtain ⟨rfl, rfl, rfl⟩ := h1
    simp only [if_true] at hmm
    subst hmm
    obtain ⟨F, hF⟩ := Deep.choose_lt (n := m) (p := fun i b => V i = .float .f64 b ∧ b < 18446744073709551616) (fun i hi => float_cell he (hcell i hi).2)
    refine ⟨some a, m, (List.range n0).map F, by simp, by simpa using hl, ?_, ?_, Or.inr ⟨⟨a, rfl⟩, (List.range n0).map D, (List.range (m - n0)).map fun j => D (n0 + j), by simpa using (congrArg Prod.fst hx), by simp; omega⟩⟩
    · intro x hx
      obtain ⟨i, hi, rfl⟩ := List.mem_map.1 hx
      exact (hF i (by simp at hi; omega)).2
    · intro j hj
      have hj' : j < n0 := by simpa using hj
      have hc := (hcell j (by omega)).1
      obtain ⟨b, o, s⟩ := a
      have hsp : s = none := by simpa [Addr.add] using World.cell?_spot (hcell 0 (by omega)).1
      subst hsp
      refine ⟨b, o, rfl, ?_⟩
      rw [← add_plain, hc, (hF j (by omega)).1]
      simp [List.getD, hj']
theorem owns_slice {w : World} {base : Nat} {e : TypeId} {size n : Nat} {v : Value} {xs : List Value} (h : w.ownsRow base e size v n xs) : ∃ ao m c, v = .slice ao m c := by
  rcases h.2 with ⟨rfl, _⟩ | ⟨g, cap, cur, rfl, _⟩
  · exact ⟨_, _, _, rfl⟩
  · exact ⟨_, _, _, rfl⟩
theorem flts_one (L : List Nat) : ∀ u ∈ L.map (Value.float .f64), u.oneCell' = true := by
  intro u hu
  obtain ⟨x, _, rfl⟩ := List.mem_map.1 hu
  rfl
/-- A LIST APPENDED TO WHAT THE CALL OWNS -/
theorem wpList_dup {w : World} {ops : Array Oper} {rest : List Oper} {o : Oper} {a : Act} {Q : Exit → Act → World → Prop} (hgd : o.guard = none) (s x : Operand) (t : TypeId)
    (ho : o.op = .call { callee := .builtin .append, args := #[s, x], argTypes := #[t, t] }) (ht : Try.prog.underlying t = some (.slice 23)) (base : Nat) (v : Value) (us : List Nat) (hs : a.eval s = v)
    (hown : w.ownsRow base 23 1 v us.length (us.map (Value.float .f64))) (ao : Option Addr) (n cap : Nat) (L : List Nat) (hx : a.eval x = .slice ao n cap) (hn : n = L.length) (hnone : ao = none → cap = 0) (ha : At w ao L)
    (hby : (us.length + L.length) * 8 ≤ 140737488355328) (hbase : base ≤ w.heap.size)
    (h : ∀ v' w', w'.ownsRow base 23 1 v' (us ++ L).length ((us ++ L).map (Value.float .f64)) → w.grownBy w' v.ownBlock → wpList Try.prog ops Q rest (a.put o.dst v') w') :
    wpList Try.prog ops Q (o :: rest) a w := by
  obtain ⟨i0, hi0, hz0, hz1, hz2⟩ := info_parts infoF
  subst hn
  cases ao with
  | none =>
    have hL : L = [] := by
      refine List.eq_nil_of_length_eq_zero (Nat.eq_zero_of_not_pos fun hp => ?_)
      obtain ⟨b, o, e, _⟩ := ha 0 hp
      simp at e
    subst hL
    rw [hnone rfl] at hx
    refine wpList_append_own_none hgd s x t ho base 23 i0 1 ht hi0 v us.length _ hs hown hx ?_
    have := h v w (by simpa using hown) (World.grownBy.refl _ _)
    exact this
  | some ad =>
    refine wpList_append_own w hgd s x t ho base 23 i0 (.float .f64 0) 1 8 ht hi0 hz0 hz1 hz2 rfl (by decide) v us.length _ hs hown ad L.length cap (L.map (Value.float .f64)) hx (by simp) ?_ (flts_one L) (by unfold maxLen; omega) hby hbase ?_
    · intro j u hj
      obtain ⟨hj1, hj2⟩ := List.getElem?_eq_some_iff.1 hj
      have hj3 : j < L.length := by simpa using hj1
      obtain ⟨b, o', e, hc⟩ := ha j hj3
      simp only [Option.some.injEq] at e
      subst e
      rw [add_plain, hc, ← hj2]
      simp [List.getD, hj3]
    · intro v' w' h1 h2 _
      exact h v' w' (by simpa using h1) h2
/-- what the call owns, as a list that lies there -/
theorem owns_at {w : World} {base : Nat} {v : Value} {us : List Nat} (h : w.ownsRow base 23 1 v us.length (us.map (Value.float .f64))) :
    ∃ ao cap, v = .slice ao us.length cap ∧ us.length ≤ cap ∧ cap ≤ maxLen ∧ At w ao us ∧ (ao = none → cap = 0) ∧ ∀ b o, ao = some ⟨b, o, none⟩ → base ≤ b ∧ b < w.heap.size := by
  rcases h.2 with ⟨rfl, h0⟩ | ⟨g, cap, cur, rfl, hg, hr, hn, hcm, hsz, ht⟩
  · have hu : us = [] := List.eq_nil_of_length_eq_zero h0
    subst hu
    exact ⟨none, 0, rfl, Nat.le_refl _, by decide, by intro j hj; simp at hj, fun _ => rfl, by intro b o e; simp at e⟩
  · rw [Nat.mul_one] at hsz ht
    have hIn := InRow.of_take ht
    refine ⟨_, cap, rfl, hn, hcm, fun j hj => ⟨g, 0, rfl, ?_⟩, by intro e; simp at e, ?_⟩
    · rw [Nat.zero_add]; exact (RowAt.cell hr j).trans (hIn j (by omega) hj)
    · intro b o e
      simp only [Option.some.injEq, Addr.mk.injEq, and_true] at e
      obtain ⟨rfl, rfl⟩ := e
      exact ⟨hg, RowAt.lt hr⟩
theorem owns_at_pos {w : World} {base : Nat} {v : Value} {us : List Nat} (h : w.ownsRow base 23 1 v us.length (us.map (Value.float .f64))) (hp : 0 < us.length) :
    ∃ g cap, v = .slice (some ⟨g, 0, none⟩) us.length cap ∧ us.length ≤ cap ∧ cap ≤ maxLen ∧ At w (some ⟨g, 0, none⟩) us ∧ base ≤ g ∧ g < w.heap.size := by
  rcases h.2 with ⟨rfl, h0⟩ | ⟨g, cap, cur, rfl, hg, hr, hn, hcm, hsz, ht⟩
  · omega
  · rw [Nat.mul_one] at hsz ht
    have hIn := InRow.of_take ht
    refine ⟨g, cap, rfl, hn, hcm, fun j hj => ⟨g, 0, rfl, ?_⟩, hg, RowAt.lt hr⟩
    rw [Nat.zero_add]; exact (RowAt.cell hr j).trans (hIn j (by omega) hj)
/-- an empty row of the call's own -/
theorem owns_empty (w : World) : (w.alloc (.cells #[] 23)).ownsRow w.heap.size 23 1 (.slice (some ⟨w.heap.size, 0, none⟩) 0 0) ([] : List Nat).length (([] : List Nat).map (Value.float .f64)) :=
  World.ownsRow_lit w #[] 0 (Nat.le_refl _) (by decide) rfl
theorem At.alloc {w : World} {ao : Option Addr} {L : List Nat} (h : At w ao L) (o : Obj) : At (w.alloc o) ao L := by
  intro j hj
  obtain ⟨b, o', e, hc⟩ := h j hj
  exact ⟨b, o', e, by rw [World.cell?_alloc_past _ _ _ (World.block_lt_of_cell? w _ hc)]; exact hc⟩
def marks : List Nat := [4619848792751996928, 13838435755002691584]
theorem marksAt (w : World) : At (w.alloc (.cells #[.float .f64 4619848792751996928, .float .f64 13838435755002691584] 23)) (some ⟨w.heap.size, 0, none⟩) marks := by
  intro j hj
  refine ⟨w.heap.size, 0, rfl, ?_⟩
  rw [World.cell?_alloc_at _ _ _ _ rfl]
  have : j = 0 ∨ j = 1 := by simp [marks] at hj; omega
  rcases this with rfl | rfl <;> rfl
set_option maxHeartbeats 1000000 in
theorem roomy_run (ao : Option Addr) (cap n : Nat) (L : List Nat) (w : World) (hn : n = L.length) (hr : n * 8 ≤ 140737488351232) (hnone : ao = none → cap = 0) (ha : At w ao L) :
    Calls Try.prog 9 #[.slice ao n cap] w fun e w' => ∃ g cap', e = .returned (.slice (some ⟨g, 0, none⟩) n cap') ∧ n + 2 ≤ cap' ∧ cap' ≤ maxLen ∧ At w' (some ⟨g, 0, none⟩) (L ++ marks) ∧ w.heap.size ≤ g ∧ g < w'.heap.size ∧ Below w.heap.size w w' := by
  have ho := owns_empty w
  have ha1 := ha.alloc (.cells #[] 23)
  have hb1 : w.heap.size ≤ (w.alloc (.cells #[] 23)).heap.size := by simp
  have B1 := Lib.hid ((Below.refl w.heap.size w).alloc (Nat.le_refl _) (.cells #[] 23))
  have hby : (([] : List Nat).length + L.length) * 8 ≤ 140737488355328 := by simp; omega
  have hn0 := Lib.hid hn
  clear ha hn
  go_enter Try.func9, Try.ntmps9
  go_wp2_with (at_builtin; refine wpList_dup rfl _ _ _ rfl Try.underlying22 w.heap.size _ [] rfl ho ao n cap L rfl hn0.out hnone ha1 hby hb1 ?_)
  intro v' w' ho' hg'
  obtain ⟨ao', m', c', rfl⟩ := owns_slice ho'
  have B2 : Hid (Below w.heap.size w w') := B1.out.grown hg' hb1 (by intro k hk; simp [Value.ownBlock] at hk; omega)
  have hs' : w.heap.size ≤ w'.heap.size := B2.out.size
  have ho2 := ho'.alloc (.cells #[.float .f64 4619848792751996928, .float .f64 13838435755002691584] 23)
  have hm := marksAt w'
  have hb2 : w.heap.size ≤ (w'.alloc (.cells #[.float .f64 4619848792751996928, .float .f64 13838435755002691584] 23)).heap.size := by simp; omega
  have B3 := Lib.hid (B2.out.alloc hs' (.cells #[.float .f64 4619848792751996928, .float .f64 13838435755002691584] 23))
  have hlt := Lib.hid ho'.lt
  have hby2 : (L.length + marks.length) * 8 ≤ 140737488355328 := by have := hn0.out; simp [marks]; omega
  clear ho' hg' ho ha1 hb1 hby B1 B2
  go_wp2_with (at_builtin; refine wpList_dup rfl _ _ _ rfl Try.underlying22 w.heap.size _ L rfl ho2 (some ⟨w'.heap.size, 0, none⟩) 2 2 marks rfl rfl (by intro h; cases h) hm hby2 hb2 ?_)
  intro v2 w2 ho3 hg3
  rw [← List.length_append, ← List.map_append] at ho3
  obtain ⟨g, cap2, rfl, h1, h2, h3, h4, h5⟩ := owns_at_pos ho3 (by simp [marks])
  have B4 : Hid (Below w.heap.size w w2) := B3.out.grown hg3 hb2 (by intro k hk; exact (hlt.out k hk).1)
  have hlen : (L ++ marks).length = n + 2 := by rw [List.length_append, hn0.out]; rfl
  rw [hlen] at h1
  have hF := Lib.hid (And.intro h3 (And.intro h4 h5))
  rw [hlen]
  clear ho3 hg3 ho2 hm hb2 hby2 B3 hlt h3 h4 h5 hlen
  go_wp2_with fail
  go_ret
  exact ⟨g, cap2, rfl, h1, h2, hF.out.1, hF.out.2.1, hF.out.2.2, B4.out⟩
theorem samelist_run (ao bo : Option Addr) (cap cap' n : Nat) (L : List Nat) (w : World) (hn : n = L.length) (hm : n ≤ 4611686018427387904) (ha : At w ao L) (hb : At w bo L) :
    Calls Try.prog 34 #[.slice ao n cap, .slice bo n cap'] w fun e w' => e = .returned (.bool true) ∧ Drawn w w' := by
  replace ha := Lib.hid ha
  replace hb := Lib.hid hb
  replace hn := Lib.hid hn
  go_enter Try.func34, Try.ntmps34
  go_wp2_with fail
  go_loopw [5] (fun iv wr => ∃ i : Nat, i ≤ n ∧ iv = .int .i64 i ∧ Drawn w wr) (fun iv _ => n - (intOf iv).toNat)
  case atStart => exact ⟨0, Nat.zero_le _, rfl, Drawn.refl _⟩
  case round =>
    obtain ⟨i, hi, rfl, hd⟩ := hrel
    replace hd := Lib.hid hd
    by_cases hlt : i < n
    · have hil : i < L.length := by have := hn.out; omega
      obtain ⟨b, o, rfl, hc⟩ := (ha.out.drawn hd.out) i hil
      obtain ⟨b', o', rfl, hc'⟩ := (hb.out.drawn hd.out) i hil
      obtain ⟨u, hu⟩ : ∃ u, u = L.getD i 0 := ⟨_, rfl⟩
      rw [← hu] at hc hc'
      have C := fun w => same_self u w
      clear hu hil
      go_wp2_with fail
      go_quiet (first | (go_at_call 31; with_reducible refine quiet_same (C _)))
      go_wp2_with fail
      go_roundw
      case rel => exact ⟨i + 1, hlt, by go_num, hd.out.more _⟩
      case measure => simp [intOf]; omega
    · obtain rfl : i = n := by omega
      go_wp2_with fail
      go_ret
      exact ⟨rfl, hd.out⟩
theorem At.left {w : World} {ao : Option Addr} {L M : List Nat} (h : At w ao (L ++ M)) : At w ao L := by
  intro j hj
  obtain ⟨b, o, e, hc⟩ := h j (by simp; omega)
  exact ⟨b, o, e, by rw [hc]; simp [List.getD, List.getElem?_append_left hj]⟩
set_option maxHeartbeats 1000000 in
theorem rkeptlist_run (g : Nat) (ao : Option Addr) (cap cap' n : Nat) (L : List Nat) (w : World) (hn : n = L.length) (hm : n ≤ 4611686018427387904) (hcap : n + 2 ≤ cap') (hcm : cap' ≤ maxLen) (ha : At w (some ⟨g, 0, none⟩) (L ++ marks)) (hb : At w ao L) :
    Calls Try.prog 15 #[.slice (some ⟨g, 0, none⟩) n cap', .slice ao n cap] w fun e w' => e = .returned (.bool true) ∧ Drawn w w' := by
  have S := samelist_run (some ⟨g, 0, none⟩) ao cap' cap n L w hn hm ha.left hb
  have c1 : w.cell? ⟨g, n, none⟩ = some (.float .f64 4619848792751996928) := by
    obtain ⟨b, o, e, hc⟩ := ha n (by simp [marks]; omega)
    simp only [Option.some.injEq, Addr.mk.injEq, and_true] at e
    obtain ⟨rfl, rfl⟩ := e
    rw [Nat.zero_add] at hc
    rw [hc, hn]
    simp [List.getD, marks]
  have c2 : w.cell? ⟨g, n + 1, none⟩ = some (.float .f64 13838435755002691584) := by
    obtain ⟨b, o, e, hc⟩ := ha (n + 1) (by simp [marks]; omega)
    simp only [Option.some.injEq, Addr.mk.injEq, and_true] at e
    obtain ⟨rfl, rfl⟩ := e
    rw [Nat.zero_add] at hc
    rw [hc, hn]
    simp [List.getD, marks]
  have e1 : (FloatKind.f64.format.order 4619848792751996928 4619848792751996928 == some Ordering.eq) = true := by decide +kernel
  have e2 : (FloatKind.f64.format.order 13838435755002691584 13838435755002691584 == some Ordering.eq) = true := by decide +kernel
  have t : decide ((cap' : Int) < (n : Int) + 2) = false := decide_eq_false (by omega)
  have hcm' : cap' ≤ 9223372036854775807 := by unfold maxLen at hcm; omega
  clear ha hb hn hcm
  go_enter Try.func15, Try.ntmps15
  go_wp2_with (go_at_call 34; ((with_reducible refine S.mono ?_); rintro en w2 ⟨rfl, ⟨m, rfl⟩⟩))
  go_ret
  exact ⟨rfl, ⟨_, rfl⟩⟩
/-- what a copy is: the list lies there, in blocks of the call's own; below them nothing has turned -/
structure Copied (w w' : World) (ao : Option Addr) (n cap : Nat) (L : List Nat) : Prop where
  room : n ≤ cap
  bare : ao = none → cap = 0
  at_ : At w' ao L
  base : ∀ b o, ao = some ⟨b, o, none⟩ → w.heap.size ≤ b ∧ b < w'.heap.size
  old : Below w.heap.size w w'
  own : w'.ownsRow w.heap.size 23 1 (.slice ao n cap) L.length (L.map (Value.float .f64))
theorem wpList_copy {w : World} {ops : Array Oper} {rest : List Oper} {o : Oper} {a : Act} {Q : Exit → Act → World → Prop} (hgd : o.guard = none) (s x : Operand)
    (ho : o.op = .call { callee := .builtin .append, args := #[s, x], argTypes := #[22, 22] }) (hs : a.eval s = .slice (some ⟨w.heap.size, 0, none⟩) 0 0)
    (ao : Option Addr) (n cap : Nat) (L : List Nat) (hx : a.eval x = .slice ao n cap) (hn : n = L.length) (hnone : ao = none → cap = 0) (ha : At w ao L) (hr : n * 8 ≤ 140737488351232)
    (h : ∀ ao' cap' w', Copied w w' ao' n cap' L → wpList Try.prog ops Q rest (a.put o.dst (.slice ao' n cap')) w') :
    wpList Try.prog ops Q (o :: rest) a (w.alloc (.cells #[] 23)) := by
  have B1 := (Below.refl w.heap.size w).alloc (Nat.le_refl _) (.cells #[] 23)
  refine wpList_dup hgd s x _ ho Try.underlying22 w.heap.size _ [] hs (owns_empty w) ao n cap L hx hn hnone (ha.alloc _) (by simp; omega) (by simp) ?_
  intro v' w' ho' hg'
  rw [List.nil_append] at ho'
  have B2 : Below w.heap.size w w' := B1.grown hg' (by simp) (by intro k hk; simp [Value.ownBlock] at hk; omega)
  obtain ⟨ao', cap', rfl, h1, h2, h3, h4, h5⟩ := owns_at ho'
  rw [← hn] at h1 ho' ⊢
  exact h ao' cap' w' ⟨h1, h4, h3, h5, B2, by rw [hn] at ho' ⊢; exact ho'⟩
theorem oneAt (a : Nat) (w : World) : At (w.alloc (.cells #[.float .f64 a] 23)) (some ⟨w.heap.size, 0, none⟩) [a] := by
  intro i hi
  refine ⟨w.heap.size, 0, rfl, ?_⟩
  rw [World.cell?_alloc_at _ _ _ _ rfl]
  obtain rfl : i = 0 := by simp at hi; omega
  rfl
end Go.Proofs.Ytjhcalgamcdgiaa

namespace Go.Proofs.Ytjhcalgamcdgiaa
open Go.ChangeShapes Go.WideShapes Go.ChangeAt Go.RowKit Ieee.Own

/-- is the word fit and of a magnitude of at most m? -/
def inM (m x : Nat) : Bool := decide (fitB x = true ∧ x % 9223372036854775808 ≤ m)
def m40 : Nat := 4787326403894837248
def m10 : Nat := 4652218415073722368
def m00 : Nat := 4607182418800017408
/-- what is wrong with coefficients -/
def errC (L : List Nat) : Int := if 16 < L.length then 2 else if L.all (inM m40) = true then 0 else 3
def errX (m : Nat) (L : List Nat) (x : Nat) : Int := if errC L = 0 then (if inM m x = true then 0 else 3) else errC L
def errO (m : Nat) (L : List Nat) (a b : Nat) : Int := if errC L = 0 then (if errS a b = 0 then (if inM m a = true ∧ inM m b = true then 0 else 3) else errS a b) else errC L
theorem all_at {f : Nat → Bool} {L : List Nat} : L.all f = true ↔ ∀ j, j < L.length → f (L.getD j 0) = true := by
  rw [List.all_eq_true]
  constructor
  · intro h j hj; exact h _ (by simp [List.getD, hj])
  · intro h x hx
    obtain ⟨j, hj, rfl⟩ := List.mem_iff_getElem.1 hx
    have := h j hj
    simpa [List.getD, hj] using this
theorem inM_bd {m x : Nat} (hx : x < 18446744073709551616) (h : inM m x = true) : FinW x ∧ fitB x = true ∧ (V x).natAbs ≤ val 52 m := by
  unfold inM at h
  rw [decide_eq_true_eq] at h
  have f := fit_fin hx h.1
  refine ⟨f, h.1, ?_⟩
  rw [V_abs' x f]
  by_cases q : x % 9223372036854775808 = m
  · rw [q]; exact Nat.le_refl _
  · exact Nat.le_of_lt (val_lt (by omega))
theorem m40_V : val 52 m40 = 2 ^ 1114 := by decide +kernel
theorem m10_V : val 52 m10 = 2 ^ 1084 := by decide +kernel
theorem m00_V : val 52 m00 = 2 ^ 1074 := by decide +kernel
theorem inM_fc {x : Nat} (hx : x < 18446744073709551616) (h : inM m40 x = true) : Fc x := by
  have := inM_bd hx h
  rw [m40_V] at this
  exact ⟨hx, this.2.1, this.2.2⟩
theorem errC_zero {L : List Nat} (hw : Words L) (h : errC L = 0) : L.length ≤ 16 ∧ ∀ c ∈ L, Fc c := by
  unfold errC at h
  split at h
  · omega
  · rename_i h1
    split at h
    · rename_i h2
      rw [List.all_eq_true] at h2
      exact ⟨by omega, fun c hc => inM_fc (hw c hc) (h2 c hc)⟩
    · omega
theorem errX_zero {m x : Nat} {L : List Nat} (h : errX m L x = 0) : errC L = 0 ∧ inM m x = true := by
  unfold errX at h
  split at h
  · rename_i c
    split at h
    · rename_i d; exact ⟨c, d⟩
    · omega
  · rename_i c; exact absurd h c
theorem errO_zero {m a b : Nat} {L : List Nat} (h : errO m L a b = 0) : errC L = 0 ∧ errS a b = 0 ∧ inM m a = true ∧ inM m b = true := by
  unfold errO at h
  split at h
  · rename_i c
    split at h
    · rename_i s
      split at h
      · rename_i d; exact ⟨c, s, d⟩
      · omega
    · rename_i s; exact absurd h s
  · rename_i c; exact absurd h c

theorem pwithin_run (m x : Nat) (hm : m < 9218868437227405312) (hx : x < 18446744073709551616) (w : World) :
    Calls Try.prog 44 #[.float .f64 x, .float .f64 m] w fun e w' => e = .returned (.bool (inM m x)) ∧ w = w' := by
  have CF := fun w => fit_any x hx w
  have CA := fun w => abs_any x hx w
  have g := o_leq (x % 9223372036854775808) m (by omega) (by omega)
  rw [key_low (by omega), key_low (by omega)] at g
  by_cases h1 : fitB x = true
  · have fn := fit_fin hx h1
    have m' := fn.2
    rw [h1] at CF
    have n1 : nn (x % 9223372036854775808) := by unfold nn; omega
    have n2 : nn m := by unfold nn; omega
    have e : inM m x = decide (x % 9223372036854775808 ≤ m) := by unfold inM; rw [h1]; simp
    by_cases h2 : x % 9223372036854775808 ≤ m
    · rw [decide_eq_true ⟨n1, n2, by omega⟩] at g
      rw [e, decide_eq_true h2]
      clear hx h1 fn m' h2 e hm n1 n2
      generalize x % 9223372036854775808 = y at *
      go_enter Try.func44, Try.ntmps44
      go_wp2_with (first | (go_at_call 61; ((with_reducible refine (CF _).mono ?_); rintro e w' ⟨rfl, rfl⟩)) | (go_at_call 18; ((with_reducible refine (CA _).mono ?_); rintro e w' ⟨rfl, rfl⟩)))
      go_ret
      exact ⟨rfl, rfl⟩
    · rw [decide_eq_false (fun h => h2 (by have := h.2.2; omega))] at g
      rw [e, decide_eq_false h2]
      clear hx h1 fn m' h2 e hm n1 n2
      generalize x % 9223372036854775808 = y at *
      go_enter Try.func44, Try.ntmps44
      go_wp2_with (first | (go_at_call 61; ((with_reducible refine (CF _).mono ?_); rintro e w' ⟨rfl, rfl⟩)) | (go_at_call 18; ((with_reducible refine (CA _).mono ?_); rintro e w' ⟨rfl, rfl⟩)))
      go_ret
      exact ⟨rfl, rfl⟩
  · have e : inM m x = false := decide_eq_false (fun h => h1 h.1)
    rw [Bool.not_eq_true] at h1
    rw [h1] at CF
    rw [e]
    clear hx h1 e g hm
    go_enter Try.func44, Try.ntmps44
    go_wp2_with (first | (go_at_call 61; ((with_reducible refine (CF _).mono ?_); rintro e w' ⟨rfl, rfl⟩)) | (go_at_call 18; ((with_reducible refine (CA _).mono ?_); rintro e w' ⟨rfl, rfl⟩)))
    go_ret
    exact ⟨rfl, rfl⟩

theorem pcheck_run (ao : Option Addr) (cap n : Nat) (L : List Nat) (w : World) (hn : n = L.length) (hm : n ≤ 4611686018427387904) (hw : Words L) (ha : At w ao L) :
    Calls Try.prog 42 #[.slice ao n cap] w fun e w' => e = .returned (.int .i64 (errC L)) ∧ w = w' := by
  by_cases hbig : 16 < n
  · have hE : errC L = 2 := by unfold errC; rw [if_pos (by omega)]
    rw [hE]
    clear hE ha hw hn
    go_enter Try.func42, Try.ntmps42
    go_wp2_with fail
    go_ret
    exact ⟨rfl, rfl⟩
  have hE : errC L = if L.all (inM m40) = true then 0 else 3 := by unfold errC; rw [if_neg (by omega)]
  have hF := all_at (f := inM m40) (L := L)
  replace hn := Lib.hid hn
  replace hw := Lib.hid hw
  replace ha := Lib.hid ha
  replace hE := Lib.hid hE
  replace hF := Lib.hid hF
  go_enter Try.func42, Try.ntmps42
  go_wp2_with fail
  go_loop [10] (fun iv => ∃ i : Nat, i ≤ n ∧ iv = .int .i64 i ∧ ∀ j, j < i → inM m40 (L.getD j 0) = true) (fun iv => n - (intOf iv).toNat)
  case atStart => exact ⟨0, Nat.zero_le _, rfl, fun j hj => by omega⟩
  case round =>
    obtain ⟨i, hi, rfl, hall⟩ := hrel
    replace hall := Lib.hid hall
    by_cases hlt : i < n
    · have hil : i < L.length := by have := hn.out; omega
      obtain ⟨b, o, rfl, hc⟩ := ha.out i hil
      have C := fun w => pwithin_run m40 _ (by decide) (hw.out.at hil) w
      by_cases hf : inM m40 (L.getD i 0) = true
      · have hall' : Hid (∀ j, j < i + 1 → inM m40 (L.getD j 0) = true) := by
          intro j hj
          by_cases e : j = i
          · rw [e]; exact hf
          · exact hall.out j (by omega)
        rw [hf] at C
        obtain ⟨u, hu⟩ : ∃ u, u = L.getD i 0 := ⟨_, rfl⟩
        rw [← hu] at hc C
        unfold m40 at C
        clear hu hf hil hall
        go_wp2_with (go_at_call 44; ((with_reducible refine (C _).mono ?_); rintro e w' ⟨rfl, rfl⟩))
        go_round
        case rel => exact ⟨i + 1, hlt, by go_num, hall'.out⟩
        case measure => simp [intOf]; omega
      · have hE2 : Hid (errC L = 3) := by
          show errC L = 3
          rw [hE.out, if_neg (fun h => hf (hF.out.1 h i hil))]
        rw [Bool.not_eq_true] at hf
        rw [hf] at C
        obtain ⟨u, hu⟩ : ∃ u, u = L.getD i 0 := ⟨_, rfl⟩
        rw [← hu] at hc C
        unfold m40 at C
        clear hu hf hil hall
        go_wp2_with (go_at_call 44; ((with_reducible refine (C _).mono ?_); rintro e w' ⟨rfl, rfl⟩))
        go_ret
        exact ⟨ret_i hE2.out.symm, rfl⟩
    · have hE2 : Hid (errC L = 0) := by
        show errC L = 0
        rw [hE.out, if_pos (hF.out.2 (fun j hj => hall.out j (by have := hn.out; omega)))]
      clear hall
      go_wp2_with fail
      go_ret
      exact ⟨ret_i hE2.out.symm, rfl⟩

theorem checkAt_run (m : Nat) (hm' : m < 9218868437227405312) (ao : Option Addr) (cap n : Nat) (L : List Nat) (x : Nat) (w : World) (hn : n = L.length) (hm : n ≤ 4611686018427387904) (hw : Words L) (ha : At w ao L) (hx : x < 18446744073709551616) :
    Calls Try.prog 36 #[.slice ao n cap, .float .f64 x, .float .f64 m] w fun e w' => e = .returned (.int .i64 (errX m L x)) ∧ w = w' := by
  have K := pcheck_run ao cap n L w hn hm hw ha
  have C := fun w => pwithin_run m x hm' hx w
  clear ha hw hn hm hx
  by_cases h0 : errC L = 0
  · have e : errX m L x = if inM m x = true then 0 else 3 := if_pos h0
    rw [h0] at K
    rw [e]
    clear e h0
    generalize inM m x = q at *
    cases q
    · go_enter Try.func36, Try.ntmps36
      go_wp2_with (first | (go_at_call 42; ((with_reducible refine K.mono ?_); rintro e w' ⟨rfl, rfl⟩)) | (go_at_call 44; ((with_reducible refine (C _).mono ?_); rintro e w' ⟨rfl, rfl⟩)))
      go_ret
      exact ⟨rfl, rfl⟩
    · go_enter Try.func36, Try.ntmps36
      go_wp2_with (first | (go_at_call 42; ((with_reducible refine K.mono ?_); rintro e w' ⟨rfl, rfl⟩)) | (go_at_call 44; ((with_reducible refine (C _).mono ?_); rintro e w' ⟨rfl, rfl⟩)))
      go_ret
      exact ⟨rfl, rfl⟩
  · have e : errX m L x = errC L := if_neg h0
    have t0 : (errC L == 0) = false := by simpa using h0
    have t1 : (errC L != 0) = true := by simpa using h0
    rw [e]
    clear e C
    generalize errC L = k at *
    go_enter Try.func36, Try.ntmps36
    go_wp2_with (first | (go_at_call 42; ((with_reducible refine K.mono ?_); rintro e w' ⟨rfl, rfl⟩)))
    go_ret
    exact ⟨rfl, rfl⟩
end Go.Proofs.Ytjhcalgamcdgiaa

namespace Go.Proofs.Ytjhcalgamcdgiaa
open Go.ChangeShapes Go.WideShapes Go.ChangeAt Go.RowKit Ieee.Own

theorem inM_iff {m x : Nat} (hm : m < 9218868437227405312) (hx : x < 18446744073709551616) (f : fitB x = true) : inM m x = true ↔ -V m ≤ V x ∧ V x ≤ V m := by
  have fx := fit_fin hx f
  have fm : FinW m := ⟨by omega, by omega⟩
  have a := V_abs' x fx
  have b : V m = val 52 m := by
    unfold V
    rw [if_pos (by omega)]
  unfold inM
  rw [decide_eq_true_eq, b]
  have l := val_lt_iff 52 m (x % 9223372036854775808)
  constructor
  · intro h
    have : ¬ val 52 m < val 52 (x % 9223372036854775808) := fun c => by have := l.1 c; omega
    omega
  · intro h
    refine ⟨f, Nat.not_lt.1 fun c => ?_⟩
    have := l.2 c
    omega
theorem negm_V {m : Nat} (hm : m < 9218868437227405312) : V (negW m) = -V m ∧ FinW (negW m) := by
  have fm : FinW m := ⟨by omega, by omega⟩
  exact ⟨negW_V fm, negW_fin fm⟩

theorem checkOver_run (m : Nat) (hm' : m < 9218868437227405312) (ao : Option Addr) (cap n : Nat) (L : List Nat) (a b : Nat) (w : World) (hn : n = L.length) (hm : n ≤ 4611686018427387904) (hw : Words L) (ha : At w ao L) (ha0 : a < 18446744073709551616) (hb0 : b < 18446744073709551616) :
    Calls Try.prog 23 #[.slice ao n cap, spanV a b, .float .f64 m] w fun e w' => e = .returned (.int .i64 (errO m L a b)) ∧ Below w.heap.size w w' := by
  have K1 : Hid (∀ w, At w ao L → Calls Try.prog 42 #[.slice ao n cap] w fun e w' => e = .returned (.int .i64 (errC L)) ∧ w = w') := fun w h => pcheck_run ao cap n L w hn hm hw h
  have K2 := Lib.hid (fun w => scheck_run a b ha0 hb0 w)
  have A0 := Lib.hid (ha.alloc (boxO a b))
  have C0 : Cls w [(w.heap.size, a, b)] (w.alloc (boxO a b)) := (Cls.nil w).new a b
  unfold boxO at C0 A0
  unfold spanV at *
  have W1 := fun w => pwithin_run m a hm' ha0 w
  have W2 := fun w => pwithin_run m b hm' hb0 w
  unfold errO
  clear ha0 hb0 hn hm hw ha hm'
  generalize errC L = e1 at *
  generalize errS a b = e2 at *
  generalize inM m a = e3 at *
  generalize inM m b = e4 at *
  replace C0 := Lib.hid C0
  by_cases c1 : e1 = 0
  · rw [if_pos c1]
    have t1 : (e1 != 0) = false := by simpa using c1
    by_cases c2 : e2 = 0
    · rw [if_pos c2]
      have t2 : (e2 != 0) = false := by simpa using c2
      clear c1 c2
      cases e3
      · rw [if_neg (by simp)]
        clear W2
        go_enter Try.func23, Try.ntmps23
        go_wp2_with fail
        have C := C0.out
        have A := A0.out
        clear C0 A0
        generalize w.alloc _ = wr at *
        refine (K1.out wr A).mono ?_
        rintro _ w1 ⟨rfl, rfl⟩
        have p0 := (C.at_ 0 rfl).lo
        have p1 := (C.at_ 0 rfl).hi
        replace C := Lib.hid C
        go_wp2_with fail
        clear p0 p1
        refine (K2.out wr).mono ?_
        rintro _ w1 ⟨rfl, hb⟩
        have C1 := C.out.on hb
        have p0 := (C1.at_ 0 rfl).lo
        have p1 := (C1.at_ 0 rfl).hi
        have B := Lib.hid C1.old
        clear C C1 hb K2
        go_wp2_with (go_at_call 44; ((with_reducible refine (W1 _).mono ?_); rintro e w' ⟨rfl, rfl⟩))
        go_ret
        exact ⟨rfl, B.out⟩
      · cases e4
        · rw [if_neg (by simp)]
          go_enter Try.func23, Try.ntmps23
          go_wp2_with fail
          have C := C0.out
          have A := A0.out
          clear C0 A0
          generalize w.alloc _ = wr at *
          refine (K1.out wr A).mono ?_
          rintro _ w1 ⟨rfl, rfl⟩
          have p0 := (C.at_ 0 rfl).lo
          have p1 := (C.at_ 0 rfl).hi
          replace C := Lib.hid C
          go_wp2_with fail
          clear p0 p1
          refine (K2.out wr).mono ?_
          rintro _ w1 ⟨rfl, hb⟩
          have C1 := C.out.on hb
          have p0 := (C1.at_ 0 rfl).lo
          have p1 := (C1.at_ 0 rfl).hi
          have B := Lib.hid C1.old
          clear C C1 hb K2
          go_wp2_with (first | (go_at_call 44; ((with_reducible refine (W1 _).mono ?_); rintro e w' ⟨rfl, rfl⟩)) | (go_at_call 44; ((with_reducible refine (W2 _).mono ?_); rintro e w' ⟨rfl, rfl⟩)))
          go_ret
          exact ⟨rfl, B.out⟩
        · rw [if_pos ⟨rfl, rfl⟩]
          go_enter Try.func23, Try.ntmps23
          go_wp2_with fail
          have C := C0.out
          have A := A0.out
          clear C0 A0
          generalize w.alloc _ = wr at *
          refine (K1.out wr A).mono ?_
          rintro _ w1 ⟨rfl, rfl⟩
          have p0 := (C.at_ 0 rfl).lo
          have p1 := (C.at_ 0 rfl).hi
          replace C := Lib.hid C
          go_wp2_with fail
          clear p0 p1
          refine (K2.out wr).mono ?_
          rintro _ w1 ⟨rfl, hb⟩
          have C1 := C.out.on hb
          have p0 := (C1.at_ 0 rfl).lo
          have p1 := (C1.at_ 0 rfl).hi
          have B := Lib.hid C1.old
          clear C C1 hb K2
          go_wp2_with (first | (go_at_call 44; ((with_reducible refine (W1 _).mono ?_); rintro e w' ⟨rfl, rfl⟩)) | (go_at_call 44; ((with_reducible refine (W2 _).mono ?_); rintro e w' ⟨rfl, rfl⟩)))
          go_ret
          exact ⟨rfl, B.out⟩
    · rw [if_neg c2]
      have t2 : (e2 != 0) = true := by simpa using c2
      clear c1 c2 W1 W2
      go_enter Try.func23, Try.ntmps23
      go_wp2_with fail
      have C := C0.out
      have A := A0.out
      clear C0 A0
      generalize w.alloc _ = wr at *
      refine (K1.out wr A).mono ?_
      rintro _ w1 ⟨rfl, rfl⟩
      have p0 := (C.at_ 0 rfl).lo
      have p1 := (C.at_ 0 rfl).hi
      replace C := Lib.hid C
      go_wp2_with fail
      clear p0 p1
      refine (K2.out wr).mono ?_
      rintro _ w1 ⟨rfl, hb⟩
      have C1 := C.out.on hb
      have p0 := (C1.at_ 0 rfl).lo
      have p1 := (C1.at_ 0 rfl).hi
      have B := Lib.hid C1.old
      clear C C1 hb K2
      go_wp2_with fail
      go_ret
      exact ⟨rfl, B.out⟩
  · rw [if_neg c1]
    have t1 : (e1 != 0) = true := by simpa using c1
    clear c1 W1 W2 K2
    go_enter Try.func23, Try.ntmps23
    go_wp2_with fail
    have C := C0.out
    have A := A0.out
    clear C0 A0
    generalize w.alloc _ = wr at *
    refine (K1.out wr A).mono ?_
    rintro _ w1 ⟨rfl, rfl⟩
    have p0 := (C.at_ 0 rfl).lo
    have p1 := (C.at_ 0 rfl).hi
    have B := Lib.hid C.old
    clear C
    go_wp2_with fail
    go_ret
    exact ⟨rfl, B.out⟩

theorem rpcheck_run (ao : Option Addr) (cap n : Nat) (L : List Nat) (w : World) (hn : n = L.length) (hm : n ≤ 4611686018427387904) (hw : Words L) (ha : At w ao L) :
    Calls Try.prog 48 #[.slice ao n cap] w fun e w' => e = .returned (.int .i64 (errC L)) ∧ w = w' := by
  by_cases hbig : 16 < n
  · have hE : errC L = 2 := by unfold errC; rw [if_pos (by omega)]
    rw [hE]
    clear hE ha hw hn
    go_enter Try.func48, Try.ntmps48
    go_wp2_with fail
    go_ret
    exact ⟨rfl, rfl⟩
  have hE : errC L = if L.all (inM m40) = true then 0 else 3 := by unfold errC; rw [if_neg (by omega)]
  have hF := all_at (f := inM m40) (L := L)
  replace hn := Lib.hid hn
  replace hw := Lib.hid hw
  replace ha := Lib.hid ha
  replace hE := Lib.hid hE
  replace hF := Lib.hid hF
  have hV : Hid (V 4787326403894837248 = V m40 ∧ V 14010698440749613056 = -V m40) := by show _ ∧ _; decide +kernel
  go_enter Try.func48, Try.ntmps48
  go_wp2_with fail
  go_loop [3] (fun iv => ∃ i : Nat, i ≤ n ∧ iv = .int .i64 i ∧ ∀ j, j < i → inM m40 (L.getD j 0) = true) (fun iv => n - (intOf iv).toNat)
  case atStart => exact ⟨0, Nat.zero_le _, rfl, fun j hj => by omega⟩
  case round =>
    obtain ⟨i, hi, rfl, hall⟩ := hrel
    replace hall := Lib.hid hall
    by_cases hlt : i < n
    · have hil : i < L.length := by have := hn.out; omega
      obtain ⟨b, o, rfl, hc⟩ := ha.out i hil
      have hx := hw.out.at hil
      have C := fun w => rfit_any _ hx w
      by_cases hf : inM m40 (L.getD i 0) = true
      · have hall' : Hid (∀ j, j < i + 1 → inM m40 (L.getD j 0) = true) := by
          intro j hj
          by_cases e : j = i
          · rw [e]; exact hf
          · exact hall.out j (by omega)
        have f := (inM_bd hx hf).2.1
        have hi2 := (inM_iff (m := m40) (by decide) hx f).1 hf
        have fx := fit_fin hx f
        have g1 := gt_words fx (show FinW 4787326403894837248 from ⟨by omega, by omega⟩)
        have g2 := lt_words fx (show FinW 14010698440749613056 from ⟨by omega, by omega⟩)
        rw [hV.out.1, decide_eq_false (by omega)] at g1
        rw [hV.out.2, decide_eq_false (by omega)] at g2
        rw [f] at C
        obtain ⟨u, hu⟩ : ∃ u, u = L.getD i 0 := ⟨_, rfl⟩
        rw [← hu] at hc C g1 g2
        clear hu hf hil hall f hi2 fx hx hV
        go_wp2_with (go_at_call 68; ((with_reducible refine (C _).mono ?_); rintro e w' ⟨rfl, rfl⟩))
        go_round
        case rel => exact ⟨i + 1, hlt, by go_num, hall'.out⟩
        case measure => simp [intOf]; omega
      · have hE2 : Hid (errC L = 3) := by
          show errC L = 3
          rw [hE.out, if_neg (fun h => hf (hF.out.1 h i hil))]
        by_cases f : fitB (L.getD i 0) = true
        · have hi2 : ¬ (-V m40 ≤ V (L.getD i 0) ∧ V (L.getD i 0) ≤ V m40) := fun h => hf ((inM_iff (m := m40) (by decide) hx f).2 h)
          have fx := fit_fin hx f
          have g1 := gt_words fx (show FinW 4787326403894837248 from ⟨by omega, by omega⟩)
          have g2 := lt_words fx (show FinW 14010698440749613056 from ⟨by omega, by omega⟩)
          rw [hV.out.1] at g1
          rw [hV.out.2] at g2
          rw [f] at C
          by_cases d : V m40 < V (L.getD i 0)
          · rw [decide_eq_true d] at g1
            obtain ⟨u, hu⟩ : ∃ u, u = L.getD i 0 := ⟨_, rfl⟩
            rw [← hu] at hc C g1
            clear hu hf hil hall f hi2 fx hx hV d g2
            go_wp2_with (go_at_call 68; ((with_reducible refine (C _).mono ?_); rintro e w' ⟨rfl, rfl⟩))
            go_ret
            exact ⟨ret_i hE2.out.symm, rfl⟩
          · rw [decide_eq_false d] at g1
            rw [decide_eq_true (by omega)] at g2
            obtain ⟨u, hu⟩ : ∃ u, u = L.getD i 0 := ⟨_, rfl⟩
            rw [← hu] at hc C g1 g2
            clear hu hf hil hall f hi2 fx hx hV d
            go_wp2_with (go_at_call 68; ((with_reducible refine (C _).mono ?_); rintro e w' ⟨rfl, rfl⟩))
            go_ret
            exact ⟨ret_i hE2.out.symm, rfl⟩
        · rw [Bool.not_eq_true] at f
          rw [f] at C
          obtain ⟨u, hu⟩ : ∃ u, u = L.getD i 0 := ⟨_, rfl⟩
          rw [← hu] at hc C
          clear hu hf hil hall hx hV f
          go_wp2_with (go_at_call 68; ((with_reducible refine (C _).mono ?_); rintro e w' ⟨rfl, rfl⟩))
          go_ret
          exact ⟨ret_i hE2.out.symm, rfl⟩
    · have hE2 : Hid (errC L = 0) := by
        show errC L = 0
        rw [hE.out, if_pos (hF.out.2 (fun j hj => hall.out j (by have := hn.out; omega)))]
      clear hall
      go_wp2_with fail
      go_ret
      exact ⟨ret_i hE2.out.symm, rfl⟩

theorem spanned_run (m : Nat) (hm' : m < 9218868437227405312) (ao : Option Addr) (cap n : Nat) (L : List Nat) (a b : Nat) (w : World) (hn : n = L.length) (hm : n ≤ 4611686018427387904) (hw : Words L) (ha : At w ao L) (ha0 : a < 18446744073709551616) (hb0 : b < 18446744073709551616) :
    Calls Try.prog 27 #[.slice ao n cap, spanV a b, .float .f64 m] w fun e w' => e = .returned (.int .i64 (errO m L a b)) ∧ Below w.heap.size w w' := by
  have K1 : Hid (∀ w, At w ao L → Calls Try.prog 48 #[.slice ao n cap] w fun e w' => e = .returned (.int .i64 (errC L)) ∧ w = w') := fun w h => rpcheck_run ao cap n L w hn hm hw h
  have K2 := Lib.hid (fun w => rscheck_run a b ha0 hb0 w)
  have A0 := Lib.hid (ha.alloc (boxO a b))
  have C0 : Cls w [(w.heap.size, a, b)] (w.alloc (boxO a b)) := (Cls.nil w).new a b
  unfold boxO at C0 A0
  unfold spanV at *
  unfold errO
  have N1 := fun w => xneg' m (by omega) w
  obtain ⟨nv, nf⟩ := negm_V hm'
  have mf : FinW m := ⟨by omega, by omega⟩
  clear hn hm hw ha
  generalize errC L = e1 at *
  replace C0 := Lib.hid C0
  by_cases c1 : e1 = 0
  · rw [if_pos c1]
    have t1 : (e1 != 0) = false := by simpa using c1
    by_cases c2 : errS a b = 0
    · rw [if_pos c2]
      obtain ⟨f1, f2, le⟩ := errS_zero c2
      have i1 := inM_iff hm' ha0 f1
      have i2 := inM_iff hm' hb0 f2
      have g1 := lt_words (fit_fin ha0 f1) nf
      have g2 := gt_words (fit_fin hb0 f2) mf
      rw [nv] at g1
      have t2 : (errS a b != 0) = false := by simpa using c2
      rw [c2] at t2 K2
      by_cases d1 : V a < -V m
      · rw [decide_eq_true d1] at g1
        rw [if_neg (fun h => by have := i1.1 h.1; omega)]
        clear c1 c2 f1 f2 i1 i2 g2 nv nf mf ha0 hb0 hm' d1 le
        generalize negW m = nm at *
        go_enter Try.func27, Try.ntmps27
        go_wp2_with fail
        have C := C0.out
        have A := A0.out
        clear C0 A0
        generalize w.alloc _ = wr at *
        refine (K1.out wr A).mono ?_
        rintro _ w1 ⟨rfl, rfl⟩
        have p0 := (C.at_ 0 rfl).lo
        have p1 := (C.at_ 0 rfl).hi
        replace C := Lib.hid C
        go_wp2_with fail
        clear p0 p1
        refine (K2.out wr).mono ?_
        rintro _ w1 ⟨rfl, hb⟩
        have C1 := C.out.on hb
        have p0 := (C1.at_ 0 rfl).lo
        have p1 := (C1.at_ 0 rfl).hi
        have B := Lib.hid C1.old
        clear C C1 hb K2
        go_wp2_with fail
        go_ret
        exact ⟨rfl, B.out⟩
      · rw [decide_eq_false d1] at g1
        by_cases d2 : V m < V b
        · rw [decide_eq_true d2] at g2
          rw [if_neg (fun h => by have := i2.1 h.2; omega)]
          clear c1 c2 f1 f2 i1 i2 nv nf mf ha0 hb0 hm' d1 d2 le
          generalize negW m = nm at *
          go_enter Try.func27, Try.ntmps27
          go_wp2_with fail
          have C := C0.out
          have A := A0.out
          clear C0 A0
          generalize w.alloc _ = wr at *
          refine (K1.out wr A).mono ?_
          rintro _ w1 ⟨rfl, rfl⟩
          have p0 := (C.at_ 0 rfl).lo
          have p1 := (C.at_ 0 rfl).hi
          replace C := Lib.hid C
          go_wp2_with fail
          clear p0 p1
          refine (K2.out wr).mono ?_
          rintro _ w1 ⟨rfl, hb⟩
          have C1 := C.out.on hb
          have p0 := (C1.at_ 0 rfl).lo
          have p1 := (C1.at_ 0 rfl).hi
          have B := Lib.hid C1.old
          clear C C1 hb K2
          go_wp2_with fail
          go_ret
          exact ⟨rfl, B.out⟩
        · rw [decide_eq_false d2] at g2
          rw [if_pos ⟨i1.2 (by omega), i2.2 (by omega)⟩]
          clear c1 c2 f1 f2 i1 i2 nv nf mf ha0 hb0 hm' d1 d2 le
          generalize negW m = nm at *
          go_enter Try.func27, Try.ntmps27
          go_wp2_with fail
          have C := C0.out
          have A := A0.out
          clear C0 A0
          generalize w.alloc _ = wr at *
          refine (K1.out wr A).mono ?_
          rintro _ w1 ⟨rfl, rfl⟩
          have p0 := (C.at_ 0 rfl).lo
          have p1 := (C.at_ 0 rfl).hi
          replace C := Lib.hid C
          go_wp2_with fail
          clear p0 p1
          refine (K2.out wr).mono ?_
          rintro _ w1 ⟨rfl, hb⟩
          have C1 := C.out.on hb
          have p0 := (C1.at_ 0 rfl).lo
          have p1 := (C1.at_ 0 rfl).hi
          have B := Lib.hid C1.old
          clear C C1 hb K2
          go_wp2_with fail
          go_ret
          exact ⟨rfl, B.out⟩
    · rw [if_neg c2]
      have t2 : (errS a b != 0) = true := by simpa using c2
      clear c1 c2 nv nf mf ha0 hb0 hm' N1
      generalize errS a b = e2 at *
      go_enter Try.func27, Try.ntmps27
      go_wp2_with fail
      have C := C0.out
      have A := A0.out
      clear C0 A0
      generalize w.alloc _ = wr at *
      refine (K1.out wr A).mono ?_
      rintro _ w1 ⟨rfl, rfl⟩
      have p0 := (C.at_ 0 rfl).lo
      have p1 := (C.at_ 0 rfl).hi
      replace C := Lib.hid C
      go_wp2_with fail
      clear p0 p1
      refine (K2.out wr).mono ?_
      rintro _ w1 ⟨rfl, hb⟩
      have C1 := C.out.on hb
      have p0 := (C1.at_ 0 rfl).lo
      have p1 := (C1.at_ 0 rfl).hi
      have B := Lib.hid C1.old
      clear C C1 hb K2
      go_wp2_with fail
      go_ret
      exact ⟨rfl, B.out⟩
  · rw [if_neg c1]
    have t1 : (e1 != 0) = true := by simpa using c1
    clear c1 K2 nv nf mf ha0 hb0 hm' N1
    go_enter Try.func27, Try.ntmps27
    go_wp2_with fail
    have C := C0.out
    have A := A0.out
    clear C0 A0
    generalize w.alloc _ = wr at *
    refine (K1.out wr A).mono ?_
    rintro _ w1 ⟨rfl, rfl⟩
    have p0 := (C.at_ 0 rfl).lo
    have p1 := (C.at_ 0 rfl).hi
    have B := Lib.hid C.old
    clear C
    go_wp2_with fail
    go_ret
    exact ⟨rfl, B.out⟩
end Go.Proofs.Ytjhcalgamcdgiaa

namespace Go.Proofs.Ytjhcalgamcdgiaa
open Go.ChangeShapes Go.WideShapes Go.ChangeAt Go.RowKit Ieee.Own

theorem pmul_run {p q u : Pr} (hp : p.1 < 18446744073709551616 ∧ p.2 < 18446744073709551616) (hq : q.1 < 18446744073709551616 ∧ q.2 < 18446744073709551616) (R : MulR p q u) (w : World) :
    Calls Try.prog 26 #[pv p, pv q] w fun e w' => e = .returned (pv u) ∧ Below w.heap.size w w' := by
  obtain ⟨p1, p2⟩ := p
  obtain ⟨q1, q2⟩ := q
  obtain ⟨u1, u2⟩ := u
  have SM := Lib.hid (fun w => (smul_run p1 p2 q1 q2 hp.1 hp.2 hq.1 hq.2 w).mono fun e w' h => (⟨OpAll.uniq h.1 R, h.2⟩ : e = .returned (spanE u1 u2 0) ∧ Below w.heap.size w w'))
  have C0 : Cls w [(w.heap.size, p1, p2), (w.heap.size + 1, q1, q2), (w.heap.size + 1 + 1, 0, 0)] (((w.alloc (boxO p1 p2)).alloc (boxO q1 q2)).alloc (boxO 0 0)) := by
    have := (((Cls.nil w).new p1 p2).new q1 q2).new 0 0
    simp only [List.nil_append, List.cons_append] at this
    rw [show (w.alloc (boxO p1 p2)).heap.size = w.heap.size + 1 by simp, show ((w.alloc (boxO p1 p2)).alloc (boxO q1 q2)).heap.size = w.heap.size + 1 + 1 by simp] at this
    exact this
  have hst := @fstore
  unfold boxO at C0
  unfold pv spanV spanE at *
  dsimp only at *
  replace C0 := Lib.hid C0
  clear hp hq R
  go_enter Try.func26, Try.ntmps26
  go_wp2_with fail
  have C := C0.out
  clear C0
  generalize ((w.alloc _).alloc _).alloc _ = wr at *
  refine (SM.out wr).mono ?_
  rintro _ w1 ⟨rfl, hb⟩
  have C1 := (C.on hb).new u1 u2
  unfold boxO at C1
  have c0 := (C1.at_ 2 rfl).lo
  have c1 := (C1.at_ 2 rfl).hi
  have f0 := (C1.at_ 2 rfl).f0
  have f1 := (C1.at_ 2 rfl).f1
  have d0 := (C1.at_ 3 rfl).lo
  have d1 := (C1.at_ 3 rfl).hi
  have B := Lib.hid C1.old
  clear C C1 hb SM
  go_wp2_with fail
  (try simp only [Exit.inBlock, Exit.then])
  refine bodyPost_ret (v := spanV u1 u2) ?_ rfl ⟨rfl, ?_⟩
  · rw [results_cell1 rfl]; unfold spanV; go_simp
  · exact (B.out.setCell (by show _ ≤ w.heap.size + 1 + 1; omega) _).setCell (by show _ ≤ w.heap.size + 1 + 1; omega) _
theorem padd_run {p q u : Pr} (hp : p.1 < 18446744073709551616 ∧ p.2 < 18446744073709551616) (hq : q.1 < 18446744073709551616 ∧ q.2 < 18446744073709551616) (R : AddR p q u) (w : World) :
    Calls Try.prog 24 #[pv p, pv q] w fun e w' => e = .returned (pv u) ∧ Below w.heap.size w w' := by
  obtain ⟨p1, p2⟩ := p
  obtain ⟨q1, q2⟩ := q
  obtain ⟨u1, u2⟩ := u
  have SM := Lib.hid (fun w => (sadd_run p1 p2 q1 q2 hp.1 hp.2 hq.1 hq.2 w).mono fun e w' h => (⟨h.1.all.uniq R.all, h.2⟩ : e = .returned (spanE u1 u2 0) ∧ Below w.heap.size w w'))
  have C0 : Cls w [(w.heap.size, p1, p2), (w.heap.size + 1, q1, q2), (w.heap.size + 1 + 1, 0, 0)] (((w.alloc (boxO p1 p2)).alloc (boxO q1 q2)).alloc (boxO 0 0)) := by
    have := (((Cls.nil w).new p1 p2).new q1 q2).new 0 0
    simp only [List.nil_append, List.cons_append] at this
    rw [show (w.alloc (boxO p1 p2)).heap.size = w.heap.size + 1 by simp, show ((w.alloc (boxO p1 p2)).alloc (boxO q1 q2)).heap.size = w.heap.size + 1 + 1 by simp] at this
    exact this
  have hst := @fstore
  unfold boxO at C0
  unfold pv spanV spanE at *
  dsimp only at *
  replace C0 := Lib.hid C0
  clear hp hq R
  go_enter Try.func24, Try.ntmps24
  go_wp2_with fail
  have C := C0.out
  clear C0
  generalize ((w.alloc _).alloc _).alloc _ = wr at *
  refine (SM.out wr).mono ?_
  rintro _ w1 ⟨rfl, hb⟩
  have C1 := (C.on hb).new u1 u2
  unfold boxO at C1
  have c0 := (C1.at_ 2 rfl).lo
  have c1 := (C1.at_ 2 rfl).hi
  have f0 := (C1.at_ 2 rfl).f0
  have f1 := (C1.at_ 2 rfl).f1
  have d0 := (C1.at_ 3 rfl).lo
  have d1 := (C1.at_ 3 rfl).hi
  have B := Lib.hid C1.old
  clear C C1 hb SM
  go_wp2_with fail
  (try simp only [Exit.inBlock, Exit.then])
  refine bodyPost_ret (v := spanV u1 u2) ?_ rfl ⟨rfl, ?_⟩
  · rw [results_cell1 rfl]; unfold spanV; go_simp
  · exact (B.out.setCell (by show _ ≤ w.heap.size + 1 + 1; omega) _).setCell (by show _ ≤ w.heap.size + 1 + 1; omega) _
theorem psub_run {p q u : Pr} (hp : p.1 < 18446744073709551616 ∧ p.2 < 18446744073709551616) (hq : q.1 < 18446744073709551616 ∧ q.2 < 18446744073709551616) (R : SubR p q u) (w : World) :
    Calls Try.prog 32 #[pv p, pv q] w fun e w' => e = .returned (pv u) ∧ Below w.heap.size w w' := by
  obtain ⟨p1, p2⟩ := p
  obtain ⟨q1, q2⟩ := q
  obtain ⟨u1, u2⟩ := u
  have SM := Lib.hid (fun w => (ssub_run p1 p2 q1 q2 hp.1 hp.2 hq.1 hq.2 w).mono fun e w' h => (⟨h.1.all.uniq R.all, h.2⟩ : e = .returned (spanE u1 u2 0) ∧ Below w.heap.size w w'))
  have C0 : Cls w [(w.heap.size, p1, p2), (w.heap.size + 1, q1, q2), (w.heap.size + 1 + 1, 0, 0)] (((w.alloc (boxO p1 p2)).alloc (boxO q1 q2)).alloc (boxO 0 0)) := by
    have := (((Cls.nil w).new p1 p2).new q1 q2).new 0 0
    simp only [List.nil_append, List.cons_append] at this
    rw [show (w.alloc (boxO p1 p2)).heap.size = w.heap.size + 1 by simp, show ((w.alloc (boxO p1 p2)).alloc (boxO q1 q2)).heap.size = w.heap.size + 1 + 1 by simp] at this
    exact this
  have hst := @fstore
  unfold boxO at C0
  unfold pv spanV spanE at *
  dsimp only at *
  replace C0 := Lib.hid C0
  clear hp hq R
  go_enter Try.func32, Try.ntmps32
  go_wp2_with fail
  have C := C0.out
  clear C0
  generalize ((w.alloc _).alloc _).alloc _ = wr at *
  refine (SM.out wr).mono ?_
  rintro _ w1 ⟨rfl, hb⟩
  have C1 := (C.on hb).new u1 u2
  unfold boxO at C1
  have c0 := (C1.at_ 2 rfl).lo
  have c1 := (C1.at_ 2 rfl).hi
  have f0 := (C1.at_ 2 rfl).f0
  have f1 := (C1.at_ 2 rfl).f1
  have d0 := (C1.at_ 3 rfl).lo
  have d1 := (C1.at_ 3 rfl).hi
  have B := Lib.hid C1.old
  clear C C1 hb SM
  go_wp2_with fail
  (try simp only [Exit.inBlock, Exit.then])
  refine bodyPost_ret (v := spanV u1 u2) ?_ rfl ⟨rfl, ?_⟩
  · rw [results_cell1 rfl]; unfold spanV; go_simp
  · exact (B.out.setCell (by show _ ≤ w.heap.size + 1 + 1; omega) _).setCell (by show _ ≤ w.heap.size + 1 + 1; omega) _
theorem vmul6 {p q u : Pr} (hp : p.1 < 18446744073709551616 ∧ p.2 < 18446744073709551616) (hq : q.1 < 18446744073709551616 ∧ q.2 < 18446744073709551616) (R : MulR p q u) (w : World) :
    Calls Try.prog 28 #[pv p, pv q] w fun e w' => e = .returned (spanE u.1 u.2 0) ∧ Below w.heap.size w w' :=
  (rmul_run p.1 p.2 q.1 q.2 hp.1 hp.2 hq.1 hq.2 w).mono fun _ _ h => ⟨OpAll.uniq h.1 R, h.2⟩
theorem vadd6 {p q u : Pr} (hp : p.1 < 18446744073709551616 ∧ p.2 < 18446744073709551616) (hq : q.1 < 18446744073709551616 ∧ q.2 < 18446744073709551616) (R : AddR p q u) (w : World) :
    Calls Try.prog 29 #[pv p, pv q] w fun e w' => e = .returned (spanE u.1 u.2 0) ∧ Below w.heap.size w w' :=
  (radd_run p.1 p.2 q.1 q.2 hp.1 hp.2 hq.1 hq.2 w).mono fun _ _ h => ⟨h.1.all.uniq R.all, h.2⟩
theorem vsub6 {p q u : Pr} (hp : p.1 < 18446744073709551616 ∧ p.2 < 18446744073709551616) (hq : q.1 < 18446744073709551616 ∧ q.2 < 18446744073709551616) (R : SubR p q u) (w : World) :
    Calls Try.prog 33 #[pv p, pv q] w fun e w' => e = .returned (spanE u.1 u.2 0) ∧ Below w.heap.size w w' :=
  (rsub_run p.1 p.2 q.1 q.2 hp.1 hp.2 hq.1 hq.2 w).mono fun _ _ h => ⟨h.1.all.uniq R.all, h.2⟩

theorem errS_self {c : Nat} (f : fitB c = true) : errS c c = 0 := errS_of ⟨f, f⟩ (Int.le_refl _)
theorem told_self {c : Nat} (hc : c < 18446744073709551616) (f : fitB c = true) : toldE c c = spanE (posW c) (posW c) 0 := by
  rw [← make_told hc hc (errS_self f)]
  unfold makeE
  rw [if_pos (errS_self f)]
theorem sof_run {c : Nat} (hc : c < 18446744073709551616) (f : fitB c = true) (w : World) : Calls Try.prog 46 #[.float .f64 c] w fun e w' => e = .returned (spanE (posW c) (posW c) 0) ∧ Below w.heap.size w w' := by
  have M := Lib.hid (fun w => (make_run c c hc hc w).mono fun e w' h => (⟨h.1.trans (congrArg Ending.returned (show makeE c c = spanE (posW c) (posW c) 0 by unfold makeE; rw [if_pos (errS_self f)])), h.2⟩ : e = .returned (spanE (posW c) (posW c) 0) ∧ Below w.heap.size w w'))
  unfold spanE at *
  have hst := @fstore
  clear f hc
  generalize posW c = u at *
  have C0 : Cls w [(w.heap.size, 0, 0)] (w.alloc (boxO 0 0)) := (Cls.nil w).new 0 0
  unfold boxO at C0
  replace C0 := Lib.hid C0
  go_enter Try.func46, Try.ntmps46
  go_wp2_with fail
  have C := C0.out
  clear C0
  generalize w.alloc _ = wr at *
  refine (M.out wr).mono ?_
  rintro _ w1 ⟨rfl, hb⟩
  have C1 := C.on hb
  have c0 := (C1.at_ 0 rfl).lo
  have c1 := (C1.at_ 0 rfl).hi
  have f0 := (C1.at_ 0 rfl).f0
  have f1 := (C1.at_ 0 rfl).f1
  have B := Lib.hid C1.old
  clear C C1 hb M
  go_wp2_with fail
  (try simp only [Exit.inBlock, Exit.then])
  refine bodyPost_ret (v := spanE u u 0) ?_ rfl ⟨rfl, ?_⟩
  · rw [results_cell_tmp rfl]; unfold spanE; go_simp
  · exact (B.out.setCell (by show _ ≤ w.heap.size; omega) _).setCell (by show _ ≤ w.heap.size; omega) _
theorem rmk_run {c : Nat} (hc : c < 18446744073709551616) (f : fitB c = true) (w : World) : Calls Try.prog 76 #[.float .f64 c, .float .f64 c] w fun e w' => e = .returned (spanE (posW c) (posW c) 0) ∧ Below w.heap.size w w' := by
  have K := Lib.hid (fun w => rscheck_run c c hc hc w)
  have T := Lib.hid (fun w => told_run c c (fit_fin hc f) (fit_fin hc f) w)
  rw [errS_self f] at K
  rw [told_self hc f] at T
  have hst := @fstore
  clear f hc
  generalize posW c = u at *
  have C0 : Cls w [(w.heap.size, 0, 0), (w.heap.size + 1, c, c)] ((w.alloc (boxO 0 0)).alloc (boxO c c)) := by
    have := ((Cls.nil w).new 0 0).new c c
    simp only [List.nil_append, List.cons_append] at this
    rw [show (w.alloc (boxO 0 0)).heap.size = w.heap.size + 1 by simp] at this
    exact this
  have p0 := (C0.at_ 1 rfl).lo
  have p1 := (C0.at_ 1 rfl).hi
  unfold boxO at *
  unfold spanV spanE at *
  replace C0 := Lib.hid C0
  go_enter Try.func76, Try.ntmps76
  go_wp2_with fail
  clear p0 p1
  have C := C0.out
  clear C0
  generalize (w.alloc _).alloc _ = wr at *
  refine (K.out wr).mono ?_
  rintro _ w1 ⟨rfl, hb⟩
  have C1 := C.on hb
  clear C hb K
  go_wp2_with fail
  refine (T.out w1).mono ?_
  rintro _ w2 ⟨rfl, hb⟩
  have C2 := C1.on hb
  have c0 := (C2.at_ 0 rfl).lo
  have c1 := (C2.at_ 0 rfl).hi
  have f0 := (C2.at_ 0 rfl).f0
  have f1 := (C2.at_ 0 rfl).f1
  have B := Lib.hid C2.old
  clear C1 C2 hb T
  go_wp2_with fail
  (try simp only [Exit.inBlock, Exit.then])
  refine bodyPost_ret (v := spanE u u 0) ?_ rfl ⟨rfl, ?_⟩
  · rw [results_cell_tmp rfl]; unfold spanE; go_simp
  · exact (B.out.setCell (by show _ ≤ w.heap.size; omega) _).setCell (by show _ ≤ w.heap.size; omega) _
theorem rof_run {c : Nat} (hc : c < 18446744073709551616) (f : fitB c = true) (w : World) : Calls Try.prog 55 #[.float .f64 c] w fun e w' => e = .returned (spanE (posW c) (posW c) 0) ∧ Below w.heap.size w w' := by
  have M := Lib.hid (fun w => rmk_run hc f w)
  unfold spanE at *
  have hst := @fstore
  clear f hc
  generalize posW c = u at *
  have C0 : Cls w [(w.heap.size, 0, 0)] (w.alloc (boxO 0 0)) := (Cls.nil w).new 0 0
  unfold boxO at C0
  replace C0 := Lib.hid C0
  go_enter Try.func55, Try.ntmps55
  go_wp2_with fail
  have C := C0.out
  clear C0
  generalize w.alloc _ = wr at *
  refine (M.out wr).mono ?_
  rintro _ w1 ⟨rfl, hb⟩
  have C1 := C.on hb
  have c0 := (C1.at_ 0 rfl).lo
  have c1 := (C1.at_ 0 rfl).hi
  have f0 := (C1.at_ 0 rfl).f0
  have f1 := (C1.at_ 0 rfl).f1
  have B := Lib.hid C1.old
  clear C C1 hb M
  go_wp2_with fail
  (try simp only [Exit.inBlock, Exit.then])
  refine bodyPost_ret (v := spanE u u 0) ?_ rfl ⟨rfl, ?_⟩
  · rw [results_cell_tmp rfl]; unfold spanE; go_simp
  · exact (B.out.setCell (by show _ ≤ w.heap.size; omega) _).setCell (by show _ ≤ w.heap.size; omega) _

theorem ppoint_run {c : Nat} (hc : c < 18446744073709551616) (f : fitB c = true) (w : World) : Calls Try.prog 25 #[.float .f64 c] w fun e w' => e = .returned (pv (ptS c)) ∧ Below w.heap.size w w' := by
  have SM := Lib.hid (fun w => sof_run hc f w)
  have C0 : Cls w [(w.heap.size, 0, 0)] (w.alloc (boxO 0 0)) := (Cls.nil w).new 0 0
  have hst := @fstore
  unfold boxO at C0
  unfold pv ptS spanV spanE at *
  dsimp only at *
  replace C0 := Lib.hid C0
  clear hc f
  generalize posW c = u1 at *
  go_enter Try.func25, Try.ntmps25
  go_wp2_with fail
  have C := C0.out
  clear C0
  generalize w.alloc _ = wr at *
  refine (SM.out wr).mono ?_
  rintro _ w1 ⟨rfl, hb⟩
  have C1 := (C.on hb).new u1 u1
  unfold boxO at C1
  have c0 := (C1.at_ 0 rfl).lo
  have c1 := (C1.at_ 0 rfl).hi
  have f0 := (C1.at_ 0 rfl).f0
  have f1 := (C1.at_ 0 rfl).f1
  have d0 := (C1.at_ 1 rfl).lo
  have d1 := (C1.at_ 1 rfl).hi
  have B := Lib.hid C1.old
  clear C C1 hb SM
  go_wp2_with fail
  (try simp only [Exit.inBlock, Exit.then])
  refine bodyPost_ret (v := spanV u1 u1) ?_ rfl ⟨rfl, ?_⟩
  · rw [results_cell1 rfl]; unfold spanV; go_simp
  · exact (B.out.setCell (by show _ ≤ w.heap.size; omega) _).setCell (by show _ ≤ w.heap.size; omega) _
theorem rpoint_run {c : Nat} (hc : c < 18446744073709551616) (f : fitB c = true) (w : World) : Calls Try.prog 30 #[.float .f64 c] w fun e w' => e = .returned (pv (ptS c)) ∧ Below w.heap.size w w' := by
  have SM := Lib.hid (fun w => rof_run hc f w)
  have C0 : Cls w [(w.heap.size, 0, 0)] (w.alloc (boxO 0 0)) := (Cls.nil w).new 0 0
  have hst := @fstore
  unfold boxO at C0
  unfold pv ptS spanV spanE at *
  dsimp only at *
  replace C0 := Lib.hid C0
  clear hc f
  generalize posW c = u1 at *
  go_enter Try.func30, Try.ntmps30
  go_wp2_with fail
  have C := C0.out
  clear C0
  generalize w.alloc _ = wr at *
  refine (SM.out wr).mono ?_
  rintro _ w1 ⟨rfl, hb⟩
  have C1 := (C.on hb).new u1 u1
  unfold boxO at C1
  have c0 := (C1.at_ 0 rfl).lo
  have c1 := (C1.at_ 0 rfl).hi
  have f0 := (C1.at_ 0 rfl).f0
  have f1 := (C1.at_ 0 rfl).f1
  have d0 := (C1.at_ 1 rfl).lo
  have d1 := (C1.at_ 1 rfl).hi
  have B := Lib.hid C1.old
  clear C C1 hb SM
  go_wp2_with fail
  (try simp only [Exit.inBlock, Exit.then])
  refine bodyPost_ret (v := spanV u1 u1) ?_ rfl ⟨rfl, ?_⟩
  · rw [results_cell1 rfl]; unfold spanV; go_simp
  · exact (B.out.setCell (by show _ ≤ w.heap.size; omega) _).setCell (by show _ ≤ w.heap.size; omega) _
end Go.Proofs.Ytjhcalgamcdgiaa

namespace Go.Proofs.Ytjhcalgamcdgiaa
open Go.ChangeShapes Go.WideShapes Go.ChangeAt Go.RowKit Ieee.Own

/-- a list that came in, below all that the call makes -/
structure Lin (B : Nat) (ao : Option Addr) (L : List Nat) (w : World) : Prop where
  at_ : At w ao L
  lt : ∀ b o, ao = some ⟨b, o, none⟩ → 0 < L.length → b < B
  size : B ≤ w.heap.size
theorem Lin.start {w : World} {ao : Option Addr} {L : List Nat} (h : At w ao L) : Lin w.heap.size ao L w := ⟨h, h.lt, Nat.le_refl _⟩
theorem Lin.on {B : Nat} {ao : Option Addr} {L : List Nat} {w w' : World} (h : Lin B ao L w) (hb : Below w.heap.size w w') : Lin B ao L w' :=
  ⟨h.at_.later hb (fun b o e p => Nat.lt_of_lt_of_le (h.lt b o e p) h.size), h.lt, Nat.le_trans h.size hb.size⟩
theorem Lin.alloc {B : Nat} {ao : Option Addr} {L : List Nat} {w : World} (h : Lin B ao L w) (o : Obj) : Lin B ao L (w.alloc o) := h.on ((Below.refl _ w).alloc (Nat.le_refl _) o)
theorem Lin.drew {B : Nat} {ao : Option Addr} {L : List Nat} {w : World} (h : Lin B ao L w) : Lin B ao L w.drew := ⟨h.at_, h.lt, h.size⟩
theorem Lin.put {B : Nat} {ao : Option Addr} {L : List Nat} {w : World} (h : Lin B ao L w) {g : Nat} (hg : B ≤ g) (s t : Nat) : Lin B ao L (put2 w g s t) := by
  refine ⟨fun j hj => ?_, h.lt, by rw [put2_size]; exact h.size⟩
  obtain ⟨b, o, e, hc⟩ := h.at_ j hj
  refine ⟨b, o, e, ?_⟩
  have := h.lt b o e (by omega)
  rw [put2_cell _ (by show b ≠ g; omega)]; exact hc
theorem Lin.cell {B b o : Nat} {L : List Nat} {w : World} (h : Lin B (some ⟨b, o, none⟩) L w) {k : Nat} (hk : k < L.length) : w.cell? ⟨b, o + k, none⟩ = some (.float .f64 (L.getD k 0)) := by
  obtain ⟨b', o', e, hc⟩ := h.at_ k hk
  simp only [Option.some.injEq, Addr.mk.injEq, and_true] at e
  obtain ⟨rfl, rfl⟩ := e
  exact hc

theorem hs_back {Z : Pr} : ∀ (al : List Nat) (P : Pr), HsR Z al P → ∀ i, i < al.length → ∃ P1 M P2, HsR Z (al.drop (al.length - i)) P1 ∧ MulR Z P1 M ∧ AddR (ptS (al.getD (al.length - 1 - i) 0)) M P2 ∧ HsR Z (al.drop (al.length - 1 - i)) P2
  | [], _, _, i, h => by simp at h
  | a :: al, P, ⟨P', M, h1, h2, h3⟩, i, hi => by
    by_cases e : i = al.length
    · subst e
      have e1 : (a :: al).length - al.length = 1 := by simp
      have e2 : (a :: al).length - 1 - al.length = 0 := by simp
      rw [e1, e2]
      exact ⟨P', M, P, h1, h2, h3, P', M, h1, h2, h3⟩
    · have hi' : i < al.length := by simp at hi; omega
      obtain ⟨P1, M1, P2, k1, k2, k3, k4⟩ := hs_back al P' h1 i hi'
      have e1 : (a :: al).length - i = al.length - i + 1 := by simp; omega
      have e2 : (a :: al).length - 1 - i = al.length - 1 - i + 1 := by simp; omega
      rw [e1, e2, List.drop_succ_cons, List.drop_succ_cons, List.getD_cons_succ]
      exact ⟨P1, M1, P2, k1, k2, k3, k4⟩
theorem add_lt {p q u : Pr} (h : AddR p q u) : u.1 < 18446744073709551616 ∧ u.2 < 18446744073709551616 := ⟨h.all.bd.1, h.all.bd.2.1⟩
theorem sub_lt {p q u : Pr} (h : SubR p q u) : u.1 < 18446744073709551616 ∧ u.2 < 18446744073709551616 := ⟨h.all.bd.1, h.all.bd.2.1⟩
theorem hs_lt {Z : Pr} : ∀ {al : List Nat} {P : Pr}, HsR Z al P → P.1 < 18446744073709551616 ∧ P.2 < 18446744073709551616
  | [], P, h => by
    have h : P = (0, 0) := h
    rw [h]; decide
  | _ :: _, _, ⟨_, _, _, _, h⟩ => add_lt h
theorem pt_lt {c : Nat} (h : Fc c) : (ptS c).1 < 18446744073709551616 ∧ (ptS c).2 < 18446744073709551616 := ⟨(pos_fit h.lt h.fit).2, (pos_fit h.lt h.fit).2⟩
theorem fc_at {L : List Nat} (h : ∀ c ∈ L, Fc c) {j : Nat} (hj : j < L.length) : Fc (L.getD j 0) := h _ (by simp [List.getD, hj])

theorem phspan_no (ao : Option Addr) (cap n : Nat) (L : List Nat) (a b : Nat) (w : World) (hn : n = L.length) (hm : n ≤ 4611686018427387904) (hw : Words L) (ha : At w ao L) (ha0 : a < 18446744073709551616) (hb0 : b < 18446744073709551616) (h0 : errO m10 L a b ≠ 0) :
    Calls Try.prog 10 #[.slice ao n cap, spanV a b] w fun e w' => e = .returned (spanE 0 0 (errO m10 L a b)) ∧ Below w.heap.size w w' := by
  have K : Hid (∀ w, At w ao L → Calls Try.prog 23 #[.slice ao n cap, spanV a b, .float .f64 4652218415073722368] w fun e w' => e = .returned (.int .i64 (errO m10 L a b)) ∧ Below w.heap.size w w') := fun w h => checkOver_run m10 (by decide) ao cap n L a b w hn hm hw h ha0 hb0
  have C0 : Cls w [(w.heap.size, a, b), (w.heap.size + 1, 0, 0)] ((w.alloc (boxO a b)).alloc (boxO 0 0)) := by
    have := ((Cls.nil w).new a b).new 0 0
    simp only [List.nil_append, List.cons_append] at this
    rw [show (w.alloc (boxO a b)).heap.size = w.heap.size + 1 by simp] at this
    exact this
  have A0 := Lib.hid ((ha.alloc (boxO a b)).alloc (boxO 0 0))
  have p0 := (C0.at_ 0 rfl).lo
  have p1 := (C0.at_ 0 rfl).hi
  have t1 : (errO m10 L a b != 0) = true := by simpa using h0
  have hst := @fstore
  unfold boxO at *
  unfold spanV at *
  replace C0 := Lib.hid C0
  clear hn hm hw ha ha0 hb0 h0
  generalize errO m10 L a b = er at *
  go_enter Try.func10, Try.ntmps10
  go_wp2_with fail
  clear p0 p1
  have C := C0.out
  have A := A0.out
  clear C0 A0
  generalize (w.alloc _).alloc _ = wr at *
  refine (K.out wr A).mono ?_
  rintro _ w1 ⟨rfl, hb⟩
  have C1 := C.on hb
  have c0 := (C1.at_ 1 rfl).lo
  have c1 := (C1.at_ 1 rfl).hi
  have f0 := (C1.at_ 1 rfl).f0
  have f1 := (C1.at_ 1 rfl).f1
  have B := Lib.hid C1.old
  clear C C1 A hb K
  go_wp2_with fail
  (try simp only [Exit.inBlock, Exit.then])
  refine bodyPost_ret (v := spanE 0 0 er) ?_ rfl ⟨rfl, ?_⟩
  · rw [results_cell_tmp rfl]; unfold spanE; go_simp
  · exact (B.out.setCell (by show _ ≤ w.heap.size + 1; omega) _).setCell (by show _ ≤ w.heap.size + 1; omega) _
set_option maxHeartbeats 4000000 in
theorem phspan_ok {Z P : Pr} (ao : Option Addr) (cap n : Nat) (cs : List Nat) (w : World) (hn : n = cs.length) (hm : n ≤ 4611686018427387904) (hw : Words cs) (ha : At w ao cs) (hz : Z.1 < 18446744073709551616 ∧ Z.2 < 18446744073709551616) (h0 : errO m10 cs Z.1 Z.2 = 0) (hP : HsR Z cs P) :
    Calls Try.prog 10 #[.slice ao n cap, pv Z] w fun e w' => e = .returned (spanE P.1 P.2 0) ∧ Below w.heap.size w w' := by
  obtain ⟨hl16, hfc⟩ := errC_zero hw (errO_zero h0).1
  replace hfc := Lib.hid hfc
  have K : Hid (∀ w, At w ao cs → Calls Try.prog 23 #[.slice ao n cap, pv Z, .float .f64 4652218415073722368] w fun e w' => e = .returned (.int .i64 0) ∧ Below w.heap.size w w') := fun w h => by
    have := checkOver_run m10 (by decide) ao cap n cs Z.1 Z.2 w hn hm hw h hz.1 hz.2
    rw [h0] at this
    exact this
  have step : Hid (∀ i, i < n → ∃ P1 M P2, HsR Z (cs.drop (n - i)) P1 ∧ MulR Z P1 M ∧ AddR (ptS (cs.getD (n - 1 - i) 0)) M P2 ∧ HsR Z (cs.drop (n - 1 - i)) P2) := by
    intro i hi
    rw [hn] at hi ⊢
    exact hs_back cs P hP i hi
  have at0 : Hid (HsR Z (cs.drop 0) P) := hP
  have at8 : Hid (HsR Z (cs.drop n) (0, 0)) := by
    show HsR Z (cs.drop n) (0, 0)
    rw [hn, List.drop_length]; rfl
  have C0 : Cls w [(w.heap.size, Z.1, Z.2), (w.heap.size + 1, 0, 0)] ((w.alloc (boxO Z.1 Z.2)).alloc (boxO 0 0)) := by
    have := ((Cls.nil w).new Z.1 Z.2).new 0 0
    simp only [List.nil_append, List.cons_append] at this
    rw [show (w.alloc (boxO Z.1 Z.2)).heap.size = w.heap.size + 1 by simp] at this
    exact this
  have A0 := Lib.hid (((Lin.start ha).alloc (boxO Z.1 Z.2)).alloc (boxO 0 0))
  have p0 := (C0.at_ 0 rfl).lo
  have p1 := (C0.at_ 0 rfl).hi
  have hst := @fstore
  obtain ⟨z1, z2⟩ := Z
  dsimp only at *
  have n16 : n ≤ 16 := by omega
  clear hP hw ha h0 hl16 hm
  unfold boxO at *
  have epz : pv (z1, z2) = .agg #[.float .f64 z1, .float .f64 z2] := rfl
  rw [epz]
  rw [epz] at K
  replace C0 := Lib.hid C0
  replace hn := Lib.hid hn
  replace hz := Lib.hid hz
  obtain ⟨B, hB⟩ : ∃ B, B = w.heap.size := ⟨_, rfl⟩
  clear epz
  go_enter Try.func10, Try.ntmps10
  go_wp2_with fail
  clear p0 p1
  have C := C0.out
  have A := A0.out
  clear C0 A0
  generalize (w.alloc _).alloc _ = wr at *
  refine (K.out wr A.at_).mono ?_
  rintro _ w1 ⟨rfl, hb1⟩
  have C1 := (C.on hb1).new 0 0
  have A1 := (A.on hb1).alloc (boxO 0 0)
  unfold boxO at C1 A1
  simp only [List.cons_append, List.nil_append] at C1
  replace C1 := Lib.hid C1
  replace A1 := Lib.hid A1
  clear C A hb1 K
  go_wp2_with fail
  clear hst
  rw [← hB] at C1 A1 ⊢
  have hBg : Hid (B ≤ w1.heap.size) := by have := (C1.out.blk 2 _ _ _ rfl).1; show B ≤ w1.heap.size; omega
  replace hB := Lib.hid hB
  generalize (w1.alloc _) = wq at *
  generalize w1.heap.size = g at *
  go_loopw [19] (fun s19 wr => ∃ (i : Nat) (P1 : Pr), i ≤ n ∧ s19 = .int .i64 i ∧ HsR (z1, z2) (cs.drop (n - i)) P1 ∧ Cls w [(B, z1, z2), (B + 1, 0, 0), (g, P1.1, P1.2)] wr ∧ Lin B ao cs wr) (fun s19 _ => n - (intOf s19).toNat)
  case atStart => exact ⟨0, (0, 0), by omega, rfl, at8.out, C1.out, A1.out⟩
  case round =>
    obtain ⟨i, P1, hi, rfl, hS, hC, hR⟩ := hrel
    by_cases hlt : i < n
    · obtain ⟨P1', M, P2, k1, k2, k3, k4⟩ := step.out i hlt
      obtain rfl := hS.uniq k1
      obtain ⟨b, q0, rfl, -⟩ := hR.at_ (n - 1 - i) (by have := hn.out; omega)
      have hk : n - 1 - i < cs.length := by have := hn.out; omega
      have ha := fc_at hfc.out hk
      have hp := hs_lt k1
      have hm := mul_lt k2
      have k4 := Lib.hid k4
      replace hC := Lib.hid hC
      replace hR := Lib.hid hR
      replace k2 := Lib.hid k2
      replace k3 := Lib.hid k3
      replace hp := Lib.hid hp
      replace hm := Lib.hid hm
      replace ha := Lib.hid ha
      replace hk := Lib.hid hk
      clear hS k1 step at0 hfc
      go_upto_region 8 with fail
      generalize hds : ([some 22, some 23, some 24, some 25, some 26, some 27, some 28, some 29, some 30, some 31, some 32, some 33, some 34, none] : List (Option Tmp)) = ds
      have hap : apartL ds = true := by rw [← hds]; decide
      have hds := hds.symm
      refine wp_region_sts [(B, z1, z2), (B + 1, 0, 0), (g, P2.1, P2.2)] [⟨13, 2, g, P2.1, P2.2⟩] [.slice (some ⟨b, q0, none⟩) n cap, .slice (some ⟨b, q0, none⟩) n cap, .int .i64 (n : Int), .int .i64 ((n : Int) - 1), .int .i64 (i : Int), .int .i64 ((n : Int) - 1 - (i : Int)), .pointer (some ⟨b, q0 + (n - 1 - i), none⟩), .float .f64 (cs.getD (n - 1 - i) 0), pv (ptS (cs.getD (n - 1 - i) 0)), pv (z1, z2), pv P1, pv M, pv P2, undef]
        ds (by kernel_rfl) (by rw [hds]; rfl) hap (by decide +kernel) (by decide +kernel) rfl hC.out ?hE2 ?hE3 ?hj ?hi ?his (fun W => Lin B (some ⟨b, q0, none⟩) cs W) hR.out.drew (fun _ _ A h => A.on h) ?hJs ?step ?store ?fin
      case hE2 =>
        intro j h
        have n0 : 2 ≠ j := h _ (List.mem_cons_self ..)
        rcases j with _ | _ | _ | j
        · rfl
        · rfl
        · exact absurd rfl n0
        · rfl
      case hE3 => intro st h; simp only [List.mem_cons, List.not_mem_nil, or_false] at h; rcases h with rfl <;> rfl
      case hj => intro st h; simp only [List.mem_cons, List.not_mem_nil, or_false] at h; rcases h with rfl <;> exact ⟨_, _, rfl⟩
      case hi => intro st h st' h' _; simp only [List.mem_cons, List.not_mem_nil, or_false] at h; rcases h with rfl; simp only [List.mem_cons, List.not_mem_nil, or_false] at h'; rcases h' with rfl; rfl
      case his => intro st h; simp only [List.mem_cons, List.not_mem_nil, or_false] at h; rcases h with rfl
                  · show 13 < 14; decide
      case hJs => intro st h W A; obtain rfl := List.mem_singleton.1 h; exact A.put hBg.out _ _
      case step =>
        intro L W i o ho hs hd hB hJ
        have hi : i < 14 := (Array.getElem?_eq_some_iff.1 ho).1
        have : i = 0 ∨ i = 1 ∨ i = 2 ∨ i = 3 ∨ i = 4 ∨ i = 5 ∨ i = 6 ∨ i = 7 ∨ i = 8 ∨ i = 9 ∨ i = 10 ∨ i = 11 ∨ i = 12 ∨ i = 13 := by omega
        rcases this with rfl | rfl | rfl | rfl | rfl | rfl | rfl | rfl | rfl | rfl | rfl | rfl | rfl | rfl
        · -- 0
          obtain rfl := Option.some.inj ho
          refine .value W ?_ (Below.refl _ _)
          generalize hA : (puts ds L _).eval = ρ
          have h0 : ρ (.tmp 0) = .slice (some ⟨b, q0, none⟩) n cap := by rw [← hA]; exact (puts_old ds L _ (by rw [hds]; decide)).trans rfl
          exact ex_move W rfl h0
        · -- 1
          obtain rfl := Option.some.inj ho
          refine .value W ?_ (Below.refl _ _)
          generalize hA : (puts ds L _).eval = ρ
          have h0 : ρ (.tmp 0) = .slice (some ⟨b, q0, none⟩) n cap := by rw [← hA]; exact (puts_old ds L _ (by rw [hds]; decide)).trans rfl
          exact ex_move W rfl h0
        · -- 2
          obtain rfl := Option.some.inj ho
          refine .value W ?_ (Below.refl _ _)
          generalize hA : (puts ds L _).eval = ρ
          have hc : ∀ v, ρ (.const v) = v := fun v => by rw [← hA]; rfl
          have h0 : ρ (.tmp 23) = .slice (some ⟨b, q0, none⟩) n cap := by rw [← hA]; exact puts_get 1 ds L _ hap (by rw [hds]; rfl) (hd 1 (by decide +kernel)) (show 23 < 37 by decide)
          unfold execOp
          go_simp
        · -- 3
          obtain rfl := Option.some.inj ho
          refine .value W ?_ (Below.refl _ _)
          generalize hA : (puts ds L _).eval = ρ
          have hc : ∀ v, ρ (.const v) = v := fun v => by rw [← hA]; rfl
          have h0 : ρ (.tmp 24) = .int .i64 (n : Int) := by rw [← hA]; exact puts_get 2 ds L _ hap (by rw [hds]; rfl) (hd 2 (by decide +kernel)) (show 24 < 37 by decide)
          have e : IntKind.i64.wrap ((n : Int) - 1) = (n : Int) - 1 := by rw [IntKind.wrap_i64]; omega
          unfold execOp
          go_simp
        · -- 4
          obtain rfl := Option.some.inj ho
          refine .value W ?_ (Below.refl _ _)
          generalize hA : (puts ds L _).eval = ρ
          have h0 : ρ (.tmp 8) = .int .i64 (i : Int) := by rw [← hA]; exact (puts_old ds L _ (by rw [hds]; decide)).trans rfl
          exact ex_move W rfl h0
        · -- 5
          obtain rfl := Option.some.inj ho
          refine .value W ?_ (Below.refl _ _)
          generalize hA : (puts ds L _).eval = ρ
          have hc : ∀ v, ρ (.const v) = v := fun v => by rw [← hA]; rfl
          have h0 : ρ (.tmp 25) = .int .i64 ((n : Int) - 1) := by rw [← hA]; exact puts_get 3 ds L _ hap (by rw [hds]; rfl) (hd 3 (by decide +kernel)) (show 25 < 37 by decide)
          have h1 : ρ (.tmp 26) = .int .i64 (i : Int) := by rw [← hA]; exact puts_get 4 ds L _ hap (by rw [hds]; rfl) (hd 4 (by decide +kernel)) (show 26 < 37 by decide)
          have e : IntKind.i64.wrap ((n : Int) - 1 - (i : Int)) = (n : Int) - 1 - (i : Int) := by rw [IntKind.wrap_i64]; omega
          unfold execOp
          go_simp
        · -- 6
          obtain rfl := Option.some.inj ho
          refine .value W ?_ (Below.refl _ _)
          generalize hA : (puts ds L _).eval = ρ
          have hc : ∀ v, ρ (.const v) = v := fun v => by rw [← hA]; rfl
          have h0 : ρ (.tmp 22) = .slice (some ⟨b, q0, none⟩) n cap := by rw [← hA]; exact puts_get 0 ds L _ hap (by rw [hds]; rfl) (hd 0 (by decide +kernel)) (show 22 < 37 by decide)
          have h1 : ρ (.tmp 27) = .int .i64 ((n : Int) - 1 - (i : Int)) := by rw [← hA]; exact puts_get 5 ds L _ hap (by rw [hds]; rfl) (hd 5 (by decide +kernel)) (show 27 < 37 by decide)
          have e1 : (i : Int) ≤ (n : Int) - 1 := by omega
          have e2 : (n : Int) - 1 - (i : Int) < (n : Int) := by omega
          have e3 : ((n : Int) - 1 - (i : Int)).toNat = n - 1 - i := by omega
          unfold execOp
          go_simp
        · -- 7
          obtain rfl := Option.some.inj ho
          refine .value W ?_ (Below.refl _ _)
          generalize hA : (puts ds L _).eval = ρ
          have hc : ∀ v, ρ (.const v) = v := fun v => by rw [← hA]; rfl
          have h0 : ρ (.tmp 28) = .pointer (some ⟨b, q0 + (n - 1 - i), none⟩) := by rw [← hA]; exact puts_get 6 ds L _ hap (by rw [hds]; rfl) (hd 6 (by decide +kernel)) (show 28 < 37 by decide)
          have c := hJ.cell hk.out
          unfold execOp
          go_simp
        · -- 8
          obtain rfl := Option.some.inj ho
          refine .call 25 #[.float .f64 (cs.getD (n - 1 - i) 0)] ?_ (ppoint_run ha.out.lt ha.out.fit W)
          generalize hA : (puts ds L _).eval = ρ
          have hc : ∀ v, ρ (.const v) = v := fun v => by rw [← hA]; rfl
          have hg : ∀ g, ρ (.func g) = .func (.func g) #[] #[] := fun v => by rw [← hA]; rfl
          have h0 : ρ (.tmp 29) = .float .f64 (cs.getD (n - 1 - i) 0) := by rw [← hA]; exact puts_get 7 ds L _ hap (by rw [hds]; rfl) (hd 7 (by decide +kernel)) (show 29 < 37 by decide)
          have hf := Try.func25
          unfold execOp
          go_simp
        · -- 9
          obtain rfl := Option.some.inj ho
          have b := hB 0 _ _ _ rfl (by
            intro st hst e
            simp only [List.mem_cons, List.not_mem_nil, or_false] at hst
            rcases hst with rfl
            · exact absurd e (show ¬ 2 = 0 by decide))
          refine .value W ?_ (Below.refl _ _)
          generalize hA : (puts ds L _).eval = ρ
          have h0 : ρ (.tmp 3) = .pointer (some ⟨B, 0, none⟩) := by rw [← hA]; exact (puts_old ds L _ (by rw [hds]; decide)).trans rfl
          exact ex_loads rfl h0 b.lo b.hi
        · -- 10
          obtain rfl := Option.some.inj ho
          have b := hB 2 _ _ _ rfl (by
            intro st hst e
            simp only [List.mem_cons, List.not_mem_nil, or_false] at hst
            rcases hst with rfl
            · change needs _ _ 13 10 = true; decide +kernel)
          refine .value W ?_ (Below.refl _ _)
          generalize hA : (puts ds L _).eval = ρ
          have h0 : ρ (.tmp 7) = .pointer (some ⟨g, 0, none⟩) := by rw [← hA]; exact (puts_old ds L _ (by rw [hds]; decide)).trans rfl
          exact ex_loads rfl h0 b.lo b.hi
        · -- 11
          obtain rfl := Option.some.inj ho
          refine .call 26 #[pv (z1, z2), pv P1] ?_ (pmul_run hz.out hp.out k2.out W)
          generalize hA : (puts ds L _).eval = ρ
          have hc : ∀ v, ρ (.const v) = v := fun v => by rw [← hA]; rfl
          have hg : ∀ g, ρ (.func g) = .func (.func g) #[] #[] := fun v => by rw [← hA]; rfl
          have h0 : ρ (.tmp 31) = pv (z1, z2) := by rw [← hA]; exact puts_get 9 ds L _ hap (by rw [hds]; rfl) (hd 9 (by decide +kernel)) (show 31 < 37 by decide)
          have h1 : ρ (.tmp 32) = pv P1 := by rw [← hA]; exact puts_get 10 ds L _ hap (by rw [hds]; rfl) (hd 10 (by decide +kernel)) (show 32 < 37 by decide)
          have hf := Try.func26
          unfold execOp
          go_simp
        · -- 12
          obtain rfl := Option.some.inj ho
          refine .call 24 #[pv (ptS (cs.getD (n - 1 - i) 0)), pv M] ?_ (padd_run (pt_lt ha.out) hm.out k3.out W)
          generalize hA : (puts ds L _).eval = ρ
          have hc : ∀ v, ρ (.const v) = v := fun v => by rw [← hA]; rfl
          have hg : ∀ g, ρ (.func g) = .func (.func g) #[] #[] := fun v => by rw [← hA]; rfl
          have h0 : ρ (.tmp 30) = pv (ptS (cs.getD (n - 1 - i) 0)) := by rw [← hA]; exact puts_get 8 ds L _ hap (by rw [hds]; rfl) (hd 8 (by decide +kernel)) (show 30 < 37 by decide)
          have h1 : ρ (.tmp 33) = pv M := by rw [← hA]; exact puts_get 11 ds L _ hap (by rw [hds]; rfl) (hd 11 (by decide +kernel)) (show 33 < 37 by decide)
          have hf := Try.func24
          unfold execOp
          go_simp
        · -- 13
          exact absurd rfl (hs _ (List.mem_cons_self ..))
      case store =>
        intro st hst L W o x y ho hd b
        generalize hA : (puts ds L _).eval = ρ
        simp only [List.mem_cons, List.not_mem_nil, or_false] at hst
        rcases hst with rfl
        · dsimp only at ho b ⊢
          obtain rfl := Option.some.inj ho
          have h0 : ρ (.tmp 7) = .pointer (some ⟨g, 0, none⟩) := by rw [← hA]; exact (puts_old ds L _ (by rw [hds]; decide)).trans rfl
          have h1 : ρ (.tmp 34) = pv P2 := by rw [← hA]; exact puts_get 12 ds L _ hap (by rw [hds]; rfl) (hd 12 (by decide +kernel)) (show 34 < 37 by decide)
          exact ⟨ex_store rfl h0 h1 b.lo b.hi b.f0 b.f1, rfl⟩
      case fin =>
        intro w' hC' hR'
        rw [hds]
        clear hds hap k2 k3 hp hm ha hk hR hC
        simp only [List.map_cons, List.map_nil, puts, Act.put, List.setIfInBounds_toArray, List.set_cons_zero, List.set_cons_succ]
        go_wp2_with fail
        have e8 : n - (i + 1) = n - 1 - i := by omega
        refine ⟨⟨i + 1, P2, by omega, by simp, ?_, hC', hR'⟩, by simp only [intOf]; omega⟩
        rw [e8]; exact k4.out
    · obtain rfl : i = n := by omega
      rw [Nat.sub_self] at hS
      obtain rfl := hS.uniq at0.out
      have c0 := (hC.at_ 2 rfl).lo
      have c1 := (hC.at_ 2 rfl).hi
      have d0 := (hC.at_ 1 rfl).lo
      have d1 := (hC.at_ 1 rfl).hi
      have f0 := (hC.at_ 1 rfl).f0
      have f1 := (hC.at_ 1 rfl).f1
      have BB := Lib.hid hC.old
      have hst := @fstore
      obtain ⟨x1, x2⟩ := P1
      dsimp only at c0 c1
      clear hC hR hS at0 at8 step C1 A1 hn
      go_wp2_with fail
      (try simp only [Exit.inBlock, Exit.then])
      refine bodyPost_ret (v := spanE x1 x2 0) ?_ rfl ⟨rfl, ?_⟩
      · rw [results_cell_tmp rfl]; unfold spanE; go_simp
      · have e := hB.out; exact (BB.out.setCell (by show _ ≤ B + 1; omega) _).setCell (by show _ ≤ B + 1; omega) _
end Go.Proofs.Ytjhcalgamcdgiaa

namespace Go.Proofs.Ytjhcalgamcdgiaa
open Go.ChangeShapes Go.WideShapes Go.ChangeAt Go.RowKit Ieee.Own

section
variable {ops : Array Oper} {Q : Exit → Act → World → Prop}
/-- one block is made, and stored into; beside it something stands that such stores leave alone -/
theorem wp_region_varJ {id : Nat} {a0 : Act} {w w0 : World} {C : List (Nat × Nat × Nat)} (ia is s t : Nat) (dv : List Value) (ds : List (Option Tmp))
    (hm : Try.prog.follows .mixedOrders = true) (hds : ops.toList.map (·.dst) = ds) (hap : apartL ds = true) (hb : backward ops = true) (hg : plainL ops = true) (hl : dv.length = ops.size) (hC : Cls w0 C w)
    (hw : waitsAt ops is ia = true) (hia : ia < ops.size) (his : is < ops.size)
    (J : World → Prop) (hJ0 : J w.drew) (hJb : ∀ w w', J w → Below w.heap.size w w' → J w') (hJs : ∀ w h s t, w0.heap.size ≤ h → J w → J (put2 w h s t))
    (alloc : ∀ o, ops[ia]? = some o → o.op = .alloc 25)
    (step : ∀ (L : List (Option Value)) (w : World) (i : Nat) (o : Oper), ops[i]? = some o → i ≠ ia → i ≠ is → (∀ k, waits o k = true → k ≠ ia → L[k]? = some (some (dv.getD k undef))) →
      (∀ (j g x y : Nat), C[j]? = some (g, x, y) → Blk w g x y) → J w → Came o (puts ds L a0) w (dv.getD i undef))
    (store : ∀ (L : List (Option Value)) (w : World) (o : Oper) (h x y : Nat), ops[is]? = some o → (∀ k, waits o k = true → k ≠ ia → L[k]? = some (some (dv.getD k undef))) → L[ia]? = some (some (.pointer (some ⟨h, 0, none⟩))) → Blk w h x y →
      (execOp (puts ds L a0).eval o).run Try.prog w = .ok .skip (put2 w h s t) ∧ dv.getD is undef = undef)
    (fin : ∀ h w', Cls w0 (C ++ [(h, s, t)]) w' → J w' → Q .normal (puts ds ((dv.map some).set ia (some (.pointer (some ⟨h, 0, none⟩)))) a0) w') : (Code.region id ops true).wp Try.prog Q a0 w := by
  refine wp_region_inv hm ds hds hap hb hg (fun L w => (∀ i v, i ≠ ia → L[i]? = some (some v) → v = dv.getD i undef) ∧ Closed ops L ∧ J w ∧
    ((¬ doneL L ia ∧ Cls w0 C w) ∨ ∃ h x y, L[ia]? = some (some (.pointer (some ⟨h, 0, none⟩))) ∧ Cls w0 (C ++ [(h, x, y)]) w ∧ (doneL L is → x = s ∧ y = t))) ?_ ?_ ?_
  · refine ⟨fun i v _ h => absurd h (nones_get _ _ _), Closed.none _ _, hJ0, .inl ⟨fun ⟨v, hv⟩ => absurd hv (nones_get _ _ _), hC.draws⟩⟩
  · intro L w i o hL ho hn hd ⟨hdet, hcl, hJ, hK⟩
    have hd' : ∀ k, waits o k = true → k ≠ ia → L[k]? = some (some (dv.getD k undef)) := fun k hk hka => by
      unfold waits at hk
      rw [List.any_eq_true] at hk
      obtain ⟨e, he, h2⟩ := hk
      simp only [Bool.and_eq_true, beq_iff_eq] at h2
      obtain ⟨v, hv⟩ := hd e (Array.mem_toList_iff.1 he) h2.2
      rw [h2.1] at hv
      rw [hv, hdet k v hka hv]
    have hil : i < L.length := (List.getElem?_eq_some_iff.1 hn).1
    have key : ∀ v, (i ≠ ia → v = dv.getD i undef) → ∀ k u, k ≠ ia → (L.set i (some v))[k]? = some (some u) → u = dv.getD k undef := fun v hv k u hka hk => by
      by_cases hik : i = k
      · subst hik
        rw [List.getElem?_set_self hil] at hk
        rw [← Option.some.inj (Option.some.inj hk)]; exact hv hka
      · rw [List.getElem?_set_ne hik] at hk; exact hdet k u hka hk
    have nd : ¬ doneL L i := fun ⟨v, hv⟩ => by rw [hn] at hv; simp at hv
    by_cases ea : i = ia
    · subst ea
      have hoa := alloc o ho
      rcases hK with ⟨-, hK⟩ | ⟨h, x, y, e, -⟩
      · have r := ex_alloc (ρ := (puts ds L a0).eval) w hoa
        unfold Oper.wp; rw [r]
        refine ⟨_, rfl, key _ (fun e => absurd rfl e), hcl.set ho hn hd, hJb _ _ hJ ((Below.refl _ _).alloc (Nat.le_refl _) _), .inr ⟨w.heap.size, 0, 0, ?_, hK.new 0 0, fun d => ?_⟩⟩
        · rw [List.getElem?_set_self hil]
        · rcases (done_set hn _).1 d with q | q
          · exact absurd (hcl.needs ops.size is i (by
              have : ops.size ≠ 0 := by omega
              obtain ⟨n, hn'⟩ : ∃ n, ops.size = n + 1 := ⟨ops.size - 1, by omega⟩
              rw [hn']
              unfold needs
              rw [List.any_eq_true]
              exact ⟨i, List.mem_range.2 hia, by simp [hw]⟩)) (fun z => by
                have hs : waitsAt ops is i = true := hw
                rw [q] at hs
                unfold waitsAt at hs
                rw [ho] at hs
                simp only [Option.map_some, Option.getD_some] at hs
                unfold waits at hs
                rw [List.any_eq_true] at hs
                obtain ⟨e, he, h2⟩ := hs
                simp only [Bool.and_eq_true, beq_iff_eq] at h2
                have := hd e (Array.mem_toList_iff.1 he) h2.2
                rw [h2.1] at this
                exact nd this)
          · exact absurd (hcl is i q hw) nd
      · rw [e] at hn; simp at hn
    · by_cases es : i = is
      · subst es
        have da : doneL L ia := by
          have hs := hw
          unfold waitsAt at hs
          rw [ho] at hs
          simp only [Option.map_some, Option.getD_some] at hs
          unfold waits at hs
          rw [List.any_eq_true] at hs
          obtain ⟨e, he, h2⟩ := hs
          simp only [Bool.and_eq_true, beq_iff_eq] at h2
          have := hd e (Array.mem_toList_iff.1 he) h2.2
          rw [h2.1] at this
          exact this
        rcases hK with ⟨q, -⟩ | ⟨h, x, y, e, hK, -⟩
        · exact absurd da q
        · have hlast : (C ++ [(h, x, y)])[C.length]? = some (h, x, y) := by simp
          have B := hK.at_ C.length hlast
          obtain ⟨r, u⟩ := store L w o h x y ho hd' e B
          unfold Oper.wp; rw [r]
          refine ⟨undef, rfl, key _ (fun _ => u.symm), hcl.set ho hn hd, hJs w h s t (hK.blk C.length _ _ _ hlast).1 hJ, .inr ⟨h, s, t, by rw [List.getElem?_set_ne ea]; exact e, ?_, fun _ => ⟨rfl, rfl⟩⟩⟩
          have := hK.put C.length hlast s t
          simpa using this
      · have hB : ∀ (j g x y : Nat), C[j]? = some (g, x, y) → Blk w g x y := fun j g x y h => by
          rcases hK with ⟨-, hK⟩ | ⟨h', x', y', -, hK, -⟩
          · exact hK.at_ j h
          · exact hK.at_ j (by rw [List.getElem?_append_left (List.getElem?_eq_some_iff.1 h).1]; exact h)
        have hK' : ∀ v w', Below w.heap.size w w' → (¬ doneL (L.set i (some v)) ia ∧ Cls w0 C w') ∨ ∃ h x y, (L.set i (some v))[ia]? = some (some (.pointer (some ⟨h, 0, none⟩))) ∧ Cls w0 (C ++ [(h, x, y)]) w' ∧ (doneL (L.set i (some v)) is → x = s ∧ y = t) := fun v w' k => by
          rcases hK with ⟨q, hK⟩ | ⟨h, x, y, e, hK, d⟩
          · refine .inl ⟨fun z => ?_, hK.on k⟩
            rcases (done_set hn _).1 z with z | z
            · exact ea z.symm
            · exact q z
          · refine .inr ⟨h, x, y, by rw [List.getElem?_set_ne ea]; exact e, hK.on k, fun z => ?_⟩
            rcases (done_set hn _).1 z with z | z
            · exact absurd z.symm es
            · exact d z
        rcases step L w i o ho ea es hd' hB hJ with ⟨w', r, k⟩ | ⟨f, args, r, k⟩
        · unfold Oper.wp; rw [r]
          exact ⟨_, rfl, key _ (fun _ => rfl), hcl.set ho hn hd, hJb _ _ hJ k, hK' _ _ k⟩
        · unfold Oper.wp; rw [r]
          refine Calls.mono k fun e w' hh => ?_
          obtain ⟨rfl, hS⟩ := hh
          exact ⟨_, rfl, key _ (fun _ => rfl), hcl.set ho hn hd, hJb _ _ hJ hS, hK' _ _ hS⟩
  · intro L w hL hall ⟨hdet, hcl, hJ, hK⟩
    rcases hK with ⟨q, -⟩ | ⟨h, x, y, e, hK, d⟩
    · exact absurd (hall ia hia) q
    · obtain ⟨rfl, rfl⟩ := d (hall is his)
      have eL : L = (dv.map some).set ia (some (.pointer (some ⟨h, 0, none⟩))) := by
        refine List.ext_getElem? fun i => ?_
        by_cases hi : i < ops.size
        · by_cases q : ia = i
          · subst q
            rw [e, List.getElem?_set_self (by simp; omega)]
          · obtain ⟨v, hv⟩ := hall i hi
            rw [List.getElem?_set_ne q, hv, hdet i v (Ne.symm q) hv]
            simp [List.getD, hl, hi]
        · rw [List.getElem?_eq_none (by omega), List.getElem?_eq_none (by simp; omega)]
      rw [eL]
      exact fin h w hK hJ
end
theorem Cls.pre {w0 w : World} {C D : List (Nat × Nat × Nat)} (h : Cls w0 (C ++ D) w) : Cls w0 C w := by
  have k : ∀ (j : Nat) (e : Nat × Nat × Nat), C[j]? = some e → (C ++ D)[j]? = some e := fun j e h => by
    rw [List.getElem?_append_left (List.getElem?_eq_some_iff.1 h).1]; exact h
  exact ⟨h.old, fun j g x y hj => h.blk j g x y (k _ _ hj), fun i j g x y u v hi hj => h.inj i j g x y u v (k _ _ hi) (k _ _ hj)⟩
end Go.Proofs.Ytjhcalgamcdgiaa

namespace Go.Proofs.Ytjhcalgamcdgiaa
open Go.ChangeShapes Go.WideShapes Go.ChangeAt Go.RowKit Ieee.Own

theorem cs_back {W : Pr} : ∀ (al : List Nat) (B D : Pr), CsR W al B D → ∀ i, i < al.length → ∃ B1 D1 M N B2, CsR W (al.drop (al.length - i)) B1 D1 ∧ MulR W B1 M ∧ SubR M D1 N ∧ AddR N (ptS (al.getD (al.length - 1 - i) 0)) B2 ∧ CsR W (al.drop (al.length - 1 - i)) B2 B1
  | [], _, _, _, i, h => by simp at h
  | a :: al, B, D, ⟨D', M, N, h1, h2, h3, h4⟩, i, hi => by
    by_cases e : i = al.length
    · subst e
      have e1 : (a :: al).length - al.length = 1 := by simp
      have e2 : (a :: al).length - 1 - al.length = 0 := by simp
      rw [e1, e2]
      exact ⟨D, D', M, N, B, h1, h2, h3, h4, D', M, N, h1, h2, h3, h4⟩
    · have hi' : i < al.length := by simp at hi; omega
      obtain ⟨B1, D1, M1, N1, B2, k1, k2, k3, k4, k5⟩ := cs_back al D D' h1 i hi'
      have e1 : (a :: al).length - i = al.length - i + 1 := by simp; omega
      have e2 : (a :: al).length - 1 - i = al.length - 1 - i + 1 := by simp; omega
      rw [e1, e2, List.drop_succ_cons, List.drop_succ_cons, List.getD_cons_succ]
      exact ⟨B1, D1, M1, N1, B2, k1, k2, k3, k4, k5⟩
theorem cs_lt {W : Pr} : ∀ {al : List Nat} {B D : Pr}, CsR W al B D → (B.1 < 18446744073709551616 ∧ B.2 < 18446744073709551616) ∧ (D.1 < 18446744073709551616 ∧ D.2 < 18446744073709551616)
  | [], B, D, ⟨h, k⟩ => by
    rw [h, k]; decide
  | _ :: _, _, _, ⟨_, _, _, h1, _, _, h4⟩ => ⟨add_lt h4, (cs_lt h1).1⟩
/-- what ChebSpan wants of a list that isn't empty -/
structure ChS (Z : Pr) (cs : List Nat) (n : Nat) (W B D M N P : Pr) : Prop where
  w : AddR Z Z W
  step : ∀ i, i < n - 1 → ∃ B1 D1 M N B2, CsR W (cs.tail.drop (n - 1 - i)) B1 D1 ∧ MulR W B1 M ∧ SubR M D1 N ∧ AddR N (ptS (cs.getD (n - 1 - i) 0)) B2 ∧ CsR W (cs.tail.drop (n - 1 - (i + 1))) B2 B1
  a0 : CsR W (cs.tail.drop 0) B D
  a8 : CsR W (cs.tail.drop (n - 1)) (0, 0) (0, 0)
  m : MulR Z B M
  n : SubR M D N
  p : AddR N (ptS (cs.getD 0 0)) P
theorem ch_parts {Z : Pr} {cs : List Nat} {P : Pr} {n : Nat} (hn : n = cs.length) (hp : 0 < n) (h : ChR Z cs P) : ∃ W B D M N, ChS Z cs n W B D M N P := by
  cases cs with
  | nil => simp at hn; omega
  | cons c cs =>
    obtain ⟨W, B, D, M, N, h0, h1, h2, h3, h4⟩ := h
    have e : n - 1 = cs.length := by simp at hn; omega
    refine ⟨W, B, D, M, N, h0, fun i hi => ?_, h1, ?_, h2, h3, h4⟩
    · rw [e] at hi ⊢
      obtain ⟨B1, D1, M1, N1, B2, k1, k2, k3, k4, k5⟩ := cs_back cs B D h1 i hi
      refine ⟨B1, D1, M1, N1, B2, k1, k2, k3, ?_, ?_⟩
      · have e2 : cs.length - i = cs.length - 1 - i + 1 := by omega
        rw [e2, List.getD_cons_succ]; exact k4
      · have e2 : cs.length - (i + 1) = cs.length - 1 - i := by omega
        rw [e2]; exact k5
    · rw [e]
      show CsR W (cs.drop cs.length) _ _
      rw [List.drop_length]; exact ⟨rfl, rfl⟩

theorem pcspan_no (ao : Option Addr) (cap n : Nat) (L : List Nat) (a b : Nat) (w : World) (hn : n = L.length) (hm : n ≤ 4611686018427387904) (hw : Words L) (ha : At w ao L) (ha0 : a < 18446744073709551616) (hb0 : b < 18446744073709551616) (h0 : errO m00 L a b ≠ 0) :
    Calls Try.prog 13 #[.slice ao n cap, spanV a b] w fun e w' => e = .returned (spanE 0 0 (errO m00 L a b)) ∧ Below w.heap.size w w' := by
  have K : Hid (∀ w, At w ao L → Calls Try.prog 23 #[.slice ao n cap, spanV a b, .float .f64 4607182418800017408] w fun e w' => e = .returned (.int .i64 (errO m00 L a b)) ∧ Below w.heap.size w w') := fun w h => checkOver_run m00 (by decide) ao cap n L a b w hn hm hw h ha0 hb0
  have C0 : Cls w [(w.heap.size, a, b), (w.heap.size + 1, 0, 0)] ((w.alloc (boxO a b)).alloc (boxO 0 0)) := by
    have := ((Cls.nil w).new a b).new 0 0
    simp only [List.nil_append, List.cons_append] at this
    rw [show (w.alloc (boxO a b)).heap.size = w.heap.size + 1 by simp] at this
    exact this
  have A0 := Lib.hid ((ha.alloc (boxO a b)).alloc (boxO 0 0))
  have p0 := (C0.at_ 0 rfl).lo
  have p1 := (C0.at_ 0 rfl).hi
  have t1 : (errO m00 L a b != 0) = true := by simpa using h0
  have hst := @fstore
  unfold boxO at *
  unfold spanV at *
  replace C0 := Lib.hid C0
  clear hn hm hw ha ha0 hb0 h0
  generalize errO m00 L a b = er at *
  go_enter Try.func13, Try.ntmps13
  go_wp2_with fail
  clear p0 p1
  have C := C0.out
  have A := A0.out
  clear C0 A0
  generalize (w.alloc _).alloc _ = wr at *
  refine (K.out wr A).mono ?_
  rintro _ w1 ⟨rfl, hb⟩
  have C1 := C.on hb
  have c0 := (C1.at_ 1 rfl).lo
  have c1 := (C1.at_ 1 rfl).hi
  have f0 := (C1.at_ 1 rfl).f0
  have f1 := (C1.at_ 1 rfl).f1
  have B := Lib.hid C1.old
  clear C C1 A hb K
  go_wp2_with fail
  (try simp only [Exit.inBlock, Exit.then])
  refine bodyPost_ret (v := spanE 0 0 er) ?_ rfl ⟨rfl, ?_⟩
  · rw [results_cell_tmp rfl]; unfold spanE; go_simp
  · exact (B.out.setCell (by show _ ≤ w.heap.size + 1; omega) _).setCell (by show _ ≤ w.heap.size + 1; omega) _
theorem pcspan_nil (ao : Option Addr) (cap n : Nat) (L : List Nat) (a b : Nat) (w : World) (hn : n = L.length) (hm : n ≤ 4611686018427387904) (hw : Words L) (ha : At w ao L) (ha0 : a < 18446744073709551616) (hb0 : b < 18446744073709551616) (h0 : errO m00 L a b = 0) (hz : n = 0) :
    Calls Try.prog 13 #[.slice ao n cap, spanV a b] w fun e w' => e = .returned (spanE 0 0 0) ∧ Below w.heap.size w w' := by
  have K : Hid (∀ w, At w ao L → Calls Try.prog 23 #[.slice ao n cap, spanV a b, .float .f64 4607182418800017408] w fun e w' => e = .returned (.int .i64 (errO m00 L a b)) ∧ Below w.heap.size w w') := fun w h => checkOver_run m00 (by decide) ao cap n L a b w hn hm hw h ha0 hb0
  have C0 : Cls w [(w.heap.size, a, b), (w.heap.size + 1, 0, 0)] ((w.alloc (boxO a b)).alloc (boxO 0 0)) := by
    have := ((Cls.nil w).new a b).new 0 0
    simp only [List.nil_append, List.cons_append] at this
    rw [show (w.alloc (boxO a b)).heap.size = w.heap.size + 1 by simp] at this
    exact this
  have A0 := Lib.hid ((ha.alloc (boxO a b)).alloc (boxO 0 0))
  have p0 := (C0.at_ 0 rfl).lo
  have p1 := (C0.at_ 0 rfl).hi
  rw [h0] at K
  subst hz
  have hst := @fstore
  unfold boxO at *
  unfold spanV at *
  replace C0 := Lib.hid C0
  clear hn hm hw ha ha0 hb0 h0
  go_enter Try.func13, Try.ntmps13
  go_wp2_with fail
  clear p0 p1
  have C := C0.out
  have A := A0.out
  clear C0 A0
  generalize (w.alloc _).alloc _ = wr at *
  refine (K.out wr A).mono ?_
  rintro _ w1 ⟨rfl, hb⟩
  have C1 := C.on hb
  have c0 := (C1.at_ 1 rfl).lo
  have c1 := (C1.at_ 1 rfl).hi
  have f0 := (C1.at_ 1 rfl).f0
  have f1 := (C1.at_ 1 rfl).f1
  have B := Lib.hid C1.old
  clear C C1 A hb K
  go_wp2_with fail
  (try simp only [Exit.inBlock, Exit.then])
  refine bodyPost_ret (v := spanE 0 0 0) ?_ rfl ⟨rfl, ?_⟩
  · rw [results_cell_tmp rfl]; unfold spanE; go_simp
  · exact (B.out.setCell (by show _ ≤ w.heap.size + 1; omega) _).setCell (by show _ ≤ w.heap.size + 1; omega) _
set_option maxHeartbeats 4000000 in
theorem pcspan_ok {Z P : Pr} (ao : Option Addr) (cap n : Nat) (cs : List Nat) (w : World) (hn : n = cs.length) (hp : 0 < n) (hm : n ≤ 4611686018427387904) (hw : Words cs) (ha : At w ao cs) (hz : Z.1 < 18446744073709551616 ∧ Z.2 < 18446744073709551616) (h0 : errO m00 cs Z.1 Z.2 = 0) (hP : ChR Z cs P) :
    Calls Try.prog 13 #[.slice ao n cap, pv Z] w fun e w' => e = .returned (spanE P.1 P.2 0) ∧ Below w.heap.size w w' := by
  obtain ⟨hl16, hfc⟩ := errC_zero hw (errO_zero h0).1
  replace hfc := Lib.hid hfc
  obtain ⟨Wp, Be, De, Me, Ne, CH⟩ := ch_parts hn hp hP
  have K : Hid (∀ w, At w ao cs → Calls Try.prog 23 #[.slice ao n cap, pv Z, .float .f64 4607182418800017408] w fun e w' => e = .returned (.int .i64 0) ∧ Below w.heap.size w w') := fun w h => by
    have := checkOver_run m00 (by decide) ao cap n cs Z.1 Z.2 w hn hm hw h hz.1 hz.2
    rw [h0] at this
    exact this
  have C0 : Cls w [(w.heap.size, Z.1, Z.2), (w.heap.size + 1, 0, 0)] ((w.alloc (boxO Z.1 Z.2)).alloc (boxO 0 0)) := by
    have := ((Cls.nil w).new Z.1 Z.2).new 0 0
    simp only [List.nil_append, List.cons_append] at this
    rw [show (w.alloc (boxO Z.1 Z.2)).heap.size = w.heap.size + 1 by simp] at this
    exact this
  have A0 := Lib.hid (((Lin.start ha).alloc (boxO Z.1 Z.2)).alloc (boxO 0 0))
  have AW := Lib.hid (fun w => padd_run hz hz CH.w w)
  have hwl := Lib.hid (add_lt CH.w)
  have tn : ((n : Int) == 0) = false := by simp; omega
  have tw : IntKind.i64.wrap ((n : Int) - 1) = (n : Int) - 1 := by rw [IntKind.wrap_i64]; omega
  have p0 := (C0.at_ 0 rfl).lo
  have p1 := (C0.at_ 0 rfl).hi
  have hst := @fstore
  replace CH := Lib.hid CH
  obtain ⟨z1, z2⟩ := Z
  obtain ⟨w1, w2⟩ := Wp
  dsimp only at *
  have n16 : n ≤ 16 := by omega
  clear hP hw ha h0 hl16 hm
  unfold boxO at *
  have epz : pv (z1, z2) = .agg #[.float .f64 z1, .float .f64 z2] := rfl
  have epw : pv (w1, w2) = .agg #[.float .f64 w1, .float .f64 w2] := rfl
  rw [epz]
  rw [epz] at K
  rw [epz, epw] at AW
  replace C0 := Lib.hid C0
  replace hn := Lib.hid hn
  replace hz := Lib.hid hz
  obtain ⟨B, hB⟩ : ∃ B, B = w.heap.size := ⟨_, rfl⟩
  clear epz epw
  go_enter Try.func13, Try.ntmps13
  go_wp2_with fail
  clear p0 p1
  have C := C0.out
  have A := A0.out
  clear C0 A0
  generalize (w.alloc _).alloc _ = wr at *
  refine (K.out wr A.at_).mono ?_
  rintro _ wa ⟨rfl, hb1⟩
  have C1 := C.on hb1
  have A1 := A.on hb1
  have p0 := (C1.at_ 0 rfl).lo
  have p1 := (C1.at_ 0 rfl).hi
  replace C1 := Lib.hid C1
  replace A1 := Lib.hid A1
  clear C A hb1 K
  go_wp2_with fail
  clear p0 p1
  refine (AW.out wa).mono ?_
  rintro _ wb ⟨rfl, hb2⟩
  have C2 := ((C1.out.on hb2).new w1 w2)
  have A2 := ((A1.out.on hb2).alloc (boxO w1 w2))
  have C3 := (C2.new 0 0).new 0 0
  have A3 := (A2.alloc (boxO 0 0)).alloc (boxO 0 0)
  simp only [List.cons_append, List.nil_append] at C3
  rw [show ((wb.alloc (boxO w1 w2)).alloc (boxO 0 0)).heap.size = wb.heap.size + 1 + 1 by simp, show (wb.alloc (boxO w1 w2)).heap.size = wb.heap.size + 1 by simp] at C3
  unfold boxO at C3 A3
  replace C3 := Lib.hid C3
  replace A3 := Lib.hid A3
  clear C1 A1 C2 A2 hb2 AW
  go_wp2_with fail
  clear hst
  rw [← hB] at C3 A3 ⊢
  have hBg : Hid (B ≤ wb.heap.size) := by have := (C3.out.blk 2 _ _ _ rfl).1; show B ≤ wb.heap.size; omega
  replace hB := Lib.hid hB
  generalize (((wb.alloc _).alloc _).alloc _) = wq at *
  obtain ⟨gw, hgw⟩ : ∃ g, g = wb.heap.size := ⟨_, rfl⟩
  rw [← hgw] at C3 hBg ⊢
  clear hgw
  obtain ⟨gb, hgb⟩ : ∃ g, g = gw + 1 := ⟨_, rfl⟩
  rw [← hgb] at C3 ⊢
  obtain ⟨gd, hgd⟩ : ∃ g, g = gb + 1 := ⟨_, rfl⟩
  rw [← hgd] at C3 ⊢
  have hBb : Hid (B ≤ gb) := by have := hBg.out; show B ≤ gb; omega
  have hBd : Hid (B ≤ gd) := by have := hBg.out; show B ≤ gd; omega
  clear hgb hgd
  go_loopw [31] (fun s31 wr => ∃ (i : Nat) (B1 D1 : Pr), i ≤ n - 1 ∧ s31 = .int .i64 i ∧ CsR (w1, w2) (cs.tail.drop (n - 1 - i)) B1 D1 ∧ Cls w [(B, z1, z2), (B + 1, 0, 0), (gw, w1, w2), (gb, B1.1, B1.2), (gd, D1.1, D1.2)] wr ∧ Lin B ao cs wr) (fun s31 _ => n - 1 - (intOf s31).toNat)
  case atStart => exact ⟨0, (0, 0), (0, 0), by omega, rfl, CH.out.a8, C3.out, A3.out⟩
  case round =>
    obtain ⟨i, B1, D1, hi, rfl, hS, hC, hR⟩ := hrel
    by_cases hlt : i < n - 1
    · obtain ⟨B1', D1', M, N, B2, k1, k2, k3, k4, k5⟩ := CH.out.step i hlt
      obtain ⟨rfl, rfl⟩ := hS.uniq k1
      obtain ⟨b, q0, rfl, -⟩ := hR.at_ (n - 1 - i) (by have := hn.out; omega)
      have hk : n - 1 - i < cs.length := by have := hn.out; omega
      have ha := fc_at hfc.out hk
      have hbd := cs_lt k1
      have hb1 := Lib.hid hbd.1
      have hd1 := Lib.hid hbd.2
      have hm := mul_lt k2
      have hnl := sub_lt k3
      have k5 := Lib.hid k5
      have hlt' : (i : Int) < (n : Int) - 1 := by omega
      replace hC := Lib.hid hC
      replace hR := Lib.hid hR
      replace k2 := Lib.hid k2
      replace k3 := Lib.hid k3
      replace k4 := Lib.hid k4
      replace hm := Lib.hid hm
      replace hnl := Lib.hid hnl
      replace ha := Lib.hid ha
      replace hk := Lib.hid hk
      clear hS k1 CH hfc hbd
      go_upto_region 9 with fail
      generalize hds : ([some 34, some 35, some 36, some 37, some 38, some 39, some 40, some 41, some 42, some 43, some 44, some 45, some 46, some 47, some 48, some 49, none, none] : List (Option Tmp)) = ds
      have hap : apartL ds = true := by rw [← hds]; decide
      have hds := hds.symm
      refine wp_region_sts [(B, z1, z2), (B + 1, 0, 0), (gw, w1, w2), (gb, B2.1, B2.2), (gd, B1.1, B1.2)] [⟨16, 3, gb, B2.1, B2.2⟩, ⟨17, 4, gd, B1.1, B1.2⟩] [pv (w1, w2), pv B1, pv M, pv D1, pv N, .slice (some ⟨b, q0, none⟩) n cap, .slice (some ⟨b, q0, none⟩) n cap, .int .i64 (n : Int), .int .i64 ((n : Int) - 1), .int .i64 (i : Int), .int .i64 ((n : Int) - 1 - (i : Int)), .pointer (some ⟨b, q0 + (n - 1 - i), none⟩), .float .f64 (cs.getD (n - 1 - i) 0), pv (ptS (cs.getD (n - 1 - i) 0)), pv B2, pv B1, undef, undef]
        ds (by kernel_rfl) (by rw [hds]; rfl) hap (by decide +kernel) (by decide +kernel) rfl hC.out ?hE2 ?hE3 ?hj ?hi ?his (fun W => Lin B (some ⟨b, q0, none⟩) cs W) hR.out.drew (fun _ _ A h => A.on h) ?hJs ?step ?store ?fin
      case hE2 =>
        intro j h
        have n0 : 3 ≠ j := h _ (List.mem_cons_self ..)
        have n1 : 4 ≠ j := h _ (List.mem_cons_of_mem _ (List.mem_cons_self ..))
        rcases j with _ | _ | _ | _ | _ | j
        · rfl
        · rfl
        · rfl
        · exact absurd rfl n0
        · exact absurd rfl n1
        · rfl
      case hE3 => intro st h; simp only [List.mem_cons, List.not_mem_nil, or_false] at h; rcases h with rfl | rfl <;> rfl
      case hj => intro st h; simp only [List.mem_cons, List.not_mem_nil, or_false] at h; rcases h with rfl | rfl <;> exact ⟨_, _, rfl⟩
      case hi =>
        intro st h st' h' e
        simp only [List.mem_cons, List.not_mem_nil, or_false] at h; rcases h with rfl | rfl <;> (simp only [List.mem_cons, List.not_mem_nil, or_false] at h'; rcases h' with rfl | rfl) <;> first | rfl | (exfalso; revert e; simp)
      case his => intro st h; simp only [List.mem_cons, List.not_mem_nil, or_false] at h; rcases h with rfl | rfl
                  · show 16 < 18; decide
                  · show 17 < 18; decide
      case hJs =>
        intro st h W A
        simp only [List.mem_cons, List.not_mem_nil, or_false] at h
        rcases h with rfl | rfl
        · exact A.put hBb.out _ _
        · exact A.put hBd.out _ _
      case step =>
        intro L W i o ho hs hd hB hJ
        have hi : i < 18 := (Array.getElem?_eq_some_iff.1 ho).1
        have : i = 0 ∨ i = 1 ∨ i = 2 ∨ i = 3 ∨ i = 4 ∨ i = 5 ∨ i = 6 ∨ i = 7 ∨ i = 8 ∨ i = 9 ∨ i = 10 ∨ i = 11 ∨ i = 12 ∨ i = 13 ∨ i = 14 ∨ i = 15 ∨ i = 16 ∨ i = 17 := by omega
        rcases this with rfl | rfl | rfl | rfl | rfl | rfl | rfl | rfl | rfl | rfl | rfl | rfl | rfl | rfl | rfl | rfl | rfl | rfl
        · -- 0
          obtain rfl := Option.some.inj ho
          have b := hB 2 _ _ _ rfl (by
            intro st hst e
            simp only [List.mem_cons, List.not_mem_nil, or_false] at hst
            rcases hst with rfl | rfl
            · exact absurd e (show ¬ 3 = 2 by decide)
            · exact absurd e (show ¬ 4 = 2 by decide))
          refine .value W ?_ (Below.refl _ _)
          generalize hA : (puts ds L _).eval = ρ
          have h0 : ρ (.tmp 7) = .pointer (some ⟨gw, 0, none⟩) := by rw [← hA]; exact (puts_old ds L _ (by rw [hds]; decide)).trans rfl
          exact ex_loads rfl h0 b.lo b.hi
        · -- 1
          obtain rfl := Option.some.inj ho
          have b := hB 3 _ _ _ rfl (by
            intro st hst e
            simp only [List.mem_cons, List.not_mem_nil, or_false] at hst
            rcases hst with rfl | rfl
            · change needs _ _ 16 1 = true; decide +kernel
            · exact absurd e (show ¬ 4 = 3 by decide))
          refine .value W ?_ (Below.refl _ _)
          generalize hA : (puts ds L _).eval = ρ
          have h0 : ρ (.tmp 8) = .pointer (some ⟨gb, 0, none⟩) := by rw [← hA]; exact (puts_old ds L _ (by rw [hds]; decide)).trans rfl
          exact ex_loads rfl h0 b.lo b.hi
        · -- 2
          obtain rfl := Option.some.inj ho
          refine .call 26 #[pv (w1, w2), pv B1] ?_ (pmul_run hwl.out hb1.out k2.out W)
          generalize hA : (puts ds L _).eval = ρ
          have hc : ∀ v, ρ (.const v) = v := fun v => by rw [← hA]; rfl
          have hg : ∀ g, ρ (.func g) = .func (.func g) #[] #[] := fun v => by rw [← hA]; rfl
          have h0 : ρ (.tmp 34) = pv (w1, w2) := by rw [← hA]; exact puts_get 0 ds L _ hap (by rw [hds]; rfl) (hd 0 (by decide +kernel)) (show 34 < 61 by decide)
          have h1 : ρ (.tmp 35) = pv B1 := by rw [← hA]; exact puts_get 1 ds L _ hap (by rw [hds]; rfl) (hd 1 (by decide +kernel)) (show 35 < 61 by decide)
          have hf := Try.func26
          unfold execOp
          go_simp
        · -- 3
          obtain rfl := Option.some.inj ho
          have b := hB 4 _ _ _ rfl (by
            intro st hst e
            simp only [List.mem_cons, List.not_mem_nil, or_false] at hst
            rcases hst with rfl | rfl
            · exact absurd e (show ¬ 3 = 4 by decide)
            · change needs _ _ 17 3 = true; decide +kernel)
          refine .value W ?_ (Below.refl _ _)
          generalize hA : (puts ds L _).eval = ρ
          have h0 : ρ (.tmp 9) = .pointer (some ⟨gd, 0, none⟩) := by rw [← hA]; exact (puts_old ds L _ (by rw [hds]; decide)).trans rfl
          exact ex_loads rfl h0 b.lo b.hi
        · -- 4
          obtain rfl := Option.some.inj ho
          refine .call 32 #[pv M, pv D1] ?_ (psub_run hm.out hd1.out k3.out W)
          generalize hA : (puts ds L _).eval = ρ
          have hc : ∀ v, ρ (.const v) = v := fun v => by rw [← hA]; rfl
          have hg : ∀ g, ρ (.func g) = .func (.func g) #[] #[] := fun v => by rw [← hA]; rfl
          have h0 : ρ (.tmp 36) = pv M := by rw [← hA]; exact puts_get 2 ds L _ hap (by rw [hds]; rfl) (hd 2 (by decide +kernel)) (show 36 < 61 by decide)
          have h1 : ρ (.tmp 37) = pv D1 := by rw [← hA]; exact puts_get 3 ds L _ hap (by rw [hds]; rfl) (hd 3 (by decide +kernel)) (show 37 < 61 by decide)
          have hf := Try.func32
          unfold execOp
          go_simp
        · -- 5
          obtain rfl := Option.some.inj ho
          refine .value W ?_ (Below.refl _ _)
          generalize hA : (puts ds L _).eval = ρ
          have h0 : ρ (.tmp 0) = .slice (some ⟨b, q0, none⟩) n cap := by rw [← hA]; exact (puts_old ds L _ (by rw [hds]; decide)).trans rfl
          exact ex_move W rfl h0
        · -- 6
          obtain rfl := Option.some.inj ho
          refine .value W ?_ (Below.refl _ _)
          generalize hA : (puts ds L _).eval = ρ
          have h0 : ρ (.tmp 0) = .slice (some ⟨b, q0, none⟩) n cap := by rw [← hA]; exact (puts_old ds L _ (by rw [hds]; decide)).trans rfl
          exact ex_move W rfl h0
        · -- 7
          obtain rfl := Option.some.inj ho
          refine .value W ?_ (Below.refl _ _)
          generalize hA : (puts ds L _).eval = ρ
          have hc : ∀ v, ρ (.const v) = v := fun v => by rw [← hA]; rfl
          have h0 : ρ (.tmp 40) = .slice (some ⟨b, q0, none⟩) n cap := by rw [← hA]; exact puts_get 6 ds L _ hap (by rw [hds]; rfl) (hd 6 (by decide +kernel)) (show 40 < 61 by decide)
          unfold execOp
          go_simp
        · -- 8
          obtain rfl := Option.some.inj ho
          refine .value W ?_ (Below.refl _ _)
          generalize hA : (puts ds L _).eval = ρ
          have hc : ∀ v, ρ (.const v) = v := fun v => by rw [← hA]; rfl
          have h0 : ρ (.tmp 41) = .int .i64 (n : Int) := by rw [← hA]; exact puts_get 7 ds L _ hap (by rw [hds]; rfl) (hd 7 (by decide +kernel)) (show 41 < 61 by decide)
          have e : IntKind.i64.wrap ((n : Int) - 1) = (n : Int) - 1 := by rw [IntKind.wrap_i64]; omega
          unfold execOp
          go_simp
        · -- 9
          obtain rfl := Option.some.inj ho
          refine .value W ?_ (Below.refl _ _)
          generalize hA : (puts ds L _).eval = ρ
          have h0 : ρ (.tmp 10) = .int .i64 (i : Int) := by rw [← hA]; exact (puts_old ds L _ (by rw [hds]; decide)).trans rfl
          exact ex_move W rfl h0
        · -- 10
          obtain rfl := Option.some.inj ho
          refine .value W ?_ (Below.refl _ _)
          generalize hA : (puts ds L _).eval = ρ
          have hc : ∀ v, ρ (.const v) = v := fun v => by rw [← hA]; rfl
          have h0 : ρ (.tmp 42) = .int .i64 ((n : Int) - 1) := by rw [← hA]; exact puts_get 8 ds L _ hap (by rw [hds]; rfl) (hd 8 (by decide +kernel)) (show 42 < 61 by decide)
          have h1 : ρ (.tmp 43) = .int .i64 (i : Int) := by rw [← hA]; exact puts_get 9 ds L _ hap (by rw [hds]; rfl) (hd 9 (by decide +kernel)) (show 43 < 61 by decide)
          have e : IntKind.i64.wrap ((n : Int) - 1 - (i : Int)) = (n : Int) - 1 - (i : Int) := by rw [IntKind.wrap_i64]; omega
          unfold execOp
          go_simp
        · -- 11
          obtain rfl := Option.some.inj ho
          refine .value W ?_ (Below.refl _ _)
          generalize hA : (puts ds L _).eval = ρ
          have hc : ∀ v, ρ (.const v) = v := fun v => by rw [← hA]; rfl
          have h0 : ρ (.tmp 39) = .slice (some ⟨b, q0, none⟩) n cap := by rw [← hA]; exact puts_get 5 ds L _ hap (by rw [hds]; rfl) (hd 5 (by decide +kernel)) (show 39 < 61 by decide)
          have h1 : ρ (.tmp 44) = .int .i64 ((n : Int) - 1 - (i : Int)) := by rw [← hA]; exact puts_get 10 ds L _ hap (by rw [hds]; rfl) (hd 10 (by decide +kernel)) (show 44 < 61 by decide)
          have e1 : (i : Int) ≤ (n : Int) - 1 := by omega
          have e2 : (n : Int) - 1 - (i : Int) < (n : Int) := by omega
          have e3 : ((n : Int) - 1 - (i : Int)).toNat = n - 1 - i := by omega
          unfold execOp
          go_simp
        · -- 12
          obtain rfl := Option.some.inj ho
          refine .value W ?_ (Below.refl _ _)
          generalize hA : (puts ds L _).eval = ρ
          have hc : ∀ v, ρ (.const v) = v := fun v => by rw [← hA]; rfl
          have h0 : ρ (.tmp 45) = .pointer (some ⟨b, q0 + (n - 1 - i), none⟩) := by rw [← hA]; exact puts_get 11 ds L _ hap (by rw [hds]; rfl) (hd 11 (by decide +kernel)) (show 45 < 61 by decide)
          have c := hJ.cell hk.out
          unfold execOp
          go_simp
        · -- 13
          obtain rfl := Option.some.inj ho
          refine .call 25 #[.float .f64 (cs.getD (n - 1 - i) 0)] ?_ (ppoint_run ha.out.lt ha.out.fit W)
          generalize hA : (puts ds L _).eval = ρ
          have hc : ∀ v, ρ (.const v) = v := fun v => by rw [← hA]; rfl
          have hg : ∀ g, ρ (.func g) = .func (.func g) #[] #[] := fun v => by rw [← hA]; rfl
          have h0 : ρ (.tmp 46) = .float .f64 (cs.getD (n - 1 - i) 0) := by rw [← hA]; exact puts_get 12 ds L _ hap (by rw [hds]; rfl) (hd 12 (by decide +kernel)) (show 46 < 61 by decide)
          have hf := Try.func25
          unfold execOp
          go_simp
        · -- 14
          obtain rfl := Option.some.inj ho
          refine .call 24 #[pv N, pv (ptS (cs.getD (n - 1 - i) 0))] ?_ (padd_run hnl.out (pt_lt ha.out) k4.out W)
          generalize hA : (puts ds L _).eval = ρ
          have hc : ∀ v, ρ (.const v) = v := fun v => by rw [← hA]; rfl
          have hg : ∀ g, ρ (.func g) = .func (.func g) #[] #[] := fun v => by rw [← hA]; rfl
          have h0 : ρ (.tmp 38) = pv N := by rw [← hA]; exact puts_get 4 ds L _ hap (by rw [hds]; rfl) (hd 4 (by decide +kernel)) (show 38 < 61 by decide)
          have h1 : ρ (.tmp 47) = pv (ptS (cs.getD (n - 1 - i) 0)) := by rw [← hA]; exact puts_get 13 ds L _ hap (by rw [hds]; rfl) (hd 13 (by decide +kernel)) (show 47 < 61 by decide)
          have hf := Try.func24
          unfold execOp
          go_simp
        · -- 15
          obtain rfl := Option.some.inj ho
          have b := hB 3 _ _ _ rfl (by
            intro st hst e
            simp only [List.mem_cons, List.not_mem_nil, or_false] at hst
            rcases hst with rfl | rfl
            · change needs _ _ 16 15 = true; decide +kernel
            · exact absurd e (show ¬ 4 = 3 by decide))
          refine .value W ?_ (Below.refl _ _)
          generalize hA : (puts ds L _).eval = ρ
          have h0 : ρ (.tmp 8) = .pointer (some ⟨gb, 0, none⟩) := by rw [← hA]; exact (puts_old ds L _ (by rw [hds]; decide)).trans rfl
          exact ex_loads rfl h0 b.lo b.hi
        · -- 16
          exact absurd rfl (hs _ (List.mem_cons_self ..))
        · -- 17
          exact absurd rfl (hs _ (List.mem_cons_of_mem _ (List.mem_cons_self ..)))
      case store =>
        intro st hst L W o x y ho hd b
        generalize hA : (puts ds L _).eval = ρ
        simp only [List.mem_cons, List.not_mem_nil, or_false] at hst
        rcases hst with rfl | rfl
        · dsimp only at ho b ⊢
          obtain rfl := Option.some.inj ho
          have h0 : ρ (.tmp 8) = .pointer (some ⟨gb, 0, none⟩) := by rw [← hA]; exact (puts_old ds L _ (by rw [hds]; decide)).trans rfl
          have h1 : ρ (.tmp 48) = pv B2 := by rw [← hA]; exact puts_get 14 ds L _ hap (by rw [hds]; rfl) (hd 14 (by decide +kernel)) (show 48 < 61 by decide)
          exact ⟨ex_store rfl h0 h1 b.lo b.hi b.f0 b.f1, rfl⟩
        · dsimp only at ho b ⊢
          obtain rfl := Option.some.inj ho
          have h0 : ρ (.tmp 9) = .pointer (some ⟨gd, 0, none⟩) := by rw [← hA]; exact (puts_old ds L _ (by rw [hds]; decide)).trans rfl
          have h1 : ρ (.tmp 49) = pv B1 := by rw [← hA]; exact puts_get 15 ds L _ hap (by rw [hds]; rfl) (hd 15 (by decide +kernel)) (show 49 < 61 by decide)
          exact ⟨ex_store rfl h0 h1 b.lo b.hi b.f0 b.f1, rfl⟩
      case fin =>
        intro w' hC' hR'
        rw [hds]
        clear hds hap k2 k3 k4 hm hnl ha hk hR hC hb1 hd1
        simp only [List.map_cons, List.map_nil, puts, Act.put, List.setIfInBounds_toArray, List.set_cons_zero, List.set_cons_succ]
        go_wp2_with fail
        refine ⟨⟨i + 1, B2, B1, by omega, by simp, k5.out, hC', hR'⟩, by simp only [intOf]; omega⟩
    · obtain rfl : i = n - 1 := by omega
      rw [Nat.sub_self] at hS
      obtain ⟨rfl, rfl⟩ := hS.uniq CH.out.a0
      obtain ⟨b, q0, rfl, -⟩ := hR.at_ 0 (by have := hn.out; omega)
      have hk : 0 < cs.length := by have := hn.out; omega
      have ha := Lib.hid (fc_at hfc.out hk)
      have hbd := cs_lt hS
      have hb1 := Lib.hid hbd.1
      have hd1 := Lib.hid hbd.2
      have hm := Lib.hid (mul_lt CH.out.m)
      have hnl := Lib.hid (sub_lt CH.out.n)
      have k2 := Lib.hid CH.out.m
      have k3 := Lib.hid CH.out.n
      have k4 := Lib.hid CH.out.p
      have ei : ((n - 1 : Nat) : Int) = (n : Int) - 1 := by omega
      replace hC := Lib.hid hC
      replace hR := Lib.hid hR
      replace hk := Lib.hid hk
      clear hS CH hfc hbd C3 A3
      rw [ei]
      go_upto_region 11 with fail
      generalize hds : ([some 51, some 52, some 53, some 54, some 55, some 56, some 57, some 58, some 59, some 60, none, some 5] : List (Option Tmp)) = ds
      have hap : apartL ds = true := by rw [← hds]; decide
      have hds := hds.symm
      refine wp_region_sts [(B, z1, z2), (B + 1, P.1, P.2), (gw, w1, w2), (gb, B1.1, B1.2), (gd, D1.1, D1.2)] [⟨10, 1, B + 1, P.1, P.2⟩] [pv (z1, z2), pv B1, pv Me, pv D1, pv Ne, .slice (some ⟨b, q0, none⟩) n cap, .pointer (some ⟨b, q0, none⟩), .float .f64 (cs.getD 0 0), pv (ptS (cs.getD 0 0)), pv P, undef, .int .i64 0]
        ds (by kernel_rfl) (by rw [hds]; rfl) hap (by decide +kernel) (by decide +kernel) rfl hC.out ?hE2 ?hE3 ?hj ?hi ?his (fun W => Lin B (some ⟨b, q0, none⟩) cs W) hR.out.drew (fun _ _ A h => A.on h) ?hJs ?step ?store ?fin
      case hE2 =>
        intro j h
        have n0 : 1 ≠ j := h _ (List.mem_cons_self ..)
        rcases j with _ | _ | _ | _ | _ | j
        · rfl
        · exact absurd rfl n0
        · rfl
        · rfl
        · rfl
        · rfl
      case hE3 => intro st h; simp only [List.mem_cons, List.not_mem_nil, or_false] at h; rcases h with rfl <;> rfl
      case hj => intro st h; simp only [List.mem_cons, List.not_mem_nil, or_false] at h; rcases h with rfl <;> exact ⟨_, _, rfl⟩
      case hi => intro st h st' h' _; simp only [List.mem_cons, List.not_mem_nil, or_false] at h; rcases h with rfl; simp only [List.mem_cons, List.not_mem_nil, or_false] at h'; rcases h' with rfl; rfl
      case his => intro st h; simp only [List.mem_cons, List.not_mem_nil, or_false] at h; rcases h with rfl
                  · show 10 < 12; decide
      case hJs => intro st h W A; obtain rfl := List.mem_singleton.1 h; exact A.put (by show B ≤ B + 1; omega) _ _
      case step =>
        intro L W i o ho hs hd hB hJ
        have hi : i < 12 := (Array.getElem?_eq_some_iff.1 ho).1
        have : i = 0 ∨ i = 1 ∨ i = 2 ∨ i = 3 ∨ i = 4 ∨ i = 5 ∨ i = 6 ∨ i = 7 ∨ i = 8 ∨ i = 9 ∨ i = 10 ∨ i = 11 := by omega
        rcases this with rfl | rfl | rfl | rfl | rfl | rfl | rfl | rfl | rfl | rfl | rfl | rfl
        · -- 0
          obtain rfl := Option.some.inj ho
          have b := hB 0 _ _ _ rfl (by
            intro st hst e
            simp only [List.mem_cons, List.not_mem_nil, or_false] at hst
            rcases hst with rfl
            · exact absurd e (show ¬ 1 = 0 by decide))
          refine .value W ?_ (Below.refl _ _)
          generalize hA : (puts ds L _).eval = ρ
          have h0 : ρ (.tmp 3) = .pointer (some ⟨B, 0, none⟩) := by rw [← hA]; exact (puts_old ds L _ (by rw [hds]; decide)).trans rfl
          exact ex_loads rfl h0 b.lo b.hi
        · -- 1
          obtain rfl := Option.some.inj ho
          have b := hB 3 _ _ _ rfl (by
            intro st hst e
            simp only [List.mem_cons, List.not_mem_nil, or_false] at hst
            rcases hst with rfl
            · exact absurd e (show ¬ 1 = 3 by decide))
          refine .value W ?_ (Below.refl _ _)
          generalize hA : (puts ds L _).eval = ρ
          have h0 : ρ (.tmp 8) = .pointer (some ⟨gb, 0, none⟩) := by rw [← hA]; exact (puts_old ds L _ (by rw [hds]; decide)).trans rfl
          exact ex_loads rfl h0 b.lo b.hi
        · -- 2
          obtain rfl := Option.some.inj ho
          refine .call 26 #[pv (z1, z2), pv B1] ?_ (pmul_run hz.out hb1.out k2.out W)
          generalize hA : (puts ds L _).eval = ρ
          have hc : ∀ v, ρ (.const v) = v := fun v => by rw [← hA]; rfl
          have hg : ∀ g, ρ (.func g) = .func (.func g) #[] #[] := fun v => by rw [← hA]; rfl
          have h0 : ρ (.tmp 51) = pv (z1, z2) := by rw [← hA]; exact puts_get 0 ds L _ hap (by rw [hds]; rfl) (hd 0 (by decide +kernel)) (show 51 < 61 by decide)
          have h1 : ρ (.tmp 52) = pv B1 := by rw [← hA]; exact puts_get 1 ds L _ hap (by rw [hds]; rfl) (hd 1 (by decide +kernel)) (show 52 < 61 by decide)
          have hf := Try.func26
          unfold execOp
          go_simp
        · -- 3
          obtain rfl := Option.some.inj ho
          have b := hB 4 _ _ _ rfl (by
            intro st hst e
            simp only [List.mem_cons, List.not_mem_nil, or_false] at hst
            rcases hst with rfl
            · exact absurd e (show ¬ 1 = 4 by decide))
          refine .value W ?_ (Below.refl _ _)
          generalize hA : (puts ds L _).eval = ρ
          have h0 : ρ (.tmp 9) = .pointer (some ⟨gd, 0, none⟩) := by rw [← hA]; exact (puts_old ds L _ (by rw [hds]; decide)).trans rfl
          exact ex_loads rfl h0 b.lo b.hi
        · -- 4
          obtain rfl := Option.some.inj ho
          refine .call 32 #[pv Me, pv D1] ?_ (psub_run hm.out hd1.out k3.out W)
          generalize hA : (puts ds L _).eval = ρ
          have hc : ∀ v, ρ (.const v) = v := fun v => by rw [← hA]; rfl
          have hg : ∀ g, ρ (.func g) = .func (.func g) #[] #[] := fun v => by rw [← hA]; rfl
          have h0 : ρ (.tmp 53) = pv Me := by rw [← hA]; exact puts_get 2 ds L _ hap (by rw [hds]; rfl) (hd 2 (by decide +kernel)) (show 53 < 61 by decide)
          have h1 : ρ (.tmp 54) = pv D1 := by rw [← hA]; exact puts_get 3 ds L _ hap (by rw [hds]; rfl) (hd 3 (by decide +kernel)) (show 54 < 61 by decide)
          have hf := Try.func32
          unfold execOp
          go_simp
        · -- 5
          obtain rfl := Option.some.inj ho
          refine .value W ?_ (Below.refl _ _)
          generalize hA : (puts ds L _).eval = ρ
          have h0 : ρ (.tmp 0) = .slice (some ⟨b, q0, none⟩) n cap := by rw [← hA]; exact (puts_old ds L _ (by rw [hds]; decide)).trans rfl
          exact ex_move W rfl h0
        · -- 6
          obtain rfl := Option.some.inj ho
          refine .value W ?_ (Below.refl _ _)
          generalize hA : (puts ds L _).eval = ρ
          have hc : ∀ v, ρ (.const v) = v := fun v => by rw [← hA]; rfl
          have h0 : ρ (.tmp 56) = .slice (some ⟨b, q0, none⟩) n cap := by rw [← hA]; exact puts_get 5 ds L _ hap (by rw [hds]; rfl) (hd 5 (by decide +kernel)) (show 56 < 61 by decide)
          have e1 : (0 : Int) < (n : Int) := by omega
          unfold execOp
          go_simp
        · -- 7
          obtain rfl := Option.some.inj ho
          refine .value W ?_ (Below.refl _ _)
          generalize hA : (puts ds L _).eval = ρ
          have hc : ∀ v, ρ (.const v) = v := fun v => by rw [← hA]; rfl
          have h0 : ρ (.tmp 57) = .pointer (some ⟨b, q0, none⟩) := by rw [← hA]; exact puts_get 6 ds L _ hap (by rw [hds]; rfl) (hd 6 (by decide +kernel)) (show 57 < 61 by decide)
          have c := hJ.cell hk.out
          rw [Nat.add_zero] at c
          unfold execOp
          go_simp
        · -- 8
          obtain rfl := Option.some.inj ho
          refine .call 25 #[.float .f64 (cs.getD 0 0)] ?_ (ppoint_run ha.out.lt ha.out.fit W)
          generalize hA : (puts ds L _).eval = ρ
          have hc : ∀ v, ρ (.const v) = v := fun v => by rw [← hA]; rfl
          have hg : ∀ g, ρ (.func g) = .func (.func g) #[] #[] := fun v => by rw [← hA]; rfl
          have h0 : ρ (.tmp 58) = .float .f64 (cs.getD 0 0) := by rw [← hA]; exact puts_get 7 ds L _ hap (by rw [hds]; rfl) (hd 7 (by decide +kernel)) (show 58 < 61 by decide)
          have hf := Try.func25
          unfold execOp
          go_simp
        · -- 9
          obtain rfl := Option.some.inj ho
          refine .call 24 #[pv Ne, pv (ptS (cs.getD 0 0))] ?_ (padd_run hnl.out (pt_lt ha.out) k4.out W)
          generalize hA : (puts ds L _).eval = ρ
          have hc : ∀ v, ρ (.const v) = v := fun v => by rw [← hA]; rfl
          have hg : ∀ g, ρ (.func g) = .func (.func g) #[] #[] := fun v => by rw [← hA]; rfl
          have h0 : ρ (.tmp 55) = pv Ne := by rw [← hA]; exact puts_get 4 ds L _ hap (by rw [hds]; rfl) (hd 4 (by decide +kernel)) (show 55 < 61 by decide)
          have h1 : ρ (.tmp 59) = pv (ptS (cs.getD 0 0)) := by rw [← hA]; exact puts_get 8 ds L _ hap (by rw [hds]; rfl) (hd 8 (by decide +kernel)) (show 59 < 61 by decide)
          have hf := Try.func24
          unfold execOp
          go_simp
        · -- 10
          exact absurd rfl (hs _ (List.mem_cons_self ..))
        · -- 11
          obtain rfl := Option.some.inj ho
          refine .value W ?_ (Below.refl _ _)
          generalize hA : (puts ds L _).eval = ρ
          have hc : ∀ v, ρ (.const v) = v := fun v => by rw [← hA]; rfl
          unfold execOp
          go_simp
      case store =>
        intro st hst L W o x y ho hd b
        generalize hA : (puts ds L _).eval = ρ
        simp only [List.mem_cons, List.not_mem_nil, or_false] at hst
        rcases hst with rfl
        · dsimp only at ho b ⊢
          obtain rfl := Option.some.inj ho
          have h0 : ρ (.tmp 4) = .pointer (some ⟨B + 1, 0, none⟩) := by rw [← hA]; exact (puts_old ds L _ (by rw [hds]; decide)).trans rfl
          have h1 : ρ (.tmp 60) = pv P := by rw [← hA]; exact puts_get 9 ds L _ hap (by rw [hds]; rfl) (hd 9 (by decide +kernel)) (show 60 < 61 by decide)
          exact ⟨ex_store rfl h0 h1 b.lo b.hi b.f0 b.f1, rfl⟩
      case fin =>
        intro w' hC' hR'
        rw [hds]
        clear hds hap k2 k3 k4 hm hnl ha hk hR hC hb1 hd1
        simp only [List.map_cons, List.map_nil, puts, Act.put, List.setIfInBounds_toArray, List.set_cons_zero, List.set_cons_succ]
        have d0 := (hC'.at_ 1 rfl).lo
        have d1 := (hC'.at_ 1 rfl).hi
        have BB := Lib.hid hC'.old
        obtain ⟨x1, x2⟩ := P
        dsimp only at d0 d1
        clear hC' hR' hn
        go_wp2_with fail
        (try simp only [Exit.inBlock, Exit.then])
        refine bodyPost_ret (v := spanE x1 x2 0) ?_ rfl ⟨rfl, BB.out⟩
        rw [results_cell_tmp rfl]; unfold spanE; go_simp
end Go.Proofs.Ytjhcalgamcdgiaa
