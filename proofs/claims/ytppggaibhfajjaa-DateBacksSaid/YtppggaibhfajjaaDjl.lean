/- Proved here: lists of jumps that came in or were copied: how they lie, opened, copied, appended to; no program's own text. -/
import Derived.Test.YtppggaibhfajjaaDac
import Derived.Test.YtppggaibhfajjaaDja
import Derived.Laws.AppendOwn
import Derived.Laws.AppendOwnNone
import Derived.Deep.Slices
import Derived.Deep.Fields
import Derived.ChangeSame
import Derived.Lib.SmallJoins
import Derived.Deep.AppendLies
namespace Go.Proofs.Ytppggaibhfajjaa
open Go.ChangeShapes Go.WideShapes Go.ChangeAt Go.RowKit Go.Joins Go.Deep

/-- a slice that holds a list of jumps -/
def JAt (w : World) (ao : Option Addr) (L : List (Int × Int)) : Prop :=
  ∀ j, j < L.length → ∃ b o, ao = some ⟨b, o, none⟩ ∧ w.cell? ⟨b, o + j * 2, none⟩ = some (.int .i64 (jAt L j)) ∧ w.cell? ⟨b, o + j * 2 + 1, none⟩ = some (.int .i64 (jAdd L j))
theorem JAt.lt {w : World} {ao : Option Addr} {L : List (Int × Int)} (h : JAt w ao L) : ∀ b o, ao = some ⟨b, o, none⟩ → 0 < L.length → b < w.heap.size := by
  rintro b o rfl hl
  obtain ⟨b', o', e, hc, _⟩ := h 0 hl
  simp at e
  obtain ⟨rfl, rfl⟩ := e
  exact World.block_lt_of_cell? w _ hc
theorem JAt.on {w w' : World} {ao : Option Addr} {L : List (Int × Int)} (h : JAt w ao L) (hb : Below w.heap.size w w') : JAt w' ao L := by
  intro j hj
  obtain ⟨b, o, e, h1, h2⟩ := h j hj
  have hlt := World.block_lt_of_cell? w _ h1
  exact ⟨b, o, e, (hb.cell (p := ⟨b, o + j * 2, none⟩) hlt).trans h1, (hb.cell (p := ⟨b, o + j * 2 + 1, none⟩) hlt).trans h2⟩
theorem JAt.below {w w' : World} {ao : Option Addr} {L : List (Int × Int)} {B : Nat} (h : JAt w ao L) (hB : ∀ b o, ao = some ⟨b, o, none⟩ → 0 < L.length → b < B) (hb : Below B w w') : JAt w' ao L := by
  intro j hj
  obtain ⟨b, o, e, h1, h2⟩ := h j hj
  have hlt : b < B := hB b o e (by omega)
  exact ⟨b, o, e, (hb.cell (p := ⟨b, o + j * 2, none⟩) hlt).trans h1, (hb.cell (p := ⟨b, o + j * 2 + 1, none⟩) hlt).trans h2⟩
theorem JAt.alloc {w : World} {ao : Option Addr} {L : List (Int × Int)} (h : JAt w ao L) (o : Obj) : JAt (w.alloc o) ao L := h.on ((Below.refl _ _).alloc (Nat.le_refl _) o)
theorem JAt.drew {w : World} {ao : Option Addr} {L : List (Int × Int)} (h : JAt w ao L) (n : Nat) : JAt (w.drewN n) ao L := h
theorem JAt.take {w : World} {ao : Option Addr} {L : List (Int × Int)} (h : JAt w ao L) (k : Nat) : JAt w ao (L.take k) := by
  intro j hj
  have hj' : j < k ∧ j < L.length := by rw [List.length_take] at hj; omega
  obtain ⟨b, o, e, h1, h2⟩ := h j hj'.2
  have q : (L.take k).getD j (0, 0) = L.getD j (0, 0) := by simp [List.getD, hj'.1]
  refine ⟨b, o, e, ?_, ?_⟩
  · unfold jAt; rw [q]; exact h1
  · unfold jAdd; rw [q]; exact h2
/-- the cells of a list of jumps -/
def jC : List (Int × Int) → List Value
  | [] => []
  | j :: L => .int .i64 j.1 :: .int .i64 j.2 :: jC L
theorem jC_len : ∀ L : List (Int × Int), (jC L).length = L.length * 2
  | [] => rfl
  | j :: L => by
    have := jC_len L
    show (jC L).length + 2 = (L.length + 1) * 2
    omega
theorem jC_app : ∀ L M : List (Int × Int), jC (L ++ M) = jC L ++ jC M
  | [], _ => rfl
  | j :: L, M => by
    show Value.int .i64 j.1 :: .int .i64 j.2 :: jC (L ++ M) = Value.int .i64 j.1 :: .int .i64 j.2 :: (jC L ++ jC M)
    rw [jC_app L M]
theorem jC_at : ∀ (L : List (Int × Int)) (j : Nat), j < L.length → (jC L)[j * 2]? = some (.int .i64 (jAt L j)) ∧ (jC L)[j * 2 + 1]? = some (.int .i64 (jAdd L j))
  | a :: L, 0, _ => ⟨rfl, rfl⟩
  | a :: L, j + 1, h => by
    have := jC_at L j (by simpa using h)
    have e1 : (j + 1) * 2 = j * 2 + 1 + 1 := by omega
    have e2 : (j + 1) * 2 + 1 = (j * 2 + 1) + 1 + 1 := by omega
    rw [e1]
    exact this
theorem jC_one (L : List (Int × Int)) : ∀ u ∈ jC L, u.oneCell' = true := by
  induction L with
  | nil => intro u hu; simp [jC] at hu
  | cons j L ih =>
    intro u hu
    simp only [jC, List.mem_cons] at hu
    rcases hu with rfl | rfl | hu
    · rfl
    · rfl
    · exact ih u hu
theorem cellsJ : Try.prog.cellsOf 59 = 2 := by kernel_rfl
theorem infoJ : (Try.prog.info? 59).map (fun i => (i.zero, i.size, i.bytes)) = some (some (.agg #[.int .i64 0, .int .i64 0]), 2, 16) := by kernel_rfl
theorem infoI : (Try.prog.info? 2).map (fun i => (i.zero, i.size, i.bytes)) = some (some (.int .i64 0), 1, 8) := by kernel_rfl
theorem info_of {P : Program} {t : TypeId} {z : Value} {s b : Nat} (h : (P.info? t).map (fun i => (i.zero, i.size, i.bytes)) = some (some z, s, b)) : ∃ i, P.info? t = some i ∧ i.zero = some z ∧ i.size = s ∧ i.bytes = b := by
  cases hi : P.info? t with
  | none => rw [hi] at h; cases h
  | some i =>
    rw [hi] at h
    simp only [Option.map_some, Option.some.injEq, Prod.mk.injEq] at h
    exact ⟨i, rfl, h.1, h.2.1, h.2.2⟩
theorem ad_plain (b o i : Nat) : (⟨b, o, none⟩ : Addr).add i = ⟨b, o + i, none⟩ := by
  unfold Addr.add
  split
  · rename_i h; subst h; rfl
  · rfl
/-- every place of the cells is an even or an odd one -/
theorem jC_place {L : List (Int × Int)} {k : Nat} {u : Value} (h : (jC L)[k]? = some u) : ∃ j, j < L.length ∧ ((k = j * 2 ∧ u = .int .i64 (jAt L j)) ∨ (k = j * 2 + 1 ∧ u = .int .i64 (jAdd L j))) := by
  obtain ⟨hk, _⟩ := List.getElem?_eq_some_iff.1 h
  rw [jC_len] at hk
  have hj : k / 2 < L.length := by omega
  obtain ⟨h1, h2⟩ := jC_at L (k / 2) hj
  refine ⟨k / 2, hj, ?_⟩
  by_cases e : k % 2 = 0
  · have ek : k / 2 * 2 = k := by omega
    rw [ek, h] at h1
    exact .inl ⟨ek.symm, Option.some.inj h1⟩
  · have ek : k / 2 * 2 + 1 = k := by omega
    rw [ek, h] at h2
    exact .inr ⟨ek.symm, Option.some.inj h2⟩
/-- a list appended to what the call owns, at one operation -/
theorem wp_dupJ {w : World} {o : Oper} {a : Act} {K : Act → World → Prop} {Q : Exit → Act → World → Prop} (s x : Operand)
    (ho : o.op = .call { callee := .builtin .append, args := #[s, x], argTypes := #[36, 36] }) (base : Nat) (v : Value) (us : List (Int × Int)) (hs : a.eval s = v)
    (hown : w.ownsRow base 59 2 v us.length (jC us)) (ao : Option Addr) (n cap : Nat) (L : List (Int × Int)) (hx : a.eval x = .slice ao n cap) (hn : n = L.length) (hnone : ao = none → cap = 0) (ha : JAt w ao L)
    (hby : (us.length + L.length) * 16 ≤ 140737488355328) (hbase : base ≤ w.heap.size)
    (h : ∀ v' w', w'.ownsRow base 59 2 v' (us ++ L).length (jC (us ++ L)) → w.grownBy w' v.ownBlock → K (a.put o.dst v') w') :
    o.wp Try.prog a w K Q := by
  obtain ⟨i0, hi0, hz0, hz1, hz2⟩ := info_of infoJ
  subst hn
  cases ao with
  | none =>
    have hL : L = [] := by
      refine List.eq_nil_of_length_eq_zero (Nat.eq_zero_of_not_pos fun hp => ?_)
      obtain ⟨b, o, e, _⟩ := ha 0 hp
      simp at e
    subst hL
    rw [hnone rfl] at hx
    have hrun := run_append_owned_none (P := Try.prog) (w := w) base 36 o.type 59 i0 2 Try.underlying36 hi0 v us.length _ hown
    unfold Oper.wp
    simp [execOp, ho, resolve, invoke, builtin, hs, hx, hrun, Result.andThen]
    exact h v w (by simpa using hown) (World.grownBy.refl _ _)
  | some ad =>
    refine wp_append_own w s x 36 ho base 59 i0 (.agg #[.int .i64 0, .int .i64 0]) 2 16 Try.underlying36 hi0 hz0 hz1 hz2 rfl (by decide) v us.length _ hs hown ad L.length cap (jC L) hx (jC_len L) ?_ (jC_one L) (by unfold maxLen; omega) hby hbase ?_
    · intro k u hk
      obtain ⟨j, hj, hc⟩ := jC_place hk
      obtain ⟨b, o', e, h1, h2⟩ := ha j hj
      simp only [Option.some.injEq] at e
      subst e
      rw [ad_plain]
      rcases hc with ⟨rfl, rfl⟩ | ⟨rfl, rfl⟩
      · exact h1
      · exact h2
    · intro v' w' h1 h2 _
      exact h v' w' (by rw [jC_app, List.length_append]; exact h1) h2
theorem ownsJ_slice {w : World} {base n : Nat} {v : Value} {xs : List Value} (h : w.ownsRow base 59 2 v n xs) : ∃ ao m c, v = .slice ao m c := by
  rcases h.2 with ⟨rfl, _⟩ | ⟨g, cap, cur, rfl, _⟩
  · exact ⟨_, _, _, rfl⟩
  · exact ⟨_, _, _, rfl⟩
/-- what the call owns, as a list that lies there -/
theorem ownsJ_at {w : World} {base : Nat} {v : Value} {us : List (Int × Int)} (h : w.ownsRow base 59 2 v us.length (jC us)) :
    ∃ ao cap, v = .slice ao us.length cap ∧ us.length ≤ cap ∧ cap ≤ maxLen ∧ JAt w ao us ∧ (ao = none → cap = 0) ∧ ∀ b o, ao = some ⟨b, o, none⟩ → o = 0 ∧ base ≤ b ∧ b < w.heap.size := by
  rcases h.2 with ⟨rfl, h0⟩ | ⟨g, cap, cur, rfl, hg, hr, hn, hcm, hsz, ht⟩
  · have hu : us = [] := List.eq_nil_of_length_eq_zero h0
    subst hu
    exact ⟨none, 0, rfl, Nat.le_refl _, by decide, by intro j hj; simp at hj, fun _ => rfl, by intro b o e; simp at e⟩
  · have hc : ∀ j u, (jC us)[j]? = some u → w.cell? ⟨g, j, none⟩ = some u := by
      intro j u hj
      have hjl : j < us.length * 2 := by rw [← jC_len]; exact (List.getElem?_eq_some_iff.1 hj).1
      rw [cell_of_row w g j cur _ _ hr]
      rw [← ht, List.getElem?_take, if_pos hjl, Array.getElem?_toList] at hj
      exact hj
    refine ⟨_, cap, rfl, hn, hcm, fun j hj => ⟨g, 0, rfl, ?_, ?_⟩, by intro e; simp at e, ?_⟩
    · rw [Nat.zero_add]; exact hc _ _ (jC_at us j hj).1
    · rw [Nat.zero_add]; exact hc _ _ (jC_at us j hj).2
    · intro b o e
      simp only [Option.some.injEq, Addr.mk.injEq, and_true] at e
      obtain ⟨rfl, rfl⟩ := e
      exact ⟨rfl, hg, (Array.getElem?_eq_some_iff.1 hr).1⟩
theorem ownsJ_empty (w : World) : (w.alloc (.cells #[] 59)).ownsRow w.heap.size 59 2 (.slice (some ⟨w.heap.size, 0, none⟩) 0 0) ([] : List (Int × Int)).length (jC []) :=
  World.ownsRow_lit w #[] 0 (Nat.le_refl _) (by decide) rfl
section
variable {H : Type} {enc : TypeId × Value → H} {P : Program} {w : World} {base : Nat} {spare : Nat → Bool} {held : Bool}
theorem open_slice_fields {t e : TypeId} {fs : Array Field} {fuel : Nat} {cs : List Value} {x : DataW H × List MemPlace} (ht : P.underlying t = some (.slice e)) (he : P.underlying e = some (.struct fs))
    (hone : oneCellFields P fs = true) (hC : P.cellsOf e = fs.size) (h : DataW.trod enc P w base spare held fuel t cs = some x) :
    (cs = [.slice none 0 0] ∧ x = (.nil, [])) ∨
    ∃ (a : Addr) (len cap m : Nat) (D : Nat → DataW H) (Pl : Nat → List MemPlace), cs = [.slice (some a) len cap] ∧ base ≤ a.block ∧ len ≤ cap ∧ cap ≤ maxLen ∧ m = (if spare a.block then cap else len) ∧
      x = (.slice ((List.range len).map D) ((List.range (m - len)).map fun j => D (len + j)), MemPlace.row a (m * fs.size) ++ (List.range m).flatMap Pl) ∧
      ∀ i, i < m → ∃ (ys : List (DataW H × List MemPlace)) (n : Nat), D i = .agg (ys.map (·.1)) ∧ Pl i = ys.flatMap (·.2) ∧ ys.length = fs.size ∧
        ∀ (j : Nat) (f : Field), fs[j]? = some f → ∃ (v : Value) (y : DataW H × List MemPlace), w.cell? (a.add (i * fs.size + j)) = some v ∧ ys[j]? = some y ∧ DataW.trod enc P w base spare held n f.type [v] = some y := by
  rcases open_slice ht h with h0 | ⟨a, len, cap, m, n, D, Pl, hcs, hb, hl, hm, hmm, hx, hi⟩
  · exact .inl h0
  · refine .inr ⟨a, len, cap, m, D, Pl, hcs, hb, hl, hm, hmm, by rw [hC] at hx; exact hx, fun i him => ?_⟩
    obtain ⟨cs', hc, ht'⟩ := hi i him
    rw [hC] at hc
    obtain ⟨ys, n', hn', hy, hlen, hyl, hf⟩ := DataW.trod_struct he ht'
    obtain ⟨_, hcl, hat⟩ := World.cells?_some hc
    simp only [Prod.mk.injEq] at hy
    refine ⟨ys, n', hy.1, hy.2, hyl, fun j f hj => ?_⟩
    obtain ⟨ho, hk⟩ := hone_of hone j f hj
    have hjl : j < fs.size := (Array.getElem?_eq_some_iff.1 hj).1
    have hcell := hat j hjl
    have hv : cs'[j]? = some (cs'[j]'(by omega)) := List.getElem?_eq_getElem (by omega)
    have h1 := hf j f hj
    rw [ho, hk] at h1
    have hone' : (cs'.drop j).take 1 = [cs'[j]'(by omega)] := by
      rw [List.drop_eq_getElem_cons (by omega)]
      rfl
    rw [hone'] at h1
    have hys : ys[j]? = some (ys[j]'(by omega)) := List.getElem?_eq_getElem (by omega)
    refine ⟨_, _, ?_, hys, h1.trans hys⟩
    rw [← Go.Deep.add_add, hcell, hv]
theorem intJ_cell {n : Nat} {e : TypeId} {v : Value} {x : DataW H × List MemPlace} (he : P.underlying e = some (.int .i64)) (h : DataW.trod enc P w base spare held n e [v] = some x) : ∃ a, v = .int .i64 a := by
  obtain ⟨a, h, _⟩ := DataW.trod_int he h
  simp at h
  exact ⟨a, h⟩
end
/-- a list of jumps that came in, opened -/
theorem open_jumps {H : Type} {enc : TypeId × Value → H} {W : World} {v : Value} {d : DataW H} {ps : List MemPlace}
    (hval : ∃ ao n c, v = .slice ao n c) (h : DataW.Trod enc Try.prog W 0 (fun _ => true) true 36 v d ps) :
    ∃ ao cap L, v = .slice ao (List.length L) cap ∧ L.length ≤ cap ∧ JAt W ao L ∧ ((ao = none ∧ cap = 0) ∨ ((∃ a, ao = some a) ∧ ∃ es sp : List (DataW H), d = .slice es sp ∧ es.length + sp.length = cap)) := by
  obtain ⟨a0, n0, c0, rfl⟩ := hval
  obtain ⟨fuel, hf⟩ := h
  rcases open_slice_fields Try.underlying36 Try.underlying59 (by kernel_rfl) cellsJ hf with ⟨h1, _⟩ | ⟨a, len, cap, m, D, Pl, h1, _, hl, hm, hmm, hx, hcell⟩
  · simp [Value.cells] at h1
    obtain ⟨rfl, rfl, rfl⟩ := h1
    exact ⟨none, 0, [], rfl, Nat.le_refl _, by intro j hj; simp at hj, Or.inl ⟨rfl, rfl⟩⟩
  · simp [Value.cells] at h1
    obtain ⟨rfl, rfl, rfl⟩ := h1
    simp only [if_true] at hmm
    subst hmm
    have two : ∀ i, i < m → ∃ x y : Int, W.cell? (a.add (i * 2)) = some (.int .i64 x) ∧ W.cell? (a.add (i * 2 + 1)) = some (.int .i64 y) := by
      intro i hi
      obtain ⟨ys, n, _, _, _, hf⟩ := hcell i hi
      obtain ⟨u, _, k1, _, t1⟩ := hf 0 _ rfl
      obtain ⟨v, _, k2, _, t2⟩ := hf 1 _ rfl
      obtain ⟨x, rfl⟩ := intJ_cell (e := 2) Try.underlying2 t1
      obtain ⟨y, rfl⟩ := intJ_cell (e := 3) Try.underlying3 t2
      exact ⟨x, y, k1, k2⟩
    obtain ⟨F, hF⟩ := Deep.choose_lt (n := m) (p := fun i (q : Int × Int) => W.cell? (a.add (i * 2)) = some (.int .i64 q.1) ∧ W.cell? (a.add (i * 2 + 1)) = some (.int .i64 q.2)) (fun i hi => by
      obtain ⟨x, y, h1, h2⟩ := two i hi
      exact ⟨(x, y), h1, h2⟩)
    refine ⟨some a, m, (List.range n0).map F, by simp, by simpa using hl, ?_, Or.inr ⟨⟨a, rfl⟩, (List.range n0).map D, (List.range (m - n0)).map fun j => D (n0 + j), by simpa using (congrArg Prod.fst hx), by simp; omega⟩⟩
    intro j hj
    have hj' : j < n0 := by simpa using hj
    obtain ⟨h1, h2⟩ := hF j (by omega)
    obtain ⟨b, o, s⟩ := a
    have hsp : s = none := by simpa [Addr.add] using World.cell?_spot (hF 0 (by omega)).1
    subst hsp
    rw [ad_plain] at h1 h2
    refine ⟨b, o, rfl, ?_, ?_⟩
    · unfold jAt; rw [show ((List.range n0).map F).getD j (0, 0) = F j by simp [List.getD, hj']]; exact h1
    · unfold jAdd; rw [show ((List.range n0).map F).getD j (0, 0) = F j by simp [List.getD, hj']]; exact h2
end Go.Proofs.Ytppggaibhfajjaa
