/- Proved here: what a slice of numbers of the call's own holds behind an append that finds room, cell by cell; what an expansion holds in memory. -/
import Derived.Test.YthgpdgajmpocfaaFlt
import Derived.Test.YthgpdgajmpocfaaNear
import Derived.OwnWalk
namespace Go.Proofs.Ythgpdgajmpocfaa
open Go.ChangeShapes Go.WideShapes Go.ChangeAt Go.RowKit Ieee.Own

theorem infoF : (Try.prog.info? 25).map (fun i => (i.zero, i.size, i.bytes)) = some (some (.float .f64 0), 1, 8) := by kernel_rfl

def flt (b : Nat) : Value := .float .f64 b
/-- block g is a row of cells of numbers -/
def RowAt (w : World) (g : Nat) (cur : Array Value) : Prop := w.heap[g]? = some (.cells cur 25 (0, 0))
theorem RowAt.cell {w : World} {g : Nat} {cur : Array Value} (h : RowAt w g cur) (j : Nat) : w.cell? ⟨g, j, none⟩ = cur[j]? := cell_of_row w g j cur _ _ h
theorem RowAt.lt {w : World} {g : Nat} {cur : Array Value} (h : RowAt w g cur) : g < w.heap.size := (Array.getElem?_eq_some_iff.1 h).1
theorem RowAt.kept {w w' : World} {g : Nat} {cur : Array Value} {row : Option Nat} (h : RowAt w g cur) (hg : w.grownBy w' row) (hne : row ≠ some g) : RowAt w' g cur := by
  unfold RowAt at h ⊢
  rw [hg.block g (Array.getElem?_eq_some_iff.1 h).1 (fun e => hne e.symm)]; exact h
theorem RowAt.alloc {w : World} {g : Nat} {cur : Array Value} (h : RowAt w g cur) (o : Obj) : RowAt (w.alloc o) g cur := h.kept (World.grownBy_alloc w o none) (by simp)
theorem RowAt.owns {w : World} {base g n : Nat} {cur : Array Value} {xs : List Value} (h : RowAt w g cur) (hb : base ≤ g) (hn : n ≤ cur.size) (hm : cur.size ≤ maxLen) (hx : cur.toList.take n = xs) :
    w.ownsRow base 25 1 (.slice (some ⟨g, 0, none⟩) n cur.size) n xs := by
  refine ⟨?_, .inr ⟨g, cur.size, cur, rfl, hb, h, hn, hm, by simp, by simpa using hx⟩⟩
  rw [← hx]; simp; omega
theorem setRow_grown {w : World} {g : Nat} {cs : Array Value} : w.grownBy (w.setRow g cs) (some g) := ⟨rfl, rfl, rfl, by simp, fun k _ hk => setRow_other w g k _ (fun e => hk (by simp [e]))⟩

/-- ONE NUMBER MORE WHERE THERE IS ROOM -/
theorem wpList_push {w : World} {ops : Array Oper} {rest : List Oper} {o : Oper} {a : Act} {Q : Exit → Act → World → Prop}
    (hgd : o.guard = none) (s x : Operand) (t : TypeId) (hop : o.op = Op.call { callee := Callee.builtin Builtin.append, args := #[s, x], argTypes := #[t, t] })
    (ht : Try.prog.underlying t = some (.slice 25)) (g n cap : Nat) (cur : Array Value) (hs : a.eval s = .slice (some ⟨g, 0, none⟩) n cap) (hr : RowAt w g cur) (hcap : n + 1 ≤ cap) (hn : n < cur.size)
    (ad : Addr) (u : Nat) (hx : a.eval x = .slice (some ad) 1 1) (hu : w.cell? ad = some (.float .f64 u))
    (hK : ∀ w', RowAt w' g (cur.setIfInBounds n (.float .f64 u)) → w.grownBy w' (some g) → wpList Try.prog ops Q rest (a.put o.dst (.slice (some ⟨g, 0, none⟩) (n + 1) cap)) w') :
    wpList Try.prog ops Q (o :: rest) a w := by
  refine wpList_plain hgd fun K hK' => ?_
  obtain ⟨i, hi, hz0, hz1, hz2⟩ := info_parts infoF
  have hrun := run_append_room (P := Try.prog) w t o.type _ i ht hi g n cap cur hr ad 1 1 [.float .f64 u] (by simp [hz1]) (by
    intro j v hj
    match j, hj with
    | 0, hj => simp at hj; subst hj; simpa [Addr.add] using hu) (by intro v hv; simp at hv; subst hv; rfl) (by omega) (by simp [hz1]; omega)
  have hsz : (cur.toList.take (n * i.size) ++ [Value.float .f64 u] ++ cur.toList.drop (n * i.size + [Value.float .f64 u].length)).toArray = cur.setIfInBounds n (.float .f64 u) := by
    rw [hz1, Nat.mul_one]
    apply Array.ext'
    rw [Array.toList_setIfInBounds, List.set_eq_take_append_cons_drop, if_pos (by simpa using hn)]
    simp
  rw [hsz] at hrun
  unfold Oper.wp
  simp [execOp, hop, resolve, invoke, builtin, hs, hx, hrun, Result.andThen]
  exact hK' _ _ (hK _ (setRow_heap w g cur _ _ _ hr) setRow_grown)

/-! ### the words of an expansion -/
def Fins (us : List Nat) : Prop := ∀ u ∈ us, FinW u
def vs (us : List Nat) : List Int := us.map V
/-- the numbers of a list stand in a row's cells from place i on -/
def InRow (cur : Array Value) (us : List Nat) (i : Nat) : Prop := ∀ j, i ≤ j → j < us.length → cur[j]? = some (.float .f64 (us.getD j 0))
theorem InRow.later {cur : Array Value} {us : List Nat} {i j : Nat} (h : InRow cur us i) (hij : i ≤ j) : InRow cur us j := fun k hk hl => h k (by omega) hl
theorem InRow.set {cur : Array Value} {us : List Nat} {i m : Nat} {v : Value} (h : InRow cur us i) (hm : m < i) : InRow (cur.setIfInBounds m v) us i := by
  intro j hj hl
  rw [Array.getElem?_setIfInBounds_ne (by omega)]; exact h j hj hl
theorem InRow.push {cur : Array Value} {us : List Nat} {u : Nat} (h : InRow cur us 0) (hl : us.length < cur.size) : InRow (cur.setIfInBounds us.length (.float .f64 u)) (us ++ [u]) 0 := by
  intro j _ hj
  by_cases e : j = us.length
  · subst e
    rw [Array.getElem?_setIfInBounds_self_of_lt hl]; simp
  · rw [Array.getElem?_setIfInBounds_ne (by omega), h j (by omega) (by simp at hj; omega)]
    have : j < us.length := by simp at hj; omega
    simp [List.getD, List.getElem?_append_left this]
theorem InRow.take {cur : Array Value} {us : List Nat} (h : InRow cur us 0) : cur.toList.take us.length = us.map (Value.float .f64) := by
  apply List.ext_getElem?
  intro j
  by_cases hj : j < us.length
  · rw [List.getElem?_take, if_pos hj, Array.getElem?_toList, h j (by omega) hj]
    simp [List.getD, hj]
  · rw [List.getElem?_take, if_neg hj]
    simp [Nat.not_lt.1 hj]
theorem InRow.of_take {cur : Array Value} {us : List Nat} (h : cur.toList.take us.length = us.map (Value.float .f64)) : InRow cur us 0 := by
  intro j _ hj
  have := congrArg (·[j]?) h
  simp only [List.getElem?_take, if_pos hj, Array.getElem?_toList] at this
  rw [this]; simp [List.getD, hj]

/-- what the pointer to an expansion leads to -/
structure Exp (b : Nat) (w : World) (us : List Nat) : Prop where
  fin : Fins us
  size : b < w.heap.size
  own : ∃ v, w.heap[b]? = some (.cells #[v] 48 (0, 0)) ∧ w.ownsRow (b + 1) 25 1 v us.length (us.map (Value.float .f64))
end Go.Proofs.Ythgpdgajmpocfaa
