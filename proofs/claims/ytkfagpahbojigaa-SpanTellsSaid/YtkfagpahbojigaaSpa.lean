/- Proved here: what the reference's sums and differences of spans answer, over the translated code. -/
import Derived.Test.YtkfagpahbojigaaSpr
namespace Go.Proofs.Ytkfagpahbojigaa
open Go.ChangeShapes Go.WideShapes Go.ChangeAt Go.RowKit Ieee.Own

/-! ### blocks that the call made first, and what became of them -/
def boxO (a b : Nat) : Obj := .cells #[.float .f64 a, .float .f64 b] 24 (0, 0)
structure Blocks (w : World) (os : List Obj) (wr : World) : Prop where
  old : Below w.heap.size w wr
  more : w.heap.size + os.length ≤ wr.heap.size
  at_ : ∀ j o, os[j]? = some o → wr.heap[w.heap.size + j]? = some o
theorem Blocks.nil (w : World) : Blocks w [] w := ⟨Below.refl _ w, by simp, by intro j o h; simp at h⟩
theorem Blocks.alloc {w wr : World} {os : List Obj} (S : Blocks w os wr) (h : wr.heap.size = w.heap.size + os.length) (o : Obj) : Blocks w (os ++ [o]) (wr.alloc o) := by
  refine ⟨S.old.alloc (by omega) o, by simp; omega, fun j p hj => ?_⟩
  by_cases hl : j < os.length
  · rw [heap_alloc_old wr o (by omega)]
    rw [List.getElem?_append_left hl] at hj
    exact S.at_ j p hj
  · have hj' : j = os.length := by
      have := (List.getElem?_eq_some_iff.1 hj).1
      simp at this
      omega
    subst hj'
    rw [← h, heap_alloc_new]
    simpa using hj
theorem Blocks.on {w wr w' : World} {os : List Obj} (S : Blocks w os wr) (h : Below wr.heap.size wr w') : Blocks w os w' := by
  refine ⟨S.old.trans (h.mono S.old.size), Nat.le_trans S.more h.size, fun j o hj => ?_⟩
  have hl := (List.getElem?_eq_some_iff.1 hj).1
  have := S.more
  rw [h.block _ (by omega)]
  exact S.at_ j o hj
theorem Blocks.cell {w wr : World} {os : List Obj} (S : Blocks w os wr) (j : Nat) {cs : Array Value} {t : TypeId} {fr : Nat × Nat} (h : os[j]? = some (.cells cs t fr)) (i k : Nat) (hk : k = w.heap.size + j) : wr.cell? ⟨k, i, none⟩ = cs[i]? := by
  subst hk
  exact cell_of_row wr _ i cs t fr (S.at_ j _ h)
theorem Blocks.free {w wr : World} {os : List Obj} (S : Blocks w os wr) (j : Nat) {cs : Array Value} {t : TypeId} (h : os[j]? = some (.cells cs t (0, 0))) (i k : Nat) (hk : k = w.heap.size + j) : wr.frozen? ⟨k, i, none⟩ = false := by
  subst hk
  exact frozen_of_row wr _ i cs t (S.at_ j _ h)

def errSS (a1 a2 b1 b2 : Nat) : Int := if errS a1 a2 ≠ 0 then errS a1 a2 else errS b1 b2
theorem rboth_run (a1 a2 b1 b2 : Nat) (ha : a1 < 18446744073709551616) (ha' : a2 < 18446744073709551616) (hb : b1 < 18446744073709551616) (hb' : b2 < 18446744073709551616) (w : World) :
    Calls Try.prog 47 #[spanV a1 a2, spanV b1 b2] w fun e w' => e = .returned (.int .i64 (errSS a1 a2 b1 b2)) ∧ Below w.heap.size w w' := by
  have C1 := fun w => rscheck_run a1 a2 ha ha' w
  have C2 := fun w => rscheck_run b1 b2 hb hb' w
  have S0 : Blocks w ([boxO a1 a2] ++ [boxO b1 b2]) ((w.alloc (boxO a1 a2)).alloc (boxO b1 b2)) := ((Blocks.nil w).alloc (by simp) _).alloc (by simp) _
  unfold errSS
  unfold spanV at *
  unfold boxO at S0
  replace C1 := Lib.hid C1
  replace C2 := Lib.hid C2
  clear ha ha' hb hb'
  generalize errS a1 a2 = e1 at *
  generalize errS b1 b2 = e2 at *
  by_cases h0 : e1 = 0
  · subst h0
    rw [if_neg (by simp)]
    replace S0 := Lib.hid S0
    go_enter Try.func47, Try.ntmps47
    go_wp2_with fail
    have S := S0.out
    clear S0
    generalize (w.alloc _).alloc _ = wr at *
    refine (C1.out wr).mono ?_
    rintro _ w1 ⟨rfl, hb1⟩
    have S1 := S.on hb1
    have c0 := S1.cell 1 rfl 0 (w.heap.size + 1) rfl
    have c1 := S1.cell 1 rfl 1 (w.heap.size + 1) rfl
    have B1 := Lib.hid S1.old
    clear S S1 hb1
    go_wp2_with fail
    refine (C2.out w1).mono ?_
    rintro _ w2 ⟨rfl, hb2⟩
    have B2 := Lib.hid (B1.out.trans (hb2.mono B1.out.size))
    clear hb2 c0 c1
    go_wp2_with fail
    go_ret
    exact ⟨rfl, B2.out⟩
  · rw [if_pos h0]
    have t : (e1 != 0) = true := by simpa using h0
    clear h0
    replace S0 := Lib.hid S0
    go_enter Try.func47, Try.ntmps47
    go_wp2_with fail
    have S := S0.out
    clear S0
    generalize (w.alloc _).alloc _ = wr at *
    refine (C1.out wr).mono ?_
    rintro _ w1 ⟨rfl, hb1⟩
    have B1 := Lib.hid (S.on hb1).old
    clear S hb1
    go_wp2_with fail
    go_ret
    exact ⟨rfl, B1.out⟩
end Go.Proofs.Ytkfagpahbojigaa
