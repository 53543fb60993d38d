/- Proved here: the laws' fixed fact (awake), and which of two dates is ahead, over the translated code. -/
import Derived.Test.YtppggaibhfajjaaDaf
import Derived.Laws.StructEq
namespace Go.Proofs.Ytppggaibhfajjaa
open Go.ChangeShapes Go.WideShapes Go.ChangeAt Go.RowKit

theorem toV_one : toV (-1) = .tuple #[.agg #[.int .i64 (-1), .int .i64 14, .int .i64 2, .int .i64 15, .int .i64 63, .int .i64 63, .int .i64 1023], .int .i64 0] := by kernel_rfl
theorem awake_run (w : World) : Calls Try.prog 9 #[] w fun e w' => e = .returned (.bool true) ∧ Below w.heap.size w w' := by
  have C := fun w => to_run (-1) w
  rw [toV_one] at C
  go_enter Try.func9, Try.ntmps9
  go_wp2_with fail
  refine (C _).mono ?_
  rintro _ w1 ⟨rfl, hb⟩
  have hs := hb.size
  replace hb := Lib.hid hb
  clear C
  go_wp2_with fail
  go_ret
  exact ⟨rfl, hb.out.alloc hs _⟩

/-- the numbers of a list of seven in a block -/
theorem seven_at {w : World} {g : Nat} {l0 l1 l2 l3 l4 l5 l6 : Int} (h : ∀ j, w.cell? ⟨g, j, none⟩ = (#[Value.int .i64 l0, .int .i64 l1, .int .i64 l2, .int .i64 l3, .int .i64 l4, .int .i64 l5, .int .i64 l6] : Array Value)[j]?) {j : Nat} (hj : j < 7) :
    w.cell? ⟨g, j, none⟩ = some (.int .i64 ([l0, l1, l2, l3, l4, l5, l6].getD j 0)) := by
  rw [h]
  have : j = 0 ∨ j = 1 ∨ j = 2 ∨ j = 3 ∨ j = 4 ∨ j = 5 ∨ j = 6 := by omega
  rcases this with rfl | rfl | rfl | rfl | rfl | rfl | rfl <;> rfl
/-- up to here both are the same -/
def SameTo (l m : List Int) (i : Nat) : Prop := lexB l m = lexB (l.drop i) (m.drop i)
theorem sameTo_zero (l m : List Int) : SameTo l m 0 := rfl
theorem drop_get {l : List Int} {i : Nat} (h : i < l.length) : l.drop i = l.getD i 0 :: l.drop (i + 1) := by
  rw [List.drop_eq_getElem_cons h]; simp [List.getD, h]
theorem sameTo_next {l m : List Int} {i : Nat} (hl : i < l.length) (hm : i < m.length) (h : SameTo l m i) (e : l.getD i 0 = m.getD i 0) : SameTo l m (i + 1) := by
  unfold SameTo at *
  rw [h, drop_get hl, drop_get hm]
  simp only [lexB, if_pos e]
theorem sameTo_less {l m : List Int} {i : Nat} (hl : i < l.length) (hm : i < m.length) (h : SameTo l m i) (e : ¬ l.getD i 0 = m.getD i 0) : lexB l m = decide (l.getD i 0 < m.getD i 0) := by
  unfold SameTo at h
  rw [h, drop_get hl, drop_get hm]
  simp only [lexB, if_neg e]
theorem sameTo_end {l m : List Int} (hl : l.length = 7) (h : SameTo l m 7) : lexB l m = false := by
  unfold SameTo at h
  rw [h, List.drop_of_length_le (by omega)]
  rfl
set_option maxRecDepth 100000 in
theorem ahead_run (a0 a1 a2 a3 a4 a5 a6 b0 b1 b2 b3 b4 b5 b6 : Int) (w : World) :
    Calls Try.prog 27 #[dAgg a0 a1 a2 a3 a4 a5 a6, dAgg b0 b1 b2 b3 b4 b5 b6] w fun e w' => e = .returned (.bool (lexB [a0, a1, a2, a3, a4, a5, a6] [b0, b1, b2, b3, b4, b5, b6])) ∧ Below w.heap.size w w' := by
  obtain ⟨V, hV⟩ : ∃ V, V = lexB [a0, a1, a2, a3, a4, a5, a6] [b0, b1, b2, b3, b4, b5, b6] := ⟨_, rfl⟩
  rw [← hV]
  replace hV := Lib.hid hV
  unfold dAgg
  go_enter Try.func27, Try.ntmps27
  go_wp2_with fail
  generalize hW : (((w.alloc (.cells #[.int .i64 a0, .int .i64 a1, .int .i64 a2, .int .i64 a3, .int .i64 a4, .int .i64 a5, .int .i64 a6] 23)).alloc (.cells #[.int .i64 b0, .int .i64 b1, .int .i64 b2, .int .i64 b3, .int .i64 b4, .int .i64 b5, .int .i64 b6] 23)).alloc (.cells #[.int .i64 a0, .int .i64 a1, .int .i64 a2, .int .i64 a3, .int .i64 a4, .int .i64 a5, .int .i64 a6] 63)).alloc (.cells #[.int .i64 b0, .int .i64 b1, .int .i64 b2, .int .i64 b3, .int .i64 b4, .int .i64 b5, .int .i64 b6] 63) = W
  have cA : ∀ j, W.cell? ⟨w.heap.size + 1 + 1, j, none⟩ = (#[Value.int .i64 a0, .int .i64 a1, .int .i64 a2, .int .i64 a3, .int .i64 a4, .int .i64 a5, .int .i64 a6] : Array Value)[j]? := fun j => by
    rw [← hW, World.cell?_alloc_past _ _ _ (by simp), World.cell?_alloc_at _ _ _ _ (by simp)]
  have cB : ∀ j, W.cell? ⟨w.heap.size + 1 + 1 + 1, j, none⟩ = (#[Value.int .i64 b0, .int .i64 b1, .int .i64 b2, .int .i64 b3, .int .i64 b4, .int .i64 b5, .int .i64 b6] : Array Value)[j]? := fun j => by
    rw [← hW, World.cell?_alloc_at _ _ _ _ (by simp)]
  have hB : Hid (Below w.heap.size w W) := by
    rw [← hW]
    exact ((((Below.refl _ _).alloc (Nat.le_refl _) _).alloc (by simp) _).alloc (by simp; omega) _).alloc (by simp; omega) _
  have dA := fun j (h : j < 7) => seven_at cA h
  have dB := fun j (h : j < 7) => seven_at cB h
  generalize hg : w.heap.size + 1 + 1 = g at *
  have hs0 := sameTo_zero [a0, a1, a2, a3, a4, a5, a6] [b0, b1, b2, b3, b4, b5, b6]
  have la : [a0, a1, a2, a3, a4, a5, a6].length = 7 := rfl
  have lb : [b0, b1, b2, b3, b4, b5, b6].length = 7 := rfl
  generalize [a0, a1, a2, a3, a4, a5, a6] = L at *
  generalize [b0, b1, b2, b3, b4, b5, b6] = M at *
  clear cA cB hW hg
  replace la := Lib.hid la
  replace lb := Lib.hid lb
  replace dA := Lib.hid dA
  replace dB := Lib.hid dB
  go_loopw [7] (fun i7 wr => ∃ i : Nat, i ≤ 7 ∧ i7 = .int .i64 i ∧ SameTo L M i ∧ ∃ n, wr = W.drewN n) (fun i7 _ => 7 - (intOf i7).toNat)
  case atStart => exact ⟨0, by omega, rfl, hs0, 0, rfl⟩
  case round =>
    obtain ⟨i, hi, rfl, hs, n, rfl⟩ := hrel
    clear hs0
    by_cases hlt : i < 7
    · have ca := dA.out i hlt
      have cb := dB.out i hlt
      by_cases e : L.getD i 0 = M.getD i 0
      · have hs1 := Lib.hid (sameTo_next (by have := la.out; omega) (by have := lb.out; omega) hs e)
        rw [← e] at cb
        generalize L.getD i 0 = x at *
        clear e hs
        go_wp2_with fail
        go_quiet (fail)
        go_wp2_with fail
        go_roundw
        case rel => exact ⟨i + 1, hlt, by go_num, hs1.out, _, rfl⟩
        case measure => simp [intOf]; omega
      · have hv := sameTo_less (by have := la.out; omega) (by have := lb.out; omega) hs e
        rw [← hV.out] at hv
        have e2 : (L.getD i 0 == M.getD i 0) = false := by simpa using e
        generalize L.getD i 0 = x at *
        generalize M.getD i 0 = y at *
        replace hv := Lib.hid hv
        clear e hs
        go_wp2_with fail
        go_quiet (fail)
        go_wp2_with fail
        go_quiet (fail)
        go_wp2_with fail
        go_ret
        exact ⟨ret_bo hv.out.symm, bl_drewN (bl_drewN (bl_drewN hB.out _) _) _⟩
    · obtain rfl : i = 7 := by omega
      have hv := sameTo_end la.out hs
      rw [← hV.out] at hv
      clear hs
      go_wp2_with fail
      go_ret
      exact ⟨ret_bo hv.symm, bl_drewN hB.out _⟩
end Go.Proofs.Ytppggaibhfajjaa
