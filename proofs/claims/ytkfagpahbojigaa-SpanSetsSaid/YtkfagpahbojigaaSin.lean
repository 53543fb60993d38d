/- Proved here: what Inside of the reference, and the laws' own small calls (alike, fits), answer, over the translated code. -/
import Derived.Test.YtkfagpahbojigaaSadd
namespace Go.Proofs.Ytkfagpahbojigaa
open Go.ChangeShapes Go.WideShapes Go.ChangeAt Go.RowKit Ieee.Own

theorem samespan_run (a b : Nat) (w : World) : Calls Try.prog 52 #[spanV a b, spanV a b] w fun e w' => e = .returned (.bool true) ∧ Below w.heap.size w w' := by
  have C1 := fun w => same_self a w
  have C2 := fun w => same_self b w
  unfold spanV
  go_enter Try.func52, Try.ntmps52
  go_wp2_with (first | (go_at_call 75; ((with_reducible refine (C1 _).mono ?_); rintro e w' ⟨rfl, rfl⟩)) | (go_at_call 75; ((with_reducible refine (C2 _).mono ?_); rintro e w' ⟨rfl, rfl⟩)))
  go_ret
  exact ⟨rfl, ((Below.refl _ w).alloc (Nat.le_refl _) _).alloc (by simp) _⟩
theorem alike_run (a b : Nat) (c : Int) (w : World) : Calls Try.prog 14 #[spanV a b, .int .i64 c, spanV a b, .int .i64 c] w fun e w' => e = .returned (.bool true) ∧ Below w.heap.size w w' := by
  have C := Lib.hid (fun w => samespan_run a b w)
  have B0 : Hid (∀ w', Below ((w.alloc (boxO a b)).alloc (boxO a b)).heap.size ((w.alloc (boxO a b)).alloc (boxO a b)) w' → Below w.heap.size w w') :=
    fun w' h => (((Below.refl _ w).alloc (Nat.le_refl _) _).alloc (by simp) _).trans (h.mono (by simp; omega))
  unfold boxO at B0
  unfold spanV at *
  go_enter Try.func14, Try.ntmps14
  go_wp2_with fail
  refine (C.out _).mono ?_
  rintro _ w1 ⟨rfl, hb⟩
  have B1 := Lib.hid (B0.out w1 hb)
  clear hb B0
  go_wp2_with fail
  go_ret
  exact ⟨rfl, B1.out⟩

/-- does all of the one span lie in the other? -/
def insB (a b c d : Nat) : Bool := decide (errSS a b c d = 0 ∧ V c ≤ V a ∧ V b ≤ V d)
theorem inside_run (a b c d : Nat) (ha : a < 18446744073709551616) (hb : b < 18446744073709551616) (hc : c < 18446744073709551616) (hd : d < 18446744073709551616) (w : World) :
    Calls Try.prog 34 #[spanV a b, spanV c d] w fun e w' => e = .returned (.bool (insB a b c d)) ∧ Below w.heap.size w w' := by
  have CB := Lib.hid (fun w => rboth_run a b c d ha hb hc hd w)
  have S0 : Blocks w ([boxO a b] ++ [boxO c d]) ((w.alloc (boxO a b)).alloc (boxO c d)) := ((Blocks.nil w).alloc (by simp) _).alloc (by simp) _
  unfold boxO at S0
  unfold spanV at *
  replace S0 := Lib.hid S0
  by_cases h0 : errSS a b c d = 0
  · obtain ⟨e1, e2⟩ := errSS_zero h0
    obtain ⟨f1, f2, -⟩ := errS_zero e1
    obtain ⟨f3, f4, -⟩ := errS_zero e2
    have t1 := le_words (fit_fin hc f3) (fit_fin ha f1)
    have t2 := le_words (fit_fin hb f2) (fit_fin hd f4)
    have hI : insB a b c d = (decide (V c ≤ V a) && decide (V b ≤ V d)) := by unfold insB; rw [Bool.eq_iff_iff]; simp [h0]
    rw [hI, ← t1, ← t2]
    rw [h0] at CB
    clear h0 e1 e2 f1 f2 f3 f4 ha hb hc hd t1 t2 hI
    generalize hx : (FloatKind.f64.format.order c a == some Ordering.lt || FloatKind.f64.format.order c a == some Ordering.eq) = x at *
    generalize hy : (FloatKind.f64.format.order b d == some Ordering.lt || FloatKind.f64.format.order b d == some Ordering.eq) = y at *
    cases x <;> cases y
    all_goals
      go_enter Try.func34, Try.ntmps34
      go_wp2_with fail
      have S := S0.out
      clear S0
      generalize (w.alloc _).alloc _ = wr at *
      refine (CB.out wr).mono ?_
      rintro _ w1 ⟨rfl, hb1⟩
      have S1 := S.on hb1
      have c00 := S1.cell 0 rfl 0 w.heap.size rfl
      have c01 := S1.cell 0 rfl 1 w.heap.size rfl
      have c10 := S1.cell 1 rfl 0 (w.heap.size + 1) rfl
      have c11 := S1.cell 1 rfl 1 (w.heap.size + 1) rfl
      have B1 := Lib.hid S1.old
      clear S S1 hb1
      go_wp2_with fail
      go_ret
      exact ⟨rfl, B1.out⟩
  · have hI : insB a b c d = false := by unfold insB; simp [h0]
    rw [hI]
    have t : (errSS a b c d == 0) = false := by simpa using h0
    clear h0 ha hb hc hd hI
    generalize errSS a b c d = er at *
    go_enter Try.func34, Try.ntmps34
    go_wp2_with fail
    have S := S0.out
    clear S0
    generalize (w.alloc _).alloc _ = wr at *
    refine (CB.out wr).mono ?_
    rintro _ w1 ⟨rfl, hb1⟩
    have B1 := Lib.hid (S.on hb1).old
    clear S hb1
    go_wp2_with fail
    go_ret
    exact ⟨rfl, B1.out⟩
end Go.Proofs.Ytkfagpahbojigaa
