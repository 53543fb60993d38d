/- Proved here: what the laws' about answers (the span from the least to the greatest of three fit numbers), over the translated code. -/
import Derived.Test.YtkfagpahbojigaaCls
namespace Go.Proofs.Ytkfagpahbojigaa
open Go.ChangeShapes Go.WideShapes Go.ChangeAt Go.RowKit Ieee.Own

/-! ### one end of a span in a variable -/
theorem Blk.setLo {w : World} {g x y : Nat} (b : Blk w g x y) (s : Nat) : Blk (w.setCell ⟨g, 0, none⟩ (.float .f64 s)) g s y :=
  ⟨by simp; exact b.lt, World.cell?_setCell_same _ _ _ b.lo, by rw [World.cell?_setCell_other _ _ _ _ (by simp)]; exact b.hi, by rw [World.frozen?_setCell]; exact b.f0, by rw [World.frozen?_setCell]; exact b.f1⟩
theorem Blk.setHi {w : World} {g x y : Nat} (b : Blk w g x y) (s : Nat) : Blk (w.setCell ⟨g, 1, none⟩ (.float .f64 s)) g x s :=
  ⟨by simp; exact b.lt, by rw [World.cell?_setCell_other _ _ _ _ (by simp)]; exact b.lo, World.cell?_setCell_same _ _ _ b.hi, by rw [World.frozen?_setCell]; exact b.f0, by rw [World.frozen?_setCell]; exact b.f1⟩
theorem Blk.setOther {w : World} {g x y h i : Nat} (b : Blk w g x y) (hg : g ≠ h) (v : Value) : Blk (w.setCell ⟨h, i, none⟩ v) g x y := by
  have e : (w.setCell ⟨h, i, none⟩ v).heap[g]? = w.heap[g]? := Below.heap_setCell _ _ _ _ hg
  exact ⟨by simp; exact b.lt, by rw [← b.lo]; unfold World.cell?; rw [e], by rw [← b.hi]; unfold World.cell?; rw [e], by rw [World.frozen?_setCell]; exact b.f0, by rw [World.frozen?_setCell]; exact b.f1⟩
theorem Cls.one {w0 w : World} {L : List (Nat × Nat × Nat)} (C : Cls w0 L w) (j : Nat) {g x y s t i : Nat} {v : Value} (hj : L[j]? = some (g, x, y)) (hb : Blk (w.setCell ⟨g, i, none⟩ v) g s t) : Cls w0 (L.set j (g, s, t)) (w.setCell ⟨g, i, none⟩ v) := by
  have hl := (List.getElem?_eq_some_iff.1 hj).1
  have hg := C.blk j g x y hj
  refine ⟨C.old.setCell hg.1 _, fun k h p q hk => ?_, fun i k h p q u v hi hk => ?_⟩
  · by_cases hjk : j = k
    · subst hjk
      rw [List.getElem?_set_self hl] at hk
      simp at hk
      obtain ⟨rfl, rfl, rfl⟩ := hk
      exact ⟨hg.1, hb⟩
    · rw [List.getElem?_set_ne hjk] at hk
      refine ⟨(C.blk k h p q hk).1, (C.blk k h p q hk).2.setOther (fun e => ?_) _⟩
      subst e
      exact hjk (C.inj j k _ _ _ _ _ hj hk)
  · have back : ∀ n p q, (L.set j (g, s, t))[n]? = some (h, p, q) → ∃ p' q', L[n]? = some (h, p', q') := fun n p q hn => by
      by_cases hjn : j = n
      · subst hjn
        rw [List.getElem?_set_self hl] at hn
        simp at hn
        rw [← hn.1]
        exact ⟨_, _, hj⟩
      · rw [List.getElem?_set_ne hjn] at hn; exact ⟨_, _, hn⟩
    obtain ⟨p1, q1, h1⟩ := back i p q hi
    obtain ⟨p2, q2, h2⟩ := back k u v hk
    exact C.inj i k h _ _ _ _ h1 h2
theorem Cls.lo {w0 w : World} {L : List (Nat × Nat × Nat)} (C : Cls w0 L w) (j : Nat) {g x y : Nat} (hj : L[j]? = some (g, x, y)) (s : Nat) : Cls w0 (L.set j (g, s, y)) (w.setCell ⟨g, 0, none⟩ (.float .f64 s)) :=
  C.one j hj ((C.at_ j hj).setLo s)
theorem Cls.hi {w0 w : World} {L : List (Nat × Nat × Nat)} (C : Cls w0 L w) (j : Nat) {g x y : Nat} (hj : L[j]? = some (g, x, y)) (s : Nat) : Cls w0 (L.set j (g, x, s)) (w.setCell ⟨g, 1, none⟩ (.float .f64 s)) :=
  C.one j hj ((C.at_ j hj).setHi s)

/-! ### about -/
def abt (a b c : Nat) (i : Nat) : Nat × Nat := match i with
  | 0 => (a, a)
  | 1 => (minW b a, maxW b a)
  | _ => (minW c (minW b a), maxW c (maxW b a))
theorem mins_fin {x y : Nat} (hx : FinW x) (hy : FinW y) : FinW (minW x y) := by unfold minW; split <;> assumption
theorem maxs_fin {x y : Nat} (hx : FinW x) (hy : FinW y) : FinW (maxW x y) := by unfold maxW; split <;> assumption
theorem ix_lo (b c : Nat) (w : World) : (Instr.index 65 (.agg #[.float .f64 b, .float .f64 c]) (.int .i64 0)).run Try.prog w = .ok (.float .f64 b) w := by rfl
theorem ix_hi (b c : Nat) (w : World) : (Instr.index 65 (.agg #[.float .f64 b, .float .f64 c]) (.int .i64 1)).run Try.prog w = .ok (.float .f64 c) w := by rfl
def spanB (x y : Nat) (b : Bool) : Value := .tuple #[.agg #[.float .f64 x, .float .f64 y], .bool b]
theorem labout_no {a b c : Nat} (ha : a < 18446744073709551616) (hb : b < 18446744073709551616) (hc : c < 18446744073709551616) (h : ¬ (fitB a = true ∧ fitB b = true ∧ fitB c = true)) (w : World) :
    Calls Try.prog 27 #[.float .f64 a, .float .f64 b, .float .f64 c] w fun e w' => e = .returned (spanB 0 0 false) ∧ Below w.heap.size w w' := by
  have C1 := fun w => rfit_any a ha w
  have C2 := fun w => rfit_any b hb w
  have C3 := fun w => rfit_any c hc w
  have B0 : Hid (Below w.heap.size w (w.alloc zeroO)) := (Below.refl _ w).alloc (Nat.le_refl _) _
  unfold zeroO at B0
  have hst := @fstore
  cases f1 : fitB a
  · rw [f1] at C1
    clear h ha hb hc C2 C3
    go_enter Try.func27, Try.ntmps27
    go_wp2_with (go_at_call 31; ((with_reducible refine (C1 _).mono ?_); rintro e w' ⟨rfl, rfl⟩))
    (try simp only [Exit.inBlock, Exit.then])
    refine bodyPost_ret (v := spanB 0 0 false) ?_ rfl ⟨rfl, ?_⟩
    · rw [results_cell_tmp rfl]; unfold spanB; go_simp
    · exact B0.out
  · cases f2 : fitB b
    · rw [f1] at C1
      rw [f2] at C2
      clear h ha hb hc C3
      go_enter Try.func27, Try.ntmps27
      go_wp2_with (first | (go_at_call 31; ((with_reducible refine (C1 _).mono ?_); rintro e w' ⟨rfl, rfl⟩)) | (go_at_call 31; ((with_reducible refine (C2 _).mono ?_); rintro e w' ⟨rfl, rfl⟩)))
      (try simp only [Exit.inBlock, Exit.then])
      refine bodyPost_ret (v := spanB 0 0 false) ?_ rfl ⟨rfl, ?_⟩
      · rw [results_cell_tmp rfl]; unfold spanB; go_simp
      · exact B0.out
    · have f3 : fitB c = false := by rw [← Bool.not_eq_true]; exact fun hh => h ⟨f1, f2, hh⟩
      rw [f1] at C1
      rw [f2] at C2
      rw [f3] at C3
      clear h ha hb hc f1 f2 f3
      go_enter Try.func27, Try.ntmps27
      go_wp2_with (first | (go_at_call 31; ((with_reducible refine (C1 _).mono ?_); rintro e w' ⟨rfl, rfl⟩)) | (go_at_call 31; ((with_reducible refine (C2 _).mono ?_); rintro e w' ⟨rfl, rfl⟩)) | (go_at_call 31; ((with_reducible refine (C3 _).mono ?_); rintro e w' ⟨rfl, rfl⟩)))
      (try simp only [Exit.inBlock, Exit.then])
      refine bodyPost_ret (v := spanB 0 0 false) ?_ rfl ⟨rfl, ?_⟩
      · rw [results_cell_tmp rfl]; unfold spanB; go_simp
      · exact B0.out
set_option maxHeartbeats 2000000 in
theorem labout_run {a b c : Nat} (ha : a < 18446744073709551616) (hb : b < 18446744073709551616) (hc : c < 18446744073709551616) (f1 : fitB a = true) (f2 : fitB b = true) (f3 : fitB c = true) (w : World) :
    Calls Try.prog 27 #[.float .f64 a, .float .f64 b, .float .f64 c] w fun e w' => e = .returned (spanB (minW c (minW b a)) (maxW c (maxW b a)) true) ∧ Below w.heap.size w w' := by
  have C1 := fun w => rfit_any a ha w
  have C2 := fun w => rfit_any b hb w
  have C3 := fun w => rfit_any c hc w
  rw [f1] at C1
  rw [f2] at C2
  rw [f3] at C3
  have C0 : Cls w [(w.heap.size, 0, 0), (w.heap.size + 1, a, a)] ((w.alloc (boxO 0 0)).alloc (boxO a a)) := by
    have := ((Cls.nil w).new 0 0).new a a
    simp only [List.nil_append, List.cons_append] at this
    rw [show (w.alloc (boxO 0 0)).heap.size = w.heap.size + 1 by simp] at this
    exact this
  unfold boxO at C0
  replace C0 := Lib.hid C0
  have ga := fit_fin ha f1
  have gb := fit_fin hb f2
  have gc := fit_fin hc f3
  have g1 := mins_fin gb ga
  have g2 := maxs_fin gb ga
  have T1 := Lib.hid (lt_words gb ga)
  have T2 := Lib.hid (gt_words gb ga)
  have T3 := Lib.hid (lt_words gc g1)
  have T4 := Lib.hid (gt_words gc g2)
  have hst := @fstore
  have ix0 := ix_lo b c
  have ix1 := ix_hi b c
  have m1 : Hid (minW b a = if V b < V a then b else a) := rfl
  have m2 : Hid (maxW b a = if V a < V b then b else a) := rfl
  have m3 : Hid (minW c (minW b a) = if V c < V (minW b a) then c else minW b a) := rfl
  have m4 : Hid (maxW c (maxW b a) = if V (maxW b a) < V c then c else maxW b a) := rfl
  have hlu : Hid (V (minW b a) ≤ V (maxW b a)) := by
    have x1 := (minW_V b a).1
    have x2 := (maxW_V b a).1
    show V (minW b a) ≤ V (maxW b a)
    omega
  clear ha hb hc f1 f2 f3 ga gb gc g1 g2
  generalize minW c (minW b a) = l2 at *
  generalize maxW c (maxW b a) = u2 at *
  generalize minW b a = l1 at *
  generalize maxW b a = u1 at *
  go_enter Try.func27, Try.ntmps27
  go_wp2_with (first | (go_at_call 31; ((with_reducible refine (C1 _).mono ?_); rintro e w' ⟨rfl, rfl⟩)) | (go_at_call 31; ((with_reducible refine (C2 _).mono ?_); rintro e w' ⟨rfl, rfl⟩)) | (go_at_call 31; ((with_reducible refine (C3 _).mono ?_); rintro e w' ⟨rfl, rfl⟩)))
  go_loopw [10, 31] (fun _ s31 wr => (s31 = .int .i64 0 ∧ Cls w [(w.heap.size, 0, 0), (w.heap.size + 1, a, a)] wr) ∨ (s31 = .int .i64 1 ∧ Cls w [(w.heap.size, 0, 0), (w.heap.size + 1, l1, u1)] wr) ∨ (s31 = .int .i64 2 ∧ Cls w [(w.heap.size, 0, 0), (w.heap.size + 1, l2, u2)] wr)) (fun _ s31 _ => 2 - (intOf s31).toNat)
  case atStart => exact Or.inl ⟨rfl, C0.out⟩
  case round =>
    rcases hrel with ⟨rfl, C⟩ | ⟨rfl, C⟩ | ⟨rfl, C⟩
    · have p0 := (C.at_ 1 rfl).lo
      have p1 := (C.at_ 1 rfl).hi
      have f0 := (C.at_ 1 rfl).f0
      have f1 := (C.at_ 1 rfl).f1
      have t1 := T1.out
      have t2 := T2.out
      have e1 := m1.out
      have e2 := m2.out
      by_cases k1 : V b < V a
      · by_cases k2 : V a < V b
        · exact absurd k1 (by omega)
        · rw [decide_eq_true k1] at t1
          rw [if_pos k1] at e1
          rw [decide_eq_false k2] at t2
          rw [if_neg k2] at e2
          have D : Cls w [(w.heap.size, 0, 0), (w.heap.size + 1, l1, u1)] (wr.setCell ⟨w.heap.size + 1, 0, none⟩ (.float .f64 b)) := by rw [e1, e2]; exact C.lo 1 rfl b
          replace D := Lib.hid D
          replace e1 := Lib.hid e1
          replace e2 := Lib.hid e2
          clear C k1 k2
          go_wp2_with fail
          go_roundw
          case rel => exact Or.inr (Or.inl ⟨rfl, D.out⟩)
          case measure => simp [intOf]
      · by_cases k2 : V a < V b
        · rw [decide_eq_false k1] at t1
          rw [if_neg k1] at e1
          rw [decide_eq_true k2] at t2
          rw [if_pos k2] at e2
          have D : Cls w [(w.heap.size, 0, 0), (w.heap.size + 1, l1, u1)] (wr.setCell ⟨w.heap.size + 1, 1, none⟩ (.float .f64 b)) := by rw [e1, e2]; exact C.hi 1 rfl b
          replace D := Lib.hid D
          replace e1 := Lib.hid e1
          replace e2 := Lib.hid e2
          clear C k1 k2
          go_wp2_with fail
          go_roundw
          case rel => exact Or.inr (Or.inl ⟨rfl, D.out⟩)
          case measure => simp [intOf]
        · rw [decide_eq_false k1] at t1
          rw [if_neg k1] at e1
          rw [decide_eq_false k2] at t2
          rw [if_neg k2] at e2
          have D : Cls w [(w.heap.size, 0, 0), (w.heap.size + 1, l1, u1)] wr := by rw [e1, e2]; exact C
          replace D := Lib.hid D
          replace e1 := Lib.hid e1
          replace e2 := Lib.hid e2
          clear C k1 k2
          go_wp2_with fail
          go_roundw
          case rel => exact Or.inr (Or.inl ⟨rfl, D.out⟩)
          case measure => simp [intOf]
    · have p0 := (C.at_ 1 rfl).lo
      have p1 := (C.at_ 1 rfl).hi
      have f0 := (C.at_ 1 rfl).f0
      have f1 := (C.at_ 1 rfl).f1
      have t1 := T3.out
      have t2 := T4.out
      have e1 := m3.out
      have e2 := m4.out
      by_cases k1 : V c < V l1
      · by_cases k2 : V u1 < V c
        · exact absurd k1 (by have := hlu.out; omega)
        · rw [decide_eq_true k1] at t1
          rw [if_pos k1] at e1
          rw [decide_eq_false k2] at t2
          rw [if_neg k2] at e2
          have D : Cls w [(w.heap.size, 0, 0), (w.heap.size + 1, l2, u2)] (wr.setCell ⟨w.heap.size + 1, 0, none⟩ (.float .f64 c)) := by rw [e1, e2]; exact C.lo 1 rfl c
          replace D := Lib.hid D
          replace e1 := Lib.hid e1
          replace e2 := Lib.hid e2
          clear C k1 k2
          go_wp2_with fail
          go_roundw
          case rel => exact Or.inr (Or.inr ⟨rfl, D.out⟩)
          case measure => simp [intOf]
      · by_cases k2 : V u1 < V c
        · rw [decide_eq_false k1] at t1
          rw [if_neg k1] at e1
          rw [decide_eq_true k2] at t2
          rw [if_pos k2] at e2
          have D : Cls w [(w.heap.size, 0, 0), (w.heap.size + 1, l2, u2)] (wr.setCell ⟨w.heap.size + 1, 1, none⟩ (.float .f64 c)) := by rw [e1, e2]; exact C.hi 1 rfl c
          replace D := Lib.hid D
          replace e1 := Lib.hid e1
          replace e2 := Lib.hid e2
          clear C k1 k2
          go_wp2_with fail
          go_roundw
          case rel => exact Or.inr (Or.inr ⟨rfl, D.out⟩)
          case measure => simp [intOf]
        · rw [decide_eq_false k1] at t1
          rw [if_neg k1] at e1
          rw [decide_eq_false k2] at t2
          rw [if_neg k2] at e2
          have D : Cls w [(w.heap.size, 0, 0), (w.heap.size + 1, l2, u2)] wr := by rw [e1, e2]; exact C
          replace D := Lib.hid D
          replace e1 := Lib.hid e1
          replace e2 := Lib.hid e2
          clear C k1 k2
          go_wp2_with fail
          go_roundw
          case rel => exact Or.inr (Or.inr ⟨rfl, D.out⟩)
          case measure => simp [intOf]
    · have p0 := (C.at_ 1 rfl).lo
      have p1 := (C.at_ 1 rfl).hi
      have r0 := (C.at_ 0 rfl).lo
      have r1 := (C.at_ 0 rfl).hi
      have f0 := (C.at_ 0 rfl).f0
      have f1 := (C.at_ 0 rfl).f1
      have B := Lib.hid C.old
      clear C
      go_wp2_with fail
      (try simp only [Exit.inBlock, Exit.then])
      refine bodyPost_ret (v := spanB l2 u2 true) ?_ rfl ⟨rfl, ?_⟩
      · rw [results_cell_tmp rfl]; unfold spanB; go_simp
      · exact (B.out.setCell (by show _ ≤ w.heap.size; omega) _).setCell (by show _ ≤ w.heap.size; omega) _
end Go.Proofs.Ytkfagpahbojigaa
