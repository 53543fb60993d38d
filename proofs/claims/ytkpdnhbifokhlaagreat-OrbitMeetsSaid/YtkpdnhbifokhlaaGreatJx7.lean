/- Proved here: what the texts Vbt prove, one behind the other. -/
import Derived.Test.YtkpdnhbifokhlaaGreatJx4
import Derived.Test.YtkpdnhbifokhlaaGreatJx5
import Derived.Test.YtkpdnhbifokhlaaGreatJx6
import Derived.Test.YtkpdnhbifokhlaaGreatJx2
import Derived.Test.YtkpdnhbifokhlaaGreatJb9
import Derived.Test.YtkpdnhbifokhlaaGreatJr

namespace Go.Proofs.YtkpdnhbifokhlaaGreat
open Go.ChangeShapes Go.WideShapes Go.ChangeAt Go.RowKit Ieee.Own Pol

theorem errS_self7 {c : Nat} (f : fitB c = true) : errS c c = 0 := errS_of ⟨f, f⟩ (Int.le_refl _)
set_option maxHeartbeats 4000000 in
set_option maxRecDepth 100000 in
theorem sof7_run {c : Nat} (hc : c < 18446744073709551616) (f : fitB c = true) (w : World) : Calls Tryz.prog 74 #[.float .f64 c] w fun e w' => e = .returned (spanE (posW c) (posW c) 0) ∧ Below w.heap.size w w' := by
 have M := Lib.hid (fun w => (make_run c c hc hc w).mono fun e w' h => (⟨h.1.trans (congrArg Ending.returned (show makeE c c = spanE (posW c) (posW c) 0 by unfold makeE; rw [if_pos (errS_self7 f)])), h.2⟩ : e = .returned (spanE (posW c) (posW c) 0) ∧ Below w.heap.size w w'))
 unfold spanE at *
 have hst := @fstore
 clear f hc
 generalize posW c = u at *
 have C0 : Cls w [(w.heap.size, 0, 0)] (w.alloc (boxO 0 0)) := (Cls.nil w).new 0 0
 unfold boxO at C0
 replace C0 := Lib.hid C0
 go_enter Tryz.func74, Tryz.ntmps74
 go_wp2_with fail
 have C := C0.out
 clear C0
 generalize w.alloc _ = wr at *
 refine (M.out wr).mono ?_
 rintro _ w1 ⟨rfl, hb⟩
 have C1 := C.on hb
 have c0 := (C1.at_ 0 rfl).lo
 have c1 := (C1.at_ 0 rfl).hi
 have f0 := (C1.at_ 0 rfl).f0
 have f1 := (C1.at_ 0 rfl).f1
 have B := Lib.hid C1.old
 clear C C1 hb M
 go_wp2_with fail
 (try simp only [Exit.inBlock, Exit.then])
 refine bodyPost_ret (v := spanE u u 0) ?_ rfl ⟨rfl, ?_⟩
 · rw [results_cell_tmp rfl]; unfold spanE; go_simp
 · exact (B.out.setCell (by show _ ≤ w.heap.size; omega) _).setCell (by show _ ≤ w.heap.size; omega) _
def ptS7 (c : Nat) : Pr := (posW c, posW c)
theorem Sn.w2 {p : Pr} {m : Nat} (h : Sn p m) : W2 p := ⟨h.l1, h.l2⟩
def BinC (f : FuncId) (p q u : Pr) : Prop := ∀ w, Calls Tryz.prog f #[.agg #[.float .f64 p.1, .float .f64 p.2], .agg #[.float .f64 q.1, .float .f64 q.2]] w fun e w' => e = .returned (.agg #[.float .f64 u.1, .float .f64 u.2]) ∧ Below w.heap.size w w'
set_option maxHeartbeats 4000000 in
set_option maxRecDepth 100000 in
theorem vmul7 {p q u : Pr} (hp : W2 p) (hq : W2 q) (R : MulR p q u) : BinC 136 p q u :=
 fun w => vsmul_shape (k := 0) (Lib.hid fun w => (smul_run p.1 p.2 q.1 q.2 hp.l1 hp.l2 hq.l1 hq.l2 w).mono fun _ _ h => ⟨OpAll.uniq h.1 R, h.2⟩) w
set_option maxHeartbeats 4000000 in
set_option maxRecDepth 100000 in
theorem vadd7 {p q u : Pr} (hp : W2 p) (hq : W2 q) (R : AddR p q u) : BinC 137 p q u :=
 fun w => vsadd_shape (k := 0) (Lib.hid fun w => (sadd_run p.1 p.2 q.1 q.2 hp.l1 hp.l2 hq.l1 hq.l2 w).mono fun _ _ h => ⟨h.1.all.uniq R.all, h.2⟩) w
set_option maxHeartbeats 4000000 in
set_option maxRecDepth 100000 in
theorem vsub7 {p q u : Pr} (hp : W2 p) (hq : W2 q) (R : SubQ p q u) : BinC 135 p q u :=
 fun w => vssub_shape (k := 0) (Lib.hid fun w => (ssub_run p.1 p.2 q.1 q.2 hp.l1 hp.l2 hq.l1 hq.l2 w).mono fun _ _ h => ⟨h.1.all.uniq R.all, h.2⟩) w
theorem In.sub7 {x y : Rat} {A B C : Sp} (hx : In x A) (hy : In y B) (h1 : C.1 ≤ A.1 - B.2) (h2 : A.2 - B.1 ≤ C.2) : In (x - y) C := by
 obtain ⟨a, b⟩ := hx
 obtain ⟨c, d⟩ := hy
 exact ⟨by grind, by grind⟩
structure Pair7 (s c p q m1 m2 m3 m4 y1 y2 : Pr) : Prop where
 w1 : W2 m1
 w2 : W2 m2
 w3 : W2 m3
 w4 : W2 m4
 r1 : MulR c p m1
 r2 : MulR s q m2
 r3 : SubQ m1 m2 y1
 r4 : MulR s p m3
 r5 : MulR c q m4
 r6 : AddR m3 m4 y2
theorem zero_w2 : W2 (0, 0) := ⟨by decide, by decide⟩
end Go.Proofs.YtkpdnhbifokhlaaGreat
