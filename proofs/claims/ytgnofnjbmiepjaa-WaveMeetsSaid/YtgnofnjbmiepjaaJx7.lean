/- Proved here: what the texts Vbt prove, one behind the other. -/
import Derived.Test.YtgnofnjbmiepjaaJx4
import Derived.Test.YtgnofnjbmiepjaaJx5
import Derived.Test.YtgnofnjbmiepjaaJx6
import Derived.Test.YtgnofnjbmiepjaaJx2
import Derived.Test.YtgnofnjbmiepjaaJb9
import Derived.Test.YtgnofnjbmiepjaaJr

namespace Go.Proofs.Ytgnofnjbmiepjaa
open Go.ChangeShapes Go.WideShapes Go.ChangeAt Go.RowKit Ieee.Own Pol

theorem errS_self7 {c : Nat} (f : fitB c = true) : errS c c = 0 := errS_of ⟨f, f⟩ (Int.le_refl _)
set_option maxHeartbeats 4000000 in
set_option maxRecDepth 100000 in
theorem sof7_run {c : Nat} (hc : c < 18446744073709551616) (f : fitB c = true) (w : World) : Calls Try.prog 76 #[.float .f64 c] w fun e w' => e = .returned (spanE (posW c) (posW c) 0) ∧ Below w.heap.size w w' := by
  have M := Lib.hid (fun w => (make_run c c hc hc w).mono fun e w' h => (⟨h.1.trans (congrArg Ending.returned (show makeE c c = spanE (posW c) (posW c) 0 by unfold makeE; rw [if_pos (errS_self7 f)])), h.2⟩ : e = .returned (spanE (posW c) (posW c) 0) ∧ Below w.heap.size w w'))
  unfold spanE at *
  have hst := @fstore
  clear f hc
  generalize posW c = u at *
  have C0 : Cls w [(w.heap.size, 0, 0)] (w.alloc (boxO 0 0)) := (Cls.nil w).new 0 0
  unfold boxO at C0
  replace C0 := Lib.hid C0
  go_enter Try.func76, Try.ntmps76
  go_wp2_with fail
  have C := C0.out
  clear C0
  generalize w.alloc _ = wr at *
  refine (M.out wr).mono ?_
  rintro _ w1 ⟨rfl, hb⟩
  have C1 := C.on hb
  have c0 := (C1.at_ 0 rfl).lo
  have c1 := (C1.at_ 0 rfl).hi
  have f0 := (C1.at_ 0 rfl).f0
  have f1 := (C1.at_ 0 rfl).f1
  have B := Lib.hid C1.old
  clear C C1 hb M
  go_wp2_with fail
  (try simp only [Exit.inBlock, Exit.then])
  refine bodyPost_ret (v := spanE u u 0) ?_ rfl ⟨rfl, ?_⟩
  · rw [results_cell_tmp rfl]; unfold spanE; go_simp
  · exact (B.out.setCell (by show _ ≤ w.heap.size; omega) _).setCell (by show _ ≤ w.heap.size; omega) _
def ptS7 (c : Nat) : Pr := (posW c, posW c)
theorem Sn.w2 {p : Pr} {m : Nat} (h : Sn p m) : W2 p := ⟨h.l1, h.l2⟩
/-! ### what the turned box holds -/
end Go.Proofs.Ytgnofnjbmiepjaa
