/- Proved here: what the texts Vbt prove, one behind the other. -/
import Derived.Test.YtgnofnjbmiepjaaJx4
import Derived.Test.YtgnofnjbmiepjaaJx5
import Derived.Test.YtgnofnjbmiepjaaJx6
import Derived.Test.YtgnofnjbmiepjaaJx2
import Derived.Test.YtgnofnjbmiepjaaJb9
import Derived.Test.YtgnofnjbmiepjaaJr

namespace Go.Proofs.Ytgnofnjbmiepjaa
open Go.ChangeShapes Go.WideShapes Go.ChangeAt Go.RowKit Ieee.Own Pol

theorem errS_self7 {c : Nat} (f : fitB c = true) : errS c c = 0 := errS_of ⟨f, f⟩ (Int.le_refl _)
set_option maxHeartbeats 4000000 in
set_option maxRecDepth 100000 in
theorem sof7_run {c : Nat} (hc : c < 18446744073709551616) (f : fitB c = true) (w : World) : Calls Try.prog 76 #[.float .f64 c] w fun e w' => e = .returned (spanE (posW c) (posW c) 0) ∧ Below w.heap.size w w' := by
  have M := Lib.hid (fun w => (make_run c c hc hc w).mono fun e w' h => (⟨h.1.trans (congrArg Ending.returned (show makeE c c = spanE (posW c) (posW c) 0 by unfold makeE; rw [if_pos (errS_self7 f)])), h.2⟩ : e = .returned (spanE (posW c) (posW c) 0) ∧ Below w.heap.size w w'))
  unfold spanE at *
  have hst := @fstore
  clear f hc
  generalize posW c = u at *
  have C0 : Cls w [(w.heap.size, 0, 0)] (w.alloc (boxO 0 0)) := (Cls.nil w).new 0 0
  unfold boxO at C0
  replace C0 := Lib.hid C0
  go_enter Try.func76, Try.ntmps76
  go_wp2_with fail
  have C := C0.out
  clear C0
  generalize w.alloc _ = wr at *
  refine (M.out wr).mono ?_
  rintro _ w1 ⟨rfl, hb⟩
  have C1 := C.on hb
  have c0 := (C1.at_ 0 rfl).lo
  have c1 := (C1.at_ 0 rfl).hi
  have f0 := (C1.at_ 0 rfl).f0
  have f1 := (C1.at_ 0 rfl).f1
  have B := Lib.hid C1.old
  clear C C1 hb M
  go_wp2_with fail
  (try simp only [Exit.inBlock, Exit.then])
  refine bodyPost_ret (v := spanE u u 0) ?_ rfl ⟨rfl, ?_⟩
  · rw [results_cell_tmp rfl]; unfold spanE; go_simp
  · exact (B.out.setCell (by show _ ≤ w.heap.size; omega) _).setCell (by show _ ≤ w.heap.size; omega) _
def ptS7 (c : Nat) : Pr := (posW c, posW c)
theorem Sn.w2 {p : Pr} {m : Nat} (h : Sn p m) : W2 p := ⟨h.l1, h.l2⟩
/-! ### what the turned box holds -/
theorem diff_le7 {a b c : Nat} (h : Q a - Q b ≤ Q c) : V a - V b ≤ V c := by
  have := Rat.mul_le_mul_of_nonneg_right h (Rat.le_of_lt unit_pos)
  have e : (Q a - Q b) * unit = Q a * unit - Q b * unit := by grind
  rw [e, Q_unit, Q_unit, Q_unit, ← Rat.intCast_sub] at this
  exact Rat.intCast_le_intCast.1 this
set_option maxHeartbeats 4000000 in
set_option maxRecDepth 100000 in
theorem beside_run {a1 a2 a3 a4 a5 a6 v1 v2 v3 d o1 o2 o3 : Nat} (O1 : Hid (∀ w, Calls Try.prog 36 #[.agg #[.float .f64 a1, .float .f64 a2], .float .f64 v1] w fun e w' => e = .returned (.float .f64 o1) ∧ Below w.heap.size w w')) (O2 : Hid (∀ w, Calls Try.prog 36 #[.agg #[.float .f64 a3, .float .f64 a4], .float .f64 v2] w fun e w' => e = .returned (.float .f64 o2) ∧ Below w.heap.size w w')) (O3 : Hid (∀ w, Calls Try.prog 36 #[.agg #[.float .f64 a5, .float .f64 a6], .float .f64 v3] w fun e w' => e = .returned (.float .f64 o3) ∧ Below w.heap.size w w')) (l1 : (FloatKind.f64.format.order o1 d == some Ordering.lt || FloatKind.f64.format.order o1 d == some Ordering.eq) = true) (l2 : (FloatKind.f64.format.order o2 d == some Ordering.lt || FloatKind.f64.format.order o2 d == some Ordering.eq) = true) (l3 : (FloatKind.f64.format.order o3 d == some Ordering.lt || FloatKind.f64.format.order o3 d == some Ordering.eq) = true) (w : World) : Calls Try.prog 18 #[.agg #[.float .f64 a1, .float .f64 a2, .float .f64 a3, .float .f64 a4, .float .f64 a5, .float .f64 a6], .agg #[.float .f64 v1, .float .f64 v2, .float .f64 v3], .float .f64 d] w fun e w' => e = .returned (.bool true) ∧ Below w.heap.size w w' := by
  have K0 := kw2 w 41 26 [a1, a2, a3, a4, a5, a6] [v1, v2, v3]
  simp only [objW, List.map_cons, List.map_nil] at K0
  have hst := @fstore
  replace K0 := Lib.hid K0
  go_enter Try.func18, Try.ntmps18
  go_wp2_with fail
  have K := K0.out
  clear K0
  generalize (w.alloc _).alloc _ = wr at *
  refine (O1.out wr).mono ?_
  rintro _ v1 ⟨rfl, hb⟩
  replace K := K.on hb
  clear hb
  have c0_2 := (K.at_ 0 rfl).at_ 2 _ rfl
  have c0_3 := (K.at_ 0 rfl).at_ 3 _ rfl
  have c1_1 := (K.at_ 1 rfl).at_ 1 _ rfl
  replace K := Lib.hid K
  go_wp2_with fail
  replace K := K.out
  refine (O2.out v1).mono ?_
  rintro _ v2 ⟨rfl, hb⟩
  clear c0_2 c0_3 c1_1
  replace K := K.on hb
  clear hb
  have c0_4 := (K.at_ 0 rfl).at_ 4 _ rfl
  have c0_5 := (K.at_ 0 rfl).at_ 5 _ rfl
  have c1_2 := (K.at_ 1 rfl).at_ 2 _ rfl
  replace K := Lib.hid K
  go_wp2_with fail
  replace K := K.out
  refine (O3.out v2).mono ?_
  rintro _ v3 ⟨rfl, hb⟩
  clear c0_4 c0_5 c1_2
  replace K := K.on hb
  clear hb
  replace K := Lib.hid K
  go_wp2_with fail
  replace K := K.out
  go_ret
  exact ⟨rfl, K.old⟩
end Go.Proofs.Ytgnofnjbmiepjaa
