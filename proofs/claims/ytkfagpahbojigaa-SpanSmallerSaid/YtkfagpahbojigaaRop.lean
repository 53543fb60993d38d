/- Proved here: what single operations of a region come to, by what their operands hold. -/
import Derived.Test.YtkfagpahbojigaaReg
import Derived.Test.YtkfagpahbojigaaSpn
namespace Go.Proofs.Ytkfagpahbojigaa
open Go.ChangeShapes Go.WideShapes Go.ChangeAt Go.RowKit Ieee.Own

theorem step_value {P : Program} {o : Oper} {a : Act} {w w' : World} {K : Act → World → Prop} {Q : Exit → Act → World → Prop} {v : Value} (h : (execOp a.eval o).run P w = .ok (.value v) w') (k : K (a.put o.dst v) w') : o.wp P a w K Q := by
  unfold Oper.wp; rw [h]; exact k
theorem step_skip {P : Program} {o : Oper} {a : Act} {w w' : World} {K : Act → World → Prop} {Q : Exit → Act → World → Prop} (h : (execOp a.eval o).run P w = .ok .skip w') (k : K (a.put o.dst undef) w') : o.wp P a w K Q := by
  unfold Oper.wp; rw [h]; exact k
theorem step_call {P : Program} {o : Oper} {a : Act} {w : World} {K : Act → World → Prop} {Q : Exit → Act → World → Prop} {f : FuncId} {args : Array Value} (h : (execOp a.eval o).run P w = .ok (.enter f args) w)
    (k : Calls P f args w fun e w' => ∃ v, e = .returned v ∧ K (a.put o.dst v) w') : o.wp P a w K Q := by
  unfold Oper.wp; rw [h]
  refine Calls.mono k fun e w' h => ?_
  obtain ⟨v, rfl, hk⟩ := h
  exact hk
theorem ex_move {P : Program} {ρ : Operand → Value} {o : Oper} {x : Operand} {v : Value} (w : World) (ho : o.op = .move x) (h : ρ x = v) : (execOp ρ o).run P w = .ok (.value v) w := by
  unfold execOp; rw [ho]; simp [h]
theorem ex_fa0 {ρ : Operand → Value} {o : Oper} {x : Operand} {b : Nat} (w : World) (ho : o.op = .fieldAddr 24 x 0) (h : ρ x = .pointer (some ⟨b, 0, none⟩)) : (execOp ρ o).run Try.prog w = .ok (.value (.pointer (some ⟨b, 0, none⟩))) w := by
  unfold execOp; rw [ho]; simp only [h]; go_simp
theorem ex_fa1 {ρ : Operand → Value} {o : Oper} {x : Operand} {b : Nat} (w : World) (ho : o.op = .fieldAddr 24 x 1) (h : ρ x = .pointer (some ⟨b, 0, none⟩)) : (execOp ρ o).run Try.prog w = .ok (.value (.pointer (some ⟨b, 1, none⟩))) w := by
  unfold execOp; rw [ho]; simp only [h]; go_simp
theorem ex_load {ρ : Operand → Value} {o : Oper} {x : Operand} {b k y : Nat} {w : World} (ho : o.op = .load 22 x) (h : ρ x = .pointer (some ⟨b, k, none⟩)) (hc : w.cell? ⟨b, k, none⟩ = some (.float .f64 y)) : (execOp ρ o).run Try.prog w = .ok (.value (.float .f64 y)) w := by
  unfold execOp; rw [ho]; simp only [h]; go_simp
theorem ex_call {P : Program} {ρ : Operand → Value} {o : Oper} {x y z : Operand} {ts : Array TypeId} {g : FuncId} {u v : Value} (w : World) (ho : o.op = .call { callee := .value x, args := #[y, z], argTypes := ts }) (h : ρ x = .func (.func g) #[] #[]) (h1 : ρ y = u) (h2 : ρ z = v) (hg : (callFunc g #[u, v]).run P w = .ok (.enter g #[u, v]) w) :
    (execOp ρ o).run P w = .ok (.enter g #[u, v]) w := by
  unfold execOp; rw [ho]; simp [h, h1, h2, hg, go_sem]
theorem ex_alloc {ρ : Operand → Value} {o : Oper} (w : World) (ho : o.op = .alloc 24) : (execOp ρ o).run Try.prog w = .ok (.value (.pointer (some ⟨w.heap.size, 0, none⟩))) (w.alloc zeroO) := by
  unfold execOp zeroO; rw [ho]; go_simp
theorem ex_store {ρ : Operand → Value} {o : Oper} {x y : Operand} {g s t a b : Nat} {w : World} (ho : o.op = .store 24 x y) (h : ρ x = .pointer (some ⟨g, 0, none⟩)) (h1 : ρ y = spanV s t)
    (c0 : w.cell? ⟨g, 0, none⟩ = some (.float .f64 a)) (c1 : w.cell? ⟨g, 1, none⟩ = some (.float .f64 b)) (f0 : w.frozen? ⟨g, 0, none⟩ = false) (f1 : w.frozen? ⟨g, 1, none⟩ = false) :
    (execOp ρ o).run Try.prog w = .ok .skip ((w.setCell ⟨g, 0, none⟩ (.float .f64 s)).setCell ⟨g, 1, none⟩ (.float .f64 t)) := by
  have hst := @fstore
  unfold spanV at h1
  unfold execOp; rw [ho]; simp only [h, h1]; go_simp
theorem ex_loads {ρ : Operand → Value} {o : Oper} {x : Operand} {b a c : Nat} {w : World} (ho : o.op = .load 24 x) (h : ρ x = .pointer (some ⟨b, 0, none⟩)) (h0 : w.cell? ⟨b, 0, none⟩ = some (.float .f64 a)) (h1 : w.cell? ⟨b, 1, none⟩ = some (.float .f64 c)) : (execOp ρ o).run Try.prog w = .ok (.value (spanV a c)) w := by
  unfold execOp spanV; rw [ho]; simp only [h]; go_simp
theorem ex_pick {P : Program} {ρ : Operand → Value} {o : Oper} {x y z : Operand} {c : Bool} {v : Value} (w : World) (ho : o.op = .pick x y z) (h : ρ x = .bool c) (h1 : (if c = true then ρ y else ρ z) = v) : (execOp ρ o).run P w = .ok (.value v) w := by
  unfold execOp; rw [ho]; simp only [h]
  cases c
  · simp at h1; simp [h1, asBool]
  · simp at h1; simp [h1, asBool]
theorem ex_feq {ρ : Operand → Value} {o : Oper} {x y : Operand} {t : TypeId} {a b : Nat} {c : Bool} (w : World) (ho : o.op = .binOp .eql 22 x y t) (h : ρ x = .float .f64 a) (h1 : ρ y = .float .f64 b) (hc : (FloatKind.f64.format.order a b == some Ordering.eq) = c) : (execOp ρ o).run Try.prog w = .ok (.value (.bool c)) w := by
  unfold execOp; rw [ho]; simp only [h, h1]; go_simp
theorem ex_beq {ρ : Operand → Value} {o : Oper} {x y : Operand} {t : TypeId} {a b c : Bool} (w : World) (ho : o.op = .binOp .eql 4 x y t) (h : ρ x = .bool a) (h1 : ρ y = .bool b) (hc : (a == b) = c) : (execOp ρ o).run Try.prog w = .ok (.value (.bool c)) w := by
  unfold execOp; rw [ho]; simp only [h, h1]; go_simp
theorem ex_calls {P : Program} {ρ : Operand → Value} {o : Oper} {y z : Operand} {ts : Array TypeId} {g : FuncId} {u v : Value} (w : World) (ho : o.op = .call { callee := .value (.func g), args := #[y, z], argTypes := ts }) (h : ρ (.func g) = .func (.func g) #[] #[]) (h1 : ρ y = u) (h2 : ρ z = v) (hg : (callFunc g #[u, v]).run P w = .ok (.enter g #[u, v]) w) :
    (execOp ρ o).run P w = .ok (.enter g #[u, v]) w := by
  unfold execOp; rw [ho]; simp [h, h1, h2, hg, go_sem]
theorem ex_assign {P : Program} {ρ : Operand → Value} {o : Oper} {x : Operand} {v : Value} (w : World) (ho : o.op = .assign x) (h : ρ x = v) : (execOp ρ o).run P w = .ok (.value v) w := by
  unfold execOp; rw [ho]; simp [h]
end Go.Proofs.Ytkfagpahbojigaa
