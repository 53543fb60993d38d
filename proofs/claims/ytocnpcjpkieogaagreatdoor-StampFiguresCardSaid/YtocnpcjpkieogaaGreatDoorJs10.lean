/- Proved here: what the texts Sqr prove, one behind the other. -/
import Derived.Test.YtocnpcjpkieogaaGreatDoorJs7
import Derived.Test.YtocnpcjpkieogaaGreatDoorJs1
import Derived.Test.YtocnpcjpkieogaaGreatDoorJs9
import Derived.BigQuiet

namespace Go.Proofs.YtocnpcjpkieogaaGreatDoor
open Go.ChangeShapes Go.WideShapes Go.ChangeAt Go.RowKit

theorem exJ_move {P : Program} {ρ : Operand → Value} {o : Oper} {x : Operand} {v : Value} (w : World) (ho : o.op = .move x) (h : ρ x = v) : (execOp ρ o).run P w = .ok (.value v) w := by
  unfold execOp; rw [ho]; simp [h]
theorem exJ_assign {P : Program} {ρ : Operand → Value} {o : Oper} {x : Operand} {v : Value} (w : World) (ho : o.op = .assign x) (h : ρ x = v) : (execOp ρ o).run P w = .ok (.value v) w := by
  unfold execOp; rw [ho]; simp [h]
theorem str_app (a b : List Int) : strOfNums a ++ strOfNums b = strOfNums (a ++ b) := by
  apply ByteArray.ext
  simp [strOfNums]
/-- a block of cells that stays -/
def PB (g : Nat) (l : Array Value) (w : World) : Prop := g < w.heap.size ∧ ∀ j, w.cell? ⟨g, j, none⟩ = l[j]?
theorem PB.on {g : Nat} {l : Array Value} {w w' : World} (h : PB g l w) (hb : Below w.heap.size w w') : PB g l w' :=
  ⟨Nat.lt_of_lt_of_le h.1 hb.size, fun j => (hb.cell (p := ⟨g, j, none⟩) h.1).trans (h.2 j)⟩
theorem PB.alloc {g : Nat} {l : Array Value} {w : World} (h : PB g l w) (o : Obj) : PB g l (w.alloc o) :=
  ⟨by have := h.1; simp; omega, fun j => by rw [World.cell?_alloc_past _ _ _ h.1]; exact h.2 j⟩
theorem PB.first (w : World) (l : Array Value) (T : TypeId) : PB w.heap.size l (w.alloc (.cells l T)) :=
  ⟨by simp, fun j => World.cell?_alloc_at _ _ _ _ rfl⟩
theorem PB.drewN {g : Nat} {l : Array Value} {w : World} (h : PB g l w) (n : Nat) : PB g l (w.drewN n) := ⟨h.1, h.2⟩
def prV (t : Int) : Value := if isI t = true then .tuple #[.string (strOfNums (stampL t)), .int .i64 0] else .tuple #[.string (strOfNums []), .int .i64 80]
theorem prV_t {t : Int} (h : isI t = true) : prV t = .tuple #[.string (strOfNums (stampL t)), .int .i64 0] := if_pos h
theorem prV_f {t : Int} (h : isI t = false) : prV t = .tuple #[.string (strOfNums []), .int .i64 80] := if_neg (by rw [h]; decide)
end Go.Proofs.YtocnpcjpkieogaaGreatDoor
