/- Proved here: Go's min and max of up to four numbers of binary64, none of them a NaN: one of them, and none is below it, or above. -/
import Derived.Test.YtkfagpahbojigaaSpr
namespace Go.Proofs.Ytkfagpahbojigaa
open Go.ChangeShapes Go.WideShapes Go.ChangeAt Go.RowKit Ieee.Own

def mxW (x y : Nat) : Nat := match FloatKind.f64.format.order x y with
  | some .lt => y
  | some .gt => x
  | _ => if (FloatKind.f64.decode x).neg then y else x
def mnW (x y : Nat) : Nat := match FloatKind.f64.format.order x y with
  | some .lt => x
  | some .gt => y
  | _ => if (FloatKind.f64.decode x).neg then x else y
theorem order_some {x y : Nat} (hx : FinW x) (hy : FinW y) : ∃ o, FloatKind.f64.format.order x y = some o := ⟨_, order64 x y hx.1 hy.1 (fin_nn hx) (fin_nn hy)⟩
theorem max2_any {P : Program} {x y : Nat} (hx : FinW x) (hy : FinW y) (w : World) : (Builtin.max2 (.float .f64 x) (.float .f64 y)).run P w = .ok (.float .f64 (mxW x y)) w := by
  obtain ⟨o, h⟩ := order_some hx hy
  unfold Builtin.max2 mxW
  simp only [h]
  cases o <;> rfl
theorem min2_any {P : Program} {x y : Nat} (hx : FinW x) (hy : FinW y) (w : World) : (Builtin.min2 (.float .f64 x) (.float .f64 y)).run P w = .ok (.float .f64 (mnW x y)) w := by
  obtain ⟨o, h⟩ := order_some hx hy
  unfold Builtin.min2 mnW
  simp only [h]
  cases o <;> rfl
theorem order_V {x y : Nat} (hx : FinW x) (hy : FinW y) : (FloatKind.f64.format.order x y = some .lt ↔ V x < V y) ∧ (FloatKind.f64.format.order x y = some .gt ↔ V y < V x) := by
  have a := lt_words hx hy
  have b := gt_words hx hy
  constructor
  · constructor
    · intro h; rw [h] at a; exact of_decide_eq_true (a.symm.trans rfl)
    · intro h; rw [decide_eq_true h] at a; exact eq_of_beq a
  · constructor
    · intro h; rw [h] at b; exact of_decide_eq_true (b.symm.trans rfl)
    · intro h; rw [decide_eq_true h] at b; exact eq_of_beq b
theorem mxW_spec {x y : Nat} (hx : FinW x) (hy : FinW y) : (mxW x y = x ∨ mxW x y = y) ∧ V x ≤ V (mxW x y) ∧ V y ≤ V (mxW x y) := by
  obtain ⟨o, h⟩ := order_some hx hy
  obtain ⟨a, b⟩ := order_V hx hy
  unfold mxW
  rw [h] at a b ⊢
  cases o with
  | lt => have := a.1 rfl; exact ⟨Or.inr rfl, by show V x ≤ V y; omega, Int.le_refl _⟩
  | gt => have := b.1 rfl; exact ⟨Or.inl rfl, Int.le_refl _, by show V y ≤ V x; omega⟩
  | eq =>
    have n1 : ¬ V x < V y := fun h => by have := a.2 h; simp at this
    have n2 : ¬ V y < V x := fun h => by have := b.2 h; simp at this
    show ((if _ then y else x) = x ∨ (if _ then y else x) = y) ∧ V x ≤ V (if _ then y else x) ∧ V y ≤ V (if _ then y else x)
    split
    · exact ⟨Or.inr rfl, by omega, by omega⟩
    · exact ⟨Or.inl rfl, by omega, by omega⟩
theorem mnW_spec {x y : Nat} (hx : FinW x) (hy : FinW y) : (mnW x y = x ∨ mnW x y = y) ∧ V (mnW x y) ≤ V x ∧ V (mnW x y) ≤ V y := by
  obtain ⟨o, h⟩ := order_some hx hy
  obtain ⟨a, b⟩ := order_V hx hy
  unfold mnW
  rw [h] at a b ⊢
  cases o with
  | lt => have := a.1 rfl; exact ⟨Or.inl rfl, Int.le_refl _, by show V x ≤ V y; omega⟩
  | gt => have := b.1 rfl; exact ⟨Or.inr rfl, by show V y ≤ V x; omega, Int.le_refl _⟩
  | eq =>
    have n1 : ¬ V x < V y := fun h => by have := a.2 h; simp at this
    have n2 : ¬ V y < V x := fun h => by have := b.2 h; simp at this
    show ((if _ then x else y) = x ∨ (if _ then x else y) = y) ∧ V (if _ then x else y) ≤ V x ∧ V (if _ then x else y) ≤ V y
    split
    · exact ⟨Or.inl rfl, by omega, by omega⟩
    · exact ⟨Or.inr rfl, by omega, by omega⟩
theorem mxW_fin {x y : Nat} (hx : FinW x) (hy : FinW y) : FinW (mxW x y) := by
  rcases (mxW_spec hx hy).1 with h | h <;> rw [h] <;> assumption
theorem mnW_fin {x y : Nat} (hx : FinW x) (hy : FinW y) : FinW (mnW x y) := by
  rcases (mnW_spec hx hy).1 with h | h <;> rw [h] <;> assumption
section
variable {P : Program} {x y z u : Nat} (hx : FinW x) (hy : FinW y) (hz : FinW z) (hu : FinW u) (ts : Array TypeId) (t : TypeId) (w : World)
include hx hy
theorem run_maxf2 : (Builtin.max_ ts t #[.float .f64 x, .float .f64 y]).run P w = .ok (.float .f64 (mxW x y)) w := by
  simp [Builtin.max_, max2_any hx hy]
theorem run_minf2 : (Builtin.min_ ts t #[.float .f64 x, .float .f64 y]).run P w = .ok (.float .f64 (mnW x y)) w := by
  simp [Builtin.min_, min2_any hx hy]
include hz
theorem run_maxf3 : (Builtin.max_ ts t #[.float .f64 x, .float .f64 y, .float .f64 z]).run P w = .ok (.float .f64 (mxW (mxW x y) z)) w := by
  simp [Builtin.max_, Sem.run_bind, max2_any hx hy, max2_any (mxW_fin hx hy) hz]
theorem run_minf3 : (Builtin.min_ ts t #[.float .f64 x, .float .f64 y, .float .f64 z]).run P w = .ok (.float .f64 (mnW (mnW x y) z)) w := by
  simp [Builtin.min_, Sem.run_bind, min2_any hx hy, min2_any (mnW_fin hx hy) hz]
include hu
theorem run_maxf4 : (Builtin.max_ ts t #[.float .f64 x, .float .f64 y, .float .f64 z, .float .f64 u]).run P w = .ok (.float .f64 (mxW (mxW (mxW x y) z) u)) w := by
  simp [Builtin.max_, Sem.run_bind, max2_any hx hy, max2_any (mxW_fin hx hy) hz, max2_any (mxW_fin (mxW_fin hx hy) hz) hu]
theorem run_minf4 : (Builtin.min_ ts t #[.float .f64 x, .float .f64 y, .float .f64 z, .float .f64 u]).run P w = .ok (.float .f64 (mnW (mnW (mnW x y) z) u)) w := by
  simp [Builtin.min_, Sem.run_bind, min2_any hx hy, min2_any (mnW_fin hx hy) hz, min2_any (mnW_fin (mnW_fin hx hy) hz) hu]
end
end Go.Proofs.Ytkfagpahbojigaa
