/- Proved here: what the texts Vbt prove, one behind the other. -/
import Derived.Test.YtpdkciennccckaaJx4
import Derived.Test.YtpdkciennccckaaJx5
import Derived.Test.YtpdkciennccckaaJx6
import Derived.Test.YtpdkciennccckaaJx2
import Derived.Test.YtpdkciennccckaaJb9
import Derived.Test.YtpdkciennccckaaJr

namespace Go.Proofs.Ytpdkciennccckaa
open Go.ChangeShapes Go.WideShapes Go.ChangeAt Go.RowKit Ieee.Own Pol

theorem up60 {x : Nat} (m : Nat) (hm : 60 ≤ m) (h : (V x).natAbs ≤ 2 ^ 1134) : (V x).natAbs ≤ 2 ^ (1074 + m) := abs_up (k := 1134) (l := 1074 + m) h (by clear h; omega)
theorem Sn.w2 {p : Pr} {m : Nat} (h : Sn p m) : W2 p := ⟨h.l1, h.l2⟩
def BinC (f : FuncId) (p q u : Pr) : Prop := ∀ w, Calls Try.prog f #[.agg #[.float .f64 p.1, .float .f64 p.2], .agg #[.float .f64 q.1, .float .f64 q.2]] w fun e w' => e = .returned (.agg #[.float .f64 u.1, .float .f64 u.2]) ∧ Below w.heap.size w w'
set_option maxHeartbeats 4000000 in
set_option maxRecDepth 100000 in
theorem vmul7 {p q u : Pr} (hp : W2 p) (hq : W2 q) (R : MulR p q u) : BinC 77 p q u :=
  fun w => vsmul_shape (k := 0) (Lib.hid fun w => (smul_run p.1 p.2 q.1 q.2 hp.l1 hp.l2 hq.l1 hq.l2 w).mono fun _ _ h => ⟨OpAll.uniq h.1 R, h.2⟩) w
set_option maxHeartbeats 4000000 in
set_option maxRecDepth 100000 in
theorem vadd7 {p q u : Pr} (hp : W2 p) (hq : W2 q) (R : AddR p q u) : BinC 73 p q u :=
  fun w => vsadd_shape (k := 0) (Lib.hid fun w => (sadd_run p.1 p.2 q.1 q.2 hp.l1 hp.l2 hq.l1 hq.l2 w).mono fun _ _ h => ⟨h.1.all.uniq R.all, h.2⟩) w
set_option maxHeartbeats 4000000 in
set_option maxRecDepth 100000 in
theorem vsub7 {p q u : Pr} (hp : W2 p) (hq : W2 q) (R : SubQ p q u) : BinC 74 p q u :=
  fun w => vssub_shape (k := 0) (Lib.hid fun w => (ssub_run p.1 p.2 q.1 q.2 hp.l1 hp.l2 hq.l1 hq.l2 w).mono fun _ _ h => ⟨h.1.all.uniq R.all, h.2⟩) w
/-! ### what the turned box holds -/
structure Held (p : Pr) (t : Rat) : Prop where
  sn : Sn p 62
  i : In t (ps p)
theorem zero_w2 : W2 (0, 0) := ⟨by decide, by decide⟩
/-- how far a word lies off a span -/
structure By1 (p : Pr) (w : Nat) (S : Rat) : Prop where
  sn : Sn p 62
  lo : Q p.1 - Q w ≤ bnd S
  hi : Q w - Q p.2 ≤ bnd S
theorem By1.of {p : Pr} {w : Nat} {t S : Rat} (h : Held p t) (n : mag (Q w - t) ≤ bnd S) : By1 p w S := by
  obtain ⟨a, b⟩ := h.i
  replace a : Q p.1 ≤ t := a
  replace b : t ≤ Q p.2 := b
  have m := mag_le (Q w - t)
  refine ⟨h.sn, ?_, ?_⟩ <;> grind
end Go.Proofs.Ytpdkciennccckaa
