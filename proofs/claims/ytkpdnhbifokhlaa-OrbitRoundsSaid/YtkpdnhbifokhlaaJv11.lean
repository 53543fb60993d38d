/- Proved here: what the texts Vmf prove, one behind the other. -/
import Derived.Test.YtkpdnhbifokhlaaJv10
import Derived.Test.YtkpdnhbifokhlaaJv9

namespace Go.Proofs.Ytkpdnhbifokhlaa
open Go.ChangeShapes Go.WideShapes Go.ChangeAt Go.RowKit Ieee.Own

theorem trig_abs7 {x s c : Nat} (A : Ang x) (T : Trig x s c) : (V s).natAbs ≤ 2 ^ 1100 ∧ (V c).natAbs ≤ 2 ^ 1100 := by
  obtain ⟨r, R, a, b⟩ := T.ex
  have N := (R.rest A).near
  have x1 := abs_up (k := 1075) (l := 1100) N.sw.abs (by omega)
  have x2 := abs_up (k := 1075) (l := 1100) N.cw.abs (by omega)
  generalize V (sinX r) = S at *
  generalize V (cosX r) = C at *
  have key : ∀ k, (vq k S C).natAbs ≤ 2 ^ 1100 := fun k => by
    unfold vq
    split
    · exact x1
    · split
      · exact x2
      · split
        · rw [Int.natAbs_neg]; exact x1
        · rw [Int.natAbs_neg]; exact x2
  rw [a, b]; exact ⟨key _, key _⟩
/-- the matrix that turns -/
def tM (a : Int) (s c n : Nat) : M9 := if a = 0 then ((oneW, 0, 0), (0, c, n), (0, s, c)) else if a = 1 then ((c, 0, s), (0, oneW, 0), (n, 0, c)) else ((c, n, 0), (s, c, 0), (0, 0, oneW))
theorem trig_ok {x s c : Nat} (A : Ang x) (T : Trig x s c) : (FinW s ∧ vnB (bW s) = true) ∧ (FinW c ∧ vnB (bW c) = true) ∧ (FinW (negW s) ∧ vnB (bW (negW s)) = true ∧ bW (negW s) = negN (bW s)) := by
  obtain ⟨b1, b2⟩ := trig_abs7 A T
  have f1 := T.sz.fin
  have f2 := T.cz.fin
  have f3 := negW_fin f1
  have v := negW_V f1
  refine ⟨⟨f1, vnB_bW f1 (abs_up (k := 1100) (l := 1134) b1 (by omega))⟩, ⟨f2, vnB_bW f2 (abs_up (k := 1100) (l := 1134) b2 (by omega))⟩, f3, vnB_bW f3 (abs_up (k := 1100) (l := 1134) (by rw [v, Int.natAbs_neg]; exact b1) (by omega)), ?_⟩
  obtain ⟨-, nz, nv⟩ := negN_spec (bW_nz f1).fin
  exact (bW_nz f3).uniq nz (by rw [nv, bW_opp f1 f3 v])
theorem one_fin7 : FinW oneW := by unfold FinW oneW; omega
theorem bW_one : bW oneW = oneW := by decide +kernel
theorem bW_zero : bW 0 = 0 := by decide +kernel
theorem in_one : vnB oneW = true := by decide +kernel
theorem in_zero : vnB 0 = true := by decide +kernel
set_option maxHeartbeats 4000000 in
set_option maxRecDepth 100000 in
theorem turned_told {x s c : Nat} (A : Ang x) (T : Trig x s c) (a : Int) : F9 (tM a s c (negW s)) ∧ toldM (tM a s c (negW s)) = (tM a (bW s) (bW c) (negN (bW s)), 0) := by
  obtain ⟨⟨f1, i1⟩, ⟨f2, i2⟩, f3, i3, e3⟩ := trig_ok A T
  have o := one_fin7
  have z := zero_fin
  have key : ∀ m : M9, fitM (bM m) = true → toldM m = (bM m, 0) := fun m h => if_pos h
  rw [e3] at i3
  unfold tM
  split
  · refine ⟨⟨⟨o, z, z⟩, ⟨z, f2, f3⟩, ⟨z, f1, f2⟩⟩, ?_⟩
    rw [key]
    · unfold bM bV; dsimp only; rw [bW_one, bW_zero, e3]
    · unfold fitM bM bV fitV; dsimp only; rw [bW_one, bW_zero, e3, in_one, in_zero, i1, i2, i3]; rfl
  · split
    · refine ⟨⟨⟨f2, z, f1⟩, ⟨z, o, z⟩, ⟨f3, z, f2⟩⟩, ?_⟩
      rw [key]
      · unfold bM bV; dsimp only; rw [bW_one, bW_zero, e3]
      · unfold fitM bM bV fitV; dsimp only; rw [bW_one, bW_zero, e3, in_one, in_zero, i1, i2, i3]; rfl
    · refine ⟨⟨⟨f2, f3, z⟩, ⟨f1, f2, z⟩, ⟨z, z, o⟩⟩, ?_⟩
      rw [key]
      · unfold bM bV; dsimp only; rw [bW_one, bW_zero, e3]
      · unfold fitM bM bV fitV; dsimp only; rw [bW_one, bW_zero, e3, in_one, in_zero, i1, i2, i3]; rfl
/-! ### what came in -/
end Go.Proofs.Ytkpdnhbifokhlaa
