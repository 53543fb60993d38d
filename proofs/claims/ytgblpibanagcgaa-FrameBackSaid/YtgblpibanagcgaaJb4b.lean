/- Proved here: what the texts Sset, Thn, Sts prove, one behind the other. -/
import Derived.Test.YtgblpibanagcgaaJb4
import Derived.Test.YtgblpibanagcgaaJb3
import Derived.BigQuiet

namespace Go.Proofs.Ytgblpibanagcgaa
open Go.ChangeShapes Go.WideShapes Go.ChangeAt Go.RowKit Ieee.Own

/-! ### halves -/
/-! ### Hull, Meet -/
theorem pos_fit {x : Nat} (h : x < 18446744073709551616) (f : fitB x = true) : fitB (posW x) = true ∧ posW x < 18446744073709551616 := by
  have := posW_fin (fit_fin h f)
  exact ⟨(fit_iff this).2 (by rw [posW_V]; exact (fit_iff (fit_fin h f)).1 f), this.1⟩
theorem mn_fit {x y : Nat} (hx : x < 18446744073709551616) (hy : y < 18446744073709551616) (f : fitB x = true) (g : fitB y = true) : fitB (mnW x y) = true := by
  rcases (mnW_spec (fit_fin hx f) (fit_fin hy g)).1 with h | h <;> rw [h] <;> assumption
theorem mx_fit {x y : Nat} (hx : x < 18446744073709551616) (hy : y < 18446744073709551616) (f : fitB x = true) (g : fitB y = true) : fitB (mxW x y) = true := by
  rcases (mxW_spec (fit_fin hx f) (fit_fin hy g)).1 with h | h <;> rw [h] <;> assumption
theorem errS_fit {a b : Nat} (f1 : fitB a = true) (f2 : fitB b = true) : errS a b = if V b < V a then 5 else 0 := by unfold errS; rw [if_pos ⟨f1, f2⟩]
def meetB (a0 b0 a1 b1 : Nat) : Bool := decide (V (mxW a0 a1) ≤ V (mnW b0 b1))
def meetX (a0 b0 a1 b1 : Nat) : Nat := if meetB a0 b0 a1 b1 = true then posW (mxW a0 a1) else 0
def meetY (a0 b0 a1 b1 : Nat) : Nat := if meetB a0 b0 a1 b1 = true then posW (mnW b0 b1) else 0
section
variable {a0 b0 a1 b1 : Nat} (ha0 : a0 < 18446744073709551616) (hb0 : b0 < 18446744073709551616) (ha1 : a1 < 18446744073709551616) (hb1 : b1 < 18446744073709551616) (h0 : errSS a0 b0 a1 b1 = 0)
include ha0 hb0 ha1 hb1 h0
end

end Go.Proofs.Ytgblpibanagcgaa

namespace Go.Proofs.Ytgblpibanagcgaa
open Go.ChangeShapes Go.WideShapes Go.ChangeAt Go.RowKit Ieee.Own

theorem key_V {a b : Nat} (ha : FinW a) (hb : FinW b) : key64 a = key64 b ↔ V a = V b := by
  have h1 := V_lt_key ha hb
  have h2 := V_lt_key hb ha
  omega
/-! ### each operation, of single numbers -/
/-! ### thin -/
end Go.Proofs.Ytgblpibanagcgaa

namespace Go.Proofs.Ytgblpibanagcgaa
open Go.ChangeShapes Go.WideShapes Go.ChangeAt Go.RowKit Ieee.Own

structure Sets (a0 b0 a1 b1 : Nat) : Prop where
  la0 : a0 < 18446744073709551616
  lb0 : b0 < 18446744073709551616
  la1 : a1 < 18446744073709551616
  lb1 : b1 < 18446744073709551616
  e0 : errS a0 b0 = 0
  e1 : errS a1 b1 = 0
section
variable {a0 b0 a1 b1 : Nat} (T : Sets a0 b0 a1 b1)
include T
theorem Sets.meet_ok (h : meetB a0 b0 a1 b1 = true) : meetX a0 b0 a1 b1 = posW (mxW a0 a1) ∧ meetY a0 b0 a1 b1 = posW (mnW b0 b1) ∧ errS (meetX a0 b0 a1 b1) (meetY a0 b0 a1 b1) = 0 := by
  obtain ⟨f1, f2, le1⟩ := errS_zero T.e0
  obtain ⟨f3, f4, le2⟩ := errS_zero T.e1
  have c : V (mxW a0 a1) ≤ V (mnW b0 b1) := of_decide_eq_true h
  have p := pos_fit (mxW_fin (fit_fin T.la0 f1) (fit_fin T.la1 f3)).1 (mx_fit T.la0 T.la1 f1 f3)
  have q := pos_fit (mnW_fin (fit_fin T.lb0 f2) (fit_fin T.lb1 f4)).1 (mn_fit T.lb0 T.lb1 f2 f4)
  have ex : meetX a0 b0 a1 b1 = posW (mxW a0 a1) := by unfold meetX; rw [if_pos h]
  have ey : meetY a0 b0 a1 b1 = posW (mnW b0 b1) := by unfold meetY; rw [if_pos h]
  refine ⟨ex, ey, ?_⟩
  rw [ex, ey, errS_fit p.1 q.1, posW_V, posW_V, if_neg (by omega)]
theorem Sets.has (x : Nat) : (hasB a0 b0 x && hasB a1 b1 x) = (meetB a0 b0 a1 b1 && hasB (meetX a0 b0 a1 b1) (meetY a0 b0 a1 b1) x) := by
  obtain ⟨f1, f2, le1⟩ := errS_zero T.e0
  obtain ⟨f3, f4, le2⟩ := errS_zero T.e1
  have g1 := fit_fin T.la0 f1
  have g2 := fit_fin T.lb0 f2
  have g3 := fit_fin T.la1 f3
  have g4 := fit_fin T.lb1 f4
  obtain ⟨s1, s2, s3⟩ := mxW_spec g1 g3
  obtain ⟨t1, t2, t3⟩ := mnW_spec g2 g4
  -- the ends' places in the order
  have kx : key64 a0 ≤ key64 (mxW a0 a1) ∧ key64 a1 ≤ key64 (mxW a0 a1) := by
    have := V_lt_key (mxW_fin g1 g3) g1
    have := V_lt_key (mxW_fin g1 g3) g3
    omega
  have ky : key64 (mnW b0 b1) ≤ key64 b0 ∧ key64 (mnW b0 b1) ≤ key64 b1 := by
    have := V_lt_key g2 (mnW_fin g2 g4)
    have := V_lt_key g4 (mnW_fin g2 g4)
    omega
  have kx2 : key64 (mxW a0 a1) = key64 a0 ∨ key64 (mxW a0 a1) = key64 a1 := by rcases s1 with h | h <;> rw [h] <;> simp
  have ky2 : key64 (mnW b0 b1) = key64 b0 ∨ key64 (mnW b0 b1) = key64 b1 := by rcases t1 with h | h <;> rw [h] <;> simp
  rw [Bool.eq_iff_iff]
  simp only [Bool.and_eq_true]
  by_cases h : meetB a0 b0 a1 b1 = true
  · obtain ⟨ex, ey, e⟩ := T.meet_ok h
    have px : key64 (posW (mxW a0 a1)) = key64 (mxW a0 a1) := (key_V (posW_fin (mxW_fin g1 g3)) (mxW_fin g1 g3)).2 (posW_V _)
    have py : key64 (posW (mnW b0 b1)) = key64 (mnW b0 b1) := (key_V (posW_fin (mnW_fin g2 g4)) (mnW_fin g2 g4)).2 (posW_V _)
    rw [ex, ey] at e
    rw [ex, ey]
    unfold hasB
    simp only [decide_eq_true_eq]
    rw [px, py]
    constructor
    · rintro ⟨⟨-, n, h1, h2⟩, -, -, h3, h4⟩
      exact ⟨h, e, n, by omega, by omega⟩
    · rintro ⟨-, -, n, h1, h2⟩
      exact ⟨⟨T.e0, n, by omega, by omega⟩, T.e1, n, by omega, by omega⟩
  · have c : ¬ V (mxW a0 a1) ≤ V (mnW b0 b1) := fun hh => h (decide_eq_true hh)
    have k := (V_lt_key (mnW_fin g2 g4) (mxW_fin g1 g3)).1 (by omega)
    unfold hasB
    simp only [decide_eq_true_eq]
    constructor
    · rintro ⟨⟨-, n, h1, h2⟩, -, -, h3, h4⟩
      omega
    · rintro ⟨hh, -⟩; exact absurd hh h
end
end Go.Proofs.Ytgblpibanagcgaa
