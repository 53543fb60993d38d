/- Proved here: hulls hold both, meets lie in both and hold what lies in both, in plain numbers. -/
import Derived.Test.YtkfagpahbojigaaSset
import Derived.Test.YtkfagpahbojigaaThn
namespace Go.Proofs.Ytkfagpahbojigaa
open Go.ChangeShapes Go.WideShapes Go.ChangeAt Go.RowKit Ieee.Own

structure Sets (a0 b0 a1 b1 : Nat) : Prop where
  la0 : a0 < 18446744073709551616
  lb0 : b0 < 18446744073709551616
  la1 : a1 < 18446744073709551616
  lb1 : b1 < 18446744073709551616
  e0 : errS a0 b0 = 0
  e1 : errS a1 b1 = 0
section
variable {a0 b0 a1 b1 : Nat} (T : Sets a0 b0 a1 b1)
include T
theorem Sets.both : errSS a0 b0 a1 b1 = 0 := errSS_of T.e0 T.e1
theorem Sets.flip : Sets a1 b1 a0 b0 := ⟨T.la1, T.lb1, T.la0, T.lb0, T.e1, T.e0⟩
theorem Sets.ins : insB a0 b0 a1 b1 = decide (V a1 ≤ V a0 ∧ V b0 ≤ V b1) := by
  unfold insB
  rw [decide_eq_decide]
  exact ⟨fun h => h.2, fun h => ⟨T.both, h⟩⟩
theorem Sets.hull : (posW (mnW a0 a1) < 18446744073709551616 ∧ posW (mxW b0 b1) < 18446744073709551616) ∧ insB a0 b0 (posW (mnW a0 a1)) (posW (mxW b0 b1)) = true ∧ insB a1 b1 (posW (mnW a0 a1)) (posW (mxW b0 b1)) = true := by
  obtain ⟨f1, f2, le1⟩ := errS_zero T.e0
  obtain ⟨f3, f4, le2⟩ := errS_zero T.e1
  have s1 := mnW_spec (fit_fin T.la0 f1) (fit_fin T.la1 f3)
  have s2 := mxW_spec (fit_fin T.lb0 f2) (fit_fin T.lb1 f4)
  obtain ⟨p1, p2⟩ := pos_fit (mnW_fin (fit_fin T.la0 f1) (fit_fin T.la1 f3)).1 (mn_fit T.la0 T.la1 f1 f3)
  obtain ⟨q1, q2⟩ := pos_fit (mxW_fin (fit_fin T.lb0 f2) (fit_fin T.lb1 f4)).1 (mx_fit T.lb0 T.lb1 f2 f4)
  have e : errS (posW (mnW a0 a1)) (posW (mxW b0 b1)) = 0 := by rw [errS_fit p1 q1, posW_V, posW_V, if_neg (by omega)]
  refine ⟨⟨p2, q2⟩, ?_, ?_⟩
  · rw [(Sets.mk T.la0 T.lb0 p2 q2 T.e0 e).ins, posW_V, posW_V]; exact decide_eq_true ⟨by omega, by omega⟩
  · rw [(Sets.mk T.la1 T.lb1 p2 q2 T.e1 e).ins, posW_V, posW_V]; exact decide_eq_true ⟨by omega, by omega⟩
theorem Sets.meet_lt : meetX a0 b0 a1 b1 < 18446744073709551616 ∧ meetY a0 b0 a1 b1 < 18446744073709551616 := by
  obtain ⟨f1, f2, le1⟩ := errS_zero T.e0
  obtain ⟨f3, f4, le2⟩ := errS_zero T.e1
  have p := posW_fin (mxW_fin (fit_fin T.la0 f1) (fit_fin T.la1 f3))
  have q := posW_fin (mnW_fin (fit_fin T.lb0 f2) (fit_fin T.lb1 f4))
  unfold meetX meetY
  constructor <;> split
  · exact p.1
  · decide
  · exact q.1
  · decide
theorem Sets.meet_ok (h : meetB a0 b0 a1 b1 = true) : meetX a0 b0 a1 b1 = posW (mxW a0 a1) ∧ meetY a0 b0 a1 b1 = posW (mnW b0 b1) ∧ errS (meetX a0 b0 a1 b1) (meetY a0 b0 a1 b1) = 0 := by
  obtain ⟨f1, f2, le1⟩ := errS_zero T.e0
  obtain ⟨f3, f4, le2⟩ := errS_zero T.e1
  have c : V (mxW a0 a1) ≤ V (mnW b0 b1) := of_decide_eq_true h
  have p := pos_fit (mxW_fin (fit_fin T.la0 f1) (fit_fin T.la1 f3)).1 (mx_fit T.la0 T.la1 f1 f3)
  have q := pos_fit (mnW_fin (fit_fin T.lb0 f2) (fit_fin T.lb1 f4)).1 (mn_fit T.lb0 T.lb1 f2 f4)
  have ex : meetX a0 b0 a1 b1 = posW (mxW a0 a1) := by unfold meetX; rw [if_pos h]
  have ey : meetY a0 b0 a1 b1 = posW (mnW b0 b1) := by unfold meetY; rw [if_pos h]
  refine ⟨ex, ey, ?_⟩
  rw [ex, ey, errS_fit p.1 q.1, posW_V, posW_V, if_neg (by omega)]
theorem Sets.meet_in (h : meetB a0 b0 a1 b1 = true) : insB (meetX a0 b0 a1 b1) (meetY a0 b0 a1 b1) a0 b0 = true ∧ insB (meetX a0 b0 a1 b1) (meetY a0 b0 a1 b1) a1 b1 = true := by
  obtain ⟨f1, f2, le1⟩ := errS_zero T.e0
  obtain ⟨f3, f4, le2⟩ := errS_zero T.e1
  have s1 := mxW_spec (fit_fin T.la0 f1) (fit_fin T.la1 f3)
  have s2 := mnW_spec (fit_fin T.lb0 f2) (fit_fin T.lb1 f4)
  obtain ⟨ex, ey, e⟩ := T.meet_ok h
  obtain ⟨p2, q2⟩ := T.meet_lt
  constructor
  · rw [(Sets.mk p2 q2 T.la0 T.lb0 e T.e0).ins, ex, ey, posW_V, posW_V]; exact decide_eq_true ⟨by omega, by omega⟩
  · rw [(Sets.mk p2 q2 T.la1 T.lb1 e T.e1).ins, ex, ey, posW_V, posW_V]; exact decide_eq_true ⟨by omega, by omega⟩
theorem Sets.has (x : Nat) : (hasB a0 b0 x && hasB a1 b1 x) = (meetB a0 b0 a1 b1 && hasB (meetX a0 b0 a1 b1) (meetY a0 b0 a1 b1) x) := by
  obtain ⟨f1, f2, le1⟩ := errS_zero T.e0
  obtain ⟨f3, f4, le2⟩ := errS_zero T.e1
  have g1 := fit_fin T.la0 f1
  have g2 := fit_fin T.lb0 f2
  have g3 := fit_fin T.la1 f3
  have g4 := fit_fin T.lb1 f4
  obtain ⟨s1, s2, s3⟩ := mxW_spec g1 g3
  obtain ⟨t1, t2, t3⟩ := mnW_spec g2 g4
  -- the ends' places in the order
  have kx : key64 a0 ≤ key64 (mxW a0 a1) ∧ key64 a1 ≤ key64 (mxW a0 a1) := by
    have := V_lt_key (mxW_fin g1 g3) g1
    have := V_lt_key (mxW_fin g1 g3) g3
    omega
  have ky : key64 (mnW b0 b1) ≤ key64 b0 ∧ key64 (mnW b0 b1) ≤ key64 b1 := by
    have := V_lt_key g2 (mnW_fin g2 g4)
    have := V_lt_key g4 (mnW_fin g2 g4)
    omega
  have kx2 : key64 (mxW a0 a1) = key64 a0 ∨ key64 (mxW a0 a1) = key64 a1 := by rcases s1 with h | h <;> rw [h] <;> simp
  have ky2 : key64 (mnW b0 b1) = key64 b0 ∨ key64 (mnW b0 b1) = key64 b1 := by rcases t1 with h | h <;> rw [h] <;> simp
  rw [Bool.eq_iff_iff]
  simp only [Bool.and_eq_true]
  by_cases h : meetB a0 b0 a1 b1 = true
  · obtain ⟨ex, ey, e⟩ := T.meet_ok h
    have px : key64 (posW (mxW a0 a1)) = key64 (mxW a0 a1) := (key_V (posW_fin (mxW_fin g1 g3)) (mxW_fin g1 g3)).2 (posW_V _)
    have py : key64 (posW (mnW b0 b1)) = key64 (mnW b0 b1) := (key_V (posW_fin (mnW_fin g2 g4)) (mnW_fin g2 g4)).2 (posW_V _)
    rw [ex, ey] at e
    rw [ex, ey]
    unfold hasB
    simp only [decide_eq_true_eq]
    rw [px, py]
    constructor
    · rintro ⟨⟨-, n, h1, h2⟩, -, -, h3, h4⟩
      exact ⟨h, e, n, by omega, by omega⟩
    · rintro ⟨-, -, n, h1, h2⟩
      exact ⟨⟨T.e0, n, by omega, by omega⟩, T.e1, n, by omega, by omega⟩
  · have c : ¬ V (mxW a0 a1) ≤ V (mnW b0 b1) := fun hh => h (decide_eq_true hh)
    have k := (V_lt_key (mnW_fin g2 g4) (mxW_fin g1 g3)).1 (by omega)
    unfold hasB
    simp only [decide_eq_true_eq]
    constructor
    · rintro ⟨⟨-, n, h1, h2⟩, -, -, h3, h4⟩
      omega
    · rintro ⟨hh, -⟩; exact absurd hh h
theorem Sets.same : (insB a0 b0 a1 b1 && insB a1 b1 a0 b0) = (decide (V a0 = V a1) && decide (V b0 = V b1)) := by
  rw [T.ins, T.flip.ins, Bool.eq_iff_iff]
  simp only [Bool.and_eq_true, decide_eq_true_eq]
  omega
end
theorem ins_err {a0 b0 a1 b1 : Nat} (h : errS a0 b0 ≠ 0 ∨ errS a1 b1 ≠ 0) : insB a0 b0 a1 b1 = false := by
  unfold insB
  rw [decide_eq_false]
  rintro ⟨hh, -⟩
  obtain ⟨e1, e2⟩ := errSS_zero hh
  omega
end Go.Proofs.Ytkfagpahbojigaa
