/- Proved here: what the texts Frr, Frs, Frt prove, one behind the other. -/
import Derived.Test.YtdfcchocabapkaaGreatJy11
import Derived.Test.YtdfcchocabapkaaGreatJy6
import Derived.Test.YtdfcchocabapkaaGreatJy9
import Derived.Test.YtdfcchocabapkaaGreatJx1
import Derived.Test.YtdfcchocabapkaaGreatJb8

set_option maxRecDepth 100000
namespace Go.Proofs.YtdfcchocabapkaaGreat
open Go.ChangeShapes Go.WideShapes Go.ChangeAt Go.RowKit Ieee.Own Pol Fma



theorem trig_off {x s c : Nat} (A : Ang x) (T : Trig x s c) : mag (Q (bW s) - SQ x) ≤ 9 * uR ∧ mag (Q (bW c) - CQ x) ≤ 9 * uR ∧ mag (SQ x) ≤ 1 ∧ mag (CQ x) ≤ 1 := by
 obtain ⟨r, R⟩ := rst_ex A
 obtain ⟨q1, q2⟩ := SQ_of R
 obtain ⟨n1, n2⟩ := trig_true A T R
 have bd := (R.rest A).Q_bd
 have tp := Ply.top_mul bd.1 bd.2
 have o1 := Ply.sq_le_one tp.1 tp.2 (kq eig (V x))
 have o2 := Ply.sq_le_one tp.1 tp.2 (kq eig (V x) + 1)
 rw [q1, q2]
 have k : sm + 8 * uR ≤ 9 * uR := by decide +kernel
 exact ⟨Rat.le_trans n1 k, Rat.le_trans n2 k, mag_of o1.1 o1.2, mag_of o2.1 o2.2⟩
theorem off_lim {p : Pr} {y lm : Nat} {z e : Rat} (S : Sn p 63) (hy : Wd y 822 1134) (fl : FinW lm) (i : In z (ps p)) (h : mag (Q y - z) ≤ e) (hl : e ≤ Q lm) :
 ∃ o, ((FloatKind.f64.format.order o lm == some Ordering.lt || FloatKind.f64.format.order o lm == some Ordering.eq) = true) ∧ ∀ w, Calls Tryz.prog 47 #[.agg #[.float .f64 p.1, .float .f64 p.2], .float .f64 y] w fun e w' => e = .returned (.float .f64 o) ∧ Below w.heap.size w w' := by
 obtain ⟨f1, f2, -⟩ := S.fits
 obtain ⟨b1, b2⟩ := S.bd
 obtain ⟨a1, a2, a0⟩ := mag_le (Q y - z)
 have i1 : Q p.1 ≤ z := i.1
 have i2 : z ≤ Q p.2 := i.2
 have e1 := diff_le7 (a := p.1) (b := y) (c := lm) (by grind)
 have e2 := diff_le7 (a := y) (b := p.2) (c := lm) (by grind)
 have n0 : 0 ≤ V lm := by
  have := (Q_le (a := 0) (b := lm)).1 (by rw [Q0]; exact Rat.le_trans a0 (Rat.le_trans h hl))
  rwa [V_zero] at this
 obtain ⟨o, fo, ho, C⟩ := off_any (fit_fin S.l1 f1) (fit_fin S.l2 f2) hy.fin (abs_up (k := 1074 + 63) (l := 1400) b1 (by omega)) (abs_up (k := 1074 + 63) (l := 1400) b2 (by omega)) (abs_up (k := 1134) (l := 1400) hy.abs (by omega))
 have le := ho _ n0 e1 e2
 rw [RN_exact (Rep_V _)] at le
 have w := le_words fo fl
 rw [decide_eq_true le] at w
 exact ⟨o, w, C⟩
end Go.Proofs.YtdfcchocabapkaaGreat
