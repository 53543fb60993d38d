/- Proved here: what the texts Oma, Omc, Omd, Ome, Omf, Omg, Omh, Omi, Omj, Omk prove, one behind the other. -/
import Derived.Test.YtgnofnjbmiepjaaGreatJm
import Derived.Test.YtgnofnjbmiepjaaGreatJb6
import Derived.Test.YtgnofnjbmiepjaaGreatJy9
import Derived.Test.YtgnofnjbmiepjaaGreatJy11
import Derived.Test.YtgnofnjbmiepjaaGreatJy3
import Derived.Test.YtgnofnjbmiepjaaGreatJy1
import Derived.Test.YtgnofnjbmiepjaaGreatJv1

namespace Ply

theorem Lip.le {f : Rat → Rat} {a b L M : Rat} (h : Lip f a b L) (k : L ≤ M) : Lip f a b M := by
 intro x y h1 h2 h3
 have u := h x y h1 h2 h3
 have a : 0 ≤ (M - L) * (y - x) := Rat.mul_nonneg (by grind) (by grind)
 constructor <;> grind
theorem Lip.neg {f : Rat → Rat} {a b L : Rat} (h : Lip f a b L) : Lip (fun x => -f x) a b L := by
 intro x y h1 h2 h3
 have u := h x y h1 h2 h3
 constructor <;> grind
end Ply

namespace Go.Proofs.YtgnofnjbmiepjaaGreat
open Ieee Ieee.Own

end Go.Proofs.YtgnofnjbmiepjaaGreat

namespace Ply

end Ply

namespace Go.Proofs.YtgnofnjbmiepjaaGreat
open Go.ChangeShapes Go.WideShapes Go.ChangeAt Go.RowKit Ieee.Own Pol Fma

end Go.Proofs.YtgnofnjbmiepjaaGreat

namespace Go.Proofs.YtgnofnjbmiepjaaGreat
open Go.ChangeShapes Go.WideShapes Go.ChangeAt Go.RowKit Ieee.Own Pol Fma

def fnW (x : Nat) : Nat := if fitB x = true then x else 0
theorem zero_ang : Ang 0 := ⟨by unfold FinW; omega, by rw [V_zero]; exact Int.dvd_zero _, by rw [V_zero]; exact Nat.zero_le _⟩
theorem ang_trig {x : Nat} (A : Ang x) : Trig x (tS x) (tC x) := by
 obtain ⟨r, R⟩ := rst_ex A
 exact trig_ex ⟨_, _, Trig.own A R⟩
end Go.Proofs.YtgnofnjbmiepjaaGreat

namespace Fma
open Go.Proofs.YtgnofnjbmiepjaaGreat Pol

theorem Far.le {p : R3} {A B : Rat} (h : Far p A) (b0 : 0 ≤ B) (k : B ≤ A) : Far p B := ⟨b0, Rat.le_trans (sq_mono b0 k) h.2⟩
theorem Far.add {p q : R3} {B D : Rat} (hp : Far p B) (hq : Len q D) (h : D ≤ B) : Far (addQ p q) (B - D) := by
 refine ⟨by grind, ?_⟩
 obtain ⟨b0, hp⟩ := hp
 obtain ⟨d0, hq⟩ := hq
 by_cases z : D = 0
 · subst z
   have q0 : nsq q = 0 := by have := nsq_nn q; grind
   have q1 : q.1 * q.1 = 0 ∧ q.2.1 * q.2.1 = 0 ∧ q.2.2 * q.2.2 = 0 := by
    have a := sq_nn q.1
    have b := sq_nn q.2.1
    have c := sq_nn q.2.2
    unfold nsq at q0
    refine ⟨?_, ?_, ?_⟩ <;> grind
   have z1 : q.1 = 0 := by rcases Rat.mul_eq_zero.1 q1.1 with h | h <;> exact h
   have z2 : q.2.1 = 0 := by rcases Rat.mul_eq_zero.1 q1.2.1 with h | h <;> exact h
   have z3 : q.2.2 = 0 := by rcases Rat.mul_eq_zero.1 q1.2.2 with h | h <;> exact h
   unfold nsq addQ at *
   dsimp only
   rw [z1, z2, z3]
   grind
 · have dp : 0 < D := by grind
   have bp : 0 < B := by grind
   obtain ⟨l, hl⟩ : ∃ l, l = D / B := ⟨_, rfl⟩
   obtain ⟨m, hm⟩ : ∃ m, m = B / D := ⟨_, rfl⟩
   have lB : l * B = D := by rw [hl]; exact Rat.div_mul_cancel (by grind)
   have mD : m * D = B := by rw [hm]; exact Rat.div_mul_cancel (by grind)
   have l0 : 0 ≤ l := by
    rw [hl, Rat.div_def]; exact Rat.mul_nonneg d0 (Rat.le_of_lt (Rat.inv_pos.2 bp))
   have m0 : 0 ≤ m := by
    rw [hm, Rat.div_def]; exact Rat.mul_nonneg b0 (Rat.le_of_lt (Rat.inv_pos.2 dp))
   have lm : l * m = 1 := by
    have e : (l * m) * D = 1 * D := by rw [Rat.mul_assoc, mD, lB, Rat.one_mul]
    have := congrArg (· * D⁻¹) e
    simpa only [Rat.mul_assoc, Rat.mul_inv_cancel _ z, Rat.mul_one] using this
   have l1 : l ≤ 1 := Rat.le_of_mul_le_mul_right (by rw [lB, Rat.one_mul]; exact h) bp
   have a1 := amgm (x := p.1) (y := q.1) lm l0
   have a2 := amgm (x := p.2.1) (y := q.2.1) lm l0
   have a3 := amgm (x := p.2.2) (y := q.2.2) lm l0
   have m1 : 1 ≤ m := by
    have := Rat.mul_nonneg (show 0 ≤ 1 - l by grind) m0
    have e1 : (1 - l) * m = m - l * m := by grind
    rw [e1, lm] at this
    grind
   have k1 := Rat.mul_nonneg (show 0 ≤ 1 - l by grind) (show 0 ≤ nsq p - B * B by grind)
   have k2 := Rat.mul_nonneg (show 0 ≤ m - 1 by grind) (show 0 ≤ D * D - nsq q by grind)
   have key : nsq (addQ p q) = nsq p + nsq q + (2 * (p.1 * q.1) + 2 * (p.2.1 * q.2.1) + 2 * (p.2.2 * q.2.2)) := by unfold nsq addQ; grind
   have s1 : l * (p.1 * p.1) + m * (q.1 * q.1) + (l * (p.2.1 * p.2.1) + m * (q.2.1 * q.2.1)) + (l * (p.2.2 * p.2.2) + m * (q.2.2 * q.2.2)) = l * nsq p + m * nsq q := by unfold nsq; grind
   have t1 : (1 - l) * (nsq p - B * B) = nsq p - l * nsq p - B * B + D * B := by rw [← lB]; grind
   have t2 : (m - 1) * (D * D - nsq q) = B * D - D * D - m * nsq q + nsq q := by rw [← mD]; grind
   rw [t1] at k1
   rw [t2] at k2
   rw [key]
   generalize nsq p = np at *
   generalize nsq q = nq at *
   generalize l * np = X at *
   generalize m * nq = Y at *
   have e3 : (B - D) * (B - D) = B * B - 2 * (D * B) + D * D := by grind
   have e4 : B * D = D * B := by grind
   rw [e3]
   rw [e4] at k2
   generalize B * B = BB at *
   generalize D * D = DD at *
   generalize D * B = DB at *
   grind
end Fma

namespace Go.Proofs.YtgnofnjbmiepjaaGreat
open Go.ChangeShapes Go.WideShapes Go.ChangeAt Go.RowKit Ieee.Own Pol Fma

end Go.Proofs.YtgnofnjbmiepjaaGreat

namespace Fma
open Go.Proofs.YtgnofnjbmiepjaaGreat Pol

end Fma

namespace Go.Proofs.YtgnofnjbmiepjaaGreat
open Go.ChangeShapes Go.WideShapes Go.ChangeAt Go.RowKit Ieee.Own Pol Fma

theorem trig_wd {x : Nat} (A : Ang x) : Wd (tS x) 768 1075 ∧ Wd (tC x) 768 1075 := by
 obtain ⟨⟨r, R, e, f⟩, sz, cz⟩ := ang_trig A
 have s := (R.rest A).sin_wd
 have c := (R.rest A).cos_wd
 have d : ∀ k : Int, (2 : Int) ^ 768 ∣ vq k (V (sinX r)) (V (cosX r)) ∧ (vq k (V (sinX r)) (V (cosX r))).natAbs ≤ 2 ^ 1075 := fun k => by
  have := s.abs
  have := c.abs
  unfold vq
  repeat' split
  · exact ⟨s.dvd, by omega⟩
  · exact ⟨c.dvd, by omega⟩
  · exact ⟨Int.dvd_neg.2 s.dvd, by omega⟩
  · exact ⟨Int.dvd_neg.2 c.dvd, by omega⟩
 exact ⟨⟨sz.fin, by rw [e]; exact (d _).1, by rw [e]; exact (d _).2⟩, ⟨cz.fin, by rw [f]; exact (d _).1, by rw [f]; exact (d _).2⟩⟩
theorem Axi.wd {A : Nat} (h : Axi A) : Wd A 822 1114 := by
 refine ⟨fit_fin h.lt h.fit, fit_822 h.lt h.fit, ?_⟩
 have v0 := Q_nn.1 (Rat.le_trans (show (0 : Rat) ≤ 1 / 1048576 by decide +kernel) h.lo)
 have c1 : V 4787326403894837248 = 2 ^ 1114 := by decide +kernel
 have q2 : Q 4787326403894837248 = 1099511627776 := by decide +kernel
 have : V A ≤ 2 ^ 1114 := by rw [← c1]; exact Q_le.1 (by rw [q2]; exact h.hi)
 have ce : ((2 ^ 1114 : Nat) : Int) = 2 ^ 1114 := Int.natCast_pow 2 1114
 omega
end Go.Proofs.YtgnofnjbmiepjaaGreat

namespace Go.Proofs.YtgnofnjbmiepjaaGreat
open Go.ChangeShapes Go.WideShapes Go.ChangeAt Go.RowKit Ieee.Own Pol

theorem Frc.uniq {x r s : Nat} (h : Frc x r) (g : Frc x s) : r = s := h.nz.uniq g.nz (by rw [h.v, g.v])
theorem pow_as {n a b : Nat} (h : n ≤ 2 ^ a) (e : a = b) : n ≤ 2 ^ b := e ▸ h
theorem Frc.more {x y r : Nat} {N : Int} (h : Frc x r) (hn : V r ≠ hlf ∧ V r ≠ -hlf) (e : V y = V x + N * 2 ^ 1074) : Frc y r := by
 refine ⟨h.nz, ?_⟩
 rw [h.v] at hn
 rw [e, (left_more hn).1, h.v]
end Go.Proofs.YtgnofnjbmiepjaaGreat
