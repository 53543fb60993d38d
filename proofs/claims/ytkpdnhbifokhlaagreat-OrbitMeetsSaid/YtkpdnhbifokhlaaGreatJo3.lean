/- Proved here: what the texts Omg, Omh prove, one behind the other. -/
import Derived.Test.YtkpdnhbifokhlaaGreatJy1
import Derived.Test.YtkpdnhbifokhlaaGreatJo2

namespace Fma
open Go.Proofs.YtkpdnhbifokhlaaGreat Pol

def Far (p : R3) (B : Rat) : Prop := 0 ≤ B ∧ B * B ≤ nsq p
theorem Far.le {p : R3} {A B : Rat} (h : Far p A) (b0 : 0 ≤ B) (k : B ≤ A) : Far p B := ⟨b0, Rat.le_trans (sq_mono b0 k) h.2⟩
theorem amgm {l m x y : Rat} (h : l * m = 1) (l0 : 0 ≤ l) : -(l * (x * x) + m * (y * y)) ≤ 2 * (x * y) := by
 have a := Rat.mul_nonneg l0 (sq_nn (x + m * y))
 have e : l * ((x + m * y) * (x + m * y)) = l * (x * x) + 2 * ((l * m) * (x * y)) + (l * m) * (m * (y * y)) := by grind
 rw [e, h] at a
 grind
theorem Far.add {p q : R3} {B D : Rat} (hp : Far p B) (hq : Len q D) (h : D ≤ B) : Far (addQ p q) (B - D) := by
 refine ⟨by grind, ?_⟩
 obtain ⟨b0, hp⟩ := hp
 obtain ⟨d0, hq⟩ := hq
 by_cases z : D = 0
 · subst z
   have q0 : nsq q = 0 := by have := nsq_nn q; grind
   have q1 : q.1 * q.1 = 0 ∧ q.2.1 * q.2.1 = 0 ∧ q.2.2 * q.2.2 = 0 := by
     have a := sq_nn q.1
     have b := sq_nn q.2.1
     have c := sq_nn q.2.2
     unfold nsq at q0
     refine ⟨?_, ?_, ?_⟩ <;> grind
   have z1 : q.1 = 0 := by rcases Rat.mul_eq_zero.1 q1.1 with h | h <;> exact h
   have z2 : q.2.1 = 0 := by rcases Rat.mul_eq_zero.1 q1.2.1 with h | h <;> exact h
   have z3 : q.2.2 = 0 := by rcases Rat.mul_eq_zero.1 q1.2.2 with h | h <;> exact h
   unfold nsq addQ at *
   dsimp only
   rw [z1, z2, z3]
   grind
 · have dp : 0 < D := by grind
   have bp : 0 < B := by grind
   obtain ⟨l, hl⟩ : ∃ l, l = D / B := ⟨_, rfl⟩
   obtain ⟨m, hm⟩ : ∃ m, m = B / D := ⟨_, rfl⟩
   have lB : l * B = D := by rw [hl]; exact Rat.div_mul_cancel (by grind)
   have mD : m * D = B := by rw [hm]; exact Rat.div_mul_cancel (by grind)
   have l0 : 0 ≤ l := by
     rw [hl, Rat.div_def]; exact Rat.mul_nonneg d0 (Rat.le_of_lt (Rat.inv_pos.2 bp))
   have m0 : 0 ≤ m := by
     rw [hm, Rat.div_def]; exact Rat.mul_nonneg b0 (Rat.le_of_lt (Rat.inv_pos.2 dp))
   have lm : l * m = 1 := by
     have e : (l * m) * D = 1 * D := by rw [Rat.mul_assoc, mD, lB, Rat.one_mul]
     have := congrArg (· * D⁻¹) e
     simpa only [Rat.mul_assoc, Rat.mul_inv_cancel _ z, Rat.mul_one] using this
   have l1 : l ≤ 1 := Rat.le_of_mul_le_mul_right (by rw [lB, Rat.one_mul]; exact h) bp
   have a1 := amgm (x := p.1) (y := q.1) lm l0
   have a2 := amgm (x := p.2.1) (y := q.2.1) lm l0
   have a3 := amgm (x := p.2.2) (y := q.2.2) lm l0
   have m1 : 1 ≤ m := by
     have := Rat.mul_nonneg (show 0 ≤ 1 - l by grind) m0
     have e1 : (1 - l) * m = m - l * m := by grind
     rw [e1, lm] at this
     grind
   have k1 := Rat.mul_nonneg (show 0 ≤ 1 - l by grind) (show 0 ≤ nsq p - B * B by grind)
   have k2 := Rat.mul_nonneg (show 0 ≤ m - 1 by grind) (show 0 ≤ D * D - nsq q by grind)
   have key : nsq (addQ p q) = nsq p + nsq q + (2 * (p.1 * q.1) + 2 * (p.2.1 * q.2.1) + 2 * (p.2.2 * q.2.2)) := by unfold nsq addQ; grind
   have s1 : l * (p.1 * p.1) + m * (q.1 * q.1) + (l * (p.2.1 * p.2.1) + m * (q.2.1 * q.2.1)) + (l * (p.2.2 * p.2.2) + m * (q.2.2 * q.2.2)) = l * nsq p + m * nsq q := by unfold nsq; grind
   have t1 : (1 - l) * (nsq p - B * B) = nsq p - l * nsq p - B * B + D * B := by rw [← lB]; grind
   have t2 : (m - 1) * (D * D - nsq q) = B * D - D * D - m * nsq q + nsq q := by rw [← mD]; grind
   rw [t1] at k1
   rw [t2] at k2
   rw [key]
   generalize nsq p = np at *
   generalize nsq q = nq at *
   generalize l * np = X at *
   generalize m * nq = Y at *
   have e3 : (B - D) * (B - D) = B * B - 2 * (D * B) + D * D := by grind
   have e4 : B * D = D * B := by grind
   rw [e3]
   rw [e4] at k2
   generalize B * B = BB at *
   generalize D * D = DD at *
   generalize D * B = DB at *
   grind
theorem nsq_rot_lo (a : Int) (s c : Rat) (p : R3) {d : Rat} (hd : mag (c * c + s * s - 1) ≤ d) : (1 - d) * nsq p ≤ nsq (rotQ a s c p) := by
 have d0 : 0 ≤ d := Rat.le_trans (mag_le _).2.2 hd
 have m := (mag_le (c * c + s * s - 1)).1
 have x0 := sq_nn p.1
 have y0 := sq_nn p.2.1
 have z0 := sq_nn p.2.2
 unfold rotQ
 split
 · have k := Rat.mul_nonneg (show 0 ≤ d + (c * c + s * s - 1) by grind) (show 0 ≤ p.2.1 * p.2.1 + p.2.2 * p.2.2 by grind)
   have k2 := Rat.mul_nonneg d0 x0
   unfold nsq; dsimp only; grind
 · split
   · have k := Rat.mul_nonneg (show 0 ≤ d + (c * c + s * s - 1) by grind) (show 0 ≤ p.1 * p.1 + p.2.2 * p.2.2 by grind)
     have k2 := Rat.mul_nonneg d0 y0
     unfold nsq; dsimp only; grind
   · have k := Rat.mul_nonneg (show 0 ≤ d + (c * c + s * s - 1) by grind) (show 0 ≤ p.1 * p.1 + p.2.1 * p.2.1 by grind)
     have k2 := Rat.mul_nonneg d0 z0
     unfold nsq; dsimp only; grind
theorem Far.rot {p : R3} {B : Rat} (h : Far p B) (a : Int) {s c d : Rat} (hd : mag (c * c + s * s - 1) ≤ d) (d1 : d ≤ 1) : Far (rotQ a s c p) (B * (1 - d)) := by
 have d0 : 0 ≤ d := Rat.le_trans (mag_le _).2.2 hd
 obtain ⟨b0, h⟩ := h
 refine ⟨Rat.mul_nonneg b0 (by grind), Rat.le_trans ?_ (nsq_rot_lo a s c p hd)⟩
 have k := Rat.mul_le_mul_of_nonneg_left h (show 0 ≤ 1 - d by grind)
 have k2 := Rat.mul_nonneg (Rat.mul_nonneg d0 (show 0 ≤ 1 - d by grind)) (sq_nn B)
 grind
structure Ring (p : R3) (B A : Rat) : Prop where
 lo : Far p B
 hi : Len p A
theorem Ring.step {p w : R3} {B A D d : Rat} (h : Ring p B A) (a : Int) {s c : Rat} (hd : mag (c * c + s * s - 1) ≤ d) (d1 : d ≤ 1) (off : Len (subQ w (rotQ a s c p)) D) (k : D ≤ B * (1 - d)) : Ring w (B * (1 - d) - D) (A * (1 + d) + D) := by
 have e : addQ (rotQ a s c p) (subQ w (rotQ a s c p)) = w := by
   unfold addQ subQ
   refine Prod.ext ?_ (Prod.ext ?_ ?_)
   all_goals dsimp only; grind
 have l := (h.lo.rot a hd d1).add off k
 have u := (h.hi.rot a hd).add off
 rw [e] at l u
 exact ⟨l, u⟩
end Fma

namespace Go.Proofs.YtkpdnhbifokhlaaGreat
open Go.ChangeShapes Go.WideShapes Go.ChangeAt Go.RowKit Ieee.Own Pol Fma

def Sin_ (z S C : Rat) : Prop := ∃ (k : Int) (r : Rat), Ply.Says z k r ∧ S = Ply.sq k (Ply.tau * r) ∧ C = Ply.sq (k + 1) (Ply.tau * r)
theorem sin_word (x : Nat) : Sin_ (Q x) (SQ x) (CQ x) := ⟨_, _, says_of x, rfl, rfl⟩
theorem Sin_.turn {z S C : Rat} (h : Sin_ z S C) : Sin_ (z + 1) S C := by
 obtain ⟨k, r, ⟨a, b, c⟩, e, f⟩ := h
 refine ⟨k + 4, r, ⟨?_, b, c⟩, ?_, ?_⟩
 · rw [Rat.intCast_add, show ((4 : Int) : Rat) = 4 by decide +kernel]; grind
 · rw [Ply.sq_four]; exact e
 · rw [show k + 4 + 1 = k + 1 + 4 by omega, Ply.sq_four]; exact f
theorem Sin_.one {z S C : Rat} (h : Sin_ z S C) : -1 ≤ S ∧ S ≤ 1 ∧ -1 ≤ C ∧ C ≤ 1 := by
 obtain ⟨k, r, ⟨a, b, c⟩, e, f⟩ := h
 have t := Ply.top_mul b c
 have u := Ply.sq_le_one t.1 t.2 k
 have v := Ply.sq_le_one t.1 t.2 (k + 1)
 rw [e, f]
 exact ⟨u.1, u.2, v.1, v.2⟩
structure Fac (κ : Rat) : Prop where
 k0 : 0 ≤ κ
 k1 : κ * Ply.quick ≤ 19 / 20
theorem Sin_.climb {κ x y S C S' C' : Rat} (K : Fac κ) (h : Sin_ x S C) (g : Sin_ y S' C') (le : x ≤ y) : (y - κ * S') - (x - κ * S) ≤ 2 * (y - x) + κ * (2 * Ply.eps) ∧ (y - x) / 20 ≤ (y - κ * S') - (x - κ * S) + κ * (2 * Ply.eps) := by
 obtain ⟨k, r, a, e, f⟩ := h
 obtain ⟨l, t, b, e', f'⟩ := g
 have u := Ply.kep_lip a b le K.k0 K.k1
 have v := Ply.kep_rise a b le K.k0 K.k1
 rw [← e, ← e'] at u v
 exact ⟨u, v⟩
theorem eps_del : 2 * Ply.eps ≤ Ply.del := by decide +kernel
def Nigh (S v : Rat) : Prop := -1 ≤ v ∧ v ≤ 1 ∧ S - Ply.del ≤ v ∧ v ≤ S + Ply.del
theorem del_nn : 0 ≤ Ply.del := by decide +kernel
structure Lo_ (κ m x : Rat) : Prop where
 ex : ∃ S C, Sin_ x S C ∧ ∀ v, Nigh S v → x - κ * v < m
structure Hi_ (κ m x : Rat) : Prop where
 ex : ∃ S C, Sin_ x S C ∧ ∀ v, Nigh S v → m < x - κ * v
theorem edges_lt {κ m1 m2 lo hi : Rat} (K : Fac κ) (h1 : Lo_ κ m1 lo) (h : m1 ≤ m2) (h2 : Hi_ κ m2 hi) : lo < hi := by
 obtain ⟨S, C, a, h1⟩ := h1
 obtain ⟨S', C', b, h2⟩ := h2
 by_cases c : lo < hi
 · exact c
 · have c : hi ≤ lo := by grind
   exfalso
   have e := eps_del
   have d := del_nn
   have sa := a.one
   have sb := b.one
   have k := (b.climb K a c).2
   have p : 0 ≤ (lo - hi) / 20 := by grind
   -- the lowest that S's span holds, the highest that S''s holds
   obtain ⟨v, nv, vl, v1⟩ : ∃ v, Nigh S v ∧ v ≤ S ∧ (v = -1 ∨ v = S - Ply.del) := by
     rcases Rat.le_total (a := -1) (b := S - Ply.del) with q | q
     · exact ⟨S - Ply.del, ⟨by grind, by grind, by grind, by grind⟩, by grind, .inr rfl⟩
     · exact ⟨-1, ⟨by grind, by grind, by grind, by grind⟩, by grind, .inl rfl⟩
   obtain ⟨v', nv', vl', v1'⟩ : ∃ v, Nigh S' v ∧ S' ≤ v ∧ (v = 1 ∨ v = S' + Ply.del) := by
     rcases Rat.le_total (a := S' + Ply.del) (b := 1) with q | q
     · exact ⟨S' + Ply.del, ⟨by grind, by grind, by grind, by grind⟩, by grind, .inr rfl⟩
     · exact ⟨1, ⟨by grind, by grind, by grind, by grind⟩, by grind, .inl rfl⟩
   have g1 := h1 v nv
   have g2 := h2 v' nv'
   have k0 := K.k0
   rcases Rat.le_total (a := v) (b := v') with q | q
   · have m := Rat.mul_nonneg k0 (show 0 ≤ v' - v by grind)
     have e1 : κ * (v' - v) = κ * v' - κ * v := by grind
     rw [e1] at m
     grind
   · have hv : S' - S + 2 * Ply.eps ≤ v' - v := by
       rcases v1 with rfl | rfl
       · have : v' = -1 := by have := nv'.1; grind
         rcases v1' with rfl | rfl
         · exact absurd this (by decide +kernel)
         · grind
       · rcases v1' with rfl | rfl
         · grind
         · grind
     have m := Rat.mul_nonneg k0 (show 0 ≤ v' - v - (S' - S + 2 * Ply.eps) by grind)
     have e1 : κ * (v' - v - (S' - S + 2 * Ply.eps)) = κ * v' - κ * v - κ * S' + κ * S - κ * (2 * Ply.eps) := by grind
     rw [e1] at m
     generalize κ * (2 * Ply.eps) = E at *
     generalize κ * v' = X1 at *
     generalize κ * v = X2 at *
     generalize κ * S' = X3 at *
     generalize κ * S = X4 at *
     grind
theorem far_lo {κ m x : Rat} (K : Fac κ) (k : 4 * κ ≤ 1) {S C : Rat} (a : Sin_ x S C) (h : x ≤ m - 1 / 2) : Lo_ κ m x := by
 refine ⟨S, C, a, fun v n => ?_⟩
 have p := Rat.mul_nonneg K.k0 (show 0 ≤ 1 + v by have := n.1; grind)
 have e1 : κ * (1 + v) = κ + κ * v := by grind
 rw [e1] at p
 generalize κ * v = X at *
 grind
theorem far_hi {κ m x : Rat} (K : Fac κ) (k : 4 * κ ≤ 1) {S C : Rat} (a : Sin_ x S C) (h : m + 1 / 2 ≤ x) : Hi_ κ m x := by
 refine ⟨S, C, a, fun v n => ?_⟩
 have p := Rat.mul_nonneg K.k0 (show 0 ≤ 1 - v by have := n.2.1; grind)
 have e1 : κ * (1 - v) = κ - κ * v := by grind
 rw [e1] at p
 generalize κ * v = X at *
 grind
end Go.Proofs.YtkpdnhbifokhlaaGreat
