/- Proved here: what the texts Mul, AccP, AccRm, AccS, Wrd, Flt, Nxs, Rat prove, one behind the other. -/
import Derived.Test.YtnmadknpkhaolaaJz0
import Derived.Shelf.Bits.Mul64
import Derived.WalkSmall
import Derived.Laws.Externs

namespace Go.Proofs.Ytnmadknpkhaolaa
open Go.Shelf Go.RowKit

end Go.Proofs.Ytnmadknpkhaolaa

namespace Go.Proofs.Ytnmadknpkhaolaa
open Go.ChangeShapes Go.WideShapes Go.ChangeAt Go.RowKit Ieee.Own

/-! ### the sign -/
end Go.Proofs.Ytnmadknpkhaolaa

namespace Ieee.Own

end Ieee.Own

namespace Go.Proofs.Ytnmadknpkhaolaa
open Go.ChangeShapes Go.WideShapes Go.ChangeAt Go.RowKit Ieee.Own

theorem ret_i {k : IntKind} {a b : Int} (h : a = b) : Ending.returned (.int k a) = .returned (.int k b) := by rw [h]

theorem ret_b {a b : Bool} (h : a = b) : Ending.returned (.bool a) = .returned (.bool b) := by rw [h]

/-! ### the sign: of a number z that the words tell, of magnitude below 2^1535 -/
end Go.Proofs.Ytnmadknpkhaolaa

namespace Ieee.Own

theorem Rep_pow (k : Nat) : Rep (((2 ^ k : Nat) : Int)) := ⟨1, k, by omega, by simp [Int.natAbs_pow]⟩
theorem RN_bound {z : Int} {k : Nat} (h : z.natAbs ≤ 2 ^ k) : (RN z).natAbs ≤ 2 ^ k := by
  have e := RN_exact (Rep_pow k)
  have e' : RN (-((2 ^ k : Nat) : Int)) = -((2 ^ k : Nat) : Int) := by rw [RN_neg, e]
  generalize (2 ^ k : Nat) = M at *
  have h1 := RN_mono (show z ≤ (M : Int) by omega)
  have h2 := RN_mono (show -(M : Int) ≤ z by omega)
  omega
theorem two_le {a b : Nat} (h : a ≤ b) : 2 ^ a ≤ 2 ^ b := Nat.pow_le_pow_right (by omega) h
theorem lt_top {z : Int} {k : Nat} (h : z.natAbs ≤ 2 ^ k) (hk : k < 2098) : (RN z).natAbs < 2 ^ 2098 :=
  Nat.lt_of_le_of_lt (RN_bound h) (two_lt (a := k) (b := 2098) hk)

theorem two_succ (k : Nat) : 2 ^ (k + 1) = 2 * 2 ^ k := by rw [Nat.pow_succ]; omega
theorem add_abs {x y : Int} {k : Nat} (hx : x.natAbs ≤ 2 ^ k) (hy : y.natAbs ≤ 2 ^ k) : (x + y).natAbs ≤ 2 ^ (k + 1) := by rw [two_succ]; omega
theorem sub_abs {x y : Int} {k : Nat} (hx : x.natAbs ≤ 2 ^ k) (hy : y.natAbs ≤ 2 ^ k) : (x - y).natAbs ≤ 2 ^ (k + 1) := by rw [two_succ]; omega
theorem abs_up {x : Int} {k l : Nat} (hx : x.natAbs ≤ 2 ^ k) (h : k ≤ l) : x.natAbs ≤ 2 ^ l := Nat.le_trans hx (two_le h)

/-- a sum of words, with its size -/
theorem addW {a b k : Nat} (ha : FinW a) (hb : FinW b) (xa : (V a).natAbs ≤ 2 ^ k) (xb : (V b).natAbs ≤ 2 ^ k) (hk : k < 2000) :
    ∃ r, double.add a b = some r ∧ FinW r ∧ V r = RN (V a + V b) ∧ (V r).natAbs ≤ 2 ^ (k + 1) := by
  have h := add_abs xa xb
  obtain ⟨r, h1, h2, h3⟩ := add_spec ha hb (lt_top h (by omega))
  exact ⟨r, h1, h2, h3, by rw [h3]; exact RN_bound h⟩
theorem subW {a b k : Nat} (ha : FinW a) (hb : FinW b) (xa : (V a).natAbs ≤ 2 ^ k) (xb : (V b).natAbs ≤ 2 ^ k) (hk : k < 2000) :
    ∃ r, double.sub a b = some r ∧ FinW r ∧ V r = RN (V a - V b) ∧ (V r).natAbs ≤ 2 ^ (k + 1) := by
  have h := sub_abs xa xb
  obtain ⟨r, h1, h2, h3⟩ := sub_spec ha hb (lt_top h (by omega))
  exact ⟨r, h1, h2, h3, by rw [h3]; exact RN_bound h⟩

theorem scale_abs (A : Int) (p : Nat) : (A * 2 ^ p).natAbs = A.natAbs * 2 ^ p := by rw [Int.natAbs_mul, Int.natAbs_pow]; rfl
theorem scale_le {A : Int} {p k : Nat} (h : A.natAbs ≤ 2 ^ k) : (A * 2 ^ p).natAbs ≤ 2 ^ (k + p) := by
  rw [scale_abs, Nat.pow_add]; exact Nat.mul_le_mul_right _ h

/-- a number told by 53 digits (or none) and a place -/
structure Nr (b : Nat) (A : Int) (p : Nat) : Prop where
  fin : FinW b
  val : V b = A * 2 ^ p
  lo : A = 0 ∨ 2 ^ 52 ≤ A.natAbs
  hi : A.natAbs < 2 ^ 53

theorem Nr.of {b : Nat} {s : Bool} {m p : Nat} (h : Norm b s m p) : Nr b (sv s m 0) p := by
  refine ⟨h.fin, ?_, Or.inr ?_, ?_⟩
  · rw [h.val]; unfold sv; cases s <;> simp [Int.neg_mul]
  · rw [sv_abs]; have := h.lo; omega
  · rw [sv_abs]; have := h.hi; omega
theorem Nr.zero {b : Nat} (h : FinW b) (h0 : V b = 0) (p : Nat) : Nr b 0 p := ⟨h, by rw [h0]; simp, Or.inl rfl, by decide⟩

/-- a product of words whose exact one is a whole number of units -/
theorem mulW {a b k : Nat} {N : Int} (ha : FinW a) (hb : FinW b) (hN : V a * V b = N * 2 ^ 1074) (h : N.natAbs ≤ 2 ^ k) (hk : k < 2098) :
    ∃ r, double.mul a b = some r ∧ FinW r ∧ V r = RN N := mul_spec ha hb hN (lt_top h hk)

theorem big_fin : FinW 4728779608772575232 := by unfold FinW; omega
theorem big_val : V 4728779608772575232 = 134217729 * 2 ^ 1074 := by decide +kernel

theorem RN_zero : RN 0 = 0 := RN_exact Rep_zero
theorem split_any {A g h : Int} (h1 : A = 0 ∨ 2 ^ 52 ≤ A.natAbs) (h2 : A.natAbs < 2 ^ 53) (hg : g = RN (134217729 * A)) (hh : h = RN (g - RN (g - A))) :
    (2 : Int) ^ 27 ∣ h ∧ (A - h).natAbs ≤ 2 ^ 26 ∧ RN (A - h) = A - h := by
  rcases h1 with rfl | h1
  · simp [RN_zero] at hg
    subst hg
    simp [RN_zero] at hh
    subst hh
    simp [RN_zero]
  · exact split_norm h1 h2 hg hh

theorem dekker_any {A B Ha Hb P : Int} (a1 : A = 0 ∨ 2 ^ 52 ≤ A.natAbs) (a2 : A.natAbs < 2 ^ 53) (b1 : B = 0 ∨ 2 ^ 52 ≤ B.natAbs) (b2 : B.natAbs < 2 ^ 53)
    (da : (2 : Int) ^ 27 ∣ Ha) (la : (A - Ha).natAbs ≤ 2 ^ 26) (db : (2 : Int) ^ 27 ∣ Hb) (lb : (B - Hb).natAbs ≤ 2 ^ 26) (hP : P = RN (A * B)) :
    RN (Ha * Hb) = Ha * Hb ∧ RN (Ha * (B - Hb)) = Ha * (B - Hb) ∧ RN ((A - Ha) * Hb) = (A - Ha) * Hb ∧ RN ((A - Ha) * (B - Hb)) = (A - Ha) * (B - Hb) ∧
    RN (Ha * Hb - P) = Ha * Hb - P ∧ RN (Ha * Hb - P + Ha * (B - Hb)) = Ha * Hb - P + Ha * (B - Hb) ∧
    RN (Ha * Hb - P + Ha * (B - Hb) + (A - Ha) * Hb) = Ha * Hb - P + Ha * (B - Hb) + (A - Ha) * Hb ∧
    RN (Ha * Hb - P + Ha * (B - Hb) + (A - Ha) * Hb + (A - Ha) * (B - Hb)) = A * B - P := by
  rcases a1 with rfl | a1
  · have : Ha = 0 := by omega
    subst this
    simp [RN_zero] at hP
    subst hP
    simp [RN_zero]
  rcases b1 with rfl | b1
  · have : Hb = 0 := by omega
    subst this
    simp [RN_zero] at hP
    subst hP
    simp [RN_zero]
  exact dekker a1 a2 b1 b2 da la db lb hP

/-- THE HALVES, word by word -/
theorem split_words {a p : Nat} {A : Int} (ha : Nr a A p) (hp : p < 1900) :
    ∃ c d h l H, double.mul 4728779608772575232 a = some c ∧ double.sub c a = some d ∧ double.sub c d = some h ∧ double.sub a h = some l ∧ FinW h ∧ FinW l ∧
      V h = H * 2 ^ p ∧ V l = (A - H) * 2 ^ p ∧ (2 : Int) ^ 27 ∣ H ∧ (A - H).natAbs ≤ 2 ^ 26 := by
  obtain ⟨g, hg⟩ : ∃ g, g = RN (134217729 * A) := ⟨_, rfl⟩
  obtain ⟨H, hH⟩ : ∃ H, H = RN (g - RN (g - A)) := ⟨_, rfl⟩
  obtain ⟨s1, s2, s3⟩ := split_any ha.lo ha.hi hg hH
  have hA := ha.hi
  have bA : (134217729 * A).natAbs ≤ 2 ^ 81 := by omega
  have bg : g.natAbs ≤ 2 ^ 81 := by rw [hg]; exact RN_bound bA
  have bd : (RN (g - A)).natAbs ≤ 2 ^ 82 := RN_bound (by omega)
  obtain ⟨c, c1, c2, c3⟩ := mulW (N := 134217729 * A * 2 ^ p) big_fin ha.fin (by rw [big_val, ha.val]; generalize (2 : Int) ^ 1074 = M; generalize (2 : Int) ^ p = K; ac_rfl) (scale_le bA) (by omega)
  rw [RN_scale, ← hg] at c3
  have bc : (V c).natAbs ≤ 2 ^ (82 + p) := by rw [c3]; exact scale_le (abs_up bg (by omega))
  have ba : (V a).natAbs ≤ 2 ^ (82 + p) := by rw [ha.val]; exact scale_le (abs_up (Nat.le_of_lt hA) (by omega))
  obtain ⟨d, d1, d2, d3, -⟩ := subW c2 ha.fin bc ba (by omega)
  rw [c3, ha.val, ← Int.sub_mul, RN_scale] at d3
  have bd' : (V d).natAbs ≤ 2 ^ (82 + p) := by rw [d3]; exact scale_le bd
  obtain ⟨h, h1, h2, h3, -⟩ := subW c2 d2 bc bd' (by omega)
  rw [c3, d3, ← Int.sub_mul, RN_scale, ← hH] at h3
  have bh : (V h).natAbs ≤ 2 ^ (82 + p) := by rw [h3]; exact scale_le (abs_up (k := 54) (by omega) (by omega))
  obtain ⟨l, l1, l2, l3, -⟩ := subW ha.fin h2 ba bh (by omega)
  rw [h3, ha.val, ← Int.sub_mul, RN_scale, s3] at l3
  exact ⟨c, d, h, l, H, c1, d1, h1, l1, h2, l2, h3, l3, s1, s2⟩

/-- a product of scaled words -/
theorem mul_scaled {a b p q k : Nat} {X Y : Int} (ha : FinW a) (hb : FinW b) (va : V a = X * 2 ^ p) (vb : V b = Y * 2 ^ q) (hk : p + q = k + 1074) (hx : (X * Y).natAbs ≤ 2 ^ 107) (hb2 : k < 1900) :
    ∃ r, double.mul a b = some r ∧ FinW r ∧ V r = RN (X * Y) * 2 ^ k := by
  have hN : V a * V b = (X * Y * 2 ^ k) * 2 ^ 1074 := by
    have e : (2 : Int) ^ p * 2 ^ q = 2 ^ k * 2 ^ 1074 := by rw [← Int.pow_add, hk, Int.pow_add]
    rw [va, vb, Int.mul_assoc (X * Y), ← e]
    generalize (2 : Int) ^ p = u
    generalize (2 : Int) ^ q = v
    ac_rfl
  obtain ⟨r, r1, r2, r3⟩ := mulW ha hb hN (scale_le hx) (by omega)
  exact ⟨r, r1, r2, by rw [r3, RN_scale]⟩

theorem chain_words {r m1 m2 m3 m4 k : Nat} {P u1 u2 u3 u4 E : Int} (fr : FinW r) (f1 : FinW m1) (f2 : FinW m2) (f3 : FinW m3) (f4 : FinW m4) (hk2 : k < 1700)
    (vr : V r = P * 2 ^ k) (v1 : V m1 = u1 * 2 ^ k) (v2 : V m2 = u2 * 2 ^ k) (v3 : V m3 = u3 * 2 ^ k) (v4 : V m4 = u4 * 2 ^ k)
    (bP : P.natAbs ≤ 2 ^ 107) (w1 : u1.natAbs ≤ 2 ^ 107) (w2 : u2.natAbs ≤ 2 ^ 107) (w3 : u3.natAbs ≤ 2 ^ 107) (w4 : u4.natAbs ≤ 2 ^ 107)
    (g5 : RN (u1 - P) = u1 - P) (g6 : RN (u1 - P + u2) = u1 - P + u2) (g7 : RN (u1 - P + u2 + u3) = u1 - P + u2 + u3) (g8 : RN (u1 - P + u2 + u3 + u4) = E) :
    ∃ e1 e2 e3 e4, double.sub m1 r = some e1 ∧ double.add e1 m2 = some e2 ∧ double.add e2 m3 = some e3 ∧ double.add e3 m4 = some e4 ∧ FinW e4 ∧ V e4 = E * 2 ^ k := by
  have z1 : (u1 - P).natAbs ≤ 2 ^ 108 := by clear g5 g6 g7 g8; omega
  have z2 : (u1 - P + u2).natAbs ≤ 2 ^ 109 := by clear g5 g6 g7 g8; omega
  have z3 : (u1 - P + u2 + u3).natAbs ≤ 2 ^ 110 := by clear g5 g6 g7 g8; omega
  have l : 110 + k < 2000 := by clear z1 z2 z3 bP w1 w2 w3 w4; omega
  have up : ∀ {x : Int} {j : Nat}, x.natAbs ≤ 2 ^ j → j ≤ 110 → (x * 2 ^ k).natAbs ≤ 2 ^ (110 + k) := fun hx hj => scale_le (abs_up hx hj)
  have b1 := up w1 (by decide)
  have b2 := up w2 (by decide)
  have b3 := up w3 (by decide)
  have b4 := up w4 (by decide)
  have bp := up bP (by decide)
  have y1 := up z1 (by decide)
  have y2 := up z2 (by decide)
  have y3 := up z3 (by decide)
  clear z1 z2 z3 w1 w2 w3 w4 bP up hk2
  rw [← v1] at b1
  rw [← v2] at b2
  rw [← v3] at b3
  rw [← v4] at b4
  rw [← vr] at bp
  obtain ⟨e1, e11, e12, e13, -⟩ := subW f1 fr b1 bp l
  rw [v1, vr, ← Int.sub_mul, RN_scale, g5] at e13
  rw [← e13] at y1
  obtain ⟨e2, e21, e22, e23, -⟩ := addW e12 f2 y1 b2 l
  rw [e13, v2, ← Int.add_mul, RN_scale, g6] at e23
  rw [← e23] at y2
  obtain ⟨e3, e31, e32, e33, -⟩ := addW e22 f3 y2 b3 l
  rw [e23, v3, ← Int.add_mul, RN_scale, g7] at e33
  rw [← e33] at y3
  obtain ⟨e4, e41, e42, e43, -⟩ := addW e32 f4 y3 b4 l
  rw [e33, v4, ← Int.add_mul, RN_scale, g8] at e43
  exact ⟨e1, e2, e3, e4, e11, e21, e31, e41, e42, e43⟩

theorem prod_err {A B : Int} (hA : A.natAbs < 2 ^ 53) (hB : B.natAbs < 2 ^ 53) : (A * B - RN (A * B)).natAbs ≤ 2 ^ 53 := by
  have h2 : (A * B).natAbs < 2 ^ (53 + 54) := by
    rw [Int.natAbs_mul]
    exact Nat.lt_of_le_of_lt (Nat.mul_le_mul (show A.natAbs ≤ 2 ^ 53 - 1 by omega) (show B.natAbs ≤ 2 ^ 53 - 1 by omega)) (by decide)
  have := RN_err h2
  generalize RN (A * B) = P at *
  generalize A * B = AB at *
  omega

/-- THE PRODUCT AND ITS REST, word by word -/
theorem times_words {a b p q k : Nat} {A B : Int} (ha : Nr a A p) (hb : Nr b B q) (hp : p < 1900) (hq : q < 1900) (hk : p + q = k + 1074) (hk2 : k < 1700) :
    ∃ r c d ah al c' d' bh bl m1 e1 m2 e2 m3 e3 m4 e4, double.mul a b = some r ∧
      (double.mul 4728779608772575232 a = some c ∧ double.sub c a = some d ∧ double.sub c d = some ah ∧ double.sub a ah = some al) ∧
      (double.mul 4728779608772575232 b = some c' ∧ double.sub c' b = some d' ∧ double.sub c' d' = some bh ∧ double.sub b bh = some bl) ∧
      double.mul ah bh = some m1 ∧ double.sub m1 r = some e1 ∧ double.mul ah bl = some m2 ∧ double.add e1 m2 = some e2 ∧ double.mul al bh = some m3 ∧ double.add e2 m3 = some e3 ∧ double.mul al bl = some m4 ∧ double.add e3 m4 = some e4 ∧
      FinW r ∧ FinW e4 ∧ V r = RN (A * B) * 2 ^ k ∧ V e4 = (A * B - RN (A * B)) * 2 ^ k ∧ (A * B - RN (A * B)).natAbs ≤ 2 ^ 53 := by
  obtain ⟨c, d, ah, al, Ha, c1, d1, h1, l1, fh, fl, vh, vl, dh, lh⟩ := split_words ha hp
  obtain ⟨c', d', bh, bl, Hb, c1', d1', h1', l1', fh', fl', vh', vl', dh', lh'⟩ := split_words hb hq
  have hA := ha.hi
  have hB := hb.hi
  obtain ⟨g1, g2, g3, g4, g5, g6, g7, g8⟩ := dekker_any ha.lo hA hb.lo hB dh lh dh' lh' rfl
  have bHa : Ha.natAbs ≤ 2 ^ 53 := by omega
  have bHb : Hb.natAbs ≤ 2 ^ 53 := by omega
  have bAB : (A * B).natAbs ≤ 2 ^ 107 := Nat.le_trans (abs_mul_le (Nat.le_of_lt hA) (Nat.le_of_lt hB)) (by decide)
  have w1 : (Ha * Hb).natAbs ≤ 2 ^ 107 := Nat.le_trans (abs_mul_le bHa bHb) (by decide)
  have w2 : (Ha * (B - Hb)).natAbs ≤ 2 ^ 107 := Nat.le_trans (abs_mul_le bHa lh') (by decide)
  have w3 : ((A - Ha) * Hb).natAbs ≤ 2 ^ 107 := Nat.le_trans (abs_mul_le lh bHb) (by decide)
  have w4 : ((A - Ha) * (B - Hb)).natAbs ≤ 2 ^ 107 := Nat.le_trans (abs_mul_le lh lh') (by decide)
  obtain ⟨r, r1, r2, r3⟩ := mul_scaled ha.fin hb.fin ha.val hb.val hk bAB (by omega)
  obtain ⟨m1, m11, m12, m13⟩ := mul_scaled fh fh' vh vh' hk w1 (by omega)
  obtain ⟨m2, m21, m22, m23⟩ := mul_scaled fh fl' vh vl' hk w2 (by omega)
  obtain ⟨m3, m31, m32, m33⟩ := mul_scaled fl fh' vl vh' hk w3 (by omega)
  obtain ⟨m4, m41, m42, m43⟩ := mul_scaled fl fl' vl vl' hk w4 (by omega)
  rw [g1] at m13
  rw [g2] at m23
  rw [g3] at m33
  rw [g4] at m43
  have bP := RN_bound bAB
  have bE := prod_err hA hB
  obtain ⟨e1, e2, e3, e4, e11, e21, e31, e41, e42, e43⟩ := chain_words r2 m12 m22 m32 m42 hk2 r3 m13 m23 m33 m43 bP w1 w2 w3 w4 g5 g6 g7 g8
  exact ⟨r, c, d, ah, al, c', d', bh, bl, m1, e1, m2, e2, m3, e3, m4, e4, r1, ⟨c1, d1, h1, l1⟩, ⟨c1', d1', h1', l1'⟩, m11, e11, m21, e21, m31, e31, m41, e41, r2, e42, r3, e43, bE⟩

/-- a nought by a number -/
theorem div_zero {a b : Nat} (ha : FinW a) (h0 : V a = 0) (hb : FinW b) (hn : V b ≠ 0) : ∃ r, double.div a b = some r ∧ FinW r ∧ V r = 0 := by
  obtain ⟨s, m, p, hr, hV, -⟩ := read_sv ha
  obtain ⟨t, n, q, hr', hV', -⟩ := read_sv hb
  have hm : m = 0 := by
    have := sv_abs s m p
    rw [← hV, h0] at this
    have hp := Nat.two_pow_pos p
    rcases Nat.mul_eq_zero.1 this.symm with h | h <;> omega
  have hn0 : n ≠ 0 := by
    intro h; subst h; rw [hV'] at hn; apply hn; unfold sv; simp
  subst hm
  unfold Format.div
  rw [hr, hr']
  simp only [Datum.quotient]
  rw [if_neg hn0]
  have hX : 2 * (0 <<< (double.fractionBits + 2 + n.log2 - Nat.log2 0) / n) + (0 <<< (double.fractionBits + 2 + n.log2 - Nat.log2 0) % n != 0).toNat = 0 := by
    rw [Nat.zero_shiftLeft]; simp
  rw [hX]
  refine ⟨double.word (s ^^ t) 0, ?_, (V_word _ 0 (by omega)).1, ?_⟩
  · simp only [Option.map, Format.write, Format.nearest, if_true]
  · rw [(V_word _ 0 (by omega)).2, val_zero]; simp

/-! ### fit words -/
def fitB (b : Nat) : Bool := decide (b % 9223372036854775808 = 0 ∨ 3706462493325918208 ≤ b % 9223372036854775808 ∧ b % 9223372036854775808 ≤ 5507902344274116608)

theorem V_abs' (b : Nat) (hb : FinW b) : (V b).natAbs = val 52 (b % 9223372036854775808) := by
  have h1 := hb.1
  unfold V
  by_cases h : b < 9223372036854775808
  · rw [if_pos h, show b % 9223372036854775808 = b by omega]; rfl
  · rw [if_neg h, show b % 9223372036854775808 = b - 9223372036854775808 by omega]; omega

theorem fit_fin {b : Nat} (h : b < 18446744073709551616) (hf : fitB b = true) : FinW b := by
  unfold fitB at hf; rw [decide_eq_true_eq] at hf
  exact ⟨h, by omega⟩
theorem fit_norm {b : Nat} (h : b < 18446744073709551616) (hf : fitB b = true) : V b = 0 ∨ ∃ s m p, Norm b s m p ∧ 822 ≤ p ∧ p ≤ 1222 := by
  have hfin := fit_fin h hf
  unfold fitB at hf; rw [decide_eq_true_eq] at hf
  by_cases h0 : b % 9223372036854775808 = 0
  · left
    have := V_abs' b hfin
    rw [h0, val_zero] at this
    omega
  · right
    exact ⟨_, _, _, norm_of hfin (by omega), by omega, by omega⟩
theorem norm_dvd {b : Nat} {s : Bool} {m p : Nat} (h : Norm b s m p) {k : Nat} (hk : k ≤ p) : (2 : Int) ^ k ∣ V b := by
  rw [(Nr.of h).val]; exact Int.dvd_trans (pow_dvd hk) (Int.dvd_mul_left _ _)
theorem pow_abs_dvd {z : Int} {k : Nat} (h : (2 : Int) ^ k ∣ z) (h0 : z ≠ 0) : 2 ^ k ≤ z.natAbs := by
  have h1 : 2 ^ k ∣ z.natAbs := by
    have := Int.natAbs_dvd_natAbs.2 h
    rwa [Int.natAbs_pow] at this
  exact Nat.le_of_dvd (by omega) h1

theorem dvd_ge {z : Int} {j k : Nat} (h : (2 : Int) ^ k ∣ z) (h0 : z ≠ 0) (hj : j ≤ k) : 2 ^ j ≤ z.natAbs := Nat.le_trans (two_le hj) (pow_abs_dvd h h0)
theorem val_ge (m e f : Nat) (h1 : 2 ^ 52 ≤ m) (h : f ≤ e) : 2 ^ (52 + f) ≤ m * 2 ^ e := by
  rw [Nat.pow_add]; exact Nat.mul_le_mul h1 (two_le h)

theorem not_big (m e f k : Nat) (h1 : 2 ^ 52 ≤ m) (h : f ≤ e) (hk : k < 52 + f) (hu : m * 2 ^ e ≤ 2 ^ k) : False :=
  absurd (Nat.le_trans (val_ge m e f h1 h) hu) (Nat.not_le.2 (two_lt hk))

/-- what the long sums and 'plain' ask of a word -/
theorem good {b k : Nat} (hb : FinW b) (hd : (2 : Int) ^ 500 ∣ V b) (hu : (V b).natAbs ≤ 2 ^ k) (hk : k ≤ 1490) :
    (∃ X, V b = X * 2 ^ 50) ∧ (mg 52 (b % 9223372036854775808) = 0 ∨ 50 ≤ ex 52 (b % 9223372036854775808) ∧ ex 52 (b % 9223372036854775808) < 1522) ∧
    (V b = 0 ∨ 2 ^ 174 ≤ (V b).natAbs ∧ (V b).natAbs ≤ 2 ^ 1494) := by
  refine ⟨?_, ?_, ?_⟩
  · obtain ⟨X, hX⟩ := Int.dvd_trans (pow_dvd (show 50 ≤ 500 by omega)) hd
    exact ⟨X, by rw [hX, Int.mul_comm]⟩
  · by_cases h0 : V b = 0
    · left
      have := V_abs' b hb
      rw [h0] at this
      have hz := (val_zero_iff 52 _).1 this.symm
      rw [hz]; unfold mg; simp
    · right
      have h1 := pow_abs_dvd hd h0
      rw [V_abs' b hb] at h1 hu
      generalize b % 9223372036854775808 = r at *
      have hm := mg_lt 52 r
      unfold val at h1 hu
      constructor
      · refine Nat.le_of_not_lt fun hlt => ?_
        have h2 : mg 52 r * 2 ^ ex 52 r < 2 ^ (52 + 1) * 2 ^ 50 :=
          Nat.lt_of_lt_of_le (Nat.mul_lt_mul_of_pos_right hm (Nat.two_pow_pos _)) (Nat.mul_le_mul_left _ (two_le (by omega)))
        rw [← Nat.pow_add] at h2
        have h3 := two_le (a := 52 + 1 + 50) (b := 500) (by decide)
        exact absurd h1 (Nat.not_le.2 (Nat.lt_of_lt_of_le h2 h3))
      · refine Nat.lt_of_not_le fun hle => ?_
        have hge : 2 ^ 52 ≤ mg 52 r := by
          unfold mg
          split
          · rename_i h; unfold ex at hle; rw [if_pos h] at hle; omega
          · omega
        exact not_big (mg 52 r) (ex 52 r) 1522 k hge hle (by clear h1 hu; omega) hu
  · by_cases h0 : V b = 0
    · exact Or.inl h0
    · right
      exact ⟨dvd_ge (j := 174) (k := 500) hd h0 (by decide), abs_up (k := k) (l := 1494) hu (Nat.le_trans hk (by decide))⟩

/-- the place of a word by its digits -/
theorem nr_ex {w E : Nat} {A : Int} (h : Nr w A E) (hE : 1 ≤ E) : mg 52 (w % 9223372036854775808) = 0 ∨ ex 52 (w % 9223372036854775808) = E := by
  have hv := V_abs' w h.fin
  rw [h.val, scale_abs] at hv
  rcases h.lo with h0 | hlo
  · left
    rw [h0] at hv
    have hz := (val_zero_iff 52 _).1 (by rw [← hv]; simp)
    rw [hz]; unfold mg; simp
  · right
    have hhi := h.hi
    generalize w % 9223372036854775808 = r at *
    unfold val at hv
    have hm := mg_lt 52 r
    have c1 : E ≤ ex 52 r := by
      refine Nat.le_of_not_lt fun hlt => ?_
      have a1 : 2 ^ 52 * 2 ^ E ≤ A.natAbs * 2 ^ E := Nat.mul_le_mul_right _ hlo
      have a2 : mg 52 r * 2 ^ ex 52 r < 2 ^ (52 + 1) * 2 ^ ex 52 r := Nat.mul_lt_mul_of_pos_right hm (Nat.two_pow_pos _)
      rw [← Nat.pow_add] at a1 a2
      have a3 : 2 ^ (52 + 1 + ex 52 r) ≤ 2 ^ (52 + E) := two_le (by omega)
      omega
    have hge : 2 ^ 52 ≤ mg 52 r := by
      unfold mg
      split
      · rename_i h; unfold ex at c1; rw [if_pos h] at c1; omega
      · omega
    refine Nat.le_antisymm (Nat.le_of_not_lt fun hlt => ?_) c1
    have a1 : 2 ^ 52 * 2 ^ ex 52 r ≤ mg 52 r * 2 ^ ex 52 r := Nat.mul_le_mul_right _ hge
    have a2 : A.natAbs * 2 ^ E < 2 ^ 53 * 2 ^ E := Nat.mul_lt_mul_of_pos_right hhi (Nat.two_pow_pos _)
    rw [← Nat.pow_add] at a1 a2
    have a3 : 2 ^ (53 + E) ≤ 2 ^ (52 + ex 52 r) := two_le (by omega)
    omega
end Ieee.Own

namespace Go.Proofs.Ytnmadknpkhaolaa
open Go.ChangeShapes Go.WideShapes Go.ChangeAt Go.RowKit Ieee.Own

theorem ret_f {k : FloatKind} {a b : Nat} (h : a = b) : Ending.returned (.float k a) = .returned (.float k b) := by rw [h]
set_option maxRecDepth 100000 in
theorem x40 (n : Int) (w : World) : (callFunc 53 #[.int .u64 n]).run Try.prog w = .ok (.value (.float .f64 n.toNat)) w := by
  rw [run_callFunc_extern (e := Extern.MathFloatBits.float64frombits) Try.func53 (by kernel_rfl) (by kernel_rfl) (by kernel_rfl) (by kernel_rfl)]; rfl

/-! ### comparisons in plain numbers -/
def nn (a : Nat) : Prop := a % 9223372036854775808 ≤ 9218868437227405312
instance (a : Nat) : Decidable (nn a) := inferInstanceAs (Decidable (_ ≤ _))
theorem o_lss (a b : Nat) (ha : a < 18446744073709551616) (hb : b < 18446744073709551616) :
    (FloatKind.f64.format.order a b == some Ordering.lt) = decide (nn a ∧ nn b ∧ key64 a < key64 b) := by
  show (Ieee.double.order a b == some Ordering.lt) = _
  by_cases h : nn a ∧ nn b
  · rw [order64 a b ha hb h.1 h.2, cmp_lt]; simp [h]
  · rw [order64_nan a b (by unfold nn at h; omega)]; symm; simp; intro h1 h2; exact absurd ⟨h1, h2⟩ h
theorem o_gtr (a b : Nat) (ha : a < 18446744073709551616) (hb : b < 18446744073709551616) :
    (FloatKind.f64.format.order a b == some Ordering.gt) = decide (nn a ∧ nn b ∧ key64 b < key64 a) := by
  show (Ieee.double.order a b == some Ordering.gt) = _
  by_cases h : nn a ∧ nn b
  · rw [order64 a b ha hb h.1 h.2, cmp_gt]; simp [h]
  · rw [order64_nan a b (by unfold nn at h; omega)]; symm; simp; intro h1 h2; exact absurd ⟨h1, h2⟩ h
theorem o_eql (a b : Nat) (ha : a < 18446744073709551616) (hb : b < 18446744073709551616) :
    (FloatKind.f64.format.order a b == some Ordering.eq) = decide (nn a ∧ nn b ∧ key64 a = key64 b) := by
  show (Ieee.double.order a b == some Ordering.eq) = _
  by_cases h : nn a ∧ nn b
  · rw [order64 a b ha hb h.1 h.2, cmp_eq]; simp [h]
  · rw [order64_nan a b (by unfold nn at h; omega)]; symm; simp; intro h1 h2; exact absurd ⟨h1, h2⟩ h
theorem o_leq (a b : Nat) (ha : a < 18446744073709551616) (hb : b < 18446744073709551616) :
    (FloatKind.f64.format.order a b == some Ordering.lt || FloatKind.f64.format.order a b == some Ordering.eq) = decide (nn a ∧ nn b ∧ key64 a ≤ key64 b) := by
  rw [o_lss a b ha hb, o_eql a b ha hb, Bool.eq_iff_iff]
  simp only [Bool.or_eq_true, decide_eq_true_eq]
  constructor
  · rintro (⟨h1, h2, h3⟩ | ⟨h1, h2, h3⟩)
    · exact ⟨h1, h2, by omega⟩
    · exact ⟨h1, h2, by omega⟩
  · rintro ⟨h1, h2, h3⟩
    by_cases h : key64 a < key64 b
    · exact Or.inl ⟨h1, h2, h⟩
    · exact Or.inr ⟨h1, h2, by omega⟩
theorem o_geq (a b : Nat) (ha : a < 18446744073709551616) (hb : b < 18446744073709551616) :
    (FloatKind.f64.format.order a b == some Ordering.gt || FloatKind.f64.format.order a b == some Ordering.eq) = decide (nn a ∧ nn b ∧ key64 b ≤ key64 a) := by
  rw [o_gtr a b ha hb, o_eql a b ha hb, Bool.eq_iff_iff]
  simp only [Bool.or_eq_true, decide_eq_true_eq]
  constructor
  · rintro (⟨h1, h2, h3⟩ | ⟨h1, h2, h3⟩)
    · exact ⟨h1, h2, by omega⟩
    · exact ⟨h1, h2, by omega⟩
  · rintro ⟨h1, h2, h3⟩
    by_cases h : key64 b < key64 a
    · exact Or.inl ⟨h1, h2, h⟩
    · exact Or.inr ⟨h1, h2, by omega⟩
theorem key_low {m : Nat} (h : m < 9223372036854775808) : key64 m = m := by unfold key64; simp [h]

set_option maxRecDepth 100000 in
theorem abs_any (b : Nat) (h : b < 18446744073709551616) (w : World) :
    Calls Try.prog 29 #[.float .f64 b] w fun e w' => e = .returned (.float .f64 (b % 9223372036854775808)) ∧ w = w' := by
  have H := Lib.hid (andn63 b h)
  go_enter Try.func29, Try.ntmps29
  go_wp2_with (simp only [x34, x40])
  go_ret
  exact ⟨ret_f (by rw [H.out]; rfl), rfl⟩

/-! ### fit -/
set_option maxRecDepth 100000 in
theorem fit_any (b : Nat) (hb : b < 18446744073709551616) (w : World) :
    Calls Try.prog 66 #[.float .f64 b] w fun e w' => e = .returned (.bool (fitB b)) ∧ w = w' := by
  have hm : b % 9223372036854775808 < 9223372036854775808 := by omega
  have e1 := o_eql (b % 9223372036854775808) 0 (by omega) (by omega)
  have e2 := o_leq 3706462493325918208 (b % 9223372036854775808) (by omega) (by omega)
  have e3 := o_leq (b % 9223372036854775808) 5507902344274116608 (by omega) (by omega)
  rw [key_low hm, key_low (by omega)] at e1 e2 e3
  have HA := fun w => abs_any b hb w
  unfold fitB
  clear hb
  generalize b % 9223372036854775808 = m at *
  by_cases c1 : m = 0
  · rw [decide_eq_true (by unfold nn; omega)] at e1
    rw [decide_eq_true (Or.inl c1)]
    clear hm e2 e3 c1
    go_enter Try.func66, Try.ntmps66
    go_wp2_with (go_at_call 29; ((with_reducible refine (HA _).mono ?_); rintro e w' ⟨rfl, rfl⟩))
    go_ret
    exact ⟨rfl, rfl⟩
  · rw [decide_eq_false (by omega)] at e1
    by_cases c2 : 3706462493325918208 ≤ m ∧ m ≤ 9218868437227405312
    · rw [decide_eq_true (by unfold nn; omega)] at e2
      by_cases c3 : m ≤ 5507902344274116608
      · rw [decide_eq_true (by unfold nn; omega)] at e3
        rw [decide_eq_true (by omega)]
        clear hm c1 c2 c3
        go_enter Try.func66, Try.ntmps66
        go_wp2_with (go_at_call 29; ((with_reducible refine (HA _).mono ?_); rintro e w' ⟨rfl, rfl⟩))
        go_ret
        exact ⟨rfl, rfl⟩
      · rw [decide_eq_false (by unfold nn; omega)] at e3
        rw [decide_eq_false (by omega)]
        clear hm c1 c2 c3
        go_enter Try.func66, Try.ntmps66
        go_wp2_with (go_at_call 29; ((with_reducible refine (HA _).mono ?_); rintro e w' ⟨rfl, rfl⟩))
        go_ret
        exact ⟨rfl, rfl⟩
    · rw [decide_eq_false (by unfold nn; omega)] at e2
      rw [decide_eq_false (by omega)]
      clear hm c1 c2 e3
      go_enter Try.func66, Try.ntmps66
      go_wp2_with (go_at_call 29; ((with_reducible refine (HA _).mono ?_); rintro e w' ⟨rfl, rfl⟩))
      go_ret
      exact ⟨rfl, rfl⟩

set_option maxRecDepth 100000 in
theorem rfit_any (b : Nat) (hb : b < 18446744073709551616) (w : World) :
    Calls Try.prog 51 #[.float .f64 b] w fun e w' => e = .returned (.bool (fitB b)) ∧ w = w' := by
  have H := andn63 b hb
  unfold fitB
  clear hb
  generalize b % 9223372036854775808 = m at *
  by_cases c1 : m = 0
  · rw [decide_eq_true (by omega)]
    subst c1
    go_enter Try.func51, Try.ntmps51
    go_wp2_with (simp only [x34])
    go_ret
    exact ⟨rfl, rfl⟩
  have t1 : ((m : Int) == 0) = false := ieq_f (by omega)
  by_cases c2 : 3706462493325918208 ≤ m
  · have t2 : decide ((m : Int) ≥ 3706462493325918208) = true := decide_eq_true (by omega)
    by_cases c3 : m ≤ 5507902344274116608
    · have t3 : decide ((m : Int) ≤ 5507902344274116608) = true := decide_eq_true (by omega)
      rw [decide_eq_true (by omega)]
      clear c1 c2 c3
      go_enter Try.func51, Try.ntmps51
      go_wp2_with (simp only [x34])
      go_ret
      exact ⟨rfl, rfl⟩
    · have t3 : decide ((m : Int) ≤ 5507902344274116608) = false := decide_eq_false (by omega)
      rw [decide_eq_false (by omega)]
      clear c1 c2 c3
      go_enter Try.func51, Try.ntmps51
      go_wp2_with (simp only [x34])
      go_ret
      exact ⟨rfl, rfl⟩
  · have t2 : decide ((m : Int) ≥ 3706462493325918208) = false := decide_eq_false (by omega)
    rw [decide_eq_false (by omega)]
    clear c1 c2
    go_enter Try.func51, Try.ntmps51
    go_wp2_with (simp only [x34])
    go_ret
    exact ⟨rfl, rfl⟩

/-! ### the operations, as the walk takes them -/
set_option maxRecDepth 100000 in
theorem run_add (x y r : Nat) (h : Ieee.double.add x y = some r) (t : TypeId) (w : World) : (binOp .add t (.float .f64 x) (.float .f64 y)).run Try.prog w = .ok (.float .f64 r) w :=
  run_float_arith w .add t .f64 x y r h
set_option maxRecDepth 100000 in
theorem run_sub (x y r : Nat) (h : Ieee.double.sub x y = some r) (t : TypeId) (w : World) : (binOp .sub t (.float .f64 x) (.float .f64 y)).run Try.prog w = .ok (.float .f64 r) w :=
  run_float_arith w .sub t .f64 x y r h
set_option maxRecDepth 100000 in
theorem run_mul (x y r : Nat) (h : Ieee.double.mul x y = some r) (t : TypeId) (w : World) : (binOp .mul t (.float .f64 x) (.float .f64 y)).run Try.prog w = .ok (.float .f64 r) w :=
  run_float_arith w .mul t .f64 x y r h
set_option maxRecDepth 100000 in
theorem run_div (x y r : Nat) (h : Ieee.double.div x y = some r) (t : TypeId) (w : World) : (binOp .quo t (.float .f64 x) (.float .f64 y)).run Try.prog w = .ok (.float .f64 r) w :=
  run_float_arith w .quo t .f64 x y r h
theorem nr_mul {a b p q k : Nat} {A B : Int} (ha : Nr a A p) (hb : Nr b B q) (hk : p + q = k + 1074) : V a * V b = (A * B * 2 ^ k) * 2 ^ 1074 := by
  have e : (2 : Int) ^ p * 2 ^ q = 2 ^ k * 2 ^ 1074 := by rw [← Int.pow_add, hk, Int.pow_add]
  rw [ha.val, hb.val, Int.mul_assoc (A * B), ← e]
  generalize (2 : Int) ^ p = u
  generalize (2 : Int) ^ q = v
  ac_rfl

theorem pow_split' {k : Nat} (h : 50 ≤ k) (x : Int) : x * 2 ^ k = x * 2 ^ (k - 50) * 2 ^ 50 := by
  rw [Int.mul_assoc, ← Int.pow_add, show k - 50 + 50 = k by omega]
theorem units_mul (x : Int) (i j : Nat) : x * 2 ^ i * 2 ^ j = x * 2 ^ (i + j) := by rw [Int.mul_assoc, ← Int.pow_add]
theorem unit_parts {a b p q k : Nat} {A B : Int} (ha : Nr a A p) (hb : Nr b B q) (hk : p + q = k + 1074) (h : 50 ≤ k) :
    A * B * 2 ^ k = A * B * 2 ^ (k - 50) * 2 ^ 50 ∧ V a * V b = A * B * 2 ^ (k - 50) * 2 ^ 1124 := by
  refine ⟨pow_split' h _, ?_⟩
  rw [nr_mul ha hb hk, units_mul, units_mul]
  rw [show k + 1074 = k - 50 + 1124 by omega]
theorem ex_parts {a b p q k : Nat} {A B : Int} (ha : Nr a A p) (hb : Nr b B q) (hp : 1 ≤ p) (hq : 1 ≤ q) (hk : p + q = k + 1074) (h : 50 ≤ k) (h2 : k < 1458) :
    (mg 52 (a % 9223372036854775808) = 0 ∨ mg 52 (b % 9223372036854775808) = 0) ∨ ex 52 (a % 9223372036854775808) + ex 52 (b % 9223372036854775808) = k - 50 + 1124 ∧ k - 50 < 1408 := by
  rcases nr_ex ha hp with h0 | h0
  · exact Or.inl (Or.inl h0)
  rcases nr_ex hb hq with h1 | h1
  · exact Or.inl (Or.inr h1)
  · right; omega

/-- a fit word by its digits and a place from 822 to 1222 -/
theorem fit_nr {b : Nat} (h : b < 18446744073709551616) (hf : fitB b = true) : ∃ A p, Nr b A p ∧ 822 ≤ p ∧ p ≤ 1222 := by
  rcases fit_norm h hf with h0 | ⟨s, m, p, hn, h1, h2⟩
  · exact ⟨0, 822, Nr.zero (fit_fin h hf) h0 822, by omega, by omega⟩
  · exact ⟨_, p, Nr.of hn, h1, h2⟩

theorem V_key {a b : Nat} (ha : FinW a) (hb : FinW b) (h : V a = V b) : key64 a = key64 b := by
  have a1 := ha.1
  have b1 := hb.1
  unfold V at h
  unfold key64
  by_cases h1 : a < 9223372036854775808 <;> by_cases h2 : b < 9223372036854775808
  · rw [if_pos h1, if_pos h2] at h
    have := (val_eq_iff 52 a b).1 (by omega)
    rw [this]
  · rw [if_pos h1, if_neg h2] at h
    have x := (val_zero_iff 52 a).1 (by omega)
    have y := (val_zero_iff 52 (b - 9223372036854775808)).1 (by omega)
    rw [if_pos h1, if_neg h2]; omega
  · rw [if_neg h1, if_pos h2] at h
    have x := (val_zero_iff 52 (a - 9223372036854775808)).1 (by omega)
    have y := (val_zero_iff 52 b).1 (by omega)
    rw [if_neg h1, if_pos h2]; omega
  · rw [if_neg h1, if_neg h2] at h
    have := (val_eq_iff 52 (a - 9223372036854775808) (b - 9223372036854775808)).1 (by omega)
    rw [if_neg h1, if_neg h2]; omega
theorem RN_zero_iff {z : Int} (h : RN z = 0) : z = 0 := by
  have h1 := RN_abs z
  rw [h] at h1
  by_cases h0 : z = 0
  · exact h0
  · have := rn_mono (show 1 ≤ z.natAbs by omega)
    rw [rn_small 1 (by omega)] at this
    simp at h1
    omega

def ff (a b : Nat) : Value := .tuple #[.float .f64 a, .float .f64 b]
/-- a number and an error's number -/
def fe (a : Nat) (c : Int) : Value := .tuple #[.float .f64 a, .int .i64 c]
/-- two words of one value that is no nought are one word -/
theorem V_inj {a b : Nat} (ha : FinW a) (hb : FinW b) (h : V a = V b) (h0 : V a ≠ 0) : a = b := by
  have k := V_key ha hb h
  have a1 := ha.1
  have b1 := hb.1
  have za : a % 9223372036854775808 ≠ 0 := by
    intro hz
    have := V_abs' a ha
    rw [hz, val_zero] at this; omega
  unfold key64 at k
  split at k <;> split at k <;> omega
end Go.Proofs.Ytnmadknpkhaolaa

namespace Go.Proofs.Ytnmadknpkhaolaa
open Go.ChangeShapes Go.WideShapes Go.ChangeAt Go.RowKit Ieee.Own

/-! ### the library's calls between words and numbers -/
set_option maxRecDepth 100000 in
theorem x10 (n : Int) (w : World) : (callFunc 53 #[.int .u64 n]).run Try.prog w = .ok (.value (.float .f64 n.toNat)) w := by
  rw [run_callFunc_extern (e := Extern.MathFloatBits.float64frombits) Try.func53 (by kernel_rfl) (by kernel_rfl) (by kernel_rfl) (by kernel_rfl)]; rfl
def nanB (b : Nat) : Bool := decide (9218868437227405312 < b % 9223372036854775808)
theorem ord_self (b : Nat) (hb : b < 18446744073709551616) : (FloatKind.f64.format.order b b != some Ordering.eq) = nanB b := by
  show (Ieee.double.order b b != some Ordering.eq) = nanB b
  unfold nanB
  by_cases h : 9218868437227405312 < b % 9223372036854775808
  · rw [Ieee.Own.order64_nan b b (Or.inl h)]; simp [h]
  · rw [Ieee.Own.order64 b b hb hb (by omega) (by omega)]
    simp [h, bne]
set_option maxRecDepth 100000 in
theorem isnan_any (b : Nat) (hb : b < 18446744073709551616) (w : World) :
    Calls Try.prog 70 #[.float .f64 b] w fun e w' => e = .returned (.bool (nanB b)) ∧ w = w' := by
  have h := Lib.hid (ord_self b hb)
  clear hb
  go_enter Try.func70, Try.ntmps70
  go_wp2
  go_ret
  exact ⟨ret_b h.out, rfl⟩
set_option maxRecDepth 100000 in
theorem isnan_t (b : Nat) (hb : b < 18446744073709551616) (h : nanB b = true) (w : World) :
    Calls Try.prog 70 #[.float .f64 b] w fun e w' => e = .returned (.bool true) ∧ w = w' :=
  (isnan_any b hb w).mono fun _ _ ⟨he, hw⟩ => ⟨by rw [he, h], hw⟩
set_option maxRecDepth 100000 in
theorem isnan_f (b : Nat) (hb : b < 18446744073709551616) (h : nanB b = false) (w : World) :
    Calls Try.prog 70 #[.float .f64 b] w fun e w' => e = .returned (.bool false) ∧ w = w' :=
  (isnan_any b hb w).mono fun _ _ ⟨he, hw⟩ => ⟨by rw [he, h], hw⟩
/-! ### Canon -/
set_option maxRecDepth 100000 in
theorem canon_nan (b : Nat) (hb : b < 18446744073709551616) (h : nanB b = true) (w : World) :
    Calls Try.prog 88 #[.float .f64 b] w fun e w' => e = .returned (.float .f64 9221120237041090560) ∧ w = w' := by
  have C := fun w => isnan_t b hb h w
  clear h hb
  go_enter Try.func88, Try.ntmps88
  go_wp2_with (first | simp only [x10] | (go_at_call 70; refine (C _).mono ?_; rintro e w' ⟨rfl, rfl⟩))
  go_ret
  exact ⟨rfl, rfl⟩
set_option maxRecDepth 100000 in
theorem canon_num (b : Nat) (hb : b < 18446744073709551616) (h : nanB b = false) (w : World) :
    Calls Try.prog 88 #[.float .f64 b] w fun e w' => e = .returned (.float .f64 b) ∧ w = w' := by
  have C := fun w => isnan_f b hb h w
  clear h hb
  go_enter Try.func88, Try.ntmps88
  go_wp2_with (go_at_call 70; refine (C _).mono ?_; rintro e w' ⟨rfl, rfl⟩)
  go_ret
  exact ⟨rfl, rfl⟩
/-! ### infinities -/
set_option maxRecDepth 100000 in
theorem isinf_any (b : Nat) (hb : b < 18446744073709551616) (w : World) :
    Calls Try.prog 73 #[.float .f64 b, .int .i64 0] w fun e w' => e = .returned (.bool (decide (b % 9223372036854775808 = 9218868437227405312))) ∧ w = w' := by
  have C := fun w => abs_any b hb w
  have H := Lib.hid (o_gtr (b % 9223372036854775808) 9218868437227405311 (by omega) (by omega))
  have hm := Lib.hid (show b % 9223372036854775808 < 9223372036854775808 by omega)
  clear hb
  generalize b % 9223372036854775808 = m at *
  go_enter Try.func73, Try.ntmps73
  go_wp2_with (go_at_call 29; refine (C _).mono ?_; rintro e w' ⟨rfl, rfl⟩)
  go_ret
  refine ⟨ret_b ?_, rfl⟩
  have hm := hm.out
  rw [H.out]
  clear H
  simp only [decide_eq_decide]
  unfold nn Ieee.Own.key64
  split <;> (try split) <;> omega
/-! ### neighbours -/
def nextW (b : Nat) : Nat :=
  if 9218868437227405312 < b % 9223372036854775808 then 9221120237041090560 else if b = 9218868437227405312 then b
  else if b % 9223372036854775808 = 0 then 1 else if b < 9223372036854775808 then b + 1 else b - 1
def prevW (b : Nat) : Nat :=
  if 9218868437227405312 < b % 9223372036854775808 then 9221120237041090560 else if b = 18442240474082181120 then b
  else if b % 9223372036854775808 = 0 then 9223372036854775809 else if b < 9223372036854775808 then b - 1 else b + 1
end Go.Proofs.Ytnmadknpkhaolaa

namespace Go.Proofs.Ytnmadknpkhaolaa
open Ieee.Own

/-- the number of units in 1 -/
def unit : Rat := (((2 ^ 1074 : Nat) : Int) : Rat)
theorem unit_pos : 0 < unit := by decide +kernel

/-- the value of a finite word -/
def Q (b : Nat) : Rat := (V b : Rat) / unit

theorem div_le {x y : Rat} (h : x ≤ y) : x / unit ≤ y / unit := by
  have hu := unit_pos
  rw [Rat.div_def, Rat.div_def]
  exact Rat.mul_le_mul_of_nonneg_right h (Rat.le_of_lt (Rat.inv_pos.2 hu))
theorem mul_unit (x : Rat) : x / unit * unit = x := by
  have := unit_pos
  rw [Rat.div_mul_cancel]
  grind
theorem unit_div {x : Rat} : x * unit / unit = x := by
  have := unit_pos
  rw [Rat.mul_div_cancel]
  grind

theorem Q_unit (b : Nat) : Q b * unit = (V b : Rat) := mul_unit _
theorem Q_le {a b : Nat} : Q a ≤ Q b ↔ V a ≤ V b := by
  constructor
  · intro h
    have := Rat.mul_le_mul_of_nonneg_right h (Rat.le_of_lt unit_pos)
    rw [Q_unit, Q_unit] at this
    exact Rat.intCast_le_intCast.1 this
  · intro h
    exact div_le (Rat.intCast_le_intCast.2 h)
/-- near, but for a part of 2^53 -/
def Rld (w u : Rat) : Prop := ∀ M, -M ≤ u → u ≤ M → -(M * mkRat 1 (2^53)) ≤ w - u ∧ w - u ≤ M * mkRat 1 (2^53)

theorem RN_rel (z : Int) : 2 ^ 53 * (RN z - z).natAbs ≤ z.natAbs := by
  have h1 := RN_err (z := z) (d := dr z.natAbs) (dr_lt _)
  by_cases h : 0 < dr z.natAbs
  · have h2 := dr_le _ h
    rw [Nat.pow_add] at h2
    have : 2 ^ 53 * (RN z - z).natAbs ≤ 2 ^ 52 * 2 ^ dr z.natAbs := by
      have : (2 : Nat) ^ 53 = 2 ^ 52 * 2 := by omega
      rw [this, Nat.mul_assoc]
      exact Nat.mul_le_mul_left _ h1
    omega
  · have h0 : dr z.natAbs = 0 := by omega
    rw [h0] at h1
    have : (RN z - z).natAbs = 0 := by omega
    omega

theorem rel_of {w z : Int} (h : 2 ^ 53 * (w - z).natAbs ≤ z.natAbs) : Rld ((w : Rat) / unit) ((z : Rat) / unit) := by
  intro M h1 h2
  have hu := unit_pos
  have a1 : (2 ^ 53 : Int) * (w - z) ≤ (z.natAbs : Int) := by omega
  have a2 : (2 ^ 53 : Int) * (z - w) ≤ (z.natAbs : Int) := by omega
  have b1 := Rat.intCast_le_intCast.2 a1
  have b2 := Rat.intCast_le_intCast.2 a2
  rw [Rat.intCast_mul, Rat.intCast_sub] at b1 b2
  have e53 : ((2 ^ 53 : Int) : Rat) = 9007199254740992 := by decide +kernel
  have m53 : mkRat 1 (2 ^ 53) = 1 / 9007199254740992 := by decide +kernel
  rw [e53] at b1 b2
  rw [m53]
  have c1 : -(M * unit) ≤ (z : Rat) := by
    have := Rat.mul_le_mul_of_nonneg_right h1 (Rat.le_of_lt hu)
    rw [mul_unit] at this; grind
  have c2 : (z : Rat) ≤ M * unit := by
    have := Rat.mul_le_mul_of_nonneg_right h2 (Rat.le_of_lt hu)
    rw [mul_unit] at this; grind
  have c3 : ((z.natAbs : Int) : Rat) ≤ M * unit := by
    rcases (by omega : (z.natAbs : Int) = z ∨ (z.natAbs : Int) = -z) with h | h
    · rw [h]; exact c2
    · rw [h, Rat.intCast_neg]; grind
  have d1 : 9007199254740992 * ((w : Rat) - z) ≤ M * unit := by grind
  have d2 : 9007199254740992 * ((z : Rat) - w) ≤ M * unit := by grind
  have f1 := div_le d1
  have f2 := div_le d2
  rw [unit_div] at f1 f2
  have g1 : 9007199254740992 * ((w : Rat) - z) / unit = 9007199254740992 * ((w : Rat) / unit - (z : Rat) / unit) := by
    simp only [Rat.div_def]; grind
  have g2 : 9007199254740992 * ((z : Rat) - w) / unit = 9007199254740992 * ((z : Rat) / unit - (w : Rat) / unit) := by
    simp only [Rat.div_def]; grind
  rw [g1] at f1
  rw [g2] at f2
  generalize (w : Rat) / unit = W at *
  generalize (z : Rat) / unit = Z at *
  constructor <;> grind

/-- a sum -/
theorem add_rel {a b r : Nat} (h : V r = RN (V a + V b)) : Rld (Q r) (Q a + Q b) := by
  have e : Q a + Q b = ((V a + V b : Int) : Rat) / unit := by
    unfold Q; rw [Rat.intCast_add]; simp only [Rat.div_def]; grind
  rw [e]; unfold Q; rw [h]
  exact rel_of (RN_rel _)
theorem sub_rel {a b r : Nat} (h : V r = RN (V a - V b)) : Rld (Q r) (Q a - Q b) := by
  have e : Q a - Q b = ((V a - V b : Int) : Rat) / unit := by
    unfold Q; rw [Rat.intCast_sub]; simp only [Rat.div_def]; grind
  rw [e]; unfold Q; rw [h]
  exact rel_of (RN_rel _)
theorem Q_mul {a b : Nat} {N : Int} (h : V a * V b = N * 2 ^ 1074) : Q a * Q b = (N : Rat) / unit := by
  have hu := unit_pos
  have e : (V a : Rat) * (V b : Rat) = (N : Rat) * unit := by
    rw [← Rat.intCast_mul, h, Rat.intCast_mul]
    have : ((2 ^ 1074 : Int) : Rat) = unit := by decide +kernel
    rw [this]
  have : Q a * Q b * unit = (N : Rat) := by
    have h1 : Q a * Q b * unit * unit = (N : Rat) * unit := by
      rw [← e, ← Q_unit a, ← Q_unit b]; grind
    have h2 := congrArg (· / unit) h1
    simp only [unit_div] at h2
    exact h2
  rw [← this, unit_div]
/-- a product -/
theorem mul_rel {a b r : Nat} {N : Int} (hN : V a * V b = N * 2 ^ 1074) (h : V r = RN N) : Rld (Q r) (Q a * Q b) := by
  rw [Q_mul hN]; unfold Q; rw [h]
  exact rel_of (RN_rel _)

/-! ### near things -/
/-- w is within e of x, and x within m of 0 -/
structure Ap (w x e m : Rat) : Prop where
  lo : -e ≤ w - x
  hi : w - x ≤ e
  mlo : -m ≤ x
  mhi : x ≤ m

theorem abs_mul {x y B M : Rat} (hx : -B ≤ x) (hx' : x ≤ B) (hy : -M ≤ y) (hy' : y ≤ M) :
    -(B * M) ≤ x * y ∧ x * y ≤ B * M := by
  have h1 : 0 ≤ (B - x) * (M + y) := Rat.mul_nonneg (by grind) (by grind)
  have h2 : 0 ≤ (B + x) * (M - y) := Rat.mul_nonneg (by grind) (by grind)
  have h3 : 0 ≤ (B - x) * (M - y) := Rat.mul_nonneg (by grind) (by grind)
  have h4 : 0 ≤ (B + x) * (M + y) := Rat.mul_nonneg (by grind) (by grind)
  constructor <;> grind

theorem Ap.mul {w v u x y e d m n : Rat} (h : Ap w x e m) (k : Ap v y d n) (r : Rld u (w * v)) :
    Ap u (x * y) (m * d + n * e + e * d + (m + e) * (n + d) * mkRat 1 (2^53)) (m * n) := by
  obtain ⟨h1, h2, h3, h4⟩ := h
  obtain ⟨k1, k2, k3, k4⟩ := k
  have a := abs_mul h3 h4 k1 k2
  have b := abs_mul k3 k4 h1 h2
  have c := abs_mul h1 h2 k1 k2
  have p := abs_mul (x := w) (y := v) (B := m + e) (M := n + d) (by grind) (by grind) (by grind) (by grind)
  have q := r _ p.1 p.2
  have g := abs_mul h3 h4 k3 k4
  generalize (m + e) * (n + d) * mkRat 1 (2^53) = E at *
  have i : u - x * y = (u - w * v) + x * (v - y) + y * (w - x) + (w - x) * (v - y) := by grind
  exact ⟨by rw [i]; grind, by rw [i]; grind, g.1, g.2⟩

theorem Ap.add {w v u x y e d m n : Rat} (h : Ap w x e m) (k : Ap v y d n) (r : Rld u (w + v)) :
    Ap u (x + y) (e + d + (m + e + n + d) * mkRat 1 (2^53)) (m + n) := by
  obtain ⟨h1, h2, h3, h4⟩ := h
  obtain ⟨k1, k2, k3, k4⟩ := k
  have q := r (m + e + n + d) (by grind) (by grind)
  generalize (m + e + n + d) * mkRat 1 (2^53) = E at *
  exact ⟨by grind, by grind, by grind, by grind⟩

theorem Ap.le {w x e m e' m' : Rat} (h : Ap w x e m) (h1 : e ≤ e') (h2 : m ≤ m') : Ap w x e' m' := by
  obtain ⟨a, b, c, d⟩ := h
  exact ⟨by grind, by grind, by grind, by grind⟩

/-! ### things in spans -/
theorem corner_lo {x y a b c d l : Rat} (x1 : a ≤ x) (x2 : x ≤ b) (y1 : c ≤ y) (y2 : y ≤ d)
    (h1 : l ≤ a * c) (h2 : l ≤ a * d) (h3 : l ≤ b * c) (h4 : l ≤ b * d) : l ≤ x * y := by
  -- first along y at both ends, then along x
  have s1 : l ≤ a * y := by
    rcases Rat.le_total (a := 0) (b := a) with h | h
    · have := Rat.mul_nonneg h (by grind : 0 ≤ y - c); grind
    · have := Rat.mul_nonneg (by grind : 0 ≤ -a) (by grind : 0 ≤ d - y); grind
  have s2 : l ≤ b * y := by
    rcases Rat.le_total (a := 0) (b := b) with h | h
    · have := Rat.mul_nonneg h (by grind : 0 ≤ y - c); grind
    · have := Rat.mul_nonneg (by grind : 0 ≤ -b) (by grind : 0 ≤ d - y); grind
  rcases Rat.le_total (a := 0) (b := y) with h | h
  · have := Rat.mul_nonneg h (by grind : 0 ≤ x - a); grind
  · have := Rat.mul_nonneg (by grind : 0 ≤ -y) (by grind : 0 ≤ b - x); grind

theorem corner_hi {x y a b c d u : Rat} (x1 : a ≤ x) (x2 : x ≤ b) (y1 : c ≤ y) (y2 : y ≤ d)
    (h1 : a * c ≤ u) (h2 : a * d ≤ u) (h3 : b * c ≤ u) (h4 : b * d ≤ u) : x * y ≤ u := by
  have := corner_lo (x := x) (y := -y) (a := a) (b := b) (c := -d) (d := -c) (l := -u) x1 x2 (by grind) (by grind)
    (by grind) (by grind) (by grind) (by grind)
  grind

end Go.Proofs.Ytnmadknpkhaolaa
