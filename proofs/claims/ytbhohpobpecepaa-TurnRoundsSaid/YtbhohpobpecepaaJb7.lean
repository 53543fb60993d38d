/- Proved here: what the texts Umr prove, one behind the other. -/
import Derived.Test.YtbhohpobpecepaaJb6

namespace Go.Proofs.Ytbhohpobpecepaa
open Ieee.Own

theorem word_neg (s : Bool) (r : Nat) (h : r < 9223372036854775808) : Ieee.double.word (!s) r = negW (Ieee.double.word s r) := by
  have sw : Ieee.double.signWeight = 9223372036854775808 := by decide +kernel
  unfold Ieee.Format.word negW
  rw [sw]
  cases s
  · simp only [Bool.not_false, if_true, Bool.false_eq_true, if_false, if_pos h]; omega
  · simp only [Bool.not_true, if_true, Bool.false_eq_true, if_false]
    rw [if_neg (by omega)]; omega
theorem nearest_neg (s : Bool) (m : Nat) (p : Int) : Ieee.double.nearest (!s) m p = negW (Ieee.double.nearest s m p) := by
  unfold Ieee.Format.nearest
  by_cases h0 : m = 0
  · rw [if_pos h0, if_pos h0]; exact word_neg s 0 (by omega)
  · rw [if_neg h0, if_neg h0]
    dsimp only
    have c : ∀ n d, Ieee.Toward.even.cut (!s) n d = Ieee.Toward.even.cut s n d := fun n d => by rw [cut_rne, cut_rne]
    rw [c, inf64]
    exact word_neg s _ (by omega)
theorem read_neg {a : Nat} (h : FinW a) : ∃ s m p, Ieee.double.read a = .number s m p ∧ Ieee.double.read (negW a) = .number (!s) m p := by
  have sw : Ieee.double.signWeight = 9223372036854775808 := by decide +kernel
  have g := negW_fin h
  have r1 := read_num Ieee.double a (by rw [sw, inf64]; exact h.2)
  have r2 := read_num Ieee.double (negW a) (by rw [sw, inf64]; exact g.2)
  rw [sw] at r1 r2
  have e : negW a % 9223372036854775808 = a % 9223372036854775808 := by
    have := h.1
    unfold negW; split <;> omega
  have d : (negW a / 9223372036854775808 % 2 == 1) = !(a / 9223372036854775808 % 2 == 1) := by
    have := h.1
    by_cases q : a < 9223372036854775808
    · have e1 : a / 9223372036854775808 % 2 = 0 := by omega
      have e2 : negW a / 9223372036854775808 % 2 = 1 := by unfold negW; rw [if_pos q]; omega
      rw [e1, e2]; rfl
    · have e1 : a / 9223372036854775808 % 2 = 1 := by omega
      have e2 : negW a / 9223372036854775808 % 2 = 0 := by unfold negW; rw [if_neg q]; omega
      rw [e1, e2]; rfl
  rw [e, d] at r2
  exact ⟨_, _, _, r1, r2⟩
theorem mul_neg {a b : Nat} (ha : FinW a) (hb : FinW b) : Ieee.double.mul (negW a) b = (Ieee.double.mul a b).map negW := by
  obtain ⟨s, m, p, e1, e2⟩ := read_neg ha
  obtain ⟨t, n, q, e3, -⟩ := read_neg hb
  unfold Ieee.Format.mul
  rw [e1, e2, e3]
  unfold Ieee.Datum.product
  dsimp only
  rw [Option.map_some, Option.map_some, Option.map_some]
  have : ((!s) ^^ t) = !(s ^^ t) := by cases s <;> cases t <;> rfl
  rw [this]
  exact congrArg some (nearest_neg _ _ _)
theorem mul_neg2 {a b : Nat} (ha : FinW a) (hb : FinW b) : Ieee.double.mul (negW a) (negW b) = Ieee.double.mul a b := by
  obtain ⟨s, m, p, e1, e2⟩ := read_neg ha
  obtain ⟨t, n, q, e3, e4⟩ := read_neg hb
  unfold Ieee.Format.mul
  rw [e1, e2, e3, e4]
  unfold Ieee.Datum.product
  dsimp only
  have : ((!s) ^^ (!t)) = (s ^^ t) := by cases s <;> cases t <;> rfl
  rw [this]

/-- the near sine is odd, the near cosine even -/
theorem Rest.odd {r : Nat} (h : Rest r) (g : Rest (negW r)) : V (sinX (negW r)) = -V (sinX r) ∧ cosX (negW r) = cosX r := by
  have N := h.near
  have M := g.near
  have y : yW (negW r) = negW (yW r) := by
    have e := mul_neg h.fin tau_wd.fin
    rw [N.y, M.y] at e
    exact Option.some.inj e
  have z : zW (negW r) = zW r := by
    have e := mul_neg2 N.yw.fin N.yw.fin
    rw [← y, M.z, N.z] at e
    exact Option.some.inj e
  have p : pW (negW r) = pW r := by unfold pW; rw [z]
  have q : qW (negW r) = qW r := by unfold qW; rw [z]
  have c : cosX (negW r) = cosX r := by unfold cosX; rw [z, q]
  refine ⟨?_, c⟩
  have zp : mX (zW (negW r)) (pW (negW r)) = mX (zW r) (pW r) := by rw [z, p]
  have B : mX (yW (negW r)) (mX (zW (negW r)) (pW (negW r))) = negW (mX (yW r) (mX (zW r) (pW r))) := by
    have fz : FinW (mX (zW r) (pW r)) := by
      obtain ⟨-, -, -, P, -⟩ := hor_step N.zw _ _ grow_sin
      exact (N.zw.mul (show Wd (pW r) 960 1074 from P) (by omega) (by omega) (by omega)).2.1.fin
    have e := mul_neg N.yw.fin fz
    rw [← y, N.yzp] at e
    have := M.yzp
    rw [zp] at this ⊢
    rw [this] at e
    exact Option.some.inj e
  obtain ⟨r1, s1, -, s3, -⟩ := addW N.yw.fin N.bw.fin N.yw.abs N.bw.abs (by omega)
  obtain ⟨r2, t1, -, t3, -⟩ := addW M.yw.fin M.bw.fin M.yw.abs M.bw.abs (by omega)
  have a1 := N.s
  have a2 := M.s
  rw [s1] at a1
  rw [t1] at a2
  rw [← Option.some.inj a1, ← Option.some.inj a2, s3, t3, B, y, negW_V N.yw.fin, negW_V N.bw.fin]
  rw [← RN_neg]
  congr 1; omega

theorem Rst.odd {x y r q : Nat} (hx : Ang x) (hy : Ang y) (e : V y = -V x) (R : Rst x r) (S : Rst y q) : V (sinX q) = -V (sinX r) ∧ V (cosX q) = V (cosX r) := by
  have vq : V q = -V r := by rw [S.v, R.v, e]; exact (kq_neg eig_pos (V x)).2
  by_cases r0 : V r = 0
  · rw [R.nz.zero r0, S.nz.zero (by omega)]
    have : V (sinX 0) = 0 := by decide +kernel
    rw [this]; exact ⟨rfl, rfl⟩
  · have qe : q = negW r := V_inj S.nz.fin (negW_fin R.nz.fin) (by rw [vq, negW_V R.nz.fin]) (by omega)
    have g := S.rest hy
    rw [qe] at g ⊢
    have := (R.rest hx).odd g
    exact ⟨this.1, by rw [this.2]⟩

theorem vq_neg (k S C : Int) : vq (-k) (-S) C = -vq k S C ∧ vq (-k + 1) (-S) C = vq (k + 1) S C := by
  unfold vq
  have : k % 4 = 0 ∨ k % 4 = 1 ∨ k % 4 = 2 ∨ k % 4 = 3 := by omega
  rcases this with h | h | h | h
  · rw [if_pos (by omega), if_pos h, if_neg (by omega), if_pos (by omega), if_neg (by omega), if_pos (by omega)]
    exact ⟨rfl, rfl⟩
  · rw [if_neg (by omega), if_neg (by omega), if_neg (by omega), if_neg (by omega), if_pos (by omega), if_pos (by omega), if_neg (by omega), if_neg (by omega), if_pos (by omega)]
    exact ⟨rfl, rfl⟩
  · rw [if_neg (by omega), if_neg (by omega), if_pos (by omega), if_neg (by omega), if_neg (by omega), if_pos (by omega), if_neg (by omega), if_neg (by omega), if_neg (by omega), if_neg (by omega), if_neg (by omega), if_neg (by omega)]
    exact ⟨rfl, rfl⟩
  · rw [if_neg (by omega), if_pos (by omega), if_neg (by omega), if_neg (by omega), if_neg (by omega), if_neg (by omega), if_neg (by omega), if_pos (by omega), if_pos (by omega)]
    exact ⟨by omega, by omega⟩
theorem vq_four (k S C : Int) : vq (k + 4) S C = vq k S C := by
  unfold vq
  have : (k + 4) % 4 = k % 4 := by omega
  rw [this]

theorem Trig.mirror {x y s c t d : Nat} (hx : Ang x) (hy : Ang y) (e : V y = -V x) (T : Trig x s c) (U : Trig y t d) : V t = -V s ∧ V d = V c := by
  obtain ⟨r, R, a, b⟩ := T.ex
  obtain ⟨q, S, a', b'⟩ := U.ex
  have o := Rst.odd hx hy e R S
  have k := (kq_neg eig_pos (V x)).1
  have v := vq_neg (kq eig (V x)) (V (sinX r)) (V (cosX r))
  rw [a', b', a, b, o.1, o.2, e, k]
  exact v
theorem Trig.turn {x y s c t d : Nat} (e : V y = V x + 2 ^ 1074) (T : Trig x s c) (U : Trig y t d) : s = t ∧ c = d := by
  have e8 : (2 : Int) ^ 1074 = 8 * eig := by rw [← eig8]
  have k := kq_turn eig_pos (V x)
  rw [← e8, ← e] at k
  obtain ⟨q, S, a', b'⟩ := U.ex
  refine T.uniq ⟨⟨q, ⟨S.nz, by rw [S.v, k.2]⟩, ?_, ?_⟩, U.sz, U.cz⟩
  · rw [a', k.1, vq_four]
  · rw [b', k.1, show kq eig (V x) + 4 + 1 = kq eig (V x) + 1 + 4 by omega, vq_four]

theorem errA_neg (x : Nat) (hx : x < 18446744073709551616) : errA (negW x) = errA x := by
  have e : negW x % 9223372036854775808 = x % 9223372036854775808 := by unfold negW; split <;> omega
  unfold errA fitB
  rw [e]
end Go.Proofs.Ytbhohpobpecepaa
