/- Proved here: what the texts Vei prove, one behind the other. -/
import Derived.Test.YtpdkciennccckaaJv3

namespace Go.Proofs.Ytpdkciennccckaa
open Ieee.Own

theorem mag_eq {x y : Nat} (hx : FinW x) (hy : FinW y) (h : (V x).natAbs = (V y).natAbs) : x % 9223372036854775808 = y % 9223372036854775808 := by
  rw [V_abs' x hx, V_abs' y hy] at h
  rcases Nat.lt_trichotomy (x % 9223372036854775808) (y % 9223372036854775808) with c | c | c
  · have := val_lt (F := 52) c; omega
  · exact c
  · have := val_lt (F := 52) c; omega
theorem fitB_mag {x y : Nat} (h : x % 9223372036854775808 = y % 9223372036854775808) : fitB x = fitB y := by unfold fitB; rw [h]
theorem vnB_mag {x y : Nat} (h : x % 9223372036854775808 = y % 9223372036854775808) : vnB x = vnB y := by unfold vnB; rw [fitB_mag h, h]
theorem plus0_nz {x : Nat} (h : FinW x) : Nz (aX x 0) := by
  have p := plus0 h
  by_cases q : V x = 0
  · have z := (V_zero_iff h).1 q
    have := h.1
    rcases (by omega : x = 0 ∨ x = 9223372036854775808) with rfl | rfl
    · have : aX 0 0 = 0 := by decide +kernel
      rw [this]; exact ⟨zero_fin, by omega⟩
    · have : aX 9223372036854775808 0 = 0 := by decide +kernel
      rw [this]; exact ⟨zero_fin, by omega⟩
  · exact Nz.of p.2.1 (by rw [p.2.2]; exact q)
theorem bW_nz {x : Nat} (h : FinW x) : Nz (bW x) := by
  unfold bW
  split
  · exact ⟨zero_fin, by omega⟩
  · exact plus0_nz h
/-- numbers of opposite values, brought to fit ones -/
theorem bW_opp {x y : Nat} (hx : FinW x) (hy : FinW y) (h : V y = -V x) : V (bW y) = -V (bW x) := by
  have m := mag_eq hy hx (by rw [h, Int.natAbs_neg])
  unfold bW
  rw [fitB_mag m, m]
  split
  · rw [V_zero]; omega
  · rw [(plus0 hx).2.2, (plus0 hy).2.2, h]
theorem vnB_opp {x y : Nat} (hx : FinW x) (hy : FinW y) (h : V y = -V x) : vnB y = vnB x := vnB_mag (mag_eq hy hx (by rw [h, Int.natAbs_neg]))
theorem negN_opp {x y : Nat} (hx : Nz x) (hy : FinW y) (h : V y = -V x) : negN y = x := by
  obtain ⟨-, n, v⟩ := negN_spec hy
  exact n.uniq hx (by rw [v, h]; omega)
theorem bV_opp {p q : V3} (hp : F3 p) (hq : F3 q) (h1 : V q.1 = -V p.1) (h2 : V q.2.1 = -V p.2.1) (h3 : V q.2.2 = -V p.2.2) : fitV (bV q) = fitV (bV p) := by
  have b := hp.b
  have c := hq.b
  unfold fitV
  have e1 := vnB_opp b.f1 c.f1 (bW_opp hp.f1 hq.f1 h1)
  have e2 := vnB_opp b.f2 c.f2 (bW_opp hp.f2 hq.f2 h2)
  have e3 := vnB_opp b.f3 c.f3 (bW_opp hp.f3 hq.f3 h3)
  rw [e1, e2, e3]
/-- an answer and its opposite: the same error, and each number of the one is the other's taken from +0 -/
structure Opp (r t : V3 × Int) : Prop where
  err : t.2 = r.2
  fin : F3 t.1
  n1 : negN t.1.1 = r.1.1
  n2 : negN t.1.2.1 = r.1.2.1
  n3 : negN t.1.2.2 = r.1.2.2
theorem opp_zero (k : Int) : Opp (z3, k) (z3, k) := ⟨rfl, ⟨zero_fin, zero_fin, zero_fin⟩, show negN 0 = 0 by decide +kernel, show negN 0 = 0 by decide +kernel, show negN 0 = 0 by decide +kernel⟩
theorem told_opp {p q : V3} (hp : F3 p) (hq : F3 q) (h1 : V q.1 = -V p.1) (h2 : V q.2.1 = -V p.2.1) (h3 : V q.2.2 = -V p.2.2) : Opp (toldR p) (toldR q) := by
  unfold toldR
  rw [bV_opp hp hq h1 h2 h3]
  split
  · exact ⟨rfl, hq.b, negN_opp (bW_nz hp.f1) hq.b.f1 (bW_opp hp.f1 hq.f1 h1), negN_opp (bW_nz hp.f2) hq.b.f2 (bW_opp hp.f2 hq.f2 h2), negN_opp (bW_nz hp.f3) hq.b.f3 (bW_opp hp.f3 hq.f3 h3)⟩
  · exact opp_zero 3
theorem both_comm (a b : V3) : both3 a b = both3 b a := by unfold both3; exact Bool.and_comm _ _
theorem mX_comm {a b : Nat} (ha : Wd a 822 1134) (hb : Wd b 822 1134) : V (mX a b) = V (mX b a) := by
  have h1 := mul_ok ha.fin hb.fin ha.abs hb.abs (k := 1194) (by omega) (by omega)
  have h2 := mul_ok hb.fin ha.fin hb.abs ha.abs (k := 1194) (by omega) (by omega)
  rw [h1.2.2.1, h2.2.2.1, Int.mul_comm]
theorem dot_comm {a b : V3} (ha : W3 a) (hb : W3 b) : dotR a b = dotR b a := by
  unfold dotR
  rw [both_comm a b]
  split
  · rename_i h
    have A := fitV_wd ha (both_of h).2
    have B := fitV_wd hb (both_of h).1
    have D := dot_ok A.bd B.bd
    have E := dot_ok B.bd A.bd
    have e : V (dW a b) = V (dW b a) := by rw [D.t2, E.t2, D.t1, E.t1, mX_comm A.w1 B.w1, mX_comm A.w2 B.w2, mX_comm A.w3 B.w3]
    rw [(plus0_nz D.fin).uniq (plus0_nz E.fin) (by rw [(plus0 D.fin).2.2, (plus0 E.fin).2.2, e])]
  · rfl
theorem sub_opp {a b : V3} (ha : W3 a) (hb : W3 b) : Opp (subR a b) (subR b a) := by
  unfold subR
  rw [both_comm b a]
  split
  · rename_i h
    have A := (fitV_wd ha (both_of h).1).bd
    have B := (fitV_wd hb (both_of h).2).bd
    obtain ⟨-, g1, v1, -⟩ := sub_ok A.f1 B.f1 A.b1 B.b1 (k := 1135) rfl (by omega)
    obtain ⟨-, g2, v2, -⟩ := sub_ok A.f2 B.f2 A.b2 B.b2 (k := 1135) rfl (by omega)
    obtain ⟨-, g3, v3, -⟩ := sub_ok A.f3 B.f3 A.b3 B.b3 (k := 1135) rfl (by omega)
    obtain ⟨-, i1, u1, -⟩ := sub_ok B.f1 A.f1 B.b1 A.b1 (k := 1135) rfl (by omega)
    obtain ⟨-, i2, u2, -⟩ := sub_ok B.f2 A.f2 B.b2 A.b2 (k := 1135) rfl (by omega)
    obtain ⟨-, i3, u3, -⟩ := sub_ok B.f3 A.f3 B.b3 A.b3 (k := 1135) rfl (by omega)
    refine told_opp (p := (_, _, _)) (q := (_, _, _)) ⟨g1, g2, g3⟩ ⟨i1, i2, i3⟩ ?_ ?_ ?_
    · rw [u1, v1, ← RN_neg]; congr 1; omega
    · rw [u2, v2, ← RN_neg]; congr 1; omega
    · rw [u3, v3, ← RN_neg]; congr 1; omega
  · exact opp_zero 3
theorem cross_part {a b c d : Nat} (ha : Wd a 822 1134) (hb : Wd b 822 1134) (hc : Wd c 822 1134) (hd : Wd d 822 1134) : FinW (lX (mX a b) (mX c d)) ∧ FinW (lX (mX d c) (mX b a)) ∧ V (lX (mX d c) (mX b a)) = -V (lX (mX a b) (mX c d)) := by
  obtain ⟨-, f1, -, b1⟩ := mul_ok ha.fin hb.fin ha.abs hb.abs (k := 1194) (by omega) (by omega)
  obtain ⟨-, f2, -, b2⟩ := mul_ok hc.fin hd.fin hc.abs hd.abs (k := 1194) (by omega) (by omega)
  obtain ⟨-, f3, -, b3⟩ := mul_ok hd.fin hc.fin hd.abs hc.abs (k := 1194) (by omega) (by omega)
  obtain ⟨-, f4, -, b4⟩ := mul_ok hb.fin ha.fin hb.abs ha.abs (k := 1194) (by omega) (by omega)
  obtain ⟨-, g1, v1, -⟩ := sub_ok f1 f2 b1 b2 (k := 1195) rfl (by omega)
  obtain ⟨-, g2, v2, -⟩ := sub_ok f3 f4 b3 b4 (k := 1195) rfl (by omega)
  refine ⟨g1, g2, ?_⟩
  rw [v1, v2, ← RN_neg, mX_comm hd hc, mX_comm hb ha]
  congr 1; omega
theorem cross_opp {a b : V3} (ha : W3 a) (hb : W3 b) : Opp (crossR a b) (crossR b a) := by
  unfold crossR
  rw [both_comm b a]
  split
  · rename_i h
    have A := fitV_wd ha (both_of h).1
    have B := fitV_wd hb (both_of h).2
    obtain ⟨g1, i1, e1⟩ := cross_part A.w2 B.w3 A.w3 B.w2
    obtain ⟨g2, i2, e2⟩ := cross_part A.w3 B.w1 A.w1 B.w3
    obtain ⟨g3, i3, e3⟩ := cross_part A.w1 B.w2 A.w2 B.w1
    exact told_opp (p := (_, _, _)) (q := (_, _, _)) ⟨g1, g2, g3⟩ ⟨i1, i2, i3⟩ e1 e2 e3
  · exact opp_zero 3
end Go.Proofs.Ytpdkciennccckaa
