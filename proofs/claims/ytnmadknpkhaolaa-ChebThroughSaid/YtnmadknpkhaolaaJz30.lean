/- Proved here: what the texts Hsc, Htf, Htk, Htl, Htm prove, one behind the other. -/
import Derived.Test.YtnmadknpkhaolaaJz29
import Derived.Test.YtnmadknpkhaolaaJz21
import Derived.Test.YtnmadknpkhaolaaJz20

namespace Go.Proofs.Ytnmadknpkhaolaa
open Go.ChangeShapes Go.WideShapes Go.ChangeAt Go.RowKit Ieee.Own Pol

/-! ### a round -/
theorem totL_snoc : ∀ (cs : List Nat) (d s : Nat), totL (cs ++ [d]) s = aX (totL cs s) (d % 9223372036854775808)
  | [], _, _ => rfl
  | _ :: cs, d, _ => totL_snoc cs d _
theorem take_snoc {L : List Nat} {i : Nat} (h : i < L.length) : L.take (i + 1) = L.take i ++ [L.getD i 0] := by
  rw [List.take_add_one]
  congr 1
  simp [List.getD, h]
structure PkR (L : List Nat) (i : Nat) : Prop where
  c : Fc (L.getD i 0)
  o : Ieee.double.add (totL ((L.take i).map rsW) 0) (rsW (L.getD i 0) % 9223372036854775808) = some (totL ((L.take (i + 1)).map rsW) 0)
  t : Ieee.double.add (totL (L.take i) 0) (L.getD i 0 % 9223372036854775808) = some (totL (L.take (i + 1)) 0)
theorem pk_round {L : List Nat} {i : Nat} (h : ∀ c ∈ L, Fc c) (hl : L.length ≤ 16) (hi : i < L.length) : PkR L i := by
  have F : Fc (L.getD i 0) := h _ (by simp [List.getD, hi])
  have ht : ∀ c ∈ L.take i, Fc c := fun c hc => h c (List.mem_of_mem_take hc)
  have T := td_ok ht (by simp; omega)
  have li : (L.take i).length = i := by simp; omega
  have P := pk_ok F
  have fc := fit_fin F.lt F.fit
  have s1 := (sqm_step (B := 0) (by decide) T.off (by omega) P.rfin P.rabs (.inr (Int.natCast_nonneg _))).2
  have s2 := (sqm_step (B := 2 ^ 874) rep874 T.tot (by omega) fc (Nat.le_trans F.bd (two_le (a := 1114) (b := 1115) (by omega))) (by
    rcases (fit_iff fc).1 F.fit with z | z
    · exact .inl z
    · right
      have : (2 ^ 874 : Int) ≤ leastV := by decide +kernel
      exact Int.le_trans this z.1)).2
  refine ⟨F, ?_, ?_⟩
  · rw [take_snoc hi, List.map_append, List.map_cons, List.map_nil, totL_snoc]; exact s1
  · rw [take_snoc hi, totL_snoc]; exact s2
end Go.Proofs.Ytnmadknpkhaolaa

namespace Go.Proofs.Ytnmadknpkhaolaa
open Go.ChangeShapes Go.WideShapes Go.ChangeAt Go.RowKit Ieee.Own Pol

set_option maxHeartbeats 1000000 in
set_option maxRecDepth 100000 in
theorem total13_run {L : List Nat} (ao : Option Addr) (cap n : Nat) (w : World) (hn : n = L.length) (h : ∀ c ∈ L, Fc c) (hl : n ≤ 16) (ha : At w ao L) :
    Calls Try.prog 30 #[.slice ao n cap] w fun e w' => e = .returned (.float .f64 (ttW L)) ∧ w = w' := by
  have e2 : ttW L = totL (L.take n) 0 := by unfold ttW; rw [hn, List.take_length]
  rw [e2]
  replace hn := Lib.hid hn
  replace ha := Lib.hid ha
  replace h := Lib.hid h
  clear e2
  go_enter Try.func30, Try.ntmps30
  go_wp2_with fail
  go_loop [3, 4] (fun sv iv => ∃ i : Nat, i ≤ n ∧ iv = .int .i64 i ∧ sv = .float .f64 (totL (L.take i) 0)) (fun _ iv => n - (intOf iv).toNat)
  case atStart => exact ⟨0, Nat.zero_le _, rfl, rfl⟩
  case round =>
    obtain ⟨i, hi, rfl, rfl⟩ := hrel
    by_cases hlt : i < n
    · have hil : i < L.length := by have := hn.out; omega
      obtain ⟨b, o, rfl, hc⟩ := ha.out i hil
      have R := pk_round h.out (by have := hn.out; omega) hil
      have C := fun w => abs_any (L.getD i 0) R.c.lt w
      have r1 := run_add _ _ _ R.t
      obtain ⟨t2, ht2⟩ : ∃ t2, t2 = totL (L.take (i + 1)) 0 := ⟨_, rfl⟩
      rw [← ht2] at r1
      replace ht2 := Lib.hid ht2
      have hi2 : (i : Int) < (n : Int) := by omega
      clear R hil
      generalize totL (L.take i) 0 = t1 at *
      generalize L.getD i 0 = c at *
      generalize c % 9223372036854775808 = c' at *
      go_wp2_with (go_at_call 29; ((with_reducible refine (C _).mono ?_); rintro e w' ⟨rfl, rfl⟩))
      go_round
      case rel => exact ⟨i + 1, hlt, by go_num, by rw [ht2.out]⟩
      case measure => simp [intOf]; omega
    · obtain rfl : i = n := by omega
      go_wp2_with fail
      go_ret
      exact ⟨rfl, rfl⟩
def d34 : Nat := 4760304806130614272
def d180 : Nat := 3796534485873328128
/-- what the law asks at a node -/
structure ThrOk (L : List Nat) (k : Nat) : Prop where
  x : (ndL L.length).getD k 0 < 18446744073709551616
  er : errX m00 (ftL L) ((ndL L.length).getD k 0) = 0
  s : Ieee.double.sub (posW (chW ((ndL L.length).getD k 0) (ftL L))) (L.getD k 0) = some (lX (posW (chW ((ndL L.length).getD k 0) (ftL L))) (L.getD k 0))
  lt : lX (posW (chW ((ndL L.length).getD k 0) (ftL L))) (L.getD k 0) < 18446744073709551616
  q : Ieee.double.div (ttW L) d34 = some (qX (ttW L) d34)
  a : Ieee.double.add (qX (ttW L) d34) d180 = some (aX (qX (ttW L) d34) d180)
  le : (FloatKind.f64.format.order (lX (posW (chW ((ndL L.length).getD k 0) (ftL L))) (L.getD k 0) % 9223372036854775808) (aX (qX (ttW L) d34) d180) == some Ordering.lt || FloatKind.f64.format.order (lX (posW (chW ((ndL L.length).getD k 0) (ftL L))) (L.getD k 0) % 9223372036854775808) (aX (qX (ttW L) d34) d180) == some Ordering.eq) = true
theorem ft_words {L : List Nat} (h : ∀ v ∈ L, Fc v) (hl : L.length ≤ 16) : Words (ftL L) := by
  intro x hx
  unfold ftL at hx
  obtain ⟨j, hj, rfl⟩ := List.mem_map.1 hx
  exact (ft_ok h hl (List.mem_range.1 hj)).nz.fin.1
end Go.Proofs.Ytnmadknpkhaolaa

namespace Go.Proofs.Ytnmadknpkhaolaa
open Go.ChangeShapes Go.WideShapes Go.ChangeAt Go.RowKit Ieee.Own Pol

theorem mag_nneg {a : Rat} (h : 0 ≤ a) : mag a = a := by unfold mag; rw [if_pos h]
theorem ft_poly {u W t s D s' e q n : Rat} (u0 : 0 ≤ u) (u1 : 1000000 * u ≤ 1) (W0 : 0 ≤ W) (t0 : 0 ≤ t) (h1 : mag (s - D) ≤ 48 * (u * W) + 32 * t) (hD : mag D ≤ W) (e0 : 0 ≤ e) (e2 : e ≤ 2) (h2 : mag (s' - e * s) ≤ u * (2 * mag s)) (h3 : mag (q * n - s') ≤ u * mag (q * n)) : mag (q * n - e * D) ≤ 110 * (u * W) + 80 * t := by
  have me : mag e ≤ 2 := by rw [mag_nneg e0]; exact e2
  have X0 := (mag_le s).2.2
  have Y0 := (mag_le (q * n)).2.2
  have x1 := mag_add hD h1
  rw [show D + (s - D) = s by grind] at x1
  have es := mag_mul me (Rat.le_refl (a := mag s))
  have z1 := mag_add es h2
  rw [show e * s + (s' - e * s) = s' by grind] at z1
  have y1 := mag_add z1 h3
  rw [show s' + (q * n - s') = q * n by grind] at y1
  have ed := mag_mul me h1
  have f1 := mag_add h3 h2
  have f2 := mag_add f1 ed
  rw [show q * n - s' + (s' - e * s) + e * (s - D) = q * n - e * D by grind] at f2
  have uW := Rat.mul_nonneg u0 W0
  have ut := Rat.mul_nonneg u0 t0
  have uuW := Rat.mul_nonneg (show 0 ≤ 1 - 1000000 * u by grind) uW
  have uut := Rat.mul_nonneg (show 0 ≤ 1 - 1000000 * u by grind) t0
  have uY := Rat.mul_nonneg u0 Y0
  have uX := Rat.mul_nonneg u0 X0
  have uuY := Rat.mul_nonneg (show 0 ≤ 1 - 1000000 * u by grind) uY
  have uuX := Rat.mul_nonneg (show 0 ≤ 1 - 1000000 * u by grind) uX
  have g1 := Rat.mul_le_mul_of_nonneg_left x1 u0
  have g2 := Rat.mul_le_mul_of_nonneg_left y1 u0
  rw [show (1 - 1000000 * u) * (u * W) = u * W - 1000000 * (u * (u * W)) by grind] at uuW
  rw [show (1 - 1000000 * u) * t = t - 1000000 * (u * t) by grind] at uut
  rw [show (1 - 1000000 * u) * (u * mag (q * n)) = u * mag (q * n) - 1000000 * (u * (u * mag (q * n))) by grind] at uuY
  rw [show (1 - 1000000 * u) * (u * mag s) = u * mag s - 1000000 * (u * (u * mag s)) by grind] at uuX
  rw [show u * (W + (48 * (u * W) + 32 * t)) = u * W + 48 * (u * (u * W)) + 32 * (u * t) by grind] at g1
  rw [show u * (2 * mag s + u * (2 * mag s) + u * mag (q * n)) = 2 * (u * mag s) + 2 * (u * (u * mag s)) + u * (u * mag (q * n)) by grind] at g2
  rw [show u * mag (q * n) + u * (2 * mag s) + 2 * (48 * (u * W) + 32 * t) = u * mag (q * n) + 2 * (u * mag s) + 96 * (u * W) + 64 * t by grind] at f2
  generalize u * (u * mag (q * n)) = a1 at *
  generalize u * (u * mag s) = a2 at *
  generalize u * mag (q * n) = a3 at *
  generalize u * mag s = a4 at *
  generalize u * (u * W) = a5 at *
  generalize u * W = a6 at *
  generalize u * t = a7 at *
  generalize mag (q * n - e * D) = a8 at *
  grind
theorem div_n {x n B : Rat} (n1 : 1 ≤ n) (h : mag (x * n) ≤ B) : mag x ≤ B := by
  refine Rat.le_trans ?_ h
  have a := mag_le (x * n)
  rcases Rat.le_total (a := 0) (b := x) with c | c
  · rw [mag_nneg c]
    have := Rat.mul_nonneg c (show 0 ≤ n - 1 by grind)
    grind
  · have := Rat.mul_nonneg (show 0 ≤ -x by grind) (show 0 ≤ n - 1 by grind)
    have e : mag x ≤ -x := mag_of (by grind) (by grind)
    grind
theorem bg_off {x : Nat} (hx : FinW x) (b : (V x).natAbs ≤ 2 ^ 1200) : mag (Q (bgW x) - Q x) ≤ Go.Proofs.Ytnmadknpkhaolaa.sm := by
  rcases bg_cases hx b with c | ⟨c, d⟩
  · have e : Q (bgW x) = Q x := by unfold Q; rw [c]
    rw [e, show Q x - Q x = 0 by grind, show mag (0 : Rat) = 0 by decide +kernel]
    decide +kernel
  · have e : Q (bgW x) = Q 0 := by unfold Q; rw [c, V_zero]
    have z : Q 0 = 0 := by decide +kernel
    have q1 : Q 3706462493325918208 = Go.Proofs.Ytnmadknpkhaolaa.sm := by decide +kernel
    have c1 : V 3706462493325918208 = leastV := by decide +kernel
    obtain ⟨fa, va⟩ := abs_word hx
    have l : Q (x % 9223372036854775808) < Q 3706462493325918208 := Q_lt.2 (by rw [va, c1]; exact d)
    rw [Q_magW hx, q1] at l
    rw [e, z]
    have := mag_sub (show mag (0 : Rat) ≤ 0 by decide +kernel) (Rat.le_of_lt l)
    rwa [Rat.zero_add] at this
/-- e of n: the factor ahead of a coefficient's sum -/
def eF (j : Nat) : Rat := if j = 0 then 1 else 2
theorem nat_Q {n : Nat} (hn : n ≤ 16) : Q (nrN n) = (n : Rat) := by
  have all : ((List.range 17).all fun m => decide (Q (nrN m) = (m : Rat))) = true := by decide +kernel
  rw [List.all_eq_true] at all
  have := all n (List.mem_range.2 (by omega))
  rwa [decide_eq_true_eq] at this
theorem natR {n : Nat} (h0 : 0 < n) (hn : n ≤ 16) : (1 : Rat) ≤ (n : Rat) ∧ (n : Rat) ≤ 16 := by
  have a : ((1 : Int) : Rat) ≤ ((n : Int) : Rat) := Rat.intCast_le_intCast.2 (by omega)
  have b : ((n : Int) : Rat) ≤ ((16 : Int) : Rat) := Rat.intCast_le_intCast.2 (by omega)
  exact ⟨a, b⟩
theorem two_Q : Q twoW = 2 := by decide +kernel
theorem one_scale {n k : Nat} (h : 0 < n) : (2 : Int) ^ k ≤ (n : Int) * 2 ^ k := by
  have := Int.mul_le_mul_of_nonneg_right (show (1 : Int) ≤ (n : Int) by omega) (Int.le_of_lt (pow1 k))
  rwa [Int.one_mul] at this
theorem cap16 {n a t : Rat} (h : n ≤ 16) (a0 : 0 ≤ a) (t0 : 0 ≤ t) : 3 * n * a + 2 * n * t ≤ 48 * a + 32 * t := by
  have x := Rat.mul_nonneg (show 0 ≤ 16 - n by grind) a0
  have y := Rat.mul_nonneg (show 0 ≤ 16 - n by grind) t0
  grind
theorem xs_one {n j : Nat} (hn : n ≤ 16) (hj : j < n) : ∀ (m k : Nat), k + m ≤ n → ∀ c ∈ xsF n j k m, mag c ≤ 1
  | 0, _, _, c, hc => by simp [xsF] at hc
  | m + 1, k, h, c, hc => by
    have hc' : c ∈ Q (cAt n j k) :: xsF n j (k + 1) m := hc
    rcases List.mem_cons.1 hc' with e | e
    · rw [e]; exact c_one hn hj (by omega)
    · exact xs_one hn hj m (k + 1) (by omega) c e
theorem div_low {a n m q : Nat} (fa : FinW a) (hN : V a = 0 ∨ ∃ s m p, Norm a s m p ∧ 400 ≤ p ∧ p ≤ 1222) (N : Norm n false m q) (h1 : 760 ≤ q) (h2 : q ≤ 1046) :
    Ieee.double.div a n = some (qX a n) ∧ FinW (qX a n) ∧ 2 ^ 53 * (V (qX a n) * V n - V a * 2 ^ 1074).natAbs ≤ (V (qX a n) * V n).natAbs := by
  have vn := N.val
  rw [sv_pos] at vn
  rcases hN with z | ⟨s, m', p, N', p1, p2⟩
  · have nz : V n ≠ 0 := by
      rw [vn]
      have := N.lo
      exact Int.ne_of_gt (Int.mul_pos (by omega) (Int.pow_pos (by decide)))
    obtain ⟨r, q1, q2, q3⟩ := div_zero fa z N.fin nz
    have er : qX a n = r := by unfold qX; rw [q1]; rfl
    rw [er]
    refine ⟨q1, q2, ?_⟩
    rw [q3, z, Int.zero_mul, Int.zero_mul]
    decide
  · obtain ⟨r, Q, u, q1, q2, q3, u1, u2, Q1, Q2, i1, i2⟩ := div_spec N' N (by omega) (by omega)
    have er : qX a n = r := by unfold qX; rw [q1]; rfl
    rw [er]
    refine ⟨q1, q2, ?_⟩
    have key : 2 ^ 53 * (((Q * m : Nat) : Int) - ((m' * 2 ^ u : Nat) : Int)).natAbs ≤ Q * m := by
      have k1 : 2 * (((Q * m : Nat) : Int) - ((m' * 2 ^ u : Nat) : Int)).natAbs ≤ m := by
        generalize Q * m = X at *
        generalize m' * 2 ^ u = Y at *
        omega
      have k2 : 2 ^ 52 * m ≤ Q * m := Nat.mul_le_mul_right _ Q1
      generalize Q * m = X at *
      generalize m' * 2 ^ u = Y at *
      omega
    have x0 : (s ^^ false) = s := by cases s <;> rfl
    rw [x0] at q3
    have e1 : 1074 + p - q - u + q = 1074 + p - u := by omega
    have va := N'.val
    have sg : ∀ (s : Bool) (A B : Nat), sv s A B = (if s then -1 else 1) * ((A : Int) * 2 ^ B) := fun s A B => by
      unfold sv; cases s <;> simp
    rw [sg] at q3 va
    have x1 : V r * V n = (if s then -1 else 1) * ((Q * m : Nat) : Int) * 2 ^ (1074 + p - u) := by
      rw [q3, vn, Int.mul_assoc, prod_merge _ _ e1, Int.natCast_mul]
      generalize (2 : Int) ^ (1074 + p - u) = z
      ac_rfl
    have x2 : V a * 2 ^ 1074 = (if s then -1 else 1) * ((m' * 2 ^ u : Nat) : Int) * 2 ^ (1074 + p - u) := by
      rw [va, Int.natCast_mul, Int.natCast_pow, Int.mul_assoc, pow_merge (m' : Int) (p := p) (k := 1074) (j := 1074 + p - u) (u := u) (by omega)]
      rw [show ((2 : Nat) : Int) = 2 from rfl]
      generalize (2 : Int) ^ (1074 + p - u) = z
      ac_rfl
    refine scale_nat x1 x2 ?_
    rw [← Int.mul_sub, Int.natAbs_mul, Int.natAbs_mul]
    have o : (if s = true then (-1 : Int) else 1).natAbs = 1 := by cases s <;> rfl
    rw [o, Nat.one_mul, Nat.one_mul, Int.natAbs_natCast]
    exact key
theorem ft_div {s n : Nat} (W : Wd s 516 1140) (h0 : 0 < n) (hn : n ≤ 16) : 2 ^ 53 * (V (qX s (nrN n)) * V (nrN n) - V s * 2 ^ 1074).natAbs ≤ (V (qX s (nrN n)) * V (nrN n)).natAbs := by
  obtain ⟨k, q, D, d1, d2⟩ := nr_norm h0 hn
  refine (div_low W.fin ?_ D (by omega) (by omega)).2.2
  by_cases z : V s = 0
  · exact .inl z
  · have lo := pow_abs_dvd W.dvd z
    obtain ⟨t, m, p, M⟩ := is_norm W.fin lo (by omega)
    obtain ⟨p1, p2⟩ := norm_pl M lo W.abs (by omega) (by omega)
    exact .inr ⟨t, m, p, M, by omega, by omega⟩
theorem ft_wd {j : Nat} {L : List Nat} (O : FtO j L) (hl : L.length ≤ 16) : Wd (if 0 < j then mX (ftS j L) twoW else ftS j L) 516 1140 := by
  split
  · exact O.d.wd
  · exact O.s.wd.le (by omega) (by omega)
theorem ft_quo {j : Nat} {L : List Nat} (O : FtO j L) (h0 : 0 < L.length) (hl : L.length ≤ 16) (_hj : j < L.length) :
    mag (Q (qX (if 0 < j then mX (ftS j L) twoW else ftS j L) (nrN L.length)) * (L.length : Rat) - Q (if 0 < j then mX (ftS j L) twoW else ftS j L)) ≤ uR * mag (Q (qX (if 0 < j then mX (ftS j L) twoW else ftS j L) (nrN L.length)) * (L.length : Rat)) := by
  have := quo_rat (ft_div (ft_wd O hl) h0 hl)
  rwa [nat_Q hl] at this
theorem ft_qcap {j : Nat} {L : List Nat} (O : FtO j L) (h0 : 0 < L.length) (hl : L.length ≤ 16) (_hj : j < L.length) : (V (qX (if 0 < j then mX (ftS j L) twoW else ftS j L) (nrN L.length))).natAbs ≤ 2 ^ 1200 := by
  obtain ⟨f, v⟩ := of_int (L.length : Int) (by omega)
  have hv : V (nrN L.length) = (L.length : Int) * 2 ^ 1074 := v
  have lo : (2 : Int) ^ 1074 ≤ V (nrN L.length) := by
    rw [hv]
    exact one_scale (k := 1074) h0
  exact abs_quo (i := 1074) (j := 1140) (k := 1200) lo (ft_wd O hl).abs (ft_div (ft_wd O hl) h0 hl) (by omega)
theorem ft_near {j : Nat} {L : List Nat} (h : ∀ v ∈ L, Fc v) (hl : L.length ≤ 16) (hj : j < L.length) :
    mag (Q (ftW j L) - eF j / (L.length : Rat) * dot (L.map Q) (xsF L.length j 0 L.length)) ≤ 110 * (uR * Pol.sm (L.map Q)) + 80 * tR + Go.Proofs.Ytnmadknpkhaolaa.sm := by
  have O := ft_ok h hl hj
  have h0 : 0 < L.length := by omega
  obtain ⟨n1, n16⟩ := natR h0 hl
  have W0 := sm_nn (L.map Q)
  have z0 : mag (Q 0 - 0) ≤ 3 * ((0 : Nat) : Rat) * (uR * 0) + 2 * ((0 : Nat) : Rat) * tR := by decide +kernel
  have zz : mag (0 : Rat) ≤ 0 := by decide +kernel
  have S := sum_nearF (n := L.length) hj hl L 0 0 0 0 h (by omega) fs_zero Rat.le_refl z0 zz
  rw [Rat.zero_add, Rat.zero_add] at S
  have hD : mag (dot (L.map Q) (xsF L.length j 0 L.length)) ≤ Pol.sm (L.map Q) := dot_le (xs_one hl hj L.length 0 (by omega))
  have S' : mag (Q (ftS j L) - dot (L.map Q) (xsF L.length j 0 L.length)) ≤ 48 * (uR * Pol.sm (L.map Q)) + 32 * tR := Rat.le_trans S (cap16 n16 (Rat.mul_nonneg uR0 W0) tR0)
  have e0 : 0 ≤ eF j ∧ eF j ≤ 2 := by unfold eF; split <;> exact ⟨by decide +kernel, by decide +kernel⟩
  -- twice
  have R2 : mag (Q (if 0 < j then mX (ftS j L) twoW else ftS j L) - eF j * Q (ftS j L)) ≤ uR * (2 * mag (Q (ftS j L))) := by
    by_cases c : 0 < j
    · rw [if_pos c]
      have m := (O.s.wd.mul two_wd (by omega) (by omega) (by omega)).2.2
      rw [two_Q] at m
      have k := rd_of m _ (mag_mul (Rat.le_refl (a := mag (Q (ftS j L)))) (show mag (2 : Rat) ≤ 2 by decide +kernel))
      rw [Rat.add_zero] at k
      have e : eF j = 2 := if_neg (by omega)
      rw [e, Rat.mul_comm 2, Rat.mul_comm 2]
      exact k
    · rw [if_neg c]
      have e : eF j = 1 := if_pos (by omega)
      rw [e, Rat.one_mul, show Q (ftS j L) - Q (ftS j L) = 0 by grind, show mag (0 : Rat) = 0 by decide +kernel]
      exact Rat.mul_nonneg uR0 (Rat.mul_nonneg (by decide +kernel) (mag_le _).2.2)
  have Q3 := ft_quo O h0 hl hj
  have P := ft_poly uR0 uR1 W0 tR0 S' hD e0.1 e0.2 R2 Q3
  have D := div_n (x := Q (qX (if 0 < j then mX (ftS j L) twoW else ftS j L) (nrN L.length)) - eF j / (L.length : Rat) * dot (L.map Q) (xsF L.length j 0 L.length)) n1 (by
    have nz : (L.length : Rat) ≠ 0 := by grind
    have e : eF j / (L.length : Rat) * (L.length : Rat) = eF j := Rat.div_mul_cancel nz
    rw [show (Q (qX (if 0 < j then mX (ftS j L) twoW else ftS j L) (nrN L.length)) - eF j / (L.length : Rat) * dot (L.map Q) (xsF L.length j 0 L.length)) * (L.length : Rat) = Q (qX (if 0 < j then mX (ftS j L) twoW else ftS j L) (nrN L.length)) * (L.length : Rat) - eF j / (L.length : Rat) * (L.length : Rat) * dot (L.map Q) (xsF L.length j 0 L.length) by generalize eF j / (L.length : Rat) = y; grind, e]
    exact P)
  have bo := bg_off O.q.nz.fin (ft_qcap O h0 hl hj)
  have f := mag_add D bo
  rw [show ∀ a b c : Rat, a - b + (c - a) = c - b from fun a b c => by grind] at f
  exact f
end Go.Proofs.Ytnmadknpkhaolaa

namespace Go.Proofs.Ytnmadknpkhaolaa
open Go.ChangeShapes Go.WideShapes Go.ChangeAt Go.RowKit Ieee.Own Pol

theorem zs_get : ∀ (n j : Nat), (zs n).getD j 0 = 0
  | 0, _ => rfl
  | n + 1, 0 => rfl
  | n + 1, j + 1 => by show ((0 : Rat) :: zs n).getD (j + 1) 0 = 0; rw [List.getD_cons_succ]; exact zs_get n j
theorem ml_get {v : Rat} : ∀ (al bl : List Rat) (j : Nat), al.length = bl.length → j < bl.length → (ml v al bl).getD j 0 = v * al.getD j 0 + bl.getD j 0
  | [], [], j, _, h => by simp at h
  | a :: al, b :: bl, 0, _, _ => rfl
  | a :: al, b :: bl, j + 1, h, g => by
    show ((v * a + b) :: ml v al bl).getD (j + 1) 0 = _
    rw [List.getD_cons_succ, List.getD_cons_succ, List.getD_cons_succ]
    exact ml_get al bl j (by simpa using h) (by simpa using g)
  | [], _ :: _, _, h, _ => by simp at h
  | _ :: _, [], _, h, _ => by simp at h
theorem cmb_get {n j : Nat} (hj : j < n) : ∀ (vs : List Rat) (Es : List (List Rat)), (∀ E ∈ Es, E.length = n) → (cmb n vs Es).getD j 0 = dot vs (Es.map fun E => E.getD j 0)
  | [], [], _ => zs_get n j
  | [], _ :: _, _ => zs_get n j
  | _ :: _, [], _ => zs_get n j
  | v :: vs, E :: Es, h => by
    have hE : ∀ F ∈ Es, F.length = n := fun F hF => h F (List.mem_cons_of_mem _ hF)
    have l := cmb_len (vs := vs) hE
    show (ml v E (cmb n vs Es)).getD j 0 = v * E.getD j 0 + dot vs (Es.map fun E => E.getD j 0)
    rw [ml_get _ _ j (by rw [l]; exact h E (List.mem_cons_self ..)) (by rw [l]; exact hj), cmb_get hj vs Es hE]
theorem dot_scale {a : Rat} : ∀ (vs xs : List Rat), dot vs (xs.map fun x => a * x) = a * dot vs xs
  | [], [] => by show (0 : Rat) = a * 0; grind
  | [], _ :: _ => by show (0 : Rat) = a * 0; grind
  | _ :: _, [] => by show (0 : Rat) = a * 0; grind
  | v :: vs, x :: xs => by
    show v * (a * x) + dot vs (xs.map fun x => a * x) = a * (v * x + dot vs xs)
    rw [dot_scale vs xs]; grind
theorem xs_range {n j : Nat} : ∀ (m k : Nat), xsF n j k m = (List.range m).map fun i => Q (cAt n j (k + i))
  | 0, _ => rfl
  | m + 1, k => by
    rw [List.range_succ_eq_map, List.map_cons, List.map_map]
    show Q (cAt n j k) :: xsF n j (k + 1) m = _
    rw [xs_range m (k + 1)]
    congr 1
    apply List.map_congr_left
    intro i _
    show Q (cAt n j (k + 1 + i)) = Q (cAt n j (k + (i + 1)))
    rw [show k + 1 + i = k + (i + 1) by omega]
def esQ (n : Nat) : List (List Rat) := (List.range n).map (eQ n)
theorem es_len (n : Nat) : ∀ E ∈ esQ n, E.length = n := fun E hE => by
  obtain ⟨i, -, rfl⟩ := List.mem_map.1 hE
  unfold eQ; simp
theorem es_get {n j : Nat} (hj : j < n) (vs : List Rat) : dot vs ((esQ n).map fun E => E.getD j 0) = eF j / (n : Rat) * dot vs (xsF n j 0 n) := by
  rw [xs_range, ← dot_scale]
  congr 1
  unfold esQ
  rw [List.map_map, List.map_map]
  apply List.map_congr_left
  intro i _
  show (eQ n i).getD j 0 = eF j / (n : Rat) * Q (cAt n j (0 + i))
  rw [Nat.zero_add]
  unfold eQ eF
  simp [List.getD, hj]
theorem sm_bd {B : Rat} : ∀ (l : List Rat), (∀ j, j < l.length → mag (l.getD j 0) ≤ B) → Pol.sm l ≤ (l.length : Rat) * B
  | [], _ => by show (0 : Rat) ≤ ((0 : Nat) : Rat) * B; rw [show ((0 : Nat) : Rat) = 0 from rfl, Rat.zero_mul]; exact Rat.le_refl
  | x :: l, h => by
    have a := h 0 (by simp)
    rw [List.getD_cons_zero] at a
    have b := sm_bd l (fun j hj => by have := h (j + 1) (by simpa using hj); rwa [List.getD_cons_succ] at this)
    show mag x + Pol.sm l ≤ ((l.length + 1 : Nat) : Rat) * B
    have e : ((l.length + 1 : Nat) : Rat) = (l.length : Rat) + 1 := by
      show (((l.length + 1 : Nat) : Int) : Rat) = ((l.length : Int) : Rat) + 1
      rw [Int.natCast_add, Rat.intCast_add]; rfl
    rw [e]
    grind
theorem pOk_all {n : Nat} (h0 : 0 < n) (hn : n ≤ 16) : pOk n = true := by
  have a := pOkT
  rw [List.all_eq_true] at a
  exact a n (by
    have : n = 1 ∨ n = 2 ∨ n = 3 ∨ n = 4 ∨ n = 5 ∨ n = 6 ∨ n = 7 ∨ n = 8 ∨ n = 9 ∨ n = 10 ∨ n = 11 ∨ n = 12 ∨ n = 13 ∨ n = 14 ∨ n = 15 ∨ n = 16 := by omega
    simpa using this)
theorem p_at {n k : Nat} (h0 : 0 < n) (hn : n ≤ 16) (hk : k < n) : inM m00 (cAt n 1 k) = true ∧ ∀ i, i < n → mag (chv (Q (cAt n 1 k)) (eQ n i) - (if i = k then 1 else 0)) ≤ mkRat 1 (2 ^ 40) := by
  have h := pOk_all h0 hn
  unfold pOk at h
  rw [List.all_eq_true] at h
  have h1 := h k (List.mem_range.2 hk)
  rw [List.all_eq_true] at h1
  have h2 := fun i hi => h1 i (List.mem_range.2 hi)
  simp only [Bool.and_eq_true, decide_eq_true_eq] at h2
  exact ⟨(h2 0 h0).2, fun i hi => (h2 i hi).1⟩
/-- the exact polynomial at a node -/
theorem exact_near {n k : Nat} {vs : List Rat} (h0 : 0 < n) (hn : n ≤ 16) (hk : k < n) (hv : vs.length = n) : mag (chv (Q (cAt n 1 k)) (cmb n vs (esQ n)) - vs.getD k 0) ≤ mkRat 1 (2 ^ 40) * Pol.sm vs := by
  rw [chv_cmb (es_len n), ← sel_one (show k < vs.length by omega)]
  have P := (p_at h0 hn hk).2
  refine dot_near (by decide +kernel) (by simp [esQ, hv]) (by simp [esQ, hv]) (fun i hi => ?_)
  have hin : i < n := by simpa [esQ] using hi
  have e1 : ((esQ n).map (chv (Q (cAt n 1 k)))).getD i 0 = chv (Q (cAt n 1 k)) (eQ n i) := by unfold esQ; simp [List.getD, hin]
  have e2 : ((List.range vs.length).map fun i => if i = k then (1 : Rat) else 0).getD i 0 = if i = k then 1 else 0 := by simp [List.getD, hv, hin]
  rw [e1, e2]
  exact P i hin
theorem add3 {a b c : Rat} (h1 : 0 ≤ a) (h2 : 0 ≤ b) (h3 : 0 ≤ c) : 0 ≤ a + b + c := by grind
theorem eF_cap {j n : Nat} (h0 : 0 < n) (hn : n ≤ 16) : mag (eF j / (n : Rat)) ≤ 2 := by
  obtain ⟨n1, -⟩ := natR h0 hn
  refine div_n n1 ?_
  rw [Rat.div_mul_cancel (by grind)]
  unfold eF
  split <;> decide +kernel
/-- Fit's polynomial beside the exact one -/
theorem fit_near {L : List Nat} {x : Rat} (h : ∀ v ∈ L, Fc v) (h0 : 0 < L.length) (hl : L.length ≤ 16) (hx : mag x ≤ 1) :
    mag (chv x ((ftL L).map Q) - chv x (cmb L.length (L.map Q) (esQ L.length))) ≤ 16 * (110 * (uR * Pol.sm (L.map Q)) + 80 * tR + Go.Proofs.Ytnmadknpkhaolaa.sm) ∧ Pol.sm ((ftL L).map Q) ≤ 16 * (2 * Pol.sm (L.map Q) + (110 * (uR * Pol.sm (L.map Q)) + 80 * tR + Go.Proofs.Ytnmadknpkhaolaa.sm)) := by
  obtain ⟨B, hB⟩ : ∃ B, B = 110 * (uR * Pol.sm (L.map Q)) + 80 * tR + Go.Proofs.Ytnmadknpkhaolaa.sm := ⟨_, rfl⟩
  rw [← hB]
  obtain ⟨-, n16⟩ := natR h0 hl
  have lc : (cmb L.length (L.map Q) (esQ L.length)).length = L.length := cmb_len (es_len _)
  have lf : ((ftL L).map Q).length = L.length := by rw [List.length_map, ft_len]
  have get : ∀ j, j < L.length → (cmb L.length (L.map Q) (esQ L.length)).getD j 0 = eF j / (L.length : Rat) * dot (L.map Q) (xsF L.length j 0 L.length) := fun j hj => by rw [cmb_get hj _ _ (es_len _), es_get hj]
  have getf : ∀ j, j < L.length → ((ftL L).map Q).getD j 0 = Q (ftW j L) := fun j hj => by
    rw [← ft_get hj]
    simp [List.getD, show j < (ftL L).length by rw [ft_len]; exact hj]
  have W0 := sm_nn (L.map Q)
  have B0 : 0 ≤ B := by
    rw [hB]
    have t1 : (0 : Rat) ≤ 80 * tR := by decide +kernel
    have t2 : (0 : Rat) ≤ Go.Proofs.Ytnmadknpkhaolaa.sm := by decide +kernel
    exact add3 (Rat.mul_nonneg (show (0 : Rat) ≤ 110 by decide +kernel) (Rat.mul_nonneg uR0 W0)) t1 t2
  have lm : (ml (-1) (cmb L.length (L.map Q) (esQ L.length)) ((ftL L).map Q)).length = L.length := by rw [ml_len (by rw [lc, lf]), lf]
  have d := sm_bd (B := B) (ml (-1) (cmb L.length (L.map Q) (esQ L.length)) ((ftL L).map Q)) (fun j hj => by
    have hj' : j < L.length := by rwa [lm] at hj
    rw [ml_get _ _ j (by rw [lc, lf]) (by rw [lf]; exact hj'), get j hj', getf j hj', hB]
    have := ft_near h hl hj'
    rwa [show -1 * (eF j / (L.length : Rat) * dot (L.map Q) (xsF L.length j 0 L.length)) + Q (ftW j L) = Q (ftW j L) - eF j / (L.length : Rat) * dot (L.map Q) (xsF L.length j 0 L.length) by grind])
  rw [lm] at d
  have c := sm_bd (B := 2 * Pol.sm (L.map Q) + B) ((ftL L).map Q) (fun j hj => by
    have hj' : j < L.length := by rwa [lf] at hj
    rw [getf j hj']
    have a := ft_near h hl hj'
    rw [← hB] at a
    have b := mag_mul (eF_cap (j := j) h0 hl) (dot_le (vs := L.map Q) (xs_one (n := L.length) (j := j) hl hj' L.length 0 (by omega)))
    have s := mag_add b a
    rwa [show ∀ p q : Rat, p + (q - p) = q from fun p q => by grind] at s)
  rw [lf] at c
  have e := chv_ml (x := x) (v := -1) (cmb L.length (L.map Q) (esQ L.length)) ((ftL L).map Q) (by rw [lc, lf])
  have f := chv_le hx (ml (-1) (cmb L.length (L.map Q) (esQ L.length)) ((ftL L).map Q))
  rw [e] at f
  constructor
  · rw [show chv x ((ftL L).map Q) - chv x (cmb L.length (L.map Q) (esQ L.length)) = -1 * chv x (cmb L.length (L.map Q) (esQ L.length)) + chv x ((ftL L).map Q) by grind]
    exact Rat.le_trans f (Rat.le_trans d (Rat.mul_le_mul_of_nonneg_right n16 B0))
  · exact Rat.le_trans c (Rat.mul_le_mul_of_nonneg_right n16 (by grind))
end Go.Proofs.Ytnmadknpkhaolaa

namespace Go.Proofs.Ytnmadknpkhaolaa
open Go.ChangeShapes Go.WideShapes Go.ChangeAt Go.RowKit Ieee.Own Pol

theorem thr_poly {u W B t σ Sc p P E v tt z c m : Rat} (u0 : 0 ≤ u) (u1 : 1000000 * u ≤ 1) (hu : u * 9007199254740992 = 1) (W0 : 0 ≤ W) (t0 : 0 ≤ t) (s0 : 0 ≤ σ) (hB : B = 110 * (u * W) + 80 * t + σ) (h1 : mag (p - P) ≤ 2400 * (u * Sc) + 64 * t) (h2 : mag (P - E) ≤ 16 * B) (hS : Sc ≤ 16 * (2 * W + B)) (h3 : mag (E - v) ≤ m * W) (hm : m = 8192 * u)
    (k : Rat) (_k0 : 0 ≤ k) (k1 : k ≤ 16) (ht : W * (1 - k * u) ≤ tt) (hz : z * 17179869184 = tt) (hc : 1500 * t + 20 * σ ≤ c) : p - v ≤ z + c ∧ v - p ≤ z + c := by
  have a := mag_add (mag_add h1 h2) h3
  rw [show p - P + (P - E) + (E - v) = p - v by grind] at a
  have uW := Rat.mul_nonneg u0 W0
  have B0 : 0 ≤ B := by rw [hB]; grind
  have g1 := Rat.mul_le_mul_of_nonneg_left hS u0
  rw [show u * (16 * (2 * W + B)) = 32 * (u * W) + 16 * (u * B) by grind] at g1
  have uB := Rat.mul_nonneg (show 0 ≤ 1 - 1000000 * u by grind) B0
  rw [show (1 - 1000000 * u) * B = B - 1000000 * (u * B) by grind] at uB
  have hW : W = u * W * 9007199254740992 := by grind
  have kk := Rat.mul_nonneg (show 0 ≤ 16 - k by grind) uW
  rw [show (16 - k) * (u * W) = 16 * (u * W) - k * (u * W) by grind] at kk
  rw [show W * (1 - k * u) = W - k * (u * W) by grind] at ht
  rw [hm, show 8192 * u * W = 8192 * (u * W) by grind] at a
  have q := mag_le (p - v)
  generalize u * Sc = x1 at *
  generalize u * B = x2 at *
  generalize k * (u * W) = x3 at *
  generalize u * W = y at *
  generalize mag (p - v) = x4 at *
  constructor <;> grind
theorem d180_t : FinW d180 ∧ 1500 * tR + 20 * Go.Proofs.Ytnmadknpkhaolaa.sm ≤ Q d180 ∧ (V d180).natAbs ≤ 2 ^ 1127 := by refine ⟨by unfold FinW d180; omega, ?_, ?_⟩ <;> decide +kernel
theorem eps_u : mkRat 1 (2 ^ 40) = 8192 * uR := by decide +kernel
theorem thr (L : List Nat) (k : Nat) (h : ∀ c ∈ L, Fc c) (hl : L.length ≤ 16) (hk : k < L.length) (e : errC (ftL L) = 0) : ThrOk L k := by
  have h0 : 0 < L.length := by omega
  have A := ago (m := 1 * (2 * k + 1)) (n := L.length) (by omega) h0 hl
  have ex : (ndL L.length).getD k 0 = cAt L.length 1 k := by rw [nd_get hk, cs_tab h0 hl (by omega) hk]
  have xf : FinW (cAt L.length 1 k) := by
    rw [← cs_tab h0 hl (show 1 < max L.length 2 by omega) hk]
    exact (csN_wd A).fin
  obtain ⟨xin, -⟩ := p_at h0 hl hk
  obtain ⟨fx, bx⟩ := inM_x00 xf.1 xin
  obtain ⟨l16, hfc⟩ := errC_zero (ft_words h hl) e
  obtain ⟨w1, w2, w3, -⟩ := ch_wd fx bx _ (fc_cw hfc) l16
  have mx : mag (Q (cAt L.length 1 k)) ≤ 1 := q_cap1 bx
  have n1 := chA_near uR0 uR1 tR0 mx _ (by simpa using l16) w3
  obtain ⟨n2, n3⟩ := fit_near h h0 hl mx
  have n4 := exact_near (vs := L.map Q) h0 hl hk (by simp)
  have ev : (L.map Q).getD k 0 = Q (L.getD k 0) := by simp [List.getD, hk]
  rw [ev] at n4
  have T := td_ok h hl
  obtain ⟨k1, k0⟩ := lenR hl
  have S2 := T.tot
  have b2 : (V (ttW L)).natAbs ≤ 2 ^ 1126 := nat_small (j := 1115) (l := 11) (m := 1126) (by omega) S2.nn S2.hi (by omega)
  have f34 : FinW d34 := by unfold FinW d34; omega
  have n34 : V d34 ≠ 0 := by decide +kernel
  have key : ∃ r, Ieee.double.div (ttW L) d34 = some r ∧ FinW r ∧ V r * 2 ^ 34 = V (ttW L) := by
    by_cases z : V (ttW L) = 0
    · obtain ⟨r, h1, h2, h3⟩ := div_zero S2.fin z f34 n34
      exact ⟨r, h1, h2, by rw [h3, z]; rfl⟩
    · have lo : 2 ^ 874 ≤ (V (ttW L)).natAbs := nat_pow (k := 874) (S2.z.resolve_left z)
      exact div_pow' (j := 34) (k := 874) rfl (by decide) S2.fin lo (abs_up (k := 1126) (l := 1500) b2 (by omega)) (by omega)
  obtain ⟨r, h1, h2, h3⟩ := key
  have er : qX (ttW L) d34 = r := by unfold qX; rw [h1]; rfl
  have rb : (V r).natAbs ≤ 2 ^ 1127 := by
    have : (V r).natAbs ≤ (V (ttW L)).natAbs := by
      rw [← h3, Int.natAbs_mul]
      exact Nat.le_mul_of_pos_right _ (by decide)
    exact Nat.le_trans this (Nat.le_trans b2 (two_le (a := 1126) (b := 1127) (by omega)))
  have qs : Q r * 17179869184 = Q (ttW L) := by
    have e : ((V r * 2 ^ 34 : Int) : Rat) = (V (ttW L) : Rat) := by rw [h3]
    have c : ((2 ^ 34 : Int) : Rat) = 17179869184 := by decide +kernel
    rw [Rat.intCast_mul, c, ← Q_unit, ← Q_unit] at e
    have up := unit_pos
    have z : (Q r * 17179869184 - Q (ttW L)) * unit = 0 := by grind
    rcases Rat.mul_eq_zero.1 z with z | z <;> grind
  obtain ⟨c1, c2, c3⟩ := d180_t
  have sm0 : (0 : Rat) ≤ Go.Proofs.Ytnmadknpkhaolaa.sm := by decide +kernel
  obtain ⟨p1, p2⟩ := thr_poly uR0 uR1 uR_53h (sm_nn (L.map Q)) tR0 sm0 rfl n1 n2 n3 n4 eps_u _ k0 k1 S2.low qs c2
  have qa : Q (posW (chW (cAt L.length 1 k) (ftL L))) = Q (chW (cAt L.length 1 k) (ftL L)) := by unfold Q; rw [posW_V]
  rw [← qa] at p1 p2
  have i1 := int_of_Q p1
  have i2 := int_of_Q p2
  have Fv : Fc (L.getD k 0) := h _ (by simp [List.getD, hk])
  have fv := fit_fin Fv.lt Fv.fit
  have fa := posW_fin w1
  have ba : (V (posW (chW (cAt L.length 1 k) (ftL L)))).natAbs ≤ 2 ^ 1200 := by rw [posW_V]; exact w2
  obtain ⟨s1, s2, s3, -⟩ := sub_ok (i := 1200) (k := 1201) fa fv ba (abs_up (k := 1114) (l := 1200) Fv.bd (by omega)) (by omega) (by omega)
  obtain ⟨g, g1, g2, g3, -⟩ := addW (k := 1127) h2 c1 rb c3 (by omega)
  have ea : aX r d180 = g := by unfold aX; rw [g1]; rfl
  obtain ⟨fw, vw⟩ := abs_word s2
  have eX : errX m00 (ftL L) (cAt L.length 1 k) = 0 := by unfold errX; rw [if_pos e, if_pos xin]
  refine ⟨by rw [ex]; exact xf.1, by rw [ex]; exact eX, by rw [ex]; exact s1, by rw [ex]; exact s2.1, by rw [er]; exact h1, by rw [er, ea]; exact g1, ?_⟩
  rw [ex, er, le_words fw (by rw [ea]; exact g2), decide_eq_true_eq, ea, vw, s3, g3]
  exact abs_RN (by omega) (by omega)
end Go.Proofs.Ytnmadknpkhaolaa
