/- Proved here: what the texts Pwt, Pfn, Psm, Pho, Pnm, Hcg, Htb, Htc, Rwd, Rwh prove, one behind the other. -/
import Derived.Test.YtnmadknpkhaolaaJz16
import Derived.Test.YtnmadknpkhaolaaJz17
import Derived.Test.YtnmadknpkhaolaaJz18
import Derived.Test.YtnmadknpkhaolaaJz8
import Derived.Test.YtnmadknpkhaolaaJz19
import Derived.Test.YtnmadknpkhaolaaJz15
import Derived.Laws.Externs
import Derived.Laws.BitsAllLaws

namespace Pol
open Go.Proofs.Ytnmadknpkhaolaa
theorem mag_nn {a : Rat} (h : 0 ≤ a) : mag a ≤ a := by unfold mag; rw [if_pos h]; exact Rat.le_refl
end Pol
namespace Go.Proofs.Ytnmadknpkhaolaa
open Go.ChangeShapes Go.WideShapes Go.ChangeAt Go.RowKit Ieee.Own Pol

theorem abs_word {a : Nat} (h : FinW a) : FinW (a % 9223372036854775808) ∧ V (a % 9223372036854775808) = ((V a).natAbs : Int) := by
  have h2 := h.2
  refine ⟨⟨by omega, by omega⟩, ?_⟩
  have e := V_abs' a h
  have e2 := V_abs' (a % 9223372036854775808) ⟨by omega, by omega⟩
  rw [Nat.mod_mod] at e2
  have n : 0 ≤ V (a % 9223372036854775808) := by
    unfold V
    rw [if_pos (Nat.mod_lt _ (by omega))]
    omega
  omega
theorem Q_magW {a : Nat} (h : FinW a) : Q (a % 9223372036854775808) = mag (Q a) := by
  have e := (abs_word h).2
  have u := unit_pos
  have z : Q 0 = 0 := by decide +kernel
  unfold mag
  by_cases c : 0 ≤ V a
  · rw [if_pos (by rw [← z]; exact Q_le.2 (by rw [zeroV]; exact c))]
    exact Q_congr (by omega)
  · have neg : Q (a % 9223372036854775808) = -Q a := Q_neg (by omega)
    by_cases d : 0 ≤ Q a
    · rw [← z] at d
      have := Q_le.1 d
      rw [zeroV] at this
      omega
    · rw [if_neg d]; exact neg
theorem Q_nnW {a : Nat} (h : 0 ≤ V a) : 0 ≤ Q a := by
  have z : Q 0 = 0 := by decide +kernel
  rw [← z]; exact Q_le.2 (by rw [zeroV]; exact h)
end Go.Proofs.Ytnmadknpkhaolaa

namespace Ieee.Own
end Ieee.Own
namespace Go.Proofs.Ytnmadknpkhaolaa
open Go.ChangeShapes Go.WideShapes Go.ChangeAt Go.RowKit Ieee.Own Pol

theorem exact_q {Q m u : Nat} (hu : u = 52 ∨ u = 53) (h1 : 2 * (Q * 2 ^ 52) ≤ 2 * (m * 2 ^ u) + 2 ^ 52) (h2 : 2 * (m * 2 ^ u) ≤ 2 * (Q * 2 ^ 52) + 2 ^ 52) : Q = m * 2 ^ (u - 52) := by
  rcases hu with rfl | rfl
  · simp at *; omega
  · have : 2 ^ 53 = 2 * 2 ^ 52 := by omega
    simp at *; omega
theorem shift_down {Q m u p j : Nat} (hu : 52 ≤ u) (e : Q = m * 2 ^ (u - 52)) (h : u + j ≤ 52 + p) : Q * 2 ^ (52 + p - j - u) * 2 ^ j = m * 2 ^ p := by
  rw [e, Nat.mul_assoc, Nat.mul_assoc, ← Nat.pow_add, ← Nat.pow_add]
  congr 2; omega
theorem div_pow {b j D : Nat} (hD : D = (1023 + j) * 4503599627370496) (h : FinW b) (lo : 2 ^ 874 ≤ (V b).natAbs) (hi : (V b).natAbs ≤ 2 ^ 1500) (hj : j ≤ 60) : ∃ r, Ieee.double.div b D = some r ∧ FinW r ∧ V r * 2 ^ j = V b := by
  have N := norm_of h (norm_big h (Nat.le_trans (two_le (a := 52) (b := 874) (by omega)) lo))
  have fd : FinW D := by rw [hD]; unfold FinW; omega
  have F : Norm D false (2 ^ 52) (1022 + j) := by
    have := norm_of fd (by rw [hD]; omega)
    rwa [show decide (9223372036854775808 ≤ D) = false by rw [hD]; exact decide_eq_false (by omega), show 4503599627370496 + D % 4503599627370496 = 2 ^ 52 by rw [hD]; omega, show D % 9223372036854775808 / 4503599627370496 - 1 = 1022 + j by rw [hD]; omega] at this
  generalize decide (9223372036854775808 ≤ b) = s at N
  generalize 4503599627370496 + b % 4503599627370496 = m at N
  generalize b % 9223372036854775808 / 4503599627370496 - 1 = p at N
  have v : (V b).natAbs = m * 2 ^ p := by rw [N.val, sv_abs]
  have hp : 822 ≤ p := by
    by_cases q : 822 ≤ p
    · exact q
    · exfalso
      rw [v] at lo
      have a1 : m * 2 ^ p < 2 ^ 53 * 2 ^ p := Nat.mul_lt_mul_of_pos_right N.hi (Nat.two_pow_pos p)
      rw [← Nat.pow_add] at a1
      have := two_le (a := 53 + p) (b := 874) (by omega)
      omega
  have hp2 : p ≤ 1448 := by
    by_cases q : p ≤ 1448
    · exact q
    · exfalso
      rw [v] at hi
      have a1 : 2 ^ 52 * 2 ^ p ≤ m * 2 ^ p := Nat.mul_le_mul_right _ N.lo
      rw [← Nat.pow_add] at a1
      have := two_dbl (m := 1500) (n := 52 + p) (by omega)
      have := Nat.two_pow_pos 1500
      omega
  obtain ⟨r, Q, u, h1, h2, h3, u1, u2, q1, q2, q3, q4⟩ := div_spec N F (by omega) (by omega)
  refine ⟨r, h1, h2, ?_⟩
  have e := exact_q (by omega) q3 q4
  have k := shift_down (p := p) (j := j) u1 e (by omega)
  have e2 : 1074 + p - (1022 + j) - u = 52 + p - j - u := by omega
  rw [h3, e2, N.val]
  have sx : (s ^^ false) = s := by cases s <;> rfl
  rw [sx]
  unfold sv
  cases s
  · simp only [Bool.false_eq_true, if_false]
    rw [← k, Int.natCast_mul, Int.natCast_pow]; rfl
  · simp only [if_true]
    rw [← k, Int.natCast_mul, Int.natCast_pow, Int.neg_mul]; rfl
/-! ### the limits -/
end Go.Proofs.Ytnmadknpkhaolaa

namespace Go.Proofs.Ytnmadknpkhaolaa
open Go.ChangeShapes Go.WideShapes Go.ChangeAt Go.RowKit Ieee.Own Pol

/-- one span in another -/
structure InP (p q : Pr) : Prop where
  l1 : p.1 < 18446744073709551616
  l2 : p.2 < 18446744073709551616
  l3 : q.1 < 18446744073709551616
  l4 : q.2 < 18446744073709551616
  i : insB p.1 p.2 q.1 q.2 = true
theorem InP.two {p q r s : Pr} (h : InP p q) (g : InP r s) : Two p.1 p.2 r.1 r.2 q.1 q.2 s.1 s.2 := ⟨h.l1, h.l2, g.l1, g.l2, h.l3, h.l4, g.l3, g.l4, h.i, g.i⟩
theorem InP.add {p q r s u v : Pr} (h : InP p q) (g : InP r s) (a : AddR p r u) (b : AddR q s v) : InP u v := by
  have x := OpAll.bd a.all
  have y := OpAll.bd b.all
  exact ⟨x.1, x.2.1, y.1, y.2.1, add_mono (h.two g) a b rfl rfl⟩
theorem InP.mul {p q r s u v : Pr} (h : InP p q) (g : InP r s) (a : MulR p r u) (b : MulR q s v) : InP u v := by
  have x := OpAll.bd a
  have y := OpAll.bd b
  exact ⟨x.1, x.2.1, y.1, y.2.1, mul_mono (h.two g) a b rfl rfl⟩
theorem InP.sub {p q r s u v : Pr} (h : InP p q) (g : InP r s) (a : SubR p r u) (b : SubR q s v) : InP u v := by
  have x := OpAll.bd a.all
  have y := OpAll.bd b.all
  refine ⟨x.1, x.2.1, y.1, y.2.1, ?_⟩
  obtain ⟨⟨-, -, o1⟩, ⟨-, -, o2⟩, ⟨-, -, o3⟩, ⟨-, -, o4⟩, ⟨m1, m2⟩, m3, m4⟩ := (h.two g).facts
  refine fits_of a.all b.all (fun _ lo hi d u => ?_) (fun _ lo hi d u => ?_) (fun _ _ u => ?_) (fun _ _ u => ?_) rfl rfl
  · have p' := d.le _ (List.mem_singleton.2 rfl)
    replace p' : 0 ≤ V p.1 - V r.2 - V lo := p'
    have q' := u.ge _ (List.mem_singleton.2 rfl)
    replace q' : V p.2 - V r.1 - V hi ≤ 0 := q'
    omega
  · have p' := d.le _ (List.mem_singleton.2 rfl)
    replace p' : 0 ≤ V q.1 - V s.2 - V lo := p'
    have q' := u.ge _ (List.mem_singleton.2 rfl)
    replace q' : V q.2 - V s.1 - V hi ≤ 0 := q'
    omega
  · rw [one_mem, one_mem]; intro h; show 0 ≤ V p.1 - V r.2 - u; have : 0 ≤ V q.1 - V s.2 - u := h; omega
  · rw [one_mem, one_mem]; intro h; show V p.2 - V r.1 - u ≤ 0; have : V q.2 - V s.1 - u ≤ 0 := h; omega
end Go.Proofs.Ytnmadknpkhaolaa

namespace Go.Proofs.Ytnmadknpkhaolaa
open Go.ChangeShapes Go.WideShapes Go.ChangeAt Go.RowKit Ieee.Own Pol

theorem least_pow : leastV = ((2 ^ (820 + 53 + 1) : Nat) : Int) := by decide +kernel
theorem Fc.fw {c : Nat} (h : Fc c) : Fw c := by
  have f := fit_fin h.lt h.fit
  refine ⟨⟨f, h.bd⟩, ?_⟩
  rcases (fit_iff f).1 h.fit with z | z
  · exact .inl z
  · right
    have := z.1
    rw [least_pow] at this
    exact Int.ofNat_le.1 this
theorem div_pow' {b j D k : Nat} (hk : k = 874) (hD : D = (1023 + j) * 4503599627370496) (h : FinW b) (lo : 2 ^ k ≤ (V b).natAbs) (hi : (V b).natAbs ≤ 2 ^ 1500) (hj : j ≤ 60) : ∃ r, Ieee.double.div b D = some r ∧ FinW r ∧ V r * 2 ^ j = V b := by
  subst hk; exact div_pow hD h lo hi hj
end Go.Proofs.Ytnmadknpkhaolaa

namespace Go.Proofs.Ytnmadknpkhaolaa
open Go.ChangeShapes Go.WideShapes Go.ChangeAt Go.RowKit Ieee.Own

theorem drop_cons {L : List Nat} {k : Nat} (h : k < L.length) : L.drop k = L.getD k 0 :: L.drop (k + 1) := by
  rw [List.drop_eq_getElem_cons h]
  simp [List.getD, h]
theorem fc_cw {L : List Nat} (h : ∀ c ∈ L, Fc c) : ∀ c ∈ L, Cw c := fun c hc => (h c hc).fw.toCw
theorem mem_drop {P : Nat → Prop} {L : List Nat} (h : ∀ c ∈ L, P c) (k : Nat) : ∀ c ∈ L.drop k, P c := fun c hc => h c (List.mem_of_mem_drop hc)
theorem inM_x00 {x : Nat} (hx : x < 18446744073709551616) (h : inM m00 x = true) : FinW x ∧ (V x).natAbs ≤ 2 ^ 1074 := by
  have := inM_bd hx h
  rw [m00_V] at this
  exact ⟨this.1, this.2.2⟩
/-- what Cheb wants of a list that isn't empty -/
structure ClS (x : Nat) (L : List Nat) (n : Nat) : Prop where
  dbl : Ieee.double.add x x = some (aX x x)
  step : ∀ i, i < n - 1 → Cl2 x (L.getD (n - 1 - i) 0) (clW x (L.tail.drop (n - 1 - i))).1 (clW x (L.tail.drop (n - 1 - i))).2 ∧ clW x (L.tail.drop (n - 1 - (i + 1))) = (aX (lX (mX (aX x x) (clW x (L.tail.drop (n - 1 - i))).1) (clW x (L.tail.drop (n - 1 - i))).2) (L.getD (n - 1 - i) 0), (clW x (L.tail.drop (n - 1 - i))).1)
  a8 : clW x (L.tail.drop (n - 1)) = (0, 0)
  m : Ieee.double.mul x (clW x L.tail).1 = some (mX x (clW x L.tail).1)
  l : Ieee.double.sub (mX x (clW x L.tail).1) (clW x L.tail).2 = some (lX (mX x (clW x L.tail).1) (clW x L.tail).2)
  s : Ieee.double.add (lX (mX x (clW x L.tail).1) (clW x L.tail).2) (L.getD 0 0) = some (chW x L)
  p : Ieee.double.add (chW x L) 0 = some (posW (chW x L))
theorem cl_parts {x n : Nat} {L : List Nat} (fx : FinW x) (bx : (V x).natAbs ≤ 2 ^ 1074) (hc : ∀ c ∈ L, Fc c) (hn : n = L.length) (hl : n ≤ 16) (hp : 0 < n) : ClS x L n := by
  cases L with
  | nil => simp at hn; omega
  | cons c cs =>
    have e : n - 1 = cs.length := by simp at hn; omega
    obtain ⟨fa, -, -, st⟩ := ch_wd fx bx (c :: cs) (fc_cw hc) (by omega)
    obtain ⟨s1, s2, s3⟩ := st c cs rfl
    refine ⟨(dbl_wd fx bx).1, fun i hi => ?_, ?_, s1, s2, s3, pos_add fa⟩
    · rw [e] at hi ⊢
      have hc' : ∀ c ∈ cs, Cw c := fun a h => fc_cw hc a (List.mem_cons_of_mem _ h)
      obtain ⟨-, -, -, st⟩ := cl_wd fx bx (cs.drop (cs.length - 1 - i)) (mem_drop hc' _) (by simp; omega)
      have d := drop_cons (L := cs) (k := cs.length - 1 - i) (by omega)
      have g := st _ _ d
      have e1 : cs.length - 1 - i + 1 = cs.length - i := by omega
      have e2 : cs.length - (i + 1) = cs.length - 1 - i := by omega
      have e3 : (c :: cs).getD (cs.length - i) 0 = cs.getD (cs.length - 1 - i) 0 := by rw [← e1, List.getD_cons_succ]
      rw [e1] at g d
      rw [e3, e2]
      refine ⟨g, ?_⟩
      show clW x (cs.drop (cs.length - 1 - i)) = _
      rw [d]; rfl
    · rw [e]
      show clW x (cs.drop cs.length) = _
      rw [List.drop_length]; rfl

set_option maxRecDepth 100000 in
theorem pcheb_nil (ao : Option Addr) (cap n : Nat) (L : List Nat) (x : Nat) (w : World) (hn : n = L.length) (hz : n = 0) (hw : Words L) (ha : At w ao L) (hx : x < 18446744073709551616) (h0 : errX m00 L x = 0) :
    Calls Try.prog 69 #[.slice ao n cap, .float .f64 x] w fun e w' => e = .returned (fe 0 0) ∧ w = w' := by
  have K := checkAt_run m00 (by decide) ao cap n L x w hn (by omega) hw ha hx
  rw [h0] at K
  subst hz
  clear h0 hn hw ha hx
  unfold m00 at K
  go_enter Try.func69, Try.ntmps69
  go_wp2_with (go_at_call 87; ((with_reducible refine K.mono ?_); rintro e w' ⟨rfl, rfl⟩))
  go_ret2
  exact ⟨rfl, rfl⟩

set_option maxHeartbeats 1000000 in
set_option maxRecDepth 100000 in
theorem pcheb_some (ao : Option Addr) (cap n : Nat) (L : List Nat) (x : Nat) (w : World) (hn : n = L.length) (hp : 0 < n) (hw : Words L) (ha : At w ao L) (hx : x < 18446744073709551616) (hm : n ≤ 4611686018427387904) (h0 : errX m00 L x = 0) :
    Calls Try.prog 69 #[.slice ao n cap, .float .f64 x] w fun e w' => e = .returned (fe (posW (chW x L)) 0) ∧ w = w' := by
  have K := checkAt_run m00 (by decide) ao cap n L x w hn hm hw ha hx
  rw [h0] at K
  unfold m00 at K
  obtain ⟨hC, hX⟩ := errX_zero h0
  obtain ⟨hl16, hfc⟩ := errC_zero hw hC
  obtain ⟨fx, bx⟩ := inM_x00 hx hX
  have CS := cl_parts fx bx hfc hn (by omega) hp
  have rd := run_add _ _ _ CS.dbl
  have CS := Lib.hid CS
  replace hn := Lib.hid hn
  replace ha := Lib.hid ha
  have n16 : n ≤ 16 := by have := hn.out; omega
  have tw : IntKind.i64.wrap ((n : Int) - 1) = (n : Int) - 1 := by rw [IntKind.wrap_i64]; omega
  have tn : ((n : Int) == 0) = false := by simp; omega
  clear hw hx h0 hC hX hl16 hfc fx bx hm
  go_enter Try.func69, Try.ntmps69
  go_wp2_with (go_at_call 87; ((with_reducible refine K.mono ?_); rintro e w' ⟨rfl, rfl⟩))
  clear K
  go_loop [7, 8, 24] (fun bv dv iv => ∃ i : Nat, i ≤ n - 1 ∧ iv = .int .i64 i ∧ bv = .float .f64 (clW x (L.tail.drop (n - 1 - i))).1 ∧ dv = .float .f64 (clW x (L.tail.drop (n - 1 - i))).2) (fun _ _ iv => n - 1 - (intOf iv).toNat)
  case atStart => exact ⟨0, Nat.zero_le _, rfl, by rw [Nat.sub_zero, CS.out.a8], by rw [Nat.sub_zero, CS.out.a8]⟩
  case round =>
    obtain ⟨i, hi, rfl, rfl, rfl⟩ := hrel
    by_cases hlt : i < n - 1
    · obtain ⟨⟨r1, r2, r3⟩, nx⟩ := CS.out.step i hlt
      obtain ⟨b, o, rfl, hc⟩ := ha.out (n - 1 - i) (by have := hn.out; omega)
      have r1 := run_mul _ _ _ r1
      have r2 := run_sub _ _ _ r2
      have r3 := run_add _ _ _ r3
      have hlt' : (i : Int) < (n : Int) - 1 := by omega
      obtain ⟨u, hu⟩ : ∃ u, u = L.getD (n - 1 - i) 0 := ⟨_, rfl⟩
      rw [← hu] at hc r3 nx
      generalize (clW x (L.tail.drop (n - 1 - i))).1 = s at *
      generalize (clW x (L.tail.drop (n - 1 - i))).2 = d at *
      replace nx := Lib.hid nx
      generalize lX (mX (aX x x) s) d = l at *
      generalize mX (aX x x) s = m at *
      obtain ⟨y, hy⟩ : ∃ y, y = aX l u := ⟨_, rfl⟩
      rw [← hy] at r3 nx
      have e : IntKind.i64.wrap ((n : Int) - 1 - (i : Int)) = (n : Int) - 1 - (i : Int) := by rw [IntKind.wrap_i64]; omega
      have e0 : (i : Int) ≤ (n : Int) - 1 := by omega
      have e2 : (n : Int) - 1 - (i : Int) < (n : Int) := by omega
      have e3 : ((n : Int) - 1 - (i : Int)).toNat = n - 1 - i := by omega
      clear hu hy CS
      generalize aX x x = xx at *
      go_wp2_with fail
      go_round
      case rel => exact ⟨i + 1, by omega, by go_num, by rw [nx.out], by rw [nx.out]⟩
      case measure => simp [intOf]; omega
    · obtain rfl : i = n - 1 := by omega
      obtain ⟨b, o, rfl, hc⟩ := ha.out 0 (by have := hn.out; omega)
      have r1 := run_mul _ _ _ CS.out.m
      have r2 := run_sub _ _ _ CS.out.l
      have r3 := run_add _ _ _ CS.out.s
      have r4 := run_add _ _ _ CS.out.p
      have ei : ((n - 1 : Nat) : Int) = (n : Int) - 1 := by omega
      rw [Nat.sub_self, List.drop_zero, ei]
      rw [Nat.add_zero] at hc
      have hpi : (0 : Int) < (n : Int) := by omega
      obtain ⟨u, hu⟩ : ∃ u, u = L.getD 0 0 := ⟨_, rfl⟩
      rw [← hu] at hc r3
      generalize (clW x L.tail).1 = s at *
      generalize (clW x L.tail).2 = d at *
      generalize lX (mX x s) d = l at *
      generalize mX x s = m at *
      obtain ⟨y, hy⟩ : ∃ y, y = chW x L := ⟨_, rfl⟩
      rw [← hy] at r3 r4
      replace hy := Lib.hid hy
      clear hu CS rd
      go_wp2_with fail
      go_ret2
      exact ⟨by rw [← hy.out]; rfl, rfl⟩
set_option maxRecDepth 100000 in
theorem pcheb_ok (ao : Option Addr) (cap n : Nat) (L : List Nat) (x : Nat) (w : World) (hn : n = L.length) (hm : n ≤ 4611686018427387904) (hw : Words L) (ha : At w ao L) (hx : x < 18446744073709551616) (h0 : errX m00 L x = 0) :
    Calls Try.prog 69 #[.slice ao n cap, .float .f64 x] w fun e w' => e = .returned (fe (posW (chW x L)) 0) ∧ w = w' := by
  by_cases hz : n = 0
  · have := pcheb_nil ao cap n L x w hn hz hw ha hx h0
    have e : L = [] := List.eq_nil_of_length_eq_zero (by omega)
    rw [e]
    exact this
  · exact pcheb_some ao cap n L x w hn (by omega) hw ha hx hm h0

/-! ### the fixed fact -/
end Go.Proofs.Ytnmadknpkhaolaa

namespace Go.Proofs.Ytnmadknpkhaolaa
open Go.ChangeShapes Go.WideShapes Go.ChangeAt Go.RowKit Ieee.Own Pol

def rdyT (t : Tb) (b : Bool) : Int := if chkT t ≠ 0 then chkT t else if b = false ∨ t.rows.length = 0 then 80 else 0
theorem rdyT_zero {t : Tb} {b : Bool} (h : rdyT t b = 0) : chkT t = 0 ∧ b = true ∧ 0 < t.rows.length := by
  unfold rdyT at h
  by_cases c : chkT t ≠ 0
  · rw [if_pos c] at h; exact absurd h c
  · rw [if_neg c] at h
    by_cases d : b = false ∨ t.rows.length = 0
    · rw [if_pos d] at h; omega
    · refine ⟨by omega, ?_, by omega⟩
      cases b
      · exact absurd (.inl rfl) d
      · rfl
set_option maxHeartbeats 4000000 in
set_option maxRecDepth 100000 in
theorem cready_run {t : Tb} (b : Bool) (ao : Option Addr) (cap : Nat) (w : World) (hm : t.rows.length ≤ 4611686018427387904) (hW : TbW t) (ha : TbAt w ao t.rows) :
    Calls Try.prog 45 #[tbV t ao cap, .bool b] w fun e w' => e = .returned (.int .i64 (rdyT t b)) ∧ Below w.heap.size w w' := by
  have CC : Hid (∀ W, Below w.heap.size w W → Calls Try.prog 17 #[tbV t ao cap] W fun e w' => e = .returned (.int .i64 (chkT t)) ∧ Below W.heap.size W w') := Lib.hid fun W hb => ccheck_run ao cap W hm hW (ha.on hb)
  unfold rdyT
  unfold tbV at CC ⊢
  generalize chkT t = k at *
  clear ha hW
  obtain ⟨fr, st, R⟩ := t
  dsimp only at *
  generalize R.length = n at *
  have hst := @fstore
  have K := kv1 w 34 [.float .f64 fr, .float .f64 st, .slice ao n cap]
  simp only [objV] at K
  have k0 := (K.at_ 0 rfl).at_ 0 _ rfl
  have k1 := (K.at_ 0 rfl).at_ 1 _ rfl
  have k2 := (K.at_ 0 rfl).at_ 2 _ rfl
  replace K := Lib.hid K
  by_cases hk : k = 0
  · subst hk
    rw [if_neg (by simp)]
    cases b with
    | false =>
      rw [if_pos (.inl rfl)]
      go_enter Try.func45, Try.ntmps45
      go_wp2_with fail
      have K := K.out
      clear k0 k1 k2
      generalize w.alloc _ = wr at *
      refine (CC.out wr K.old).mono ?_
      rintro _ w1 ⟨rfl, hb⟩
      replace K := K.on hb
      clear hb CC
      have k2 := (K.at_ 0 rfl).at_ 2 _ rfl
      replace K := Lib.hid K
      go_wp2_with fail
      go_ret
      exact ⟨rfl, K.out.old⟩
    | true =>
      by_cases hn : n = 0
      · subst hn
        rw [if_pos (.inr rfl)]
        go_enter Try.func45, Try.ntmps45
        go_wp2_with fail
        have K := K.out
        clear k0 k1 k2
        generalize w.alloc _ = wr at *
        refine (CC.out wr K.old).mono ?_
        rintro _ w1 ⟨rfl, hb⟩
        replace K := K.on hb
        clear hb CC
        have k2 := (K.at_ 0 rfl).at_ 2 _ rfl
        replace K := Lib.hid K
        go_wp2_with fail
        go_ret
        exact ⟨rfl, K.out.old⟩
      · rw [if_neg (by simp [hn])]
        have t0 : ((n : Int) == 0) = false := by simp; omega
        go_enter Try.func45, Try.ntmps45
        go_wp2_with fail
        have K := K.out
        clear k0 k1 k2
        generalize w.alloc _ = wr at *
        refine (CC.out wr K.old).mono ?_
        rintro _ w1 ⟨rfl, hb⟩
        replace K := K.on hb
        clear hb CC
        have k2 := (K.at_ 0 rfl).at_ 2 _ rfl
        replace K := Lib.hid K
        go_wp2_with fail
        go_ret
        exact ⟨rfl, K.out.old⟩
  · rw [if_pos hk]
    have t0 : (k != 0) = true := by simpa using hk
    go_enter Try.func45, Try.ntmps45
    go_wp2_with fail
    have K := K.out
    clear k0 k1 k2
    generalize w.alloc _ = wr at *
    refine (CC.out wr K.old).mono ?_
    rintro _ w1 ⟨rfl, hb⟩
    replace K := K.on hb
    clear hb CC
    have k2 := (K.at_ 0 rfl).at_ 2 _ rfl
    replace K := Lib.hid K
    go_wp2_with fail
    go_ret
    exact ⟨rfl, K.out.old⟩
/-- what place answers -/
def plcE (p : Nat × Nat) : Value := .tuple #[.int .i64 (p.1 : Int), .float .f64 p.2]
theorem small_k {q : Int} {k n : Nat} (hk : k = q.toNat) (_h : 0 ≤ q) (g : q < n) (hn : n ≤ 64) : (k : Int).natAbs ≤ 2 ^ 62 := by omega
theorem to_nat_of {q : Int} (h : 0 ≤ q) : ((q.toNat : Nat) : Int) = q := Int.toNat_of_nonneg h
set_option maxRecDepth 100000 in
theorem conv_fl {b : Nat} {K : Int} (h : floatToIntVal .f64 b .i64 = some K) (w : World) : (convert 30 3 (.float .f64 b)).run Try.prog w = .ok (.int .i64 K) w :=
  run_convert_float_int w 30 3 .f64 .i64 b K (by rw [Try.underlying30]; rfl) Try.underlying3 h
set_option maxRecDepth 100000 in
theorem conv_if (n : Nat) (w : World) : (convert 3 30 (.int .i64 (n : Int))).run Try.prog w = .ok (.float .f64 (FloatKind.f64.nearest (n : Int))) w :=
  run_convert_int_float w 3 30 .i64 .f64 (n : Int) (by rw [Try.underlying3]; rfl) Try.underlying30
set_option maxHeartbeats 4000000 in
set_option maxRecDepth 100000 in
theorem cplace_run {t : Tb} {d : Nat} (ao : Option Addr) (cap : Nat) (w : World) (hn : t.rows.length ≤ 64) (h0 : 0 < t.rows.length) (Y : YOk t d) :
    Calls Try.prog 46 #[tbV t ao cap, .float .f64 d] w fun e w' => e = .returned (plcE (plc t d)) ∧ Below w.heap.size w w' := by
  have r1 := run_sub _ _ _ Y.s
  have r2 := run_div _ _ _ Y.q
  have l1 := le_words Y.fin zero_fin
  have U0 := pow1 1074
  obtain ⟨nf, nv⟩ := of_int (t.rows.length : Int) (by omega)
  have l2 := ge_words Y.fin nf
  rw [nv] at l2
  rw [V_zero] at l1
  have cv := fun w => conv_if t.rows.length w
  have ec : (((t.rows.length - 1 : Nat)) : Int) = (t.rows.length : Int) - 1 := by omega
  unfold tbV plcE
  by_cases c1 : V (yH t d) ≤ 0
  · rw [plc_one c1]
    rw [decide_eq_true c1] at l1
    clear l2 nf nv cv ec Y c1 hn h0
    generalize yH t d = y at *
    generalize lX d t.fr = x at *
    unfold moneW
    obtain ⟨fr, st, R⟩ := t
    dsimp only at *
    generalize R.length = n at *
    have hst := @fstore
    have K := kv1 w 34 [.float .f64 fr, .float .f64 st, .slice ao n cap]
    simp only [objV] at K
    have k0 := (K.at_ 0 rfl).at_ 0 _ rfl
    have k1 := (K.at_ 0 rfl).at_ 1 _ rfl
    have k2 := (K.at_ 0 rfl).at_ 2 _ rfl
    replace K := Lib.hid K
    go_enter Try.func46, Try.ntmps46
    go_wp2_with fail
    go_ret2
    exact ⟨rfl, K.out.old⟩
  · rw [decide_eq_false c1] at l1
    by_cases c2 : (t.rows.length : Int) * 2 ^ 1074 ≤ V (yH t d)
    · rw [plc_two c1 c2]
      rw [decide_eq_true c2] at l2
      dsimp only
      rw [ec]
      have w1 : IntKind.i64.wrap ((t.rows.length : Int) - 1) = (t.rows.length : Int) - 1 := by rw [IntKind.wrap_i64]; omega
      clear nf nv ec Y c1 c2
      generalize yH t d = y at *
      generalize lX d t.fr = x at *
      unfold oneW
      obtain ⟨fr, st, R⟩ := t
      dsimp only at *
      generalize R.length = n at *
      generalize FloatKind.f64.nearest (n : Int) = fn at *
      have hst := @fstore
      have K := kv1 w 34 [.float .f64 fr, .float .f64 st, .slice ao n cap]
      simp only [objV] at K
      have k0 := (K.at_ 0 rfl).at_ 0 _ rfl
      have k1 := (K.at_ 0 rfl).at_ 1 _ rfl
      have k2 := (K.at_ 0 rfl).at_ 2 _ rfl
      replace K := Lib.hid K
      go_enter Try.func46, Try.ntmps46
      go_wp2_with fail
      go_ret2
      exact ⟨rfl, K.out.old⟩
    · rw [plc_three c1 c2]
      rw [decide_eq_false c2] at l2
      have F := f_ok Y.fin Y.abs (by omega)
      have FL := fun w => floor_run Y.fin w
      have fl := floor_lt U0 (show 0 ≤ V (yH t d) by omega) c2
      obtain ⟨k, hk⟩ : ∃ k : Nat, k = (V (yH t d) / 2 ^ 1074).toNat := ⟨_, rfl⟩
      have ck := fun w => conv_fl (K := (k : Int)) (to_int64 F.wf (by rw [F.wv, hk, to_nat_of fl.1]) (small_k hk fl.1 fl.2 hn)) w
      have r3 := run_sub _ _ _ F.s
      have r4 := run_mul _ _ _ F.m
      have r5 := run_sub _ _ _ F.l
      have CB := fun w => cbrought_run (fH (yH t d)) F.nz.fin.1 w
      rw [← hk]
      unfold twoW at r4 r5
      unfold oneW at r5
      clear nf nv ec Y c1 c2 F fl hk
      generalize bgW (fH (yH t d)) = z at *
      generalize fH (yH t d) = z0 at *
      generalize yH t d = y at *
      generalize lX d t.fr = x at *
      generalize wholeW .down y = wy at *
      generalize lX y wy = q1 at *
      generalize mX q1 4611686018427387904 = q2 at *
      obtain ⟨fr, st, R⟩ := t
      dsimp only at *
      generalize R.length = n at *
      generalize FloatKind.f64.nearest (n : Int) = fn at *
      have hst := @fstore
      have K := kv1 w 34 [.float .f64 fr, .float .f64 st, .slice ao n cap]
      simp only [objV] at K
      have k0 := (K.at_ 0 rfl).at_ 0 _ rfl
      have k1 := (K.at_ 0 rfl).at_ 1 _ rfl
      have k2 := (K.at_ 0 rfl).at_ 2 _ rfl
      replace K := Lib.hid K
      go_enter Try.func46, Try.ntmps46
      go_wp2_with (first | (go_at_call 68; ((with_reducible refine (FL _).mono ?_); rintro e w' ⟨rfl, rfl⟩)) | (go_at_call 65; ((with_reducible refine (CB _).mono ?_); rintro e w' ⟨rfl, rfl⟩)))
      go_ret2
      exact ⟨rfl, K.out.old⟩
end Go.Proofs.Ytnmadknpkhaolaa

namespace Go.Proofs.Ytnmadknpkhaolaa
open Go.ChangeShapes Go.WideShapes Go.ChangeAt Go.RowKit Ieee.Own Pol

theorem node_cap {j k : Nat} (hj : j ≤ 15) (hk : k ≤ 15) : j * (2 * k + 1) ≤ 465 := Nat.le_trans (Nat.mul_le_mul hj (show 2 * k + 1 ≤ 31 by omega)) (by decide)
set_option maxRecDepth 100000 in
theorem catnode_run {j k n : Nat} (hj : j ≤ 15) (hk : k ≤ 15) (h0 : 0 < n) (hn : n ≤ 16) (w : World) :
    Calls Try.prog 36 #[.int .i64 (j : Int), .int .i64 (k : Int), .int .i64 (n : Int)] w fun e w' => e = .returned (.float .f64 (csN (angW (j * (2 * k + 1)) n))) ∧ Below w.heap.size w w' := by
  have cap := node_cap hj hk
  have A := ago cap h0 hn
  obtain ⟨s, c, e, B, C⟩ := uboth_run A.lt
  have e0 : e = 0 := by rw [B.err, A.er]
  subst e0
  rw [csN_eq B]
  have CC := Lib.hid (fun w => ucos_run (Lib.hid C) w)
  obtain ⟨m, hm⟩ : ∃ m, m = j * (2 * k + 1) := ⟨_, rfl⟩
  rw [← hm] at CC A cap
  have em : (j : Int) * (2 * (k : Int) + 1) = (m : Int) := by rw [hm]; simp
  have r1 := run_div _ _ _ A.run
  have cv1 := fun w => conv_if m w
  have cv2 : ∀ w, (convert 3 30 (.int .i64 (4 * (n : Int)))).run Try.prog w = .ok (.float .f64 (nrN (4 * n))) w := fun w => conv_if (4 * n) w
  have w1 : IntKind.i64.wrap (2 * (k : Int)) = 2 * (k : Int) := by rw [IntKind.wrap_i64]; omega
  have w2 : IntKind.i64.wrap (2 * (k : Int) + 1) = 2 * (k : Int) + 1 := by rw [IntKind.wrap_i64]; omega
  have w3 : IntKind.i64.wrap (m : Int) = (m : Int) := by rw [IntKind.wrap_i64]; omega
  have w4 : IntKind.i64.wrap (4 * (n : Int)) = 4 * (n : Int) := by rw [IntKind.wrap_i64]; omega
  have CS := fun w => csure_run c 0 w
  have en : FloatKind.f64.nearest (m : Int) = nrN m := rfl
  rw [en] at cv1
  clear B C A hm cap en
  generalize angW m n = x at *
  generalize nrN m = y at *
  generalize nrN (4 * n) = z at *
  go_enter Try.func36, Try.ntmps36
  go_wp2_with fail
  refine (CC.out w).mono ?_
  rintro _ w1 ⟨rfl, hb⟩
  replace hb := Lib.hid hb
  clear CC
  go_wp2_with (go_at_call 61; ((with_reducible refine (CS _).mono ?_); rintro e w' ⟨rfl, rfl⟩))
  go_ret
  exact ⟨rfl, hb.out⟩
set_option maxHeartbeats 1000000 in
set_option maxRecDepth 100000 in
theorem cfitted_run {j : Nat} {L : List Nat} (ao : Option Addr) (cap n : Nat) (w : World) (hn : n = L.length) (hj : j < n) (h : ∀ v ∈ L, Fc v) (hl : n ≤ 16) (ha : At w ao L) :
    Calls Try.prog 39 #[.slice ao n cap, .int .i64 (j : Int)] w fun e w' => e = .returned (.float .f64 (ftW j L)) ∧ Below w.heap.size w w' := by
  have O := ft_ok h (by omega) (show j < L.length by omega)
  obtain ⟨z, hz⟩ : ∃ z, z = ftW j L := ⟨_, rfl⟩
  have CB := fun w => cbrought_run (qX (if 0 < j then mX (ftS j L) twoW else ftS j L) (nrN L.length)) O.q.nz.fin.1 w
  have rm := run_mul _ _ _ O.d.m
  have rq := run_div _ _ _ O.q.q
  have ez : bgW (qX (if 0 < j then mX (ftS j L) twoW else ftS j L) (nrN L.length)) = z := by rw [hz]; rfl
  rw [ez] at CB
  rw [← hz]
  obtain ⟨A, hA⟩ : ∃ A, A = ftS j L := ⟨_, rfl⟩
  have A0 : Hid (sumF j n L 0 0 = A) := Lib.hid (by rw [hA, hn]; rfl)
  rw [← hA] at rm rq CB
  unfold twoW at rm rq CB
  have lt0 : Hid (∀ b o, ao = some ⟨b, o, none⟩ → 0 < L.length → b < w.heap.size) := Lib.hid ha.lt
  have cvn : ∀ w, (convert 3 30 (.int .i64 (n : Int))).run Try.prog w = .ok (.float .f64 (nrN n)) w := fun w => conv_if n w
  rw [← hn] at rq CB
  replace hn := Lib.hid hn
  replace ha := Lib.hid ha
  replace h := Lib.hid h
  replace rm := Lib.hid rm
  replace rq := Lib.hid rq
  replace CB := Lib.hid CB
  replace cvn := Lib.hid cvn
  clear O hz ez hA
  go_enter Try.func39, Try.ntmps39
  go_wp2_with fail
  go_loopw [6, 11] (fun sv iv wr => ∃ k s : Nat, k ≤ n ∧ iv = .int .i64 k ∧ sv = .float .f64 s ∧ sumF j n (L.drop k) k s = A ∧ Fs s k ∧ Below w.heap.size w wr) (fun _ iv _ => n - (intOf iv).toNat)
  case atStart => exact ⟨0, 0, Nat.zero_le _, rfl, rfl, A0.out, fs_zero, Below.refl _ _⟩
  case round =>
    obtain ⟨k, s, hk, rfl, rfl, hS, F, hb⟩ := hrel
    by_cases hlt : k < n
    · have hkl : k < L.length := by have := hn.out; omega
      obtain ⟨b, o, rfl, hc0⟩ := ha.out k hkl
      have hbl := lt0.out b o rfl (by omega)
      have hc : wr.cell? ⟨b, o + k, none⟩ = some (.float .f64 (L.getD k 0)) := (World.cell?_of_block (a := ⟨b, o + k, none⟩) (hb.block b hbl)).trans hc0
      have hd : L.drop k = L.getD k 0 :: L.drop (k + 1) := by
        rw [List.drop_eq_getElem_cons hkl]; simp [List.getD, hkl]
      rw [hd] at hS
      unfold sumF at hS
      have Fv : Fc (L.getD k 0) := h.out _ (by simp [List.getD, hkl])
      have R := fs_step F (by omega) Fv (csN_wd (ago (node_cap (show j ≤ 15 by omega) (show k ≤ 15 by omega)) (by omega) hl))
      have r1 := run_mul _ _ _ R.m
      have r2 := run_add _ _ _ R.a
      have C := Lib.hid (fun w => catnode_run (j := j) (k := k) (n := n) (by omega) (by omega) (by omega) hl w)
      have F2 := Lib.hid R.f
      have hi2 : (k : Int) < (n : Int) := by omega
      have hwl : b < wr.heap.size := Nat.lt_of_lt_of_le hbl hb.size
      clear R F Fv hd hkl hc0 hbl
      generalize csN (angW (j * (2 * k + 1)) n) = c at *
      generalize L.getD k 0 = v at *
      generalize mX v c = p at *
      generalize aX s p = s2 at *
      replace hS := Lib.hid hS
      replace hb := Lib.hid hb
      replace hwl := Lib.hid hwl
      go_wp2_with fail
      go_region_held3 (fun x => x.cell? ⟨b, o + k, none⟩ = some (.float .f64 v)) (first | exact hc | exact hd0 | go_keep)
        (first | (go_at_call 36; ((with_reducible refine (C.out wr.drew).mono ?_); rintro _ wa ⟨rfl, hba⟩; have hd0 : wa.cell? ⟨b, o + k, none⟩ = some (.float .f64 v) := (World.cell?_of_block (a := ⟨b, o + k, none⟩) (hba.block b hwl.out)).trans hc; have hbb := Lib.hid (hb.out.trans ((((Below.refl wr.heap.size wr).drew).trans hba).mono hb.out.size)); clear hba)))
      all_goals
        go_wp2_with fail
        go_roundw
        case rel => exact ⟨k + 1, s2, by omega, by go_num, rfl, hS.out, F2.out, hbb.out⟩
        case measure => simp [intOf]; omega
    · obtain rfl : k = n := by omega
      have eS : s = A := by
        rw [List.drop_eq_nil_of_le (by have := hn.out; omega)] at hS
        exact hS
      subst eS
      have RM := rm.out
      have RQ := rq.out
      have B1 := CB.out
      have CV := cvn.out
      replace hb := Lib.hid hb
      clear hS F
      by_cases c : 0 < j
      · have tj : decide ((0 : Int) < (j : Int)) = true := decide_eq_true (by omega)
        rw [if_pos c] at RQ B1
        generalize nrN k = q at *
        go_wp2_with (go_at_call 65; ((with_reducible refine (B1 _).mono ?_); rintro e w' ⟨rfl, rfl⟩))
        go_ret
        exact ⟨rfl, hb.out⟩
      · have j0 : j = 0 := by omega
        subst j0
        rw [if_neg c] at RQ B1
        generalize nrN k = q at *
        go_wp2_with (go_at_call 65; ((with_reducible refine (B1 _).mono ?_); rintro e w' ⟨rfl, rfl⟩))
        go_ret
        exact ⟨rfl, hb.out⟩
end Go.Proofs.Ytnmadknpkhaolaa

namespace Go.Proofs.Ytnmadknpkhaolaa
open Go.ChangeShapes Go.WideShapes Go.ChangeAt Go.RowKit Ieee.Own Pol

theorem ft_get {L : List Nat} {j : Nat} (h : j < L.length) : (ftL L).getD j 0 = ftW j L := by unfold ftL; simp [List.getD, h]
theorem ft_len (L : List Nat) : (ftL L).length = L.length := by unfold ftL; simp
noncomputable def ndL (n : Nat) : List Nat := (List.range n).map fun k => csN (angW (1 * (2 * k + 1)) n)
theorem nd_get {n k : Nat} (h : k < n) : (ndL n).getD k 0 = csN (angW (1 * (2 * k + 1)) n) := by unfold ndL; simp [List.getD, h]
theorem nd_len (n : Nat) : (ndL n).length = n := by unfold ndL; simp
theorem lay_all {w : World} {g n : Nat} {L : List Nat} (hn : n = L.length) (h : BV w g (lay L n n)) : BV w g (L.map (Value.float .f64)) := by
  have e : lay L n n = L.map (Value.float .f64) := by
    unfold lay
    rw [Nat.sub_self, List.replicate_zero, List.append_nil, hn, List.take_length]
  rwa [e] at h
set_option maxHeartbeats 1000000 in
set_option maxRecDepth 100000 in
theorem cfit_no {L : List Nat} (ao : Option Addr) (cap n : Nat) (w : World) (hn : n = L.length) (hm : n ≤ 4611686018427387904) (hw : Words L) (ha : At w ao L) (h0 : errC L ≠ 0) :
    Calls Try.prog 14 #[.slice ao n cap] w fun e w' => e = .returned (.tuple #[.slice none 0 0, .int .i64 (errC L)]) ∧ w = w' := by
  have K := pcheck_run ao cap n L w hn hm hw ha
  have t : (errC L != 0) = true := by simpa using h0
  clear h0 hn hm hw ha
  generalize errC L = er at *
  go_enter Try.func14, Try.ntmps14
  go_wp2_with (go_at_call 38; ((with_reducible refine K.mono ?_); rintro e w' ⟨rfl, rfl⟩))
  go_ret2
  exact ⟨rfl, rfl⟩
set_option maxHeartbeats 1000000 in
set_option maxRecDepth 100000 in
theorem cfit_ok {L : List Nat} (ao : Option Addr) (cap n : Nat) (w : World) (hn : n = L.length) (hw : Words L) (ha : At w ao L) (h0 : errC L = 0) :
    Calls Try.prog 14 #[.slice ao n cap] w fun e w' => e = .returned (.tuple #[.slice (some ⟨w.heap.size, 0, none⟩) n n, .int .i64 0]) ∧ BV w' w.heap.size ((ftL L).map (Value.float .f64)) ∧ Below w.heap.size w w' := by
  obtain ⟨hl16, hfc⟩ := errC_zero hw h0
  have n16 : n ≤ 16 := by omega
  have K := pcheck_run ao cap n L w hn (by omega) hw ha
  rw [h0] at K
  have mk := make64 n n16
  have hst := @fstore
  obtain ⟨M, hM⟩ : ∃ M, M = ftL L := ⟨_, rfl⟩
  have hnM : Hid (n = M.length) := Lib.hid (by rw [hM, ft_len]; exact hn)
  rw [← hM]
  have B0 : Hid (BV (w.alloc (.cells (madeCells #[.float .f64 0] n) 30)) w.heap.size (lay M 0 n)) := Lib.hid (by rw [lay_zero]; exact madeB _ _ _ _)
  have b0 : Hid (Below w.heap.size w (w.alloc (.cells (madeCells #[.float .f64 0] n) 30))) := Lib.hid ((Below.refl _ w).alloc (Nat.le_refl _) _)
  have lt0 : Hid (∀ b o, ao = some ⟨b, o, none⟩ → 0 < L.length → b < w.heap.size) := Lib.hid ha.lt
  replace hn := Lib.hid hn
  replace hM := Lib.hid hM
  replace ha := Lib.hid ha
  replace hfc := Lib.hid hfc
  clear hw h0
  go_enter Try.func14, Try.ntmps14
  go_wp2_with (go_at_call 38; ((with_reducible refine K.mono ?_); rintro e w' ⟨rfl, rfl⟩))
  clear K
  go_loopw [17] (fun iv wr => ∃ i : Nat, i ≤ n ∧ iv = .int .i64 i ∧ BV wr w.heap.size (lay M i n) ∧ Below w.heap.size w wr) (fun iv _ => n - (intOf iv).toNat)
  case atStart => exact ⟨0, Nat.zero_le _, rfl, B0.out, b0.out⟩
  case round =>
    obtain ⟨i, hi, rfl, B, hb⟩ := hrel
    by_cases hlt : i < n
    · have A2 : At wr ao L := ha.out.later hb (fun b o e h => lt0.out b o e h)
      have C := Lib.hid (cfitted_run (j := i) ao cap n wr hn.out hlt hfc.out n16 A2)
      have eM : Hid (M.getD i 0 = ftW i L) := Lib.hid (by rw [hM.out]; exact ft_get (by have := hn.out; omega))
      generalize ftW i L = u at *
      have hi2 : (i : Int) < (n : Int) := by omega
      replace B := Lib.hid B
      replace hb := Lib.hid hb
      clear A2
      go_wp2_with fail
      refine C.out.mono ?_
      rintro _ w2 ⟨rfl, hd⟩
      have B2 := B.out.on hd
      have b2 := hb.out.trans (hd.mono hb.out.size)
      have c1 := B2.at_ i _ (lay_at hnM.out hlt)
      have f1 := B2.fr i _ (lay_at hnM.out hlt)
      have B3 := B2.set1 (lay_at hnM.out hlt) (.float .f64 u)
      rw [← eM.out, lay_set hnM.out hlt, eM.out] at B3
      replace B3 := Lib.hid B3
      have b3 := Lib.hid (b2.setCell (p := ⟨w.heap.size, i, none⟩) (Nat.le_refl _) (.float .f64 u))
      clear B B2 hb C hd b2
      go_wp2_with fail
      go_roundw
      case rel => exact ⟨i + 1, hlt, by go_num, B3.out, b3.out⟩
      case measure => simp [intOf]; omega
    · obtain rfl : i = n := by omega
      replace B := Lib.hid B
      replace hb := Lib.hid hb
      go_wp2_with fail
      go_ret2
      exact ⟨rfl, lay_all hnM.out B.out, hb.out⟩
set_option maxHeartbeats 1000000 in
set_option maxRecDepth 100000 in
theorem cnodes_ok {n : Nat} (w : World) (h0 : 0 < n) (n16 : n ≤ 16) :
    Calls Try.prog 11 #[.int .i64 (n : Int)] w fun e w' => e = .returned (.tuple #[.slice (some ⟨w.heap.size, 0, none⟩) n n, .int .i64 0]) ∧ BV w' w.heap.size ((ndL n).map (Value.float .f64)) ∧ Below w.heap.size w w' := by
  have mk := make64 n n16
  have hst := @fstore
  obtain ⟨M, hM⟩ : ∃ M, M = ndL n := ⟨_, rfl⟩
  have hnM : Hid (n = M.length) := Lib.hid (by rw [hM, nd_len])
  rw [← hM]
  have B0 : Hid (BV (w.alloc (.cells (madeCells #[.float .f64 0] n) 30)) w.heap.size (lay M 0 n)) := Lib.hid (by rw [lay_zero]; exact madeB _ _ _ _)
  have b0 : Hid (Below w.heap.size w (w.alloc (.cells (madeCells #[.float .f64 0] n) 30))) := Lib.hid ((Below.refl _ w).alloc (Nat.le_refl _) _)
  have t1 : decide ((n : Int) < 1) = false := decide_eq_false (by omega)
  have t2 : decide ((16 : Int) < (n : Int)) = false := decide_eq_false (by omega)
  replace hM := Lib.hid hM
  go_enter Try.func11, Try.ntmps11
  go_wp2_with fail
  go_loopw [15] (fun iv wr => ∃ i : Nat, i ≤ n ∧ iv = .int .i64 i ∧ BV wr w.heap.size (lay M i n) ∧ Below w.heap.size w wr) (fun iv _ => n - (intOf iv).toNat)
  case atStart => exact ⟨0, Nat.zero_le _, rfl, B0.out, b0.out⟩
  case round =>
    obtain ⟨i, hi, rfl, B, hb⟩ := hrel
    by_cases hlt : i < n
    · have C := Lib.hid (catnode_run (j := 1) (k := i) (n := n) (by omega) (by omega) h0 n16 wr)
      have eM : Hid (M.getD i 0 = csN (angW (1 * (2 * i + 1)) n)) := Lib.hid (by rw [hM.out]; exact nd_get hlt)
      generalize csN (angW (1 * (2 * i + 1)) n) = u at *
      have hi2 : (i : Int) < (n : Int) := by omega
      replace B := Lib.hid B
      replace hb := Lib.hid hb
      go_wp2_with fail
      refine C.out.mono ?_
      rintro _ w2 ⟨rfl, hd⟩
      have B2 := B.out.on hd
      have b2 := hb.out.trans (hd.mono hb.out.size)
      have c1 := B2.at_ i _ (lay_at hnM.out hlt)
      have f1 := B2.fr i _ (lay_at hnM.out hlt)
      have B3 := B2.set1 (lay_at hnM.out hlt) (.float .f64 u)
      rw [← eM.out, lay_set hnM.out hlt, eM.out] at B3
      replace B3 := Lib.hid B3
      have b3 := Lib.hid (b2.setCell (p := ⟨w.heap.size, i, none⟩) (Nat.le_refl _) (.float .f64 u))
      clear B B2 hb C hd b2
      go_wp2_with fail
      go_roundw
      case rel => exact ⟨i + 1, hlt, by go_num, B3.out, b3.out⟩
      case measure => simp [intOf]; omega
    · obtain rfl : i = n := by omega
      replace B := Lib.hid B
      replace hb := Lib.hid hb
      go_wp2_with fail
      go_ret2
      exact ⟨rfl, lay_all hnM.out B.out, hb.out⟩
end Go.Proofs.Ytnmadknpkhaolaa

namespace Go.Proofs.Ytnmadknpkhaolaa
open Go.ChangeShapes Go.WideShapes Go.ChangeAt Go.RowKit Ieee.Own

end Go.Proofs.Ytnmadknpkhaolaa

namespace Go.Proofs.Ytnmadknpkhaolaa
open Go.ChangeShapes Go.WideShapes Go.ChangeAt Go.RowKit

theorem alne {als : List Av} {k : Nat} (h : als.all (fun al => !(al.i == k)) = true) : ∀ al ∈ als, al.i ≠ k := fun al hal e => by
  have := List.all_eq_true.1 h al hal
  rw [e] at this
  simp at this
theorem pg {ds : List (Option Tmp)} {L : List (Option Value)} {a : Act} {ρ : Operand → Value} {t : Tmp} {v : Value} (k : Nat) (hA : (puts ds L a).eval = ρ) (hap : apartL ds = true) (h : ds[k]? = some (some t)) (hl : L[k]? = some (some v)) (hs : t < a.tmps.size) : ρ (.tmp t) = v := by rw [← hA]; exact puts_get k ds L a hap h hl hs
theorem po {ds : List (Option Tmp)} {L : List (Option Value)} {a : Act} {ρ : Operand → Value} {t : Tmp} (hA : (puts ds L a).eval = ρ) (h : some t ∉ ds) : ρ (.tmp t) = a.eval (.tmp t) := by rw [← hA]; exact puts_old ds L a h
theorem Kv.take {w0 w : World} {L : List (Option (Nat × List Value))} (C : Kv w0 L w) (n : Nat) : Kv w0 (L.take n) w := by
  have key : ∀ i (x : Option (Nat × List Value)), (L.take n)[i]? = some x → L[i]? = some x := fun i x h => by
    have hi := (List.getElem?_eq_some_iff.1 h).1
    rw [List.length_take] at hi
    rw [List.getElem?_take_of_lt (by omega)] at h
    exact h
  exact ⟨C.old, fun j g us h => C.blk j g us (key _ _ h), fun i j g us vs h k => C.inj i j g us vs (key _ _ h) (key _ _ k)⟩
end Go.Proofs.Ytnmadknpkhaolaa
