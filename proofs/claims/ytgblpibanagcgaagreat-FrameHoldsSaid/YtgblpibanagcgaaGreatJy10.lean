/- Proved here: what the texts Frn, Fro prove, one behind the other. -/
import Derived.Test.YtgblpibanagcgaaGreatJy9
import Derived.Test.YtgblpibanagcgaaGreatJy8
import Derived.Test.YtgblpibanagcgaaGreatJx2

namespace Go.Proofs.YtgblpibanagcgaaGreat
open Go.ChangeShapes Go.WideShapes Go.ChangeAt Go.RowKit Ieee.Own Pol Fma

theorem mag_nnF {a : Rat} (h : 0 ≤ a) : mag a ≤ a := by unfold mag; rw [if_pos h]; exact Rat.le_refl
theorem sz_wd {v : V3} (D : D3 v) : Ieee.double.add (absW v.1) (absW v.2.1) = some (aX (absW v.1) (absW v.2.1)) ∧ Ieee.double.add (aX (absW v.1) (absW v.2.1)) (absW v.2.2) = some (szW v) ∧ Wd (szW v) 822 1140 ∧ (1 - 2 * uR) * sz3 v ≤ Q (szW v) := by
  obtain ⟨w1, q1⟩ := abs_wd D.w1
  obtain ⟨w2, q2⟩ := abs_wd D.w2
  obtain ⟨w3, q3⟩ := abs_wd D.w3
  obtain ⟨s1, g1, r1⟩ := Wd.add w1 w2 (by omega)
  obtain ⟨s2, g2, r2⟩ := Wd.add g1 (w3.le (q := 822) (l := 1134 + 1) (by omega) (by omega)) (by omega)
  refine ⟨s1, s2, Wd.le g2 (by omega) (by omega), ?_⟩
  have d1 := rd_of r1
  have d2 := rd_of r2
  rw [q1, q2] at d1
  rw [q3] at d2
  have x0 := (mag_le (Q v.1)).2.2
  have y0 := (mag_le (Q v.2.1)).2.2
  have z0 := (mag_le (Q v.2.2)).2.2
  have u0 := uR0
  have u1 : 1000 * uR ≤ 1 := by decide +kernel
  have k1 := d1 _ (mag_nnF (show 0 ≤ mag (Q v.1) + mag (Q v.2.1) from Rat.add_nonneg x0 y0))
  have k2 := d2 _ Rat.le_refl
  show (1 - 2 * uR) * (mag (Q v.1) + mag (Q v.2.1) + mag (Q v.2.2)) ≤ Q (szW v)
  have key : ∀ {u X Y Z s1 s2 : Rat}, 0 ≤ u → 1000 * u ≤ 1 → 0 ≤ X → 0 ≤ Y → 0 ≤ Z → mag (s1 - (X + Y)) ≤ u * (X + Y) + 0 → mag (s2 - (s1 + Z)) ≤ u * mag (s1 + Z) + 0 → (1 - 2 * u) * (X + Y + Z) ≤ s2 := fun {u X Y Z s1 s2} u0 u1 x0 y0 z0 h1 h2 => by
    have a1 := mag_le (s1 - (X + Y))
    have a2 := mag_le (s2 - (s1 + Z))
    have xy := Rat.mul_nonneg u0 (show 0 ≤ X + Y by grind)
    have b1 : (1 - u) * (X + Y) ≤ s1 := by grind
    have s1n : 0 ≤ s1 := by
      have := Rat.mul_nonneg (show 0 ≤ 1 - u by grind) (show 0 ≤ X + Y by grind)
      grind
    have m1 : mag (s1 + Z) = s1 + Z := by unfold mag; rw [if_pos (by grind)]
    rw [m1] at h2
    have b2 : (1 - u) * (s1 + Z) ≤ s2 := by grind
    have e1 := Rat.mul_le_mul_of_nonneg_left (show (1 - u) * (X + Y) + Z ≤ s1 + Z by grind) (show 0 ≤ 1 - u by grind)
    have e3 := Rat.mul_nonneg u0 z0
    have e4 := Rat.mul_nonneg (Rat.mul_nonneg u0 u0) (show 0 ≤ X + Y by grind)
    clear h1 h2 a1 a2 m1 b1 s1n
    grind
  exact key u0 u1 x0 y0 z0 k1 k2
/-- the sum of all origins, as words and truly -/
def scF : List Fr → Nat → Nat
  | [], s => s
  | f :: fs, s => scF fs (aX s (szW f.og))
def sumL : List Fr → Rat
  | [] => 0
  | f :: fs => o1n f + sumL fs
theorem sumL_nn : ∀ L, 0 ≤ sumL L
  | [] => Rat.le_refl
  | _ :: fs => Rat.add_nonneg (o1n_nn _) (sumL_nn fs)
theorem sumL_app : ∀ A B : List Fr, sumL (A ++ B) = sumL A + sumL B
  | [], B => by show sumL B = 0 + sumL B; grind
  | f :: A, B => by
    show o1n f + sumL (A ++ B) = o1n f + sumL A + sumL B
    rw [sumL_app A B]; grind
theorem scF_app : ∀ (A : List Fr) (f : Fr) (s : Nat), scF (A ++ [f]) s = aX (scF A s) (szW f.og)
  | [], _, _ => rfl
  | _ :: A, f, _ => scF_app A f _
def OgOk (f : Fr) : Prop := D3 f.og
theorem og_ok {f : Fr} {i : Int} (w : FrW f) (h : FrOk f i) : OgOk f :=
  ⟨(wit_wd w.o1 v40 h.o1).le (by omega) (by omega), (wit_wd w.o2 v40 h.o2).le (by omega) (by omega), (wit_wd w.o3 v40 h.o3).le (by omega) (by omega)⟩
theorem poly_sc {u n P o s' T : Rat} (u0 : 0 ≤ u) (n0 : 0 ≤ n) (n1 : 4 * n * u ≤ 1) (P0 : 0 ≤ P) (o0 : 0 ≤ o) (T0 : 0 ≤ T) (h : (1 - u) * (P + (1 - 2 * u) * o) ≤ s') : (1 - 4 * (n + 1) * u) * (P + (o + T)) ≤ (1 - 4 * n * u) * (s' + T) := by
  have a := Rat.mul_le_mul_of_nonneg_left (show (1 - u) * (P + (1 - 2 * u) * o) + T ≤ s' + T by grind) (show 0 ≤ 1 - 4 * n * u by grind)
  refine Rat.le_trans ?_ a
  have b : (1 - 4 * u) * (P + (o + T)) ≤ (1 - u) * (P + (1 - 2 * u) * o) + T := by
    have c1 := Rat.mul_nonneg u0 P0
    have c2 := Rat.mul_nonneg u0 o0
    have c3 := Rat.mul_nonneg u0 T0
    have c4 := Rat.mul_nonneg c2 u0
    grind
  have d := Rat.mul_le_mul_of_nonneg_left b (show 0 ≤ 1 - 4 * n * u by grind)
  refine Rat.le_trans ?_ d
  have S0 : 0 ≤ P + (o + T) := by grind
  have e := Rat.mul_nonneg (Rat.mul_nonneg (Rat.mul_nonneg n0 u0) u0) S0
  grind
theorem zero_len (u q : Rat) : (1 - 4 * (0 : Rat) * u) * (q + 0) = q := by grind
theorem sc_wd : ∀ (L : List Fr) (s k : Nat), (∀ f ∈ L, OgOk f) → Wd s 822 k → 1140 ≤ k → k + L.length ≤ 1200 → 0 ≤ Q s → L.length ≤ 60 →
    Wd (scF L s) 822 (k + L.length) ∧ (1 - 4 * (L.length : Rat) * uR) * (Q s + sumL L) ≤ Q (scF L s)
  | [], _, k, _, hs, _, _, _, _ => by
    refine ⟨hs, ?_⟩
    rw [show (([] : List Fr).length : Rat) = 0 from rfl, show sumL [] = 0 from rfl, zero_len]
    exact Rat.le_refl
  | f :: L, s, k, hL, hs, h1, h2, s0, hl => by
    have O := hL f (List.mem_cons_self ..)
    obtain ⟨-, -, W, B⟩ := sz_wd O
    obtain ⟨-, W2, r⟩ := Wd.add hs (W.le (q := 822) (l := k) (by omega) h1) (by simp at h2; omega)
    have d := rd_of r _ Rat.le_refl
    have u0 := uR0
    have u1 : 1000 * uR ≤ 1 := by decide +kernel
    have o0 : 0 ≤ o1n f := o1n_nn f
    have B : (1 - 2 * uR) * o1n f ≤ Q (szW f.og) := B
    have z0 : 0 ≤ Q (szW f.og) := by
      have := Rat.mul_nonneg (show 0 ≤ 1 - 2 * uR by generalize uR = u at *; grind) o0
      exact Rat.le_trans this B
    have hs' : (1 - uR) * (Q s + (1 - 2 * uR) * o1n f) ≤ Q (aX s (szW f.og)) := by
      have m : mag (Q s + Q (szW f.og)) = Q s + Q (szW f.og) := by unfold mag; rw [if_pos (Rat.add_nonneg s0 z0)]
      rw [m] at d
      have a := mag_le (Q (aX s (szW f.og)) - (Q s + Q (szW f.og)))
      generalize Q (aX s (szW f.og)) = x at *
      generalize Q (szW f.og) = y at *
      generalize o1n f = o at *
      generalize uR = u at *
      have c := Rat.mul_le_mul_of_nonneg_left (show Q s + (1 - 2 * u) * o ≤ Q s + y by grind) (show 0 ≤ 1 - u by grind)
      clear m W W2 r
      grind
    have s0' : 0 ≤ Q (aX s (szW f.og)) := by
      refine Rat.le_trans (Rat.mul_nonneg (show 0 ≤ 1 - uR by generalize uR = u at *; grind) (Rat.add_nonneg s0 (Rat.mul_nonneg (show 0 ≤ 1 - 2 * uR by generalize uR = u at *; grind) o0))) hs'
    obtain ⟨I1, I2⟩ := sc_wd L (aX s (szW f.og)) (k + 1) (fun g hg => hL g (List.mem_cons_of_mem _ hg)) W2 (by omega) (by simp at h2; omega) s0' (by simp at hl; omega)
    refine ⟨I1.le (by omega) (by simp; omega), ?_⟩
    have nc : (((f :: L).length : Nat) : Rat) = (L.length : Rat) + 1 := by
      rw [List.length_cons, Rat.natCast_add]; rfl
    rw [nc]
    show (1 - 4 * ((L.length : Rat) + 1) * uR) * (Q s + (o1n f + sumL L)) ≤ Q (scF L (aX s (szW f.og)))
    refine Rat.le_trans ?_ I2
    have n0 : (0 : Rat) ≤ (L.length : Rat) := Rat.natCast_nonneg
    have n1 : (L.length : Rat) ≤ 60 := by
      have : L.length ≤ 60 := by simp at hl; omega
      exact_mod_cast this
    have n2 : 4 * (L.length : Rat) * uR ≤ 1 := by
      have := Rat.mul_le_mul_of_nonneg_right n1 u0
      generalize (L.length : Rat) = n at *
      generalize uR = u at *
      clear I1 I2 W W2 r d hs' s0' B z0
      grind
    exact poly_sc u0 n0 n2 s0 o0 (sumL_nn L) hs'
/-! ### the bound -/
theorem lim_poly {u S q P i c d : Rat} (u0 : 0 ≤ u) (u1 : 1000 * u ≤ 1) (hP : P * i = 1) (i0 : 0 ≤ i) (S0 : 0 ≤ S) (c0 : 0 ≤ c) (h3 : mag (q * P - S) ≤ u * mag (q * P)) (h4 : mag (d - (q + c)) ≤ u * mag (q + c)) : (1 - 2 * u) * (S * i) + (1 - u) * c ≤ d := by
  have a3 := mag_le (q * P - S)
  have a4 := mag_le (d - (q + c))
  have qP : 0 ≤ q * P := by
    by_cases c : 0 ≤ q * P
    · exact c
    · exfalso
      have m : mag (q * P) = -(q * P) := by unfold mag; rw [if_neg c]
      rw [m] at h3
      have := Rat.mul_nonneg (show 0 ≤ -(q * P) by grind) (show 0 ≤ 1 - 1000 * u by grind)
      grind
  have m3 : mag (q * P) = q * P := by unfold mag; rw [if_pos qP]
  rw [m3] at h3
  have b4 : S ≤ q * P * (1 + u) := by grind
  have b5 : S * (1 - u) ≤ q * P := by
    have e1 := Rat.mul_le_mul_of_nonneg_right b4 (show 0 ≤ 1 - u by grind)
    have e2 := Rat.mul_nonneg (Rat.mul_nonneg u0 u0) qP
    grind
  have b8 : S * (1 - u) * i ≤ q := by
    have e1 := Rat.mul_le_mul_of_nonneg_right b5 i0
    have e2 : q * P * i = q := by
      have : q * P * i = q * (P * i) := by grind
      rw [this, hP]; grind
    rw [e2] at e1; exact e1
  have Si := Rat.mul_nonneg S0 i0
  have qn : 0 ≤ q := by
    have e1 := Rat.mul_nonneg Si (show 0 ≤ 1 - u by grind)
    grind
  have m4 : mag (q + c) = q + c := by unfold mag; rw [if_pos (by grind)]
  rw [m4] at h4
  have b9 : (1 - u) * (q + c) ≤ d := by grind
  have c1 := Rat.mul_le_mul_of_nonneg_left (show S * (1 - u) * i + c ≤ q + c by grind) (show 0 ≤ 1 - u by grind)
  have c3 := Rat.mul_nonneg (Rat.mul_nonneg u0 u0) Si
  clear h3 h4 a3 a4 m3 m4 b4 b5 b8 qP hP
  grind
def p8w : Nat := 4643211215818981376
def c180w : Nat := 3796534485873328128
theorem c180_Q : Q c180w = 1048576 * sm := by decide +kernel
theorem c180_fin : FinW c180w := by unfold FinW c180w; omega
structure Dvs (P : Nat) (i : Rat) : Prop where
  norm : ∃ m q, Norm P false m q ∧ 760 ≤ q ∧ q ≤ 1100
  inv : Q P * i = 1
  pos : 0 ≤ i
  big : 2 ^ 1074 ≤ (V P).natAbs
theorem dvs8 : Dvs p8w (mkRat 1 256) := by
  refine ⟨?_, by decide +kernel, by decide +kernel, by decide +kernel⟩
  have f : FinW p8w := by unfold FinW p8w; omega
  have N := norm_of f (by unfold p8w; omega)
  rw [show decide (9223372036854775808 ≤ p8w) = false by decide] at N
  exact ⟨_, _, N, by decide, by decide⟩
def limG (S P : Nat) : Nat := aX (qX S P) c180w
theorem wd_normG {a : Nat} (W : Wd a 822 1200) : V a = 0 ∨ ∃ s m p, Norm a s m p ∧ 760 ≤ p ∧ p ≤ 1222 := by
  by_cases h : V a = 0
  · exact .inl h
  · have lo := pow_abs_dvd W.dvd h
    obtain ⟨s, m, p, N⟩ := is_norm W.fin lo (by omega)
    obtain ⟨p1, p2⟩ := norm_pl N lo W.abs (by omega) (by omega)
    exact .inr ⟨s, m, p, N, by omega, by omega⟩
theorem big_cap {q P y : Int} (h : (q * P).natAbs ≤ 2 * (y * 2 ^ 1074).natAbs) (hP : 2 ^ 1074 ≤ P.natAbs) (hy : y.natAbs ≤ 2 ^ 1200) : q.natAbs ≤ 2 ^ 1400 := by
  rw [Int.natAbs_mul, Int.natAbs_mul, Int.natAbs_pow] at h
  have e : (2 : Int).natAbs = 2 := rfl
  rw [e] at h
  have k : q.natAbs * 2 ^ 1074 ≤ 2 * (y.natAbs * 2 ^ 1074) := Nat.le_trans (Nat.mul_le_mul_left _ hP) h
  exact quo_cap (i := 1074) (j := 1074) (k := 1200) (l := 1400) (by omega) k hy
theorem lim_gen {S P : Nat} {i : Rat} (D : Dvs P i) (W : Wd S 822 1200) (S0 : 0 ≤ Q S) :
    Ieee.double.div S P = some (qX S P) ∧ Ieee.double.add (qX S P) c180w = some (limG S P) ∧ FinW (limG S P) ∧ (1 - 2 * uR) * (Q S * i) + (1 - uR) * (1048576 * sm) ≤ Q (limG S P) := by
  obtain ⟨m, q, N, n1, n2⟩ := D.norm
  obtain ⟨o3, g3, e3⟩ := div_norm W.fin (wd_normG W) N n1 n2
  have r3 := quo_rat e3
  have aux : ∀ {x y : Int}, 2 ^ 53 * (x - y).natAbs ≤ x.natAbs → x.natAbs ≤ 2 * y.natAbs := fun h => by omega
  have qb : (V (qX S P)).natAbs ≤ 2 ^ 1400 := big_cap (aux e3) D.big W.abs
  have cb : (V c180w).natAbs ≤ 2 ^ 894 := by decide +kernel
  obtain ⟨o4, g4, v4, -⟩ := add_ok g3 c180_fin qb (abs_up (k := 894) (l := 1400) cb (by omega)) (k := 1401) rfl (by omega)
  have d4 := rd_of (add_rel v4) _ Rat.le_refl
  rw [c180_Q] at d4
  have t1 : ∀ x : Rat, x + 0 = x := fun x => by grind
  rw [t1] at d4
  have u1 : 1000 * uR ≤ 1 := by decide +kernel
  exact ⟨o3, o4, g4, lim_poly uR0 u1 D.inv D.pos S0 (by decide +kernel) r3 d4⟩
/-! ### the walk -/
set_option maxRecDepth 100000 in
theorem sz_of {f : Fr} (O : OgOk f) (wf : FrW f) (w : World) : Calls Tryz.prog 25 #[.agg #[.float .f64 f.o1, .float .f64 f.o2, .float .f64 f.o3]] w fun e w' => e = .returned (.float .f64 (szW f.og)) ∧ Below w.heap.size w w' := by
  obtain ⟨s1, s2, -, -⟩ := sz_wd O
  exact size_run (fun w => abs_any f.o1 wf.o1 w) (fun w => abs_any f.o2 wf.o2 w) (fun w => abs_any f.o3 wf.o3 w) (run_add _ _ _ s1) (run_add _ _ _ s2) w
theorem ret_fF {a b : Nat} (h : a = b) : Ending.returned (.float .f64 a) = .returned (.float .f64 b) := by rw [h]
set_option maxHeartbeats 4000000 in
set_option maxRecDepth 100000 in
theorem scale_run (ao : Option Addr) (cap n : Nat) (L : List Fr) (v : V3) (w : World) (hn : n = L.length) (hl : L.length ≤ 16) (hW : FsW L) (hO : ∀ f ∈ L, OgOk f) (ha : FAt w ao L) (hv : W3 v) (D : D3 v) :
    Calls Tryz.prog 10 #[.slice ao n cap, vecV v] w fun e w' => e = .returned (.float .f64 (scF L (szW v))) ∧ Below w.heap.size w w' := by
  have CV := Lib.hid (fun w => size_run (fun w => abs_any v.1 hv.l1 w) (fun w => abs_any v.2.1 hv.l2 w) (fun w => abs_any v.2.2 hv.l3 w) (run_add _ _ _ (sz_wd D).1) (run_add _ _ _ (sz_wd D).2.1) w)
  have W0 := (sz_wd D).2.2.1
  have B0 : 0 ≤ Q (szW v) := by
    have := (sz_wd D).2.2.2
    refine Rat.le_trans (Rat.mul_nonneg ?_ (Rat.add_nonneg (Rat.add_nonneg (mag_le _).2.2 (mag_le _).2.2) (mag_le _).2.2)) this
    decide +kernel
  have ADD : Hid (∀ k, k < L.length → Ieee.double.add (scF (L.take k) (szW v)) (szW (frAt L k).og) = some (scF (L.take (k + 1)) (szW v))) := Lib.hid fun k hk => by
    have e : frAt L k = L[k] := by unfold frAt; simp [List.getD, hk]
    have t : L.take (k + 1) = L.take k ++ [L[k]] := by rw [List.take_succ_eq_append_getElem hk]
    obtain ⟨W1, -⟩ := sc_wd (L.take k) (szW v) 1140 (fun f hf => hO f (List.mem_of_mem_take hf)) W0 (Nat.le_refl _) (by simp; omega) B0 (by simp; omega)
    have O := hO L[k] (List.getElem_mem hk)
    obtain ⟨-, -, W2, -⟩ := sz_wd O
    obtain ⟨q, -, -⟩ := Wd.add (p := 822) (k := 1160) (W1.le (by omega) (by simp; omega)) (W2.le (by omega) (by omega)) (by omega)
    rw [t, scF_app, e]
    exact q
  have CO : Hid (∀ k, k < L.length → ∀ w, Calls Tryz.prog 25 #[.agg #[.float .f64 (frAt L k).o1, .float .f64 (frAt L k).o2, .float .f64 (frAt L k).o3]] w fun e w' => e = .returned (.float .f64 (szW (frAt L k).og)) ∧ Below w.heap.size w w') :=
    Lib.hid fun k hk w => sz_of (hO _ (fr_mem hk)) (hW _ (fr_mem hk)) w
  have S0 : scF (L.take 0) (szW v) = szW v := rfl
  have S1 : scF (L.take L.length) (szW v) = scF L (szW v) := by rw [List.take_length]
  obtain ⟨V0, hV0⟩ : ∃ V0, V0 = scF L (szW v) := ⟨_, rfl⟩
  rw [← hV0]
  rw [← hV0, ← hn] at S1
  clear hV0 W0 B0 hO hW D hv
  obtain ⟨x1, x2, x3⟩ := v
  unfold vecV
  dsimp only at *
  replace hn := Lib.hid hn
  replace ha := Lib.hid ha
  replace S1 := Lib.hid S1
  generalize szW (x1, x2, x3) = s0 at *
  replace S0 := Lib.hid S0
  have K0 := kv1 w 25 [.float .f64 x1, .float .f64 x2, .float .f64 x3]
  simp only [objV] at K0
  have c0 := (K0.at_ 0 rfl).at_ 0 _ rfl
  have c1 := (K0.at_ 0 rfl).at_ 1 _ rfl
  have c2 := (K0.at_ 0 rfl).at_ 2 _ rfl
  replace K0 := Lib.hid K0
  go_enter Tryz.func10, Tryz.ntmps10
  go_wp2_with fail
  refine (CV.out _).mono ?_
  rintro _ v1 ⟨rfl, hb⟩
  have B := Lib.hid ((K0.out.on hb).old)
  clear K0 hb CV c0 c1 c2
  go_wp2_with fail
  go_loopw [5, 6] (fun sv iv wr => ∃ k : Nat, k ≤ n ∧ iv = .int .i64 k ∧ sv = .float .f64 (scF (L.take k) s0) ∧ Below w.heap.size w wr) (fun _ iv _ => n - (intOf iv).toNat)
  case atStart => exact ⟨0, Nat.zero_le _, rfl, by rw [S0.out], B.out⟩
  case round =>
    obtain ⟨k, hk, rfl, rfl, hb⟩ := hrel
    by_cases hlt : k < n
    · have hkl : k < L.length := by have := hn.out; omega
      have C := Lib.hid (CO.out k hkl)
      have r := run_add _ _ _ (ADD.out k hkl)
      obtain ⟨b, o, rfl, -, -⟩ := FAt.cells ha.out hkl
      have far := fun up ax ph rt o1 o2 o3 => cellsFar (up := up) (ax := ax) (ph := ph) (rt := rt) (o1 := o1) (o2 := o2) (o3 := o3) ha.out hkl rfl
      generalize frAt L k = f at *
      obtain ⟨up, ax, ph, rt, o1, o2, o3⟩ := f
      obtain ⟨-, -, -, -, c4, c5, c6⟩ := far _ _ _ _ _ _ _ rfl wr hb
      unfold Fr.og at r C
      dsimp only at *
      clear far
      generalize szW (o1, o2, o3) = t at *
      generalize scF (L.take k) s0 = s at *
      generalize hs' : scF (L.take (k + 1)) s0 = s' at *
      replace hb := Lib.hid hb
      replace hs' := Lib.hid hs'
      go_wp2_with fail
      refine (C.out _).mono ?_
      rintro _ v2 ⟨rfl, hb1⟩
      replace hb := Lib.hid (hb.out.trans (hb1.mono hb.out.size))
      clear C c4 c5 c6 hb1
      go_wp2_with fail
      go_roundw
      case rel => exact ⟨k + 1, hlt, by go_num, by rw [hs'.out], hb.out⟩
      case measure => simp [intOf]; omega
    · obtain rfl : k = n := by omega
      replace hb := Lib.hid hb
      generalize hs : scF (L.take k) s0 = s at *
      have e : s = V0 := S1.out
      replace e := Lib.hid e
      clear hs
      go_wp2_with fail
      go_ret
      exact ⟨ret_fF e.out, hb.out⟩
end Go.Proofs.YtgblpibanagcgaaGreat

namespace Go.Proofs.YtgblpibanagcgaaGreat
open Go.ChangeShapes Go.WideShapes Go.ChangeAt Go.RowKit Ieee.Own Pol Fma

theorem plus_zero {v : V3} {w : V3} (hv : W3 v) (e : addR v z3 = (w, 0)) : fitV v = true ∧ W3 w ∧ qv w = qv v := by
  have e2 : (addR v z3).2 = 0 := by rw [e]
  obtain ⟨fv, -, ew, -⟩ := add_okR e2
  have WW := (ans_add hv z3_w).w
  rw [e] at ew WW
  have key : ∀ {x : Nat}, x < 18446744073709551616 → vnB x = true → Q (bW (aX x 0)) = Q x := fun {x} hx h => by
    obtain ⟨f, fb, -⟩ := vnB_spec hx h
    obtain ⟨-, f2, v2⟩ := plus0 f
    have m := mag_eq f2 f (congrArg Int.natAbs v2)
    have fb2 : fitB (aX x 0) = true := by unfold fitB at fb ⊢; rw [m]; exact fb
    exact Q_congr ((bW_fit f2 fb2).trans v2)
  have h := fv
  unfold fitV at h
  simp only [Bool.and_eq_true] at h
  refine ⟨fv, WW, ?_⟩
  show (Q w.1, Q w.2.1, Q w.2.2) = (Q v.1, Q v.2.1, Q v.2.2)
  have w1 : w.1 = bW (aX v.1 0) := congrArg Prod.fst ew
  have w2 : w.2.1 = bW (aX v.2.1 0) := congrArg (fun p => p.2.1) ew
  have w3 : w.2.2 = bW (aX v.2.2 0) := congrArg (fun p => p.2.2) ew
  rw [w1, w2, w3, key hv.l1 h.1.1, key hv.l2 h.1.2, key hv.l3 h.2]
theorem root_zero {L : List Fr} {i : Int} {d : Nat} {v w : V3} (h : rootR L i d v = (w, 0)) : readyF L i (witB g24 d) = 0 ∧ ∃ v', addR v z3 = (v', 0) ∧ rootF L d (way L i) v' = (w, 0) := by
  unfold rootR at h
  by_cases c : readyF L i (witB g24 d) = 0
  · rw [if_pos c] at h
    by_cases e : (addR v z3).2 = 0
    · rw [if_pos e] at h
      exact ⟨c, _, by rw [← e], h⟩
    · rw [if_neg e] at h
      exact absurd (congrArg Prod.snd h) e
  · rw [if_neg c] at h
    exact absurd (congrArg Prod.snd h) c
theorem sumL_take {L : List Fr} {k : Nat} (h : k < L.length) : sumL (L.take (k + 1)) = sumL (L.take k) + o1n (frAt L k) := by
  have e : frAt L k = L[k] := by unfold frAt; simp [List.getD, h]
  have t : L.take (k + 1) = L.take k ++ [L[k]] := by rw [List.take_succ_eq_append_getElem h]
  rw [t, sumL_app, e]
  show sumL (L.take k) + (o1n L[k] + 0) = _
  grind
theorem sumL_mono {L : List Fr} : ∀ (b a : Nat), a ≤ b → b ≤ L.length → sumL (L.take a) ≤ sumL (L.take b)
  | 0, a, h, _ => by
    have : a = 0 := by omega
    rw [this]; exact Rat.le_refl
  | b + 1, a, h, hb => by
    by_cases e : a = b + 1
    · rw [e]; exact Rat.le_refl
    · have I := sumL_mono (L := L) b a (by omega) (by omega)
      rw [sumL_take (by omega)]
      have := o1n_nn (frAt L b)
      grind
theorem sumO_way {L : List Fr} (h : FsOk L) : ∀ (n : Nat) (i : Int), -1 ≤ i → i < (L.length : Int) → i < n → sumO L (way L i) ≤ sumL (L.take (i + 1).toNat)
  | n, i, h0, hl, hn => by
    by_cases e : i < 0
    · have : way L i = [] := by show wayF L 17 i = []; unfold wayF; rw [if_pos e]
      rw [this]
      exact sumL_nn _
    · obtain ⟨m, rfl⟩ : ∃ m : Nat, i = m := ⟨i.toNat, by omega⟩
      have hm : m < L.length := by omega
      have k := (h.ok m hm).up1
      have k0 := (h.ok m hm).up0
      cases n with
      | zero => omega
      | succ n =>
        have I := sumO_way h n _ k0 (by omega) (by omega)
        rw [way_step h hm]
        have e1 : ((m : Int) + 1).toNat = m + 1 := by omega
        rw [e1, sumL_take hm]
        have I2 := sumL_mono (L := L) m ((frAt L m).up + 1).toNat (by omega) (by omega)
        show o1n (frAt L m) + sumO L (way L (frAt L m).up) ≤ _
        grind
theorem poly_R {u s Y n : Rat} (u0 : 0 ≤ u) (u1 : 1000000 * u ≤ 1) (s0 : 0 ≤ s) (S0 : 0 ≤ Y) (n1 : n ≤ 16) : Y + n * (130 * (u * (2 * Y + 4000 * s)) + 9 * s) ≤ 2 * Y + 4000 * s := by
  have R0 : 0 ≤ 2 * Y + 4000 * s := by grind
  have a := Rat.mul_nonneg (show 0 ≤ 16 - n by grind) (show 0 ≤ 130 * (u * (2 * Y + 4000 * s)) + 9 * s by have := Rat.mul_nonneg u0 R0; grind)
  have b := Rat.mul_nonneg R0 (show 0 ≤ 1 - 1000000 * u by grind)
  have e : u * (2 * Y + 4000 * s) = (2 * Y + 4000 * s) * u := by grind
  generalize hR : 2 * Y + 4000 * s = R at *
  rw [e] at a ⊢
  have e2 : R * (1 - 1000000 * u) = R - 1000000 * (R * u) := by grind
  rw [e2] at b
  generalize R * u = x at *
  grind
theorem sz3_posF (v : V3) : 0 ≤ sz3 v := Rat.add_nonneg (Rat.add_nonneg (mag_le _).2.2 (mag_le _).2.2) (mag_le _).2.2
theorem root_w {L : List Fr} {d : Nat} : ∀ (js : List Nat) (v : V3), (∀ j ∈ js, FrA (frAt L j) d) → W3 v → W3 (rootF L d js v).1
  | [], _, _, hv => hv
  | j :: js, v, hF, hv => by
    have F := hF j (List.mem_cons_self ..)
    have A := ans_up F.w F.a hv (f := frAt L j) (d := d)
    unfold rootF
    by_cases c : (upR (frAt L j) d v).2 = 0
    · rw [if_pos c]; exact root_w js _ (fun k hk => hF k (List.mem_cons_of_mem _ hk)) A.w
    · rw [if_neg c]; exact A.w
theorem sc_low {L : List Fr} {v : V3} (hl : L.length ≤ 16) (hO : ∀ f ∈ L, OgOk f) (D : D3 v) : Wd (scF L (szW v)) 822 1200 ∧ 0 ≤ Q (scF L (szW v)) ∧ (1 - 70 * uR) * (sz3 v + sumL L) ≤ Q (scF L (szW v)) := by
  obtain ⟨-, -, W0, B⟩ := sz_wd D
  have u0 := uR0
  have u1 : 1000000 * uR ≤ 1 := by decide +kernel
  have z0 := sz3_posF v
  have t0 := sumL_nn L
  have B0 : 0 ≤ Q (szW v) := Rat.le_trans (Rat.mul_nonneg (by decide +kernel) z0) B
  obtain ⟨W, I⟩ := sc_wd L (szW v) 1140 hO W0 (Nat.le_refl _) (by omega) B0 (by omega)
  have n0 : (0 : Rat) ≤ (L.length : Rat) := Rat.natCast_nonneg
  have n1 : (L.length : Rat) ≤ 16 := by exact_mod_cast hl
  have key : (1 - 70 * uR) * (sz3 v + sumL L) ≤ Q (scF L (szW v)) := by
    refine Rat.le_trans ?_ I
    generalize Q (szW v) = s at *
    generalize sz3 v = z at *
    generalize sumL L = t at *
    generalize (L.length : Rat) = n at *
    generalize uR = u at *
    clear I W W0 D hO hl
    have a := Rat.mul_nonneg (Rat.mul_nonneg (show 0 ≤ 16 - n by grind) u0) (show 0 ≤ s + t by grind)
    have b := Rat.mul_le_mul_of_nonneg_left B (show 0 ≤ 1 - 64 * u by grind)
    have c := Rat.mul_nonneg u0 z0
    have d := Rat.mul_nonneg u0 t0
    have e := Rat.mul_nonneg u0 c
    grind
  refine ⟨W.le (by omega) (by omega), ?_, key⟩
  exact Rat.le_trans (Rat.mul_nonneg (by decide +kernel) (Rat.add_nonneg z0 t0)) key
theorem rootw_any {L : List Fr} {i : Int} {d : Nat} {v : V3} (hW : FsW L) (hd : d < 18446744073709551616) (hv : W3 v) : W3 (rootR L i d v).1 := by
  unfold rootR
  by_cases c : readyF L i (witB g24 d) = 0
  · rw [if_pos c]
    obtain ⟨c0, i1, i2, tt⟩ := readyF_zero c
    have ok := FsOk.of hW c0
    have WL := way_lt ok L.length i i2 i2
    by_cases e : (addR v z3).2 = 0
    · rw [if_pos e]
      refine root_w (way L i) _ (fun j hj => ?_) (ans_add hv z3_w).w
      have hl := (WL j hj).1
      have k := ok.ok j hl
      exact ⟨ok.fw hl, k.ax0, k.ax1, ang_a (ok.fw hl) hd k.ph k.rt tt⟩
    · rw [if_neg e]; exact (ans_add hv z3_w).w
  · rw [if_neg c]; exact z3_w
end Go.Proofs.YtgblpibanagcgaaGreat
