/- Proved here: what the texts Ldk, Wvp, Wvq, Wvr prove, one behind the other. -/
import Derived.Test.YtgnofnjbmiepjaaJb2
import Derived.Test.YtgnofnjbmiepjaaJb1
import Derived.Test.YtgnofnjbmiepjaaJw6
import Derived.Test.YtgnofnjbmiepjaaJw7
import Derived.Laws.FloatBits
import Derived.Maps.AppendAt

namespace Go.Proofs.Ytgnofnjbmiepjaa
open Go.ChangeShapes Go.WideShapes Go.ChangeAt Go.RowKit Ieee.Own

set_option maxRecDepth 100000 in
theorem x34k (b : Nat) (w : World) : (callFunc 28 #[.float .f64 b]).run Try.prog w = .ok (.value (.int .u64 (b : Int))) w := x34 b w
theorem one_times : ∀ m, m < 41 → Ieee.double.mul 4607182418800017408 ((m + 1003) * 4503599627370496) = some ((m + 1003) * 4503599627370496) := by decide +kernel
theorem or_none : ∀ m, m < 41 → bits BinOp.or IntKind.u64 0 ((((m + 1003 : Nat) : Int)) * 4503599627370496) = (((m + 1003 : Nat) : Int)) * 4503599627370496 := by decide +kernel
set_option maxHeartbeats 1000000 in
set_option maxRecDepth 100000 in
theorem ldexp_k (k : Int) (h1 : -20 ≤ k) (h2 : k ≤ 20) (w : World) : Calls Try.prog 19 #[.float .f64 4607182418800017408, .int .i64 k] w fun e w' => e = .returned (.float .f64 ((k + 1023).toNat * 4503599627370496)) ∧ w = w' := by
  have A : ∀ w, Calls Try.prog 11 #[.float .f64 4607182418800017408] w fun e w' => e = .returned (.float .f64 4607182418800017408) ∧ w = w' := fun w => abs_any _ (by omega) w
  have e1 : (FloatKind.f64.format.order 4607182418800017408 0 == some Ordering.eq) = false := by decide +kernel
  have e2 : (FloatKind.f64.format.order 4607182418800017408 9218868437227405311 == some Ordering.gt) = false := by decide +kernel
  have e3 : (FloatKind.f64.format.order 4607182418800017408 4607182418800017408 != some Ordering.eq) = false := by decide +kernel
  have e4 : (FloatKind.f64.format.order 4607182418800017408 4503599627370496 == some Ordering.lt) = false := by decide +kernel
  have k1 : bits BinOp.and IntKind.i64 1023 2047 = 1023 := by decide +kernel
  have k2 : bits BinOp.andNot IntKind.u64 4607182418800017408 9218868437227405312 = 0 := by decide +kernel
  obtain ⟨m, hm, rfl⟩ : ∃ m : Nat, m < 41 ∧ k = (m : Int) - 20 := ⟨(k + 20).toNat, by omega, by omega⟩
  have k3 := or_none m hm
  have k4 := one_times m hm
  have e7 : ((m : Int) - 20 + 1023) = ((m + 1003 : Nat) : Int) := by omega
  rw [e7, Int.toNat_natCast]
  rw [← e7] at k3
  have e8 : (((m : Int) - 20 + 1023) * 4503599627370496).toNat = (m + 1003) * 4503599627370496 := by omega
  have e5 : ∀ t w, (binOp .mul t (.float .f64 4607182418800017408) (.float .f64 ((m + 1003) * 4503599627370496))).run Try.prog w = .ok (.float .f64 ((m + 1003) * 4503599627370496)) w := fun t w => run_mul _ _ _ k4 t w
  rw [← e8] at e5
  clear e7 k4 hm
  obtain ⟨k, hk⟩ : ∃ k, k = (m : Int) - 20 := ⟨_, rfl⟩
  rw [← hk] at h1 h2 k3 e5 e8 ⊢
  replace hk := Lib.hid hk
  replace e8 := Lib.hid e8
  go_enter Try.func19, Try.ntmps19
  go_wp2_with (first | (go_at_call 11; ((with_reducible refine (A _).mono ?_); rintro e w' ⟨rfl, rfl⟩)) | simp only [x34k, x40] | go_in)
  go_ret
  exact ⟨by rw [← e8.out]; rfl, rfl⟩
end Go.Proofs.Ytgnofnjbmiepjaa

namespace Go.Proofs.Ytgnofnjbmiepjaa
open Go.ChangeShapes Go.WideShapes Go.ChangeAt Go.RowKit Ieee.Own Pol

/-- what rounding passes by -/
def Pass (c : Int) : Prop := ∀ z, RN (z * c) = RN z * c
theorem pass_two (j : Nat) : Pass (2 ^ j) := fun z => RN_scale z j
theorem pass_neg : Pass (-1) := fun z => by rw [show z * -1 = -z by omega, RN_neg]; omega
theorem pass_one : Pass 1 := fun z => by rw [Int.mul_one, Int.mul_one]
/-- y times b is x times c -/
def Rl (b c x y : Int) : Prop := y * b = x * c
theorem Rl.rn {b c x y : Int} (hb : Pass b) (hc : Pass c) (h : Rl b c x y) : Rl b c (RN x) (RN y) := by
  unfold Rl at *
  rw [← hb, ← hc, h]
theorem Rl.add {b c x y u v : Int} (h : Rl b c x y) (k : Rl b c u v) : Rl b c (x + u) (y + v) := by
  unfold Rl at *
  rw [Int.add_mul, Int.add_mul, h, k]
theorem two_join {p q r k : Nat} (e : p + q = r + k) (m n : Int) : (2 ^ p * m) * (2 ^ q * n) = (2 ^ r * (m * n)) * 2 ^ k := by
  have := Int.pow_add 2 p q
  rw [e, Int.pow_add] at this
  calc (2 ^ p * m) * (2 ^ q * n) = (2 ^ p * 2 ^ q) * (m * n) := by simp only [Int.mul_assoc, Int.mul_left_comm m]
    _ = (2 ^ r * 2 ^ k) * (m * n) := by rw [this]
    _ = (2 ^ r * (m * n)) * 2 ^ k := by simp only [Int.mul_assoc, Int.mul_comm (2 ^ k)]
theorem rl_prod {x y u b c : Int} {p q r : Nat} (hb : Pass b) (hc : Pass c) (hx : (2 : Int) ^ p ∣ x) (hy : (2 : Int) ^ p ∣ y) (hu : (2 : Int) ^ q ∣ u) (e : p + q = r + 1074) (h : Rl b c x y) :
    Rl b c (RZ (x * u)) (RZ (y * u)) ∧ (2 : Int) ^ r ∣ RZ (x * u) ∧ (2 : Int) ^ r ∣ RZ (y * u) := by
  obtain ⟨m, rfl⟩ := hx
  obtain ⟨m', rfl⟩ := hy
  obtain ⟨n, rfl⟩ := hu
  rw [two_join e, two_join e, RZ_whole, RZ_whole]
  refine ⟨Rl.rn hb hc ?_, RN_dvd ⟨_, rfl⟩, RN_dvd ⟨_, rfl⟩⟩
  unfold Rl at *
  have t : (2 : Int) ^ p ≠ 0 := Int.ne_of_gt (Int.pow_pos (by omega))
  have k : m' * b = m * c := Int.eq_of_mul_eq_mul_left t (by rw [← Int.mul_assoc, h, Int.mul_assoc])
  calc 2 ^ r * (m' * n) * b = 2 ^ r * (m' * b) * n := by simp only [Int.mul_assoc, Int.mul_comm n]
    _ = 2 ^ r * (m * c) * n := by rw [k]
    _ = 2 ^ r * (m * n) * c := by simp only [Int.mul_assoc, Int.mul_comm n]
/-! ### days that are not small -/
def BigD (d : Nat) : Prop := V d = 0 ∨ 2 ^ 1034 ≤ (V d).natAbs
theorem cut16 {x z : Int} {n m : Nat} (e : n = m + 16) (h : x * 2 ^ 16 = z) (hz : 2 ^ n ≤ z.natAbs) : 2 ^ m ≤ x.natAbs := by
  subst e
  rw [← h, Int.natAbs_mul, Int.natAbs_pow, show (2 : Int).natAbs = 2 from rfl, Nat.pow_add] at hz
  exact Nat.le_of_mul_le_mul_right hz (Nat.two_pow_pos 16)
theorem dvd_of16 {x n m : Nat} {z : Int} (e : n = m + 53 + 16) (h : V x * 2 ^ 16 = z) (hz : 2 ^ n ≤ z.natAbs) : (2 : Int) ^ m ∣ V x := dvd_big (cut16 e h hz)
theorem dvd_age {d : Nat} (hd : d < 18446744073709551616) (t : witB g24 d = true) (h : BigD d) : (2 : Int) ^ 965 ∣ V (ageW d) := by
  have U := age_of hd t
  have v := U.v
  rcases h with h | h
  · rw [h] at v
    have : V (ageW d) = 0 := by
      rcases Int.mul_eq_zero.1 v with e | e
      · exact e
      · exact absurd e (by decide)
    rw [this]; exact Int.dvd_zero _
  · exact dvd_of16 (n := 1034) (by omega) v h
/-! ### heights -/
/-- g is f with an amplitude of its own -/
structure Sc (b c : Int) (f g : Wv) : Prop where
  ax : g.ax = f.ax
  pw : g.pw = f.pw
  ph : g.ph = f.ph
  rt : g.rt = f.rt
  am : Rl b c (V f.am) (V g.am)
theorem Sc.fr {b c : Int} {f g : Wv} (h : Sc b c f g) : g.fr = f.fr := by unfold Wv.fr; rw [h.ph, h.rt]
theorem hgt_rl {b c : Int} {f g : Wv} {d : Nat} (hb : Pass b) (hc : Pass c) (h : Sc b c f g) (F : WvOk f) (G : WvOk g) (hd : d < 18446744073709551616) (t : witB g24 d = true) (B : BigD d) : Rl b c (V (hgt f d)) (V (hgt g d)) := by
  have U := dvd_age hd t B
  have HF := hg_ok F hd t
  have HG := hg_ok G hd t
  have ec : cosW' g d = cosW' f d := by unfold cosW'; rw [h.fr]
  have C := cos_wd' (F.ang hd t)
  obtain ⟨a1, a2, a3⟩ := rl_prod (p := 822) (q := 768) (r := 516) hb hc F.amw.dvd G.amw.dvd C.dvd (by omega) h.am
  have v := HG.v
  rw [ec] at v
  rw [← HF.v, ← v] at a1
  rw [← HF.v] at a2
  rw [← v] at a3
  obtain ⟨-, sf1⟩ := HF.st 0 (by omega)
  obtain ⟨-, sf2⟩ := HF.st 1 (by omega)
  obtain ⟨-, sg1⟩ := HG.st 0 (by omega)
  obtain ⟨-, sg2⟩ := HG.st 1 (by omega)
  obtain ⟨b1, b2, b3⟩ := rl_prod (p := 516) (q := 965) (r := 407) hb hc (show (2 : Int) ^ 516 ∣ V (hg (ageW d) (amc f d) 0) from a2) (show (2 : Int) ^ 516 ∣ V (hg (ageW d) (amc g d) 0) from a3) U (by omega) a1
  rw [← sf1, ← sg1] at b1
  rw [← sf1] at b2
  rw [← sg1] at b3
  obtain ⟨c1, -, -⟩ := rl_prod (p := 407) (q := 965) (r := 298) hb hc b2 b3 U (by omega) b1
  rw [← sf2, ← sg2] at c1
  have p := F.pw.1
  unfold hgt
  rw [h.pw]
  have : f.pw.toNat = 0 ∨ f.pw.toNat = 1 ∨ f.pw.toNat = 2 := by omega
  rcases this with e | e | e
  · rw [e]; exact a1
  · rw [e]; exact b1
  · rw [e]; exact c1
/-! ### sums -/
def ScL (b c : Int) : List Wv → List Wv → Prop
  | [], [] => True
  | f :: L, g :: M => Sc b c f g ∧ ScL b c L M
  | _, _ => False
theorem ScL.len {b c : Int} : ∀ {L M : List Wv}, ScL b c L M → M.length = L.length
  | [], [], _ => rfl
  | _ :: _, _ :: _, h => by rw [List.length_cons, List.length_cons, ScL.len h.2]
structure RlV (b c : Int) (p q : V3) : Prop where
  x : Rl b c (V p.1) (V q.1)
  y : Rl b c (V p.2.1) (V q.2.1)
  z : Rl b c (V p.2.2) (V q.2.2)
theorem RlV.put {b c : Int} (hb : Pass b) (hc : Pass c) {p q : V3} {i x y : Nat} (h : RlV b c p q) (hi : i < 64) (P : Sm p i) (Q : Sm q i) (a : Int) (fx : FinW x) (bx : (V x).natAbs ≤ 2 ^ 1131) (fy : FinW y) (bY : (V y).natAbs ≤ 2 ^ 1131) (k : Rl b c (V x) (V y)) : RlV b c (putA p a x) (putA q a y) := by
  unfold putA
  by_cases h0 : a = 0
  · rw [if_pos h0, if_pos h0]
    obtain ⟨-, -, u, -⟩ := add_sm hi P.f1 P.b1 fx bx
    obtain ⟨-, -, v, -⟩ := add_sm hi Q.f1 Q.b1 fy bY
    refine ⟨?_, h.y, h.z⟩
    show Rl b c (V (aX p.1 x)) (V (aX q.1 y))
    rw [u, v]; exact (h.x.add k).rn hb hc
  · rw [if_neg h0, if_neg h0]
    by_cases h1 : a = 1
    · rw [if_pos h1, if_pos h1]
      obtain ⟨-, -, u, -⟩ := add_sm hi P.f2 P.b2 fx bx
      obtain ⟨-, -, v, -⟩ := add_sm hi Q.f2 Q.b2 fy bY
      refine ⟨h.x, ?_, h.z⟩
      show Rl b c (V (aX p.2.1 x)) (V (aX q.2.1 y))
      rw [u, v]; exact (h.y.add k).rn hb hc
    · rw [if_neg h1, if_neg h1]
      obtain ⟨-, -, u, -⟩ := add_sm hi P.f3 P.b3 fx bx
      obtain ⟨-, -, v, -⟩ := add_sm hi Q.f3 Q.b3 fy bY
      refine ⟨h.x, h.y, ?_⟩
      show Rl b c (V (aX p.2.2 x)) (V (aX q.2.2 y))
      rw [u, v]; exact (h.z.add k).rn hb hc
theorem sum_rl {b c : Int} (hb : Pass b) (hc : Pass c) {d : Nat} (hd : d < 18446744073709551616) (t : witB g24 d = true) (B : BigD d) : ∀ (L M : List Wv) (p q : V3) (i : Nat), ScL b c L M → (∀ f ∈ L, WvOk f) → (∀ f ∈ M, WvOk f) → i + L.length ≤ 64 → Sm p i → Sm q i → RlV b c p q → RlV b c (sumW d L p) (sumW d M q)
  | [], [], p, q, i, _, _, _, _, _, _, h => h
  | f :: L, g :: M, p, q, i, hs, hL, hM, hl, P, Q, h => by
    have F := hL f (List.mem_cons_self ..)
    have G := hM g (List.mem_cons_self ..)
    obtain ⟨fx, bx⟩ := hgt_fin F (hg_ok F hd t)
    obtain ⟨fy, bY⟩ := hgt_fin G (hg_ok G hd t)
    have hl' : i + 1 + L.length ≤ 64 := by rw [List.length_cons] at hl; omega
    have k := hgt_rl hb hc hs.1 F G hd t B
    have e := hs.1.ax
    have := h.put hb hc (by omega) P Q f.ax fx bx fy bY k
    refine sum_rl hb hc hd t B L M _ _ (i + 1) hs.2 (fun x hx => hL x (List.mem_cons_of_mem _ hx)) (fun x hx => hM x (List.mem_cons_of_mem _ hx)) hl' (P.put (by omega) f.ax fx bx) (Q.put (by omega) g.ax fy bY) ?_
    rw [e]; exact this
/-! ### the answers -/
theorem ngW_lt {a : Nat} (h : a < 18446744073709551616) : negW a < 18446744073709551616 := by unfold negW; split <;> omega
theorem ngW_mod {a : Nat} (h : a < 18446744073709551616) : negW a % 9223372036854775808 = a % 9223372036854775808 := by unfold negW; split <;> omega
theorem ngW_fin {a : Nat} (h : FinW a) : FinW (negW a) := ⟨ngW_lt h.1, by rw [ngW_mod h.1]; exact h.2⟩
def ngF (f : Wv) : Wv := ⟨f.ax, f.pw, negW f.am, f.ph, f.rt⟩
theorem ng_w {f : Wv} (h : WvW f) : WvW (ngF f) := ⟨ngW_lt h.am, h.ph, h.rt⟩
theorem ng_may {f : Wv} (h : WvW f) : mayW (ngF f) = mayW f := by
  have e : ∀ c, witB c (negW f.am) = witB c f.am := fun c => by unfold witB; rw [ngW_mod h.am, fitB_mag (ngW_mod h.am)]
  unfold mayW ngF
  dsimp only
  rw [e]
theorem ng_sc {f : Wv} (h : WvOk f) : Sc 1 (-1) f (ngF f) := by
  refine ⟨rfl, rfl, rfl, rfl, ?_⟩
  unfold Rl ngF
  dsimp only
  rw [negW_V h.amw.fin]; omega
theorem ng_scl : ∀ {L : List Wv}, (∀ f ∈ L, WvOk f) → ScL 1 (-1) L (L.map ngF)
  | [], _ => trivial
  | f :: _, h => ⟨ng_sc (h f (List.mem_cons_self ..)), ng_scl fun x hx => h x (List.mem_cons_of_mem _ hx)⟩
theorem ng_ws {L : List Wv} (h : WvsW L) : WvsW (L.map ngF) := fun f hf => by
  obtain ⟨g, hg, rfl⟩ := List.mem_map.1 hf
  exact ng_w (h g hg)
theorem ng_at {L : List Wv} {j : Nat} (h : j < L.length) : wvAt (L.map ngF) j = ngF (wvAt L j) := by
  unfold wvAt
  simp [List.getD, h]
theorem ng_chk {L : List Wv} (h : WvsW L) : chkV (L.map ngF) = chkV L := by
  have : goodV (L.map ngF) = goodV L := by
    rw [Bool.eq_iff_iff, goodV_iff, goodV_iff, List.length_map]
    constructor
    · intro k j hj
      have := k j hj
      rwa [ng_at hj, ng_may (h _ (wv_mem hj))] at this
    · intro k j hj
      rw [ng_at hj, ng_may (h _ (wv_mem hj))]
      exact k j hj
  unfold chkV
  rw [List.length_map, this]
theorem ng_ready {L : List Wv} (h : WvsW L) (t : Bool) : readyV (L.map ngF) t = readyV L t := by
  unfold readyV
  rw [ng_chk h]
theorem fit_Vw {x y : Nat} (hx : FinW x) (hy : FinW y) (h : V x = V y) : fitB x = fitB y := by
  rw [Bool.eq_iff_iff, fit_iff hx, fit_iff hy, h]
theorem fn_Vw {x y : Nat} (hx : FinW x) (hy : FinW y) (h : V x = V y) : V (fnW x) = V (fnW y) := by
  unfold fnW
  rw [fit_Vw hx hy h]
  by_cases c : fitB y = true
  · rw [if_pos c, if_pos c]; exact h
  · rw [if_neg c, if_neg c]
theorem fn_rl {x y : Nat} (fx : FinW x) (fy : FinW y) (h : Rl 1 (-1) (V x) (V y)) : V (fnW y) = -V (fnW x) := by
  have v : V (negW x) = V y := by
    unfold Rl at h
    rw [negW_V fx]; omega
  have e := fn_Vw fy (ngW_fin fx) v.symm
  rw [e]
  unfold fnW
  rw [show fitB (negW x) = fitB x from fitB_mag (ngW_mod fx.1)]
  by_cases f : fitB x = true
  · rw [if_pos f, if_pos f, negW_V fx]
  · rw [if_neg f, if_neg f, V_zero]; rfl
theorem ne_neg {x y : Nat} (fx : FinW x) (fy : FinW y) (h : V y = -V x) : (FloatKind.f64.format.order x (negW y) != some Ordering.eq) = false := by
  have e := eq_words fx (ngW_fin fy)
  rw [decide_eq_true (by rw [negW_V fy, h]; omega)] at e
  show (!(FloatKind.f64.format.order x (negW y) == some Ordering.eq)) = false
  rw [e]; rfl
/-- the sums of the waves negated -/
structure NgF (L : List Wv) (d : Nat) : Prop where
  e : (atV (L.map ngF) d).2 = (atV L d).2
  x : (FloatKind.f64.format.order (atV L d).1.1 (negW (atV (L.map ngF) d).1.1) != some Ordering.eq) = false
  y : (FloatKind.f64.format.order (atV L d).1.2.1 (negW (atV (L.map ngF) d).1.2.1) != some Ordering.eq) = false
  z : (FloatKind.f64.format.order (atV L d).1.2.2 (negW (atV (L.map ngF) d).1.2.2) != some Ordering.eq) = false
  w : W3 (atV (L.map ngF) d).1
theorem z3_w12 : W3 z3 := ⟨by decide, by decide, by decide⟩
theorem ng_all {L : List Wv} {d : Nat} (hW : WvsW L) (hd : d < 18446744073709551616) (B : FinW d → BigD d) : NgF L d := by
  have er := ng_ready hW (witB g24 d)
  by_cases hr : readyV L (witB g24 d) = 0
  · obtain ⟨c0, t⟩ := readyV_zero hr
    have hL := wvs_ok hW c0
    have hl := (chkV_zero c0).1
    have c0' : chkV (L.map ngF) = 0 := by rw [ng_chk hW, c0]
    have hL' := wvs_ok (ng_ws hW) c0'
    have hr' : readyV (L.map ngF) (witB g24 d) = 0 := by rw [er, hr]
    have fd := (wit_spec hd v24 t).1
    have S := sum_sm hd t L z3 0 hL (by omega) sm_zero
    have S' := sum_sm hd t (L.map ngF) z3 0 hL' (by rw [List.length_map]; omega) sm_zero
    have zr : Rl 1 (-1) (V 0) (V 0) := by unfold Rl; rw [V_zero]; omega
    have R := sum_rl pass_one pass_neg hd t (B fd) L (L.map ngF) z3 z3 0 (ng_scl hL) hL hL' (by omega) sm_zero sm_zero ⟨zr, zr, zr⟩
    have ea : atV L d = ((fnW (sumW d L z3).1, fnW (sumW d L z3).2.1, fnW (sumW d L z3).2.2), 0) := by unfold atV; rw [if_pos hr]
    have eb : atV (L.map ngF) d = ((fnW (sumW d (L.map ngF) z3).1, fnW (sumW d (L.map ngF) z3).2.1, fnW (sumW d (L.map ngF) z3).2.2), 0) := by unfold atV; rw [if_pos hr']
    rw [show NgF L d ↔ NgF L d from Iff.rfl]
    constructor <;> first | rw [ea, eb] | rw [eb]
    · exact ne_neg (fn_finW S.f1) (fn_finW S'.f1) (fn_rl S.f1 S'.f1 R.x)
    · exact ne_neg (fn_finW S.f2) (fn_finW S'.f2) (fn_rl S.f2 S'.f2 R.y)
    · exact ne_neg (fn_finW S.f3) (fn_finW S'.f3) (fn_rl S.f3 S'.f3 R.z)
    · exact ⟨(fn_finW S'.f1).1, (fn_finW S'.f2).1, (fn_finW S'.f3).1⟩
  · have ea : atV L d = (z3, readyV L (witB g24 d)) := by unfold atV; rw [if_neg hr]
    have eb : atV (L.map ngF) d = (z3, readyV L (witB g24 d)) := by unfold atV; rw [er, if_neg hr]
    have k : (FloatKind.f64.format.order 0 (negW 0) != some Ordering.eq) = false := by decide +kernel
    rw [show NgF L d ↔ NgF L d from Iff.rfl]
    constructor <;> first | rw [ea, eb] | rw [eb]
    · exact k
    · exact k
    · exact k
    · exact z3_w12
end Go.Proofs.Ytgnofnjbmiepjaa

namespace Go.Proofs.Ytgnofnjbmiepjaa
open Go.ChangeShapes Go.WideShapes Go.ChangeAt Go.RowKit Ieee.Own Pol

set_option maxRecDepth 100000 in
/-- any product: the word, if it has one, else some word that is drawn -/
theorem mulw_drawn (x y : Nat) (t : TypeId) (w : World) : ∃ r w1, (binOp .mul t (.float .f64 x) (.float .f64 y)).run Try.prog w = .ok (.float .f64 r) w1 ∧ Drawn w w1 ∧ r < 18446744073709551616 ∧ ∀ s, Ieee.double.mul x y = some s → r = s := by
  cases e : Ieee.double.mul x y with
  | some r => exact ⟨r, w, run_mul x y r e t w, Drawn.refl w, Ieee.Format.mul_lt Ieee.double e, fun s h => Option.some.inj h⟩
  | none =>
    have h : FloatKind.f64.format.mul x y = none := e
    refine ⟨Question.cut (.nanBits .f64 x y) (w.tape w.drawn (.nanBits .f64 x y)), w.drew, ?_, (Drawn.refl w).more 1, ?_, fun s h => by cases h⟩
    · simp [binOp, Op.floatArith, h, Question.forced]
    · show (_ % 2) * 2 ^ 63 + 0x7ff0000000000000 + 1 + (_ / 2) % (2 ^ 52 - 1) < 18446744073709551616
      omega
/-- a product that is exact -/
theorem timesV {a y i j k : Nat} {N : Int} (ha : FinW a) (hy : FinW y) (xa : (V a).natAbs ≤ 2 ^ i) (xy : (V y).natAbs ≤ 2 ^ j) (e : i + j = k + 1074) (hk : k < 2098) (hN : V a * V y = N * 2 ^ 1074) (hr : RN N = N) :
    ∃ r, Ieee.double.mul a y = some r ∧ FinW r ∧ V r = N := by
  obtain ⟨r, r1, r2, r3, -⟩ := mulB ha hy xa xy e hk
  refine ⟨r, r1, r2, ?_⟩
  rw [r3, hN, RZ_whole, hr]
def pwV (m : Nat) : Nat := (m + 1003) * 4503599627370496
theorem pwV_all : ∀ m, m < 41 → V (pwV m) = 2 ^ (1054 + m) ∧ (pwV m < 18446744073709551616 ∧ pwV m % 9223372036854775808 < 9218868437227405312) ∧ (V (pwV m)).natAbs ≤ 2 ^ 1094 := by decide +kernel
theorem powV_up (a b : Nat) : (2 : Int) ^ (a + b) = 2 ^ a * 2 ^ b := Int.pow_add ..
/-- a fit number times a power of two, exactly -/
theorem fit_times {c m : Nat} (fc : FinW c) (ft : fitB c = true) (bc : (V c).natAbs ≤ 2 ^ 1200) (hm : m < 41) : ∃ r, Ieee.double.mul c (pwV m) = some r ∧ FinW r ∧ Rl (2 ^ (20 - m)) (2 ^ (m - 20)) (V c) (V r) := by
  obtain ⟨v, f, b⟩ := pwV_all m hm
  unfold Rl
  by_cases h : 20 ≤ m
  · obtain ⟨r, r1, r2, r3⟩ := timesV (i := 1200) (j := 1094) (k := 1220) (N := V c * 2 ^ (m - 20)) fc f bc b (by omega) (by omega) (by
      rw [v, Int.mul_assoc (V c), ← powV_up, show m - 20 + 1074 = 1054 + m by omega]) (by rw [RN_scale, RN_exact (Rep_V c)])
    refine ⟨r, r1, r2, ?_⟩
    rw [show 20 - m = 0 by omega, r3, Int.pow_zero, Int.mul_one]
  · obtain ⟨q, hq⟩ := fit_822 fc.1 ft
    have key : q * 2 ^ (822 - (20 - m)) * 2 ^ (20 - m) = V c := by
      rw [hq, Int.mul_assoc, ← powV_up, show 822 - (20 - m) + (20 - m) = 822 by omega, Int.mul_comm]
    have ex : RN (q * 2 ^ (822 - (20 - m))) = q * 2 ^ (822 - (20 - m)) := by
      have t : (0 : Int) < 2 ^ (20 - m) := Int.pow_pos (by omega)
      have := RN_scale (q * 2 ^ (822 - (20 - m))) (20 - m)
      rw [key, RN_exact (Rep_V c), ← key] at this
      exact (Int.eq_of_mul_eq_mul_right (Int.ne_of_gt t) this).symm
    obtain ⟨r, r1, r2, r3⟩ := timesV (i := 1200) (j := 1094) (k := 1220) (N := q * 2 ^ (822 - (20 - m))) fc f bc b (by omega) (by omega) (by
      rw [v, ← key, Int.mul_assoc (q * 2 ^ (822 - (20 - m))), ← powV_up, show 20 - m + (1054 + m) = 1074 by omega]) ex
    refine ⟨r, r1, r2, ?_⟩
    rw [r3, key, show m - 20 = 0 by omega, Int.pow_zero, Int.mul_one]
/-! ### the law's scaled -/
set_option maxRecDepth 100000 in
theorem scaled_run {a b y r : Nat} (wa : a < 18446744073709551616) (wr : r < 18446744073709551616) (fa : fitB a = true) (hr : Ieee.double.mul a y = some r)
    (h : fitB r = false ∨ fitB r = true ∧ ((FloatKind.f64.format.order r 0 == some Ordering.eq) = true ∨ (FloatKind.f64.format.order r 0 == some Ordering.eq) = false ∧ (FloatKind.f64.format.order b r == some Ordering.eq) = true)) (w : World) :
    Calls Try.prog 20 #[.float .f64 a, .float .f64 b, .float .f64 y] w fun e w' => e = .returned (.bool true) ∧ w = w' := by
  have C1 := fun w => rfit_any r wr w
  have C2 := fun w => rfit_any a wa w
  have rm := run_mul _ _ _ hr
  rw [fa] at C2
  have heq := feq_run
  clear wa wr fa hr
  rcases h with h | ⟨h, h2 | ⟨h2, h3⟩⟩
  all_goals
    rw [h] at C1
    go_enter Try.func20, Try.ntmps20
    go_wp2_with (first | (go_at_call 39; ((with_reducible refine (C1 _).mono ?_); rintro e w' ⟨rfl, rfl⟩)) | (go_at_call 39; ((with_reducible refine (C2 _).mono ?_); rintro e w' ⟨rfl, rfl⟩)))
    go_ret
    exact ⟨rfl, rfl⟩
/-! ### the waves with more -/
/-- g is f with its amplitude times y, whatever that is -/
structure Mr (y : Nat) (f g : Wv) : Prop where
  ax : g.ax = f.ax
  pw : g.pw = f.pw
  ph : g.ph = f.ph
  rt : g.rt = f.rt
  lt : g.am < 18446744073709551616
  am : ∀ s, Ieee.double.mul f.am y = some s → g.am = s
def MrL (y : Nat) (L M : List Wv) : Prop := ∀ j, j < M.length → Mr y (wvAt L j) (wvAt M j)
theorem MrL.nil (y : Nat) (L : List Wv) : MrL y L [] := fun j hj => by simp at hj
theorem at_push {M : List Wv} {g : Wv} : wvAt (M ++ [g]) M.length = g := by unfold wvAt; simp [List.getD]
theorem at_push_lt {M : List Wv} {g : Wv} {j : Nat} (h : j < M.length) : wvAt (M ++ [g]) j = wvAt M j := by unfold wvAt; simp [List.getD, List.getElem?_append_left h]
theorem MrL.next {y : Nat} {L M : List Wv} {g : Wv} (h : MrL y L M) (k : Mr y (wvAt L M.length) g) : MrL y L (M ++ [g]) := fun j hj => by
  rw [List.length_append, List.length_singleton] at hj
  by_cases e : j = M.length
  · subst e; rw [at_push]; exact k
  · have hj' : j < M.length := by omega
    rw [at_push_lt hj']; exact h j hj'
theorem MrL.ws {y : Nat} {L M : List Wv} (h : MrL y L M) (hl : M.length = L.length) (hW : WvsW L) : WvsW M := fun g hg => by
  obtain ⟨j, hj, rfl⟩ := List.mem_iff_getElem.1 hg
  have k := h j hj
  have w := hW _ (wv_mem (L := L) (j := j) (by omega))
  have e : wvAt M j = M[j] := by unfold wvAt; simp [List.getD, hj]
  rw [e] at k
  exact ⟨k.lt, by rw [k.ph]; exact w.ph, by rw [k.rt]; exact w.rt⟩
theorem scl_of {b c : Int} : ∀ {L M : List Wv}, M.length = L.length → (∀ j, j < L.length → Sc b c (wvAt L j) (wvAt M j)) → ScL b c L M
  | [], [], _, _ => trivial
  | f :: L, g :: M, hl, h => by
    refine ⟨h 0 (by simp), scl_of (by simpa using hl) fun j hj => ?_⟩
    have := h (j + 1) (by simp; omega)
    unfold wvAt at this ⊢
    rwa [List.getD_cons_succ, List.getD_cons_succ] at this
  | [], _ :: _, hl, _ => by simp at hl
  | _ :: _, [], hl, _ => by simp at hl
theorem mr_sc {m : Nat} {f g : Wv} (hm : m < 41) (h : Mr (pwV m) f g) (F : WvOk f) : Sc (2 ^ (20 - m)) (2 ^ (m - 20)) f g := by
  have A := F.amw
  have fit := (wit_spec F.w.am v40 F.am).2.1
  obtain ⟨r, r1, -, r3⟩ := fit_times A.fin fit (abs_up (k := 1114) (l := 1200) A.abs (by omega)) hm
  exact ⟨h.ax, h.pw, h.ph, h.rt, by rw [h.am r r1]; exact r3⟩
theorem fnb_fit (x : Nat) : fitB (fnW x) = true := by
  unfold fnW
  by_cases c : fitB x = true
  · rw [if_pos c]; exact c
  · rw [if_neg c]; decide
theorem two_ne (k : Nat) : (2 : Int) ^ k ≠ 0 := Int.ne_of_gt (Int.pow_pos (by omega))
set_option maxRecDepth 100000 in
theorem scaled_of {s t m : Nat} (fs : FinW s) (ft : FinW t) (bs : (V s).natAbs ≤ 2 ^ 1200) (hm : m < 41) (h : Rl (2 ^ (20 - m)) (2 ^ (m - 20)) (V s) (V t)) (w : World) :
    Calls Try.prog 20 #[.float .f64 (fnW s), .float .f64 (fnW t), .float .f64 (pwV m)] w fun e w' => e = .returned (.bool true) ∧ w = w' := by
  have ff := fn_finW fs
  obtain ⟨r, r1, r2, r3⟩ := fit_times ff (fnb_fit s) (fn_absW (k := 1200) bs) hm
  refine scaled_run ff.1 r2.1 (fnb_fit s) r1 ?_ w
  by_cases c : fitB r = true
  · refine .inr ⟨c, ?_⟩
    have e0 := eq_words r2 zero_fin
    rw [V_zero] at e0
    by_cases z : V r = 0
    · exact .inl (by rw [e0]; exact decide_eq_true z)
    · refine .inr ⟨by rw [e0]; exact decide_eq_false z, ?_⟩
      have es : fitB s = true := by
        by_cases k : fitB s = true
        · exact k
        · exfalso
          unfold fnW at r3
          rw [if_neg k] at r3
          unfold Rl at r3
          rw [V_zero, Int.zero_mul] at r3
          exact (Int.mul_eq_zero.1 r3).elim z (two_ne _)
      have e1 : fnW s = s := if_pos es
      rw [e1] at r3
      have v : V r = V t := by
        unfold Rl at r3 h
        exact Int.eq_of_mul_eq_mul_right (two_ne _) (by rw [r3, h])
      have et : fitB t = true := by rw [← fit_Vw r2 ft v]; exact c
      have e2 : fnW t = t := if_pos et
      rw [e2, eq_words ft r2]
      exact decide_eq_true v.symm
  · rw [Bool.not_eq_true] at c; exact .inl c
/-- the sums of the waves with more -/
def MoF (L M : List Wv) (d y : Nat) : Prop :=
  (atV L d).2 ≠ 0 ∨ (atV M d).2 ≠ 0 ∨
    ((∀ w, Calls Try.prog 20 #[.float .f64 (atV L d).1.1, .float .f64 (atV M d).1.1, .float .f64 y] w fun e w' => e = .returned (.bool true) ∧ w = w') ∧
    (∀ w, Calls Try.prog 20 #[.float .f64 (atV L d).1.2.1, .float .f64 (atV M d).1.2.1, .float .f64 y] w fun e w' => e = .returned (.bool true) ∧ w = w') ∧
    (∀ w, Calls Try.prog 20 #[.float .f64 (atV L d).1.2.2, .float .f64 (atV M d).1.2.2, .float .f64 y] w fun e w' => e = .returned (.bool true) ∧ w = w'))
theorem atV_err {L : List Wv} {d : Nat} (h : readyV L (witB g24 d) ≠ 0) : (atV L d).2 ≠ 0 := by
  unfold atV; rw [if_neg h]; exact h
theorem mo_all {L M : List Wv} {d m : Nat} (hW : WvsW L) (hm : m < 41) (h : MrL (pwV m) L M) (hl : M.length = L.length) (hd : d < 18446744073709551616) (B : FinW d → BigD d) : MoF L M d (pwV m) := by
  by_cases hr : readyV L (witB g24 d) = 0
  · by_cases hr' : readyV M (witB g24 d) = 0
    · obtain ⟨c0, t⟩ := readyV_zero hr
      obtain ⟨c0', -⟩ := readyV_zero hr'
      have hL := wvs_ok hW c0
      have hL' := wvs_ok (h.ws hl hW) c0'
      have hn := (chkV_zero c0).1
      have fd := (wit_spec hd v24 t).1
      have S := sum_sm hd t L z3 0 hL (by omega) sm_zero
      have S' := sum_sm hd t M z3 0 hL' (by omega) sm_zero
      have zr : Rl (2 ^ (20 - m)) (2 ^ (m - 20)) (V 0) (V 0) := by unfold Rl; rw [V_zero, Int.zero_mul, Int.zero_mul]
      have R := sum_rl (pass_two _) (pass_two _) hd t (B fd) L M z3 z3 0 (scl_of hl fun j hj => mr_sc hm (h j (by omega)) (hL _ (wv_mem hj))) hL hL' (by omega) sm_zero sm_zero ⟨zr, zr, zr⟩
      have ea : atV L d = ((fnW (sumW d L z3).1, fnW (sumW d L z3).2.1, fnW (sumW d L z3).2.2), 0) := by unfold atV; rw [if_pos hr]
      have eb : atV M d = ((fnW (sumW d M z3).1, fnW (sumW d M z3).2.1, fnW (sumW d M z3).2.2), 0) := by unfold atV; rw [if_pos hr']
      refine .inr (.inr ?_)
      rw [ea, eb]
      exact ⟨scaled_of S.f1 S'.f1 (abs_up (l := 1200) S.b1 (by omega)) hm R.x, scaled_of S.f2 S'.f2 (abs_up (l := 1200) S.b2 (by omega)) hm R.y, scaled_of S.f3 S'.f3 (abs_up (l := 1200) S.b3 (by omega)) hm R.z⟩
    · exact .inr (.inl (atV_err hr'))
  · exact .inl (atV_err hr)
/-! ### days -/
theorem bigD_zero {x : Nat} (h : (FloatKind.f64.format.order x 0 == some Ordering.eq) = true) (fx : FinW x) : BigD x := by
  left
  have e := eq_words fx zero_fin
  rw [h] at e
  have := of_decide_eq_true e.symm
  rw [this, V_zero]
theorem ge_big {v : Int} {k : Nat} (h : (2 : Int) ^ k ≤ (v.natAbs : Int)) : 2 ^ k ≤ v.natAbs := by
  have : ((2 ^ k : Nat) : Int) = 2 ^ k := by rw [Int.natCast_pow]; rfl
  omega
theorem bigD_big {x : Nat} (h : (FloatKind.f64.format.order (x % 9223372036854775808) 4427038433705197568 == some Ordering.gt || FloatKind.f64.format.order (x % 9223372036854775808) 4427038433705197568 == some Ordering.eq) = true) (fx : FinW x) : BigD x := by
  right
  obtain ⟨fa, va⟩ := abs_word fx
  have e := ge_words fa (show FinW 4427038433705197568 from ⟨by omega, by omega⟩)
  rw [h] at e
  have := of_decide_eq_true e.symm
  have v : V 4427038433705197568 = 2 ^ 1034 := by decide +kernel
  rw [v, va] at this
  exact ge_big (k := 1034) this
end Go.Proofs.Ytgnofnjbmiepjaa

namespace Go.Proofs.Ytgnofnjbmiepjaa
open Go.ChangeShapes Go.WideShapes Go.ChangeAt Go.RowKit Ieee.Own

set_option maxRecDepth 100000 in
/-- one more record appended, which lies in a block of its own; what else stays -/
theorem wpList_pushR2 {w0 w : World} {base : Nat} {ops : Array Oper} {rest : List Oper} {o : Oper} {a : Act} {Q : Exit → Act → World → Prop} {t e : TypeId} {m bytes : Nat} {z : Value} (T : RecT t e m bytes z) (hgd : o.guard = none) (s x : Operand)
    (ho : o.op = .call { callee := .builtin .append, args := #[s, x], argTypes := #[t, t] }) (v : Value) (R : List (List Value)) (hs : a.eval s = v)
    (hown : OwnR e m base w0 R v w) (r : List Value) (hr : r.length = m) (h1 : ∀ u ∈ r, u.oneCell' = true) (hx : a.eval x = .slice (some ⟨w.heap.size, 0, none⟩) 1 1) (hl : (R.length + 1) * bytes ≤ 140737488355328) (hmax : R.length + 1 ≤ maxLen)
    (h : ∀ v' w', OwnR e m base w0 (R ++ [r]) v' w' → (w.alloc (.cells r.toArray e)).grownBy w' v.ownBlock → (v'.ownBlock = v.ownBlock ∨ v'.ownBlock = some (w.heap.size + 1)) → wpList Try.prog ops Q rest (a.put o.dst v') w') :
    wpList Try.prog ops Q (o :: rest) a (w.alloc (.cells r.toArray e)) := by
  obtain ⟨i0, hi0, hz0, hz1, hz2⟩ := info_ofR T.info
  have hb := (Below.refl w.heap.size w).alloc (Nat.le_refl _) (.cells r.toArray e)
  have ho2 := hown.grow hb
  refine wpList_append_own_at (w := w.alloc (.cells r.toArray e)) hgd s x t ho base e i0 z m bytes T.te hi0 hz0 hz1 hz2 T.zs T.pos v R.length _ hs ho2.own ⟨w.heap.size, 0, none⟩ 1 1 r hx (by rw [hr, Nat.one_mul]) ?_ h1 hmax hl ho2.size ?_
  · intro j u hj
    rw [ad_plainR, World.cell?_alloc_at _ _ _ _ rfl, Nat.zero_add]
    simpa using hj
  · intro v' w' h1' h2 _ h4
    refine h v' w' ⟨ho2.old.grown h2 ho2.size ?_, ?_, Nat.le_trans ho2.size h2.size, ?_⟩ h2 (by simpa using h4)
    · intro k hk
      rcases ho2.own.2 with ⟨hv, _⟩ | ⟨g, cap, cur, hv, hg, _⟩
      · rw [hv] at hk; simp [Value.ownBlock] at hk
      · rw [hv] at hk
        simp only [Value.ownBlock, Option.some.injEq] at hk
        rw [← hk]; exact hg
    · rw [List.length_append, List.flatten_append]
      simpa using h1'
    · refine ⟨fun q hq => ?_, fun q hq => ?_⟩
      · rcases List.mem_append.1 hq with hq | hq
        · exact hown.ok.len q hq
        · rw [List.mem_singleton.1 hq]; exact hr
      · rcases List.mem_append.1 hq with hq | hq
        · exact hown.ok.one q hq
        · rw [List.mem_singleton.1 hq]; exact h1
theorem BV.grown {w w' : World} {g : Nat} {us : List Value} {row : Option Nat} (b : BV w g us) (h : w.grownBy w' row) (hne : row ≠ some g) : BV w' g us := by
  have e := h.block g b.lt (fun k => hne k.symm)
  exact ⟨Nat.lt_of_lt_of_le b.lt h.size, fun i u k => (World.cell?_of_block (a := ⟨g, i, none⟩) e).trans (b.at_ i u k), fun i u k => (World.frozen?_of_block (a := ⟨g, i, none⟩) e).trans (b.fr i u k)⟩
theorem OwnR.kept {e : TypeId} {m base : Nat} {w w1 w2 : World} {R : List (List Value)} {v : Value} {row : Option Nat} (h : OwnR e m base w R v w1) (hg : w1.grownBy w2 row) (hr : ∀ k, row = some k → base ≤ k) (hne : v.ownBlock = none ∨ v.ownBlock ≠ row) : OwnR e m base w R v w2 :=
  ⟨h.old.grown hg h.size hr, h.own.kept hg hne, Nat.le_trans h.size hg.size, h.ok⟩
theorem OwnR.lt {e : TypeId} {m base : Nat} {w w1 : World} {R : List (List Value)} {v : Value} (h : OwnR e m base w R v w1) : ∀ k, v.ownBlock = some k → base ≤ k ∧ k < w1.heap.size := h.own.lt
theorem grown_set (w : World) (g k : Nat) (x : Value) : w.grownBy (w.setCell ⟨g, k, none⟩ x) (some g) := by
  refine ⟨?_, ?_, ?_, by simp, fun j hj hne => heap_setCell_other w ⟨g, k, none⟩ j x (fun e => hne (by rw [e]))⟩ <;> (unfold World.setCell; split <;> rfl)
/-- two lists of the call's own, apart -/
structure Twv (base : Nat) (w0 : World) (A B : List Wv) (va vb : Value) (w : World) : Prop where
  a : OwnV base w0 A va w
  b : OwnV base w0 B vb w
  ne : ∀ k, va.ownBlock = some k → vb.ownBlock ≠ some k
theorem Twv.grow {base : Nat} {w0 w w' : World} {A B : List Wv} {va vb : Value} (h : Twv base w0 A B va vb w) (hb : Below w.heap.size w w') : Twv base w0 A B va vb w' := ⟨h.a.grow hb, h.b.grow hb, h.ne⟩
theorem Twv.drawn {base : Nat} {w0 w w' : World} {A B : List Wv} {va vb : Value} (h : Twv base w0 A B va vb w) (d : Drawn w w') : Twv base w0 A B va vb w' := h.grow (Drawn.below d _)
theorem Twv.out {base : Nat} {w0 w : World} {A B : List Wv} {va vb : Value} (h : Twv base w0 A B va vb w) {g : Nat} (hg : w.heap.size ≤ g) : va.ownBlock ≠ some g ∧ vb.ownBlock ≠ some g :=
  ⟨fun e => by have := (h.a.lt g e).2; omega, fun e => by have := (h.b.lt g e).2; omega⟩
theorem Twv.set {base : Nat} {w0 w : World} {A B : List Wv} {va vb : Value} (h : Twv base w0 A B va vb w) {g : Nat} (k : Nat) (x : Value) (hg : base ≤ g) (h1 : va.ownBlock ≠ some g) (h2 : vb.ownBlock ≠ some g) : Twv base w0 A B va vb (w.setCell ⟨g, k, none⟩ x) :=
  ⟨h.a.kept (grown_set w g k x) (fun j e => by cases e; exact hg) (.inr h1), h.b.kept (grown_set w g k x) (fun j e => by cases e; exact hg) (.inr h2), h.ne⟩
theorem Twv.start (w : World) : Twv w.heap.size w [] [] (.slice none 0 0) (.slice none 0 0) w := ⟨OwnR.nil _ _ w, OwnR.nil _ _ w, fun k h => by simp [Value.ownBlock] at h⟩
theorem wvc_map {M : List Wv} {g : Wv} : (M ++ [g]).map wvC = M.map wvC ++ [wvC g] := by simp
set_option maxRecDepth 100000 in
/-- the first grows -/
theorem wpList_two_a {w0 w : World} {base : Nat} {ops : Array Oper} {rest : List Oper} {o : Oper} {a : Act} {Q : Exit → Act → World → Prop} (hgd : o.guard = none) (s x : Operand)
    (ho : o.op = .call { callee := .builtin .append, args := #[s, x], argTypes := #[22, 22] }) (A B : List Wv) (va vb : Value) (hs : a.eval s = va) (N : Twv base w0 A B va vb w) (f : Wv)
    (hx : a.eval x = .slice (some ⟨w.heap.size, 0, none⟩) 1 1) (hl : (A.length + 1) * 40 ≤ 140737488355328) (g : Nat) (us : List Value) (hb : BV w g us) (h1 : va.ownBlock ≠ some g)
    (h : ∀ v' w', Twv base w0 (A ++ [f]) B v' vb w' → BV w' g us → v'.ownBlock ≠ some g → wpList Try.prog ops Q rest (a.put o.dst v') w') :
    wpList Try.prog ops Q (o :: rest) a (w.alloc (.cells (wvC f).toArray 49)) := by
  refine wpList_pushR2 recW hgd s x ho va (A.map wvC) hs N.a (wvC f) rfl ?_ hx (by rw [List.length_map]; exact hl) (by rw [List.length_map]; unfold maxLen; omega) ?_
  · intro u hu
    simp only [wvC, List.mem_cons, List.not_mem_nil, or_false] at hu
    rcases hu with rfl | rfl | rfl | rfl | rfl <;> rfl
  · intro v' w' h2 h3 h4
    have hn := N.grow ((Below.refl w.heap.size w).alloc (Nat.le_refl _) (.cells (wvC f).toArray 49))
    have hb' : BV (w.alloc (.cells (wvC f).toArray 49)) g us := hb.on ((Below.refl w.heap.size w).alloc (Nat.le_refl _) _)
    refine h v' w' ⟨?_, ?_, fun k hk hk2 => ?_⟩ (hb'.grown h3 h1) ?_
    · unfold OwnV; rw [wvc_map]; exact h2
    · refine hn.b.kept h3 (fun k e => (N.a.lt k e).1) ?_
      cases e : vb.ownBlock with
      | none => exact .inl rfl
      | some k => exact .inr fun q => N.ne k q.symm e
    · have := (N.b.lt k hk2).2
      rcases h4 with h4 | h4
      · exact N.ne k (by rw [← h4]; exact hk) hk2
      · rw [h4] at hk; cases hk; omega
    · rcases h4 with h4 | h4
      · rw [h4]; exact h1
      · rw [h4]; intro e; cases e; have := hb.lt; omega
set_option maxRecDepth 100000 in
/-- the second grows -/
theorem wpList_two_b {w0 w : World} {base : Nat} {ops : Array Oper} {rest : List Oper} {o : Oper} {a : Act} {Q : Exit → Act → World → Prop} (hgd : o.guard = none) (s x : Operand)
    (ho : o.op = .call { callee := .builtin .append, args := #[s, x], argTypes := #[22, 22] }) (A B : List Wv) (va vb : Value) (hs : a.eval s = vb) (N : Twv base w0 A B va vb w) (f : Wv)
    (hx : a.eval x = .slice (some ⟨w.heap.size, 0, none⟩) 1 1) (hl : (B.length + 1) * 40 ≤ 140737488355328)
    (h : ∀ v' w', Twv base w0 A (B ++ [f]) va v' w' → wpList Try.prog ops Q rest (a.put o.dst v') w') :
    wpList Try.prog ops Q (o :: rest) a (w.alloc (.cells (wvC f).toArray 49)) := by
  refine wpList_pushR2 recW hgd s x ho vb (B.map wvC) hs N.b (wvC f) rfl ?_ hx (by rw [List.length_map]; exact hl) (by rw [List.length_map]; unfold maxLen; omega) ?_
  · intro u hu
    simp only [wvC, List.mem_cons, List.not_mem_nil, or_false] at hu
    rcases hu with rfl | rfl | rfl | rfl | rfl <;> rfl
  · intro v' w' h2 h3 h4
    have hn := N.grow ((Below.refl w.heap.size w).alloc (Nat.le_refl _) (.cells (wvC f).toArray 49))
    refine h v' w' ⟨?_, ?_, fun k hk hk2 => ?_⟩
    · refine hn.a.kept h3 (fun k e => (N.b.lt k e).1) ?_
      cases e : va.ownBlock with
      | none => exact .inl rfl
      | some k => exact .inr fun q => N.ne k e q.symm
    · unfold OwnV; rw [wvc_map]; exact h2
    · have := (N.a.lt k hk).2
      rcases h4 with h4 | h4
      · exact N.ne k hk (by rw [← h4]; exact hk2)
      · rw [h4] at hk2; cases hk2; omega
end Go.Proofs.Ytgnofnjbmiepjaa
