/- Proved here: what the texts Frq prove, one behind the other. -/
import Derived.Test.YtgblpibanagcgaaGreatJy11
import Derived.Test.YtgblpibanagcgaaGreatJy2
import Derived.Test.YtgblpibanagcgaaGreatJx7
import Derived.Test.YtgblpibanagcgaaGreatJx1
import Derived.Test.YtgblpibanagcgaaGreatJx9

namespace Go.Proofs.YtgblpibanagcgaaGreat
open Go.ChangeShapes Go.WideShapes Go.ChangeAt Go.RowKit Ieee.Own Pol Fma

theorem rz_shiftF (n k : Nat) (hk : k = 1074) : rz (n * 2 ^ k) = rn n := by
  by_cases h : n = 0
  · subst h; rw [Nat.zero_mul, rz_zero, rn_zero]
  · have hl : (n * 2 ^ k).log2 = n.log2 + k := log2_shift n k h
    have hd : dz (n * 2 ^ k) = dr n + k := by unfold dz dr; rw [hl]; omega
    unfold rz rn
    rw [hd, rne_scale, ← hk, Nat.add_sub_cancel]
theorem RZ_wholeF {N : Int} : RZ (N * 2 ^ 1074) = RN N := by
  have key := rz_shiftF N.natAbs 1074 rfl
  unfold RZ Ieee.Own.RN
  rw [Int.natAbs_mul, Int.natAbs_pow, show (2 : Int).natAbs = 2 from rfl, key]
  have hp : (0 : Int) < 2 ^ 1074 := Int.pow_pos (by omega)
  have i : N * 2 ^ 1074 < 0 ↔ N < 0 := by
    generalize (2 : Int) ^ 1074 = T at *
    constructor
    · intro h
      refine Int.not_le.1 fun c => ?_
      have := Int.mul_nonneg c (Int.le_of_lt hp)
      omega
    · intro h; exact Int.mul_neg_of_neg_of_pos h hp
  by_cases c : N < 0
  · rw [if_pos c, if_pos (i.2 c)]
  · rw [if_neg c, if_neg (fun h => c (i.1 h))]
theorem pow_tw {p q r s : Nat} (h : p + q = r + s) : (2 : Int) ^ p * 2 ^ q = 2 ^ r * 2 ^ s := by rw [← Int.pow_add, h, Int.pow_add]
theorem mX_N {a b : Nat} (ha : Wd a 822 1100) (hb : Wd b 822 1100) (hm : V (mX a b) = RZ (V a * V b)) : ∃ N : Int, V a * V b = N * 2 ^ 1074 ∧ V (mX a b) = RN N := by
  obtain ⟨c, hc⟩ := ha.dvd
  obtain ⟨d, hd⟩ := hb.dvd
  have e : V a * V b = (2 ^ 570 * (c * d)) * 2 ^ 1074 := by
    rw [hc, hd]
    have : (2 : Int) ^ 822 * c * (2 ^ 822 * d) = 2 ^ 822 * 2 ^ 822 * (c * d) := by
      generalize (2 : Int) ^ 822 = p
      grind
    rw [this, pow_tw (p := 822) (q := 822) (r := 570) (s := 1074) rfl]
    generalize (2 : Int) ^ 570 = p
    generalize (2 : Int) ^ 1074 = q
    grind
  exact ⟨_, e, by rw [hm, e]; exact RZ_wholeF⟩
/-- the product, as a fraction -/
theorem prod_Q {a b : Nat} {N : Int} (h : V a * V b = N * 2 ^ 1074) : Q a * Q b = (N : Rat) / unit := by
  have u := unit_pos
  have e1 := Q_unit a
  have e2 := Q_unit b
  have k : (Q a * Q b) * unit * unit = (N : Rat) * unit := by
    have : (Q a * Q b) * unit * unit = (Q a * unit) * (Q b * unit) := by grind
    rw [this, e1, e2, ← Rat.intCast_mul, h, Rat.intCast_mul, unit_int]
  have un : unit ≠ 0 := by grind
  rw [Rat.div_def]
  generalize hc : (Q a * Q b) * unit = c at k
  have k2 : c = (N : Rat) := by
    have : c * unit * unit⁻¹ = (N : Rat) * unit * unit⁻¹ := by rw [k]
    rw [Rat.mul_assoc, Rat.mul_inv_cancel _ un, Rat.mul_one, Rat.mul_assoc, Rat.mul_inv_cancel _ un, Rat.mul_one] at this
    exact this
  rw [← k2, ← hc, Rat.mul_assoc, Rat.mul_inv_cancel _ un, Rat.mul_one]
theorem int_div_le {a b : Int} : (a : Rat) / unit ≤ (b : Rat) / unit ↔ a ≤ b := by
  constructor
  · intro h
    have := Rat.mul_le_mul_of_nonneg_right h (Rat.le_of_lt unit_pos)
    rw [mul_unit, mul_unit] at this
    exact Rat.intCast_le_intCast.1 this
  · intro h; exact div_le (Rat.intCast_le_intCast.2 h)
/-- a rounded product or sum lies where the exact one does, between words -/
theorem between_mul {a b lo hi : Nat} (ha : Wd a 822 1100) (hb : Wd b 822 1100) (hm : V (mX a b) = RZ (V a * V b)) (h : In (Q a * Q b) (sp lo hi)) : V lo ≤ V (mX a b) ∧ V (mX a b) ≤ V hi := by
  obtain ⟨N, e1, e2⟩ := mX_N ha hb hm
  obtain ⟨h1, h2⟩ := h
  rw [prod_Q e1] at h1 h2
  have k1 : V lo ≤ N := int_div_le.1 h1
  have k2 : N ≤ V hi := int_div_le.1 h2
  rw [e2]
  constructor
  · rw [← RN_exact (Rep_V lo)]; exact RN_mono k1
  · rw [← RN_exact (Rep_V hi)]; exact RN_mono k2
theorem between_add {a b lo hi x : Nat} (hx : V x = RN (V a + V b)) (h : In (Q a + Q b) (sp lo hi)) : V lo ≤ V x ∧ V x ≤ V hi := by
  obtain ⟨h1, h2⟩ := h
  rw [Q_sum] at h1 h2
  have k1 : V lo ≤ V a + V b := int_div_le.1 h1
  have k2 : V a + V b ≤ V hi := int_div_le.1 h2
  rw [hx]
  constructor
  · rw [← RN_exact (Rep_V lo)]; exact RN_mono k1
  · rw [← RN_exact (Rep_V hi)]; exact RN_mono k2
theorem fit_big {x : Nat} (hx : FinW x) (f : fitB x = true) : V x = 0 ∨ 2 ^ 874 ≤ (V x).natAbs := by
  unfold fitB at f
  rw [decide_eq_true_eq] at f
  rcases f with h | ⟨h, -⟩
  · exact .inl ((V_zero_iff hx).2 h)
  · right
    rw [V_abs' x hx]
    have e : val 52 3706462493325918208 = 2 ^ 874 := by decide +kernel
    rw [← e]
    by_cases q : x % 9223372036854775808 = 3706462493325918208
    · rw [q]; exact Nat.le_refl _
    · exact Nat.le_of_lt (val_lt (by omega))
theorem unfit_small {x : Nat} (hx : FinW x) (f : fitB x = false) (b : (V x).natAbs ≤ 2 ^ 1110) : (V x).natAbs < 2 ^ 874 := by
  unfold fitB at f
  rw [decide_eq_false_iff_not] at f
  rw [V_abs' x hx] at b ⊢
  have e : val 52 3706462493325918208 = 2 ^ 874 := by decide +kernel
  have e2 : val 52 5507902344274116608 = 2 ^ 1274 := by decide +kernel
  by_cases q : x % 9223372036854775808 < 3706462493325918208
  · rw [← e]; exact val_lt q
  · exfalso
    have q2 : 5507902344274116608 < x % 9223372036854775808 := by omega
    have := val_lt (F := 52) q2
    rw [e2] at this
    exact absurd (Nat.lt_of_lt_of_le this (Nat.le_trans b (two_le (a := 1110) (b := 1274) (by omega)))) (Nat.lt_irrefl _)
theorem zero_between {l h a : Int} {T : Nat} (hl : l = 0 ∨ T ≤ l.natAbs) (hh : h = 0 ∨ T ≤ h.natAbs) (ha : a.natAbs < T) (h1 : l ≤ a) (h2 : a ≤ h) : l ≤ 0 ∧ 0 ≤ h := by omega
/-! ### the angles -/
theorem sn_pt {x k : Nat} (hx : x < 18446744073709551616) (W : Wd x 822 (1074 + k)) (f : fitB x = true) : Sn (x, x) k ∧ ps (x, x) = (Q x, Q x) :=
  ⟨⟨hx, hx, errS_self7 f, W.abs, W.abs⟩, rfl⟩
structure AngS (f : Fr) (t A : Pr) : Prop where
  sn : Sn A 40
  has : ∀ d, d < 18446744073709551616 → witB g24 d = true → V t.1 ≤ V d → V d ≤ V t.2 → V A.1 ≤ V (angW f d) ∧ V (angW f d) ≤ V A.2
theorem tim_sn {t : Pr} (h : W2 t) (e : timB t = true) : Sn t 24 := by
  unfold timB at e
  simp only [Bool.and_eq_true, decide_eq_true_eq] at e
  obtain ⟨⟨e1, e2⟩, e3⟩ := e
  have A := wit_wd h.l1 v24 e2
  have B := wit_wd h.l2 v24 e3
  have A2 := A.le (q := 822) (l := 1074 + 24) (Nat.le_refl _) (by omega)
  have B2 := B.le (q := 822) (l := 1074 + 24) (Nat.le_refl _) (by omega)
  exact ⟨h.l1, h.l2, e1, A2.abs, B2.abs⟩
set_option maxHeartbeats 4000000 in
set_option maxRecDepth 100000 in
theorem fangles_run {f : Fr} {t : Pr} (wf : FrW f) (h1 : witB g10 f.ph = true) (h2 : witB g10 f.rt = true) (ht : W2 t) (et : timB t = true) : ∃ A : Pr, AngS f t A ∧
    ∀ w, Calls Tryz.prog 41 #[frV f, pv t] w fun e w' => e = .returned (.tuple #[pv A, .int .i64 0]) ∧ Below w.heap.size w w' := by
  have T := tim_sn ht et
  have W1 := wit_wd wf.ph v10 h1
  have W2' := wit_wd wf.rt v10 h2
  obtain ⟨S1, e1⟩ := sn_pt (k := 10) wf.ph W1 (wit_spec wf.ph v10 h1).2.1
  obtain ⟨S2, e2⟩ := sn_pt (k := 10) wf.rt W2' (wit_spec wf.rt v10 h2).2.1
  obtain ⟨m, nm, rm, km⟩ := mul_step7 S2 T (by omega)
  obtain ⟨A, nA, rA, kA⟩ := add_step7 (m := 34) (S1.le (by omega)) (nm.le (by omega)) (by omega)
  refine ⟨A, ⟨nA.le (by omega), fun d hd td l1 l2 => ?_⟩, fun w => ?_⟩
  · have AA := ang_a wf hd h1 h2 td
    have W3 := wit_wd hd v24 td
    have i1 : In (Q f.rt * Q d) (ps m) := In.mul (A := ps (f.rt, f.rt)) (B := ps t) (by rw [e2]; exact ⟨Rat.le_refl, Rat.le_refl⟩) ⟨Q_le.2 l1, Q_le.2 l2⟩ km
    have b1 := between_mul (lo := m.1) (hi := m.2) (W2'.le (by omega) (by omega)) (W3.le (by omega) (by omega)) AA.vm i1
    have i2 : In (Q f.ph + Q (mX f.rt d)) (ps A) := In.add (A := ps (f.ph, f.ph)) (B := ps m) (by rw [e1]; exact ⟨Rat.le_refl, Rat.le_refl⟩) ⟨Q_le.2 b1.1, Q_le.2 b1.2⟩ kA
    have b2 := between_add (lo := A.1) (hi := A.2) AA.va i2
    unfold angW
    by_cases c : fitB (angA f d) = true
    · rw [if_pos c]; exact b2
    · rw [if_neg c]
      obtain ⟨g1, g2, -⟩ := nA.fits
      have s := unfit_small AA.fin (Bool.eq_false_iff.2 c) AA.abs
      have z : V (0 : Nat) = 0 := V_zero
      rw [z]
      exact zero_between (fit_big (fit_fin nA.l1 g1) g1) (fit_big (fit_fin nA.l2 g2) g2) s b2.1 b2.2
  · have CM := fun w => (smul_run f.rt f.rt t.1 t.2 wf.rt wf.rt ht.l1 ht.l2 w).mono fun (e : Ending) (w' : World) h => (⟨OpAll.uniq h.1 rm, h.2⟩ : e = .returned (spanE m.1 m.2 0) ∧ Below w.heap.size w w')
    have CA := fun w => (sadd_run f.ph f.ph m.1 m.2 wf.ph wf.ph nm.l1 nm.l2 w).mono fun (e : Ending) (w' : World) h => (⟨h.1.all.uniq rA.all, h.2⟩ : e = .returned (spanE A.1 A.2 0) ∧ Below w.heap.size w w')
    exact fangles_ok (Lib.hid CM) (Lib.hid CA) w
/-! ### boxes that hold -/
def InB (p : R3) (b : B6) : Prop := In p.1 (ps b.1) ∧ In p.2.1 (ps b.2.1) ∧ In p.2.2 (ps b.2.2)
/-- the true sine and cosine of a word -/
def SQ (x : Nat) : Rat := Ply.sq (kq eig (V x)) (Ply.tau * ((rq eig (V x) : Rat) / unit))
def CQ (x : Nat) : Rat := Ply.sq (kq eig (V x) + 1) (Ply.tau * ((rq eig (V x) : Rat) / unit))
theorem SQ_of {x r : Nat} (R : Rst x r) : SQ x = Ply.sq (kq eig (V x)) (Ply.tau * Q r) ∧ CQ x = Ply.sq (kq eig (V x) + 1) (Ply.tau * Q r) := by
  unfold SQ CQ Q
  rw [R.v]
  exact ⟨rfl, rfl⟩
theorem rst_ex {x : Nat} (h : Ang x) : ∃ r, Rst x r := by
  obtain ⟨r, R, -⟩ := uquarter_run h
  exact ⟨r, R⟩
theorem pair8 {s c p q : Pr} (hs : Sn s 0) (hc : Sn c 0) (hp : Sn p 60) (hq : Sn q 60) :
    ∃ m1 m2 m3 m4 y1 y2, Pair7 s c p q m1 m2 m3 m4 y1 y2 ∧ Sn y1 62 ∧ Sn y2 62 ∧ ∀ {S C X Y : Rat}, In S (ps s) → In C (ps c) → In X (ps p) → In Y (ps q) → In (C * X - S * Y) (ps y1) ∧ In (S * X + C * Y) (ps y2) := by
  obtain ⟨m1, n1, r1, k1⟩ := mul_step7 hc hp (by omega)
  obtain ⟨m2, n2, r2, k2⟩ := mul_step7 hs hq (by omega)
  obtain ⟨m3, n3, r3, k3⟩ := mul_step7 hs hp (by omega)
  obtain ⟨m4, n4, r4, k4⟩ := mul_step7 hc hq (by omega)
  obtain ⟨y1, e1, q1, a1, a2⟩ := sub_step7 n1 n2 (by omega)
  obtain ⟨y2, e2, q2, a3⟩ := add_step7 n3 n4 (by omega)
  exact ⟨m1, m2, m3, m4, y1, y2, ⟨n1.w2, n2.w2, n3.w2, n4.w2, r1, r2, q1, r3, r4, q2⟩, e1.le (by omega), e2.le (by omega), fun is ic ip iq => ⟨(ic.mul ip k1).sub7 (is.mul iq k2) a1 a2, (is.mul ip k3).add (ic.mul iq k4) a3⟩⟩
theorem axis8 {p : Pr} (hp : Sn p 60) : ∃ u, AddR p (0, 0) u ∧ Sn u 62 ∧ ∀ {X : Rat}, In X (ps p) → In X (ps u) := by
  have z : Sn (0, 0) 60 := sn_zero.le (by omega)
  obtain ⟨u, e, r, k⟩ := add_step7 hp z (by omega)
  refine ⟨u, r, e.le (by omega), fun {X} ip => ?_⟩
  have i0 : In 0 (ps (0, 0)) := by
    have e0 : ps (0, 0) = (0, 0) := by show ((Q 0, Q 0) : Rat × Rat) = (0, 0); rw [Q0]
    rw [e0]; exact ⟨Rat.le_refl, Rat.le_refl⟩
  have t := ip.add i0 k
  have e1 : X + 0 = X := by grind
  rwa [e1] at t
structure Sn3 (b : B6) (k : Nat) : Prop where
  x : Sn b.1 k
  y : Sn b.2.1 k
  z : Sn b.2.2 k
set_option maxHeartbeats 4000000 in
set_option maxRecDepth 100000 in
theorem boxturn8 {a : Int} {A : Pr} {b : B6} (h0 : 0 ≤ a) (h1 : a ≤ 2) (hA : Sn A 40) (hb : W6 b) : ∃ (P : B6) (k : Int), W6 P ∧
    (k = 0 → Sn3 P 62 ∧ ∀ (x : Nat) (p : R3), Ang x → V A.1 ≤ V x → V x ≤ V A.2 → InB p b → InB (rotQ a (SQ x) (CQ x) p) P) ∧
    ∀ w, Calls Tryz.prog 42 #[.int .i64 a, pv A, boxV b] w fun e w' => e = .returned (boxE P k) ∧ Below w.heap.size w w' := by
  obtain ⟨u1, u2, k, SR, CS⟩ := uspans_run hA.l1 hA.l2
  have AX := fun w => vaxis_run a w
  rw [decide_eq_true ⟨h0, h1⟩] at AX
  by_cases hk : k = 0
  · subst hk
    have FB := fun w => vfitbox_run hb w
    by_cases fb : fitBx b = true
    · rw [fb] at FB
      have SB := fitBx_sn hb fb
      -- a word in the span, for the ends' bounds
      obtain ⟨e1, e2, e3⟩ := errT_zero SR.err.symm
      have A1 := errA_ang hA.l1 e2
      obtain ⟨s0, c0, T0, -⟩ := uboth_ok hA.l1 e2
      obtain ⟨r0, R0, -, -⟩ := T0.ex
      obtain ⟨-, -, le⟩ := hA.fits
      obtain ⟨U1, U2, -, -⟩ := spans_in A1 R0 SR (Int.le_refl _) le
      have trig : ∀ x, Ang x → V A.1 ≤ V x → V x ≤ V A.2 → In (SQ x) (ps u1) ∧ In (CQ x) (ps u2) := fun x AN l1 l2 => by
        obtain ⟨r, R⟩ := rst_ex AN
        obtain ⟨-, -, i1, i2⟩ := spans_in AN R SR l1 l2
        obtain ⟨q1, q2⟩ := SQ_of R
        rw [q1, q2]
        exact ⟨i1, i2⟩
      have : a = 0 ∨ a = 1 ∨ a = 2 := by omega
      rcases this with rfl | rfl | rfl
      · obtain ⟨m1, m2, m3, m4, y1, y2, PR, n1, n2, H⟩ := pair8 (unit_sn U1) (unit_sn U2) SB.y SB.z
        obtain ⟨u, ar, n3, H3⟩ := axis8 SB.x
        refine ⟨(u, y1, y2), 0, ⟨n3.w2, n1.w2, n2.w2⟩, fun _ => ⟨⟨n3, n1, n2⟩, fun x p AN l1 l2 ip => ?_⟩, ?_⟩
        · obtain ⟨i1, i2⟩ := trig x AN l1 l2
          have h := H i1 i2 ip.2.1 ip.2.2
          exact ⟨H3 ip.1, h.1, h.2⟩
        · have d1 := vmul7 (unit_sn U2).w2 hb.y PR.r1
          have d2 := vmul7 (unit_sn U1).w2 hb.z PR.r2
          have d3 := vsub7 PR.w1 PR.w2 PR.r3
          have d4 := vmul7 (unit_sn U1).w2 hb.y PR.r4
          have d5 := vmul7 (unit_sn U2).w2 hb.z PR.r5
          have d6 := vadd7 PR.w3 PR.w4 PR.r6
          have d7 := vadd7 hb.x zero_w2 ar
          exact fun w => vboxturn0 (Lib.hid AX) (Lib.hid CS) (Lib.hid FB) (Lib.hid d1) (Lib.hid d2) (Lib.hid d3) (Lib.hid d4) (Lib.hid d5) (Lib.hid d6) (Lib.hid d7) w
      · obtain ⟨m1, m2, m3, m4, y1, y2, PR, n1, n2, H⟩ := pair8 (unit_sn U1) (unit_sn U2) SB.z SB.x
        obtain ⟨u, ar, n3, H3⟩ := axis8 SB.y
        refine ⟨(y2, u, y1), 0, ⟨n2.w2, n3.w2, n1.w2⟩, fun _ => ⟨⟨n2, n3, n1⟩, fun x p AN l1 l2 ip => ?_⟩, ?_⟩
        · obtain ⟨i1, i2⟩ := trig x AN l1 l2
          have h := H i1 i2 ip.2.2 ip.1
          exact ⟨h.2, H3 ip.2.1, h.1⟩
        · have d1 := vmul7 (unit_sn U2).w2 hb.z PR.r1
          have d2 := vmul7 (unit_sn U1).w2 hb.x PR.r2
          have d3 := vsub7 PR.w1 PR.w2 PR.r3
          have d4 := vmul7 (unit_sn U1).w2 hb.z PR.r4
          have d5 := vmul7 (unit_sn U2).w2 hb.x PR.r5
          have d6 := vadd7 PR.w3 PR.w4 PR.r6
          have d7 := vadd7 hb.y zero_w2 ar
          exact fun w => vboxturn1 (Lib.hid AX) (Lib.hid CS) (Lib.hid FB) (Lib.hid d1) (Lib.hid d2) (Lib.hid d3) (Lib.hid d4) (Lib.hid d5) (Lib.hid d6) (Lib.hid d7) w
      · obtain ⟨m1, m2, m3, m4, y1, y2, PR, n1, n2, H⟩ := pair8 (unit_sn U1) (unit_sn U2) SB.x SB.y
        obtain ⟨u, ar, n3, H3⟩ := axis8 SB.z
        refine ⟨(y1, y2, u), 0, ⟨n1.w2, n2.w2, n3.w2⟩, fun _ => ⟨⟨n1, n2, n3⟩, fun x p AN l1 l2 ip => ?_⟩, ?_⟩
        · obtain ⟨i1, i2⟩ := trig x AN l1 l2
          have h := H i1 i2 ip.1 ip.2.1
          exact ⟨h.1, h.2, H3 ip.2.2⟩
        · have d1 := vmul7 (unit_sn U2).w2 hb.x PR.r1
          have d2 := vmul7 (unit_sn U1).w2 hb.y PR.r2
          have d3 := vsub7 PR.w1 PR.w2 PR.r3
          have d4 := vmul7 (unit_sn U1).w2 hb.x PR.r4
          have d5 := vmul7 (unit_sn U2).w2 hb.y PR.r5
          have d6 := vadd7 PR.w3 PR.w4 PR.r6
          have d7 := vadd7 hb.z zero_w2 ar
          exact fun w => vboxturn2 (Lib.hid AX) (Lib.hid CS) (Lib.hid FB) (Lib.hid d1) (Lib.hid d2) (Lib.hid d3) (Lib.hid d4) (Lib.hid d5) (Lib.hid d6) (Lib.hid d7) w
    · rw [Bool.eq_false_iff.2 fb] at FB
      exact ⟨z6, 3, z6_w, fun h => absurd h (by decide), fun w => vboxturn_nb (Lib.hid AX) (Lib.hid CS) (Lib.hid FB) w⟩
  · exact ⟨z6, k, z6_w, fun h => absurd h hk, fun w => vboxturn_nx (by simpa using hk) (Lib.hid AX) (Lib.hid CS) w⟩
set_option maxHeartbeats 4000000 in
set_option maxRecDepth 100000 in
theorem boxadd8 {a b : B6} (ha : W6 a) (hb : W6 b) : ∃ (P : B6) (k : Int), W6 P ∧ (k = 0 → Sn3 P 63 ∧ ∀ p q : R3, InB p a → InB q b → InB (addQ p q) P) ∧ ∀ w, Calls Tryz.prog 22 #[boxV a, boxV b] w fun e w' => e = .returned (boxE P k) ∧ Below w.heap.size w w' := by
  have C := fun w => vfitboxes_run ha hb w
  by_cases h : (fitBx a && fitBx b) = true
  · rw [h] at C
    simp only [Bool.and_eq_true] at h
    have S := fitBx_sn ha h.1
    have T := fitBx_sn hb h.2
    obtain ⟨x, n1, r1, k1⟩ := add_step7 S.x T.x (by omega)
    obtain ⟨y, n2, r2, k2⟩ := add_step7 S.y T.y (by omega)
    obtain ⟨z, n3, r3, k3⟩ := add_step7 S.z T.z (by omega)
    refine ⟨(x, y, z), 0, ⟨n1.w2, n2.w2, n3.w2⟩, fun _ => ⟨⟨n1.le (by omega), n2.le (by omega), n3.le (by omega)⟩, fun p q ip iq => ⟨ip.1.add iq.1 k1, ip.2.1.add iq.2.1 k2, ip.2.2.add iq.2.2 k3⟩⟩, fun w => ?_⟩
    exact vboxadd (Lib.hid fun w => vbyn_add (Lib.hid C) (Lib.hid (vadd7 ha.x hb.x r1)) (Lib.hid (vadd7 ha.y hb.y r2)) (Lib.hid (vadd7 ha.z hb.z r3)) w) w
  · rw [Bool.eq_false_iff.2 h] at C
    exact ⟨z6, 3, z6_w, fun h => absurd h (by decide), fun w => vboxadd (Lib.hid fun w => vbyn_add_no (Lib.hid C) w) w⟩
end Go.Proofs.YtgblpibanagcgaaGreat
