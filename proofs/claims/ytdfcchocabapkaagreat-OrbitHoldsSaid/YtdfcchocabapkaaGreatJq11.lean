/- Proved here: what the texts Obz, Oca, Ocb prove, one behind the other. -/
import Derived.Test.YtdfcchocabapkaaGreatJq10
import Derived.Test.YtdfcchocabapkaaGreatJo1
import Derived.Test.YtdfcchocabapkaaGreatJy13

set_option maxRecDepth 100000
namespace Go.Proofs.YtdfcchocabapkaaGreat
open Go.ChangeShapes Go.WideShapes Go.ChangeAt Go.RowKit Ieee.Own Pol Fma

theorem lowW_le11 (x : Nat) : V (lowW x) ≤ V x := by
 have n : V 12929834530180694016 = -leastV := by decide +kernel
 have z := V_zero
 unfold lowW
 split
 · rename_i h; rw [z]; exact h.1
 · split
   · rename_i h; rw [n]; omega
   · exact Int.le_refl _
theorem highW_ge11 (x : Nat) : V x ≤ V (highW x) := by
 have n : V 3706462493325918208 = leastV := by decide +kernel
 have z := V_zero
 unfold highW
 split
 · rename_i h; rw [z]; exact h.1
 · split
   · rename_i h; rw [n]; omega
   · exact Int.le_refl _
theorem low_nn {x : Nat} (h : 0 ≤ V x) : 0 ≤ V (lowW x) := by
 have z := V_zero
 unfold lowW
 split
 · rw [z]; exact Int.le_refl _
 · rw [if_neg (by omega)]; exact h
theorem told_lo {er : Int} {cs ds : List (Int → Int)} {x y : Nat} (h : OpAll er cs ds (.returned (spanE x y 0))) (h0 : er = 0) (hc : ∀ c ∈ cs, 0 ≤ c 0) : 0 ≤ V x := by
 obtain ⟨lo, hi, e, d, u⟩ := h.1 h0
 have a := d.top 0 zero_fin (fun c hcs => by rw [V_zero]; exact hc c hcs)
 rw [V_zero] at a
 have e' : toldE lo hi = spanE x y 0 := (Ending.returned.inj e).symm
 unfold toldE at e'
 split at e'
 · obtain ⟨-, -, k⟩ := spanE_inj e'
   exact absurd k (by decide)
 · obtain ⟨rfl, -, -⟩ := spanE_inj e'
   exact low_nn a
theorem sq_Q_le {x y : Nat} (h : V x * V x ≤ V y * 2 ^ 1074) : Q x * Q x ≤ Q y := by
 have u := unit_pos
 have uu : 0 < unit * unit := Rat.mul_pos u u
 have c := Rat.intCast_le_intCast.2 h
 rw [Rat.intCast_mul, Rat.intCast_mul, ← unit_int, ← Q_unit, ← Q_unit] at c
 have e : Q x * unit * (Q x * unit) = Q x * Q x * (unit * unit) := by grind
 have f : Q y * unit * unit = Q y * (unit * unit) := by grind
 rw [e, f] at c
 exact Rat.not_lt.1 fun h => Rat.not_lt.2 c ((Rat.mul_lt_mul_right uu).2 h)
theorem sq_Q_ge {x y : Nat} (h : V y * 2 ^ 1074 ≤ V x * V x) : Q y ≤ Q x * Q x := by
 have u := unit_pos
 have uu : 0 < unit * unit := Rat.mul_pos u u
 have c := Rat.intCast_le_intCast.2 h
 rw [Rat.intCast_mul, Rat.intCast_mul, ← unit_int, ← Q_unit, ← Q_unit] at c
 have e : Q x * unit * (Q x * unit) = Q x * Q x * (unit * unit) := by grind
 have f : Q y * unit * unit = Q y * (unit * unit) := by grind
 rw [e, f] at c
 exact Rat.not_lt.1 fun h => Rat.not_lt.2 c ((Rat.mul_lt_mul_right uu).2 h)
theorem pw_nn {x : Int} {n : Nat} (h : 0 ≤ x) (k : x ≤ 2 ^ n) : x.natAbs ≤ 2 ^ n := by
 have e := pw_abs n
 omega
theorem sn_of {R : Pr} {m : Nat} (w : W2 R) (ok : errS R.1 R.2 = 0) (a : 0 ≤ V R.1) (b : V R.1 ≤ V R.2) (c : V R.2 ≤ 2 ^ (1074 + m)) : Sn R m := ⟨w.l1, w.l2, ok, pw_nn a (Int.le_trans b c), pw_nn (Int.le_trans a b) c⟩
theorem abs_cap {e k : Nat} {c : Int} (hc : c ≤ 2 ^ (1074 + k)) (z : 0 ≤ V e) (l : V e ≤ c) : (V e).natAbs ≤ 2 ^ (1074 + k) := pw_nn z (Int.le_trans l hc)
theorem pow_12 (P : Int) (n : Nat) (h : P = 2 ^ n) (v : Int) (hv : v ≤ 4 * P) : v * P - 4 * P * (4 * P) ≤ 0 := by
 have p : 0 ≤ P := by rw [h]; exact Int.pow_nonneg (by omega)
 have a := Int.mul_le_mul_of_nonneg_right hv p
 have b := Int.mul_nonneg p p
 have e : 4 * P * (4 * P) = 16 * (P * P) := by grind
 have f : 4 * P * P = 4 * (P * P) := by grind
 rw [e]
 rw [f] at a
 omega
theorem root_step11 {p : Pr} (hp : Sn p 2) (h0 : 0 ≤ V p.1) : ∃ R, RootR p R 0 ∧ Sn R 2 ∧ 0 ≤ V R.1 ∧ 0 ≤ V R.2 ∧ Q R.1 * Q R.1 ≤ Q p.1 ∧ Q p.2 ≤ Q R.2 * Q R.2 := by
 obtain ⟨R, k, H⟩ := root_ex hp.w2
 have e0 : errR p.1 p.2 = 0 := by
  unfold errR
  rw [if_neg (by rw [hp.ok]; decide), if_neg (by omega)]
 have P4 : (2 : Int) ^ (1074 + 2) = 4 * 2 ^ 1074 := by rw [Int.pow_add]; omega
 have pn : (0 : Int) < 2 ^ 1074 := Int.pow_pos (by omega)
 have vb := pw_cast hp.bd.2
 rw [P4] at vb
 obtain ⟨rfl, b1, b2⟩ := told_fit7 (m := 2) H.all e0 (by omega)
  (by
   intro c hc
   rw [List.mem_singleton.1 hc, P4]
   unfold rootC
   rw [if_pos (by omega)]
   decide)
  (by
   intro c hc
   rw [List.mem_singleton.1 hc, P4]
   unfold rootC
   rw [if_neg (by omega)]
   exact pow_12 _ 1074 rfl _ vb.2)
 have F := H.facts
 obtain ⟨-, -, le⟩ := errS_zero F.en
 obtain ⟨lo, hi, d, u, e1, e2⟩ := F.ends
 have c0 : 0 ≤ rootC p.1 0 := by
  unfold rootC
  rw [if_neg (by omega), Int.mul_zero, Int.sub_zero]
  exact Int.mul_nonneg h0 (Int.le_of_lt pn)
 have l0 : 0 ≤ V lo := by
  have := d.top 0 zero_fin (by rw [V_zero]; exact c0)
  rwa [V_zero] at this
 have r1 : 0 ≤ V R.1 := by rw [e1]; exact low_nn l0
 have r1' : V R.1 ≤ V lo := by rw [e1]; exact lowW_le11 lo
 have r2 : V hi ≤ V R.2 := by rw [e2]; exact highW_ge11 hi
 obtain ⟨h1, h2⟩ := rootC_hi u.ge
 have s1 : V R.1 * V R.1 ≤ V p.1 * 2 ^ 1074 := by
  rcases rootC_lo d.le with q | q
  · omega
  · exact Int.le_trans (Int.mul_le_mul r1' r1' r1 l0) q
 have s2 : V p.2 * 2 ^ 1074 ≤ V R.2 * V R.2 := Int.le_trans h2 (Int.mul_le_mul r2 r2 h1 (by omega))
 exact ⟨R, H, sn_of (m := 2) F.w F.en r1 le b2, r1, by omega, sq_Q_le s1, sq_Q_ge s2⟩
structure RooR (e : Nat) (Qs D R : Pr) : Prop where
 w1 : W2 Qs
 w2 : W2 D
 q : SqR (ptS7 e) Qs
 d : SubQ (ptS7 4607182418800017408) Qs D
 r : RootR D R 0
 sn : Sn R 2
 has : ∃ b, In b (ps R) ∧ mag (Q (rooW e) - b) ≤ 30 * uR
theorem near_root {u b l h w : Rat} (u0 : 0 ≤ u) (u1 : 1000 * u ≤ 1) (b0 : 0 ≤ b) (l0 : 0 ≤ l) (h0 : 0 ≤ h) (w0 : 15 / 64 ≤ w) (hb : mag (b * b - w) ≤ 6 * u) (hl : l * l ≤ w) (hh : w ≤ h * h) (lh : l ≤ h) : ∃ c, l ≤ c ∧ c ≤ h ∧ mag (b - c) ≤ 30 * u := by
 have a := mag_le (b * b - w)
 have q1 : 1 / 4 ≤ b := by
  refine Rat.not_lt.1 fun c => ?_
  have := Rat.mul_le_mul_of_nonneg_left (show b ≤ 1 / 4 by grind) b0
  grind
 by_cases k : l ≤ b
 · by_cases m : b ≤ h
   · refine ⟨b, k, m, ?_⟩
     have e : b - b = 0 := by grind
     rw [e]
     exact Rat.le_trans mag0 (by grind)
   · have m : h ≤ b := by grind
     have s1 := Rat.mul_le_mul_of_nonneg_left m h0
     have s2 := Rat.mul_le_mul_of_nonneg_right m b0
     refine ⟨h, lh, Rat.le_refl, ?_⟩
     have h4 : 1 / 4 ≤ h := by
        refine Rat.not_lt.1 fun c => ?_
        have := Rat.mul_le_mul_of_nonneg_left (show h ≤ 1 / 4 by grind) h0
        grind
     have := root_near q1 h4 hb (q := 6 * u) (mag_of (by grind) (by grind))
     grind
 · have k : b ≤ l := by grind
   have s1 := Rat.mul_le_mul_of_nonneg_left k b0
   have s2 := Rat.mul_le_mul_of_nonneg_right k l0
   refine ⟨l, Rat.le_refl, lh, ?_⟩
   have := root_near q1 (show 1 / 4 ≤ l by grind) hb (q := 6 * u) (mag_of (by grind) (by grind))
   grind
theorem roo_ex {e : Nat} (he : e < 18446744073709551616) (e1 : ecB e = true) : ∃ Qs D R, RooR e Qs D R := by
 obtain ⟨g, q0, q1⟩ := ecc_of he e1
 have be := btw_of he e1
 have z := be.2.2.1
 rw [V_zero] at z
 obtain ⟨eS, ep⟩ := pt_sn (k := 0) he (abs_cap (k := 0) (c := V ecHi) (by decide +kernel) z be.2.2.2) g
 have v1 : V 4607182418800017408 = 2 ^ (1074 + 0) := by decide +kernel
 obtain ⟨oS, op⟩ := pt_sn (x := 4607182418800017408) (k := 0) (by decide) (abs_cap (k := 0) (c := V 4607182418800017408) (by decide +kernel) (by decide +kernel) (Int.le_refl _)) (by decide +kernel)
 obtain ⟨Qs, qS, qR, qP⟩ := sq_step7 eS (by omega)
 have iq : In (Q e * Q e) (ps Qs) := by
  have : In (Q e) (ps (ptS7 e)) := by rw [ep]; exact ⟨Rat.le_refl, Rat.le_refl⟩
  exact this.sq qP
 obtain ⟨D, dS, dR, d1, d2⟩ := sub_step7 oS (qS.le (show 0 + 0 ≤ 0 by omega)) (by omega)
 have vo : V (ptS7 4607182418800017408).1 = 2 ^ (1074 + 0) := by
  have : V (posW 4607182418800017408) = V 4607182418800017408 := posW_V _
  rw [v1] at this
  exact this
 have D0 : 0 ≤ V D.1 := told_lo dR.all (errSS_of' oS.ok qS.ok) (by
  intro c hc
  rw [List.mem_singleton.1 hc, vo]
  have := (pw_cast qS.bd.2).2
  show 0 ≤ 2 ^ (1074 + 0) - V Qs.2 - 0
  have e : (2 : Int) ^ (1074 + (0 + 0)) = 2 ^ (1074 + 0) := rfl
  rw [e] at this
  omega)
 obtain ⟨R, rR, rS, r1, r2, s1, s2⟩ := root_step11 (dS.le (show 0 + 1 ≤ 2 by omega)) D0
 rw [op] at d1 d2
 have d1 : Q D.1 ≤ Q 4607182418800017408 - Q Qs.2 := d1
 have d2 : Q 4607182418800017408 - Q Qs.1 ≤ Q D.2 := d2
 have i1 : Q Qs.1 ≤ Q e * Q e := iq.1
 have i2 : Q e * Q e ≤ Q Qs.2 := iq.2
 have one : Q 4607182418800017408 = 1 := by decide +kernel
 rw [one] at d1 d2
 have RO := roo_of he g q0 q1
 have sq := RO.sq
 have ee := Rat.mul_le_mul_of_nonneg_left q1 q0
 obtain ⟨b, b1, b2, b3⟩ := near_root uR0 (by decide +kernel) RO.nn (Q_nn.2 r1) (Q_nn.2 r2) (w := 1 - Q e * Q e) (by grind) sq (by grind) (by grind) (Q_le.2 rS.fits.2.2)
 exact ⟨Qs, D, R, qS.w2, dS.w2, qR, dR, rR, rS, b, ⟨b1, b2⟩, b3⟩

def layQ (o : Ob) (p : R3) : R3 := rotQ 2 (SQ o.no) (CQ o.no) (rotQ 0 (SQ o.ti) (CQ o.ti) (rotQ 2 (SQ o.pe) (CQ o.pe) p))
theorem tu_pt {x : Nat} (hx : x < 18446744073709551616) (h : tuB x = true) : Sn (ptS7 x) 40 ∧ Ang x ∧ V (ptS7 x).1 ≤ V x ∧ V x ≤ V (ptS7 x).2 ∧ fitB x = true := by
 have W := tu_wd hx h
 have g := (btw_of hx h).2.1
 obtain ⟨S, -⟩ := pt_sn (k := 40) hx (up_m 40 W.abs (by omega)) g
 have v : V (posW x) = V x := posW_V x
 exact ⟨S, errA_ang hx (tu_ang hx h), Int.le_of_eq v, Int.le_of_eq v.symm, g⟩
def BoxH (o : Ob) (S C R : Pr) (P : B6) : Prop := ∀ s c b : Rat, In s (ps S) → In c (ps C) → In b (ps R) → InB (layQ o (Q o.ax * (c - Q o.ec), Q o.ax * b * s, 0)) P
theorem osquare_run {p u : Pr} (hp : W2 p) (R : SqR p u) (w : World) : Calls Tryz.prog 31 #[pv p] w fun e w' => e = .returned (pv u) ∧ Below w.heap.size w w' :=
 osquare_shape (Lib.hid (fun w => (ssquare_run p.1 p.2 hp.l1 hp.l2 w).mono fun e w' h => (⟨OpAll.uniq h.1 R, h.2⟩ : e = .returned (spanE u.1 u.2 0) ∧ Below w.heap.size w w'))) w
theorem oroot_run {p u : Pr} (hp : W2 p) (R : RootR p u 0) (w : World) : Calls Tryz.prog 29 #[pv p] w fun e w' => e = .returned (pv u) ∧ Below w.heap.size w w' :=
 oroot_shape (Lib.hid (fun w => (sroots_run p.1 p.2 hp.l1 hp.l2 w).mono fun e w' h => (⟨h.1.all.uniq R.all, h.2⟩ : e = .returned (spanE u.1 u.2 0) ∧ Below w.heap.size w w'))) w
theorem tbox_ex {o : Ob} {b : B6} (h : ObW o) (hO : ObOk o) (hb : Sn3 b 42) : ∃ P : B6, Sn3 P 45 ∧ (∀ p, InB p b → InB (layQ o p) P) ∧ ∀ w, Calls Tryz.prog 32 #[obV o, boxV b] w fun e w' => e = .returned (boxE P 0) ∧ Below w.heap.size w w' := by
 obtain ⟨p1, p2, p3, p4, p5⟩ := tu_pt h.pe hO.pe
 obtain ⟨t1, t2, t3, t4, t5⟩ := tu_pt h.ti hO.ti
 obtain ⟨n1, n2, n3, n4, n5⟩ := tu_pt h.no hO.no
 obtain ⟨P1, a1, b1, c1⟩ := boxturn11 (a := 2) (.inr rfl) p1 hb (by omega)
 obtain ⟨P2, a2, b2, c2⟩ := boxturn11 (a := 0) (.inl rfl) t1 a1 (by omega)
 obtain ⟨P3, a3, b3, c3⟩ := boxturn11 (a := 2) (.inr rfl) n1 a2 (by omega)
 refine ⟨P3, a3, fun p ip => b3 _ _ n2 n3 n4 (b2 _ _ t2 t3 t4 (b1 _ _ p2 p3 p4 ip)), fun w => ?_⟩
 exact otbox_shape (Lib.hid fun w => opoint_run h.pe p5 w) (Lib.hid c1) (Lib.hid fun w => opoint_run h.ti t5 w) (Lib.hid c2) (Lib.hid fun w => opoint_run h.no n5 w) (Lib.hid c3) w
theorem box_ex {o : Ob} {t : Pr} {Qs D R : Pr} (h : ObW o) (ht : W2 t) (hr : readyO o (timB t) = 0) (RR : RooR o.ec Qs D R) :
 ∃ M S C P, MnF o t M ∧ SnF o.ec M S C ∧ Sn3 P 45 ∧ BoxH o S C R P ∧ ∀ w, Calls Tryz.prog 9 #[obV o, pv t] w fun e w' => e = .returned (boxE P 0) ∧ Below w.heap.size w w' := by
 obtain ⟨mo, et⟩ := readyO_zero hr
 have hO := mayO_of mo
 obtain ⟨M, MF, CM⟩ := means_ex h hO ht et
 obtain ⟨N, hN, hS⟩ := MF.has
 have le := (tim_sn ht et).fits.2.2
 obtain ⟨S, C, SF, CS⟩ := sines_ex h.ec hO.ec MF.sn ⟨_, hN t.1 (Int.le_refl _) le, fun wd => hS wd t.1 (Int.le_refl _) le⟩
 have be := btw_of h.ec hO.ec
 have z := be.2.2.1
 rw [V_zero] at z
 obtain ⟨eS, ep⟩ := pt_sn (k := 0) h.ec (abs_cap (k := 0) (c := V ecHi) (by decide +kernel) z be.2.2.2) be.2.1
 have AX := axi_of h hO
 obtain ⟨aS, ap⟩ := pt_sn (k := 40) h.ax (up_m 40 AX.wd.abs (by omega)) AX.fit
 obtain ⟨F, fS, fR, f1, f2⟩ := sub_step7 (unit_sn SF.c) eS (by omega)
 obtain ⟨X, xS, xR, xP⟩ := mul_step7 aS fS (by omega)
 obtain ⟨G, gS, gR, gP⟩ := mul_step7 aS RR.sn (by omega)
 obtain ⟨Y, yS, yR, yP⟩ := mul_step7 gS (unit_sn SF.s) (by omega)
 have zS : Sn (0, 0) 42 := sn_zero.le (by omega)
 obtain ⟨P, pS, pH, CT⟩ := tbox_ex (b := (X, Y, (0, 0))) h hO ⟨xS.le (by omega), yS.le (by omega), zS⟩
 have CTm := fun w => ftimes_run ht w
 have CRd := fun w => oready_run h (timB t) w
 rw [hr] at CRd
 refine ⟨M, S, C, P, MF, SF, pS, fun s c b is ic ib => pH _ ⟨?_, ?_, ?_⟩, fun w => ?_⟩
 · have ie : In (Q o.ec) (ps (ptS7 o.ec)) := by rw [ep]; exact ⟨Rat.le_refl, Rat.le_refl⟩
   have ia : In (Q o.ax) (ps (ptS7 o.ax)) := by rw [ap]; exact ⟨Rat.le_refl, Rat.le_refl⟩
   exact ia.mul (ic.sub7 ie f1 f2) xP
 · have ia : In (Q o.ax) (ps (ptS7 o.ax)) := by rw [ap]; exact ⟨Rat.le_refl, Rat.le_refl⟩
   exact (ia.mul ib gP).mul is yP
 · have e0 : ps (0, 0) = (0, 0) := by show ((Q 0, Q 0) : Rat × Rat) = (0, 0); rw [Q0]
   show In 0 (ps (0, 0))
   rw [e0]; exact ⟨Rat.le_refl, Rat.le_refl⟩
 · exact obox_shape (Lib.hid CTm) (Lib.hid CRd) (Lib.hid CM) (Lib.hid CS) (Lib.hid fun w => opoint_run h.ax AX.fit w) (Lib.hid fun w => opoint_run h.ec be.2.1 w) (Lib.hid fun w => opoint_run (c := 4607182418800017408) (by decide) (by decide +kernel) w)
    (Lib.hid fun w => osquare_run eS.w2 RR.q w) (Lib.hid fun w => osub_run (p := ptS7 4607182418800017408) (by exact ⟨by decide +kernel, by decide +kernel⟩) RR.w1 RR.d w) (Lib.hid fun w => oroot_run RR.w2 RR.r w)
    (Lib.hid fun w => osub_run (unit_sn SF.c).w2 eS.w2 fR w) (Lib.hid fun w => omul_run aS.w2 fS.w2 xR w) (Lib.hid fun w => omul_run aS.w2 RR.sn.w2 gR w) (Lib.hid fun w => omul_run gS.w2 (unit_sn SF.s).w2 yR w) (Lib.hid CT) w

theorem unit_in {p : Pr} {x : Rat} (U : Unit1 p) (i : In x (ps p)) : -1 ≤ x ∧ x ≤ 1 :=
 ⟨Rat.le_trans (by rw [← none_Q]; exact Q_le.2 U.lo) i.1, Rat.le_trans i.2 (by rw [← one_Q]; exact Q_le.2 U.hi)⟩
theorem plc_ang {e : Nat} {p P : Pr} (h : Plc e p P) : Ang P.1 ∧ Ang P.2 := by
 obtain ⟨f1, f2, -⟩ := h.sn.fits
 exact ⟨errA_ang h.sn.w2.l1 (err_small (fit_fin h.sn.w2.l1 f1) f1 (abs_up (k := 1074 + 2) (l := 1114) h.sn.bd.1 (by omega))), errA_ang h.sn.w2.l2 (err_small (fit_fin h.sn.w2.l2 f2) f2 (abs_up (k := 1074 + 2) (l := 1114) h.sn.bd.2 (by omega)))⟩
end Go.Proofs.YtdfcchocabapkaaGreat
