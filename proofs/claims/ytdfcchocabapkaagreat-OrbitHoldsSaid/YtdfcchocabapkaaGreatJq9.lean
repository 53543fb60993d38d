/- Proved here: what the texts Obv, Obw, Obx prove, one behind the other. -/
import Derived.Test.YtdfcchocabapkaaGreatJq8

set_option maxRecDepth 100000
set_option maxHeartbeats 4000000
namespace Go.Proofs.YtdfcchocabapkaaGreat
open Go.ChangeShapes Go.WideShapes Go.ChangeAt Go.RowKit Ieee.Own Pol

structure PtF (M : Pr) (L : List Pr) : Prop where
 len : L.length ≤ 3
 ok : ∀ p ∈ L, W2 p ∧ haB p.1 = true ∧ haB p.2 = true ∧ errS p.1 p.2 = 0
 has : ∀ (z : Rat) (j : Int), In z (ps M) → (j = -1 ∨ j = 0 ∨ j = 1) → -(1 / 2) ≤ z + (j : Rat) → z + (j : Rat) ≤ 1 / 2 → ∃ p ∈ L, In (z + (j : Rat)) (ps p)
theorem ha_Q : Q haLo = -(1 / 2) ∧ Q haHi = 1 / 2 := by decide +kernel
theorem part_ex {M : Pr} (S : Sn M 37) {c : Nat} {q : Rat} (hc : c < 18446744073709551616) (fc : fitB c = true) (vb : (V c).natAbs ≤ 2 ^ (1074 + 37)) (qc : Q c = q) :
 ∃ (d p : Pr) (b : Bool), (b = true → W2 p ∧ haB p.1 = true ∧ haB p.2 = true ∧ errS p.1 p.2 = 0) ∧ (∀ z, In z (ps M) → -(1 / 2) ≤ z + q → z + q ≤ 1 / 2 → b = true ∧ In (z + q) (ps p)) ∧
   (∀ w, Calls Tryz.prog 28 #[.float .f64 c] w fun e w' => e = .returned (pv (ptS7 c)) ∧ Below w.heap.size w w') ∧
   (∀ w, Calls Tryz.prog 67 #[pv M, pv (ptS7 c)] w fun e w' => e = .returned (pv d) ∧ Below w.heap.size w w') ∧
   ∀ w, Calls Tryz.prog 116 #[pv d, .agg #[.float .f64 13826050856027422720, .float .f64 4602678819172646912]] w fun e w' => e = .returned (.tuple #[pv p, .bool b, .int .i64 0]) ∧ Below w.heap.size w w' := by
 obtain ⟨cS, cp⟩ := pt_sn hc vb fc
 obtain ⟨d, dS, dR, dP⟩ := add_step7 S cS (by omega)
 have T : Sets d.1 d.2 haLo haHi := ⟨dS.w2.l1, dS.w2.l2, by decide, by decide, dS.ok, by decide +kernel⟩
 obtain ⟨f1, f2, -⟩ := errS_zero T.e0
 obtain ⟨f3, f4, -⟩ := errS_zero T.e1
 have mx := mxW_spec (fit_fin T.la0 f1) (fit_fin T.la1 f3)
 have mn := mnW_spec (fit_fin T.lb0 f2) (fit_fin T.lb1 f4)
 refine ⟨d, (meetX d.1 d.2 haLo haHi, meetY d.1 d.2 haLo haHi), meetB d.1 d.2 haLo haHi, fun h => ?_, fun z hz l u => ?_, fun w => opoint_run hc fc w, fun w => oadd_run S.w2 cS.w2 dR w, fun w => ?_⟩
 · obtain ⟨e1, e2, e0⟩ := T.meet_ok h
   have g := T.meet_lt
   have B : V (mxW d.1 haLo) ≤ V (mnW d.2 haHi) := of_decide_eq_true h
   obtain ⟨k1, k2, -⟩ := errS_zero e0
   have v1 : V (meetX d.1 d.2 haLo haHi) = V (mxW d.1 haLo) := by rw [e1, posW_V]
   have v2 : V (meetY d.1 d.2 haLo haHi) = V (mnW d.2 haHi) := by rw [e2, posW_V]
   refine ⟨⟨g.1, g.2⟩, ?_, ?_, e0⟩
   · unfold haB btwB
     dsimp only
     rw [k1, v1]
     simp only [Bool.true_and, Bool.and_eq_true, decide_eq_true_eq]
     exact ⟨mx.2.2, Int.le_trans B mn.2.2⟩
   · unfold haB btwB
     dsimp only
     rw [k2, v2]
     simp only [Bool.true_and, Bool.and_eq_true, decide_eq_true_eq]
     exact ⟨Int.le_trans mx.2.2 B, mn.2.2⟩
 · have ic : In q (ps (ptS7 c)) := by rw [cp, qc]; exact ⟨Rat.le_refl, Rat.le_refl⟩
   obtain ⟨i1, i2⟩ := hz.add ic dP
   have i1 : Q d.1 ≤ z + q := i1
   have i2 : z + q ≤ Q d.2 := i2
   have a1 : Q (mxW d.1 haLo) ≤ z + q := by
    rcases mx.1 with e | e <;> rw [e]
    · exact i1
    · rw [ha_Q.1]; exact l
   have a2 : z + q ≤ Q (mnW d.2 haHi) := by
    rcases mn.1 with e | e <;> rw [e]
    · exact i2
    · rw [ha_Q.2]; exact u
   have B : meetB d.1 d.2 haLo haHi = true := decide_eq_true (Q_le.1 (Rat.le_trans a1 a2))
   obtain ⟨e1, e2, e0⟩ := T.meet_ok B
   refine ⟨B, ?_, ?_⟩
   · show Q (meetX d.1 d.2 haLo haHi) ≤ _
     rw [e1, Q_congr (posW_V _)]; exact a1
   · show _ ≤ Q (meetY d.1 d.2 haLo haHi)
     rw [e2, Q_congr (posW_V _)]; exact a2
 · exact smeet_ok T.la0 T.lb0 T.la1 T.lb1 T.both w
theorem mem_oneIf {b : Bool} {p q : Pr} : q ∈ oneIf b p ↔ b = true ∧ q = p := by cases b <;> simp [oneIf]
theorem parts_ex {M : Pr} (S : Sn M 37) : ∃ L, PtF M L ∧ ∀ w, Calls Tryz.prog 64 #[pv M] w (PartsA L w) := by
 obtain ⟨d0, p0, b0, o0, h0, c0, a0, m0⟩ := part_ex S (c := 13830554455654793216) (q := -1) (by decide) (by decide +kernel) (up_m 37 (show (V 13830554455654793216).natAbs ≤ 2 ^ 1074 by decide +kernel) (by omega)) (by decide +kernel)
 obtain ⟨d1, p1, b1, o1, h1, c1, a1, m1⟩ := part_ex S (c := 0) (q := 0) (by decide) (by decide +kernel) (up_m 37 (show (V 0).natAbs ≤ 2 ^ 1074 by decide +kernel) (by omega)) (by decide +kernel)
 obtain ⟨d2, p2, b2, o2, h2, c2, a2, m2⟩ := part_ex S (c := 4607182418800017408) (q := 1) (by decide) (by decide +kernel) (up_m 37 (show (V 4607182418800017408).natAbs ≤ 2 ^ 1074 by decide +kernel) (by omega)) (by decide +kernel)
 refine ⟨oneIf b0 p0 ++ oneIf b1 p1 ++ oneIf b2 p2, ⟨?_, fun p hp => ?_, fun z j hz hj l u => ?_⟩, fun w => ?_⟩
 · cases b0 <;> cases b1 <;> cases b2 <;> simp [oneIf]
 · simp only [List.mem_append, mem_oneIf] at hp
   rcases hp with (⟨h, rfl⟩ | ⟨h, rfl⟩) | ⟨h, rfl⟩
   · exact o0 h
   · exact o1 h
   · exact o2 h
 · rcases hj with rfl | rfl | rfl
   · obtain ⟨b, i⟩ := h0 z hz l u
     exact ⟨p0, by simp [mem_oneIf, b], i⟩
   · obtain ⟨b, i⟩ := h1 z hz l u
     exact ⟨p1, by simp [mem_oneIf, b], i⟩
   · obtain ⟨b, i⟩ := h2 z hz l u
     exact ⟨p2, by simp [mem_oneIf, b], i⟩
 · obtain ⟨m1', m2'⟩ := M
   exact oparts_shape (Lib.hid c0) (Lib.hid a0) (Lib.hid m0) (Lib.hid c1) (Lib.hid a1) (Lib.hid m1) (Lib.hid c2) (Lib.hid a2) (Lib.hid m2) w

structure SnF (e : Nat) (M S C : Pr) : Prop where
 s : Unit1 S
 c : Unit1 C
 has : (∀ x : Rat, -1 ≤ x → x ≤ 1 → In x (ps S) ∧ In x (ps C)) ∨ (Q M.2 - Q M.1 < 1 ∧ ∀ (z : Rat) (j : Int), In z (ps M) → (j = -1 ∨ j = 0 ∨ j = 1) → -(1 / 2) ≤ z + (j : Rat) → z + (j : Rat) ≤ 1 / 2 →
  ∃ p P, In (z + (j : Rat)) (ps p) ∧ W2 p ∧ haB p.1 = true ∧ haB p.2 = true ∧ Plc e p P ∧ ∀ x, Ang x → V P.1 ≤ V x → V x ≤ V P.2 → In (SQ x) (ps S) ∧ In (CQ x) (ps C))
def hlS (S : Nat → Pr) : Nat → Pr
 | 0 => hullP (S 0) (S 0)
 | n + 1 => hullP (hlS S n) (S (n + 1))
theorem hlS_cur (S : Nat → Pr) (n : Nat) : hlS S n = hullP (cur S (hlS S) n) (S n) := by cases n <;> rfl
theorem hlS_unit {S : Nat → Pr} {N : Nat} (h : ∀ n, n < N → Unit1 (S n)) : ∀ n, n < N → Unit1 (hlS S n) ∧ ∀ k, k ≤ n → V (hlS S n).1 ≤ V (S k).1 ∧ V (S k).2 ≤ V (hlS S n).2
 | 0, hn => by
   obtain ⟨u, a, -, b, -⟩ := unit_hull (h 0 hn) (h 0 hn)
   exact ⟨u, fun k hk => by obtain rfl : k = 0 := by omega
                            exact ⟨a, b⟩⟩
 | n + 1, hn => by
   obtain ⟨i1, i2⟩ := hlS_unit h n (by omega)
   obtain ⟨u, a, b, c, d⟩ := unit_hull i1 (h (n + 1) hn)
   refine ⟨u, fun k hk => ?_⟩
   by_cases e : k = n + 1
   · subst e; exact ⟨b, d⟩
   · obtain ⟨x, y⟩ := i2 k (by omega)
     exact ⟨Int.le_trans a x, Int.le_trans y c⟩
theorem cur_unit {S : Nat → Pr} {N : Nat} (h : ∀ n, n < N → Unit1 (S n)) (n : Nat) (hn : n < N) : Unit1 (cur S (hlS S) n) := by
 cases n with
 | zero => exact h 0 hn
 | succ n => exact (hlS_unit h n (by omega)).1
theorem hull_calls {S : Nat → Pr} {N : Nat} (h : ∀ n, n < N → Unit1 (S n)) (n : Nat) (hn : n < N) (w : World) : Calls Tryz.prog 66 #[pv (cur S (hlS S) n), pv (S n)] w fun e w' => e = .returned (pv (hlS S n)) ∧ Below w.heap.size w w' := by
 have a := cur_unit h n hn
 have b := h n hn
 rw [hlS_cur]
 exact ohull_shape (Lib.hid (fun w => shull_ok a.l1 a.l2 b.l1 b.l2 (errSS_of a.ok b.ok) w)) w
structure PS (e : Nat) (p P S C : Pr) : Prop where
 plc : Plc e p P
 s : Unit1 S
 c : Unit1 C
 has : ∀ x, Ang x → V P.1 ≤ V x → V x ≤ V P.2 → In (SQ x) (ps S) ∧ In (CQ x) (ps C)
theorem ps_ex {e : Nat} {p : Pr} (he : e < 18446744073709551616) (e1 : ecB e = true) (hp : W2 p) (h1 : haB p.1 = true) (h2 : haB p.2 = true) (er : errS p.1 p.2 = 0) :
 ∃ P S C, PS e p P S C ∧ (∀ w, Calls Tryz.prog 6 #[.float .f64 e, pv p] w fun en w' => en = .returned (.tuple #[pv P, .int .i64 0]) ∧ Below w.heap.size w w') ∧
   ∀ w, Calls Tryz.prog 65 #[pv P] w fun en w' => en = .returned (.tuple #[pv S, pv C, .int .i64 0]) ∧ Below w.heap.size w w' := by
 obtain ⟨-, -, le⟩ := errS_zero er
 have PL := plc_of he hp e1 h1 h2 le
 have eR : ssR e p = ((edW e p.1 (-1), edW e p.2 1), 0) := by unfold ssR; rw [if_pos e1, if_pos ⟨er, h1, h2⟩]
 have CS := fun w => osspan_run he hp w
 rw [eR] at CS
 generalize hP : (edW e p.1 (-1), edW e p.2 1) = P at *
 obtain ⟨S, C, k, SR, CU⟩ := uspans_run PL.sn.w2.l1 PL.sn.w2.l2
 obtain ⟨f1, f2, -⟩ := errS_zero PL.sn.ok
 have a1 : errA P.1 = 0 := err_small (fit_fin PL.sn.w2.l1 f1) f1 (abs_up (k := 1074 + 2) (l := 1114) PL.sn.bd.1 (by omega))
 have a2 : errA P.2 = 0 := err_small (fit_fin PL.sn.w2.l2 f2) f2 (abs_up (k := 1074 + 2) (l := 1114) PL.sn.bd.2 (by omega))
 have k0 : k = 0 := by
  rw [SR.err]
  unfold errT
  rw [if_neg (by rw [PL.sn.ok]; decide), if_neg (by rw [a1]; decide), a2]
 subst k0
 have A1 := errA_ang PL.sn.w2.l1 a1
 obtain ⟨r0, R0⟩ := rst_ex A1
 obtain ⟨U1, U2, -, -⟩ := spans_in A1 R0 SR (Int.le_refl _) (Int.le_of_lt PL.lt)
 refine ⟨P, S, C, ⟨PL, U1, U2, fun x AN l1 l2 => ?_⟩, CS, CU⟩
 obtain ⟨r, R⟩ := rst_ex AN
 obtain ⟨-, -, i1, i2⟩ := spans_in AN R SR l1 l2
 obtain ⟨q1, q2⟩ := SQ_of R
 rw [q1, q2]
 exact ⟨i1, i2⟩
theorem in_wide {x : Rat} {p q : Pr} (h : In x (ps p)) (a : V q.1 ≤ V p.1) (b : V p.2 ≤ V q.2) : In x (ps q) := ⟨Rat.le_trans (Q_le.2 a) h.1, Rat.le_trans h.2 (Q_le.2 b)⟩
theorem turn_in {z : Rat} (h : mag z ≤ 1001 / 1000) : ∃ j : Int, (j = -1 ∨ j = 0 ∨ j = 1) ∧ -(1 / 2) ≤ z + (j : Rat) ∧ z + (j : Rat) ≤ 1 / 2 := by
 have a := mag_le z
 have e1 : ((-1 : Int) : Rat) = -1 := by decide +kernel
 have e0 : ((0 : Int) : Rat) = 0 := by decide +kernel
 have e2 : ((1 : Int) : Rat) = 1 := by decide +kernel
 by_cases l : z < -(1 / 2)
 · exact ⟨1, by omega, by rw [e2]; grind, by rw [e2]; grind⟩
 · by_cases u : 1 / 2 < z
   · exact ⟨-1, by omega, by rw [e1]; grind, by rw [e1]; grind⟩
   · exact ⟨0, by omega, by rw [e0]; grind, by rw [e0]; grind⟩
theorem sines_ex {e : Nat} {M : Pr} (he : e < 18446744073709551616) (e1 : ecB e = true) (S : Sn M 37) (hz : ∃ z, In z (ps M) ∧ (Q M.2 - Q M.1 < 1 → mag z ≤ 1001 / 1000)) :
 ∃ s c, SnF e M s c ∧ ∀ w, Calls Tryz.prog 26 #[.float .f64 e, pv M] w fun en w' => en = .returned (.tuple #[pv s, pv c]) ∧ Below w.heap.size w w' := by
 obtain ⟨m, ⟨fm, U⟩, CW⟩ := swidth_ok S.w2.l1 S.w2.l2 S.ok
 have CW : ∀ w, Calls Tryz.prog 63 #[pv M] w fun e w' => e = .returned (.tuple #[.float .f64 m, .int .i64 0]) ∧ Below w.heap.size w w' := CW
 have tm := ge_words fm (show FinW oneW by unfold FinW oneW; omega)
 by_cases c : V oneW ≤ V m
 · rw [decide_eq_true c] at tm
   refine ⟨(noneW, oneW), (noneW, oneW), ⟨unit_all, unit_all, .inl fun x a b => ?_⟩, fun w => osines_wide (Lib.hid CW) tm w⟩
   have e : ps (noneW, oneW) = (-1, 1) := by unfold ps sp; rw [none_Q, one_Q]
   rw [e]
   exact ⟨⟨a, b⟩, ⟨a, b⟩⟩
 · rw [decide_eq_false c] at tm
   have wd : Q M.2 - Q M.1 < 1 := by
    have g := U.ge
    have lt : V M.2 - V M.1 < V oneW := by omega
    rw [← one_Q]
    have a := Rat.intCast_lt_intCast.2 lt
    have u := unit_pos
    rw [Rat.intCast_sub, ← Q_unit, ← Q_unit, ← Q_unit] at a
    have e : Q M.2 * unit - Q M.1 * unit = (Q M.2 - Q M.1) * unit := by grind
    rw [e] at a
    exact (Rat.mul_lt_mul_right u).1 a
   obtain ⟨z, iz, hz⟩ := hz
   obtain ⟨L, PF, CL⟩ := parts_ex S
   obtain ⟨j, hj, l, u⟩ := turn_in (hz wd)
   obtain ⟨p0, hp0, -⟩ := PF.has z j iz hj l u
   have hne : L ≠ [] := List.ne_nil_of_mem hp0
   have key : ∀ n : Nat, ∃ t : Pr × Pr × Pr, ∀ p, L[n]? = some p → PS e p t.1 t.2.1 t.2.2 ∧ (∀ w, Calls Tryz.prog 6 #[.float .f64 e, pv p] w fun en w' => en = .returned (.tuple #[pv t.1, .int .i64 0]) ∧ Below w.heap.size w w') ∧
    ∀ w, Calls Tryz.prog 65 #[pv t.1] w fun en w' => en = .returned (.tuple #[pv t.2.1, pv t.2.2, .int .i64 0]) ∧ Below w.heap.size w w' := fun n => by
    cases hn : L[n]? with
    | none => exact ⟨((0, 0), (0, 0), (0, 0)), fun p h => by cases h⟩
    | some p =>
      obtain ⟨k1, k2, k3, k4⟩ := PF.ok p (List.mem_of_getElem? hn)
      obtain ⟨P, s, c, h⟩ := ps_ex he e1 k1 k2 k3 k4
      exact ⟨(P, s, c), fun q hq => by cases hq; exact h⟩
   obtain ⟨F, hF⟩ := Classical.axiomOfChoice key
   have at_ : ∀ n : Nat, n < L.length → ∃ p, L[n]? = some p := fun n hn => ⟨_, List.getElem?_eq_getElem hn⟩
   have uS : ∀ n, n < L.length → Unit1 ((fun n => (F n).2.1) n) := fun n hn => by
    obtain ⟨p, hp⟩ := at_ n hn
    exact (hF n p hp).1.s
   have uC : ∀ n, n < L.length → Unit1 ((fun n => (F n).2.2) n) := fun n hn => by
    obtain ⟨p, hp⟩ := at_ n hn
    exact (hF n p hp).1.c
   have lp : 0 < L.length := List.length_pos_iff.2 hne
   obtain ⟨vS, hS⟩ := hlS_unit uS (L.length - 1) (by omega)
   obtain ⟨vC, hC⟩ := hlS_unit uC (L.length - 1) (by omega)
   refine ⟨_, _, ⟨vS, vC, .inr ⟨wd, fun z j iz hj l u => ?_⟩⟩, fun w => osines_run (fun n => (F n).1) (fun n => (F n).2.1) (fun n => (F n).2.2) (hlS fun n => (F n).2.1) (hlS fun n => (F n).2.2) (Lib.hid CW) tm (Lib.hid CL) hne PF.len (Lib.hid fun n q hq => (hF n q hq).2.1) (Lib.hid fun n hn => ?_) (Lib.hid fun n hn => hull_calls uS n hn) (Lib.hid fun n hn => hull_calls uC n hn) w⟩
   · obtain ⟨p, hp, ip⟩ := PF.has z j iz hj l u
     obtain ⟨n, hn⟩ := List.getElem?_of_mem hp
     obtain ⟨k1, k2, k3, k4⟩ := PF.ok p hp
     have G := (hF n p hn).1
     have nl := (List.getElem?_eq_some_iff.1 hn).1
     refine ⟨p, (F n).1, ip, k1, k2, k3, G.plc, fun x A a b => ?_⟩
     obtain ⟨g1, g2⟩ := G.has x A a b
     have q1 := hS n (by omega)
     have q2 := hC n (by omega)
     exact ⟨in_wide g1 q1.1 q1.2, in_wide g2 q2.1 q2.2⟩
   · obtain ⟨p, hp⟩ := at_ n hn
     exact (hF n p hp).2.2
end Go.Proofs.YtdfcchocabapkaaGreat

namespace Go.Proofs.YtdfcchocabapkaaGreat
open Go.ChangeShapes Go.WideShapes Go.ChangeAt Go.RowKit Ieee.Own Pol Fma

theorem pair11 {s c p q : Pr} {k : Nat} (hs : Sn s 0) (hc : Sn c 0) (hp : Sn p k) (hq : Sn q k) (hk : k < 180) :
 ∃ m1 m2 m3 m4 y1 y2, Pair7 s c p q m1 m2 m3 m4 y1 y2 ∧ Sn y1 (k + 1) ∧ Sn y2 (k + 1) ∧ ∀ {S C X Y : Rat}, In S (ps s) → In C (ps c) → In X (ps p) → In Y (ps q) → In (C * X - S * Y) (ps y1) ∧ In (S * X + C * Y) (ps y2) := by
 obtain ⟨m1, n1, r1, k1⟩ := mul_step7 hc hp (by omega)
 obtain ⟨m2, n2, r2, k2⟩ := mul_step7 hs hq (by omega)
 obtain ⟨m3, n3, r3, k3⟩ := mul_step7 hs hp (by omega)
 obtain ⟨m4, n4, r4, k4⟩ := mul_step7 hc hq (by omega)
 obtain ⟨y1, e1, q1, a1, a2⟩ := sub_step7 n1 n2 (by omega)
 obtain ⟨y2, e2, q2, a3⟩ := add_step7 n3 n4 (by omega)
 exact ⟨m1, m2, m3, m4, y1, y2, ⟨n1.w2, n2.w2, n3.w2, n4.w2, r1, r2, q1, r3, r4, q2⟩, e1.le (by omega), e2.le (by omega), fun is ic ip iq => ⟨(ic.mul ip k1).sub7 (is.mul iq k2) a1 a2, (is.mul ip k3).add (ic.mul iq k4) a3⟩⟩
theorem axis11 {p : Pr} {k : Nat} (hp : Sn p k) (hk : k < 180) : ∃ u, AddR p (0, 0) u ∧ Sn u (k + 1) ∧ ∀ {X : Rat}, In X (ps p) → In X (ps u) := by
 have z : Sn (0, 0) k := sn_zero.le (by omega)
 obtain ⟨u, e, r, h⟩ := add_step7 hp z (by omega)
 refine ⟨u, r, e, fun {X} ip => ?_⟩
 have i0 : In 0 (ps (0, 0)) := by
  have e0 : ps (0, 0) = (0, 0) := by show ((Q 0, Q 0) : Rat × Rat) = (0, 0); rw [Q0]
  rw [e0]; exact ⟨Rat.le_refl, Rat.le_refl⟩
 have t := ip.add i0 h
 have e1 : X + 0 = X := by grind
 rwa [e1] at t
theorem fitS_of {p : Pr} {k : Nat} (h : Sn p k) (hk : k ≤ 60) : fitS p = true := by
 obtain ⟨f1, f2, -⟩ := h.fits
 have b1 := abs_up (k := 1074 + k) (l := 1134) h.bd.1 (by omega)
 have b2 := abs_up (k := 1074 + k) (l := 1134) h.bd.2 (by omega)
 unfold fitS
 rw [vnB_small (fit_fin h.w2.l1 f1) f1 b1, vnB_small (fit_fin h.w2.l2 f2) f2 b2, h.ok]
 rfl
theorem fitBx_of {b : B6} {k : Nat} (h : Sn3 b k) (hk : k ≤ 60) : fitBx b = true := by
 unfold fitBx
 rw [fitS_of h.x hk, fitS_of h.y hk, fitS_of h.z hk]
 rfl
theorem boxturn11 {a : Int} {A : Pr} {b : B6} {k : Nat} (ha : a = 0 ∨ a = 2) (hA : Sn A 40) (hb : Sn3 b k) (hk : k ≤ 60) : ∃ P : B6, Sn3 P (k + 1) ∧
 (∀ (x : Nat) (p : R3), Ang x → V A.1 ≤ V x → V x ≤ V A.2 → InB p b → InB (rotQ a (SQ x) (CQ x) p) P) ∧
 ∀ w, Calls Tryz.prog 75 #[.int .i64 a, pv A, boxV b] w fun e w' => e = .returned (boxE P 0) ∧ Below w.heap.size w w' := by
 have h0 : 0 ≤ a := by omega
 have h1 : a ≤ 2 := by omega
 obtain ⟨u1, u2, l, SR, CS⟩ := uspans_run hA.w2.l1 hA.w2.l2
 have AX := fun w => vaxis_run a w
 rw [decide_eq_true ⟨h0, h1⟩] at AX
 obtain ⟨f1, f2, le⟩ := hA.fits
 have e2 : errA A.1 = 0 := err_small (fit_fin hA.w2.l1 f1) f1 (abs_up (k := 1074 + 40) (l := 1114) hA.bd.1 (by omega))
 have e3 : errA A.2 = 0 := err_small (fit_fin hA.w2.l2 f2) f2 (abs_up (k := 1074 + 40) (l := 1114) hA.bd.2 (by omega))
 have l0 : l = 0 := by
  rw [SR.err]
  unfold errT
  rw [if_neg (by rw [hA.ok]; decide), if_neg (by rw [e2]; decide), e3]
 subst l0
 have FB := fun w => vfitbox_run hb.w6 w
 rw [fitBx_of hb hk] at FB
 have A1 := errA_ang hA.w2.l1 e2
 obtain ⟨r0, R0⟩ := rst_ex A1
 obtain ⟨U1, U2, -, -⟩ := spans_in A1 R0 SR (Int.le_refl _) le
 have trig : ∀ x, Ang x → V A.1 ≤ V x → V x ≤ V A.2 → In (SQ x) (ps u1) ∧ In (CQ x) (ps u2) := fun x AN l1 l2 => by
  obtain ⟨r, R⟩ := rst_ex AN
  obtain ⟨-, -, i1, i2⟩ := spans_in AN R SR l1 l2
  obtain ⟨q1, q2⟩ := SQ_of R
  rw [q1, q2]
  exact ⟨i1, i2⟩
 rcases ha with rfl | rfl
 · obtain ⟨m1, m2, m3, m4, y1, y2, PR, n1, n2, H⟩ := pair11 (unit_sn U1) (unit_sn U2) hb.y hb.z (by omega)
   obtain ⟨u, ar, n3, H3⟩ := axis11 hb.x (by omega)
   refine ⟨(u, y1, y2), ⟨n3, n1, n2⟩, fun x p AN l1 l2 ip => ?_, ?_⟩
   · obtain ⟨i1, i2⟩ := trig x AN l1 l2
     have h := H i1 i2 ip.2.1 ip.2.2
     exact ⟨H3 ip.1, h.1, h.2⟩
   · have d1 := vmul7 (unit_sn U2).w2 hb.w6.y PR.r1
     have d2 := vmul7 (unit_sn U1).w2 hb.w6.z PR.r2
     have d3 := vsub7 PR.w1 PR.w2 PR.r3
     have d4 := vmul7 (unit_sn U1).w2 hb.w6.y PR.r4
     have d5 := vmul7 (unit_sn U2).w2 hb.w6.z PR.r5
     have d6 := vadd7 PR.w3 PR.w4 PR.r6
     have d7 := vadd7 hb.w6.x zero_w2 ar
     exact fun w => vboxturn0 (Lib.hid AX) (Lib.hid CS) (Lib.hid FB) (Lib.hid d1) (Lib.hid d2) (Lib.hid d3) (Lib.hid d4) (Lib.hid d5) (Lib.hid d6) (Lib.hid d7) w
 · obtain ⟨m1, m2, m3, m4, y1, y2, PR, n1, n2, H⟩ := pair11 (unit_sn U1) (unit_sn U2) hb.x hb.y (by omega)
   obtain ⟨u, ar, n3, H3⟩ := axis11 hb.z (by omega)
   refine ⟨(y1, y2, u), ⟨n1, n2, n3⟩, fun x p AN l1 l2 ip => ?_, ?_⟩
   · obtain ⟨i1, i2⟩ := trig x AN l1 l2
     have h := H i1 i2 ip.1 ip.2.1
     exact ⟨h.1, h.2, H3 ip.2.2⟩
   · have d1 := vmul7 (unit_sn U2).w2 hb.w6.x PR.r1
     have d2 := vmul7 (unit_sn U1).w2 hb.w6.y PR.r2
     have d3 := vsub7 PR.w1 PR.w2 PR.r3
     have d4 := vmul7 (unit_sn U1).w2 hb.w6.x PR.r4
     have d5 := vmul7 (unit_sn U2).w2 hb.w6.y PR.r5
     have d6 := vadd7 PR.w3 PR.w4 PR.r6
     have d7 := vadd7 hb.w6.z zero_w2 ar
     exact fun w => vboxturn2 (Lib.hid AX) (Lib.hid CS) (Lib.hid FB) (Lib.hid d1) (Lib.hid d2) (Lib.hid d3) (Lib.hid d4) (Lib.hid d5) (Lib.hid d6) (Lib.hid d7) w
end Go.Proofs.YtdfcchocabapkaaGreat
