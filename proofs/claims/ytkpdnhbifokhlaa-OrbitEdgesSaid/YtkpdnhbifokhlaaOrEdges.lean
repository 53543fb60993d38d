/- Proved here: for all eccentricities, mean places and spans the law OrbitEdges returns true: a place lies by the span of places, and a point's span meets the greater one's. No conditions. -/
import Derived.Test.YtkpdnhbifokhlaaRows
import Derived.Test.YtkpdnhbifokhlaaJq6
import Derived.Test.YtkpdnhbifokhlaaJq2
import Derived.Test.YtkpdnhbifokhlaaJy13
import Derived.Test.YtkpdnhbifokhlaaJr
namespace Go.Proofs.Ytkpdnhbifokhlaa.orbitEdges
open Go.ChangeShapes Go.WideShapes Go.ChangeAt Go.RowKit

open Ieee.Own Pol
theorem c40_Q : 340 * uR ≤ Q 4427038433705197568 ∧ FinW 4427038433705197568 ∧ 0 ≤ V 4427038433705197568 := ⟨by decide +kernel, by unfold FinW; omega, by decide +kernel⟩
theorem off_le {a b : Nat} (h : Q a - Q b ≤ 340 * uR) : V a - V b ≤ V 4427038433705197568 := by
  have k := Rat.le_trans h c40_Q.1
  have m := Rat.mul_le_mul_of_nonneg_right k (Rat.le_of_lt unit_pos)
  have e : (Q a - Q b) * unit = ((V a - V b : Int) : Rat) := by rw [Rat.intCast_sub, ← Q_unit, ← Q_unit]; grind
  rw [e, Q_unit] at m
  exact Rat.intCast_le_intCast.1 m
/-- what is told when all answer -/
structure Egs (e m : Nat) (s : Pr) : Prop where
  q : ssR e (m, m) = ((edW e m (-1), edW e m 1), 0)
  sets : Sets (edW e s.1 (-1)) (edW e s.2 1) (edW e m (-1)) (edW e m 1)
  meet : meetB (edW e s.1 (-1)) (edW e s.2 1) (edW e m (-1)) (edW e m 1) = true
  off : ∃ o, ((FloatKind.f64.format.order o 4427038433705197568 == some Ordering.lt || FloatKind.f64.format.order o 4427038433705197568 == some Ordering.eq) = true) ∧ ∀ w, Calls Try.prog 27 #[spanV (edW e s.1 (-1)) (edW e s.2 1), .float .f64 (solV e m)] w fun en w' => en = .returned (.float .f64 o) ∧ Below w.heap.size w w'
  lt : (FloatKind.f64.format.order (edW e s.1 (-1)) (edW e s.2 1) == some Ordering.lt) = true
theorem egs_of {e m : Nat} {s : Pr} (he : e < 18446744073709551616) (hm : m < 18446744073709551616) (hs : W2 s) (e1 : ecB e = true) (m1 : haB m = true) (h1 : haB s.1 = true) (h2 : haB s.2 = true) (l1 : V s.1 ≤ V m) (l2 : V m ≤ V s.2) : Egs e m s := by
  have P := plc_of he hs e1 h1 h2 (Int.le_trans l1 l2)
  have R := plc_of (s := (m, m)) he ⟨hm, hm⟩ e1 m1 m1 (Int.le_refl _)
  have M := plc_meet he e1 P R l1 l2
  obtain ⟨n1, n2⟩ := plc_near he hm e1 m1 P l1 l2
  have em : errS m m = 0 := errS_self7 (btw_of hm m1).2.1
  obtain ⟨f1, f2, -⟩ := P.sn.fits
  have g1 := fit_fin P.sn.l1 f1
  have g2 := fit_fin P.sn.l2 f2
  obtain ⟨pf, A, -⟩ := sol_wd he hm e1 m1
  obtain ⟨o, fo, ho, CO⟩ := off_any g1 g2 A.fin (abs_up (k := 1074 + 2) (l := 1400) P.sn.bd.1 (by omega)) (abs_up (k := 1074 + 2) (l := 1400) P.sn.bd.2 (by omega)) (abs_up (k := 1114) (l := 1400) A.abs (by omega))
  obtain ⟨-, fc, c0⟩ := c40_Q
  have lo := ho _ c0 (off_le n1) (off_le n2)
  rw [RN_exact (Rep_V _)] at lo
  refine ⟨?_, ⟨P.sn.l1, P.sn.l2, R.sn.l1, R.sn.l2, P.sn.ok, R.sn.ok⟩, M, ⟨o, ?_, CO⟩, ?_⟩
  · unfold ssR; rw [if_pos e1, if_pos ⟨em, m1, m1⟩]
  · rw [le_words fo fc, decide_eq_true_eq]; exact lo
  · rw [lt_words g1 g2, decide_eq_true_eq]; exact P.lt
theorem rh_fact {a b x : Nat} (ha : a < 18446744073709551616) (hb : b < 18446744073709551616) (h : rhB a b x = true) (fx : FinW x) : errS a b = 0 ∧ V a ≤ V x ∧ V x ≤ V b := by
  unfold rhB leO at h
  simp only [Bool.and_eq_true, decide_eq_true_eq] at h
  obtain ⟨e, p, q⟩ := h
  obtain ⟨f1, f2, -⟩ := errS_zero e
  rw [le_words (fit_fin ha f1) fx, decide_eq_true_eq] at p
  rw [le_words fx (fit_fin hb f2), decide_eq_true_eq] at q
  exact ⟨e, p, q⟩
theorem ss_ok {e : Nat} {s : Pr} (h : (ssR e s).2 = 0) : ecB e = true ∧ errS s.1 s.2 = 0 ∧ haB s.1 = true ∧ haB s.2 = true ∧ ssR e s = ((edW e s.1 (-1), edW e s.2 1), 0) := by
  unfold ssR at h ⊢
  by_cases c : ecB e = true
  · rw [if_pos c] at h ⊢
    by_cases k : errS s.1 s.2 = 0 ∧ haB s.1 = true ∧ haB s.2 = true
    · rw [if_pos k]; exact ⟨c, k.1, k.2.1, k.2.2, rfl⟩
    · rw [if_neg k] at h; exact absurd (show (3 : Int) = 0 from h) (by decide)
  · rw [if_neg c] at h; exact absurd (show (110 : Int) = 0 from h) (by decide)
theorem sol_ok {e m : Nat} (h : (solR e m).2 = 0) : ecB e = true ∧ haB m = true ∧ solR e m = (solV e m, 0) := by
  unfold solR at h ⊢
  by_cases c : ecB e = true
  · rw [if_pos c] at h ⊢
    by_cases k : haB m = true
    · rw [if_pos k]; exact ⟨c, k, rfl⟩
    · rw [if_neg k] at h; exact absurd (show (3 : Int) = 0 from h) (by decide)
  · rw [if_neg c] at h; exact absurd (show (110 : Int) = 0 from h) (by decide)
set_option maxHeartbeats 2000000 in
set_option maxRecDepth 100000 in
theorem walk (w : World) (a0 : Nat) (h0 : a0 < 18446744073709551616) (a1 : Nat) (h1 : a1 < 18446744073709551616) (a2 b2 : Nat) (ha2 : a2 < 18446744073709551616) (hb2 : b2 < 18446744073709551616) :
    Calls Try.prog 7 #[.float .f64 a0, .float .f64 a1, spanV a2 b2] w fun e w' => e = .returned (.bool true) ∧ Below w.heap.size w w' := by
  have AW := Lib.hid awake11
  have CH := Lib.hid (fun w => rhas_any ha2 hb2 a1 w)
  have CS := Lib.hid (fun w => osolve_run h0 h1 w)
  have CP := Lib.hid (fun w => osspan_run (p := (a2, b2)) h0 ⟨ha2, hb2⟩ w)
  by_cases c : rhB a2 b2 a1 = true
  · rw [c] at CH
    by_cases k1 : (solR a0 a1).2 = 0
    · by_cases k2 : (ssR a0 (a2, b2)).2 = 0
      · obtain ⟨e1, m1, r1⟩ := sol_ok k1
        obtain ⟨-, er, b1, b2', r2⟩ := ss_ok k2
        obtain ⟨-, l1, l2⟩ := rh_fact ha2 hb2 c (ha_wd h1 m1).fin
        have E := egs_of (s := (a2, b2)) h0 h1 ⟨ha2, hb2⟩ e1 m1 b1 b2' l1 l2
        have CQ := Lib.hid (fun w => osspan_run (p := (a1, a1)) h0 ⟨h1, h1⟩ w)
        have CM := Lib.hid (fun w => rmeet_ok E.sets w)
        obtain ⟨o, toff, CO'⟩ := E.off
        have CO := Lib.hid CO'
        have tl := E.lt
        rw [r1] at CS
        rw [r2] at CP
        rw [E.q] at CQ
        rw [E.meet] at CM
        clear CO' E k1 k2 e1 m1 r1 er b1 b2' r2 l1 l2 c h0 h1 ha2 hb2
        unfold ssE floE2 at *
        unfold pv spanV at *
        dsimp only at *
        generalize meetX (edW a0 a2 (-1)) (edW a0 b2 1) (edW a0 a1 (-1)) (edW a0 a1 1) = u1 at *
        generalize meetY (edW a0 a2 (-1)) (edW a0 b2 1) (edW a0 a1 (-1)) (edW a0 a1 1) = u2 at *
        generalize edW a0 a2 (-1) = p1 at *
        generalize edW a0 b2 1 = p2 at *
        generalize edW a0 a1 (-1) = q1 at *
        generalize edW a0 a1 1 = q2 at *
        generalize solV a0 a1 = x at *
        have K0 := kv1 w 45 [.float .f64 a2, .float .f64 b2]
        simp only [objV] at K0
        have hst := @fstore
        replace K0 := Lib.hid K0
        go_enter Try.func7, Try.ntmps7
        go_wp2_with fail
        have K := K0.out
        clear K0
        generalize w.alloc _ = wr at *
        refine (AW.out wr).mono ?_
        rintro _ v1 ⟨rfl, hb⟩
        replace K := K.on hb
        clear hb
        have c0_0 := (K.at_ 0 rfl).at_ 0 _ rfl
        have c0_1 := (K.at_ 0 rfl).at_ 1 _ rfl
        replace K := Lib.hid K
        go_wp2_with fail
        replace K := K.out
        refine (CH.out v1).mono ?_
        rintro _ v2 ⟨rfl, hb⟩
        clear c0_0 c0_1
        replace K := K.on hb
        clear hb
        replace K := Lib.hid K
        go_wp2_with fail
        replace K := K.out
        refine (CS.out v2).mono ?_
        rintro _ v3 ⟨rfl, hb⟩
        replace K := K.on hb
        clear hb
        have c0_0 := (K.at_ 0 rfl).at_ 0 _ rfl
        have c0_1 := (K.at_ 0 rfl).at_ 1 _ rfl
        replace K := Lib.hid K
        go_wp2_with fail
        replace K := K.out
        refine (CP.out v3).mono ?_
        rintro _ v4 ⟨rfl, hb⟩
        clear c0_0 c0_1
        replace K := K.on hb
        clear hb
        replace K := K.new 45 [.float .f64 p1, .float .f64 p2]
        simp only [objV, List.cons_append, List.nil_append] at K
        replace K := Lib.hid K
        go_wp2_with fail
        replace K := K.out
        generalize v4.alloc _ = u4 at *
        generalize v4.heap.size = g1 at *
        refine (CQ.out u4).mono ?_
        rintro _ v5 ⟨rfl, hb⟩
        replace K := K.on hb
        clear hb
        replace K := K.new 45 [.float .f64 q1, .float .f64 q2]
        simp only [objV, List.cons_append, List.nil_append] at K
        have c1_0 := (K.at_ 1 rfl).at_ 0 _ rfl
        have c1_1 := (K.at_ 1 rfl).at_ 1 _ rfl
        have c2_0 := (K.at_ 2 rfl).at_ 0 _ rfl
        have c2_1 := (K.at_ 2 rfl).at_ 1 _ rfl
        replace K := Lib.hid K
        go_wp2_with fail
        replace K := K.out
        generalize v5.alloc _ = u5 at *
        generalize v5.heap.size = g2 at *
        refine (CM.out u5).mono ?_
        rintro _ v6 ⟨rfl, hb⟩
        clear c1_0 c1_1 c2_0 c2_1
        replace K := K.on hb
        clear hb
        replace K := K.new 45 [.float .f64 u1, .float .f64 u2]
        simp only [objV, List.cons_append, List.nil_append] at K
        have c1_0 := (K.at_ 1 rfl).at_ 0 _ rfl
        have c1_1 := (K.at_ 1 rfl).at_ 1 _ rfl
        replace K := Lib.hid K
        go_wp2_with fail
        replace K := K.out
        generalize v6.alloc _ = u6 at *
        generalize v6.heap.size = g3 at *
        refine (CO.out u6).mono ?_
        rintro _ v7 ⟨rfl, hb⟩
        clear c1_0 c1_1
        replace K := K.on hb
        clear hb
        have c1_0 := (K.at_ 1 rfl).at_ 0 _ rfl
        have c1_1 := (K.at_ 1 rfl).at_ 1 _ rfl
        replace K := Lib.hid K
        go_wp2_with fail
        go_ret
        exact ⟨rfl, K.out.old⟩
      · have t1 : (solR a0 a1).2 = 0 := k1
        have t2 : ((ssR a0 (a2, b2)).2 != 0) = true := by simpa using k2
        clear k1 k2 c h0 h1 ha2 hb2
        unfold ssE floE2 at *
        generalize solR a0 a1 = A at *
        generalize ssR a0 (a2, b2) = B at *
        obtain ⟨x, k⟩ := A
        obtain ⟨⟨p1, p2⟩, k'⟩ := B
        unfold pv spanV at *
        dsimp only at *
        subst t1
        have K0 := kv1 w 45 [.float .f64 a2, .float .f64 b2]
        simp only [objV] at K0
        have hst := @fstore
        replace K0 := Lib.hid K0
        go_enter Try.func7, Try.ntmps7
        go_wp2_with fail
        have K := K0.out
        clear K0
        generalize w.alloc _ = wr at *
        refine (AW.out wr).mono ?_
        rintro _ v1 ⟨rfl, hb⟩
        replace K := K.on hb
        clear hb
        have c0_0 := (K.at_ 0 rfl).at_ 0 _ rfl
        have c0_1 := (K.at_ 0 rfl).at_ 1 _ rfl
        replace K := Lib.hid K
        go_wp2_with fail
        replace K := K.out
        refine (CH.out v1).mono ?_
        rintro _ v2 ⟨rfl, hb⟩
        clear c0_0 c0_1
        replace K := K.on hb
        clear hb
        replace K := Lib.hid K
        go_wp2_with fail
        replace K := K.out
        refine (CS.out v2).mono ?_
        rintro _ v3 ⟨rfl, hb⟩
        replace K := K.on hb
        clear hb
        have c0_0 := (K.at_ 0 rfl).at_ 0 _ rfl
        have c0_1 := (K.at_ 0 rfl).at_ 1 _ rfl
        replace K := Lib.hid K
        go_wp2_with fail
        replace K := K.out
        refine (CP.out v3).mono ?_
        rintro _ v4 ⟨rfl, hb⟩
        clear c0_0 c0_1
        replace K := K.on hb
        clear hb
        replace K := K.new 45 [.float .f64 p1, .float .f64 p2]
        simp only [objV, List.cons_append, List.nil_append] at K
        replace K := Lib.hid K
        go_wp2_with fail
        go_ret
        exact ⟨rfl, K.out.old⟩
    · have t1 : ((solR a0 a1).2 != 0) = true := by simpa using k1
      clear k1 c h0 h1 ha2 hb2
      unfold ssE floE2 at *
      generalize solR a0 a1 = A at *
      generalize ssR a0 (a2, b2) = B at *
      obtain ⟨x, k⟩ := A
      obtain ⟨⟨p1, p2⟩, k'⟩ := B
      unfold pv spanV at *
      dsimp only at *
      have K0 := kv1 w 45 [.float .f64 a2, .float .f64 b2]
      simp only [objV] at K0
      have hst := @fstore
      replace K0 := Lib.hid K0
      go_enter Try.func7, Try.ntmps7
      go_wp2_with fail
      have K := K0.out
      clear K0
      generalize w.alloc _ = wr at *
      refine (AW.out wr).mono ?_
      rintro _ v1 ⟨rfl, hb⟩
      replace K := K.on hb
      clear hb
      have c0_0 := (K.at_ 0 rfl).at_ 0 _ rfl
      have c0_1 := (K.at_ 0 rfl).at_ 1 _ rfl
      replace K := Lib.hid K
      go_wp2_with fail
      replace K := K.out
      refine (CH.out v1).mono ?_
      rintro _ v2 ⟨rfl, hb⟩
      clear c0_0 c0_1
      replace K := K.on hb
      clear hb
      replace K := Lib.hid K
      go_wp2_with fail
      replace K := K.out
      refine (CS.out v2).mono ?_
      rintro _ v3 ⟨rfl, hb⟩
      replace K := K.on hb
      clear hb
      have c0_0 := (K.at_ 0 rfl).at_ 0 _ rfl
      have c0_1 := (K.at_ 0 rfl).at_ 1 _ rfl
      replace K := Lib.hid K
      go_wp2_with fail
      replace K := K.out
      refine (CP.out v3).mono ?_
      rintro _ v4 ⟨rfl, hb⟩
      clear c0_0 c0_1
      replace K := K.on hb
      clear hb
      replace K := K.new 45 [.float .f64 p1, .float .f64 p2]
      simp only [objV, List.cons_append, List.nil_append] at K
      replace K := Lib.hid K
      go_wp2_with fail
      go_ret
      exact ⟨rfl, K.out.old⟩
  · rw [Bool.not_eq_true] at c
    rw [c] at CH
    clear CS CP c h0 h1 ha2 hb2
    unfold spanV at *
    have K0 := kv1 w 45 [.float .f64 a2, .float .f64 b2]
    simp only [objV] at K0
    have hst := @fstore
    replace K0 := Lib.hid K0
    go_enter Try.func7, Try.ntmps7
    go_wp2_with fail
    have K := K0.out
    clear K0
    generalize w.alloc _ = wr at *
    refine (AW.out wr).mono ?_
    rintro _ v1 ⟨rfl, hb⟩
    replace K := K.on hb
    clear hb
    have c0_0 := (K.at_ 0 rfl).at_ 0 _ rfl
    have c0_1 := (K.at_ 0 rfl).at_ 1 _ rfl
    replace K := Lib.hid K
    go_wp2_with fail
    replace K := K.out
    refine (CH.out v1).mono ?_
    rintro _ v2 ⟨rfl, hb⟩
    clear c0_0 c0_1
    replace K := K.on hb
    clear hb
    replace K := Lib.hid K
    go_wp2_with fail
    go_ret
    exact ⟨rfl, K.out.old⟩

set_option maxRecDepth 100000 in
theorem own : ownKnob Try.prog.godebug = none := by kernel_rfl
set_option maxRecDepth 100000 in
theorem laidOut : laidOutB Try.prog = true := by kernel_rfl
set_option maxRecDepth 100000 in
theorem lifted (os : Os) (started : os.Started) (H : Type) (enc : TypeId × Value → H) :
    ReturnsInHanded {} Try.checked os 7 .any (Rows.orbitEdgesSpec.pre6 enc Try.prog Try.f7 Rows.orbitEdgesRow.domain false) (Rows.orbitEdgesSpec.post enc Try.prog Try.f7 false true false false) := by
  refine returnsInHanded_of_change_sized (C := Try.checked) own started (by kernel_rfl) Try.func7
    (ChangeSpec.witness6 (enc := enc) (C := Try.checked) false ⟨#[], #[.float .f64 0, .float .f64 0, .agg #[.float .f64 0, .float .f64 0]], []⟩ 8 (by kernel_rfl) (by kernel_rfl) (by kernel_rfl) (by kernel_rfl)) ?_
  intro W base args ds gs before hval0 hW _ hsz0 _
  have hsz : (DataW.weightsEach Try.prog (Try.f7.params.toList ++ Rows.orbitEdgesSpec.plain.varTypes Try.prog) (ds ++ gs)).all (· ≤ reachBytes) = true := hsz0
  clear hsz0
  have hval : ∀ (j : Nat) t v, Try.f7.params[j]? = some t → args[j]? = some v → Value.okWide Try.prog W .any base t v := hval0
  have hW' := hW
  obtain ⟨p, q, hA0, hV, rfl, _, _⟩ := hW
  have hA : DataW.TrodAll enc Try.prog W 0 (fun _ => true) true Try.f7.params.toList args.toList ds p := hA0
  rw [Try.params7] at hA hval hsz
  obtain ⟨v0, vs0, d0, ds0, p0, q0, hargs, rfl, rfl, t0, r0⟩ := trodAll_cons hA
  obtain ⟨v1, vs1, d1, ds1, p1, q1, rfl, rfl, rfl, t1, r1⟩ := trodAll_cons r0
  obtain ⟨v2, vs2, d2, ds2, p2, q2, rfl, rfl, rfl, t2, r2⟩ := trodAll_cons r1
  obtain ⟨rfl, rfl, rfl⟩ := trodAll_nil r2
  obtain rfl : args = #[v0, v1, v2] := by cases args; simp_all
  obtain ⟨rfl, rfl⟩ := trodVars_none hV
  simp only [List.append_nil] at hW'
  obtain ⟨a0, rfl, rfl, rfl, w0⟩ := open_float Try.underlying22 (hval 0 22 v0 rfl rfl) t0
  obtain ⟨a1, rfl, rfl, rfl, w1⟩ := open_float Try.underlying22 (hval 1 22 v1 rfl rfl) t1
  have tk2 := t2
  obtain ⟨a2, b2, rfl, wa2, wb2⟩ := open_span (hval 2 45 v2 rfl rfl) t2
  have hlt2 : ∀ x ∈ p2, x.block < W.heap.size := fun x hx => by have := hW'.lt x (by simp [hx]); simpa using this
  clear hA0 hval0
  refine (walk W a0 (wf64o w0) a1 (wf64o w1) a2 b2 wa2 wb2).mono fun e W' ⟨he, hb⟩ => ?_
  subst he
  refine ⟨_, rfl, _, _, _, [], _, [], hW', trodAll_cons_mk (shut_bool Try.underlying4 _) trodAll_mk0, (trodAll_cons_mk (shut_float Try.underlying22 w0) (trodAll_cons_mk (shut_float Try.underlying22 w1) (trodAll_cons_mk (Below.trod laidOut (by kernel_rfl) (of_decide_eq_true (by kernel_rfl)) tk2 hb hlt2) trodAll_mk0))), rfl, hb.frame _, fun h => by cases h⟩

set_option maxRecDepth 100000 in
theorem over : Rows.orbitEdgesRow.holds Try.pinned (OpenSpec.ofChange Rows.orbitEdgesSpec) :=
  OpenClaim.holds_of_wide 7 Try.f7 rfl rfl rfl rfl rfl rfl rfl ⟨rfl, rfl, rfl, rfl, rfl⟩ rfl rfl rfl rfl rfl (by kernel_rfl) Try.func7 (by kernel_rfl)
    (of_decide_eq_true (by kernel_rfl)) (by unfold Func.isWrapper; first | (rw [if_pos (by decide +kernel)]; kernel_rfl) | (rw [if_neg (by decide +kernel)]; exact ⟨rfl, rfl⟩))
    (fun os started H enc _ => lifted os started H enc)

theorem proved : Rows.OrbitEdgesSaid :=
  over
end Go.Proofs.Ytkpdnhbifokhlaa.orbitEdges
