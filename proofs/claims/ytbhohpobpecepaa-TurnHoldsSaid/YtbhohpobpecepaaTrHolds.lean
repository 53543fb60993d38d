/- Proved here: for every number and every span (and all that are none) the law TurnHolds returns true: sine and cosine lie by the spans of the number, and of every span with it. No conditions. -/
import Derived.Test.YtbhohpobpecepaaRows
import Derived.Test.YtbhohpobpecepaaJb6
import Derived.Test.YtbhohpobpecepaaJb9
import Derived.Test.YtbhohpobpecepaaJb2
namespace Go.Proofs.Ytbhohpobpecepaa.turnHolds
open Go.ChangeShapes Go.WideShapes Go.ChangeAt Go.RowKit Ieee.Own

set_option maxHeartbeats 2000000 in
theorem walk (w : World) (a0 : Nat) (h0 : a0 < 18446744073709551616) (a1 b1 : Nat) (ha1 : a1 < 18446744073709551616) (hb1 : b1 < 18446744073709551616) :
    Calls Try.prog 7 #[.float .f64 a0, spanV a1 b1] w fun e w' => e = .returned (.bool true) ∧ Below w.heap.size w w' := by
  have AW := Lib.hid awake5
  obtain ⟨s, c, k, R, K1⟩ := uboth_run h0
  replace K1 := Lib.hid K1
  have hst := @fstore
  have C0 : Cls w [(w.heap.size, a1, b1)] (w.alloc (boxO a1 b1)) := (Cls.nil w).new a1 b1
  unfold boxO at C0
  replace C0 := Lib.hid C0
  unfold spanV
  by_cases hk : k = 0
  · subst hk
    have T := R.ok rfl
    have e0 := R.err.symm
    have A := errA_ang h0 e0
    obtain ⟨p, q, H, K2⟩ := upoint_ok h0 e0
    replace K2 := Lib.hid K2
    obtain ⟨r, Rs, i1, i2⟩ := H.rest
    have tn := trig_near A T Rs
    have bd := (Rs.rest A).Q_bd
    have tp := Ply.top_mul bd.1 bd.2
    have q1 := Ply.sq_le_one tp.1 tp.2 (kq eig (V a0))
    have q2 := Ply.sq_le_one tp.1 tp.2 (kq eig (V a0) + 1)
    have m1 := i1.mem q1.1 q1.2
    have m2 := i2.mem q2.1 q2.2
    have n1 := by_span m1 tn.1.1 tn.1.2
    have n2 := by_span m2 tn.2.1 tn.2.2
    have ta := trig_abs A T
    have pa := unit_abs H.up
    have qa := unit_abs H.uq
    obtain ⟨o1, l1, K3⟩ := off_run pa.1.1 pa.1.2 T.sz.fin pa.2.1 pa.2.2 ta.1 n1.1 n1.2
    obtain ⟨o2, l2, K4⟩ := off_run qa.1.1 qa.1.2 T.cz.fin qa.2.1 qa.2.2 ta.2 n2.1 n2.2
    replace K3 := Lib.hid K3
    replace K4 := Lib.hid K4
    have K5 := Lib.hid (fun w => rhas_run ha1 hb1 A.fin w)
    unfold ppi pv spanV at K2
    unfold ffi' at K1
    unfold spanV at K3 K4 K5
    unfold closeW at l1 l2
    have X : Hid (inB a1 b1 a0 = true → ∃ u v g, SpRes (a1, b1) u v g ∧ (∀ w, Calls Try.prog 20 #[pv (a1, b1)] w fun e w' => e = .returned (ppi u v g) ∧ Below w.heap.size w w') ∧
        (g ≠ 0 → V a1 < V 14010698440749613056 ∨ V 4787326403894837248 < V b1) ∧ (g = 0 → Unit1 u ∧ Unit1 v ∧ meetB p.1 p.2 u.1 u.2 = true ∧ meetB q.1 q.2 v.1 v.2 = true ∧ (V u.1 - V s ≤ V closeW ∧ V s - V u.2 ≤ V closeW) ∧ (V v.1 - V c ≤ V closeW ∧ V c - V v.2 ≤ V closeW))) := by
      intro hB
      obtain ⟨e, g1, g2⟩ := of_decide_eq_true hB
      obtain ⟨u, v, g, S, K6⟩ := uspans_run ha1 hb1
      refine ⟨u, v, g, S, K6, fun hg => beyond ha1 hb1 A e g1 g2 (by have := S.err; rw [← this]; exact hg), fun hg => ?_⟩
      subst hg
      obtain ⟨U1, U2, j1, j2⟩ := spans_in A Rs S g1 g2
      exact ⟨U1, U2, meet_of ⟨H.up.l1, H.up.l2, U1.l1, U1.l2, H.up.ok, U1.ok⟩ m1.1 m1.2 j1.1 j1.2, meet_of ⟨H.uq.l1, H.uq.l2, U2.l1, U2.l2, H.uq.ok, U2.ok⟩ m2.1 m2.2 j2.1 j2.2,
        by_span j1 tn.1.1 tn.1.2, by_span j2 tn.2.1 tn.2.2⟩
    have Y : Hid (Unit1 p ∧ Unit1 q ∧ (FinW s ∧ FinW c) ∧ (V s).natAbs ≤ 2 ^ 1100 ∧ (V c).natAbs ≤ 2 ^ 1100) := ⟨H.up, H.uq, ⟨T.sz.fin, T.cz.fin⟩, ta.1, ta.2⟩
    have Z : Hid (inB a1 b1 a0 = true → FinW a1 ∧ FinW b1) := fun hB => by
      obtain ⟨e, -, -⟩ := of_decide_eq_true hB
      obtain ⟨f1, f2, -⟩ := errS_zero e
      exact ⟨fit_fin ha1 f1, fit_fin hb1 f2⟩
    clear R T e0 A H Rs i1 i2 tn bd tp q1 q2 m1 m2 n1 n2 ta pa qa h0 ha1 hb1
    go_enter Try.func7, Try.ntmps7
    go_wp2_with fail
    have C := C0.out
    clear C0
    generalize w.alloc _ = wr at *
    refine (AW.out wr).mono ?_
    rintro _ v0 ⟨rfl, hb⟩
    replace C := Lib.hid (C.on hb)
    clear hb AW
    go_wp2_with fail
    refine (K1.out v0).mono ?_
    rintro _ v1 ⟨rfl, hb⟩
    replace C := Lib.hid (C.out.on hb)
    clear hb K1
    go_wp2_with fail
    refine (K2.out v1).mono ?_
    rintro _ v2 ⟨rfl, hb⟩
    have C2 := ((C.out.on hb).new p.1 p.2).new q.1 q.2
    simp only [List.nil_append, List.cons_append] at C2
    rw [show (v2.alloc (boxO p.1 p.2)).heap.size = v2.heap.size + 1 by simp] at C2
    unfold boxO at C2
    have p1a := (C2.at_ 1 rfl).lo
    have p1b := (C2.at_ 1 rfl).hi
    have p2a := (C2.at_ 2 rfl).lo
    have p2b := (C2.at_ 2 rfl).hi
    replace C := Lib.hid C2
    clear C2 hb K2
    go_wp2_with fail
    clear p1a p1b p2a p2b
    generalize (v2.alloc _).alloc _ = u2 at *
    generalize v2.heap.size = g2 at *
    refine (K3.out u2).mono ?_
    rintro _ v3 ⟨rfl, hb⟩
    have C2 := C.out.on hb
    have p1a := (C2.at_ 1 rfl).lo
    have p1b := (C2.at_ 1 rfl).hi
    have p2a := (C2.at_ 2 rfl).lo
    have p2b := (C2.at_ 2 rfl).hi
    replace C := Lib.hid C2
    clear C2 hb K3
    go_wp2_with fail
    clear p1a p1b p2a p2b
    refine (K4.out v3).mono ?_
    rintro _ v4 ⟨rfl, hb⟩
    have C2 := C.out.on hb
    have p0a := (C2.at_ 0 rfl).lo
    have p0b := (C2.at_ 0 rfl).hi
    replace C := Lib.hid C2
    clear C2 hb K4
    go_wp2_with fail
    clear p0a p0b
    cases hB : inB a1 b1 a0
    · rw [hB] at K5
      clear X Y Z hB
      refine (K5.out v4).mono ?_
      rintro _ v5 ⟨rfl, hb⟩
      replace C := Lib.hid (C.out.on hb)
      clear hb K5
      go_wp2_with fail
      go_ret
      exact ⟨rfl, C.out.old⟩
    · obtain ⟨u, v, g, S, K6, bey, ok⟩ := X.out hB
      replace K6 := Lib.hid K6
      have fin := Z.out hB
      rw [hB] at K5
      clear X Z hB S
      refine (K5.out v4).mono ?_
      rintro _ v5 ⟨rfl, hb⟩
      have C2 := C.out.on hb
      have p0a := (C2.at_ 0 rfl).lo
      have p0b := (C2.at_ 0 rfl).hi
      replace C := Lib.hid C2
      clear C2 hb K5
      replace bey := Lib.hid bey
      replace ok := Lib.hid ok
      replace fin := Lib.hid fin
      have yE : pv (a1, b1) = .agg #[.float .f64 a1, .float .f64 b1] := rfl
      rw [yE] at K6
      unfold ppi pv spanV at K6
      clear yE
      go_wp2_with fail
      clear p0a p0b
      refine (K6.out v5).mono ?_
      rintro _ v6 ⟨rfl, hb⟩
      have C2 := ((C.out.on hb).new u.1 u.2).new v.1 v.2
      simp only [List.nil_append, List.cons_append] at C2
      rw [show (v6.alloc (boxO u.1 u.2)).heap.size = v6.heap.size + 1 by simp] at C2
      unfold boxO at C2
      have p0a := (C2.at_ 0 rfl).lo
      have p0b := (C2.at_ 0 rfl).hi
      have p1a := (C2.at_ 1 rfl).lo
      have p1b := (C2.at_ 1 rfl).hi
      have p3a := (C2.at_ 3 rfl).lo
      have p3b := (C2.at_ 3 rfl).hi
      replace C := Lib.hid C2
      clear C2 hb K6
      by_cases hg : g = 0
      · subst hg
        obtain ⟨U1, U2, b1', b2', d1, d2⟩ := ok.out rfl
        obtain ⟨P1, P2, ⟨fs, fc⟩, as1, ac1⟩ := Y.out
        have ua := unit_abs U1
        have va := unit_abs U2
        obtain ⟨o3, l3, K7⟩ := off_run ua.1.1 ua.1.2 fs ua.2.1 ua.2.2 as1 d1.1 d1.2
        obtain ⟨o4, l4, K8⟩ := off_run va.1.1 va.1.2 fc va.2.1 va.2.2 ac1 d2.1 d2.2
        have M1 := Lib.hid (fun w => rmeet_ok (⟨P1.l1, P1.l2, U1.l1, U1.l2, P1.ok, U1.ok⟩ : Sets p.1 p.2 u.1 u.2) w)
        have M2 := Lib.hid (fun w => rmeet_ok (⟨P2.l1, P2.l2, U2.l1, U2.l2, P2.ok, U2.ok⟩ : Sets q.1 q.2 v.1 v.2) w)
        rw [b1'] at M1
        rw [b2'] at M2
        replace K7 := Lib.hid K7
        replace K8 := Lib.hid K8
        unfold spanV at K7 K8 M1 M2
        unfold closeW at l3 l4
        generalize meetX p.1 p.2 u.1 u.2 = x1 at *
        generalize meetY p.1 p.2 u.1 u.2 = x2 at *
        generalize meetX q.1 q.2 v.1 v.2 = y1 at *
        generalize meetY q.1 q.2 v.1 v.2 = y2 at *
        clear ok bey fin Y U1 U2 b1' b2' d1 d2 P1 P2 fs fc as1 ac1 ua va
        go_wp2_with fail
        clear p0a p0b p1a p1b p3a p3b
        generalize (v6.alloc _).alloc _ = u6 at *
        generalize v6.heap.size = g6 at *
        refine (M1.out u6).mono ?_
        rintro _ v7 ⟨rfl, hb⟩
        have C2 := (C.out.on hb).new x1 x2
        simp only [List.nil_append, List.cons_append] at C2
        unfold boxO at C2
        have p2a := (C2.at_ 2 rfl).lo
        have p2b := (C2.at_ 2 rfl).hi
        have p4a := (C2.at_ 4 rfl).lo
        have p4b := (C2.at_ 4 rfl).hi
        replace C := Lib.hid C2
        clear C2 hb M1
        go_wp2_with fail
        clear p2a p2b p4a p4b
        generalize v7.alloc _ = u7 at *
        generalize v7.heap.size = g7 at *
        refine (M2.out u7).mono ?_
        rintro _ v8 ⟨rfl, hb⟩
        have C2 := (C.out.on hb).new y1 y2
        simp only [List.nil_append, List.cons_append] at C2
        unfold boxO at C2
        have p3a := (C2.at_ 3 rfl).lo
        have p3b := (C2.at_ 3 rfl).hi
        replace C := Lib.hid C2
        clear C2 hb M2
        go_wp2_with fail
        clear p3a p3b
        generalize v8.alloc _ = u8 at *
        generalize v8.heap.size = g8 at *
        refine (K7.out u8).mono ?_
        rintro _ v9 ⟨rfl, hb⟩
        have C2 := C.out.on hb
        have p4a := (C2.at_ 4 rfl).lo
        have p4b := (C2.at_ 4 rfl).hi
        replace C := Lib.hid C2
        clear C2 hb K7
        go_wp2_with fail
        clear p4a p4b
        refine (K8.out v9).mono ?_
        rintro _ v10 ⟨rfl, hb⟩
        replace C := Lib.hid (C.out.on hb)
        clear hb K8
        go_wp2_with fail
        go_ret
        exact ⟨rfl, C.out.old⟩
      · have tg : (g != 0) = true := by simpa using hg
        have F := fin.out
        have t1 := lt_words F.1 (show FinW 14010698440749613056 by unfold FinW; omega)
        have t2 := gt_words F.2 (show FinW 4787326403894837248 by unfold FinW; omega)
        have B := bey.out hg
        clear ok bey fin Y F hg p1a p1b p3a p3b
        by_cases c1 : V a1 < V 14010698440749613056
        · rw [decide_eq_true c1] at t1
          clear t2 B c1
          go_wp2_with fail
          go_ret
          exact ⟨rfl, C.out.old⟩
        · rw [decide_eq_false c1] at t1
          rw [decide_eq_true (B.resolve_left c1)] at t2
          clear B c1
          go_wp2_with fail
          go_ret
          exact ⟨rfl, C.out.old⟩
  · have tk : (k != 0) = true := by simpa using hk
    unfold ffi' at K1
    clear R h0 hk ha1 hb1
    go_enter Try.func7, Try.ntmps7
    go_wp2_with fail
    have C := C0.out
    clear C0
    generalize w.alloc _ = wr at *
    refine (AW.out wr).mono ?_
    rintro _ v0 ⟨rfl, hb⟩
    replace C := Lib.hid (C.on hb)
    clear hb AW
    go_wp2_with fail
    refine (K1.out v0).mono ?_
    rintro _ v1 ⟨rfl, hb⟩
    replace C := Lib.hid (C.out.on hb)
    clear hb K1
    go_wp2_with fail
    go_ret
    exact ⟨rfl, C.out.old⟩

theorem own : ownKnob Try.prog.godebug = none := by kernel_rfl
theorem laidOut : laidOutB Try.prog = true := by kernel_rfl
theorem cellsF : Try.prog.cellsOf 22 = 1 := by kernel_rfl
theorem bytesF : Try.prog.bytesOf 22 = 8 := by kernel_rfl
theorem wf64 {b : Nat} (h : (Lit.float .f64 b).wf = true) : b < 18446744073709551616 := by
  simp only [Lit.wf, decide_eq_true_eq] at h; exact h

set_option maxRecDepth 100000 in
theorem lifted (os : Os) (started : os.Started) (H : Type) (enc : TypeId × Value → H) :
    ReturnsInHanded {} Try.checked os 7 .any (Rows.turnHoldsSpec.pre6 enc Try.prog Try.f7 Rows.turnHoldsRow.domain false) (Rows.turnHoldsSpec.post enc Try.prog Try.f7 false true false false) := by
  refine returnsInHanded_of_change_sized (C := Try.checked) own started (by kernel_rfl) Try.func7
    (ChangeSpec.witness6 (enc := enc) (C := Try.checked) false ⟨#[], #[.float .f64 0, .agg #[.float .f64 0, .float .f64 0]], []⟩ 8 (by kernel_rfl) (by kernel_rfl) (by kernel_rfl) (by kernel_rfl)) ?_
  intro W base args ds gs before hval0 hW _ hsz0 _
  have hsz : (DataW.weightsEach Try.prog (Try.f7.params.toList ++ Rows.turnHoldsSpec.plain.varTypes Try.prog) (ds ++ gs)).all (· ≤ reachBytes) = true := hsz0
  clear hsz0
  have hval : ∀ (j : Nat) t v, Try.f7.params[j]? = some t → args[j]? = some v → Value.okWide Try.prog W .any base t v := hval0
  have hW' := hW
  obtain ⟨p, q, hA0, hV, rfl, _, _⟩ := hW
  have hA : DataW.TrodAll enc Try.prog W 0 (fun _ => true) true Try.f7.params.toList args.toList ds p := hA0
  rw [Try.params7] at hA hval hsz
  obtain ⟨v0, vs0, d0, ds0, p0, q0, hargs, rfl, rfl, t0, r0⟩ := trodAll_cons hA
  obtain ⟨v1, vs1, d1, ds1, p1, q1, rfl, rfl, rfl, t1, r1⟩ := trodAll_cons r0
  obtain ⟨rfl, rfl, rfl⟩ := trodAll_nil r1
  obtain rfl : args = #[v0, v1] := by cases args; simp_all
  obtain ⟨rfl, rfl⟩ := trodVars_none hV
  simp only [List.append_nil] at hW'
  obtain ⟨a0, rfl, rfl, rfl, w0⟩ := open_float Try.underlying22 (hval 0 22 v0 rfl rfl) t0
  have tk1 := t1
  obtain ⟨a1, b1, rfl, wa1, wb1⟩ := open_span (hval 1 33 v1 rfl rfl) t1
  have hlt1 : ∀ x ∈ p1, x.block < W.heap.size := fun x hx => by have := hW'.lt x (by simp [hx]); simpa using this
  clear hA0 hval0
  refine (walk W a0 (wf64 w0) a1 b1 wa1 wb1).mono fun e W' ⟨he, hb⟩ => ?_
  subst he
  refine ⟨_, rfl, _, _, _, [], _, [], hW', trodAll_cons_mk (shut_bool Try.underlying4 _) trodAll_mk0, (trodAll_cons_mk (shut_float Try.underlying22 w0) (trodAll_cons_mk (Below.trod laidOut (by kernel_rfl) (of_decide_eq_true (by kernel_rfl)) tk1 hb hlt1) trodAll_mk0)), rfl, hb.frame _, fun h => by cases h⟩

theorem over : Rows.turnHoldsRow.holds Try.pinned (OpenSpec.ofChange Rows.turnHoldsSpec) :=
  OpenClaim.holds_of_wide 7 Try.f7 rfl rfl rfl rfl rfl rfl rfl ⟨rfl, rfl, rfl, rfl, rfl⟩ rfl rfl rfl rfl rfl (by kernel_rfl) Try.func7 (by kernel_rfl)
    (of_decide_eq_true (by kernel_rfl)) (by unfold Func.isWrapper; first | (rw [if_pos (by decide +kernel)]; kernel_rfl) | (rw [if_neg (by decide +kernel)]; exact ⟨rfl, rfl⟩))
    (fun os started H enc _ => lifted os started H enc)

theorem proved : Rows.TurnHoldsSaid :=
  over
end Go.Proofs.Ytbhohpobpecepaa.turnHolds
