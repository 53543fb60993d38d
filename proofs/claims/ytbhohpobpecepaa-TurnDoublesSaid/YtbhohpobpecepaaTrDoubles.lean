/- Proved here: for every number the law TurnDoubles returns true: the sine of twice the angle meets twice the product. No conditions. -/
import Derived.Test.YtbhohpobpecepaaRows
import Derived.Test.YtbhohpobpecepaaJb6
import Derived.Test.YtbhohpobpecepaaJb8
namespace Go.Proofs.Ytbhohpobpecepaa.turnDoubles
open Go.ChangeShapes Go.WideShapes Go.ChangeAt Go.RowKit Ieee.Own

theorem meet_of {a b c d : Nat} (T : Sets a b c d) {z : Rat} (h1 : Q a ≤ z) (h2 : z ≤ Q b) (k1 : Q c ≤ z) (k2 : z ≤ Q d) : meetB a b c d = true := by
  obtain ⟨f1, f2, -⟩ := errS_zero T.e0
  obtain ⟨f3, f4, -⟩ := errS_zero T.e1
  have mx := mxW_spec (fit_fin T.la0 f1) (fit_fin T.la1 f3)
  have mn := mnW_spec (fit_fin T.lb0 f2) (fit_fin T.lb1 f4)
  have a1 := Q_le.1 (Rat.le_trans h1 h2)
  have a2 := Q_le.1 (Rat.le_trans h1 k2)
  have a3 := Q_le.1 (Rat.le_trans k1 h2)
  have a4 := Q_le.1 (Rat.le_trans k1 k2)
  unfold meetB
  rw [decide_eq_true_eq]
  rcases mx.1 with e | e <;> rcases mn.1 with e' | e' <;> rw [e, e'] <;> assumption
theorem twice_word {x : Nat} (A : Ang x) : ∃ y, Ieee.double.add x x = some y ∧ FinW y ∧ Q y = 2 * Q x := by
  obtain ⟨y, h1, h2, h3, -⟩ := addW A.fin A.fin A.abs A.abs (by omega)
  refine ⟨y, h1, h2, ?_⟩
  have e : V y = 2 * V x := by
    rw [h3, show V x + V x = 2 * V x by omega, RN_two, RN_exact (Rep_V x)]
  have : Q y * unit = 2 * (Q x * unit) := by
    rw [Q_unit, Q_unit, e, Rat.intCast_mul]; rfl
  have u := congrArg (· / unit) (this.trans (Rat.mul_assoc ..).symm)
  simpa only [unit_div] using u
set_option maxHeartbeats 2000000 in
theorem walk (w : World) (a0 : Nat) (h0 : a0 < 18446744073709551616) :
    Calls Try.prog 9 #[.float .f64 a0] w fun e w' => e = .returned (.bool true) ∧ Below w.heap.size w w' := by
  have AW := Lib.hid awake5
  obtain ⟨p, q, k, R, K1⟩ := upoint_run h0
  replace K1 := Lib.hid K1
  have hst := @fstore
  unfold ppi pv spanV at K1
  replace R := Lib.hid R
  replace h0 := Lib.hid h0
  go_enter Try.func9, Try.ntmps9
  go_wp2_with fail
  refine (AW.out w).mono ?_
  rintro _ v0 ⟨rfl, hb⟩
  have C := (Cls.nil w).on hb
  replace C := Lib.hid C
  clear hb AW
  go_wp2_with fail
  refine (K1.out v0).mono ?_
  rintro _ v1 ⟨rfl, hb⟩
  have C2 := ((C.out.on hb).new p.1 p.2).new q.1 q.2
  simp only [List.nil_append, List.cons_append] at C2
  rw [show (v1.alloc (boxO p.1 p.2)).heap.size = v1.heap.size + 1 by simp] at C2
  unfold boxO at C2
  replace C := Lib.hid C2
  clear C2 hb K1
  generalize hv : (v1.alloc _).alloc _ = u1 at *
  obtain ⟨y, w1, hy, D1, g1, e1⟩ := fadd_any a0 a0 u1
  obtain ⟨d, c, l, R', K2⟩ := upoint_run hy
  replace K2 := Lib.hid K2
  unfold ppi pv spanV at K2
  have C1 := Lib.hid (C.out.on (D1.below _))
  replace hv := hv.symm
  subst hv
  replace g1 := Lib.hid g1
  replace hy := Lib.hid hy
  clear C D1
  have C := C1
  clear C1
  go_wp2_with fail
  clear e1
  generalize v1.heap.size = g1' at *
  refine (K2.out w1).mono ?_
  rintro _ v2 ⟨rfl, hb⟩
  have C2 := ((C.out.on hb).new d.1 d.2).new c.1 c.2
  simp only [List.nil_append, List.cons_append] at C2
  rw [show (v2.alloc (boxO d.1 d.2)).heap.size = v2.heap.size + 1 by simp] at C2
  unfold boxO at C2
  replace C := Lib.hid C2
  clear C2 hb K2
  by_cases hk : k = 0
  · by_cases hl : l = 0
    · subst hk hl
      have h0 := h0.out
      have H := R.out.ok rfl
      have H' := R'.ok rfl
      have A := errA_ang h0 R.out.err.symm
      have A' := errA_ang hy.out R'.err.symm
      obtain ⟨r, Rs, i1, i2⟩ := H.rest
      obtain ⟨t, Ts, j1, j2⟩ := H'.rest
      obtain ⟨y', a1, a2, a3⟩ := twice_word A
      have := g1.out _ a1
      subst this
      have s1 := unit_sn H.up
      have s2 := unit_sn H.uq
      have s3 := unit_sn H'.up
      obtain ⟨m, sm, rm, em⟩ := mul_step (i := 0) (j := 0) s1 s2 (by omega)
      obtain ⟨n, sn, rn, en⟩ := add_step (m := 0) sm sm (by omega)
      have S1 := says_word (r := r) Rs.v
      have S2 := says_word (r := t) Ts.v
      rw [a3] at S2
      obtain ⟨u, v, du, dv, duv⟩ := doubles S1 S2 i1 i2 j1
      have im := du.mul dv em
      have iN := im.add im en
      have e2 : u * v + u * v = 2 * (u * v) := by grind
      rw [e2] at iN
      have T : Sets d.1 d.2 n.1 n.2 := ⟨s3.l1, s3.l2, sn.l1, sn.l2, s3.ok, sn.ok⟩
      have mb := meet_of T duv.1 duv.2 iN.1 iN.2
      have K3 := Lib.hid (fun w => (rmul_run p.1 p.2 q.1 q.2 s1.l1 s1.l2 s2.l1 s2.l2 w).mono fun e w' h => (⟨OpAll.uniq h.1 rm, h.2⟩ : e = .returned (spanE m.1 m.2 0) ∧ Below w.heap.size w w'))
      have K4 := Lib.hid (fun w => (radd_run m.1 m.2 m.1 m.2 sm.l1 sm.l2 sm.l1 sm.l2 w).mono fun e w' h => (⟨h.1.all.uniq rn.all, h.2⟩ : e = .returned (spanE n.1 n.2 0) ∧ Below w.heap.size w w'))
      have K5 := Lib.hid (fun w => rmeet_ok T w)
      rw [mb] at K5
      unfold spanE spanV at K3 K4
      unfold spanV at K5
      generalize meetX d.1 d.2 n.1 n.2 = x1 at *
      generalize meetY d.1 d.2 n.1 n.2 = x2 at *
      clear R R' H H' Rs Ts i1 i2 j1 j2 A A' s1 s2 s3 sm rm em sn rn en S1 S2 du dv duv im iN e2 T mb h0 a1 a2 a3 g1 hy
      have C2 := C.out
      have p0a := (C2.at_ 0 rfl).lo
      have p0b := (C2.at_ 0 rfl).hi
      have p1a := (C2.at_ 1 rfl).lo
      have p1b := (C2.at_ 1 rfl).hi
      have p2a := (C2.at_ 2 rfl).lo
      have p2b := (C2.at_ 2 rfl).hi
      have p3a := (C2.at_ 3 rfl).lo
      have p3b := (C2.at_ 3 rfl).hi
      clear C2
      go_wp2_with fail
      clear p0a p0b p1a p1b p2a p2b p3a p3b
      generalize (v2.alloc _).alloc _ = u2 at *
      generalize v2.heap.size = g2' at *
      refine (K3.out u2).mono ?_
      rintro _ v3 ⟨rfl, hb⟩
      have C2 := (C.out.on hb).new m.1 m.2
      simp only [List.nil_append, List.cons_append] at C2
      unfold boxO at C2
      have p0a := (C2.at_ 0 rfl).lo
      have p0b := (C2.at_ 0 rfl).hi
      have p1a := (C2.at_ 1 rfl).lo
      have p1b := (C2.at_ 1 rfl).hi
      have p2a := (C2.at_ 2 rfl).lo
      have p2b := (C2.at_ 2 rfl).hi
      have p3a := (C2.at_ 3 rfl).lo
      have p3b := (C2.at_ 3 rfl).hi
      have p4a := (C2.at_ 4 rfl).lo
      have p4b := (C2.at_ 4 rfl).hi
      replace C := Lib.hid C2
      clear C2 hb K3
      go_wp2_with fail
      clear p0a p0b p1a p1b p2a p2b p3a p3b p4a p4b
      generalize v3.alloc _ = u3 at *
      generalize v3.heap.size = g3' at *
      refine (K4.out u3).mono ?_
      rintro _ v4 ⟨rfl, hb⟩
      have C3 := C.out.on hb
      have z0 := (C3.at_ 4 rfl).lo
      have z1 := (C3.at_ 4 rfl).hi
      have z2 := (C3.at_ 4 rfl).f0
      have z3 := (C3.at_ 4 rfl).f1
      have C2 := C3.put 4 rfl n.1 n.2
      simp only [List.set_cons_zero, List.set_cons_succ] at C2
      unfold put2 at C2
      have p2a := (C2.at_ 2 rfl).lo
      have p2b := (C2.at_ 2 rfl).hi
      have p4a := (C2.at_ 4 rfl).lo
      have p4b := (C2.at_ 4 rfl).hi
      replace C := Lib.hid C2
      clear C2 C3 hb K4
      go_wp2_with fail
      clear p2a p2b p4a p4b
      clear z0 z1 z2 z3
      generalize World.setCell _ _ _ = u4 at *
      refine (K5.out u4).mono ?_
      rintro _ v5 ⟨rfl, hb⟩
      have O := Lib.hid ((C.out.on hb).new x1 x2).old
      unfold boxO at O
      clear C hb K5
      go_wp2_with fail
      go_ret
      exact ⟨rfl, O.out⟩
    · have tk : (k != 0) = false := by simpa using hk
      have tl : (l != 0) = true := by simpa using hl
      clear R R' h0 g1 hy hk hl
      go_wp2_with fail
      go_ret
      exact ⟨rfl, C.out.old⟩
  · have tk : (k != 0) = true := by simpa using hk
    clear R R' h0 g1 hy hk
    go_wp2_with fail
    go_ret
    exact ⟨rfl, C.out.old⟩

theorem own : ownKnob Try.prog.godebug = none := by kernel_rfl
theorem laidOut : laidOutB Try.prog = true := by kernel_rfl
theorem cellsF : Try.prog.cellsOf 22 = 1 := by kernel_rfl
theorem bytesF : Try.prog.bytesOf 22 = 8 := by kernel_rfl
theorem wf64 {b : Nat} (h : (Lit.float .f64 b).wf = true) : b < 18446744073709551616 := by
  simp only [Lit.wf, decide_eq_true_eq] at h; exact h

set_option maxRecDepth 100000 in
theorem lifted (os : Os) (started : os.Started) (H : Type) (enc : TypeId × Value → H) :
    ReturnsInHanded {} Try.checked os 9 .any (Rows.turnDoublesSpec.pre6 enc Try.prog Try.f9 Rows.turnDoublesRow.domain false) (Rows.turnDoublesSpec.post enc Try.prog Try.f9 false true false false) := by
  refine returnsInHanded_of_change_sized (C := Try.checked) own started (by kernel_rfl) Try.func9
    (ChangeSpec.witness6 (enc := enc) (C := Try.checked) false ⟨#[], #[.float .f64 0], []⟩ 8 (by kernel_rfl) (by kernel_rfl) (by kernel_rfl) (by kernel_rfl)) ?_
  intro W base args ds gs before hval0 hW _ hsz0 _
  have hsz : (DataW.weightsEach Try.prog (Try.f9.params.toList ++ Rows.turnDoublesSpec.plain.varTypes Try.prog) (ds ++ gs)).all (· ≤ reachBytes) = true := hsz0
  clear hsz0
  have hval : ∀ (j : Nat) t v, Try.f9.params[j]? = some t → args[j]? = some v → Value.okWide Try.prog W .any base t v := hval0
  have hW' := hW
  obtain ⟨p, q, hA0, hV, rfl, _, _⟩ := hW
  have hA : DataW.TrodAll enc Try.prog W 0 (fun _ => true) true Try.f9.params.toList args.toList ds p := hA0
  rw [Try.params9] at hA hval hsz
  obtain ⟨v0, vs0, d0, ds0, p0, q0, hargs, rfl, rfl, t0, r0⟩ := trodAll_cons hA
  obtain ⟨rfl, rfl, rfl⟩ := trodAll_nil r0
  obtain rfl : args = #[v0] := by cases args; simp_all
  obtain ⟨rfl, rfl⟩ := trodVars_none hV
  simp only [List.append_nil] at hW'
  obtain ⟨a0, rfl, rfl, rfl, w0⟩ := open_float Try.underlying22 (hval 0 22 v0 rfl rfl) t0
  clear hA0 hval0
  refine (walk W a0 (wf64 w0)).mono fun e W' ⟨he, hb⟩ => ?_
  subst he
  refine ⟨_, rfl, _, _, _, [], _, [], hW', trodAll_cons_mk (shut_bool Try.underlying4 _) trodAll_mk0, (trodAll_cons_mk (shut_float Try.underlying22 w0) trodAll_mk0), rfl, hb.frame _, fun h => by cases h⟩

theorem over : Rows.turnDoublesRow.holds Try.pinned (OpenSpec.ofChange Rows.turnDoublesSpec) :=
  OpenClaim.holds_of_wide 9 Try.f9 rfl rfl rfl rfl rfl rfl rfl ⟨rfl, rfl, rfl, rfl, rfl⟩ rfl rfl rfl rfl rfl (by kernel_rfl) Try.func9 (by kernel_rfl)
    (of_decide_eq_true (by kernel_rfl)) (by unfold Func.isWrapper; first | (rw [if_pos (by decide +kernel)]; kernel_rfl) | (rw [if_neg (by decide +kernel)]; exact ⟨rfl, rfl⟩))
    (fun os started H enc _ => lifted os started H enc)

theorem proved : Rows.TurnDoublesSaid :=
  over
end Go.Proofs.Ytbhohpobpecepaa.turnDoubles
