/- Proved here: for every number the law TurnOnes returns true: the squares of both spans may add up to 1, and none leaves -1 to 1. No conditions. -/
import Derived.Test.YtbhohpobpecepaaRows
import Derived.Test.YtbhohpobpecepaaJb6
import Derived.Test.YtbhohpobpecepaaJb8
namespace Go.Proofs.Ytbhohpobpecepaa.turnOnes
open Go.ChangeShapes Go.WideShapes Go.ChangeAt Go.RowKit Ieee.Own

set_option maxHeartbeats 2000000 in
theorem walk (w : World) (a0 : Nat) (h0 : a0 < 18446744073709551616) :
    Calls Try.prog 8 #[.float .f64 a0] w fun e w' => e = .returned (.bool true) ∧ Below w.heap.size w w' := by
  have AW := Lib.hid awake5
  obtain ⟨p, q, k, R, K1⟩ := upoint_run h0
  replace K1 := Lib.hid K1
  have hst := @fstore
  by_cases hk : k = 0
  · subst hk
    have H := R.ok rfl
    obtain ⟨r, Rs, i1, i2⟩ := H.rest
    have A := errA_ang h0 R.err.symm
    have bd := (Rs.rest A).Q_bd
    have s1 := unit_sn H.up
    have s2 := unit_sn H.uq
    obtain ⟨a, sa, ra, ea⟩ := sq_step s1 (by omega)
    obtain ⟨b, sb, rb, eb⟩ := sq_step s2 (by omega)
    obtain ⟨d, sd, rd, ed⟩ := add_step (m := 0) sa sb (by omega)
    have one := ones bd.1 bd.2 _ i1 i2 ea eb ed
    have of : FinW oneW := by unfold FinW oneW; omega
    have nf : FinW noneW := by unfold FinW noneW; omega
    have t5 : inB d.1 d.2 oneW = true := by
      refine decide_eq_true ⟨sd.ok, ?_, ?_⟩
      · rw [← Q_le, one_Q]; exact one.1
      · rw [← Q_le, one_Q]; exact one.2
    have K2 := Lib.hid (fun w => (rsquare_run p.1 p.2 s1.l1 s1.l2 w).mono fun e w' h => (⟨OpAll.uniq h.1 ra, h.2⟩ : e = .returned (spanE a.1 a.2 0) ∧ Below w.heap.size w w'))
    have K3 := Lib.hid (fun w => (rsquare_run q.1 q.2 s2.l1 s2.l2 w).mono fun e w' h => (⟨OpAll.uniq h.1 rb, h.2⟩ : e = .returned (spanE b.1 b.2 0) ∧ Below w.heap.size w w'))
    have K4 := Lib.hid (fun w => (radd_run a.1 a.2 b.1 b.2 sa.l1 sa.l2 sb.l1 sb.l2 w).mono fun e w' h => (⟨h.1.all.uniq rd.all, h.2⟩ : e = .returned (spanE d.1 d.2 0) ∧ Below w.heap.size w w'))
    have K5 := Lib.hid (fun w => rhas_run (x := oneW) sd.l1 sd.l2 of w)
    rw [t5] at K5
    have g1 := ge_words (fit_fin s1.l1 s1.fits.1) nf
    have g2 := le_words (fit_fin s1.l2 s1.fits.2.1) of
    have g3 := ge_words (fit_fin s2.l1 s2.fits.1) nf
    have g4 := le_words (fit_fin s2.l2 s2.fits.2.1) of
    rw [decide_eq_true H.up.lo] at g1
    rw [decide_eq_true H.up.hi] at g2
    rw [decide_eq_true H.uq.lo] at g3
    rw [decide_eq_true H.uq.hi] at g4
    unfold ppi pv spanV at K1
    unfold spanE spanV at K2 K3 K4
    unfold spanV at K5
    unfold oneW at K5 g2 g4
    unfold noneW at g1 g3
    clear R H Rs i1 i2 A bd s1 s2 sa ra ea sb rb eb sd rd ed one of nf t5 h0
    go_enter Try.func8, Try.ntmps8
    go_wp2_with fail
    refine (AW.out w).mono ?_
    rintro _ v0 ⟨rfl, hb⟩
    have C := (Cls.nil w).on hb
    replace C := Lib.hid C
    clear hb AW
    go_wp2_with fail
    refine (K1.out v0).mono ?_
    rintro _ v1 ⟨rfl, hb⟩
    have C2 := ((C.out.on hb).new p.1 p.2).new q.1 q.2
    simp only [List.nil_append, List.cons_append] at C2
    rw [show (v1.alloc (boxO p.1 p.2)).heap.size = v1.heap.size + 1 by simp] at C2
    unfold boxO at C2
    have p0a := (C2.at_ 0 rfl).lo
    have p0b := (C2.at_ 0 rfl).hi
    have p1a := (C2.at_ 1 rfl).lo
    have p1b := (C2.at_ 1 rfl).hi
    replace C := Lib.hid C2
    clear C2 hb K1
    go_wp2_with fail
    clear p0a p0b p1a p1b
    generalize (v1.alloc _).alloc _ = u1 at *
    generalize v1.heap.size = g1' at *
    refine (K2.out u1).mono ?_
    rintro _ v2 ⟨rfl, hb⟩
    have C2 := (C.out.on hb).new a.1 a.2
    simp only [List.nil_append, List.cons_append] at C2
    unfold boxO at C2
    have p0a := (C2.at_ 0 rfl).lo
    have p0b := (C2.at_ 0 rfl).hi
    have p1a := (C2.at_ 1 rfl).lo
    have p1b := (C2.at_ 1 rfl).hi
    have p2a := (C2.at_ 2 rfl).lo
    have p2b := (C2.at_ 2 rfl).hi
    replace C := Lib.hid C2
    clear C2 hb K2
    go_wp2_with fail
    clear p0a p0b p1a p1b p2a p2b
    generalize v2.alloc _ = u2 at *
    generalize v2.heap.size = g2' at *
    refine (K3.out u2).mono ?_
    rintro _ v3 ⟨rfl, hb⟩
    have C2 := (C.out.on hb).new b.1 b.2
    simp only [List.nil_append, List.cons_append] at C2
    unfold boxO at C2
    have p0a := (C2.at_ 0 rfl).lo
    have p0b := (C2.at_ 0 rfl).hi
    have p1a := (C2.at_ 1 rfl).lo
    have p1b := (C2.at_ 1 rfl).hi
    have p2a := (C2.at_ 2 rfl).lo
    have p2b := (C2.at_ 2 rfl).hi
    have p3a := (C2.at_ 3 rfl).lo
    have p3b := (C2.at_ 3 rfl).hi
    replace C := Lib.hid C2
    clear C2 hb K3
    go_wp2_with fail
    clear p0a p0b p1a p1b p2a p2b p3a p3b
    generalize v3.alloc _ = u3 at *
    generalize v3.heap.size = g3' at *
    refine (K4.out u3).mono ?_
    rintro _ v4 ⟨rfl, hb⟩
    have C2 := (C.out.on hb).new d.1 d.2
    simp only [List.nil_append, List.cons_append] at C2
    unfold boxO at C2
    have p0a := (C2.at_ 0 rfl).lo
    have p0b := (C2.at_ 0 rfl).hi
    have p1a := (C2.at_ 1 rfl).lo
    have p1b := (C2.at_ 1 rfl).hi
    have p2a := (C2.at_ 2 rfl).lo
    have p2b := (C2.at_ 2 rfl).hi
    have p3a := (C2.at_ 3 rfl).lo
    have p3b := (C2.at_ 3 rfl).hi
    have p4a := (C2.at_ 4 rfl).lo
    have p4b := (C2.at_ 4 rfl).hi
    replace C := Lib.hid C2
    clear C2 hb K4
    go_wp2_with fail
    clear p0a p0b p1a p1b p2a p2b p3a p3b p4a p4b
    generalize v4.alloc _ = u4 at *
    generalize v4.heap.size = g4' at *
    refine (K5.out u4).mono ?_
    rintro _ v5 ⟨rfl, hb⟩
    have C2 := C.out.on hb
    have q0 := (C2.at_ 0 rfl).lo
    have q1 := (C2.at_ 0 rfl).hi
    have q2 := (C2.at_ 1 rfl).lo
    have q3 := (C2.at_ 1 rfl).hi
    have O := Lib.hid C2.old
    clear C C2 hb K5
    go_wp2_with fail
    go_ret
    exact ⟨rfl, O.out⟩
  · have tk : (k != 0) = true := by simpa using hk
    unfold ppi pv spanV at K1
    clear R h0 hk
    go_enter Try.func8, Try.ntmps8
    go_wp2_with fail
    refine (AW.out w).mono ?_
    rintro _ v0 ⟨rfl, hb⟩
    have C := (Cls.nil w).on hb
    replace C := Lib.hid C
    clear hb AW
    go_wp2_with fail
    refine (K1.out v0).mono ?_
    rintro _ v1 ⟨rfl, hb⟩
    have C2 := ((C.out.on hb).new p.1 p.2).new q.1 q.2
    simp only [List.nil_append, List.cons_append] at C2
    rw [show (v1.alloc (boxO p.1 p.2)).heap.size = v1.heap.size + 1 by simp] at C2
    unfold boxO at C2
    replace C := Lib.hid C2
    clear C2 hb K1
    go_wp2_with fail
    go_ret
    exact ⟨rfl, C.out.old⟩

theorem own : ownKnob Try.prog.godebug = none := by kernel_rfl
theorem laidOut : laidOutB Try.prog = true := by kernel_rfl
theorem cellsF : Try.prog.cellsOf 22 = 1 := by kernel_rfl
theorem bytesF : Try.prog.bytesOf 22 = 8 := by kernel_rfl
theorem wf64 {b : Nat} (h : (Lit.float .f64 b).wf = true) : b < 18446744073709551616 := by
  simp only [Lit.wf, decide_eq_true_eq] at h; exact h

set_option maxRecDepth 100000 in
theorem lifted (os : Os) (started : os.Started) (H : Type) (enc : TypeId × Value → H) :
    ReturnsInHanded {} Try.checked os 8 .any (Rows.turnOnesSpec.pre6 enc Try.prog Try.f8 Rows.turnOnesRow.domain false) (Rows.turnOnesSpec.post enc Try.prog Try.f8 false true false false) := by
  refine returnsInHanded_of_change_sized (C := Try.checked) own started (by kernel_rfl) Try.func8
    (ChangeSpec.witness6 (enc := enc) (C := Try.checked) false ⟨#[], #[.float .f64 0], []⟩ 8 (by kernel_rfl) (by kernel_rfl) (by kernel_rfl) (by kernel_rfl)) ?_
  intro W base args ds gs before hval0 hW _ hsz0 _
  have hsz : (DataW.weightsEach Try.prog (Try.f8.params.toList ++ Rows.turnOnesSpec.plain.varTypes Try.prog) (ds ++ gs)).all (· ≤ reachBytes) = true := hsz0
  clear hsz0
  have hval : ∀ (j : Nat) t v, Try.f8.params[j]? = some t → args[j]? = some v → Value.okWide Try.prog W .any base t v := hval0
  have hW' := hW
  obtain ⟨p, q, hA0, hV, rfl, _, _⟩ := hW
  have hA : DataW.TrodAll enc Try.prog W 0 (fun _ => true) true Try.f8.params.toList args.toList ds p := hA0
  rw [Try.params8] at hA hval hsz
  obtain ⟨v0, vs0, d0, ds0, p0, q0, hargs, rfl, rfl, t0, r0⟩ := trodAll_cons hA
  obtain ⟨rfl, rfl, rfl⟩ := trodAll_nil r0
  obtain rfl : args = #[v0] := by cases args; simp_all
  obtain ⟨rfl, rfl⟩ := trodVars_none hV
  simp only [List.append_nil] at hW'
  obtain ⟨a0, rfl, rfl, rfl, w0⟩ := open_float Try.underlying22 (hval 0 22 v0 rfl rfl) t0
  clear hA0 hval0
  refine (walk W a0 (wf64 w0)).mono fun e W' ⟨he, hb⟩ => ?_
  subst he
  refine ⟨_, rfl, _, _, _, [], _, [], hW', trodAll_cons_mk (shut_bool Try.underlying4 _) trodAll_mk0, (trodAll_cons_mk (shut_float Try.underlying22 w0) trodAll_mk0), rfl, hb.frame _, fun h => by cases h⟩

theorem over : Rows.turnOnesRow.holds Try.pinned (OpenSpec.ofChange Rows.turnOnesSpec) :=
  OpenClaim.holds_of_wide 8 Try.f8 rfl rfl rfl rfl rfl rfl rfl ⟨rfl, rfl, rfl, rfl, rfl⟩ rfl rfl rfl rfl rfl (by kernel_rfl) Try.func8 (by kernel_rfl)
    (of_decide_eq_true (by kernel_rfl)) (by unfold Func.isWrapper; first | (rw [if_pos (by decide +kernel)]; kernel_rfl) | (rw [if_neg (by decide +kernel)]; exact ⟨rfl, rfl⟩))
    (fun os started H enc _ => lifted os started H enc)

theorem proved : Rows.TurnOnesSaid :=
  over
end Go.Proofs.Ytbhohpobpecepaa.turnOnes
