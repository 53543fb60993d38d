/- Proved here: for every span (and all that are none) the law SpanMiddle returns true: the middle lies within; a single number has no width. No conditions. -/
import Derived.Test.YtkfagpahbojigaaRows
import Derived.Test.YtkfagpahbojigaaSset
import Derived.Test.YtkfagpahbojigaaThn
import Derived.Test.YtkfagpahbojigaaSpf
namespace Go.Proofs.Ytkfagpahbojigaa.spanMiddle
open Go.ChangeShapes Go.WideShapes Go.ChangeAt Go.RowKit Ieee.Own

theorem rn_lt {z : Int} {k n : Nat} (h : z.natAbs ≤ 2 ^ k) (hk : k < n) : (RN z).natAbs < 2 ^ n := Nat.lt_of_le_of_lt (RN_bound h) (two_lt hk)
theorem abs_two {x y : Int} {k : Nat} (hx : x.natAbs ≤ 2 ^ k) (hy : y.natAbs ≤ 2 ^ k) : (x - y).natAbs ≤ 2 ^ (k + 1) := by
  rw [Nat.pow_succ]
  generalize 2 ^ k = z at *
  omega
set_option maxHeartbeats 2000000 in
theorem walk (w : World) (a0 b0 : Nat) (ha0 : a0 < 18446744073709551616) (hb0 : b0 < 18446744073709551616) :
    Calls Try.prog 10 #[spanV a0 b0] w fun e w' => e = .returned (.bool true) ∧ Below w.heap.size w w' := by
  have AW := Lib.hid awake_run
  have CK := Lib.hid (fun w => rscheck_run a0 b0 ha0 hb0 w)
  have C0 : Cls w [(w.heap.size, a0, b0)] (w.alloc (boxO a0 b0)) := (Cls.nil w).new a0 b0
  unfold boxO at C0
  by_cases h0 : errS a0 b0 = 0
  · obtain ⟨f1, f2, le⟩ := errS_zero h0
    have ga := fit_fin ha0 f1
    have gb := fit_fin hb0 f2
    obtain ⟨m, ⟨fm, m1, m2⟩, MD⟩ := smid_ok ha0 hb0 h0
    obtain ⟨v, ⟨fv, U⟩, WD⟩ := swidth_ok ha0 hb0 h0
    replace MD := Lib.hid MD
    replace WD := Lib.hid WD
    have uge : V b0 - V a0 - V v ≤ 0 := U.ge
    have ulow : V b0 = V a0 → V v ≤ 0 := fun e => by
      have := U.low 0 zero_fin (by show V b0 - V a0 - V 0 ≤ 0; rw [V_zero]; omega)
      rwa [V_zero] at this
    have bz := abs_two (fit_abs (k := 1275) hb0 f2 (Nat.le_refl _)) (fit_abs (k := 1275) ha0 f1 (Nat.le_refl _))
    obtain ⟨r, rs, fr, vr⟩ := sub_spec gb ga (rn_lt (n := 2098) bz (by omega))
    have vle : V r ≤ V v := by
      rw [vr, ← RN_exact (Rep_V v)]
      exact RN_mono (by omega)
    have t1 := ge_words fm ga
    rw [decide_eq_true m1] at t1
    have t2 := le_words fm gb
    rw [decide_eq_true m2] at t2
    have t3 := ge_words fv zero_fin
    rw [V_zero, decide_eq_true (by omega)] at t3
    have t4 := eq_words fv zero_fin
    rw [V_zero] at t4
    have t5 := eq_words ga gb
    have t6 := ge_words fv fr
    rw [decide_eq_true vle] at t6
    have r1 := fun w => run_sub b0 a0 r rs 22 w
    rw [h0] at CK
    unfold spanV at *
    replace C0 := Lib.hid C0
    by_cases e : V a0 = V b0
    · rw [decide_eq_true e] at t5
      rw [decide_eq_true (by have := ulow e.symm; omega)] at t4
      clear e h0 f1 f2 le ga gb fm m1 m2 fv U uge ulow bz rs fr vr vle ha0 hb0
      go_enter Try.func10, Try.ntmps10
      go_wp2_with fail
      have C := C0.out
      clear C0
      generalize w.alloc _ = wr at *
      refine (AW.out wr).mono ?_
      rintro _ v0 ⟨rfl, hb⟩
      have D := C.on hb
      clear C hb wr
      have p0 := (D.at_ 0 rfl).lo
      have q0 := (D.at_ 0 rfl).hi
      replace D := Lib.hid D
      go_wp2_with fail
      refine (MD.out v0).mono ?_
      rintro _ v1 ⟨rfl, hb⟩
      have D := D.out.on hb
      clear hb p0 q0
      have p0 := (D.at_ 0 rfl).lo
      have q0 := (D.at_ 0 rfl).hi
      replace D := Lib.hid D
      go_wp2_with fail
      refine (WD.out v1).mono ?_
      rintro _ v2 ⟨rfl, hb⟩
      have D := D.out.on hb
      clear hb p0 q0
      have p0 := (D.at_ 0 rfl).lo
      have q0 := (D.at_ 0 rfl).hi
      replace D := Lib.hid D
      go_wp2_with fail
      refine (CK.out v2).mono ?_
      rintro _ v3 ⟨rfl, hb⟩
      have D := D.out.on hb
      clear hb p0 q0
      have p0 := (D.at_ 0 rfl).lo
      have q0 := (D.at_ 0 rfl).hi
      replace D := Lib.hid D
      go_wp2_with fail
      go_ret
      exact ⟨rfl, D.out.old⟩
    · rw [decide_eq_false e] at t5
      rw [decide_eq_false (by omega)] at t4
      have t7 := gt_words fv zero_fin
      rw [V_zero, decide_eq_true (by omega)] at t7
      clear e h0 f1 f2 le ga gb fm m1 m2 fv U uge ulow bz rs fr vr vle ha0 hb0
      go_enter Try.func10, Try.ntmps10
      go_wp2_with fail
      have C := C0.out
      clear C0
      generalize w.alloc _ = wr at *
      refine (AW.out wr).mono ?_
      rintro _ v0 ⟨rfl, hb⟩
      have D := C.on hb
      clear C hb wr
      have p0 := (D.at_ 0 rfl).lo
      have q0 := (D.at_ 0 rfl).hi
      replace D := Lib.hid D
      go_wp2_with fail
      refine (MD.out v0).mono ?_
      rintro _ v1 ⟨rfl, hb⟩
      have D := D.out.on hb
      clear hb p0 q0
      have p0 := (D.at_ 0 rfl).lo
      have q0 := (D.at_ 0 rfl).hi
      replace D := Lib.hid D
      go_wp2_with fail
      refine (WD.out v1).mono ?_
      rintro _ v2 ⟨rfl, hb⟩
      have D := D.out.on hb
      clear hb p0 q0
      have p0 := (D.at_ 0 rfl).lo
      have q0 := (D.at_ 0 rfl).hi
      replace D := Lib.hid D
      go_wp2_with fail
      refine (CK.out v2).mono ?_
      rintro _ v3 ⟨rfl, hb⟩
      have D := D.out.on hb
      clear hb p0 q0
      have p0 := (D.at_ 0 rfl).lo
      have q0 := (D.at_ 0 rfl).hi
      replace D := Lib.hid D
      go_wp2_with fail
      go_ret
      exact ⟨rfl, D.out.old⟩
  · have MD := Lib.hid (fun w => smid_no ha0 hb0 h0 w)
    have WD := Lib.hid (fun w => swidth_no ha0 hb0 h0 w)
    have t : (errS a0 b0 != 0) = true := by simpa using h0
    unfold spanV at *
    replace C0 := Lib.hid C0
    clear h0 ha0 hb0
    generalize errS a0 b0 = er at *
    go_enter Try.func10, Try.ntmps10
    go_wp2_with fail
    have C := C0.out
    clear C0
    generalize w.alloc _ = wr at *
    refine (AW.out wr).mono ?_
    rintro _ v0 ⟨rfl, hb⟩
    have D := C.on hb
    clear C hb wr
    have p0 := (D.at_ 0 rfl).lo
    have q0 := (D.at_ 0 rfl).hi
    replace D := Lib.hid D
    go_wp2_with fail
    refine (MD.out v0).mono ?_
    rintro _ v1 ⟨rfl, hb⟩
    have D := D.out.on hb
    clear hb p0 q0
    have p0 := (D.at_ 0 rfl).lo
    have q0 := (D.at_ 0 rfl).hi
    replace D := Lib.hid D
    go_wp2_with fail
    refine (WD.out v1).mono ?_
    rintro _ v2 ⟨rfl, hb⟩
    have D := D.out.on hb
    clear hb p0 q0
    have p0 := (D.at_ 0 rfl).lo
    have q0 := (D.at_ 0 rfl).hi
    replace D := Lib.hid D
    go_wp2_with fail
    refine (CK.out v2).mono ?_
    rintro _ v3 ⟨rfl, hb⟩
    have D := D.out.on hb
    clear hb p0 q0
    have p0 := (D.at_ 0 rfl).lo
    have q0 := (D.at_ 0 rfl).hi
    replace D := Lib.hid D
    go_wp2_with fail
    go_ret
    exact ⟨rfl, D.out.old⟩

theorem own : ownKnob Try.prog.godebug = none := by kernel_rfl
theorem laidOut : laidOutB Try.prog = true := by kernel_rfl
theorem cellsF : Try.prog.cellsOf 22 = 1 := by kernel_rfl
theorem bytesF : Try.prog.bytesOf 22 = 8 := by kernel_rfl
theorem wf64 {b : Nat} (h : (Lit.float .f64 b).wf = true) : b < 18446744073709551616 := by
  simp only [Lit.wf, decide_eq_true_eq] at h; exact h

set_option maxRecDepth 100000 in
theorem lifted (os : Os) (started : os.Started) (H : Type) (enc : TypeId × Value → H) :
    ReturnsInHanded {} Try.checked os 10 .any (Rows.spanMiddleSpec.pre6 enc Try.prog Try.f10 Rows.spanMiddleRow.domain false) (Rows.spanMiddleSpec.post enc Try.prog Try.f10 false true false false) := by
  refine returnsInHanded_of_change_sized (C := Try.checked) own started (by kernel_rfl) Try.func10
    (ChangeSpec.witness6 (enc := enc) (C := Try.checked) false ⟨#[], #[.agg #[.float .f64 0, .float .f64 0]], []⟩ 8 (by kernel_rfl) (by kernel_rfl) (by kernel_rfl) (by kernel_rfl)) ?_
  intro W base args ds gs before hval0 hW _ hsz0 _
  have hsz : (DataW.weightsEach Try.prog (Try.f10.params.toList ++ Rows.spanMiddleSpec.plain.varTypes Try.prog) (ds ++ gs)).all (· ≤ reachBytes) = true := hsz0
  clear hsz0
  have hval : ∀ (j : Nat) t v, Try.f10.params[j]? = some t → args[j]? = some v → Value.okWide Try.prog W .any base t v := hval0
  have hW' := hW
  obtain ⟨p, q, hA0, hV, rfl, _, _⟩ := hW
  have hA : DataW.TrodAll enc Try.prog W 0 (fun _ => true) true Try.f10.params.toList args.toList ds p := hA0
  rw [Try.params10] at hA hval hsz
  obtain ⟨v0, vs0, d0, ds0, p0, q0, hargs, rfl, rfl, t0, r0⟩ := trodAll_cons hA
  obtain ⟨rfl, rfl, rfl⟩ := trodAll_nil r0
  obtain rfl : args = #[v0] := by cases args; simp_all
  obtain ⟨rfl, rfl⟩ := trodVars_none hV
  simp only [List.append_nil] at hW'
  have tk0 := t0
  obtain ⟨a0, b0, rfl, wa0, wb0⟩ := open_span (hval 0 24 v0 rfl rfl) t0
  have hlt0 : ∀ x ∈ p0, x.block < W.heap.size := fun x hx => by have := hW'.lt x (by simp [hx]); simpa using this
  clear hA0 hval0
  refine (walk W a0 b0 wa0 wb0).mono fun e W' ⟨he, hb⟩ => ?_
  subst he
  refine ⟨_, rfl, _, _, _, [], _, [], hW', trodAll_cons_mk (shut_bool Try.underlying4 _) trodAll_mk0, (trodAll_cons_mk (Below.trod laidOut (by kernel_rfl) (of_decide_eq_true (by kernel_rfl)) tk0 hb hlt0) trodAll_mk0), rfl, hb.frame _, fun h => by cases h⟩

theorem over : Rows.spanMiddleRow.holds Try.pinned (OpenSpec.ofChange Rows.spanMiddleSpec) :=
  OpenClaim.holds_of_wide 10 Try.f10 rfl rfl rfl rfl rfl rfl rfl ⟨rfl, rfl, rfl, rfl, rfl⟩ rfl rfl rfl rfl rfl (by kernel_rfl) Try.func10 (by kernel_rfl)
    (of_decide_eq_true (by kernel_rfl)) (by unfold Func.isWrapper; first | (rw [if_pos (by decide +kernel)]; kernel_rfl) | (rw [if_neg (by decide +kernel)]; exact ⟨rfl, rfl⟩))
    (fun os started H enc _ => lifted os started H enc)

theorem proved : Rows.SpanMiddleSaid :=
  over
end Go.Proofs.Ytkfagpahbojigaa.spanMiddle
