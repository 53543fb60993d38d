/- Proved here: for every number and every span (and all that are none) the law TurnSpans returns true: spans at a number, over a span, end by end. No conditions. -/
import Derived.Test.YtbhohpobpecepaaGreatRows
import Derived.Test.YtbhohpobpecepaaGreatJb6
import Derived.Test.YtbhohpobpecepaaGreatJb10
import Derived.Test.YtbhohpobpecepaaGreatJb2
namespace Go.Proofs.YtbhohpobpecepaaGreat.turnSpans
open Go.ChangeShapes Go.WideShapes Go.ChangeAt Go.RowKit Ieee.Own

set_option maxHeartbeats 2000000 in
theorem walk (w : World) (a0 : Nat) (h0 : a0 < 18446744073709551616) (a1 b1 : Nat) (ha1 : a1 < 18446744073709551616) (hb1 : b1 < 18446744073709551616) :
    Calls Tryz.prog 3 #[.float .f64 a0, spanV a1 b1] w fun e w' => e = .returned (.bool true) ∧ Below w.heap.size w w' := by
  have AW := Lib.hid awake5
  obtain ⟨p, q, k, R, K1⟩ := upoint_run h0
  obtain ⟨p', q', k', R', K2⟩ := vpoint_run h0
  obtain ⟨rfl, rfl, rfl⟩ := R.uniq R'
  obtain ⟨u, v, g, S, K3⟩ := uspans_run ha1 hb1
  obtain ⟨u', v', g', S', K4⟩ := vspans_run ha1 hb1
  obtain ⟨rfl, rfl, rfl⟩ := S.uniq S'
  have t1 : (k != k) = false := bne_self_eq_false k
  have t2 : (g == g) = true := beq_self_eq_true g
  replace K1 := Lib.hid K1
  replace K2 := Lib.hid K2
  replace K3 := Lib.hid K3
  replace K4 := Lib.hid K4
  have K5 := Lib.hid (fun w => samespan_run p.1 p.2 w)
  have K6 := Lib.hid (fun w => samespan_run q.1 q.2 w)
  have K7 := Lib.hid (fun w => samespan_run u.1 u.2 w)
  have K8 := Lib.hid (fun w => samespan_run v.1 v.2 w)
  have hst := @fstore
  have C0 : Cls w [(w.heap.size, a1, b1)] (w.alloc (boxO a1 b1)) := (Cls.nil w).new a1 b1
  unfold boxO at C0
  unfold spanV at K5 K6 K7 K8
  unfold ppi pv spanV at K1 K2 K3 K4
  unfold spanV
  dsimp only at K3 K4
  replace C0 := Lib.hid C0
  clear R R' S S' h0 ha1 hb1
  go_enter Tryz.func3, Tryz.ntmps3
  go_wp2_with fail
  have C := C0.out
  clear C0
  generalize w.alloc _ = wr at *
  refine (AW.out wr).mono ?_
  rintro _ v0 ⟨rfl, hb⟩
  replace C := Lib.hid (C.on hb)
  clear hb AW
  go_wp2_with fail
  refine (K1.out v0).mono ?_
  rintro _ v1 ⟨rfl, hb⟩
  have C2 := ((C.out.on hb).new p.1 p.2).new q.1 q.2
  simp only [List.nil_append, List.cons_append] at C2
  rw [show (v1.alloc (boxO p.1 p.2)).heap.size = v1.heap.size + 1 by simp] at C2
  unfold boxO at C2
  replace C := Lib.hid C2
  clear C2 hb K1
  go_wp2_with fail
  generalize (v1.alloc _).alloc _ = u1 at *
  generalize v1.heap.size = g1 at *
  refine (K2.out u1).mono ?_
  rintro _ v2 ⟨rfl, hb⟩
  have C2 := ((C.out.on hb).new p.1 p.2).new q.1 q.2
  simp only [List.nil_append, List.cons_append] at C2
  rw [show (v2.alloc (boxO p.1 p.2)).heap.size = v2.heap.size + 1 by simp] at C2
  unfold boxO at C2
  have p1a := (C2.at_ 1 rfl).lo
  have p1b := (C2.at_ 1 rfl).hi
  have p3a := (C2.at_ 3 rfl).lo
  have p3b := (C2.at_ 3 rfl).hi
  replace C := Lib.hid C2
  clear C2 hb K2
  go_wp2_with fail
  clear p1a p1b p3a p3b
  generalize (v2.alloc _).alloc _ = u2 at *
  generalize v2.heap.size = g2 at *
  refine (K5.out u2).mono ?_
  rintro _ v3 ⟨rfl, hb⟩
  have C2 := C.out.on hb
  have p2a := (C2.at_ 2 rfl).lo
  have p2b := (C2.at_ 2 rfl).hi
  have p4a := (C2.at_ 4 rfl).lo
  have p4b := (C2.at_ 4 rfl).hi
  replace C := Lib.hid C2
  clear C2 hb K5
  go_wp2_with fail
  clear p2a p2b p4a p4b
  refine (K6.out v3).mono ?_
  rintro _ v4 ⟨rfl, hb⟩
  have C2 := C.out.on hb
  have p0a := (C2.at_ 0 rfl).lo
  have p0b := (C2.at_ 0 rfl).hi
  replace C := Lib.hid C2
  clear C2 hb K6
  go_wp2_with fail
  clear p0a p0b
  refine (K3.out v4).mono ?_
  rintro _ v5 ⟨rfl, hb⟩
  have C1 := C.out.on hb
  have a0 := (C1.at_ 1 rfl).lo
  have a1' := (C1.at_ 1 rfl).hi
  have a2 := (C1.at_ 1 rfl).f0
  have a3 := (C1.at_ 1 rfl).f1
  have b0 := (C1.at_ 2 rfl).lo
  have b1' := (C1.at_ 2 rfl).hi
  have b2 := (C1.at_ 2 rfl).f0
  have b3 := (C1.at_ 2 rfl).f1
  have CX := C1.put 1 rfl u.1 u.2
  simp only [List.set_cons_zero, List.set_cons_succ] at CX
  unfold put2 at CX
  have c0 := (CX.at_ 2 rfl).lo
  have c1 := (CX.at_ 2 rfl).hi
  have c2 := (CX.at_ 2 rfl).f0
  have c3 := (CX.at_ 2 rfl).f1
  have C2 := CX.put 2 rfl v.1 v.2
  simp only [List.set_cons_zero, List.set_cons_succ] at C2
  unfold put2 at C2
  have p0a := (C2.at_ 0 rfl).lo
  have p0b := (C2.at_ 0 rfl).hi
  replace C := Lib.hid C2
  clear C1 CX C2 hb K3
  go_wp2_with fail
  clear a0 a1' a2 a3 b0 b1' b2 b3 c0 c1 c2 c3
  clear p0a p0b
  generalize World.setCell _ _ _ = u5 at *
  refine (K4.out u5).mono ?_
  rintro _ v6 ⟨rfl, hb⟩
  have C1 := C.out.on hb
  have a0 := (C1.at_ 3 rfl).lo
  have a1' := (C1.at_ 3 rfl).hi
  have a2 := (C1.at_ 3 rfl).f0
  have a3 := (C1.at_ 3 rfl).f1
  have b0 := (C1.at_ 4 rfl).lo
  have b1' := (C1.at_ 4 rfl).hi
  have b2 := (C1.at_ 4 rfl).f0
  have b3 := (C1.at_ 4 rfl).f1
  have CX := C1.put 3 rfl u.1 u.2
  simp only [List.set_cons_zero, List.set_cons_succ] at CX
  unfold put2 at CX
  have c0 := (CX.at_ 4 rfl).lo
  have c1 := (CX.at_ 4 rfl).hi
  have c2 := (CX.at_ 4 rfl).f0
  have c3 := (CX.at_ 4 rfl).f1
  have C2 := CX.put 4 rfl v.1 v.2
  simp only [List.set_cons_zero, List.set_cons_succ] at C2
  unfold put2 at C2
  have p1a := (C2.at_ 1 rfl).lo
  have p1b := (C2.at_ 1 rfl).hi
  have p3a := (C2.at_ 3 rfl).lo
  have p3b := (C2.at_ 3 rfl).hi
  replace C := Lib.hid C2
  clear C1 CX C2 hb K4
  go_wp2_with fail
  clear a0 a1' a2 a3 b0 b1' b2 b3 c0 c1 c2 c3
  clear p1a p1b p3a p3b
  generalize World.setCell _ _ _ = u6 at *
  refine (K7.out u6).mono ?_
  rintro _ v7 ⟨rfl, hb⟩
  have C2 := C.out.on hb
  have p2a := (C2.at_ 2 rfl).lo
  have p2b := (C2.at_ 2 rfl).hi
  have p4a := (C2.at_ 4 rfl).lo
  have p4b := (C2.at_ 4 rfl).hi
  replace C := Lib.hid C2
  clear C2 hb K7
  go_wp2_with fail
  clear p2a p2b p4a p4b
  refine (K8.out v7).mono ?_
  rintro _ v8 ⟨rfl, hb⟩
  replace C := Lib.hid (C.out.on hb)
  clear hb K8
  go_wp2_with fail
  go_ret
  exact ⟨by first | rfl | trivial, C.out.old⟩

theorem own : ownKnob Tryz.prog.godebug = none := by kernel_rfl
theorem laidOut : laidOutB Tryz.prog = true := by kernel_rfl
theorem cellsF : Tryz.prog.cellsOf 22 = 1 := by kernel_rfl
theorem bytesF : Tryz.prog.bytesOf 22 = 8 := by kernel_rfl
theorem wf64 {b : Nat} (h : (Lit.float .f64 b).wf = true) : b < 18446744073709551616 := by
  simp only [Lit.wf, decide_eq_true_eq] at h; exact h

set_option maxRecDepth 100000 in
theorem lifted (os : Os) (started : os.Started) (H : Type) (enc : TypeId × Value → H) :
    ReturnsInHanded {} Tryz.checked os 3 .any (Rows.turnSpansSpec.pre6 enc Tryz.prog Tryz.f3 Rows.turnSpansRow.domain false) (Rows.turnSpansSpec.post enc Tryz.prog Tryz.f3 false true false false) := by
  refine returnsInHanded_of_change_sized (C := Tryz.checked) own started (by kernel_rfl) Tryz.func3
    (ChangeSpec.witness6 (enc := enc) (C := Tryz.checked) false ⟨#[], #[.float .f64 0, .agg #[.float .f64 0, .float .f64 0]], []⟩ 8 (by kernel_rfl) (by kernel_rfl) (by kernel_rfl) (by kernel_rfl)) ?_
  intro W base args ds gs before hval0 hW _ hsz0 _
  have hsz : (DataW.weightsEach Tryz.prog (Tryz.f3.params.toList ++ Rows.turnSpansSpec.plain.varTypes Tryz.prog) (ds ++ gs)).all (· ≤ reachBytes) = true := hsz0
  clear hsz0
  have hval : ∀ (j : Nat) t v, Tryz.f3.params[j]? = some t → args[j]? = some v → Value.okWide Tryz.prog W .any base t v := hval0
  have hW' := hW
  obtain ⟨p, q, hA0, hV, rfl, _, _⟩ := hW
  have hA : DataW.TrodAll enc Tryz.prog W 0 (fun _ => true) true Tryz.f3.params.toList args.toList ds p := hA0
  rw [Tryz.params3] at hA hval hsz
  obtain ⟨v0, vs0, d0, ds0, p0, q0, hargs, rfl, rfl, t0, r0⟩ := trodAll_cons hA
  obtain ⟨v1, vs1, d1, ds1, p1, q1, rfl, rfl, rfl, t1, r1⟩ := trodAll_cons r0
  obtain ⟨rfl, rfl, rfl⟩ := trodAll_nil r1
  obtain rfl : args = #[v0, v1] := by cases args; simp_all
  obtain ⟨rfl, rfl⟩ := trodVars_none hV
  simp only [List.append_nil] at hW'
  obtain ⟨a0, rfl, rfl, rfl, w0⟩ := open_float Tryz.underlying22 (hval 0 22 v0 rfl rfl) t0
  have tk1 := t1
  obtain ⟨a1, b1, rfl, wa1, wb1⟩ := open_span (hval 1 24 v1 rfl rfl) t1
  have hlt1 : ∀ x ∈ p1, x.block < W.heap.size := fun x hx => by have := hW'.lt x (by simp [hx]); simpa using this
  clear hA0 hval0
  refine (walk W a0 (wf64 w0) a1 b1 wa1 wb1).mono fun e W' ⟨he, hb⟩ => ?_
  subst he
  refine ⟨_, rfl, _, _, _, [], _, [], hW', trodAll_cons_mk (shut_bool Tryz.underlying4 _) trodAll_mk0, (trodAll_cons_mk (shut_float Tryz.underlying22 w0) (trodAll_cons_mk (Below.trod laidOut (by kernel_rfl) (of_decide_eq_true (by kernel_rfl)) tk1 hb hlt1) trodAll_mk0)), rfl, hb.frame _, fun h => by cases h⟩

theorem over : Rows.turnSpansRow.holds Tryz.pinned (OpenSpec.ofChange Rows.turnSpansSpec) :=
  OpenClaim.holds_of_wide 3 Tryz.f3 rfl rfl rfl rfl rfl rfl rfl ⟨rfl, rfl, rfl, rfl, rfl⟩ rfl rfl rfl rfl rfl (by kernel_rfl) Tryz.func3 (by kernel_rfl)
    (of_decide_eq_true (by kernel_rfl)) (by unfold Func.isWrapper; first | (rw [if_pos (by decide +kernel)]; kernel_rfl) | (rw [if_neg (by decide +kernel)]; exact ⟨rfl, rfl⟩))
    (fun os started H enc _ => lifted os started H enc)

theorem proved : Rows.TurnSpansSaid :=
  over
end Go.Proofs.YtbhohpobpecepaaGreat.turnSpans
