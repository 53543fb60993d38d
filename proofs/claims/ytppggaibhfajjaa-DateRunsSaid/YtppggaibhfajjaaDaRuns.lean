/- Proved here: DateRuns returns true for every input (its only condition: that the input can be read as data). -/
import Derived.Test.YtppggaibhfajjaaDaw
import Derived.Test.YtppggaibhfajjaaDao
namespace Go.Proofs.Ytppggaibhfajjaa.dateRuns
open Go.ChangeShapes Go.WideShapes Go.ChangeAt Go.RowKit

/-- a block of cells that stays -/
def PB (g : Nat) (l : Array Value) (w : World) : Prop := g < w.heap.size ∧ ∀ j, w.cell? ⟨g, j, none⟩ = l[j]?
theorem PB.on {g : Nat} {l : Array Value} {w w' : World} (h : PB g l w) (hb : Below w.heap.size w w') : PB g l w' :=
  ⟨Nat.lt_of_lt_of_le h.1 hb.size, fun j => (hb.cell (p := ⟨g, j, none⟩) h.1).trans (h.2 j)⟩
theorem PB.alloc {g : Nat} {l : Array Value} {w : World} (h : PB g l w) (o : Obj) : PB g l (w.alloc o) :=
  ⟨by have := h.1; simp; omega, fun j => by rw [World.cell?_alloc_past _ _ _ h.1]; exact h.2 j⟩
theorem PB.first (w : World) (l : Array Value) (T : TypeId) : PB w.heap.size l (w.alloc (.cells l T)) :=
  ⟨by simp, fun j => World.cell?_alloc_at _ _ _ _ rfl⟩
theorem runs_one (t : Int) : lexB (dL t) (dL (t + 1)) = true := by
  rw [lex_dates]; exact decide_eq_true (by omega)
theorem toV_any (t : Int) : ∃ q0 q1 q2 q3 q4 q5 q6 k : Int, toV t = .tuple #[.agg #[.int .i64 q0, .int .i64 q1, .int .i64 q2, .int .i64 q3, .int .i64 q4, .int .i64 q5, .int .i64 q6], .int .i64 k] := by
  cases h : isI t with
  | true => exact ⟨_, _, _, _, _, _, _, _, toV_t h⟩
  | false => exact ⟨_, _, _, _, _, _, _, _, toV_f h⟩
set_option maxHeartbeats 2000000 in
set_option maxRecDepth 100000 in
theorem walk (w : World) (a0 : Int) (_h0 : (Lit.int .i64 a0).wf = true) (a1 : Int) (_h1 : (Lit.int .i64 a1).wf = true) :
    Calls Try.prog 6 #[.int .i64 a0, .int .i64 a1] w fun e w' => e = .returned (.bool true) ∧ Below w.heap.size w w' := by
  have AW := Lib.hid awake_run
  have T0 : Hid (∀ w, Calls Try.prog 12 #[.int .i64 a0] w fun e w' => e = .returned (toV a0) ∧ Below w.heap.size w w') := fun w => to_run a0 w
  have T1 : Hid (∀ w, Calls Try.prog 12 #[.int .i64 a1] w fun e w' => e = .returned (toV a1) ∧ Below w.heap.size w w') := fun w => to_run a1 w
  cases hI : isI a0 with
  | false =>
    rw [toV_f hI] at T0
    unfold noDate dAgg at T0
    obtain ⟨q0, q1, q2, q3, q4, q5, q6, k, hq⟩ := toV_any a1
    rw [hq] at T1
    clear hI hq
    go_enter Try.func6, Try.ntmps6
    go_wp2_with fail
    refine (AW.out _).mono ?_
    rintro _ v0 ⟨rfl, hb1⟩
    have B := Lib.hid hb1
    clear AW hb1
    go_wp2_with fail
    refine (T0.out _).mono ?_
    rintro _ v1 ⟨rfl, hb1⟩
    replace B := Lib.hid (B.out.trans (hb1.mono B.out.size))
    clear T0 hb1
    replace B := Lib.hid (B.out.alloc B.out.size (.cells #[.int .i64 0, .int .i64 0, .int .i64 0, .int .i64 0, .int .i64 0, .int .i64 0, .int .i64 0] 23))
    go_wp2_with fail
    refine (T1.out _).mono ?_
    rintro _ v2 ⟨rfl, hb1⟩
    replace B := Lib.hid (B.out.trans (hb1.mono B.out.size))
    replace B := Lib.hid (B.out.alloc B.out.size (.cells #[.int .i64 q0, .int .i64 q1, .int .i64 q2, .int .i64 q3, .int .i64 q4, .int .i64 q5, .int .i64 q6] 23))
    clear T1 hb1
    go_wp2_with fail
    go_ret
    exact ⟨rfl, B.out⟩
  | true =>
    rw [toV_t hI] at T0
    cases hJ : isI a1 with
    | false =>
      rw [toV_f hJ] at T1
      unfold dateV dAgg at T0
      unfold noDate dAgg at T1
      generalize dYr (a0) = p0 at *
      generalize dMo (a0) = p1 at *
      generalize dDy (a0) = p2 at *
      generalize dHr (a0) = p3 at *
      generalize dMi (a0) = p4 at *
      generalize dSe (a0) = p5 at *
      generalize dTk (a0) = p6 at *
      clear hI hJ
      go_enter Try.func6, Try.ntmps6
      go_wp2_with fail
      refine (AW.out _).mono ?_
      rintro _ v0 ⟨rfl, hb1⟩
      have B := Lib.hid hb1
      clear AW hb1
      go_wp2_with fail
      refine (T0.out _).mono ?_
      rintro _ v1 ⟨rfl, hb1⟩
      replace B := Lib.hid (B.out.trans (hb1.mono B.out.size))
      clear T0 hb1
      replace B := Lib.hid (B.out.alloc B.out.size (.cells #[.int .i64 p0, .int .i64 p1, .int .i64 p2, .int .i64 p3, .int .i64 p4, .int .i64 p5, .int .i64 p6] 23))
      go_wp2_with fail
      refine (T1.out _).mono ?_
      rintro _ v2 ⟨rfl, hb1⟩
      replace B := Lib.hid (B.out.trans (hb1.mono B.out.size))
      replace B := Lib.hid (B.out.alloc B.out.size (.cells #[.int .i64 0, .int .i64 0, .int .i64 0, .int .i64 0, .int .i64 0, .int .i64 0, .int .i64 0] 23))
      clear T1 hb1
      go_wp2_with fail
      go_ret
      exact ⟨rfl, B.out⟩
    | true =>
      rw [toV_t hJ] at T1
      have A2 : Hid (∀ w, Calls Try.prog 27 #[dateV a0, dateV a1] w fun e w' => e = .returned (.bool (decide (a0 < a1))) ∧ Below w.heap.size w w') := fun w => by
        rw [← lex_dates a0 a1]; exact ahead_run _ _ _ _ _ _ _ _ _ _ _ _ _ _ w
      obtain ⟨g1, g2⟩ := isI_b hI
      by_cases hm : a0 < 1125899906842624
      · have A1 : Hid (∀ w, Calls Try.prog 27 #[dateV a0, dateV (a0 + 1)] w fun e w' => e = .returned (.bool true) ∧ Below w.heap.size w w') := fun w => by
          rw [← runs_one a0]; exact ahead_run _ _ _ _ _ _ _ _ _ _ _ _ _ _ w
        have T2 : Hid (∀ w, Calls Try.prog 12 #[.int .i64 (a0 + 1)] w fun e w' => e = .returned (toV (a0 + 1)) ∧ Below w.heap.size w w') := fun w => to_run (a0 + 1) w
        rw [toV_t (isI_t (by omega) (by omega))] at T2
        unfold dateV dAgg at T0 T1 T2 A1 A2
        generalize dYr (a0) = p0 at *
        generalize dMo (a0) = p1 at *
        generalize dDy (a0) = p2 at *
        generalize dHr (a0) = p3 at *
        generalize dMi (a0) = p4 at *
        generalize dSe (a0) = p5 at *
        generalize dTk (a0) = p6 at *
        generalize dYr (a1) = q0 at *
        generalize dMo (a1) = q1 at *
        generalize dDy (a1) = q2 at *
        generalize dHr (a1) = q3 at *
        generalize dMi (a1) = q4 at *
        generalize dSe (a1) = q5 at *
        generalize dTk (a1) = q6 at *
        generalize dYr (a0 + 1) = r0 at *
        generalize dMo (a0 + 1) = r1 at *
        generalize dDy (a0 + 1) = r2 at *
        generalize dHr (a0 + 1) = r3 at *
        generalize dMi (a0 + 1) = r4 at *
        generalize dSe (a0 + 1) = r5 at *
        generalize dTk (a0 + 1) = r6 at *
        have tm : decide (a0 < 1125899906842624) = true := decide_eq_true hm
        clear hI hJ hm
        cases hlt : decide (a0 < a1)
        all_goals
          rw [hlt] at A2
          go_enter Try.func6, Try.ntmps6
          go_wp2_with fail
          refine (AW.out _).mono ?_
          rintro _ v0 ⟨rfl, hb1⟩
          have B := Lib.hid hb1
          clear AW hb1
          go_wp2_with fail
          refine (T0.out _).mono ?_
          rintro _ v1 ⟨rfl, hb1⟩
          replace B := Lib.hid (B.out.trans (hb1.mono B.out.size))
          clear T0 hb1
          replace B := Lib.hid (B.out.alloc B.out.size (.cells #[.int .i64 p0, .int .i64 p1, .int .i64 p2, .int .i64 p3, .int .i64 p4, .int .i64 p5, .int .i64 p6] 23))
          have P := Lib.hid (PB.first v1 #[.int .i64 p0, .int .i64 p1, .int .i64 p2, .int .i64 p3, .int .i64 p4, .int .i64 p5, .int .i64 p6] 23)
          go_wp2_with fail
          refine (T1.out _).mono ?_
          rintro _ v2 ⟨rfl, hb1⟩
          replace B := Lib.hid (B.out.trans (hb1.mono B.out.size))
          replace B := Lib.hid (B.out.alloc B.out.size (.cells #[.int .i64 q0, .int .i64 q1, .int .i64 q2, .int .i64 q3, .int .i64 q4, .int .i64 q5, .int .i64 q6] 23))
          replace P := Lib.hid ((P.out.on hb1).alloc (.cells #[.int .i64 q0, .int .i64 q1, .int .i64 q2, .int .i64 q3, .int .i64 q4, .int .i64 q5, .int .i64 q6] 23))
          have Q := Lib.hid (PB.first v2 #[.int .i64 q0, .int .i64 q1, .int .i64 q2, .int .i64 q3, .int .i64 q4, .int .i64 q5, .int .i64 q6] 23)
          clear T1 hb1
          go_wp2_with fail
          refine (T2.out _).mono ?_
          rintro _ v3 ⟨rfl, hb1⟩
          replace B := Lib.hid (B.out.trans (hb1.mono B.out.size))
          replace B := Lib.hid (B.out.alloc B.out.size (.cells #[.int .i64 r0, .int .i64 r1, .int .i64 r2, .int .i64 r3, .int .i64 r4, .int .i64 r5, .int .i64 r6] 23))
          replace P := Lib.hid ((P.out.on hb1).alloc (.cells #[.int .i64 r0, .int .i64 r1, .int .i64 r2, .int .i64 r3, .int .i64 r4, .int .i64 r5, .int .i64 r6] 23))
          replace Q := Lib.hid ((Q.out.on hb1).alloc (.cells #[.int .i64 r0, .int .i64 r1, .int .i64 r2, .int .i64 r3, .int .i64 r4, .int .i64 r5, .int .i64 r6] 23))
          clear T2 hb1
          have hp := P.out.2
          go_wp2_with fail
          clear hp
          refine (A1.out _).mono ?_
          rintro _ v4 ⟨rfl, hb1⟩
          replace B := Lib.hid (B.out.trans (hb1.mono B.out.size))
          replace P := Lib.hid (P.out.on hb1)
          replace Q := Lib.hid (Q.out.on hb1)
          clear A1 hb1
          have hp := P.out.2
          have hq := Q.out.2
          go_wp2_with fail
          clear hp hq
          refine (A2.out _).mono ?_
          rintro _ v5 ⟨rfl, hb1⟩
          replace B := Lib.hid (B.out.trans (hb1.mono B.out.size))
          clear A2 hb1 P Q
          go_wp2_with fail
          go_ret
          exact ⟨rfl, B.out⟩
      · unfold dateV dAgg at T0 T1 A2
        generalize dYr (a0) = p0 at *
        generalize dMo (a0) = p1 at *
        generalize dDy (a0) = p2 at *
        generalize dHr (a0) = p3 at *
        generalize dMi (a0) = p4 at *
        generalize dSe (a0) = p5 at *
        generalize dTk (a0) = p6 at *
        generalize dYr (a1) = q0 at *
        generalize dMo (a1) = q1 at *
        generalize dDy (a1) = q2 at *
        generalize dHr (a1) = q3 at *
        generalize dMi (a1) = q4 at *
        generalize dSe (a1) = q5 at *
        generalize dTk (a1) = q6 at *
        have tm : decide (a0 < 1125899906842624) = false := decide_eq_false hm
        clear hI hJ hm
        cases hlt : decide (a0 < a1)
        all_goals
          rw [hlt] at A2
          go_enter Try.func6, Try.ntmps6
          go_wp2_with fail
          refine (AW.out _).mono ?_
          rintro _ v0 ⟨rfl, hb1⟩
          have B := Lib.hid hb1
          clear AW hb1
          go_wp2_with fail
          refine (T0.out _).mono ?_
          rintro _ v1 ⟨rfl, hb1⟩
          replace B := Lib.hid (B.out.trans (hb1.mono B.out.size))
          clear T0 hb1
          replace B := Lib.hid (B.out.alloc B.out.size (.cells #[.int .i64 p0, .int .i64 p1, .int .i64 p2, .int .i64 p3, .int .i64 p4, .int .i64 p5, .int .i64 p6] 23))
          have P := Lib.hid (PB.first v1 #[.int .i64 p0, .int .i64 p1, .int .i64 p2, .int .i64 p3, .int .i64 p4, .int .i64 p5, .int .i64 p6] 23)
          go_wp2_with fail
          refine (T1.out _).mono ?_
          rintro _ v2 ⟨rfl, hb1⟩
          replace B := Lib.hid (B.out.trans (hb1.mono B.out.size))
          replace B := Lib.hid (B.out.alloc B.out.size (.cells #[.int .i64 q0, .int .i64 q1, .int .i64 q2, .int .i64 q3, .int .i64 q4, .int .i64 q5, .int .i64 q6] 23))
          replace P := Lib.hid ((P.out.on hb1).alloc (.cells #[.int .i64 q0, .int .i64 q1, .int .i64 q2, .int .i64 q3, .int .i64 q4, .int .i64 q5, .int .i64 q6] 23))
          have Q := Lib.hid (PB.first v2 #[.int .i64 q0, .int .i64 q1, .int .i64 q2, .int .i64 q3, .int .i64 q4, .int .i64 q5, .int .i64 q6] 23)
          clear T1 hb1
          have hp := P.out.2
          have hq := Q.out.2
          go_wp2_with fail
          clear hp hq
          refine (A2.out _).mono ?_
          rintro _ v5 ⟨rfl, hb1⟩
          replace B := Lib.hid (B.out.trans (hb1.mono B.out.size))
          clear A2 hb1 P Q
          go_wp2_with fail
          go_ret
          exact ⟨rfl, B.out⟩

theorem own : ownKnob Try.prog.godebug = none := by kernel_rfl
theorem laidOut : laidOutB Try.prog = true := by kernel_rfl
set_option maxRecDepth 100000 in
theorem lifted (os : Os) (started : os.Started) (H : Type) (enc : TypeId × Value → H) :
    ReturnsInHanded {} Try.checked os 6 .any (Rows.dateRunsSpec.pre6 enc Try.prog Try.f6 Rows.dateRunsRow.domain false) (Rows.dateRunsSpec.post enc Try.prog Try.f6 false true false false) := by
  refine returnsInHanded_of_change_sized (C := Try.checked) own started (by kernel_rfl) Try.func6
    (ChangeSpec.witness6 (enc := enc) (C := Try.checked) false ⟨#[], #[.int .i64 0, .int .i64 0], []⟩ 8 (by kernel_rfl) (by kernel_rfl) (by kernel_rfl) (by kernel_rfl)) ?_
  intro W base args ds gs before hval0 hW _ hsz0 _
  have hsz : (DataW.weightsEach Try.prog (Try.f6.params.toList ++ Rows.dateRunsSpec.plain.varTypes Try.prog) (ds ++ gs)).all (· ≤ reachBytes) = true := hsz0
  clear hsz0
  have hval : ∀ (j : Nat) t v, Try.f6.params[j]? = some t → args[j]? = some v → Value.okWide Try.prog W .any base t v := hval0
  have hW' := hW
  obtain ⟨p, q, hA0, hV, rfl, _, _⟩ := hW
  have hA : DataW.TrodAll enc Try.prog W 0 (fun _ => true) true Try.f6.params.toList args.toList ds p := hA0
  rw [Try.params6] at hA hval hsz
  obtain ⟨v0, vs0, d0, ds0, p0, q0, hargs, rfl, rfl, t0, r0⟩ := trodAll_cons hA
  obtain ⟨v1, vs1, d1, ds1, p1, q1, rfl, rfl, rfl, t1, r1⟩ := trodAll_cons r0
  obtain ⟨rfl, rfl, rfl⟩ := trodAll_nil r1
  obtain rfl : args = #[v0, v1] := by cases args; simp_all
  obtain ⟨rfl, rfl⟩ := trodVars_none hV
  simp only [List.append_nil] at hW'
  obtain ⟨a0, rfl, rfl, rfl, w0⟩ := open_int Try.underlying2 (hval 0 2 v0 rfl rfl) t0
  obtain ⟨a1, rfl, rfl, rfl, w1⟩ := open_int Try.underlying2 (hval 1 2 v1 rfl rfl) t1
  clear hA0 hval0
  refine (walk W a0 w0 a1 w1).mono fun e W' ⟨he, hb⟩ => ?_
  subst he
  refine ⟨_, rfl, _, _, _, [], _, [], hW', trodAll_cons_mk (shut_bool Try.underlying4 _) trodAll_mk0, (trodAll_cons_mk (shut_int Try.underlying2 w0) (trodAll_cons_mk (shut_int Try.underlying2 w1) trodAll_mk0)), rfl, hb.frame _, fun h => by cases h⟩

theorem over : Rows.dateRunsRow.holds Try.pinned (OpenSpec.ofChange Rows.dateRunsSpec) :=
  OpenClaim.holds_of_wide 6 Try.f6 rfl rfl rfl rfl rfl rfl rfl ⟨rfl, rfl, rfl, rfl, rfl⟩ rfl rfl rfl rfl rfl (by kernel_rfl) Try.func6 (by kernel_rfl)
    (of_decide_eq_true (by kernel_rfl)) (by unfold Func.isWrapper; first | (rw [if_pos (by decide +kernel)]; kernel_rfl) | (rw [if_neg (by decide +kernel)]; exact ⟨rfl, rfl⟩))
    (fun os started H enc _ => lifted os started H enc)

theorem proved : Rows.DateRunsSaid :=
  over
end Go.Proofs.Ytppggaibhfajjaa.dateRuns
