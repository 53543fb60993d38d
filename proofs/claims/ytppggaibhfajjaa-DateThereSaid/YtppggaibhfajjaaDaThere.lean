/- Proved here: DateThere returns true for every input (its only condition: that the input can be read as data). -/
import Derived.Test.YtppggaibhfajjaaDaw
import Derived.Test.YtppggaibhfajjaaDao
namespace Go.Proofs.Ytppggaibhfajjaa.dateThere
open Go.ChangeShapes Go.WideShapes Go.ChangeAt Go.RowKit

/-- a block of cells that stays -/
def PB (g : Nat) (l : Array Value) (w : World) : Prop := g < w.heap.size ∧ ∀ j, w.cell? ⟨g, j, none⟩ = l[j]?
theorem PB.on {g : Nat} {l : Array Value} {w w' : World} (h : PB g l w) (hb : Below w.heap.size w w') : PB g l w' :=
  ⟨Nat.lt_of_lt_of_le h.1 hb.size, fun j => (hb.cell (p := ⟨g, j, none⟩) h.1).trans (h.2 j)⟩
theorem PB.alloc {g : Nat} {l : Array Value} {w : World} (h : PB g l w) (o : Obj) : PB g l (w.alloc o) :=
  ⟨by have := h.1; simp; omega, fun j => by rw [World.cell?_alloc_past _ _ _ h.1]; exact h.2 j⟩
theorem PB.first (w : World) (l : Array Value) (T : TypeId) : PB w.heap.size l (w.alloc (.cells l T)) :=
  ⟨by simp, fun j => World.cell?_alloc_at _ _ _ _ rfl⟩
theorem back_date {y m d h i s k : Int} (H : isD y m d h i s k = true) : dateV (inst y m d h i s k) = dAgg y m d h i s k := by
  obtain ⟨e0, e1, e2, e3, e4, e5, e6⟩ := of_inst H
  unfold dateV
  rw [e0, e1, e2, e3, e4, e5, e6]
set_option maxHeartbeats 2000000 in
set_option maxRecDepth 100000 in
theorem walk (w : World) (a0 : Int) (_h0 : (Lit.int .i64 a0).wf = true) (y1 m1 d1' h1 i1 s1 k1 : Int) :
    Calls Try.prog 5 #[.int .i64 a0, dAgg y1 m1 d1' h1 i1 s1 k1] w fun e w' => e = .returned (.bool true) ∧ Below w.heap.size w w' := by
  have AW := Lib.hid awake_run
  have P0 := Lib.hid (PB.first w #[.int .i64 y1, .int .i64 m1, .int .i64 d1', .int .i64 h1, .int .i64 i1, .int .i64 s1, .int .i64 k1] 23)
  have T0 : Hid (∀ w, Calls Try.prog 12 #[.int .i64 a0] w fun e w' => e = .returned (toV a0) ∧ Below w.heap.size w w') := fun w => to_run a0 w
  have F0 : Hid (∀ w, Calls Try.prog 14 #[dAgg y1 m1 d1' h1 i1 s1 k1] w fun e w' => e = .returned (fromV y1 m1 d1' h1 i1 s1 k1) ∧ Below w.heap.size w w') := fun w => from_run y1 m1 d1' h1 i1 s1 k1 w
  have B0 := Lib.hid (date_block w y1 m1 d1' h1 i1 s1 k1)
  unfold dAgg
  have HF : (isD y1 m1 d1' h1 i1 s1 k1 = true ∧ isI (inst y1 m1 d1' h1 i1 s1 k1) = true) ∨ fromV y1 m1 d1' h1 i1 s1 k1 = .tuple #[.int .i64 0, .int .i64 80] := by
    by_cases e : isD y1 m1 d1' h1 i1 s1 k1 = true ∧ isI (inst y1 m1 d1' h1 i1 s1 k1) = true
    · exact .inl e
    · exact .inr (if_neg e)
  cases hI : isI a0 with
  | true =>
    obtain ⟨g1, g2⟩ := isI_b hI
    rw [toV_t hI] at T0
    have F2 : Hid (∀ w, Calls Try.prog 14 #[dateV a0] w fun e w' => e = .returned (fromV (dYr a0) (dMo a0) (dDy a0) (dHr a0) (dMi a0) (dSe a0) (dTk a0)) ∧ Below w.heap.size w w') := fun w => from_run _ _ _ _ _ _ _ w
    rw [fromV_t (isD_of a0) (by rw [inst_of]; exact hI), inst_of] at F2
    unfold dateV dAgg at T0 F2
    generalize dYr a0 = q0 at *
    generalize dMo a0 = q1 at *
    generalize dDy a0 = q2 at *
    generalize dHr a0 = q3 at *
    generalize dMi a0 = q4 at *
    generalize dSe a0 = q5 at *
    generalize dTk a0 = q6 at *
    have t1 : decide (-1125899906842624 ≤ a0) = true := decide_eq_true g1
    have t2 : decide (a0 ≤ 1125899906842624) = true := decide_eq_true g2
    clear g1 g2 hI
    rcases HF with ⟨HD, HI⟩ | HN
    · rw [fromV_t HD HI] at F0
      have T2 : Hid (∀ w, Calls Try.prog 12 #[.int .i64 (inst y1 m1 d1' h1 i1 s1 k1)] w fun e w' => e = .returned (toV (inst y1 m1 d1' h1 i1 s1 k1)) ∧ Below w.heap.size w w') := fun w => to_run _ w
      rw [toV_t HI, back_date HD] at T2
      obtain ⟨Z, hZ⟩ : ∃ Z, Z = inst y1 m1 d1' h1 i1 s1 k1 := ⟨_, rfl⟩
      rw [← hZ] at F0 T2
      unfold dAgg at F0 T2
      clear hZ HD HI
      go_enter Try.func5, Try.ntmps5
      go_wp2_with fail
      refine (AW.out _).mono ?_
      rintro _ v0 ⟨rfl, hb1⟩
      have P := Lib.hid (P0.out.on hb1)
      have B := Lib.hid (B0.out.trans (hb1.mono B0.out.size))
      clear AW P0 B0 hb1
      go_wp2_with fail
      refine (T0.out _).mono ?_
      rintro _ v1 ⟨rfl, hb1⟩
      replace P := Lib.hid (P.out.on hb1)
      replace B := Lib.hid (B.out.trans (hb1.mono B.out.size))
      clear T0 hb1
      replace P := Lib.hid (P.out.alloc (.cells #[.int .i64 q0, .int .i64 q1, .int .i64 q2, .int .i64 q3, .int .i64 q4, .int .i64 q5, .int .i64 q6] 23))
      replace B := Lib.hid (B.out.alloc B.out.size (.cells #[.int .i64 q0, .int .i64 q1, .int .i64 q2, .int .i64 q3, .int .i64 q4, .int .i64 q5, .int .i64 q6] 23))
      go_wp2_with fail
      refine (F2.out _).mono ?_
      rintro _ v2 ⟨rfl, hb1⟩
      replace P := Lib.hid (P.out.on hb1)
      replace B := Lib.hid (B.out.trans (hb1.mono B.out.size))
      clear F2 hb1
      have hp := P.out.2
      go_wp2_with fail
      refine (F0.out _).mono ?_
      rintro _ v8 ⟨rfl, hb1⟩
      replace P := Lib.hid (P.out.on hb1)
      replace B := Lib.hid (B.out.trans (hb1.mono B.out.size))
      clear F0 hp hb1
      go_wp2_with fail
      refine (T2.out _).mono ?_
      rintro _ v9 ⟨rfl, hb1⟩
      replace P := Lib.hid (P.out.on hb1)
      replace B := Lib.hid (B.out.trans (hb1.mono B.out.size))
      clear T2 hb1
      have hp := (P.out.alloc (.cells #[.int .i64 y1, .int .i64 m1, .int .i64 d1', .int .i64 h1, .int .i64 i1, .int .i64 s1, .int .i64 k1] 23)).2
      go_wp2_with fail
      go_ret
      exact ⟨rfl, B.out.alloc B.out.size _⟩
    · rw [HN] at F0
      unfold dAgg at F0
      go_enter Try.func5, Try.ntmps5
      go_wp2_with fail
      refine (AW.out _).mono ?_
      rintro _ v0 ⟨rfl, hb1⟩
      have P := Lib.hid (P0.out.on hb1)
      have B := Lib.hid (B0.out.trans (hb1.mono B0.out.size))
      clear AW P0 B0 hb1
      go_wp2_with fail
      refine (T0.out _).mono ?_
      rintro _ v1 ⟨rfl, hb1⟩
      replace P := Lib.hid (P.out.on hb1)
      replace B := Lib.hid (B.out.trans (hb1.mono B.out.size))
      clear T0 hb1
      replace P := Lib.hid (P.out.alloc (.cells #[.int .i64 q0, .int .i64 q1, .int .i64 q2, .int .i64 q3, .int .i64 q4, .int .i64 q5, .int .i64 q6] 23))
      replace B := Lib.hid (B.out.alloc B.out.size (.cells #[.int .i64 q0, .int .i64 q1, .int .i64 q2, .int .i64 q3, .int .i64 q4, .int .i64 q5, .int .i64 q6] 23))
      go_wp2_with fail
      refine (F2.out _).mono ?_
      rintro _ v2 ⟨rfl, hb1⟩
      replace P := Lib.hid (P.out.on hb1)
      replace B := Lib.hid (B.out.trans (hb1.mono B.out.size))
      clear F2 hb1
      have hp := P.out.2
      go_wp2_with fail
      refine (F0.out _).mono ?_
      rintro _ v8 ⟨rfl, hb1⟩
      replace B := Lib.hid (B.out.trans (hb1.mono B.out.size))
      clear F0 hp hb1
      go_wp2_with fail
      go_ret
      exact ⟨rfl, B.out⟩
  | false =>
    rw [toV_f hI] at T0
    unfold noDate dAgg at T0
    have t12 : decide (-1125899906842624 ≤ a0) = false ∨ (decide (-1125899906842624 ≤ a0) = true ∧ decide (a0 ≤ 1125899906842624) = false) := by
      rcases isI_n hI with h | h
      · exact .inl (decide_eq_false (by omega))
      · exact .inr ⟨decide_eq_true (by omega), decide_eq_false (by omega)⟩
    clear hI
    rcases t12 with t1 | ⟨t1, t2⟩
    all_goals
      rcases HF with ⟨HD, HI⟩ | HN
      · rw [fromV_t HD HI] at F0
        have T2 : Hid (∀ w, Calls Try.prog 12 #[.int .i64 (inst y1 m1 d1' h1 i1 s1 k1)] w fun e w' => e = .returned (toV (inst y1 m1 d1' h1 i1 s1 k1)) ∧ Below w.heap.size w w') := fun w => to_run _ w
        rw [toV_t HI, back_date HD] at T2
        obtain ⟨Z, hZ⟩ : ∃ Z, Z = inst y1 m1 d1' h1 i1 s1 k1 := ⟨_, rfl⟩
        rw [← hZ] at F0 T2
        unfold dAgg at F0 T2
        clear hZ HD HI
        go_enter Try.func5, Try.ntmps5
        go_wp2_with fail
        refine (AW.out _).mono ?_
        rintro _ v0 ⟨rfl, hb1⟩
        have P := Lib.hid (P0.out.on hb1)
        have B := Lib.hid (B0.out.trans (hb1.mono B0.out.size))
        clear AW P0 B0 hb1
        go_wp2_with fail
        refine (T0.out _).mono ?_
        rintro _ v1 ⟨rfl, hb1⟩
        replace P := Lib.hid (P.out.on hb1)
        replace B := Lib.hid (B.out.trans (hb1.mono B.out.size))
        clear T0 hb1
        replace P := Lib.hid (P.out.alloc (.cells #[.int .i64 0, .int .i64 0, .int .i64 0, .int .i64 0, .int .i64 0, .int .i64 0, .int .i64 0] 23))
        replace B := Lib.hid (B.out.alloc B.out.size (.cells #[.int .i64 0, .int .i64 0, .int .i64 0, .int .i64 0, .int .i64 0, .int .i64 0, .int .i64 0] 23))
        have hp := P.out.2
        go_wp2_with fail
        refine (F0.out _).mono ?_
        rintro _ v8 ⟨rfl, hb1⟩
        replace P := Lib.hid (P.out.on hb1)
        replace B := Lib.hid (B.out.trans (hb1.mono B.out.size))
        clear F0 hp hb1
        go_wp2_with fail
        refine (T2.out _).mono ?_
        rintro _ v9 ⟨rfl, hb1⟩
        replace P := Lib.hid (P.out.on hb1)
        replace B := Lib.hid (B.out.trans (hb1.mono B.out.size))
        clear T2 hb1
        have hp := (P.out.alloc (.cells #[.int .i64 y1, .int .i64 m1, .int .i64 d1', .int .i64 h1, .int .i64 i1, .int .i64 s1, .int .i64 k1] 23)).2
        go_wp2_with fail
        go_ret
        exact ⟨rfl, B.out.alloc B.out.size _⟩
      · rw [HN] at F0
        unfold dAgg at F0
        go_enter Try.func5, Try.ntmps5
        go_wp2_with fail
        refine (AW.out _).mono ?_
        rintro _ v0 ⟨rfl, hb1⟩
        have P := Lib.hid (P0.out.on hb1)
        have B := Lib.hid (B0.out.trans (hb1.mono B0.out.size))
        clear AW P0 B0 hb1
        go_wp2_with fail
        refine (T0.out _).mono ?_
        rintro _ v1 ⟨rfl, hb1⟩
        replace P := Lib.hid (P.out.on hb1)
        replace B := Lib.hid (B.out.trans (hb1.mono B.out.size))
        clear T0 hb1
        replace P := Lib.hid (P.out.alloc (.cells #[.int .i64 0, .int .i64 0, .int .i64 0, .int .i64 0, .int .i64 0, .int .i64 0, .int .i64 0] 23))
        replace B := Lib.hid (B.out.alloc B.out.size (.cells #[.int .i64 0, .int .i64 0, .int .i64 0, .int .i64 0, .int .i64 0, .int .i64 0, .int .i64 0] 23))
        have hp := P.out.2
        go_wp2_with fail
        refine (F0.out _).mono ?_
        rintro _ v8 ⟨rfl, hb1⟩
        replace B := Lib.hid (B.out.trans (hb1.mono B.out.size))
        clear F0 hp hb1
        go_wp2_with fail
        go_ret
        exact ⟨rfl, B.out⟩

theorem own : ownKnob Try.prog.godebug = none := by kernel_rfl
theorem laidOut : laidOutB Try.prog = true := by kernel_rfl
set_option maxRecDepth 100000 in
theorem lifted (os : Os) (started : os.Started) (H : Type) (enc : TypeId × Value → H) :
    ReturnsInHanded {} Try.checked os 5 .any (Rows.dateThereSpec.pre6 enc Try.prog Try.f5 Rows.dateThereRow.domain false) (Rows.dateThereSpec.post enc Try.prog Try.f5 false true false false) := by
  refine returnsInHanded_of_change_sized (C := Try.checked) own started (by kernel_rfl) Try.func5
    (ChangeSpec.witness6 (enc := enc) (C := Try.checked) false ⟨#[], #[.int .i64 0, .agg #[.int .i64 0, .int .i64 0, .int .i64 0, .int .i64 0, .int .i64 0, .int .i64 0, .int .i64 0]], []⟩ 8 (by kernel_rfl) (by kernel_rfl) (by kernel_rfl) (by kernel_rfl)) ?_
  intro W base args ds gs before hval0 hW _ hsz0 _
  have hsz : (DataW.weightsEach Try.prog (Try.f5.params.toList ++ Rows.dateThereSpec.plain.varTypes Try.prog) (ds ++ gs)).all (· ≤ reachBytes) = true := hsz0
  clear hsz0
  have hval : ∀ (j : Nat) t v, Try.f5.params[j]? = some t → args[j]? = some v → Value.okWide Try.prog W .any base t v := hval0
  have hW' := hW
  obtain ⟨p, q, hA0, hV, rfl, _, _⟩ := hW
  have hA : DataW.TrodAll enc Try.prog W 0 (fun _ => true) true Try.f5.params.toList args.toList ds p := hA0
  rw [Try.params5] at hA hval hsz
  obtain ⟨v0, vs0, d0, ds0, p0, q0, hargs, rfl, rfl, t0, r0⟩ := trodAll_cons hA
  obtain ⟨v1, vs1, d1, ds1, p1, q1, rfl, rfl, rfl, t1, r1⟩ := trodAll_cons r0
  obtain ⟨rfl, rfl, rfl⟩ := trodAll_nil r1
  obtain rfl : args = #[v0, v1] := by cases args; simp_all
  obtain ⟨rfl, rfl⟩ := trodVars_none hV
  simp only [List.append_nil] at hW'
  obtain ⟨a0, rfl, rfl, rfl, w0⟩ := open_int Try.underlying2 (hval 0 2 v0 rfl rfl) t0
  have tk1 := t1
  obtain ⟨y1, m1, d1', h1, i1, s1, k1, rfl⟩ := open_date (hval 1 23 v1 rfl rfl) t1
  have hlt1 : ∀ x ∈ p1, x.block < W.heap.size := fun x hx => by have := hW'.lt x (by simp [hx]); simpa using this
  clear hA0 hval0
  refine (walk W a0 w0 y1 m1 d1' h1 i1 s1 k1).mono fun e W' ⟨he, hb⟩ => ?_
  subst he
  refine ⟨_, rfl, _, _, _, [], _, [], hW', trodAll_cons_mk (shut_bool Try.underlying4 _) trodAll_mk0, (trodAll_cons_mk (shut_int Try.underlying2 w0) (trodAll_cons_mk (Below.trod laidOut (by kernel_rfl) (of_decide_eq_true (by kernel_rfl)) tk1 hb hlt1) trodAll_mk0)), rfl, hb.frame _, fun h => by cases h⟩

theorem over : Rows.dateThereRow.holds Try.pinned (OpenSpec.ofChange Rows.dateThereSpec) :=
  OpenClaim.holds_of_wide 5 Try.f5 rfl rfl rfl rfl rfl rfl rfl ⟨rfl, rfl, rfl, rfl, rfl⟩ rfl rfl rfl rfl rfl (by kernel_rfl) Try.func5 (by kernel_rfl)
    (of_decide_eq_true (by kernel_rfl)) (by unfold Func.isWrapper; first | (rw [if_pos (by decide +kernel)]; kernel_rfl) | (rw [if_neg (by decide +kernel)]; exact ⟨rfl, rfl⟩))
    (fun os started H enc _ => lifted os started H enc)

theorem proved : Rows.DateThereSaid :=
  over
end Go.Proofs.Ytppggaibhfajjaa.dateThere
