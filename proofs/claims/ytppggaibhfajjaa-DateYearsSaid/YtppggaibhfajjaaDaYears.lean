/- Proved here: DateYears returns true for every input (its only condition: that the input can be read as data). -/
import Derived.Test.YtppggaibhfajjaaDaw
import Derived.Test.YtppggaibhfajjaaDao
namespace Go.Proofs.Ytppggaibhfajjaa.dateYears
open Go.ChangeShapes Go.WideShapes Go.ChangeAt Go.RowKit

theorem year_fits {y : Int} (h1 : -45001 ≤ y) (h2 : y ≤ 45001) : isI (inst y 1 1 0 0 0 0) = true := by
  rw [inst_first]
  have a := fdy_mono (a := -45001) (b := y) (by omega)
  have b := fdy_mono (a := y) (b := 45001) (by omega)
  have e : fdy (-45001) = -16436275 := by decide
  have e' : fdy 45001 = 16436274 := by decide
  exact isI_t (by omega) (by omega)
set_option maxHeartbeats 2000000 in
set_option maxRecDepth 100000 in
theorem walk (w : World) (a0 : Int) (_h0 : (Lit.int .i64 a0).wf = true) :
    Calls Try.prog 7 #[.int .i64 a0] w fun e w' => e = .returned (.bool true) ∧ Below w.heap.size w w' := by
  have AW := Lib.hid awake_run
  by_cases h1 : a0 < -45000
  · have t1 : decide (a0 < -45000) = true := decide_eq_true h1
    clear h1
    go_enter Try.func7, Try.ntmps7
    go_wp2_with fail
    refine (AW.out w).mono ?_
    rintro _ v0 ⟨rfl, hb⟩
    replace hb := Lib.hid hb
    go_wp2_with fail
    go_ret
    exact ⟨rfl, hb.out⟩
  by_cases h2 : 45000 < a0
  · have t1 : decide (a0 < -45000) = false := decide_eq_false h1
    have t2 : decide (45000 < a0) = true := decide_eq_true h2
    clear h1 h2
    go_enter Try.func7, Try.ntmps7
    go_wp2_with fail
    refine (AW.out w).mono ?_
    rintro _ v0 ⟨rfl, hb⟩
    replace hb := Lib.hid hb
    go_wp2_with fail
    go_ret
    exact ⟨rfl, hb.out⟩
  have t1 : decide (a0 < -45000) = false := decide_eq_false h1
  have t2 : decide (45000 < a0) = false := decide_eq_false h2
  have g1 : -45000 ≤ a0 := by omega
  have g2 : a0 ≤ 45000 := by omega
  clear h1 h2
  have F1 : Hid (∀ w, Calls Try.prog 14 #[dAgg a0 1 1 0 0 0 0] w fun e w' => e = .returned (fromV a0 1 1 0 0 0 0) ∧ Below w.heap.size w w') := fun w => from_run a0 1 1 0 0 0 0 w
  have F2 : Hid (∀ w, Calls Try.prog 14 #[dAgg (a0 + 1) 1 1 0 0 0 0] w fun e w' => e = .returned (fromV (a0 + 1) 1 1 0 0 0 0) ∧ Below w.heap.size w w') := fun w => from_run (a0 + 1) 1 1 0 0 0 0 w
  have IX := year_fits (y := a0) (by omega) (by omega)
  have IY := year_fits (y := a0 + 1) (by omega) (by omega)
  rw [fromV_t (isD_first a0) IX] at F1
  rw [fromV_t (isD_first (a0 + 1)) IY] at F2
  unfold dAgg at F1 F2
  obtain ⟨X, hX⟩ : ∃ X, X = inst a0 1 1 0 0 0 0 := ⟨_, rfl⟩
  obtain ⟨Y, hY⟩ : ∃ Y, Y = inst (a0 + 1) 1 1 0 0 0 0 := ⟨_, rfl⟩
  rw [← hX] at F1 IX
  rw [← hY] at F2 IY
  cases hl : lng a0 with
  | true =>
    have hXY : (Y - X == 24561844224) = true := by
      have e := fdy_next a0
      rw [if_pos hl] at e
      have e2 : Y - X = 24561844224 := by rw [hY, hX, inst_first, inst_first]; omega
      simpa using e2
    have X1 := (isI_b IX).1
    have X2 := (isI_b IX).2
    have Y1 := (isI_b IY).1
    have Y2 := (isI_b IY).2
    have LL := fun w => long_run a0 w
    rw [hl] at LL
    clear hX hY IX IY hl
    go_enter Try.func7, Try.ntmps7
    go_wp2_with fail
    refine (AW.out w).mono ?_
    rintro _ v0 ⟨rfl, hb⟩
    replace hb := Lib.hid hb
    clear AW
    go_wp2_with fail
    refine (F1.out v0).mono ?_
    rintro _ v1 ⟨rfl, hb1⟩
    replace hb := Lib.hid (hb.out.trans (hb1.mono hb.out.size))
    clear F1 hb1
    go_wp2_with fail
    refine (F2.out v1).mono ?_
    rintro _ v2 ⟨rfl, hb1⟩
    replace hb := Lib.hid (hb.out.trans (hb1.mono hb.out.size))
    clear F2 hb1
    go_wp2_with (go_at_call 10; ((with_reducible refine (LL _).mono ?_); rintro e w' ⟨rfl, rfl⟩))
    clear LL
    go_loop [8, 9] (fun n8 i9 => ∃ i : Nat, i ≤ 33 ∧ i9 = .int .i64 i ∧ n8 = .int .i64 (longs a0 i)) (fun _ i9 => 33 - (intOf i9).toNat)
    case atStart => exact ⟨0, by omega, rfl, rfl⟩
    case round =>
      obtain ⟨i, hi, rfl, rfl⟩ := hrel
      have lr := longs_range a0 i
      by_cases hlt : i < 33
      · have L2 := fun w => long_run (a0 + (i : Int)) w
        have hn : longs a0 (i + 1) = longs a0 i + if lng (a0 + i) = true then 1 else 0 := rfl
        cases hl : lng (a0 + i) with
        | true =>
          rw [hl] at L2
          rw [if_pos hl] at hn
          replace hn := Lib.hid hn
          clear hl
          go_wp2_with (go_at_call 10; ((with_reducible refine (L2 _).mono ?_); rintro e w' ⟨rfl, rfl⟩))
          go_round
          case rel => exact ⟨i + 1, hlt, by go_num, by rw [hn.out]⟩
          case measure => simp [intOf]; omega
        | false =>
          rw [hl] at L2
          rw [if_neg (by rw [hl]; decide), Int.add_zero] at hn
          replace hn := Lib.hid hn
          clear hl
          go_wp2_with (go_at_call 10; ((with_reducible refine (L2 _).mono ?_); rintro e w' ⟨rfl, rfl⟩))
          go_round
          case rel => exact ⟨i + 1, hlt, by go_num, by rw [hn.out]⟩
          case measure => simp [intOf]; omega
      · obtain rfl : i = 33 := by omega
        have h8 := longs_33 a0
        rw [h8] at *
        clear lr
        go_wp2_with fail
        go_ret
        exact ⟨rfl, hb.out⟩
  | false =>
    have hXY : (Y - X == 24494735360) = true := by
      have e := fdy_next a0
      rw [if_neg (by rw [hl]; decide)] at e
      have e2 : Y - X = 24494735360 := by rw [hY, hX, inst_first, inst_first]; omega
      simpa using e2
    have X1 := (isI_b IX).1
    have X2 := (isI_b IX).2
    have Y1 := (isI_b IY).1
    have Y2 := (isI_b IY).2
    have LL := fun w => long_run a0 w
    rw [hl] at LL
    clear hX hY IX IY hl
    go_enter Try.func7, Try.ntmps7
    go_wp2_with fail
    refine (AW.out w).mono ?_
    rintro _ v0 ⟨rfl, hb⟩
    replace hb := Lib.hid hb
    clear AW
    go_wp2_with fail
    refine (F1.out v0).mono ?_
    rintro _ v1 ⟨rfl, hb1⟩
    replace hb := Lib.hid (hb.out.trans (hb1.mono hb.out.size))
    clear F1 hb1
    go_wp2_with fail
    refine (F2.out v1).mono ?_
    rintro _ v2 ⟨rfl, hb1⟩
    replace hb := Lib.hid (hb.out.trans (hb1.mono hb.out.size))
    clear F2 hb1
    go_wp2_with (go_at_call 10; ((with_reducible refine (LL _).mono ?_); rintro e w' ⟨rfl, rfl⟩))
    clear LL
    go_loop [8, 9] (fun n8 i9 => ∃ i : Nat, i ≤ 33 ∧ i9 = .int .i64 i ∧ n8 = .int .i64 (longs a0 i)) (fun _ i9 => 33 - (intOf i9).toNat)
    case atStart => exact ⟨0, by omega, rfl, rfl⟩
    case round =>
      obtain ⟨i, hi, rfl, rfl⟩ := hrel
      have lr := longs_range a0 i
      by_cases hlt : i < 33
      · have L2 := fun w => long_run (a0 + (i : Int)) w
        have hn : longs a0 (i + 1) = longs a0 i + if lng (a0 + i) = true then 1 else 0 := rfl
        cases hl : lng (a0 + i) with
        | true =>
          rw [hl] at L2
          rw [if_pos hl] at hn
          replace hn := Lib.hid hn
          clear hl
          go_wp2_with (go_at_call 10; ((with_reducible refine (L2 _).mono ?_); rintro e w' ⟨rfl, rfl⟩))
          go_round
          case rel => exact ⟨i + 1, hlt, by go_num, by rw [hn.out]⟩
          case measure => simp [intOf]; omega
        | false =>
          rw [hl] at L2
          rw [if_neg (by rw [hl]; decide), Int.add_zero] at hn
          replace hn := Lib.hid hn
          clear hl
          go_wp2_with (go_at_call 10; ((with_reducible refine (L2 _).mono ?_); rintro e w' ⟨rfl, rfl⟩))
          go_round
          case rel => exact ⟨i + 1, hlt, by go_num, by rw [hn.out]⟩
          case measure => simp [intOf]; omega
      · obtain rfl : i = 33 := by omega
        have h8 := longs_33 a0
        rw [h8] at *
        clear lr
        go_wp2_with fail
        go_ret
        exact ⟨rfl, hb.out⟩

theorem own : ownKnob Try.prog.godebug = none := by kernel_rfl
theorem laidOut : laidOutB Try.prog = true := by kernel_rfl
set_option maxRecDepth 100000 in
theorem lifted (os : Os) (started : os.Started) (H : Type) (enc : TypeId × Value → H) :
    ReturnsInHanded {} Try.checked os 7 .any (Rows.dateYearsSpec.pre6 enc Try.prog Try.f7 Rows.dateYearsRow.domain false) (Rows.dateYearsSpec.post enc Try.prog Try.f7 false true false false) := by
  refine returnsInHanded_of_change_sized (C := Try.checked) own started (by kernel_rfl) Try.func7
    (ChangeSpec.witness6 (enc := enc) (C := Try.checked) false ⟨#[], #[.int .i64 0], []⟩ 8 (by kernel_rfl) (by kernel_rfl) (by kernel_rfl) (by kernel_rfl)) ?_
  intro W base args ds gs before hval0 hW _ hsz0 _
  have hsz : (DataW.weightsEach Try.prog (Try.f7.params.toList ++ Rows.dateYearsSpec.plain.varTypes Try.prog) (ds ++ gs)).all (· ≤ reachBytes) = true := hsz0
  clear hsz0
  have hval : ∀ (j : Nat) t v, Try.f7.params[j]? = some t → args[j]? = some v → Value.okWide Try.prog W .any base t v := hval0
  have hW' := hW
  obtain ⟨p, q, hA0, hV, rfl, _, _⟩ := hW
  have hA : DataW.TrodAll enc Try.prog W 0 (fun _ => true) true Try.f7.params.toList args.toList ds p := hA0
  rw [Try.params7] at hA hval hsz
  obtain ⟨v0, vs0, d0, ds0, p0, q0, hargs, rfl, rfl, t0, r0⟩ := trodAll_cons hA
  obtain ⟨rfl, rfl, rfl⟩ := trodAll_nil r0
  obtain rfl : args = #[v0] := by cases args; simp_all
  obtain ⟨rfl, rfl⟩ := trodVars_none hV
  simp only [List.append_nil] at hW'
  obtain ⟨a0, rfl, rfl, rfl, w0⟩ := open_int Try.underlying3 (hval 0 3 v0 rfl rfl) t0
  clear hA0 hval0
  refine (walk W a0 w0).mono fun e W' ⟨he, hb⟩ => ?_
  subst he
  refine ⟨_, rfl, _, _, _, [], _, [], hW', trodAll_cons_mk (shut_bool Try.underlying4 _) trodAll_mk0, (trodAll_cons_mk (shut_int Try.underlying3 w0) trodAll_mk0), rfl, hb.frame _, fun h => by cases h⟩

theorem over : Rows.dateYearsRow.holds Try.pinned (OpenSpec.ofChange Rows.dateYearsSpec) :=
  OpenClaim.holds_of_wide 7 Try.f7 rfl rfl rfl rfl rfl rfl rfl ⟨rfl, rfl, rfl, rfl, rfl⟩ rfl rfl rfl rfl rfl (by kernel_rfl) Try.func7 (by kernel_rfl)
    (of_decide_eq_true (by kernel_rfl)) (by unfold Func.isWrapper; first | (rw [if_pos (by decide +kernel)]; kernel_rfl) | (rw [if_neg (by decide +kernel)]; exact ⟨rfl, rfl⟩))
    (fun os started H enc _ => lifted os started H enc)

theorem proved : Rows.DateYearsSaid :=
  over
end Go.Proofs.Ytppggaibhfajjaa.dateYears
