/- Proved here: for every eccentricity and every mean place the law OrbitKepler returns true: the place that is told solves the equation, within a bound. No conditions. -/
import Derived.Test.YtkpdnhbifokhlaaRows
import Derived.Test.YtkpdnhbifokhlaaJp5
import Derived.Test.YtkpdnhbifokhlaaJp7
namespace Go.Proofs.Ytkpdnhbifokhlaa.orbitKepler
open Go.ChangeShapes Go.WideShapes Go.ChangeAt Go.RowKit

open Ieee.Own Pol
set_option maxHeartbeats 2000000 in
set_option maxRecDepth 100000 in
theorem walk (w : World) (a0 : Nat) (h0 : a0 < 18446744073709551616) (a1 : Nat) (h1 : a1 < 18446744073709551616) :
    Calls Try.prog 4 #[.float .f64 a0, .float .f64 a1] w fun e w' => e = .returned (.bool true) ∧ Below w.heap.size w w' := by
  have AW := Lib.hid awake11
  have CS := Lib.hid (fun w => osolve_run h0 h1 w)
  unfold solR at CS
  have e0 : (FloatKind.f64.format.order 0 0 == some Ordering.eq) = true := by decide +kernel
  by_cases c1 : ecB a0 = true
  · rw [if_pos c1] at CS
    by_cases c2 : haB a1 = true
    · rw [if_pos c2] at CS
      obtain ⟨k1, K, q⟩ := kp_ec h0 h1 c1 c2
      obtain ⟨pf, A, ea⟩ := sol_wd h0 h1 c1 c2
      obtain ⟨yW, -, b⟩ := kepler_ans K q A.fin (oW_V pf)
      obtain ⟨m1, m2, m3, m4, -⟩ := rsd_near K yW
      have es : snW (solV a0 a1) = tS (solV a0 a1) := by
        unfold snW fnW
        have fq : fitB (solV a0 a1) = true := oW_fit pf
        rw [if_pos fq]
      have CI := Lib.hid (fun w => rsin5_run A.fin.1 ea w)
      rw [← es] at CI
      have A9 := fun w => abs_any (rsdW (kepW a0) a1 (solV a0 a1)) m4.1 w
      have L := abs_leW (c := 4391009636686233600) m4 (by unfold FinW; omega) (Rat.le_trans b (by decide +kernel))
      have r1 := run_div _ _ _ k1
      have r2 := run_mul _ _ _ m1
      have r3 := run_sub _ _ _ m2
      have r4 := run_sub _ _ _ m3
      unfold tauW at r1
      clear k1 K q pf A ea yW b m1 m2 m3 m4 es c1 c2 h0 h1
      unfold floE2 at CS
      generalize rsdW (kepW a0) a1 (solV a0 a1) % 9223372036854775808 = z0 at *
      generalize rsdW (kepW a0) a1 (solV a0 a1) = z1 at *
      generalize lX (solV a0 a1) (mX (kepW a0) (snW (solV a0 a1))) = z2 at *
      generalize mX (kepW a0) (snW (solV a0 a1)) = z3 at *
      generalize snW (solV a0 a1) = z4 at *
      generalize solV a0 a1 = z5 at *
      generalize kepW a0 = z6 at *
      go_enter Try.func4, Try.ntmps4
      go_wp2_with fail
      refine (AW.out w).mono ?_
      rintro _ v0 ⟨rfl, hb⟩
      have B := Lib.hid hb
      clear hb AW
      go_wp2_with fail
      refine (CS.out v0).mono ?_
      rintro _ v1 ⟨rfl, hb⟩
      replace B := Lib.hid (B.out.trans (hb.mono B.out.size))
      clear hb CS
      go_wp2_with fail
      refine (CI.out v1).mono ?_
      rintro _ v2 ⟨rfl, hb⟩
      replace B := Lib.hid (B.out.trans (hb.mono B.out.size))
      clear hb CI
      go_wp2_with (go_at_call 20; ((with_reducible refine (A9 _).mono ?_); rintro e w' ⟨rfl, rfl⟩))
      go_ret
      exact ⟨rfl, B.out⟩
    · rw [if_neg c2] at CS
      unfold floE2 at CS
      go_enter Try.func4, Try.ntmps4
      go_wp2_with fail
      refine (AW.out w).mono ?_
      rintro _ v0 ⟨rfl, hb⟩
      have B := Lib.hid hb
      clear hb AW
      go_wp2_with fail
      refine (CS.out v0).mono ?_
      rintro _ v1 ⟨rfl, hb⟩
      replace B := Lib.hid (B.out.trans (hb.mono B.out.size))
      clear hb CS
      go_wp2_with fail
      go_ret
      exact ⟨rfl, B.out⟩
  · rw [if_neg c1] at CS
    unfold floE2 at CS
    go_enter Try.func4, Try.ntmps4
    go_wp2_with fail
    refine (AW.out w).mono ?_
    rintro _ v0 ⟨rfl, hb⟩
    have B := Lib.hid hb
    clear hb AW
    go_wp2_with fail
    refine (CS.out v0).mono ?_
    rintro _ v1 ⟨rfl, hb⟩
    replace B := Lib.hid (B.out.trans (hb.mono B.out.size))
    clear hb CS
    go_wp2_with fail
    go_ret
    exact ⟨rfl, B.out⟩

set_option maxRecDepth 100000 in
theorem own : ownKnob Try.prog.godebug = none := by kernel_rfl
set_option maxRecDepth 100000 in
theorem laidOut : laidOutB Try.prog = true := by kernel_rfl
set_option maxRecDepth 100000 in
theorem lifted (os : Os) (started : os.Started) (H : Type) (enc : TypeId × Value → H) :
    ReturnsInHanded {} Try.checked os 4 .any (Rows.orbitKeplerSpec.pre6 enc Try.prog Try.f4 Rows.orbitKeplerRow.domain false) (Rows.orbitKeplerSpec.post enc Try.prog Try.f4 false true false false) := by
  refine returnsInHanded_of_change_sized (C := Try.checked) own started (by kernel_rfl) Try.func4
    (ChangeSpec.witness6 (enc := enc) (C := Try.checked) false ⟨#[], #[.float .f64 0, .float .f64 0], []⟩ 8 (by kernel_rfl) (by kernel_rfl) (by kernel_rfl) (by kernel_rfl)) ?_
  intro W base args ds gs before hval0 hW _ hsz0 _
  have hsz : (DataW.weightsEach Try.prog (Try.f4.params.toList ++ Rows.orbitKeplerSpec.plain.varTypes Try.prog) (ds ++ gs)).all (· ≤ reachBytes) = true := hsz0
  clear hsz0
  have hval : ∀ (j : Nat) t v, Try.f4.params[j]? = some t → args[j]? = some v → Value.okWide Try.prog W .any base t v := hval0
  have hW' := hW
  obtain ⟨p, q, hA0, hV, rfl, _, _⟩ := hW
  have hA : DataW.TrodAll enc Try.prog W 0 (fun _ => true) true Try.f4.params.toList args.toList ds p := hA0
  rw [Try.params4] at hA hval hsz
  obtain ⟨v0, vs0, d0, ds0, p0, q0, hargs, rfl, rfl, t0, r0⟩ := trodAll_cons hA
  obtain ⟨v1, vs1, d1, ds1, p1, q1, rfl, rfl, rfl, t1, r1⟩ := trodAll_cons r0
  obtain ⟨rfl, rfl, rfl⟩ := trodAll_nil r1
  obtain rfl : args = #[v0, v1] := by cases args; simp_all
  obtain ⟨rfl, rfl⟩ := trodVars_none hV
  simp only [List.append_nil] at hW'
  obtain ⟨a0, rfl, rfl, rfl, w0⟩ := open_float Try.underlying22 (hval 0 22 v0 rfl rfl) t0
  obtain ⟨a1, rfl, rfl, rfl, w1⟩ := open_float Try.underlying22 (hval 1 22 v1 rfl rfl) t1
  clear hA0 hval0
  refine (walk W a0 (wf64o w0) a1 (wf64o w1)).mono fun e W' ⟨he, hb⟩ => ?_
  subst he
  refine ⟨_, rfl, _, _, _, [], _, [], hW', trodAll_cons_mk (shut_bool Try.underlying4 _) trodAll_mk0, (trodAll_cons_mk (shut_float Try.underlying22 w0) (trodAll_cons_mk (shut_float Try.underlying22 w1) trodAll_mk0)), rfl, hb.frame _, fun h => by cases h⟩

set_option maxRecDepth 100000 in
theorem over : Rows.orbitKeplerRow.holds Try.pinned (OpenSpec.ofChange Rows.orbitKeplerSpec) :=
  OpenClaim.holds_of_wide 4 Try.f4 rfl rfl rfl rfl rfl rfl rfl ⟨rfl, rfl, rfl, rfl, rfl⟩ rfl rfl rfl rfl rfl (by kernel_rfl) Try.func4 (by kernel_rfl)
    (of_decide_eq_true (by kernel_rfl)) (by unfold Func.isWrapper; first | (rw [if_pos (by decide +kernel)]; kernel_rfl) | (rw [if_neg (by decide +kernel)]; exact ⟨rfl, rfl⟩))
    (fun os started H enc _ => lifted os started H enc)

theorem proved : Rows.OrbitKeplerSaid :=
  over
end Go.Proofs.Ytkpdnhbifokhlaa.orbitKepler
