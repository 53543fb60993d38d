/- Proved here: for every vector the law VecUnits returns true: the length of a unit is about 1. No conditions. -/
import Derived.Test.YtlahihmokkcefaaRows
import Derived.Test.YtlahihmokkcefaaJv5
namespace Go.Proofs.Ytlahihmokkcefaa.vecUnits
open Go.ChangeShapes Go.WideShapes Go.ChangeAt Go.RowKit Ieee.Own

set_option maxHeartbeats 2000000 in
set_option maxRecDepth 100000 in
theorem walk (w : World) (a0 : V3) (h0 : W3 a0) :
    Calls Try.prog 9 #[vecV a0] w fun e w' => e = .returned (.bool true) ∧ Below w.heap.size w w' := by
  have AW := Lib.hid awake7
  have unit := fun w => vunit_any h0 w
  by_cases hk : (unitR a0).2 = 0
  · obtain ⟨wu, fu, t, s1, s2, s3, s4⟩ := units h0 hk
    have norm := fun w => vnorm_any wu w
    have en : normR (unitR a0).1 = (rX (dW (unitR a0).1 (unitR a0).1), 0) := if_pos fu
    rw [en] at norm
    generalize rX (dW (unitR a0).1 (unitR a0).1) = n at *
    have r1 := run_sub _ _ _ s1
    have B := fun w => abs_any t s2.1 w
    have le := le_words s4 closeV_fin
    rw [decide_eq_true s3] at le
    unfold oneW closeV at *
    generalize t % 9223372036854775808 = ta at *
    generalize unitR a0 = R at *
    obtain ⟨⟨u1, u2, u3⟩, k⟩ := R
    dsimp only at hk
    subst hk
    obtain ⟨c1, c2, c3⟩ := a0
    clear h0 wu fu s1 s2 s3 s4 en
    unfold vecE floE vecV at *
    dsimp only at *
    replace unit := Lib.hid unit
    replace norm := Lib.hid norm
    have K0 := kw1 w 24 [c1, c2, c3]
    simp only [objW, List.map_cons, List.map_nil] at K0
    have hst := @fstore
    replace K0 := Lib.hid K0
    go_enter Try.func9, Try.ntmps9
    go_wp2_with fail
    have K := K0.out
    clear K0
    generalize w.alloc _ = wr at *
    refine (AW.out wr).mono ?_
    rintro _ v1 ⟨rfl, hb⟩
    replace K := K.on hb
    clear hb
    clear AW
    have c0_0 := (K.at_ 0 rfl).at_ 0 _ rfl
    have c0_1 := (K.at_ 0 rfl).at_ 1 _ rfl
    have c0_2 := (K.at_ 0 rfl).at_ 2 _ rfl
    replace K := Lib.hid K
    go_wp2_with fail
    replace K := K.out
    refine (unit.out v1).mono ?_
    rintro _ v2 ⟨rfl, hb⟩
    clear c0_0 c0_1 c0_2
    replace K := K.on hb
    clear hb
    clear unit
    replace K := K.new 24 [u1, u2, u3]
    simp only [objW, List.map_cons, List.map_nil, List.cons_append, List.nil_append] at K
    have c1_0 := (K.at_ 1 rfl).at_ 0 _ rfl
    have c1_1 := (K.at_ 1 rfl).at_ 1 _ rfl
    have c1_2 := (K.at_ 1 rfl).at_ 2 _ rfl
    replace K := Lib.hid K
    go_wp2_with fail
    replace K := K.out
    generalize v2.alloc _ = u2 at *
    generalize v2.heap.size = g1 at *
    refine (norm.out u2).mono ?_
    rintro _ v3 ⟨rfl, hb⟩
    clear c1_0 c1_1 c1_2
    replace K := K.on hb
    clear hb
    clear norm
    replace K := Lib.hid K
    go_wp2_with (go_at_call 50; ((with_reducible refine (B _).mono ?_); rintro e w' ⟨rfl, rfl⟩))
    replace K := K.out
    go_ret
    exact ⟨rfl, K.old⟩
  · generalize unitR a0 = R at *
    obtain ⟨⟨u1, u2, u3⟩, k⟩ := R
    have tk : (k != 0) = true := by simpa using hk
    obtain ⟨c1, c2, c3⟩ := a0
    clear h0 hk
    unfold vecE vecV at *
    dsimp only at *
    replace unit := Lib.hid unit
    have K0 := kw1 w 24 [c1, c2, c3]
    simp only [objW, List.map_cons, List.map_nil] at K0
    have hst := @fstore
    replace K0 := Lib.hid K0
    go_enter Try.func9, Try.ntmps9
    go_wp2_with fail
    have K := K0.out
    clear K0
    generalize w.alloc _ = wr at *
    refine (AW.out wr).mono ?_
    rintro _ v1 ⟨rfl, hb⟩
    replace K := K.on hb
    clear hb
    clear AW
    have c0_0 := (K.at_ 0 rfl).at_ 0 _ rfl
    have c0_1 := (K.at_ 0 rfl).at_ 1 _ rfl
    have c0_2 := (K.at_ 0 rfl).at_ 2 _ rfl
    replace K := Lib.hid K
    go_wp2_with fail
    replace K := K.out
    refine (unit.out v1).mono ?_
    rintro _ v2 ⟨rfl, hb⟩
    clear c0_0 c0_1 c0_2
    replace K := K.on hb
    clear hb
    clear unit
    replace K := K.new 24 [u1, u2, u3]
    simp only [objW, List.map_cons, List.map_nil, List.cons_append, List.nil_append] at K
    replace K := Lib.hid K
    go_wp2_with fail
    go_ret
    exact ⟨rfl, K.out.old⟩

set_option maxRecDepth 100000 in
theorem own : ownKnob Try.prog.godebug = none := by kernel_rfl
set_option maxRecDepth 100000 in
theorem laidOut : laidOutB Try.prog = true := by kernel_rfl
set_option maxRecDepth 100000 in
theorem cellsF : Try.prog.cellsOf 22 = 1 := by kernel_rfl
set_option maxRecDepth 100000 in
theorem bytesF : Try.prog.bytesOf 22 = 8 := by kernel_rfl
theorem wf64 {b : Nat} (h : (Lit.float .f64 b).wf = true) : b < 18446744073709551616 := by
  simp only [Lit.wf, decide_eq_true_eq] at h; exact h

set_option maxRecDepth 100000 in
theorem lifted (os : Os) (started : os.Started) (H : Type) (enc : TypeId × Value → H) :
    ReturnsInHanded {} Try.checked os 9 .any (Rows.vecUnitsSpec.pre6 enc Try.prog Try.f9 Rows.vecUnitsRow.domain false) (Rows.vecUnitsSpec.post enc Try.prog Try.f9 false true false false) := by
  refine returnsInHanded_of_change_sized (C := Try.checked) own started (by kernel_rfl) Try.func9
    (ChangeSpec.witness6 (enc := enc) (C := Try.checked) false ⟨#[], #[.agg #[.float .f64 0, .float .f64 0, .float .f64 0]], []⟩ 8 (by kernel_rfl) (by kernel_rfl) (by kernel_rfl) (by kernel_rfl)) ?_
  intro W base args ds gs before hval0 hW _ hsz0 _
  have hsz : (DataW.weightsEach Try.prog (Try.f9.params.toList ++ Rows.vecUnitsSpec.plain.varTypes Try.prog) (ds ++ gs)).all (· ≤ reachBytes) = true := hsz0
  clear hsz0
  have hval : ∀ (j : Nat) t v, Try.f9.params[j]? = some t → args[j]? = some v → Value.okWide Try.prog W .any base t v := hval0
  have hW' := hW
  obtain ⟨p, q, hA0, hV, rfl, _, _⟩ := hW
  have hA : DataW.TrodAll enc Try.prog W 0 (fun _ => true) true Try.f9.params.toList args.toList ds p := hA0
  rw [Try.params9] at hA hval hsz
  obtain ⟨v0, vs0, d0, ds0, p0, q0, hargs, rfl, rfl, t0, r0⟩ := trodAll_cons hA
  obtain ⟨rfl, rfl, rfl⟩ := trodAll_nil r0
  obtain rfl : args = #[v0] := by cases args; simp_all
  obtain ⟨rfl, rfl⟩ := trodVars_none hV
  simp only [List.append_nil] at hW'
  have tk0 := t0
  obtain ⟨a0, rfl, wa0⟩ := open_vec (hval 0 24 v0 rfl rfl) t0
  have hlt0 : ∀ x ∈ p0, x.block < W.heap.size := fun x hx => by have := hW'.lt x (by simp [hx]); simpa using this
  clear hA0 hval0
  refine (walk W a0 wa0).mono fun e W' ⟨he, hb⟩ => ?_
  subst he
  refine ⟨_, rfl, _, _, _, [], _, [], hW', trodAll_cons_mk (shut_bool Try.underlying4 _) trodAll_mk0, (trodAll_cons_mk (Below.trod laidOut (by kernel_rfl) (of_decide_eq_true (by kernel_rfl)) tk0 hb hlt0) trodAll_mk0), rfl, hb.frame _, fun h => by cases h⟩

set_option maxRecDepth 100000 in
theorem over : Rows.vecUnitsRow.holds Try.pinned (OpenSpec.ofChange Rows.vecUnitsSpec) :=
  OpenClaim.holds_of_wide 9 Try.f9 rfl rfl rfl rfl rfl rfl rfl ⟨rfl, rfl, rfl, rfl, rfl⟩ rfl rfl rfl rfl rfl (by kernel_rfl) Try.func9 (by kernel_rfl)
    (of_decide_eq_true (by kernel_rfl)) (by unfold Func.isWrapper; first | (rw [if_pos (by decide +kernel)]; kernel_rfl) | (rw [if_neg (by decide +kernel)]; exact ⟨rfl, rfl⟩))
    (fun os started H enc _ => lifted os started H enc)

theorem proved : Rows.VecUnitsSaid :=
  over
end Go.Proofs.Ytlahihmokkcefaa.vecUnits
