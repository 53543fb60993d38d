/- Proved here: for every two numbers of binary64 the law TwainProds returns true: product and rest are the exact product. No conditions. -/
import Derived.Test.YtbnifpggcfcmhaaRows
import Derived.Test.YtbnifpggcfcmhaaLawb
import Derived.WalkKit
import Derived.ProofKit
import Derived.OpenShut
import Derived.WalkLawsBesides
namespace Go.Proofs.Ytbnifpggcfcmhaa.twainProds
open Go.ChangeShapes Go.WideShapes Go.ChangeAt Go.RowKit Ieee.Own

theorem own : ownKnob Try.prog.godebug = none := by kernel_rfl

/-! ### the walk -/
set_option maxHeartbeats 1000000 in
theorem walk (a0 : Nat) (a1 : Nat) (h0 : a0 < 18446744073709551616) (h1 : a1 < 18446744073709551616) (w : World) :
    Calls Try.prog 5 #[.float .f64 a0, .float .f64 a1] w fun e w' => e = .returned (.bool true) ∧ Grown w w' := by
  by_cases hf : fitB a0 = true ∧ fitB a1 = true
  · obtain ⟨f0, f1⟩ := hf
    obtain ⟨p, e, N, Z, g, R, ⟨hN, hZ, hg⟩, ⟨dp, de, K0, hK, bp, be⟩, C⟩ := prod_fit a0 a1 h0 h1 f0 f1
    have e0 := eq_self p R.fp
    obtain ⟨-, -, pp⟩ := good R.fp dp bp hK
    obtain ⟨-, -, pe⟩ := good R.fe de be hK
    have P1 := fun w => plain_true p R.fp pp w
    have P2 := fun w => plain_true e R.fe pe w
    have r1 := run_mul _ _ _ R.op
    have n1 := xneg p R.fp.1
    have n2 := xneg e R.fe.1
    have g0 := fit_fin h0 f0
    have g1 := fit_fin h1 f1
    obtain ⟨fp, X1, x1, v1, y1⟩ := neg_good R.fp dp bp hK
    obtain ⟨fe, X2, x2, v2, y2⟩ := neg_good R.fe de be hK
    have hX : Z + X1 + X2 = 0 := by
      have q := R.ve
      rw [v1, v2, hN] at q
      clear hZ x1 x2 bp be pp pe
      omega
    have K := Lib.hid (And.intro (And.intro g0 (And.intro g1 (And.intro hZ hg))) (And.intro (And.intro fp (And.intro x1 y1)) (And.intro fe (And.intro x2 y2))))
    replace hX := Lib.hid hX
    clear h0 h1 R f0 f1 g0 g1 hN hZ hg dp de bp be pp pe fp x1 v1 y1 fe x2 v2 y2 hK
    go_enter Try.func5, Try.ntmps5
    go_wp2_with (first | (go_at_call 10; ((with_reducible refine (awake_any _).mono ?_); rintro e w' ⟨rfl, rfl⟩)) | (go_at_call 14; ((with_reducible refine (C _).mono ?_); rintro e w' ⟨rfl, rfl⟩; unfold ffi)) | (go_at_call 21; ((with_reducible refine (P1 _).mono ?_); rintro e w' ⟨rfl, rfl⟩)) | (go_at_call 21; ((with_reducible refine (P2 _).mono ?_); rintro e w' ⟨rfl, rfl⟩)))
    obtain ⟨⟨g0, g1, hZ, hg⟩, ⟨fp, x1, y1⟩, fe, x2, y2⟩ := K.out
    refine (prod_any _ a0 a1 g Z 0 _ _ g0 g1 hZ hg (start_holds w)).mono ?_
    rintro _ w1 ⟨rfl, ⟨m1, H1⟩, s1⟩
    clear g0 g1 hZ hg fp x1 y1 fe x2 y2
    replace H1 := Lib.hid H1
    replace s1 := Lib.hid s1
    go_wp2_with fail
    obtain ⟨⟨g0, g1, hZ, hg⟩, ⟨fp, x1, y1⟩, fe, x2, y2⟩ := K.out
    refine (add_any _ (negW p) X1 _ _ _ fp x1 y1 H1.out).mono ?_
    rintro _ w2 ⟨rfl, ⟨m2, H2⟩, s2⟩
    clear g0 g1 hZ hg fp x1 y1 fe x2 y2
    replace H2 := Lib.hid H2
    replace s2 := Lib.hid s2
    go_wp2_with fail
    obtain ⟨⟨g0, g1, hZ, hg⟩, ⟨fp, x1, y1⟩, fe, x2, y2⟩ := K.out
    refine (add_any _ (negW e) X2 _ _ _ fe x2 y2 H2.out).mono ?_
    rintro _ w3 ⟨rfl, ⟨m3, H3⟩, s3⟩
    clear g0 g1 hZ hg fp x1 y1 fe x2 y2
    replace H3 := Lib.hid H3
    replace s3 := Lib.hid s3
    go_wp2_with fail
    have H5 := H3.out
    rw [show 0 + Z + X1 + X2 = 0 by have := hX.out; omega] at H5
    refine (sign_zero _ m3 w3 H5).mono ?_
    rintro _ _ ⟨rfl, rfl⟩
    clear H5
    go_wp2_with fail
    go_ret
    exact ⟨rfl, Still.grown ((((Still.refl _ _).alloc (Nat.le_refl _) _ _).trans s1.out).trans s2.out |>.trans s3.out)⟩
  · have hu : fitB a0 = false ∨ fitB a1 = false := by
      by_cases h : fitB a0 = true
      · right; rw [← Bool.not_eq_true]; exact fun h2 => hf ⟨h, h2⟩
      · left; rwa [← Bool.not_eq_true]
    have C := fun w => prod_unfit a0 a1 h0 h1 hu w
    have F0 := fun w => rfit_any a0 h0 w
    have F1 := fun w => rfit_any a1 h1 w
    by_cases h : fitB a0 = false
    · rw [h] at F0
      clear hu hf h h0 h1
      go_enter Try.func5, Try.ntmps5
      go_wp2_with (first | (go_at_call 10; ((with_reducible refine (awake_any _).mono ?_); rintro e w' ⟨rfl, rfl⟩)) | (go_at_call 14; ((with_reducible refine (C _).mono ?_); rintro e w' ⟨rfl, rfl⟩; unfold ffi)) | (go_at_call 20; ((with_reducible refine (F0 _).mono ?_); rintro e w' ⟨rfl, rfl⟩)) | (go_at_call 20; ((with_reducible refine (F1 _).mono ?_); rintro e w' ⟨rfl, rfl⟩)))
      go_ret
      exact ⟨rfl, Grown.refl _⟩
    · have h2 : fitB a1 = false := hu.resolve_left h
      rw [Bool.not_eq_false] at h
      rw [h] at F0
      rw [h2] at F1
      clear hu hf h h2 h0 h1
      go_enter Try.func5, Try.ntmps5
      go_wp2_with (first | (go_at_call 10; ((with_reducible refine (awake_any _).mono ?_); rintro e w' ⟨rfl, rfl⟩)) | (go_at_call 14; ((with_reducible refine (C _).mono ?_); rintro e w' ⟨rfl, rfl⟩; unfold ffi)) | (go_at_call 20; ((with_reducible refine (F0 _).mono ?_); rintro e w' ⟨rfl, rfl⟩)) | (go_at_call 20; ((with_reducible refine (F1 _).mono ?_); rintro e w' ⟨rfl, rfl⟩)))
      go_ret
      exact ⟨rfl, Grown.refl _⟩

theorem wf64 {b : Nat} (h : (Lit.float .f64 b).wf = true) : b < 18446744073709551616 := by
  simp only [Lit.wf, decide_eq_true_eq] at h; exact h

set_option maxRecDepth 100000 in
theorem lifted (os : Os) (started : os.Started) (H : Type) (enc : TypeId × Value → H) :
    ReturnsInHanded {} Try.checked os 5 .any (Rows.twainProdsSpec.pre6 enc Try.prog Try.f5 Rows.twainProdsRow.domain false) (Rows.twainProdsSpec.post enc Try.prog Try.f5 false true false false) := by
  refine returnsInHanded_of_change (C := Try.checked) own started (by kernel_rfl) Try.func5
    (ChangeSpec.witness6 (enc := enc) (C := Try.checked) false ⟨#[], #[.float .f64 0, .float .f64 0], []⟩ 8 (by kernel_rfl) (by kernel_rfl) (by kernel_rfl) (by kernel_rfl)) ?_
  intro W base args ds gs before hval0 hW hcnd _
  have hval : ∀ (j : Nat) t v, Try.f5.params[j]? = some t → args[j]? = some v → Value.okWide Try.prog W .any base t v := hval0
  have hW' := hW
  obtain ⟨p, q, hA0, hV, rfl, hfz, hnd⟩ := hW
  have hA : DataW.TrodAll enc Try.prog W 0 (fun _ => true) true Try.f5.params.toList args.toList ds p := hA0
  rw [Try.params5] at hA hval
  obtain ⟨v0, vs0, d0, ds0, p0, q0, hargs, rfl, rfl, t0, r0⟩ := trodAll_cons hA
  obtain ⟨v1, vs1, d1, ds1, p1, q1, rfl, rfl, rfl, t1, r1⟩ := trodAll_cons r0
  obtain ⟨rfl, rfl, rfl⟩ := trodAll_nil r1
  obtain rfl : args = #[v0, v1] := by cases args; simp_all
  obtain ⟨rfl, rfl⟩ := trodVars_none hV
  obtain ⟨a0, rfl, rfl, rfl, w0⟩ := open_float Try.underlying22 (hval 0 22 v0 rfl rfl) t0
  obtain ⟨a1, rfl, rfl, rfl, w1⟩ := open_float Try.underlying22 (hval 1 22 v1 rfl rfl) t1
  clear hA0 hval0
  simp only [List.append_nil] at hW'
  refine (walk a0 a1 (wf64 w0) (wf64 w1) W).mono fun e W' ⟨he, hg⟩ => ?_
  subst he
  exact ⟨_, rfl, post_of_same (pa := []) (pv := []) hW' (fun _ _ _ => (trodAll_cons_mk (shut_bool Try.underlying4 _) trodAll_mk0)) (fun sp _ => (trodAll_cons_mk (shut_float Try.underlying22 w0) (trodAll_cons_mk (shut_float Try.underlying22 w1) trodAll_mk0))) (fun _ _ => rfl) rfl
    (hg.frame _) hg.2.1 (ok_one (by kernel_rfl) rfl (okWide_bool_mk Try.underlying4 _))⟩

theorem over : Rows.twainProdsRow.holds Try.pinned (OpenSpec.ofChange Rows.twainProdsSpec) :=
  OpenClaim.holds_of_wide 5 Try.f5 rfl rfl rfl rfl rfl rfl rfl ⟨rfl, rfl, rfl, rfl, rfl⟩ rfl rfl rfl rfl rfl (by kernel_rfl) Try.func5 (by kernel_rfl)
    (of_decide_eq_true (by kernel_rfl)) (by unfold Func.isWrapper; first | (rw [if_pos (by decide +kernel)]; kernel_rfl) | (rw [if_neg (by decide +kernel)]; exact ⟨rfl, rfl⟩))
    (fun os started H enc _ => lifted os started H enc)

theorem proved : Rows.TwainProdsSaid :=
  over
end Go.Proofs.Ytbnifpggcfcmhaa.twainProds
