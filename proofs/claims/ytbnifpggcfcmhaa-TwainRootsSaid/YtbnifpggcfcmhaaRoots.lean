/- Proved here: for every number of binary64 the law TwainRoots returns true: the root times itself and the remainder are a. No conditions. -/
import Derived.Test.YtbnifpggcfcmhaaRows
import Derived.Test.YtbnifpggcfcmhaaLawb
import Derived.WalkKit
import Derived.ProofKit
import Derived.OpenShut
import Derived.WalkLawsBesides
namespace Go.Proofs.Ytbnifpggcfcmhaa.twainRoots
open Go.ChangeShapes Go.WideShapes Go.ChangeAt Go.RowKit Ieee.Own

theorem own : ownKnob Try.prog.godebug = none := by kernel_rfl

/-! ### the walk -/
set_option maxHeartbeats 1000000 in
theorem walk (a0 : Nat) (h0 : a0 < 18446744073709551616) (w : World) :
    Calls Try.prog 7 #[.float .f64 a0] w fun e w' => e = .returned (.bool true) ∧ Grown w w' := by
  have F0 := fun w => rfit_any a0 h0 w
  by_cases f0 : fitB a0 = true
  · by_cases hz : V a0 < 0
    · have C := fun w => root_neg a0 h0 f0 hz w
      have e0 := lt_zero a0 (fit_fin h0 f0)
      rw [decide_eq_true hz] at e0
      rw [f0] at F0
      clear h0 f0 hz
      go_enter Try.func7, Try.ntmps7
      go_wp2_with (first | (go_at_call 10; ((with_reducible refine (awake_any _).mono ?_); rintro e w' ⟨rfl, rfl⟩)) | (go_at_call 18; ((with_reducible refine (C _).mono ?_); rintro e w' ⟨rfl, rfl⟩; unfold ffi)) | (go_at_call 20; ((with_reducible refine (F0 _).mono ?_); rintro e w' ⟨rfl, rfl⟩)))
      go_ret
      exact ⟨rfl, Grown.refl _⟩
    obtain ⟨q, r, N, Z, g, hop, R, C⟩ := root_fit a0 h0 f0 (by omega)
    have S := sqrt_any a0 q hop
    have e0 := eq_self q R.fq
    obtain ⟨K0, hK, bq, br⟩ := R.bd
    obtain ⟨-, -, pq⟩ := good R.fq R.dq bq hK
    obtain ⟨⟨X1, x1⟩, y1, pr⟩ := good R.fr R.dr br hK
    have P1 := fun w => plain_true q R.fq pq w
    have P2 := fun w => plain_true r R.fr pr w
    have g0 := fit_fin h0 f0
    have n1 := xneg a0 g0.1
    obtain ⟨fa, X2, x2, v2, y2⟩ := neg_good (k := 1275) g0 (fit_dvd h0 f0) (fit_abs (k := 1275) h0 f0 (Nat.le_refl _)) (by decide)
    have hX : Z + X1 + X2 = 0 := by
      have s1 := R.vr
      have s2 := R.exn
      rw [x1, v2, s2] at s1
      clear x2 bq br pq pr
      omega
    have K := Lib.hid (And.intro (And.intro R.fq (And.intro R.fq (And.intro R.exz R.par))) (And.intro (And.intro R.fr (And.intro x1 y1)) (And.intro fa (And.intro x2 y2))))
    replace hX := Lib.hid hX
    clear h0 R f0 hz hop g0 hK bq br pq pr fa x1 x2 y1 y2 v2 F0
    go_enter Try.func7, Try.ntmps7
    go_wp2_with (first | (go_at_call 10; ((with_reducible refine (awake_any _).mono ?_); rintro e w' ⟨rfl, rfl⟩)) | (go_at_call 18; ((with_reducible refine (C _).mono ?_); rintro e w' ⟨rfl, rfl⟩; unfold ffi)) | (go_at_call 21; ((with_reducible refine (P1 _).mono ?_); rintro e w' ⟨rfl, rfl⟩)) | (go_at_call 21; ((with_reducible refine (P2 _).mono ?_); rintro e w' ⟨rfl, rfl⟩)))
    obtain ⟨⟨g1, g2, hZ, hg⟩, ⟨fr, x1, y1⟩, fa, x2, y2⟩ := K.out
    refine (prod_any _ q q g Z 0 _ _ g1 g2 hZ hg (start_holds w)).mono ?_
    rintro _ w1 ⟨rfl, ⟨m1, H1⟩, s1⟩
    clear g1 g2 hZ hg fr x1 y1 fa x2 y2
    replace H1 := Lib.hid H1
    replace s1 := Lib.hid s1
    go_wp2_with fail
    obtain ⟨⟨g1, g2, hZ, hg⟩, ⟨fr, x1, y1⟩, fa, x2, y2⟩ := K.out
    refine (add_any _ r X1 _ _ _ fr x1 y1 H1.out).mono ?_
    rintro _ w2 ⟨rfl, ⟨m2, H2⟩, s2⟩
    clear g1 g2 hZ hg fr x1 y1 fa x2 y2
    replace H2 := Lib.hid H2
    replace s2 := Lib.hid s2
    go_wp2_with fail
    obtain ⟨⟨g1, g2, hZ, hg⟩, ⟨fr, x1, y1⟩, fa, x2, y2⟩ := K.out
    refine (add_any _ (negW a0) X2 _ _ _ fa x2 y2 H2.out).mono ?_
    rintro _ w3 ⟨rfl, ⟨m3, H3⟩, s3⟩
    clear g1 g2 hZ hg fr x1 y1 fa x2 y2
    replace H3 := Lib.hid H3
    replace s3 := Lib.hid s3
    go_wp2_with fail
    have H5 := H3.out
    rw [show 0 + Z + X1 + X2 = 0 by have := hX.out; omega] at H5
    refine (sign_zero _ m3 w3 H5).mono ?_
    rintro _ _ ⟨rfl, rfl⟩
    clear H5
    go_wp2_with (go_at_call 25; ((with_reducible refine (S _).mono ?_); rintro e w' ⟨rfl, rfl⟩))
    go_ret
    exact ⟨rfl, Still.grown ((((Still.refl _ _).alloc (Nat.le_refl _) _ _).trans s1.out).trans s2.out |>.trans s3.out)⟩
  · rw [Bool.not_eq_true] at f0
    have C := fun w => root_unfit a0 h0 f0 w
    rw [f0] at F0
    clear h0 f0
    go_enter Try.func7, Try.ntmps7
    go_wp2_with (first | (go_at_call 10; ((with_reducible refine (awake_any _).mono ?_); rintro e w' ⟨rfl, rfl⟩)) | (go_at_call 18; ((with_reducible refine (C _).mono ?_); rintro e w' ⟨rfl, rfl⟩; unfold ffi)) | (go_at_call 20; ((with_reducible refine (F0 _).mono ?_); rintro e w' ⟨rfl, rfl⟩)))
    go_ret
    exact ⟨rfl, Grown.refl _⟩

theorem wf64 {b : Nat} (h : (Lit.float .f64 b).wf = true) : b < 18446744073709551616 := by
  simp only [Lit.wf, decide_eq_true_eq] at h; exact h

set_option maxRecDepth 100000 in
theorem lifted (os : Os) (started : os.Started) (H : Type) (enc : TypeId × Value → H) :
    ReturnsInHanded {} Try.checked os 7 .any (Rows.twainRootsSpec.pre6 enc Try.prog Try.f7 Rows.twainRootsRow.domain false) (Rows.twainRootsSpec.post enc Try.prog Try.f7 false true false false) := by
  refine returnsInHanded_of_change (C := Try.checked) own started (by kernel_rfl) Try.func7
    (ChangeSpec.witness6 (enc := enc) (C := Try.checked) false ⟨#[], #[.float .f64 0], []⟩ 8 (by kernel_rfl) (by kernel_rfl) (by kernel_rfl) (by kernel_rfl)) ?_
  intro W base args ds gs before hval0 hW hcnd _
  have hval : ∀ (j : Nat) t v, Try.f7.params[j]? = some t → args[j]? = some v → Value.okWide Try.prog W .any base t v := hval0
  have hW' := hW
  obtain ⟨p, q, hA0, hV, rfl, hfz, hnd⟩ := hW
  have hA : DataW.TrodAll enc Try.prog W 0 (fun _ => true) true Try.f7.params.toList args.toList ds p := hA0
  rw [Try.params7] at hA hval
  obtain ⟨v0, vs0, d0, ds0, p0, q0, hargs, rfl, rfl, t0, r0⟩ := trodAll_cons hA
  obtain ⟨rfl, rfl, rfl⟩ := trodAll_nil r0
  obtain rfl : args = #[v0] := by cases args; simp_all
  obtain ⟨rfl, rfl⟩ := trodVars_none hV
  obtain ⟨a0, rfl, rfl, rfl, w0⟩ := open_float Try.underlying22 (hval 0 22 v0 rfl rfl) t0
  clear hA0 hval0
  simp only [List.append_nil] at hW'
  refine (walk a0 (wf64 w0) W).mono fun e W' ⟨he, hg⟩ => ?_
  subst he
  exact ⟨_, rfl, post_of_same (pa := []) (pv := []) hW' (fun _ _ _ => (trodAll_cons_mk (shut_bool Try.underlying4 _) trodAll_mk0)) (fun sp _ => (trodAll_cons_mk (shut_float Try.underlying22 w0) trodAll_mk0)) (fun _ _ => rfl) rfl
    (hg.frame _) hg.2.1 (ok_one (by kernel_rfl) rfl (okWide_bool_mk Try.underlying4 _))⟩

theorem over : Rows.twainRootsRow.holds Try.pinned (OpenSpec.ofChange Rows.twainRootsSpec) :=
  OpenClaim.holds_of_wide 7 Try.f7 rfl rfl rfl rfl rfl rfl rfl ⟨rfl, rfl, rfl, rfl, rfl⟩ rfl rfl rfl rfl rfl (by kernel_rfl) Try.func7 (by kernel_rfl)
    (of_decide_eq_true (by kernel_rfl)) (by unfold Func.isWrapper; first | (rw [if_pos (by decide +kernel)]; kernel_rfl) | (rw [if_neg (by decide +kernel)]; exact ⟨rfl, rfl⟩))
    (fun os started H enc _ => lifted os started H enc)

theorem proved : Rows.TwainRootsSaid :=
  over
end Go.Proofs.Ytbnifpggcfcmhaa.twainRoots
