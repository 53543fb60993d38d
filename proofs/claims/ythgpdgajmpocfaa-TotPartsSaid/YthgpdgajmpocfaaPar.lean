/- Proved here: two numbers that are one number's exact parts are as good as it in the exact sum (TotParts), over the translated code; for every input. -/
import Derived.Test.YthgpdgajmpocfaaRows
import Derived.Test.YthgpdgajmpocfaaTcp
namespace Go.Proofs.Ythgpdgajmpocfaa.totParts
open Go.ChangeShapes Go.WideShapes Go.ChangeAt Go.RowKit Ieee.Own

theorem words_two {L : List Nat} (h : Words L) {a b : Nat} (ha : a < 18446744073709551616) (hb : b < 18446744073709551616) : Words (L ++ [a, b]) := by
  intro x hx
  rcases List.mem_append.1 hx with hx | hx
  · exact h x hx
  · simp at hx; rcases hx with rfl | rfl <;> assumption
theorem errL_two {L : List Nat} {a b c d : Nat} (h1 : fitB a = true) (h2 : fitB b = true) (h3 : fitB c = true) (h4 : fitB d = true) : errL (L ++ [a, b]) = errL (L ++ [c, d]) := by
  unfold errL allFit
  simp [List.all_append, h1, h2, h3, h4]
theorem sum_two {L : List Nat} {a b c d : Nat} (h : V c + V d = V a + V b) : (vs (L ++ [a, b])).sum = (vs (L ++ [c, d])).sum := by
  rw [vs_app, vs_app, List.sum_append, List.sum_append]
  simp [vs]
  omega
theorem parts_same {L : List Nat} {a b c d x y : Nat} (h1 : fitB a = true) (h2 : fitB b = true) (h3 : fitB c = true) (h4 : fitB d = true) (h : V c + V d = V a + V b) (hx : ExactIs (L ++ [a, b]) x) (hy : ExactIs (L ++ [c, d]) y) : x = y := by
  have e := errL_two (L := L) h1 h2 h3 h4
  by_cases h0 : errL (L ++ [a, b]) = 0
  · have k := hx.1 h0
    rw [sum_two h] at k
    exact k.uniq (hy.1 (by rw [← e]; exact h0))
  · rw [hx.2 h0, hy.2 (by rw [← e]; exact h0)]

set_option maxHeartbeats 2000000 in
theorem walk (w : World) (ao0 : Option Addr) (cap0 : Nat) (L0 : List Nat) (hc0 : L0.length ≤ cap0) (hw0 : Words L0) (ha0 : At w ao0 L0) (hr0 : cap0 * 8 ≤ 140737488351232) (hn0 : ao0 = none → cap0 = 0) (a1 : Nat) (h1 : a1 < 18446744073709551616) (a2 : Nat) (h2 : a2 < 18446744073709551616) :
    Calls Try.prog 7 #[.slice ao0 L0.length cap0, .float .f64 a1, .float .f64 a2] w fun e w' => e = .returned (.bool true) ∧ Below w.heap.size w w' := by
  obtain ⟨n, hn⟩ : ∃ n, n = L0.length := ⟨_, rfl⟩
  rw [← hn] at hc0 ⊢
  have hm : n ≤ 4611686018427387904 := by omega
  have hlt := ha0.lt
  have hrn : n * 8 ≤ 140737488351232 := by omega
  by_cases hf : fitB a1 = true ∧ fitB a2 = true
  · obtain ⟨s, r, SR, -, S⟩ := rsum_fit a1 a2 h1 h2 hf.1 hf.2
    have F1 := fun w => rfit_any s SR.fs.1 w
    have F2 := fun w => rfit_any r SR.fe.1 w
    by_cases hs : fitB s = true
    · rw [hs] at F1
      by_cases hr : fitB r = true
      · rw [hr] at F2
        by_cases h200 : 200 < n
        · clear hs hr SR ha0 hw0 hf h1 h2 hlt hn
          go_enter Try.func7, Try.ntmps7
          go_wp2_with fail
          refine (awake_run w).mono ?_
          rintro _ w1 ⟨rfl, hb1⟩
          replace hb1 := Lib.hid hb1
          go_wp2_with (first | (go_at_call 30; ((with_reducible refine (S _).mono ?_); rintro e w' ⟨rfl, rfl⟩; unfold ffi)) | (go_at_call 31; ((with_reducible refine (F1 _).mono ?_); rintro e w' ⟨rfl, rfl⟩)) | (go_at_call 31; ((with_reducible refine (F2 _).mono ?_); rintro e w' ⟨rfl, rfl⟩)))
          go_ret
          exact ⟨rfl, hb1.out⟩
        · have X1 := fun ao c x h => exact_run ao c (n + 2) (L0 ++ [a1, a2]) x (by simp; omega) (by omega) (words_two hw0 h1 h2) h
          have X2 := fun ao c x h => exact_run ao c (n + 2) (L0 ++ [s, r]) x (by simp; omega) (by omega) (words_two hw0 SR.fs.1 SR.fe.1) h
          have hsame := fun x y hx hy => parts_same (L := L0) (x := x) (y := y) hf.1 hf.2 hs hr (by have := SR.ve; omega) hx hy
          rw [← errL_two (L := L0) hf.1 hf.2 hs hr] at X2
          generalize errL (L0 ++ [a1, a2]) = er at *
          replace X1 := Lib.hid X1
          replace X2 := Lib.hid X2
          replace hsame := Lib.hid hsame
          replace ha0 := Lib.hid ha0
          replace hlt := Lib.hid hlt
          replace hn := Lib.hid hn
          have h200' : n ≤ 200 := by omega
          clear hs hr SR hw0 hf h1 h2 h200 hm
          go_enter Try.func7, Try.ntmps7
          go_wp2_with fail
          refine (awake_run w).mono ?_
          rintro _ w1 ⟨rfl, hb1⟩
          replace hb1 := Lib.hid hb1
          go_wp2_with (first | (go_at_call 30; ((with_reducible refine (S _).mono ?_); rintro e w' ⟨rfl, rfl⟩; unfold ffi)) | (go_at_call 31; ((with_reducible refine (F1 _).mono ?_); rintro e w' ⟨rfl, rfl⟩)) | (go_at_call 31; ((with_reducible refine (F2 _).mono ?_); rintro e w' ⟨rfl, rfl⟩)) | (at_builtin; refine wpList_copy rfl _ _ rfl rfl ao0 n cap0 L0 rfl hn.out hn0 (ha0.out.later hb1.out hlt.out) hrn ?_))
          intro ao1 cap1 w2 C1
          replace C1 := Lib.hid C1
          go_wp2_with (at_builtin; refine wpList_two rfl _ _ rfl ao1 n cap1 L0 a1 a2 rfl rfl hn.out C1.out hrn ?_)
          intro ao2 cap2 w3 A2 B2
          have X := X1.out ao2 cap2 w3 A2
          have hs12 := hb1.out.size
          have B2' := Lib.hid (hb1.out.trans (B2.mono hs12))
          clear A2 B2 C1
          go_wp2_with fail
          refine X.mono ?_
          rintro _ w4 ⟨⟨x, rfl, hx⟩, B3⟩
          have B4 := Lib.hid (B2'.out.trans (B3.mono B2'.out.size))
          replace hx := Lib.hid hx
          clear B2' B3 X hs12
          unfold fe
          go_wp2_with (at_builtin; refine wpList_copy rfl _ _ rfl rfl ao0 n cap0 L0 rfl hn.out hn0 (ha0.out.later B4.out hlt.out) hrn ?_)
          intro ao3 cap3 w5 C3
          replace C3 := Lib.hid C3
          go_wp2_with (at_builtin; refine wpList_two rfl _ _ rfl ao3 n cap3 L0 s r rfl rfl hn.out C3.out hrn ?_)
          intro ao4 cap4 w6 A6 B6
          have X := X2.out ao4 cap4 w6 A6
          have B7 := Lib.hid (B4.out.trans (B6.mono B4.out.size))
          clear A6 B6 C3
          go_wp2_with fail
          refine X.mono ?_
          rintro _ w7 ⟨⟨y, rfl, hy⟩, B8⟩
          obtain rfl := hsame.out x y hx.out hy
          have B9 := Lib.hid (B7.out.trans (B8.mono B7.out.size))
          clear B8 X hy hx
          unfold fe
          go_wp2_with (go_at_call 14; ((with_reducible refine (agree_true _ _ _).mono ?_); rintro e w' ⟨rfl, rfl⟩))
          go_ret
          exact ⟨rfl, B9.out⟩
      · rw [Bool.not_eq_true] at hr
        rw [hr] at F2
        clear hs hr SR ha0 hw0 hf h1 h2 hlt hn
        go_enter Try.func7, Try.ntmps7
        go_wp2_with fail
        refine (awake_run w).mono ?_
        rintro _ w1 ⟨rfl, hb1⟩
        replace hb1 := Lib.hid hb1
        go_wp2_with (first | (go_at_call 30; ((with_reducible refine (S _).mono ?_); rintro e w' ⟨rfl, rfl⟩; unfold ffi)) | (go_at_call 31; ((with_reducible refine (F1 _).mono ?_); rintro e w' ⟨rfl, rfl⟩)) | (go_at_call 31; ((with_reducible refine (F2 _).mono ?_); rintro e w' ⟨rfl, rfl⟩)))
        go_ret
        exact ⟨rfl, hb1.out⟩
    · rw [Bool.not_eq_true] at hs
      rw [hs] at F1
      clear hs SR ha0 hw0 hf h1 h2 hlt hn F2
      go_enter Try.func7, Try.ntmps7
      go_wp2_with fail
      refine (awake_run w).mono ?_
      rintro _ w1 ⟨rfl, hb1⟩
      replace hb1 := Lib.hid hb1
      go_wp2_with (first | (go_at_call 30; ((with_reducible refine (S _).mono ?_); rintro e w' ⟨rfl, rfl⟩; unfold ffi)) | (go_at_call 31; ((with_reducible refine (F1 _).mono ?_); rintro e w' ⟨rfl, rfl⟩)))
      go_ret
      exact ⟨rfl, hb1.out⟩
  · have hu : fitB a1 = false ∨ fitB a2 = false := by
      cases h1 : fitB a1 <;> cases h2 : fitB a2 <;> simp_all
    have S := fun w => rsum_unfit a1 a2 h1 h2 hu w
    clear hu ha0 hw0 hf h1 h2 hlt hn
    go_enter Try.func7, Try.ntmps7
    go_wp2_with fail
    refine (awake_run w).mono ?_
    rintro _ w1 ⟨rfl, hb1⟩
    replace hb1 := Lib.hid hb1
    go_wp2_with (first | (go_at_call 30; ((with_reducible refine (S _).mono ?_); rintro e w' ⟨rfl, rfl⟩; unfold ffi)))
    go_ret
    exact ⟨rfl, hb1.out⟩

theorem own : ownKnob Try.prog.godebug = none := by kernel_rfl
theorem laidOut : laidOutB Try.prog = true := by kernel_rfl
theorem cellsF : Try.prog.cellsOf 25 = 1 := by kernel_rfl
theorem bytesF : Try.prog.bytesOf 25 = 8 := by kernel_rfl
theorem wf64 {b : Nat} (h : (Lit.float .f64 b).wf = true) : b < 18446744073709551616 := by
  simp only [Lit.wf, decide_eq_true_eq] at h; exact h

set_option maxRecDepth 100000 in
theorem lifted (os : Os) (started : os.Started) (H : Type) (enc : TypeId × Value → H) :
    ReturnsInHanded {} Try.checked os 7 .any (Rows.totPartsSpec.pre6 enc Try.prog Try.f7 Rows.totPartsRow.domain false) (Rows.totPartsSpec.post enc Try.prog Try.f7 false true false false) := by
  refine returnsInHanded_of_change_sized (C := Try.checked) own started (by kernel_rfl) Try.func7
    (ChangeSpec.witness6 (enc := enc) (C := Try.checked) false ⟨#[], #[.slice none 0 0, .float .f64 0, .float .f64 0], []⟩ 8 (by kernel_rfl) (by kernel_rfl) (by kernel_rfl) (by kernel_rfl)) ?_
  intro W base args ds gs before hval0 hW _ hsz0 _
  have hsz : (DataW.weightsEach Try.prog (Try.f7.params.toList ++ Rows.totPartsSpec.plain.varTypes Try.prog) (ds ++ gs)).all (· ≤ reachBytes) = true := hsz0
  clear hsz0
  have hval : ∀ (j : Nat) t v, Try.f7.params[j]? = some t → args[j]? = some v → Value.okWide Try.prog W .any base t v := hval0
  have hW' := hW
  obtain ⟨p, q, hA0, hV, rfl, _, _⟩ := hW
  have hA : DataW.TrodAll enc Try.prog W 0 (fun _ => true) true Try.f7.params.toList args.toList ds p := hA0
  rw [Try.params7] at hA hval hsz
  obtain ⟨v0, vs0, d0, ds0, p0, q0, hargs, rfl, rfl, t0, r0⟩ := trodAll_cons hA
  obtain ⟨v1, vs1, d1, ds1, p1, q1, rfl, rfl, rfl, t1, r1⟩ := trodAll_cons r0
  obtain ⟨v2, vs2, d2, ds2, p2, q2, rfl, rfl, rfl, t2, r2⟩ := trodAll_cons r1
  obtain ⟨rfl, rfl, rfl⟩ := trodAll_nil r2
  obtain rfl : args = #[v0, v1, v2] := by cases args; simp_all
  obtain ⟨rfl, rfl⟩ := trodVars_none hV
  simp only [List.append_nil] at hW'
  have tk0 := t0
  obtain ⟨ao0, cap0, L0, rfl, hc0, hw0, ha0, hx0⟩ := open_flts Try.underlying22 Try.underlying25 cellsF (okWide_slice Try.underlying22 (hval 0 22 v0 rfl rfl)) t0
  have hr0 : cap0 * 8 ≤ 140737488351232 := by
    rcases hx0 with ⟨_, h0⟩ | ⟨_, es, sp, hd, h0⟩
    · rw [h0]; decide
    · subst hd
      have := sized_slice hsz (j := 0) (t := 22) (e := 25) rfl rfl Try.underlying22
      rw [bytesF, h0] at this
      simp only [reachBytes] at this
      omega
  have hn0 : ao0 = none → cap0 = 0 := by
    intro h
    rcases hx0 with ⟨_, h0⟩ | ⟨⟨a, h1⟩, _⟩
    · exact h0
    · rw [h] at h1; simp at h1
  have hlt0 : ∀ x ∈ p0, x.block < W.heap.size := fun x hx => by have := hW'.lt x (by simp [hx]); simpa using this
  obtain ⟨a1, rfl, rfl, rfl, w1⟩ := open_float Try.underlying25 (hval 1 25 v1 rfl rfl) t1
  obtain ⟨a2, rfl, rfl, rfl, w2⟩ := open_float Try.underlying25 (hval 2 25 v2 rfl rfl) t2
  clear hA0 hval0
  refine (walk W ao0 cap0 L0 hc0 hw0 ha0 hr0 hn0 a1 (wf64 w1) a2 (wf64 w2)).mono fun e W' ⟨he, hb⟩ => ?_
  subst he
  refine ⟨_, rfl, _, _, _, [], _, [], hW', trodAll_cons_mk (shut_bool Try.underlying4 _) trodAll_mk0, (trodAll_cons_mk (Below.trod laidOut (by kernel_rfl) (of_decide_eq_true (by kernel_rfl)) tk0 hb hlt0) (trodAll_cons_mk (shut_float Try.underlying25 w1) (trodAll_cons_mk (shut_float Try.underlying25 w2) trodAll_mk0))), rfl, hb.frame _, fun h => by cases h⟩

theorem over : Rows.totPartsRow.holds Try.pinned (OpenSpec.ofChange Rows.totPartsSpec) :=
  OpenClaim.holds_of_wide 7 Try.f7 rfl rfl rfl rfl rfl rfl rfl ⟨rfl, rfl, rfl, rfl, rfl⟩ rfl rfl rfl rfl rfl (by kernel_rfl) Try.func7 (by kernel_rfl)
    (of_decide_eq_true (by kernel_rfl)) (by unfold Func.isWrapper; first | (rw [if_pos (by decide +kernel)]; kernel_rfl) | (rw [if_neg (by decide +kernel)]; exact ⟨rfl, rfl⟩))
    (fun os started H enc _ => lifted os started H enc)

theorem proved : Rows.TotPartsSaid :=
  over
end Go.Proofs.Ythgpdgajmpocfaa.totParts
