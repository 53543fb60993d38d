/- Proved here: for every number the law TurnRounds returns true: a whole turn more is not seen. No conditions. -/
import Derived.Test.YtbhohpobpecepaaRows
import Derived.Test.YtbhohpobpecepaaJb6
import Derived.Test.YtbhohpobpecepaaJb7
namespace Go.Proofs.Ytbhohpobpecepaa.turnRounds
open Go.ChangeShapes Go.WideShapes Go.ChangeAt Go.RowKit Ieee.Own

theorem wf64 {b : Nat} (h : (Lit.float .f64 b).wf = true) : b < 18446744073709551616 := by
  simp only [Lit.wf, decide_eq_true_eq] at h; exact h
def nanV (x y : Nat) (w : World) : Nat := (Question.nanBits .f64 x y).cut (w.tape w.drawn (.nanBits .f64 x y))
theorem nanV_lt (x y : Nat) (w : World) : nanV x y w < 18446744073709551616 := by
  unfold nanV Question.cut
  dsimp only
  omega
/-- an operation on any two words: a word, the world but for what was drawn -/
theorem fadd_any (x y : Nat) (w : World) : ∃ v w', v < 18446744073709551616 ∧ Drawn w w' ∧ (∀ r, Ieee.double.add x y = some r → v = r) ∧ ∀ t, (binOp .add t (.float .f64 x) (.float .f64 y)).run Try.prog w = .ok (.float .f64 v) w' := by
  cases h : Ieee.double.add x y with
  | some r =>
    have wf : (Lit.float .f64 r).wf = true := floatBits_wf (op := .add) (k := .f64) h
    exact ⟨r, w, wf64 wf, Drawn.refl w, fun r' e => Option.some.inj e, fun t => run_add _ _ _ h t w⟩
  | none =>
    refine ⟨nanV x y w, w.drew, nanV_lt x y w, ⟨1, rfl⟩, fun r e => (by cases e), fun t => ?_⟩
    have h' : FloatKind.f64.format.add x y = none := h
    simp [binOp, Op.floatArith, h']
    first
      | rfl
      | (unfold nanV Question.forced; rfl)
theorem fsub_any (x y : Nat) (w : World) : ∃ v w', v < 18446744073709551616 ∧ Drawn w w' ∧ (∀ r, Ieee.double.sub x y = some r → v = r) ∧ ∀ t, (binOp .sub t (.float .f64 x) (.float .f64 y)).run Try.prog w = .ok (.float .f64 v) w' := by
  cases h : Ieee.double.sub x y with
  | some r =>
    have wf : (Lit.float .f64 r).wf = true := floatBits_wf (op := .sub) (k := .f64) h
    exact ⟨r, w, wf64 wf, Drawn.refl w, fun r' e => Option.some.inj e, fun t => run_sub _ _ _ h t w⟩
  | none =>
    refine ⟨nanV x y w, w.drew, nanV_lt x y w, ⟨1, rfl⟩, fun r e => (by cases e), fun t => ?_⟩
    have h' : FloatKind.f64.format.sub x y = none := h
    simp [binOp, Op.floatArith, h']
    first
      | rfl
      | (unfold nanV Question.forced; rfl)

/-- where x + 1 is exact -/
theorem turned {x y u d : Nat} (A : Ang x) (h1 : ∀ r, Ieee.double.add x oneW = some r → y = r) (h2 : ∀ r, Ieee.double.sub y oneW = some r → u = r) (h3 : ∀ r, Ieee.double.sub y x = some r → d = r)
    (t1 : (FloatKind.f64.format.order u x == some Ordering.eq) = true) (t2 : (FloatKind.f64.format.order d oneW == some Ordering.eq) = true) : V y = V x + 2 ^ 1074 := by
  have one : V oneW = 2 ^ 1074 := by decide +kernel
  have o := one_wd
  obtain ⟨y', a1, a2, a3, a4⟩ := addW A.fin o.fin A.abs (o.le (q := 1024) (l := 1114) (Nat.le_refl _) (by omega)).abs (by omega)
  have := h1 _ a1
  subst this
  have ob := (o.le (q := 1024) (l := 1114 + 1) (Nat.le_refl _) (by omega)).abs
  obtain ⟨u', b1, b2, b3, -⟩ := subW a2 o.fin a4 ob (by omega)
  have := h2 _ b1
  subst this
  have xb := abs_up A.abs (show 1114 ≤ 1114 + 1 by omega)
  obtain ⟨d', c1, c2, c3, -⟩ := subW a2 A.fin a4 xb (by omega)
  have := h3 _ c1
  subst this
  rw [eqW b2 A.fin] at t1
  rw [eqW c2 o.fin] at t2
  have e1 := of_decide_eq_true t1
  have e2 := of_decide_eq_true t2
  rw [b3] at e1
  rw [c3] at e2
  by_cases q : (V oneW).natAbs ≤ (V x).natAbs
  · have R := fast (Rep_V x) (Rep_V oneW) q
    rw [← a3] at R
    rw [RN_exact R, one] at e2
    omega
  · have R := fast (Rep_V oneW) (Rep_V x) (by omega)
    rw [Int.add_comm, ← a3] at R
    rw [RN_exact R, one] at e1
    omega

set_option maxHeartbeats 2000000 in
theorem walk (w : World) (a0 : Nat) (h0 : a0 < 18446744073709551616) :
    Calls Try.prog 5 #[.float .f64 a0] w fun e w' => e = .returned (.bool true) ∧ Below w.heap.size w w' := by
  have AW := Lib.hid awake5
  obtain ⟨s, c, k, R, C1⟩ := uboth_run h0
  replace C1 := Lib.hid C1
  replace h0 := Lib.hid h0
  replace R := Lib.hid R
  unfold ffi' at *
  go_enter Try.func5, Try.ntmps5
  go_wp2_with fail
  refine (AW.out w).mono ?_
  rintro _ v0 ⟨rfl, hb⟩
  obtain ⟨y, w1, hy, D1, g1, e1⟩ := fadd_any a0 4607182418800017408 v0
  obtain ⟨u, w2, hu, D2, g2, e2⟩ := fsub_any y 4607182418800017408 w1
  obtain ⟨d, w3, hd, D3, g3, e3⟩ := fsub_any y a0 w2
  have B2 := Lib.hid ((hb.trans ((D1.below _).trans (D2.below _))))
  have B3 := Lib.hid ((hb.trans ((D1.below _).trans ((D2.below _).trans (D3.below _)))))
  replace g1 := Lib.hid g1
  replace g2 := Lib.hid g2
  replace g3 := Lib.hid g3
  replace hy := Lib.hid hy
  clear hb AW D1 D2 D3 hu hd
  cases t1 : (FloatKind.f64.format.order u a0 == some Ordering.eq)
  · clear g1 g2 g3 R h0 C1 hy B3 e3
    go_wp2_with fail
    go_ret
    exact ⟨rfl, B2.out⟩
  · cases t2 : (FloatKind.f64.format.order d 4607182418800017408 == some Ordering.eq)
    · clear g1 g2 g3 R h0 C1 hy B2
      go_wp2_with fail
      go_ret
      exact ⟨rfl, B3.out⟩
    · obtain ⟨s', c', k', R', C2⟩ := uboth_run hy.out
      have G : Hid (k = 0 → k' = 0 → s = s' ∧ c = c') := fun p q => by
        have A := errA_ang h0.out (by rw [← R.out.err]; exact p)
        exact Trig.turn (turned A g1.out g2.out g3.out t1 t2) (R.out.ok p) (R'.ok q)
      replace C2 := Lib.hid C2
      have t1' := Lib.hid t1
      clear g1 g2 g3 R R' h0 hy B2
      unfold ffi' at C2
      go_wp2_with fail
      refine (C1.out w3).mono ?_
      rintro _ v1 ⟨rfl, hb⟩
      replace hb := Lib.hid (B3.out.trans (hb.mono B3.out.size))
      clear B3 C1 e1 e2 e3 t1 t2
      have B := hb
      clear hb
      go_wp2_with fail
      refine (C2.out v1).mono ?_
      rintro _ v2 ⟨rfl, hb⟩
      replace hb := Lib.hid (B.out.trans (hb.mono B.out.size))
      clear B C2
      by_cases p : k = 0
      · by_cases q : k' = 0
        · obtain ⟨rfl, rfl⟩ := G.out p q
          subst p q
          clear G
          go_wp2_with (go_at_call 15; ((with_reducible refine (same_run _ _ rfl _).mono ?_); rintro e w' ⟨rfl, rfl⟩))
          go_ret
          exact ⟨rfl, hb.out⟩
        · have tk : (k != 0) = false := by simpa using p
          have tq : (k' != 0) = true := by simpa using q
          clear G p q
          go_wp2_with fail
          go_ret
          exact ⟨rfl, hb.out⟩
      · have tk : (k != 0) = true := by simpa using p
        clear G p
        go_wp2_with fail
        go_ret
        exact ⟨rfl, hb.out⟩

theorem own : ownKnob Try.prog.godebug = none := by kernel_rfl
theorem laidOut : laidOutB Try.prog = true := by kernel_rfl
theorem cellsF : Try.prog.cellsOf 22 = 1 := by kernel_rfl
theorem bytesF : Try.prog.bytesOf 22 = 8 := by kernel_rfl

set_option maxRecDepth 100000 in
theorem lifted (os : Os) (started : os.Started) (H : Type) (enc : TypeId × Value → H) :
    ReturnsInHanded {} Try.checked os 5 .any (Rows.turnRoundsSpec.pre6 enc Try.prog Try.f5 Rows.turnRoundsRow.domain false) (Rows.turnRoundsSpec.post enc Try.prog Try.f5 false true false false) := by
  refine returnsInHanded_of_change_sized (C := Try.checked) own started (by kernel_rfl) Try.func5
    (ChangeSpec.witness6 (enc := enc) (C := Try.checked) false ⟨#[], #[.float .f64 0], []⟩ 8 (by kernel_rfl) (by kernel_rfl) (by kernel_rfl) (by kernel_rfl)) ?_
  intro W base args ds gs before hval0 hW _ hsz0 _
  have hsz : (DataW.weightsEach Try.prog (Try.f5.params.toList ++ Rows.turnRoundsSpec.plain.varTypes Try.prog) (ds ++ gs)).all (· ≤ reachBytes) = true := hsz0
  clear hsz0
  have hval : ∀ (j : Nat) t v, Try.f5.params[j]? = some t → args[j]? = some v → Value.okWide Try.prog W .any base t v := hval0
  have hW' := hW
  obtain ⟨p, q, hA0, hV, rfl, _, _⟩ := hW
  have hA : DataW.TrodAll enc Try.prog W 0 (fun _ => true) true Try.f5.params.toList args.toList ds p := hA0
  rw [Try.params5] at hA hval hsz
  obtain ⟨v0, vs0, d0, ds0, p0, q0, hargs, rfl, rfl, t0, r0⟩ := trodAll_cons hA
  obtain ⟨rfl, rfl, rfl⟩ := trodAll_nil r0
  obtain rfl : args = #[v0] := by cases args; simp_all
  obtain ⟨rfl, rfl⟩ := trodVars_none hV
  simp only [List.append_nil] at hW'
  obtain ⟨a0, rfl, rfl, rfl, w0⟩ := open_float Try.underlying22 (hval 0 22 v0 rfl rfl) t0
  clear hA0 hval0
  refine (walk W a0 (wf64 w0)).mono fun e W' ⟨he, hb⟩ => ?_
  subst he
  refine ⟨_, rfl, _, _, _, [], _, [], hW', trodAll_cons_mk (shut_bool Try.underlying4 _) trodAll_mk0, (trodAll_cons_mk (shut_float Try.underlying22 w0) trodAll_mk0), rfl, hb.frame _, fun h => by cases h⟩

theorem over : Rows.turnRoundsRow.holds Try.pinned (OpenSpec.ofChange Rows.turnRoundsSpec) :=
  OpenClaim.holds_of_wide 5 Try.f5 rfl rfl rfl rfl rfl rfl rfl ⟨rfl, rfl, rfl, rfl, rfl⟩ rfl rfl rfl rfl rfl (by kernel_rfl) Try.func5 (by kernel_rfl)
    (of_decide_eq_true (by kernel_rfl)) (by unfold Func.isWrapper; first | (rw [if_pos (by decide +kernel)]; kernel_rfl) | (rw [if_neg (by decide +kernel)]; exact ⟨rfl, rfl⟩))
    (fun os started H enc _ => lifted os started H enc)

theorem proved : Rows.TurnRoundsSaid :=
  over
end Go.Proofs.Ytbhohpobpecepaa.turnRounds
