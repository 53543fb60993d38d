/- Proved here: for every number the law TurnCircles returns true: sine and cosine lie on the circle. No conditions. -/
import Derived.Test.YtbhohpobpecepaaRows
import Derived.Test.YtbhohpobpecepaaJb6
namespace Go.Proofs.Ytbhohpobpecepaa.turnCircles
open Go.ChangeShapes Go.WideShapes Go.ChangeAt Go.RowKit Ieee.Own

theorem circ {x s c : Nat} (hx : x < 18446744073709551616) (e : errA x = 0) (T : Trig x s c) : ∃ t, Ieee.double.mul s s = some (mX s s) ∧ Ieee.double.mul c c = some (mX c c) ∧ Ieee.double.add (mX s s) (mX c c) = some (aX (mX s s) (mX c c)) ∧
    Ieee.double.sub (aX (mX s s) (mX c c)) oneW = some t ∧ FinW t ∧ -(mkRat 1 (2^48)) ≤ Q t ∧ Q t ≤ mkRat 1 (2^48) := by
  obtain ⟨r, R, a, b⟩ := T.ex
  have h := errA_ang hx e
  have H := R.rest h
  have N := H.near
  have W1 := H.sin_wd
  have W2 := H.cos_wd
  have bd := H.Q_bd
  have tp := Ply.top_mul bd.1 bd.2
  have ci := Ply.circle tp.1 tp.2
  have A1 := N.sn
  have A2 := N.cn
  have neg : ∀ {w : Nat} {y E M : Rat}, Ap (Q w) y E M → ∀ {v : Nat}, V v = -V w → Ap (Q v) (-y) E M := by
    intro w y E M A v hv
    have : Q v = -Q w := by unfold Q; rw [hv, Rat.intCast_neg]; simp only [Rat.div_def]; grind
    obtain ⟨p, q, m, n⟩ := A
    exact ⟨by grind, by grind, by grind, by grind⟩
  have wd : ∀ {w v : Nat} , Wd w 768 1075 → FinW v → (V v = V w ∨ V v = -V w) → Wd v 768 1075 := by
    intro w v W f hv
    refine ⟨f, ?_, ?_⟩
    · rcases hv with q | q
      · rw [q]; exact W.dvd
      · rw [q]; exact Int.dvd_neg.2 W.dvd
    · have := W.abs
      rcases hv with q | q <;> rw [q]
      · exact this
      · rw [Int.natAbs_neg]; exact this
  have sam : ∀ {w : Nat} {y E M : Rat}, Ap (Q w) y E M → ∀ {v : Nat}, V v = V w → Ap (Q v) y E M := by
    intro w y E M A v hv
    have : Q v = Q w := by unfold Q; rw [hv]
    rw [this]; exact A
  generalize Ply.s (Ply.tau * Q r) = S at *
  generalize Ply.c (Ply.tau * Q r) = C at *
  unfold vq at a b
  have fs := T.sz.fin
  have fc := T.cz.fin
  have k4 : kq eig (V x) % 4 = 0 ∨ kq eig (V x) % 4 = 1 ∨ kq eig (V x) % 4 = 2 ∨ kq eig (V x) % 4 = 3 := by omega
  generalize kq eig (V x) = k at *
  have c0 : 1 - Ply.eps ≤ C * C + S * S ∧ C * C + S * S ≤ 1 + Ply.eps := by constructor <;> grind
  rcases k4 with q | q | q | q
  · rw [if_pos q] at a
    rw [if_neg (by omega), if_pos (by omega)] at b
    exact circ_words (wd W1 fs (.inl a)) (wd W2 fc (.inl b)) (sam A1 a) (sam A2 b) (.inl ⟨rfl, rfl⟩) ci.1 ci.2
  · rw [if_neg (by omega), if_pos q] at a
    rw [if_neg (by omega), if_neg (by omega), if_pos (by omega)] at b
    exact circ_words (wd W2 fs (.inl a)) (wd W1 fc (.inr b)) (sam A2 a) (neg A1 b) (.inr ⟨rfl, rfl⟩) (by grind) (by grind)
  · rw [if_neg (by omega), if_neg (by omega), if_pos q] at a
    rw [if_neg (by omega), if_neg (by omega), if_neg (by omega)] at b
    exact circ_words (wd W1 fs (.inr a)) (wd W2 fc (.inr b)) (neg A1 a) (neg A2 b) (.inl ⟨rfl, rfl⟩) (by grind) (by grind)
  · rw [if_neg (by omega), if_neg (by omega), if_neg (by omega)] at a
    rw [if_pos (by omega)] at b
    exact circ_words (wd W2 fs (.inr a)) (wd W1 fc (.inl b)) (neg A2 a) (sam A1 b) (.inr ⟨rfl, rfl⟩) (by grind) (by grind)

def closeW : Nat := 4391009636686233600
theorem close_Q : Q closeW = mkRat 1 (2^48) := by decide +kernel
theorem abs_le {t : Nat} (f : FinW t) (h1 : -(mkRat 1 (2^48)) ≤ Q t) (h2 : Q t ≤ mkRat 1 (2^48)) : V (t % 9223372036854775808) ≤ V closeW ∧ FinW (t % 9223372036854775808) := by
  have fm : FinW (t % 9223372036854775808) := ⟨by omega, by have := f.2; omega⟩
  refine ⟨?_, fm⟩
  rw [← Q_le, close_Q]
  unfold V at *
  by_cases q : t < 9223372036854775808
  · rw [Nat.mod_eq_of_lt q]; exact h2
  · have e : t % 9223372036854775808 = t - 9223372036854775808 := by have := f.1; omega
    have : Q (t % 9223372036854775808) = -Q t := by
      unfold Q V
      rw [if_pos (by omega), if_neg q, e, Rat.intCast_neg]
      simp only [Rat.div_def]; grind
    rw [this]; grind

set_option maxHeartbeats 2000000 in
theorem walk (w : World) (a0 : Nat) (h0 : a0 < 18446744073709551616) :
    Calls Try.prog 6 #[.float .f64 a0] w fun e w' => e = .returned (.bool true) ∧ Below w.heap.size w w' := by
  have AW := Lib.hid awake5
  obtain ⟨s, c, k, R, C1⟩ := uboth_run h0
  replace C1 := Lib.hid C1
  by_cases hk : k = 0
  · have e := R.err
    have T := R.ok hk
    obtain ⟨t, o1, o2, o3, o4, ft, q1, q2⟩ := circ h0 (e ▸ hk) T
    have r1 := run_mul _ _ _ o1
    have r2 := run_mul _ _ _ o2
    have r3 := run_add _ _ _ o3
    have r4 := run_sub _ _ _ o4
    have A := fun w => abs_any t ft.1 w
    obtain ⟨l1, l2⟩ := abs_le ft q1 q2
    have L := le_words l2 (show FinW closeW by unfold FinW closeW; omega)
    rw [decide_eq_true l1] at L
    subst hk
    unfold ffi' oneW closeW at *
    clear R h0 e T o1 o2 o3 o4 ft q1 q2 l1 l2
    generalize aX (mX s s) (mX c c) = u1 at *
    generalize mX s s = u2 at *
    generalize mX c c = u3 at *
    generalize t % 9223372036854775808 = u4 at *
    go_enter Try.func6, Try.ntmps6
    go_wp2_with fail
    refine (AW.out w).mono ?_
    rintro _ v0 ⟨rfl, hb⟩
    have B := Lib.hid hb
    clear hb AW
    go_wp2_with fail
    refine (C1.out v0).mono ?_
    rintro _ v1 ⟨rfl, hb⟩
    replace hb := Lib.hid (B.out.trans (hb.mono B.out.size))
    clear B C1
    go_wp2_with (go_at_call 16; ((with_reducible refine (A _).mono ?_); rintro e w' ⟨rfl, rfl⟩))
    go_ret
    exact ⟨rfl, hb.out⟩
  · have tk : (k != 0) = true := by simpa using hk
    unfold ffi' at *
    clear R h0 hk
    go_enter Try.func6, Try.ntmps6
    go_wp2_with fail
    refine (AW.out w).mono ?_
    rintro _ v0 ⟨rfl, hb⟩
    have B := Lib.hid hb
    clear hb AW
    go_wp2_with fail
    refine (C1.out v0).mono ?_
    rintro _ v1 ⟨rfl, hb⟩
    replace hb := Lib.hid (B.out.trans (hb.mono B.out.size))
    clear B C1
    go_wp2_with fail
    go_ret
    exact ⟨rfl, hb.out⟩

theorem own : ownKnob Try.prog.godebug = none := by kernel_rfl
theorem laidOut : laidOutB Try.prog = true := by kernel_rfl
theorem cellsF : Try.prog.cellsOf 22 = 1 := by kernel_rfl
theorem bytesF : Try.prog.bytesOf 22 = 8 := by kernel_rfl
theorem wf64 {b : Nat} (h : (Lit.float .f64 b).wf = true) : b < 18446744073709551616 := by
  simp only [Lit.wf, decide_eq_true_eq] at h; exact h

set_option maxRecDepth 100000 in
theorem lifted (os : Os) (started : os.Started) (H : Type) (enc : TypeId × Value → H) :
    ReturnsInHanded {} Try.checked os 6 .any (Rows.turnCirclesSpec.pre6 enc Try.prog Try.f6 Rows.turnCirclesRow.domain false) (Rows.turnCirclesSpec.post enc Try.prog Try.f6 false true false false) := by
  refine returnsInHanded_of_change_sized (C := Try.checked) own started (by kernel_rfl) Try.func6
    (ChangeSpec.witness6 (enc := enc) (C := Try.checked) false ⟨#[], #[.float .f64 0], []⟩ 8 (by kernel_rfl) (by kernel_rfl) (by kernel_rfl) (by kernel_rfl)) ?_
  intro W base args ds gs before hval0 hW _ hsz0 _
  have hsz : (DataW.weightsEach Try.prog (Try.f6.params.toList ++ Rows.turnCirclesSpec.plain.varTypes Try.prog) (ds ++ gs)).all (· ≤ reachBytes) = true := hsz0
  clear hsz0
  have hval : ∀ (j : Nat) t v, Try.f6.params[j]? = some t → args[j]? = some v → Value.okWide Try.prog W .any base t v := hval0
  have hW' := hW
  obtain ⟨p, q, hA0, hV, rfl, _, _⟩ := hW
  have hA : DataW.TrodAll enc Try.prog W 0 (fun _ => true) true Try.f6.params.toList args.toList ds p := hA0
  rw [Try.params6] at hA hval hsz
  obtain ⟨v0, vs0, d0, ds0, p0, q0, hargs, rfl, rfl, t0, r0⟩ := trodAll_cons hA
  obtain ⟨rfl, rfl, rfl⟩ := trodAll_nil r0
  obtain rfl : args = #[v0] := by cases args; simp_all
  obtain ⟨rfl, rfl⟩ := trodVars_none hV
  simp only [List.append_nil] at hW'
  obtain ⟨a0, rfl, rfl, rfl, w0⟩ := open_float Try.underlying22 (hval 0 22 v0 rfl rfl) t0
  clear hA0 hval0
  refine (walk W a0 (wf64 w0)).mono fun e W' ⟨he, hb⟩ => ?_
  subst he
  refine ⟨_, rfl, _, _, _, [], _, [], hW', trodAll_cons_mk (shut_bool Try.underlying4 _) trodAll_mk0, (trodAll_cons_mk (shut_float Try.underlying22 w0) trodAll_mk0), rfl, hb.frame _, fun h => by cases h⟩

theorem over : Rows.turnCirclesRow.holds Try.pinned (OpenSpec.ofChange Rows.turnCirclesSpec) :=
  OpenClaim.holds_of_wide 6 Try.f6 rfl rfl rfl rfl rfl rfl rfl ⟨rfl, rfl, rfl, rfl, rfl⟩ rfl rfl rfl rfl rfl (by kernel_rfl) Try.func6 (by kernel_rfl)
    (of_decide_eq_true (by kernel_rfl)) (by unfold Func.isWrapper; first | (rw [if_pos (by decide +kernel)]; kernel_rfl) | (rw [if_neg (by decide +kernel)]; exact ⟨rfl, rfl⟩))
    (fun os started H enc _ => lifted os started H enc)

theorem proved : Rows.TurnCirclesSaid :=
  over
end Go.Proofs.Ytbhohpobpecepaa.turnCircles
