/- Proved here: of up to two numbers all sums are one (TotTwo), over the translated code; for every input. -/
import Derived.Test.YthgpdgajmpocfaaRows
import Derived.Test.YthgpdgajmpocfaaTtw
namespace Go.Proofs.Ythgpdgajmpocfaa.totTwo
open Go.ChangeShapes Go.WideShapes Go.ChangeAt Go.RowKit Ieee.Own

theorem take2 (a b : Nat) (w : World) (j : Nat) : At (w.alloc (.cells #[.float .f64 a, .float .f64 b] 25)) (some ⟨w.heap.size, 0, none⟩) ([a, b].take j) := by
  refine At.take ?_ j
  intro i hi
  refine ⟨w.heap.size, 0, rfl, ?_⟩
  rw [World.cell?_alloc_at _ _ _ _ rfl]
  have : i = 0 ∨ i = 1 := by simp at hi; omega
  rcases this with rfl | rfl <;> rfl
theorem two_out {L : List Nat} (hl : L.length ≤ 2) (hw : Words L) {r : Nat} (h : ExactIs L r) :
    outS L (leftS L) = r ∧ outS L (leftS L.reverse) = r ∧ outS L (pairsS L) = r ∧ outS L (keptS L) = r := by
  unfold outS
  by_cases h0 : errL L = 0
  · rw [if_pos h0, if_pos h0, if_pos h0, if_pos h0]
    obtain ⟨h1, h2⟩ := errL_zero h0
    refine two_all L hl ?_ (h.1 h0)
    intro x hx
    obtain ⟨j, hj, rfl⟩ := List.mem_iff_getElem.1 hx
    have := fit_sized hw h2 hj
    simpa [List.getD, hj] using this
  · rw [if_neg h0, if_neg h0, if_neg h0, if_neg h0, h.2 h0]
    exact ⟨rfl, rfl, rfl, rfl⟩

set_option maxHeartbeats 2000000 in
theorem walk (w : World) (a0 : Nat) (h0 : a0 < 18446744073709551616) (a1 : Nat) (h1 : a1 < 18446744073709551616) (a2 : Int) (_h2 : (Lit.int .i64 a2).wf = true) :
    Calls Try.prog 9 #[.float .f64 a0, .float .f64 a1, .int .i64 a2] w fun e w' => e = .returned (.bool true) ∧ Below w.heap.size w w' := by
  obtain ⟨k, hk, hk2⟩ : ∃ k : Nat, a2 % 18446744073709551616 = k ∧ k < 18446744073709551616 := ⟨(a2 % 18446744073709551616).toNat, by omega, by omega⟩
  have hj : k % 3 < 3 := Nat.mod_lt _ (by omega)
  have S := fun w => start_run k 3 hk2 (by omega) (by omega) w
  obtain ⟨j, hj2⟩ : ∃ j, j = k % 3 := ⟨_, rfl⟩
  rw [← hj2] at hj
  have S' : ∀ w, Calls Try.prog 28 #[.int .u64 k, .int .i64 3] w fun e w' => e = .returned (.int .i64 (j : Int)) ∧ w = w' := by
    intro w; rw [hj2]; exact S w
  have hlen : j = ([a0, a1].take j).length := by simp; omega
  have hws : Words ([a0, a1].take j) := by
    intro x hx
    have := List.mem_of_mem_take hx
    simp at this
    rcases this with rfl | rfl <;> assumption
  have hT := fun w => take2 a0 a1 w j
  obtain ⟨L, hL⟩ : ∃ L, L = [a0, a1].take j := ⟨_, rfl⟩
  have hlL : L.length ≤ 2 := by rw [hL]; simp; omega
  rw [← hL] at hlen hws hT
  have hall := fun r (hr : ExactIs L r) => two_out hlL hws hr
  have hk' : IntKind.u64.wrap a2 = (k : Int) := by rw [← hk]; simp [IntKind.wrap, IntKind.bits, IntKind.signed]
  have C1 := fun w h => left_run (some ⟨w, 0, none⟩) 2 j L h hlen (by omega) hws
  have C2 := fun w h => right_run (some ⟨w, 0, none⟩) 2 j L h hlen (by omega) hws
  have C3 := fun w h => pairs_run (some ⟨w, 0, none⟩) 2 j L h hlen (by omega) (by omega) hws
  have C4 := fun w h => kept_run (some ⟨w, 0, none⟩) 2 j L h hlen (by omega) hws
  have C5 := fun w h => exact_run (some ⟨w, 0, none⟩) 2 j L h hlen (by omega) hws
  obtain ⟨x1, hx1⟩ : ∃ x, x = outS L (leftS L) := ⟨_, rfl⟩
  obtain ⟨x2, hx2⟩ : ∃ x, x = outS L (leftS L.reverse) := ⟨_, rfl⟩
  obtain ⟨x3, hx3⟩ : ∃ x, x = outS L (pairsS L) := ⟨_, rfl⟩
  obtain ⟨x4, hx4⟩ : ∃ x, x = outS L (keptS L) := ⟨_, rfl⟩
  rw [← hx1, ← hx2, ← hx3, ← hx4] at hall
  rw [← hx1] at C1
  rw [← hx2] at C2
  rw [← hx3] at C3
  rw [← hx4] at C4
  replace C1 := Lib.hid C1
  replace C2 := Lib.hid C2
  replace C3 := Lib.hid C3
  replace C4 := Lib.hid C4
  replace C5 := Lib.hid C5
  replace hT := Lib.hid hT
  replace hall := Lib.hid hall
  replace hk' := Lib.hid hk'
  clear hL hlL S hj2 hlen hws hx1 hx2 hx3 hx4 hk
  go_enter Try.func9, Try.ntmps9
  go_wp2_with fail
  refine (awake_run w).mono ?_
  rintro _ w1 ⟨rfl, hb1⟩
  replace hb1 := Lib.hid hb1
  go_wp2_with fail
  rw [hk'.out]
  refine (S' _).mono ?_
  rintro _ _ ⟨rfl, rfl⟩
  go_wp2_with fail
  refine (C1.out _ _ (hT.out w1)).mono ?_
  rintro _ _ ⟨rfl, rfl⟩
  unfold fe
  go_wp2_with fail
  refine (C2.out _ _ (hT.out w1)).mono ?_
  rintro _ _ ⟨rfl, rfl⟩
  unfold fe
  go_wp2_with fail
  refine (C3.out _ _ (hT.out w1)).mono ?_
  rintro _ w2 ⟨rfl, hd2⟩
  replace hd2 := Lib.hid hd2
  unfold fe
  go_wp2_with fail
  refine (C4.out _ _ ((hT.out w1).drawn hd2.out)).mono ?_
  rintro _ w3 ⟨rfl, hd3⟩
  replace hd3 := Lib.hid hd3
  unfold fe
  go_wp2_with fail
  refine (C5.out _ _ ((hT.out w1).drawn (hd2.out.trans hd3.out))).mono ?_
  rintro _ w4 ⟨⟨r, rfl, hr⟩, hb4⟩
  obtain ⟨rfl, rfl, rfl, rfl⟩ := hall.out r hr
  replace hb4 := Lib.hid hb4
  clear hr hall
  unfold fe
  go_wp2_with (go_at_call 14; ((with_reducible refine (agree_true _ _ _).mono ?_); rintro e w' ⟨rfl, rfl⟩))
  go_ret
  refine ⟨rfl, ?_⟩
  have b2 := (((Below.refl w1.heap.size w1).alloc (Nat.le_refl _) (.cells #[.float .f64 a0, .float .f64 a1] 25)).trans (hd2.out.below _)).trans (hd3.out.below _)
  have hs := hb1.out.size
  exact hb1.out.trans ((b2.trans (hb4.out.mono (by have := b2.size; omega))).mono hs)

theorem own : ownKnob Try.prog.godebug = none := by kernel_rfl
theorem laidOut : laidOutB Try.prog = true := by kernel_rfl
theorem cellsF : Try.prog.cellsOf 25 = 1 := by kernel_rfl
theorem bytesF : Try.prog.bytesOf 25 = 8 := by kernel_rfl
theorem wf64 {b : Nat} (h : (Lit.float .f64 b).wf = true) : b < 18446744073709551616 := by
  simp only [Lit.wf, decide_eq_true_eq] at h; exact h

set_option maxRecDepth 100000 in
theorem lifted (os : Os) (started : os.Started) (H : Type) (enc : TypeId × Value → H) :
    ReturnsInHanded {} Try.checked os 9 .any (Rows.totTwoSpec.pre6 enc Try.prog Try.f9 Rows.totTwoRow.domain false) (Rows.totTwoSpec.post enc Try.prog Try.f9 false true false false) := by
  refine returnsInHanded_of_change_sized (C := Try.checked) own started (by kernel_rfl) Try.func9
    (ChangeSpec.witness6 (enc := enc) (C := Try.checked) false ⟨#[], #[.float .f64 0, .float .f64 0, .int .i64 0], []⟩ 8 (by kernel_rfl) (by kernel_rfl) (by kernel_rfl) (by kernel_rfl)) ?_
  intro W base args ds gs before hval0 hW _ hsz0 _
  have hsz : (DataW.weightsEach Try.prog (Try.f9.params.toList ++ Rows.totTwoSpec.plain.varTypes Try.prog) (ds ++ gs)).all (· ≤ reachBytes) = true := hsz0
  clear hsz0
  have hval : ∀ (j : Nat) t v, Try.f9.params[j]? = some t → args[j]? = some v → Value.okWide Try.prog W .any base t v := hval0
  have hW' := hW
  obtain ⟨p, q, hA0, hV, rfl, _, _⟩ := hW
  have hA : DataW.TrodAll enc Try.prog W 0 (fun _ => true) true Try.f9.params.toList args.toList ds p := hA0
  rw [Try.params9] at hA hval hsz
  obtain ⟨v0, vs0, d0, ds0, p0, q0, hargs, rfl, rfl, t0, r0⟩ := trodAll_cons hA
  obtain ⟨v1, vs1, d1, ds1, p1, q1, rfl, rfl, rfl, t1, r1⟩ := trodAll_cons r0
  obtain ⟨v2, vs2, d2, ds2, p2, q2, rfl, rfl, rfl, t2, r2⟩ := trodAll_cons r1
  obtain ⟨rfl, rfl, rfl⟩ := trodAll_nil r2
  obtain rfl : args = #[v0, v1, v2] := by cases args; simp_all
  obtain ⟨rfl, rfl⟩ := trodVars_none hV
  simp only [List.append_nil] at hW'
  obtain ⟨a0, rfl, rfl, rfl, w0⟩ := open_float Try.underlying25 (hval 0 25 v0 rfl rfl) t0
  obtain ⟨a1, rfl, rfl, rfl, w1⟩ := open_float Try.underlying25 (hval 1 25 v1 rfl rfl) t1
  obtain ⟨a2, rfl, rfl, rfl, w2⟩ := open_int Try.underlying3 (hval 2 3 v2 rfl rfl) t2
  clear hA0 hval0
  refine (walk W a0 (wf64 w0) a1 (wf64 w1) a2 w2).mono fun e W' ⟨he, hb⟩ => ?_
  subst he
  refine ⟨_, rfl, _, _, _, [], _, [], hW', trodAll_cons_mk (shut_bool Try.underlying4 _) trodAll_mk0, (trodAll_cons_mk (shut_float Try.underlying25 w0) (trodAll_cons_mk (shut_float Try.underlying25 w1) (trodAll_cons_mk (shut_int Try.underlying3 w2) trodAll_mk0))), rfl, hb.frame _, fun h => by cases h⟩

theorem over : Rows.totTwoRow.holds Try.pinned (OpenSpec.ofChange Rows.totTwoSpec) :=
  OpenClaim.holds_of_wide 9 Try.f9 rfl rfl rfl rfl rfl rfl rfl ⟨rfl, rfl, rfl, rfl, rfl⟩ rfl rfl rfl rfl rfl (by kernel_rfl) Try.func9 (by kernel_rfl)
    (of_decide_eq_true (by kernel_rfl)) (by unfold Func.isWrapper; first | (rw [if_pos (by decide +kernel)]; kernel_rfl) | (rw [if_neg (by decide +kernel)]; exact ⟨rfl, rfl⟩))
    (fun os started H enc _ => lifted os started H enc)

theorem proved : Rows.TotTwoSaid :=
  over
end Go.Proofs.Ythgpdgajmpocfaa.totTwo
