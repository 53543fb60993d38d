/- Proved here: what the reference's other operations on spans answer (Neg, Root, Square, Sub), over the translated code. -/
import Derived.Test.YtkfagpahbojigaaSadd
import Derived.Test.YtkfagpahbojigaaAdq
namespace Go.Proofs.Ytkfagpahbojigaa
open Go.ChangeShapes Go.WideShapes Go.ChangeAt Go.RowKit Ieee.Own

theorem exact_dn {x : Nat} (h : FinW x) {z : Int} (hz : V x = z) : Dn (fun v => z - v) x := ⟨h, by show 0 ≤ z - V x; omega, fun u _ hu => by have : 0 ≤ z - V u := hu; omega⟩
theorem exact_up {x : Nat} (h : FinW x) {z : Int} (hz : V x = z) : Up (fun v => z - v) x := ⟨h, by show z - V x ≤ 0; omega, fun u _ hu => by have : z - V u ≤ 0 := hu; omega⟩
/-! ### Neg -/
set_option maxHeartbeats 1000000 in
theorem rneg_run (a b : Nat) (ha : a < 18446744073709551616) (hb : b < 18446744073709551616) (w : World) :
    Calls Try.prog 26 #[spanV a b] w fun e w' => OpIs (errS a b) (fun v => -V b - v) (fun v => -V a - v) e ∧ Below w.heap.size w w' := by
  have CB := Lib.hid (fun w => rscheck_run a b ha hb w)
  have S0 : Blocks w ([boxO a b] ++ [zeroO]) ((w.alloc (boxO a b)).alloc zeroO) := ((Blocks.nil w).alloc (by simp) _).alloc (by simp) _
  unfold boxO zeroO at S0
  unfold spanV at *
  replace S0 := Lib.hid S0
  have hst := @fstore
  by_cases h0 : errS a b = 0
  · obtain ⟨f1, f2, -⟩ := errS_zero h0
    have N1 := fun w => xneg' b hb w
    have N2 := fun w => xneg' a ha w
    have TR := Lib.hid (fun w => told_run (negW b) (negW a) (negW_fin (fit_fin hb f2)) (negW_fin (fit_fin ha f1)) w)
    have hD := exact_dn (negW_fin (fit_fin hb f2)) (negW_V (fit_fin hb f2))
    have hU := exact_up (negW_fin (fit_fin ha f1)) (negW_V (fit_fin ha f1))
    generalize negW a = na at *
    generalize negW b = nb at *
    obtain ⟨x, y, c, hT⟩ := toldE_span nb na
    rw [hT] at TR
    have hO : Hid (OpIs (errS a b) (fun v => -V b - v) (fun v => -V a - v) (.returned (spanE x y c))) := ⟨fun _ => ⟨nb, na, by rw [hT], hD, hU⟩, fun h => absurd h0 h⟩
    rw [h0] at CB
    rw [h0] at hO ⊢
    unfold spanE at TR
    clear h0 f1 f2 ha hb hT hD hU
    go_enter Try.func26, Try.ntmps26
    go_wp2_with fail
    have S := S0.out
    clear S0
    generalize (w.alloc _).alloc _ = wr at *
    refine (CB.out wr).mono ?_
    rintro _ w1 ⟨rfl, hb1⟩
    have S1 := S.on hb1
    have c00 := S1.cell 0 rfl 0 w.heap.size rfl
    have c01 := S1.cell 0 rfl 1 w.heap.size rfl
    replace S1 := Lib.hid S1
    clear S hb1
    go_wp2_with fail
    refine (TR.out w1).mono ?_
    rintro _ w2 ⟨rfl, hb2⟩
    have S2 := S1.out.on hb2
    have r0 := S2.cell 1 rfl 0 (w.heap.size + 1) rfl
    have r1 := S2.cell 1 rfl 1 (w.heap.size + 1) rfl
    have f0 := S2.free 1 rfl 0 (w.heap.size + 1) rfl
    have f1 := S2.free 1 rfl 1 (w.heap.size + 1) rfl
    have B2 := Lib.hid S2.old
    clear S1 S2 hb2 c00 c01
    go_wp2_with fail
    (try simp only [Exit.inBlock, Exit.then])
    refine bodyPost_ret (v := spanE x y c) ?_ rfl ⟨hO.out, ?_⟩
    · rw [results_cell_tmp rfl]; unfold spanE; go_simp
    · exact (B2.out.setCell (by show _ ≤ (w.heap.size + 1); omega) _).setCell (by show _ ≤ (w.heap.size + 1); omega) _
  · have hO : Hid (OpIs (errS a b) (fun v => -V b - v) (fun v => -V a - v) (.returned (spanE 0 0 (errS a b)))) := ⟨fun h => absurd h h0, fun _ => rfl⟩
    have t : (errS a b != 0) = true := by simpa using h0
    clear h0 ha hb
    generalize errS a b = er at *
    go_enter Try.func26, Try.ntmps26
    go_wp2_with fail
    have S := S0.out
    clear S0
    generalize (w.alloc _).alloc _ = wr at *
    refine (CB.out wr).mono ?_
    rintro _ w1 ⟨rfl, hb1⟩
    have S1 := S.on hb1
    have r0 := S1.cell 1 rfl 0 (w.heap.size + 1) rfl
    have r1 := S1.cell 1 rfl 1 (w.heap.size + 1) rfl
    have f0 := S1.free 1 rfl 0 (w.heap.size + 1) rfl
    have f1 := S1.free 1 rfl 1 (w.heap.size + 1) rfl
    have B2 := Lib.hid S1.old
    clear S S1 hb1
    go_wp2_with fail
    (try simp only [Exit.inBlock, Exit.then])
    refine bodyPost_ret (v := spanE 0 0 er) ?_ rfl ⟨hO.out, ?_⟩
    · rw [results_cell_tmp rfl]; unfold spanE; go_simp
    · exact (B2.out.setCell (by show _ ≤ (w.heap.size + 1); omega) _).setCell (by show _ ≤ (w.heap.size + 1); omega) _

/-! ### Root -/
def errR (a b : Nat) : Int := if errS a b ≠ 0 then errS a b else if V a < 0 then 6 else 0
theorem root_dn {a q r g : Nat} {N Z : Int} (ha : a < 18446744073709551616) (h1 : fitB a = true) (h0 : 0 ≤ V a) (hq : Ieee.double.sqrt a = some q) (R : RemRes a q q q r N Z g) : Dn (rootC a) (dnW (V r < 0) q) := by
  obtain ⟨A, hp⟩ := root_adj ha h1 h0 hq R.bd'
  exact A.dn (by rw [root_c R hp]; exact (cut_sign _).1.symm)
theorem root_up {a q r g : Nat} {N Z : Int} (ha : a < 18446744073709551616) (h1 : fitB a = true) (h0 : 0 ≤ V a) (hq : Ieee.double.sqrt a = some q) (R : RemRes a q q q r N Z g) : Up (rootC a) (upW (0 < V r) q) := by
  obtain ⟨A, hp⟩ := root_adj ha h1 h0 hq R.bd'
  exact A.upp (by rw [root_c R hp]; exact (cut_sign _).2.symm)
set_option maxHeartbeats 1000000 in
theorem rroots_run (a b : Nat) (ha : a < 18446744073709551616) (hb : b < 18446744073709551616) (w : World) :
    Calls Try.prog 24 #[spanV a b] w fun e w' => OpIs (errR a b) (rootC a) (rootC b) e ∧ Below w.heap.size w w' := by
  have CB := Lib.hid (fun w => rscheck_run a b ha hb w)
  have S0 : Blocks w ([boxO a b] ++ [zeroO]) ((w.alloc (boxO a b)).alloc zeroO) := ((Blocks.nil w).alloc (by simp) _).alloc (by simp) _
  unfold boxO zeroO at S0
  unfold spanV at *
  replace S0 := Lib.hid S0
  have hst := @fstore
  by_cases h0 : errS a b = 0
  · obtain ⟨f1, f2, le⟩ := errS_zero h0
    have t3 := lt_words (fit_fin ha f1) zero_fin
    rw [V_zero] at t3
    by_cases h1 : V a < 0
    · have hO : Hid (OpIs (errR a b) (rootC a) (rootC b) (.returned (spanE 0 0 6))) := by
        have e : errR a b = 6 := by unfold errR; rw [if_neg (by simpa using h0), if_pos h1]
        rw [e]; exact ⟨fun h => by omega, fun _ => rfl⟩
      rw [decide_eq_true h1] at t3
      rw [h0] at CB
      clear h0 h1 f1 f2 le ha hb
      go_enter Try.func24, Try.ntmps24
      go_wp2_with fail
      have S := S0.out
      clear S0
      generalize (w.alloc _).alloc _ = wr at *
      refine (CB.out wr).mono ?_
      rintro _ w1 ⟨rfl, hb1⟩
      have S1 := S.on hb1
      have c00 := S1.cell 0 rfl 0 w.heap.size rfl
      have c01 := S1.cell 0 rfl 1 w.heap.size rfl
      have r0 := S1.cell 1 rfl 0 (w.heap.size + 1) rfl
      have r1 := S1.cell 1 rfl 1 (w.heap.size + 1) rfl
      have f0 := S1.free 1 rfl 0 (w.heap.size + 1) rfl
      have f1 := S1.free 1 rfl 1 (w.heap.size + 1) rfl
      have B2 := Lib.hid S1.old
      clear S S1 hb1
      go_wp2_with fail
      (try simp only [Exit.inBlock, Exit.then])
      refine bodyPost_ret (v := spanE 0 0 6) ?_ rfl ⟨hO.out, ?_⟩
      · rw [results_cell_tmp rfl]; unfold spanE; go_simp
      · exact (B2.out.setCell (by show _ ≤ (w.heap.size + 1); omega) _).setCell (by show _ ≤ (w.heap.size + 1); omega) _
    · obtain ⟨p, r, N, Z, g, o, R, C1⟩ := rroot_fit a ha f1 (by omega)
      obtain ⟨q, t, N', Z', g', o', R', C2⟩ := rroot_fit b hb f2 (by omega)
      have hD := root_dn ha f1 (by omega) o R
      have hU := root_up hb f2 (by omega) o' R'
      have DR := fun w => down_run p r R.fq R.fr w
      have UR := fun w => up_run q t R'.fq R'.fr w
      obtain ⟨lo, hlo⟩ : ∃ x, x = dnW (V r < 0) p := ⟨_, rfl⟩
      obtain ⟨hi, hhi⟩ : ∃ x, x = upW (0 < V t) q := ⟨_, rfl⟩
      rw [← hlo] at hD DR
      rw [← hhi] at hU UR
      have TR := Lib.hid (fun w => told_run lo hi hD.fin hU.fin w)
      obtain ⟨x, y, c, hT⟩ := toldE_span lo hi
      rw [hT] at TR
      have hO : Hid (OpIs (errR a b) (rootC a) (rootC b) (.returned (spanE x y c))) := by
        have e : errR a b = 0 := by unfold errR; rw [if_neg (by simpa using h0), if_neg h1]
        rw [e]; exact ⟨fun _ => ⟨lo, hi, by rw [hT], hD, hU⟩, fun h => absurd rfl h⟩
      rw [decide_eq_false h1] at t3
      rw [h0] at CB
      unfold ffi at C1 C2
      unfold spanE at TR
      clear h0 h1 f1 f2 le o o' R R' hD hU hlo hhi hT ha hb
      go_enter Try.func24, Try.ntmps24
      go_wp2_with fail
      have S := S0.out
      clear S0
      generalize (w.alloc _).alloc _ = wr at *
      refine (CB.out wr).mono ?_
      rintro _ w1 ⟨rfl, hb1⟩
      have S1 := S.on hb1
      have c00 := S1.cell 0 rfl 0 w.heap.size rfl
      have c01 := S1.cell 0 rfl 1 w.heap.size rfl
      replace S1 := Lib.hid S1
      clear S hb1
      go_wp2_with (first | (go_at_call 60; ((with_reducible refine (C1 _).mono ?_); rintro en w' ⟨rfl, rfl⟩)) | (go_at_call 60; ((with_reducible refine (C2 _).mono ?_); rintro en w' ⟨rfl, rfl⟩)) | (go_at_call 50; ((with_reducible refine (DR _).mono ?_); rintro en w' ⟨rfl, rfl⟩)) | (go_at_call 51; ((with_reducible refine (UR _).mono ?_); rintro en w' ⟨rfl, rfl⟩)))
      refine (TR.out w1).mono ?_
      rintro _ w2 ⟨rfl, hb2⟩
      have S2 := S1.out.on hb2
      have r0 := S2.cell 1 rfl 0 (w.heap.size + 1) rfl
      have r1 := S2.cell 1 rfl 1 (w.heap.size + 1) rfl
      have f0 := S2.free 1 rfl 0 (w.heap.size + 1) rfl
      have f1 := S2.free 1 rfl 1 (w.heap.size + 1) rfl
      have B2 := Lib.hid S2.old
      clear S1 S2 hb2 c00 c01
      go_wp2_with fail
      (try simp only [Exit.inBlock, Exit.then])
      refine bodyPost_ret (v := spanE x y c) ?_ rfl ⟨hO.out, ?_⟩
      · rw [results_cell_tmp rfl]; unfold spanE; go_simp
      · exact (B2.out.setCell (by show _ ≤ (w.heap.size + 1); omega) _).setCell (by show _ ≤ (w.heap.size + 1); omega) _
  · have hO : Hid (OpIs (errR a b) (rootC a) (rootC b) (.returned (spanE 0 0 (errS a b)))) := by
      have e : errR a b = errS a b := by unfold errR; rw [if_pos h0]
      rw [e]; exact ⟨fun h => absurd h h0, fun _ => rfl⟩
    have t : (errS a b != 0) = true := by simpa using h0
    clear h0 ha hb
    generalize errS a b = er at *
    go_enter Try.func24, Try.ntmps24
    go_wp2_with fail
    have S := S0.out
    clear S0
    generalize (w.alloc _).alloc _ = wr at *
    refine (CB.out wr).mono ?_
    rintro _ w1 ⟨rfl, hb1⟩
    have S1 := S.on hb1
    have r0 := S1.cell 1 rfl 0 (w.heap.size + 1) rfl
    have r1 := S1.cell 1 rfl 1 (w.heap.size + 1) rfl
    have f0 := S1.free 1 rfl 0 (w.heap.size + 1) rfl
    have f1 := S1.free 1 rfl 1 (w.heap.size + 1) rfl
    have B2 := Lib.hid S1.old
    clear S S1 hb1
    go_wp2_with fail
    (try simp only [Exit.inBlock, Exit.then])
    refine bodyPost_ret (v := spanE 0 0 er) ?_ rfl ⟨hO.out, ?_⟩
    · rw [results_cell_tmp rfl]; unfold spanE; go_simp
    · exact (B2.out.setCell (by show _ ≤ (w.heap.size + 1); omega) _).setCell (by show _ ≤ (w.heap.size + 1); omega) _

/-! ### Sub -/
theorem negW_lt64 {b : Nat} (hb : b < 18446744073709551616) : negW b < 18446744073709551616 := by unfold negW; split <;> omega
theorem fit_neg {b : Nat} (hb : b < 18446744073709551616) : fitB (negW b) = fitB b := by
  have : negW b % 9223372036854775808 = b % 9223372036854775808 := by unfold negW; split <;> omega
  unfold fitB; rw [this]
theorem errS_neg {a b : Nat} (ha : a < 18446744073709551616) (hb : b < 18446744073709551616) (h : errS a b = 0) : errS (negW b) (negW a) = 0 := by
  obtain ⟨f1, f2, le⟩ := errS_zero h
  unfold errS
  rw [fit_neg ha, fit_neg hb, if_pos ⟨f2, f1⟩, negW_V (fit_fin ha f1), negW_V (fit_fin hb f2), if_neg (by omega)]
theorem errSS_of {a1 a2 b1 b2 : Nat} (h : errS a1 a2 = 0) (k : errS b1 b2 = 0) : errSS a1 a2 b1 b2 = 0 := by unfold errSS; rw [if_neg (by simpa using h), k]
theorem OpIs.span {er : Int} {c d : Int → Int} {e : Ending} (h : OpIs er c d e) : ∃ x y k, e = .returned (spanE x y k) := by
  by_cases h0 : er = 0
  · obtain ⟨lo, hi, rfl, -, -⟩ := h.1 h0
    obtain ⟨x, y, k, hT⟩ := toldE_span lo hi
    exact ⟨x, y, k, by rw [hT]⟩
  · exact ⟨_, _, _, h.2 h0⟩
set_option maxHeartbeats 1000000 in
theorem rsub_run (a1 a2 b1 b2 : Nat) (ha : a1 < 18446744073709551616) (ha' : a2 < 18446744073709551616) (hb : b1 < 18446744073709551616) (hb' : b2 < 18446744073709551616) (w : World) :
    Calls Try.prog 16 #[spanV a1 a2, spanV b1 b2] w fun e w' => OpIs (errSS a1 a2 b1 b2) (fun v => V a1 - V b2 - v) (fun v => V a2 - V b1 - v) e ∧ Below w.heap.size w w' := by
  have CB := Lib.hid (fun w => rboth_run a1 a2 b1 b2 ha ha' hb hb' w)
  have AR := Lib.hid (fun w => radd_run a1 a2 (negW b2) (negW b1) ha ha' (negW_lt64 hb') (negW_lt64 hb) w)
  have S0 : Blocks w (([boxO a1 a2] ++ [boxO b1 b2]) ++ [zeroO]) (((w.alloc (boxO a1 a2)).alloc (boxO b1 b2)).alloc zeroO) := (((Blocks.nil w).alloc (by simp) _).alloc (by simp) _).alloc (by simp) _
  unfold boxO zeroO at S0
  unfold spanV at *
  replace S0 := Lib.hid S0
  have hst := @fstore
  by_cases h0 : errSS a1 a2 b1 b2 = 0
  · obtain ⟨e1, e2⟩ := errSS_zero h0
    obtain ⟨f3, f4, -⟩ := errS_zero e2
    have N1 := fun w => xneg' b1 hb w
    have N2 := fun w => xneg' b2 hb' w
    rw [errSS_of e1 (errS_neg hb hb' e2), negW_V (fit_fin hb' f4), negW_V (fit_fin hb f3)] at AR
    generalize negW b1 = n1 at *
    generalize negW b2 = n2 at *
    have hq : Hid (∀ e, OpIs 0 (fun v => V a1 + -V b2 - v) (fun v => V a2 + -V b1 - v) e → OpIs (errSS a1 a2 b1 b2) (fun v => V a1 - V b2 - v) (fun v => V a2 - V b1 - v) e) := by
      intro e he
      rw [h0, Int.sub_eq_add_neg, Int.sub_eq_add_neg]
      exact he
    rw [h0] at CB
    clear h0 e1 e2 f3 f4 ha ha' hb hb'
    go_enter Try.func16, Try.ntmps16
    go_wp2_with fail
    have S := S0.out
    clear S0
    generalize ((w.alloc _).alloc _).alloc _ = wr at *
    refine (CB.out wr).mono ?_
    rintro _ w1 ⟨rfl, hb1⟩
    have S1 := S.on hb1
    have c00 := S1.cell 0 rfl 0 w.heap.size rfl
    have c01 := S1.cell 0 rfl 1 w.heap.size rfl
    have c10 := S1.cell 1 rfl 0 (w.heap.size + 1) rfl
    have c11 := S1.cell 1 rfl 1 (w.heap.size + 1) rfl
    replace S1 := Lib.hid S1
    clear S hb1
    go_wp2_with fail
    refine (AR.out w1).mono ?_
    rintro _ w2 ⟨hop, hb2⟩
    obtain ⟨x, y, c, rfl⟩ := hop.span
    have hO := Lib.hid (hq.out _ hop)
    clear hop hq
    unfold spanE at hO ⊢
    have S2 := S1.out.on hb2
    have r0 := S2.cell 2 rfl 0 (w.heap.size + 1 + 1) rfl
    have r1 := S2.cell 2 rfl 1 (w.heap.size + 1 + 1) rfl
    have f0 := S2.free 2 rfl 0 (w.heap.size + 1 + 1) rfl
    have f1 := S2.free 2 rfl 1 (w.heap.size + 1 + 1) rfl
    have B2 := Lib.hid S2.old
    clear S1 S2 hb2 c00 c01 c10 c11
    go_wp2_with fail
    (try simp only [Exit.inBlock, Exit.then])
    refine bodyPost_ret (v := .tuple #[.agg #[.float .f64 x, .float .f64 y], .int .i64 c]) ?_ rfl ⟨hO.out, ?_⟩
    · rw [results_cell_tmp rfl]; go_simp
    · exact (B2.out.setCell (by show _ ≤ (w.heap.size + 1 + 1); omega) _).setCell (by show _ ≤ (w.heap.size + 1 + 1); omega) _
  · have hO : Hid (OpIs (errSS a1 a2 b1 b2) (fun v => V a1 - V b2 - v) (fun v => V a2 - V b1 - v) (.returned (spanE 0 0 (errSS a1 a2 b1 b2)))) := ⟨fun h => absurd h h0, fun _ => rfl⟩
    have t : (errSS a1 a2 b1 b2 != 0) = true := by simpa using h0
    clear h0 ha ha' hb hb' AR
    generalize errSS a1 a2 b1 b2 = er at *
    go_enter Try.func16, Try.ntmps16
    go_wp2_with fail
    have S := S0.out
    clear S0
    generalize ((w.alloc _).alloc _).alloc _ = wr at *
    refine (CB.out wr).mono ?_
    rintro _ w1 ⟨rfl, hb1⟩
    have S1 := S.on hb1
    have r0 := S1.cell 2 rfl 0 (w.heap.size + 1 + 1) rfl
    have r1 := S1.cell 2 rfl 1 (w.heap.size + 1 + 1) rfl
    have f0 := S1.free 2 rfl 0 (w.heap.size + 1 + 1) rfl
    have f1 := S1.free 2 rfl 1 (w.heap.size + 1 + 1) rfl
    have B2 := Lib.hid S1.old
    clear S S1 hb1
    go_wp2_with fail
    (try simp only [Exit.inBlock, Exit.then])
    refine bodyPost_ret (v := spanE 0 0 er) ?_ rfl ⟨hO.out, ?_⟩
    · rw [results_cell_tmp rfl]; unfold spanE; go_simp
    · exact (B2.out.setCell (by show _ ≤ (w.heap.size + 1 + 1); omega) _).setCell (by show _ ≤ (w.heap.size + 1 + 1); omega) _

/-! ### Square -/
end Go.Proofs.Ytkfagpahbojigaa
