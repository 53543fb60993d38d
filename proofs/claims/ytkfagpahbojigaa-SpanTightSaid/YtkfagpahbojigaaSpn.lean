/- Proved here: what span's own Neg, Root, Add and Sub answer, over the translated code. -/
import Derived.Test.YtkfagpahbojigaaSps
import Derived.Deep.RegionHeld3
namespace Go.Proofs.Ytkfagpahbojigaa
open Go.ChangeShapes Go.WideShapes Go.ChangeAt Go.RowKit Ieee.Own

theorem Blocks.drew {w wr : World} {os : List Obj} (S : Blocks w os wr) : Blocks w os wr.drew := ⟨S.old.drew, S.more, S.at_⟩
theorem field_lo (x y : Nat) (w : World) : (Instr.field 24 (.agg #[.float .f64 x, .float .f64 y]) 0).run Try.prog w = .ok (.float .f64 x) w := by rfl
theorem field_hi (x y : Nat) (w : World) : (Instr.field 24 (.agg #[.float .f64 x, .float .f64 y]) 1).run Try.prog w = .ok (.float .f64 y) w := by rfl
theorem fit_low {x : Nat} (h : x < 18446744073709551616) (f : fitB x = true) : posW x = lowW x ∧ posW x = highW x ∧ V (lowW x) = V x ∧ V (highW x) = V x := by
  have p := leastV_pos
  have i := (fit_iff (fit_fin h f)).1 f
  have e1 : V (lowW x) = V x := by
    unfold lowW
    by_cases c1 : 0 ≤ V x ∧ V x < leastV
    · rw [if_pos c1, V_zero]; omega
    · rw [if_neg c1, if_neg (by omega)]
  have e2 : V (highW x) = V x := by
    unfold highW
    by_cases c1 : V x ≤ 0 ∧ -leastV < V x
    · rw [if_pos c1, V_zero]; omega
    · rw [if_neg c1, if_neg (by omega)]
  exact ⟨posW_of (fit_fin h f) (lowW_fin (fit_fin h f)) e1.symm lowW_plus, posW_of (fit_fin h f) (highW_fin (fit_fin h f)) e2.symm highW_plus, e1, e2⟩
theorem fit_most {x : Nat} (h : x < 18446744073709551616) (f : fitB x = true) : -mostV ≤ V x ∧ V x ≤ mostV := by
  have i := (fit_iff (fit_fin h f)).1 f
  have : 0 < mostV := by decide +kernel
  omega
theorem make_told {lo hi : Nat} (h1 : lo < 18446744073709551616) (h2 : hi < 18446744073709551616) (h0 : errS lo hi = 0) : makeE lo hi = toldE lo hi := by
  obtain ⟨f1, f2, le⟩ := errS_zero h0
  obtain ⟨p1, -, v1, -⟩ := fit_low h1 f1
  obtain ⟨-, p2, -, v2⟩ := fit_low h2 f2
  have := fit_most h1 f1
  have := fit_most h2 f2
  unfold makeE toldE
  rw [if_pos h0, v1, v2, if_neg (by omega), p1, p2]
theorem smake_run (lo hi : Nat) (h1 : lo < 18446744073709551616) (h2 : hi < 18446744073709551616) (h0 : errS lo hi = 0) (w : World) : Calls Try.prog 61 #[.float .f64 lo, .float .f64 hi] w fun e w' => e = .returned (toldE lo hi) ∧ Below w.heap.size w w' := by
  rw [← make_told h1 h2 h0]; exact make_run lo hi h1 h2 w

/-! ### Neg -/
set_option maxHeartbeats 1000000 in
theorem sneg_run (a b : Nat) (ha : a < 18446744073709551616) (hb : b < 18446744073709551616) (w : World) :
    Calls Try.prog 25 #[spanV a b] w fun e w' => OpIs (errS a b) (fun v => -V b - v) (fun v => -V a - v) e ∧ Below w.heap.size w w' := by
  have CB := Lib.hid (fun w => scheck_run a b ha hb w)
  have S0 : Blocks w ([boxO a b] ++ [zeroO]) ((w.alloc (boxO a b)).alloc zeroO) := ((Blocks.nil w).alloc (by simp) _).alloc (by simp) _
  unfold boxO zeroO at S0
  unfold spanV at *
  replace S0 := Lib.hid S0
  have hst := @fstore
  by_cases h0 : errS a b = 0
  · obtain ⟨f1, f2, -⟩ := errS_zero h0
    have N1 := fun w => xneg' b hb w
    have N2 := fun w => xneg' a ha w
    have TR := Lib.hid (fun w => smake_run (negW b) (negW a) (negW_lt64 hb) (negW_lt64 ha) (errS_neg ha hb h0) w)
    have hD := exact_dn (negW_fin (fit_fin hb f2)) (negW_V (fit_fin hb f2))
    have hU := exact_up (negW_fin (fit_fin ha f1)) (negW_V (fit_fin ha f1))
    generalize negW a = na at *
    generalize negW b = nb at *
    obtain ⟨x, y, c, hT⟩ := toldE_span nb na
    rw [hT] at TR
    have hO : Hid (OpIs (errS a b) (fun v => -V b - v) (fun v => -V a - v) (.returned (spanE x y c))) := ⟨fun _ => ⟨nb, na, by rw [hT], hD, hU⟩, fun h => absurd h0 h⟩
    rw [h0] at CB
    rw [h0] at hO ⊢
    unfold spanE at TR
    clear h0 f1 f2 ha hb hT hD hU
    go_enter Try.func25, Try.ntmps25
    go_wp2_with fail
    have S := S0.out
    clear S0
    generalize (w.alloc _).alloc _ = wr at *
    refine (CB.out wr).mono ?_
    rintro _ w1 ⟨rfl, hb1⟩
    have S1 := S.on hb1
    have c00 := S1.cell 0 rfl 0 w.heap.size rfl
    have c01 := S1.cell 0 rfl 1 w.heap.size rfl
    replace S1 := Lib.hid S1
    clear S hb1
    go_wp2_with fail
    refine (TR.out w1).mono ?_
    rintro _ w2 ⟨rfl, hb2⟩
    have S2 := S1.out.on hb2
    have r0 := S2.cell 1 rfl 0 (w.heap.size + 1) rfl
    have r1 := S2.cell 1 rfl 1 (w.heap.size + 1) rfl
    have f0 := S2.free 1 rfl 0 (w.heap.size + 1) rfl
    have f1 := S2.free 1 rfl 1 (w.heap.size + 1) rfl
    have B2 := Lib.hid S2.old
    clear S1 S2 hb2 c00 c01
    go_wp2_with fail
    (try simp only [Exit.inBlock, Exit.then])
    refine bodyPost_ret (v := spanE x y c) ?_ rfl ⟨hO.out, ?_⟩
    · rw [results_cell_tmp rfl]; unfold spanE; go_simp
    · exact (B2.out.setCell (by show _ ≤ (w.heap.size + 1); omega) _).setCell (by show _ ≤ (w.heap.size + 1); omega) _
  · have hO : Hid (OpIs (errS a b) (fun v => -V b - v) (fun v => -V a - v) (.returned (spanE 0 0 (errS a b)))) := ⟨fun h => absurd h h0, fun _ => rfl⟩
    have t : (errS a b != 0) = true := by simpa using h0
    clear h0 ha hb
    generalize errS a b = er at *
    go_enter Try.func25, Try.ntmps25
    go_wp2_with fail
    have S := S0.out
    clear S0
    generalize (w.alloc _).alloc _ = wr at *
    refine (CB.out wr).mono ?_
    rintro _ w1 ⟨rfl, hb1⟩
    have S1 := S.on hb1
    have r0 := S1.cell 1 rfl 0 (w.heap.size + 1) rfl
    have r1 := S1.cell 1 rfl 1 (w.heap.size + 1) rfl
    have f0 := S1.free 1 rfl 0 (w.heap.size + 1) rfl
    have f1 := S1.free 1 rfl 1 (w.heap.size + 1) rfl
    have B2 := Lib.hid S1.old
    clear S S1 hb1
    go_wp2_with fail
    (try simp only [Exit.inBlock, Exit.then])
    refine bodyPost_ret (v := spanE 0 0 er) ?_ rfl ⟨hO.out, ?_⟩
    · rw [results_cell_tmp rfl]; unfold spanE; go_simp
    · exact (B2.out.setCell (by show _ ≤ (w.heap.size + 1); omega) _).setCell (by show _ ≤ (w.heap.size + 1); omega) _

/-! ### Root -/
theorem root_le {a b : Nat} {x y : Int} (h2 : V a ≤ V b) (hx : 0 ≤ rootC a x) (hy : rootC b y ≤ 0) : x ≤ y := by
  unfold rootC at hx hy
  have hy0 : ¬ y < 0 := fun c => by rw [if_pos c] at hy; omega
  rw [if_neg hy0] at hy
  by_cases c : x < 0
  · omega
  · rw [if_neg c] at hx
    refine Int.not_lt.1 fun hlt => ?_
    have h3 := Int.mul_le_mul_of_nonneg_right h2 (show (0 : Int) ≤ 2 ^ 1074 from Int.le_of_lt (Int.pow_pos (by omega)))
    have h4 : y * y < x * x := by
      have a1 := Int.mul_le_mul_of_nonneg_left (Int.le_of_lt hlt) (show 0 ≤ y by omega)
      have a2 := Int.mul_lt_mul_of_pos_right hlt (show 0 < x by omega)
      omega
    generalize V a * 2 ^ 1074 = u at *
    generalize V b * 2 ^ 1074 = v at *
    omega
set_option maxHeartbeats 1000000 in
theorem sroots_run (a b : Nat) (ha : a < 18446744073709551616) (hb : b < 18446744073709551616) (w : World) :
    Calls Try.prog 23 #[spanV a b] w fun e w' => OpIs (errR a b) (rootC a) (rootC b) e ∧ Below w.heap.size w w' := by
  have CB := Lib.hid (fun w => scheck_run a b ha hb w)
  have S0 : Blocks w ([boxO a b] ++ [zeroO]) ((w.alloc (boxO a b)).alloc zeroO) := ((Blocks.nil w).alloc (by simp) _).alloc (by simp) _
  unfold boxO zeroO at S0
  unfold spanV at *
  replace S0 := Lib.hid S0
  have hst := @fstore
  by_cases h0 : errS a b = 0
  · obtain ⟨f1, f2, le⟩ := errS_zero h0
    have t3 := lt_words (fit_fin ha f1) zero_fin
    rw [V_zero] at t3
    by_cases h1 : V a < 0
    · have hO : Hid (OpIs (errR a b) (rootC a) (rootC b) (.returned (spanE 0 0 6))) := by
        have e : errR a b = 6 := by unfold errR; rw [if_neg (by simpa using h0), if_pos h1]
        rw [e]; exact ⟨fun h => by omega, fun _ => rfl⟩
      rw [decide_eq_true h1] at t3
      rw [h0] at CB
      clear h0 h1 f1 f2 le ha hb
      go_enter Try.func23, Try.ntmps23
      go_wp2_with fail
      have S := S0.out
      clear S0
      generalize (w.alloc _).alloc _ = wr at *
      refine (CB.out wr).mono ?_
      rintro _ w1 ⟨rfl, hb1⟩
      have S1 := S.on hb1
      have c00 := S1.cell 0 rfl 0 w.heap.size rfl
      have c01 := S1.cell 0 rfl 1 w.heap.size rfl
      have r0 := S1.cell 1 rfl 0 (w.heap.size + 1) rfl
      have r1 := S1.cell 1 rfl 1 (w.heap.size + 1) rfl
      have f0 := S1.free 1 rfl 0 (w.heap.size + 1) rfl
      have f1 := S1.free 1 rfl 1 (w.heap.size + 1) rfl
      have B2 := Lib.hid S1.old
      clear S S1 hb1
      go_wp2_with fail
      (try simp only [Exit.inBlock, Exit.then])
      refine bodyPost_ret (v := spanE 0 0 6) ?_ rfl ⟨hO.out, ?_⟩
      · rw [results_cell_tmp rfl]; unfold spanE; go_simp
      · exact (B2.out.setCell (by show _ ≤ (w.heap.size + 1); omega) _).setCell (by show _ ≤ (w.heap.size + 1); omega) _
    · obtain ⟨lo, hi', hD, hU', A1⟩ := sroot_run ha f1 (by omega)
      obtain ⟨lo', hi, hD', hU, A2⟩ := sroot_run hb f2 (by omega)
      have hle : V lo ≤ V hi := by
        have z1 := hD.le
        have z2 := hU.ge
        exact root_le le z1 z2
      have TR := Lib.hid (fun w => out_run lo hi hD.fin hU.fin hle w)
      replace A1 := Lib.hid A1
      replace A2 := Lib.hid A2
      obtain ⟨x, y, c, hT⟩ := toldE_span lo hi
      rw [hT] at TR
      have hO : Hid (OpIs (errR a b) (rootC a) (rootC b) (.returned (spanE x y c))) := by
        have e : errR a b = 0 := by unfold errR; rw [if_neg (by simpa using h0), if_neg h1]
        rw [e]; exact ⟨fun _ => ⟨lo, hi, by rw [hT], hD, hU⟩, fun h => absurd rfl h⟩
      rw [decide_eq_false h1] at t3
      rw [h0] at CB
      unfold spanE at TR
      unfold spanV at A1 A2
      clear h0 h1 f1 f2 le hle hD hU hD' hU' hT ha hb
      have fl0 := field_lo
      have fl1 := field_hi
      go_enter Try.func23, Try.ntmps23
      go_wp2_with fail
      have S := S0.out
      clear S0
      generalize (w.alloc _).alloc _ = wr at *
      refine (CB.out wr).mono ?_
      rintro _ w1 ⟨rfl, hb1⟩
      have S1 := S.on hb1
      have c00 : w1.cell? ⟨w.heap.size, 0, none⟩ = some (.float .f64 a) := S1.cell 0 rfl 0 w.heap.size rfl
      have c01 : w1.cell? ⟨w.heap.size, 1, none⟩ = some (.float .f64 b) := S1.cell 0 rfl 1 w.heap.size rfl
      replace S1 := Lib.hid S1
      clear S hb1
      go_wp2_with fail
      go_region_held3 (fun x => x.cell? ⟨w.heap.size, 0, none⟩ = some (.float .f64 a) ∧ x.cell? ⟨w.heap.size, 1, none⟩ = some (.float .f64 b)) (first | exact ⟨c00, c01⟩ | exact ⟨d00, d01⟩ | exact ⟨e00, e01⟩ | exact ⟨k00, k01⟩ | go_keep)
        (first
          | (go_at_call 59; ((with_reducible refine (A1.out w1.drew).mono ?_); rintro _ wa ⟨rfl, hba⟩; have Sa := S1.out.drew.on hba; have d00 : wa.cell? ⟨w.heap.size, 0, none⟩ = some (.float .f64 a) := Sa.cell 0 rfl 0 w.heap.size rfl; have d01 : wa.cell? ⟨w.heap.size, 1, none⟩ = some (.float .f64 b) := Sa.cell 0 rfl 1 w.heap.size rfl; replace Sa := Lib.hid Sa; clear hba))
          | (go_at_call 59; ((with_reducible refine (A2.out wa).mono ?_); rintro _ wb ⟨rfl, hbb⟩; have Sb := Sa.out.on hbb; have e00 : wb.cell? ⟨w.heap.size, 0, none⟩ = some (.float .f64 a) := Sb.cell 0 rfl 0 w.heap.size rfl; have e01 : wb.cell? ⟨w.heap.size, 1, none⟩ = some (.float .f64 b) := Sb.cell 0 rfl 1 w.heap.size rfl; replace Sb := Lib.hid Sb; clear hbb))
          | (go_at_call 45; ((with_reducible refine (TR.out wb).mono ?_); rintro _ wc ⟨rfl, hbc⟩; have Sc := Sb.out.on hbc; have k00 : wc.cell? ⟨w.heap.size, 0, none⟩ = some (.float .f64 a) := Sc.cell 0 rfl 0 w.heap.size rfl; have k01 : wc.cell? ⟨w.heap.size, 1, none⟩ = some (.float .f64 b) := Sc.cell 0 rfl 1 w.heap.size rfl; have r0 := Sc.cell 1 rfl 0 (w.heap.size + 1) rfl; have r1 := Sc.cell 1 rfl 1 (w.heap.size + 1) rfl; have f0 := Sc.free 1 rfl 0 (w.heap.size + 1) rfl; have f1 := Sc.free 1 rfl 1 (w.heap.size + 1) rfl; have B2 := Lib.hid Sc.old; clear hbc Sc)))
      all_goals
        go_wp2_with fail
        (try simp only [Exit.inBlock, Exit.then])
        refine bodyPost_ret (v := spanE x y c) ?_ rfl ⟨hO.out, ?_⟩
        · rw [results_cell_tmp rfl]; unfold spanE; go_simp
        · exact (B2.out.setCell (by show _ ≤ (w.heap.size + 1); omega) _).setCell (by show _ ≤ (w.heap.size + 1); omega) _
  · have hO : Hid (OpIs (errR a b) (rootC a) (rootC b) (.returned (spanE 0 0 (errS a b)))) := by
      have e : errR a b = errS a b := by unfold errR; rw [if_pos h0]
      rw [e]; exact ⟨fun h => absurd h h0, fun _ => rfl⟩
    have t : (errS a b != 0) = true := by simpa using h0
    clear h0 ha hb
    generalize errS a b = er at *
    go_enter Try.func23, Try.ntmps23
    go_wp2_with fail
    have S := S0.out
    clear S0
    generalize (w.alloc _).alloc _ = wr at *
    refine (CB.out wr).mono ?_
    rintro _ w1 ⟨rfl, hb1⟩
    have S1 := S.on hb1
    have r0 := S1.cell 1 rfl 0 (w.heap.size + 1) rfl
    have r1 := S1.cell 1 rfl 1 (w.heap.size + 1) rfl
    have f0 := S1.free 1 rfl 0 (w.heap.size + 1) rfl
    have f1 := S1.free 1 rfl 1 (w.heap.size + 1) rfl
    have B2 := Lib.hid S1.old
    clear S S1 hb1
    go_wp2_with fail
    (try simp only [Exit.inBlock, Exit.then])
    refine bodyPost_ret (v := spanE 0 0 er) ?_ rfl ⟨hO.out, ?_⟩
    · rw [results_cell_tmp rfl]; unfold spanE; go_simp
    · exact (B2.out.setCell (by show _ ≤ (w.heap.size + 1); omega) _).setCell (by show _ ≤ (w.heap.size + 1); omega) _


/-! ### Add, Sub -/
set_option maxHeartbeats 1000000 in
theorem sadd_run (a1 a2 b1 b2 : Nat) (ha : a1 < 18446744073709551616) (ha' : a2 < 18446744073709551616) (hb : b1 < 18446744073709551616) (hb' : b2 < 18446744073709551616) (w : World) :
    Calls Try.prog 12 #[spanV a1 a2, spanV b1 b2] w fun e w' => OpIs (errSS a1 a2 b1 b2) (fun v => V a1 + V b1 - v) (fun v => V a2 + V b2 - v) e ∧ Below w.heap.size w w' := by
  have CB := Lib.hid (fun w => sboth_run a1 a2 b1 b2 ha ha' hb hb' w)
  have S0 : Blocks w (([boxO a1 a2] ++ [boxO b1 b2]) ++ [zeroO]) (((w.alloc (boxO a1 a2)).alloc (boxO b1 b2)).alloc zeroO) := (((Blocks.nil w).alloc (by simp) _).alloc (by simp) _).alloc (by simp) _
  unfold boxO zeroO at S0
  unfold spanV at *
  replace S0 := Lib.hid S0
  have hst := @fstore
  have fl0 := field_lo
  have fl1 := field_hi
  by_cases h0 : errSS a1 a2 b1 b2 = 0
  · obtain ⟨e1, e2⟩ := errSS_zero h0
    obtain ⟨f1, f2, le1⟩ := errS_zero e1
    obtain ⟨f3, f4, le2⟩ := errS_zero e2
    obtain ⟨lo, hi', hD, hU', A1⟩ := ssum_run ha hb f1 f3
    obtain ⟨lo', hi, hD', hU, A2⟩ := ssum_run ha' hb' f2 f4
    have hle : V lo ≤ V hi := by
      have z1 : 0 ≤ V a1 + V b1 - V lo := hD.le
      have z2 : V a2 + V b2 - V hi ≤ 0 := hU.ge
      omega
    have TR := Lib.hid (fun w => out_run lo hi hD.fin hU.fin hle w)
    replace A1 := Lib.hid A1
    replace A2 := Lib.hid A2
    obtain ⟨x, y, c, hT⟩ := toldE_span lo hi
    rw [hT] at TR
    have hO : Hid (OpIs (errSS a1 a2 b1 b2) (fun v => V a1 + V b1 - v) (fun v => V a2 + V b2 - v) (.returned (spanE x y c))) := ⟨fun _ => ⟨lo, hi, by rw [hT], hD, hU⟩, fun h => absurd h0 h⟩
    rw [h0] at CB
    unfold spanE at TR
    unfold spanV at A1 A2
    clear h0 e1 e2 f1 f2 f3 f4 le1 le2 hle hD hU hD' hU' hT ha ha' hb hb'
    have hn : ¬ (w.heap.size = w.heap.size + 1 + 1) := by omega
    have hn' : ¬ (w.heap.size + 1 + 1 = w.heap.size) := by omega

    go_enter Try.func12, Try.ntmps12
    go_wp2_with fail
    have S := S0.out
    clear S0
    generalize ((w.alloc _).alloc _).alloc _ = wr at *
    refine (CB.out wr).mono ?_
    rintro _ w1 ⟨rfl, hb1⟩
    have S1 := S.on hb1
    have c00 : w1.cell? ⟨w.heap.size, 0, none⟩ = some (.float .f64 a1) := S1.cell 0 rfl 0 w.heap.size rfl
    have c01 : w1.cell? ⟨w.heap.size, 1, none⟩ = some (.float .f64 a2) := S1.cell 0 rfl 1 w.heap.size rfl
    have c10 : w1.cell? ⟨w.heap.size + 1, 0, none⟩ = some (.float .f64 b1) := S1.cell 1 rfl 0 (w.heap.size + 1) rfl
    have c11 : w1.cell? ⟨w.heap.size + 1, 1, none⟩ = some (.float .f64 b2) := S1.cell 1 rfl 1 (w.heap.size + 1) rfl
    replace S1 := Lib.hid S1
    clear S hb1
    go_wp2_with fail
    go_region_held3 (fun x => x.cell? ⟨w.heap.size, 0, none⟩ = some (.float .f64 a1) ∧ x.cell? ⟨w.heap.size, 1, none⟩ = some (.float .f64 a2) ∧ x.cell? ⟨w.heap.size + 1, 0, none⟩ = some (.float .f64 b1) ∧ x.cell? ⟨w.heap.size + 1, 1, none⟩ = some (.float .f64 b2)) (first | exact ⟨c00, c01, c10, c11⟩ | exact ⟨d00, d01, d10, d11⟩ | exact ⟨e00, e01, e10, e11⟩ | exact ⟨k00, k01, k10, k11⟩ | go_keep)
      (first
        | (go_at_call 46; ((with_reducible refine (A1.out w1.drew).mono ?_); rintro _ wa ⟨rfl, hba⟩; have Sa := S1.out.drew.on hba; have d00 : wa.cell? ⟨w.heap.size, 0, none⟩ = some (.float .f64 a1) := Sa.cell 0 rfl 0 w.heap.size rfl; have d01 : wa.cell? ⟨w.heap.size, 1, none⟩ = some (.float .f64 a2) := Sa.cell 0 rfl 1 w.heap.size rfl; have d10 : wa.cell? ⟨w.heap.size + 1, 0, none⟩ = some (.float .f64 b1) := Sa.cell 1 rfl 0 (w.heap.size + 1) rfl; have d11 : wa.cell? ⟨w.heap.size + 1, 1, none⟩ = some (.float .f64 b2) := Sa.cell 1 rfl 1 (w.heap.size + 1) rfl; replace Sa := Lib.hid Sa; clear hba))
        | (go_at_call 46; ((with_reducible refine (A2.out wa).mono ?_); rintro _ wb ⟨rfl, hbb⟩; have Sb := Sa.out.on hbb; have e00 : wb.cell? ⟨w.heap.size, 0, none⟩ = some (.float .f64 a1) := Sb.cell 0 rfl 0 w.heap.size rfl; have e01 : wb.cell? ⟨w.heap.size, 1, none⟩ = some (.float .f64 a2) := Sb.cell 0 rfl 1 w.heap.size rfl; have e10 : wb.cell? ⟨w.heap.size + 1, 0, none⟩ = some (.float .f64 b1) := Sb.cell 1 rfl 0 (w.heap.size + 1) rfl; have e11 : wb.cell? ⟨w.heap.size + 1, 1, none⟩ = some (.float .f64 b2) := Sb.cell 1 rfl 1 (w.heap.size + 1) rfl; replace Sb := Lib.hid Sb; clear hbb))
        | (go_at_call 45; ((with_reducible refine (TR.out wb).mono ?_); rintro _ wc ⟨rfl, hbc⟩; have Sc := Sb.out.on hbc; have k00 : wc.cell? ⟨w.heap.size, 0, none⟩ = some (.float .f64 a1) := Sc.cell 0 rfl 0 w.heap.size rfl; have k01 : wc.cell? ⟨w.heap.size, 1, none⟩ = some (.float .f64 a2) := Sc.cell 0 rfl 1 w.heap.size rfl; have k10 : wc.cell? ⟨w.heap.size + 1, 0, none⟩ = some (.float .f64 b1) := Sc.cell 1 rfl 0 (w.heap.size + 1) rfl; have k11 : wc.cell? ⟨w.heap.size + 1, 1, none⟩ = some (.float .f64 b2) := Sc.cell 1 rfl 1 (w.heap.size + 1) rfl; have r0 := Sc.cell 2 rfl 0 (w.heap.size + 1 + 1) rfl; have r1 := Sc.cell 2 rfl 1 (w.heap.size + 1 + 1) rfl; have f0 := Sc.free 2 rfl 0 (w.heap.size + 1 + 1) rfl; have f1 := Sc.free 2 rfl 1 (w.heap.size + 1 + 1) rfl; have B2 := Lib.hid Sc.old; clear hbc Sc)))
    all_goals
      go_wp2_with fail
      (try simp only [Exit.inBlock, Exit.then])
      refine bodyPost_ret (v := spanE x y c) ?_ rfl ⟨hO.out, ?_⟩
      · rw [results_cell_tmp rfl]; unfold spanE; go_simp
      · exact (B2.out.setCell (by show _ ≤ (w.heap.size + 1 + 1); omega) _).setCell (by show _ ≤ (w.heap.size + 1 + 1); omega) _
  · have hO : Hid (OpIs (errSS a1 a2 b1 b2) (fun v => V a1 + V b1 - v) (fun v => V a2 + V b2 - v) (.returned (spanE 0 0 (errSS a1 a2 b1 b2)))) := ⟨fun h => absurd h h0, fun _ => rfl⟩
    have t : (errSS a1 a2 b1 b2 != 0) = true := by simpa using h0
    clear h0 ha ha' hb hb'
    generalize errSS a1 a2 b1 b2 = er at *
    go_enter Try.func12, Try.ntmps12
    go_wp2_with fail
    have S := S0.out
    clear S0
    generalize ((w.alloc _).alloc _).alloc _ = wr at *
    refine (CB.out wr).mono ?_
    rintro _ w1 ⟨rfl, hb1⟩
    have S1 := S.on hb1
    have r0 := S1.cell 2 rfl 0 (w.heap.size + 1 + 1) rfl
    have r1 := S1.cell 2 rfl 1 (w.heap.size + 1 + 1) rfl
    have f0 := S1.free 2 rfl 0 (w.heap.size + 1 + 1) rfl
    have f1 := S1.free 2 rfl 1 (w.heap.size + 1 + 1) rfl
    have B2 := Lib.hid S1.old
    clear S S1 hb1
    go_wp2_with fail
    (try simp only [Exit.inBlock, Exit.then])
    refine bodyPost_ret (v := spanE 0 0 er) ?_ rfl ⟨hO.out, ?_⟩
    · rw [results_cell_tmp rfl]; unfold spanE; go_simp
    · exact (B2.out.setCell (by show _ ≤ (w.heap.size + 1 + 1); omega) _).setCell (by show _ ≤ (w.heap.size + 1 + 1); omega) _

set_option maxHeartbeats 1000000 in
theorem ssub_run (a1 a2 b1 b2 : Nat) (ha : a1 < 18446744073709551616) (ha' : a2 < 18446744073709551616) (hb : b1 < 18446744073709551616) (hb' : b2 < 18446744073709551616) (w : World) :
    Calls Try.prog 15 #[spanV a1 a2, spanV b1 b2] w fun e w' => OpIs (errSS a1 a2 b1 b2) (fun v => V a1 - V b2 - v) (fun v => V a2 - V b1 - v) e ∧ Below w.heap.size w w' := by
  have CB := Lib.hid (fun w => sboth_run a1 a2 b1 b2 ha ha' hb hb' w)
  have S0 : Blocks w (([boxO a1 a2] ++ [boxO b1 b2]) ++ [zeroO]) (((w.alloc (boxO a1 a2)).alloc (boxO b1 b2)).alloc zeroO) := (((Blocks.nil w).alloc (by simp) _).alloc (by simp) _).alloc (by simp) _
  unfold boxO zeroO at S0
  unfold spanV at *
  replace S0 := Lib.hid S0
  have hst := @fstore
  have fl0 := field_lo
  have fl1 := field_hi
  by_cases h0 : errSS a1 a2 b1 b2 = 0
  · obtain ⟨e1, e2⟩ := errSS_zero h0
    obtain ⟨f1, f2, le1⟩ := errS_zero e1
    obtain ⟨f3, f4, le2⟩ := errS_zero e2
    obtain ⟨lo, hi', hD, hU', A1⟩ := ssum_run ha (negW_lt64 hb') f1 (by rw [fit_neg hb']; exact f4)
    obtain ⟨lo', hi, hD', hU, A2⟩ := ssum_run ha' (negW_lt64 hb) f2 (by rw [fit_neg hb]; exact f3)
    rw [negW_V (fit_fin hb' f4), ← Int.sub_eq_add_neg] at hD hU'
    rw [negW_V (fit_fin hb f3), ← Int.sub_eq_add_neg] at hU hD'
    have hle : V lo ≤ V hi := by
      have z1 : 0 ≤ V a1 - V b2 - V lo := hD.le
      have z2 : V a2 - V b1 - V hi ≤ 0 := hU.ge
      omega
    have N1 := fun w => xneg' b1 hb w
    have N2 := fun w => xneg' b2 hb' w
    have TR := Lib.hid (fun w => out_run lo hi hD.fin hU.fin hle w)
    replace A1 := Lib.hid A1
    replace A2 := Lib.hid A2
    obtain ⟨x, y, c, hT⟩ := toldE_span lo hi
    rw [hT] at TR
    have hO : Hid (OpIs (errSS a1 a2 b1 b2) (fun v => V a1 - V b2 - v) (fun v => V a2 - V b1 - v) (.returned (spanE x y c))) := ⟨fun _ => ⟨lo, hi, by rw [hT], hD, hU⟩, fun h => absurd h0 h⟩
    rw [h0] at CB
    unfold spanE at TR
    unfold spanV at A1 A2
    clear h0 e1 e2 f1 f2 f3 f4 le1 le2 hle hD hU hD' hU' hT ha ha' hb hb'
    have hn : ¬ (w.heap.size = w.heap.size + 1 + 1) := by omega
    have hn' : ¬ (w.heap.size + 1 + 1 = w.heap.size) := by omega
    generalize negW b1 = n1 at *
    generalize negW b2 = n2 at *
    go_enter Try.func15, Try.ntmps15
    go_wp2_with fail
    have S := S0.out
    clear S0
    generalize ((w.alloc _).alloc _).alloc _ = wr at *
    refine (CB.out wr).mono ?_
    rintro _ w1 ⟨rfl, hb1⟩
    have S1 := S.on hb1
    have c00 : w1.cell? ⟨w.heap.size, 0, none⟩ = some (.float .f64 a1) := S1.cell 0 rfl 0 w.heap.size rfl
    have c01 : w1.cell? ⟨w.heap.size, 1, none⟩ = some (.float .f64 a2) := S1.cell 0 rfl 1 w.heap.size rfl
    have c10 : w1.cell? ⟨w.heap.size + 1, 0, none⟩ = some (.float .f64 b1) := S1.cell 1 rfl 0 (w.heap.size + 1) rfl
    have c11 : w1.cell? ⟨w.heap.size + 1, 1, none⟩ = some (.float .f64 b2) := S1.cell 1 rfl 1 (w.heap.size + 1) rfl
    replace S1 := Lib.hid S1
    clear S hb1
    go_wp2_with fail
    go_region_held3 (fun x => x.cell? ⟨w.heap.size, 0, none⟩ = some (.float .f64 a1) ∧ x.cell? ⟨w.heap.size, 1, none⟩ = some (.float .f64 a2) ∧ x.cell? ⟨w.heap.size + 1, 0, none⟩ = some (.float .f64 b1) ∧ x.cell? ⟨w.heap.size + 1, 1, none⟩ = some (.float .f64 b2)) (first | exact ⟨c00, c01, c10, c11⟩ | exact ⟨d00, d01, d10, d11⟩ | exact ⟨e00, e01, e10, e11⟩ | exact ⟨k00, k01, k10, k11⟩ | go_keep)
      (first
        | (go_at_call 46; ((with_reducible refine (A1.out w1.drew).mono ?_); rintro _ wa ⟨rfl, hba⟩; have Sa := S1.out.drew.on hba; have d00 : wa.cell? ⟨w.heap.size, 0, none⟩ = some (.float .f64 a1) := Sa.cell 0 rfl 0 w.heap.size rfl; have d01 : wa.cell? ⟨w.heap.size, 1, none⟩ = some (.float .f64 a2) := Sa.cell 0 rfl 1 w.heap.size rfl; have d10 : wa.cell? ⟨w.heap.size + 1, 0, none⟩ = some (.float .f64 b1) := Sa.cell 1 rfl 0 (w.heap.size + 1) rfl; have d11 : wa.cell? ⟨w.heap.size + 1, 1, none⟩ = some (.float .f64 b2) := Sa.cell 1 rfl 1 (w.heap.size + 1) rfl; replace Sa := Lib.hid Sa; clear hba))
        | (go_at_call 46; ((with_reducible refine (A2.out wa).mono ?_); rintro _ wb ⟨rfl, hbb⟩; have Sb := Sa.out.on hbb; have e00 : wb.cell? ⟨w.heap.size, 0, none⟩ = some (.float .f64 a1) := Sb.cell 0 rfl 0 w.heap.size rfl; have e01 : wb.cell? ⟨w.heap.size, 1, none⟩ = some (.float .f64 a2) := Sb.cell 0 rfl 1 w.heap.size rfl; have e10 : wb.cell? ⟨w.heap.size + 1, 0, none⟩ = some (.float .f64 b1) := Sb.cell 1 rfl 0 (w.heap.size + 1) rfl; have e11 : wb.cell? ⟨w.heap.size + 1, 1, none⟩ = some (.float .f64 b2) := Sb.cell 1 rfl 1 (w.heap.size + 1) rfl; replace Sb := Lib.hid Sb; clear hbb))
        | (go_at_call 45; ((with_reducible refine (TR.out wb).mono ?_); rintro _ wc ⟨rfl, hbc⟩; have Sc := Sb.out.on hbc; have k00 : wc.cell? ⟨w.heap.size, 0, none⟩ = some (.float .f64 a1) := Sc.cell 0 rfl 0 w.heap.size rfl; have k01 : wc.cell? ⟨w.heap.size, 1, none⟩ = some (.float .f64 a2) := Sc.cell 0 rfl 1 w.heap.size rfl; have k10 : wc.cell? ⟨w.heap.size + 1, 0, none⟩ = some (.float .f64 b1) := Sc.cell 1 rfl 0 (w.heap.size + 1) rfl; have k11 : wc.cell? ⟨w.heap.size + 1, 1, none⟩ = some (.float .f64 b2) := Sc.cell 1 rfl 1 (w.heap.size + 1) rfl; have r0 := Sc.cell 2 rfl 0 (w.heap.size + 1 + 1) rfl; have r1 := Sc.cell 2 rfl 1 (w.heap.size + 1 + 1) rfl; have f0 := Sc.free 2 rfl 0 (w.heap.size + 1 + 1) rfl; have f1 := Sc.free 2 rfl 1 (w.heap.size + 1 + 1) rfl; have B2 := Lib.hid Sc.old; clear hbc Sc)))
    all_goals
      go_wp2_with fail
      (try simp only [Exit.inBlock, Exit.then])
      refine bodyPost_ret (v := spanE x y c) ?_ rfl ⟨hO.out, ?_⟩
      · rw [results_cell_tmp rfl]; unfold spanE; go_simp
      · exact (B2.out.setCell (by show _ ≤ (w.heap.size + 1 + 1); omega) _).setCell (by show _ ≤ (w.heap.size + 1 + 1); omega) _
  · have hO : Hid (OpIs (errSS a1 a2 b1 b2) (fun v => V a1 - V b2 - v) (fun v => V a2 - V b1 - v) (.returned (spanE 0 0 (errSS a1 a2 b1 b2)))) := ⟨fun h => absurd h h0, fun _ => rfl⟩
    have t : (errSS a1 a2 b1 b2 != 0) = true := by simpa using h0
    clear h0 ha ha' hb hb'
    generalize errSS a1 a2 b1 b2 = er at *
    go_enter Try.func15, Try.ntmps15
    go_wp2_with fail
    have S := S0.out
    clear S0
    generalize ((w.alloc _).alloc _).alloc _ = wr at *
    refine (CB.out wr).mono ?_
    rintro _ w1 ⟨rfl, hb1⟩
    have S1 := S.on hb1
    have r0 := S1.cell 2 rfl 0 (w.heap.size + 1 + 1) rfl
    have r1 := S1.cell 2 rfl 1 (w.heap.size + 1 + 1) rfl
    have f0 := S1.free 2 rfl 0 (w.heap.size + 1 + 1) rfl
    have f1 := S1.free 2 rfl 1 (w.heap.size + 1 + 1) rfl
    have B2 := Lib.hid S1.old
    clear S S1 hb1
    go_wp2_with fail
    (try simp only [Exit.inBlock, Exit.then])
    refine bodyPost_ret (v := spanE 0 0 er) ?_ rfl ⟨hO.out, ?_⟩
    · rw [results_cell_tmp rfl]; unfold spanE; go_simp
    · exact (B2.out.setCell (by show _ ≤ (w.heap.size + 1 + 1); omega) _).setCell (by show _ ≤ (w.heap.size + 1 + 1); omega) _
end Go.Proofs.Ytkfagpahbojigaa
