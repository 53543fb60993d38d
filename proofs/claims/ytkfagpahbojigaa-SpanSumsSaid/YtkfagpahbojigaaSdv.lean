/- Proved here: what the reference's quotients of spans answer, over the translated code. -/
import Derived.Test.YtkfagpahbojigaaSmu
namespace Go.Proofs.Ytkfagpahbojigaa
open Go.ChangeShapes Go.WideShapes Go.ChangeAt Go.RowKit Ieee.Own

theorem rcornerQ {x y : Nat} (hx : x < 18446744073709551616) (hy : y < 18446744073709551616) (h1 : fitB x = true) (h2 : fitB y = true) (h0 : V y ≠ 0) :
    ∃ q r, FinW q ∧ FinW r ∧ FinW y ∧ (∀ w, Calls Try.prog 57 #[.float .f64 x, .float .f64 y] w fun en w' => en = .returned (ffi q r 0) ∧ w = w') ∧ Dn (quotC x y) (dnW (V (if V y < 0 then negW r else r) < 0) q) ∧ Up (quotC x y) (upW (0 < V (if V y < 0 then negW r else r)) q) := by
  obtain ⟨q, r, N, Z, g, o, R, C⟩ := rquot_fit x y hx hy h1 h2 h0
  have A := quot_adj hx hy h1 h2 h0 o R.bd'
  have e : quotC x y (V q) = V (if V y < 0 then negW r else r) * 2 ^ 1074 := by
    rw [quot_c R]
    by_cases h : V y < 0
    · rw [if_pos h, if_pos h, negW_V R.fr]
    · rw [if_neg h, if_neg h]
  exact ⟨q, r, R.fq, R.fr, fit_fin hy h2, C, A.dn (by rw [e]; exact (cut_sign _).1.symm), A.upp (by rw [e]; exact (cut_sign _).2.symm)⟩
def cornersQ (X Y : List Nat) : List (Int → Int) := List.zipWith quotC X Y
theorem falls_cornersQ {X Y : List Nat} : ∀ d ∈ cornersQ X Y, Falls d := by
  intro d hd
  unfold cornersQ at hd
  obtain ⟨i, hi, rfl⟩ := List.mem_iff_getElem.1 hd
  rw [List.getElem_zipWith]
  exact falls_quot _ _
theorem cornersQ_succ {X Y : List Nat} {i : Nat} (hX : i < X.length) (hY : i < Y.length) : (cornersQ X Y).take (i + 1) = (cornersQ X Y).take i ++ [quotC (X.getD i 0) (Y.getD i 0)] := by
  have h : i < (cornersQ X Y).length := by unfold cornersQ; simp; omega
  rw [List.take_add_one, List.getElem?_eq_getElem h]
  unfold cornersQ
  simp [List.getD, hX, hY]
  exact List.getElem_zipWith
theorem MulAt.oneQ {X Y : List Nat} {d u : Nat} (hX : 0 < X.length) (hY : 0 < Y.length) (hd : Dn (quotC (X.getD 0 0) (Y.getD 0 0)) d) (hu : Up (quotC (X.getD 0 0) (Y.getD 0 0)) u) : MulAt (cornersQ X Y) (0 + 1) d u := by
  intro _
  rw [cornersQ_succ hX hY]
  exact ⟨hd.all, hu.all⟩
theorem MulAt.nextQ {X Y : List Nat} {i lo hi d u : Nat} (h : MulAt (cornersQ X Y) i lo hi) (h0 : 0 < i) (hX : i < X.length) (hY : i < Y.length) (hd : Dn (quotC (X.getD i 0) (Y.getD i 0)) d) (hu : Up (quotC (X.getD i 0) (Y.getD i 0)) u) :
    MulAt (cornersQ X Y) (i + 1) (minW d lo) (maxW u hi) := by
  intro _
  rw [cornersQ_succ hX hY]
  obtain ⟨a, b⟩ := h h0
  have hf : ∀ c ∈ (cornersQ X Y).take i, Falls c := fun c hc => falls_cornersQ c (List.mem_of_mem_take hc)
  exact ⟨a.more hd hf (falls_quot _ _), b.more hu hf (falls_quot _ _)⟩

def errD (a1 a2 b1 b2 : Nat) : Int := if errSS a1 a2 b1 b2 ≠ 0 then errSS a1 a2 b1 b2 else if V b1 ≤ 0 ∧ 0 ≤ V b2 then 4 else 0
set_option maxHeartbeats 8000000 in
theorem rdiv_run (a1 a2 b1 b2 : Nat) (ha : a1 < 18446744073709551616) (ha' : a2 < 18446744073709551616) (hb : b1 < 18446744073709551616) (hb' : b2 < 18446744073709551616) (w : World) :
    Calls Try.prog 20 #[spanV a1 a2, spanV b1 b2] w fun e w' => OpAll (errD a1 a2 b1 b2) [quotC a1 b1, quotC a1 b2, quotC a2 b1, quotC a2 b2] [quotC a1 b1, quotC a1 b2, quotC a2 b1, quotC a2 b2] e ∧ Below w.heap.size w w' := by
  have CB := Lib.hid (fun w => rboth_run a1 a2 b1 b2 ha ha' hb hb' w)
  have S0 : Blocks w (([boxO a1 a2] ++ [boxO b1 b2]) ++ [zeroO]) (((w.alloc (boxO a1 a2)).alloc (boxO b1 b2)).alloc zeroO) := (((Blocks.nil w).alloc (by simp) _).alloc (by simp) _).alloc (by simp) _
  unfold boxO zeroO at S0
  unfold spanV at *
  replace S0 := Lib.hid S0
  have hst := @fstore
  by_cases h0 : errSS a1 a2 b1 b2 = 0
  · obtain ⟨e1, e2⟩ := errSS_zero h0
    obtain ⟨f1, f2, -⟩ := errS_zero e1
    obtain ⟨f3, f4, le⟩ := errS_zero e2
    have t5 := le_words (fit_fin hb f3) zero_fin
    have t6 := ge_words (fit_fin hb' f4) zero_fin
    rw [V_zero] at t5 t6
    by_cases hz : V b1 ≤ 0 ∧ 0 ≤ V b2
    · have hO : Hid (OpAll (errD a1 a2 b1 b2) [quotC a1 b1, quotC a1 b2, quotC a2 b1, quotC a2 b2] [quotC a1 b1, quotC a1 b2, quotC a2 b1, quotC a2 b2] (.returned (spanE 0 0 4))) := by
        have e : errD a1 a2 b1 b2 = 4 := by unfold errD; rw [if_neg (by simpa using h0), if_pos hz]
        rw [e]; exact ⟨fun h => by omega, fun _ => rfl⟩
      rw [decide_eq_true hz.1] at t5
      rw [decide_eq_true hz.2] at t6
      rw [h0] at CB
      clear h0 hz e1 e2 f1 f2 f3 f4 le ha ha' hb hb'
      go_enter Try.func20, Try.ntmps20
      go_wp2_with fail
      have S := S0.out
      clear S0
      generalize ((w.alloc _).alloc _).alloc _ = wr at *
      refine (CB.out wr).mono ?_
      rintro _ w1 ⟨rfl, hb1⟩
      have S1 := S.on hb1
      have c00 := S1.cell 0 rfl 0 w.heap.size rfl
      have c01 := S1.cell 0 rfl 1 w.heap.size rfl
      have c10 := S1.cell 1 rfl 0 (w.heap.size + 1) rfl
      have c11 := S1.cell 1 rfl 1 (w.heap.size + 1) rfl
      have r0 := S1.cell 2 rfl 0 (w.heap.size + 1 + 1) rfl
      have r1 := S1.cell 2 rfl 1 (w.heap.size + 1 + 1) rfl
      have f0 := S1.free 2 rfl 0 (w.heap.size + 1 + 1) rfl
      have f1 := S1.free 2 rfl 1 (w.heap.size + 1 + 1) rfl
      have B2 := Lib.hid S1.old
      clear S S1 hb1
      go_wp2_with fail
      (try simp only [Exit.inBlock, Exit.then])
      refine bodyPost_ret (v := spanE 0 0 4) ?_ rfl ⟨hO.out, ?_⟩
      · rw [results_cell_tmp rfl]; unfold spanE; go_simp
      · exact (B2.out.setCell (by show _ ≤ (w.heap.size + 1 + 1); omega) _).setCell (by show _ ≤ (w.heap.size + 1 + 1); omega) _
    · have n1 : V b1 ≠ 0 := by omega
      have n2 : V b2 ≠ 0 := by omega
      have PC : Hid (∀ i, i < 4 → ∃ q r, FinW q ∧ FinW r ∧ FinW ((ysW b1 b2).getD i 0) ∧ (∀ w, Calls Try.prog 57 #[.float .f64 ((xsW a1 a2).getD i 0), .float .f64 ((ysW b1 b2).getD i 0)] w fun en w' => en = .returned (ffi q r 0) ∧ w = w') ∧
          Dn (quotC ((xsW a1 a2).getD i 0) ((ysW b1 b2).getD i 0)) (dnW (V (if V ((ysW b1 b2).getD i 0) < 0 then negW r else r) < 0) q) ∧ Up (quotC ((xsW a1 a2).getD i 0) ((ysW b1 b2).getD i 0)) (upW (0 < V (if V ((ysW b1 b2).getD i 0) < 0 then negW r else r)) q)) := by
        intro i hi
        have : i = 0 ∨ i = 1 ∨ i = 2 ∨ i = 3 := by omega
        rcases this with rfl | rfl | rfl | rfl
        · exact rcornerQ ha hb f1 f3 n1
        · exact rcornerQ ha hb' f1 f4 n2
        · exact rcornerQ ha' hb f2 f3 n1
        · exact rcornerQ ha' hb' f2 f4 n2
      have hO : Hid (∀ lo hi, MulAt (cornersQ (xsW a1 a2) (ysW b1 b2)) 4 lo hi → OpAll (errD a1 a2 b1 b2) [quotC a1 b1, quotC a1 b2, quotC a2 b1, quotC a2 b2] [quotC a1 b1, quotC a1 b2, quotC a2 b1, quotC a2 b2] (.returned (toldE lo hi))) := by
        intro lo hi h
        obtain ⟨a, b⟩ := h (by omega)
        have e : errD a1 a2 b1 b2 = 0 := by unfold errD; rw [if_neg (by simpa using h0), if_neg hz]
        rw [e]
        exact ⟨fun _ => ⟨lo, hi, rfl, a, b⟩, fun h => absurd rfl h⟩
      have hX : Hid ((xsW a1 a2).length = 4) := rfl
      have hY : Hid ((ysW b1 b2).length = 4) := rfl
      rw [h0] at CB
      by_cases k5 : V b1 ≤ 0
      · rw [decide_eq_true k5] at t5
        rw [decide_eq_false (fun h => hz ⟨k5, h⟩)] at t6
        clear h0 e1 e2 f1 f2 f3 f4 ha ha' hb hb' hz n1 n2 le k5
        go_enter Try.func20, Try.ntmps20
        go_wp2_with fail
        have S := S0.out
        clear S0
        generalize ((w.alloc _).alloc _).alloc _ = wr at *
        refine (CB.out wr).mono ?_
        rintro _ w1 ⟨rfl, hb1⟩
        have S1 := S.on hb1
        have c00 : w1.cell? ⟨w.heap.size, 0, none⟩ = some (.float .f64 a1) := S1.cell 0 rfl 0 w.heap.size rfl
        have c01 : w1.cell? ⟨w.heap.size, 1, none⟩ = some (.float .f64 a2) := S1.cell 0 rfl 1 w.heap.size rfl
        have c10 : w1.cell? ⟨w.heap.size + 1, 0, none⟩ = some (.float .f64 b1) := S1.cell 1 rfl 0 (w.heap.size + 1) rfl
        have c11 : w1.cell? ⟨w.heap.size + 1, 1, none⟩ = some (.float .f64 b2) := S1.cell 1 rfl 1 (w.heap.size + 1) rfl
        have hm0 : w.heap.size < w1.heap.size := by have := S1.more; simp at this; omega
        have hm1 : w.heap.size + 1 < w1.heap.size := by have := S1.more; simp at this; omega
        replace S1 := Lib.hid S1
        clear S hb1 CB
        go_upto_region 6 with fail
        go_cut [7, 8] from 33 to 50 (fun t7 t8 wx => ∃ gx gy : Nat, t7 = .pointer (some ⟨gx, 0, none⟩) ∧ t8 = .pointer (some ⟨gy, 0, none⟩) ∧ Arrs w1 gx gy (xsW a1 a2) (ysW b1 b2) wx)
        case first =>
          go_region_held (fun x => x.cell? ⟨w.heap.size, 0, none⟩ = some (.float .f64 a1) ∧ x.cell? ⟨w.heap.size, 1, none⟩ = some (.float .f64 a2) ∧ x.cell? ⟨w.heap.size + 1, 0, none⟩ = some (.float .f64 b1) ∧ x.cell? ⟨w.heap.size + 1, 1, none⟩ = some (.float .f64 b2)) (go_keep) (fail)
          all_goals
            go_wp2_with fail
            go_meet
            refine ⟨_, _, rfl, rfl, ?_⟩
            first | exact Arrs.one w1 rfl rfl | exact Arrs.two w1 rfl rfl
        case rest =>
          obtain ⟨gx, gy, rfl, rfl, AR⟩ := hcut
          have S2 := Lib.hid (S1.out.on AR.old)
          have hx := Lib.hid AR.x
          have hy := Lib.hid AR.y
          generalize xsW a1 a2 = X at *
          generalize ysW b1 b2 = Y at *
          clear AR S1 c00 c01 c10 c11 hm0 hm1 t5 t6
          go_wp2_with fail
          go_loopw [9, 10, 11] (fun s9 s10 s11 wr => ∃ i lo hi : Nat, i ≤ 4 ∧ s9 = .float .f64 lo ∧ s10 = .float .f64 hi ∧ s11 = .int .i64 i ∧ Drawn wc wr ∧ MulAt (cornersQ X Y) i lo hi) (fun _ _ s11 _ => 4 - (intOf s11).toNat)
          case atStart => exact ⟨0, 0, 0, by omega, rfl, rfl, rfl, Drawn.refl _, fun h => absurd h (by omega)⟩
          case round =>
            obtain ⟨i, lo, hi, hi4, rfl, rfl, rfl, hd, hM⟩ := hrel
            by_cases hlt : i < 4
            · obtain ⟨q, r, fq, fr, fy, C1, hD, hU⟩ := PC.out i hlt
              have DR := fun w => down_run q (if V (Y.getD i 0) < 0 then negW r else r) fq (by split; exact negW_fin fr; exact fr) w
              have UR := fun w => up_run q (if V (Y.getD i 0) < 0 then negW r else r) fq (by split; exact negW_fin fr; exact fr) w
              obtain ⟨dd, hdd⟩ : ∃ x, x = dnW (V (if V (Y.getD i 0) < 0 then negW r else r) < 0) q := ⟨_, rfl⟩
              obtain ⟨uu, huu⟩ : ∃ x, x = upW (0 < V (if V (Y.getD i 0) < 0 then negW r else r)) q := ⟨_, rfl⟩
              rw [← hdd] at hD DR
              rw [← huu] at hU UR
              have N1 := fun w => xneg' r fr.1 w
              have t9 := lt_words fy zero_fin
              rw [V_zero] at t9
              have cx : wr.cell? ⟨gx, i, none⟩ = some (.float .f64 (X.getD i 0)) := (hd.cell _).trans (hx.out i hlt)
              have cy : wr.cell? ⟨gy, i, none⟩ = some (.float .f64 (Y.getD i 0)) := (hd.cell _).trans (hy.out i hlt)
              unfold ffi at C1
              replace hd := Lib.hid hd
              generalize negW r = nr at *
              by_cases hi0 : i = 0
              · subst hi0
                have hN := Lib.hid (MulAt.oneQ (by rw [hX.out]; omega) (by rw [hY.out]; omega) hD hU)
                obtain ⟨x0, hx0⟩ : ∃ x, x = X.getD 0 0 := ⟨_, rfl⟩
                obtain ⟨y0, hy0⟩ : ∃ x, x = Y.getD 0 0 := ⟨_, rfl⟩
                rw [← hx0] at cx C1
                rw [← hy0] at cy C1 DR UR t9
                clear hdd huu fq fr fy hD hU hM hx0 hy0
                by_cases hy0 : V y0 < 0
                · rw [decide_eq_true hy0] at t9
                  rw [if_pos hy0] at DR UR
                  clear hy0
                  go_wp2_with fail
                  go_quiet (first | (go_at_call 57; with_reducible refine quiet_same (C1 _)))
                  go_wp2_with (first | (go_at_call 50; ((with_reducible refine (DR _).mono ?_); rintro en w' ⟨rfl, rfl⟩)) | (go_at_call 51; ((with_reducible refine (UR _).mono ?_); rintro en w' ⟨rfl, rfl⟩)))
                  go_roundw
                  case rel => exact ⟨0 + 1, dd, uu, by omega, rfl, rfl, by go_num, hd.out.more _, hN.out⟩
                  case measure => simp [intOf]
                · rw [decide_eq_false hy0] at t9
                  rw [if_neg hy0] at DR UR
                  clear hy0 N1
                  go_wp2_with fail
                  go_quiet (first | (go_at_call 57; with_reducible refine quiet_same (C1 _)))
                  go_wp2_with (first | (go_at_call 50; ((with_reducible refine (DR _).mono ?_); rintro en w' ⟨rfl, rfl⟩)) | (go_at_call 51; ((with_reducible refine (UR _).mono ?_); rintro en w' ⟨rfl, rfl⟩)))
                  go_roundw
                  case rel => exact ⟨0 + 1, dd, uu, by omega, rfl, rfl, by go_num, hd.out.more _, hN.out⟩
                  case measure => simp [intOf]
              · have t0 : ((i : Int) == 0) = false := by simpa using hi0
                obtain ⟨hDl, hUl⟩ := hM (by omega)
                have t1 := lt_words hD.fin hDl.fin
                have t2 := gt_words hU.fin hUl.fin
                have hN := Lib.hid (hM.nextQ (by omega) (by rw [hX.out]; omega) (by rw [hY.out]; omega) hD hU)
                unfold minW maxW at hN
                obtain ⟨x0, hx0⟩ : ∃ x, x = X.getD i 0 := ⟨_, rfl⟩
                obtain ⟨y0, hy0⟩ : ∃ x, x = Y.getD i 0 := ⟨_, rfl⟩
                rw [← hx0] at cx C1
                rw [← hy0] at cy C1 DR UR t9
                clear hdd huu fq fr fy hD hU hM hx0 hy0 hDl hUl
                by_cases k1 : V dd < V lo
                · rw [decide_eq_true k1] at t1
                  rw [if_pos k1] at hN
                  by_cases k2 : V hi < V uu
                  · rw [decide_eq_true k2] at t2
                    rw [if_pos k2] at hN
                    clear k1 k2
                    by_cases hy0 : V y0 < 0
                    · rw [decide_eq_true hy0] at t9
                      rw [if_pos hy0] at DR UR
                      clear hy0
                      go_wp2_with fail
                      go_quiet (first | (go_at_call 57; with_reducible refine quiet_same (C1 _)))
                      go_wp2_with (first | (go_at_call 50; ((with_reducible refine (DR _).mono ?_); rintro en w' ⟨rfl, rfl⟩)) | (go_at_call 51; ((with_reducible refine (UR _).mono ?_); rintro en w' ⟨rfl, rfl⟩)))
                      go_roundw
                      case rel => exact ⟨i + 1, dd, uu, by omega, rfl, rfl, by go_num, hd.out.more _, hN.out⟩
                      case measure => simp [intOf]; omega
                    · rw [decide_eq_false hy0] at t9
                      rw [if_neg hy0] at DR UR
                      clear hy0 N1
                      go_wp2_with fail
                      go_quiet (first | (go_at_call 57; with_reducible refine quiet_same (C1 _)))
                      go_wp2_with (first | (go_at_call 50; ((with_reducible refine (DR _).mono ?_); rintro en w' ⟨rfl, rfl⟩)) | (go_at_call 51; ((with_reducible refine (UR _).mono ?_); rintro en w' ⟨rfl, rfl⟩)))
                      go_roundw
                      case rel => exact ⟨i + 1, dd, uu, by omega, rfl, rfl, by go_num, hd.out.more _, hN.out⟩
                      case measure => simp [intOf]; omega
                  · rw [decide_eq_false k2] at t2
                    rw [if_neg k2] at hN
                    clear k1 k2
                    by_cases hy0 : V y0 < 0
                    · rw [decide_eq_true hy0] at t9
                      rw [if_pos hy0] at DR UR
                      clear hy0
                      go_wp2_with fail
                      go_quiet (first | (go_at_call 57; with_reducible refine quiet_same (C1 _)))
                      go_wp2_with (first | (go_at_call 50; ((with_reducible refine (DR _).mono ?_); rintro en w' ⟨rfl, rfl⟩)) | (go_at_call 51; ((with_reducible refine (UR _).mono ?_); rintro en w' ⟨rfl, rfl⟩)))
                      go_roundw
                      case rel => exact ⟨i + 1, dd, hi, by omega, rfl, rfl, by go_num, hd.out.more _, hN.out⟩
                      case measure => simp [intOf]; omega
                    · rw [decide_eq_false hy0] at t9
                      rw [if_neg hy0] at DR UR
                      clear hy0 N1
                      go_wp2_with fail
                      go_quiet (first | (go_at_call 57; with_reducible refine quiet_same (C1 _)))
                      go_wp2_with (first | (go_at_call 50; ((with_reducible refine (DR _).mono ?_); rintro en w' ⟨rfl, rfl⟩)) | (go_at_call 51; ((with_reducible refine (UR _).mono ?_); rintro en w' ⟨rfl, rfl⟩)))
                      go_roundw
                      case rel => exact ⟨i + 1, dd, hi, by omega, rfl, rfl, by go_num, hd.out.more _, hN.out⟩
                      case measure => simp [intOf]; omega
                · rw [decide_eq_false k1] at t1
                  rw [if_neg k1] at hN
                  by_cases k2 : V hi < V uu
                  · rw [decide_eq_true k2] at t2
                    rw [if_pos k2] at hN
                    clear k1 k2
                    by_cases hy0 : V y0 < 0
                    · rw [decide_eq_true hy0] at t9
                      rw [if_pos hy0] at DR UR
                      clear hy0
                      go_wp2_with fail
                      go_quiet (first | (go_at_call 57; with_reducible refine quiet_same (C1 _)))
                      go_wp2_with (first | (go_at_call 50; ((with_reducible refine (DR _).mono ?_); rintro en w' ⟨rfl, rfl⟩)) | (go_at_call 51; ((with_reducible refine (UR _).mono ?_); rintro en w' ⟨rfl, rfl⟩)))
                      go_roundw
                      case rel => exact ⟨i + 1, lo, uu, by omega, rfl, rfl, by go_num, hd.out.more _, hN.out⟩
                      case measure => simp [intOf]; omega
                    · rw [decide_eq_false hy0] at t9
                      rw [if_neg hy0] at DR UR
                      clear hy0 N1
                      go_wp2_with fail
                      go_quiet (first | (go_at_call 57; with_reducible refine quiet_same (C1 _)))
                      go_wp2_with (first | (go_at_call 50; ((with_reducible refine (DR _).mono ?_); rintro en w' ⟨rfl, rfl⟩)) | (go_at_call 51; ((with_reducible refine (UR _).mono ?_); rintro en w' ⟨rfl, rfl⟩)))
                      go_roundw
                      case rel => exact ⟨i + 1, lo, uu, by omega, rfl, rfl, by go_num, hd.out.more _, hN.out⟩
                      case measure => simp [intOf]; omega
                  · rw [decide_eq_false k2] at t2
                    rw [if_neg k2] at hN
                    clear k1 k2
                    by_cases hy0 : V y0 < 0
                    · rw [decide_eq_true hy0] at t9
                      rw [if_pos hy0] at DR UR
                      clear hy0
                      go_wp2_with fail
                      go_quiet (first | (go_at_call 57; with_reducible refine quiet_same (C1 _)))
                      go_wp2_with (first | (go_at_call 50; ((with_reducible refine (DR _).mono ?_); rintro en w' ⟨rfl, rfl⟩)) | (go_at_call 51; ((with_reducible refine (UR _).mono ?_); rintro en w' ⟨rfl, rfl⟩)))
                      go_roundw
                      case rel => exact ⟨i + 1, lo, hi, by omega, rfl, rfl, by go_num, hd.out.more _, hN.out⟩
                      case measure => simp [intOf]; omega
                    · rw [decide_eq_false hy0] at t9
                      rw [if_neg hy0] at DR UR
                      clear hy0 N1
                      go_wp2_with fail
                      go_quiet (first | (go_at_call 57; with_reducible refine quiet_same (C1 _)))
                      go_wp2_with (first | (go_at_call 50; ((with_reducible refine (DR _).mono ?_); rintro en w' ⟨rfl, rfl⟩)) | (go_at_call 51; ((with_reducible refine (UR _).mono ?_); rintro en w' ⟨rfl, rfl⟩)))
                      go_roundw
                      case rel => exact ⟨i + 1, lo, hi, by omega, rfl, rfl, by go_num, hd.out.more _, hN.out⟩
                      case measure => simp [intOf]; omega
            · obtain rfl : i = 4 := by omega
              obtain ⟨hDl, hUl⟩ := hM (by omega)
              have TR := Lib.hid (fun w => told_run lo hi hDl.fin hUl.fin w)
              obtain ⟨x, y, c, hT⟩ := toldE_span lo hi
              rw [hT] at TR
              have hP := hO.out lo hi hM
              rw [hT] at hP
              replace hP := Lib.hid hP
              have S3 := Lib.hid (S2.out.on (hd.below _))
              unfold spanE at TR
              clear hDl hUl hM hT hd hO PC hx hy
              go_wp2_with fail
              refine (TR.out wr).mono ?_
              rintro _ w4 ⟨rfl, hb4⟩
              have S4 := S3.out.on hb4
              have r0 := S4.cell 2 rfl 0 (w.heap.size + 1 + 1) rfl
              have r1 := S4.cell 2 rfl 1 (w.heap.size + 1 + 1) rfl
              have f0 := S4.free 2 rfl 0 (w.heap.size + 1 + 1) rfl
              have f1 := S4.free 2 rfl 1 (w.heap.size + 1 + 1) rfl
              have B2 := Lib.hid S4.old
              clear S4 hb4 S3 S2
              go_wp2_with fail
              (try simp only [Exit.inBlock, Exit.then])
              refine bodyPost_ret (v := spanE x y c) ?_ rfl ⟨hP.out, ?_⟩
              · rw [results_cell_tmp rfl]; unfold spanE; go_simp
              · exact (B2.out.setCell (by show _ ≤ (w.heap.size + 1 + 1); omega) _).setCell (by show _ ≤ (w.heap.size + 1 + 1); omega) _
      · rw [decide_eq_false k5] at t5
        clear h0 e1 e2 f1 f2 f3 f4 ha ha' hb hb' hz n1 n2 le k5
        go_enter Try.func20, Try.ntmps20
        go_wp2_with fail
        have S := S0.out
        clear S0
        generalize ((w.alloc _).alloc _).alloc _ = wr at *
        refine (CB.out wr).mono ?_
        rintro _ w1 ⟨rfl, hb1⟩
        have S1 := S.on hb1
        have c00 : w1.cell? ⟨w.heap.size, 0, none⟩ = some (.float .f64 a1) := S1.cell 0 rfl 0 w.heap.size rfl
        have c01 : w1.cell? ⟨w.heap.size, 1, none⟩ = some (.float .f64 a2) := S1.cell 0 rfl 1 w.heap.size rfl
        have c10 : w1.cell? ⟨w.heap.size + 1, 0, none⟩ = some (.float .f64 b1) := S1.cell 1 rfl 0 (w.heap.size + 1) rfl
        have c11 : w1.cell? ⟨w.heap.size + 1, 1, none⟩ = some (.float .f64 b2) := S1.cell 1 rfl 1 (w.heap.size + 1) rfl
        have hm0 : w.heap.size < w1.heap.size := by have := S1.more; simp at this; omega
        have hm1 : w.heap.size + 1 < w1.heap.size := by have := S1.more; simp at this; omega
        replace S1 := Lib.hid S1
        clear S hb1 CB
        go_upto_region 6 with fail
        go_cut [7, 8] from 33 to 50 (fun t7 t8 wx => ∃ gx gy : Nat, t7 = .pointer (some ⟨gx, 0, none⟩) ∧ t8 = .pointer (some ⟨gy, 0, none⟩) ∧ Arrs w1 gx gy (xsW a1 a2) (ysW b1 b2) wx)
        case first =>
          go_region_held (fun x => x.cell? ⟨w.heap.size, 0, none⟩ = some (.float .f64 a1) ∧ x.cell? ⟨w.heap.size, 1, none⟩ = some (.float .f64 a2) ∧ x.cell? ⟨w.heap.size + 1, 0, none⟩ = some (.float .f64 b1) ∧ x.cell? ⟨w.heap.size + 1, 1, none⟩ = some (.float .f64 b2)) (go_keep) (fail)
          all_goals
            go_wp2_with fail
            go_meet
            refine ⟨_, _, rfl, rfl, ?_⟩
            first | exact Arrs.one w1 rfl rfl | exact Arrs.two w1 rfl rfl
        case rest =>
          obtain ⟨gx, gy, rfl, rfl, AR⟩ := hcut
          have S2 := Lib.hid (S1.out.on AR.old)
          have hx := Lib.hid AR.x
          have hy := Lib.hid AR.y
          generalize xsW a1 a2 = X at *
          generalize ysW b1 b2 = Y at *
          clear AR S1 c00 c01 c10 c11 hm0 hm1 t5 t6
          go_wp2_with fail
          go_loopw [9, 10, 11] (fun s9 s10 s11 wr => ∃ i lo hi : Nat, i ≤ 4 ∧ s9 = .float .f64 lo ∧ s10 = .float .f64 hi ∧ s11 = .int .i64 i ∧ Drawn wc wr ∧ MulAt (cornersQ X Y) i lo hi) (fun _ _ s11 _ => 4 - (intOf s11).toNat)
          case atStart => exact ⟨0, 0, 0, by omega, rfl, rfl, rfl, Drawn.refl _, fun h => absurd h (by omega)⟩
          case round =>
            obtain ⟨i, lo, hi, hi4, rfl, rfl, rfl, hd, hM⟩ := hrel
            by_cases hlt : i < 4
            · obtain ⟨q, r, fq, fr, fy, C1, hD, hU⟩ := PC.out i hlt
              have DR := fun w => down_run q (if V (Y.getD i 0) < 0 then negW r else r) fq (by split; exact negW_fin fr; exact fr) w
              have UR := fun w => up_run q (if V (Y.getD i 0) < 0 then negW r else r) fq (by split; exact negW_fin fr; exact fr) w
              obtain ⟨dd, hdd⟩ : ∃ x, x = dnW (V (if V (Y.getD i 0) < 0 then negW r else r) < 0) q := ⟨_, rfl⟩
              obtain ⟨uu, huu⟩ : ∃ x, x = upW (0 < V (if V (Y.getD i 0) < 0 then negW r else r)) q := ⟨_, rfl⟩
              rw [← hdd] at hD DR
              rw [← huu] at hU UR
              have N1 := fun w => xneg' r fr.1 w
              have t9 := lt_words fy zero_fin
              rw [V_zero] at t9
              have cx : wr.cell? ⟨gx, i, none⟩ = some (.float .f64 (X.getD i 0)) := (hd.cell _).trans (hx.out i hlt)
              have cy : wr.cell? ⟨gy, i, none⟩ = some (.float .f64 (Y.getD i 0)) := (hd.cell _).trans (hy.out i hlt)
              unfold ffi at C1
              replace hd := Lib.hid hd
              generalize negW r = nr at *
              by_cases hi0 : i = 0
              · subst hi0
                have hN := Lib.hid (MulAt.oneQ (by rw [hX.out]; omega) (by rw [hY.out]; omega) hD hU)
                obtain ⟨x0, hx0⟩ : ∃ x, x = X.getD 0 0 := ⟨_, rfl⟩
                obtain ⟨y0, hy0⟩ : ∃ x, x = Y.getD 0 0 := ⟨_, rfl⟩
                rw [← hx0] at cx C1
                rw [← hy0] at cy C1 DR UR t9
                clear hdd huu fq fr fy hD hU hM hx0 hy0
                by_cases hy0 : V y0 < 0
                · rw [decide_eq_true hy0] at t9
                  rw [if_pos hy0] at DR UR
                  clear hy0
                  go_wp2_with fail
                  go_quiet (first | (go_at_call 57; with_reducible refine quiet_same (C1 _)))
                  go_wp2_with (first | (go_at_call 50; ((with_reducible refine (DR _).mono ?_); rintro en w' ⟨rfl, rfl⟩)) | (go_at_call 51; ((with_reducible refine (UR _).mono ?_); rintro en w' ⟨rfl, rfl⟩)))
                  go_roundw
                  case rel => exact ⟨0 + 1, dd, uu, by omega, rfl, rfl, by go_num, hd.out.more _, hN.out⟩
                  case measure => simp [intOf]
                · rw [decide_eq_false hy0] at t9
                  rw [if_neg hy0] at DR UR
                  clear hy0 N1
                  go_wp2_with fail
                  go_quiet (first | (go_at_call 57; with_reducible refine quiet_same (C1 _)))
                  go_wp2_with (first | (go_at_call 50; ((with_reducible refine (DR _).mono ?_); rintro en w' ⟨rfl, rfl⟩)) | (go_at_call 51; ((with_reducible refine (UR _).mono ?_); rintro en w' ⟨rfl, rfl⟩)))
                  go_roundw
                  case rel => exact ⟨0 + 1, dd, uu, by omega, rfl, rfl, by go_num, hd.out.more _, hN.out⟩
                  case measure => simp [intOf]
              · have t0 : ((i : Int) == 0) = false := by simpa using hi0
                obtain ⟨hDl, hUl⟩ := hM (by omega)
                have t1 := lt_words hD.fin hDl.fin
                have t2 := gt_words hU.fin hUl.fin
                have hN := Lib.hid (hM.nextQ (by omega) (by rw [hX.out]; omega) (by rw [hY.out]; omega) hD hU)
                unfold minW maxW at hN
                obtain ⟨x0, hx0⟩ : ∃ x, x = X.getD i 0 := ⟨_, rfl⟩
                obtain ⟨y0, hy0⟩ : ∃ x, x = Y.getD i 0 := ⟨_, rfl⟩
                rw [← hx0] at cx C1
                rw [← hy0] at cy C1 DR UR t9
                clear hdd huu fq fr fy hD hU hM hx0 hy0 hDl hUl
                by_cases k1 : V dd < V lo
                · rw [decide_eq_true k1] at t1
                  rw [if_pos k1] at hN
                  by_cases k2 : V hi < V uu
                  · rw [decide_eq_true k2] at t2
                    rw [if_pos k2] at hN
                    clear k1 k2
                    by_cases hy0 : V y0 < 0
                    · rw [decide_eq_true hy0] at t9
                      rw [if_pos hy0] at DR UR
                      clear hy0
                      go_wp2_with fail
                      go_quiet (first | (go_at_call 57; with_reducible refine quiet_same (C1 _)))
                      go_wp2_with (first | (go_at_call 50; ((with_reducible refine (DR _).mono ?_); rintro en w' ⟨rfl, rfl⟩)) | (go_at_call 51; ((with_reducible refine (UR _).mono ?_); rintro en w' ⟨rfl, rfl⟩)))
                      go_roundw
                      case rel => exact ⟨i + 1, dd, uu, by omega, rfl, rfl, by go_num, hd.out.more _, hN.out⟩
                      case measure => simp [intOf]; omega
                    · rw [decide_eq_false hy0] at t9
                      rw [if_neg hy0] at DR UR
                      clear hy0 N1
                      go_wp2_with fail
                      go_quiet (first | (go_at_call 57; with_reducible refine quiet_same (C1 _)))
                      go_wp2_with (first | (go_at_call 50; ((with_reducible refine (DR _).mono ?_); rintro en w' ⟨rfl, rfl⟩)) | (go_at_call 51; ((with_reducible refine (UR _).mono ?_); rintro en w' ⟨rfl, rfl⟩)))
                      go_roundw
                      case rel => exact ⟨i + 1, dd, uu, by omega, rfl, rfl, by go_num, hd.out.more _, hN.out⟩
                      case measure => simp [intOf]; omega
                  · rw [decide_eq_false k2] at t2
                    rw [if_neg k2] at hN
                    clear k1 k2
                    by_cases hy0 : V y0 < 0
                    · rw [decide_eq_true hy0] at t9
                      rw [if_pos hy0] at DR UR
                      clear hy0
                      go_wp2_with fail
                      go_quiet (first | (go_at_call 57; with_reducible refine quiet_same (C1 _)))
                      go_wp2_with (first | (go_at_call 50; ((with_reducible refine (DR _).mono ?_); rintro en w' ⟨rfl, rfl⟩)) | (go_at_call 51; ((with_reducible refine (UR _).mono ?_); rintro en w' ⟨rfl, rfl⟩)))
                      go_roundw
                      case rel => exact ⟨i + 1, dd, hi, by omega, rfl, rfl, by go_num, hd.out.more _, hN.out⟩
                      case measure => simp [intOf]; omega
                    · rw [decide_eq_false hy0] at t9
                      rw [if_neg hy0] at DR UR
                      clear hy0 N1
                      go_wp2_with fail
                      go_quiet (first | (go_at_call 57; with_reducible refine quiet_same (C1 _)))
                      go_wp2_with (first | (go_at_call 50; ((with_reducible refine (DR _).mono ?_); rintro en w' ⟨rfl, rfl⟩)) | (go_at_call 51; ((with_reducible refine (UR _).mono ?_); rintro en w' ⟨rfl, rfl⟩)))
                      go_roundw
                      case rel => exact ⟨i + 1, dd, hi, by omega, rfl, rfl, by go_num, hd.out.more _, hN.out⟩
                      case measure => simp [intOf]; omega
                · rw [decide_eq_false k1] at t1
                  rw [if_neg k1] at hN
                  by_cases k2 : V hi < V uu
                  · rw [decide_eq_true k2] at t2
                    rw [if_pos k2] at hN
                    clear k1 k2
                    by_cases hy0 : V y0 < 0
                    · rw [decide_eq_true hy0] at t9
                      rw [if_pos hy0] at DR UR
                      clear hy0
                      go_wp2_with fail
                      go_quiet (first | (go_at_call 57; with_reducible refine quiet_same (C1 _)))
                      go_wp2_with (first | (go_at_call 50; ((with_reducible refine (DR _).mono ?_); rintro en w' ⟨rfl, rfl⟩)) | (go_at_call 51; ((with_reducible refine (UR _).mono ?_); rintro en w' ⟨rfl, rfl⟩)))
                      go_roundw
                      case rel => exact ⟨i + 1, lo, uu, by omega, rfl, rfl, by go_num, hd.out.more _, hN.out⟩
                      case measure => simp [intOf]; omega
                    · rw [decide_eq_false hy0] at t9
                      rw [if_neg hy0] at DR UR
                      clear hy0 N1
                      go_wp2_with fail
                      go_quiet (first | (go_at_call 57; with_reducible refine quiet_same (C1 _)))
                      go_wp2_with (first | (go_at_call 50; ((with_reducible refine (DR _).mono ?_); rintro en w' ⟨rfl, rfl⟩)) | (go_at_call 51; ((with_reducible refine (UR _).mono ?_); rintro en w' ⟨rfl, rfl⟩)))
                      go_roundw
                      case rel => exact ⟨i + 1, lo, uu, by omega, rfl, rfl, by go_num, hd.out.more _, hN.out⟩
                      case measure => simp [intOf]; omega
                  · rw [decide_eq_false k2] at t2
                    rw [if_neg k2] at hN
                    clear k1 k2
                    by_cases hy0 : V y0 < 0
                    · rw [decide_eq_true hy0] at t9
                      rw [if_pos hy0] at DR UR
                      clear hy0
                      go_wp2_with fail
                      go_quiet (first | (go_at_call 57; with_reducible refine quiet_same (C1 _)))
                      go_wp2_with (first | (go_at_call 50; ((with_reducible refine (DR _).mono ?_); rintro en w' ⟨rfl, rfl⟩)) | (go_at_call 51; ((with_reducible refine (UR _).mono ?_); rintro en w' ⟨rfl, rfl⟩)))
                      go_roundw
                      case rel => exact ⟨i + 1, lo, hi, by omega, rfl, rfl, by go_num, hd.out.more _, hN.out⟩
                      case measure => simp [intOf]; omega
                    · rw [decide_eq_false hy0] at t9
                      rw [if_neg hy0] at DR UR
                      clear hy0 N1
                      go_wp2_with fail
                      go_quiet (first | (go_at_call 57; with_reducible refine quiet_same (C1 _)))
                      go_wp2_with (first | (go_at_call 50; ((with_reducible refine (DR _).mono ?_); rintro en w' ⟨rfl, rfl⟩)) | (go_at_call 51; ((with_reducible refine (UR _).mono ?_); rintro en w' ⟨rfl, rfl⟩)))
                      go_roundw
                      case rel => exact ⟨i + 1, lo, hi, by omega, rfl, rfl, by go_num, hd.out.more _, hN.out⟩
                      case measure => simp [intOf]; omega
            · obtain rfl : i = 4 := by omega
              obtain ⟨hDl, hUl⟩ := hM (by omega)
              have TR := Lib.hid (fun w => told_run lo hi hDl.fin hUl.fin w)
              obtain ⟨x, y, c, hT⟩ := toldE_span lo hi
              rw [hT] at TR
              have hP := hO.out lo hi hM
              rw [hT] at hP
              replace hP := Lib.hid hP
              have S3 := Lib.hid (S2.out.on (hd.below _))
              unfold spanE at TR
              clear hDl hUl hM hT hd hO PC hx hy
              go_wp2_with fail
              refine (TR.out wr).mono ?_
              rintro _ w4 ⟨rfl, hb4⟩
              have S4 := S3.out.on hb4
              have r0 := S4.cell 2 rfl 0 (w.heap.size + 1 + 1) rfl
              have r1 := S4.cell 2 rfl 1 (w.heap.size + 1 + 1) rfl
              have f0 := S4.free 2 rfl 0 (w.heap.size + 1 + 1) rfl
              have f1 := S4.free 2 rfl 1 (w.heap.size + 1 + 1) rfl
              have B2 := Lib.hid S4.old
              clear S4 hb4 S3 S2
              go_wp2_with fail
              (try simp only [Exit.inBlock, Exit.then])
              refine bodyPost_ret (v := spanE x y c) ?_ rfl ⟨hP.out, ?_⟩
              · rw [results_cell_tmp rfl]; unfold spanE; go_simp
              · exact (B2.out.setCell (by show _ ≤ (w.heap.size + 1 + 1); omega) _).setCell (by show _ ≤ (w.heap.size + 1 + 1); omega) _
  · have hO : Hid (OpAll (errD a1 a2 b1 b2) [quotC a1 b1, quotC a1 b2, quotC a2 b1, quotC a2 b2] [quotC a1 b1, quotC a1 b2, quotC a2 b1, quotC a2 b2] (.returned (spanE 0 0 (errSS a1 a2 b1 b2)))) := by
      have e : errD a1 a2 b1 b2 = errSS a1 a2 b1 b2 := by unfold errD; rw [if_pos h0]
      rw [e]; exact ⟨fun h => absurd h h0, fun _ => rfl⟩
    have t : (errSS a1 a2 b1 b2 != 0) = true := by simpa using h0
    clear h0 ha ha' hb hb'
    generalize errSS a1 a2 b1 b2 = er at *
    go_enter Try.func20, Try.ntmps20
    go_wp2_with fail
    have S := S0.out
    clear S0
    generalize ((w.alloc _).alloc _).alloc _ = wr at *
    refine (CB.out wr).mono ?_
    rintro _ w1 ⟨rfl, hb1⟩
    have S1 := S.on hb1
    have r0 := S1.cell 2 rfl 0 (w.heap.size + 1 + 1) rfl
    have r1 := S1.cell 2 rfl 1 (w.heap.size + 1 + 1) rfl
    have f0 := S1.free 2 rfl 0 (w.heap.size + 1 + 1) rfl
    have f1 := S1.free 2 rfl 1 (w.heap.size + 1 + 1) rfl
    have B2 := Lib.hid S1.old
    clear S S1 hb1
    go_wp2_with fail
    (try simp only [Exit.inBlock, Exit.then])
    refine bodyPost_ret (v := spanE 0 0 er) ?_ rfl ⟨hO.out, ?_⟩
    · rw [results_cell_tmp rfl]; unfold spanE; go_simp
    · exact (B2.out.setCell (by show _ ≤ (w.heap.size + 1 + 1); omega) _).setCell (by show _ ≤ (w.heap.size + 1 + 1); omega) _
end Go.Proofs.Ytkfagpahbojigaa
