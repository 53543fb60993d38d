/- Proved here: what the reference's products of spans answer, over the translated code. -/
import Derived.Test.YtkfagpahbojigaaSsq
import Derived.BigQuiet
import Derived.Deep.RegionHeld
import Derived.Deep.CutRange
namespace Go.Proofs.Ytkfagpahbojigaa
open Go.ChangeShapes Go.WideShapes Go.ChangeAt Go.RowKit Ieee.Own

/-! ### the four corners -/
theorem quiet_same {P : Program} {f : FuncId} {args : Array Value} {w : World} {n : Nat} {v : Value}
    (h : Calls P f args (w.drewN n) fun e w' => e = .returned v ∧ w.drewN n = w') : Calls P f args (w.drewN n) fun e w'' => e = .returned v ∧ ∃ m, w'' = w.drewN m :=
  h.mono fun _ _ ⟨he, hm⟩ => ⟨he, n, hm.symm⟩
/-- a world that is another but for draws -/
def Drawn (w w' : World) : Prop := ∃ m, w' = w.drewN m
theorem Drawn.refl (w : World) : Drawn w w := ⟨0, rfl⟩
theorem Drawn.more {w w' : World} (h : Drawn w w') (n : Nat) : Drawn w (w'.drewN n) := by
  obtain ⟨m, rfl⟩ := h; exact ⟨m + n, by rw [World.drewN_drewN]⟩
theorem Drawn.below {w w' : World} (d : Drawn w w') (B : Nat) : Below B w w' := by
  obtain ⟨m, rfl⟩ := d; exact ⟨rfl, rfl, rfl, Nat.le_refl _, fun _ _ => rfl⟩
theorem Drawn.cell {w w' : World} (d : Drawn w w') (a : Addr) : w'.cell? a = w.cell? a := by obtain ⟨m, rfl⟩ := d; rfl
def xsW (a1 a2 : Nat) : List Nat := [a1, a1, a2, a2]
def ysW (b1 b2 : Nat) : List Nat := [b1, b2, b1, b2]
def arrO (L : List Nat) : Obj := .cells (L.map (Value.float .f64)).toArray 62 (0, 0)
structure Arrs (w1 : World) (gx gy : Nat) (X Y : List Nat) (wx : World) : Prop where
  old : Below w1.heap.size w1 wx
  x : ∀ i, i < 4 → wx.cell? ⟨gx, i, none⟩ = some (.float .f64 (X.getD i 0))
  y : ∀ i, i < 4 → wx.cell? ⟨gy, i, none⟩ = some (.float .f64 (Y.getD i 0))
theorem arr_at {w : World} {g : Nat} {L : List Nat} (hL : L.length = 4) (h : w.heap[g]? = some (arrO L)) (i : Nat) (hi : i < 4) : w.cell? ⟨g, i, none⟩ = some (.float .f64 (L.getD i 0)) := by
  rw [cell_of_row w g i _ _ _ h]
  simp [List.getD, hL, hi]
theorem Arrs.one (w1 : World) {X Y : List Nat} (hX : X.length = 4) (hY : Y.length = 4) : Arrs w1 w1.heap.size (w1.heap.size + 1) X Y ((w1.alloc (arrO X)).alloc (arrO Y)).drew := by
  refine ⟨(((Below.refl _ w1).alloc (Nat.le_refl _) _).alloc (by simp) _).drew, fun i hi => ?_, fun i hi => ?_⟩
  · exact arr_at (w := (w1.alloc (arrO X)).alloc (arrO Y)) hX (heap_alloc2_old w1 _ _) i hi
  · exact arr_at (w := (w1.alloc (arrO X)).alloc (arrO Y)) hY (heap_alloc2_new w1 _ _) i hi
theorem Arrs.two (w1 : World) {X Y : List Nat} (hX : X.length = 4) (hY : Y.length = 4) : Arrs w1 (w1.heap.size + 1) w1.heap.size X Y ((w1.alloc (arrO Y)).alloc (arrO X)).drew := by
  refine ⟨(((Below.refl _ w1).alloc (Nat.le_refl _) _).alloc (by simp) _).drew, fun i hi => ?_, fun i hi => ?_⟩
  · exact arr_at (w := (w1.alloc (arrO Y)).alloc (arrO X)) hX (heap_alloc2_new w1 _ _) i hi
  · exact arr_at (w := (w1.alloc (arrO Y)).alloc (arrO X)) hY (heap_alloc2_old w1 _ _) i hi

theorem rcorner {x y : Nat} (hx : x < 18446744073709551616) (hy : y < 18446744073709551616) (h1 : fitB x = true) (h2 : fitB y = true) :
    ∃ p r, FinW p ∧ FinW r ∧ (∀ w, Calls Try.prog 55 #[.float .f64 x, .float .f64 y] w fun en w' => en = .returned (ffi p r 0) ∧ w = w') ∧ Dn (prodC x y) (dnW (V r < 0) p) ∧ Up (prodC x y) (upW (0 < V r) p) := by
  obtain ⟨p, r, N, Z, g, R, -, ⟨-, -, K, hK, hs, -⟩, C⟩ := rprod_fit x y hx hy h1 h2
  exact ⟨p, r, R.fp, R.fe, C, prod_dn R (bd_of hs hK), prod_up R (bd_of hs hK)⟩
def cornersL (X Y : List Nat) : List (Int → Int) := List.zipWith prodC X Y
/-- what the loop over the corners has found behind i of them -/
def MulAt (cs : List (Int → Int)) (i lo hi : Nat) : Prop := 0 < i → DnAll (cs.take i) lo ∧ UpAll (cs.take i) hi
theorem falls_corners {X Y : List Nat} : ∀ d ∈ cornersL X Y, Falls d := by
  intro d hd
  unfold cornersL at hd
  obtain ⟨i, hi, rfl⟩ := List.mem_iff_getElem.1 hd
  rw [List.getElem_zipWith]
  exact falls_sub _
theorem corners_succ {X Y : List Nat} {i : Nat} (hX : i < X.length) (hY : i < Y.length) : (cornersL X Y).take (i + 1) = (cornersL X Y).take i ++ [prodC (X.getD i 0) (Y.getD i 0)] := by
  have h : i < (cornersL X Y).length := by unfold cornersL; simp; omega
  rw [List.take_add_one, List.getElem?_eq_getElem h]
  unfold cornersL
  simp [List.getD, hX, hY]
  exact List.getElem_zipWith
theorem MulAt.one {X Y : List Nat} {d u : Nat} (hX : 0 < X.length) (hY : 0 < Y.length) (hd : Dn (prodC (X.getD 0 0) (Y.getD 0 0)) d) (hu : Up (prodC (X.getD 0 0) (Y.getD 0 0)) u) : MulAt (cornersL X Y) (0 + 1) d u := by
  intro _
  rw [corners_succ hX hY]
  exact ⟨hd.all, hu.all⟩
theorem MulAt.next {X Y : List Nat} {i lo hi d u : Nat} (h : MulAt (cornersL X Y) i lo hi) (h0 : 0 < i) (hX : i < X.length) (hY : i < Y.length) (hd : Dn (prodC (X.getD i 0) (Y.getD i 0)) d) (hu : Up (prodC (X.getD i 0) (Y.getD i 0)) u) :
    MulAt (cornersL X Y) (i + 1) (minW d lo) (maxW u hi) := by
  intro _
  rw [corners_succ hX hY]
  obtain ⟨a, b⟩ := h h0
  have hf : ∀ c ∈ (cornersL X Y).take i, Falls c := fun c hc => falls_corners c (List.mem_of_mem_take hc)
  exact ⟨a.more hd hf (falls_sub _), b.more hu hf (falls_sub _)⟩

set_option maxHeartbeats 4000000 in
theorem rmul_run (a1 a2 b1 b2 : Nat) (ha : a1 < 18446744073709551616) (ha' : a2 < 18446744073709551616) (hb : b1 < 18446744073709551616) (hb' : b2 < 18446744073709551616) (w : World) :
    Calls Try.prog 18 #[spanV a1 a2, spanV b1 b2] w fun e w' => OpAll (errSS a1 a2 b1 b2) [prodC a1 b1, prodC a1 b2, prodC a2 b1, prodC a2 b2] [prodC a1 b1, prodC a1 b2, prodC a2 b1, prodC a2 b2] e ∧ Below w.heap.size w w' := by
  have CB := Lib.hid (fun w => rboth_run a1 a2 b1 b2 ha ha' hb hb' w)
  have S0 : Blocks w (([boxO a1 a2] ++ [boxO b1 b2]) ++ [zeroO]) (((w.alloc (boxO a1 a2)).alloc (boxO b1 b2)).alloc zeroO) := (((Blocks.nil w).alloc (by simp) _).alloc (by simp) _).alloc (by simp) _
  unfold boxO zeroO at S0
  unfold spanV at *
  replace S0 := Lib.hid S0
  have hst := @fstore
  by_cases h0 : errSS a1 a2 b1 b2 = 0
  · obtain ⟨e1, e2⟩ := errSS_zero h0
    obtain ⟨f1, f2, -⟩ := errS_zero e1
    obtain ⟨f3, f4, -⟩ := errS_zero e2
    have PC : Hid (∀ i, i < 4 → ∃ p r, FinW p ∧ FinW r ∧ (∀ w, Calls Try.prog 55 #[.float .f64 ((xsW a1 a2).getD i 0), .float .f64 ((ysW b1 b2).getD i 0)] w fun en w' => en = .returned (ffi p r 0) ∧ w = w') ∧ Dn (prodC ((xsW a1 a2).getD i 0) ((ysW b1 b2).getD i 0)) (dnW (V r < 0) p) ∧ Up (prodC ((xsW a1 a2).getD i 0) ((ysW b1 b2).getD i 0)) (upW (0 < V r) p)) := by
      intro i hi
      have : i = 0 ∨ i = 1 ∨ i = 2 ∨ i = 3 := by omega
      rcases this with rfl | rfl | rfl | rfl
      · exact rcorner ha hb f1 f3
      · exact rcorner ha hb' f1 f4
      · exact rcorner ha' hb f2 f3
      · exact rcorner ha' hb' f2 f4
    have hO : Hid (∀ lo hi, MulAt (cornersL (xsW a1 a2) (ysW b1 b2)) 4 lo hi → OpAll (errSS a1 a2 b1 b2) [prodC a1 b1, prodC a1 b2, prodC a2 b1, prodC a2 b2] [prodC a1 b1, prodC a1 b2, prodC a2 b1, prodC a2 b2] (.returned (toldE lo hi))) := by
      intro lo hi h
      obtain ⟨a, b⟩ := h (by omega)
      rw [h0]
      exact ⟨fun _ => ⟨lo, hi, rfl, a, b⟩, fun h => absurd rfl h⟩
    have hX : Hid ((xsW a1 a2).length = 4) := rfl
    have hY : Hid ((ysW b1 b2).length = 4) := rfl
    rw [h0] at CB
    clear h0 e1 e2 f1 f2 f3 f4 ha ha' hb hb'
    go_enter Try.func18, Try.ntmps18
    go_wp2_with fail
    have S := S0.out
    clear S0
    generalize ((w.alloc _).alloc _).alloc _ = wr at *
    refine (CB.out wr).mono ?_
    rintro _ w1 ⟨rfl, hb1⟩
    have S1 := S.on hb1
    have c00 : w1.cell? ⟨w.heap.size, 0, none⟩ = some (.float .f64 a1) := S1.cell 0 rfl 0 w.heap.size rfl
    have c01 : w1.cell? ⟨w.heap.size, 1, none⟩ = some (.float .f64 a2) := S1.cell 0 rfl 1 w.heap.size rfl
    have c10 : w1.cell? ⟨w.heap.size + 1, 0, none⟩ = some (.float .f64 b1) := S1.cell 1 rfl 0 (w.heap.size + 1) rfl
    have c11 : w1.cell? ⟨w.heap.size + 1, 1, none⟩ = some (.float .f64 b2) := S1.cell 1 rfl 1 (w.heap.size + 1) rfl
    have hm0 : w.heap.size < w1.heap.size := by have := S1.more; simp at this; omega
    have hm1 : w.heap.size + 1 < w1.heap.size := by have := S1.more; simp at this; omega
    replace S1 := Lib.hid S1
    clear S hb1 CB
    go_upto_region 4 with fail
    go_cut [7, 8] from 24 to 41 (fun t7 t8 wx => ∃ gx gy : Nat, t7 = .pointer (some ⟨gx, 0, none⟩) ∧ t8 = .pointer (some ⟨gy, 0, none⟩) ∧ Arrs w1 gx gy (xsW a1 a2) (ysW b1 b2) wx)
    case first =>
      go_region_held (fun x => x.cell? ⟨w.heap.size, 0, none⟩ = some (.float .f64 a1) ∧ x.cell? ⟨w.heap.size, 1, none⟩ = some (.float .f64 a2) ∧ x.cell? ⟨w.heap.size + 1, 0, none⟩ = some (.float .f64 b1) ∧ x.cell? ⟨w.heap.size + 1, 1, none⟩ = some (.float .f64 b2)) (go_keep) (fail)
      all_goals
        go_wp2_with fail
        go_meet
        refine ⟨_, _, rfl, rfl, ?_⟩
        first | exact Arrs.one w1 rfl rfl | exact Arrs.two w1 rfl rfl
    case rest =>
      obtain ⟨gx, gy, rfl, rfl, AR⟩ := hcut
      have S2 := Lib.hid (S1.out.on AR.old)
      have hx := Lib.hid AR.x
      have hy := Lib.hid AR.y
      generalize xsW a1 a2 = X at *
      generalize ysW b1 b2 = Y at *
      clear AR S1 c00 c01 c10 c11 hm0 hm1
      go_wp2_with fail
      go_loopw [9, 10, 11] (fun s9 s10 s11 wr => ∃ i lo hi : Nat, i ≤ 4 ∧ s9 = .float .f64 lo ∧ s10 = .float .f64 hi ∧ s11 = .int .i64 i ∧ Drawn wc wr ∧ MulAt (cornersL X Y) i lo hi) (fun _ _ s11 _ => 4 - (intOf s11).toNat)
      case atStart => exact ⟨0, 0, 0, by omega, rfl, rfl, rfl, Drawn.refl _, fun h => absurd h (by omega)⟩
      case round =>
        obtain ⟨i, lo, hi, hi4, rfl, rfl, rfl, hd, hM⟩ := hrel
        by_cases hlt : i < 4
        · obtain ⟨p, r, fp, fr, C1, hD, hU⟩ := PC.out i hlt
          have DR := fun w => down_run p r fp fr w
          have UR := fun w => up_run p r fp fr w
          obtain ⟨dd, hdd⟩ : ∃ x, x = dnW (V r < 0) p := ⟨_, rfl⟩
          obtain ⟨uu, huu⟩ : ∃ x, x = upW (0 < V r) p := ⟨_, rfl⟩
          rw [← hdd] at hD DR
          rw [← huu] at hU UR
          have cx : wr.cell? ⟨gx, i, none⟩ = some (.float .f64 (X.getD i 0)) := (hd.cell _).trans (hx.out i hlt)
          have cy : wr.cell? ⟨gy, i, none⟩ = some (.float .f64 (Y.getD i 0)) := (hd.cell _).trans (hy.out i hlt)
          unfold ffi at C1
          replace hd := Lib.hid hd
          by_cases hi0 : i = 0
          · subst hi0
            have hN := Lib.hid (MulAt.one (by rw [hX.out]; omega) (by rw [hY.out]; omega) hD hU)
            obtain ⟨x0, hx0⟩ : ∃ x, x = X.getD 0 0 := ⟨_, rfl⟩
            obtain ⟨y0, hy0⟩ : ∃ x, x = Y.getD 0 0 := ⟨_, rfl⟩
            rw [← hx0] at cx C1
            rw [← hy0] at cy C1
            clear hdd huu fp fr hD hU hM hx0 hy0
            go_wp2_with fail
            go_quiet (first | (go_at_call 55; with_reducible refine quiet_same (C1 _)))
            go_wp2_with (first | (go_at_call 50; ((with_reducible refine (DR _).mono ?_); rintro en w' ⟨rfl, rfl⟩)) | (go_at_call 51; ((with_reducible refine (UR _).mono ?_); rintro en w' ⟨rfl, rfl⟩)))
            go_roundw
            case rel => exact ⟨0 + 1, dd, uu, by omega, rfl, rfl, by go_num, hd.out.more _, hN.out⟩
            case measure => simp [intOf]
          · have t0 : ((i : Int) == 0) = false := by simpa using hi0
            obtain ⟨hDl, hUl⟩ := hM (by omega)
            have t1 := lt_words hD.fin hDl.fin
            have t2 := gt_words hU.fin hUl.fin
            have hN := Lib.hid (hM.next (by omega) (by rw [hX.out]; omega) (by rw [hY.out]; omega) hD hU)
            unfold minW maxW at hN
            obtain ⟨x0, hx0⟩ : ∃ x, x = X.getD i 0 := ⟨_, rfl⟩
            obtain ⟨y0, hy0⟩ : ∃ x, x = Y.getD i 0 := ⟨_, rfl⟩
            rw [← hx0] at cx C1
            rw [← hy0] at cy C1
            clear hdd huu fp fr hD hU hM hx0 hy0 hDl hUl
            by_cases k1 : V dd < V lo
            · rw [decide_eq_true k1] at t1
              rw [if_pos k1] at hN
              by_cases k2 : V hi < V uu
              · rw [decide_eq_true k2] at t2
                rw [if_pos k2] at hN
                clear k1 k2
                go_wp2_with fail
                go_quiet (first | (go_at_call 55; with_reducible refine quiet_same (C1 _)))
                go_wp2_with (first | (go_at_call 50; ((with_reducible refine (DR _).mono ?_); rintro en w' ⟨rfl, rfl⟩)) | (go_at_call 51; ((with_reducible refine (UR _).mono ?_); rintro en w' ⟨rfl, rfl⟩)))
                go_roundw
                case rel => exact ⟨i + 1, dd, uu, by omega, rfl, rfl, by go_num, hd.out.more _, hN.out⟩
                case measure => simp [intOf]; omega
              · rw [decide_eq_false k2] at t2
                rw [if_neg k2] at hN
                clear k1 k2
                go_wp2_with fail
                go_quiet (first | (go_at_call 55; with_reducible refine quiet_same (C1 _)))
                go_wp2_with (first | (go_at_call 50; ((with_reducible refine (DR _).mono ?_); rintro en w' ⟨rfl, rfl⟩)) | (go_at_call 51; ((with_reducible refine (UR _).mono ?_); rintro en w' ⟨rfl, rfl⟩)))
                go_roundw
                case rel => exact ⟨i + 1, dd, hi, by omega, rfl, rfl, by go_num, hd.out.more _, hN.out⟩
                case measure => simp [intOf]; omega
            · rw [decide_eq_false k1] at t1
              rw [if_neg k1] at hN
              by_cases k2 : V hi < V uu
              · rw [decide_eq_true k2] at t2
                rw [if_pos k2] at hN
                clear k1 k2
                go_wp2_with fail
                go_quiet (first | (go_at_call 55; with_reducible refine quiet_same (C1 _)))
                go_wp2_with (first | (go_at_call 50; ((with_reducible refine (DR _).mono ?_); rintro en w' ⟨rfl, rfl⟩)) | (go_at_call 51; ((with_reducible refine (UR _).mono ?_); rintro en w' ⟨rfl, rfl⟩)))
                go_roundw
                case rel => exact ⟨i + 1, lo, uu, by omega, rfl, rfl, by go_num, hd.out.more _, hN.out⟩
                case measure => simp [intOf]; omega
              · rw [decide_eq_false k2] at t2
                rw [if_neg k2] at hN
                clear k1 k2
                go_wp2_with fail
                go_quiet (first | (go_at_call 55; with_reducible refine quiet_same (C1 _)))
                go_wp2_with (first | (go_at_call 50; ((with_reducible refine (DR _).mono ?_); rintro en w' ⟨rfl, rfl⟩)) | (go_at_call 51; ((with_reducible refine (UR _).mono ?_); rintro en w' ⟨rfl, rfl⟩)))
                go_roundw
                case rel => exact ⟨i + 1, lo, hi, by omega, rfl, rfl, by go_num, hd.out.more _, hN.out⟩
                case measure => simp [intOf]; omega
        · obtain rfl : i = 4 := by omega
          obtain ⟨hDl, hUl⟩ := hM (by omega)
          have TR := Lib.hid (fun w => told_run lo hi hDl.fin hUl.fin w)
          obtain ⟨x, y, c, hT⟩ := toldE_span lo hi
          rw [hT] at TR
          have hP := hO.out lo hi hM
          rw [hT] at hP
          replace hP := Lib.hid hP
          have S3 := Lib.hid (S2.out.on (hd.below _))
          unfold spanE at TR
          clear hDl hUl hM hT hd hO PC hx hy
          go_wp2_with fail
          refine (TR.out wr).mono ?_
          rintro _ w4 ⟨rfl, hb4⟩
          have S4 := S3.out.on hb4
          have r0 := S4.cell 2 rfl 0 (w.heap.size + 1 + 1) rfl
          have r1 := S4.cell 2 rfl 1 (w.heap.size + 1 + 1) rfl
          have f0 := S4.free 2 rfl 0 (w.heap.size + 1 + 1) rfl
          have f1 := S4.free 2 rfl 1 (w.heap.size + 1 + 1) rfl
          have B2 := Lib.hid S4.old
          clear S4 hb4 S3 S2
          go_wp2_with fail
          (try simp only [Exit.inBlock, Exit.then])
          refine bodyPost_ret (v := spanE x y c) ?_ rfl ⟨hP.out, ?_⟩
          · rw [results_cell_tmp rfl]; unfold spanE; go_simp
          · exact (B2.out.setCell (by show _ ≤ (w.heap.size + 1 + 1); omega) _).setCell (by show _ ≤ (w.heap.size + 1 + 1); omega) _
  · have hO : Hid (OpAll (errSS a1 a2 b1 b2) [prodC a1 b1, prodC a1 b2, prodC a2 b1, prodC a2 b2] [prodC a1 b1, prodC a1 b2, prodC a2 b1, prodC a2 b2] (.returned (spanE 0 0 (errSS a1 a2 b1 b2)))) := ⟨fun h => absurd h h0, fun _ => rfl⟩
    have t : (errSS a1 a2 b1 b2 != 0) = true := by simpa using h0
    clear h0 ha ha' hb hb'
    generalize errSS a1 a2 b1 b2 = er at *
    go_enter Try.func18, Try.ntmps18
    go_wp2_with fail
    have S := S0.out
    clear S0
    generalize ((w.alloc _).alloc _).alloc _ = wr at *
    refine (CB.out wr).mono ?_
    rintro _ w1 ⟨rfl, hb1⟩
    have S1 := S.on hb1
    have r0 := S1.cell 2 rfl 0 (w.heap.size + 1 + 1) rfl
    have r1 := S1.cell 2 rfl 1 (w.heap.size + 1 + 1) rfl
    have f0 := S1.free 2 rfl 0 (w.heap.size + 1 + 1) rfl
    have f1 := S1.free 2 rfl 1 (w.heap.size + 1 + 1) rfl
    have B2 := Lib.hid S1.old
    clear S S1 hb1
    go_wp2_with fail
    (try simp only [Exit.inBlock, Exit.then])
    refine bodyPost_ret (v := spanE 0 0 er) ?_ rfl ⟨hO.out, ?_⟩
    · rw [results_cell_tmp rfl]; unfold spanE; go_simp
    · exact (B2.out.setCell (by show _ ≤ (w.heap.size + 1 + 1); omega) _).setCell (by show _ ≤ (w.heap.size + 1 + 1); omega) _
end Go.Proofs.Ytkfagpahbojigaa
