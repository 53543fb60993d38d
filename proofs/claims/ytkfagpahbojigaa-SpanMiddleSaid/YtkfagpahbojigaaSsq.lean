/- Proved here: what the reference's squares of spans answer, over the translated code. -/
import Derived.Test.YtkfagpahbojigaaSun
namespace Go.Proofs.Ytkfagpahbojigaa
open Go.ChangeShapes Go.WideShapes Go.ChangeAt Go.RowKit Ieee.Own

/-! ### ends over several exact results -/
structure DnAll (cs : List (Int → Int)) (w : Nat) : Prop where
  fin : FinW w
  le : ∀ c ∈ cs, 0 ≤ c (V w)
  top : ∀ u, FinW u → (∀ c ∈ cs, 0 ≤ c (V u)) → V u ≤ V w
structure UpAll (cs : List (Int → Int)) (w : Nat) : Prop where
  fin : FinW w
  ge : ∀ c ∈ cs, c (V w) ≤ 0
  low : ∀ u, FinW u → (∀ c ∈ cs, c (V u) ≤ 0) → V w ≤ V u
def Falls (c : Int → Int) : Prop := ∀ u v, u ≤ v → c v ≤ c u
theorem Dn.all {c : Int → Int} {w : Nat} (h : Dn c w) : DnAll [c] w :=
  ⟨h.fin, fun d hd => by rw [List.mem_singleton.1 hd]; exact h.le, fun u hu hc => h.top u hu (hc c (List.mem_singleton.2 rfl))⟩
theorem Up.all {c : Int → Int} {w : Nat} (h : Up c w) : UpAll [c] w :=
  ⟨h.fin, fun d hd => by rw [List.mem_singleton.1 hd]; exact h.ge, fun u hu hc => h.low u hu (hc c (List.mem_singleton.2 rfl))⟩
def minW (y x : Nat) : Nat := if V y < V x then y else x
def maxW (y x : Nat) : Nat := if V x < V y then y else x
theorem minW_V (y x : Nat) : V (minW y x) ≤ V x ∧ V (minW y x) ≤ V y ∧ (V (minW y x) = V x ∨ V (minW y x) = V y) := by unfold minW; split <;> omega
theorem maxW_V (y x : Nat) : V x ≤ V (maxW y x) ∧ V y ≤ V (maxW y x) ∧ (V (maxW y x) = V x ∨ V (maxW y x) = V y) := by unfold maxW; split <;> omega
theorem DnAll.more {cs : List (Int → Int)} {c : Int → Int} {x y : Nat} (h : DnAll cs x) (k : Dn c y) (hcs : ∀ d ∈ cs, Falls d) (hc : Falls c) : DnAll (cs ++ [c]) (minW y x) := by
  obtain ⟨m1, m2, m3⟩ := minW_V y x
  refine ⟨by unfold minW; split; exact k.fin; exact h.fin, fun d hd => ?_, fun u hu hall => ?_⟩
  · rcases List.mem_append.1 hd with hd | hd
    · exact Int.le_trans (h.le d hd) (hcs d hd _ _ m1)
    · rw [List.mem_singleton.1 hd]; exact Int.le_trans k.le (hc _ _ m2)
  · have a := h.top u hu fun d hd => hall d (List.mem_append_left _ hd)
    have b := k.top u hu (hall c (List.mem_append_right _ (List.mem_singleton.2 rfl)))
    omega
theorem UpAll.more {cs : List (Int → Int)} {c : Int → Int} {x y : Nat} (h : UpAll cs x) (k : Up c y) (hcs : ∀ d ∈ cs, Falls d) (hc : Falls c) : UpAll (cs ++ [c]) (maxW y x) := by
  obtain ⟨m1, m2, m3⟩ := maxW_V y x
  refine ⟨by unfold maxW; split; exact k.fin; exact h.fin, fun d hd => ?_, fun u hu hall => ?_⟩
  · rcases List.mem_append.1 hd with hd | hd
    · exact Int.le_trans (hcs d hd _ _ m1) (h.ge d hd)
    · rw [List.mem_singleton.1 hd]; exact Int.le_trans (hc _ _ m2) k.ge
  · have a := h.low u hu fun d hd => hall d (List.mem_append_left _ hd)
    have b := k.low u hu (hall c (List.mem_append_right _ (List.mem_singleton.2 rfl)))
    omega
theorem DnAll.uniq {cs : List (Int → Int)} {w x : Nat} (h : DnAll cs w) (k : DnAll cs x) : V w = V x := by
  have := h.top x k.fin k.le
  have := k.top w h.fin h.le
  omega
theorem UpAll.uniq {cs : List (Int → Int)} {w x : Nat} (h : UpAll cs w) (k : UpAll cs x) : V w = V x := by
  have := h.low x k.fin k.ge
  have := k.low w h.fin h.ge
  omega
theorem falls_sub (z : Int) : Falls (fun v => z - v) := fun u v h => by show z - v ≤ z - u; omega
theorem falls_quot (a b : Nat) : Falls (quotC a b) := by
  intro u v h
  unfold quotC
  by_cases hb : V b < 0
  · rw [if_pos hb]
    have := Int.mul_le_mul_of_nonpos_right h (Int.le_of_lt hb)
    omega
  · rw [if_neg hb]
    have := Int.mul_le_mul_of_nonneg_right h (show 0 ≤ V b by omega)
    omega
def OpAll (er : Int) (cs ds : List (Int → Int)) (e : Ending) : Prop := (er = 0 → ∃ lo hi, e = .returned (toldE lo hi) ∧ DnAll cs lo ∧ UpAll ds hi) ∧ (er ≠ 0 → e = .returned (spanE 0 0 er))

/-! ### products -/
def prodN (a b : Nat) : Int := V a * V b / 2 ^ 1074
theorem prodN_of {a b p e : Nat} {N : Int} (R : ProdRes a b p e N) : prodN a b = N := by
  unfold prodN
  rw [R.ex]
  exact Int.mul_ediv_cancel _ (Int.ne_of_gt (Int.pow_pos (by omega)))
def prodC (a b : Nat) (v : Int) : Int := prodN a b - v
theorem prod_dn {a b p e : Nat} {N : Int} (R : ProdRes a b p e N) (bd : (V p).natAbs ≤ 2 ^ 1500) : Dn (prodC a b) (dnW (V e < 0) p) := by
  have := (prod_adj R bd).dn (p := V e < 0) (by have := R.ve; show V e < 0 ↔ N - V p < 0; omega)
  unfold prodC; rw [prodN_of R]; exact this
theorem prod_up {a b p e : Nat} {N : Int} (R : ProdRes a b p e N) (bd : (V p).natAbs ≤ 2 ^ 1500) : Up (prodC a b) (upW (0 < V e) p) := by
  have := (prod_adj R bd).upp (p := 0 < V e) (by have := R.ve; show 0 < V e ↔ 0 < N - V p; omega)
  unfold prodC; rw [prodN_of R]; exact this

/-! ### Square -/
def sqLo (a b : Nat) : List (Int → Int) := if 0 ≤ V a then [prodC a a] else if V b ≤ 0 then [prodC b b] else [fun v => 0 - v]
def sqHi (a b : Nat) : List (Int → Int) := if 0 ≤ V a then [prodC b b] else if V b ≤ 0 then [prodC a a] else [prodC a a, prodC b b]
set_option maxHeartbeats 2000000 in
theorem rsquare_run (a b : Nat) (ha : a < 18446744073709551616) (hb : b < 18446744073709551616) (w : World) :
    Calls Try.prog 22 #[spanV a b] w fun e w' => OpAll (errS a b) (sqLo a b) (sqHi a b) e ∧ Below w.heap.size w w' := by
  have CB := Lib.hid (fun w => rscheck_run a b ha hb w)
  have S0 : Blocks w ([boxO a b] ++ [zeroO]) ((w.alloc (boxO a b)).alloc zeroO) := ((Blocks.nil w).alloc (by simp) _).alloc (by simp) _
  unfold boxO zeroO at S0
  unfold spanV at *
  replace S0 := Lib.hid S0
  have hst := @fstore
  by_cases h0 : errS a b = 0
  · obtain ⟨f1, f2, le⟩ := errS_zero h0
    have t3 := ge_words (fit_fin ha f1) zero_fin
    have t4 := le_words (fit_fin hb f2) zero_fin
    rw [V_zero] at t3 t4
    obtain ⟨p, r, N, Z, g, R, -, ⟨-, -, K, hK, hs, -⟩, C1⟩ := rprod_fit a a ha ha f1 f1
    obtain ⟨q, t, N', Z', g', R', -, ⟨-, -, K', hK', hs', -⟩, C2⟩ := rprod_fit b b hb hb f2 f2
    have D1 := prod_dn R (bd_of hs hK)
    have U1 := prod_up R (bd_of hs hK)
    have D2 := prod_dn R' (bd_of hs' hK')
    have U2 := prod_up R' (bd_of hs' hK')
    unfold ffi at C1 C2
    rw [h0] at CB
    by_cases c1 : 0 ≤ V a
    · have DR := fun w => down_run p r R.fp R.fe w
      have UR := fun w => up_run q t R'.fp R'.fe w
      obtain ⟨lo, hlo⟩ : ∃ x, x = dnW (V r < 0) p := ⟨_, rfl⟩
      obtain ⟨hi, hhi⟩ : ∃ x, x = upW (0 < V t) q := ⟨_, rfl⟩
      rw [← hlo] at D1 DR
      rw [← hhi] at U2 UR
      have TR := Lib.hid (fun w => told_run lo hi D1.fin U2.fin w)
      obtain ⟨x, y, c, hT⟩ := toldE_span lo hi
      rw [hT] at TR
      have hO : Hid (OpAll (errS a b) (sqLo a b) (sqHi a b) (.returned (spanE x y c))) := by
        rw [h0]; unfold sqLo sqHi; rw [if_pos c1, if_pos c1]
        exact ⟨fun _ => ⟨lo, hi, by rw [hT], D1.all, U2.all⟩, fun h => absurd rfl h⟩
      rw [decide_eq_true c1] at t3
      unfold spanE at TR
      clear h0 c1 f1 f2 le R R' K hK hs K' hK' hs' D1 U1 D2 U2 hlo hhi hT ha hb t4
      go_enter Try.func22, Try.ntmps22
      go_wp2_with fail
      have S := S0.out
      clear S0
      generalize (w.alloc _).alloc _ = wr at *
      refine (CB.out wr).mono ?_
      rintro _ w1 ⟨rfl, hb1⟩
      have S1 := S.on hb1
      have c00 := S1.cell 0 rfl 0 w.heap.size rfl
      have c01 := S1.cell 0 rfl 1 w.heap.size rfl
      replace S1 := Lib.hid S1
      clear S hb1
      go_wp2_with (first | (go_at_call 55; ((with_reducible refine (C1 _).mono ?_); rintro en w' ⟨rfl, rfl⟩)) | (go_at_call 55; ((with_reducible refine (C2 _).mono ?_); rintro en w' ⟨rfl, rfl⟩)) | (go_at_call 50; ((with_reducible refine (DR _).mono ?_); rintro en w' ⟨rfl, rfl⟩)) | (go_at_call 51; ((with_reducible refine (UR _).mono ?_); rintro en w' ⟨rfl, rfl⟩)))
      refine (TR.out w1).mono ?_
      rintro _ w2 ⟨rfl, hb2⟩
      have S2 := S1.out.on hb2
      have r0 := S2.cell 1 rfl 0 (w.heap.size + 1) rfl
      have r1 := S2.cell 1 rfl 1 (w.heap.size + 1) rfl
      have f0 := S2.free 1 rfl 0 (w.heap.size + 1) rfl
      have f1 := S2.free 1 rfl 1 (w.heap.size + 1) rfl
      have B2 := Lib.hid S2.old
      clear S1 S2 hb2 c00 c01
      go_wp2_with fail
      (try simp only [Exit.inBlock, Exit.then])
      refine bodyPost_ret (v := spanE x y c) ?_ rfl ⟨hO.out, ?_⟩
      · rw [results_cell_tmp rfl]; unfold spanE; go_simp
      · exact (B2.out.setCell (by show _ ≤ (w.heap.size + 1); omega) _).setCell (by show _ ≤ (w.heap.size + 1); omega) _
    · by_cases c2 : V b ≤ 0
      · have DR := fun w => down_run q t R'.fp R'.fe w
        have UR := fun w => up_run p r R.fp R.fe w
        obtain ⟨lo, hlo⟩ : ∃ x, x = dnW (V t < 0) q := ⟨_, rfl⟩
        obtain ⟨hi, hhi⟩ : ∃ x, x = upW (0 < V r) p := ⟨_, rfl⟩
        rw [← hlo] at D2 DR
        rw [← hhi] at U1 UR
        have TR := Lib.hid (fun w => told_run lo hi D2.fin U1.fin w)
        obtain ⟨x, y, c, hT⟩ := toldE_span lo hi
        rw [hT] at TR
        have hO : Hid (OpAll (errS a b) (sqLo a b) (sqHi a b) (.returned (spanE x y c))) := by
          rw [h0]; unfold sqLo sqHi; rw [if_neg c1, if_neg c1, if_pos c2, if_pos c2]
          exact ⟨fun _ => ⟨lo, hi, by rw [hT], D2.all, U1.all⟩, fun h => absurd rfl h⟩
        rw [decide_eq_false c1] at t3
        rw [decide_eq_true c2] at t4
        unfold spanE at TR
        clear h0 c1 c2 f1 f2 le R R' K hK hs K' hK' hs' D1 U1 D2 U2 hlo hhi hT ha hb
        go_enter Try.func22, Try.ntmps22
        go_wp2_with fail
        have S := S0.out
        clear S0
        generalize (w.alloc _).alloc _ = wr at *
        refine (CB.out wr).mono ?_
        rintro _ w1 ⟨rfl, hb1⟩
        have S1 := S.on hb1
        have c00 := S1.cell 0 rfl 0 w.heap.size rfl
        have c01 := S1.cell 0 rfl 1 w.heap.size rfl
        replace S1 := Lib.hid S1
        clear S hb1
        go_wp2_with (first | (go_at_call 55; ((with_reducible refine (C1 _).mono ?_); rintro en w' ⟨rfl, rfl⟩)) | (go_at_call 55; ((with_reducible refine (C2 _).mono ?_); rintro en w' ⟨rfl, rfl⟩)) | (go_at_call 50; ((with_reducible refine (DR _).mono ?_); rintro en w' ⟨rfl, rfl⟩)) | (go_at_call 51; ((with_reducible refine (UR _).mono ?_); rintro en w' ⟨rfl, rfl⟩)))
        refine (TR.out w1).mono ?_
        rintro _ w2 ⟨rfl, hb2⟩
        have S2 := S1.out.on hb2
        have r0 := S2.cell 1 rfl 0 (w.heap.size + 1) rfl
        have r1 := S2.cell 1 rfl 1 (w.heap.size + 1) rfl
        have f0 := S2.free 1 rfl 0 (w.heap.size + 1) rfl
        have f1 := S2.free 1 rfl 1 (w.heap.size + 1) rfl
        have B2 := Lib.hid S2.old
        clear S1 S2 hb2 c00 c01
        go_wp2_with fail
        (try simp only [Exit.inBlock, Exit.then])
        refine bodyPost_ret (v := spanE x y c) ?_ rfl ⟨hO.out, ?_⟩
        · rw [results_cell_tmp rfl]; unfold spanE; go_simp
        · exact (B2.out.setCell (by show _ ≤ (w.heap.size + 1); omega) _).setCell (by show _ ≤ (w.heap.size + 1); omega) _
      · have UR := fun w => up_run p r R.fp R.fe w
        have UR2 := fun w => up_run q t R'.fp R'.fe w
        obtain ⟨u, hu⟩ : ∃ x, x = upW (0 < V r) p := ⟨_, rfl⟩
        obtain ⟨s, hs2⟩ : ∃ x, x = upW (0 < V t) q := ⟨_, rfl⟩
        rw [← hu] at U1 UR
        rw [← hs2] at U2 UR2
        have t5 := gt_words U2.fin U1.fin
        have hA := U1.all.more U2 (fun d hd => by rw [List.mem_singleton.1 hd]; exact falls_sub _) (falls_sub _)
        have TR := Lib.hid (fun w => told_run 0 (maxW s u) zero_fin hA.fin w)
        obtain ⟨x, y, c, hT⟩ := toldE_span 0 (maxW s u)
        rw [hT] at TR
        have hO : Hid (OpAll (errS a b) (sqLo a b) (sqHi a b) (.returned (spanE x y c))) := by
          rw [h0]; unfold sqLo sqHi; rw [if_neg c1, if_neg c1, if_neg c2, if_neg c2]
          exact ⟨fun _ => ⟨0, maxW s u, by rw [hT], (exact_dn zero_fin V_zero).all, hA⟩, fun h => absurd rfl h⟩
        rw [decide_eq_false c1] at t3
        rw [decide_eq_false c2] at t4
        unfold spanE at TR
        unfold maxW at TR
        by_cases c3 : V u < V s
        · rw [decide_eq_true c3] at t5
          rw [if_pos c3] at TR
          clear h0 c1 c2 c3 f1 f2 le R R' K hK hs K' hK' hs' D1 U1 D2 U2 hu hs2 hT ha hb hA
          go_enter Try.func22, Try.ntmps22
          go_wp2_with fail
          have S := S0.out
          clear S0
          generalize (w.alloc _).alloc _ = wr at *
          refine (CB.out wr).mono ?_
          rintro _ w1 ⟨rfl, hb1⟩
          have S1 := S.on hb1
          have c00 := S1.cell 0 rfl 0 w.heap.size rfl
          have c01 := S1.cell 0 rfl 1 w.heap.size rfl
          replace S1 := Lib.hid S1
          clear S hb1
          go_wp2_with (first | (go_at_call 55; ((with_reducible refine (C1 _).mono ?_); rintro en w' ⟨rfl, rfl⟩)) | (go_at_call 55; ((with_reducible refine (C2 _).mono ?_); rintro en w' ⟨rfl, rfl⟩)) | (go_at_call 51; ((with_reducible refine (UR _).mono ?_); rintro en w' ⟨rfl, rfl⟩)) | (go_at_call 51; ((with_reducible refine (UR2 _).mono ?_); rintro en w' ⟨rfl, rfl⟩)))
          refine (TR.out w1).mono ?_
          rintro _ w2 ⟨rfl, hb2⟩
          have S2 := S1.out.on hb2
          have r0 := S2.cell 1 rfl 0 (w.heap.size + 1) rfl
          have r1 := S2.cell 1 rfl 1 (w.heap.size + 1) rfl
          have f0 := S2.free 1 rfl 0 (w.heap.size + 1) rfl
          have f1 := S2.free 1 rfl 1 (w.heap.size + 1) rfl
          have B2 := Lib.hid S2.old
          clear S1 S2 hb2 c00 c01
          go_wp2_with fail
          (try simp only [Exit.inBlock, Exit.then])
          refine bodyPost_ret (v := spanE x y c) ?_ rfl ⟨hO.out, ?_⟩
          · rw [results_cell_tmp rfl]; unfold spanE; go_simp
          · exact (B2.out.setCell (by show _ ≤ (w.heap.size + 1); omega) _).setCell (by show _ ≤ (w.heap.size + 1); omega) _
        · rw [decide_eq_false c3] at t5
          rw [if_neg c3] at TR
          clear h0 c1 c2 c3 f1 f2 le R R' K hK hs K' hK' hs' D1 U1 D2 U2 hu hs2 hT ha hb hA
          go_enter Try.func22, Try.ntmps22
          go_wp2_with fail
          have S := S0.out
          clear S0
          generalize (w.alloc _).alloc _ = wr at *
          refine (CB.out wr).mono ?_
          rintro _ w1 ⟨rfl, hb1⟩
          have S1 := S.on hb1
          have c00 := S1.cell 0 rfl 0 w.heap.size rfl
          have c01 := S1.cell 0 rfl 1 w.heap.size rfl
          replace S1 := Lib.hid S1
          clear S hb1
          go_wp2_with (first | (go_at_call 55; ((with_reducible refine (C1 _).mono ?_); rintro en w' ⟨rfl, rfl⟩)) | (go_at_call 55; ((with_reducible refine (C2 _).mono ?_); rintro en w' ⟨rfl, rfl⟩)) | (go_at_call 51; ((with_reducible refine (UR _).mono ?_); rintro en w' ⟨rfl, rfl⟩)) | (go_at_call 51; ((with_reducible refine (UR2 _).mono ?_); rintro en w' ⟨rfl, rfl⟩)))
          refine (TR.out w1).mono ?_
          rintro _ w2 ⟨rfl, hb2⟩
          have S2 := S1.out.on hb2
          have r0 := S2.cell 1 rfl 0 (w.heap.size + 1) rfl
          have r1 := S2.cell 1 rfl 1 (w.heap.size + 1) rfl
          have f0 := S2.free 1 rfl 0 (w.heap.size + 1) rfl
          have f1 := S2.free 1 rfl 1 (w.heap.size + 1) rfl
          have B2 := Lib.hid S2.old
          clear S1 S2 hb2 c00 c01
          go_wp2_with fail
          (try simp only [Exit.inBlock, Exit.then])
          refine bodyPost_ret (v := spanE x y c) ?_ rfl ⟨hO.out, ?_⟩
          · rw [results_cell_tmp rfl]; unfold spanE; go_simp
          · exact (B2.out.setCell (by show _ ≤ (w.heap.size + 1); omega) _).setCell (by show _ ≤ (w.heap.size + 1); omega) _
  · have hO : Hid (OpAll (errS a b) (sqLo a b) (sqHi a b) (.returned (spanE 0 0 (errS a b)))) := ⟨fun h => absurd h h0, fun _ => rfl⟩
    have t : (errS a b != 0) = true := by simpa using h0
    clear h0 ha hb
    generalize sqLo a b = sl at *
    generalize sqHi a b = sh at *
    generalize errS a b = er at *
    go_enter Try.func22, Try.ntmps22
    go_wp2_with fail
    have S := S0.out
    clear S0
    generalize (w.alloc _).alloc _ = wr at *
    refine (CB.out wr).mono ?_
    rintro _ w1 ⟨rfl, hb1⟩
    have S1 := S.on hb1
    have r0 := S1.cell 1 rfl 0 (w.heap.size + 1) rfl
    have r1 := S1.cell 1 rfl 1 (w.heap.size + 1) rfl
    have f0 := S1.free 1 rfl 0 (w.heap.size + 1) rfl
    have f1 := S1.free 1 rfl 1 (w.heap.size + 1) rfl
    have B2 := Lib.hid S1.old
    clear S S1 hb1
    go_wp2_with fail
    (try simp only [Exit.inBlock, Exit.then])
    refine bodyPost_ret (v := spanE 0 0 er) ?_ rfl ⟨hO.out, ?_⟩
    · rw [results_cell_tmp rfl]; unfold spanE; go_simp
    · exact (B2.out.setCell (by show _ ≤ (w.heap.size + 1); omega) _).setCell (by show _ ≤ (w.heap.size + 1); omega) _
end Go.Proofs.Ytkfagpahbojigaa
