/- Proved here: what the reference's sums of spans answer, over the translated code. -/
import Derived.Test.YtkfagpahbojigaaSpa
namespace Go.Proofs.Ytkfagpahbojigaa
open Go.ChangeShapes Go.WideShapes Go.ChangeAt Go.RowKit Ieee.Own

theorem errS_zero {a b : Nat} (h : errS a b = 0) : fitB a = true ∧ fitB b = true ∧ V a ≤ V b := by
  unfold errS at h
  by_cases c : fitB a = true ∧ fitB b = true
  · rw [if_pos c] at h
    by_cases d : V b < V a
    · rw [if_pos d] at h; omega
    · exact ⟨c.1, c.2, by omega⟩
  · rw [if_neg c] at h; omega
theorem errSS_zero {a1 a2 b1 b2 : Nat} (h : errSS a1 a2 b1 b2 = 0) : errS a1 a2 = 0 ∧ errS b1 b2 = 0 := by
  unfold errSS at h
  by_cases c : errS a1 a2 = 0
  · rw [if_neg (by simpa using c)] at h; exact ⟨c, h⟩
  · rw [if_pos c] at h; exact absurd h c
theorem toldE_span (lo hi : Nat) : ∃ x y c, toldE lo hi = spanE x y c := by
  unfold toldE; split
  · exact ⟨_, _, _, rfl⟩
  · exact ⟨_, _, _, rfl⟩

/-- what an operation on spans is to answer: an error, or the ends next to the exact ones, outwards -/
def OpIs (er : Int) (c d : Int → Int) (e : Ending) : Prop := (er = 0 → ∃ lo hi, e = .returned (toldE lo hi) ∧ Dn c lo ∧ Up d hi) ∧ (er ≠ 0 → e = .returned (spanE 0 0 er))
theorem bd_of {s K : Nat} (h : (V s).natAbs ≤ 2 ^ K) (hK : K ≤ 1490) : (V s).natAbs ≤ 2 ^ 1500 := Nat.le_trans h (two_le (a := K) (b := 1500) (by omega))
theorem sum_dn {a b s e : Nat} (R : SumRes a b s e) (hb : (V s).natAbs ≤ 2 ^ 1500) : Dn (fun v => V a + V b - v) (dnW (V e < 0) s) :=
  (adj_rn R.fs R.vs hb).dn (by have := R.ve; show V e < 0 ↔ V a + V b - V s < 0; omega)
theorem sum_up {a b s e : Nat} (R : SumRes a b s e) (hb : (V s).natAbs ≤ 2 ^ 1500) : Up (fun v => V a + V b - v) (upW (0 < V e) s) :=
  (adj_rn R.fs R.vs hb).upp (by have := R.ve; show 0 < V e ↔ 0 < V a + V b - V s; omega)

def zeroO : Obj := .cells #[.float .f64 0, .float .f64 0] 24 (0, 0)
set_option maxHeartbeats 1000000 in
theorem radd_run (a1 a2 b1 b2 : Nat) (ha : a1 < 18446744073709551616) (ha' : a2 < 18446744073709551616) (hb : b1 < 18446744073709551616) (hb' : b2 < 18446744073709551616) (w : World) :
    Calls Try.prog 13 #[spanV a1 a2, spanV b1 b2] w fun e w' => OpIs (errSS a1 a2 b1 b2) (fun v => V a1 + V b1 - v) (fun v => V a2 + V b2 - v) e ∧ Below w.heap.size w w' := by
  have CB := Lib.hid (fun w => rboth_run a1 a2 b1 b2 ha ha' hb hb' w)
  have S0 : Blocks w (([boxO a1 a2] ++ [boxO b1 b2]) ++ [zeroO]) (((w.alloc (boxO a1 a2)).alloc (boxO b1 b2)).alloc zeroO) := (((Blocks.nil w).alloc (by simp) _).alloc (by simp) _).alloc (by simp) _
  unfold boxO zeroO at S0
  unfold spanV at *
  replace S0 := Lib.hid S0
  have hst := @fstore
  by_cases h0 : errSS a1 a2 b1 b2 = 0
  · obtain ⟨e1, e2⟩ := errSS_zero h0
    obtain ⟨f1, f2, -⟩ := errS_zero e1
    obtain ⟨f3, f4, -⟩ := errS_zero e2
    obtain ⟨s, r, R, ⟨-, -, K, hK, hs, -⟩, C1⟩ := rsum_fit a1 b1 ha hb f1 f3
    obtain ⟨t, q, R', ⟨-, -, K', hK', hs', -⟩, C2⟩ := rsum_fit a2 b2 ha' hb' f2 f4
    have hD := sum_dn R (bd_of hs hK)
    have hU := sum_up R' (bd_of hs' hK')
    have DR := fun w => down_run s r R.fs R.fe w
    have UR := fun w => up_run t q R'.fs R'.fe w
    obtain ⟨lo, hlo⟩ : ∃ x, x = dnW (V r < 0) s := ⟨_, rfl⟩
    obtain ⟨hi, hhi⟩ : ∃ x, x = upW (0 < V q) t := ⟨_, rfl⟩
    rw [← hlo] at hD DR
    rw [← hhi] at hU UR
    have TR := Lib.hid (fun w => told_run lo hi hD.fin hU.fin w)
    obtain ⟨x, y, c, hT⟩ := toldE_span lo hi
    rw [hT] at TR
    have hO : Hid (OpIs 0 (fun v => V a1 + V b1 - v) (fun v => V a2 + V b2 - v) (.returned (spanE x y c))) := ⟨fun _ => ⟨lo, hi, by rw [hT], hD, hU⟩, fun h => absurd rfl h⟩
    rw [h0] at CB ⊢
    unfold ffi at C1 C2
    unfold spanE at TR
    clear h0 e1 e2 f1 f2 f3 f4 R R' K hK hs K' hK' hs' hD hU hlo hhi hT ha ha' hb hb'
    go_enter Try.func13, Try.ntmps13
    go_wp2_with fail
    have S := S0.out
    clear S0
    generalize ((w.alloc _).alloc _).alloc _ = wr at *
    refine (CB.out wr).mono ?_
    rintro _ w1 ⟨rfl, hb1⟩
    have S1 := S.on hb1
    have c00 := S1.cell 0 rfl 0 w.heap.size rfl
    have c01 := S1.cell 0 rfl 1 w.heap.size rfl
    have c10 := S1.cell 1 rfl 0 (w.heap.size + 1) rfl
    have c11 := S1.cell 1 rfl 1 (w.heap.size + 1) rfl
    replace S1 := Lib.hid S1
    clear S hb1
    go_wp2_with (first
      | (go_at_call 48; ((with_reducible refine (C1 _).mono ?_); rintro en w' ⟨rfl, rfl⟩))
      | (go_at_call 48; ((with_reducible refine (C2 _).mono ?_); rintro en w' ⟨rfl, rfl⟩))
      | (go_at_call 50; ((with_reducible refine (DR _).mono ?_); rintro en w' ⟨rfl, rfl⟩))
      | (go_at_call 51; ((with_reducible refine (UR _).mono ?_); rintro en w' ⟨rfl, rfl⟩)))
    refine (TR.out w1).mono ?_
    rintro _ w2 ⟨rfl, hb2⟩
    have S2 := S1.out.on hb2
    have r0 := S2.cell 2 rfl 0 (w.heap.size + 1 + 1) rfl
    have r1 := S2.cell 2 rfl 1 (w.heap.size + 1 + 1) rfl
    have f0 := S2.free 2 rfl 0 (w.heap.size + 1 + 1) rfl
    have f1 := S2.free 2 rfl 1 (w.heap.size + 1 + 1) rfl
    have B2 := Lib.hid S2.old
    clear S1 S2 hb2 c00 c01 c10 c11
    go_wp2_with fail
    (try simp only [Exit.inBlock, Exit.then])
    refine bodyPost_ret (v := spanE x y c) ?_ rfl ⟨hO.out, ?_⟩
    · rw [results_cell_tmp rfl]; unfold spanE; go_simp
    · exact (B2.out.setCell (by show _ ≤ w.heap.size + 1 + 1; omega) _).setCell (by show _ ≤ w.heap.size + 1 + 1; omega) _
  · have hO : Hid (OpIs (errSS a1 a2 b1 b2) (fun v => V a1 + V b1 - v) (fun v => V a2 + V b2 - v) (.returned (spanE 0 0 (errSS a1 a2 b1 b2)))) := ⟨fun h => absurd h h0, fun _ => rfl⟩
    have t : (errSS a1 a2 b1 b2 != 0) = true := by simpa using h0
    clear h0 ha ha' hb hb'
    generalize errSS a1 a2 b1 b2 = er at *
    go_enter Try.func13, Try.ntmps13
    go_wp2_with fail
    have S := S0.out
    clear S0
    generalize ((w.alloc _).alloc _).alloc _ = wr at *
    refine (CB.out wr).mono ?_
    rintro _ w1 ⟨rfl, hb1⟩
    have S1 := S.on hb1
    have r0 := S1.cell 2 rfl 0 (w.heap.size + 1 + 1) rfl
    have r1 := S1.cell 2 rfl 1 (w.heap.size + 1 + 1) rfl
    have f0 := S1.free 2 rfl 0 (w.heap.size + 1 + 1) rfl
    have f1 := S1.free 2 rfl 1 (w.heap.size + 1 + 1) rfl
    have B2 := Lib.hid S1.old
    clear S S1 hb1
    go_wp2_with fail
    (try simp only [Exit.inBlock, Exit.then])
    refine bodyPost_ret (v := spanE 0 0 er) ?_ rfl ⟨hO.out, ?_⟩
    · rw [results_cell_tmp rfl]; unfold spanE; go_simp
    · exact (B2.out.setCell (by show _ ≤ w.heap.size + 1 + 1; omega) _).setCell (by show _ ≤ w.heap.size + 1 + 1; omega) _
end Go.Proofs.Ytkfagpahbojigaa
