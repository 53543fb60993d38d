/- Proved here: what span's own Square answers, over the translated code. -/
import Derived.Test.YtkfagpahbojigaaSpn
import Derived.Test.YtkfagpahbojigaaMm
namespace Go.Proofs.Ytkfagpahbojigaa
open Go.ChangeShapes Go.WideShapes Go.ChangeAt Go.RowKit Ieee.Own

theorem fit_zero : fitB 0 = true := by decide
theorem prodN_congr {a b c d : Nat} (h : V a * V b = V c * V d) : prodC a b = prodC c d := by unfold prodC prodN; rw [h]
theorem prodN_le {a b c d : Nat} (h : V a * V b ≤ V c * V d) : prodN a b ≤ prodN c d := by
  unfold prodN
  exact Int.ediv_le_ediv (Int.pow_pos (by omega)) h
theorem sq_le {x y : Int} (h0 : 0 ≤ x) (h : x ≤ y) : x * x ≤ y * y := Int.mul_le_mul h h h0 (by omega)
structure SqW (a b n f : Nat) : Prop where
  fn : fitB n = true
  ln : n < 18446744073709551616
  ff : fitB f = true
  lf : f < 18446744073709551616
  dn : ∀ lo, Dn (prodC n n) lo → DnAll (sqLo a b) lo
  up : ∀ hi, Up (prodC f f) hi → UpAll (sqHi a b) hi
  le : ∀ lo hi, Dn (prodC n n) lo → Up (prodC f f) hi → V lo ≤ V hi
theorem sqW_of {a b : Nat} (ha : a < 18446744073709551616) (hb : b < 18446744073709551616) (f1 : fitB a = true) (f2 : fitB b = true) (le : V a ≤ V b) : SqW a b (mxW (mxW a (negW b)) 0) (mxW b (negW a)) := by
  have ga := fit_fin ha f1
  have gb := fit_fin hb f2
  obtain ⟨m1, m2, m3⟩ := mxW_spec ga (negW_fin gb)
  obtain ⟨n1, n2, n3⟩ := mxW_spec (mxW_fin ga (negW_fin gb)) zero_fin
  obtain ⟨p1, p2, p3⟩ := mxW_spec gb (negW_fin ga)
  have va := negW_V ga
  have vb := negW_V gb
  have z := V_zero
  have hn : mxW (mxW a (negW b)) 0 = a ∨ mxW (mxW a (negW b)) 0 = negW b ∨ mxW (mxW a (negW b)) 0 = 0 := by
    rcases n1 with h | h
    · rcases m1 with k | k <;> rw [h, k] <;> simp
    · exact Or.inr (Or.inr h)
  generalize mxW (mxW a (negW b)) 0 = n at *
  generalize mxW a (negW b) = m at *
  generalize mxW b (negW a) = f at *
  have hN : V n = V a ∨ V n = -V b ∨ V n = 0 := by
    rcases hn with h | h | h <;> rw [h] <;> omega
  have hF : V f = V b ∨ V f = -V a := by rcases p1 with h | h <;> rw [h] <;> omega
  have hle : prodN n n ≤ prodN f f := prodN_le (sq_le (by omega) (by omega))
  refine ⟨?_, ?_, ?_, ?_, fun lo h => ?_, fun hi h => ?_, fun lo hi h k => ?_⟩
  · rcases hn with h | h | h <;> rw [h]
    · exact f1
    · rw [fit_neg hb]; exact f2
    · exact fit_zero
  · rcases hn with h | h | h <;> rw [h]
    · exact ha
    · exact negW_lt64 hb
    · decide
  · rcases p1 with h | h <;> rw [h]
    · exact f2
    · rw [fit_neg ha]; exact f1
  · rcases p1 with h | h <;> rw [h]
    · exact hb
    · exact negW_lt64 ha
  · unfold sqLo
    by_cases c1 : 0 ≤ V a
    · rw [if_pos c1]
      rw [prodN_congr (c := a) (d := a) (by rw [show V n = V a by omega])] at h
      exact h.all
    · rw [if_neg c1]
      by_cases c2 : V b ≤ 0
      · rw [if_pos c2]
        rw [prodN_congr (c := b) (d := b) (by rw [show V n = -V b by omega, Int.neg_mul_neg])] at h
        exact h.all
      · rw [if_neg c2]
        have e : prodC n n = fun v => 0 - v := by unfold prodC prodN; rw [show V n = 0 by omega, Int.zero_mul, Int.zero_ediv]
        rw [e] at h
        exact h.all
  · unfold sqHi
    by_cases c1 : 0 ≤ V a
    · rw [if_pos c1]
      rw [prodN_congr (c := b) (d := b) (by rw [show V f = V b by omega])] at h
      exact h.all
    · rw [if_neg c1]
      by_cases c2 : V b ≤ 0
      · rw [if_pos c2]
        rw [prodN_congr (c := a) (d := a) (by rw [show V f = -V a by omega, Int.neg_mul_neg])] at h
        exact h.all
      · rw [if_neg c2]
        have la : prodN a a ≤ prodN f f := prodN_le (by have := sq_le (x := -V a) (y := V f) (by omega) (by omega); rwa [Int.neg_mul_neg] at this)
        have lb : prodN b b ≤ prodN f f := prodN_le (sq_le (by omega) (by omega))
        refine ⟨h.fin, fun d hd => ?_, fun u hu hall => ?_⟩
        · have hg : prodN f f - V hi ≤ 0 := h.ge
          rcases List.mem_cons.1 hd with rfl | hd
          · show prodN a a - V hi ≤ 0; omega
          · rw [List.mem_singleton.1 hd]; show prodN b b - V hi ≤ 0; omega
        · refine h.low u hu ?_
          rcases hF with e | e
          · rw [prodN_congr (c := b) (d := b) (by rw [e])]; exact hall _ (by simp)
          · rw [prodN_congr (c := a) (d := a) (by rw [e, Int.neg_mul_neg])]; exact hall _ (by simp)
  · have a1 : 0 ≤ prodN n n - V lo := h.le
    have a2 : prodN f f - V hi ≤ 0 := k.ge
    omega
set_option maxHeartbeats 1000000 in
theorem ssquare_run (a b : Nat) (ha : a < 18446744073709551616) (hb : b < 18446744073709551616) (w : World) :
    Calls Try.prog 21 #[spanV a b] w fun e w' => OpAll (errS a b) (sqLo a b) (sqHi a b) e ∧ Below w.heap.size w w' := by
  have CB := Lib.hid (fun w => scheck_run a b ha hb w)
  have S0 : Blocks w ([boxO a b] ++ [zeroO]) ((w.alloc (boxO a b)).alloc zeroO) := ((Blocks.nil w).alloc (by simp) _).alloc (by simp) _
  unfold boxO zeroO at S0
  unfold spanV at *
  replace S0 := Lib.hid S0
  have hst := @fstore
  have fl0 := field_lo
  have fl1 := field_hi
  by_cases h0 : errS a b = 0
  · obtain ⟨f1, f2, le⟩ := errS_zero h0
    have SQ := sqW_of ha hb f1 f2 le
    have N1 := fun w => xneg' b hb w
    have N2 := fun w => xneg' a ha w
    have M1 := fun ts t w => run_maxf3 (P := Try.prog) (fit_fin ha f1) (negW_fin (fit_fin hb f2)) zero_fin ts t w
    have M2 := fun ts t w => run_maxf2 (P := Try.prog) (fit_fin hb f2) (negW_fin (fit_fin ha f1)) ts t w
    generalize mxW (mxW a (negW b)) 0 = n at *
    generalize mxW b (negW a) = f at *
    generalize negW b = nb at *
    generalize negW a = na at *
    obtain ⟨lo, hi', hD, hU', A1⟩ := sprod_run SQ.ln SQ.ln SQ.fn SQ.fn
    obtain ⟨lo', hi, hD', hU, A2⟩ := sprod_run SQ.lf SQ.lf SQ.ff SQ.ff
    have TR := Lib.hid (fun w => out_run lo hi hD.fin hU.fin (SQ.le lo hi hD hU) w)
    replace A1 := Lib.hid A1
    replace A2 := Lib.hid A2
    obtain ⟨x, y, c, hT⟩ := toldE_span lo hi
    rw [hT] at TR
    have hO : Hid (OpAll (errS a b) (sqLo a b) (sqHi a b) (.returned (spanE x y c))) := ⟨fun _ => ⟨lo, hi, by rw [hT], SQ.dn lo hD, SQ.up hi hU⟩, fun h => absurd h0 h⟩
    rw [h0] at CB
    unfold spanE at TR
    unfold spanV at A1 A2
    clear h0 f1 f2 le SQ hD hU hD' hU' hT ha hb
    go_enter Try.func21, Try.ntmps21
    go_wp2_with fail
    have S := S0.out
    clear S0
    generalize (w.alloc _).alloc _ = wr at *
    refine (CB.out wr).mono ?_
    rintro _ w1 ⟨rfl, hb1⟩
    have S1 := S.on hb1
    have c00 : w1.cell? ⟨w.heap.size, 0, none⟩ = some (.float .f64 a) := S1.cell 0 rfl 0 w.heap.size rfl
    have c01 : w1.cell? ⟨w.heap.size, 1, none⟩ = some (.float .f64 b) := S1.cell 0 rfl 1 w.heap.size rfl
    replace S1 := Lib.hid S1
    clear S hb1
    go_wp2_with fail
    refine (A1.out w1).mono ?_
    rintro _ w2 ⟨rfl, hb2⟩
    have S2 := Lib.hid (S1.out.on hb2)
    clear S1 hb2 c00 c01
    go_wp2_with fail
    refine (A2.out w2).mono ?_
    rintro _ w3 ⟨rfl, hb3⟩
    have S3 := Lib.hid (S2.out.on hb3)
    clear S2 hb3
    go_wp2_with fail
    refine (TR.out w3).mono ?_
    rintro _ w4 ⟨rfl, hb4⟩
    have S4 := S3.out.on hb4
    have r0 := S4.cell 1 rfl 0 (w.heap.size + 1) rfl
    have r1 := S4.cell 1 rfl 1 (w.heap.size + 1) rfl
    have f0 := S4.free 1 rfl 0 (w.heap.size + 1) rfl
    have f1 := S4.free 1 rfl 1 (w.heap.size + 1) rfl
    have B2 := Lib.hid S4.old
    clear S3 S4 hb4
    go_wp2_with fail
    (try simp only [Exit.inBlock, Exit.then])
    refine bodyPost_ret (v := spanE x y c) ?_ rfl ⟨hO.out, ?_⟩
    · rw [results_cell_tmp rfl]; unfold spanE; go_simp
    · exact (B2.out.setCell (by show _ ≤ (w.heap.size + 1); omega) _).setCell (by show _ ≤ (w.heap.size + 1); omega) _
  · have hO : Hid (OpAll (errS a b) (sqLo a b) (sqHi a b) (.returned (spanE 0 0 (errS a b)))) := ⟨fun h => absurd h h0, fun _ => rfl⟩
    have t : (errS a b != 0) = true := by simpa using h0
    clear h0 ha hb
    generalize errS a b = er at *
    go_enter Try.func21, Try.ntmps21
    go_wp2_with fail
    have S := S0.out
    clear S0
    generalize (w.alloc _).alloc _ = wr at *
    refine (CB.out wr).mono ?_
    rintro _ w1 ⟨rfl, hb1⟩
    have S1 := S.on hb1
    have r0 := S1.cell 1 rfl 0 (w.heap.size + 1) rfl
    have r1 := S1.cell 1 rfl 1 (w.heap.size + 1) rfl
    have f0 := S1.free 1 rfl 0 (w.heap.size + 1) rfl
    have f1 := S1.free 1 rfl 1 (w.heap.size + 1) rfl
    have B2 := Lib.hid S1.old
    clear S S1 hb1
    go_wp2_with fail
    (try simp only [Exit.inBlock, Exit.then])
    refine bodyPost_ret (v := spanE 0 0 er) ?_ rfl ⟨hO.out, ?_⟩
    · rw [results_cell_tmp rfl]; unfold spanE; go_simp
    · exact (B2.out.setCell (by show _ ≤ (w.heap.size + 1); omega) _).setCell (by show _ ≤ (w.heap.size + 1); omega) _
end Go.Proofs.Ytkfagpahbojigaa
