/- Proved here: what the texts Sset, Thn, Sts prove, one behind the other. -/
import Derived.Test.YtdfcchocabapkaaGreatJb4
import Derived.Test.YtdfcchocabapkaaGreatJb3
import Derived.BigQuiet

set_option maxRecDepth 100000
namespace Go.Proofs.YtdfcchocabapkaaGreat
open Go.ChangeShapes Go.WideShapes Go.ChangeAt Go.RowKit Ieee.Own

theorem V_half : V 4602678819172646912 = 2 ^ 1073 := by decide +kernel
theorem V_two : V 4611686018427387904 = 2 ^ 1075 := by decide +kernel
theorem fin_half : FinW 4602678819172646912 := ⟨by omega, by omega⟩
theorem two_split (k : Nat) : (2 : Int) ^ (k + 1) = 2 * 2 ^ k := by rw [Int.pow_succ]; exact Int.mul_comm _ _
theorem mul_two_eq (N M : Int) : 2 * N * M = N * (2 * M) := by rw [Int.mul_comm 2 N, Int.mul_assoc]
theorem c_eq (A v M : Int) : (A * M - v * (2 * M)) * 1 = (A - 2 * v) * M := by rw [Int.mul_one, Int.sub_mul, Int.mul_comm 2 v, Int.mul_assoc]
theorem even_fit {a : Nat} (h : a < 18446744073709551616) (f : fitB a = true) : ∃ N : Int, V a = 2 * N := by
 obtain ⟨c, hc⟩ := fit_dvd h f
 exact ⟨2 ^ 499 * c, by rw [hc, two_split 499, Int.mul_assoc]⟩
theorem Rep_half {z N : Int} (h : Rep z) (d : (2 : Int) ^ 500 ∣ z) (e : z = 2 * N) : Rep N := by
 obtain ⟨f, h1, h2⟩ := Rep_place h
 cases f with
 | zero =>
   have hz : z = 0 := Classical.byContradiction fun hz => absurd (pow_abs_dvd d hz) (Nat.not_le.2 (Nat.lt_of_le_of_lt h2 (two_lt (a := 53 + 0) (b := 500) (by omega))))
   have : N = 0 := by omega
   rw [this]; exact Rep_zero
 | succ f =>
   refine Rep_of_dvd (f := f) ?_ ?_
   · obtain ⟨c, hc⟩ := h1
     refine ⟨c, ?_⟩
     rw [two_split, Int.mul_assoc] at hc
     omega
   · have e2 : (2 : Nat) ^ (53 + (f + 1)) = 2 * 2 ^ (53 + f) := by rw [← Nat.add_assoc, Nat.pow_succ, Nat.mul_comm]
     rw [e2] at h2
     omega
theorem half_of {a : Nat} (h : a < 18446744073709551616) (f : fitB a = true) : ∃ q, Ieee.double.div a 4611686018427387904 = some q ∧ FinW q ∧ 2 * V q = V a := by
 obtain ⟨N, hN⟩ := even_fit h f
 have hR := Rep_half (Rep_V a) (fit_dvd h f) hN
 have f2 : fitB 4611686018427387904 = true := by decide
 have n2 : V 4611686018427387904 ≠ 0 := by rw [V_two]; exact Int.ne_of_gt (Int.pow_pos (by omega))
 obtain ⟨q, r, M, Z, g, o, R, -⟩ := quot_fit a 4611686018427387904 h (by decide) f f2 n2
 have A := quot_adj h (by decide) f f2 n2 o R.bd'
 have hm : V a * V 4602678819172646912 = N * 2 ^ 1074 := by rw [hN, V_half, two_split 1073]; exact mul_two_eq N _
 have bN : N.natAbs ≤ 2 ^ 1275 := by have := fit_abs (k := 1275) h f (Nat.le_refl _); omega
 obtain ⟨p, -, fp, vp⟩ := mul_spec (fit_fin h f) fin_half hm (Nat.lt_of_le_of_lt (RN_bound bN) (two_lt (a := 1275) (b := 2098) (by omega)))
 rw [RN_exact hR] at vp
 have c0 : ∀ v, quotC a 4611686018427387904 v = (V a - 2 * v) * 2 ^ 1074 := fun v => by
  unfold quotC
  have hp : (0 : Int) < 2 ^ 1075 := Int.pow_pos (by omega)
  rw [V_two, if_neg (Int.not_lt.2 (Int.le_of_lt hp)), two_split 1074]
  exact c_eq _ _ _
 have hz : quotC a 4611686018427387904 (V p) = 0 := by rw [c0, vp, hN, Int.sub_self, Int.zero_mul]
 refine ⟨q, o, A.fin, ?_⟩
 have : V q = V p := by
  refine Int.le_antisymm (Int.not_lt.1 fun hl => ?_) (Int.not_lt.1 fun hl => ?_)
  · have := A.lo p fp hl; omega
  · have := A.hi p fp hl; omega
 omega
structure MidW (a b q1 q2 s : Nat) : Prop where
 d1 : Ieee.double.div a 4611686018427387904 = some q1
 d2 : Ieee.double.div b 4611686018427387904 = some q2
 ad : Ieee.double.add q1 q2 = some s
 fs : FinW s
 lo : V a ≤ V s
 hi : V s ≤ V b
theorem mid_of {a b : Nat} (ha : a < 18446744073709551616) (hb : b < 18446744073709551616) (f1 : fitB a = true) (f2 : fitB b = true) (le : V a ≤ V b) : ∃ q1 q2 s, MidW a b q1 q2 s := by
 obtain ⟨q1, d1, g1, v1⟩ := half_of ha f1
 obtain ⟨q2, d2, g2, v2⟩ := half_of hb f2
 have bz : (V q1 + V q2).natAbs ≤ 2 ^ 1275 := by
  have := fit_abs (k := 1275) ha f1 (Nat.le_refl _)
  have := fit_abs (k := 1275) hb f2 (Nat.le_refl _)
  omega
 obtain ⟨s, ad, fs, vs⟩ := add_spec g1 g2 (Nat.lt_of_le_of_lt (RN_bound bz) (two_lt (a := 1275) (b := 2098) (by omega)))
 refine ⟨q1, q2, s, d1, d2, ad, fs, ?_, ?_⟩
 · rw [vs, ← RN_exact (Rep_V a)]; exact RN_mono (by omega)
 · rw [vs, ← RN_exact (Rep_V b)]; exact RN_mono (by omega)

theorem swidth_ok {a b : Nat} (ha : a < 18446744073709551616) (hb : b < 18446744073709551616) (h0 : errS a b = 0) : ∃ m, (FinW m ∧ Up (fun u => V b - V a - u) m) ∧ ∀ w, Calls Tryz.prog 63 #[spanV a b] w fun e w' => e = .returned (.tuple #[.float .f64 m, .int .i64 0]) ∧ Below w.heap.size w w' := by
 obtain ⟨f1, f2, le⟩ := errS_zero h0
 obtain ⟨lo, hi, -, hU, AX⟩ := ssum_run hb (negW_lt64 ha) f2 (by rw [fit_neg ha]; exact f1)
 rw [negW_V (fit_fin ha f1), ← Int.sub_eq_add_neg] at hU
 refine ⟨posW hi, ⟨posW_fin hU.fin, ⟨posW_fin hU.fin, by rw [posW_V]; exact hU.ge, by rw [posW_V]; exact hU.low⟩⟩, fun w => ?_⟩
 have N1 := fun w => xneg' a ha w
 have r4 := fun w => run_add hi 0 _ (pos_add hU.fin) 22 w
 have fl1 := field_hi
 replace AX := Lib.hid AX
 generalize negW a = na at *
 have CB := Lib.hid (fun w => scheck_run a b ha hb w)
 have S0 : Blocks w [boxO a b] (w.alloc (boxO a b)) := (Blocks.nil w).alloc (by simp) _
 unfold boxO at S0
 unfold spanV at *
 replace S0 := Lib.hid S0
 rw [h0] at CB
 clear h0 f1 f2 le ha hb hU
 go_enter Tryz.func63, Tryz.ntmps63
 go_wp2_with fail
 have S := S0.out
 clear S0
 generalize w.alloc _ = wr at *
 refine (CB.out wr).mono ?_
 rintro _ w1 ⟨rfl, hb1⟩
 have S1 := S.on hb1
 have c00 := S1.cell 0 rfl 0 w.heap.size rfl
 have c01 := S1.cell 0 rfl 1 w.heap.size rfl
 have B1 := Lib.hid S1.old
 clear S S1 hb1
 go_wp2_with fail
 refine (AX.out w1).mono ?_
 rintro _ w2 ⟨rfl, hb2⟩
 have B1 := Lib.hid (B1.out.trans (hb2.mono B1.out.size))
 clear hb2
 go_wp2_with fail
 go_ret2
 exact ⟨rfl, B1.out⟩
theorem pos_fit {x : Nat} (h : x < 18446744073709551616) (f : fitB x = true) : fitB (posW x) = true ∧ posW x < 18446744073709551616 := by
 have := posW_fin (fit_fin h f)
 exact ⟨(fit_iff this).2 (by rw [posW_V]; exact (fit_iff (fit_fin h f)).1 f), this.1⟩
theorem mn_fit {x y : Nat} (hx : x < 18446744073709551616) (hy : y < 18446744073709551616) (f : fitB x = true) (g : fitB y = true) : fitB (mnW x y) = true := by
 rcases (mnW_spec (fit_fin hx f) (fit_fin hy g)).1 with h | h <;> rw [h] <;> assumption
theorem mx_fit {x y : Nat} (hx : x < 18446744073709551616) (hy : y < 18446744073709551616) (f : fitB x = true) (g : fitB y = true) : fitB (mxW x y) = true := by
 rcases (mxW_spec (fit_fin hx f) (fit_fin hy g)).1 with h | h <;> rw [h] <;> assumption
theorem errS_fit {a b : Nat} (f1 : fitB a = true) (f2 : fitB b = true) : errS a b = if V b < V a then 5 else 0 := by unfold errS; rw [if_pos ⟨f1, f2⟩]
def meetB (a0 b0 a1 b1 : Nat) : Bool := decide (V (mxW a0 a1) ≤ V (mnW b0 b1))
def meetX (a0 b0 a1 b1 : Nat) : Nat := if meetB a0 b0 a1 b1 = true then posW (mxW a0 a1) else 0
def meetY (a0 b0 a1 b1 : Nat) : Nat := if meetB a0 b0 a1 b1 = true then posW (mnW b0 b1) else 0
section
variable {a0 b0 a1 b1 : Nat} (ha0 : a0 < 18446744073709551616) (hb0 : b0 < 18446744073709551616) (ha1 : a1 < 18446744073709551616) (hb1 : b1 < 18446744073709551616) (h0 : errSS a0 b0 a1 b1 = 0)
include ha0 hb0 ha1 hb1 h0
theorem hull_make : makeE (mnW a0 a1) (mxW b0 b1) = spanE (posW (mnW a0 a1)) (posW (mxW b0 b1)) 0 := by
 obtain ⟨e1, e2⟩ := errSS_zero h0
 obtain ⟨f1, f2, le1⟩ := errS_zero e1
 obtain ⟨f3, f4, le2⟩ := errS_zero e2
 have s1 := mnW_spec (fit_fin ha0 f1) (fit_fin ha1 f3)
 have s2 := mxW_spec (fit_fin hb0 f2) (fit_fin hb1 f4)
 have e : errS (mnW a0 a1) (mxW b0 b1) = 0 := by
  rw [errS_fit (mn_fit ha0 ha1 f1 f3) (mx_fit hb0 hb1 f2 f4), if_neg (by omega)]
 unfold makeE
 rw [if_pos e]
theorem meet_make : makeE (mxW a0 a1) (mnW b0 b1) = spanE (meetX a0 b0 a1 b1) (meetY a0 b0 a1 b1) (if meetB a0 b0 a1 b1 = true then 0 else 5) := by
 obtain ⟨e1, e2⟩ := errSS_zero h0
 obtain ⟨f1, f2, le1⟩ := errS_zero e1
 obtain ⟨f3, f4, le2⟩ := errS_zero e2
 have e := errS_fit (mx_fit ha0 ha1 f1 f3) (mn_fit hb0 hb1 f2 f4)
 unfold makeE meetX meetY
 rw [e]
 by_cases c : meetB a0 b0 a1 b1 = true
 · have c' : V (mxW a0 a1) ≤ V (mnW b0 b1) := of_decide_eq_true c
   rw [if_neg (show ¬ V (mnW b0 b1) < V (mxW a0 a1) by omega), if_pos rfl, if_pos c, if_pos c, if_pos c]
 · have c' : ¬ V (mxW a0 a1) ≤ V (mnW b0 b1) := fun h => c (decide_eq_true h)
   rw [if_pos (show V (mnW b0 b1) < V (mxW a0 a1) by omega), if_neg (by decide), if_neg c, if_neg c, if_neg c]
end

theorem shull_ok {a0 b0 a1 b1 : Nat} (ha0 : a0 < 18446744073709551616) (hb0 : b0 < 18446744073709551616) (ha1 : a1 < 18446744073709551616) (hb1 : b1 < 18446744073709551616) (h0 : errSS a0 b0 a1 b1 = 0) (w : World) : Calls Tryz.prog 121 #[spanV a0 b0, spanV a1 b1] w fun e w' => e = .returned (spanE (posW (mnW a0 a1)) (posW (mxW b0 b1)) 0) ∧ Below w.heap.size w w' := by
 obtain ⟨e1, e2⟩ := errSS_zero h0
 obtain ⟨f1, f2, le1⟩ := errS_zero e1
 obtain ⟨f3, f4, le2⟩ := errS_zero e2
 have g1 := fit_fin ha0 f1
 have g2 := fit_fin hb0 f2
 have g3 := fit_fin ha1 f3
 have g4 := fit_fin hb1 f4
 have M1 := fun ts t w => run_minf2 (P := Tryz.prog) g1 g3 ts t w
 have M2 := fun ts t w => run_maxf2 (P := Tryz.prog) g2 g4 ts t w
 have MK := Lib.hid (fun w => make_run (mnW a0 a1) (mxW b0 b1) (mnW_fin g1 g3).1 (mxW_fin g2 g4).1 w)
 rw [hull_make ha0 hb0 ha1 hb1 h0] at MK
 unfold spanE at MK
 clear g1 g2 g3 g4
 generalize posW (mnW a0 a1) = x at *
 generalize posW (mxW b0 b1) = y at *
 generalize mnW a0 a1 = p at *
 generalize mxW b0 b1 = q at *
 have CB := Lib.hid (fun w => sboth_run a0 b0 a1 b1 ha0 hb0 ha1 hb1 w)
 have S0 : Blocks w (([boxO a0 b0] ++ [boxO a1 b1]) ++ [zeroO]) (((w.alloc (boxO a0 b0)).alloc (boxO a1 b1)).alloc zeroO) := (((Blocks.nil w).alloc (by simp) _).alloc (by simp) _).alloc (by simp) _
 unfold boxO zeroO at S0
 unfold spanV at *
 replace S0 := Lib.hid S0
 have hst := @fstore
 rw [h0] at CB
 clear h0 e1 e2 f1 f2 f3 f4 le1 le2 ha0 hb0 ha1 hb1
 go_enter Tryz.func121, Tryz.ntmps121
 go_wp2_with fail
 have S := S0.out
 clear S0
 generalize ((w.alloc _).alloc _).alloc _ = wr at *
 refine (CB.out wr).mono ?_
 rintro _ w1 ⟨rfl, hb1⟩
 have S1 := S.on hb1
 have c00 := S1.cell 0 rfl 0 w.heap.size rfl
 have c01 := S1.cell 0 rfl 1 w.heap.size rfl
 have c10 := S1.cell 1 rfl 0 (w.heap.size + 1) rfl
 have c11 := S1.cell 1 rfl 1 (w.heap.size + 1) rfl
 replace S1 := Lib.hid S1
 clear S hb1
 go_wp2_with fail
 refine (MK.out w1).mono ?_
 rintro _ w2 ⟨rfl, hb2⟩
 have S2 := S1.out.on hb2
 have r0 := S2.cell 2 rfl 0 (w.heap.size + 1 + 1) rfl
 have r1 := S2.cell 2 rfl 1 (w.heap.size + 1 + 1) rfl
 have f0 := S2.free 2 rfl 0 (w.heap.size + 1 + 1) rfl
 have f1 := S2.free 2 rfl 1 (w.heap.size + 1 + 1) rfl
 have B2 := Lib.hid S2.old
 clear S1 S2 hb2 c00 c01 c10 c11
 go_wp2_with fail
 (try simp only [Exit.inBlock, Exit.then])
 refine bodyPost_ret (v := spanE x y 0) ?_ rfl ⟨rfl, ?_⟩
 · rw [results_cell_tmp rfl]; unfold spanE; go_simp
 · exact (B2.out.setCell (by show _ ≤ (w.heap.size + 1 + 1); omega) _).setCell (by show _ ≤ (w.heap.size + 1 + 1); omega) _

theorem smeet_ok {a0 b0 a1 b1 : Nat} (ha0 : a0 < 18446744073709551616) (hb0 : b0 < 18446744073709551616) (ha1 : a1 < 18446744073709551616) (hb1 : b1 < 18446744073709551616) (h0 : errSS a0 b0 a1 b1 = 0) (w : World) : Calls Tryz.prog 116 #[spanV a0 b0, spanV a1 b1] w fun e w' => e = .returned (.tuple #[spanV (meetX a0 b0 a1 b1) (meetY a0 b0 a1 b1), .bool (meetB a0 b0 a1 b1), .int .i64 0]) ∧ Below w.heap.size w w' := by
 obtain ⟨e1, e2⟩ := errSS_zero h0
 obtain ⟨f1, f2, le1⟩ := errS_zero e1
 obtain ⟨f3, f4, le2⟩ := errS_zero e2
 have g1 := fit_fin ha0 f1
 have g2 := fit_fin hb0 f2
 have g3 := fit_fin ha1 f3
 have g4 := fit_fin hb1 f4
 have M1 := fun ts t w => run_maxf2 (P := Tryz.prog) g1 g3 ts t w
 have M2 := fun ts t w => run_minf2 (P := Tryz.prog) g2 g4 ts t w
 have MK := Lib.hid (fun w => make_run (mxW a0 a1) (mnW b0 b1) (mxW_fin g1 g3).1 (mnW_fin g2 g4).1 w)
 rw [meet_make ha0 hb0 ha1 hb1 h0] at MK
 have hst2 := @fstore
 unfold spanE at MK
 clear g1 g2 g3 g4
 unfold meetX meetY
 obtain ⟨x, hx⟩ : ∃ x, x = (if meetB a0 b0 a1 b1 = true then posW (mxW a0 a1) else 0) := ⟨_, rfl⟩
 obtain ⟨y, hy⟩ : ∃ y, y = (if meetB a0 b0 a1 b1 = true then posW (mnW b0 b1) else 0) := ⟨_, rfl⟩
 unfold meetX meetY at MK
 rw [← hx, ← hy] at MK ⊢
 obtain ⟨c, hc⟩ : ∃ c : Int, c = if meetB a0 b0 a1 b1 = true then 0 else 5 := ⟨_, rfl⟩
 rw [← hc] at MK
 have tb : (c == 0) = meetB a0 b0 a1 b1 := by rw [hc]; cases meetB a0 b0 a1 b1 <;> rfl
 clear hx hy hc
 generalize meetB a0 b0 a1 b1 = bb at *
 generalize mxW a0 a1 = p at *
 generalize mnW b0 b1 = q at *
 have CB := Lib.hid (fun w => sboth_run a0 b0 a1 b1 ha0 hb0 ha1 hb1 w)
 have S0 : Blocks w (([boxO a0 b0] ++ [boxO a1 b1]) ++ [zeroO]) (((w.alloc (boxO a0 b0)).alloc (boxO a1 b1)).alloc zeroO) := (((Blocks.nil w).alloc (by simp) _).alloc (by simp) _).alloc (by simp) _
 unfold boxO zeroO at S0
 unfold spanV at *
 replace S0 := Lib.hid S0
 have hst := @fstore
 rw [h0] at CB
 clear h0 e1 e2 f1 f2 f3 f4 le1 le2 ha0 hb0 ha1 hb1
 go_enter Tryz.func116, Tryz.ntmps116
 go_wp2_with fail
 have S := S0.out
 clear S0
 generalize ((w.alloc _).alloc _).alloc _ = wr at *
 refine (CB.out wr).mono ?_
 rintro _ w1 ⟨rfl, hb1⟩
 have S1 := S.on hb1
 have c00 := S1.cell 0 rfl 0 w.heap.size rfl
 have c01 := S1.cell 0 rfl 1 w.heap.size rfl
 have c10 := S1.cell 1 rfl 0 (w.heap.size + 1) rfl
 have c11 := S1.cell 1 rfl 1 (w.heap.size + 1) rfl
 replace S1 := Lib.hid S1
 clear S hb1
 go_wp2_with fail
 refine (MK.out w1).mono ?_
 rintro _ w2 ⟨rfl, hb2⟩
 have S2 := S1.out.on hb2
 have r0 := S2.cell 2 rfl 0 (w.heap.size + 1 + 1) rfl
 have r1 := S2.cell 2 rfl 1 (w.heap.size + 1 + 1) rfl
 have f0 := S2.free 2 rfl 0 (w.heap.size + 1 + 1) rfl
 have f1 := S2.free 2 rfl 1 (w.heap.size + 1 + 1) rfl
 have hm : (w.heap.size + 1 + 1) < w2.heap.size := by have := S2.more; simp at this; omega
 have S3 := S2.old.alloc (Nat.le_of_lt (Nat.lt_of_le_of_lt (by omega) hm)) (boxO x y)
 have B3 : Blk (w2.alloc (boxO x y)) (w.heap.size + 1 + 1) 0 0 := (Blk.mk hm r0 r1 f0 f1).on ((Below.refl _ w2).alloc (Nat.le_refl _) _)
 unfold boxO at S3 B3
 have q0 := B3.lo
 have q1 := B3.hi
 have q2 := B3.f0
 have q3 := B3.f1
 have B2 := Lib.hid S3
 clear S1 S2 S3 B3 hb2 c00 c01 c10 c11 hm
 go_wp2_with fail
 (try simp only [Exit.inBlock, Exit.then])
 refine bodyPost_ret (v := .tuple #[.agg #[.float .f64 x, .float .f64 y], .bool bb, .int .i64 0]) ?_ rfl ⟨rfl, ?_⟩
 · rw [results_cell_tmp2 rfl]; go_simp
 · exact (B2.out.setCell (by show _ ≤ (w.heap.size + 1 + 1); omega) _).setCell (by show _ ≤ (w.heap.size + 1 + 1); omega) _

theorem key_V {a b : Nat} (ha : FinW a) (hb : FinW b) : key64 a = key64 b ↔ V a = V b := by
 have h1 := V_lt_key ha hb
 have h2 := V_lt_key hb ha
 omega

structure Sets (a0 b0 a1 b1 : Nat) : Prop where
 la0 : a0 < 18446744073709551616
 lb0 : b0 < 18446744073709551616
 la1 : a1 < 18446744073709551616
 lb1 : b1 < 18446744073709551616
 e0 : errS a0 b0 = 0
 e1 : errS a1 b1 = 0
section
variable {a0 b0 a1 b1 : Nat} (T : Sets a0 b0 a1 b1)
include T
theorem Sets.both : errSS a0 b0 a1 b1 = 0 := errSS_of T.e0 T.e1
theorem Sets.ins : insB a0 b0 a1 b1 = decide (V a1 ≤ V a0 ∧ V b0 ≤ V b1) := by
 unfold insB
 rw [decide_eq_decide]
 exact ⟨fun h => h.2, fun h => ⟨T.both, h⟩⟩
theorem Sets.hull : (posW (mnW a0 a1) < 18446744073709551616 ∧ posW (mxW b0 b1) < 18446744073709551616) ∧ insB a0 b0 (posW (mnW a0 a1)) (posW (mxW b0 b1)) = true ∧ insB a1 b1 (posW (mnW a0 a1)) (posW (mxW b0 b1)) = true := by
 obtain ⟨f1, f2, le1⟩ := errS_zero T.e0
 obtain ⟨f3, f4, le2⟩ := errS_zero T.e1
 have s1 := mnW_spec (fit_fin T.la0 f1) (fit_fin T.la1 f3)
 have s2 := mxW_spec (fit_fin T.lb0 f2) (fit_fin T.lb1 f4)
 obtain ⟨p1, p2⟩ := pos_fit (mnW_fin (fit_fin T.la0 f1) (fit_fin T.la1 f3)).1 (mn_fit T.la0 T.la1 f1 f3)
 obtain ⟨q1, q2⟩ := pos_fit (mxW_fin (fit_fin T.lb0 f2) (fit_fin T.lb1 f4)).1 (mx_fit T.lb0 T.lb1 f2 f4)
 have e : errS (posW (mnW a0 a1)) (posW (mxW b0 b1)) = 0 := by rw [errS_fit p1 q1, posW_V, posW_V, if_neg (by omega)]
 refine ⟨⟨p2, q2⟩, ?_, ?_⟩
 · rw [(Sets.mk T.la0 T.lb0 p2 q2 T.e0 e).ins, posW_V, posW_V]; exact decide_eq_true ⟨by omega, by omega⟩
 · rw [(Sets.mk T.la1 T.lb1 p2 q2 T.e1 e).ins, posW_V, posW_V]; exact decide_eq_true ⟨by omega, by omega⟩
theorem Sets.meet_lt : meetX a0 b0 a1 b1 < 18446744073709551616 ∧ meetY a0 b0 a1 b1 < 18446744073709551616 := by
 obtain ⟨f1, f2, le1⟩ := errS_zero T.e0
 obtain ⟨f3, f4, le2⟩ := errS_zero T.e1
 have p := posW_fin (mxW_fin (fit_fin T.la0 f1) (fit_fin T.la1 f3))
 have q := posW_fin (mnW_fin (fit_fin T.lb0 f2) (fit_fin T.lb1 f4))
 unfold meetX meetY
 constructor <;> split
 · exact p.1
 · decide
 · exact q.1
 · decide
theorem Sets.meet_ok (h : meetB a0 b0 a1 b1 = true) : meetX a0 b0 a1 b1 = posW (mxW a0 a1) ∧ meetY a0 b0 a1 b1 = posW (mnW b0 b1) ∧ errS (meetX a0 b0 a1 b1) (meetY a0 b0 a1 b1) = 0 := by
 obtain ⟨f1, f2, le1⟩ := errS_zero T.e0
 obtain ⟨f3, f4, le2⟩ := errS_zero T.e1
 have c : V (mxW a0 a1) ≤ V (mnW b0 b1) := of_decide_eq_true h
 have p := pos_fit (mxW_fin (fit_fin T.la0 f1) (fit_fin T.la1 f3)).1 (mx_fit T.la0 T.la1 f1 f3)
 have q := pos_fit (mnW_fin (fit_fin T.lb0 f2) (fit_fin T.lb1 f4)).1 (mn_fit T.lb0 T.lb1 f2 f4)
 have ex : meetX a0 b0 a1 b1 = posW (mxW a0 a1) := by unfold meetX; rw [if_pos h]
 have ey : meetY a0 b0 a1 b1 = posW (mnW b0 b1) := by unfold meetY; rw [if_pos h]
 refine ⟨ex, ey, ?_⟩
 rw [ex, ey, errS_fit p.1 q.1, posW_V, posW_V, if_neg (by omega)]
theorem Sets.has (x : Nat) : (hasB a0 b0 x && hasB a1 b1 x) = (meetB a0 b0 a1 b1 && hasB (meetX a0 b0 a1 b1) (meetY a0 b0 a1 b1) x) := by
 obtain ⟨f1, f2, le1⟩ := errS_zero T.e0
 obtain ⟨f3, f4, le2⟩ := errS_zero T.e1
 have g1 := fit_fin T.la0 f1
 have g2 := fit_fin T.lb0 f2
 have g3 := fit_fin T.la1 f3
 have g4 := fit_fin T.lb1 f4
 obtain ⟨s1, s2, s3⟩ := mxW_spec g1 g3
 obtain ⟨t1, t2, t3⟩ := mnW_spec g2 g4
 -- the ends' places in the order
 have kx : key64 a0 ≤ key64 (mxW a0 a1) ∧ key64 a1 ≤ key64 (mxW a0 a1) := by
  have := V_lt_key (mxW_fin g1 g3) g1
  have := V_lt_key (mxW_fin g1 g3) g3
  omega
 have ky : key64 (mnW b0 b1) ≤ key64 b0 ∧ key64 (mnW b0 b1) ≤ key64 b1 := by
  have := V_lt_key g2 (mnW_fin g2 g4)
  have := V_lt_key g4 (mnW_fin g2 g4)
  omega
 have kx2 : key64 (mxW a0 a1) = key64 a0 ∨ key64 (mxW a0 a1) = key64 a1 := by rcases s1 with h | h <;> rw [h] <;> simp
 have ky2 : key64 (mnW b0 b1) = key64 b0 ∨ key64 (mnW b0 b1) = key64 b1 := by rcases t1 with h | h <;> rw [h] <;> simp
 rw [Bool.eq_iff_iff]
 simp only [Bool.and_eq_true]
 by_cases h : meetB a0 b0 a1 b1 = true
 · obtain ⟨ex, ey, e⟩ := T.meet_ok h
   have px : key64 (posW (mxW a0 a1)) = key64 (mxW a0 a1) := (key_V (posW_fin (mxW_fin g1 g3)) (mxW_fin g1 g3)).2 (posW_V _)
   have py : key64 (posW (mnW b0 b1)) = key64 (mnW b0 b1) := (key_V (posW_fin (mnW_fin g2 g4)) (mnW_fin g2 g4)).2 (posW_V _)
   rw [ex, ey] at e
   rw [ex, ey]
   unfold hasB
   simp only [decide_eq_true_eq]
   rw [px, py]
   constructor
   · rintro ⟨⟨-, n, h1, h2⟩, -, -, h3, h4⟩
     exact ⟨h, e, n, by omega, by omega⟩
   · rintro ⟨-, -, n, h1, h2⟩
     exact ⟨⟨T.e0, n, by omega, by omega⟩, T.e1, n, by omega, by omega⟩
 · have c : ¬ V (mxW a0 a1) ≤ V (mnW b0 b1) := fun hh => h (decide_eq_true hh)
   have k := (V_lt_key (mnW_fin g2 g4) (mxW_fin g1 g3)).1 (by omega)
   unfold hasB
   simp only [decide_eq_true_eq]
   constructor
   · rintro ⟨⟨-, n, h1, h2⟩, -, -, h3, h4⟩
     omega
   · rintro ⟨hh, -⟩; exact absurd hh h
end
end Go.Proofs.YtdfcchocabapkaaGreat
