/- Proved here: what the texts Obk, Obo prove, one behind the other. -/
import Derived.Test.YtdfcchocabapkaaGreatJq5

set_option maxRecDepth 100000
set_option maxHeartbeats 4000000
namespace Go.Proofs.YtdfcchocabapkaaGreat
open Go.ChangeShapes Go.WideShapes Go.ChangeAt Go.RowKit Ieee.Own Pol

structure EdN (e m : Nat) (w : Int) (i : Nat) : Prop where
 add : Ieee.double.add (solV e m) (stW w i) = some (edX e m w i)
 wd : Wd (edX e m w i) 400 1075
 two : Ieee.double.mul (stW w i) two52 = some (stW w (i + 1))
 side : Side (oW (edX e m w i))
theorem ed_n {e m : Nat} {w : Int} (hw : w = 1 ∨ w = -1) (he : e < 18446744073709551616) (hm : m < 18446744073709551616) (e1 : ecB e = true) (m1 : haB m = true) {i : Nat} (hi : i < 40) : EdN e m w i := by
 obtain ⟨-, K, q⟩ := kp_ec he hm e1 m1
 obtain ⟨pf, A, -⟩ := sol_wd he hm e1 m1
 obtain ⟨yW, -, -⟩ := kepler_ans K q A.fin (oW_V pf)
 obtain ⟨f1, f2, d1, d2, a1, a2, t1, t2⟩ := st_all i (by omega)
 have W : Wd (stW w i) 400 1074 ∧ Ieee.double.mul (stW w i) two52 = some (stW w (i + 1)) := by
  rcases hw with rfl | rfl
  · exact ⟨⟨f1, d1, a1⟩, t1⟩
  · exact ⟨⟨f2, d2, a2⟩, t2⟩
 obtain ⟨o, x, -⟩ := Wd.add yW W.1 (by omega)
 have x5 : Wd (edX e m w i) 400 1075 := x
 have v := oW_V x5.fin
 exact ⟨o, x5, W.2, ⟨(oW_nz x5.fin).fin.1, oW_fit x5.fin, by rw [v]; exact Nat.le_trans (fn_le x5.abs) (two_le (a := 1075) (b := 1076) (by omega))⟩⟩
theorem ed_far {m : Nat} {w : Int} (hw : w = 1 ∨ w = -1) (hm : m < 18446744073709551616) (m1 : haB m = true) : Ieee.double.add m (sdW w) = some (aX m (sdW w)) ∧ FinW (aX m (sdW w)) ∧ V (aX m (sdW w)) = RN (V m + V (sdW w)) ∧ (V (aX m (sdW w))).natAbs ≤ 2 ^ 1075 := by
 have M := ha_wd hm m1
 have S : FinW (sdW w) ∧ (V (sdW w)).natAbs ≤ 2 ^ 1074 := by
  rcases hw with rfl | rfl <;> exact ⟨by unfold FinW; decide, by decide +kernel⟩
 exact add_ok (i := 1074) (k := 1075) M.fin S.1 (abs_up (k := 1073) (l := 1074) M.abs (by omega)) S.2 rfl (by omega)
theorem edF_stop {e m : Nat} {w : Int} {n i A : Nat} (h : edF e m w (n + 1) i = A) (c : sgA e m (oW (edX e m w i)) = w) : oW (edX e m w i) = A := by
 unfold edF at h; rw [if_pos c] at h; exact h
theorem edF_on {e m : Nat} {w : Int} {n i A : Nat} (h : edF e m w (n + 1) i = A) (c : sgA e m (oW (edX e m w i)) ≠ w) : edF e m w n (i + 1) = A := by
 unfold edF at h; rw [if_neg c] at h; exact h
theorem cvt_lo (w : World) : (convert 3 22 (.int .i64 (-1))).run Tryz.prog w = .ok (.float .f64 13830554455654793216) w := by rfl
theorem oedge_lo {e m : Nat} (he : e < 18446744073709551616) (hm : m < 18446744073709551616) (e1 : ecB e = true) (m1 : haB m = true) (w : World) : Calls Tryz.prog 18 #[.float .f64 e, .float .f64 m, .int .i64 (-1)] w fun en w' => en = .returned (.float .f64 (edW e m (-1))) ∧ Below w.heap.size w w' := by
 have CS := Lib.hid (fun w => osolve_run he hm w)
 unfold solR floE2 at CS
 rw [if_pos e1, if_pos m1] at CS
 have cv := cvt_lo
 have r0 := run_mul 13830554455654793216 4382002437431492608 (stW (-1) 0) (by decide +kernel)
 have rf := run_add _ _ _ (ed_far (w := -1) (by omega) hm m1).1
 have N : Hid (∀ i, i < 40 → EdN e m (-1) i) := Lib.hid fun i hi => ed_n (by omega) he hm e1 m1 hi
 have AH : Hid (∀ i, i < 40 → ∃ D, AhF e (oW (edX e m (-1) i)) m D ∧ ∀ w, Calls Tryz.prog 53 #[.float .f64 e, .float .f64 (oW (edX e m (-1) i)), .float .f64 m] w fun en w' => en = .returned (pv D) ∧ Below w.heap.size w w') := Lib.hid fun i hi => ahead_ex he hm e1 m1 (N.out i hi).side
 obtain ⟨A, hA⟩ : ∃ A, A = edW e m (-1) := ⟨_, rfl⟩
 rw [← hA]
 have R0 : edF e m (-1) 40 0 = A := hA.symm
 have y0 : solV e m < 18446744073709551616 := (sol_wd he hm e1 m1).2.1.fin.1
 clear hA he hm e1 m1
 have es : sdW (-1) = 13830554455654793216 := rfl
 rw [es] at rf
 have F0 : ∀ B, edF e m (-1) 0 40 = B → aX m 13830554455654793216 = B := fun B h => h
 generalize hst0 : stW (-1) 0 = z0 at *
 replace hst0 := Lib.hid hst0
 replace R0 := Lib.hid R0
 replace F0 := Lib.hid F0
 go_enter Tryz.func18, Tryz.ntmps18
 go_wp2_with fail
 refine (CS.out w).mono ?_
 rintro _ v1 ⟨rfl, hb⟩
 replace hb := Lib.hid hb
 clear CS
 go_wp2_with fail
 go_loopw [10, 22] (fun sv iv wr => ∃ i : Nat, sv = .float .f64 (stW (-1) i) ∧ iv = .int .i64 i ∧ i ≤ 40 ∧ edF e m (-1) (40 - i) i = A ∧ Below w.heap.size w wr) (fun _ iv _ => 40 - (intOf iv).toNat)
 case atStart => exact ⟨0, by rw [hst0.out], rfl, by omega, R0.out, hb.out⟩
 case round =>
  obtain ⟨i, rfl, rfl, hi, hE, ho⟩ := hrel
  by_cases hlt : i < 40
  · have E := N.out i hlt
    obtain ⟨D, F, CA'⟩ := AH.out i hlt
    have sgD : sgA e m (oW (edX e m (-1) i)) = signP D := by unfold sgA; rw [ahP_eq F.r]
    have CA := Lib.hid CA'
    have CG := Lib.hid (fun w => osign_run F.sn.w2 F.sn.ok w)
    have CB := fun w => obrought_run E.wd.fin w
    have ra := run_add _ _ _ E.add
    have r2 := run_mul _ _ _ E.two
    unfold two52 at r2
    rw [show 40 - i = 40 - (i + 1) + 1 by omega] at hE
    have S1 := edF_stop hE
    have S2 := edF_on hE
    rw [sgD] at S1 S2
    clear hE E F CA' sgD N AH R0 F0 hst0 r0 rf
    generalize signP D = sg at *
    obtain ⟨d1, d2⟩ := D
    unfold pv spanV at CA CG
    dsimp only at CA CG
    generalize oW (edX e m (-1) i) = ox at *
    generalize edX e m (-1) i = ex at *
    generalize hs1 : stW (-1) (i + 1) = s1 at *
    generalize hs0 : stW (-1) i = s0 at *
    generalize solV e m = y at *
    replace hs1 := Lib.hid hs1
    clear hs0
    replace ho := Lib.hid ho
    have hlt2 := hlt
    by_cases c : sg = -1
    · have t1 : decide (sg = -1) = true := decide_eq_true c
      have t2 : (sg == -1) = true := by simpa using c
      have fin := Lib.hid (S1 c)
      clear S1 S2 c
      go_wp2_with (go_at_call 45; ((with_reducible refine (CB _).mono ?_); rintro e w' ⟨rfl, rfl⟩))
      refine (CA.out _).mono ?_
      rintro _ u1 ⟨rfl, hb1⟩
      replace ho := Lib.hid (ho.out.trans (hb1.mono ho.out.size))
      clear hb1 CA
      go_wp2_with fail
      refine (CG.out _).mono ?_
      rintro _ u2 ⟨rfl, hb1⟩
      replace ho := Lib.hid (ho.out.trans (hb1.mono ho.out.size))
      clear hb1 CG
      go_wp2_with fail
      go_ret
      exact ⟨ret_f fin.out, ho.out⟩
    · have t1 : decide (sg = -1) = false := decide_eq_false c
      have t2 : (sg == -1) = false := by simpa using c
      have nx := Lib.hid (S2 c)
      clear S1 S2 c
      go_wp2_with (go_at_call 45; ((with_reducible refine (CB _).mono ?_); rintro e w' ⟨rfl, rfl⟩))
      refine (CA.out _).mono ?_
      rintro _ u1 ⟨rfl, hb1⟩
      replace ho := Lib.hid (ho.out.trans (hb1.mono ho.out.size))
      clear hb1 CA
      go_wp2_with fail
      refine (CG.out _).mono ?_
      rintro _ u2 ⟨rfl, hb1⟩
      replace ho := Lib.hid (ho.out.trans (hb1.mono ho.out.size))
      clear hb1 CG
      go_wp2_with fail
      go_roundw
      case rel => exact ⟨i + 1, by rw [hs1.out], by go_num, hlt, nx.out, ho.out⟩
      case measure => simp [intOf]; omega
  · obtain rfl : i = 40 := by omega
    have fin := Lib.hid (F0.out A hE)
    generalize aX m 13830554455654793216 = z at *
    replace ho := Lib.hid ho
    clear N AH R0 F0 hE
    go_wp2_with fail
    go_ret
    exact ⟨ret_f fin.out, ho.out⟩
theorem cvt_hi (w : World) : (convert 3 22 (.int .i64 (1))).run Tryz.prog w = .ok (.float .f64 4607182418800017408) w := by rfl
theorem oedge_hi {e m : Nat} (he : e < 18446744073709551616) (hm : m < 18446744073709551616) (e1 : ecB e = true) (m1 : haB m = true) (w : World) : Calls Tryz.prog 18 #[.float .f64 e, .float .f64 m, .int .i64 (1)] w fun en w' => en = .returned (.float .f64 (edW e m (1))) ∧ Below w.heap.size w w' := by
 have CS := Lib.hid (fun w => osolve_run he hm w)
 unfold solR floE2 at CS
 rw [if_pos e1, if_pos m1] at CS
 have cv := cvt_hi
 have r0 := run_mul 4607182418800017408 4382002437431492608 (stW (1) 0) (by decide +kernel)
 have rf := run_add _ _ _ (ed_far (w := 1) (by omega) hm m1).1
 have N : Hid (∀ i, i < 40 → EdN e m (1) i) := Lib.hid fun i hi => ed_n (by omega) he hm e1 m1 hi
 have AH : Hid (∀ i, i < 40 → ∃ D, AhF e (oW (edX e m (1) i)) m D ∧ ∀ w, Calls Tryz.prog 53 #[.float .f64 e, .float .f64 (oW (edX e m (1) i)), .float .f64 m] w fun en w' => en = .returned (pv D) ∧ Below w.heap.size w w') := Lib.hid fun i hi => ahead_ex he hm e1 m1 (N.out i hi).side
 obtain ⟨A, hA⟩ : ∃ A, A = edW e m (1) := ⟨_, rfl⟩
 rw [← hA]
 have R0 : edF e m (1) 40 0 = A := hA.symm
 have y0 : solV e m < 18446744073709551616 := (sol_wd he hm e1 m1).2.1.fin.1
 clear hA he hm e1 m1
 have es : sdW (1) = 4607182418800017408 := rfl
 rw [es] at rf
 have F0 : ∀ B, edF e m (1) 0 40 = B → aX m 4607182418800017408 = B := fun B h => h
 generalize hst0 : stW (1) 0 = z0 at *
 replace hst0 := Lib.hid hst0
 replace R0 := Lib.hid R0
 replace F0 := Lib.hid F0
 go_enter Tryz.func18, Tryz.ntmps18
 go_wp2_with fail
 refine (CS.out w).mono ?_
 rintro _ v1 ⟨rfl, hb⟩
 replace hb := Lib.hid hb
 clear CS
 go_wp2_with fail
 go_loopw [10, 22] (fun sv iv wr => ∃ i : Nat, sv = .float .f64 (stW (1) i) ∧ iv = .int .i64 i ∧ i ≤ 40 ∧ edF e m (1) (40 - i) i = A ∧ Below w.heap.size w wr) (fun _ iv _ => 40 - (intOf iv).toNat)
 case atStart => exact ⟨0, by rw [hst0.out], rfl, by omega, R0.out, hb.out⟩
 case round =>
  obtain ⟨i, rfl, rfl, hi, hE, ho⟩ := hrel
  by_cases hlt : i < 40
  · have E := N.out i hlt
    obtain ⟨D, F, CA'⟩ := AH.out i hlt
    have sgD : sgA e m (oW (edX e m (1) i)) = signP D := by unfold sgA; rw [ahP_eq F.r]
    have CA := Lib.hid CA'
    have CG := Lib.hid (fun w => osign_run F.sn.w2 F.sn.ok w)
    have CB := fun w => obrought_run E.wd.fin w
    have ra := run_add _ _ _ E.add
    have r2 := run_mul _ _ _ E.two
    unfold two52 at r2
    rw [show 40 - i = 40 - (i + 1) + 1 by omega] at hE
    have S1 := edF_stop hE
    have S2 := edF_on hE
    rw [sgD] at S1 S2
    clear hE E F CA' sgD N AH R0 F0 hst0 r0 rf
    generalize signP D = sg at *
    obtain ⟨d1, d2⟩ := D
    unfold pv spanV at CA CG
    dsimp only at CA CG
    generalize oW (edX e m (1) i) = ox at *
    generalize edX e m (1) i = ex at *
    generalize hs1 : stW (1) (i + 1) = s1 at *
    generalize hs0 : stW (1) i = s0 at *
    generalize solV e m = y at *
    replace hs1 := Lib.hid hs1
    clear hs0
    replace ho := Lib.hid ho
    have hlt2 := hlt
    by_cases c : sg = 1
    · have t1 : decide (sg = 1) = true := decide_eq_true c
      have t2 : (sg == 1) = true := by simpa using c
      have fin := Lib.hid (S1 c)
      clear S1 S2 c
      go_wp2_with (go_at_call 45; ((with_reducible refine (CB _).mono ?_); rintro e w' ⟨rfl, rfl⟩))
      refine (CA.out _).mono ?_
      rintro _ u1 ⟨rfl, hb1⟩
      replace ho := Lib.hid (ho.out.trans (hb1.mono ho.out.size))
      clear hb1 CA
      go_wp2_with fail
      refine (CG.out _).mono ?_
      rintro _ u2 ⟨rfl, hb1⟩
      replace ho := Lib.hid (ho.out.trans (hb1.mono ho.out.size))
      clear hb1 CG
      go_wp2_with fail
      go_ret
      exact ⟨ret_f fin.out, ho.out⟩
    · have t1 : decide (sg = 1) = false := decide_eq_false c
      have t2 : (sg == 1) = false := by simpa using c
      have nx := Lib.hid (S2 c)
      clear S1 S2 c
      go_wp2_with (go_at_call 45; ((with_reducible refine (CB _).mono ?_); rintro e w' ⟨rfl, rfl⟩))
      refine (CA.out _).mono ?_
      rintro _ u1 ⟨rfl, hb1⟩
      replace ho := Lib.hid (ho.out.trans (hb1.mono ho.out.size))
      clear hb1 CA
      go_wp2_with fail
      refine (CG.out _).mono ?_
      rintro _ u2 ⟨rfl, hb1⟩
      replace ho := Lib.hid (ho.out.trans (hb1.mono ho.out.size))
      clear hb1 CG
      go_wp2_with fail
      go_roundw
      case rel => exact ⟨i + 1, by rw [hs1.out], by go_num, hlt, nx.out, ho.out⟩
      case measure => simp [intOf]; omega
  · obtain rfl : i = 40 := by omega
    have fin := Lib.hid (F0.out A hE)
    generalize aX m 4607182418800017408 = z at *
    replace ho := Lib.hid ho
    clear N AH R0 F0 hE
    go_wp2_with fail
    go_ret
    exact ⟨ret_f fin.out, ho.out⟩
noncomputable def ssR (e : Nat) (p : Pr) : Pr × Int := if ecB e = true then (if errS p.1 p.2 = 0 ∧ haB p.1 = true ∧ haB p.2 = true then ((edW e p.1 (-1), edW e p.2 1), 0) else ((0, 0), 3)) else ((0, 0), 110)
def ssE (r : Pr × Int) : Value := .tuple #[pv r.1, .int .i64 r.2]
theorem osspan_ne {e p1 p2 : Nat} (C : ∀ w, Calls Tryz.prog 15 #[.float .f64 e] w fun en w' => en = .returned (.bool false) ∧ w = w') (w : World) : Calls Tryz.prog 6 #[.float .f64 e, .agg #[.float .f64 p1, .float .f64 p2]] w fun en w' => en = .returned (.tuple #[.agg #[.float .f64 0, .float .f64 0], .int .i64 110]) ∧ Below w.heap.size w w' := by
 have K0 := kv2 w 26 26 [.float .f64 p1, .float .f64 p2] [.float .f64 0, .float .f64 0]
 simp only [objV] at K0
 have hst := @fstore
 have c1_0 := (K0.at_ 1 rfl).at_ 0 _ rfl
 have f1_0 := (K0.at_ 1 rfl).fr 0 _ rfl
 have c1_1 := (K0.at_ 1 rfl).at_ 1 _ rfl
 have f1_1 := (K0.at_ 1 rfl).fr 1 _ rfl
 replace K0 := Lib.hid K0
 go_enter Tryz.func6, Tryz.ntmps6
 go_wp2_with (go_at_call 15; ((with_reducible refine (C _).mono ?_); rintro e w' ⟨rfl, rfl⟩))
 have K := K0.out
 (try simp only [Exit.inBlock, Exit.then])
 refine bodyPost_ret (v := .tuple #[.agg #[.float .f64 0, .float .f64 0], .int .i64 110]) ?_ rfl ⟨rfl, ?_⟩
 · rw [results_cell_tmp rfl]; go_simp
 · exact K.old
theorem osspan_nc {e p1 p2 : Nat} {k : Int} (t : (k != 0) = true) (C : ∀ w, Calls Tryz.prog 15 #[.float .f64 e] w fun en w' => en = .returned (.bool true) ∧ w = w') (CK : Hid (∀ w, Calls Tryz.prog 16 #[.agg #[.float .f64 p1, .float .f64 p2]] w fun en w' => en = .returned (.int .i64 k) ∧ Below w.heap.size w w')) (w : World) : Calls Tryz.prog 6 #[.float .f64 e, .agg #[.float .f64 p1, .float .f64 p2]] w fun en w' => en = .returned (.tuple #[.agg #[.float .f64 0, .float .f64 0], .int .i64 3]) ∧ Below w.heap.size w w' := by
 have K0 := kv2 w 26 26 [.float .f64 p1, .float .f64 p2] [.float .f64 0, .float .f64 0]
 simp only [objV] at K0
 have hst := @fstore
 replace K0 := Lib.hid K0
 go_enter Tryz.func6, Tryz.ntmps6
 go_wp2_with (go_at_call 15; ((with_reducible refine (C _).mono ?_); rintro e w' ⟨rfl, rfl⟩))
 have K := K0.out
 clear K0
 generalize (w.alloc _).alloc _ = wr at *
 refine (CK.out wr).mono ?_
 rintro _ v1 ⟨rfl, hb⟩
 replace K := K.on hb
 clear hb
 have c0_0 := K.ce 0 0 rfl rfl
 have c0_1 := K.ce 0 1 rfl rfl
 have c1_0 := K.ce 1 0 rfl rfl
 have f1_0 := K.fe 1 0 rfl rfl
 have c1_1 := K.ce 1 1 rfl rfl
 have f1_1 := K.fe 1 1 rfl rfl
 replace K := Lib.hid K
 go_wp2_with fail
 replace K := K.out
 (try simp only [Exit.inBlock, Exit.then])
 refine bodyPost_ret (v := .tuple #[.agg #[.float .f64 0, .float .f64 0], .int .i64 3]) ?_ rfl ⟨rfl, ?_⟩
 · rw [results_cell_tmp rfl]; go_simp
 · exact ((K.old).setCell (by first | exact Nat.le_refl _ | omega | (dsimp only; omega)) _).setCell (by first | exact Nat.le_refl _ | omega | (dsimp only; omega)) _
theorem osspan_n1 {e p1 p2 : Nat} (C : ∀ w, Calls Tryz.prog 15 #[.float .f64 e] w fun en w' => en = .returned (.bool true) ∧ w = w') (CK : Hid (∀ w, Calls Tryz.prog 16 #[.agg #[.float .f64 p1, .float .f64 p2]] w fun en w' => en = .returned (.int .i64 0) ∧ Below w.heap.size w w')) (C1 : ∀ w, Calls Tryz.prog 17 #[.float .f64 p1] w fun en w' => en = .returned (.bool false) ∧ w = w') (w : World) : Calls Tryz.prog 6 #[.float .f64 e, .agg #[.float .f64 p1, .float .f64 p2]] w fun en w' => en = .returned (.tuple #[.agg #[.float .f64 0, .float .f64 0], .int .i64 3]) ∧ Below w.heap.size w w' := by
 have K0 := kv2 w 26 26 [.float .f64 p1, .float .f64 p2] [.float .f64 0, .float .f64 0]
 simp only [objV] at K0
 have hst := @fstore
 replace K0 := Lib.hid K0
 go_enter Tryz.func6, Tryz.ntmps6
 go_wp2_with (go_at_call 15; ((with_reducible refine (C _).mono ?_); rintro e w' ⟨rfl, rfl⟩))
 have K := K0.out
 clear K0
 generalize (w.alloc _).alloc _ = wr at *
 refine (CK.out wr).mono ?_
 rintro _ v1 ⟨rfl, hb⟩
 replace K := K.on hb
 clear hb
 have c0_0 := K.ce 0 0 rfl rfl
 have c0_1 := K.ce 0 1 rfl rfl
 have c1_0 := K.ce 1 0 rfl rfl
 have f1_0 := K.fe 1 0 rfl rfl
 have c1_1 := K.ce 1 1 rfl rfl
 have f1_1 := K.fe 1 1 rfl rfl
 replace K := Lib.hid K
 go_wp2_with (go_at_call 17; ((with_reducible refine (C1 _).mono ?_); rintro e w' ⟨rfl, rfl⟩))
 replace K := K.out
 (try simp only [Exit.inBlock, Exit.then])
 refine bodyPost_ret (v := .tuple #[.agg #[.float .f64 0, .float .f64 0], .int .i64 3]) ?_ rfl ⟨rfl, ?_⟩
 · rw [results_cell_tmp rfl]; go_simp
 · exact ((K.old).setCell (by first | exact Nat.le_refl _ | omega | (dsimp only; omega)) _).setCell (by first | exact Nat.le_refl _ | omega | (dsimp only; omega)) _
theorem osspan_n2 {e p1 p2 : Nat} (C : ∀ w, Calls Tryz.prog 15 #[.float .f64 e] w fun en w' => en = .returned (.bool true) ∧ w = w') (CK : Hid (∀ w, Calls Tryz.prog 16 #[.agg #[.float .f64 p1, .float .f64 p2]] w fun en w' => en = .returned (.int .i64 0) ∧ Below w.heap.size w w')) (C1 : ∀ w, Calls Tryz.prog 17 #[.float .f64 p1] w fun en w' => en = .returned (.bool true) ∧ w = w') (C2 : ∀ w, Calls Tryz.prog 17 #[.float .f64 p2] w fun en w' => en = .returned (.bool false) ∧ w = w') (w : World) : Calls Tryz.prog 6 #[.float .f64 e, .agg #[.float .f64 p1, .float .f64 p2]] w fun en w' => en = .returned (.tuple #[.agg #[.float .f64 0, .float .f64 0], .int .i64 3]) ∧ Below w.heap.size w w' := by
 have K0 := kv2 w 26 26 [.float .f64 p1, .float .f64 p2] [.float .f64 0, .float .f64 0]
 simp only [objV] at K0
 have hst := @fstore
 replace K0 := Lib.hid K0
 go_enter Tryz.func6, Tryz.ntmps6
 go_wp2_with (go_at_call 15; ((with_reducible refine (C _).mono ?_); rintro e w' ⟨rfl, rfl⟩))
 have K := K0.out
 clear K0
 generalize (w.alloc _).alloc _ = wr at *
 refine (CK.out wr).mono ?_
 rintro _ v1 ⟨rfl, hb⟩
 replace K := K.on hb
 clear hb
 have c0_0 := K.ce 0 0 rfl rfl
 have c0_1 := K.ce 0 1 rfl rfl
 have c1_0 := K.ce 1 0 rfl rfl
 have f1_0 := K.fe 1 0 rfl rfl
 have c1_1 := K.ce 1 1 rfl rfl
 have f1_1 := K.fe 1 1 rfl rfl
 replace K := Lib.hid K
 go_wp2_with (first | (go_at_call 17; ((with_reducible refine (C1 _).mono ?_); rintro e w' ⟨rfl, rfl⟩)) | (go_at_call 17; ((with_reducible refine (C2 _).mono ?_); rintro e w' ⟨rfl, rfl⟩)))
 replace K := K.out
 (try simp only [Exit.inBlock, Exit.then])
 refine bodyPost_ret (v := .tuple #[.agg #[.float .f64 0, .float .f64 0], .int .i64 3]) ?_ rfl ⟨rfl, ?_⟩
 · rw [results_cell_tmp rfl]; go_simp
 · exact ((K.old).setCell (by first | exact Nat.le_refl _ | omega | (dsimp only; omega)) _).setCell (by first | exact Nat.le_refl _ | omega | (dsimp only; omega)) _
theorem osspan_ok {e p1 p2 l h : Nat} (C : ∀ w, Calls Tryz.prog 15 #[.float .f64 e] w fun en w' => en = .returned (.bool true) ∧ w = w') (CK : Hid (∀ w, Calls Tryz.prog 16 #[.agg #[.float .f64 p1, .float .f64 p2]] w fun en w' => en = .returned (.int .i64 0) ∧ Below w.heap.size w w')) (C1 : ∀ w, Calls Tryz.prog 17 #[.float .f64 p1] w fun en w' => en = .returned (.bool true) ∧ w = w') (C2 : ∀ w, Calls Tryz.prog 17 #[.float .f64 p2] w fun en w' => en = .returned (.bool true) ∧ w = w') (EL : Hid (∀ w, Calls Tryz.prog 18 #[.float .f64 e, .float .f64 p1, .int .i64 (-1)] w fun en w' => en = .returned (.float .f64 l) ∧ Below w.heap.size w w')) (EH : Hid (∀ w, Calls Tryz.prog 18 #[.float .f64 e, .float .f64 p2, .int .i64 1] w fun en w' => en = .returned (.float .f64 h) ∧ Below w.heap.size w w')) (w : World) : Calls Tryz.prog 6 #[.float .f64 e, .agg #[.float .f64 p1, .float .f64 p2]] w fun en w' => en = .returned (.tuple #[.agg #[.float .f64 l, .float .f64 h], .int .i64 0]) ∧ Below w.heap.size w w' := by
 have K0 := kv2 w 26 26 [.float .f64 p1, .float .f64 p2] [.float .f64 0, .float .f64 0]
 simp only [objV] at K0
 have hst := @fstore
 replace K0 := Lib.hid K0
 go_enter Tryz.func6, Tryz.ntmps6
 go_wp2_with (go_at_call 15; ((with_reducible refine (C _).mono ?_); rintro e w' ⟨rfl, rfl⟩))
 have K := K0.out
 clear K0
 generalize (w.alloc _).alloc _ = wr at *
 refine (CK.out wr).mono ?_
 rintro _ v1 ⟨rfl, hb⟩
 replace K := K.on hb
 clear hb
 have c0_0 := K.ce 0 0 rfl rfl
 have c0_1 := K.ce 0 1 rfl rfl
 replace K := Lib.hid K
 go_upto_region 5 with (first | (go_at_call 17; ((with_reducible refine (C1 _).mono ?_); rintro e w' ⟨rfl, rfl⟩)) | (go_at_call 17; ((with_reducible refine (C2 _).mono ?_); rintro e w' ⟨rfl, rfl⟩)))
 replace K := K.out
 clear c0_0 c0_1
 generalize hds : ([some 26, some 27, some 28, some 29, some 30, some 31, some 32, some 33, some 34, none, some 5] : List (Option Tmp)) = ds
 have hap : apartL ds = true := by rw [← hds]; decide
 replace hds := hds.symm
 refine wp_region_kv (fun hf => [some (w.heap.size, [.float .f64 p1, .float .f64 p2]), some (w.heap.size + 1, [.float .f64 l, .float .f64 h])]) (fun hf => [some (.float .f64 e), some (.pointer (some ⟨w.heap.size, 0, none⟩)), some (.float .f64 p1), some (.float .f64 l), some (.float .f64 e), some (.pointer (some ⟨w.heap.size, 1, none⟩)), some (.float .f64 p2), some (.float .f64 h), some (.agg #[.float .f64 l, .float .f64 h]), some (undef), some (.int .i64 0)]) [] [⟨9, 1, 0, [.float .f64 l, .float .f64 h]⟩] [.float .f64 e, .pointer (some ⟨w.heap.size, 0, none⟩), .float .f64 p1, .float .f64 l, .float .f64 e, .pointer (some ⟨w.heap.size, 1, none⟩), .float .f64 p2, .float .f64 h, .agg #[.float .f64 l, .float .f64 h], undef, .int .i64 0] ds (by kernel_rfl) (by rw [hds]; rfl) hap (by decide +kernel) (by decide +kernel) K ?ha ?haj ?hai ?hsi ?hss ?hsa ?hsw ?htg ?hE2 ?hE3 ?hE4 ?hL1 ?hL2 ?hL3 ?alloc ?step ?store ?fin
 case ha => intro al hal; cases hal
 case haj => intro al hal al' hal' e; cases hal
 case hai => intro al hal; cases hal
 case hsi => exact quq _ _ _ rfl rfl
 case hss => exact qss rfl
 case hsa =>
  intro st hst al hal
  cases hal
 case hsw =>
  intro st hst al hal e
  cases hal
 case htg =>
  intro st hst
  rcases List.mem_singleton.1 hst with rfl
  · exact .inl ⟨_, _, rfl, show 0 + 2 ≤ 2 by decide⟩
 case hE2 =>
  intro hf j h1 h2
  have n1 : 1 ≠ j := h1 _ qh0
  rcases j with _ | _ | j <;> first | rfl | exact absurd rfl n1
 case hE3 =>
  intro hf st hst g us e
  rcases List.mem_singleton.1 hst with rfl
  · obtain ⟨rfl, rfl⟩ := Prod.mk.inj (Option.some.inj (Option.some.inj e)); rfl
 case hE4 =>
  intro hf al hal
  cases hal
 case hL1 => intro hf; rfl
 case hL2 =>
  intro hf i hi hna
  rcases (ql11 hi) with rfl | rfl | rfl | rfl | rfl | rfl | rfl | rfl | rfl | rfl | rfl <;> first | rfl
 case hL3 => intro hf al hal; cases hal
 case alloc =>
  intro al hal o ρ W ho
  cases hal
 case step =>
  intro L W i o ho hs ha hd hB hO
  rcases (ql11 (Array.getElem?_eq_some_iff.1 ho).1) with rfl | rfl | rfl | rfl | rfl | rfl | rfl | rfl | rfl | rfl | rfl
  · obtain rfl := qsj ho
    refine qvr fun ρ hA => ?_
    have hc := qrc hA
    have h0 : ρ (.tmp 0) = .float .f64 e := (po hA (by rw [hds]; decide)).trans rfl
    clear hA hd hB ho hs ha hO
    unfold execOp; go_simp
  · obtain rfl := qsj ho
    refine qvr fun ρ hA => ?_
    have hc := qrc hA
    have h0 : ρ (.tmp 3) = .pointer (some ⟨w.heap.size, 0, none⟩) := (po hA (by rw [hds]; decide)).trans rfl
    clear hA hd hB ho hs ha hO
    unfold execOp; go_simp
  · obtain rfl := qsj ho
    have b := hB 0 _ _ rfl (qns rfl)
    have c0 := b.at_ 0 _ rfl
    clear b
    refine qvr fun ρ hA => ?_
    have h0 : ρ (.tmp 27) = .pointer (some ⟨w.heap.size, 0, none⟩) := pg 1 hA hap (by rw [hds]; rfl) (hd 1 (by decide +kernel) (alne rfl)) (show 27 < 35 by decide)
    clear hA hd hB ho hs ha hO
    unfold execOp; go_simp
  · obtain rfl := qsj ho
    refine .call 18 #[.float .f64 e, .float .f64 p1, .int .i64 (-1)] ?_ (EL.out W)
    generalize hA : (puts ds L _).eval = ρ
    have hc := qrc hA
    have hg := qrg hA
    have h0 : ρ (.tmp 26) = .float .f64 e := pg 0 hA hap (by rw [hds]; rfl) (hd 0 (by decide +kernel) (alne rfl)) (show 26 < 35 by decide)
    have h1 : ρ (.tmp 28) = .float .f64 p1 := pg 2 hA hap (by rw [hds]; rfl) (hd 2 (by decide +kernel) (alne rfl)) (show 28 < 35 by decide)
    have hf := Tryz.func18
    unfold execOp; go_simp
  · obtain rfl := qsj ho
    refine qvr fun ρ hA => ?_
    have hc := qrc hA
    have h0 : ρ (.tmp 0) = .float .f64 e := (po hA (by rw [hds]; decide)).trans rfl
    clear hA hd hB ho hs ha hO
    unfold execOp; go_simp
  · obtain rfl := qsj ho
    refine qvr fun ρ hA => ?_
    have hc := qrc hA
    have h0 : ρ (.tmp 3) = .pointer (some ⟨w.heap.size, 0, none⟩) := (po hA (by rw [hds]; decide)).trans rfl
    clear hA hd hB ho hs ha hO
    unfold execOp; go_simp
  · obtain rfl := qsj ho
    have b := hB 0 _ _ rfl (qns rfl)
    have c1 := b.at_ 1 _ rfl
    clear b
    refine qvr fun ρ hA => ?_
    have h0 : ρ (.tmp 31) = .pointer (some ⟨w.heap.size, 1, none⟩) := pg 5 hA hap (by rw [hds]; rfl) (hd 5 (by decide +kernel) (alne rfl)) (show 31 < 35 by decide)
    clear hA hd hB ho hs ha hO
    unfold execOp; go_simp
  · obtain rfl := qsj ho
    refine .call 18 #[.float .f64 e, .float .f64 p2, .int .i64 1] ?_ (EH.out W)
    generalize hA : (puts ds L _).eval = ρ
    have hc := qrc hA
    have hg := qrg hA
    have h0 : ρ (.tmp 30) = .float .f64 e := pg 4 hA hap (by rw [hds]; rfl) (hd 4 (by decide +kernel) (alne rfl)) (show 30 < 35 by decide)
    have h1 : ρ (.tmp 32) = .float .f64 p2 := pg 6 hA hap (by rw [hds]; rfl) (hd 6 (by decide +kernel) (alne rfl)) (show 32 < 35 by decide)
    have hf := Tryz.func18
    unfold execOp; go_simp
  · obtain rfl := qsj ho
    refine qvr fun ρ hA => ?_
    have hc := qrc hA
    have h0 : ρ (.tmp 29) = .float .f64 l := pg 3 hA hap (by rw [hds]; rfl) (hd 3 (by decide +kernel) (alne rfl)) (show 29 < 35 by decide)
    have h1 : ρ (.tmp 33) = .float .f64 h := pg 7 hA hap (by rw [hds]; rfl) (hd 7 (by decide +kernel) (alne rfl)) (show 33 < 35 by decide)
    clear hA hd hB ho hs ha hO
    unfold execOp; go_simp
  · exact absurd rfl (hs _ qh0)
  · obtain rfl := qsj ho
    refine qvr fun ρ hA => ?_
    have hc := qrc hA
    clear hA hd hB ho hs ha hO
    unfold execOp; go_simp
 case store =>
  intro st hst L W o h us ho hd hal hC b
  rcases List.mem_singleton.1 hst with rfl
  · dsimp only at ho hd hal hC b ⊢
    obtain rfl := qsj ho
    obtain ⟨hh, rfl⟩ := hC _ _ rfl
    replace hh := hh.symm
    subst hh
    have c0 := b.at_ 0 _ rfl
    have f0 := b.fr 0 _ rfl
    have c1 := b.at_ 1 _ rfl
    have f1 := b.fr 1 _ rfl
    refine ⟨?_, rfl⟩
    generalize hA : (puts ds L _).eval = ρ
    have h0 : ρ (.tmp 4) = .pointer (some ⟨w.heap.size + 1, 0, none⟩) := (po hA (by rw [hds]; decide)).trans rfl
    have h1 : ρ (.tmp 34) = .agg #[.float .f64 l, .float .f64 h] := pg 8 hA hap (by rw [hds]; rfl) (hd 8 (by decide +kernel) (alne rfl)) (show 34 < 35 by decide)
    have hst' := @fstore
    clear hA hd b ho hal hC
    simp only [putV]
    unfold execOp; go_simp
 case fin =>
  intro hf W0 K
  rw [hds]
  clear hds hap ds EL EH
  (try dsimp only at K)
  simp only [List.set_cons_zero, List.set_cons_succ, puts, Act.put, List.setIfInBounds_toArray]
  have c1_0 := K.ce 1 0 rfl rfl
  have c1_1 := K.ce 1 1 rfl rfl
  replace K := Lib.hid K
  go_wp2_with fail
  replace K := K.out
  (try simp only [Exit.inBlock, Exit.then])
  refine bodyPost_ret (v := .tuple #[.agg #[.float .f64 l, .float .f64 h], .int .i64 0]) ?_ rfl ⟨rfl, ?_⟩
  · rw [results_cell_tmp rfl]; go_simp
  · exact K.old
theorem osspan_run {e : Nat} {p : Pr} (he : e < 18446744073709551616) (hp : W2 p) (w : World) : Calls Tryz.prog 6 #[.float .f64 e, pv p] w fun en w' => en = .returned (ssE (ssR e p)) ∧ Below w.heap.size w w' := by
 have C := fun w => ofitEcc_run he w
 have CK := Lib.hid (fun w => scheck_run p.1 p.2 hp.l1 hp.l2 w)
 have C1 := fun w => ofitMean_run hp.l1 w
 have C2 := fun w => ofitMean_run hp.l2 w
 unfold ssR
 by_cases h : ecB e = true
 · rw [if_pos h]
   rw [h] at C
   by_cases k : errS p.1 p.2 = 0
   · rw [k] at CK
     by_cases a : haB p.1 = true
     · rw [a] at C1
       by_cases b : haB p.2 = true
       · rw [b] at C2
         rw [if_pos ⟨k, a, b⟩]
         exact osspan_ok C CK C1 C2 (Lib.hid (fun w => oedge_lo he hp.l1 h a w)) (Lib.hid (fun w => oedge_hi he hp.l2 h b w)) w
       · rw [if_neg (fun q => b q.2.2)]
         rw [Bool.not_eq_true] at b
         rw [b] at C2
         exact osspan_n2 C CK C1 C2 w
     · rw [if_neg (fun q => a q.2.1)]
       rw [Bool.not_eq_true] at a
       rw [a] at C1
       exact osspan_n1 C CK C1 w
   · rw [if_neg (fun q => k q.1)]
     exact osspan_nc (by simpa using k) C CK w
 · rw [if_neg h]
   rw [Bool.not_eq_true] at h
   rw [h] at C
   exact osspan_ne C w
end Go.Proofs.YtdfcchocabapkaaGreat

namespace Go.Proofs.YtdfcchocabapkaaGreat
open Ieee.Own Pol

structure EdgF (e m : Nat) (w : Int) (x : Nat) : Prop where
 side : Side x
 lo : w = -1 → Lo_ (kap e) (Q m) (Q x)
 hi : w = 1 → Hi_ (kap e) (Q m) (Q x)
theorem far_poly {u m s r : Rat} (u1 : 1000000 * u ≤ 1) (hm : mag m ≤ 1 / 2) (h : mag (r - (m + s)) ≤ u * 2) : (s = -1 → r ≤ m - 1 / 2) ∧ (s = 1 → m + 1 / 2 ≤ r) ∧ (mag s = 1 → 1 / 4 ≤ mag r) := by
 have a := mag_le (r - (m + s))
 have b := mag_le m
 refine ⟨fun q => by grind, fun q => by grind, fun q => ?_⟩
 have c : s = 1 ∨ s = -1 := by
  unfold mag at q
  split at q <;> grind
 have d := mag_le r
 rcases c with c | c <;> grind
theorem ed_far_f {e m : Nat} {w : Int} (hw : w = 1 ∨ w = -1) (he : e < 18446744073709551616) (hm : m < 18446744073709551616) (e1 : ecB e = true) (m1 : haB m = true) : EdgF e m w (aX m (sdW w)) := by
 obtain ⟨g, q0, q1⟩ := ecc_of he e1
 obtain ⟨F, k4⟩ := kap_fac q0 q1
 obtain ⟨-, -, q⟩ := kp_ec he hm e1 m1
 obtain ⟨-, f, v, b⟩ := ed_far hw hm m1
 have qs : (w = 1 → Q (sdW w) = 1) ∧ (w = -1 → Q (sdW w) = -1) := by
  rcases hw with rfl | rfl
  · exact ⟨fun _ => by decide +kernel, fun h => absurd h (by decide)⟩
  · exact ⟨fun h => absurd h (by decide), fun _ => by decide +kernel⟩
 have ms : mag (Q (sdW w)) = 1 := by
  rcases hw with h | h
  · rw [qs.1 h]; decide +kernel
  · rw [qs.2 h]; decide +kernel
 have r := rd_of (add_rel v) 2 (by
  have := mag_add q (show mag (Q (sdW w)) ≤ 1 by rw [ms]; exact Rat.le_refl)
  grind)
 rw [Rat.add_zero] at r
 obtain ⟨p1, p2, p3⟩ := far_poly uR1 q r
 have p3 := p3 ms
 have fit : fitB (aX m (sdW w)) = true := by
  rw [fit_iff f]
  right
  have c1 : V 4598175219545276416 = 2 ^ 1072 := by decide +kernel
  have c2 : V 13821547256400052224 = -(2 ^ 1072) := by decide +kernel
  have d1 : Q 4598175219545276416 = 1 / 4 := by decide +kernel
  have d2 : Q 13821547256400052224 = -(1 / 4) := by decide +kernel
  have ce : ((2 ^ 1072 : Nat) : Int) = 2 ^ 1072 := Int.natCast_pow 2 1072
  have b1 : leastV ≤ 2 ^ 1072 := by decide +kernel
  have b2 : ((2 ^ 1075 : Nat) : Int) ≤ mostV := by decide +kernel
  have low : 2 ^ 1072 ≤ V (aX m (sdW w)) ∨ V (aX m (sdW w)) ≤ -(2 ^ 1072) := by
   unfold mag at p3
   split at p3
   · left; rw [← c1]; exact Q_le.1 (by rw [d1]; exact p3)
   · right; rw [← c2]; exact Q_le.1 (by rw [d2]; grind)
  have b' : (((V (aX m (sdW w))).natAbs : Nat) : Int) ≤ ((2 ^ 1075 : Nat) : Int) := Int.ofNat_le.2 b
  have p : (0 : Int) < 2 ^ 1072 := Int.pow_pos (by omega)
  exact ⟨by omega, Int.le_trans b' b2⟩
 refine ⟨⟨f.1, fit, Nat.le_trans b (two_le (a := 1075) (b := 1076) (by omega))⟩, fun h => ?_, fun h => ?_⟩
 · exact far_lo F k4 (sin_word _) (p1 (qs.2 h))
 · exact far_hi F k4 (sin_word _) (p2 (qs.1 h))
theorem edF_f {e m : Nat} {w : Int} (hw : w = 1 ∨ w = -1) (he : e < 18446744073709551616) (hm : m < 18446744073709551616) (e1 : ecB e = true) (m1 : haB m = true) : ∀ n i, n + i = 40 → EdgF e m w (edF e m w n i)
 | 0, i, _ => ed_far_f hw he hm e1 m1
 | n + 1, i, h => by
   have E := ed_n hw he hm e1 m1 (show i < 40 by omega)
   obtain ⟨D, F, -⟩ := ahead_ex he hm e1 m1 E.side
   have L := sgA_lo F
   unfold edF
   by_cases c : sgA e m (oW (edX e m w i)) = w
   · rw [if_pos c]
     exact ⟨E.side, fun h => L.1 (by rw [c, h]), fun h => L.2 (by rw [c, h])⟩
   · rw [if_neg c]
     exact edF_f hw he hm e1 m1 n (i + 1) (by omega)
theorem edge_lo_f {e m : Nat} (he : e < 18446744073709551616) (hm : m < 18446744073709551616) (e1 : ecB e = true) (m1 : haB m = true) : Side (edW e m (-1)) ∧ Lo_ (kap e) (Q m) (Q (edW e m (-1))) := by
 have F := edF_f (w := -1) (by omega) he hm e1 m1 40 0 rfl
 exact ⟨F.side, F.lo rfl⟩
theorem edge_hi_f {e m : Nat} (he : e < 18446744073709551616) (hm : m < 18446744073709551616) (e1 : ecB e = true) (m1 : haB m = true) : Side (edW e m 1) ∧ Hi_ (kap e) (Q m) (Q (edW e m 1)) := by
 have F := edF_f (w := 1) (by omega) he hm e1 m1 40 0 rfl
 exact ⟨F.side, F.hi rfl⟩
theorem Q_lt_V {a b : Nat} (h : Q a < Q b) : V a < V b := by
 refine Int.not_le.1 fun c => ?_
 have := Q_le.2 c
 grind
structure Plc (e : Nat) (s p : Pr) : Prop where
 lo : Lo_ (kap e) (Q s.1) (Q p.1)
 hi : Hi_ (kap e) (Q s.2) (Q p.2)
 lt : V p.1 < V p.2
 sn : Sn p 2
theorem plc_of {e : Nat} {s : Pr} (he : e < 18446744073709551616) (hs : W2 s) (e1 : ecB e = true) (h1 : haB s.1 = true) (h2 : haB s.2 = true) (le : V s.1 ≤ V s.2) : Plc e s (edW e s.1 (-1), edW e s.2 1) := by
 obtain ⟨g, q0, q1⟩ := ecc_of he e1
 obtain ⟨F, k4⟩ := kap_fac q0 q1
 obtain ⟨a, b⟩ := edge_lo_f he hs.l1 e1 h1
 obtain ⟨c, d⟩ := edge_hi_f he hs.l2 e1 h2
 have lt := Q_lt_V (edges_lt F b (Q_le.2 le) d)
 exact ⟨b, d, lt, ⟨a.lt, c.lt, errS_of ⟨a.fit, c.fit⟩ (Int.le_of_lt lt), up_m 2 a.abs (by omega), up_m 2 c.abs (by omega)⟩⟩
theorem res_poly {u K k x m S : Rat} (hk : mag (k - K) ≤ u) (s1 : -1 ≤ S) (s2 : S ≤ 1) (h : mag (x - k * S - m) ≤ 15 * u) : mag (x - K * S - m) ≤ 16 * u := by
 have ms : mag S ≤ 1 := mag_of s1 s2
 have a := mag_mul hk ms
 have e : x - K * S - m = x - k * S - m + (k - K) * S := by grind
 rw [e]
 have := mag_add h a
 grind
end Go.Proofs.YtdfcchocabapkaaGreat
