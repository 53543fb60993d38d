/- Proved here: what the texts Obe, Obf, Omh, Obi, Obj, Obk, Obo, Obs, Obt, Obu, Obv, Obw, Obx, Oby, Frr, Rhs, Hci prove, one behind the other. -/
import Derived.Test.YtacinenddnfcbaaGreatJy18
import Derived.Test.YtacinenddnfcbaaGreatJy16
import Derived.Test.YtacinenddnfcbaaGreatJy14
import Derived.Test.YtacinenddnfcbaaGreatJy15
import Derived.Test.YtacinenddnfcbaaGreatJy10
import Derived.Test.YtacinenddnfcbaaGreatJy3
import Derived.Test.YtacinenddnfcbaaGreatJy9
import Derived.Test.YtacinenddnfcbaaGreatJy12

set_option maxHeartbeats 4000000
set_option maxRecDepth 100000
namespace Go.Proofs.YtacinenddnfcbaaGreat
open Go.ChangeShapes Go.WideShapes Go.ChangeAt Go.RowKit Ieee.Own Pol

noncomputable def laidR : List (Int × Nat) → V3 → V3 × Int
 | [], v => (v, 0)
 | t :: l, v => if (applyR (turnW t.1 t.2) v).2 = 0 then laidR l (applyR (turnW t.1 t.2) v).1 else (z3, (applyR (turnW t.1 t.2) v).2)
def turnsO (o : Ob) : List (Int × Nat) := [(2, o.pe), (0, o.ti), (2, o.no)]
theorem laid_ok {t : Int × Nat} {l : List (Int × Nat)} {v : V3} {A : V3 × Int} (h : laidR (t :: l) v = A) (e : (applyR (turnW t.1 t.2) v).2 = 0) : laidR l (applyR (turnW t.1 t.2) v).1 = A := by
 unfold laidR at h; rw [if_pos e] at h; exact h
theorem laid_no {t : Int × Nat} {l : List (Int × Nat)} {v : V3} {A : V3 × Int} (h : laidR (t :: l) v = A) (e : (applyR (turnW t.1 t.2) v).2 ≠ 0) : (z3, (applyR (turnW t.1 t.2) v).2) = A := by
 unfold laidR at h; rw [if_neg e] at h; exact h
theorem tu_ang {x : Nat} (hx : x < 18446744073709551616) (h : tuB x = true) : errA x = 0 := by
 have W := tu_wd hx h
 exact err_small W.fin (btw_of hx h).2.1 (abs_up (k := 1084) (l := 1114) W.abs (by omega))
structure TurnO (a : Int) (x : Nat) : Prop where
 own : ∀ w, Calls Tryz.prog 181 #[.int .i64 a, .float .f64 x] w fun e w' => e = .returned (matE (turnW a x) 0) ∧ Below w.heap.size w w'
 w : W9 (turnW a x)
theorem turn_o {a : Int} {x : Nat} (h0 : 0 ≤ a) (h1 : a ≤ 2) (hx : x < 18446744073709551616) (e : errA x = 0) : TurnO a x := by
 exact ⟨fun w => vturned_run h0 h1 hx e w, (turnW_ok a hx e).1⟩
theorem oturnings_run {ax ec ti no pe ph ra : Nat} (w : World) : Calls Tryz.prog 146 #[.agg #[.float .f64 ax, .float .f64 ec, .float .f64 ti, .float .f64 no, .float .f64 pe, .float .f64 ph, .float .f64 ra]] w fun e w' => e = .returned (.agg #[.int .i64 2, .float .f64 pe, .int .i64 0, .float .f64 ti, .int .i64 2, .float .f64 no]) ∧ Below w.heap.size w w' := by
 have K0 := kv2 w 45 158 [.float .f64 ax, .float .f64 ec, .float .f64 ti, .float .f64 no, .float .f64 pe, .float .f64 ph, .float .f64 ra] [.int .i64 2, .float .f64 pe, .int .i64 0, .float .f64 ti, .int .i64 2, .float .f64 no]
 simp only [objV] at K0
 have hst := @fstore
 have c0_2 := (K0.at_ 0 rfl).at_ 2 _ rfl
 have c0_3 := (K0.at_ 0 rfl).at_ 3 _ rfl
 have c0_4 := (K0.at_ 0 rfl).at_ 4 _ rfl
 have c1_0 := (K0.at_ 1 rfl).at_ 0 _ rfl
 have f1_0 := (K0.at_ 1 rfl).fr 0 _ rfl
 have c1_1 := (K0.at_ 1 rfl).at_ 1 _ rfl
 have f1_1 := (K0.at_ 1 rfl).fr 1 _ rfl
 have c1_2 := (K0.at_ 1 rfl).at_ 2 _ rfl
 have f1_2 := (K0.at_ 1 rfl).fr 2 _ rfl
 have c1_3 := (K0.at_ 1 rfl).at_ 3 _ rfl
 have f1_3 := (K0.at_ 1 rfl).fr 3 _ rfl
 have c1_4 := (K0.at_ 1 rfl).at_ 4 _ rfl
 have f1_4 := (K0.at_ 1 rfl).fr 4 _ rfl
 have c1_5 := (K0.at_ 1 rfl).at_ 5 _ rfl
 have f1_5 := (K0.at_ 1 rfl).fr 5 _ rfl
 replace K0 := Lib.hid K0
 go_enter Tryz.func146, Tryz.ntmps146
 go_wp2_with fail
 have K := K0.out
 (try simp only [Exit.inBlock, Exit.then])
 refine bodyPost_ret (v := .agg #[.int .i64 2, .float .f64 pe, .int .i64 0, .float .f64 ti, .int .i64 2, .float .f64 no]) ?_ rfl ⟨rfl, ?_⟩
 · rw [results_cell1 rfl]; go_simp
 · exact K.old
theorem ix0 (a b c : Nat) (w : World) : (Instr.index 158 (.agg #[.int .i64 2, .float .f64 a, .int .i64 0, .float .f64 b, .int .i64 2, .float .f64 c]) (.int .i64 0)).run Tryz.prog w = .ok (.agg #[.int .i64 2, .float .f64 a]) w := by rfl
theorem ix1 (a b c : Nat) (w : World) : (Instr.index 158 (.agg #[.int .i64 2, .float .f64 a, .int .i64 0, .float .f64 b, .int .i64 2, .float .f64 c]) (.int .i64 1)).run Tryz.prog w = .ok (.agg #[.int .i64 0, .float .f64 b]) w := by rfl
theorem ix2 (a b c : Nat) (w : World) : (Instr.index 158 (.agg #[.int .i64 2, .float .f64 a, .int .i64 0, .float .f64 b, .int .i64 2, .float .f64 c]) (.int .i64 2)).run Tryz.prog w = .ok (.agg #[.int .i64 2, .float .f64 c]) w := by rfl
theorem oturned_run {o : Ob} {v : V3} (h : ObW o) (hO : ObOk o) (hv : W3 v) (w : World) : Calls Tryz.prog 107 #[obV o, vecV v] w fun e w' => e = .returned (vecE (laidR (turnsO o) v).1 (laidR (turnsO o) v).2) ∧ Below w.heap.size w w' := by
 have T0 := Lib.hid (turn_o (a := 2) (by decide) (by decide) h.pe (tu_ang h.pe hO.pe))
 have T1 := Lib.hid (turn_o (a := 0) (by decide) (by decide) h.ti (tu_ang h.ti hO.ti))
 have T2 := Lib.hid (turn_o (a := 2) (by decide) (by decide) h.no (tu_ang h.no hO.no))
 clear h hO
 obtain ⟨A, hA⟩ : ∃ A, A = laidR (turnsO o) v := ⟨_, rfl⟩
 rw [← hA]
 have R0 : laidR (turnsO o) v = A := hA.symm
 clear hA
 unfold turnsO at R0
 obtain ⟨ax, ec, ti, no, pe, ph, ra⟩ := o
 obtain ⟨x1, x2, x3⟩ := v
 unfold obV vecV at *
 dsimp only at *
 have CN := Lib.hid (fun w => oturnings_run (ax := ax) (ec := ec) (ti := ti) (no := no) (pe := pe) (ph := ph) (ra := ra) w)
 have i0 := ix0 pe ti no
 have i1 := ix1 pe ti no
 have i2 := ix2 pe ti no
 replace R0 := Lib.hid R0
 replace hv := Lib.hid hv
 have K0 := kv3 w 45 41 41 [.float .f64 ax, .float .f64 ec, .float .f64 ti, .float .f64 no, .float .f64 pe, .float .f64 ph, .float .f64 ra] [.float .f64 x1, .float .f64 x2, .float .f64 x3] [.float .f64 0, .float .f64 0, .float .f64 0]
 simp only [objV] at K0
 have hst := @fstore
 replace K0 := Lib.hid K0
 go_enter Tryz.func107, Tryz.ntmps107
 go_wp2_with fail
 have K := K0.out
 clear K0
 generalize ((w.alloc _).alloc _).alloc _ = wr at *
 refine (CN.out wr).mono ?_
 rintro _ v1 ⟨rfl, hb⟩
 replace K := K.on hb
 clear hb
 replace K := Lib.hid K
 go_wp2_with fail
 replace K := K.out
 go_loopw [12] (fun iv wr => ∃ (i : Int) (p1 p2 p3 : Nat), iv = .int .i64 i ∧ W3 (p1, p2, p3) ∧ ((i = 0 ∧ laidR [(2, pe), (0, ti), (2, no)] (p1, p2, p3) = A) ∨ (i = 1 ∧ laidR [(0, ti), (2, no)] (p1, p2, p3) = A) ∨ (i = 2 ∧ laidR [(2, no)] (p1, p2, p3) = A) ∨ (i = 3 ∧ laidR [] (p1, p2, p3) = A)) ∧ Kv w [some (w.heap.size, [.float .f64 ax, .float .f64 ec, .float .f64 ti, .float .f64 no, .float .f64 pe, .float .f64 ph, .float .f64 ra]), some (w.heap.size + 1, [.float .f64 p1, .float .f64 p2, .float .f64 p3]), some (w.heap.size + 1 + 1, [.float .f64 0, .float .f64 0, .float .f64 0])] wr) (fun iv _ => (3 - intOf iv).toNat)
 case atStart => exact ⟨0, x1, x2, x3, rfl, hv.out, .inl ⟨rfl, R0.out⟩, K⟩
 case round =>
  obtain ⟨i, p1, p2, p3, rfl, hw, hi, K⟩ := hrel
  rcases hi with ⟨rfl, R1⟩ | ⟨rfl, R1⟩ | ⟨rfl, R1⟩ | ⟨rfl, R1⟩
  · have CT := Lib.hid T0.out.own
    have CP := fun w => vapply_any T0.out.w hw w
    have YW := (ans_apply T0.out.w hw).w
    have G1 := laid_ok R1
    have G2 := laid_no R1
    clear R1 T0 T1 T2
    dsimp only at G1 G2
    generalize hY : applyR (turnW 2 pe) (p1, p2, p3) = Y at *
    clear hY
    generalize turnW 2 pe = M at *
    obtain ⟨⟨m0, m1, m2⟩, ⟨m3, m4, m5⟩, ⟨m6, m7, m8⟩⟩ := M
    obtain ⟨⟨y1, y2, y3⟩, k⟩ := Y
    unfold matE vecE at *
    unfold matV at CT CP
    unfold vecV at CP
    dsimp only at *
    replace CP := Lib.hid CP
    replace YW := Lib.hid YW
    replace hw := Lib.hid hw
    by_cases hk : k = 0
    · subst hk
      replace G1 := Lib.hid (G1 rfl)
      clear G2
      replace K := K.new 157 [.int .i64 2, .float .f64 pe]
      simp only [objV, List.cons_append, List.nil_append] at K
      have c3_0 := (K.at_ 3 rfl).at_ 0 _ rfl
      have c3_1 := (K.at_ 3 rfl).at_ 1 _ rfl
      replace K := Lib.hid K
      go_wp2_with fail
      replace K := K.out
      generalize wr.alloc _ = u0 at *
      generalize wr.heap.size = g0 at *
      refine (CT.out u0).mono ?_
      rintro _ v1 ⟨rfl, hb⟩
      clear c3_0 c3_1
      replace K := K.on hb
      clear hb
      replace K := K.new 144 [.float .f64 m0, .float .f64 m1, .float .f64 m2, .float .f64 m3, .float .f64 m4, .float .f64 m5, .float .f64 m6, .float .f64 m7, .float .f64 m8]
      simp only [objV, List.cons_append, List.nil_append] at K
      have c4_0 := (K.at_ 4 rfl).at_ 0 _ rfl
      have c4_1 := (K.at_ 4 rfl).at_ 1 _ rfl
      have c4_2 := (K.at_ 4 rfl).at_ 2 _ rfl
      have c4_3 := (K.at_ 4 rfl).at_ 3 _ rfl
      have c4_4 := (K.at_ 4 rfl).at_ 4 _ rfl
      have c4_5 := (K.at_ 4 rfl).at_ 5 _ rfl
      have c4_6 := (K.at_ 4 rfl).at_ 6 _ rfl
      have c4_7 := (K.at_ 4 rfl).at_ 7 _ rfl
      have c4_8 := (K.at_ 4 rfl).at_ 8 _ rfl
      have c1_0 := (K.at_ 1 rfl).at_ 0 _ rfl
      have c1_1 := (K.at_ 1 rfl).at_ 1 _ rfl
      have c1_2 := (K.at_ 1 rfl).at_ 2 _ rfl
      replace K := Lib.hid K
      go_wp2_with fail
      replace K := K.out
      generalize v1.alloc _ = u1 at *
      generalize v1.heap.size = g1 at *
      refine (CP.out u1).mono ?_
      rintro _ v2 ⟨rfl, hb⟩
      clear c4_0 c4_1 c4_2 c4_3 c4_4 c4_5 c4_6 c4_7 c4_8 c1_0 c1_1 c1_2
      replace K := K.on hb
      clear hb
      have c1_0 := (K.at_ 1 rfl).at_ 0 _ rfl
      have f1_0 := (K.at_ 1 rfl).fr 0 _ rfl
      have c1_1 := (K.at_ 1 rfl).at_ 1 _ rfl
      have f1_1 := (K.at_ 1 rfl).fr 1 _ rfl
      have c1_2 := (K.at_ 1 rfl).at_ 2 _ rfl
      have f1_2 := (K.at_ 1 rfl).fr 2 _ rfl
      replace K := K.put 1 rfl 0 [.float .f64 y1, .float .f64 y2, .float .f64 y3] (by simp)
      simp only [putV, setV, List.set_cons_zero, List.set_cons_succ] at K
      replace K := Lib.hid K
      go_wp2_with fail
      go_roundw
      case rel => exact ⟨1, y1, y2, y3, rfl, YW.out, .inr (.inl ⟨rfl, G1.out⟩), K.out.take 3⟩
      case measure => simp [intOf]
    · have tk : (k != 0) = true := by simpa using hk
      replace G2 := Lib.hid (G2 hk)
      clear G1 hk
      replace K := K.new 157 [.int .i64 2, .float .f64 pe]
      simp only [objV, List.cons_append, List.nil_append] at K
      have c3_0 := (K.at_ 3 rfl).at_ 0 _ rfl
      have c3_1 := (K.at_ 3 rfl).at_ 1 _ rfl
      replace K := Lib.hid K
      go_wp2_with fail
      replace K := K.out
      generalize wr.alloc _ = u0 at *
      generalize wr.heap.size = g0 at *
      refine (CT.out u0).mono ?_
      rintro _ v1 ⟨rfl, hb⟩
      clear c3_0 c3_1
      replace K := K.on hb
      clear hb
      replace K := K.new 144 [.float .f64 m0, .float .f64 m1, .float .f64 m2, .float .f64 m3, .float .f64 m4, .float .f64 m5, .float .f64 m6, .float .f64 m7, .float .f64 m8]
      simp only [objV, List.cons_append, List.nil_append] at K
      have c4_0 := (K.at_ 4 rfl).at_ 0 _ rfl
      have c4_1 := (K.at_ 4 rfl).at_ 1 _ rfl
      have c4_2 := (K.at_ 4 rfl).at_ 2 _ rfl
      have c4_3 := (K.at_ 4 rfl).at_ 3 _ rfl
      have c4_4 := (K.at_ 4 rfl).at_ 4 _ rfl
      have c4_5 := (K.at_ 4 rfl).at_ 5 _ rfl
      have c4_6 := (K.at_ 4 rfl).at_ 6 _ rfl
      have c4_7 := (K.at_ 4 rfl).at_ 7 _ rfl
      have c4_8 := (K.at_ 4 rfl).at_ 8 _ rfl
      have c1_0 := (K.at_ 1 rfl).at_ 0 _ rfl
      have c1_1 := (K.at_ 1 rfl).at_ 1 _ rfl
      have c1_2 := (K.at_ 1 rfl).at_ 2 _ rfl
      replace K := Lib.hid K
      go_wp2_with fail
      replace K := K.out
      generalize v1.alloc _ = u1 at *
      generalize v1.heap.size = g1 at *
      refine (CP.out u1).mono ?_
      rintro _ v2 ⟨rfl, hb⟩
      clear c4_0 c4_1 c4_2 c4_3 c4_4 c4_5 c4_6 c4_7 c4_8 c1_0 c1_1 c1_2
      replace K := K.on hb
      clear hb
      have c1_0 := (K.at_ 1 rfl).at_ 0 _ rfl
      have f1_0 := (K.at_ 1 rfl).fr 0 _ rfl
      have c1_1 := (K.at_ 1 rfl).at_ 1 _ rfl
      have f1_1 := (K.at_ 1 rfl).fr 1 _ rfl
      have c1_2 := (K.at_ 1 rfl).at_ 2 _ rfl
      have f1_2 := (K.at_ 1 rfl).fr 2 _ rfl
      replace K := K.put 1 rfl 0 [.float .f64 y1, .float .f64 y2, .float .f64 y3] (by simp)
      simp only [putV, setV, List.set_cons_zero, List.set_cons_succ] at K
      have c2_0 := (K.at_ 2 rfl).at_ 0 _ rfl
      have f2_0 := (K.at_ 2 rfl).fr 0 _ rfl
      have c2_1 := (K.at_ 2 rfl).at_ 1 _ rfl
      have f2_1 := (K.at_ 2 rfl).fr 1 _ rfl
      have c2_2 := (K.at_ 2 rfl).at_ 2 _ rfl
      have f2_2 := (K.at_ 2 rfl).fr 2 _ rfl
      replace K := Lib.hid K
      go_wp2_with fail
      replace K := K.out
      (try simp only [Exit.inBlock, Exit.then])
      refine bodyPost_ret (v := .tuple #[.agg #[.float .f64 0, .float .f64 0, .float .f64 0], .int .i64 k]) ?_ rfl ⟨ret_vF G2.out, ?_⟩
      · rw [results_cell_tmp rfl]; go_simp
      · exact (((K.old).setCell (by first | exact Nat.le_refl _ | (dsimp only; omega)) _).setCell (by first | exact Nat.le_refl _ | (dsimp only; omega)) _).setCell (by first | exact Nat.le_refl _ | (dsimp only; omega)) _
  · have CT := Lib.hid T1.out.own
    have CP := fun w => vapply_any T1.out.w hw w
    have YW := (ans_apply T1.out.w hw).w
    have G1 := laid_ok R1
    have G2 := laid_no R1
    clear R1 T0 T1 T2
    dsimp only at G1 G2
    generalize hY : applyR (turnW 0 ti) (p1, p2, p3) = Y at *
    clear hY
    generalize turnW 0 ti = M at *
    obtain ⟨⟨m0, m1, m2⟩, ⟨m3, m4, m5⟩, ⟨m6, m7, m8⟩⟩ := M
    obtain ⟨⟨y1, y2, y3⟩, k⟩ := Y
    unfold matE vecE at *
    unfold matV at CT CP
    unfold vecV at CP
    dsimp only at *
    replace CP := Lib.hid CP
    replace YW := Lib.hid YW
    replace hw := Lib.hid hw
    by_cases hk : k = 0
    · subst hk
      replace G1 := Lib.hid (G1 rfl)
      clear G2
      replace K := K.new 157 [.int .i64 0, .float .f64 ti]
      simp only [objV, List.cons_append, List.nil_append] at K
      have c3_0 := (K.at_ 3 rfl).at_ 0 _ rfl
      have c3_1 := (K.at_ 3 rfl).at_ 1 _ rfl
      replace K := Lib.hid K
      go_wp2_with fail
      replace K := K.out
      generalize wr.alloc _ = u0 at *
      generalize wr.heap.size = g0 at *
      refine (CT.out u0).mono ?_
      rintro _ v1 ⟨rfl, hb⟩
      clear c3_0 c3_1
      replace K := K.on hb
      clear hb
      replace K := K.new 144 [.float .f64 m0, .float .f64 m1, .float .f64 m2, .float .f64 m3, .float .f64 m4, .float .f64 m5, .float .f64 m6, .float .f64 m7, .float .f64 m8]
      simp only [objV, List.cons_append, List.nil_append] at K
      have c4_0 := (K.at_ 4 rfl).at_ 0 _ rfl
      have c4_1 := (K.at_ 4 rfl).at_ 1 _ rfl
      have c4_2 := (K.at_ 4 rfl).at_ 2 _ rfl
      have c4_3 := (K.at_ 4 rfl).at_ 3 _ rfl
      have c4_4 := (K.at_ 4 rfl).at_ 4 _ rfl
      have c4_5 := (K.at_ 4 rfl).at_ 5 _ rfl
      have c4_6 := (K.at_ 4 rfl).at_ 6 _ rfl
      have c4_7 := (K.at_ 4 rfl).at_ 7 _ rfl
      have c4_8 := (K.at_ 4 rfl).at_ 8 _ rfl
      have c1_0 := (K.at_ 1 rfl).at_ 0 _ rfl
      have c1_1 := (K.at_ 1 rfl).at_ 1 _ rfl
      have c1_2 := (K.at_ 1 rfl).at_ 2 _ rfl
      replace K := Lib.hid K
      go_wp2_with fail
      replace K := K.out
      generalize v1.alloc _ = u1 at *
      generalize v1.heap.size = g1 at *
      refine (CP.out u1).mono ?_
      rintro _ v2 ⟨rfl, hb⟩
      clear c4_0 c4_1 c4_2 c4_3 c4_4 c4_5 c4_6 c4_7 c4_8 c1_0 c1_1 c1_2
      replace K := K.on hb
      clear hb
      have c1_0 := (K.at_ 1 rfl).at_ 0 _ rfl
      have f1_0 := (K.at_ 1 rfl).fr 0 _ rfl
      have c1_1 := (K.at_ 1 rfl).at_ 1 _ rfl
      have f1_1 := (K.at_ 1 rfl).fr 1 _ rfl
      have c1_2 := (K.at_ 1 rfl).at_ 2 _ rfl
      have f1_2 := (K.at_ 1 rfl).fr 2 _ rfl
      replace K := K.put 1 rfl 0 [.float .f64 y1, .float .f64 y2, .float .f64 y3] (by simp)
      simp only [putV, setV, List.set_cons_zero, List.set_cons_succ] at K
      replace K := Lib.hid K
      go_wp2_with fail
      go_roundw
      case rel => exact ⟨2, y1, y2, y3, rfl, YW.out, .inr (.inr (.inl ⟨rfl, G1.out⟩)), K.out.take 3⟩
      case measure => simp [intOf]
    · have tk : (k != 0) = true := by simpa using hk
      replace G2 := Lib.hid (G2 hk)
      clear G1 hk
      replace K := K.new 157 [.int .i64 0, .float .f64 ti]
      simp only [objV, List.cons_append, List.nil_append] at K
      have c3_0 := (K.at_ 3 rfl).at_ 0 _ rfl
      have c3_1 := (K.at_ 3 rfl).at_ 1 _ rfl
      replace K := Lib.hid K
      go_wp2_with fail
      replace K := K.out
      generalize wr.alloc _ = u0 at *
      generalize wr.heap.size = g0 at *
      refine (CT.out u0).mono ?_
      rintro _ v1 ⟨rfl, hb⟩
      clear c3_0 c3_1
      replace K := K.on hb
      clear hb
      replace K := K.new 144 [.float .f64 m0, .float .f64 m1, .float .f64 m2, .float .f64 m3, .float .f64 m4, .float .f64 m5, .float .f64 m6, .float .f64 m7, .float .f64 m8]
      simp only [objV, List.cons_append, List.nil_append] at K
      have c4_0 := (K.at_ 4 rfl).at_ 0 _ rfl
      have c4_1 := (K.at_ 4 rfl).at_ 1 _ rfl
      have c4_2 := (K.at_ 4 rfl).at_ 2 _ rfl
      have c4_3 := (K.at_ 4 rfl).at_ 3 _ rfl
      have c4_4 := (K.at_ 4 rfl).at_ 4 _ rfl
      have c4_5 := (K.at_ 4 rfl).at_ 5 _ rfl
      have c4_6 := (K.at_ 4 rfl).at_ 6 _ rfl
      have c4_7 := (K.at_ 4 rfl).at_ 7 _ rfl
      have c4_8 := (K.at_ 4 rfl).at_ 8 _ rfl
      have c1_0 := (K.at_ 1 rfl).at_ 0 _ rfl
      have c1_1 := (K.at_ 1 rfl).at_ 1 _ rfl
      have c1_2 := (K.at_ 1 rfl).at_ 2 _ rfl
      replace K := Lib.hid K
      go_wp2_with fail
      replace K := K.out
      generalize v1.alloc _ = u1 at *
      generalize v1.heap.size = g1 at *
      refine (CP.out u1).mono ?_
      rintro _ v2 ⟨rfl, hb⟩
      clear c4_0 c4_1 c4_2 c4_3 c4_4 c4_5 c4_6 c4_7 c4_8 c1_0 c1_1 c1_2
      replace K := K.on hb
      clear hb
      have c1_0 := (K.at_ 1 rfl).at_ 0 _ rfl
      have f1_0 := (K.at_ 1 rfl).fr 0 _ rfl
      have c1_1 := (K.at_ 1 rfl).at_ 1 _ rfl
      have f1_1 := (K.at_ 1 rfl).fr 1 _ rfl
      have c1_2 := (K.at_ 1 rfl).at_ 2 _ rfl
      have f1_2 := (K.at_ 1 rfl).fr 2 _ rfl
      replace K := K.put 1 rfl 0 [.float .f64 y1, .float .f64 y2, .float .f64 y3] (by simp)
      simp only [putV, setV, List.set_cons_zero, List.set_cons_succ] at K
      have c2_0 := (K.at_ 2 rfl).at_ 0 _ rfl
      have f2_0 := (K.at_ 2 rfl).fr 0 _ rfl
      have c2_1 := (K.at_ 2 rfl).at_ 1 _ rfl
      have f2_1 := (K.at_ 2 rfl).fr 1 _ rfl
      have c2_2 := (K.at_ 2 rfl).at_ 2 _ rfl
      have f2_2 := (K.at_ 2 rfl).fr 2 _ rfl
      replace K := Lib.hid K
      go_wp2_with fail
      replace K := K.out
      (try simp only [Exit.inBlock, Exit.then])
      refine bodyPost_ret (v := .tuple #[.agg #[.float .f64 0, .float .f64 0, .float .f64 0], .int .i64 k]) ?_ rfl ⟨ret_vF G2.out, ?_⟩
      · rw [results_cell_tmp rfl]; go_simp
      · exact (((K.old).setCell (by first | exact Nat.le_refl _ | (dsimp only; omega)) _).setCell (by first | exact Nat.le_refl _ | (dsimp only; omega)) _).setCell (by first | exact Nat.le_refl _ | (dsimp only; omega)) _
  · have CT := Lib.hid T2.out.own
    have CP := fun w => vapply_any T2.out.w hw w
    have YW := (ans_apply T2.out.w hw).w
    have G1 := laid_ok R1
    have G2 := laid_no R1
    clear R1 T0 T1 T2
    dsimp only at G1 G2
    generalize hY : applyR (turnW 2 no) (p1, p2, p3) = Y at *
    clear hY
    generalize turnW 2 no = M at *
    obtain ⟨⟨m0, m1, m2⟩, ⟨m3, m4, m5⟩, ⟨m6, m7, m8⟩⟩ := M
    obtain ⟨⟨y1, y2, y3⟩, k⟩ := Y
    unfold matE vecE at *
    unfold matV at CT CP
    unfold vecV at CP
    dsimp only at *
    replace CP := Lib.hid CP
    replace YW := Lib.hid YW
    replace hw := Lib.hid hw
    by_cases hk : k = 0
    · subst hk
      replace G1 := Lib.hid (G1 rfl)
      clear G2
      replace K := K.new 157 [.int .i64 2, .float .f64 no]
      simp only [objV, List.cons_append, List.nil_append] at K
      have c3_0 := (K.at_ 3 rfl).at_ 0 _ rfl
      have c3_1 := (K.at_ 3 rfl).at_ 1 _ rfl
      replace K := Lib.hid K
      go_wp2_with fail
      replace K := K.out
      generalize wr.alloc _ = u0 at *
      generalize wr.heap.size = g0 at *
      refine (CT.out u0).mono ?_
      rintro _ v1 ⟨rfl, hb⟩
      clear c3_0 c3_1
      replace K := K.on hb
      clear hb
      replace K := K.new 144 [.float .f64 m0, .float .f64 m1, .float .f64 m2, .float .f64 m3, .float .f64 m4, .float .f64 m5, .float .f64 m6, .float .f64 m7, .float .f64 m8]
      simp only [objV, List.cons_append, List.nil_append] at K
      have c4_0 := (K.at_ 4 rfl).at_ 0 _ rfl
      have c4_1 := (K.at_ 4 rfl).at_ 1 _ rfl
      have c4_2 := (K.at_ 4 rfl).at_ 2 _ rfl
      have c4_3 := (K.at_ 4 rfl).at_ 3 _ rfl
      have c4_4 := (K.at_ 4 rfl).at_ 4 _ rfl
      have c4_5 := (K.at_ 4 rfl).at_ 5 _ rfl
      have c4_6 := (K.at_ 4 rfl).at_ 6 _ rfl
      have c4_7 := (K.at_ 4 rfl).at_ 7 _ rfl
      have c4_8 := (K.at_ 4 rfl).at_ 8 _ rfl
      have c1_0 := (K.at_ 1 rfl).at_ 0 _ rfl
      have c1_1 := (K.at_ 1 rfl).at_ 1 _ rfl
      have c1_2 := (K.at_ 1 rfl).at_ 2 _ rfl
      replace K := Lib.hid K
      go_wp2_with fail
      replace K := K.out
      generalize v1.alloc _ = u1 at *
      generalize v1.heap.size = g1 at *
      refine (CP.out u1).mono ?_
      rintro _ v2 ⟨rfl, hb⟩
      clear c4_0 c4_1 c4_2 c4_3 c4_4 c4_5 c4_6 c4_7 c4_8 c1_0 c1_1 c1_2
      replace K := K.on hb
      clear hb
      have c1_0 := (K.at_ 1 rfl).at_ 0 _ rfl
      have f1_0 := (K.at_ 1 rfl).fr 0 _ rfl
      have c1_1 := (K.at_ 1 rfl).at_ 1 _ rfl
      have f1_1 := (K.at_ 1 rfl).fr 1 _ rfl
      have c1_2 := (K.at_ 1 rfl).at_ 2 _ rfl
      have f1_2 := (K.at_ 1 rfl).fr 2 _ rfl
      replace K := K.put 1 rfl 0 [.float .f64 y1, .float .f64 y2, .float .f64 y3] (by simp)
      simp only [putV, setV, List.set_cons_zero, List.set_cons_succ] at K
      replace K := Lib.hid K
      go_wp2_with fail
      go_roundw
      case rel => exact ⟨3, y1, y2, y3, rfl, YW.out, .inr (.inr (.inr (⟨rfl, G1.out⟩))), K.out.take 3⟩
      case measure => simp [intOf]
    · have tk : (k != 0) = true := by simpa using hk
      replace G2 := Lib.hid (G2 hk)
      clear G1 hk
      replace K := K.new 157 [.int .i64 2, .float .f64 no]
      simp only [objV, List.cons_append, List.nil_append] at K
      have c3_0 := (K.at_ 3 rfl).at_ 0 _ rfl
      have c3_1 := (K.at_ 3 rfl).at_ 1 _ rfl
      replace K := Lib.hid K
      go_wp2_with fail
      replace K := K.out
      generalize wr.alloc _ = u0 at *
      generalize wr.heap.size = g0 at *
      refine (CT.out u0).mono ?_
      rintro _ v1 ⟨rfl, hb⟩
      clear c3_0 c3_1
      replace K := K.on hb
      clear hb
      replace K := K.new 144 [.float .f64 m0, .float .f64 m1, .float .f64 m2, .float .f64 m3, .float .f64 m4, .float .f64 m5, .float .f64 m6, .float .f64 m7, .float .f64 m8]
      simp only [objV, List.cons_append, List.nil_append] at K
      have c4_0 := (K.at_ 4 rfl).at_ 0 _ rfl
      have c4_1 := (K.at_ 4 rfl).at_ 1 _ rfl
      have c4_2 := (K.at_ 4 rfl).at_ 2 _ rfl
      have c4_3 := (K.at_ 4 rfl).at_ 3 _ rfl
      have c4_4 := (K.at_ 4 rfl).at_ 4 _ rfl
      have c4_5 := (K.at_ 4 rfl).at_ 5 _ rfl
      have c4_6 := (K.at_ 4 rfl).at_ 6 _ rfl
      have c4_7 := (K.at_ 4 rfl).at_ 7 _ rfl
      have c4_8 := (K.at_ 4 rfl).at_ 8 _ rfl
      have c1_0 := (K.at_ 1 rfl).at_ 0 _ rfl
      have c1_1 := (K.at_ 1 rfl).at_ 1 _ rfl
      have c1_2 := (K.at_ 1 rfl).at_ 2 _ rfl
      replace K := Lib.hid K
      go_wp2_with fail
      replace K := K.out
      generalize v1.alloc _ = u1 at *
      generalize v1.heap.size = g1 at *
      refine (CP.out u1).mono ?_
      rintro _ v2 ⟨rfl, hb⟩
      clear c4_0 c4_1 c4_2 c4_3 c4_4 c4_5 c4_6 c4_7 c4_8 c1_0 c1_1 c1_2
      replace K := K.on hb
      clear hb
      have c1_0 := (K.at_ 1 rfl).at_ 0 _ rfl
      have f1_0 := (K.at_ 1 rfl).fr 0 _ rfl
      have c1_1 := (K.at_ 1 rfl).at_ 1 _ rfl
      have f1_1 := (K.at_ 1 rfl).fr 1 _ rfl
      have c1_2 := (K.at_ 1 rfl).at_ 2 _ rfl
      have f1_2 := (K.at_ 1 rfl).fr 2 _ rfl
      replace K := K.put 1 rfl 0 [.float .f64 y1, .float .f64 y2, .float .f64 y3] (by simp)
      simp only [putV, setV, List.set_cons_zero, List.set_cons_succ] at K
      have c2_0 := (K.at_ 2 rfl).at_ 0 _ rfl
      have f2_0 := (K.at_ 2 rfl).fr 0 _ rfl
      have c2_1 := (K.at_ 2 rfl).at_ 1 _ rfl
      have f2_1 := (K.at_ 2 rfl).fr 1 _ rfl
      have c2_2 := (K.at_ 2 rfl).at_ 2 _ rfl
      have f2_2 := (K.at_ 2 rfl).fr 2 _ rfl
      replace K := Lib.hid K
      go_wp2_with fail
      replace K := K.out
      (try simp only [Exit.inBlock, Exit.then])
      refine bodyPost_ret (v := .tuple #[.agg #[.float .f64 0, .float .f64 0, .float .f64 0], .int .i64 k]) ?_ rfl ⟨ret_vF G2.out, ?_⟩
      · rw [results_cell_tmp rfl]; go_simp
      · exact (((K.old).setCell (by first | exact Nat.le_refl _ | (dsimp only; omega)) _).setCell (by first | exact Nat.le_refl _ | (dsimp only; omega)) _).setCell (by first | exact Nat.le_refl _ | (dsimp only; omega)) _
  · have fin : ((p1, p2, p3), (0 : Int)) = A := R1
    replace fin := Lib.hid fin
    clear R1
    have c1_0 := (K.at_ 1 rfl).at_ 0 _ rfl
    have c1_1 := (K.at_ 1 rfl).at_ 1 _ rfl
    have c1_2 := (K.at_ 1 rfl).at_ 2 _ rfl
    have c2_0 := (K.at_ 2 rfl).at_ 0 _ rfl
    have f2_0 := (K.at_ 2 rfl).fr 0 _ rfl
    have c2_1 := (K.at_ 2 rfl).at_ 1 _ rfl
    have f2_1 := (K.at_ 2 rfl).fr 1 _ rfl
    have c2_2 := (K.at_ 2 rfl).at_ 2 _ rfl
    have f2_2 := (K.at_ 2 rfl).fr 2 _ rfl
    replace K := Lib.hid K
    go_wp2_with fail
    replace K := K.out
    (try simp only [Exit.inBlock, Exit.then])
    refine bodyPost_ret (v := .tuple #[.agg #[.float .f64 p1, .float .f64 p2, .float .f64 p3], .int .i64 0]) ?_ rfl ⟨ret_vF fin.out, ?_⟩
    · rw [results_cell_tmp rfl]; go_simp
    · exact (((K.old).setCell (by first | exact Nat.le_refl _ | (dsimp only; omega)) _).setCell (by first | exact Nat.le_refl _ | (dsimp only; omega)) _).setCell (by first | exact Nat.le_refl _ | (dsimp only; omega)) _
end Go.Proofs.YtacinenddnfcbaaGreat

namespace Go.Proofs.YtacinenddnfcbaaGreat
open Go.ChangeShapes Go.WideShapes Go.ChangeAt Go.RowKit Ieee.Own Pol

theorem q_abs {x : Nat} (h : mag (Q x) ≤ 4398046511104) : (V x).natAbs ≤ 2 ^ 1116 := by
 have m := mag_le (Q x)
 have q1 : Q 4796333603149578240 = 4398046511104 := by decide +kernel
 have q2 : Q 14019705640004354048 = -4398046511104 := by decide +kernel
 have v1 : V 4796333603149578240 = 2 ^ 1116 := by decide +kernel
 have v2 : V 14019705640004354048 = -(2 ^ 1116) := by decide +kernel
 have a : V x ≤ V 4796333603149578240 := Q_le.1 (by rw [q1]; grind)
 have b : V 14019705640004354048 ≤ V x := Q_le.1 (by rw [q2]; grind)
 rw [v1] at a
 rw [v2] at b
 have ce : ((2 ^ 1116 : Nat) : Int) = 2 ^ 1116 := Int.natCast_pow 2 1116
 omega
theorem obroughtB {x : Nat} (hx : FinW x) (w : World) : Calls Tryz.prog 106 #[.float .f64 x] w fun e w' => e = .returned (.float .f64 (oW x)) ∧ Below w.heap.size w w' := (obrought_run hx w).mono fun e w' h => ⟨h.1, by rw [← h.2]; exact Below.refl _ _⟩
noncomputable def plaV (o : Ob) (x : Nat) : V3 := (oW (plX o.ax o.ec (tC x)), oW (plY o.ax o.ec (tS x)), 0)
noncomputable def placeW (o : Ob) (d : Nat) : Nat := solV o.ec (meanW o d)
noncomputable def atR (o : Ob) (d : Nat) : V3 × Int := if readyO o (witB g24 d) = 0 then laidR (turnsO o) (plaV o (placeW o d)) else (z3, readyO o (witB g24 d))
theorem axi_of {o : Ob} (h : ObW o) (hO : ObOk o) : Axi o.ax := by
 obtain ⟨f, g, a, b⟩ := btw_of h.ax hO.ax
 have q1 : Q axLo = 1 / 1048576 := by decide +kernel
 have q2 : Q axHi = 1099511627776 := by decide +kernel
 exact ⟨h.ax, g, by rw [← q1]; exact Q_le.2 a, by rw [← q2]; exact Q_le.2 b⟩
theorem ecc_of {e : Nat} (he : e < 18446744073709551616) (h : ecB e = true) : fitB e = true ∧ 0 ≤ Q e ∧ Q e ≤ 7 / 8 := by
 obtain ⟨f, g, a, b⟩ := btw_of he h
 have q : Q ecHi = 7 / 8 := by decide +kernel
 rw [V_zero] at a
 exact ⟨g, Q_nn.2 a, by rw [← q]; exact Q_le.2 b⟩
theorem sol_wd {e m : Nat} (he : e < 18446744073709551616) (hm : m < 18446744073709551616) (e1 : ecB e = true) (m1 : haB m = true) : FinW (plcW (kepW e) m) ∧ Ang (solV e m) ∧ errA (solV e m) = 0 := by
 obtain ⟨-, K, q⟩ := kp_ec he hm e1 m1
 obtain ⟨w, -⟩ := kepler_end K q
 have w5 : Wd (plcW (kepW e) m) 400 1075 := w.le (Nat.le_refl _) (by omega)
 exact ⟨w.fin, (oW_ang w5).1, (oW_ang w5).2⟩
structure AtS (o : Ob) (d : Nat) : Prop where
 ha : haB (meanW o d) = true
 lt : meanW o d < 18446744073709551616
 ang : Ang (placeW o d)
 er : errA (placeW o d) = 0
 roo : Roo o.ec
 pla : Pla o.ax o.ec (tS (placeW o d)) (tC (placeW o d))
 sx : (V (plX o.ax o.ec (tC (placeW o d)))).natAbs ≤ 2 ^ 1116
 sy : (V (plY o.ax o.ec (tS (placeW o d)))).natAbs ≤ 2 ^ 1116
 w : W3 (plaV o (placeW o d))
theorem at_of {o : Ob} {d : Nat} (h : ObW o) (hO : ObOk o) (hd : d < 18446744073709551616) (t : witB g24 d = true) : AtS o d := by
 have P := pos_of h hd hO.ph hO.ra t
 have L := lef_of P.left
 have m1 := mean_ha L
 have ml := (oW_nz L.fin).fin.1
 obtain ⟨pf, A, e⟩ := sol_wd h.ec ml hO.ec m1
 obtain ⟨g, e0, e1⟩ := ecc_of h.ec hO.ec
 have X := axi_of h hO
 have R := roo_of h.ec g e0 e1
 have Pl := pla_of X h.ec g e0 e1 A
 have hi := X.hi
 refine ⟨m1, ml, A, e, R, Pl, q_abs ?_, q_abs ?_, ⟨(oW_nz Pl.fx).fin.1, (oW_nz Pl.fy).fin.1, show 0 < 18446744073709551616 by decide⟩⟩
 · have := Pl.bx; exact Rat.le_trans this (by grind)
 · have := Pl.by_; exact Rat.le_trans this (by grind)
theorem oat_ok {ax ec ti no pe ph ra d m x s c q t b h1 h2 j1 j2 y1 y2 q1 q2 q3 : Nat} {k : Int} (CM : Hid (∀ w, Calls Tryz.prog 102 #[.agg #[.float .f64 ax, .float .f64 ec, .float .f64 ti, .float .f64 no, .float .f64 pe, .float .f64 ph, .float .f64 ra], .float .f64 d] w fun e w' => e = .returned (.tuple #[.float .f64 m, .int .i64 0]) ∧ Below w.heap.size w w')) (CS : Hid (∀ w, Calls Tryz.prog 103 #[.float .f64 ec, .float .f64 m] w fun e w' => e = .returned (.tuple #[.float .f64 x, .int .i64 0]) ∧ Below w.heap.size w w')) (CB : Hid (∀ w, Calls Tryz.prog 104 #[.float .f64 x] w fun e w' => e = .returned (.tuple #[.float .f64 s, .float .f64 c, .int .i64 0]) ∧ Below w.heap.size w w')) (r1 : ∀ ty w, (binOp .mul ty (.float .f64 ec) (.float .f64 ec)).run Tryz.prog w = .ok (.float .f64 q) w) (r2 : ∀ ty w, (binOp .sub ty (.float .f64 4607182418800017408) (.float .f64 q)).run Tryz.prog w = .ok (.float .f64 t) w) (CR : ∀ w, Calls Tryz.prog 105 #[.float .f64 t] w fun e w' => e = .returned (.float .f64 b) ∧ w = w') (a1 : ∀ ty w, (binOp .sub ty (.float .f64 c) (.float .f64 ec)).run Tryz.prog w = .ok (.float .f64 h1) w) (a2 : ∀ ty w, (binOp .mul ty (.float .f64 ax) (.float .f64 h1)).run Tryz.prog w = .ok (.float .f64 h2) w) (b1 : ∀ ty w, (binOp .mul ty (.float .f64 ax) (.float .f64 b)).run Tryz.prog w = .ok (.float .f64 j1) w) (b2 : ∀ ty w, (binOp .mul ty (.float .f64 j1) (.float .f64 s)).run Tryz.prog w = .ok (.float .f64 j2) w) (BX : Hid (∀ w, Calls Tryz.prog 106 #[.float .f64 h2] w fun e w' => e = .returned (.float .f64 y1) ∧ Below w.heap.size w w')) (BY : Hid (∀ w, Calls Tryz.prog 106 #[.float .f64 j2] w fun e w' => e = .returned (.float .f64 y2) ∧ Below w.heap.size w w')) (CT : Hid (∀ w, Calls Tryz.prog 107 #[.agg #[.float .f64 ax, .float .f64 ec, .float .f64 ti, .float .f64 no, .float .f64 pe, .float .f64 ph, .float .f64 ra], .agg #[.float .f64 y1, .float .f64 y2, .float .f64 0]] w fun e w' => e = .returned (.tuple #[.agg #[.float .f64 q1, .float .f64 q2, .float .f64 q3], .int .i64 k]) ∧ Below w.heap.size w w')) (w : World) : Calls Tryz.prog 57 #[.agg #[.float .f64 ax, .float .f64 ec, .float .f64 ti, .float .f64 no, .float .f64 pe, .float .f64 ph, .float .f64 ra], .float .f64 d] w fun e w' => e = .returned (.tuple #[.agg #[.float .f64 q1, .float .f64 q2, .float .f64 q3], .int .i64 k]) ∧ Below w.heap.size w w' := by
 have K0 := kv2 w 45 41 [.float .f64 ax, .float .f64 ec, .float .f64 ti, .float .f64 no, .float .f64 pe, .float .f64 ph, .float .f64 ra] [.float .f64 0, .float .f64 0, .float .f64 0]
 simp only [objV] at K0
 have hst := @fstore
 replace K0 := Lib.hid K0
 go_enter Tryz.func57, Tryz.ntmps57
 go_wp2_with fail
 have K := K0.out
 clear K0
 generalize (w.alloc _).alloc _ = wr at *
 refine (CM.out wr).mono ?_
 rintro _ v1 ⟨rfl, hb⟩
 replace K := K.on hb
 clear hb
 have c0_1 := (K.at_ 0 rfl).at_ 1 _ rfl
 replace K := Lib.hid K
 go_wp2_with fail
 replace K := K.out
 refine (CS.out v1).mono ?_
 rintro _ v2 ⟨rfl, hb⟩
 clear c0_1
 replace K := K.on hb
 clear hb
 replace K := Lib.hid K
 go_wp2_with fail
 replace K := K.out
 refine (CB.out v2).mono ?_
 rintro _ v3 ⟨rfl, hb⟩
 replace K := K.on hb
 clear hb
 have c0_1 := (K.at_ 0 rfl).at_ 1 _ rfl
 replace K := Lib.hid K
 go_upto_region 11 with (go_at_call 105; ((with_reducible refine (CR _).mono ?_); rintro e w' ⟨rfl, rfl⟩))
 replace K := K.out
 clear c0_1
 replace K := K.more
 simp only [List.cons_append, List.nil_append] at K
 generalize hds : ([some 51, some 52, some 53, some 54, some 55, some 56, some 57, some 58, some 59, some 60, some 61, some 62, some 63, some 64, some 65, some 66, some 12, none] : List (Option Tmp)) = ds
 have hap : apartL ds = true := by rw [← hds]; decide
 replace hds := hds.symm
 refine wp_region_kv (fun hf => [some (w.heap.size, [.float .f64 ax, .float .f64 ec, .float .f64 ti, .float .f64 no, .float .f64 pe, .float .f64 ph, .float .f64 ra]), some (w.heap.size + 1, [.float .f64 0, .float .f64 0, .float .f64 0]), some (hf 16, [.float .f64 y1, .float .f64 y2, .float .f64 0])]) (fun hf => [some (.pointer (some ⟨w.heap.size, 0, none⟩)), some (.float .f64 ax), some (.float .f64 c), some (.pointer (some ⟨w.heap.size, 1, none⟩)), some (.float .f64 ec), some (.float .f64 h1), some (.float .f64 h2), some (.float .f64 y1), some (.pointer (some ⟨w.heap.size, 0, none⟩)), some (.float .f64 ax), some (.float .f64 b), some (.float .f64 j1), some (.float .f64 s), some (.float .f64 j2), some (.float .f64 y2), some (.agg #[.float .f64 y1, .float .f64 y2, .float .f64 0]), some (ptrV (hf 16)), some (undef)]) [⟨16, 2, 41, [.float .f64 0, .float .f64 0, .float .f64 0]⟩] [⟨17, 2, 0, [.float .f64 y1, .float .f64 y2, .float .f64 0]⟩] [.pointer (some ⟨w.heap.size, 0, none⟩), .float .f64 ax, .float .f64 c, .pointer (some ⟨w.heap.size, 1, none⟩), .float .f64 ec, .float .f64 h1, .float .f64 h2, .float .f64 y1, .pointer (some ⟨w.heap.size, 0, none⟩), .float .f64 ax, .float .f64 b, .float .f64 j1, .float .f64 s, .float .f64 j2, .float .f64 y2, .agg #[.float .f64 y1, .float .f64 y2, .float .f64 0], undef, undef] ds (by kernel_rfl) (by rw [hds]; rfl) hap (by decide +kernel) (by decide +kernel) K ?ha ?haj ?hai ?hsi ?hss ?hsa ?hsw ?htg ?hE2 ?hE3 ?hE4 ?hL1 ?hL2 ?hL3 ?alloc ?step ?store ?fin
 case ha => intro al hal; rcases List.mem_singleton.1 hal with rfl <;> rfl
 case haj => intro al hal al' hal' e; rcases List.mem_singleton.1 hal with rfl <;> (rcases List.mem_singleton.1 hal' with rfl) <;> first | rfl | (exfalso; revert e; simp)
 case hai => intro al hal; rcases List.mem_singleton.1 hal with rfl <;> decide
 case hsi => intro st hst st' hst' e; rcases List.mem_singleton.1 hst with rfl <;> (rcases List.mem_singleton.1 hst' with rfl) <;> first | rfl | (exfalso; revert e; simp)
 case hss =>
  intro st hst
  rcases List.mem_singleton.1 hst with rfl
  · show 17 < 18; decide
 case hsa =>
  intro st hst al hal
  rcases List.mem_singleton.1 hst with rfl
  · rcases List.mem_singleton.1 hal with rfl
    · exact (show ¬ (17 = 16) by decide)
 case hsw =>
  intro st hst al hal e
  rcases List.mem_singleton.1 hst with rfl
  · rcases List.mem_singleton.1 hal with rfl
    · change waitsAt _ 17 16 = true; decide +kernel
 case htg =>
  intro st hst
  rcases List.mem_singleton.1 hst with rfl
  · exact .inr ⟨_, List.mem_cons_self .., rfl, show 0 + 3 ≤ 3 by decide⟩
 case hE2 =>
  intro hf j h1 h2
  have n2 : 2 ≠ j := h1 _ (List.mem_cons_self ..)
  rcases j with _ | _ | _ | j
  · rfl
  · rfl
  · exact absurd rfl n2
  · rfl
 case hE3 =>
  intro hf st hst g us e
  rcases List.mem_singleton.1 hst with rfl
  · simp at e
 case hE4 =>
  intro hf al hal
  rcases List.mem_singleton.1 hal with rfl
  · refine ⟨fun st hst e => ?_, fun h => absurd rfl (h _ (List.mem_cons_self ..))⟩
    rcases List.mem_singleton.1 hst with rfl
    · rfl
 case hL1 => intro hf; rfl
 case hL2 =>
  intro hf i hi hna
  have hi : i < 18 := hi
  have : i = 0 ∨ i = 1 ∨ i = 2 ∨ i = 3 ∨ i = 4 ∨ i = 5 ∨ i = 6 ∨ i = 7 ∨ i = 8 ∨ i = 9 ∨ i = 10 ∨ i = 11 ∨ i = 12 ∨ i = 13 ∨ i = 14 ∨ i = 15 ∨ i = 16 ∨ i = 17 := by omega
  rcases this with rfl | rfl | rfl | rfl | rfl | rfl | rfl | rfl | rfl | rfl | rfl | rfl | rfl | rfl | rfl | rfl | rfl | rfl
  · rfl
  · rfl
  · rfl
  · rfl
  · rfl
  · rfl
  · rfl
  · rfl
  · rfl
  · rfl
  · rfl
  · rfl
  · rfl
  · rfl
  · rfl
  · rfl
  · exact absurd rfl (hna _ (List.mem_cons_self ..))
  · rfl
 case hL3 => intro hf al hal; rcases List.mem_singleton.1 hal with rfl <;> rfl
 case alloc =>
  intro al hal o ρ W ho
  rcases List.mem_singleton.1 hal with rfl
  · obtain rfl := Option.some.inj ho; unfold execOp ptrV objV; go_simp
 case step =>
  intro L W i o ho hs ha hd hB hO
  have hi : i < 18 := (Array.getElem?_eq_some_iff.1 ho).1
  have : i = 0 ∨ i = 1 ∨ i = 2 ∨ i = 3 ∨ i = 4 ∨ i = 5 ∨ i = 6 ∨ i = 7 ∨ i = 8 ∨ i = 9 ∨ i = 10 ∨ i = 11 ∨ i = 12 ∨ i = 13 ∨ i = 14 ∨ i = 15 ∨ i = 16 ∨ i = 17 := by omega
  rcases this with rfl | rfl | rfl | rfl | rfl | rfl | rfl | rfl | rfl | rfl | rfl | rfl | rfl | rfl | rfl | rfl | rfl | rfl
  · obtain rfl := Option.some.inj ho
    refine .value W ?_ (Below.refl _ _)
    generalize hA : (puts ds L _).eval = ρ
    have hc : ∀ v, ρ (.const v) = v := fun v => by rw [← hA]; rfl
    have h0 : ρ (.tmp 2) = .pointer (some ⟨w.heap.size, 0, none⟩) := (po hA (by rw [hds]; decide)).trans rfl
    clear hA hd hB ho hs ha hO
    unfold execOp
    go_simp
  · obtain rfl := Option.some.inj ho
    have b := hB 0 _ _ rfl (by
        intro st hst e
        rcases List.mem_singleton.1 hst with rfl
        · exact absurd e (show ¬ 2 = 0 by decide))
    have c0 := b.at_ 0 _ rfl
    clear b
    refine .value W ?_ (Below.refl _ _)
    generalize hA : (puts ds L _).eval = ρ
    have h0 : ρ (.tmp 51) = .pointer (some ⟨w.heap.size, 0, none⟩) := pg 0 hA hap (by rw [hds]; rfl) (hd 0 (by decide +kernel) (alne rfl)) (show 51 < 72 by decide)
    clear hA hd hB ho hs ha hO
    unfold execOp
    go_simp
  · obtain rfl := Option.some.inj ho
    refine .value W ?_ (Below.refl _ _)
    generalize hA : (puts ds L _).eval = ρ
    have hc : ∀ v, ρ (.const v) = v := fun v => by rw [← hA]; rfl
    have h0 : ρ (.tmp 10) = .float .f64 c := (po hA (by rw [hds]; decide)).trans rfl
    clear hA hd hB ho hs ha hO
    unfold execOp
    go_simp
  · obtain rfl := Option.some.inj ho
    refine .value W ?_ (Below.refl _ _)
    generalize hA : (puts ds L _).eval = ρ
    have hc : ∀ v, ρ (.const v) = v := fun v => by rw [← hA]; rfl
    have h0 : ρ (.tmp 2) = .pointer (some ⟨w.heap.size, 0, none⟩) := (po hA (by rw [hds]; decide)).trans rfl
    clear hA hd hB ho hs ha hO
    unfold execOp
    go_simp
  · obtain rfl := Option.some.inj ho
    have b := hB 0 _ _ rfl (by
        intro st hst e
        rcases List.mem_singleton.1 hst with rfl
        · exact absurd e (show ¬ 2 = 0 by decide))
    have c1 := b.at_ 1 _ rfl
    clear b
    refine .value W ?_ (Below.refl _ _)
    generalize hA : (puts ds L _).eval = ρ
    have h0 : ρ (.tmp 54) = .pointer (some ⟨w.heap.size, 1, none⟩) := pg 3 hA hap (by rw [hds]; rfl) (hd 3 (by decide +kernel) (alne rfl)) (show 54 < 72 by decide)
    clear hA hd hB ho hs ha hO
    unfold execOp
    go_simp
  · obtain rfl := Option.some.inj ho
    refine .value W ?_ (Below.refl _ _)
    generalize hA : (puts ds L _).eval = ρ
    have hc : ∀ v, ρ (.const v) = v := fun v => by rw [← hA]; rfl
    have h0 : ρ (.tmp 53) = .float .f64 c := pg 2 hA hap (by rw [hds]; rfl) (hd 2 (by decide +kernel) (alne rfl)) (show 53 < 72 by decide)
    have h1 : ρ (.tmp 55) = .float .f64 ec := pg 4 hA hap (by rw [hds]; rfl) (hd 4 (by decide +kernel) (alne rfl)) (show 55 < 72 by decide)
    clear hA hd hB ho hs ha hO
    have h9 := a1
    unfold execOp
    go_simp
  · obtain rfl := Option.some.inj ho
    refine .value W ?_ (Below.refl _ _)
    generalize hA : (puts ds L _).eval = ρ
    have hc : ∀ v, ρ (.const v) = v := fun v => by rw [← hA]; rfl
    have h0 : ρ (.tmp 52) = .float .f64 ax := pg 1 hA hap (by rw [hds]; rfl) (hd 1 (by decide +kernel) (alne rfl)) (show 52 < 72 by decide)
    have h1 : ρ (.tmp 56) = .float .f64 h1 := pg 5 hA hap (by rw [hds]; rfl) (hd 5 (by decide +kernel) (alne rfl)) (show 56 < 72 by decide)
    clear hA hd hB ho hs ha hO
    have h9 := a2
    unfold execOp
    go_simp
  · obtain rfl := Option.some.inj ho
    refine .call 106 #[.float .f64 h2] ?_ (BX.out W)
    generalize hA : (puts ds L _).eval = ρ
    have hg : ∀ g, ρ (.func g) = .func (.func g) #[] #[] := fun v => by rw [← hA]; rfl
    have h0 : ρ (.tmp 57) = .float .f64 h2 := pg 6 hA hap (by rw [hds]; rfl) (hd 6 (by decide +kernel) (alne rfl)) (show 57 < 72 by decide)
    have hf := Tryz.func106
    unfold execOp
    go_simp
  · obtain rfl := Option.some.inj ho
    refine .value W ?_ (Below.refl _ _)
    generalize hA : (puts ds L _).eval = ρ
    have hc : ∀ v, ρ (.const v) = v := fun v => by rw [← hA]; rfl
    have h0 : ρ (.tmp 2) = .pointer (some ⟨w.heap.size, 0, none⟩) := (po hA (by rw [hds]; decide)).trans rfl
    clear hA hd hB ho hs ha hO
    unfold execOp
    go_simp
  · obtain rfl := Option.some.inj ho
    have b := hB 0 _ _ rfl (by
        intro st hst e
        rcases List.mem_singleton.1 hst with rfl
        · exact absurd e (show ¬ 2 = 0 by decide))
    have c0 := b.at_ 0 _ rfl
    clear b
    refine .value W ?_ (Below.refl _ _)
    generalize hA : (puts ds L _).eval = ρ
    have h0 : ρ (.tmp 59) = .pointer (some ⟨w.heap.size, 0, none⟩) := pg 8 hA hap (by rw [hds]; rfl) (hd 8 (by decide +kernel) (alne rfl)) (show 59 < 72 by decide)
    clear hA hd hB ho hs ha hO
    unfold execOp
    go_simp
  · obtain rfl := Option.some.inj ho
    refine .value W ?_ (Below.refl _ _)
    generalize hA : (puts ds L _).eval = ρ
    have hc : ∀ v, ρ (.const v) = v := fun v => by rw [← hA]; rfl
    have h0 : ρ (.tmp 11) = .float .f64 b := (po hA (by rw [hds]; decide)).trans rfl
    clear hA hd hB ho hs ha hO
    unfold execOp
    go_simp
  · obtain rfl := Option.some.inj ho
    refine .value W ?_ (Below.refl _ _)
    generalize hA : (puts ds L _).eval = ρ
    have hc : ∀ v, ρ (.const v) = v := fun v => by rw [← hA]; rfl
    have h0 : ρ (.tmp 60) = .float .f64 ax := pg 9 hA hap (by rw [hds]; rfl) (hd 9 (by decide +kernel) (alne rfl)) (show 60 < 72 by decide)
    have h1 : ρ (.tmp 61) = .float .f64 b := pg 10 hA hap (by rw [hds]; rfl) (hd 10 (by decide +kernel) (alne rfl)) (show 61 < 72 by decide)
    clear hA hd hB ho hs ha hO
    have h9 := b1
    unfold execOp
    go_simp
  · obtain rfl := Option.some.inj ho
    refine .value W ?_ (Below.refl _ _)
    generalize hA : (puts ds L _).eval = ρ
    have hc : ∀ v, ρ (.const v) = v := fun v => by rw [← hA]; rfl
    have h0 : ρ (.tmp 9) = .float .f64 s := (po hA (by rw [hds]; decide)).trans rfl
    clear hA hd hB ho hs ha hO
    unfold execOp
    go_simp
  · obtain rfl := Option.some.inj ho
    refine .value W ?_ (Below.refl _ _)
    generalize hA : (puts ds L _).eval = ρ
    have hc : ∀ v, ρ (.const v) = v := fun v => by rw [← hA]; rfl
    have h0 : ρ (.tmp 62) = .float .f64 j1 := pg 11 hA hap (by rw [hds]; rfl) (hd 11 (by decide +kernel) (alne rfl)) (show 62 < 72 by decide)
    have h1 : ρ (.tmp 63) = .float .f64 s := pg 12 hA hap (by rw [hds]; rfl) (hd 12 (by decide +kernel) (alne rfl)) (show 63 < 72 by decide)
    clear hA hd hB ho hs ha hO
    have h9 := b2
    unfold execOp
    go_simp
  · obtain rfl := Option.some.inj ho
    refine .call 106 #[.float .f64 j2] ?_ (BY.out W)
    generalize hA : (puts ds L _).eval = ρ
    have hg : ∀ g, ρ (.func g) = .func (.func g) #[] #[] := fun v => by rw [← hA]; rfl
    have h0 : ρ (.tmp 64) = .float .f64 j2 := pg 13 hA hap (by rw [hds]; rfl) (hd 13 (by decide +kernel) (alne rfl)) (show 64 < 72 by decide)
    have hf := Tryz.func106
    unfold execOp
    go_simp
  · obtain rfl := Option.some.inj ho
    refine .value W ?_ (Below.refl _ _)
    generalize hA : (puts ds L _).eval = ρ
    have hc : ∀ v, ρ (.const v) = v := fun v => by rw [← hA]; rfl
    have h0 : ρ (.tmp 58) = .float .f64 y1 := pg 7 hA hap (by rw [hds]; rfl) (hd 7 (by decide +kernel) (alne rfl)) (show 58 < 72 by decide)
    have h1 : ρ (.tmp 65) = .float .f64 y2 := pg 14 hA hap (by rw [hds]; rfl) (hd 14 (by decide +kernel) (alne rfl)) (show 65 < 72 by decide)
    clear hA hd hB ho hs ha hO
    unfold execOp
    go_simp
  · exact absurd rfl (ha _ (List.mem_cons_self ..))
  · exact absurd rfl (hs _ (List.mem_cons_self ..))
 case store =>
  intro st hst L W o h us ho hd hal hC b
  rcases List.mem_singleton.1 hst with rfl
  · dsimp only at ho hd hal hC b ⊢
    obtain rfl := Option.some.inj ho
    obtain ⟨hl, rfl⟩ := hal _ (List.mem_cons_self ..) rfl
    have c0 := b.at_ 0 _ rfl
    have f0 := b.fr 0 _ rfl
    have c1 := b.at_ 1 _ rfl
    have f1 := b.fr 1 _ rfl
    have c2 := b.at_ 2 _ rfl
    have f2 := b.fr 2 _ rfl
    refine ⟨?_, rfl⟩
    generalize hA : (puts ds L _).eval = ρ
    have h0 : ρ (.tmp 12) = .pointer (some ⟨h, 0, none⟩) := by rw [← hA]; exact puts_get 16 ds L _ hap (by rw [hds]; rfl) hl (show 12 < 72 by decide)
    have h1 : ρ (.tmp 66) = .agg #[.float .f64 y1, .float .f64 y2, .float .f64 0] := pg 15 hA hap (by rw [hds]; rfl) (hd 15 (by decide +kernel) (alne rfl)) (show 66 < 72 by decide)
    have hst' := @fstore
    clear hA hd b ho hal hC
    simp only [putV]
    unfold execOp
    go_simp
 case fin =>
  intro hf W0 K
  rw [hds]
  clear hds hap ds BX BY CM CS CB
  (try dsimp only at K)
  generalize hf 16 = gm at *
  (try unfold ptrV)
  simp only [List.set_cons_zero, List.set_cons_succ, puts, Act.put, List.setIfInBounds_toArray]
  have c0_0 := (K.at_ 0 rfl).at_ 0 _ rfl
  have c0_1 := (K.at_ 0 rfl).at_ 1 _ rfl
  have c0_2 := (K.at_ 0 rfl).at_ 2 _ rfl
  have c0_3 := (K.at_ 0 rfl).at_ 3 _ rfl
  have c0_4 := (K.at_ 0 rfl).at_ 4 _ rfl
  have c0_5 := (K.at_ 0 rfl).at_ 5 _ rfl
  have c0_6 := (K.at_ 0 rfl).at_ 6 _ rfl
  have c2_0 := (K.at_ 2 rfl).at_ 0 _ rfl
  have c2_1 := (K.at_ 2 rfl).at_ 1 _ rfl
  have c2_2 := (K.at_ 2 rfl).at_ 2 _ rfl
  replace K := Lib.hid K
  go_wp2_with fail
  replace K := K.out
  refine (CT.out W0).mono ?_
  rintro _ v1 ⟨rfl, hb⟩
  clear c0_0 c0_1 c0_2 c0_3 c0_4 c0_5 c0_6 c2_0 c2_1 c2_2
  replace K := K.on hb
  clear hb
  have c1_0 := (K.at_ 1 rfl).at_ 0 _ rfl
  have f1_0 := (K.at_ 1 rfl).fr 0 _ rfl
  have c1_1 := (K.at_ 1 rfl).at_ 1 _ rfl
  have f1_1 := (K.at_ 1 rfl).fr 1 _ rfl
  have c1_2 := (K.at_ 1 rfl).at_ 2 _ rfl
  have f1_2 := (K.at_ 1 rfl).fr 2 _ rfl
  replace K := Lib.hid K
  go_wp2_with fail
  replace K := K.out
  (try simp only [Exit.inBlock, Exit.then])
  refine bodyPost_ret (v := .tuple #[.agg #[.float .f64 q1, .float .f64 q2, .float .f64 q3], .int .i64 k]) ?_ rfl ⟨rfl, ?_⟩
  · rw [results_cell_tmp rfl]; go_simp
  · exact (((K.old).setCell (by first | exact Nat.le_refl _ | omega | (dsimp only; omega)) _).setCell (by first | exact Nat.le_refl _ | omega | (dsimp only; omega)) _).setCell (by first | exact Nat.le_refl _ | omega | (dsimp only; omega)) _
theorem oat_no {ax ec ti no pe ph ra d : Nat} {k : Int} (t : (k != 0) = true) (CM : Hid (∀ w, Calls Tryz.prog 102 #[.agg #[.float .f64 ax, .float .f64 ec, .float .f64 ti, .float .f64 no, .float .f64 pe, .float .f64 ph, .float .f64 ra], .float .f64 d] w fun e w' => e = .returned (.tuple #[.float .f64 0, .int .i64 k]) ∧ Below w.heap.size w w')) (w : World) : Calls Tryz.prog 57 #[.agg #[.float .f64 ax, .float .f64 ec, .float .f64 ti, .float .f64 no, .float .f64 pe, .float .f64 ph, .float .f64 ra], .float .f64 d] w fun e w' => e = .returned (.tuple #[.agg #[.float .f64 0, .float .f64 0, .float .f64 0], .int .i64 k]) ∧ Below w.heap.size w w' := by
 have K0 := kv2 w 45 41 [.float .f64 ax, .float .f64 ec, .float .f64 ti, .float .f64 no, .float .f64 pe, .float .f64 ph, .float .f64 ra] [.float .f64 0, .float .f64 0, .float .f64 0]
 simp only [objV] at K0
 have hst := @fstore
 replace K0 := Lib.hid K0
 go_enter Tryz.func57, Tryz.ntmps57
 go_wp2_with fail
 have K := K0.out
 clear K0
 generalize (w.alloc _).alloc _ = wr at *
 refine (CM.out wr).mono ?_
 rintro _ v1 ⟨rfl, hb⟩
 replace K := K.on hb
 clear hb
 have c1_0 := (K.at_ 1 rfl).at_ 0 _ rfl
 have f1_0 := (K.at_ 1 rfl).fr 0 _ rfl
 have c1_1 := (K.at_ 1 rfl).at_ 1 _ rfl
 have f1_1 := (K.at_ 1 rfl).fr 1 _ rfl
 have c1_2 := (K.at_ 1 rfl).at_ 2 _ rfl
 have f1_2 := (K.at_ 1 rfl).fr 2 _ rfl
 replace K := Lib.hid K
 go_wp2_with fail
 replace K := K.out
 (try simp only [Exit.inBlock, Exit.then])
 refine bodyPost_ret (v := .tuple #[.agg #[.float .f64 0, .float .f64 0, .float .f64 0], .int .i64 k]) ?_ rfl ⟨rfl, ?_⟩
 · rw [results_cell_tmp rfl]; go_simp
 · exact (((K.old).setCell (by first | exact Nat.le_refl _ | omega | (dsimp only; omega)) _).setCell (by first | exact Nat.le_refl _ | omega | (dsimp only; omega)) _).setCell (by first | exact Nat.le_refl _ | omega | (dsimp only; omega)) _
theorem oat_run {o : Ob} {d : Nat} (h : ObW o) (hd : d < 18446744073709551616) (w : World) : Calls Tryz.prog 57 #[obV o, .float .f64 d] w fun e w' => e = .returned (vecE (atR o d).1 (atR o d).2) ∧ Below w.heap.size w w' := by
 have CM := Lib.hid (fun w => omean_run h hd w)
 unfold meanR at CM
 unfold atR
 by_cases c : readyO o (witB g24 d) = 0
 · rw [if_pos c] at CM ⊢
   obtain ⟨m, t⟩ := readyO_zero c
   have hO := mayO_of m
   have S := at_of h hO hd t
   have CS := Lib.hid (fun w => osolve_run h.ec S.lt w)
   unfold solR at CS
   rw [if_pos hO.ec, if_pos S.ha] at CS
   obtain ⟨s, c', T, CB⟩ := uboth_ok S.ang.fin.1 S.er
   obtain ⟨e1, e2⟩ := tS_eq T
   have Pl := S.pla
   have hw := S.w
   unfold plaV at hw ⊢
   have CT := fun w => oturned_run h hO hw w
   have BX := Lib.hid (fun w => obroughtB Pl.fx w)
   have BY := Lib.hid (fun w => obroughtB Pl.fy w)
   have rx1 := run_sub _ _ _ Pl.x1
   have rx2 := run_mul _ _ _ Pl.x2
   have ry1 := run_mul _ _ _ Pl.y1
   have ry2 := run_mul _ _ _ Pl.y2
   rw [e1, e2] at *
   exact oat_ok CM CS (Lib.hid CB) (run_mul _ _ _ S.roo.m) (run_sub _ _ _ S.roo.s) (fun w => sqrt_any _ _ S.roo.r w) rx1 rx2 ry1 ry2 BX BY (Lib.hid CT) w
 · rw [if_neg c] at CM ⊢
   exact oat_no (by simpa using c) CM w
end Go.Proofs.YtacinenddnfcbaaGreat

namespace Go.Proofs.YtacinenddnfcbaaGreat
open Go.ChangeShapes Go.WideShapes Go.ChangeAt Go.RowKit Ieee.Own Pol Fma

end Go.Proofs.YtacinenddnfcbaaGreat

namespace Go.Proofs.YtacinenddnfcbaaGreat
open Go.ChangeShapes Go.WideShapes Go.ChangeAt Go.RowKit Ieee.Own Pol

end Go.Proofs.YtacinenddnfcbaaGreat

namespace Go.Proofs.YtacinenddnfcbaaGreat
open Go.ChangeShapes Go.WideShapes Go.ChangeAt Go.RowKit Ieee.Own Pol

end Go.Proofs.YtacinenddnfcbaaGreat

namespace Go.Proofs.YtacinenddnfcbaaGreat
open Go.ChangeShapes Go.WideShapes Go.ChangeAt Go.RowKit Ieee.Own Pol

end Go.Proofs.YtacinenddnfcbaaGreat

namespace Go.Proofs.YtacinenddnfcbaaGreat
open Ieee.Own Pol

end Go.Proofs.YtacinenddnfcbaaGreat

namespace Go.Proofs.YtacinenddnfcbaaGreat
open Go.ChangeShapes Go.WideShapes Go.ChangeAt Go.RowKit Ieee.Own Pol

end Go.Proofs.YtacinenddnfcbaaGreat

namespace Go.Proofs.YtacinenddnfcbaaGreat
open Go.ChangeShapes Go.WideShapes Go.ChangeAt Go.RowKit Ieee.Own Pol

end Go.Proofs.YtacinenddnfcbaaGreat

namespace Go.Proofs.YtacinenddnfcbaaGreat
open Go.ChangeShapes Go.WideShapes Go.ChangeAt Go.RowKit Ieee.Own Pol

def cur (S T : Nat → Pr) : Nat → Pr
 | 0 => S 0
 | n + 1 => T n
end Go.Proofs.YtacinenddnfcbaaGreat

namespace Go.Proofs.YtacinenddnfcbaaGreat
open Go.ChangeShapes Go.WideShapes Go.ChangeAt Go.RowKit Ieee.Own Pol

end Go.Proofs.YtacinenddnfcbaaGreat

namespace Go.Proofs.YtacinenddnfcbaaGreat
open Go.ChangeShapes Go.WideShapes Go.ChangeAt Go.RowKit Ieee.Own Pol

end Go.Proofs.YtacinenddnfcbaaGreat

namespace Go.Proofs.YtacinenddnfcbaaGreat
open Go.ChangeShapes Go.WideShapes Go.ChangeAt Go.RowKit Ieee.Own Pol Fma

end Go.Proofs.YtacinenddnfcbaaGreat

namespace Go.Proofs.YtacinenddnfcbaaGreat
open Go.ChangeShapes Go.WideShapes Go.ChangeAt Go.RowKit Ieee.Own Pol Fma

end Go.Proofs.YtacinenddnfcbaaGreat

namespace Go.Proofs.YtacinenddnfcbaaGreat
open Go.ChangeShapes Go.WideShapes Go.ChangeAt Go.RowKit Ieee.Own Pol Fma

end Go.Proofs.YtacinenddnfcbaaGreat

namespace Go.Proofs.YtacinenddnfcbaaGreat
open Go.ChangeShapes Go.WideShapes Go.ChangeAt Go.RowKit Ieee.Own

def leO (a b : Nat) : Bool := FloatKind.f64.format.order a b == some Ordering.lt || FloatKind.f64.format.order a b == some Ordering.eq
end Go.Proofs.YtacinenddnfcbaaGreat

namespace Go.Proofs.YtacinenddnfcbaaGreat
open Go.ChangeShapes Go.WideShapes Go.ChangeAt Go.RowKit Ieee.Own Pol

end Go.Proofs.YtacinenddnfcbaaGreat
