/- Proved here: what the texts Obe prove, one behind the other. -/
import Derived.Test.YtkpdnhbifokhlaaJp3
import Derived.Test.YtkpdnhbifokhlaaJo4
import Derived.Test.YtkpdnhbifokhlaaJy6

namespace Go.Proofs.Ytkpdnhbifokhlaa
open Go.ChangeShapes Go.WideShapes Go.ChangeAt Go.RowKit Ieee.Own Pol

/-- turned about axes, the first one first -/
noncomputable def laidR : List (Int × Nat) → V3 → V3 × Int
  | [], v => (v, 0)
  | t :: l, v => if (applyR (turnW t.1 t.2) v).2 = 0 then laidR l (applyR (turnW t.1 t.2) v).1 else (z3, (applyR (turnW t.1 t.2) v).2)
def turnsO (o : Ob) : List (Int × Nat) := [(2, o.pe), (0, o.ti), (2, o.no)]
theorem laid_ok {t : Int × Nat} {l : List (Int × Nat)} {v : V3} {A : V3 × Int} (h : laidR (t :: l) v = A) (e : (applyR (turnW t.1 t.2) v).2 = 0) : laidR l (applyR (turnW t.1 t.2) v).1 = A := by
  unfold laidR at h; rw [if_pos e] at h; exact h
theorem laid_no {t : Int × Nat} {l : List (Int × Nat)} {v : V3} {A : V3 × Int} (h : laidR (t :: l) v = A) (e : (applyR (turnW t.1 t.2) v).2 ≠ 0) : (z3, (applyR (turnW t.1 t.2) v).2) = A := by
  unfold laidR at h; rw [if_neg e] at h; exact h
theorem tu_ang {x : Nat} (hx : x < 18446744073709551616) (h : tuB x = true) : errA x = 0 := by
  have W := tu_wd hx h
  exact err_small W.fin (btw_of hx h).2.1 (abs_up (k := 1084) (l := 1114) W.abs (by omega))
/-- a turn, as an answer -/
structure TurnO (a : Int) (x : Nat) : Prop where
  own : ∀ w, Calls Try.prog 71 #[.int .i64 a, .float .f64 x] w fun e w' => e = .returned (matE (turnW a x) 0) ∧ Below w.heap.size w w'
  ref : ∀ w, Calls Try.prog 76 #[.int .i64 a, .float .f64 x] w fun e w' => e = .returned (matE (turnW a x) 0) ∧ Below w.heap.size w w'
  w : W9 (turnW a x)
theorem turn_o {a : Int} {x : Nat} (h0 : 0 ≤ a) (h1 : a ≤ 2) (hx : x < 18446744073709551616) (e : errA x = 0) : TurnO a x := by
  refine ⟨fun w => vturned_run h0 h1 hx e w, ?_, (turnW_ok a hx e).1⟩
  obtain ⟨s, c, k, B, CB'⟩ := ruboth_run hx
  have hk : k = 0 := by rw [B.err, e]
  subst hk
  have T := B.ok rfl
  obtain ⟨e1, e2⟩ := tS_eq T
  unfold turnW
  rw [e1, e2]
  have S1 := fun w => small_run s T.sz.fin w
  have S2 := fun w => small_run c T.cz.fin w
  have r := run_sub _ _ _ (negN_spec (bW_nz T.sz.fin).fin).1
  have : a = 0 ∨ a = 1 ∨ a = 2 := by omega
  rcases this with rfl | rfl | rfl
  · exact fun w => rvturned_ok0 (Lib.hid CB') S1 S2 r w
  · exact fun w => rvturned_ok1 (Lib.hid CB') S1 S2 r w
  · exact fun w => rvturned_ok2 (Lib.hid CB') S1 S2 r w
theorem Kv.take {w0 w : World} {L : List (Option (Nat × List Value))} (C : Kv w0 L w) (n : Nat) : Kv w0 (L.take n) w := by
  have key : ∀ i (x : Option (Nat × List Value)), (L.take n)[i]? = some x → L[i]? = some x := fun i x h => by
    have hi := (List.getElem?_eq_some_iff.1 h).1
    rw [List.length_take] at hi
    rw [List.getElem?_take_of_lt (by omega)] at h
    exact h
  exact ⟨C.old, fun j g us h => C.blk j g us (key _ _ h), fun i j g us vs h k => C.inj i j g us vs (key _ _ h) (key _ _ k)⟩
set_option maxHeartbeats 4000000 in
set_option maxRecDepth 100000 in
theorem oturnings_run {ax ec ti no pe ph ra : Nat} (w : World) : Calls Try.prog 70 #[.agg #[.float .f64 ax, .float .f64 ec, .float .f64 ti, .float .f64 no, .float .f64 pe, .float .f64 ph, .float .f64 ra]] w fun e w' => e = .returned (.agg #[.int .i64 2, .float .f64 pe, .int .i64 0, .float .f64 ti, .int .i64 2, .float .f64 no]) ∧ Below w.heap.size w w' := by
  have K0 := kv2 w 24 76 [.float .f64 ax, .float .f64 ec, .float .f64 ti, .float .f64 no, .float .f64 pe, .float .f64 ph, .float .f64 ra] [.int .i64 2, .float .f64 pe, .int .i64 0, .float .f64 ti, .int .i64 2, .float .f64 no]
  simp only [objV] at K0
  have hst := @fstore
  have c0_2 := (K0.at_ 0 rfl).at_ 2 _ rfl
  have c0_3 := (K0.at_ 0 rfl).at_ 3 _ rfl
  have c0_4 := (K0.at_ 0 rfl).at_ 4 _ rfl
  have c1_0 := (K0.at_ 1 rfl).at_ 0 _ rfl
  have f1_0 := (K0.at_ 1 rfl).fr 0 _ rfl
  have c1_1 := (K0.at_ 1 rfl).at_ 1 _ rfl
  have f1_1 := (K0.at_ 1 rfl).fr 1 _ rfl
  have c1_2 := (K0.at_ 1 rfl).at_ 2 _ rfl
  have f1_2 := (K0.at_ 1 rfl).fr 2 _ rfl
  have c1_3 := (K0.at_ 1 rfl).at_ 3 _ rfl
  have f1_3 := (K0.at_ 1 rfl).fr 3 _ rfl
  have c1_4 := (K0.at_ 1 rfl).at_ 4 _ rfl
  have f1_4 := (K0.at_ 1 rfl).fr 4 _ rfl
  have c1_5 := (K0.at_ 1 rfl).at_ 5 _ rfl
  have f1_5 := (K0.at_ 1 rfl).fr 5 _ rfl
  replace K0 := Lib.hid K0
  go_enter Try.func70, Try.ntmps70
  go_wp2_with fail
  have K := K0.out
  (try simp only [Exit.inBlock, Exit.then])
  refine bodyPost_ret (v := .agg #[.int .i64 2, .float .f64 pe, .int .i64 0, .float .f64 ti, .int .i64 2, .float .f64 no]) ?_ rfl ⟨rfl, ?_⟩
  · rw [results_cell1 rfl]; go_simp
  · exact K.old
set_option maxRecDepth 100000 in
theorem ix0 (a b c : Nat) (w : World) : (Instr.index 76 (.agg #[.int .i64 2, .float .f64 a, .int .i64 0, .float .f64 b, .int .i64 2, .float .f64 c]) (.int .i64 0)).run Try.prog w = .ok (.agg #[.int .i64 2, .float .f64 a]) w := by rfl
set_option maxRecDepth 100000 in
theorem ix1 (a b c : Nat) (w : World) : (Instr.index 76 (.agg #[.int .i64 2, .float .f64 a, .int .i64 0, .float .f64 b, .int .i64 2, .float .f64 c]) (.int .i64 1)).run Try.prog w = .ok (.agg #[.int .i64 0, .float .f64 b]) w := by rfl
set_option maxRecDepth 100000 in
theorem ix2 (a b c : Nat) (w : World) : (Instr.index 76 (.agg #[.int .i64 2, .float .f64 a, .int .i64 0, .float .f64 b, .int .i64 2, .float .f64 c]) (.int .i64 2)).run Try.prog w = .ok (.agg #[.int .i64 2, .float .f64 c]) w := by rfl
set_option maxHeartbeats 4000000 in
set_option maxRecDepth 100000 in
theorem oturned_run {o : Ob} {v : V3} (h : ObW o) (hO : ObOk o) (hv : W3 v) (w : World) : Calls Try.prog 45 #[obV o, vecV v] w fun e w' => e = .returned (vecE (laidR (turnsO o) v).1 (laidR (turnsO o) v).2) ∧ Below w.heap.size w w' := by
  have T0 := Lib.hid (turn_o (a := 2) (by decide) (by decide) h.pe (tu_ang h.pe hO.pe))
  have T1 := Lib.hid (turn_o (a := 0) (by decide) (by decide) h.ti (tu_ang h.ti hO.ti))
  have T2 := Lib.hid (turn_o (a := 2) (by decide) (by decide) h.no (tu_ang h.no hO.no))
  clear h hO
  obtain ⟨A, hA⟩ : ∃ A, A = laidR (turnsO o) v := ⟨_, rfl⟩
  rw [← hA]
  have R0 : laidR (turnsO o) v = A := hA.symm
  clear hA
  unfold turnsO at R0
  obtain ⟨ax, ec, ti, no, pe, ph, ra⟩ := o
  obtain ⟨x1, x2, x3⟩ := v
  unfold obV vecV at *
  dsimp only at *
  have CN := Lib.hid (fun w => oturnings_run (ax := ax) (ec := ec) (ti := ti) (no := no) (pe := pe) (ph := ph) (ra := ra) w)
  have i0 := ix0 pe ti no
  have i1 := ix1 pe ti no
  have i2 := ix2 pe ti no
  replace R0 := Lib.hid R0
  replace hv := Lib.hid hv
  have K0 := kv3 w 24 33 33 [.float .f64 ax, .float .f64 ec, .float .f64 ti, .float .f64 no, .float .f64 pe, .float .f64 ph, .float .f64 ra] [.float .f64 x1, .float .f64 x2, .float .f64 x3] [.float .f64 0, .float .f64 0, .float .f64 0]
  simp only [objV] at K0
  have hst := @fstore
  replace K0 := Lib.hid K0
  go_enter Try.func45, Try.ntmps45
  go_wp2_with fail
  have K := K0.out
  clear K0
  generalize ((w.alloc _).alloc _).alloc _ = wr at *
  refine (CN.out wr).mono ?_
  rintro _ v1 ⟨rfl, hb⟩
  replace K := K.on hb
  clear hb
  replace K := Lib.hid K
  go_wp2_with fail
  replace K := K.out
  go_loopw [12] (fun iv wr => ∃ (i : Int) (p1 p2 p3 : Nat), iv = .int .i64 i ∧ W3 (p1, p2, p3) ∧ ((i = 0 ∧ laidR [(2, pe), (0, ti), (2, no)] (p1, p2, p3) = A) ∨ (i = 1 ∧ laidR [(0, ti), (2, no)] (p1, p2, p3) = A) ∨ (i = 2 ∧ laidR [(2, no)] (p1, p2, p3) = A) ∨ (i = 3 ∧ laidR [] (p1, p2, p3) = A)) ∧ Kv w [some (w.heap.size, [.float .f64 ax, .float .f64 ec, .float .f64 ti, .float .f64 no, .float .f64 pe, .float .f64 ph, .float .f64 ra]), some (w.heap.size + 1, [.float .f64 p1, .float .f64 p2, .float .f64 p3]), some (w.heap.size + 1 + 1, [.float .f64 0, .float .f64 0, .float .f64 0])] wr) (fun iv _ => (3 - intOf iv).toNat)
  case atStart => exact ⟨0, x1, x2, x3, rfl, hv.out, .inl ⟨rfl, R0.out⟩, K⟩
  case round =>
    obtain ⟨i, p1, p2, p3, rfl, hw, hi, K⟩ := hrel
    rcases hi with ⟨rfl, R1⟩ | ⟨rfl, R1⟩ | ⟨rfl, R1⟩ | ⟨rfl, R1⟩
    · have CT := Lib.hid T0.out.own
      have CP := fun w => vapply_any T0.out.w hw w
      have YW := (ans_apply T0.out.w hw).w
      have G1 := laid_ok R1
      have G2 := laid_no R1
      clear R1 T0 T1 T2
      dsimp only at G1 G2
      generalize hY : applyR (turnW 2 pe) (p1, p2, p3) = Y at *
      clear hY
      generalize turnW 2 pe = M at *
      obtain ⟨⟨m0, m1, m2⟩, ⟨m3, m4, m5⟩, ⟨m6, m7, m8⟩⟩ := M
      obtain ⟨⟨y1, y2, y3⟩, k⟩ := Y
      unfold matE vecE at *
      unfold matV at CT CP
      unfold vecV at CP
      dsimp only at *
      replace CP := Lib.hid CP
      replace YW := Lib.hid YW
      replace hw := Lib.hid hw
      by_cases hk : k = 0
      · subst hk
        replace G1 := Lib.hid (G1 rfl)
        clear G2
        replace K := K.new 75 [.int .i64 2, .float .f64 pe]
        simp only [objV, List.cons_append, List.nil_append] at K
        have c3_0 := (K.at_ 3 rfl).at_ 0 _ rfl
        have c3_1 := (K.at_ 3 rfl).at_ 1 _ rfl
        replace K := Lib.hid K
        go_wp2_with fail
        replace K := K.out
        generalize wr.alloc _ = u0 at *
        generalize wr.heap.size = g0 at *
        refine (CT.out u0).mono ?_
        rintro _ v1 ⟨rfl, hb⟩
        clear c3_0 c3_1
        replace K := K.on hb
        clear hb
        replace K := K.new 79 [.float .f64 m0, .float .f64 m1, .float .f64 m2, .float .f64 m3, .float .f64 m4, .float .f64 m5, .float .f64 m6, .float .f64 m7, .float .f64 m8]
        simp only [objV, List.cons_append, List.nil_append] at K
        have c4_0 := (K.at_ 4 rfl).at_ 0 _ rfl
        have c4_1 := (K.at_ 4 rfl).at_ 1 _ rfl
        have c4_2 := (K.at_ 4 rfl).at_ 2 _ rfl
        have c4_3 := (K.at_ 4 rfl).at_ 3 _ rfl
        have c4_4 := (K.at_ 4 rfl).at_ 4 _ rfl
        have c4_5 := (K.at_ 4 rfl).at_ 5 _ rfl
        have c4_6 := (K.at_ 4 rfl).at_ 6 _ rfl
        have c4_7 := (K.at_ 4 rfl).at_ 7 _ rfl
        have c4_8 := (K.at_ 4 rfl).at_ 8 _ rfl
        have c1_0 := (K.at_ 1 rfl).at_ 0 _ rfl
        have c1_1 := (K.at_ 1 rfl).at_ 1 _ rfl
        have c1_2 := (K.at_ 1 rfl).at_ 2 _ rfl
        replace K := Lib.hid K
        go_wp2_with fail
        replace K := K.out
        generalize v1.alloc _ = u1 at *
        generalize v1.heap.size = g1 at *
        refine (CP.out u1).mono ?_
        rintro _ v2 ⟨rfl, hb⟩
        clear c4_0 c4_1 c4_2 c4_3 c4_4 c4_5 c4_6 c4_7 c4_8 c1_0 c1_1 c1_2
        replace K := K.on hb
        clear hb
        have c1_0 := (K.at_ 1 rfl).at_ 0 _ rfl
        have f1_0 := (K.at_ 1 rfl).fr 0 _ rfl
        have c1_1 := (K.at_ 1 rfl).at_ 1 _ rfl
        have f1_1 := (K.at_ 1 rfl).fr 1 _ rfl
        have c1_2 := (K.at_ 1 rfl).at_ 2 _ rfl
        have f1_2 := (K.at_ 1 rfl).fr 2 _ rfl
        replace K := K.put 1 rfl 0 [.float .f64 y1, .float .f64 y2, .float .f64 y3] (by simp)
        simp only [putV, setV, List.set_cons_zero, List.set_cons_succ] at K
        replace K := Lib.hid K
        go_wp2_with fail
        go_roundw
        case rel => exact ⟨1, y1, y2, y3, rfl, YW.out, .inr (.inl ⟨rfl, G1.out⟩), K.out.take 3⟩
        case measure => simp [intOf]
      · have tk : (k != 0) = true := by simpa using hk
        replace G2 := Lib.hid (G2 hk)
        clear G1 hk
        replace K := K.new 75 [.int .i64 2, .float .f64 pe]
        simp only [objV, List.cons_append, List.nil_append] at K
        have c3_0 := (K.at_ 3 rfl).at_ 0 _ rfl
        have c3_1 := (K.at_ 3 rfl).at_ 1 _ rfl
        replace K := Lib.hid K
        go_wp2_with fail
        replace K := K.out
        generalize wr.alloc _ = u0 at *
        generalize wr.heap.size = g0 at *
        refine (CT.out u0).mono ?_
        rintro _ v1 ⟨rfl, hb⟩
        clear c3_0 c3_1
        replace K := K.on hb
        clear hb
        replace K := K.new 79 [.float .f64 m0, .float .f64 m1, .float .f64 m2, .float .f64 m3, .float .f64 m4, .float .f64 m5, .float .f64 m6, .float .f64 m7, .float .f64 m8]
        simp only [objV, List.cons_append, List.nil_append] at K
        have c4_0 := (K.at_ 4 rfl).at_ 0 _ rfl
        have c4_1 := (K.at_ 4 rfl).at_ 1 _ rfl
        have c4_2 := (K.at_ 4 rfl).at_ 2 _ rfl
        have c4_3 := (K.at_ 4 rfl).at_ 3 _ rfl
        have c4_4 := (K.at_ 4 rfl).at_ 4 _ rfl
        have c4_5 := (K.at_ 4 rfl).at_ 5 _ rfl
        have c4_6 := (K.at_ 4 rfl).at_ 6 _ rfl
        have c4_7 := (K.at_ 4 rfl).at_ 7 _ rfl
        have c4_8 := (K.at_ 4 rfl).at_ 8 _ rfl
        have c1_0 := (K.at_ 1 rfl).at_ 0 _ rfl
        have c1_1 := (K.at_ 1 rfl).at_ 1 _ rfl
        have c1_2 := (K.at_ 1 rfl).at_ 2 _ rfl
        replace K := Lib.hid K
        go_wp2_with fail
        replace K := K.out
        generalize v1.alloc _ = u1 at *
        generalize v1.heap.size = g1 at *
        refine (CP.out u1).mono ?_
        rintro _ v2 ⟨rfl, hb⟩
        clear c4_0 c4_1 c4_2 c4_3 c4_4 c4_5 c4_6 c4_7 c4_8 c1_0 c1_1 c1_2
        replace K := K.on hb
        clear hb
        have c1_0 := (K.at_ 1 rfl).at_ 0 _ rfl
        have f1_0 := (K.at_ 1 rfl).fr 0 _ rfl
        have c1_1 := (K.at_ 1 rfl).at_ 1 _ rfl
        have f1_1 := (K.at_ 1 rfl).fr 1 _ rfl
        have c1_2 := (K.at_ 1 rfl).at_ 2 _ rfl
        have f1_2 := (K.at_ 1 rfl).fr 2 _ rfl
        replace K := K.put 1 rfl 0 [.float .f64 y1, .float .f64 y2, .float .f64 y3] (by simp)
        simp only [putV, setV, List.set_cons_zero, List.set_cons_succ] at K
        have c2_0 := (K.at_ 2 rfl).at_ 0 _ rfl
        have f2_0 := (K.at_ 2 rfl).fr 0 _ rfl
        have c2_1 := (K.at_ 2 rfl).at_ 1 _ rfl
        have f2_1 := (K.at_ 2 rfl).fr 1 _ rfl
        have c2_2 := (K.at_ 2 rfl).at_ 2 _ rfl
        have f2_2 := (K.at_ 2 rfl).fr 2 _ rfl
        replace K := Lib.hid K
        go_wp2_with fail
        replace K := K.out
        (try simp only [Exit.inBlock, Exit.then])
        refine bodyPost_ret (v := .tuple #[.agg #[.float .f64 0, .float .f64 0, .float .f64 0], .int .i64 k]) ?_ rfl ⟨ret_vF G2.out, ?_⟩
        · rw [results_cell_tmp rfl]; go_simp
        · exact (((K.old).setCell (by first | exact Nat.le_refl _ | (dsimp only; omega)) _).setCell (by first | exact Nat.le_refl _ | (dsimp only; omega)) _).setCell (by first | exact Nat.le_refl _ | (dsimp only; omega)) _
    · have CT := Lib.hid T1.out.own
      have CP := fun w => vapply_any T1.out.w hw w
      have YW := (ans_apply T1.out.w hw).w
      have G1 := laid_ok R1
      have G2 := laid_no R1
      clear R1 T0 T1 T2
      dsimp only at G1 G2
      generalize hY : applyR (turnW 0 ti) (p1, p2, p3) = Y at *
      clear hY
      generalize turnW 0 ti = M at *
      obtain ⟨⟨m0, m1, m2⟩, ⟨m3, m4, m5⟩, ⟨m6, m7, m8⟩⟩ := M
      obtain ⟨⟨y1, y2, y3⟩, k⟩ := Y
      unfold matE vecE at *
      unfold matV at CT CP
      unfold vecV at CP
      dsimp only at *
      replace CP := Lib.hid CP
      replace YW := Lib.hid YW
      replace hw := Lib.hid hw
      by_cases hk : k = 0
      · subst hk
        replace G1 := Lib.hid (G1 rfl)
        clear G2
        replace K := K.new 75 [.int .i64 0, .float .f64 ti]
        simp only [objV, List.cons_append, List.nil_append] at K
        have c3_0 := (K.at_ 3 rfl).at_ 0 _ rfl
        have c3_1 := (K.at_ 3 rfl).at_ 1 _ rfl
        replace K := Lib.hid K
        go_wp2_with fail
        replace K := K.out
        generalize wr.alloc _ = u0 at *
        generalize wr.heap.size = g0 at *
        refine (CT.out u0).mono ?_
        rintro _ v1 ⟨rfl, hb⟩
        clear c3_0 c3_1
        replace K := K.on hb
        clear hb
        replace K := K.new 79 [.float .f64 m0, .float .f64 m1, .float .f64 m2, .float .f64 m3, .float .f64 m4, .float .f64 m5, .float .f64 m6, .float .f64 m7, .float .f64 m8]
        simp only [objV, List.cons_append, List.nil_append] at K
        have c4_0 := (K.at_ 4 rfl).at_ 0 _ rfl
        have c4_1 := (K.at_ 4 rfl).at_ 1 _ rfl
        have c4_2 := (K.at_ 4 rfl).at_ 2 _ rfl
        have c4_3 := (K.at_ 4 rfl).at_ 3 _ rfl
        have c4_4 := (K.at_ 4 rfl).at_ 4 _ rfl
        have c4_5 := (K.at_ 4 rfl).at_ 5 _ rfl
        have c4_6 := (K.at_ 4 rfl).at_ 6 _ rfl
        have c4_7 := (K.at_ 4 rfl).at_ 7 _ rfl
        have c4_8 := (K.at_ 4 rfl).at_ 8 _ rfl
        have c1_0 := (K.at_ 1 rfl).at_ 0 _ rfl
        have c1_1 := (K.at_ 1 rfl).at_ 1 _ rfl
        have c1_2 := (K.at_ 1 rfl).at_ 2 _ rfl
        replace K := Lib.hid K
        go_wp2_with fail
        replace K := K.out
        generalize v1.alloc _ = u1 at *
        generalize v1.heap.size = g1 at *
        refine (CP.out u1).mono ?_
        rintro _ v2 ⟨rfl, hb⟩
        clear c4_0 c4_1 c4_2 c4_3 c4_4 c4_5 c4_6 c4_7 c4_8 c1_0 c1_1 c1_2
        replace K := K.on hb
        clear hb
        have c1_0 := (K.at_ 1 rfl).at_ 0 _ rfl
        have f1_0 := (K.at_ 1 rfl).fr 0 _ rfl
        have c1_1 := (K.at_ 1 rfl).at_ 1 _ rfl
        have f1_1 := (K.at_ 1 rfl).fr 1 _ rfl
        have c1_2 := (K.at_ 1 rfl).at_ 2 _ rfl
        have f1_2 := (K.at_ 1 rfl).fr 2 _ rfl
        replace K := K.put 1 rfl 0 [.float .f64 y1, .float .f64 y2, .float .f64 y3] (by simp)
        simp only [putV, setV, List.set_cons_zero, List.set_cons_succ] at K
        replace K := Lib.hid K
        go_wp2_with fail
        go_roundw
        case rel => exact ⟨2, y1, y2, y3, rfl, YW.out, .inr (.inr (.inl ⟨rfl, G1.out⟩)), K.out.take 3⟩
        case measure => simp [intOf]
      · have tk : (k != 0) = true := by simpa using hk
        replace G2 := Lib.hid (G2 hk)
        clear G1 hk
        replace K := K.new 75 [.int .i64 0, .float .f64 ti]
        simp only [objV, List.cons_append, List.nil_append] at K
        have c3_0 := (K.at_ 3 rfl).at_ 0 _ rfl
        have c3_1 := (K.at_ 3 rfl).at_ 1 _ rfl
        replace K := Lib.hid K
        go_wp2_with fail
        replace K := K.out
        generalize wr.alloc _ = u0 at *
        generalize wr.heap.size = g0 at *
        refine (CT.out u0).mono ?_
        rintro _ v1 ⟨rfl, hb⟩
        clear c3_0 c3_1
        replace K := K.on hb
        clear hb
        replace K := K.new 79 [.float .f64 m0, .float .f64 m1, .float .f64 m2, .float .f64 m3, .float .f64 m4, .float .f64 m5, .float .f64 m6, .float .f64 m7, .float .f64 m8]
        simp only [objV, List.cons_append, List.nil_append] at K
        have c4_0 := (K.at_ 4 rfl).at_ 0 _ rfl
        have c4_1 := (K.at_ 4 rfl).at_ 1 _ rfl
        have c4_2 := (K.at_ 4 rfl).at_ 2 _ rfl
        have c4_3 := (K.at_ 4 rfl).at_ 3 _ rfl
        have c4_4 := (K.at_ 4 rfl).at_ 4 _ rfl
        have c4_5 := (K.at_ 4 rfl).at_ 5 _ rfl
        have c4_6 := (K.at_ 4 rfl).at_ 6 _ rfl
        have c4_7 := (K.at_ 4 rfl).at_ 7 _ rfl
        have c4_8 := (K.at_ 4 rfl).at_ 8 _ rfl
        have c1_0 := (K.at_ 1 rfl).at_ 0 _ rfl
        have c1_1 := (K.at_ 1 rfl).at_ 1 _ rfl
        have c1_2 := (K.at_ 1 rfl).at_ 2 _ rfl
        replace K := Lib.hid K
        go_wp2_with fail
        replace K := K.out
        generalize v1.alloc _ = u1 at *
        generalize v1.heap.size = g1 at *
        refine (CP.out u1).mono ?_
        rintro _ v2 ⟨rfl, hb⟩
        clear c4_0 c4_1 c4_2 c4_3 c4_4 c4_5 c4_6 c4_7 c4_8 c1_0 c1_1 c1_2
        replace K := K.on hb
        clear hb
        have c1_0 := (K.at_ 1 rfl).at_ 0 _ rfl
        have f1_0 := (K.at_ 1 rfl).fr 0 _ rfl
        have c1_1 := (K.at_ 1 rfl).at_ 1 _ rfl
        have f1_1 := (K.at_ 1 rfl).fr 1 _ rfl
        have c1_2 := (K.at_ 1 rfl).at_ 2 _ rfl
        have f1_2 := (K.at_ 1 rfl).fr 2 _ rfl
        replace K := K.put 1 rfl 0 [.float .f64 y1, .float .f64 y2, .float .f64 y3] (by simp)
        simp only [putV, setV, List.set_cons_zero, List.set_cons_succ] at K
        have c2_0 := (K.at_ 2 rfl).at_ 0 _ rfl
        have f2_0 := (K.at_ 2 rfl).fr 0 _ rfl
        have c2_1 := (K.at_ 2 rfl).at_ 1 _ rfl
        have f2_1 := (K.at_ 2 rfl).fr 1 _ rfl
        have c2_2 := (K.at_ 2 rfl).at_ 2 _ rfl
        have f2_2 := (K.at_ 2 rfl).fr 2 _ rfl
        replace K := Lib.hid K
        go_wp2_with fail
        replace K := K.out
        (try simp only [Exit.inBlock, Exit.then])
        refine bodyPost_ret (v := .tuple #[.agg #[.float .f64 0, .float .f64 0, .float .f64 0], .int .i64 k]) ?_ rfl ⟨ret_vF G2.out, ?_⟩
        · rw [results_cell_tmp rfl]; go_simp
        · exact (((K.old).setCell (by first | exact Nat.le_refl _ | (dsimp only; omega)) _).setCell (by first | exact Nat.le_refl _ | (dsimp only; omega)) _).setCell (by first | exact Nat.le_refl _ | (dsimp only; omega)) _
    · have CT := Lib.hid T2.out.own
      have CP := fun w => vapply_any T2.out.w hw w
      have YW := (ans_apply T2.out.w hw).w
      have G1 := laid_ok R1
      have G2 := laid_no R1
      clear R1 T0 T1 T2
      dsimp only at G1 G2
      generalize hY : applyR (turnW 2 no) (p1, p2, p3) = Y at *
      clear hY
      generalize turnW 2 no = M at *
      obtain ⟨⟨m0, m1, m2⟩, ⟨m3, m4, m5⟩, ⟨m6, m7, m8⟩⟩ := M
      obtain ⟨⟨y1, y2, y3⟩, k⟩ := Y
      unfold matE vecE at *
      unfold matV at CT CP
      unfold vecV at CP
      dsimp only at *
      replace CP := Lib.hid CP
      replace YW := Lib.hid YW
      replace hw := Lib.hid hw
      by_cases hk : k = 0
      · subst hk
        replace G1 := Lib.hid (G1 rfl)
        clear G2
        replace K := K.new 75 [.int .i64 2, .float .f64 no]
        simp only [objV, List.cons_append, List.nil_append] at K
        have c3_0 := (K.at_ 3 rfl).at_ 0 _ rfl
        have c3_1 := (K.at_ 3 rfl).at_ 1 _ rfl
        replace K := Lib.hid K
        go_wp2_with fail
        replace K := K.out
        generalize wr.alloc _ = u0 at *
        generalize wr.heap.size = g0 at *
        refine (CT.out u0).mono ?_
        rintro _ v1 ⟨rfl, hb⟩
        clear c3_0 c3_1
        replace K := K.on hb
        clear hb
        replace K := K.new 79 [.float .f64 m0, .float .f64 m1, .float .f64 m2, .float .f64 m3, .float .f64 m4, .float .f64 m5, .float .f64 m6, .float .f64 m7, .float .f64 m8]
        simp only [objV, List.cons_append, List.nil_append] at K
        have c4_0 := (K.at_ 4 rfl).at_ 0 _ rfl
        have c4_1 := (K.at_ 4 rfl).at_ 1 _ rfl
        have c4_2 := (K.at_ 4 rfl).at_ 2 _ rfl
        have c4_3 := (K.at_ 4 rfl).at_ 3 _ rfl
        have c4_4 := (K.at_ 4 rfl).at_ 4 _ rfl
        have c4_5 := (K.at_ 4 rfl).at_ 5 _ rfl
        have c4_6 := (K.at_ 4 rfl).at_ 6 _ rfl
        have c4_7 := (K.at_ 4 rfl).at_ 7 _ rfl
        have c4_8 := (K.at_ 4 rfl).at_ 8 _ rfl
        have c1_0 := (K.at_ 1 rfl).at_ 0 _ rfl
        have c1_1 := (K.at_ 1 rfl).at_ 1 _ rfl
        have c1_2 := (K.at_ 1 rfl).at_ 2 _ rfl
        replace K := Lib.hid K
        go_wp2_with fail
        replace K := K.out
        generalize v1.alloc _ = u1 at *
        generalize v1.heap.size = g1 at *
        refine (CP.out u1).mono ?_
        rintro _ v2 ⟨rfl, hb⟩
        clear c4_0 c4_1 c4_2 c4_3 c4_4 c4_5 c4_6 c4_7 c4_8 c1_0 c1_1 c1_2
        replace K := K.on hb
        clear hb
        have c1_0 := (K.at_ 1 rfl).at_ 0 _ rfl
        have f1_0 := (K.at_ 1 rfl).fr 0 _ rfl
        have c1_1 := (K.at_ 1 rfl).at_ 1 _ rfl
        have f1_1 := (K.at_ 1 rfl).fr 1 _ rfl
        have c1_2 := (K.at_ 1 rfl).at_ 2 _ rfl
        have f1_2 := (K.at_ 1 rfl).fr 2 _ rfl
        replace K := K.put 1 rfl 0 [.float .f64 y1, .float .f64 y2, .float .f64 y3] (by simp)
        simp only [putV, setV, List.set_cons_zero, List.set_cons_succ] at K
        replace K := Lib.hid K
        go_wp2_with fail
        go_roundw
        case rel => exact ⟨3, y1, y2, y3, rfl, YW.out, .inr (.inr (.inr (⟨rfl, G1.out⟩))), K.out.take 3⟩
        case measure => simp [intOf]
      · have tk : (k != 0) = true := by simpa using hk
        replace G2 := Lib.hid (G2 hk)
        clear G1 hk
        replace K := K.new 75 [.int .i64 2, .float .f64 no]
        simp only [objV, List.cons_append, List.nil_append] at K
        have c3_0 := (K.at_ 3 rfl).at_ 0 _ rfl
        have c3_1 := (K.at_ 3 rfl).at_ 1 _ rfl
        replace K := Lib.hid K
        go_wp2_with fail
        replace K := K.out
        generalize wr.alloc _ = u0 at *
        generalize wr.heap.size = g0 at *
        refine (CT.out u0).mono ?_
        rintro _ v1 ⟨rfl, hb⟩
        clear c3_0 c3_1
        replace K := K.on hb
        clear hb
        replace K := K.new 79 [.float .f64 m0, .float .f64 m1, .float .f64 m2, .float .f64 m3, .float .f64 m4, .float .f64 m5, .float .f64 m6, .float .f64 m7, .float .f64 m8]
        simp only [objV, List.cons_append, List.nil_append] at K
        have c4_0 := (K.at_ 4 rfl).at_ 0 _ rfl
        have c4_1 := (K.at_ 4 rfl).at_ 1 _ rfl
        have c4_2 := (K.at_ 4 rfl).at_ 2 _ rfl
        have c4_3 := (K.at_ 4 rfl).at_ 3 _ rfl
        have c4_4 := (K.at_ 4 rfl).at_ 4 _ rfl
        have c4_5 := (K.at_ 4 rfl).at_ 5 _ rfl
        have c4_6 := (K.at_ 4 rfl).at_ 6 _ rfl
        have c4_7 := (K.at_ 4 rfl).at_ 7 _ rfl
        have c4_8 := (K.at_ 4 rfl).at_ 8 _ rfl
        have c1_0 := (K.at_ 1 rfl).at_ 0 _ rfl
        have c1_1 := (K.at_ 1 rfl).at_ 1 _ rfl
        have c1_2 := (K.at_ 1 rfl).at_ 2 _ rfl
        replace K := Lib.hid K
        go_wp2_with fail
        replace K := K.out
        generalize v1.alloc _ = u1 at *
        generalize v1.heap.size = g1 at *
        refine (CP.out u1).mono ?_
        rintro _ v2 ⟨rfl, hb⟩
        clear c4_0 c4_1 c4_2 c4_3 c4_4 c4_5 c4_6 c4_7 c4_8 c1_0 c1_1 c1_2
        replace K := K.on hb
        clear hb
        have c1_0 := (K.at_ 1 rfl).at_ 0 _ rfl
        have f1_0 := (K.at_ 1 rfl).fr 0 _ rfl
        have c1_1 := (K.at_ 1 rfl).at_ 1 _ rfl
        have f1_1 := (K.at_ 1 rfl).fr 1 _ rfl
        have c1_2 := (K.at_ 1 rfl).at_ 2 _ rfl
        have f1_2 := (K.at_ 1 rfl).fr 2 _ rfl
        replace K := K.put 1 rfl 0 [.float .f64 y1, .float .f64 y2, .float .f64 y3] (by simp)
        simp only [putV, setV, List.set_cons_zero, List.set_cons_succ] at K
        have c2_0 := (K.at_ 2 rfl).at_ 0 _ rfl
        have f2_0 := (K.at_ 2 rfl).fr 0 _ rfl
        have c2_1 := (K.at_ 2 rfl).at_ 1 _ rfl
        have f2_1 := (K.at_ 2 rfl).fr 1 _ rfl
        have c2_2 := (K.at_ 2 rfl).at_ 2 _ rfl
        have f2_2 := (K.at_ 2 rfl).fr 2 _ rfl
        replace K := Lib.hid K
        go_wp2_with fail
        replace K := K.out
        (try simp only [Exit.inBlock, Exit.then])
        refine bodyPost_ret (v := .tuple #[.agg #[.float .f64 0, .float .f64 0, .float .f64 0], .int .i64 k]) ?_ rfl ⟨ret_vF G2.out, ?_⟩
        · rw [results_cell_tmp rfl]; go_simp
        · exact (((K.old).setCell (by first | exact Nat.le_refl _ | (dsimp only; omega)) _).setCell (by first | exact Nat.le_refl _ | (dsimp only; omega)) _).setCell (by first | exact Nat.le_refl _ | (dsimp only; omega)) _
    · have fin : ((p1, p2, p3), (0 : Int)) = A := R1
      replace fin := Lib.hid fin
      clear R1
      have c1_0 := (K.at_ 1 rfl).at_ 0 _ rfl
      have c1_1 := (K.at_ 1 rfl).at_ 1 _ rfl
      have c1_2 := (K.at_ 1 rfl).at_ 2 _ rfl
      have c2_0 := (K.at_ 2 rfl).at_ 0 _ rfl
      have f2_0 := (K.at_ 2 rfl).fr 0 _ rfl
      have c2_1 := (K.at_ 2 rfl).at_ 1 _ rfl
      have f2_1 := (K.at_ 2 rfl).fr 1 _ rfl
      have c2_2 := (K.at_ 2 rfl).at_ 2 _ rfl
      have f2_2 := (K.at_ 2 rfl).fr 2 _ rfl
      replace K := Lib.hid K
      go_wp2_with fail
      replace K := K.out
      (try simp only [Exit.inBlock, Exit.then])
      refine bodyPost_ret (v := .tuple #[.agg #[.float .f64 p1, .float .f64 p2, .float .f64 p3], .int .i64 0]) ?_ rfl ⟨ret_vF fin.out, ?_⟩
      · rw [results_cell_tmp rfl]; go_simp
      · exact (((K.old).setCell (by first | exact Nat.le_refl _ | (dsimp only; omega)) _).setCell (by first | exact Nat.le_refl _ | (dsimp only; omega)) _).setCell (by first | exact Nat.le_refl _ | (dsimp only; omega)) _
end Go.Proofs.Ytkpdnhbifokhlaa
