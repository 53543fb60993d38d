/- Proved here: what the texts Grf, Grg, Grh, Gri, Grm, Grn, Gro, Grq, Grr prove, one behind the other. -/
import Derived.Test.YtacinenddnfcbaaJz9
import Derived.Laws.CopyOwn
import Derived.Laws.MakeOwn
import Derived.Laws.IdiomArrays
import Derived.BigQuiet

namespace Go.Proofs.Ytacinenddnfcbaa
open Go.ChangeShapes Go.WideShapes Go.ChangeAt Go.RowKit Go.Deep Ieee.Own

set_option maxHeartbeats 8000000 in
set_option maxRecDepth 100000 in
theorem gpull_run {a b : Ma} {g : Nat} (hg : Gee g) (ha : Mid0 a) (hb : Mid0 b) (w : World) :
    Calls Try.prog 14 #[maV a, maV b, .float .f64 g] w fun e w' => e = .returned (i3V (pl3 g a b)) ∧ Below w.heap.size w w' := by
  have hd := df_cap ha hb
  have hm := mm_cap ha hb
  have CA := Lib.hid (fun w => gapart_run ha hb w)
  have CD := Lib.hid (fun w => gdrawing_run hg ha hb w)
  have CS := Lib.hid (fun w => sqrt_any _ _ (root_ok hd).1 w)
  have rm := run_mul _ _ _ (prd_ok hd).1
  have rq := run_div _ _ _ (f_ok hg hm hd).1
  have rk := Lib.hid (fun k => run_mul _ _ _ (fd_ok hg hm hd k).1)
  have cl := fun k => clW_own capW_ok.1 ncapW_ok.1 (fd_ok hg hm hd k).2.1 (by rw [ncapW_ok.2, capW_ok.2]) (by rw [capW_ok.2]; exact cap_pos)
  have mn := Lib.hid (fun k => (fun t ts (P : Program) (w : World) => run_minf2 (P := P) (w := w) (t := t) (ts := ts) (hx := capW_ok.1) (hy := (fd_ok hg hm hd k).2.1)))
  have mx := Lib.hid (fun k => (fun t ts (P : Program) (w : World) => run_maxf2 (P := P) (w := w) (t := t) (ts := ts) (hx := ncapW_ok.1) (hy := mnW_fin capW_ok.1 (fd_ok hg hm hd k).2.1)))
  have CR := Lib.hid (fun k w => ground_run (cl k).1 (by rw [(cl k).2, capW_ok.2]; exact clc_cap _) w)
  have er := Lib.hid (fun k => (show rndI (V (mxW ncapW (mnW capW (mX (fW g (a.m * b.m) (df a b)) (dW (df a b k)))))) = pl g a b k by rw [(cl k).2, capW_ok.2]; rfl))
  unfold pl3 i3V T3.of
  dsimp only
  clear hg ha hb cl hd hm
  have K := kv3 w 28 28 24 (maC a) (maC b) (in3 ⟨0, 0, 0⟩)
  simp only [objV] at K
  have c0 := (K.at_ 0 rfl).at_ 0 _ rfl
  have c1 := (K.at_ 0 rfl).at_ 1 _ rfl
  have c2 := (K.at_ 0 rfl).at_ 2 _ rfl
  have c3 := (K.at_ 0 rfl).at_ 3 _ rfl
  have c4 := (K.at_ 0 rfl).at_ 4 _ rfl
  have c5 := (K.at_ 0 rfl).at_ 5 _ rfl
  have c6 := (K.at_ 0 rfl).at_ 6 _ rfl
  have e0 := (K.at_ 1 rfl).at_ 0 _ rfl
  have e1 := (K.at_ 1 rfl).at_ 1 _ rfl
  have e2 := (K.at_ 1 rfl).at_ 2 _ rfl
  have e3 := (K.at_ 1 rfl).at_ 3 _ rfl
  have e4 := (K.at_ 1 rfl).at_ 4 _ rfl
  have e5 := (K.at_ 1 rfl).at_ 5 _ rfl
  have e6 := (K.at_ 1 rfl).at_ 6 _ rfl

  have eA : maV a = .agg (maC a).toArray := rfl
  have eB : maV b = .agg (maC b).toArray := rfl
  have pf : ∀ k, pl g a b k = pl g a b k := fun _ => rfl
  generalize pl g a b = pk at *
  generalize fW g (a.m * b.m) (df a b) = f at *
  generalize drwW g (a.m * b.m) = dg at *
  generalize prdW (df a b) = pr at *
  generalize rG (lngP (df a b) 3) = rt at *
  generalize lngP (df a b) 3 = lg at *
  generalize df a b = d at *
  unfold maV at *
  obtain ⟨am, ⟨ax, ay, az⟩, ⟨ap, aq, ar⟩⟩ := a
  obtain ⟨bm, ⟨bx, bY, bz⟩, ⟨bp, bq, br⟩⟩ := b
  unfold maC in3 f3V at *
  dsimp only at *
  clear eA eB pf
  have hst := @fstore
  have hsi := @istore
  replace K := Lib.hid K
  unfold capW ncapW at *
  go_enter Try.func14, Try.ntmps14
  go_wp2_with fail
  refine (CA.out _).mono ?_
  rintro _ w1 ⟨rfl, hb1⟩
  have K1 := K.out.on hb1
  clear K c0 c1 c2 c3 c4 c5 c6 e0 e1 e2 e3 e4 e5 e6
  generalize hn1 : w1.heap.size = n1 at *
  have K2 := K1.new 45 [.float .f64 (dW (d 0)), .float .f64 (dW (d 1)), .float .f64 (dW (d 2))]
  rw [hn1] at K2
  simp only [objV, List.cons_append, List.nil_append] at K2
  have c0 := (K2.at_ 0 rfl).at_ 0 _ rfl
  have c1 := (K2.at_ 0 rfl).at_ 1 _ rfl
  have c2 := (K2.at_ 0 rfl).at_ 2 _ rfl
  have c3 := (K2.at_ 0 rfl).at_ 3 _ rfl
  have c4 := (K2.at_ 0 rfl).at_ 4 _ rfl
  have c5 := (K2.at_ 0 rfl).at_ 5 _ rfl
  have c6 := (K2.at_ 0 rfl).at_ 6 _ rfl
  have e0 := (K2.at_ 1 rfl).at_ 0 _ rfl
  have e1 := (K2.at_ 1 rfl).at_ 1 _ rfl
  have e2 := (K2.at_ 1 rfl).at_ 2 _ rfl
  have e3 := (K2.at_ 1 rfl).at_ 3 _ rfl
  have e4 := (K2.at_ 1 rfl).at_ 4 _ rfl
  have e5 := (K2.at_ 1 rfl).at_ 5 _ rfl
  have e6 := (K2.at_ 1 rfl).at_ 6 _ rfl

  replace K2 := Lib.hid K2
  clear K1 hb1
  go_wp2_with fail
  refine (CD.out _).mono ?_
  rintro _ w2 ⟨rfl, hb2⟩
  have K3 := K2.out.on hb2
  clear K2 hb2 c0 c1 c2 c3 c4 c5 c6 e0 e1 e2 e3 e4 e5 e6
  generalize hn2 : w2.heap.size = n2 at *
  have K4 := K3.new 24 [.int .i64 0, .int .i64 0, .int .i64 0]
  rw [hn2] at K4
  simp only [objV, List.cons_append, List.nil_append] at K4
  replace K4 := Lib.hid K4
  clear K3
  go_wp2_with (go_at_call 19; ((with_reducible refine (CS.out _).mono ?_); rintro e w' ⟨rfl, rfl⟩))
  go_loopw [27] (fun iv wr => ∃ k : Nat, k ≤ 3 ∧ iv = .int .i64 k ∧ Kv w [some (w.heap.size, [.int .i64 am, .int .i64 ax, .int .i64 ay, .int .i64 az, .int .i64 ap, .int .i64 aq, .int .i64 ar]), some (w.heap.size + 1, [.int .i64 bm, .int .i64 bx, .int .i64 bY, .int .i64 bz, .int .i64 bp, .int .i64 bq, .int .i64 br]), some (w.heap.size + 1 + 1, [.int .i64 0, .int .i64 0, .int .i64 0]), some (n1, fl3 fun k => dW (d k)), some (n2, in3 ((⟨0, 0, 0⟩ : T3).mix pk k))] wr) (fun iv _ => 3 - (intOf iv).toNat)
  case atStart => exact ⟨0, by omega, rfl, K4.out⟩
  case round =>
    obtain ⟨k, hk, rfl, C⟩ := hrel
    clear K4
    by_cases hlt : k < 3
    · have c3 := (C.at_ 3 rfl).at_ k _ (fl3_get _ hlt)
      have c4 := (C.at_ 4 rfl).at_ k _ (in3_get _ hlt)
      have f4 := (C.at_ 4 rfl).fr k _ (in3_get _ hlt)
      have P := C.put 4 rfl k [.int .i64 (pk k)] (by simp [in3]; omega)
      simp only [setV, in3_put _ hlt, mix_put _ _ hlt, putV] at P
      replace P := Lib.hid P
      have r1 := rk.out k
      have r2 := fun t ts => mn.out k t ts Try.prog
      have r3 := fun t ts => mx.out k t ts Try.prog
      have C5 := Lib.hid (CR.out k)
      rw [er.out k] at C5
      clear C rk mn mx CR er CA CD CS rm rq
      generalize dW (d k) = D at *
      generalize mX f D = y at *
      generalize mnW 4751297606875873280 y = y1 at *
      generalize mxW 13974669643730649088 y1 = y2 at *
      go_wp2_with (go_at_call 13; ((with_reducible refine (C5.out _).mono ?_); rintro e w' ⟨rfl, rfl⟩))
      go_roundw
      case rel => exact ⟨k + 1, hlt, by go_num, P.out⟩
      case measure => simp [intOf]; omega
    · obtain rfl : k = 3 := by omega
      rw [mix_three] at C
      have c0 := (C.at_ 4 rfl).at_ 0 _ rfl
      have c1 := (C.at_ 4 rfl).at_ 1 _ rfl
      have c2 := (C.at_ 4 rfl).at_ 2 _ rfl
      have g0 := (C.at_ 2 rfl).at_ 0 _ rfl
      have g1 := (C.at_ 2 rfl).at_ 1 _ rfl
      have g2 := (C.at_ 2 rfl).at_ 2 _ rfl
      have f0 := (C.at_ 2 rfl).fr 0 _ rfl
      have f1 := (C.at_ 2 rfl).fr 1 _ rfl
      have f2 := (C.at_ 2 rfl).fr 2 _ rfl
      have P := C.put 2 rfl 0 [.int .i64 (pk 0), .int .i64 (pk 1), .int .i64 (pk 2)] (by simp)
      simp only [putV, Nat.zero_add, Nat.reduceAdd] at P
      replace P := Lib.hid P
      unfold T3.of at c0 c1 c2
      clear C rk mn mx CR er CA CD CS rm rq
      go_wp2_with fail
      replace P := P.out
      (try simp only [Exit.inBlock, Exit.then])
      refine bodyPost_ret (v := .agg #[.int .i64 (pk 0), .int .i64 (pk 1), .int .i64 (pk 2)]) ?_ rfl ⟨rfl, P.old⟩
      have q0 := (P.at_ 2 rfl).at_ 0 _ rfl
      have q1 := (P.at_ 2 rfl).at_ 1 _ rfl
      have q2 := (P.at_ 2 rfl).at_ 2 _ rfl
      rw [results_cell1 rfl]; go_simp
end Go.Proofs.Ytacinenddnfcbaa

namespace Go.Proofs.Ytacinenddnfcbaa
open Go.ChangeShapes Go.WideShapes Go.ChangeAt Go.RowKit Go.Deep Ieee.Own

/-! ### a list of masses of one's own -/
def flatM (l : List Ma) : List Value := (l.map maC).flatten
theorem flat_set {m : Nat} {v : Value} : ∀ {R : List (List Value)}, RowsOk m R → ∀ {j c : Nat} {r : List Value}, R[j]? = some r → c < m → R.flatten.set (j * m + c) v = (R.set j (r.set c v)).flatten
  | [], _, j, c, r, h, _ => by simp at h
  | q :: R, h, 0, c, r, hj, hc => by
    simp at hj
    subst hj
    have hl := h.len q (List.mem_cons_self ..)
    rw [Nat.zero_mul, Nat.zero_add, List.set_cons_zero, List.flatten_cons, List.flatten_cons, List.set_append_left _ _ (by omega)]
  | q :: R, h, j + 1, c, r, hj, hc => by
    have hl := h.len q (List.mem_cons_self ..)
    rw [List.set_cons_succ, List.flatten_cons, List.flatten_cons, List.set_append_right _ _ (by rw [hl, Nat.add_mul]; omega), hl]
    congr 1
    have e : (j + 1) * m + c - m = j * m + c := by rw [Nat.add_mul]; omega
    rw [e]
    exact flat_set h.tail (by simpa using hj) hc
theorem flatM_at {l : List Ma} {j c : Nat} {u : Value} (hj : j < l.length) (hc : (maC (mAt l j))[c]? = some u) : (flatM l)[j * 7 + c]? = some u := flat_at (rows_ma l) (ma_get hj) hc
theorem flatM_set {l : List Ma} {j c : Nat} {v : Value} {a : Ma} (hj : j < l.length) (hc : c < 7) (e : (maC (mAt l j)).set c v = maC a) : (flatM l).set (j * 7 + c) v = flatM (l.set j a) := by
  unfold flatM
  rw [flat_set (rows_ma l) (ma_get hj) hc, e, List.map_set]
def OwM (g : Nat) (l : List Ma) (w : World) : Prop := BV w g (flatM l)
theorem OwM.x {g : Nat} {l : List Ma} {w : World} (h : OwM g l w) {j k : Nat} (hj : j < l.length) (hk : k < 3) : w.cell? ⟨g, j * 7 + 1 + k, none⟩ = some (.int .i64 ((mAt l j).x.get k)) ∧ w.frozen? ⟨g, j * 7 + 1 + k, none⟩ = false := by
  rw [Nat.add_assoc]
  exact ⟨h.at_ _ _ (flatM_at hj (maC_x _ hk)), h.fr _ _ (flatM_at hj (maC_x _ hk))⟩
theorem OwM.p {g : Nat} {l : List Ma} {w : World} (h : OwM g l w) {j k : Nat} (hj : j < l.length) (hk : k < 3) : w.cell? ⟨g, j * 7 + 4 + k, none⟩ = some (.int .i64 ((mAt l j).p.get k)) ∧ w.frozen? ⟨g, j * 7 + 4 + k, none⟩ = false := by
  rw [Nat.add_assoc]
  exact ⟨h.at_ _ _ (flatM_at hj (maC_p _ hk)), h.fr _ _ (flatM_at hj (maC_p _ hk))⟩
theorem OwM.m {g : Nat} {l : List Ma} {w : World} (h : OwM g l w) {j : Nat} (hj : j < l.length) : w.cell? ⟨g, j * 7, none⟩ = some (.int .i64 (mAt l j).m) := h.at_ _ _ (flatM_at hj (maC_m _))
theorem OwM.setx {g : Nat} {l : List Ma} {w : World} (h : OwM g l w) {j k : Nat} (hj : j < l.length) (hk : k < 3) (y : Int) : OwM g (l.set j { mAt l j with x := (mAt l j).x.put k y }) (w.setCell ⟨g, j * 7 + 1 + k, none⟩ (.int .i64 y)) := by
  have := h.set1 (flatM_at hj (maC_x _ hk)) (.int .i64 y)
  rwa [flatM_set hj (by omega) (maC_setx _ hk y), ← Nat.add_assoc] at this
theorem OwM.setp {g : Nat} {l : List Ma} {w : World} (h : OwM g l w) {j k : Nat} (hj : j < l.length) (hk : k < 3) (y : Int) : OwM g (l.set j { mAt l j with p := (mAt l j).p.put k y }) (w.setCell ⟨g, j * 7 + 4 + k, none⟩ (.int .i64 y)) := by
  have := h.set1 (flatM_at hj (maC_p _ hk)) (.int .i64 y)
  rwa [flatM_set hj (by omega) (maC_setp _ hk y), ← Nat.add_assoc] at this
theorem OwM.on {g : Nat} {l : List Ma} {w w' : World} (h : OwM g l w) (hb : Below w.heap.size w w') : OwM g l w' := BV.on h hb
theorem OwM.draws {g : Nat} {l : List Ma} {w : World} (h : OwM g l w) : OwM g l w.drew := ⟨h.1, h.2, h.3⟩
theorem OwM.lt {g : Nat} {l : List Ma} {w : World} (h : OwM g l w) : g < w.heap.size := BV.lt h
theorem OwM.at_ {g : Nat} {l : List Ma} {w : World} (h : OwM g l w) : MAt w (some ⟨g, 0, none⟩) l := by
  intro j r hj
  refine ⟨g, 0, rfl, BV.lt h, fun k u hu => ?_⟩
  rw [Nat.zero_add]
  exact BV.at_ h _ _ (flat_at (rows_ma l) hj hu)

/-! ### drift -/
/-- the first i masses have drifted -/
def upD (h : Int) (l : List Ma) (i : Nat) : List Ma := (l.take i).map (dr h) ++ l.drop i
theorem upD_len (h : Int) (l : List Ma) (i : Nat) : (upD h l i).length = l.length := by unfold upD; simp; omega
theorem upD_zero (h : Int) (l : List Ma) : upD h l 0 = l := by unfold upD; simp
theorem upD_end (h : Int) (l : List Ma) : upD h l l.length = dft h l := by unfold upD dft; simp
theorem upD_at (h : Int) {l : List Ma} {i : Nat} (hi : i < l.length) : mAt (upD h l i) i = mAt l i := by
  refine mAt_of ?_
  unfold upD
  rw [List.getElem?_append_right (by simp; omega)]
  simp only [List.length_map, List.length_take, List.getElem?_drop]
  rw [show i + (i - min i l.length) = i by omega]
  exact mAt_get hi
theorem upD_next (h : Int) {l : List Ma} {i : Nat} (hi : i < l.length) : (upD h l i).set i (dr h (mAt l i)) = upD h l (i + 1) := by
  unfold upD
  rw [List.set_append_right _ _ (by simp; omega)]
  simp only [List.length_map, List.length_take]
  have e : l[i] = mAt l i := by
    have := mAt_get hi
    rw [List.getElem?_eq_getElem hi] at this
    exact Option.some.inj this
  rw [show i - min i l.length = 0 by omega, List.take_add_one, mAt_get hi, List.drop_eq_getElem_cons hi, e]
  simp
def xUp (h : Int) (a : Ma) (k : Nat) : Ma := { a with x := a.x.mix (fun k => a.x.get k + h * hfI (a.p.get k) a.m) k }
theorem xUp_zero (h : Int) (a : Ma) : xUp h a 0 = a := rfl
theorem xUp_three (h : Int) (a : Ma) : xUp h a 3 = dr h a := rfl
theorem xUp_get (h : Int) (a : Ma) {k : Nat} (hk : k < 3) : (xUp h a k).x.get k = a.x.get k := mix_get _ _ hk
theorem xUp_put (h : Int) (a : Ma) {k : Nat} (hk : k < 3) : { xUp h a k with x := (xUp h a k).x.put k (a.x.get k + h * hfI (a.p.get k) a.m) } = xUp h a (k + 1) := by
  unfold xUp
  dsimp only
  rw [mix_put _ (fun k => a.x.get k + h * hfI (a.p.get k) a.m) hk]
theorem up_1 {v : Int} {D : Nat} (h : v.natAbs ≤ 2 ^ (D + 50)) : v.natAbs ≤ 2 ^ (D + 51) := abs_up h (by omega)
/-- what a drift may begin with -/
structure Dok (a : Ma) : Prop where
  m1 : 1 ≤ a.m
  m2 : a.m ≤ 1048576
  x : ∀ k, (a.x.get k).natAbs ≤ 2 ^ 53
  p : ∀ k, (a.p.get k).natAbs ≤ 2 ^ 50
theorem OkM.dok {a : Ma} (h : OkM a) : Dok a := ⟨h.m1, h.m2, fun k => abs_up (h.x k) (by omega), h.p⟩
theorem set_set {l : List Ma} {i : Nat} (a b : Ma) : (l.set i a).set i b = l.set i b := List.set_set ..
theorem set_at {l : List Ma} {i : Nat} (hi : i < l.length) (a : Ma) : mAt (l.set i a) i = a := mAt_of (List.getElem?_set_self hi)
theorem set_same {l : List Ma} {i : Nat} (hi : i < l.length) : l.set i (mAt l i) = l := by
  refine list_same (by simp) fun t _ => ?_
  rw [mAt_set _ hi]
  split
  · rename_i e; rw [e]
  · rfl
set_option maxHeartbeats 8000000 in
set_option maxRecDepth 100000 in
theorem gdrift_run {h : Int} (hh : h = 1 ∨ h = -1) {l : List Ma} {g n cap : Nat} {w : World} (hn : n = l.length) (h8 : n ≤ 8) (hl : ∀ a ∈ l, Dok a) (O : OwM g l w) :
    Calls Try.prog 10 #[.slice (some ⟨g, 0, none⟩) n cap, .int .i64 h] w fun e w' => e = .returned (.tuple #[]) ∧ Below g w w' ∧ OwM g (dft h l) w' := by
  have hsi := @istore
  replace hn := Lib.hid hn
  replace hl := Lib.hid hl
  replace hh := Lib.hid hh
  have h8' : (n : Int) ≤ 8 := by omega
  replace O := Lib.hid O
  go_enter Try.func10, Try.ntmps10
  go_wp2_with fail
  go_loopw [9] (fun iv wr => ∃ i : Nat, i ≤ n ∧ iv = .int .i64 i ∧ OwM g (upD h l i) wr ∧ Below g w wr) (fun iv _ => n - (intOf iv).toNat)
  case atStart => exact ⟨0, Nat.zero_le _, rfl, by rw [upD_zero]; exact O.out, Below.refl _ _⟩
  case round =>
    obtain ⟨i, hi, rfl, C, hb⟩ := hrel
    clear O
    by_cases hlt : i < n
    · have hil : i < l.length := by have := hn.out; omega
      have A := hl.out _ (mAt_mem hil)
      have nx := Lib.hid (upD_next h hil)
      have hlU : Hid (i < (upD h l i).length) := by show i < _; rw [upD_len]; exact hil
      have at0 := Lib.hid (upD_at h hil)
      have st : OwM g ((upD h l i).set i (xUp h (mAt l i) 0)) wr := by rw [xUp_zero, ← at0.out, set_same hlU.out]; exact C
      generalize mAt l i = a at *
      replace C := Lib.hid C
      replace st := Lib.hid st
      replace hb := Lib.hid hb
      clear hl
      have hig : (i : Int) < (n : Int) := by omega
      go_wp2_with fail
      go_loopw [15] (fun kv wx => ∃ k : Nat, k ≤ 3 ∧ kv = .int .i64 k ∧ OwM g ((upD h l i).set i (xUp h a k)) wx ∧ Below g w wx) (fun kv _ => 3 - (intOf kv).toNat)
      case atStart => exact ⟨0, by omega, rfl, st.out, hb.out⟩
      case round =>
        obtain ⟨k, hk, rfl, X, hbx⟩ := hrel
        clear st C hb
        by_cases hkt : k < 3
        · have hjl : i < ((upD h l i).set i (xUp h a k)).length := by rw [List.length_set]; exact hlU.out
          have eA := set_at hlU.out (xUp h a k)
          have cx := X.x hjl hkt
          have cp := X.p hjl hkt
          have cm := X.m hjl
          have Y := X.setx hjl hkt (a.x.get k + h * hfI (a.p.get k) a.m)
          rw [eA, xUp_put h a hkt, set_set] at Y
          rw [eA] at cx cp cm
          rw [xUp_get h a hkt] at cx
          have px : (xUp h a k).p = a.p := rfl
          have mx : (xUp h a k).m = a.m := rfl
          rw [px] at cp
          rw [mx] at cm
          obtain ⟨cx, fx⟩ := cx
          obtain ⟨cp, -⟩ := cp
          have hf := hf_ok A.m1 A.m2 (A.p k) (by decide)
          have cap := hf_cap A.m1 A.m2 (A.p k) (by decide)
          have sg := sgn_cap (y := hfI (a.p.get k) a.m) hh.out
          have ax := A.x k
          have rq := run_div _ _ _ hf.1
          have cv1 := conv_i64 (a.p.get k)
          have cv2 := conv_i64 (2 * a.m)
          have w1 : IntKind.i64.wrap (2 * a.m) = 2 * a.m := IntWalk.i64_in _ (by have := A.m1; have := A.m2; omega)
          have w2 : IntKind.i64.wrap (h * hfI (a.p.get k) a.m) = h * hfI (a.p.get k) a.m := IntWalk.i64_in _ (by omega)
          have w3 : IntKind.i64.wrap (a.x.get k + h * hfI (a.p.get k) a.m) = a.x.get k + h * hfI (a.p.get k) a.m := IntWalk.i64_in _ (by omega)
          have CR : ∀ w, Calls Try.prog 13 #[.float .f64 (qG (dW (a.p.get k)) (dW (2 * a.m)))] w fun e w' => e = .returned (.int .i64 (hfI (a.p.get k) a.m)) ∧ w' = w := fun w => (ground_run hf.2.1 (up_1 (D := 1074) hf.2.2) w).mono fun e w' q => ⟨q.1, q.2.symm⟩
          have Y2 := Lib.hid (Y.draws)
          have hb2 := Lib.hid ((hbx.setCell (p := ⟨g, i * 7 + 1 + k, none⟩) (Nat.le_refl g) (.int .i64 (a.x.get k + h * hfI (a.p.get k) a.m))).drew)
          replace CR := Lib.hid CR
          clear Y cap sg ax hf X hbx A eA px mx
          generalize hfI (a.p.get k) a.m = q at *
          generalize qG (dW (a.p.get k)) (dW (2 * a.m)) = qw at *
          generalize dW (a.p.get k) = pw at *
          generalize dW (2 * a.m) = mw at *
          generalize a.x.get k = xk at *
          generalize a.p.get k = pk at *
          generalize a.m = m at *
          have hkg : (k : Int) < 3 := by omega
          go_wp2_with fail
          refine wp_region_still_tail 27 (by kernel_rfl) (by kernel_rfl) ?_
          simp only [List.take_succ_cons, List.take_zero, List.drop_succ_cons, List.drop_zero]
          repeat still_step
          still_call (CR.out _)
          repeat still_step
          refine wpStill_nil ?_
          change wpList _ _ _ _ _ wr.drew
          go_wp2_with fail
          go_roundw
          case rel => exact ⟨k + 1, hkt, by go_num, Y2.out, hb2.out⟩
          case measure => simp [intOf]; omega
        · obtain rfl : k = 3 := by omega
          rw [xUp_three, nx.out] at X
          replace X := Lib.hid X
          replace hbx := Lib.hid hbx
          go_wp2_with fail
          go_roundw
          case rel => exact ⟨i + 1, hlt, by go_num, X.out, hbx.out⟩
          case measure => simp [intOf]; omega
    · obtain rfl : i = n := by omega
      have X : OwM g (dft h l) wr := by
        rw [← upD_end, ← hn.out]
        exact C
      replace X := Lib.hid X
      replace hb := Lib.hid hb
      clear C hl
      go_wp2_with fail
      refine bodyPost_end (results_none rfl _ _ _) rfl ?_
      exact ⟨rfl, hb.out, X.out⟩
end Go.Proofs.Ytacinenddnfcbaa

namespace Go.Proofs.Ytacinenddnfcbaa
open Go.ChangeShapes Go.WideShapes Go.ChangeAt Go.RowKit Go.Deep Ieee.Own

def upP (g : Nat) (h : Int) (a b : Ma) (k : Nat) : Ma := { a with p := a.p.mix (fun k => a.p.get k + h * pl g a b k) k }
def dnP (g : Nat) (h : Int) (a b : Ma) (k : Nat) : Ma := { b with p := b.p.mix (fun k => b.p.get k - h * pl g a b k) k }
def prL (g : Nat) (h : Int) (L : List Ma) (i j k : Nat) : List Ma := (L.set i (upP g h (mAt L i) (mAt L j) k)).set j (dnP g h (mAt L i) (mAt L j) k)
def mdL (g : Nat) (h : Int) (L : List Ma) (i j k : Nat) : List Ma := (L.set i (upP g h (mAt L i) (mAt L j) (k + 1))).set j (dnP g h (mAt L i) (mAt L j) k)
theorem prL_len (g : Nat) (h : Int) (L : List Ma) (i j k : Nat) : (prL g h L i j k).length = L.length := by unfold prL; simp
theorem mdL_len (g : Nat) (h : Int) (L : List Ma) (i j k : Nat) : (mdL g h L i j k).length = L.length := by unfold mdL; simp
theorem prL_zero {g : Nat} {h : Int} {L : List Ma} {i j : Nat} (hi : i < L.length) (hj : j < L.length) : prL g h L i j 0 = L := by
  show (L.set i (mAt L i)).set j (mAt L j) = L
  rw [set_same hi, set_same hj]
theorem prL_i {g : Nat} {h : Int} {L : List Ma} {i j k : Nat} (hi : i < L.length) (hj : j < L.length) (hij : i ≠ j) : mAt (prL g h L i j k) i = upP g h (mAt L i) (mAt L j) k := by
  unfold prL
  rw [mAt_set _ (by simpa using hj), if_neg (Ne.symm hij), mAt_set _ hi, if_pos rfl]
theorem mdL_j {g : Nat} {h : Int} {L : List Ma} {i j k : Nat} (hj : j < L.length) : mAt (mdL g h L i j k) j = dnP g h (mAt L i) (mAt L j) k := by
  unfold mdL
  rw [mAt_set _ (by simpa using hj), if_pos rfl]
theorem prL_set {g : Nat} {h : Int} {L : List Ma} {i j k : Nat} (hij : i ≠ j) : (prL g h L i j k).set i (upP g h (mAt L i) (mAt L j) (k + 1)) = mdL g h L i j k := by
  unfold prL mdL
  rw [List.set_comm _ _ (Ne.symm hij), List.set_set]
theorem mdL_set {g : Nat} {h : Int} {L : List Ma} {i j k : Nat} : (mdL g h L i j k).set j (dnP g h (mAt L i) (mAt L j) (k + 1)) = prL g h L i j (k + 1) := by
  unfold prL mdL
  rw [List.set_set]
theorem upP_get {g : Nat} {h : Int} {a b : Ma} {k : Nat} (hk : k < 3) : (upP g h a b k).p.get k = a.p.get k := mix_get _ _ hk
theorem dnP_get {g : Nat} {h : Int} {a b : Ma} {k : Nat} (hk : k < 3) : (dnP g h a b k).p.get k = b.p.get k := mix_get _ _ hk
theorem upP_put {g : Nat} {h : Int} {a b : Ma} {k : Nat} (hk : k < 3) : { upP g h a b k with p := (upP g h a b k).p.put k (a.p.get k + h * pl g a b k) } = upP g h a b (k + 1) := by
  unfold upP
  dsimp only
  rw [mix_put _ (fun k => a.p.get k + h * pl g a b k) hk]
theorem dnP_put {g : Nat} {h : Int} {a b : Ma} {k : Nat} (hk : k < 3) : { dnP g h a b k with p := (dnP g h a b k).p.put k (b.p.get k - h * pl g a b k) } = dnP g h a b (k + 1) := by
  unfold dnP
  dsimp only
  rw [mix_put _ (fun k => b.p.get k - h * pl g a b k) hk]
theorem pair_first {g gw i j k : Nat} {h : Int} {L : List Ma} {w : World} (X : OwM g (prL gw h L i j k) w) (hi : i < L.length) (hj : j < L.length) (hij : i ≠ j) (hk : k < 3) :
    w.cell? ⟨g, i * 7 + 4 + k, none⟩ = some (.int .i64 ((mAt L i).p.get k)) ∧ w.frozen? ⟨g, i * 7 + 4 + k, none⟩ = false ∧
      OwM g (mdL gw h L i j k) (w.setCell ⟨g, i * 7 + 4 + k, none⟩ (.int .i64 ((mAt L i).p.get k + h * pl gw (mAt L i) (mAt L j) k))).drew := by
  have hl : i < (prL gw h L i j k).length := by rw [prL_len]; exact hi
  have c := X.p hl hk
  have s := X.setp hl hk ((mAt L i).p.get k + h * pl gw (mAt L i) (mAt L j) k)
  rw [prL_i hi hj hij, upP_get hk] at c
  rw [prL_i hi hj hij, upP_put hk, prL_set hij] at s
  exact ⟨c.1, c.2, s.draws⟩
theorem pair_second {g gw i j k : Nat} {h : Int} {L : List Ma} {w : World} (X : OwM g (mdL gw h L i j k) w) (hj : j < L.length) (hk : k < 3) :
    w.cell? ⟨g, j * 7 + 4 + k, none⟩ = some (.int .i64 ((mAt L j).p.get k)) ∧ w.frozen? ⟨g, j * 7 + 4 + k, none⟩ = false ∧
      OwM g (prL gw h L i j (k + 1)) (w.setCell ⟨g, j * 7 + 4 + k, none⟩ (.int .i64 ((mAt L j).p.get k - h * pl gw (mAt L i) (mAt L j) k))).drew := by
  have hl : j < (mdL gw h L i j k).length := by rw [mdL_len]; exact hj
  have c := X.p hl hk
  have s := X.setp hl hk ((mAt L j).p.get k - h * pl gw (mAt L i) (mAt L j) k)
  rw [mdL_j hj, dnP_get hk] at c
  rw [mdL_j hj, dnP_put hk, mdL_set] at s
  exact ⟨c.1, c.2, s.draws⟩
theorem kst_ok {g : Nat} {h : Int} (hh : h = 1 ∨ h = -1) {l : List Ma} (h8 : l.length ≤ 8) (hl : ∀ a ∈ l, Mid a) {f : Nat → Nat} {t : Nat} (ht : t < l.length) : Mid0 (mAt (kst g h l f) t) ∧ ∀ k, ((mAt (kst g h l f) t).p.get k).natAbs ≤ 2 ^ 51 := by
  rw [kst_at _ _ _ _ ht]
  have m := hl _ (mAt_mem ht)
  exact ⟨⟨m.m1, m.m2, m.x⟩, kk_cap hh (by rw [List.length_take]; omega) m⟩
/-- which pulls have come, the greater index first -/
def fO (j i t : Nat) : Nat := if t < i then j + 1 else if t < j then j else if t = j then i else 0
theorem fun_same {g : Nat} {h : Int} {l : List Ma} {f f' : Nat → Nat} (e : ∀ t, f t = f' t) : kst g h l f = kst g h l f' := by rw [funext e]
theorem kO_start (g : Nat) (h : Int) (l : List Ma) : kst g h l (fO 0 0) = l := by
  rw [fun_same (f' := fun _ => 0) fun t => by unfold fO; split <;> (try split) <;> (try split) <;> omega]
  exact kst_start g h l
theorem kO_pair {g : Nat} (hg : Gee g) {h : Int} {l : List Ma} (hl : ∀ a ∈ l, Mid a) {i j : Nat} (hij : i < j) (hj : j < l.length) : prL g h (kst g h l (fO j i)) i j 3 = kst g h l (fO j (i + 1)) := by
  have := kst_pair hg (h := h) hl (f := fO j i) (i := i) (j := j) (by omega) hj (by omega) (by unfold fO; rw [if_neg (by omega), if_pos hij]) (by unfold fO; rw [if_neg (by omega), if_neg (by omega), if_pos rfl])
  refine Eq.trans this (fun_same fun t => ?_)
  unfold fO
  split <;> (try split) <;> (try split) <;> (try split) <;> (try split) <;> (try split) <;> omega
theorem kO_next {g : Nat} (hg : Gee g) {h : Int} {l : List Ma} (hl : ∀ a ∈ l, Mid a) (j : Nat) : kst g h l (fO j j) = kst g h l (fO (j + 1) 0) := by
  refine kst_same hg hl fun t _ => ?_
  unfold fO
  by_cases q : t = j
  · right
    subst q
    rw [if_neg (by omega), if_neg (by omega), if_pos rfl, if_neg (by omega), if_pos (by omega)]
    exact ⟨rfl, rfl⟩
  · left
    split <;> (try split) <;> (try split) <;> (try split) <;> (try split) <;> (try split) <;> omega
theorem kO_end (g : Nat) (h : Int) (l : List Ma) : kst g h l (fO l.length 0) = kck g h l := by
  refine Eq.trans (list_same (by rw [kst_len, kst_len]) fun t ht => ?_) (kst_end g h l)
  rw [kst_len] at ht
  rw [kst_at _ _ _ _ ht, kst_at _ _ _ _ ht]
  unfold fO
  rw [if_neg (by omega), if_pos ht]
theorem OwM.cells {g : Nat} {l : List Ma} {w : World} (h : OwM g l w) {j : Nat} (hj : j < l.length) : w.cell? ⟨g, j * 7, none⟩ = some (.int .i64 (mAt l j).m) ∧ w.cell? ⟨g, j * 7 + 1, none⟩ = some (.int .i64 (mAt l j).x.a) ∧ w.cell? ⟨g, j * 7 + 2, none⟩ = some (.int .i64 (mAt l j).x.b) ∧ w.cell? ⟨g, j * 7 + 3, none⟩ = some (.int .i64 (mAt l j).x.c) ∧
    w.cell? ⟨g, j * 7 + 4, none⟩ = some (.int .i64 (mAt l j).p.a) ∧ w.cell? ⟨g, j * 7 + 5, none⟩ = some (.int .i64 (mAt l j).p.b) ∧ w.cell? ⟨g, j * 7 + 6, none⟩ = some (.int .i64 (mAt l j).p.c) :=
  ⟨h.m hj, BV.at_ h _ _ (flatM_at hj rfl), BV.at_ h _ _ (flatM_at hj rfl), BV.at_ h _ _ (flatM_at hj rfl), BV.at_ h _ _ (flatM_at hj rfl), BV.at_ h _ _ (flatM_at hj rfl), BV.at_ h _ _ (flatM_at hj rfl)⟩
end Go.Proofs.Ytacinenddnfcbaa

namespace Go.Proofs.Ytacinenddnfcbaa
open Go.ChangeShapes Go.WideShapes Go.ChangeAt Go.RowKit Go.Deep Ieee.Own

set_option maxHeartbeats 16000000 in
set_option maxRecDepth 100000 in
theorem gkick_run {h : Int} (hh : h = 1 ∨ h = -1) {l : List Ma} {g n cap gw : Nat} {w : World} (hg : Gee gw) (hn : n = l.length) (h8 : n ≤ 8) (hl : ∀ a ∈ l, Mid a) (O : OwM g l w) :
    Calls Try.prog 11 #[.slice (some ⟨g, 0, none⟩) n cap, .float .f64 gw, .int .i64 h] w fun e w' => e = .returned (.tuple #[]) ∧ Below g w w' ∧ OwM g (kck gw h l) w' := by
  have hsi := @istore
  replace hn := Lib.hid hn
  replace hl := Lib.hid hl
  replace hh := Lib.hid hh
  replace hg := Lib.hid hg
  have h8' : (n : Int) ≤ 8 := by omega
  replace O := Lib.hid O
  go_enter Try.func11, Try.ntmps11
  go_wp2_with fail
  go_loopw [12] (fun jv wr => ∃ j : Nat, j ≤ n ∧ jv = .int .i64 j ∧ OwM g (kst gw h l (fO j 0)) wr ∧ Below g w wr) (fun jv _ => n - (intOf jv).toNat)
  case atStart => exact ⟨0, Nat.zero_le _, rfl, by rw [kO_start]; exact O.out, Below.refl _ _⟩
  case round =>
    obtain ⟨j, hj, rfl, C, hb⟩ := hrel
    clear O
    by_cases hlt : j < n
    · have hjl : j < l.length := by have := hn.out; omega
      have hjn : (j : Int) < (n : Int) := by omega
      replace C := Lib.hid C
      replace hb := Lib.hid hb
      go_upto_region 4 with fail
      go_wp2_with fail
      go_loopw [16] (fun iv wx => ∃ i : Nat, i ≤ j ∧ iv = .int .i64 i ∧ OwM g (kst gw h l (fO j i)) wx ∧ Below g w wx) (fun iv _ => j - (intOf iv).toNat)
      case atStart => exact ⟨0, Nat.zero_le _, rfl, C.out, hb.out⟩
      case round =>
        obtain ⟨i, hi, rfl, X, hbx⟩ := hrel
        clear C hb
        by_cases hit : i < j
        · have hil : i < l.length := by omega
          have hin : (i : Int) < (n : Int) := by omega
          have hij : (i : Int) < (j : Int) := by omega
          have hne : i ≠ j := by omega
          have oi := kst_ok (g := gw) hh.out (by have := hn.out; omega) hl.out (f := fO j i) hil
          have oj := kst_ok (g := gw) hh.out (by have := hn.out; omega) hl.out (f := fO j i) hjl
          have hLi : Hid (i < (kst gw h l (fO j i)).length) := by show i < _; rw [kst_len]; exact hil
          have hLj : Hid (j < (kst gw h l (fO j i)).length) := by show j < _; rw [kst_len]; exact hjl
          have nx : Hid (prL gw h (kst gw h l (fO j i)) i j 3 = kst gw h l (fO j (i + 1))) := kO_pair hg.out hl.out (by omega) hjl
          generalize hL : kst gw h l (fO j i) = L at *
          clear hL
          have CP := Lib.hid (fun w => gpull_run hg.out oi.1 oj.1 w)
          unfold i3V pl3 T3.of maV at CP
          dsimp only at CP
          replace X := Lib.hid X
          replace hbx := Lib.hid hbx
          replace oi := Lib.hid oi
          replace oj := Lib.hid oj
          go_upto_region 6 with fail
          have K := (Kv.nil wr).more
          simp only [List.nil_append] at K
          have farA : Hid (∀ W, Below wr.heap.size wr W → _) := Lib.hid fun W hW => (X.out.on hW).cells hLi.out
          have farB : Hid (∀ W, Below wr.heap.size wr W → _) := Lib.hid fun W hW => (X.out.on hW).cells hLj.out
          generalize ha : mAt L i = xa at *
          generalize hb : mAt L j = xb at *
          replace ha := Lib.hid ha
          replace hb := Lib.hid hb
          generalize hds : ([some 19, some 20, some 21, some 22, some 23, some 24, some 25, some 26, some 27, some 28, some 8, none] : List (Option Tmp)) = ds
          have hap : apartL ds = true := by rw [← hds]; decide
          replace hds := hds.symm
          refine wp_region_kv (fun hf => [some (hf 10, [.int .i64 (pl gw xa xb 0), .int .i64 (pl gw xa xb 1), .int .i64 (pl gw xa xb 2)])]) (fun hf => [some (.slice (some ⟨g, 0, none⟩) n cap), some (.int .i64 (i : Int)), some (.pointer (some ⟨g, i * 7, none⟩)), some (.agg #[.int .i64 xa.m, .int .i64 xa.x.a, .int .i64 xa.x.b, .int .i64 xa.x.c, .int .i64 xa.p.a, .int .i64 xa.p.b, .int .i64 xa.p.c]), some (.slice (some ⟨g, 0, none⟩) n cap), some (.int .i64 (j : Int)), some (.pointer (some ⟨g, j * 7, none⟩)), some (.agg #[.int .i64 xb.m, .int .i64 xb.x.a, .int .i64 xb.x.b, .int .i64 xb.x.c, .int .i64 xb.p.a, .int .i64 xb.p.b, .int .i64 xb.p.c]), some (.float .f64 gw), some (.agg #[.int .i64 (pl gw xa xb 0), .int .i64 (pl gw xa xb 1), .int .i64 (pl gw xa xb 2)]), some (ptrV (hf 10)), some (undef)]) [⟨10, 0, 24, [.int .i64 0, .int .i64 0, .int .i64 0]⟩] [⟨11, 0, 0, [.int .i64 (pl gw xa xb 0), .int .i64 (pl gw xa xb 1), .int .i64 (pl gw xa xb 2)]⟩] [.slice (some ⟨g, 0, none⟩) n cap, .int .i64 (i : Int), .pointer (some ⟨g, i * 7, none⟩), .agg #[.int .i64 xa.m, .int .i64 xa.x.a, .int .i64 xa.x.b, .int .i64 xa.x.c, .int .i64 xa.p.a, .int .i64 xa.p.b, .int .i64 xa.p.c], .slice (some ⟨g, 0, none⟩) n cap, .int .i64 (j : Int), .pointer (some ⟨g, j * 7, none⟩), .agg #[.int .i64 xb.m, .int .i64 xb.x.a, .int .i64 xb.x.b, .int .i64 xb.x.c, .int .i64 xb.p.a, .int .i64 xb.p.b, .int .i64 xb.p.c], .float .f64 gw, .agg #[.int .i64 (pl gw xa xb 0), .int .i64 (pl gw xa xb 1), .int .i64 (pl gw xa xb 2)], undef, undef] ds (by kernel_rfl) (by rw [hds]; rfl) hap (by decide +kernel) (by decide +kernel) K ?ha ?haj ?hai ?hsi ?hss ?hsa ?hsw ?htg ?hE2 ?hE3 ?hE4 ?hL1 ?hL2 ?hL3 ?alloc ?step ?store ?fin
          case ha => intro al hal; simp only [List.mem_cons, List.not_mem_nil, or_false] at hal; rcases hal with rfl <;> rfl
          case haj => intro al hal al' hal' e; simp only [List.mem_cons, List.not_mem_nil, or_false] at hal; rcases hal with rfl <;> (simp only [List.mem_cons, List.not_mem_nil, or_false] at hal'; rcases hal' with rfl) <;> first | rfl | (exfalso; revert e; simp)
          case hai => intro al hal; simp only [List.mem_cons, List.not_mem_nil, or_false] at hal; rcases hal with rfl <;> decide
          case hsi => intro st hst st' hst' e; simp only [List.mem_cons, List.not_mem_nil, or_false] at hst; rcases hst with rfl <;> (simp only [List.mem_cons, List.not_mem_nil, or_false] at hst'; rcases hst' with rfl) <;> first | rfl | (exfalso; revert e; simp)
          case hss =>
            intro st hst
            simp only [List.mem_cons, List.not_mem_nil, or_false] at hst; rcases hst with rfl
            · show 11 < 12; decide
          case hsa =>
            intro st hst al hal
            simp only [List.mem_cons, List.not_mem_nil, or_false] at hst; rcases hst with rfl
            · simp only [List.mem_cons, List.not_mem_nil, or_false] at hal; rcases hal with rfl
              · exact (show ¬ (11 = 10) by decide)
          case hsw =>
            intro st hst al hal e
            simp only [List.mem_cons, List.not_mem_nil, or_false] at hst; rcases hst with rfl
            · simp only [List.mem_cons, List.not_mem_nil, or_false] at hal; rcases hal with rfl
              · change waitsAt _ 11 10 = true; decide +kernel
          case htg =>
            intro st hst
            simp only [List.mem_cons, List.not_mem_nil, or_false] at hst; rcases hst with rfl
            · exact .inr ⟨_, List.mem_cons_self .., rfl, show 0 + 3 ≤ 3 by decide⟩
          case hE2 =>
            intro hf j h1 h2
            have n0 : 0 ≠ j := h1 _ (List.mem_cons_self ..)
            rcases j with _ | j
            · exact absurd rfl n0
            · rfl
          case hE3 =>
            intro hf st hst g us e
            simp only [List.mem_cons, List.not_mem_nil, or_false] at hst; rcases hst with rfl
            · simp at e
          case hE4 =>
            intro hf al hal
            simp only [List.mem_cons, List.not_mem_nil, or_false] at hal; rcases hal with rfl
            · refine ⟨fun st hst e => ?_, fun h => absurd rfl (h _ (List.mem_cons_self ..))⟩
              simp only [List.mem_cons, List.not_mem_nil, or_false] at hst; rcases hst with rfl
              · rfl
          case hL1 => intro hf; rfl
          case hL2 =>
            intro hf i hi hna
            have hi : i < 12 := hi
            have : i = 0 ∨ i = 1 ∨ i = 2 ∨ i = 3 ∨ i = 4 ∨ i = 5 ∨ i = 6 ∨ i = 7 ∨ i = 8 ∨ i = 9 ∨ i = 10 ∨ i = 11 := by omega
            rcases this with rfl | rfl | rfl | rfl | rfl | rfl | rfl | rfl | rfl | rfl | rfl | rfl
            · rfl
            · rfl
            · rfl
            · rfl
            · rfl
            · rfl
            · rfl
            · rfl
            · rfl
            · rfl
            · exact absurd rfl (hna _ (List.mem_cons_self ..))
            · rfl
          case hL3 => intro hf al hal; simp only [List.mem_cons, List.not_mem_nil, or_false] at hal; rcases hal with rfl <;> rfl
          case alloc =>
            intro al hal o ρ W ho
            simp only [List.mem_cons, List.not_mem_nil, or_false] at hal; rcases hal with rfl
            · obtain rfl := Option.some.inj ho; unfold execOp ptrV objV; go_simp
          case step =>
            intro L W i o ho hs ha hd hB hO
            have hi : i < 12 := (Array.getElem?_eq_some_iff.1 ho).1
            have : i = 0 ∨ i = 1 ∨ i = 2 ∨ i = 3 ∨ i = 4 ∨ i = 5 ∨ i = 6 ∨ i = 7 ∨ i = 8 ∨ i = 9 ∨ i = 10 ∨ i = 11 := by omega
            rcases this with rfl | rfl | rfl | rfl | rfl | rfl | rfl | rfl | rfl | rfl | rfl | rfl
            · -- 0
              obtain rfl := Option.some.inj ho
              refine .value W ?_ (Below.refl _ _)
              generalize hA : (puts ds L _).eval = ρ
              have hc : ∀ v, ρ (.const v) = v := fun v => by rw [← hA]; rfl
              have hg : ∀ g, ρ (.func g) = .func (.func g) #[] #[] := fun v => by rw [← hA]; rfl
              have h0 : ρ (.tmp 0) = .slice (some ⟨g, 0, none⟩) n cap := by rw [← hA]; exact (puts_old ds L _ (by rw [hds]; decide)).trans rfl
              clear hA hd hB ho hs ha hO
              unfold execOp
              go_simp
            · -- 1
              obtain rfl := Option.some.inj ho
              refine .value W ?_ (Below.refl _ _)
              generalize hA : (puts ds L _).eval = ρ
              have hc : ∀ v, ρ (.const v) = v := fun v => by rw [← hA]; rfl
              have hg : ∀ g, ρ (.func g) = .func (.func g) #[] #[] := fun v => by rw [← hA]; rfl
              have h0 : ρ (.tmp 7) = .int .i64 (i : Int) := by rw [← hA]; exact (puts_old ds L _ (by rw [hds]; decide)).trans rfl
              clear hA hd hB ho hs ha hO
              unfold execOp
              go_simp
            · -- 2
              obtain rfl := Option.some.inj ho
              refine .value W ?_ (Below.refl _ _)
              generalize hA : (puts ds L _).eval = ρ
              have hc : ∀ v, ρ (.const v) = v := fun v => by rw [← hA]; rfl
              have hg : ∀ g, ρ (.func g) = .func (.func g) #[] #[] := fun v => by rw [← hA]; rfl
              have h0 : ρ (.tmp 19) = .slice (some ⟨g, 0, none⟩) n cap := by rw [← hA]; exact puts_get 0 ds L _ hap (by rw [hds]; rfl) (hd 0 (by decide +kernel) (by intro al hal; simp only [List.mem_cons, List.not_mem_nil, or_false] at hal; rcases hal with rfl <;> decide)) (show 19 < 67 by decide)
              have h1 : ρ (.tmp 20) = .int .i64 (i : Int) := by rw [← hA]; exact puts_get 1 ds L _ hap (by rw [hds]; rfl) (hd 1 (by decide +kernel) (by intro al hal; simp only [List.mem_cons, List.not_mem_nil, or_false] at hal; rcases hal with rfl <;> decide)) (show 20 < 67 by decide)
              clear hA hd hB ho hs ha hO
              unfold execOp
              go_simp
            · -- 3
              obtain rfl := Option.some.inj ho
              obtain ⟨d0, d1, d2, d3, d4, d5, d6⟩ := farA.out W hO
              refine .value W ?_ (Below.refl _ _)
              generalize hA : (puts ds L _).eval = ρ
              have hc : ∀ v, ρ (.const v) = v := fun v => by rw [← hA]; rfl
              have hg : ∀ g, ρ (.func g) = .func (.func g) #[] #[] := fun v => by rw [← hA]; rfl
              have h0 : ρ (.tmp 21) = .pointer (some ⟨g, i * 7, none⟩) := by rw [← hA]; exact puts_get 2 ds L _ hap (by rw [hds]; rfl) (hd 2 (by decide +kernel) (by intro al hal; simp only [List.mem_cons, List.not_mem_nil, or_false] at hal; rcases hal with rfl <;> decide)) (show 21 < 67 by decide)
              clear hA hd hB ho hs ha hO
              unfold execOp
              go_simp
            · -- 4
              obtain rfl := Option.some.inj ho
              refine .value W ?_ (Below.refl _ _)
              generalize hA : (puts ds L _).eval = ρ
              have hc : ∀ v, ρ (.const v) = v := fun v => by rw [← hA]; rfl
              have hg : ∀ g, ρ (.func g) = .func (.func g) #[] #[] := fun v => by rw [← hA]; rfl
              have h0 : ρ (.tmp 0) = .slice (some ⟨g, 0, none⟩) n cap := by rw [← hA]; exact (puts_old ds L _ (by rw [hds]; decide)).trans rfl
              clear hA hd hB ho hs ha hO
              unfold execOp
              go_simp
            · -- 5
              obtain rfl := Option.some.inj ho
              refine .value W ?_ (Below.refl _ _)
              generalize hA : (puts ds L _).eval = ρ
              have hc : ∀ v, ρ (.const v) = v := fun v => by rw [← hA]; rfl
              have hg : ∀ g, ρ (.func g) = .func (.func g) #[] #[] := fun v => by rw [← hA]; rfl
              have h0 : ρ (.tmp 6) = .int .i64 (j : Int) := by rw [← hA]; exact (puts_old ds L _ (by rw [hds]; decide)).trans rfl
              clear hA hd hB ho hs ha hO
              unfold execOp
              go_simp
            · -- 6
              obtain rfl := Option.some.inj ho
              refine .value W ?_ (Below.refl _ _)
              generalize hA : (puts ds L _).eval = ρ
              have hc : ∀ v, ρ (.const v) = v := fun v => by rw [← hA]; rfl
              have hg : ∀ g, ρ (.func g) = .func (.func g) #[] #[] := fun v => by rw [← hA]; rfl
              have h0 : ρ (.tmp 23) = .slice (some ⟨g, 0, none⟩) n cap := by rw [← hA]; exact puts_get 4 ds L _ hap (by rw [hds]; rfl) (hd 4 (by decide +kernel) (by intro al hal; simp only [List.mem_cons, List.not_mem_nil, or_false] at hal; rcases hal with rfl <;> decide)) (show 23 < 67 by decide)
              have h1 : ρ (.tmp 24) = .int .i64 (j : Int) := by rw [← hA]; exact puts_get 5 ds L _ hap (by rw [hds]; rfl) (hd 5 (by decide +kernel) (by intro al hal; simp only [List.mem_cons, List.not_mem_nil, or_false] at hal; rcases hal with rfl <;> decide)) (show 24 < 67 by decide)
              clear hA hd hB ho hs ha hO
              unfold execOp
              go_simp
            · -- 7
              obtain rfl := Option.some.inj ho
              obtain ⟨d0, d1, d2, d3, d4, d5, d6⟩ := farB.out W hO
              refine .value W ?_ (Below.refl _ _)
              generalize hA : (puts ds L _).eval = ρ
              have hc : ∀ v, ρ (.const v) = v := fun v => by rw [← hA]; rfl
              have hg : ∀ g, ρ (.func g) = .func (.func g) #[] #[] := fun v => by rw [← hA]; rfl
              have h0 : ρ (.tmp 25) = .pointer (some ⟨g, j * 7, none⟩) := by rw [← hA]; exact puts_get 6 ds L _ hap (by rw [hds]; rfl) (hd 6 (by decide +kernel) (by intro al hal; simp only [List.mem_cons, List.not_mem_nil, or_false] at hal; rcases hal with rfl <;> decide)) (show 25 < 67 by decide)
              clear hA hd hB ho hs ha hO
              unfold execOp
              go_simp
            · -- 8
              obtain rfl := Option.some.inj ho
              refine .value W ?_ (Below.refl _ _)
              generalize hA : (puts ds L _).eval = ρ
              have hc : ∀ v, ρ (.const v) = v := fun v => by rw [← hA]; rfl
              have hg : ∀ g, ρ (.func g) = .func (.func g) #[] #[] := fun v => by rw [← hA]; rfl
              have h0 : ρ (.tmp 1) = .float .f64 gw := by rw [← hA]; exact (puts_old ds L _ (by rw [hds]; decide)).trans rfl
              clear hA hd hB ho hs ha hO
              unfold execOp
              go_simp
            · -- 9
              obtain rfl := Option.some.inj ho
              refine .call 14 #[.agg #[.int .i64 xa.m, .int .i64 xa.x.a, .int .i64 xa.x.b, .int .i64 xa.x.c, .int .i64 xa.p.a, .int .i64 xa.p.b, .int .i64 xa.p.c], .agg #[.int .i64 xb.m, .int .i64 xb.x.a, .int .i64 xb.x.b, .int .i64 xb.x.c, .int .i64 xb.p.a, .int .i64 xb.p.b, .int .i64 xb.p.c], .float .f64 gw] ?_ ((CP.out W).mono fun e w1 q => ⟨q.1, q.2.mono (Nat.le_refl _)⟩)
              generalize hA : (puts ds L _).eval = ρ
              have hc : ∀ v, ρ (.const v) = v := fun v => by rw [← hA]; rfl
              have hg : ∀ g, ρ (.func g) = .func (.func g) #[] #[] := fun v => by rw [← hA]; rfl
              have h0 : ρ (.tmp 22) = .agg #[.int .i64 xa.m, .int .i64 xa.x.a, .int .i64 xa.x.b, .int .i64 xa.x.c, .int .i64 xa.p.a, .int .i64 xa.p.b, .int .i64 xa.p.c] := by rw [← hA]; exact puts_get 3 ds L _ hap (by rw [hds]; rfl) (hd 3 (by decide +kernel) (by intro al hal; simp only [List.mem_cons, List.not_mem_nil, or_false] at hal; rcases hal with rfl <;> decide)) (show 22 < 67 by decide)
              have h1 : ρ (.tmp 26) = .agg #[.int .i64 xb.m, .int .i64 xb.x.a, .int .i64 xb.x.b, .int .i64 xb.x.c, .int .i64 xb.p.a, .int .i64 xb.p.b, .int .i64 xb.p.c] := by rw [← hA]; exact puts_get 7 ds L _ hap (by rw [hds]; rfl) (hd 7 (by decide +kernel) (by intro al hal; simp only [List.mem_cons, List.not_mem_nil, or_false] at hal; rcases hal with rfl <;> decide)) (show 26 < 67 by decide)
              have h2 : ρ (.tmp 27) = .float .f64 gw := by rw [← hA]; exact puts_get 8 ds L _ hap (by rw [hds]; rfl) (hd 8 (by decide +kernel) (by intro al hal; simp only [List.mem_cons, List.not_mem_nil, or_false] at hal; rcases hal with rfl <;> decide)) (show 27 < 67 by decide)
              have hf := Try.func14
              unfold execOp
              go_simp
            · -- 10
              exact absurd rfl (ha _ (List.mem_cons_self ..))
            · -- 11
              exact absurd rfl (hs _ (List.mem_cons_self ..))
          case store =>
            intro st hst L W o h us ho hd hal hC b
            simp only [List.mem_cons, List.not_mem_nil, or_false] at hst; rcases hst with rfl
            · dsimp only at ho hd hal hC b ⊢
              obtain rfl := Option.some.inj ho
              obtain ⟨hl, rfl⟩ := hal _ (List.mem_cons_self ..) rfl
              have c0 := b.at_ 0 _ rfl
              have f0 := b.fr 0 _ rfl
              have c1 := b.at_ 1 _ rfl
              have f1 := b.fr 1 _ rfl
              have c2 := b.at_ 2 _ rfl
              have f2 := b.fr 2 _ rfl
              refine ⟨?_, rfl⟩
              generalize hA : (puts ds L _).eval = ρ
              have h0 : ρ (.tmp 8) = .pointer (some ⟨h, 0, none⟩) := by rw [← hA]; exact puts_get 10 ds L _ hap (by rw [hds]; rfl) hl (show 8 < 67 by decide)
              have h1 : ρ (.tmp 28) = .agg #[.int .i64 (pl gw xa xb 0), .int .i64 (pl gw xa xb 1), .int .i64 (pl gw xa xb 2)] := by rw [← hA]; exact puts_get 9 ds L _ hap (by rw [hds]; rfl) (hd 9 (by decide +kernel) (by intro al hal; simp only [List.mem_cons, List.not_mem_nil, or_false] at hal; rcases hal with rfl <;> decide)) (show 28 < 67 by decide)
              have hst' := @istore
              clear hA hd b ho hal hC
              simp only [putV]
              unfold execOp
              go_simp
          case fin =>
            intro hf W0 K
            rw [hds]
            clear hds hap ds
            (try dsimp only at K)
            generalize hf 10 = gp at *
            (try unfold ptrV)
            simp only [List.set_cons_zero, List.set_cons_succ, puts, Act.put, List.setIfInBounds_toArray]
            have Y := Lib.hid (X.out.on K.old)
            have Z : Hid (BV W0 gp (in3 (T3.of (pl gw xa xb)))) := K.at_ 0 rfl
            have hgp : Hid (g ≠ gp) := by
              have q1 := (K.blk 0 _ _ rfl).1
              have q2 := X.out.lt
              show g ≠ gp
              omega
            have hb0 := Lib.hid (hbx.out.trans (K.old.mono (Nat.le_of_lt X.out.lt)))
            clear K X hbx farA farB CP
            go_wp2_with fail
            go_loopw [29] (fun kv wx => ∃ k : Nat, k ≤ 3 ∧ kv = .int .i64 k ∧ OwM g (prL gw h L i j k) wx ∧ BV wx gp (in3 (T3.of (pl gw xa xb))) ∧ Below g w wx) (fun kv _ => 3 - (intOf kv).toNat)
            case atStart => exact ⟨0, by omega, rfl, by rw [prL_zero hLi.out hLj.out]; exact Y.out, Z.out, hb0.out⟩
            case round =>
              obtain ⟨k, hk, rfl, X, P, hbx⟩ := hrel
              clear Y Z hb0
              by_cases hkt : k < 3
              · have hk3 : (k : Int) < 3 := by omega
                have F1 := pair_first X hLi.out hLj.out hne hkt
                have S2 : ∀ W, OwM g (mdL gw h L i j k) W → _ := fun W hW => pair_second hW hLj.out hkt
                rw [ha.out, hb.out] at F1
                simp only [ha.out, hb.out] at S2
                have p1 := oi.out.2 k
                have p2 := oj.out.2 k
                have pc := pl_cap gw xa xb k
                have sg := sgn_cap (y := pl gw xa xb k) hh.out
                have w1 : IntKind.i64.wrap (h * pl gw xa xb k) = h * pl gw xa xb k := IntWalk.i64_in _ (by omega)
                have w2 : IntKind.i64.wrap (xa.p.get k + h * pl gw xa xb k) = xa.p.get k + h * pl gw xa xb k := IntWalk.i64_in _ (by omega)
                have w3 : IntKind.i64.wrap (xb.p.get k - h * pl gw xa xb k) = xb.p.get k - h * pl gw xa xb k := IntWalk.i64_in _ (by omega)
                obtain ⟨cA, fA, Y1⟩ := F1
                obtain ⟨cB, fB, Y2⟩ := S2 _ Y1
                have q1 := P.at_ k _ (in3_get _ hkt)
                rw [get_of _ hkt] at q1
                have P1 := (P.other1 (k := i * 7 + 4 + k) hgp.out.symm (.int .i64 (xa.p.get k + h * pl gw xa xb k))).on (Below.refl _ _).drew
                have q2 := P1.at_ k _ (in3_get _ hkt)
                rw [get_of _ hkt] at q2
                have P2 := Lib.hid ((P1.other1 (k := j * 7 + 4 + k) hgp.out.symm (.int .i64 (xb.p.get k - h * pl gw xa xb k))).on (Below.refl _ _).drew)
                have hb2 := Lib.hid ((((hbx.setCell (p := ⟨g, i * 7 + 4 + k, none⟩) (Nat.le_refl g) (.int .i64 (xa.p.get k + h * pl gw xa xb k))).drew).setCell (p := ⟨g, j * 7 + 4 + k, none⟩) (Nat.le_refl g) (.int .i64 (xb.p.get k - h * pl gw xa xb k))).drew)
                replace Y2 := Lib.hid Y2
                clear S2 p1 p2 pc sg P P1 hbx X Y1 ha hb oi oj
                generalize pl gw xa xb k = pk at *
                generalize xa.p.get k = ak at *
                generalize xb.p.get k = bk at *
                go_wp2_with fail
                go_still_tail 16, (by kernel_rfl)
                change wpList _ _ _ _ _ wr.drew
                go_wp2_with fail
                generalize hw2 : (World.setCell _ _ _).drew = w2 at *
                go_still_tail 16, (by kernel_rfl)
                change wpList _ _ _ _ _ w2.drew
                go_wp2_with fail
                go_roundw
                case rel => exact ⟨k + 1, hkt, by go_num, Y2.out, P2.out, hb2.out⟩
                case measure => simp [intOf]; omega
              · obtain rfl : k = 3 := by omega
                rw [nx.out] at X
                replace X := Lib.hid X
                replace hbx := Lib.hid hbx
                clear P
                go_wp2_with fail
                go_roundw
                case rel => exact ⟨i + 1, hit, by go_num, X.out, hbx.out⟩
                case measure => simp [intOf]; omega
        · obtain rfl : i = j := by omega
          rw [kO_next hg.out hl.out] at X
          replace X := Lib.hid X
          replace hbx := Lib.hid hbx
          go_wp2_with fail
          go_roundw
          case rel => exact ⟨i + 1, hlt, by go_num, X.out, hbx.out⟩
          case measure => simp [intOf]; omega
    · obtain rfl : j = n := by omega
      have X : OwM g (kck gw h l) wr := by
        rw [← kO_end, ← hn.out]
        exact C
      replace X := Lib.hid X
      replace hb := Lib.hid hb
      clear C hl
      go_wp2_with fail
      refine bodyPost_end (results_none rfl _ _ _) rfl ?_
      exact ⟨rfl, hb.out, X.out⟩
end Go.Proofs.Ytacinenddnfcbaa

namespace Go.Proofs.Ytacinenddnfcbaa
open Go.ChangeShapes Go.WideShapes Go.ChangeAt Go.RowKit Go.Deep Ieee.Own

/-! ### one step -/
def stpE (g : Nat) (h : Int) (l : List Ma) : Int := if (stp g h l).isSome = true then 0 else 140
theorem stp_no1 {g : Nat} {h : Int} {l : List Ma} (h1 : allB (kck g h (dft h l)) = false) : stp g h l = none := by
  unfold stp; rw [if_neg (by rw [h1]; decide)]
theorem stp_no2 {g : Nat} {h : Int} {l : List Ma} (h1 : allB (dft h (kck g h (dft h l))) = false) : stp g h l = none := by
  unfold stp
  split
  · rw [if_neg (by rw [h1]; decide)]
  · rfl
theorem stp_yes {g : Nat} {h : Int} {l : List Ma} (h1 : allB (kck g h (dft h l)) = true) (h2 : allB (dft h (kck g h (dft h l))) = true) : stp g h l = some (dft h (kck g h (dft h l))) := by
  unfold stp; rw [if_pos h1, if_pos h2]
theorem stpE_none {g : Nat} {h : Int} {l : List Ma} (e : stp g h l = none) : stpE g h l = 140 := by unfold stpE; rw [e]; rfl
theorem stpE_some {g : Nat} {h : Int} {l r : List Ma} (e : stp g h l = some r) : stpE g h l = 0 := by unfold stpE; rw [e]; rfl
theorem all_dok {l : List Ma} (h : allB l = true) : ∀ a ∈ l, Dok a := fun a ha => (allB_iff.1 h a ha).dok
set_option maxHeartbeats 4000000 in
set_option maxRecDepth 100000 in
theorem gstep_run {h : Int} (hh : h = 1 ∨ h = -1) {l : List Ma} {g n cap gw : Nat} {w : World} (hg : Gee gw) (hn : n = l.length) (h8 : n ≤ 8) (hl : allB l = true) (O : OwM g l w) :
    Calls Try.prog 8 #[.slice (some ⟨g, 0, none⟩) n cap, .float .f64 gw, .int .i64 h] w fun e w' => e = .returned (.int .i64 (stpE gw h l)) ∧ Below g w w' ∧ ∀ r, stp gw h l = some r → OwM g r w' := by
  have C1 := Lib.hid (fun w (O : OwM g l w) => gdrift_run (cap := cap) hh hn h8 (all_dok hl) O)
  have C2 := Lib.hid (fun w (O : OwM g (dft h l) w) => gkick_run (cap := cap) hh hg (by rw [dft_len]; exact hn) h8 (dft_mid hh hl) O)
  have C3 := Lib.hid (fun w (O : OwM g (kck gw h (dft h l)) w) => gcheck_run _ cap n _ w (by rw [kck_len, dft_len]; exact hn) (by omega) O.at_)
  have k8 : (kck gw h (dft h l)).length ≤ 8 := by rw [kck_len, dft_len]; omega
  have k9 : (dft h (kck gw h (dft h l))).length ≤ 8 := by rw [dft_len]; exact k8
  replace O := Lib.hid O
  cases h1 : allB (kck gw h (dft h l)) with
  | false =>
    have e0 := stp_no1 h1
    rw [stpE_none e0]
    have c1 := chkM_no k8 h1
    rw [c1] at C3
    have no := Lib.hid (fun r (q : stp gw h l = some r) => (show False by rw [e0] at q; cases q))
    clear e0 c1 k8 k9 h1 hl hg hh hn h8
    go_enter Try.func8, Try.ntmps8
    go_wp2_with fail
    refine (C1.out _ O.out).mono ?_
    rintro _ w1 ⟨rfl, b1, O1⟩
    replace b1 := Lib.hid b1
    replace O1 := Lib.hid O1
    go_wp2_with fail
    refine (C2.out _ O1.out).mono ?_
    rintro _ w2 ⟨rfl, b2, O2⟩
    replace b2 := Lib.hid (b1.out.trans b2)
    replace O2 := Lib.hid O2
    go_wp2_with fail
    refine (C3.out _ O2.out).mono ?_
    rintro _ w3 ⟨rfl, b3⟩
    replace b3 := Lib.hid (b2.out.trans (b3.mono (Nat.le_of_lt O2.out.lt)))
    go_wp2_with fail
    go_ret
    exact ⟨rfl, b3.out, fun r q => (no.out r q).elim⟩
  | true =>
    have c1 := chkM_ok k8 h1
    rw [c1] at C3
    have C4 := Lib.hid (fun w (O : OwM g (kck gw h (dft h l)) w) => gdrift_run (cap := cap) hh (by rw [kck_len, dft_len]; exact hn) h8 (all_dok h1) O)
    have C5 := Lib.hid (fun w (O : OwM g (dft h (kck gw h (dft h l))) w) => gcheck_run _ cap n _ w (by rw [dft_len, kck_len, dft_len]; exact hn) (by omega) O.at_)
    have fin : Hid (chkM (dft h (kck gw h (dft h l))) = stpE gw h l) := by
      show _ = _
      cases h2 : allB (dft h (kck gw h (dft h l))) with
      | true => rw [stpE_some (stp_yes h1 h2), chkM_ok k9 h2]
      | false => rw [stpE_none (stp_no2 h2), chkM_no k9 h2]
    have res := Lib.hid (fun r (q : stp gw h l = some r) => (stp_some.1 q).2.2)
    clear c1 k8 k9 h1 hl hg hh hn h8
    go_enter Try.func8, Try.ntmps8
    go_wp2_with fail
    refine (C1.out _ O.out).mono ?_
    rintro _ w1 ⟨rfl, b1, O1⟩
    replace b1 := Lib.hid b1
    replace O1 := Lib.hid O1
    go_wp2_with fail
    refine (C2.out _ O1.out).mono ?_
    rintro _ w2 ⟨rfl, b2, O2⟩
    replace b2 := Lib.hid (b1.out.trans b2)
    replace O2 := Lib.hid O2
    go_wp2_with fail
    refine (C3.out _ O2.out).mono ?_
    rintro _ w3 ⟨rfl, b3⟩
    have b3' := Lib.hid (b2.out.trans (b3.mono (Nat.le_of_lt O2.out.lt)))
    replace O2 := Lib.hid (O2.out.on b3)
    clear b3
    go_wp2_with fail
    refine (C4.out _ O2.out).mono ?_
    rintro _ w4 ⟨rfl, b4, O4⟩
    replace b4 := Lib.hid (b3'.out.trans b4)
    replace O4 := Lib.hid O4
    go_wp2_with fail
    refine (C5.out _ O4.out).mono ?_
    rintro _ w5 ⟨rfl, b5⟩
    have O5 := Lib.hid (O4.out.on b5)
    replace b5 := Lib.hid (b4.out.trans (b5.mono (Nat.le_of_lt O4.out.lt)))
    go_wp2_with fail
    go_ret
    exact ⟨ret_iG fin.out, b5.out, fun r q => by rw [res.out r q]; exact O5.out⟩

/-! ### ready -/
def c40w : Nat := 4787326403894837248
def geB0 (g : Nat) : Bool := FloatKind.f64.format.order 0 g == some Ordering.lt || FloatKind.f64.format.order 0 g == some Ordering.eq
def geB1 (g : Nat) : Bool := FloatKind.f64.format.order g c40w == some Ordering.lt || FloatKind.f64.format.order g c40w == some Ordering.eq
def geeB (g : Nat) : Bool := geB0 g && geB1 g
theorem gee_of {g : Nat} (hg : g < 18446744073709551616) (h : geeB g = true) : Gee g := by
  unfold geeB geB0 geB1 at h
  rw [Bool.and_eq_true] at h
  obtain ⟨h0, h1⟩ := h
  have k0 := h0
  have k1 := h1
  rw [o_leq 0 g (by omega) hg, decide_eq_true_eq] at k0
  rw [o_leq g c40w hg (by unfold c40w; omega), decide_eq_true_eq] at k1
  have f : FinW g := by
    obtain ⟨-, n1, a1⟩ := k0
    obtain ⟨-, -, a2⟩ := k1
    unfold nn key64 c40w at *
    unfold FinW
    refine ⟨hg, ?_⟩
    split at a2 <;> simp at a1 a2 <;> omega
  have fc : FinW c40w := by unfold FinW c40w; omega
  have vc : V c40w = ((2 ^ 1114 : Nat) : Int) := by decide +kernel
  rw [le_words zero_fin f, decide_eq_true_eq, V_zero] at h0
  rw [le_words f fc, decide_eq_true_eq, vc] at h1
  exact ⟨f, by omega⟩
def readyM (l : List Ma) (g : Nat) : Int := if chkM l ≠ 0 then chkM l else if geeB g = true then 0 else 1
set_option maxHeartbeats 4000000 in
set_option maxRecDepth 100000 in
theorem gready_run (ao : Option Addr) (cap n : Nat) (L : List Ma) (gw : Nat) (w : World) (hn : n = L.length) (hm : n ≤ 4611686018427387904) (ha : MAt w ao L) :
    Calls Try.prog 7 #[.slice ao n cap, .float .f64 gw] w fun e w' => e = .returned (.int .i64 (readyM L gw)) ∧ Below w.heap.size w w' := by
  have C := Lib.hid (gcheck_run ao cap n L w hn hm ha)
  unfold readyM geeB
  have e0 : (FloatKind.f64.format.order 0 gw == some Ordering.lt || FloatKind.f64.format.order 0 gw == some Ordering.eq) = geB0 gw := rfl
  have e1 : (FloatKind.f64.format.order gw 4787326403894837248 == some Ordering.lt || FloatKind.f64.format.order gw 4787326403894837248 == some Ordering.eq) = geB1 gw := rfl
  generalize chkM L = k at *
  generalize geB0 gw = b0 at *
  generalize geB1 gw = b1 at *
  clear hn hm ha
  by_cases hk : k = 0
  · subst hk
    rw [if_neg (by simp)]
    cases b0 with
    | false =>
      rw [Bool.false_and, if_neg (by simp)]
      go_enter Try.func7, Try.ntmps7
      go_wp2_with fail
      refine C.out.mono ?_
      rintro _ w1 ⟨rfl, hb1⟩
      replace hb1 := Lib.hid hb1
      clear C
      go_wp2_with fail
      go_ret
      exact ⟨rfl, hb1.out⟩
    | true =>
      cases b1 with
      | false =>
        rw [if_neg (by simp)]
        go_enter Try.func7, Try.ntmps7
        go_wp2_with fail
        refine C.out.mono ?_
        rintro _ w1 ⟨rfl, hb1⟩
        replace hb1 := Lib.hid hb1
        clear C
        go_wp2_with fail
        go_ret
        exact ⟨rfl, hb1.out⟩
      | true =>
        rw [if_pos (show (true && true) = true from rfl)]
        go_enter Try.func7, Try.ntmps7
        go_wp2_with fail
        refine C.out.mono ?_
        rintro _ w1 ⟨rfl, hb1⟩
        replace hb1 := Lib.hid hb1
        clear C
        go_wp2_with fail
        go_ret
        exact ⟨rfl, hb1.out⟩
  · rw [if_pos hk]
    have t : (k != 0) = true := by simpa using hk
    clear hk
    go_enter Try.func7, Try.ntmps7
    go_wp2_with fail
    refine C.out.mono ?_
    rintro _ w1 ⟨rfl, hb1⟩
    replace hb1 := Lib.hid hb1
    clear C
    go_wp2_with fail
    go_ret
    exact ⟨rfl, hb1.out⟩
end Go.Proofs.Ytacinenddnfcbaa

namespace Go.Proofs.Ytacinenddnfcbaa
open Go.ChangeShapes Go.WideShapes Go.ChangeAt Go.RowKit Go.Deep Ieee.Own

/-! ### a list of records copied over another one of its length -/
theorem run_copyM {P : Program} {w : World} {dT sT ty elem t : TypeId} {m g n cap scap : Nat} {ao : Option Addr} {cur : Array Value} {R : List (List Value)} (hu : P.underlying dT = some (.slice elem)) (hs : (P.info? elem).map (·.size) = some m)
    (hg : w.heap[g]? = some (.cells cur t (0, 0))) (hn : n = R.length) (hc : cur.size = n * m) (ha : RAt w ao m R) (hR : RowsOk m R) :
    (Builtin.copy_ #[dT, sT] ty #[.slice (some ⟨g, 0, none⟩) n cap, .slice ao n scap]).run P w = .ok (goInt n) (w.setRow g R.flatten.toArray) := by
  have hfl := flat_len hR
  have hst := run_storeCells_at P g 0 t R.flatten 0 cur w hg (by rw [hfl, ← hn, hc]; omega) (flat_one hR)
  have e : (List.take (0 + 0) cur.toList ++ R.flatten ++ List.drop (0 + 0 + R.flatten.length) cur.toList).toArray = R.flatten.toArray := by
    rw [List.drop_eq_nil_of_le (by rw [hfl, ← hn, Array.length_toList, hc]; omega)]
    simp
  rw [e] at hst
  cases hq : P.info? elem with
  | none => simp [hq] at hs
  | some i =>
    have hi : i.size = m := by simpa [hq] using hs
    have hnm : Nat.min n n = n := Nat.min_self n
    cases ao with
    | none =>
      have hR0 : R = [] := by
        refine List.eq_nil_of_length_eq_zero (Nat.eq_zero_of_not_pos fun hp => ?_)
        obtain ⟨b, o, e, _⟩ := ha 0 _ (List.getElem?_eq_getElem hp)
        simp at e
      subst hR0
      simp only [List.length_nil] at hn
      subst hn
      simp only [List.flatten_nil] at hst ⊢
      simp [Builtin.copy_, run_underlying hu, Builtin.lenOf, Builtin.firstCells, sizeOf, typeInfo, hq, hst]
    | some a =>
      have hl : (loadCells a (n * m)).run P w = .ok R.flatten.toArray w := by
        rw [hn, ← hfl]
        refine run_loadCells_list (P := P) w a R.flatten fun j v hj => ?_
        obtain ⟨j', c, r, h1, h2, rfl⟩ := flat_place hR hj
        obtain ⟨b, o, e, -, h3⟩ := ha j' r h1
        obtain rfl := Option.some.inj e
        rw [ad_plainR, ← Nat.add_assoc]
        exact h3 c v h2
      simp [Builtin.copy_, run_underlying hu, Builtin.lenOf, Builtin.firstCells, sizeOf, typeInfo, hq, hi, hnm, hl, hst]
theorem ow_row {w : World} {g : Nat} {t : TypeId} {l : List Ma} (h : w.heap[g]? = some (.cells (flatM l).toArray t (0, 0))) : OwM g l w := by
  refine ⟨(Array.getElem?_eq_some_iff.1 h).1, fun i u e => ?_, fun i u _ => ?_⟩
  · rw [cell_of_row w g i _ _ _ h]; simpa using e
  · exact frozen_of_row w g i _ _ h
set_option maxRecDepth 100000 in
theorem recM : RecT 22 28 7 56 (.agg #[.int .i64 0, .int .i64 0, .int .i64 0, .int .i64 0, .int .i64 0, .int .i64 0, .int .i64 0]) := ⟨Try.underlying22, by kernel_rfl, rfl, by decide⟩
set_option maxRecDepth 100000 in
theorem makeM_run (n : Nat) (hn : n ≤ 8) (w : World) : (Instr.makeSlice 22 (.int .i64 (n : Int)) (.int .i64 (n : Int))).run Try.prog w = .ok (.slice (some ⟨w.heap.size, 0, none⟩) n n) (w.alloc (.cells (madeCells #[.int .i64 0, .int .i64 0, .int .i64 0, .int .i64 0, .int .i64 0, .int .i64 0, .int .i64 0] (n * 7)) 28)) := by
  obtain ⟨i0, hi0, hz0, hz1, hz2⟩ := info_ofR recM.info
  have := run_make (P := Try.prog) w 22 28 i0 _ Try.underlying22 hi0 hz0 .i64 .i64 n n (by omega) (by omega) (by rw [hz2]; omega) (by omega)
  rw [hz1] at this
  exact this

/-! ### Run -/
def sgH (n : Int) : Int := if n < 0 then -1 else 1
theorem sgH_or (n : Int) : sgH n = 1 ∨ sgH n = -1 := by unfold sgH; split <;> simp
def RunR (l : List Ma) (g : Nat) (n : Int) : Int × Option (List Ma) :=
  if readyM l g ≠ 0 then (readyM l g, none) else if n < -4096 ∨ 4096 < n then (1, none) else (if (runN g (sgH n) n.natAbs l).isSome = true then 0 else 140, runN g (sgH n) n.natAbs l)
def RunP (l : List Ma) (g : Nat) (n : Int) (w : World) (e : Ending) (w' : World) : Prop :=
  Below w.heap.size w w' ∧ ((RunR l g n).2 = none → e = .returned (.tuple #[.slice none 0 0, .int .i64 (RunR l g n).1])) ∧
    ∀ r, (RunR l g n).2 = some r → ∃ b, e = .returned (.tuple #[.slice (some ⟨b, 0, none⟩) r.length r.length, .int .i64 0]) ∧ w.heap.size ≤ b ∧ OwM b r w'
theorem RunP.err {l : List Ma} {g : Nat} {n : Int} {w w' : World} {k : Int} (h : RunR l g n = (k, none)) (hb : Below w.heap.size w w') : RunP l g n w (.returned (.tuple #[.slice none 0 0, .int .i64 k])) w' := by
  refine ⟨hb, fun _ => by rw [h], fun r e => ?_⟩
  rw [h] at e
  cases e
theorem RunP.ok {l r : List Ma} {g b : Nat} {n k : Int} {w w' : World} (h : RunR l g n = (k, some r)) (hb : Below w.heap.size w w') (hg : w.heap.size ≤ b) (O : OwM b r w') : RunP l g n w (.returned (.tuple #[.slice (some ⟨b, 0, none⟩) r.length r.length, .int .i64 0])) w' := by
  refine ⟨hb, fun e => ?_, fun q e => ?_⟩
  · rw [h] at e; cases e
  · rw [h] at e
    obtain rfl := Option.some.inj e
    exact ⟨b, rfl, hg, O⟩
theorem RunR_err {l : List Ma} {g : Nat} {n : Int} (h : readyM l g ≠ 0) : RunR l g n = (readyM l g, none) := by unfold RunR; rw [if_pos h]
theorem RunR_arg {l : List Ma} {g : Nat} {n : Int} (h : readyM l g = 0) (hn : n < -4096 ∨ 4096 < n) : RunR l g n = (1, none) := by unfold RunR; rw [if_neg (by simpa using h), if_pos hn]
theorem RunR_some {l r : List Ma} {g : Nat} {n : Int} (h : readyM l g = 0) (hn : ¬ (n < -4096 ∨ 4096 < n)) (e : runN g (sgH n) n.natAbs l = some r) : RunR l g n = (0, some r) := by
  unfold RunR; rw [if_neg (by simpa using h), if_neg hn, e]; rfl
theorem RunR_none {l : List Ma} {g : Nat} {n : Int} (h : readyM l g = 0) (hn : ¬ (n < -4096 ∨ 4096 < n)) (e : runN g (sgH n) n.natAbs l = none) : RunR l g n = (140, none) := by
  unfold RunR; rw [if_neg (by simpa using h), if_neg hn, e]; rfl
theorem readyM_zero {l : List Ma} {g : Nat} (h : readyM l g = 0) : chkM l = 0 ∧ geeB g = true := by
  unfold readyM at h
  by_cases h1 : chkM l ≠ 0
  · rw [if_pos h1] at h; exact absurd h h1
  · rw [if_neg h1] at h
    cases hb : geeB g with
    | true => exact ⟨by simpa using h1, rfl⟩
    | false => rw [hb, if_neg (by decide)] at h; omega
theorem run_on_none {g : Nat} {h : Int} {k m : Nat} {l L : List Ma} (e : runN g h k l = some L) (s : stp g h L = none) : runN g h (k + (m + 1)) l = none := by
  rw [grun_add, e]
  show runN g h (m + 1) L = none
  unfold runN
  rw [s]; rfl
theorem run_on_some {g : Nat} {h : Int} {k : Nat} {l L r : List Ma} (e : runN g h k l = some L) (s : stp g h L = some r) : runN g h (k + 1) l = some r := by
  rw [grun_last, e]
  exact s
end Go.Proofs.Ytacinenddnfcbaa

namespace Go.Proofs.Ytacinenddnfcbaa
open Go.ChangeShapes Go.WideShapes Go.ChangeAt Go.RowKit Go.Deep Ieee.Own

set_option maxHeartbeats 8000000 in
set_option maxRecDepth 100000 in
theorem gRun_bad (ao : Option Addr) (cap n : Nat) (L : List Ma) (gw : Nat) (w : World) (hn : n = L.length) (hm : n ≤ 4611686018427387904) (ha : MAt w ao L) {nn : Int} (hr : readyM L gw ≠ 0) :
    Calls Try.prog 5 #[.slice ao n cap, .float .f64 gw, .int .i64 nn] w fun e w' => RunP L gw nn w e w' := by
  have C := Lib.hid (gready_run ao cap n L gw w hn hm ha)
  have fin := Lib.hid (fun w' (hb : Below w.heap.size w w') => RunP.err (RunR_err (n := nn) hr) hb)
  have t : (readyM L gw != 0) = true := by simpa using hr
  clear hr hn hm ha
  generalize readyM L gw = k at *
  go_enter Try.func5, Try.ntmps5
  go_wp2_with fail
  refine C.out.mono ?_
  rintro _ w1 ⟨rfl, hb1⟩
  replace hb1 := Lib.hid hb1
  clear C
  go_wp2_with fail
  go_ret2
  exact fin.out _ hb1.out
set_option maxHeartbeats 8000000 in
set_option maxRecDepth 100000 in
theorem gRun_arg (ao : Option Addr) (cap n : Nat) (L : List Ma) (gw : Nat) (w : World) (hn : n = L.length) (hm : n ≤ 4611686018427387904) (ha : MAt w ao L) {nn : Int} (hr : readyM L gw = 0) (hx : nn < -4096 ∨ 4096 < nn) :
    Calls Try.prog 5 #[.slice ao n cap, .float .f64 gw, .int .i64 nn] w fun e w' => RunP L gw nn w e w' := by
  have C := Lib.hid (gready_run ao cap n L gw w hn hm ha)
  have fin := Lib.hid (fun w' (hb : Below w.heap.size w w') => RunP.err (RunR_arg hr hx) hb)
  rw [hr] at C
  clear hr hn hm ha
  by_cases h1 : nn < -4096
  · clear hx
    go_enter Try.func5, Try.ntmps5
    go_wp2_with fail
    refine C.out.mono ?_
    rintro _ w1 ⟨rfl, hb1⟩
    replace hb1 := Lib.hid hb1
    clear C
    go_wp2_with fail
    go_ret2
    exact fin.out _ hb1.out
  · have h2 : 4096 < nn := by omega
    clear hx
    go_enter Try.func5, Try.ntmps5
    go_wp2_with fail
    refine C.out.mono ?_
    rintro _ w1 ⟨rfl, hb1⟩
    replace hb1 := Lib.hid hb1
    clear C
    go_wp2_with fail
    go_ret2
    exact fin.out _ hb1.out
set_option maxHeartbeats 8000000 in
set_option maxRecDepth 100000 in
theorem gRun_neg (ao : Option Addr) (cap n : Nat) (L : List Ma) (gw : Nat) (w : World) (hn : n = L.length) (hm : n ≤ 4611686018427387904) (ha : MAt w ao L) {N : Nat} (hg : gw < 18446744073709551616) (hr : readyM L gw = 0) (h0 : 0 < N) (hN : N ≤ 4096) :
    Calls Try.prog 5 #[.slice ao n cap, .float .f64 gw, .int .i64 (-(N : Int))] w fun e w' => RunP L gw (-(N : Int)) w e w' := by
  have C := Lib.hid (gready_run ao cap n L gw w hn hm ha)
  obtain ⟨hc0, hge⟩ := readyM_zero hr
  obtain ⟨hL8, hal⟩ := chkM_zero hc0
  have G := gee_of hg hge
  have h8 : n ≤ 8 := by omega
  have hx : ¬ ((-(N : Int)) < -4096 ∨ 4096 < (-(N : Int))) := by omega
  have es : sgH (-(N : Int)) = (-1) := by unfold sgH; rw [if_pos (by omega)]
  have en : ((-(N : Int))).natAbs = N := by omega
  have fS := Lib.hid (fun r b w' (e : runN gw (-1) N L = some r) (hb : Below w.heap.size w w') hh O => RunP.ok (b := b) (RunR_some hr hx (by rw [es, en]; exact e)) hb hh O)
  have fN := Lib.hid (fun w' (e : runN gw (-1) N L = none) (hb : Below w.heap.size w w') => RunP.err (RunR_none hr hx (by rw [es, en]; exact e)) hb)
  have CS := Lib.hid (fun g M w (hM : allB M = true) (hl : n = M.length) (O : OwM g M w) => gstep_run (cap := n) (h := (-1)) (by decide) G hl h8 hM O)
  have MK := fun w => makeM_run n h8 w
  have ok := Lib.hid (fun k M (e : runN gw (-1) k L = some M) => grun_ok hal e)
  rw [hr] at C
  have lt0 := Lib.hid (ha.lt)
  clear hr hm hge hg hc0 hal hx es en G hL8
  have wn : IntKind.i64.wrap (-(-(N : Int))) = (N : Int) := by rw [Int.neg_neg]; exact IntWalk.i64_in _ (by omega)
  have t1 : decide (-(N : Int) < 0) = true := decide_eq_true (by omega)
  have t2 : decide (4096 < (N : Int)) = false := decide_eq_false (by omega)
  have t3 : decide (4096 < -(N : Int)) = false := decide_eq_false (by omega)
  replace hn := Lib.hid hn
  replace ha := Lib.hid ha
  replace h8 := Lib.hid h8
  go_enter Try.func5, Try.ntmps5
  go_wp2_with fail
  refine C.out.mono ?_
  rintro _ w1 ⟨rfl, hb1⟩
  replace hb1 := Lib.hid hb1
  clear C
  have A1 := Lib.hid (ha.out.below lt0.out hb1.out)
  clear ha
  generalize hz : (#[.int .i64 0, .int .i64 0, .int .i64 0, .int .i64 0, .int .i64 0, .int .i64 0, .int .i64 0] : Array Value) = Z at *
  have hrow : (w1.alloc (.cells (madeCells Z (n * 7)) 28)).heap[w1.heap.size]? = some (.cells (madeCells Z (n * 7)) 28 (0, 0)) := by
    show (w1.heap.push _)[w1.heap.size]? = _
    simp
  have hbA := Lib.hid (hb1.out.alloc hb1.out.size (.cells (madeCells Z (n * 7)) 28))
  have A2 := Lib.hid (RAt.alloc A1.out (.cells (madeCells Z (n * 7)) 28))
  clear A1 hz
  replace hrow := Lib.hid hrow
  have hgs := Lib.hid hb1.out.size
  clear hb1
  have cq := run_copyM (P := Try.prog) (dT := 22) (sT := 22) (ty := 3) (t := 28) (m := 7) (g := w1.heap.size) (n := n) (cap := n) (scap := cap) (ao := ao) (cur := madeCells Z (n * 7)) (R := L.map maC) Try.underlying22 (by kernel_rfl) hrow.out (by rw [List.length_map]; exact hn.out) (size_madeCells _ _) A2.out (rows_ma L)
  go_upto_region 12 with fail
  clear cq
  have O1 : OwM w1.heap.size L ((w1.alloc (.cells (madeCells Z (n * 7)) 28)).setRow w1.heap.size (L.map maC).flatten.toArray) := ow_row (setRow_heap _ _ _ _ _ _ hrow.out)
  have hb3 := Lib.hid (below_setRow hbA.out hgs.out (L.map maC).flatten.toArray)
  replace O1 := Lib.hid O1
  clear hrow A2 hbA
  generalize World.setRow _ _ _ = wm at *
  generalize w1.heap.size = g at *
  go_wp2_with fail
  go_loopw [37] (fun kv wr => ∃ (k : Nat) (M : List Ma), k ≤ N ∧ kv = .int .i64 k ∧ runN gw (-1) k L = some M ∧ OwM g M wr ∧ Below w.heap.size w wr) (fun kv _ => N - (intOf kv).toNat)
  case atStart => exact ⟨0, L, Nat.zero_le _, rfl, rfl, O1.out, hb3.out⟩
  case round =>
    obtain ⟨k, M, hk, rfl, hR, O, hb⟩ := hrel
    clear O1 hb3
    have q := ok.out k M hR
    by_cases hlt : k < N
    · have hkN : (k : Int) < (N : Int) := by omega
      have CC := Lib.hid (CS.out g M wr q.1 (by rw [q.2]; exact hn.out) O)
      replace hb := Lib.hid hb
      have gs := Lib.hid O.lt
      cases hs : stp gw (-1) M with
      | none =>
        have en : runN gw (-1) N L = none := by
          have := run_on_none (m := N - k - 1) hR hs
          rwa [show k + (N - k - 1 + 1) = N by omega] at this
        rw [stpE_none hs] at CC
        replace en := Lib.hid en
        clear hR O q hs
        go_wp2_with fail
        refine CC.out.mono ?_
        rintro _ w2 ⟨rfl, hb2, -⟩
        replace hb2 := Lib.hid (hb.out.trans (hb2.mono hgs.out))
        go_wp2_with fail
        go_ret2
        exact fN.out _ en.out hb2.out
      | some r =>
        have en := Lib.hid (run_on_some hR hs)
        rw [stpE_some hs] at CC
        replace hs := Lib.hid hs
        clear hR O q
        go_wp2_with fail
        refine CC.out.mono ?_
        rintro _ w2 ⟨rfl, hb2, hO⟩
        replace hO := Lib.hid (hO r hs.out)
        replace hb2 := Lib.hid (hb.out.trans (hb2.mono hgs.out))
        go_wp2_with fail
        go_roundw
        case rel => exact ⟨k + 1, r, hlt, by go_num, en.out, hO.out, hb2.out⟩
        case measure => simp [intOf]; omega
    · obtain rfl : k = N := by omega
      have el : n = M.length := by rw [q.2]; exact hn.out
      have F := Lib.hid (fS.out M g wr hR hb hgs.out O)
      rw [← el] at F
      clear q hR O hb el
      go_wp2_with fail
      go_ret2
      exact F.out
set_option maxHeartbeats 8000000 in
set_option maxRecDepth 100000 in
theorem gRun_pos (ao : Option Addr) (cap n : Nat) (L : List Ma) (gw : Nat) (w : World) (hn : n = L.length) (hm : n ≤ 4611686018427387904) (ha : MAt w ao L) {N : Nat} (hg : gw < 18446744073709551616) (hr : readyM L gw = 0) (hN : N ≤ 4096) :
    Calls Try.prog 5 #[.slice ao n cap, .float .f64 gw, .int .i64 (N : Int)] w fun e w' => RunP L gw (N : Int) w e w' := by
  have C := Lib.hid (gready_run ao cap n L gw w hn hm ha)
  obtain ⟨hc0, hge⟩ := readyM_zero hr
  obtain ⟨hL8, hal⟩ := chkM_zero hc0
  have G := gee_of hg hge
  have h8 : n ≤ 8 := by omega
  have hx : ¬ ((N : Int) < -4096 ∨ 4096 < (N : Int)) := by omega
  have es : sgH (N : Int) = 1 := by unfold sgH; rw [if_neg (by omega)]
  have en : ((N : Int)).natAbs = N := by omega
  have fS := Lib.hid (fun r b w' (e : runN gw 1 N L = some r) (hb : Below w.heap.size w w') hh O => RunP.ok (b := b) (RunR_some hr hx (by rw [es, en]; exact e)) hb hh O)
  have fN := Lib.hid (fun w' (e : runN gw 1 N L = none) (hb : Below w.heap.size w w') => RunP.err (RunR_none hr hx (by rw [es, en]; exact e)) hb)
  have CS := Lib.hid (fun g M w (hM : allB M = true) (hl : n = M.length) (O : OwM g M w) => gstep_run (cap := n) (h := 1) (by decide) G hl h8 hM O)
  have MK := fun w => makeM_run n h8 w
  have ok := Lib.hid (fun k M (e : runN gw 1 k L = some M) => grun_ok hal e)
  rw [hr] at C
  have lt0 := Lib.hid (ha.lt)
  clear hr hm hge hg hc0 hal hx es en G hL8
  have t1 : decide ((N : Int) < 0) = false := decide_eq_false (by omega)
  have t2 : decide ((N : Int) < -4096) = false := decide_eq_false (by omega)
  have t3 : decide (4096 < (N : Int)) = false := decide_eq_false (by omega)
  replace hn := Lib.hid hn
  replace ha := Lib.hid ha
  replace h8 := Lib.hid h8
  go_enter Try.func5, Try.ntmps5
  go_wp2_with fail
  refine C.out.mono ?_
  rintro _ w1 ⟨rfl, hb1⟩
  replace hb1 := Lib.hid hb1
  clear C
  have A1 := Lib.hid (ha.out.below lt0.out hb1.out)
  clear ha
  generalize hz : (#[.int .i64 0, .int .i64 0, .int .i64 0, .int .i64 0, .int .i64 0, .int .i64 0, .int .i64 0] : Array Value) = Z at *
  have hrow : (w1.alloc (.cells (madeCells Z (n * 7)) 28)).heap[w1.heap.size]? = some (.cells (madeCells Z (n * 7)) 28 (0, 0)) := by
    show (w1.heap.push _)[w1.heap.size]? = _
    simp
  have hbA := Lib.hid (hb1.out.alloc hb1.out.size (.cells (madeCells Z (n * 7)) 28))
  have A2 := Lib.hid (RAt.alloc A1.out (.cells (madeCells Z (n * 7)) 28))
  clear A1 hz
  replace hrow := Lib.hid hrow
  have hgs := Lib.hid hb1.out.size
  clear hb1
  have cq := run_copyM (P := Try.prog) (dT := 22) (sT := 22) (ty := 3) (t := 28) (m := 7) (g := w1.heap.size) (n := n) (cap := n) (scap := cap) (ao := ao) (cur := madeCells Z (n * 7)) (R := L.map maC) Try.underlying22 (by kernel_rfl) hrow.out (by rw [List.length_map]; exact hn.out) (size_madeCells _ _) A2.out (rows_ma L)
  go_upto_region 12 with fail
  clear cq
  have O1 : OwM w1.heap.size L ((w1.alloc (.cells (madeCells Z (n * 7)) 28)).setRow w1.heap.size (L.map maC).flatten.toArray) := ow_row (setRow_heap _ _ _ _ _ _ hrow.out)
  have hb3 := Lib.hid (below_setRow hbA.out hgs.out (L.map maC).flatten.toArray)
  replace O1 := Lib.hid O1
  clear hrow A2 hbA
  generalize World.setRow _ _ _ = wm at *
  generalize w1.heap.size = g at *
  go_wp2_with fail
  go_loopw [37] (fun kv wr => ∃ (k : Nat) (M : List Ma), k ≤ N ∧ kv = .int .i64 k ∧ runN gw 1 k L = some M ∧ OwM g M wr ∧ Below w.heap.size w wr) (fun kv _ => N - (intOf kv).toNat)
  case atStart => exact ⟨0, L, Nat.zero_le _, rfl, rfl, O1.out, hb3.out⟩
  case round =>
    obtain ⟨k, M, hk, rfl, hR, O, hb⟩ := hrel
    clear O1 hb3
    have q := ok.out k M hR
    by_cases hlt : k < N
    · have hkN : (k : Int) < (N : Int) := by omega
      have CC := Lib.hid (CS.out g M wr q.1 (by rw [q.2]; exact hn.out) O)
      replace hb := Lib.hid hb
      have gs := Lib.hid O.lt
      cases hs : stp gw 1 M with
      | none =>
        have en : runN gw 1 N L = none := by
          have := run_on_none (m := N - k - 1) hR hs
          rwa [show k + (N - k - 1 + 1) = N by omega] at this
        rw [stpE_none hs] at CC
        replace en := Lib.hid en
        clear hR O q hs
        go_wp2_with fail
        refine CC.out.mono ?_
        rintro _ w2 ⟨rfl, hb2, -⟩
        replace hb2 := Lib.hid (hb.out.trans (hb2.mono hgs.out))
        go_wp2_with fail
        go_ret2
        exact fN.out _ en.out hb2.out
      | some r =>
        have en := Lib.hid (run_on_some hR hs)
        rw [stpE_some hs] at CC
        replace hs := Lib.hid hs
        clear hR O q
        go_wp2_with fail
        refine CC.out.mono ?_
        rintro _ w2 ⟨rfl, hb2, hO⟩
        replace hO := Lib.hid (hO r hs.out)
        replace hb2 := Lib.hid (hb.out.trans (hb2.mono hgs.out))
        go_wp2_with fail
        go_roundw
        case rel => exact ⟨k + 1, r, hlt, by go_num, en.out, hO.out, hb2.out⟩
        case measure => simp [intOf]; omega
    · obtain rfl : k = N := by omega
      have el : n = M.length := by rw [q.2]; exact hn.out
      have F := Lib.hid (fS.out M g wr hR hb hgs.out O)
      rw [← el] at F
      clear q hR O hb el
      go_wp2_with fail
      go_ret2
      exact F.out
set_option maxHeartbeats 8000000 in
set_option maxRecDepth 100000 in
theorem gRun_run (ao : Option Addr) (cap n : Nat) (L : List Ma) (gw : Nat) (w : World) (hn : n = L.length) (hm : n ≤ 4611686018427387904) (ha : MAt w ao L) {nn : Int} (hg : gw < 18446744073709551616) :
    Calls Try.prog 5 #[.slice ao n cap, .float .f64 gw, .int .i64 nn] w fun e w' => RunP L gw nn w e w' := by
  by_cases hr : readyM L gw = 0
  · by_cases hx : nn < -4096 ∨ 4096 < nn
    · exact gRun_arg ao cap n L gw w hn hm ha hr hx
    · by_cases h0 : nn < 0
      · obtain ⟨N, rfl⟩ : ∃ N : Nat, nn = -(N : Int) := ⟨nn.natAbs, by omega⟩
        exact gRun_neg ao cap n L gw w hn hm ha hg hr (by omega) (by omega)
      · obtain ⟨N, rfl⟩ : ∃ N : Nat, nn = (N : Int) := ⟨nn.natAbs, by omega⟩
        exact gRun_pos ao cap n L gw w hn hm ha hg hr (by omega)
  · exact gRun_bad ao cap n L gw w hn hm ha hr
end Go.Proofs.Ytacinenddnfcbaa

namespace Go.Proofs.Ytacinenddnfcbaa
open Go.ChangeShapes Go.WideShapes Go.ChangeAt Go.RowKit Go.Deep Ieee.Own

/-! ### masses that came in -/
theorem wf64 {b : Nat} (h : (Lit.float .f64 b).wf = true) : b < 18446744073709551616 := by
  simp only [Lit.wf, decide_eq_true_eq] at h; exact h
def I64 (n : Int) : Prop := -9223372036854775808 ≤ n ∧ n ≤ 9223372036854775807
theorem rng_of {n : Int} (h : (Lit.int .i64 n).wf = true) : I64 n := by
  unfold Lit.wf at h
  have e1 : IntKind.i64.min = -9223372036854775808 := rfl
  have e2 : IntKind.i64.max = 9223372036854775807 := rfl
  simp [e1, e2] at h
  exact h
structure MaW (a : Ma) : Prop where
  m : I64 a.m
  x : ∀ k, I64 (a.x.get k)
  p : ∀ k, I64 (a.p.get k)
def MsW (L : List Ma) : Prop := ∀ a ∈ L, MaW a
theorem array7 {α : Type} {cs : List α} (h : cs.length = 7) : ∃ c0 c1 c2 c3 c4 c5 c6, cs = [c0, c1, c2, c3, c4, c5, c6] := by
  match cs, h with
  | [c0, c1, c2, c3, c4, c5, c6], _ => exact ⟨c0, c1, c2, c3, c4, c5, c6, rfl⟩
set_option maxHeartbeats 4000000 in
set_option maxRecDepth 100000 in
theorem arr3_cells {H : Type} {enc : TypeId × Value → H} {W : World} {n : Nat} {c0 c1 c2 : Value} {y : DataW H × List MemPlace}
    (h : DataW.trod enc Try.prog W 0 (fun _ => true) true n 24 [c0, c1, c2] = some y) : ∃ v : T3, [c0, c1, c2] = in3 v ∧ ∀ k, I64 (v.get k) := by
  obtain ⟨y0, y1, y2, m, -, h0, h1, h2⟩ := trod_array3 Try.underlying24 (by kernel_rfl) h
  obtain ⟨a, ha, -, wa⟩ := DataW.trod_int Try.underlying2 h0
  obtain ⟨b, hb, -, wb⟩ := DataW.trod_int Try.underlying2 h1
  obtain ⟨c, hc, -, wc⟩ := DataW.trod_int Try.underlying2 h2
  simp only [List.cons.injEq, and_true] at ha hb hc
  subst ha hb hc
  refine ⟨⟨a, b, c⟩, rfl, get_all fun k hk => ?_⟩
  rcases lt3 hk with rfl | rfl | rfl
  · exact rng_of wa
  · exact rng_of wb
  · exact rng_of wc
set_option maxHeartbeats 4000000 in
set_option maxRecDepth 100000 in
theorem ma_cells {H : Type} {enc : TypeId × Value → H} {W : World} (n : Nat) (cs : List Value) (y : DataW H × List MemPlace) (hl : cs.length = 7)
    (h : DataW.trod enc Try.prog W 0 (fun _ => true) true n 28 cs = some y) : ∃ f : Ma, cs = maC f ∧ MaW f := by
  obtain ⟨c0, c1, c2, c3, c4, c5, c6, rfl⟩ := array7 hl
  obtain ⟨xs, n', -, -, -, hx0, hf⟩ := DataW.trod_struct Try.underlying28 h
  have e1 : Try.prog.cellsOf 2 = 1 := by kernel_rfl
  have e2 : Try.prog.cellsOf 24 = 3 := by kernel_rfl
  have key : ∀ {t : TypeId} {k m : Nat} {cs' : List Value} {z : Option (DataW H × List MemPlace)}, Try.prog.cellsOf t = m → (([c0, c1, c2, c3, c4, c5, c6].drop k).take m) = cs' → m ≤ cs'.length → 0 < m → z = DataW.trod enc Try.prog W 0 (fun _ => true) true n' t (([c0, c1, c2, c3, c4, c5, c6].drop k).take (Try.prog.cellsOf t)) → (∃ q, z = some q) → ∃ q, DataW.trod enc Try.prog W 0 (fun _ => true) true n' t cs' = some q := by
    intro t k m cs' z h1 h2 _ _ h3 h4
    rw [h1, h2] at h3
    obtain ⟨q, hq⟩ := h4
    exact ⟨q, by rw [← h3, hq]⟩
  have hx : xs.length = 3 := hx0
  have g0 := hf 0 _ rfl
  have g1 := hf 1 _ rfl
  have g2 := hf 2 _ rfl
  obtain ⟨q0, h0⟩ := key (k := 0) (m := 1) (cs' := [c0]) e1 rfl (by simp) (by omega) g0.symm ⟨_, List.getElem?_eq_getElem (by omega)⟩
  obtain ⟨q1, h1⟩ := key (k := 1) (m := 3) (cs' := [c1, c2, c3]) e2 rfl (by simp) (by omega) g1.symm ⟨_, List.getElem?_eq_getElem (by omega)⟩
  obtain ⟨q2, h2⟩ := key (k := 4) (m := 3) (cs' := [c4, c5, c6]) e2 rfl (by simp) (by omega) g2.symm ⟨_, List.getElem?_eq_getElem (by omega)⟩
  obtain ⟨a, ha, -, wa⟩ := DataW.trod_int Try.underlying2 h0
  simp only [List.cons.injEq, and_true] at ha
  subst ha
  obtain ⟨x, ex, wx⟩ := arr3_cells h1
  obtain ⟨p, ep, wp⟩ := arr3_cells h2
  unfold in3 at ex ep
  simp only [List.cons.injEq, and_true] at ex ep
  obtain ⟨rfl, rfl, rfl⟩ := ex
  obtain ⟨rfl, rfl, rfl⟩ := ep
  exact ⟨⟨a, x, p⟩, rfl, rng_of wa, wx, wp⟩
set_option maxRecDepth 100000 in
/-- a list of masses that came in, opened -/
theorem open_masses {H : Type} {enc : TypeId × Value → H} {W : World} {v : Value} {d : DataW H} {ps : List MemPlace}
    (hval : ∃ ao n c, v = .slice ao n c) (h : DataW.Trod enc Try.prog W 0 (fun _ => true) true 22 v d ps) :
    ∃ ao cap L, v = .slice ao (List.length L) cap ∧ L.length ≤ cap ∧ cap ≤ maxLen ∧ MAt W ao L ∧ MsW L ∧ ((ao = none ∧ cap = 0) ∨ ((∃ a, ao = some a) ∧ ∃ es sp : List (DataW H), d = .slice es sp ∧ es.length + sp.length = cap)) := by
  obtain ⟨ao, cap, R, h1, h2, h3, h4, h5, h6⟩ := open_rows (m := 7) (fun cs => ∃ f : Ma, cs = maC f ∧ MaW f) Try.underlying22 (by kernel_rfl) (by omega) (fun n cs y hl hy => ma_cells n cs y hl hy) hval h
  have : ∃ L : List Ma, R = L.map maC ∧ MsW L := by
    clear h1 h2 h3 h4 h6
    induction R with
    | nil => exact ⟨[], rfl, fun f hf => by cases hf⟩
    | cons r R ih =>
      obtain ⟨L, rfl, hL⟩ := ih (fun x hx => h5 x (List.mem_cons_of_mem _ hx))
      obtain ⟨⟨f, rfl, hf⟩, -⟩ := h5 r (List.mem_cons_self ..)
      exact ⟨f :: L, rfl, fun g hg => by
        rcases List.mem_cons.1 hg with rfl | hg
        · exact hf
        · exact hL g hg⟩
  obtain ⟨L, rfl, hL⟩ := this
  rw [List.length_map] at h1 h2
  exact ⟨ao, cap, L, h1, h2, h3, h4, hL, h6⟩

/-! ### few -/
def fewI (n : Int) : Int := if n < 0 then -((-(n + 1)) % 64) - 1 else n % 64
set_option maxRecDepth 100000 in
theorem few_run (n : Int) (hn : I64 n) (w : World) : Calls Try.prog 6 #[.int .i64 n] w fun e w' => e = .returned (.int .i64 (fewI n)) ∧ w = w' := by
  obtain ⟨l, h⟩ := hn
  unfold fewI
  by_cases h0 : n < 0
  · rw [if_pos h0]
    have e : -(n + 1).tmod 64 = -(n + 1) % 64 := by
      rw [← Int.neg_tmod]
      exact Int.tmod_eq_emod_of_nonneg (by omega)
    have f : wrap64 (wrap64 (-wrap64 (-(n + 1).tmod 64)) - 1) = -(-(n + 1) % 64) - 1 := by
      rw [e]
      unfold wrap64
      omega
    replace f := Lib.hid f
    clear e
    go_enter Try.func6, Try.ntmps6
    go_wp2_with fail
    go_ret
    exact ⟨ret_iG f.out, rfl⟩
  · rw [if_neg h0]
    go_enter Try.func6, Try.ntmps6
    go_wp2_with fail
    go_ret
    exact ⟨rfl, rfl⟩

/-! ### awake -/
def awM : Ma := ⟨1, ⟨0, 0, 0⟩, ⟨4, 0, 0⟩⟩
def awR : Ma := ⟨1, ⟨4, 0, 0⟩, ⟨4, 0, 0⟩⟩
theorem aw_run : RunR [awM] 0 1 = (0, some [awR]) := by
  have h1 : hfI 4 1 = 2 := by decide +kernel
  have h0 : hfI 0 1 = 0 := by decide +kernel
  have d1 : dft 1 [awM] = [⟨1, ⟨2, 0, 0⟩, ⟨4, 0, 0⟩⟩] := by
    show [({ m := 1, x := ⟨0 + 1 * hfI 4 1, 0 + 1 * hfI 0 1, 0 + 1 * hfI 0 1⟩, p := ⟨4, 0, 0⟩ } : Ma)] = _
    rw [h1, h0]; rfl
  have hm : Mid0 ⟨1, ⟨2, 0, 0⟩, ⟨4, 0, 0⟩⟩ := ⟨by decide, by decide, get_all (Q := fun y => y.natAbs ≤ 2 ^ 52) fun k hk => by rcases lt3 hk with rfl | rfl | rfl <;> decide⟩
  have hg : Gee 0 := gee_of (by omega) (by decide +kernel)
  have k1 : kck 0 1 [⟨1, ⟨2, 0, 0⟩, ⟨4, 0, 0⟩⟩] = [⟨1, ⟨2, 0, 0⟩, ⟨4, 0, 0⟩⟩] := by
    have e : kk 0 1 [⟨1, ⟨2, 0, 0⟩, ⟨4, 0, 0⟩⟩] ⟨1, ⟨2, 0, 0⟩, ⟨4, 0, 0⟩⟩ = ⟨1, ⟨2, 0, 0⟩, ⟨4, 0, 0⟩⟩ := by
      refine Eq.trans (kk_same (R := []) fun k _ => ?_) (kk_nil 0 1 _)
      simp only [sm]
      rw [pl_self hg hm]; rfl
    unfold kck
    simp only [List.map_cons, List.map_nil, e]
  have d2 : dft 1 [⟨1, ⟨2, 0, 0⟩, ⟨4, 0, 0⟩⟩] = [awR] := by
    show [({ m := 1, x := ⟨2 + 1 * hfI 4 1, 0 + 1 * hfI 0 1, 0 + 1 * hfI 0 1⟩, p := ⟨4, 0, 0⟩ } : Ma)] = _
    rw [h1, h0]; rfl
  have r0 : readyM [awM] 0 = 0 := by decide +kernel
  refine RunR_some r0 (by decide) ?_
  show runN 0 1 1 [awM] = some [awR]
  rw [grun_one]
  have s := stp_yes (g := 0) (h := 1) (l := [awM]) (by rw [d1, k1]; decide +kernel) (by rw [d1, k1, d2]; decide +kernel)
  rw [s, d1, k1, d2]
set_option maxHeartbeats 4000000 in
set_option maxRecDepth 100000 in
theorem awake14 (w : World) : Calls Try.prog 4 #[] w fun e w' => e = .returned (.bool true) ∧ Below w.heap.size w w' := by
  have B := BV.box w 28 (maC awM)
  have b1 := (Below.refl w.heap.size w).alloc (Nat.le_refl _) (objV 28 (maC awM))
  have FA : MAt (w.alloc (objV 28 (maC awM))) (some ⟨w.heap.size, 0, none⟩) [awM] := by
    intro j r hj
    have j0 : j = 0 := by
      have := (List.getElem?_eq_some_iff.1 hj).1
      simpa using this
    subst j0
    simp at hj
    subst hj
    refine ⟨_, _, rfl, B.lt, fun k u hu => ?_⟩
    rw [Nat.zero_mul, Nat.zero_add]
    exact B.at_ k u hu
  have C1 := Lib.hid (gRun_run (some ⟨w.heap.size, 0, none⟩) 1 1 [awM] 0 _ (nn := 1) rfl (by omega) FA (by omega))
  clear B FA
  replace b1 := Lib.hid b1
  unfold objV at C1 b1
  go_enter Try.func4, Try.ntmps4
  go_wp2_with fail
  refine C1.out.mono ?_
  rintro _ w2 ⟨hb, -, hr⟩
  obtain ⟨b, rfl, -, O⟩ := hr _ (congrArg Prod.snd aw_run)
  have c0 := O.x (j := 0) (k := 0) (by decide) (by decide)
  replace c0 := c0.1
  have e0 : (mAt [awR] 0).x.get 0 = 4 := rfl
  rw [e0] at c0
  replace hb := Lib.hid (b1.out.trans (hb.mono b1.out.size))
  clear C1 b1 O e0
  go_wp2_with fail
  go_ret
  exact ⟨by first | rfl | trivial, hb.out⟩

/-! ### same -/
set_option maxRecDepth 100000 in
theorem ieq_gen {P : Program} {t : TypeId} {k' : IntKind} (d : Nat) (a b : Int) (w : World) (h : P.underlying t = some (.int k')) : (Op.equalIn (d + 1) t (.int .i64 a) (.int .i64 b)).run P w = .ok (a == b) w := by
  simp [Op.equalIn, run_underlying h]
set_option maxRecDepth 100000 in
theorem ieq_run (a b : Int) (w : World) : (Op.equalIn 9998 2 (.int .i64 a) (.int .i64 b)).run Try.prog w = .ok (a == b) w := ieq_gen 9997 a b w Try.underlying2
set_option maxHeartbeats 4000000 in
set_option maxRecDepth 100000 in
theorem aeq_run (a b c : Int) (w : World) : (Op.equalIn 9999 24 (.agg #[.int .i64 a, .int .i64 b, .int .i64 c]) (.agg #[.int .i64 a, .int .i64 b, .int .i64 c])).run Try.prog w = .ok true w := by
  have e := ieq_run
  show (Op.equalIn (9998 + 1) _ _ _).run _ _ = _
  unfold Op.equalIn
  go_simp
  have r3 : List.range' 0 3 = [0, 1, 2] := rfl
  rw [r3]
  simp only [List.forIn_cons, List.forIn_nil]
  go_simp
set_option maxHeartbeats 4000000 in
set_option maxRecDepth 100000 in
theorem mneq_run (f : Ma) (w : World) : (binOp .neq 28 (maV f) (maV f)).run Try.prog w = .ok (.bool false) w := by
  obtain ⟨m, ⟨a, b, c⟩, ⟨p, q, r⟩⟩ := f
  unfold maV
  dsimp only
  have e1 := aeq_run a b c
  have e2 := aeq_run p q r
  have e0 : (Op.equalIn 9999 2 (.int .i64 m) (.int .i64 m)).run Try.prog w = .ok (m == m) w := ieq_gen 9998 m m w Try.underlying2
  have t : (m == m) = true := by simp
  rw [t] at e0
  go_simp
end Go.Proofs.Ytacinenddnfcbaa

namespace Go.Proofs.Ytacinenddnfcbaa
open Ieee.Own

theorem RunR_none_nz {l : List Ma} {g : Nat} {n : Int} (h : (RunR l g n).2 = none) : (RunR l g n).1 ≠ 0 := by
  by_cases h1 : readyM l g = 0
  · by_cases h2 : n < -4096 ∨ 4096 < n
    · rw [RunR_arg h1 h2]; decide
    · cases e : runN g (sgH n) n.natAbs l with
      | none => rw [RunR_none h1 h2 e]; decide
      | some r => rw [RunR_some h1 h2 e] at h; cases h
  · rw [RunR_err h1]; exact h1
theorem RunR_got {l r : List Ma} {g : Nat} {n : Int} (h : (RunR l g n).2 = some r) : RunR l g n = (0, some r) ∧ readyM l g = 0 ∧ ¬ (n < -4096 ∨ 4096 < n) ∧ runN g (sgH n) n.natAbs l = some r := by
  by_cases h1 : readyM l g = 0
  · by_cases h2 : n < -4096 ∨ 4096 < n
    · rw [RunR_arg h1 h2] at h; cases h
    · cases e : runN g (sgH n) n.natAbs l with
      | none => rw [RunR_none h1 h2 e] at h; cases h
      | some q =>
        rw [RunR_some h1 h2 e] at h
        obtain rfl := Option.some.inj h
        exact ⟨RunR_some h1 h2 e, h1, h2, rfl⟩
  · rw [RunR_err h1] at h; cases h
theorem ready_on {l r : List Ma} {g : Nat} (h : readyM l g = 0) (hr : allB r = true) (hl : r.length ≤ 8) : readyM r g = 0 := by
  obtain ⟨-, h2⟩ := readyM_zero h
  unfold readyM
  rw [if_neg (by rw [chkM_ok hl hr]; decide), if_pos h2]
theorem RunR_kept {l r : List Ma} {g : Nat} {n : Int} (h : (RunR l g n).2 = some r) : allB l = true ∧ allB r = true ∧ r.length = l.length ∧ l.length ≤ 8 ∧ readyM r g = 0 := by
  obtain ⟨-, h1, -, e⟩ := RunR_got h
  obtain ⟨h8, ha⟩ := chkM_zero (readyM_zero h1).1
  have q := grun_ok ha e
  exact ⟨ha, q.1, q.2, h8, ready_on h1 q.1 (by omega)⟩
/-- moved -/
theorem RunR_mv {l r s : List Ma} {g : Nat} {n : Int} {t : T3} (h : (RunR l g n).2 = some r) (h' : (RunR (l.map (mv t)) g n).2 = some s) : s = r.map (mv t) := by
  obtain ⟨-, -, -, e⟩ := RunR_got h
  obtain ⟨-, -, -, e'⟩ := RunR_got h'
  exact grun_mv e e'
/-- turned -/
theorem RunR_tn {l : List Ma} {g : Nat} {n : Int} (hg : g < 18446744073709551616) (j : Nat) : RunR (l.map (tn j)) g n = ((RunR l g n).1, (RunR l g n).2.map fun r => r.map (tn j)) := by
  have c : readyM (l.map (tn j)) g = readyM l g := by
    unfold readyM chkM
    rw [all_tn, List.length_map]
  by_cases h1 : readyM l g = 0
  · by_cases h2 : n < -4096 ∨ 4096 < n
    · rw [RunR_arg h1 h2, RunR_arg (by rw [c]; exact h1) h2]; rfl
    · obtain ⟨h8, ha⟩ := chkM_zero (readyM_zero h1).1
      have q := grun_tn (gee_of hg (readyM_zero h1).2) (sgH_or n) j n.natAbs ha h8
      cases e : runN g (sgH n) n.natAbs l with
      | none =>
        rw [e] at q
        rw [RunR_none h1 h2 e, RunR_none (by rw [c]; exact h1) h2 q]; rfl
      | some r =>
        rw [e] at q
        rw [RunR_some h1 h2 e, RunR_some (by rw [c]; exact h1) h2 q]; rfl
  · rw [RunR_err h1, RunR_err (by rw [c]; exact h1), c]; rfl
end Go.Proofs.Ytacinenddnfcbaa
