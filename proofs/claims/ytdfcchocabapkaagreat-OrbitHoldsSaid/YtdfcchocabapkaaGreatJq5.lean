/- Proved here: what the texts Obi, Obj prove, one behind the other. -/
import Derived.Test.YtdfcchocabapkaaGreatJq3
import Derived.Test.YtdfcchocabapkaaGreatJo1
import Derived.Test.YtdfcchocabapkaaGreatJx1

set_option maxHeartbeats 4000000
set_option maxRecDepth 100000
namespace Go.Proofs.YtdfcchocabapkaaGreat
open Go.ChangeShapes Go.WideShapes Go.ChangeAt Go.RowKit Ieee.Own Pol

theorem oadd_shape {p1 p2 q1 q2 u1 u2 : Nat} {k : Int} (C : Hid (∀ w, Calls Tryz.prog 122 #[.agg #[.float .f64 p1, .float .f64 p2], .agg #[.float .f64 q1, .float .f64 q2]] w fun e w' => e = .returned (.tuple #[.agg #[.float .f64 u1, .float .f64 u2], .int .i64 k]) ∧ Below w.heap.size w w')) (w : World) : Calls Tryz.prog 67 #[.agg #[.float .f64 p1, .float .f64 p2], .agg #[.float .f64 q1, .float .f64 q2]] w fun e w' => e = .returned (.agg #[.float .f64 u1, .float .f64 u2]) ∧ Below w.heap.size w w' := by
 have K0 := kv3 w 26 26 26 [.float .f64 p1, .float .f64 p2] [.float .f64 q1, .float .f64 q2] [.float .f64 0, .float .f64 0]
 simp only [objV] at K0
 have hst := @fstore
 replace K0 := Lib.hid K0
 go_enter Tryz.func67, Tryz.ntmps67
 go_wp2_with fail
 have K := K0.out
 clear K0
 generalize ((w.alloc _).alloc _).alloc _ = wr at *
 refine (C.out wr).mono ?_
 rintro _ v1 ⟨rfl, hb⟩
 replace K := K.on hb
 clear hb
 replace K := K.new 26 [.float .f64 u1, .float .f64 u2]
 simp only [objV, List.cons_append, List.nil_append] at K
 have c2_0 := K.ce 2 0 rfl rfl
 have f2_0 := K.fe 2 0 rfl rfl
 have c2_1 := K.ce 2 1 rfl rfl
 have f2_1 := K.fe 2 1 rfl rfl
 have c3_0 := K.ce 3 0 rfl rfl
 have c3_1 := K.ce 3 1 rfl rfl
 replace K := Lib.hid K
 go_wp2_with fail
 replace K := K.out
 (try simp only [Exit.inBlock, Exit.then])
 refine bodyPost_ret (v := .agg #[.float .f64 u1, .float .f64 u2]) ?_ rfl ⟨rfl, ?_⟩
 · rw [results_cell1 rfl]; go_simp
 · exact ((K.old).setCell (by first | exact Nat.le_refl _ | (dsimp only; omega)) _).setCell (by first | exact Nat.le_refl _ | (dsimp only; omega)) _
theorem osub_shape {p1 p2 q1 q2 u1 u2 : Nat} {k : Int} (C : Hid (∀ w, Calls Tryz.prog 72 #[.agg #[.float .f64 p1, .float .f64 p2], .agg #[.float .f64 q1, .float .f64 q2]] w fun e w' => e = .returned (.tuple #[.agg #[.float .f64 u1, .float .f64 u2], .int .i64 k]) ∧ Below w.heap.size w w')) (w : World) : Calls Tryz.prog 30 #[.agg #[.float .f64 p1, .float .f64 p2], .agg #[.float .f64 q1, .float .f64 q2]] w fun e w' => e = .returned (.agg #[.float .f64 u1, .float .f64 u2]) ∧ Below w.heap.size w w' := by
 have K0 := kv3 w 26 26 26 [.float .f64 p1, .float .f64 p2] [.float .f64 q1, .float .f64 q2] [.float .f64 0, .float .f64 0]
 simp only [objV] at K0
 have hst := @fstore
 replace K0 := Lib.hid K0
 go_enter Tryz.func30, Tryz.ntmps30
 go_wp2_with fail
 have K := K0.out
 clear K0
 generalize ((w.alloc _).alloc _).alloc _ = wr at *
 refine (C.out wr).mono ?_
 rintro _ v1 ⟨rfl, hb⟩
 replace K := K.on hb
 clear hb
 replace K := K.new 26 [.float .f64 u1, .float .f64 u2]
 simp only [objV, List.cons_append, List.nil_append] at K
 have c2_0 := K.ce 2 0 rfl rfl
 have f2_0 := K.fe 2 0 rfl rfl
 have c2_1 := K.ce 2 1 rfl rfl
 have f2_1 := K.fe 2 1 rfl rfl
 have c3_0 := K.ce 3 0 rfl rfl
 have c3_1 := K.ce 3 1 rfl rfl
 replace K := Lib.hid K
 go_wp2_with fail
 replace K := K.out
 (try simp only [Exit.inBlock, Exit.then])
 refine bodyPost_ret (v := .agg #[.float .f64 u1, .float .f64 u2]) ?_ rfl ⟨rfl, ?_⟩
 · rw [results_cell1 rfl]; go_simp
 · exact ((K.old).setCell (by first | exact Nat.le_refl _ | (dsimp only; omega)) _).setCell (by first | exact Nat.le_refl _ | (dsimp only; omega)) _
theorem omul_shape {p1 p2 q1 q2 u1 u2 : Nat} {k : Int} (C : Hid (∀ w, Calls Tryz.prog 76 #[.agg #[.float .f64 p1, .float .f64 p2], .agg #[.float .f64 q1, .float .f64 q2]] w fun e w' => e = .returned (.tuple #[.agg #[.float .f64 u1, .float .f64 u2], .int .i64 k]) ∧ Below w.heap.size w w')) (w : World) : Calls Tryz.prog 33 #[.agg #[.float .f64 p1, .float .f64 p2], .agg #[.float .f64 q1, .float .f64 q2]] w fun e w' => e = .returned (.agg #[.float .f64 u1, .float .f64 u2]) ∧ Below w.heap.size w w' := by
 have K0 := kv3 w 26 26 26 [.float .f64 p1, .float .f64 p2] [.float .f64 q1, .float .f64 q2] [.float .f64 0, .float .f64 0]
 simp only [objV] at K0
 have hst := @fstore
 replace K0 := Lib.hid K0
 go_enter Tryz.func33, Tryz.ntmps33
 go_wp2_with fail
 have K := K0.out
 clear K0
 generalize ((w.alloc _).alloc _).alloc _ = wr at *
 refine (C.out wr).mono ?_
 rintro _ v1 ⟨rfl, hb⟩
 replace K := K.on hb
 clear hb
 replace K := K.new 26 [.float .f64 u1, .float .f64 u2]
 simp only [objV, List.cons_append, List.nil_append] at K
 have c2_0 := K.ce 2 0 rfl rfl
 have f2_0 := K.fe 2 0 rfl rfl
 have c2_1 := K.ce 2 1 rfl rfl
 have f2_1 := K.fe 2 1 rfl rfl
 have c3_0 := K.ce 3 0 rfl rfl
 have c3_1 := K.ce 3 1 rfl rfl
 replace K := Lib.hid K
 go_wp2_with fail
 replace K := K.out
 (try simp only [Exit.inBlock, Exit.then])
 refine bodyPost_ret (v := .agg #[.float .f64 u1, .float .f64 u2]) ?_ rfl ⟨rfl, ?_⟩
 · rw [results_cell1 rfl]; go_simp
 · exact ((K.old).setCell (by first | exact Nat.le_refl _ | (dsimp only; omega)) _).setCell (by first | exact Nat.le_refl _ | (dsimp only; omega)) _
theorem odiv_shape {p1 p2 q1 q2 u1 u2 : Nat} {k : Int} (C : Hid (∀ w, Calls Tryz.prog 149 #[.agg #[.float .f64 p1, .float .f64 p2], .agg #[.float .f64 q1, .float .f64 q2]] w fun e w' => e = .returned (.tuple #[.agg #[.float .f64 u1, .float .f64 u2], .int .i64 k]) ∧ Below w.heap.size w w')) (w : World) : Calls Tryz.prog 102 #[.agg #[.float .f64 p1, .float .f64 p2], .agg #[.float .f64 q1, .float .f64 q2]] w fun e w' => e = .returned (.agg #[.float .f64 u1, .float .f64 u2]) ∧ Below w.heap.size w w' := by
 have K0 := kv3 w 26 26 26 [.float .f64 p1, .float .f64 p2] [.float .f64 q1, .float .f64 q2] [.float .f64 0, .float .f64 0]
 simp only [objV] at K0
 have hst := @fstore
 replace K0 := Lib.hid K0
 go_enter Tryz.func102, Tryz.ntmps102
 go_wp2_with fail
 have K := K0.out
 clear K0
 generalize ((w.alloc _).alloc _).alloc _ = wr at *
 refine (C.out wr).mono ?_
 rintro _ v1 ⟨rfl, hb⟩
 replace K := K.on hb
 clear hb
 replace K := K.new 26 [.float .f64 u1, .float .f64 u2]
 simp only [objV, List.cons_append, List.nil_append] at K
 have c2_0 := K.ce 2 0 rfl rfl
 have f2_0 := K.fe 2 0 rfl rfl
 have c2_1 := K.ce 2 1 rfl rfl
 have f2_1 := K.fe 2 1 rfl rfl
 have c3_0 := K.ce 3 0 rfl rfl
 have c3_1 := K.ce 3 1 rfl rfl
 replace K := Lib.hid K
 go_wp2_with fail
 replace K := K.out
 (try simp only [Exit.inBlock, Exit.then])
 refine bodyPost_ret (v := .agg #[.float .f64 u1, .float .f64 u2]) ?_ rfl ⟨rfl, ?_⟩
 · rw [results_cell1 rfl]; go_simp
 · exact ((K.old).setCell (by first | exact Nat.le_refl _ | (dsimp only; omega)) _).setCell (by first | exact Nat.le_refl _ | (dsimp only; omega)) _
theorem ohull_shape {p1 p2 q1 q2 u1 u2 : Nat} {k : Int} (C : Hid (∀ w, Calls Tryz.prog 121 #[.agg #[.float .f64 p1, .float .f64 p2], .agg #[.float .f64 q1, .float .f64 q2]] w fun e w' => e = .returned (.tuple #[.agg #[.float .f64 u1, .float .f64 u2], .int .i64 k]) ∧ Below w.heap.size w w')) (w : World) : Calls Tryz.prog 66 #[.agg #[.float .f64 p1, .float .f64 p2], .agg #[.float .f64 q1, .float .f64 q2]] w fun e w' => e = .returned (.agg #[.float .f64 u1, .float .f64 u2]) ∧ Below w.heap.size w w' := by
 have K0 := kv3 w 26 26 26 [.float .f64 p1, .float .f64 p2] [.float .f64 q1, .float .f64 q2] [.float .f64 0, .float .f64 0]
 simp only [objV] at K0
 have hst := @fstore
 replace K0 := Lib.hid K0
 go_enter Tryz.func66, Tryz.ntmps66
 go_wp2_with fail
 have K := K0.out
 clear K0
 generalize ((w.alloc _).alloc _).alloc _ = wr at *
 refine (C.out wr).mono ?_
 rintro _ v1 ⟨rfl, hb⟩
 replace K := K.on hb
 clear hb
 replace K := K.new 26 [.float .f64 u1, .float .f64 u2]
 simp only [objV, List.cons_append, List.nil_append] at K
 have c2_0 := K.ce 2 0 rfl rfl
 have f2_0 := K.fe 2 0 rfl rfl
 have c2_1 := K.ce 2 1 rfl rfl
 have f2_1 := K.fe 2 1 rfl rfl
 have c3_0 := K.ce 3 0 rfl rfl
 have c3_1 := K.ce 3 1 rfl rfl
 replace K := Lib.hid K
 go_wp2_with fail
 replace K := K.out
 (try simp only [Exit.inBlock, Exit.then])
 refine bodyPost_ret (v := .agg #[.float .f64 u1, .float .f64 u2]) ?_ rfl ⟨rfl, ?_⟩
 · rw [results_cell1 rfl]; go_simp
 · exact ((K.old).setCell (by first | exact Nat.le_refl _ | (dsimp only; omega)) _).setCell (by first | exact Nat.le_refl _ | (dsimp only; omega)) _
theorem osquare_shape {p1 p2 u1 u2 : Nat} {k : Int} (C : Hid (∀ w, Calls Tryz.prog 73 #[.agg #[.float .f64 p1, .float .f64 p2]] w fun e w' => e = .returned (.tuple #[.agg #[.float .f64 u1, .float .f64 u2], .int .i64 k]) ∧ Below w.heap.size w w')) (w : World) : Calls Tryz.prog 31 #[.agg #[.float .f64 p1, .float .f64 p2]] w fun e w' => e = .returned (.agg #[.float .f64 u1, .float .f64 u2]) ∧ Below w.heap.size w w' := by
 have K0 := kv2 w 26 26 [.float .f64 p1, .float .f64 p2] [.float .f64 0, .float .f64 0]
 simp only [objV] at K0
 have hst := @fstore
 replace K0 := Lib.hid K0
 go_enter Tryz.func31, Tryz.ntmps31
 go_wp2_with fail
 have K := K0.out
 clear K0
 generalize (w.alloc _).alloc _ = wr at *
 refine (C.out wr).mono ?_
 rintro _ v1 ⟨rfl, hb⟩
 replace K := K.on hb
 clear hb
 replace K := K.new 26 [.float .f64 u1, .float .f64 u2]
 simp only [objV, List.cons_append, List.nil_append] at K
 have c1_0 := K.ce 1 0 rfl rfl
 have f1_0 := K.fe 1 0 rfl rfl
 have c1_1 := K.ce 1 1 rfl rfl
 have f1_1 := K.fe 1 1 rfl rfl
 have c2_0 := K.ce 2 0 rfl rfl
 have c2_1 := K.ce 2 1 rfl rfl
 replace K := Lib.hid K
 go_wp2_with fail
 replace K := K.out
 (try simp only [Exit.inBlock, Exit.then])
 refine bodyPost_ret (v := .agg #[.float .f64 u1, .float .f64 u2]) ?_ rfl ⟨rfl, ?_⟩
 · rw [results_cell1 rfl]; go_simp
 · exact ((K.old).setCell (by first | exact Nat.le_refl _ | (dsimp only; omega)) _).setCell (by first | exact Nat.le_refl _ | (dsimp only; omega)) _
theorem oroot_shape {p1 p2 u1 u2 : Nat} {k : Int} (C : Hid (∀ w, Calls Tryz.prog 71 #[.agg #[.float .f64 p1, .float .f64 p2]] w fun e w' => e = .returned (.tuple #[.agg #[.float .f64 u1, .float .f64 u2], .int .i64 k]) ∧ Below w.heap.size w w')) (w : World) : Calls Tryz.prog 29 #[.agg #[.float .f64 p1, .float .f64 p2]] w fun e w' => e = .returned (.agg #[.float .f64 u1, .float .f64 u2]) ∧ Below w.heap.size w w' := by
 have K0 := kv2 w 26 26 [.float .f64 p1, .float .f64 p2] [.float .f64 0, .float .f64 0]
 simp only [objV] at K0
 have hst := @fstore
 replace K0 := Lib.hid K0
 go_enter Tryz.func29, Tryz.ntmps29
 go_wp2_with fail
 have K := K0.out
 clear K0
 generalize (w.alloc _).alloc _ = wr at *
 refine (C.out wr).mono ?_
 rintro _ v1 ⟨rfl, hb⟩
 replace K := K.on hb
 clear hb
 replace K := K.new 26 [.float .f64 u1, .float .f64 u2]
 simp only [objV, List.cons_append, List.nil_append] at K
 have c1_0 := K.ce 1 0 rfl rfl
 have f1_0 := K.fe 1 0 rfl rfl
 have c1_1 := K.ce 1 1 rfl rfl
 have f1_1 := K.fe 1 1 rfl rfl
 have c2_0 := K.ce 2 0 rfl rfl
 have c2_1 := K.ce 2 1 rfl rfl
 replace K := Lib.hid K
 go_wp2_with fail
 replace K := K.out
 (try simp only [Exit.inBlock, Exit.then])
 refine bodyPost_ret (v := .agg #[.float .f64 u1, .float .f64 u2]) ?_ rfl ⟨rfl, ?_⟩
 · rw [results_cell1 rfl]; go_simp
 · exact ((K.old).setCell (by first | exact Nat.le_refl _ | (dsimp only; omega)) _).setCell (by first | exact Nat.le_refl _ | (dsimp only; omega)) _
theorem opoint_shape {x u1 u2 : Nat} {k : Int} (C : Hid (∀ w, Calls Tryz.prog 70 #[.float .f64 x] w fun e w' => e = .returned (.tuple #[.agg #[.float .f64 u1, .float .f64 u2], .int .i64 k]) ∧ Below w.heap.size w w')) (w : World) : Calls Tryz.prog 28 #[.float .f64 x] w fun e w' => e = .returned (.agg #[.float .f64 u1, .float .f64 u2]) ∧ Below w.heap.size w w' := by
 have K0 := kv1 w 26 [.float .f64 0, .float .f64 0]
 simp only [objV] at K0
 have hst := @fstore
 replace K0 := Lib.hid K0
 go_enter Tryz.func28, Tryz.ntmps28
 go_wp2_with fail
 have K := K0.out
 clear K0
 generalize w.alloc _ = wr at *
 refine (C.out wr).mono ?_
 rintro _ v1 ⟨rfl, hb⟩
 replace K := K.on hb
 clear hb
 replace K := K.new 26 [.float .f64 u1, .float .f64 u2]
 simp only [objV, List.cons_append, List.nil_append] at K
 have c0_0 := K.ce 0 0 rfl rfl
 have f0_0 := K.fe 0 0 rfl rfl
 have c0_1 := K.ce 0 1 rfl rfl
 have f0_1 := K.fe 0 1 rfl rfl
 have c1_0 := K.ce 1 0 rfl rfl
 have c1_1 := K.ce 1 1 rfl rfl
 replace K := Lib.hid K
 go_wp2_with fail
 replace K := K.out
 (try simp only [Exit.inBlock, Exit.then])
 refine bodyPost_ret (v := .agg #[.float .f64 u1, .float .f64 u2]) ?_ rfl ⟨rfl, ?_⟩
 · rw [results_cell1 rfl]; go_simp
 · exact ((K.old).setCell (by first | exact Nat.le_refl _ | (dsimp only; omega)) _).setCell (by first | exact Nat.le_refl _ | (dsimp only; omega)) _
theorem osub_run {p q u : Pr} (hp : W2 p) (hq : W2 q) (R : SubQ p q u) (w : World) : Calls Tryz.prog 30 #[pv p, pv q] w fun e w' => e = .returned (pv u) ∧ Below w.heap.size w w' :=
 osub_shape (Lib.hid (fun w => (ssub_run p.1 p.2 q.1 q.2 hp.l1 hp.l2 hq.l1 hq.l2 w).mono fun e w' h => (⟨h.1.all.uniq R.all, h.2⟩ : e = .returned (spanE u.1 u.2 0) ∧ Below w.heap.size w w'))) w
theorem omul_run {p q u : Pr} (hp : W2 p) (hq : W2 q) (R : MulR p q u) (w : World) : Calls Tryz.prog 33 #[pv p, pv q] w fun e w' => e = .returned (pv u) ∧ Below w.heap.size w w' :=
 omul_shape (Lib.hid (fun w => (smul_run p.1 p.2 q.1 q.2 hp.l1 hp.l2 hq.l1 hq.l2 w).mono fun e w' h => (⟨OpAll.uniq h.1 R, h.2⟩ : e = .returned (spanE u.1 u.2 0) ∧ Below w.heap.size w w'))) w
theorem odiv_run {p q u : Pr} (hp : W2 p) (hq : W2 q) (R : DivR p q u 0) (w : World) : Calls Tryz.prog 102 #[pv p, pv q] w fun e w' => e = .returned (pv u) ∧ Below w.heap.size w w' :=
 odiv_shape (Lib.hid (fun w => (sdiv_run p.1 p.2 q.1 q.2 hp.l1 hp.l2 hq.l1 hq.l2 w).mono fun e w' h => (⟨OpAll.uniq h.1 R, h.2⟩ : e = .returned (spanE u.1 u.2 0) ∧ Below w.heap.size w w'))) w
theorem opoint_run {c : Nat} (hc : c < 18446744073709551616) (g : fitB c = true) (w : World) : Calls Tryz.prog 28 #[.float .f64 c] w fun e w' => e = .returned (pv (ptS7 c)) ∧ Below w.heap.size w w' :=
 opoint_shape (Lib.hid (fun w => sof7_run hc g w)) w
def signP (p : Pr) : Int := if 0 < V p.1 then 1 else if V p.2 < 0 then -1 else 0
theorem osign_run {p : Pr} (hp : W2 p) (e : errS p.1 p.2 = 0) (w : World) : Calls Tryz.prog 52 #[pv p] w fun e w' => e = .returned (.int .i64 (signP p)) ∧ Below w.heap.size w w' := by
 have C := Lib.hid (fun w => scheck_run p.1 p.2 hp.l1 hp.l2 w)
 rw [e] at C
 obtain ⟨f1, f2, -⟩ := errS_zero e
 have g1 := gt_words (fit_fin hp.l1 f1) zero_fin
 have g2 := lt_zero _ (fit_fin hp.l2 f2)
 rw [V_zero] at g1
 unfold signP
 clear f1 f2 hp e
 obtain ⟨p1, p2⟩ := p
 unfold pv spanV at *
 dsimp only at *
 by_cases c1 : 0 < V p1
 · rw [if_pos c1]
   rw [decide_eq_true c1] at g1
   clear c1 g2
   have K0 := kv1 w 26 [.float .f64 p1, .float .f64 p2]
   simp only [objV] at K0
   have hst := @fstore
   replace K0 := Lib.hid K0
   go_enter Tryz.func52, Tryz.ntmps52
   go_wp2_with fail
   have K := K0.out
   clear K0
   generalize w.alloc _ = wr at *
   refine (C.out wr).mono ?_
   rintro _ v1 ⟨rfl, hb⟩
   replace K := K.on hb
   clear hb
   have c0_0 := K.ce 0 0 rfl rfl
   have c0_1 := K.ce 0 1 rfl rfl
   replace K := Lib.hid K
   go_wp2_with fail
   replace K := K.out
   go_ret
   exact ⟨rfl, K.old⟩
 · rw [if_neg c1]
   rw [decide_eq_false c1] at g1
   by_cases c2 : V p2 < 0
   · rw [if_pos c2]
     rw [decide_eq_true c2] at g2
     clear c1 c2
     have K0 := kv1 w 26 [.float .f64 p1, .float .f64 p2]
     simp only [objV] at K0
     have hst := @fstore
     replace K0 := Lib.hid K0
     go_enter Tryz.func52, Tryz.ntmps52
     go_wp2_with fail
     have K := K0.out
     clear K0
     generalize w.alloc _ = wr at *
     refine (C.out wr).mono ?_
     rintro _ v1 ⟨rfl, hb⟩
     replace K := K.on hb
     clear hb
     have c0_0 := K.ce 0 0 rfl rfl
     have c0_1 := K.ce 0 1 rfl rfl
     replace K := Lib.hid K
     go_wp2_with fail
     replace K := K.out
     go_ret
     exact ⟨rfl, K.old⟩
   · rw [if_neg c2]
     rw [decide_eq_false c2] at g2
     clear c1 c2
     have K0 := kv1 w 26 [.float .f64 p1, .float .f64 p2]
     simp only [objV] at K0
     have hst := @fstore
     replace K0 := Lib.hid K0
     go_enter Tryz.func52, Tryz.ntmps52
     go_wp2_with fail
     have K := K0.out
     clear K0
     generalize w.alloc _ = wr at *
     refine (C.out wr).mono ?_
     rintro _ v1 ⟨rfl, hb⟩
     replace K := K.on hb
     clear hb
     have c0_0 := K.ce 0 0 rfl rfl
     have c0_1 := K.ce 0 1 rfl rfl
     replace K := Lib.hid K
     go_wp2_with fail
     replace K := K.out
     go_ret
     exact ⟨rfl, K.old⟩
theorem up_m {x : Int} {k : Nat} (m : Nat) (h : x.natAbs ≤ 2 ^ k) (hk : k ≤ 1074 + m) : x.natAbs ≤ 2 ^ (1074 + m) := abs_up h hk
theorem pt_sn {x k : Nat} (hx : x < 18446744073709551616) (W : (V x).natAbs ≤ 2 ^ (1074 + k)) (g : fitB x = true) : Sn (ptS7 x) k ∧ ps (ptS7 x) = (Q x, Q x) := by
 have fx := fit_fin hx g
 have v := posW_V x
 have f := posW_fin fx
 have gg : fitB (posW x) = true := by rw [fit_V f fx v]; exact g
 refine ⟨⟨f.1, f.1, errS_self7 gg, ?_, ?_⟩, ?_⟩
 · show (V (posW x)).natAbs ≤ _; rw [v]; exact W
 · show (V (posW x)).natAbs ≤ _; rw [v]; exact W
 · show (Q (posW x), Q (posW x)) = _; rw [Q_congr v]
theorem DivR.uniq0 {p q u v : Pr} (h : DivR p q u 0) (k : DivR p q v 0) : u = v := pair_of (OpAll.uniq h k)
noncomputable def kap (e : Nat) : Rat := Q e / Ply.tau
theorem tau_pos : 0 < Ply.tau := by decide +kernel
theorem kap_tau (e : Nat) : kap e * Ply.tau = Q e := by
 unfold kap
 rw [Rat.div_def, Rat.mul_assoc, Rat.inv_mul_cancel _ (by have := tau_pos; grind), Rat.mul_one]
theorem kap_le {x k q t : Rat} (h : k * t = q) (t0 : 0 < t) (g : x * t ≤ q) : x ≤ k := by
 rcases Rat.le_total (a := x) (b := k) with c | c
 · exact c
 · have := Rat.mul_le_mul_of_nonneg_right c (Rat.le_of_lt t0)
   rw [h] at this
   have e : x * t = k * t := by rw [h]; grind
   have z : (x - k) * t = 0 := by grind
   rcases Rat.mul_eq_zero.1 z with z | z <;> grind
theorem kap_ge {x k q t : Rat} (h : k * t = q) (t0 : 0 < t) (g : q ≤ x * t) : k ≤ x := by
 rcases Rat.le_total (a := k) (b := x) with c | c
 · exact c
 · have := Rat.mul_le_mul_of_nonneg_right c (Rat.le_of_lt t0)
   rw [h] at this
   have z : (x - k) * t = 0 := by grind
   rcases Rat.mul_eq_zero.1 z with z | z <;> grind
theorem tau_ends : Q tauW ≤ Ply.tau ∧ Ply.tau ≤ Q (nextW tauW) ∧ 6 ≤ Q tauW ∧ Ply.tau ≤ Q tauW + 8 * uR ∧ Ply.tau ≤ 7 := by decide +kernel
theorem kap_fac {e : Nat} (e0 : 0 ≤ Q e) (e1 : Q e ≤ 7 / 8) : Fac (kap e) ∧ 4 * kap e ≤ 1 := by
 have kt := kap_tau e
 have k0 : 0 ≤ kap e := kap_le kt tau_pos (by rw [Rat.zero_mul]; exact e0)
 have k1 : kap e ≤ 7 / 8 / Ply.tau := kap_ge kt tau_pos (by
  rw [Rat.div_def, Rat.mul_assoc, Rat.inv_mul_cancel _ (by have := tau_pos; grind), Rat.mul_one]; exact e1)
 have c1 : 7 / 8 / Ply.tau * Ply.quick ≤ 19 / 20 := by decide +kernel
 have c2 : 4 * (7 / 8 / Ply.tau) ≤ 1 := by decide +kernel
 have := Rat.mul_le_mul_of_nonneg_right k1 Ply.quick_nn
 exact ⟨⟨k0, Rat.le_trans this c1⟩, by grind⟩
theorem near_poly {u k K t w q : Rat} (up : 0 < u) (u0 : 0 ≤ u) (u1 : 1000000 * u ≤ 1) (h : K * t = q) (q1 : q ≤ 7 / 8) (t1 : w ≤ t) (t2 : t ≤ w + 8 * u) (w6 : 6 ≤ w) (r : mag (k * w - q) ≤ u * mag (k * w)) (k0 : 0 ≤ k) (k1 : 4 * k ≤ 1) : mag (k - K) ≤ u := by
 have kw := Rat.mul_nonneg k0 (show 0 ≤ w by grind)
 have m : mag (k * w) ≤ k * w := mag_of (by grind) (by grind)
 have r2 := Rat.le_trans r (Rat.mul_le_mul_of_nonneg_left m u0)
 have l := mag_le (k * w - q)
 have kb : k * w ≤ 1 := by
  have := Rat.mul_nonneg (show 0 ≤ 1 / 1000000 - u by grind) kw
  grind
 have ub : u * (k * w) ≤ u := by have := Rat.mul_le_mul_of_nonneg_left kb u0; grind
 have kt : k * t - k * w ≤ 2 * u ∧ 0 ≤ k * t - k * w := by
  have a := Rat.mul_nonneg k0 (show 0 ≤ t - w by grind)
  have b := Rat.mul_nonneg k0 (show 0 ≤ w + 8 * u - t by grind)
  have c := Rat.mul_nonneg u0 (show 0 ≤ 1 - 4 * k by grind)
  constructor <;> grind
 have d : (k - K) * t = k * t - q := by rw [← h]; grind
 refine mag_of ?_ ?_
 · rcases Rat.le_total (a := -u) (b := k - K) with c | c
   · exact c
   · have := Rat.mul_le_mul_of_nonneg_right c (show 0 ≤ t by grind)
     have := Rat.mul_nonneg u0 (show 0 ≤ t - 6 by grind)
     grind
 · rcases Rat.le_total (a := k - K) (b := u) with c | c
   · exact c
   · have := Rat.mul_le_mul_of_nonneg_right c (show 0 ≤ t by grind)
     have := Rat.mul_nonneg u0 (show 0 ≤ t - 6 by grind)
     grind
theorem kap_near {e m : Nat} (he : e < 18446744073709551616) (hm : m < 18446744073709551616) (e1 : ecB e = true) (m1 : haB m = true) : mag (Q (kepW e) - kap e) ≤ uR := by
 obtain ⟨g, q0, q1⟩ := ecc_of he e1
 obtain ⟨-, K, -⟩ := kp_ec he hm e1 m1
 obtain ⟨t1, t2, t6, t8, t7⟩ := tau_ends
 obtain ⟨-, -, a3⟩ := div_any he g norm_tau (by omega) (by omega)
 exact near_poly (by decide +kernel) uR0 uR1 (kap_tau e) q1 t1 t8 t6 (quo_rat a3) K.k0 K.k1
theorem le_unit2 {x y z : Rat} (h : x * unit * (y * unit) ≤ z * unit * unit) : x * y ≤ z := by
 have u := unit_pos
 rcases Rat.le_total (a := x * y) (b := z) with c | c
 · exact c
 · have a := Rat.mul_nonneg (Rat.mul_nonneg (show 0 ≤ x * y - z by grind) (Rat.le_of_lt u)) (Rat.le_of_lt u)
   have e : (x * y - z) * unit * unit = 0 := by grind
   rcases Rat.mul_eq_zero.1 e with e | e
   · rcases Rat.mul_eq_zero.1 e with e | e <;> grind
   · grind
theorem ge_unit2 {x y z : Rat} (h : z * unit * unit ≤ x * unit * (y * unit)) : z ≤ x * y := by
 have u := unit_pos
 rcases Rat.le_total (a := z) (b := x * y) with c | c
 · exact c
 · have a := Rat.mul_nonneg (Rat.mul_nonneg (show 0 ≤ z - x * y by grind) (Rat.le_of_lt u)) (Rat.le_of_lt u)
   have e : (z - x * y) * unit * unit = 0 := by grind
   rcases Rat.mul_eq_zero.1 e with e | e
   · rcases Rat.mul_eq_zero.1 e with e | e <;> grind
   · grind
theorem kq_ex {e : Nat} (he : e < 18446744073709551616) (e1 : ecB e = true) : ∃ K, DivR (ptS7 e) tauS K 0 ∧ Sn K 0 ∧ In (kap e) (ps K) := by
 obtain ⟨g, q0, q1⟩ := ecc_of he e1
 have fe := fit_fin he g
 have v0 := Q_nn.1 q0
 have vm : V e ≤ 2 ^ 1074 := by
  have c1 : V oneW = 2 ^ 1074 := by decide +kernel
  have k1 : Q oneW = 1 := by decide +kernel
  rw [← c1]; exact Q_le.1 (by rw [k1]; grind)
 have ce : ((2 ^ 1074 : Nat) : Int) = 2 ^ 1074 := Int.natCast_pow 2 1074
 have va : (V e).natAbs ≤ 2 ^ 1074 := by omega
 obtain ⟨P, -⟩ := pt_sn (k := 0) he (up_m 0 va (by omega)) g
 obtain ⟨K, k, R⟩ := div_ex P.w2 sn_tau.w2
 have T1 : 2 ^ 1074 ≤ V tauW ∧ V tauW ≤ V (nextW tauW) := by decide +kernel
 have h0 : errD (ptS7 e).1 (ptS7 e).2 tauS.1 tauS.2 = 0 := by
  have tp : (0 : Int) < 2 ^ 1074 := Int.pow_pos (by omega)
  unfold errD
  rw [if_neg (by rw [errSS_of' P.ok sn_tau.ok]; simp), if_neg]
  show ¬ (V tauW ≤ 0 ∧ _)
  omega
 have ve : V (posW e) = V e := posW_V e
 have tp : (0 : Int) < V tauW := by have tp : (0 : Int) < 2 ^ 1074 := Int.pow_pos (by omega); omega
 have tn : (0 : Int) < V (nextW tauW) := by omega
 have mp := MM_pos
 have eM : (2 : Int) ^ (1074 + 0) = MM := rfl
 have lowc : ∀ b, 0 < V b → 0 ≤ quotC (posW e) b (-(2 ^ (1074 + 0))) := fun b hb => by
  rw [quot_lo_pos hb, eM, ve]
  have a := Int.mul_nonneg (Int.le_of_lt mp) (Int.le_of_lt hb)
  have c := Int.mul_nonneg v0 (Int.le_of_lt mp)
  rw [Int.neg_mul]; omega
 have upc : ∀ b, 2 ^ 1074 ≤ V b → quotC (posW e) b (2 ^ (1074 + 0)) ≤ 0 := fun b hb => by
  have hb' : 0 < V b := by have tp : (0 : Int) < 2 ^ 1074 := Int.pow_pos (by omega); omega
  rw [quot_up_pos hb', eM, ve, Int.mul_comm]
  exact Int.mul_le_mul_of_nonneg_left (Int.le_trans vm hb) (Int.le_of_lt mp)
 obtain ⟨k0, b1, b2⟩ := told_fit7 (m := 0) R h0 (by omega)
  (by rw [four_mem]; exact ⟨lowc _ tp, lowc _ tn, lowc _ tp, lowc _ tn⟩)
  (by rw [four_mem]; exact ⟨upc _ T1.1, upc _ (Int.le_trans T1.1 T1.2), upc _ T1.1, upc _ (Int.le_trans T1.1 T1.2)⟩)
 subst k0
 obtain ⟨l1, l2, -, o⟩ := OpAll.bd R
 obtain ⟨lo, hi, d, u, x1, x2, er⟩ := o rfl (fun lo hi d u => quot_lu' (a := posW e) (b := tauW) (by omega) (d.le _ (by simp [ptS7, tauS])) (u.ge _ (by simp [ptS7, tauS])))
 obtain ⟨f1, f2, lq⟩ := errS_zero er
 have d4 := four_mem.1 d.le
 have u4 := four_mem.1 u.ge
 have ll := lowW_le lo
 have hh := highW_ge hi
 rw [← x1] at ll
 rw [← x2] at hh
 have SK : Sn K 0 := ⟨l1, l2, er, by omega, by omega⟩
 have conv : ∀ x b : Nat, V x * V b ≤ V e * MM → Q x * Q b ≤ Q e := fun x b h => by
  have a : ((V x * V b : Int) : Rat) ≤ ((V e * MM : Int) : Rat) := Rat.intCast_le_intCast.2 h
  rw [Rat.intCast_mul, Rat.intCast_mul] at a
  have um : ((MM : Int) : Rat) = unit := unit_int.symm
  rw [um, ← Q_unit, ← Q_unit, ← Q_unit] at a
  exact le_unit2 a
 have conv2 : ∀ x b : Nat, V e * MM ≤ V x * V b → Q e ≤ Q x * Q b := fun x b h => by
  have a : ((V e * MM : Int) : Rat) ≤ ((V x * V b : Int) : Rat) := Rat.intCast_le_intCast.2 h
  rw [Rat.intCast_mul, Rat.intCast_mul] at a
  have um : ((MM : Int) : Rat) = unit := unit_int.symm
  rw [um, ← Q_unit, ← Q_unit, ← Q_unit] at a
  exact ge_unit2 a
 obtain ⟨t1, t2, t6, t8, t7⟩ := tau_ends
 refine ⟨K, R, SK, ?_, ?_⟩
 · show Q K.1 ≤ kap e
   refine kap_le (kap_tau e) tau_pos ?_
   rcases Rat.le_total (a := 0) (b := Q K.1) with c | c
   · have h2 := d4.2.1
     have h2 : 0 ≤ quotC (posW e) (nextW tauW) (V lo) := h2
     rw [quot_lo_pos tn, ve] at h2
     have h3 : V K.1 * V (nextW tauW) ≤ V e * MM := Int.le_trans (Int.mul_le_mul_of_nonneg_right ll (Int.le_of_lt tn)) h2
     have h4 := conv _ _ h3
     have := Rat.mul_le_mul_of_nonneg_left t2 c
     exact Rat.le_trans this h4
   · have := Rat.mul_nonneg (show 0 ≤ -Q K.1 by grind) (Rat.le_of_lt tau_pos)
     grind
 · show kap e ≤ Q K.2
   refine kap_ge (kap_tau e) tau_pos ?_
   have h2 : quotC (posW e) tauW (V hi) ≤ 0 := u4.1
   rw [quot_up_pos tp, ve] at h2
   have h3 : V e * MM ≤ V K.2 * V tauW := Int.le_trans h2 (Int.mul_le_mul_of_nonneg_right hh (Int.le_of_lt tp))
   have h4 := conv2 _ _ h3
   have c : 0 ≤ Q K.2 := by
    rcases Rat.le_total (a := 0) (b := Q K.2) with z | z
    · exact z
    · have := Rat.mul_nonneg (show 0 ≤ -Q K.2 by grind) (show 0 ≤ Q tauW - 1 by grind)
      grind
   have := Rat.mul_le_mul_of_nonneg_left t1 c
   exact Rat.le_trans h4 this

theorem oahead_shape {ec x m n e1 e2 k1 k2 s1 s2 c1 c2 x1 x2 m1 m2 a1 a2 r1 r2 d1 d2 : Nat} {k : Int} (CP : Hid (∀ w, Calls Tryz.prog 28 #[.float .f64 ec] w fun en w' => en = .returned (.agg #[.float .f64 e1, .float .f64 e2]) ∧ Below w.heap.size w w')) (CN : ∀ w, Calls Tryz.prog 103 #[.float .f64 4618760256179416344] w fun en w' => en = .returned (.float .f64 n) ∧ w = w') (CD : Hid (∀ w, Calls Tryz.prog 102 #[.agg #[.float .f64 e1, .float .f64 e2], .agg #[.float .f64 4618760256179416344, .float .f64 n]] w fun en w' => en = .returned (.agg #[.float .f64 k1, .float .f64 k2]) ∧ Below w.heap.size w w')) (CT : Hid (∀ w, Calls Tryz.prog 104 #[.float .f64 x] w fun en w' => en = .returned (.tuple #[.agg #[.float .f64 s1, .float .f64 s2], .agg #[.float .f64 c1, .float .f64 c2], .int .i64 k]) ∧ Below w.heap.size w w')) (CX : Hid (∀ w, Calls Tryz.prog 28 #[.float .f64 x] w fun en w' => en = .returned (.agg #[.float .f64 x1, .float .f64 x2]) ∧ Below w.heap.size w w')) (CM : Hid (∀ w, Calls Tryz.prog 33 #[.agg #[.float .f64 k1, .float .f64 k2], .agg #[.float .f64 s1, .float .f64 s2]] w fun en w' => en = .returned (.agg #[.float .f64 m1, .float .f64 m2]) ∧ Below w.heap.size w w')) (CS : Hid (∀ w, Calls Tryz.prog 30 #[.agg #[.float .f64 x1, .float .f64 x2], .agg #[.float .f64 m1, .float .f64 m2]] w fun en w' => en = .returned (.agg #[.float .f64 a1, .float .f64 a2]) ∧ Below w.heap.size w w')) (CQ : Hid (∀ w, Calls Tryz.prog 28 #[.float .f64 m] w fun en w' => en = .returned (.agg #[.float .f64 r1, .float .f64 r2]) ∧ Below w.heap.size w w')) (CR : Hid (∀ w, Calls Tryz.prog 30 #[.agg #[.float .f64 a1, .float .f64 a2], .agg #[.float .f64 r1, .float .f64 r2]] w fun en w' => en = .returned (.agg #[.float .f64 d1, .float .f64 d2]) ∧ Below w.heap.size w w')) (w : World) : Calls Tryz.prog 53 #[.float .f64 ec, .float .f64 x, .float .f64 m] w fun en w' => en = .returned (.agg #[.float .f64 d1, .float .f64 d2]) ∧ Below w.heap.size w w' := by
 have K0 := kv1 w 26 [.float .f64 0, .float .f64 0]
 simp only [objV] at K0
 have hst := @fstore
 replace K0 := Lib.hid K0
 go_enter Tryz.func53, Tryz.ntmps53
 go_wp2_with fail
 have K := K0.out
 clear K0
 generalize w.alloc _ = wr at *
 refine (CP.out wr).mono ?_
 rintro _ v1 ⟨rfl, hb⟩
 replace K := K.on hb
 clear hb
 replace K := Lib.hid K
 go_wp2_with (go_at_call 103; ((with_reducible refine (CN _).mono ?_); rintro e w' ⟨rfl, rfl⟩))
 replace K := K.out
 refine (CD.out v1).mono ?_
 rintro _ v2 ⟨rfl, hb⟩
 replace K := K.on hb
 clear hb
 replace K := K.new 26 [.float .f64 k1, .float .f64 k2]
 simp only [objV, List.cons_append, List.nil_append] at K
 replace K := Lib.hid K
 go_wp2_with fail
 replace K := K.out
 generalize v2.alloc _ = u2 at *
 generalize v2.heap.size = g1 at *
 refine (CT.out u2).mono ?_
 rintro _ v3 ⟨rfl, hb⟩
 replace K := K.on hb
 clear hb
 replace K := K.new 26 [.float .f64 s1, .float .f64 s2]
 replace K := K.and (n := v3.heap.size + 1) (by simp) 26 [.float .f64 c1, .float .f64 c2]
 simp only [objV, List.cons_append, List.nil_append] at K
 replace K := Lib.hid K
 go_upto_region 3 with fail
 replace K := K.out
 generalize (v3.alloc _).alloc _ = u3 at *
 generalize v3.heap.size = g2 at *
 generalize hds : ([some 22, some 23, some 24, some 25, some 26, some 27, some 28, some 29, some 30, none] : List (Option Tmp)) = ds
 have hap : apartL ds = true := by rw [← hds]; decide
 replace hds := hds.symm
 refine wp_region_kv (fun hf => [some (w.heap.size, [.float .f64 d1, .float .f64 d2]), some (g1, [.float .f64 k1, .float .f64 k2]), some (g2, [.float .f64 s1, .float .f64 s2]), some (g2 + 1, [.float .f64 c1, .float .f64 c2])]) (fun hf => [some (.float .f64 x), some (.agg #[.float .f64 x1, .float .f64 x2]), some (.agg #[.float .f64 k1, .float .f64 k2]), some (.agg #[.float .f64 s1, .float .f64 s2]), some (.agg #[.float .f64 m1, .float .f64 m2]), some (.agg #[.float .f64 a1, .float .f64 a2]), some (.float .f64 m), some (.agg #[.float .f64 r1, .float .f64 r2]), some (.agg #[.float .f64 d1, .float .f64 d2]), some (undef)]) [] [⟨9, 0, 0, [.float .f64 d1, .float .f64 d2]⟩] [.float .f64 x, .agg #[.float .f64 x1, .float .f64 x2], .agg #[.float .f64 k1, .float .f64 k2], .agg #[.float .f64 s1, .float .f64 s2], .agg #[.float .f64 m1, .float .f64 m2], .agg #[.float .f64 a1, .float .f64 a2], .float .f64 m, .agg #[.float .f64 r1, .float .f64 r2], .agg #[.float .f64 d1, .float .f64 d2], undef] ds (by kernel_rfl) (by rw [hds]; rfl) hap (by decide +kernel) (by decide +kernel) K ?ha ?haj ?hai ?hsi ?hss ?hsa ?hsw ?htg ?hE2 ?hE3 ?hE4 ?hL1 ?hL2 ?hL3 ?alloc ?step ?store ?fin
 case ha => intro al hal; cases hal
 case haj => intro al hal al' hal' e; cases hal
 case hai => intro al hal; cases hal
 case hsi => exact quq _ _ _ rfl rfl
 case hss => exact qss rfl
 case hsa =>
  intro st hst al hal
  cases hal
 case hsw =>
  intro st hst al hal e
  cases hal
 case htg =>
  intro st hst
  rcases List.mem_singleton.1 hst with rfl
  · exact .inl ⟨_, _, rfl, show 0 + 2 ≤ 2 by decide⟩
 case hE2 =>
  intro hf j h1 h2
  have n0 : 0 ≠ j := h1 _ qh0
  rcases j with _ | _ | _ | _ | j <;> first | rfl | exact absurd rfl n0
 case hE3 =>
  intro hf st hst g us e
  rcases List.mem_singleton.1 hst with rfl
  · obtain ⟨rfl, rfl⟩ := Prod.mk.inj (Option.some.inj (Option.some.inj e)); rfl
 case hE4 =>
  intro hf al hal
  cases hal
 case hL1 => intro hf; rfl
 case hL2 =>
  intro hf i hi hna
  rcases (ql10 hi) with rfl | rfl | rfl | rfl | rfl | rfl | rfl | rfl | rfl | rfl <;> first | rfl
 case hL3 => intro hf al hal; cases hal
 case alloc =>
  intro al hal o ρ W ho
  cases hal
 case step =>
  intro L W i o ho hs ha hd hB hO
  rcases (ql10 (Array.getElem?_eq_some_iff.1 ho).1) with rfl | rfl | rfl | rfl | rfl | rfl | rfl | rfl | rfl | rfl
  · obtain rfl := qsj ho
    refine qvr fun ρ hA => ?_
    have hc := qrc hA
    have h0 : ρ (.tmp 1) = .float .f64 x := (po hA (by rw [hds]; decide)).trans rfl
    clear hA hd hB ho hs ha hO
    unfold execOp; go_simp
  · obtain rfl := qsj ho
    refine .call 28 #[.float .f64 x] ?_ (CX.out W)
    generalize hA : (puts ds L _).eval = ρ
    have hg := qrg hA
    have h0 : ρ (.tmp 22) = .float .f64 x := pg 0 hA hap (by rw [hds]; rfl) (hd 0 (by decide +kernel) (alne rfl)) (show 22 < 31 by decide)
    have hf := Tryz.func28
    unfold execOp; go_simp
  · obtain rfl := qsj ho
    have b := hB 1 _ _ rfl (qns rfl)
    have c0 := b.at_ 0 _ rfl
    have c1 := b.at_ 1 _ rfl
    clear b
    refine qvr fun ρ hA => ?_
    have h0 : ρ (.tmp 7) = .pointer (some ⟨g1, 0, none⟩) := (po hA (by rw [hds]; decide)).trans rfl
    clear hA hd hB ho hs ha hO
    unfold execOp; go_simp
  · obtain rfl := qsj ho
    have b := hB 2 _ _ rfl (qns rfl)
    have c0 := b.at_ 0 _ rfl
    have c1 := b.at_ 1 _ rfl
    clear b
    refine qvr fun ρ hA => ?_
    have h0 : ρ (.tmp 8) = .pointer (some ⟨g2, 0, none⟩) := (po hA (by rw [hds]; decide)).trans rfl
    clear hA hd hB ho hs ha hO
    unfold execOp; go_simp
  · obtain rfl := qsj ho
    refine .call 33 #[.agg #[.float .f64 k1, .float .f64 k2], .agg #[.float .f64 s1, .float .f64 s2]] ?_ (CM.out W)
    generalize hA : (puts ds L _).eval = ρ
    have hg := qrg hA
    have h0 : ρ (.tmp 24) = .agg #[.float .f64 k1, .float .f64 k2] := pg 2 hA hap (by rw [hds]; rfl) (hd 2 (by decide +kernel) (alne rfl)) (show 24 < 31 by decide)
    have h1 : ρ (.tmp 25) = .agg #[.float .f64 s1, .float .f64 s2] := pg 3 hA hap (by rw [hds]; rfl) (hd 3 (by decide +kernel) (alne rfl)) (show 25 < 31 by decide)
    have hf := Tryz.func33
    unfold execOp; go_simp
  · obtain rfl := qsj ho
    refine .call 30 #[.agg #[.float .f64 x1, .float .f64 x2], .agg #[.float .f64 m1, .float .f64 m2]] ?_ (CS.out W)
    generalize hA : (puts ds L _).eval = ρ
    have hg := qrg hA
    have h0 : ρ (.tmp 23) = .agg #[.float .f64 x1, .float .f64 x2] := pg 1 hA hap (by rw [hds]; rfl) (hd 1 (by decide +kernel) (alne rfl)) (show 23 < 31 by decide)
    have h1 : ρ (.tmp 26) = .agg #[.float .f64 m1, .float .f64 m2] := pg 4 hA hap (by rw [hds]; rfl) (hd 4 (by decide +kernel) (alne rfl)) (show 26 < 31 by decide)
    have hf := Tryz.func30
    unfold execOp; go_simp
  · obtain rfl := qsj ho
    refine qvr fun ρ hA => ?_
    have hc := qrc hA
    have h0 : ρ (.tmp 2) = .float .f64 m := (po hA (by rw [hds]; decide)).trans rfl
    clear hA hd hB ho hs ha hO
    unfold execOp; go_simp
  · obtain rfl := qsj ho
    refine .call 28 #[.float .f64 m] ?_ (CQ.out W)
    generalize hA : (puts ds L _).eval = ρ
    have hg := qrg hA
    have h0 : ρ (.tmp 28) = .float .f64 m := pg 6 hA hap (by rw [hds]; rfl) (hd 6 (by decide +kernel) (alne rfl)) (show 28 < 31 by decide)
    have hf := Tryz.func28
    unfold execOp; go_simp
  · obtain rfl := qsj ho
    refine .call 30 #[.agg #[.float .f64 a1, .float .f64 a2], .agg #[.float .f64 r1, .float .f64 r2]] ?_ (CR.out W)
    generalize hA : (puts ds L _).eval = ρ
    have hg := qrg hA
    have h0 : ρ (.tmp 27) = .agg #[.float .f64 a1, .float .f64 a2] := pg 5 hA hap (by rw [hds]; rfl) (hd 5 (by decide +kernel) (alne rfl)) (show 27 < 31 by decide)
    have h1 : ρ (.tmp 29) = .agg #[.float .f64 r1, .float .f64 r2] := pg 7 hA hap (by rw [hds]; rfl) (hd 7 (by decide +kernel) (alne rfl)) (show 29 < 31 by decide)
    have hf := Tryz.func30
    unfold execOp; go_simp
  · exact absurd rfl (hs _ qh0)
 case store =>
  intro st hst L W o h us ho hd hal hC b
  rcases List.mem_singleton.1 hst with rfl
  · dsimp only at ho hd hal hC b ⊢
    obtain rfl := qsj ho
    obtain ⟨hh, rfl⟩ := hC _ _ rfl
    replace hh := hh.symm
    subst hh
    have c0 := b.at_ 0 _ rfl
    have f0 := b.fr 0 _ rfl
    have c1 := b.at_ 1 _ rfl
    have f1 := b.fr 1 _ rfl
    refine ⟨?_, rfl⟩
    generalize hA : (puts ds L _).eval = ρ
    have h0 : ρ (.tmp 6) = .pointer (some ⟨w.heap.size, 0, none⟩) := (po hA (by rw [hds]; decide)).trans rfl
    have h1 : ρ (.tmp 30) = .agg #[.float .f64 d1, .float .f64 d2] := pg 8 hA hap (by rw [hds]; rfl) (hd 8 (by decide +kernel) (alne rfl)) (show 30 < 31 by decide)
    have hst' := @fstore
    clear hA hd b ho hal hC
    simp only [putV]
    unfold execOp; go_simp
 case fin =>
  intro hf W0 K
  rw [hds]
  clear hds hap ds CX CM CS CQ CR
  (try dsimp only at K)
  simp only [List.set_cons_zero, List.set_cons_succ, puts, Act.put, List.setIfInBounds_toArray]
  have c0_0 := K.ce 0 0 rfl rfl
  have c0_1 := K.ce 0 1 rfl rfl
  replace K := Lib.hid K
  go_wp2_with fail
  replace K := K.out
  (try simp only [Exit.inBlock, Exit.then])
  refine bodyPost_ret (v := .agg #[.float .f64 d1, .float .f64 d2]) ?_ rfl ⟨rfl, ?_⟩
  · rw [results_cell1 rfl]; go_simp
  · exact K.old
structure AhR (e x m : Nat) (K S C M A D : Pr) : Prop where
 kk : DivR (ptS7 e) tauS K 0
 ss : PtR x S C
 mm : MulR K S M
 aa : SubQ (ptS7 x) M A
 dd : SubQ A (ptS7 m) D
def AheadR (e x m : Nat) (D : Pr) : Prop := ∃ K S C M A, AhR e x m K S C M A D
theorem AheadR.uniq {e x m : Nat} {D D' : Pr} (h : AheadR e x m D) (g : AheadR e x m D') : D = D' := by
 obtain ⟨K, S, C, M, A, h⟩ := h
 obtain ⟨K', S', C', M', A', g⟩ := g
 obtain rfl := h.kk.uniq0 g.kk
 obtain ⟨rfl, rfl⟩ := h.ss.uniq g.ss
 obtain rfl := h.mm.uniq g.mm
 obtain rfl := h.aa.uniq g.aa
 exact h.dd.uniq g.dd
structure Side (x : Nat) : Prop where
 lt : x < 18446744073709551616
 fit : fitB x = true
 abs : (V x).natAbs ≤ 2 ^ 1076
theorem Side.er {x : Nat} (h : Side x) : errA x = 0 := err_small (fit_fin h.lt h.fit) h.fit (abs_up (k := 1076) (l := 1114) h.abs (by omega))
structure AhF (e x m : Nat) (D : Pr) : Prop where
 r : AheadR e x m D
 sn : Sn D 4
 lo : V D.2 < 0 → Lo_ (kap e) (Q m) (Q x)
 hi : 0 < V D.1 → Hi_ (kap e) (Q m) (Q x)
theorem V_of_Q {a b : Nat} (h : Q a = Q b) : V a = V b := by
 have l := Q_le.1 (show Q a ≤ Q b by rw [h]; exact Rat.le_refl)
 have r := Q_le.1 (show Q b ≤ Q a by rw [h]; exact Rat.le_refl)
 omega
theorem pt_w2 {x : Nat} (hx : x < 18446744073709551616) : W2 (ptS7 x) := by
 have : posW x < 18446744073709551616 := by unfold posW; split <;> omega
 exact ⟨this, this⟩
theorem ahead_ex {e x m : Nat} (he : e < 18446744073709551616) (hm : m < 18446744073709551616) (e1 : ecB e = true) (m1 : haB m = true) (X : Side x) : ∃ D, AhF e x m D ∧ ∀ w, Calls Tryz.prog 53 #[.float .f64 e, .float .f64 x, .float .f64 m] w fun en w' => en = .returned (pv D) ∧ Below w.heap.size w w' := by
 obtain ⟨g, q0, q1⟩ := ecc_of he e1
 obtain ⟨K, kR, kS, kI⟩ := kq_ex he e1
 obtain ⟨S, C, H, CT⟩ := upoint_ok X.lt X.er
 obtain ⟨xS, xp⟩ := pt_sn (k := 2) X.lt (up_m 2 X.abs (by omega)) X.fit
 have mw := ha_wd hm m1
 have gm := (btw_of hm m1).2.1
 obtain ⟨mS, mp⟩ := pt_sn (k := 3) hm (up_m 3 mw.abs (by omega)) gm
 have sS := unit_sn H.up
 obtain ⟨M, sM, rM, pM⟩ := mul_step7 kS sS (by omega)
 obtain ⟨A, sA, rA, a1, a2⟩ := sub_step7 xS (sM.le (show 0 + 0 ≤ 2 by omega)) (by omega)
 obtain ⟨D, sD, rD, d1, d2⟩ := sub_step7 sA mS (by omega)
 obtain ⟨r, R, iS, iC⟩ := H.rest
 rw [← (SQ_of R).1] at iS
 have key : ∀ v, Nigh (SQ x) v → In (Q x - kap e * v - Q m) (ps D) := fun v n => by
  have iv := iS v n.1 n.2.1 n.2.2.1 n.2.2.2
  have i1 := kI.mul iv pM
  have ix : In (Q x) (ps (ptS7 x)) := by rw [xp]; exact ⟨Rat.le_refl, Rat.le_refl⟩
  have im : In (Q m) (ps (ptS7 m)) := by rw [mp]; exact ⟨Rat.le_refl, Rat.le_refl⟩
  exact (ix.sub7 i1 a1 a2).sub7 im d1 d2
 refine ⟨D, ⟨⟨K, S, C, M, A, kR, H.rel, rM, rA, rD⟩, sD, fun h => ⟨_, _, sin_word x, fun v n => ?_⟩, fun h => ⟨_, _, sin_word x, fun v n => ?_⟩⟩, fun w => ?_⟩
 · have i := (key v n).2
   have k : Q D.2 < 0 := by
    have a : Q D.2 ≤ 0 := by rw [← Q0, Q_le, V_zero]; omega
    have b : Q D.2 ≠ 0 := fun c => by
        have : V D.2 = V 0 := V_of_Q (by rw [c, Q0])
        rw [V_zero] at this; omega
    grind
   have i : Q x - kap e * v - Q m ≤ Q D.2 := i
   grind
 · have i := (key v n).1
   have k : 0 < Q D.1 := by
    have a : 0 ≤ Q D.1 := by rw [← Q0, Q_le, V_zero]; omega
    have b : Q D.1 ≠ 0 := fun c => by
        have : V D.1 = V 0 := V_of_Q (by rw [c, Q0])
        rw [V_zero] at this; omega
    grind
   have i : Q D.1 ≤ Q x - kap e * v - Q m := i
   grind
 · have CN := fun w => next_any tauW (by unfold tauW; omega) w
   exact oahead_shape (Lib.hid (fun w => opoint_run he g w)) CN (Lib.hid (fun w => odiv_run (pt_w2 he) sn_tau.w2 kR w)) (Lib.hid CT) (Lib.hid (fun w => opoint_run X.lt X.fit w)) (Lib.hid (fun w => omul_run kS.w2 sS.w2 rM w)) (Lib.hid (fun w => osub_run xS.w2 sM.w2 rA w)) (Lib.hid (fun w => opoint_run hm gm w)) (Lib.hid (fun w => osub_run sA.w2 mS.w2 rD w)) w
open Classical in
noncomputable def ahP (e x m : Nat) : Pr := if h : ∃ D, AheadR e x m D then h.choose else (0, 0)
theorem ahP_eq {e x m : Nat} {D : Pr} (h : AheadR e x m D) : ahP e x m = D := by
 have hh : ∃ D, AheadR e x m D := ⟨D, h⟩
 unfold ahP
 rw [dif_pos hh]
 exact hh.choose_spec.uniq h
noncomputable def sgA (e m x : Nat) : Int := signP (ahP e x m)
theorem sgA_lo {e x m : Nat} {D : Pr} (h : AhF e x m D) : (sgA e m x = -1 → Lo_ (kap e) (Q m) (Q x)) ∧ (sgA e m x = 1 → Hi_ (kap e) (Q m) (Q x)) := by
 unfold sgA
 rw [ahP_eq h.r]
 unfold signP
 by_cases c1 : 0 < V D.1
 · rw [if_pos c1]; exact ⟨fun h => absurd h (by decide), fun _ => h.hi c1⟩
 · rw [if_neg c1]
   by_cases c2 : V D.2 < 0
   · rw [if_pos c2]; exact ⟨fun _ => h.lo c2, fun h => absurd h (by decide)⟩
   · rw [if_neg c2]; exact ⟨fun h => absurd h (by decide), fun h => absurd h (by decide)⟩
def stW (w : Int) (i : Nat) : Nat := (973 + i) * 4503599627370496 + (if w = -1 then 9223372036854775808 else 0)
def sdW (w : Int) : Nat := if w = -1 then noneW else oneW
theorem st_all : ∀ i, i < 41 → (stW 1 i < 18446744073709551616 ∧ stW 1 i % 9223372036854775808 < 9218868437227405312) ∧ (stW (-1) i < 18446744073709551616 ∧ stW (-1) i % 9223372036854775808 < 9218868437227405312) ∧ (2 : Int) ^ 400 ∣ V (stW 1 i) ∧ (2 : Int) ^ 400 ∣ V (stW (-1) i) ∧ (V (stW 1 i)).natAbs ≤ 2 ^ 1074 ∧ (V (stW (-1) i)).natAbs ≤ 2 ^ 1074 ∧ Ieee.double.mul (stW 1 i) two52 = some (stW 1 (i + 1)) ∧ Ieee.double.mul (stW (-1) i) two52 = some (stW (-1) (i + 1)) := by decide +kernel
noncomputable def edX (e m : Nat) (w : Int) (i : Nat) : Nat := aX (solV e m) (stW w i)
noncomputable def edF (e m : Nat) (w : Int) : Nat → Nat → Nat
 | 0, _ => aX m (sdW w)
 | n + 1, i => if sgA e m (oW (edX e m w i)) = w then oW (edX e m w i) else edF e m w n (i + 1)
noncomputable def edW (e m : Nat) (w : Int) : Nat := edF e m w 40 0
end Go.Proofs.YtdfcchocabapkaaGreat
