/- Proved here: what the texts Frs, Frt prove, one behind the other. -/
import Derived.Test.YtgblpibanagcgaaGreatJy13
import Derived.Test.YtgblpibanagcgaaGreatJb8
import Derived.Test.YtgblpibanagcgaaGreatJy10

namespace Go.Proofs.YtgblpibanagcgaaGreat
open Go.ChangeShapes Go.WideShapes Go.ChangeAt Go.RowKit Ieee.Own Pol Fma

theorem told_selfF {c : Nat} (hc : c < 18446744073709551616) (f : fitB c = true) : toldE c c = spanE (posW c) (posW c) 0 := by
  rw [← make_told hc hc (errS_self7 f)]
  unfold makeE
  rw [if_pos (errS_self7 f)]
set_option maxHeartbeats 4000000 in
set_option maxRecDepth 100000 in
theorem rmkF_run {c : Nat} (hc : c < 18446744073709551616) (f : fitB c = true) (w : World) : Calls Tryz.prog 36 #[.float .f64 c, .float .f64 c] w fun e w' => e = .returned (spanE (posW c) (posW c) 0) ∧ Below w.heap.size w w' := by
  have K := Lib.hid (fun w => rscheck_run c c hc hc w)
  have T := Lib.hid (fun w => told_run c c (fit_fin hc f) (fit_fin hc f) w)
  rw [errS_self7 f] at K
  rw [told_selfF hc f] at T
  have hst := @fstore
  clear f hc
  generalize posW c = u at *
  have C0 : Cls w [(w.heap.size, 0, 0), (w.heap.size + 1, c, c)] ((w.alloc (boxO 0 0)).alloc (boxO c c)) := by
    have := ((Cls.nil w).new 0 0).new c c
    simp only [List.nil_append, List.cons_append] at this
    rw [show (w.alloc (boxO 0 0)).heap.size = w.heap.size + 1 by simp] at this
    exact this
  have p0 := (C0.at_ 1 rfl).lo
  have p1 := (C0.at_ 1 rfl).hi
  unfold boxO at *
  unfold spanV spanE at *
  replace C0 := Lib.hid C0
  go_enter Tryz.func36, Tryz.ntmps36
  go_wp2_with fail
  clear p0 p1
  have C := C0.out
  clear C0
  generalize (w.alloc _).alloc _ = wr at *
  refine (K.out wr).mono ?_
  rintro _ w1 ⟨rfl, hb⟩
  have C1 := C.on hb
  clear C hb K
  go_wp2_with fail
  refine (T.out w1).mono ?_
  rintro _ w2 ⟨rfl, hb⟩
  have C2 := C1.on hb
  have c0 := (C2.at_ 0 rfl).lo
  have c1 := (C2.at_ 0 rfl).hi
  have f0 := (C2.at_ 0 rfl).f0
  have f1 := (C2.at_ 0 rfl).f1
  have B := Lib.hid C2.old
  clear C1 C2 hb T
  go_wp2_with fail
  (try simp only [Exit.inBlock, Exit.then])
  refine bodyPost_ret (v := spanE u u 0) ?_ rfl ⟨rfl, ?_⟩
  · rw [results_cell_tmp rfl]; unfold spanE; go_simp
  · exact (B.out.setCell (by show _ ≤ w.heap.size; omega) _).setCell (by show _ ≤ w.heap.size; omega) _
set_option maxHeartbeats 4000000 in
set_option maxRecDepth 100000 in
theorem rofF_run {c : Nat} (hc : c < 18446744073709551616) (f : fitB c = true) (w : World) : Calls Tryz.prog 19 #[.float .f64 c] w fun e w' => e = .returned (spanE (posW c) (posW c) 0) ∧ Below w.heap.size w w' := by
  have M := Lib.hid (fun w => rmkF_run hc f w)
  unfold spanE at *
  have hst := @fstore
  clear f hc
  generalize posW c = u at *
  have C0 : Cls w [(w.heap.size, 0, 0)] (w.alloc (boxO 0 0)) := (Cls.nil w).new 0 0
  unfold boxO at C0
  replace C0 := Lib.hid C0
  go_enter Tryz.func19, Tryz.ntmps19
  go_wp2_with fail
  have C := C0.out
  clear C0
  generalize w.alloc _ = wr at *
  refine (M.out wr).mono ?_
  rintro _ w1 ⟨rfl, hb⟩
  have C1 := C.on hb
  have c0 := (C1.at_ 0 rfl).lo
  have c1 := (C1.at_ 0 rfl).hi
  have f0 := (C1.at_ 0 rfl).f0
  have f1 := (C1.at_ 0 rfl).f1
  have B := Lib.hid C1.old
  clear C C1 hb M
  go_wp2_with fail
  (try simp only [Exit.inBlock, Exit.then])
  refine bodyPost_ret (v := spanE u u 0) ?_ rfl ⟨rfl, ?_⟩
  · rw [results_cell_tmp rfl]; unfold spanE; go_simp
  · exact (B.out.setCell (by show _ ≤ w.heap.size; omega) _).setCell (by show _ ≤ w.heap.size; omega) _

theorem abs_low {x y : Int} {k : Nat} (h : x.natAbs ≤ 2 ^ k) (e : y = -(2 ^ k)) : y ≤ x := by
  have c := two_cast k
  rw [c] at e
  omega
theorem abs_high {x y : Int} {k : Nat} (h : x.natAbs ≤ 2 ^ k) (e : y = 2 ^ k) : x ≤ y := by
  have c := two_cast k
  rw [c] at e
  omega
set_option maxHeartbeats 4000000 in
set_option maxRecDepth 100000 in
theorem rthin_run {a b : Nat} (ha : a < 18446744073709551616) (hb : b < 18446744073709551616) (e0 : errS a b = 0) (l1 : vnB a = true) (l2 : vnB b = true) (w : World) :
    Calls Tryz.prog 59 #[.agg #[.float .f64 a, .float .f64 b]] w fun e w' => e = .returned (.bool true) ∧ Below w.heap.size w w' := by
  have CK := Lib.hid (fun w => rscheck_run a b ha hb w)
  rw [e0] at CK
  unfold spanV at CK
  obtain ⟨f1, -, b1⟩ := vnB_spec ha l1
  obtain ⟨f2, -, b2⟩ := vnB_spec hb l2
  have g1 : FinW 14100770433297022976 := by unfold FinW; omega
  have g2 : FinW 4877398396442247168 := by unfold FinW; omega
  have v1 : V 14100770433297022976 = -(2 ^ 1134) := by decide +kernel
  have v2 : V 4877398396442247168 = 2 ^ 1134 := by decide +kernel
  have t1 := ge_words f1 g1
  have t2 := le_words f2 g2
  rw [decide_eq_true (abs_low b1 v1)] at t1
  rw [decide_eq_true (abs_high b2 v2)] at t2
  clear ha hb e0 l1 l2 f1 b1 f2 b2 g1 g2 v1 v2
  have K0 := kv1 w 31 [.float .f64 a, .float .f64 b]
  simp only [objV] at K0
  replace K0 := Lib.hid K0
  go_enter Tryz.func59, Tryz.ntmps59
  go_wp2_with fail
  have K := K0.out
  clear K0
  generalize w.alloc _ = wr at *
  refine (CK.out wr).mono ?_
  rintro _ v1 ⟨rfl, hb⟩
  replace K := K.on hb
  clear hb
  have c0_0 := (K.at_ 0 rfl).at_ 0 _ rfl
  have c0_1 := (K.at_ 0 rfl).at_ 1 _ rfl
  replace K := Lib.hid K
  go_wp2_with fail
  replace K := K.out
  go_ret
  exact ⟨rfl, K.old⟩
set_option maxHeartbeats 4000000 in
set_option maxRecDepth 100000 in
theorem rfitbox_shape {x1 x2 x3 x4 x5 x6 : Nat} (C0 : Hid (∀ w, Calls Tryz.prog 59 #[.agg #[.float .f64 x1, .float .f64 x2]] w fun e w' => e = .returned (.bool true) ∧ Below w.heap.size w w')) (C1 : Hid (∀ w, Calls Tryz.prog 59 #[.agg #[.float .f64 x3, .float .f64 x4]] w fun e w' => e = .returned (.bool true) ∧ Below w.heap.size w w')) (C2 : Hid (∀ w, Calls Tryz.prog 59 #[.agg #[.float .f64 x5, .float .f64 x6]] w fun e w' => e = .returned (.bool true) ∧ Below w.heap.size w w')) (w : World) : Calls Tryz.prog 37 #[.agg #[.float .f64 x1, .float .f64 x2, .float .f64 x3, .float .f64 x4, .float .f64 x5, .float .f64 x6]] w fun e w' => e = .returned (.bool true) ∧ Below w.heap.size w w' := by
  have K0 := kv1 w 33 [.float .f64 x1, .float .f64 x2, .float .f64 x3, .float .f64 x4, .float .f64 x5, .float .f64 x6]
  simp only [objV] at K0
  have hst := @fstore
  have c0_0 := (K0.at_ 0 rfl).at_ 0 _ rfl
  have c0_1 := (K0.at_ 0 rfl).at_ 1 _ rfl
  replace K0 := Lib.hid K0
  go_enter Tryz.func37, Tryz.ntmps37
  go_wp2_with fail
  have K := K0.out
  clear K0
  generalize w.alloc _ = wr at *
  refine (C0.out wr).mono ?_
  rintro _ v1 ⟨rfl, hb⟩
  clear c0_0 c0_1
  replace K := K.on hb
  clear hb
  have c0_2 := (K.at_ 0 rfl).at_ 2 _ rfl
  have c0_3 := (K.at_ 0 rfl).at_ 3 _ rfl
  replace K := Lib.hid K
  go_wp2_with fail
  replace K := K.out
  refine (C1.out v1).mono ?_
  rintro _ v2 ⟨rfl, hb⟩
  clear c0_2 c0_3
  replace K := K.on hb
  clear hb
  have c0_4 := (K.at_ 0 rfl).at_ 4 _ rfl
  have c0_5 := (K.at_ 0 rfl).at_ 5 _ rfl
  replace K := Lib.hid K
  go_wp2_with fail
  replace K := K.out
  refine (C2.out v2).mono ?_
  rintro _ v3 ⟨rfl, hb⟩
  clear c0_4 c0_5
  replace K := K.on hb
  clear hb
  replace K := Lib.hid K
  go_wp2_with fail
  replace K := K.out
  go_ret
  exact ⟨rfl, K.old⟩
set_option maxHeartbeats 4000000 in
set_option maxRecDepth 100000 in
theorem rboxed_shape {x1 x2 x3 x4 x5 x6 : Nat} (C : Hid (∀ w, Calls Tryz.prog 37 #[.agg #[.float .f64 x1, .float .f64 x2, .float .f64 x3, .float .f64 x4, .float .f64 x5, .float .f64 x6]] w fun e w' => e = .returned (.bool true) ∧ Below w.heap.size w w')) (w : World) : Calls Tryz.prog 20 #[.agg #[.float .f64 x1, .float .f64 x2], .agg #[.float .f64 x3, .float .f64 x4], .agg #[.float .f64 x5, .float .f64 x6]] w fun e w' => e = .returned (.tuple #[.agg #[.float .f64 x1, .float .f64 x2, .float .f64 x3, .float .f64 x4, .float .f64 x5, .float .f64 x6], .int .i64 0]) ∧ Below w.heap.size w w' := by
  have K0 := (kv4 w 31 31 31 33 [.float .f64 x1, .float .f64 x2] [.float .f64 x3, .float .f64 x4] [.float .f64 x5, .float .f64 x6] [.float .f64 0, .float .f64 0, .float .f64 0, .float .f64 0, .float .f64 0, .float .f64 0]).and (n := w.heap.size + 1 + 1 + 1 + 1) (by simp) 33 [.float .f64 x1, .float .f64 x2, .float .f64 x3, .float .f64 x4, .float .f64 x5, .float .f64 x6]
  simp only [objV, List.cons_append, List.nil_append] at K0
  have hst := @fstore
  have c0_0 := (K0.at_ 0 rfl).at_ 0 _ rfl
  have c0_1 := (K0.at_ 0 rfl).at_ 1 _ rfl
  have c1_0 := (K0.at_ 1 rfl).at_ 0 _ rfl
  have c1_1 := (K0.at_ 1 rfl).at_ 1 _ rfl
  have c2_0 := (K0.at_ 2 rfl).at_ 0 _ rfl
  have c2_1 := (K0.at_ 2 rfl).at_ 1 _ rfl
  have c4_0 := (K0.at_ 4 rfl).at_ 0 _ rfl
  have c4_1 := (K0.at_ 4 rfl).at_ 1 _ rfl
  have c4_2 := (K0.at_ 4 rfl).at_ 2 _ rfl
  have c4_3 := (K0.at_ 4 rfl).at_ 3 _ rfl
  have c4_4 := (K0.at_ 4 rfl).at_ 4 _ rfl
  have c4_5 := (K0.at_ 4 rfl).at_ 5 _ rfl
  replace K0 := Lib.hid K0
  go_enter Tryz.func20, Tryz.ntmps20
  go_wp2_with fail
  have K := K0.out
  clear K0
  generalize ((((w.alloc _).alloc _).alloc _).alloc _).alloc _ = wr at *
  refine (C.out wr).mono ?_
  rintro _ v1 ⟨rfl, hb⟩
  clear c0_0 c0_1 c1_0 c1_1 c2_0 c2_1 c4_0 c4_1 c4_2 c4_3 c4_4 c4_5
  replace K := K.on hb
  clear hb
  have c4_0 := (K.at_ 4 rfl).at_ 0 _ rfl
  have c4_1 := (K.at_ 4 rfl).at_ 1 _ rfl
  have c4_2 := (K.at_ 4 rfl).at_ 2 _ rfl
  have c4_3 := (K.at_ 4 rfl).at_ 3 _ rfl
  have c4_4 := (K.at_ 4 rfl).at_ 4 _ rfl
  have c4_5 := (K.at_ 4 rfl).at_ 5 _ rfl
  have c3_0 := (K.at_ 3 rfl).at_ 0 _ rfl
  have f3_0 := (K.at_ 3 rfl).fr 0 _ rfl
  have c3_1 := (K.at_ 3 rfl).at_ 1 _ rfl
  have f3_1 := (K.at_ 3 rfl).fr 1 _ rfl
  have c3_2 := (K.at_ 3 rfl).at_ 2 _ rfl
  have f3_2 := (K.at_ 3 rfl).fr 2 _ rfl
  have c3_3 := (K.at_ 3 rfl).at_ 3 _ rfl
  have f3_3 := (K.at_ 3 rfl).fr 3 _ rfl
  have c3_4 := (K.at_ 3 rfl).at_ 4 _ rfl
  have f3_4 := (K.at_ 3 rfl).fr 4 _ rfl
  have c3_5 := (K.at_ 3 rfl).at_ 5 _ rfl
  have f3_5 := (K.at_ 3 rfl).fr 5 _ rfl
  replace K := Lib.hid K
  go_wp2_with fail
  replace K := K.out
  (try simp only [Exit.inBlock, Exit.then])
  refine bodyPost_ret (v := .tuple #[.agg #[.float .f64 x1, .float .f64 x2, .float .f64 x3, .float .f64 x4, .float .f64 x5, .float .f64 x6], .int .i64 0]) ?_ rfl ⟨rfl, ?_⟩
  · rw [results_cell_tmp rfl]; go_simp
  · exact ((((((K.old).setCell (by first | exact Nat.le_refl _ | (dsimp only; omega)) _).setCell (by first | exact Nat.le_refl _ | (dsimp only; omega)) _).setCell (by first | exact Nat.le_refl _ | (dsimp only; omega)) _).setCell (by first | exact Nat.le_refl _ | (dsimp only; omega)) _).setCell (by first | exact Nat.le_refl _ | (dsimp only; omega)) _).setCell (by first | exact Nat.le_refl _ | (dsimp only; omega)) _
set_option maxHeartbeats 4000000 in
set_option maxRecDepth 100000 in
theorem rboxof_shape {v1 v2 v3 x1 x2 x3 x4 x5 x6 : Nat} (C : Hid (∀ w, Calls Tryz.prog 18 #[.agg #[.float .f64 v1, .float .f64 v2, .float .f64 v3]] w fun e w' => e = .returned (.bool true) ∧ Below w.heap.size w w')) (C0 : Hid (∀ w, Calls Tryz.prog 19 #[.float .f64 v1] w fun e w' => e = .returned (.tuple #[.agg #[.float .f64 x1, .float .f64 x2], .int .i64 0]) ∧ Below w.heap.size w w')) (C1 : Hid (∀ w, Calls Tryz.prog 19 #[.float .f64 v2] w fun e w' => e = .returned (.tuple #[.agg #[.float .f64 x3, .float .f64 x4], .int .i64 0]) ∧ Below w.heap.size w w')) (C2 : Hid (∀ w, Calls Tryz.prog 19 #[.float .f64 v3] w fun e w' => e = .returned (.tuple #[.agg #[.float .f64 x5, .float .f64 x6], .int .i64 0]) ∧ Below w.heap.size w w')) (D : Hid (∀ w, Calls Tryz.prog 20 #[.agg #[.float .f64 x1, .float .f64 x2], .agg #[.float .f64 x3, .float .f64 x4], .agg #[.float .f64 x5, .float .f64 x6]] w fun e w' => e = .returned (.tuple #[.agg #[.float .f64 x1, .float .f64 x2, .float .f64 x3, .float .f64 x4, .float .f64 x5, .float .f64 x6], .int .i64 0]) ∧ Below w.heap.size w w')) (w : World) : Calls Tryz.prog 7 #[.agg #[.float .f64 v1, .float .f64 v2, .float .f64 v3]] w fun e w' => e = .returned (.tuple #[.agg #[.float .f64 x1, .float .f64 x2, .float .f64 x3, .float .f64 x4, .float .f64 x5, .float .f64 x6], .int .i64 0]) ∧ Below w.heap.size w w' := by
  have K0 := kv2 w 25 33 [.float .f64 v1, .float .f64 v2, .float .f64 v3] [.float .f64 0, .float .f64 0, .float .f64 0, .float .f64 0, .float .f64 0, .float .f64 0]
  simp only [objV] at K0
  have hst := @fstore
  replace K0 := Lib.hid K0
  go_enter Tryz.func7, Tryz.ntmps7
  go_wp2_with fail
  have K := K0.out
  clear K0
  generalize (w.alloc _).alloc _ = wr at *
  refine (C.out wr).mono ?_
  rintro _ v1 ⟨rfl, hb⟩
  replace K := K.on hb
  clear hb
  have c0_0 := (K.at_ 0 rfl).at_ 0 _ rfl
  replace K := Lib.hid K
  go_wp2_with fail
  replace K := K.out
  refine (C0.out v1).mono ?_
  rintro _ v2 ⟨rfl, hb⟩
  clear c0_0
  replace K := K.on hb
  clear hb
  replace K := K.new 31 [.float .f64 x1, .float .f64 x2]
  simp only [objV, List.cons_append, List.nil_append] at K
  have c0_1 := (K.at_ 0 rfl).at_ 1 _ rfl
  replace K := Lib.hid K
  go_wp2_with fail
  replace K := K.out
  generalize v2.alloc _ = u2 at *
  generalize v2.heap.size = g1 at *
  refine (C1.out u2).mono ?_
  rintro _ v3 ⟨rfl, hb⟩
  clear c0_1
  replace K := K.on hb
  clear hb
  replace K := K.new 31 [.float .f64 x3, .float .f64 x4]
  simp only [objV, List.cons_append, List.nil_append] at K
  have c0_2 := (K.at_ 0 rfl).at_ 2 _ rfl
  replace K := Lib.hid K
  go_wp2_with fail
  replace K := K.out
  generalize v3.alloc _ = u3 at *
  generalize v3.heap.size = g2 at *
  refine (C2.out u3).mono ?_
  rintro _ v4 ⟨rfl, hb⟩
  clear c0_2
  replace K := K.on hb
  clear hb
  replace K := K.new 31 [.float .f64 x5, .float .f64 x6]
  simp only [objV, List.cons_append, List.nil_append] at K
  have c2_0 := (K.at_ 2 rfl).at_ 0 _ rfl
  have c2_1 := (K.at_ 2 rfl).at_ 1 _ rfl
  have c3_0 := (K.at_ 3 rfl).at_ 0 _ rfl
  have c3_1 := (K.at_ 3 rfl).at_ 1 _ rfl
  have c4_0 := (K.at_ 4 rfl).at_ 0 _ rfl
  have c4_1 := (K.at_ 4 rfl).at_ 1 _ rfl
  replace K := Lib.hid K
  go_wp2_with fail
  replace K := K.out
  generalize v4.alloc _ = u4 at *
  generalize v4.heap.size = g3 at *
  refine (D.out u4).mono ?_
  rintro _ v5 ⟨rfl, hb⟩
  clear c2_0 c2_1 c3_0 c3_1 c4_0 c4_1
  replace K := K.on hb
  clear hb
  have c1_0 := (K.at_ 1 rfl).at_ 0 _ rfl
  have f1_0 := (K.at_ 1 rfl).fr 0 _ rfl
  have c1_1 := (K.at_ 1 rfl).at_ 1 _ rfl
  have f1_1 := (K.at_ 1 rfl).fr 1 _ rfl
  have c1_2 := (K.at_ 1 rfl).at_ 2 _ rfl
  have f1_2 := (K.at_ 1 rfl).fr 2 _ rfl
  have c1_3 := (K.at_ 1 rfl).at_ 3 _ rfl
  have f1_3 := (K.at_ 1 rfl).fr 3 _ rfl
  have c1_4 := (K.at_ 1 rfl).at_ 4 _ rfl
  have f1_4 := (K.at_ 1 rfl).fr 4 _ rfl
  have c1_5 := (K.at_ 1 rfl).at_ 5 _ rfl
  have f1_5 := (K.at_ 1 rfl).fr 5 _ rfl
  replace K := Lib.hid K
  go_wp2_with fail
  replace K := K.out
  (try simp only [Exit.inBlock, Exit.then])
  refine bodyPost_ret (v := .tuple #[.agg #[.float .f64 x1, .float .f64 x2, .float .f64 x3, .float .f64 x4, .float .f64 x5, .float .f64 x6], .int .i64 0]) ?_ rfl ⟨rfl, ?_⟩
  · rw [results_cell_tmp rfl]; go_simp
  · exact ((((((K.old).setCell (by first | exact Nat.le_refl _ | (dsimp only; omega)) _).setCell (by first | exact Nat.le_refl _ | (dsimp only; omega)) _).setCell (by first | exact Nat.le_refl _ | (dsimp only; omega)) _).setCell (by first | exact Nat.le_refl _ | (dsimp only; omega)) _).setCell (by first | exact Nat.le_refl _ | (dsimp only; omega)) _).setCell (by first | exact Nat.le_refl _ | (dsimp only; omega)) _
set_option maxHeartbeats 4000000 in
set_option maxRecDepth 100000 in
/-- the box of a vector that may be -/
theorem rboxof_run {v : V3} (hv : W3 v) (fv : fitV v = true) : (W6 (ptB v) ∧ InB (qv v) (ptB v)) ∧ ∀ w, Calls Tryz.prog 7 #[vecV v] w fun e w' => e = .returned (boxE (ptB v) 0) ∧ Below w.heap.size w w' := by
  have C := fun w => rvfit_run hv w
  rw [fv] at C
  have h := fv
  unfold fitV at h
  simp only [Bool.and_eq_true] at h
  obtain ⟨s1, b1, t1⟩ := pt_ok hv.l1 h.1.1
  obtain ⟨s2, b2, t2⟩ := pt_ok hv.l2 h.1.2
  obtain ⟨s3, b3, t3⟩ := pt_ok hv.l3 h.2
  have th : ∀ {p : Pr}, Sn p 60 → fitS p = true → ∀ w, Calls Tryz.prog 59 #[.agg #[.float .f64 p.1, .float .f64 p.2]] w fun e w' => e = .returned (.bool true) ∧ Below w.heap.size w w' := fun {p} sp fp w => by
    unfold fitS at fp
    simp only [Bool.and_eq_true, decide_eq_true_eq] at fp
    exact rthin_run sp.l1 sp.l2 sp.ok fp.1.2 fp.2 w
  refine ⟨⟨⟨s1.w2, s2.w2, s3.w2⟩, ?_, ?_, ?_⟩, fun w => ?_⟩
  · show In (Q v.1) (ps (ptS7 v.1)); rw [b1]; exact ⟨Rat.le_refl, Rat.le_refl⟩
  · show In (Q v.2.1) (ps (ptS7 v.2.1)); rw [b2]; exact ⟨Rat.le_refl, Rat.le_refl⟩
  · show In (Q v.2.2) (ps (ptS7 v.2.2)); rw [b3]; exact ⟨Rat.le_refl, Rat.le_refl⟩
  · have d1 := fun w => rofF_run hv.l1 (vnB_spec hv.l1 h.1.1).2.1 w
    have d2 := fun w => rofF_run hv.l2 (vnB_spec hv.l2 h.1.2).2.1 w
    have d3 := fun w => rofF_run hv.l3 (vnB_spec hv.l3 h.2).2.1 w
    have B := fun w => rboxed_shape (Lib.hid fun w => rfitbox_shape (Lib.hid (th s1 t1)) (Lib.hid (th s2 t2)) (Lib.hid (th s3 t3)) w) w
    exact rboxof_shape (Lib.hid C) (Lib.hid d1) (Lib.hid d2) (Lib.hid d3) (Lib.hid B) w
end Go.Proofs.YtgblpibanagcgaaGreat

namespace Go.Proofs.YtgblpibanagcgaaGreat
open Go.ChangeShapes Go.WideShapes Go.ChangeAt Go.RowKit Ieee.Own Pol Fma

theorem trig_off {x s c : Nat} (A : Ang x) (T : Trig x s c) : mag (Q (bW s) - SQ x) ≤ 9 * uR ∧ mag (Q (bW c) - CQ x) ≤ 9 * uR ∧ mag (SQ x) ≤ 1 ∧ mag (CQ x) ≤ 1 := by
  obtain ⟨r, R⟩ := rst_ex A
  obtain ⟨q1, q2⟩ := SQ_of R
  obtain ⟨n1, n2⟩ := trig_true A T R
  have bd := (R.rest A).Q_bd
  have tp := Ply.top_mul bd.1 bd.2
  have o1 := Ply.sq_le_one tp.1 tp.2 (kq eig (V x))
  have o2 := Ply.sq_le_one tp.1 tp.2 (kq eig (V x) + 1)
  rw [q1, q2]
  have k : sm + 8 * uR ≤ 9 * uR := by decide +kernel
  exact ⟨Rat.le_trans n1 k, Rat.le_trans n2 k, mag_of o1.1 o1.2, mag_of o2.1 o2.2⟩
theorem poly_turn {x y p q e d A : Rat} (hx : x ≤ A) (hy : y ≤ A) (e0 : 0 ≤ e) (h : p ≤ e * x + e * y) (h2 : q ≤ d + d) : p + q ≤ 2 * (e * A) + 2 * d := by
  have a := Rat.mul_le_mul_of_nonneg_left hx e0
  have b := Rat.mul_le_mul_of_nonneg_left hy e0
  grind
/-- a turn by the words, beside the true turn of a point nearby -/
theorem turn_off {a : Int} {s c S C e A d : Rat} {v p : R3} (hs : mag (s - S) ≤ e) (hc : mag (c - C) ≤ e) (h1 : mag S ≤ 1) (h2 : mag C ≤ 1) (hA : mag v.1 ≤ A ∧ mag v.2.1 ≤ A ∧ mag v.2.2 ≤ A)
    (hd : mag (v.1 - p.1) ≤ d ∧ mag (v.2.1 - p.2.1) ≤ d ∧ mag (v.2.2 - p.2.2) ≤ d) :
    mag ((rotQ a s c v).1 - (rotQ a S C p).1) ≤ 2 * (e * A) + 2 * d ∧ mag ((rotQ a s c v).2.1 - (rotQ a S C p).2.1) ≤ 2 * (e * A) + 2 * d ∧ mag ((rotQ a s c v).2.2 - (rotQ a S C p).2.2) ≤ 2 * (e * A) + 2 * d := by
  have e0 : 0 ≤ e := Rat.le_trans (mag_le _).2.2 hs
  have d0 : 0 ≤ d := Rat.le_trans (mag_le _).2.2 hd.1
  have A0 : 0 ≤ A := Rat.le_trans (mag_le _).2.2 hA.1
  have minus : ∀ {x y x' y' : Rat}, mag x ≤ A → mag y ≤ A → mag (x - x') ≤ d → mag (y - y') ≤ d → mag (c * x - s * y - (C * x' - S * y')) ≤ 2 * (e * A) + 2 * d := fun {x y x' y'} hx hy dx dy => by
    have a := mag_sub (mag_mul hc (show mag x ≤ mag x from Rat.le_refl)) (mag_mul hs (show mag y ≤ mag y from Rat.le_refl))
    have b := mag_sub (mag_mul h2 dx) (mag_mul h1 dy)
    have t := mag_add a b
    have q : (c - C) * x - (s - S) * y + (C * (x - x') - S * (y - y')) = c * x - s * y - (C * x' - S * y') := by grind
    rw [q] at t
    refine Rat.le_trans t (poly_turn hx hy e0 Rat.le_refl ?_)
    have : 1 * d + 1 * d = d + d := by grind
    rw [this]; exact Rat.le_refl
  have plus : ∀ {x y x' y' : Rat}, mag x ≤ A → mag y ≤ A → mag (x - x') ≤ d → mag (y - y') ≤ d → mag (s * x + c * y - (S * x' + C * y')) ≤ 2 * (e * A) + 2 * d := fun {x y x' y'} hx hy dx dy => by
    have a := mag_add (mag_mul hs (show mag x ≤ mag x from Rat.le_refl)) (mag_mul hc (show mag y ≤ mag y from Rat.le_refl))
    have b := mag_add (mag_mul h1 dx) (mag_mul h2 dy)
    have t := mag_add a b
    have q : (s - S) * x + (c - C) * y + (S * (x - x') + C * (y - y')) = s * x + c * y - (S * x' + C * y') := by grind
    rw [q] at t
    refine Rat.le_trans t (poly_turn hx hy e0 Rat.le_refl ?_)
    have : 1 * d + 1 * d = d + d := by grind
    rw [this]; exact Rat.le_refl
  have same : ∀ {x x' : Rat}, mag (x - x') ≤ d → mag (x - x') ≤ 2 * (e * A) + 2 * d := fun {x x'} h => by
    have := Rat.mul_nonneg e0 A0
    refine Rat.le_trans h ?_
    grind
  obtain ⟨a1, a2, a3⟩ := hA
  obtain ⟨d1, d2, d3⟩ := hd
  unfold rotQ
  split
  · exact ⟨same d1, minus a2 a3 d2 d3, plus a2 a3 d2 d3⟩
  · split
    · exact ⟨plus a3 a1 d3 d1, same d2, minus a3 a1 d3 d1⟩
    · exact ⟨minus a1 a2 d1 d2, plus a1 a2 d1 d2, same d3⟩
/-- one frame up, beside the true move of a point nearby -/
theorem up_hold {f : Fr} {d : Nat} {v w : V3} (h : FrA f d) (hv : W3 v) (e : upR f d v = (w, 0)) {A R δ : Rat} {p : R3} (hA : Len (qv v) A) (hR : A ≤ R) (hO : o1n f ≤ R) (hp : Off3 v p δ) : Off3 w (upQ f d p) (2 * δ + (50 * (uR * R) + 3 * sm)) := by
  obtain ⟨x, er⟩ := ang_w h.a
  obtain ⟨t1, t2, t3, t4⟩ := trig_off (errA_ang x er) (trig_of x er)
  obtain ⟨-, -, -, O⟩ := up_off h hv e hA
  obtain ⟨r1, r2, r3⟩ := turn_off (a := f.ax) t1 t2 t3 t4 hA.mags ⟨hp.x, hp.y, hp.z⟩
  have u0 := uR0
  have k1 := Rat.mul_le_mul_of_nonneg_left hR u0
  have k2 := Rat.mul_le_mul_of_nonneg_left hO u0
  have k3 := Rat.mul_nonneg u0 hA.1
  have fin : ∀ {w o r r' : Rat}, mag (w - (o + r)) ≤ 30 * (uR * A) + uR * o1n f + 3 * sm → mag (r - r') ≤ 2 * (9 * uR * A) + 2 * δ → mag (w - (o + r')) ≤ 2 * δ + (50 * (uR * R) + 3 * sm) := fun {w o r r'} a b => by
    have t := mag_add a b
    have q : w - (o + r) + (r - r') = w - (o + r') := by grind
    rw [q] at t
    refine Rat.le_trans t ?_
    clear t a b
    generalize o1n f = oo at *
    generalize uR = u at *
    generalize sm = s at *
    grind
  exact ⟨fin O.x r1, fin O.y r2, fin O.z r3⟩
def pw : Nat → Rat
  | 0 => 1
  | n + 1 => 2 * pw n
theorem pw_pos : ∀ n, 1 ≤ pw n
  | 0 => Rat.le_refl
  | n + 1 => by have := pw_pos n; show 1 ≤ 2 * pw n; grind
theorem pw_mono : ∀ n m, n ≤ m → pw n ≤ pw m
  | 0, m, _ => pw_pos m
  | n + 1, 0, h => absurd h (by omega)
  | n + 1, m + 1, h => by have := pw_mono n m (by omega); show 2 * pw n ≤ 2 * pw m; grind
theorem hold_all {L : List Fr} {d : Nat} {R : Rat} (R0 : 0 ≤ R) : ∀ (js : List Nat) (v w : V3) (p : R3) (A δ : Rat), 0 ≤ δ → (∀ j ∈ js, FrA (frAt L j) d) → W3 v → fitV v = true → Len (qv v) A → A + sumO L js + (js.length : Rat) * gg R ≤ R → Off3 v p δ →
    rootF L d js v = (w, 0) → W3 w ∧ fitV w = true ∧ Off3 w (rootQ L d js p) (pw js.length * (δ + (50 * (uR * R) + 3 * sm)))
  | [], v, w, p, A, δ, _, _, hv, fv, _, _, ho, h => by
    have e1 : v = w := congrArg Prod.fst h
    subst e1
    refine ⟨hv, fv, ?_⟩
    have u0 := Rat.mul_nonneg uR0 R0
    have s0 := sm0
    have k : δ ≤ pw 0 * (δ + (50 * (uR * R) + 3 * sm)) := by
      show δ ≤ 1 * (δ + (50 * (uR * R) + 3 * sm))
      generalize uR * R = u at *
      generalize sm = s at *
      grind
    exact ⟨Rat.le_trans ho.x k, Rat.le_trans ho.y k, Rat.le_trans ho.z k⟩
  | j :: js, v, w, p, A, δ, δ0, hF, hv, fv, hA, hb, ho, h => by
    have F := hF j (List.mem_cons_self ..)
    have o0 := o1n_nn (frAt L j)
    have so0 := sumO_nn L js
    have u0 := Rat.mul_nonneg uR0 R0
    have s0 := sm0
    have g0 : 0 ≤ gg R := by
      unfold gg
      generalize uR * R = u at *
      generalize sm = s at *
      grind
    have nc : (((j :: js).length : Nat) : Rat) = (js.length : Rat) + 1 := by
      rw [List.length_cons, Rat.natCast_add]; rfl
    have n0 : (0 : Rat) ≤ (js.length : Rat) := Rat.natCast_nonneg
    rw [nc] at hb
    have hb : A + (o1n (frAt L j) + sumO L js) + ((js.length : Rat) + 1) * gg R ≤ R := hb
    have ng := Rat.mul_nonneg n0 g0
    have hAR : A ≤ R := by grind
    have hOR : o1n (frAt L j) ≤ R := by have := hA.1; grind
    unfold rootF at h
    by_cases c1 : (upR (frAt L j) d v).2 = 0
    · rw [if_pos c1] at h
      obtain ⟨v', hv'⟩ : ∃ v', upR (frAt L j) d v = (v', 0) := ⟨_, by rw [← c1]⟩
      rw [hv'] at h
      obtain ⟨-, fv', W', -⟩ := up_off F hv hv' hA
      have L' : Len (qv v') (A + o1n (frAt L j) + gg R) := up_len F hv hv' hA hAR hOR
      have H := up_hold F hv hv' hA hAR hOR ho
      have δ1 : 0 ≤ 2 * δ + (50 * (uR * R) + 3 * sm) := by
        generalize uR * R = u at *
        generalize sm = s at *
        grind
      obtain ⟨Ww, fw, OO⟩ := hold_all R0 js v' w (upQ (frAt L j) d p) _ _ δ1 (fun k hk => hF k (List.mem_cons_of_mem _ hk)) W' fv' L' (by grind) H h
      refine ⟨Ww, fw, ?_⟩
      have k : pw js.length * (2 * δ + (50 * (uR * R) + 3 * sm) + (50 * (uR * R) + 3 * sm)) = pw (j :: js).length * (δ + (50 * (uR * R) + 3 * sm)) := by
        show _ = (2 * pw js.length) * _
        generalize pw js.length = q
        generalize uR * R = u at *
        generalize sm = s at *
        grind
      rw [k] at OO
      exact OO
    · rw [if_neg c1] at h
      exact absurd (congrArg Prod.snd h) c1
theorem poly_hold {u s Y n Qs Ql R : Rat} (u0 : 0 ≤ u) (u1 : 1000000000000 * u ≤ 1) (s0 : 0 ≤ s) (Y0 : 0 ≤ Y) (n1 : n ≤ 65536) (hR : R = 2 * Y + 4000 * s) (h1 : (1 - 70 * u) * Y ≤ Qs) (h2 : (1 - 2 * u) * (Qs * mkRat 1 256) + (1 - u) * (1048576 * s) ≤ Ql) : n * (0 + (50 * (u * R) + 3 * s)) ≤ Ql := by
  subst hR
  have e : mkRat 1 256 = 1 / 256 := by decide +kernel
  rw [e] at h2
  have H0 : 0 ≤ 50 * (u * (2 * Y + 4000 * s)) + 3 * s := by
    have := Rat.mul_nonneg u0 (show 0 ≤ 2 * Y + 4000 * s by grind)
    grind
  have a := Rat.mul_nonneg (show 0 ≤ 65536 - n by grind) H0
  have c1 := Rat.mul_nonneg Y0 (show 0 ≤ 1 - 1000000000000 * u by grind)
  have c3 := Rat.mul_nonneg s0 (show 0 ≤ 1 - 1000000000000 * u by grind)
  have d1 := Rat.mul_le_mul_of_nonneg_left h1 (show 0 ≤ 1 - 2 * u by grind)
  have uY := Rat.mul_nonneg u0 Y0
  have uuY := Rat.mul_nonneg u0 uY
  have us := Rat.mul_nonneg u0 s0
  refine Rat.le_trans ?_ h2
  have g1 : n * (0 + (50 * (u * (2 * Y + 4000 * s)) + 3 * s)) ≤ 65536 * (50 * (u * (2 * Y + 4000 * s)) + 3 * s) := by grind
  refine Rat.le_trans g1 ?_
  have e1 : 65536 * (50 * (u * (2 * Y + 4000 * s)) + 3 * s) = 6553600 * (u * Y) + 13107200000 * (u * s) + 196608 * s := by grind
  rw [e1]
  have e2 : (1 - 2 * u) * ((1 - 70 * u) * Y) = Y - 72 * (u * Y) + 140 * (u * (u * Y)) := by grind
  rw [e2] at d1
  have e3 : (1 - 2 * u) * (Qs * (1 / 256)) = (1 - 2 * u) * Qs * (1 / 256) := by grind
  rw [e3]
  have e4 : Y * (1 - 1000000000000 * u) = Y - 1000000000000 * (u * Y) := by grind
  rw [e4] at c1
  have e5 : s * (1 - 1000000000000 * u) = s - 1000000000000 * (u * s) := by grind
  rw [e5] at c3
  have e6 : (1 - u) * (1048576 * s) = 1048576 * s - 1048576 * (u * s) := by grind
  rw [e6]
  clear a H0 g1 e1 e2 e3 e4 e5 e6 h1 h2 n1 e
  generalize (1 - 2 * u) * Qs = q at *
  generalize u * (u * Y) = y2 at *
  generalize u * Y = y1 at *
  generalize u * s = s1 at *
  grind
set_option maxRecDepth 100000 in
/-- a number beside a span -/
theorem off_lim {p : Pr} {y lm : Nat} {z e : Rat} (S : Sn p 63) (hy : Wd y 822 1134) (fl : FinW lm) (i : In z (ps p)) (h : mag (Q y - z) ≤ e) (hl : e ≤ Q lm) :
    ∃ o, ((FloatKind.f64.format.order o lm == some Ordering.lt || FloatKind.f64.format.order o lm == some Ordering.eq) = true) ∧ ∀ w, Calls Tryz.prog 24 #[.agg #[.float .f64 p.1, .float .f64 p.2], .float .f64 y] w fun e w' => e = .returned (.float .f64 o) ∧ Below w.heap.size w w' := by
  obtain ⟨f1, f2, -⟩ := S.fits
  obtain ⟨b1, b2⟩ := S.bd
  obtain ⟨a1, a2, a0⟩ := mag_le (Q y - z)
  have i1 : Q p.1 ≤ z := i.1
  have i2 : z ≤ Q p.2 := i.2
  have e1 := diff_le7 (a := p.1) (b := y) (c := lm) (by grind)
  have e2 := diff_le7 (a := y) (b := p.2) (c := lm) (by grind)
  have n0 : 0 ≤ V lm := by
    have := (Q_le (a := 0) (b := lm)).1 (by rw [Q0]; exact Rat.le_trans a0 (Rat.le_trans h hl))
    rwa [V_zero] at this
  obtain ⟨o, fo, ho, C⟩ := off_any (fit_fin S.l1 f1) (fit_fin S.l2 f2) hy.fin (abs_up (k := 1074 + 63) (l := 1400) b1 (by omega)) (abs_up (k := 1074 + 63) (l := 1400) b2 (by omega)) (abs_up (k := 1134) (l := 1400) hy.abs (by omega))
  have le := ho _ n0 e1 e2
  rw [RN_exact (Rep_V _)] at le
  have w := le_words fo fl
  rw [decide_eq_true le] at w
  exact ⟨o, w, C⟩
structure HoldN (L : List Fr) (v w : V3) (P : B6) : Prop where
  len : L.length ≤ 16
  og : ∀ f ∈ L, OgOk f
  d : D3 v
  q : Ieee.double.div (scF L (szW v)) p8w = some (qX (scF L (szW v)) p8w)
  a : Ieee.double.add (qX (scF L (szW v)) p8w) c180w = some (limG (scF L (szW v)) p8w)
  run : ∀ W, Calls Tryz.prog 9 #[boxV P, vecV w, .float .f64 (limG (scF L (szW v)) p8w)] W fun e w' => e = .returned (.bool true) ∧ Below W.heap.size W w'
theorem rbox_zero {L : List Fr} {i : Int} {t : Pr} {b P : B6} (h : rboxR L i t b = (P, 0)) : readyF L i (timB t) = 0 ∧ ∃ b', stB b = (b', 0) ∧ rboxF L t (way L i) b' = (P, 0) := by
  unfold rboxR at h
  by_cases c : readyF L i (timB t) = 0
  · rw [if_pos c] at h
    by_cases e : (stB b).2 = 0
    · rw [if_pos e] at h
      exact ⟨c, _, by rw [← e], h⟩
    · rw [if_neg e] at h
      exact absurd (congrArg Prod.snd h) e
  · rw [if_neg c] at h
    exact absurd (congrArg Prod.snd h) c
/-- the root's box holds what is moved truly -/
theorem rboxR_has {L : List Fr} {i : Int} {t : Pr} {b P : B6} (hW : FsW L) (ht : W2 t) (hb : W6 b) (h : rboxR L i t b = (P, 0)) {d : Nat} (hd : d < 18446744073709551616) (td : witB g24 d = true) (l1 : V t.1 ≤ V d) (l2 : V d ≤ V t.2) {p : R3} (ip : InB p b) :
    InB (rootQ L d (way L i) p) P ∧ Sn3 P 63 := by
  obtain ⟨hr, b', eb, r⟩ := rbox_zero h
  obtain ⟨c0, i1, i2, tt⟩ := readyF_zero hr
  have ok := FsOk.of hW c0
  have WL := way_lt ok L.length i i2 i2
  have ST := stB_spec hb
  rw [eb] at ST
  obtain ⟨S3, H⟩ := ST.has rfl
  have := rbox_has hd td l1 l2 ht tt (way L i) b' p (fun j hj => ⟨ok.fw (WL j hj).1, _, ok.ok j (WL j hj).1⟩) ST.w S3 (H p ip) (by rw [r])
  rw [r] at this
  exact this
set_option maxHeartbeats 4000000 in
set_option maxRecDepth 100000 in
theorem frame_holds {L : List Fr} {i : Int} {d : Nat} {v w : V3} {P : B6} (hW : FsW L) (hd : d < 18446744073709551616) (hv : W3 v) (h1 : rootR L i d v = (w, 0)) (h2 : rboxR L i (d, d) (ptB v) = (P, 0)) : HoldN L v w P := by
  obtain ⟨hr, v', ev, r1⟩ := root_zero h1
  obtain ⟨c0, i1, i2, tt⟩ := readyF_zero hr
  have ok := FsOk.of hW c0
  have WL := way_lt ok L.length i i2 i2
  have FA : ∀ j ∈ way L i, FrA (frAt L j) d := fun j hj => by
    have hl := (WL j hj).1
    have k := ok.ok j hl
    exact ⟨ok.fw hl, k.ax0, k.ax1, ang_a (ok.fw hl) hd k.ph k.rt tt⟩
  obtain ⟨fv, Wv', qv'⟩ := plus_zero hv ev
  have fv' : fitV v' = true := by
    have := (add_okR (a := v) (b := z3) (by rw [ev])).2.2.2
    rwa [ev] at this
  have DV := fitV_wd hv fv
  have hO : ∀ f ∈ L, OgOk f := fun f hf => by
    obtain ⟨j, hj, e⟩ := List.getElem_of_mem hf
    have e1 : frAt L j = f := by unfold frAt; simp [List.getD, hj, e]
    rw [← e1]
    exact og_ok (ok.fw hj) (ok.ok j hj)
  have z0 := sz3_posF v
  have t0 := sumL_nn L
  have u0 := uR0
  have u1 : 1000000 * uR ≤ 1 := by decide +kernel
  have u2 : 1000000000000 * uR ≤ 1 := by decide +kernel
  have s0 := sm0
  have S0 : 0 ≤ sz3 v + sumL L := Rat.add_nonneg z0 t0
  have n16 : (way L i).length ≤ 16 := by
    have := way_len ok L.length i i1 i2 i2
    have := ok.len
    omega
  have n1 : ((way L i).length : Rat) ≤ 16 := by exact_mod_cast n16
  have LV : Len (qv v') (sz3 v) := by
    rw [qv']
    exact len_of (p := qv v) Rat.le_refl Rat.le_refl Rat.le_refl
  have SO : sumO L (way L i) ≤ sumL L := by
    have a := sumO_way ok L.length i i1 i2 i2
    have b := sumL_mono (L := L) L.length (i + 1).toNat (by omega) (Nat.le_refl _)
    rw [List.take_length] at b
    exact Rat.le_trans a b
  have hb : sz3 v + sumO L (way L i) + ((way L i).length : Rat) * gg (2 * (sz3 v + sumL L) + 4000 * sm) ≤ 2 * (sz3 v + sumL L) + 4000 * sm := by
    have := poly_R u0 u1 s0 S0 n1
    unfold gg
    refine Rat.le_trans (Rat.add_le_add_right.2 (Rat.add_le_add_left.2 SO)) this
  have R0 : 0 ≤ 2 * (sz3 v + sumL L) + 4000 * sm := by
    generalize sz3 v + sumL L = x at *
    generalize sm = s at *
    grind
  have O0 : Off3 v' (qv v) 0 := by
    have e : ∀ x : Rat, mag (x - x) ≤ 0 := fun x => by
      have : x - x = 0 := by grind
      rw [this]; exact mag0
    have q1 : Q v'.1 = Q v.1 := congrArg Prod.fst qv'
    have q2 : Q v'.2.1 = Q v.2.1 := congrArg (fun p => p.2.1) qv'
    have q3 : Q v'.2.2 = Q v.2.2 := congrArg (fun p => p.2.2) qv'
    refine ⟨?_, ?_, ?_⟩
    · rw [q1]; exact e _
    · rw [q2]; exact e _
    · rw [q3]; exact e _
  obtain ⟨Ww, fw, OW⟩ := hold_all R0 (way L i) v' w (qv v) (sz3 v) 0 Rat.le_refl FA Wv' fv' LV hb O0 r1
  obtain ⟨⟨Wp, Ip⟩, -⟩ := rboxof_run hv fv
  obtain ⟨IP, SP⟩ := rboxR_has hW ⟨hd, hd⟩ Wp h2 hd tt (Int.le_refl _) (Int.le_refl _) Ip
  obtain ⟨WS, QS0, QS⟩ := sc_low ok.len hO DV
  obtain ⟨o1, o2, fl, ql⟩ := lim_gen dvs8 WS QS0
  have pw16 : pw (way L i).length ≤ 65536 := by
    have := pw_mono _ _ n16
    have e : pw 16 = 65536 := by decide +kernel
    rwa [e] at this
  have PL := poly_hold u0 u2 s0 S0 pw16 rfl QS ql
  have DW := fitV_wd Ww fw
  obtain ⟨a1, l1, C1⟩ := off_lim SP.x DW.w1 fl IP.1 OW.x PL
  obtain ⟨a2, l2, C2⟩ := off_lim SP.y DW.w2 fl IP.2.1 OW.y PL
  obtain ⟨a3, l3, C3⟩ := off_lim SP.z DW.w3 fl IP.2.2 OW.z PL
  exact ⟨ok.len, hO, DV, o1, o2, fun W => beside_run (Lib.hid C1) (Lib.hid C2) (Lib.hid C3) l1 l2 l3 W⟩
end Go.Proofs.YtgblpibanagcgaaGreat
