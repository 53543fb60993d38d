/- Proved here: what the texts Upa, Usn, Uhf prove, one behind the other. -/
import Derived.Test.YtdfcchocabapkaaGreatJb8

set_option maxRecDepth 100000
set_option maxHeartbeats 4000000
namespace Go.Proofs.YtdfcchocabapkaaGreat
open Go.ChangeShapes Go.WideShapes Go.ChangeAt Go.RowKit Ieee.Own

theorem Blk.put1 {w : World} {g x y : Nat} (b : Blk w g x y) (t : Nat) : Blk (w.setCell ⟨g, 1, none⟩ (.float .f64 t)) g x t := by
 refine ⟨by simpa using b.lt, ?_, World.cell?_setCell_same _ _ _ b.hi, ?_, ?_⟩
 · rw [World.cell?_setCell_other _ _ _ _ (by simp)]; exact b.lo
 · rw [World.frozen?_setCell]; exact b.f0
 · rw [World.frozen?_setCell]; exact b.f1
theorem Blk.put0 {w : World} {g x y : Nat} (b : Blk w g x y) (s : Nat) : Blk (w.setCell ⟨g, 0, none⟩ (.float .f64 s)) g s y := by
 refine ⟨by simpa using b.lt, World.cell?_setCell_same _ _ _ b.lo, ?_, ?_, ?_⟩
 · rw [World.cell?_setCell_other _ _ _ _ (by simp)]; exact b.hi
 · rw [World.frozen?_setCell]; exact b.f0
 · rw [World.frozen?_setCell]; exact b.f1
theorem Blk.set_other {w : World} {g h x y : Nat} (b : Blk w g x y) (hg : g ≠ h) (o : Nat) (v : Value) : Blk (w.setCell ⟨h, o, none⟩ v) g x y := by
 have ne : ∀ i, (⟨h, o, none⟩ : Addr) ≠ ⟨g, i, none⟩ := fun i e => hg (by cases e; rfl)
 refine ⟨by simpa using b.lt, ?_, ?_, ?_, ?_⟩
 · rw [World.cell?_setCell_other _ _ _ _ (ne 0)]; exact b.lo
 · rw [World.cell?_setCell_other _ _ _ _ (ne 1)]; exact b.hi
 · rw [World.frozen?_setCell]; exact b.f0
 · rw [World.frozen?_setCell]; exact b.f1
theorem Cls.set_one {w0 w : World} {L : List (Nat × Nat × Nat)} (C : Cls w0 L w) (j : Nat) {g x y : Nat} (hj : L[j]? = some (g, x, y)) (o : Nat) (v : Value) {s t : Nat} (hb : Blk (w.setCell ⟨g, o, none⟩ v) g s t) : Cls w0 (L.set j (g, s, t)) (w.setCell ⟨g, o, none⟩ v) := by
 have hl := (List.getElem?_eq_some_iff.1 hj).1
 have hg := C.blk j g x y hj
 refine ⟨C.old.setCell hg.1 _, fun k h p q hk => ?_, fun i k h p q u v hi hk => ?_⟩
 · by_cases hjk : j = k
   · subst hjk
     rw [List.getElem?_set_self hl] at hk
     simp at hk
     obtain ⟨rfl, rfl, rfl⟩ := hk
     exact ⟨hg.1, hb⟩
   · rw [List.getElem?_set_ne hjk] at hk
     refine ⟨(C.blk k h p q hk).1, (C.blk k h p q hk).2.set_other (fun e => ?_) _ _⟩
     subst e
     exact hjk (C.inj j k _ _ _ _ _ hj hk)
 · have back : ∀ n p q, (L.set j (g, s, t))[n]? = some (h, p, q) → ∃ p' q', L[n]? = some (h, p', q') := fun n p q hn => by
    by_cases hjn : j = n
    · subst hjn
      rw [List.getElem?_set_self hl] at hn
      simp at hn
      rw [← hn.1]
      exact ⟨_, _, hj⟩
    · rw [List.getElem?_set_ne hjn] at hn; exact ⟨_, _, hn⟩
   obtain ⟨p1, q1, h1⟩ := back i p q hi
   obtain ⟨p2, q2, h2⟩ := back k u v hk
   exact C.inj i k h _ _ _ _ h1 h2
theorem Cls.put1 {w0 w : World} {L : List (Nat × Nat × Nat)} (C : Cls w0 L w) (j : Nat) {g x y : Nat} (hj : L[j]? = some (g, x, y)) (t : Nat) : Cls w0 (L.set j (g, x, t)) (w.setCell ⟨g, 1, none⟩ (.float .f64 t)) := C.set_one j hj 1 _ ((C.at_ j hj).put1 t)
theorem Cls.put0 {w0 w : World} {L : List (Nat × Nat × Nat)} (C : Cls w0 L w) (j : Nat) {g x y : Nat} (hj : L[j]? = some (g, x, y)) (s : Nat) : Cls w0 (L.set j (g, s, y)) (w.setCell ⟨g, 0, none⟩ (.float .f64 s)) := C.set_one j hj 0 _ ((C.at_ j hj).put0 s)

def errT (a b : Nat) : Int := if errS a b ≠ 0 then errS a b else if errA a ≠ 0 then errA a else errA b
theorem ucheckspan_run {a b : Nat} (ha : a < 18446744073709551616) (hb : b < 18446744073709551616) (w : World) :
 Calls Tryz.prog 117 #[spanV a b] w fun e w' => e = .returned (.int .i64 (errT a b)) ∧ Below w.heap.size w w' := by
 have K1 := Lib.hid (fun w => scheck_run a b ha hb w)
 have K2 := fun w => ucheck_run a ha w
 have K3 := fun w => ucheck_run b hb w
 have C0 : Cls w [(w.heap.size, a, b)] (w.alloc (boxO a b)) := (Cls.nil w).new a b
 unfold boxO at C0
 unfold spanV at *
 unfold errT
 clear ha hb
 generalize errS a b = e1 at *
 generalize errA a = e2 at *
 generalize errA b = e3 at *
 replace C0 := Lib.hid C0
 by_cases c1 : e1 = 0
 · rw [if_neg (by omega)]
   have t1 : (e1 != 0) = false := by simpa using c1
   by_cases c2 : e2 = 0
   · rw [if_neg (by omega)]
     have t2 : (e2 != 0) = false := by simpa using c2
     clear c1 c2
     go_enter Tryz.func117, Tryz.ntmps117
     go_wp2_with fail
     have C := C0.out
     clear C0
     generalize w.alloc _ = wr at *
     refine (K1.out wr).mono ?_
     rintro _ w1 ⟨rfl, hb⟩
     have C1 := C.on hb
     have p0 := (C1.at_ 0 rfl).lo
     have p1 := (C1.at_ 0 rfl).hi
     have B := Lib.hid C1.old
     clear C C1 hb K1
     go_wp2_with (first | (go_at_call 91; ((with_reducible refine (K2 _).mono ?_); rintro e w' ⟨rfl, rfl⟩)) | (go_at_call 91; ((with_reducible refine (K3 _).mono ?_); rintro e w' ⟨rfl, rfl⟩)))
     go_ret
     exact ⟨rfl, B.out⟩
   · rw [if_pos c2]
     have t2 : (e2 != 0) = true := by simpa using c2
     clear c1 c2
     go_enter Tryz.func117, Tryz.ntmps117
     go_wp2_with fail
     have C := C0.out
     clear C0
     generalize w.alloc _ = wr at *
     refine (K1.out wr).mono ?_
     rintro _ w1 ⟨rfl, hb⟩
     have C1 := C.on hb
     have p0 := (C1.at_ 0 rfl).lo
     have p1 := (C1.at_ 0 rfl).hi
     have B := Lib.hid C1.old
     clear C C1 hb K1
     go_wp2_with (first | (go_at_call 91; ((with_reducible refine (K2 _).mono ?_); rintro e w' ⟨rfl, rfl⟩)) | (go_at_call 91; ((with_reducible refine (K3 _).mono ?_); rintro e w' ⟨rfl, rfl⟩)))
     go_ret
     exact ⟨rfl, B.out⟩
 · rw [if_pos c1]
   have t1 : (e1 != 0) = true := by simpa using c1
   clear c1
   go_enter Tryz.func117, Tryz.ntmps117
   go_wp2_with fail
   have C := C0.out
   clear C0
   generalize w.alloc _ = wr at *
   refine (K1.out wr).mono ?_
   rintro _ w1 ⟨rfl, hb⟩
   have C1 := C.on hb
   have p0 := (C1.at_ 0 rfl).lo
   have p1 := (C1.at_ 0 rfl).hi
   have B := Lib.hid C1.old
   clear C C1 hb K1
   go_wp2_with (first | (go_at_call 91; ((with_reducible refine (K2 _).mono ?_); rintro e w' ⟨rfl, rfl⟩)) | (go_at_call 91; ((with_reducible refine (K3 _).mono ?_); rintro e w' ⟨rfl, rfl⟩)))
   go_ret
   exact ⟨rfl, B.out⟩

def topN (x : Nat) : Int := -(-(4 * V x) / 2 ^ 1074)
def botN (x : Nat) : Int := 4 * V x / 2 ^ 1074
def passB (a b : Nat) (k : Int) : Bool := decide (topN a + (k - topN a) % 4 ≤ botN b)
theorem pow_le_div {z : Int} {m D M : Nat} (hM : M = m + D) (h : z.natAbs ≤ 2 ^ M) : (z / 2 ^ D).natAbs ≤ 2 ^ m + 1 := by
 subst hM
 have P : (0 : Int) < 2 ^ D := Int.pow_pos (by omega)
 have c := pw_cast h
 have e : (2 : Int) ^ (m + D) = 2 ^ m * 2 ^ D := Int.pow_add ..
 rw [e] at c
 have l : -(2 ^ m) ≤ z / 2 ^ D := by
  rw [Int.le_ediv_iff_mul_le P, Int.neg_mul]; exact c.1
 have u : z / 2 ^ D ≤ 2 ^ m := by
  have := Int.ediv_le_ediv P c.2
  rwa [Int.mul_ediv_cancel _ (Int.ne_of_gt P)] at this
 have q : ((2 : Int) ^ m).natAbs = 2 ^ m := Int.natAbs_pow 2 m
 omega
theorem four_small {x : Nat} (h : Ang x) : (4 * V x).natAbs ≤ 2 ^ 1116 := by
 have a := h.abs
 have b := two_dbl (m := 1114) (n := 1115) (by omega)
 have c := two_dbl (m := 1115) (n := 1116) (by omega)
 omega
theorem top_small {x : Nat} (h : Ang x) : (topN x).natAbs ≤ 2 ^ 43 := by
 have := pow_le_div (z := -(4 * V x)) (m := 42) (D := 1074) (M := 1116) rfl (by rw [Int.natAbs_neg]; exact four_small h)
 unfold topN
 rw [Int.natAbs_neg]
 omega
theorem bot_small {x : Nat} (h : Ang x) : (botN x).natAbs ≤ 2 ^ 43 := by
 have := pow_le_div (z := 4 * V x) (m := 42) (D := 1074) (M := 1116) rfl (four_small h)
 unfold botN
 omega

theorem upasses_run {a b : Nat} (ha : Ang a) (hb : Ang b) (k : Int) (hk : 0 ≤ k ∧ k < 4) (w : World) :
 Calls Tryz.prog 167 #[spanV a b, .int .i64 k] w fun e w' => e = .returned (.bool (passB a b k)) ∧ Below w.heap.size w w' := by
 obtain ⟨o1, f1, v1⟩ := four_x ha
 obtain ⟨o2, f2, v2⟩ := four_x hb
 have c := ceil_spec f1 (by rw [v1]; exact four_bd ha)
 have f := floor_spec f2 (by rw [v2]; exact four_bd hb)
 rw [v1] at c
 rw [v2] at f
 have s1 := top_small ha
 have s2 := bot_small hb
 have x1 : floatToIntVal .f64 (wholeW .up (mX fourW a)) .i64 = some (topN a) := to_int64 c.1 c.2 (by omega)
 have x2 : floatToIntVal .f64 (wholeW .down (mX fourW b)) .i64 = some (botN b) := to_int64 f.1 f.2 (by omega)
 have X1 := fun w => xconv x1 w
 have X2 := fun w => xconv x2 w
 have K1 := fun w => ceil_run f1 w
 have K2 := fun w => floor_run f2 w
 have r1 := run_mul _ _ _ o1
 have r2 := run_mul _ _ _ o2
 have C0 : Cls w [(w.heap.size, a, b)] (w.alloc (boxO a b)) := (Cls.nil w).new a b
 have a3 := i64_and3 (k - topN a)
 have w1 : IntKind.i64.wrap (k - topN a) = k - topN a := by rw [IntKind.wrap_i64]; omega
 have w2 : IntKind.i64.wrap (topN a + (k - topN a) % 4) = topN a + (k - topN a) % 4 := by rw [IntKind.wrap_i64]; omega
 unfold boxO at C0
 unfold spanV
 unfold passB
 have p0 := (C0.at_ 0 rfl).lo
 have p1 := (C0.at_ 0 rfl).hi
 have B := Lib.hid C0.old
 unfold fourW at *
 clear C0 ha hb o1 f1 v1 o2 f2 v2 c f s1 s2 x1 x2 hk
 generalize wholeW .up (mX 4616189618054758400 a) = u1 at *
 generalize wholeW .down (mX 4616189618054758400 b) = u2 at *
 generalize mX 4616189618054758400 a = m1 at *
 generalize mX 4616189618054758400 b = m2 at *
 generalize topN a = t1 at *
 generalize botN b = t2 at *
 go_enter Tryz.func167, Tryz.ntmps167
 go_wp2_with fail
 go_quiet (first | (go_at_call 190; with_reducible refine quiet_same (K1 _)) | (go_at_call 69; with_reducible refine quiet_same (K2 _)))
 have B2 := Lib.hid (below_drewN B.out nq)
 clear B p0 p1
 generalize World.drewN _ nq = wd at *
 go_wp2_with fail
 go_ret
 exact ⟨rfl, B2.out⟩

def stP (p : Pr) (h l : Bool) : Pr := (if l then noneW else p.1, if h then oneW else p.2)
theorem ustretch_run {p x u : Pr} {t1 t2 : Int} {b1 b2 : Bool} (hu : u = stP p b1 b2) (K1 : Hid (∀ w, Calls Tryz.prog 167 #[pv x, .int .i64 t1] w fun e w' => e = .returned (.bool b1) ∧ Below w.heap.size w w'))
 (K2 : Hid (∀ w, Calls Tryz.prog 167 #[pv x, .int .i64 t2] w fun e w' => e = .returned (.bool b2) ∧ Below w.heap.size w w')) (w : World) :
 Calls Tryz.prog 119 #[pv p, pv x, .int .i64 t1, .int .i64 t2] w fun e w' => e = .returned (pv u) ∧ Below w.heap.size w w' := by
 obtain ⟨p1, p2⟩ := p
 obtain ⟨x1, x2⟩ := x
 obtain ⟨u1, u2⟩ := u
 unfold pv spanV at *
 dsimp only at *
 have C0 : Cls w [(w.heap.size, p1, p2), (w.heap.size + 1, x1, x2), (w.heap.size + 1 + 1, 0, 0)] (((w.alloc (boxO p1 p2)).alloc (boxO x1 x2)).alloc (boxO 0 0)) := by
  have := (((Cls.nil w).new p1 p2).new x1 x2).new 0 0
  simp only [List.nil_append, List.cons_append] at this
  rw [show (w.alloc (boxO p1 p2)).heap.size = w.heap.size + 1 by simp, show ((w.alloc (boxO p1 p2)).alloc (boxO x1 x2)).heap.size = w.heap.size + 1 + 1 by simp] at this
  exact this
 have hst := @fstore
 unfold boxO at C0
 replace C0 := Lib.hid C0
 cases b1 <;> cases b2
 · obtain ⟨rfl, rfl⟩ : u1 = p1 ∧ u2 = p2 := ⟨(Prod.mk.inj hu).1, (Prod.mk.inj hu).2⟩
   clear hu
   go_enter Tryz.func119, Tryz.ntmps119
   go_wp2_with fail
   have C := C0.out
   clear C0
   generalize ((w.alloc _).alloc _).alloc _ = wr at *
   refine (K1.out wr).mono ?_
   rintro _ w1 ⟨rfl, hb⟩
   have C1 := C.on hb
   have a0 := (C1.at_ 0 rfl).lo
   have a1 := (C1.at_ 0 rfl).hi
   have a2 := (C1.at_ 0 rfl).f0
   have a3 := (C1.at_ 0 rfl).f1
   have b0 := (C1.at_ 1 rfl).lo
   have b1 := (C1.at_ 1 rfl).hi
   have C2 := C1
   replace C2 := Lib.hid C2
   clear C C1 hb K1
   go_wp2_with fail
   have C3 := C2.out
   clear a0 a1 a2 a3 b0 b1 C2
   refine (K2.out w1).mono ?_
   rintro _ w2 ⟨rfl, hb⟩
   have C4 := C3.on hb
   have a0 := (C4.at_ 0 rfl).lo
   have a1 := (C4.at_ 0 rfl).hi
   have a2 := (C4.at_ 0 rfl).f0
   have a3 := (C4.at_ 0 rfl).f1
   have r0 := (C4.at_ 2 rfl).lo
   have r1 := (C4.at_ 2 rfl).hi
   have r2 := (C4.at_ 2 rfl).f0
   have r3 := (C4.at_ 2 rfl).f1
   have C5 := C4
   have O := Lib.hid C5.old
   clear C3 C4 C5 hb K2
   go_wp2_with fail
   (try simp only [Exit.inBlock, Exit.then])
   refine bodyPost_ret (v := spanV u1 u2) ?_ rfl ⟨rfl, ?_⟩
   · rw [results_cell1 rfl]; unfold spanV; go_simp
   · exact (O.out.setCell (by show _ ≤ w.heap.size + 1 + 1; omega) _).setCell (by show _ ≤ w.heap.size + 1 + 1; omega) _
 · obtain ⟨rfl, rfl⟩ : u1 = 13830554455654793216 ∧ u2 = p2 := ⟨(Prod.mk.inj hu).1, (Prod.mk.inj hu).2⟩
   clear hu
   go_enter Tryz.func119, Tryz.ntmps119
   go_wp2_with fail
   have C := C0.out
   clear C0
   generalize ((w.alloc _).alloc _).alloc _ = wr at *
   refine (K1.out wr).mono ?_
   rintro _ w1 ⟨rfl, hb⟩
   have C1 := C.on hb
   have a0 := (C1.at_ 0 rfl).lo
   have a1 := (C1.at_ 0 rfl).hi
   have a2 := (C1.at_ 0 rfl).f0
   have a3 := (C1.at_ 0 rfl).f1
   have b0 := (C1.at_ 1 rfl).lo
   have b1 := (C1.at_ 1 rfl).hi
   have C2 := C1
   replace C2 := Lib.hid C2
   clear C C1 hb K1
   go_wp2_with fail
   have C3 := C2.out
   clear a0 a1 a2 a3 b0 b1 C2
   refine (K2.out w1).mono ?_
   rintro _ w2 ⟨rfl, hb⟩
   have C4 := C3.on hb
   have a0 := (C4.at_ 0 rfl).lo
   have a1 := (C4.at_ 0 rfl).hi
   have a2 := (C4.at_ 0 rfl).f0
   have a3 := (C4.at_ 0 rfl).f1
   have r0 := (C4.at_ 2 rfl).lo
   have r1 := (C4.at_ 2 rfl).hi
   have r2 := (C4.at_ 2 rfl).f0
   have r3 := (C4.at_ 2 rfl).f1
   have C5 := C4.put0 0 rfl 13830554455654793216
   simp only [List.set_cons_zero] at C5
   have a0' := (C5.at_ 0 rfl).lo
   have a1' := (C5.at_ 0 rfl).hi
   have r0' := (C5.at_ 2 rfl).lo
   have r1' := (C5.at_ 2 rfl).hi
   have r2' := (C5.at_ 2 rfl).f0
   have r3' := (C5.at_ 2 rfl).f1
   have O := Lib.hid C5.old
   clear C3 C4 C5 hb K2
   go_wp2_with fail
   (try simp only [Exit.inBlock, Exit.then])
   refine bodyPost_ret (v := spanV 13830554455654793216 u2) ?_ rfl ⟨rfl, ?_⟩
   · rw [results_cell1 rfl]; unfold spanV; go_simp
   · exact (O.out.setCell (by show _ ≤ w.heap.size + 1 + 1; omega) _).setCell (by show _ ≤ w.heap.size + 1 + 1; omega) _
 · obtain ⟨rfl, rfl⟩ : u1 = p1 ∧ u2 = 4607182418800017408 := ⟨(Prod.mk.inj hu).1, (Prod.mk.inj hu).2⟩
   clear hu
   go_enter Tryz.func119, Tryz.ntmps119
   go_wp2_with fail
   have C := C0.out
   clear C0
   generalize ((w.alloc _).alloc _).alloc _ = wr at *
   refine (K1.out wr).mono ?_
   rintro _ w1 ⟨rfl, hb⟩
   have C1 := C.on hb
   have a0 := (C1.at_ 0 rfl).lo
   have a1 := (C1.at_ 0 rfl).hi
   have a2 := (C1.at_ 0 rfl).f0
   have a3 := (C1.at_ 0 rfl).f1
   have b0 := (C1.at_ 1 rfl).lo
   have b1 := (C1.at_ 1 rfl).hi
   have C2 := C1.put1 0 rfl 4607182418800017408
   simp only [List.set_cons_zero] at C2
   have b0 := (C2.at_ 1 rfl).lo
   have b1 := (C2.at_ 1 rfl).hi
   replace C2 := Lib.hid C2
   clear C C1 hb K1
   go_wp2_with fail
   have C3 := C2.out
   clear a0 a1 a2 a3 b0 b1 C2
   generalize World.setCell _ _ _ = wq at *
   refine (K2.out wq).mono ?_
   rintro _ w2 ⟨rfl, hb⟩
   have C4 := C3.on hb
   have a0 := (C4.at_ 0 rfl).lo
   have a1 := (C4.at_ 0 rfl).hi
   have a2 := (C4.at_ 0 rfl).f0
   have a3 := (C4.at_ 0 rfl).f1
   have r0 := (C4.at_ 2 rfl).lo
   have r1 := (C4.at_ 2 rfl).hi
   have r2 := (C4.at_ 2 rfl).f0
   have r3 := (C4.at_ 2 rfl).f1
   have C5 := C4
   have O := Lib.hid C5.old
   clear C3 C4 C5 hb K2
   go_wp2_with fail
   (try simp only [Exit.inBlock, Exit.then])
   refine bodyPost_ret (v := spanV u1 4607182418800017408) ?_ rfl ⟨rfl, ?_⟩
   · rw [results_cell1 rfl]; unfold spanV; go_simp
   · exact (O.out.setCell (by show _ ≤ w.heap.size + 1 + 1; omega) _).setCell (by show _ ≤ w.heap.size + 1 + 1; omega) _
 · obtain ⟨rfl, rfl⟩ : u1 = 13830554455654793216 ∧ u2 = 4607182418800017408 := ⟨(Prod.mk.inj hu).1, (Prod.mk.inj hu).2⟩
   clear hu
   go_enter Tryz.func119, Tryz.ntmps119
   go_wp2_with fail
   have C := C0.out
   clear C0
   generalize ((w.alloc _).alloc _).alloc _ = wr at *
   refine (K1.out wr).mono ?_
   rintro _ w1 ⟨rfl, hb⟩
   have C1 := C.on hb
   have a0 := (C1.at_ 0 rfl).lo
   have a1 := (C1.at_ 0 rfl).hi
   have a2 := (C1.at_ 0 rfl).f0
   have a3 := (C1.at_ 0 rfl).f1
   have b0 := (C1.at_ 1 rfl).lo
   have b1 := (C1.at_ 1 rfl).hi
   have C2 := C1.put1 0 rfl 4607182418800017408
   simp only [List.set_cons_zero] at C2
   have b0 := (C2.at_ 1 rfl).lo
   have b1 := (C2.at_ 1 rfl).hi
   replace C2 := Lib.hid C2
   clear C C1 hb K1
   go_wp2_with fail
   have C3 := C2.out
   clear a0 a1 a2 a3 b0 b1 C2
   generalize World.setCell _ _ _ = wq at *
   refine (K2.out wq).mono ?_
   rintro _ w2 ⟨rfl, hb⟩
   have C4 := C3.on hb
   have a0 := (C4.at_ 0 rfl).lo
   have a1 := (C4.at_ 0 rfl).hi
   have a2 := (C4.at_ 0 rfl).f0
   have a3 := (C4.at_ 0 rfl).f1
   have r0 := (C4.at_ 2 rfl).lo
   have r1 := (C4.at_ 2 rfl).hi
   have r2 := (C4.at_ 2 rfl).f0
   have r3 := (C4.at_ 2 rfl).f1
   have C5 := C4.put0 0 rfl 13830554455654793216
   simp only [List.set_cons_zero] at C5
   have a0' := (C5.at_ 0 rfl).lo
   have a1' := (C5.at_ 0 rfl).hi
   have r0' := (C5.at_ 2 rfl).lo
   have r1' := (C5.at_ 2 rfl).hi
   have r2' := (C5.at_ 2 rfl).f0
   have r3' := (C5.at_ 2 rfl).f1
   have O := Lib.hid C5.old
   clear C3 C4 C5 hb K2
   go_wp2_with fail
   (try simp only [Exit.inBlock, Exit.then])
   refine bodyPost_ret (v := spanV 13830554455654793216 4607182418800017408) ?_ rfl ⟨rfl, ?_⟩
   · rw [results_cell1 rfl]; unfold spanV; go_simp
   · exact (O.out.setCell (by show _ ≤ w.heap.size + 1 + 1; omega) _).setCell (by show _ ≤ w.heap.size + 1 + 1; omega) _

theorem uspans_no {Y : Pr} {k : Int} (hk : k ≠ 0) (K0 : Hid (∀ w, Calls Tryz.prog 117 #[pv Y] w fun e w' => e = .returned (.int .i64 k) ∧ Below w.heap.size w w')) (w : World) :
 Calls Tryz.prog 65 #[pv Y] w fun e w' => e = .returned (ppi (0, 0) (0, 0) k) ∧ Below w.heap.size w w' := by
 have tk : (k != 0) = true := by simpa using hk
 have C0 : Cls w [(w.heap.size, Y.1, Y.2), (w.heap.size + 1, 0, 0), (w.heap.size + 1 + 1, 0, 0)] (((w.alloc (boxO Y.1 Y.2)).alloc (boxO 0 0)).alloc (boxO 0 0)) := by
  have := (((Cls.nil w).new Y.1 Y.2).new 0 0).new 0 0
  simp only [List.nil_append, List.cons_append] at this
  rw [show (w.alloc (boxO Y.1 Y.2)).heap.size = w.heap.size + 1 by simp, show ((w.alloc (boxO Y.1 Y.2)).alloc (boxO 0 0)).heap.size = w.heap.size + 1 + 1 by simp] at this
  exact this
 have hst := @fstore
 have yE : pv Y = .agg #[.float .f64 Y.1, .float .f64 Y.2] := rfl
 unfold boxO at C0
 replace C0 := Lib.hid C0
 rw [yE] at K0 ⊢
 clear yE hk
 go_enter Tryz.func65, Tryz.ntmps65
 go_wp2_with fail
 have C := C0.out
 clear C0
 generalize ((w.alloc _).alloc _).alloc _ = wr at *
 refine (K0.out wr).mono ?_
 rintro _ w1 ⟨rfl, hb⟩
 have C1 := C.on hb
 have p0 := (C1.at_ 0 rfl).lo
 have p1 := (C1.at_ 0 rfl).hi
 have r0 := (C1.at_ 1 rfl).lo
 have r1 := (C1.at_ 1 rfl).hi
 have r2 := (C1.at_ 1 rfl).f0
 have r3 := (C1.at_ 1 rfl).f1
 have s0 := (C1.at_ 2 rfl).lo
 have s1 := (C1.at_ 2 rfl).hi
 have s2 := (C1.at_ 2 rfl).f0
 have s3 := (C1.at_ 2 rfl).f1
 replace C1 := Lib.hid C1
 clear C hb K0
 go_wp2_with fail
 (try simp only [Exit.inBlock, Exit.then])
 refine bodyPost_ret (v := .tuple #[spanV 0 0, spanV 0 0, .int .i64 k]) ?_ rfl ⟨rfl, ?_⟩
 · rw [results_cells2t rfl]; unfold spanV; go_simp
 · exact (((((C1.out).old).setCell (by show _ ≤ w.heap.size + 1; omega) _).setCell (by show _ ≤ w.heap.size + 1; omega) _).setCell (by show _ ≤ w.heap.size + 1 + 1; omega) _).setCell (by show _ ≤ w.heap.size + 1 + 1; omega) _

theorem uspans_wide {Y : Pr} {m : Nat} (tm : (FloatKind.f64.format.order m 4607182418800017408 == some Ordering.gt || FloatKind.f64.format.order m 4607182418800017408 == some Ordering.eq) = true)
 (K0 : Hid (∀ w, Calls Tryz.prog 117 #[pv Y] w fun e w' => e = .returned (.int .i64 0) ∧ Below w.heap.size w w'))
 (K1 : Hid (∀ w, Calls Tryz.prog 63 #[pv Y] w fun e w' => e = .returned (.tuple #[.float .f64 m, .int .i64 0]) ∧ Below w.heap.size w w')) (w : World) :
 Calls Tryz.prog 65 #[pv Y] w fun e w' => e = .returned (ppi (noneW, oneW) (noneW, oneW) 0) ∧ Below w.heap.size w w' := by
 have K2 := Lib.hid ucircle_run
 have cE : pv (noneW, oneW) = .agg #[.float .f64 13830554455654793216, .float .f64 4607182418800017408] := rfl
 rw [cE] at K2
 have C0 : Cls w [(w.heap.size, Y.1, Y.2), (w.heap.size + 1, 0, 0), (w.heap.size + 1 + 1, 0, 0)] (((w.alloc (boxO Y.1 Y.2)).alloc (boxO 0 0)).alloc (boxO 0 0)) := by
  have := (((Cls.nil w).new Y.1 Y.2).new 0 0).new 0 0
  simp only [List.nil_append, List.cons_append] at this
  rw [show (w.alloc (boxO Y.1 Y.2)).heap.size = w.heap.size + 1 by simp, show ((w.alloc (boxO Y.1 Y.2)).alloc (boxO 0 0)).heap.size = w.heap.size + 1 + 1 by simp] at this
  exact this
 have hst := @fstore
 have yE : pv Y = .agg #[.float .f64 Y.1, .float .f64 Y.2] := rfl
 unfold boxO at C0
 replace C0 := Lib.hid C0
 rw [yE] at K0 K1 ⊢
 clear yE cE
 go_enter Tryz.func65, Tryz.ntmps65
 go_wp2_with fail
 have C := C0.out
 clear C0
 generalize ((w.alloc _).alloc _).alloc _ = wr at *
 refine (K0.out wr).mono ?_
 rintro _ w1 ⟨rfl, hb⟩
 have C1 := C.on hb
 have p0 := (C1.at_ 0 rfl).lo
 have p1 := (C1.at_ 0 rfl).hi
 have r0 := (C1.at_ 1 rfl).lo
 have r1 := (C1.at_ 1 rfl).hi
 have r2 := (C1.at_ 1 rfl).f0
 have r3 := (C1.at_ 1 rfl).f1
 have s0 := (C1.at_ 2 rfl).lo
 have s1 := (C1.at_ 2 rfl).hi
 have s2 := (C1.at_ 2 rfl).f0
 have s3 := (C1.at_ 2 rfl).f1
 replace C1 := Lib.hid C1
 clear C hb K0
 go_wp2_with fail
 clear p0 p1 r0 r1 r2 r3 s0 s1 s2 s3
 refine (K1.out w1).mono ?_
 rintro _ w2 ⟨rfl, hb⟩
 replace C1 := C1.out.on hb
 have p0 := (C1.at_ 0 rfl).lo
 have p1 := (C1.at_ 0 rfl).hi
 have r0 := (C1.at_ 1 rfl).lo
 have r1 := (C1.at_ 1 rfl).hi
 have r2 := (C1.at_ 1 rfl).f0
 have r3 := (C1.at_ 1 rfl).f1
 have s0 := (C1.at_ 2 rfl).lo
 have s1 := (C1.at_ 2 rfl).hi
 have s2 := (C1.at_ 2 rfl).f0
 have s3 := (C1.at_ 2 rfl).f1
 replace C1 := Lib.hid C1
 clear hb
 go_wp2_with fail
 clear p0 p1 r0 r1 r2 r3 s0 s1 s2 s3
 refine (K2.out w2).mono ?_
 rintro _ w3 ⟨rfl, hb⟩
 replace C1 := C1.out.on hb
 have p0 := (C1.at_ 0 rfl).lo
 have p1 := (C1.at_ 0 rfl).hi
 have r0 := (C1.at_ 1 rfl).lo
 have r1 := (C1.at_ 1 rfl).hi
 have r2 := (C1.at_ 1 rfl).f0
 have r3 := (C1.at_ 1 rfl).f1
 have s0 := (C1.at_ 2 rfl).lo
 have s1 := (C1.at_ 2 rfl).hi
 have s2 := (C1.at_ 2 rfl).f0
 have s3 := (C1.at_ 2 rfl).f1
 replace C1 := Lib.hid C1
 clear hb
 go_wp2_with fail
 clear p0 p1 r0 r1 r2 r3 s0 s1 s2 s3
 refine (K2.out w3).mono ?_
 rintro _ w4 ⟨rfl, hb⟩
 replace C1 := C1.out.on hb
 have p0 := (C1.at_ 0 rfl).lo
 have p1 := (C1.at_ 0 rfl).hi
 have r0 := (C1.at_ 1 rfl).lo
 have r1 := (C1.at_ 1 rfl).hi
 have r2 := (C1.at_ 1 rfl).f0
 have r3 := (C1.at_ 1 rfl).f1
 have s0 := (C1.at_ 2 rfl).lo
 have s1 := (C1.at_ 2 rfl).hi
 have s2 := (C1.at_ 2 rfl).f0
 have s3 := (C1.at_ 2 rfl).f1
 replace C1 := Lib.hid C1
 clear hb
 go_wp2_with fail
 (try simp only [Exit.inBlock, Exit.then])
 refine bodyPost_ret (v := .tuple #[spanV 13830554455654793216 4607182418800017408, spanV 13830554455654793216 4607182418800017408, .int .i64 0]) ?_ rfl ⟨rfl, ?_⟩
 · rw [results_cells2t rfl]; unfold spanV; go_simp
 · exact (((((C1.out).old).setCell (by show _ ≤ w.heap.size + 1; omega) _).setCell (by show _ ≤ w.heap.size + 1; omega) _).setCell (by show _ ≤ w.heap.size + 1 + 1; omega) _).setCell (by show _ ≤ w.heap.size + 1 + 1; omega) _

theorem uspans_slim {Y S C T D H1 H2 U1 U2 : Pr} {m : Nat} (tm : (FloatKind.f64.format.order m 4607182418800017408 == some Ordering.gt || FloatKind.f64.format.order m 4607182418800017408 == some Ordering.eq) = false)
 (K0 : Hid (∀ w, Calls Tryz.prog 117 #[pv Y] w fun e w' => e = .returned (.int .i64 0) ∧ Below w.heap.size w w'))
 (K1 : Hid (∀ w, Calls Tryz.prog 63 #[pv Y] w fun e w' => e = .returned (.tuple #[.float .f64 m, .int .i64 0]) ∧ Below w.heap.size w w'))
 (KA : Hid (∀ w, Calls Tryz.prog 104 #[.float .f64 Y.1] w fun e w' => e = .returned (ppi S C 0) ∧ Below w.heap.size w w'))
 (KB : Hid (∀ w, Calls Tryz.prog 104 #[.float .f64 Y.2] w fun e w' => e = .returned (ppi T D 0) ∧ Below w.heap.size w w'))
 (K3 : Hid (∀ w, Calls Tryz.prog 120 #[pv S, pv T] w fun e w' => e = .returned (pv H1) ∧ Below w.heap.size w w'))
 (K4 : Hid (∀ w, Calls Tryz.prog 119 #[pv H1, pv Y, .int .i64 1, .int .i64 3] w fun e w' => e = .returned (pv U1) ∧ Below w.heap.size w w'))
 (K5 : Hid (∀ w, Calls Tryz.prog 120 #[pv C, pv D] w fun e w' => e = .returned (pv H2) ∧ Below w.heap.size w w'))
 (K6 : Hid (∀ w, Calls Tryz.prog 119 #[pv H2, pv Y, .int .i64 0, .int .i64 2] w fun e w' => e = .returned (pv U2) ∧ Below w.heap.size w w')) (w : World) :
 Calls Tryz.prog 65 #[pv Y] w fun e w' => e = .returned (ppi U1 U2 0) ∧ Below w.heap.size w w' := by
 have C0 : Cls w [(w.heap.size, Y.1, Y.2), (w.heap.size + 1, 0, 0), (w.heap.size + 1 + 1, 0, 0)] (((w.alloc (boxO Y.1 Y.2)).alloc (boxO 0 0)).alloc (boxO 0 0)) := by
  have := (((Cls.nil w).new Y.1 Y.2).new 0 0).new 0 0
  simp only [List.nil_append, List.cons_append] at this
  rw [show (w.alloc (boxO Y.1 Y.2)).heap.size = w.heap.size + 1 by simp, show ((w.alloc (boxO Y.1 Y.2)).alloc (boxO 0 0)).heap.size = w.heap.size + 1 + 1 by simp] at this
  exact this
 have hst := @fstore
 have yE : pv Y = .agg #[.float .f64 Y.1, .float .f64 Y.2] := rfl
 unfold boxO at C0
 replace C0 := Lib.hid C0
 rw [yE] at K0 K1 ⊢
 unfold ppi at KA KB
 have sE : pv S = .agg #[.float .f64 S.1, .float .f64 S.2] := rfl
 have cE : pv C = .agg #[.float .f64 C.1, .float .f64 C.2] := rfl
 have tE : pv T = .agg #[.float .f64 T.1, .float .f64 T.2] := rfl
 have dE : pv D = .agg #[.float .f64 D.1, .float .f64 D.2] := rfl
 rw [sE, cE] at KA
 rw [tE, dE] at KB
 clear yE sE cE tE dE
 go_enter Tryz.func65, Tryz.ntmps65
 go_wp2_with fail
 have C := C0.out
 clear C0
 generalize ((w.alloc _).alloc _).alloc _ = wr at *
 refine (K0.out wr).mono ?_
 rintro _ w1 ⟨rfl, hb⟩
 have C1 := C.on hb
 have p0 := (C1.at_ 0 rfl).lo
 have p1 := (C1.at_ 0 rfl).hi
 have r0 := (C1.at_ 1 rfl).lo
 have r1 := (C1.at_ 1 rfl).hi
 have r2 := (C1.at_ 1 rfl).f0
 have r3 := (C1.at_ 1 rfl).f1
 have s0 := (C1.at_ 2 rfl).lo
 have s1 := (C1.at_ 2 rfl).hi
 have s2 := (C1.at_ 2 rfl).f0
 have s3 := (C1.at_ 2 rfl).f1
 replace C1 := Lib.hid C1
 clear C hb K0
 go_wp2_with fail
 clear p0 p1 r0 r1 r2 r3 s0 s1 s2 s3
 refine (K1.out w1).mono ?_
 rintro _ w2 ⟨rfl, hb⟩
 replace C1 := C1.out.on hb
 have p0 := (C1.at_ 0 rfl).lo
 replace C1 := Lib.hid C1
 clear hb K1
 go_wp2_with fail
 clear p0
 refine (KA.out w2).mono ?_
 rintro _ w3 ⟨rfl, hb⟩
 replace C1 := ((C1.out.on hb).new S.1 S.2).new C.1 C.2
 simp only [List.nil_append, List.cons_append] at C1
 rw [show (w3.alloc (boxO S.1 S.2)).heap.size = w3.heap.size + 1 by simp] at C1
 unfold boxO at C1
 have p0 := (C1.at_ 0 rfl).hi
 replace C1 := Lib.hid C1
 clear hb KA
 go_wp2_with fail
 clear p0
 generalize (w3.alloc _).alloc _ = wq at *
 generalize w3.heap.size = g at *
 refine (KB.out wq).mono ?_
 rintro _ w4 ⟨rfl, hb⟩
 replace C1 := ((C1.out.on hb).new T.1 T.2).new D.1 D.2
 simp only [List.nil_append, List.cons_append] at C1
 rw [show (w4.alloc (boxO T.1 T.2)).heap.size = w4.heap.size + 1 by simp] at C1
 unfold boxO at C1
 replace C1 := Lib.hid C1
 clear hb KB
 go_upto_region 9 with fail
 have C3 := C1.out
 clear C1
 generalize (w4.alloc _).alloc _ = wp at *
 generalize w4.heap.size = h at *
 generalize hn : w.heap.size = n at *
 replace hn := Lib.hid hn
 generalize hds : ([some 44, some 45, some 46, some 47, some 48, some 49, some 50, some 51, some 52, some 53, none, none, some 4] : List (Option Tmp)) = ds
 have hap : apartL ds = true := by rw [← hds]; decide
 replace hds := hds.symm
 refine wp_region_sts [(n, Y.1, Y.2), (n + 1, U1.1, U1.2), (n + 1 + 1, U2.1, U2.2), (g, S.1, S.2), (g + 1, C.1, C.2), (h, T.1, T.2), (h + 1, D.1, D.2)] [⟨10, 1, n + 1, U1.1, U1.2⟩, ⟨11, 2, n + 1 + 1, U2.1, U2.2⟩] [pv S, pv T, pv H1, pv Y, pv U1, pv C, pv D, pv H2, pv Y, pv U2, undef, undef, .int .i64 0]
  ds (by kernel_rfl) (by rw [hds]; rfl) hap (by decide +kernel) (by decide +kernel) rfl C3 ?hE2 ?hE3 ?hj ?hi ?his (fun _ => True) trivial (fun _ _ _ _ => trivial) (fun _ _ _ _ => trivial) ?step ?store ?fin
 case hE2 =>
  intro j h
  have n0 : 1 ≠ j := h _ qh0
  have n1 : 2 ≠ j := h _ qh1
  rcases j with _ | _ | _ | _ | _ | _ | _ | j <;> first | rfl | exact absurd rfl n0 | exact absurd rfl n1
 case hE3 => intro st h; rcases qm2 h with rfl | rfl <;> rfl
 case hj => intro st h; rcases qm2 h with rfl | rfl <;> exact ⟨_, _, rfl⟩
 case hi =>
  intro st h st' h' e
  rcases qm2 h with rfl | rfl <;> (rcases qm2 h' with rfl | rfl) <;> first | rfl | (exfalso; revert e; simp)
 case his => intro st h; rcases qm2 h with rfl | rfl
             · show 10 < 13; decide
             · show 11 < 13; decide
 case step =>
  intro L W i o ho hs hd hB hJ
  rcases (ql13 (Array.getElem?_eq_some_iff.1 ho).1) with rfl | rfl | rfl | rfl | rfl | rfl | rfl | rfl | rfl | rfl | rfl | rfl | rfl
  · obtain rfl := qsj ho
    have b := hB 3 _ _ _ rfl (by
        intro st hst e
        simp only [List.mem_cons, List.not_mem_nil, or_false] at hst
        rcases hst with rfl | rfl
        · exact qnd e rfl
        · exact qnd e rfl)
    refine qvr fun ρ hA => ?_
    have h0 : ρ (.tmp 8) = .pointer (some ⟨g, 0, none⟩) := (qpn hA (by rw [hds]; decide)).trans rfl
    exact ex_loads rfl h0 b.lo b.hi
  · obtain rfl := qsj ho
    have b := hB 5 _ _ _ rfl (by
        intro st hst e
        simp only [List.mem_cons, List.not_mem_nil, or_false] at hst
        rcases hst with rfl | rfl
        · exact qnd e rfl
        · exact qnd e rfl)
    refine qvr fun ρ hA => ?_
    have h0 : ρ (.tmp 11) = .pointer (some ⟨h, 0, none⟩) := (qpn hA (by rw [hds]; decide)).trans rfl
    exact ex_loads rfl h0 b.lo b.hi
  · obtain rfl := qsj ho
    refine .call 120 #[pv S, pv T] ?_ (K3.out W)
    generalize hA : (puts ds L _).eval = ρ
    have hc := qrc hA
    have hg := qrg hA
    have h0 : ρ (.tmp 44) = pv S := qpe 0 hA hap (by rw [hds]; rfl) (hd 0 (by decide +kernel)) (show 44 < 54 by decide)
    have h1 : ρ (.tmp 45) = pv T := qpe 1 hA hap (by rw [hds]; rfl) (hd 1 (by decide +kernel)) (show 45 < 54 by decide)
    have hf := Tryz.func120
    unfold execOp; go_simp
  · obtain rfl := qsj ho
    have b := hB 0 _ _ _ rfl (by
        intro st hst e
        simp only [List.mem_cons, List.not_mem_nil, or_false] at hst
        rcases hst with rfl | rfl
        · exact qnd e rfl
        · exact qnd e rfl)
    refine qvr fun ρ hA => ?_
    have h0 : ρ (.tmp 1) = .pointer (some ⟨n, 0, none⟩) := (qpn hA (by rw [hds]; decide)).trans rfl
    exact ex_loads rfl h0 b.lo b.hi
  · obtain rfl := qsj ho
    refine .call 119 #[pv H1, pv Y, .int .i64 1, .int .i64 3] ?_ (K4.out W)
    generalize hA : (puts ds L _).eval = ρ
    have hc := qrc hA
    have hg := qrg hA
    have h0 : ρ (.tmp 46) = pv H1 := qpe 2 hA hap (by rw [hds]; rfl) (hd 2 (by decide +kernel)) (show 46 < 54 by decide)
    have h1 : ρ (.tmp 47) = pv Y := qpe 3 hA hap (by rw [hds]; rfl) (hd 3 (by decide +kernel)) (show 47 < 54 by decide)
    have hf := Tryz.func119
    unfold execOp; go_simp
  · obtain rfl := qsj ho
    have b := hB 4 _ _ _ rfl (by
        intro st hst e
        simp only [List.mem_cons, List.not_mem_nil, or_false] at hst
        rcases hst with rfl | rfl
        · exact qnd e rfl
        · exact qnd e rfl)
    refine qvr fun ρ hA => ?_
    have h0 : ρ (.tmp 9) = .pointer (some ⟨g + 1, 0, none⟩) := (qpn hA (by rw [hds]; decide)).trans rfl
    exact ex_loads rfl h0 b.lo b.hi
  · obtain rfl := qsj ho
    have b := hB 6 _ _ _ rfl (by
        intro st hst e
        simp only [List.mem_cons, List.not_mem_nil, or_false] at hst
        rcases hst with rfl | rfl
        · exact qnd e rfl
        · exact qnd e rfl)
    refine qvr fun ρ hA => ?_
    have h0 : ρ (.tmp 12) = .pointer (some ⟨h + 1, 0, none⟩) := (qpn hA (by rw [hds]; decide)).trans rfl
    exact ex_loads rfl h0 b.lo b.hi
  · obtain rfl := qsj ho
    refine .call 120 #[pv C, pv D] ?_ (K5.out W)
    generalize hA : (puts ds L _).eval = ρ
    have hc := qrc hA
    have hg := qrg hA
    have h0 : ρ (.tmp 49) = pv C := qpe 5 hA hap (by rw [hds]; rfl) (hd 5 (by decide +kernel)) (show 49 < 54 by decide)
    have h1 : ρ (.tmp 50) = pv D := qpe 6 hA hap (by rw [hds]; rfl) (hd 6 (by decide +kernel)) (show 50 < 54 by decide)
    have hf := Tryz.func120
    unfold execOp; go_simp
  · obtain rfl := qsj ho
    have b := hB 0 _ _ _ rfl (by
        intro st hst e
        simp only [List.mem_cons, List.not_mem_nil, or_false] at hst
        rcases hst with rfl | rfl
        · exact qnd e rfl
        · exact qnd e rfl)
    refine qvr fun ρ hA => ?_
    have h0 : ρ (.tmp 1) = .pointer (some ⟨n, 0, none⟩) := (qpn hA (by rw [hds]; decide)).trans rfl
    exact ex_loads rfl h0 b.lo b.hi
  · obtain rfl := qsj ho
    refine .call 119 #[pv H2, pv Y, .int .i64 0, .int .i64 2] ?_ (K6.out W)
    generalize hA : (puts ds L _).eval = ρ
    have hc := qrc hA
    have hg := qrg hA
    have h0 : ρ (.tmp 51) = pv H2 := qpe 7 hA hap (by rw [hds]; rfl) (hd 7 (by decide +kernel)) (show 51 < 54 by decide)
    have h1 : ρ (.tmp 52) = pv Y := qpe 8 hA hap (by rw [hds]; rfl) (hd 8 (by decide +kernel)) (show 52 < 54 by decide)
    have hf := Tryz.func119
    unfold execOp; go_simp
  · exact absurd rfl (hs _ qh0)
  · exact absurd rfl (hs _ qh1)
  · obtain rfl := qsj ho
    refine qvr fun ρ hA => ?_
    have hc := qrc hA
    unfold execOp; go_simp
 case store =>
  intro st hst L W o x y ho hd b
  generalize hA : (puts ds L _).eval = ρ
  simp only [List.mem_cons, List.not_mem_nil, or_false] at hst
  rcases hst with rfl | rfl
  · dsimp only at ho b ⊢
    obtain rfl := qsj ho
    have h0 : ρ (.tmp 2) = .pointer (some ⟨n + 1, 0, none⟩) := (qpn hA (by rw [hds]; decide)).trans rfl
    have h1 : ρ (.tmp 48) = pv U1 := qpe 4 hA hap (by rw [hds]; rfl) (hd 4 (by decide +kernel)) (show 48 < 54 by decide)
    exact ⟨ex_store rfl h0 h1 b.lo b.hi b.f0 b.f1, rfl⟩
  · dsimp only at ho b ⊢
    obtain rfl := qsj ho
    have h0 : ρ (.tmp 3) = .pointer (some ⟨n + 1 + 1, 0, none⟩) := (qpn hA (by rw [hds]; decide)).trans rfl
    have h1 : ρ (.tmp 53) = pv U2 := qpe 9 hA hap (by rw [hds]; rfl) (hd 9 (by decide +kernel)) (show 53 < 54 by decide)
    exact ⟨ex_store rfl h0 h1 b.lo b.hi b.f0 b.f1, rfl⟩
 case fin =>
  intro w5 C5 _
  rw [hds]
  clear hds hap C3 ds K3 K4 K5 K6
  obtain ⟨u1, u2⟩ := U1
  obtain ⟨v1, v2⟩ := U2
  have l0 := (C5.at_ 1 rfl).lo
  have l1 := (C5.at_ 1 rfl).hi
  have m0 := (C5.at_ 2 rfl).lo
  have m1 := (C5.at_ 2 rfl).hi
  have O := Lib.hid C5.old
  dsimp only at l0 l1 m0 m1
  clear C5
  simp only [List.map_cons, List.map_nil, List.set_cons_zero, List.set_cons_succ, puts, Act.put, List.setIfInBounds_toArray]
  go_wp2_with fail
  (try simp only [Exit.inBlock, Exit.then])
  refine bodyPost_ret (v := .tuple #[spanV u1 u2, spanV v1 v2, .int .i64 0]) ?_ rfl ⟨rfl, ?_⟩
  · rw [results_cells2t rfl]; unfold spanV; go_simp
  · exact O.out

def hullP (p q : Pr) : Pr := (posW (mnW p.1 q.1), posW (mxW p.2 q.2))
structure SpRes (Y p q : Pr) (k : Int) : Prop where
 err : k = errT Y.1 Y.2
 no : k ≠ 0 → p = (0, 0) ∧ q = (0, 0)
 ok : k = 0 → ∃ m, FinW m ∧ Up (fun u => V Y.2 - V Y.1 - u) m ∧ (V oneW ≤ V m → p = (noneW, oneW) ∧ q = (noneW, oneW)) ∧
  (¬ V oneW ≤ V m → ∃ S C T D, PtH Y.1 S C ∧ PtH Y.2 T D ∧ p = stP (hullP S T) (passB Y.1 Y.2 1) (passB Y.1 Y.2 3) ∧ q = stP (hullP C D) (passB Y.1 Y.2 0) (passB Y.1 Y.2 2))
theorem SpRes.uniq {Y p q p' q' : Pr} {k l : Int} (h : SpRes Y p q k) (j : SpRes Y p' q' l) : p = p' ∧ q = q' ∧ k = l := by
 have e : k = l := by rw [h.err, j.err]
 subst e
 by_cases hk : k = 0
 · obtain ⟨m, -, u, a, b⟩ := h.ok hk
   obtain ⟨m', -, u', a', b'⟩ := j.ok hk
   have ev := Up.uniq u u'
   by_cases c : V oneW ≤ V m
   · obtain ⟨rfl, rfl⟩ := a c
     obtain ⟨rfl, rfl⟩ := a' (by omega)
     exact ⟨rfl, rfl, rfl⟩
   · obtain ⟨S, C, T, D, H, H', rfl, rfl⟩ := b c
     obtain ⟨S2, C2, T2, D2, J, J', rfl, rfl⟩ := b' (by omega)
     obtain ⟨rfl, rfl⟩ := H.rel.uniq J.rel
     obtain ⟨rfl, rfl⟩ := H'.rel.uniq J'.rel
     exact ⟨rfl, rfl, rfl⟩
 · obtain ⟨rfl, rfl⟩ := h.no hk
   obtain ⟨rfl, rfl⟩ := j.no hk
   exact ⟨rfl, rfl, rfl⟩
theorem errT_zero {a b : Nat} (h : errT a b = 0) : errS a b = 0 ∧ errA a = 0 ∧ errA b = 0 := by
 unfold errT at h
 split at h
 · omega
 · split at h
   · omega
   · omega
theorem unit_hull {p q : Pr} (h : Unit1 p) (g : Unit1 q) : Unit1 (hullP p q) ∧ V (hullP p q).1 ≤ V p.1 ∧ V (hullP p q).1 ≤ V q.1 ∧ V p.2 ≤ V (hullP p q).2 ∧ V q.2 ≤ V (hullP p q).2 := by
 obtain ⟨f1, f2, l1⟩ := errS_zero h.ok
 obtain ⟨f3, f4, l2⟩ := errS_zero g.ok
 have a := mnW_spec (fit_fin h.l1 f1) (fit_fin g.l1 f3)
 have b := mxW_spec (fit_fin h.l2 f2) (fit_fin g.l2 f4)
 have m1 := mn_fit h.l1 g.l1 f1 f3
 have m2 := mx_fit h.l2 g.l2 f2 f4
 have n1 := (mnW_fin (fit_fin h.l1 f1) (fit_fin g.l1 f3)).1
 have n2 := (mxW_fin (fit_fin h.l2 f2) (fit_fin g.l2 f4)).1
 have p1 := pos_fit n1 m1
 have p2 := pos_fit n2 m2
 have v1 : V (hullP p q).1 = V (mnW p.1 q.1) := posW_V _
 have v2 : V (hullP p q).2 = V (mxW p.2 q.2) := posW_V _
 have hl := h.lo
 have gl := g.lo
 have hh := h.hi
 have gh := g.hi
 refine ⟨⟨p1.2, p2.2, errS_of ⟨p1.1, p2.1⟩ ?_, ?_, ?_⟩, ?_, ?_, ?_, ?_⟩
 · show V (hullP p q).1 ≤ V (hullP p q).2
   omega
 · rw [v1]
   rcases a.1 with e | e
   · rw [e]; exact hl
   · rw [e]; exact gl
 · rw [v2]
   rcases b.1 with e | e
   · rw [e]; exact hh
   · rw [e]; exact gh
 all_goals omega
theorem mk_no {a b : Nat} (h : ¬ errT a b = 0) : SpRes (a, b) (0, 0) (0, 0) (errT a b) := ⟨rfl, fun _ => ⟨rfl, rfl⟩, fun e => absurd e h⟩
theorem mk_wide {a b m : Nat} (h : errT a b = 0) (fm : FinW m) (U : Up (fun u => V b - V a - u) m) (c : V oneW ≤ V m) : SpRes (a, b) (noneW, oneW) (noneW, oneW) 0 := ⟨h.symm, fun h => absurd rfl h, fun _ => ⟨m, fm, U, fun _ => ⟨rfl, rfl⟩, fun h => absurd c h⟩⟩
theorem mk_slim {a b m : Nat} {S C T D : Pr} (h : errT a b = 0) (fm : FinW m) (U : Up (fun u => V b - V a - u) m) (c : ¬ V oneW ≤ V m) (HA : PtH a S C) (HB : PtH b T D) : SpRes (a, b) (stP (hullP S T) (passB a b 1) (passB a b 3)) (stP (hullP C D) (passB a b 0) (passB a b 2)) 0 := ⟨h.symm, fun h => absurd rfl h, fun _ => ⟨m, fm, U, fun h => absurd h c, fun _ => ⟨S, C, T, D, HA, HB, rfl, rfl⟩⟩⟩
theorem uspans_run {a b : Nat} (ha : a < 18446744073709551616) (hb : b < 18446744073709551616) : ∃ p q k, SpRes (a, b) p q k ∧ ∀ w, Calls Tryz.prog 65 #[pv (a, b)] w fun e w' => e = .returned (ppi p q k) ∧ Below w.heap.size w w' := by
 have K0 : Hid (∀ w, Calls Tryz.prog 117 #[pv (a, b)] w fun e w' => e = .returned (.int .i64 (errT a b)) ∧ Below w.heap.size w w') := Lib.hid (fun w => ucheckspan_run ha hb w)
 by_cases h : errT a b = 0
 · obtain ⟨e1, e2, e3⟩ := errT_zero h
   obtain ⟨m, ⟨fm, U⟩, K1'⟩ := swidth_ok ha hb e1
   have K1 : ∀ w, Calls Tryz.prog 63 #[pv (a, b)] w fun e w' => e = .returned (.tuple #[.float .f64 m, .int .i64 0]) ∧ Below w.heap.size w w' := K1'
   have tm := ge_words fm (show FinW oneW by unfold FinW oneW; omega)
   rw [h] at K0
   by_cases c : V oneW ≤ V m
   · rw [decide_eq_true c] at tm
     exact ⟨_, _, 0, mk_wide h fm U c, fun w => uspans_wide tm K0 (Lib.hid K1) w⟩
   · rw [decide_eq_false c] at tm
     obtain ⟨S, C, HA, KA⟩ := upoint_ok ha e2
     obtain ⟨T, D, HB, KB⟩ := upoint_ok hb e3
     have A := errA_ang ha e2
     have B := errA_ang hb e3
     have u1 := unit_hull HA.up HB.up
     have u2 := unit_hull HA.uq HB.uq
     have h1 := errSS_of' HA.up.ok HB.up.ok
     have h2 := errSS_of' HA.uq.ok HB.uq.ok
     have P : ∀ k, 0 ≤ k ∧ k < 4 → Hid (∀ w, Calls Tryz.prog 167 #[pv (a, b), .int .i64 k] w fun e w' => e = .returned (.bool (passB a b k)) ∧ Below w.heap.size w w') := fun k hk => Lib.hid (fun w => upasses_run A B k hk w)
     refine ⟨_, _, 0, mk_slim h fm U c HA HB, fun w => ?_⟩
     exact uspans_slim tm K0 (Lib.hid K1) (Lib.hid KA) (Lib.hid KB) (Lib.hid fun w => uhull_run (u := hullP S T) HA.up.l1 HA.up.l2 HB.up.l1 HB.up.l2 ⟨h1, rfl⟩ w) (Lib.hid fun w => ustretch_run rfl (P 1 (by omega)) (P 3 (by omega)) w)
        (Lib.hid fun w => uhull_run (u := hullP C D) HA.uq.l1 HA.uq.l2 HB.uq.l1 HB.uq.l2 ⟨h2, rfl⟩ w) (Lib.hid fun w => ustretch_run rfl (P 0 (by omega)) (P 2 (by omega)) w) w
 · exact ⟨(0, 0), (0, 0), errT a b, mk_no h, fun w => uspans_no h K0 w⟩

theorem trig_near {x s c r : Nat} (A : Ang x) (T : Trig x s c) (R : Rst x r) :
 (-(mkRat 1 (2^50)) ≤ Q s - Ply.sq (kq eig (V x)) (Ply.tau * Q r) ∧ Q s - Ply.sq (kq eig (V x)) (Ply.tau * Q r) ≤ mkRat 1 (2^50)) ∧
 (-(mkRat 1 (2^50)) ≤ Q c - Ply.sq (kq eig (V x) + 1) (Ply.tau * Q r) ∧ Q c - Ply.sq (kq eig (V x) + 1) (Ply.tau * Q r) ≤ mkRat 1 (2^50)) := by
 obtain ⟨r', R', a, b⟩ := T.ex
 obtain rfl := R'.uniq R
 have N := (R.rest A).near
 have q := sq_parts (kq eig (V x)) (Ply.tau * Q r')
 have q' := sq_parts (kq eig (V x) + 1) (Ply.tau * Q r')
 obtain ⟨s1, s2, -, -⟩ := N.sn
 obtain ⟨c1, c2, -, -⟩ := N.cn
 have e : mkRat 1 (2^51) ≤ mkRat 1 (2^50) := by decide +kernel
 generalize Ply.s (Ply.tau * Q r') = S at *
 generalize Ply.c (Ply.tau * Q r') = C at *
 generalize mkRat 1 (2^51) = E1 at *
 generalize mkRat 1 (2^50) = E2 at *
 have sam : ∀ {u v : Nat}, V u = V v → Q u = Q v := fun h => Q_congr h
 have neg : ∀ {u v : Nat}, V u = -V v → Q u = -Q v := fun h => Q_neg h
 unfold vq at a b
 have k4 : kq eig (V x) % 4 = 0 ∨ kq eig (V x) % 4 = 1 ∨ kq eig (V x) % 4 = 2 ∨ kq eig (V x) % 4 = 3 := by omega
 generalize kq eig (V x) = k at *
 rcases k4 with h | h | h | h
 · rw [if_pos h] at a
   rw [if_neg (by omega), if_pos (by omega)] at b
   rw [q.1 h, q'.2.1 (by omega), sam a, sam b]
   exact ⟨⟨by grind, by grind⟩, ⟨by grind, by grind⟩⟩
 · rw [if_neg (by omega), if_pos h] at a
   rw [if_neg (by omega), if_neg (by omega), if_pos (by omega)] at b
   rw [q.2.1 h, q'.2.2.1 (by omega), sam a, neg b]
   exact ⟨⟨by grind, by grind⟩, ⟨by grind, by grind⟩⟩
 · rw [if_neg (by omega), if_neg (by omega), if_pos h] at a
   rw [if_neg (by omega), if_neg (by omega), if_neg (by omega)] at b
   rw [q.2.2.1 h, q'.2.2.2 (by omega), neg a, neg b]
   exact ⟨⟨by grind, by grind⟩, ⟨by grind, by grind⟩⟩
 · rw [if_neg (by omega), if_neg (by omega), if_neg (by omega)] at a
   rw [if_pos (by omega)] at b
   rw [q.2.2.2 h, q'.1 (by omega), neg a, sam b]
   exact ⟨⟨by grind, by grind⟩, ⟨by grind, by grind⟩⟩

theorem unit_st {p : Pr} (h : Unit1 p) (b1 b2 : Bool) : Unit1 (stP p b1 b2) := by
 obtain ⟨f1, f2, l⟩ := errS_zero h.ok
 have n1 : fitB noneW = true := by decide
 have n2 : fitB oneW = true := by decide
 have lo := h.lo
 have hi := h.hi
 have no : V noneW ≤ V oneW := by decide +kernel
 cases b1 <;> cases b2
 · exact h
 · exact ⟨show noneW < 18446744073709551616 by decide, h.l2, errS_of ⟨n1, f2⟩ (Int.le_trans lo l), Int.le_refl _, hi⟩
 · exact ⟨h.l1, show oneW < 18446744073709551616 by decide, errS_of ⟨f1, n2⟩ (Int.le_trans l hi), lo, Int.le_refl _⟩
 · exact ⟨show noneW < 18446744073709551616 by decide, show oneW < 18446744073709551616 by decide, errS_of ⟨n1, n2⟩ no, Int.le_refl _, Int.le_refl _⟩
theorem unit_all : Unit1 (noneW, oneW) := ⟨by decide, by decide, by decide +kernel, Int.le_refl _, Int.le_refl _⟩

theorem unit_int : unit = ((2 ^ 1074 : Int) : Rat) := (congrArg (fun z : Int => (z : Rat)) (two_cast 1074)).symm
theorem four_le {a : Nat} {n : Int} : 4 * Q a ≤ (n : Rat) ↔ 4 * V a ≤ n * 2 ^ 1074 := by
 have up := unit_pos
 have u := unit_int
 have e : 4 * Q a * unit = ((4 * V a : Int) : Rat) := by rw [Rat.mul_assoc, Q_unit, Rat.intCast_mul]; rfl
 have f : (n : Rat) * unit = ((n * 2 ^ 1074 : Int) : Rat) := by rw [Rat.intCast_mul, u]
 rw [← Rat.intCast_le_intCast, ← e, ← f]
 exact ⟨fun h => Rat.mul_le_mul_of_nonneg_right h (Rat.le_of_lt up), fun h => Rat.le_of_mul_le_mul_right h up⟩
theorem le_four {b : Nat} {n : Int} : (n : Rat) ≤ 4 * Q b ↔ n * 2 ^ 1074 ≤ 4 * V b := by
 have up := unit_pos
 have u := unit_int
 have e : 4 * Q b * unit = ((4 * V b : Int) : Rat) := by rw [Rat.mul_assoc, Q_unit, Rat.intCast_mul]; rfl
 have f : (n : Rat) * unit = ((n * 2 ^ 1074 : Int) : Rat) := by rw [Rat.intCast_mul, u]
 rw [← Rat.intCast_le_intCast, ← e, ← f]
 exact ⟨fun h => Rat.mul_le_mul_of_nonneg_right h (Rat.le_of_lt up), fun h => Rat.le_of_mul_le_mul_right h up⟩
theorem top_le_any {D : Nat} {z n : Int} (h : z ≤ n * 2 ^ D) : -(-z / 2 ^ D) ≤ n := by
 have P : (0 : Int) < 2 ^ D := Int.pow_pos (by omega)
 have : -n ≤ -z / 2 ^ D := by rw [Int.le_ediv_iff_mul_le P, Int.neg_mul]; omega
 omega
theorem le_bot_any {D : Nat} {z n : Int} (h : n * 2 ^ D ≤ z) : n ≤ z / 2 ^ D := by
 have P : (0 : Int) < 2 ^ D := Int.pow_pos (by omega)
 rwa [Int.le_ediv_iff_mul_le P]
theorem pass_no {a b : Nat} {k : Int} (h : passB a b k = false) (n : Int) (hn : n % 4 = k) (h1 : 4 * Q a ≤ (n : Rat)) : ¬ (n : Rat) ≤ 4 * Q b := by
 intro h2
 have t : topN a ≤ n := top_le_any (four_le.1 h1)
 have u : n ≤ botN b := le_bot_any (le_four.1 h2)
 unfold passB at h
 have g := of_decide_eq_false h
 omega
theorem ps_lo {p : Pr} {b1 b2 : Bool} : (b2 = true ∧ (ps (stP p b1 b2)).1 = -1) ∨ (b2 = false ∧ (ps (stP p b1 b2)).1 = (ps p).1) := by
 cases b2
 · exact .inr ⟨rfl, rfl⟩
 · exact .inl ⟨rfl, none_Q⟩
theorem ps_hi {p : Pr} {b1 b2 : Bool} : (b1 = true ∧ (ps (stP p b1 b2)).2 = 1) ∨ (b1 = false ∧ (ps (stP p b1 b2)).2 = (ps p).2) := by
 cases b1
 · exact .inr ⟨rfl, rfl⟩
 · exact .inl ⟨rfl, one_Q⟩
theorem spans_in {a b x r : Nat} {u v : Pr} (A : Ang x) (R : Rst x r) (S : SpRes (a, b) u v 0) (h1 : V a ≤ V x) (h2 : V x ≤ V b) :
 Unit1 u ∧ Unit1 v ∧ In (Ply.sq (kq eig (V x)) (Ply.tau * Q r)) (ps u) ∧ In (Ply.sq (kq eig (V x) + 1) (Ply.tau * Q r)) (ps v) := by
 obtain ⟨m, fm, U, wide, slim⟩ := S.ok rfl
 have H := R.rest A
 have bd := H.Q_bd
 have tp := Ply.top_mul bd.1 bd.2
 have o1 := Ply.sq_le_one tp.1 tp.2 (kq eig (V x))
 have o2 := Ply.sq_le_one tp.1 tp.2 (kq eig (V x) + 1)
 by_cases c : V oneW ≤ V m
 · obtain ⟨rfl, rfl⟩ := wide c
   have e : ps (noneW, oneW) = (-1, 1) := by unfold ps sp; rw [none_Q, one_Q]
   rw [e]
   exact ⟨unit_all, unit_all, ⟨o1.1, o1.2⟩, ⟨o2.1, o2.2⟩⟩
 · obtain ⟨S1, C1, T1, D1, HA, HB, rfl, rfl⟩ := slim c
   obtain ⟨e1, e2, e3⟩ := errT_zero (S.err.symm : errT a b = 0)
   have u1 := unit_hull HA.up HB.up
   have u2 := unit_hull HA.uq HB.uq
   obtain ⟨t, Ra, ia, ja⟩ := HA.rest
   obtain ⟨z, Rb, ib, jb⟩ := HB.rest
   have sx := says_word (r := r) R.v
   have sa := says_word (r := t) Ra.v
   have sb := says_word (r := z) Rb.v
   have l1 := Q_le.2 h1
   have l2 := Q_le.2 h2
   refine ⟨unit_st u1.1 _ _, unit_st u2.1 _ _, ?_, ?_⟩
   · refine spans_hold sx sa sb l1 l2 ia ib ?_ ?_
     · rcases ps_lo (p := hullP S1 T1) (b1 := passB a b 1) (b2 := passB a b 3) with ⟨_, g⟩ | ⟨n, g⟩
       · exact .inl g
       · exact .inr ⟨g ▸ Q_le.2 u1.2.1, g ▸ Q_le.2 u1.2.2.1, fun n' hn' => pass_no n n' hn'⟩
     · rcases ps_hi (p := hullP S1 T1) (b1 := passB a b 1) (b2 := passB a b 3) with ⟨_, g⟩ | ⟨n, g⟩
       · exact .inl g
       · exact .inr ⟨g ▸ Q_le.2 u1.2.2.2.1, g ▸ Q_le.2 u1.2.2.2.2, fun n' hn' => pass_no n n' hn'⟩
   · refine spans_hold_cos sx sa sb l1 l2 ja jb ?_ ?_
     · rcases ps_lo (p := hullP C1 D1) (b1 := passB a b 0) (b2 := passB a b 2) with ⟨_, g⟩ | ⟨n, g⟩
       · exact .inl g
       · exact .inr ⟨g ▸ Q_le.2 u2.2.1, g ▸ Q_le.2 u2.2.2.1, fun n' hn' => pass_no n n' hn'⟩
     · rcases ps_hi (p := hullP C1 D1) (b1 := passB a b 0) (b2 := passB a b 2) with ⟨_, g⟩ | ⟨n, g⟩
       · exact .inl g
       · exact .inr ⟨g ▸ Q_le.2 u2.2.2.2.1, g ▸ Q_le.2 u2.2.2.2.2, fun n' hn' => pass_no n n' hn'⟩
end Go.Proofs.YtdfcchocabapkaaGreat
