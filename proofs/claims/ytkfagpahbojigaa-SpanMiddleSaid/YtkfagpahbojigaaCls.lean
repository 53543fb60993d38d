/- Proved here: blocks that hold spans, through calls, allocations and stores; the laws' awake, over the translated code. -/
import Derived.Test.YtkfagpahbojigaaSmd
namespace Go.Proofs.Ytkfagpahbojigaa
open Go.ChangeShapes Go.WideShapes Go.ChangeAt Go.RowKit Ieee.Own

/-! ### blocks that hold spans -/
/-- the call's own blocks so far: where, and what each holds -/
structure Cls (w0 : World) (L : List (Nat × Nat × Nat)) (w : World) : Prop where
  old : Below w0.heap.size w0 w
  blk : ∀ (j g x y : Nat), L[j]? = some (g, x, y) → w0.heap.size ≤ g ∧ Blk w g x y
  inj : ∀ (i j g x y u v : Nat), L[i]? = some (g, x, y) → L[j]? = some (g, u, v) → i = j
theorem Cls.nil (w : World) : Cls w [] w := ⟨Below.refl _ w, fun j g x y h => by simp at h, fun i j g x y u v h => by simp at h⟩
theorem Cls.on {w0 w w' : World} {L : List (Nat × Nat × Nat)} (C : Cls w0 L w) (h : Below w.heap.size w w') : Cls w0 L w' :=
  ⟨C.old.trans (h.mono C.old.size), fun j g x y hj => ⟨(C.blk j g x y hj).1, (C.blk j g x y hj).2.on h⟩, C.inj⟩
theorem Blk.box (w : World) (a b : Nat) : Blk (w.alloc (boxO a b)) w.heap.size a b := by
  have S : Blocks w [boxO a b] (w.alloc (boxO a b)) := (Blocks.nil w).alloc (by simp) _
  unfold boxO at S
  exact ⟨by simp, S.cell 0 rfl 0 w.heap.size rfl, S.cell 0 rfl 1 w.heap.size rfl, S.free 0 rfl 0 w.heap.size rfl, S.free 0 rfl 1 w.heap.size rfl⟩
theorem Cls.new {w0 w : World} {L : List (Nat × Nat × Nat)} (C : Cls w0 L w) (a b : Nat) : Cls w0 (L ++ [(w.heap.size, a, b)]) (w.alloc (boxO a b)) := by
  have hb : Below w.heap.size w (w.alloc (boxO a b)) := (Below.refl _ w).alloc (Nat.le_refl _) _
  refine ⟨C.old.trans (hb.mono C.old.size), fun j g x y hj => ?_, fun i j g x y u v hi hj => ?_⟩
  · by_cases hl : j < L.length
    · rw [List.getElem?_append_left hl] at hj
      exact ⟨(C.blk j g x y hj).1, (C.blk j g x y hj).2.on hb⟩
    · have hj' : j = L.length := by
        have := (List.getElem?_eq_some_iff.1 hj).1
        simp at this; omega
      subst hj'
      simp at hj
      obtain ⟨rfl, rfl, rfl⟩ := hj
      exact ⟨C.old.size, Blk.box w _ _⟩
  · have key : ∀ k, k < L.length → ∀ x y, L[k]? = some (g, x, y) → g < w.heap.size := fun k _ x y h => (C.blk k g x y h).2.lt
    have last : ∀ k x y, (L ++ [(w.heap.size, a, b)])[k]? = some (g, x, y) → ¬ k < L.length → k = L.length ∧ g = w.heap.size := fun k x y h hk => by
      have h1 := (List.getElem?_eq_some_iff.1 h).1
      simp at h1
      have hk' : k = L.length := by omega
      subst hk'
      simp at h
      exact ⟨rfl, h.1.symm⟩
    by_cases hil : i < L.length <;> by_cases hjl : j < L.length
    · rw [List.getElem?_append_left hil] at hi
      rw [List.getElem?_append_left hjl] at hj
      exact C.inj i j g x y u v hi hj
    · obtain ⟨-, e⟩ := last j u v hj hjl
      rw [List.getElem?_append_left hil] at hi
      have := key i hil x y hi
      omega
    · obtain ⟨-, e⟩ := last i x y hi hil
      rw [List.getElem?_append_left hjl] at hj
      have := key j hjl u v hj
      omega
    · have := (last i x y hi hil).1
      have := (last j u v hj hjl).1
      omega
theorem Cls.put {w0 w : World} {L : List (Nat × Nat × Nat)} (C : Cls w0 L w) (j : Nat) {g x y : Nat} (hj : L[j]? = some (g, x, y)) (s t : Nat) : Cls w0 (L.set j (g, s, t)) (put2 w g s t) := by
  have hl := (List.getElem?_eq_some_iff.1 hj).1
  have hg := C.blk j g x y hj
  refine ⟨put2_below C.old hg.1 s t, fun k h p q hk => ?_, fun i k h p q u v hi hk => ?_⟩
  · by_cases hjk : j = k
    · subst hjk
      rw [List.getElem?_set_self hl] at hk
      simp at hk
      obtain ⟨rfl, rfl, rfl⟩ := hk
      exact ⟨hg.1, hg.2.put _ _⟩
    · rw [List.getElem?_set_ne hjk] at hk
      refine ⟨(C.blk k h p q hk).1, (C.blk k h p q hk).2.other (fun e => ?_) _ _⟩
      subst e
      exact hjk (C.inj j k _ _ _ _ _ hj hk)
  · have back : ∀ n p q, (L.set j (g, s, t))[n]? = some (h, p, q) → ∃ p' q', L[n]? = some (h, p', q') := fun n p q hn => by
      by_cases hjn : j = n
      · subst hjn
        rw [List.getElem?_set_self hl] at hn
        simp at hn
        rw [← hn.1]
        exact ⟨_, _, hj⟩
      · rw [List.getElem?_set_ne hjn] at hn; exact ⟨_, _, hn⟩
    obtain ⟨p1, q1, h1⟩ := back i p q hi
    obtain ⟨p2, q2, h2⟩ := back k u v hk
    exact C.inj i k h _ _ _ _ h1 h2
theorem Cls.at_ {w0 w : World} {L : List (Nat × Nat × Nat)} (C : Cls w0 L w) (j : Nat) {g x y : Nat} (hj : L[j]? = some (g, x, y)) : Blk w g x y := (C.blk j g x y hj).2
theorem Cls.draws {w0 w : World} {L : List (Nat × Nat × Nat)} (C : Cls w0 L w) : Cls w0 L w.drew := ⟨C.old.drew, fun j g x y h => ⟨(C.blk j g x y h).1, ⟨(C.at_ j h).1, (C.at_ j h).2, (C.at_ j h).3, (C.at_ j h).4, (C.at_ j h).5⟩⟩, C.inj⟩

/-! ### awake -/
theorem ssign_gen {p q : Nat} (h1 : p < 18446744073709551616) (h2 : q < 18446744073709551616) (h0 : errS p q = 0) (t : (FloatKind.f64.format.order p 0 == some Ordering.gt) = true) (w : World) : Calls Try.prog 43 #[spanV p q] w fun e w' => e = .returned (.int .i64 1) ∧ Below w.heap.size w w' := by
  have C := Lib.hid (fun w => scheck_run p q h1 h2 w)
  rw [h0] at C
  have S0 : Blocks w [boxO p q] (w.alloc (boxO p q)) := (Blocks.nil w).alloc (by simp) _
  unfold boxO at S0
  unfold spanV at *
  replace S0 := Lib.hid S0
  clear h0 h1 h2
  go_enter Try.func43, Try.ntmps43
  go_wp2_with fail
  have S := S0.out
  clear S0
  generalize w.alloc _ = wr at *
  refine (C.out wr).mono ?_
  rintro _ w1 ⟨rfl, hb1⟩
  have S1 := S.on hb1
  have c00 := S1.cell 0 rfl 0 w.heap.size rfl
  have B1 := Lib.hid S1.old
  clear S S1 hb1
  go_wp2_with fail
  go_ret
  exact ⟨rfl, B1.out⟩
theorem ssign_one (w : World) : Calls Try.prog 43 #[spanV 4607182418800017408 4611686018427387904] w fun e w' => e = .returned (.int .i64 1) ∧ Below w.heap.size w w' :=
  ssign_gen (by decide) (by decide) (by decide +kernel) (by decide +kernel) w
theorem awake_add (w : World) : Calls Try.prog 12 #[spanV 4607182418800017408 4611686018427387904, spanV 4613937818241073152 4617315517961601024] w fun e w' => e = .returned (spanE 4616189618054758400 4619567317775286272 0) ∧ Below w.heap.size w w' := by
  refine (sadd_run _ _ _ _ (by decide) (by decide) (by decide) (by decide) w).mono fun e w' ⟨h, hb⟩ => ⟨?_, hb⟩
  have e0 : errSS 4607182418800017408 4611686018427387904 4613937818241073152 4617315517961601024 = 0 := by decide +kernel
  obtain ⟨lo, hi, rfl, hD, hU⟩ := h.1 e0
  have f4 : FinW 4616189618054758400 := ⟨by omega, by omega⟩
  have f7 : FinW 4619567317775286272 := ⟨by omega, by omega⟩
  have d4 := exact_dn f4 (z := V 4607182418800017408 + V 4613937818241073152) (by decide +kernel)
  have u7 := exact_up f7 (z := V 4611686018427387904 + V 4617315517961601024) (by decide +kernel)
  rw [toldE_congr hD.fin f4 hU.fin f7 (hD.uniq d4) (hU.uniq u7)]
  exact congrArg Ending.returned (show toldE 4616189618054758400 4619567317775286272 = spanE 4616189618054758400 4619567317775286272 0 by
    unfold toldE
    rw [if_neg (by decide +kernel), show lowW 4616189618054758400 = 4616189618054758400 by decide +kernel, show highW 4619567317775286272 = 4619567317775286272 by decide +kernel])
theorem awake_run (w : World) : Calls Try.prog 11 #[] w fun e w' => e = .returned (.bool true) ∧ Below w.heap.size w w' := by
  have A := Lib.hid (fun w => awake_add w)
  have SG := Lib.hid (fun w => ssign_one w)
  have hst := @fstore
  have t1 : (FloatKind.f64.format.order 4616189618054758400 4616189618054758400 == some Ordering.eq) = true := by decide +kernel
  have t2 : (FloatKind.f64.format.order 4619567317775286272 4619567317775286272 == some Ordering.eq) = true := by decide +kernel
  unfold spanE at A
  unfold spanV at A SG
  go_enter Try.func11, Try.ntmps11
  go_wp2_with fail
  refine (A.out w).mono ?_
  rintro _ w1 ⟨rfl, hb1⟩
  have C1 := ((Cls.nil w).on hb1).new 4616189618054758400 4619567317775286272
  unfold boxO at C1
  replace C1 := Lib.hid C1
  clear hb1
  go_wp2_with fail
  refine (SG.out _).mono ?_
  rintro _ w2 ⟨rfl, hb2⟩
  have B2 := Lib.hid (C1.out.on hb2).old
  clear C1 hb2
  go_wp2_with fail
  go_ret
  exact ⟨rfl, B2.out⟩
end Go.Proofs.Ytkfagpahbojigaa
