/- Proved here: DateTells returns true for every input (its only condition: that the input can be read as data). -/
import Derived.Test.YtppggaibhfajjaaDaw
import Derived.Test.YtppggaibhfajjaaDao
import Derived.Test.YtppggaibhfajjaaDas
import Derived.Test.YtppggaibhfajjaaDay
namespace Go.Proofs.Ytppggaibhfajjaa.dateTells
open Go.ChangeShapes Go.WideShapes Go.ChangeAt Go.RowKit

/-- a block of cells that stays -/
def PB (g : Nat) (l : Array Value) (w : World) : Prop := g < w.heap.size ∧ ∀ j, w.cell? ⟨g, j, none⟩ = l[j]?
theorem PB.on {g : Nat} {l : Array Value} {w w' : World} (h : PB g l w) (hb : Below w.heap.size w w') : PB g l w' :=
  ⟨Nat.lt_of_lt_of_le h.1 hb.size, fun j => (hb.cell (p := ⟨g, j, none⟩) h.1).trans (h.2 j)⟩
theorem PB.alloc {g : Nat} {l : Array Value} {w : World} (h : PB g l w) (o : Obj) : PB g l (w.alloc o) :=
  ⟨by have := h.1; simp; omega, fun j => by rw [World.cell?_alloc_past _ _ _ h.1]; exact h.2 j⟩
theorem PB.first (w : World) (l : Array Value) (T : TypeId) : PB w.heap.size l (w.alloc (.cells l T)) :=
  ⟨by simp, fun j => World.cell?_alloc_at _ _ _ _ rfl⟩
theorem toV_any (t : Int) : ∃ q0 q1 q2 q3 q4 q5 q6 k : Int, toV t = .tuple #[.agg #[.int .i64 q0, .int .i64 q1, .int .i64 q2, .int .i64 q3, .int .i64 q4, .int .i64 q5, .int .i64 q6], .int .i64 k] := by
  cases h : isI t with
  | true => exact ⟨_, _, _, _, _, _, _, _, toV_t h⟩
  | false => exact ⟨_, _, _, _, _, _, _, _, toV_f h⟩
theorem fromV_any (y m d h i s k : Int) : ∃ x e : Int, fromV y m d h i s k = .tuple #[.int .i64 x, .int .i64 e] := by
  unfold fromV
  split
  · exact ⟨_, _, rfl⟩
  · exact ⟨_, _, rfl⟩
theorem PB.drew {g : Nat} {l : Array Value} {w w' : World} (h : PB g l w) (hn : ∃ n, w' = w.drewN n) : PB g l w' := by
  obtain ⟨n, rfl⟩ := hn
  exact ⟨h.1, h.2⟩
set_option maxHeartbeats 2000000 in
set_option maxRecDepth 100000 in
theorem walk (w : World) (a0 : Int) (_h0 : (Lit.int .i64 a0).wf = true) (y1 m1 d1' h1 i1 s1 k1 : Int) (a2 : Int) (_h2 : (Lit.int .i64 a2).wf = true) :
    Calls Try.prog 3 #[.int .i64 a0, dAgg y1 m1 d1' h1 i1 s1 k1, .int .i64 a2] w fun e w' => e = .returned (.bool true) ∧ Below w.heap.size w w' := by
  have AW := Lib.hid awake_run
  have P0 := Lib.hid (PB.first w #[.int .i64 y1, .int .i64 m1, .int .i64 d1', .int .i64 h1, .int .i64 i1, .int .i64 s1, .int .i64 k1] 23)
  have B0 := Lib.hid (date_block w y1 m1 d1' h1 i1 s1 k1)
  have L1 := fun w => long_run a2 w
  have L2 := fun w => rlong_run a2 w
  have T1 : Hid (∀ w, Calls Try.prog 12 #[.int .i64 a0] w fun e w' => e = .returned (toV a0) ∧ Below w.heap.size w w') := fun w => to_run a0 w
  have T2 : Hid (∀ w, Calls Try.prog 13 #[.int .i64 a0] w fun e w' => e = .returned (toV a0) ∧ Below w.heap.size w w') := fun w => rto_run a0 w
  have F1 : Hid (∀ w, Calls Try.prog 14 #[dAgg y1 m1 d1' h1 i1 s1 k1] w fun e w' => e = .returned (fromV y1 m1 d1' h1 i1 s1 k1) ∧ Below w.heap.size w w') := fun w => from_run y1 m1 d1' h1 i1 s1 k1 w
  have F2 : Hid (∀ w, Calls Try.prog 15 #[dAgg y1 m1 d1' h1 i1 s1 k1] w fun e w' => e = .returned (fromV y1 m1 d1' h1 i1 s1 k1) ∧ Below w.heap.size w w') := fun w => rfrom_run y1 m1 d1' h1 i1 s1 k1 w
  obtain ⟨q0, q1, q2, q3, q4, q5, q6, k, hq⟩ := toV_any a0
  obtain ⟨X, K, hx⟩ := fromV_any y1 m1 d1' h1 i1 s1 k1
  obtain ⟨r, z, DD⟩ := days_run a0
  rw [hq] at T1 T2
  rw [hx] at F1 F2
  unfold dAgg at *
  generalize lng a2 = lg at *
  have D1 : Hid (∀ w, Calls Try.prog 16 #[.int .i64 a0] w fun e w' => e = .returned (.tuple #[.float .f64 r, .int .i64 z]) ∧ w = w') := fun w => (DD w).1
  have D2 : Hid (∀ w, Calls Try.prog 17 #[.int .i64 a0] w fun e w' => e = .returned (.tuple #[.float .f64 r, .int .i64 z]) ∧ w = w') := fun w => (DD w).2
  have S := fun w => same_word r w
  clear hq hx DD
  go_enter Try.func3, Try.ntmps3
  go_wp2_with fail
  refine (AW.out _).mono ?_
  rintro _ v0 ⟨rfl, hb1⟩
  have P := Lib.hid (P0.out.on hb1)
  have B := Lib.hid (B0.out.trans (hb1.mono B0.out.size))
  clear AW P0 B0 hb1
  go_wp2_with (go_at_call 10; ((with_reducible refine (L1 _).mono ?_); rintro e w' ⟨rfl, rfl⟩))
  refine (L2 _).mono ?_
  rintro _ v1 ⟨rfl, hn⟩
  replace P := Lib.hid (P.out.drew hn)
  replace B := Lib.hid (drew_below B.out hn)
  clear L1 L2 hn
  go_wp2_with fail
  refine (T1.out _).mono ?_
  rintro _ v2 ⟨rfl, hb1⟩
  replace P := Lib.hid (P.out.on hb1)
  replace B := Lib.hid (B.out.trans (hb1.mono B.out.size))
  clear T1 hb1
  replace P := Lib.hid (P.out.alloc (.cells #[.int .i64 q0, .int .i64 q1, .int .i64 q2, .int .i64 q3, .int .i64 q4, .int .i64 q5, .int .i64 q6] 23))
  replace B := Lib.hid (B.out.alloc B.out.size (.cells #[.int .i64 q0, .int .i64 q1, .int .i64 q2, .int .i64 q3, .int .i64 q4, .int .i64 q5, .int .i64 q6] 23))
  have Q := Lib.hid (PB.first v2 #[.int .i64 q0, .int .i64 q1, .int .i64 q2, .int .i64 q3, .int .i64 q4, .int .i64 q5, .int .i64 q6] 23)
  go_wp2_with fail
  refine (T2.out _).mono ?_
  rintro _ v3 ⟨rfl, hb1⟩
  replace P := Lib.hid ((P.out.on hb1).alloc (.cells #[.int .i64 q0, .int .i64 q1, .int .i64 q2, .int .i64 q3, .int .i64 q4, .int .i64 q5, .int .i64 q6] 23))
  replace Q := Lib.hid ((Q.out.on hb1).alloc (.cells #[.int .i64 q0, .int .i64 q1, .int .i64 q2, .int .i64 q3, .int .i64 q4, .int .i64 q5, .int .i64 q6] 23))
  replace B := Lib.hid (B.out.trans (hb1.mono B.out.size))
  replace B := Lib.hid (B.out.alloc B.out.size (.cells #[.int .i64 q0, .int .i64 q1, .int .i64 q2, .int .i64 q3, .int .i64 q4, .int .i64 q5, .int .i64 q6] 23))
  have hp := P.out.2
  have hq := Q.out.2
  clear T2 hb1
  go_wp2_with fail
  clear hp hq
  refine (F1.out _).mono ?_
  rintro _ v4 ⟨rfl, hb1⟩
  replace P := Lib.hid (P.out.on hb1)
  replace B := Lib.hid (B.out.trans (hb1.mono B.out.size))
  have hp := P.out.2
  clear F1 hb1 Q
  go_wp2_with fail
  clear hp
  refine (F2.out _).mono ?_
  rintro _ v5 ⟨rfl, hb1⟩
  replace B := Lib.hid (B.out.trans (hb1.mono B.out.size))
  clear F2 hb1 P
  go_wp2_with fail
  refine (D1.out _).mono ?_
  rintro _ v6 ⟨rfl, rfl⟩
  clear D1
  go_wp2_with fail
  refine (D2.out _).mono ?_
  rintro _ v6 ⟨rfl, rfl⟩
  clear D2
  go_wp2_with (go_at_call 18; ((with_reducible refine (S _).mono ?_); rintro e w' ⟨rfl, rfl⟩))
  go_ret
  exact ⟨rfl, B.out⟩

theorem own : ownKnob Try.prog.godebug = none := by kernel_rfl
theorem laidOut : laidOutB Try.prog = true := by kernel_rfl
set_option maxRecDepth 100000 in
theorem lifted (os : Os) (started : os.Started) (H : Type) (enc : TypeId × Value → H) :
    ReturnsInHanded {} Try.checked os 3 .any (Rows.dateTellsSpec.pre6 enc Try.prog Try.f3 Rows.dateTellsRow.domain false) (Rows.dateTellsSpec.post enc Try.prog Try.f3 false true false false) := by
  refine returnsInHanded_of_change_sized (C := Try.checked) own started (by kernel_rfl) Try.func3
    (ChangeSpec.witness6 (enc := enc) (C := Try.checked) false ⟨#[], #[.int .i64 0, .agg #[.int .i64 0, .int .i64 0, .int .i64 0, .int .i64 0, .int .i64 0, .int .i64 0, .int .i64 0], .int .i64 0], []⟩ 8 (by kernel_rfl) (by kernel_rfl) (by kernel_rfl) (by kernel_rfl)) ?_
  intro W base args ds gs before hval0 hW _ hsz0 _
  have hsz : (DataW.weightsEach Try.prog (Try.f3.params.toList ++ Rows.dateTellsSpec.plain.varTypes Try.prog) (ds ++ gs)).all (· ≤ reachBytes) = true := hsz0
  clear hsz0
  have hval : ∀ (j : Nat) t v, Try.f3.params[j]? = some t → args[j]? = some v → Value.okWide Try.prog W .any base t v := hval0
  have hW' := hW
  obtain ⟨p, q, hA0, hV, rfl, _, _⟩ := hW
  have hA : DataW.TrodAll enc Try.prog W 0 (fun _ => true) true Try.f3.params.toList args.toList ds p := hA0
  rw [Try.params3] at hA hval hsz
  obtain ⟨v0, vs0, d0, ds0, p0, q0, hargs, rfl, rfl, t0, r0⟩ := trodAll_cons hA
  obtain ⟨v1, vs1, d1, ds1, p1, q1, rfl, rfl, rfl, t1, r1⟩ := trodAll_cons r0
  obtain ⟨v2, vs2, d2, ds2, p2, q2, rfl, rfl, rfl, t2, r2⟩ := trodAll_cons r1
  obtain ⟨rfl, rfl, rfl⟩ := trodAll_nil r2
  obtain rfl : args = #[v0, v1, v2] := by cases args; simp_all
  obtain ⟨rfl, rfl⟩ := trodVars_none hV
  simp only [List.append_nil] at hW'
  obtain ⟨a0, rfl, rfl, rfl, w0⟩ := open_int Try.underlying2 (hval 0 2 v0 rfl rfl) t0
  have tk1 := t1
  obtain ⟨y1, m1, d1', h1, i1, s1, k1, rfl⟩ := open_date (hval 1 23 v1 rfl rfl) t1
  have hlt1 : ∀ x ∈ p1, x.block < W.heap.size := fun x hx => by have := hW'.lt x (by simp [hx]); simpa using this
  obtain ⟨a2, rfl, rfl, rfl, w2⟩ := open_int Try.underlying3 (hval 2 3 v2 rfl rfl) t2
  clear hA0 hval0
  refine (walk W a0 w0 y1 m1 d1' h1 i1 s1 k1 a2 w2).mono fun e W' ⟨he, hb⟩ => ?_
  subst he
  refine ⟨_, rfl, _, _, _, [], _, [], hW', trodAll_cons_mk (shut_bool Try.underlying4 _) trodAll_mk0, (trodAll_cons_mk (shut_int Try.underlying2 w0) (trodAll_cons_mk (Below.trod laidOut (by kernel_rfl) (of_decide_eq_true (by kernel_rfl)) tk1 hb hlt1) (trodAll_cons_mk (shut_int Try.underlying3 w2) trodAll_mk0))), rfl, hb.frame _, fun h => by cases h⟩

theorem over : Rows.dateTellsRow.holds Try.pinned (OpenSpec.ofChange Rows.dateTellsSpec) :=
  OpenClaim.holds_of_wide 3 Try.f3 rfl rfl rfl rfl rfl rfl rfl ⟨rfl, rfl, rfl, rfl, rfl⟩ rfl rfl rfl rfl rfl (by kernel_rfl) Try.func3 (by kernel_rfl)
    (of_decide_eq_true (by kernel_rfl)) (by unfold Func.isWrapper; first | (rw [if_pos (by decide +kernel)]; kernel_rfl) | (rw [if_neg (by decide +kernel)]; exact ⟨rfl, rfl⟩))
    (fun os started H enc _ => lifted os started H enc)

theorem proved : Rows.DateTellsSaid :=
  over
end Go.Proofs.Ytppggaibhfajjaa.dateTells
