/- Proved here: for all orbits and days the law OrbitHolds returns true: a place lies by its box. No conditions. -/
import Derived.Test.YtdfcchocabapkaaGreatRows
import Derived.Test.YtdfcchocabapkaaGreatJq13
import Derived.Test.YtdfcchocabapkaaGreatJq2
set_option maxHeartbeats 2000000
set_option maxRecDepth 100000
namespace Go.Proofs.YtdfcchocabapkaaGreat.orbitHolds
open Go.ChangeShapes Go.WideShapes Go.ChangeAt Go.RowKit

open Ieee.Own Pol
theorem walk (w : World) (a0 : Ob) (h0 : ObW a0) (a1 : Nat) (h1 : a1 < 18446744073709551616) :
 Calls Tryz.prog 4 #[obV a0, .float .f64 a1] w fun e w' => e = .returned (.bool true) ∧ Below w.heap.size w w' := by
 have AW := Lib.hid awake11
 have CA := Lib.hid (fun w => oat_run h0 h1 w)
 obtain ⟨A, hA⟩ : ∃ A, A = atR a0 a1 := ⟨_, rfl⟩
 rw [← hA] at CA
 obtain ⟨⟨q1, q2, q3⟩, k⟩ := A
 by_cases c : k = 0
 · subst c
   obtain ⟨dq, P, c1, c2⟩ := orbit_holds h0 h1 hA.symm
   have CB := Lib.hid c1
   have CD := Lib.hid c2
   have r1 := run_div _ _ _ dq
   clear c1 c2 dq hA h0 h1
   obtain ⟨ax, ec, ti, no, pe, ph, ra⟩ := a0
   obtain ⟨⟨p1, p2⟩, ⟨p3, p4⟩, ⟨p5, p6⟩⟩ := P
   unfold boxE at CB
   unfold boxV at CB CD
   unfold vecE at CA
   unfold vecV at CA CD
   unfold obV pv spanV at *
   unfold w12 at *
   dsimp only at *
   generalize qX ax 4661225614328463360 = lm at *
   have K0 := kv1 w 24 [.float .f64 ax, .float .f64 ec, .float .f64 ti, .float .f64 no, .float .f64 pe, .float .f64 ph, .float .f64 ra]
   simp only [objV] at K0
   have hst := @fstore
   replace K0 := Lib.hid K0
   go_enter Tryz.func4, Tryz.ntmps4
   go_wp2_with fail
   have K := K0.out
   clear K0
   generalize w.alloc _ = wr at *
   refine (AW.out wr).mono ?_
   rintro _ v1 ⟨rfl, hb⟩
   replace K := K.on hb
   clear hb
   have c0_0 := K.ce 0 0 rfl rfl
   have c0_1 := K.ce 0 1 rfl rfl
   have c0_2 := K.ce 0 2 rfl rfl
   have c0_3 := K.ce 0 3 rfl rfl
   have c0_4 := K.ce 0 4 rfl rfl
   have c0_5 := K.ce 0 5 rfl rfl
   have c0_6 := K.ce 0 6 rfl rfl
   replace K := Lib.hid K
   go_wp2_with fail
   replace K := K.out
   refine (CA.out v1).mono ?_
   rintro _ v2 ⟨rfl, hb⟩
   clear c0_0 c0_1 c0_2 c0_3 c0_4 c0_5 c0_6
   replace K := K.on hb
   clear hb
   replace K := K.new 39 [.float .f64 q1, .float .f64 q2, .float .f64 q3]
   simp only [objV, List.cons_append, List.nil_append] at K
   have c0_0 := K.ce 0 0 rfl rfl
   have c0_1 := K.ce 0 1 rfl rfl
   have c0_2 := K.ce 0 2 rfl rfl
   have c0_3 := K.ce 0 3 rfl rfl
   have c0_4 := K.ce 0 4 rfl rfl
   have c0_5 := K.ce 0 5 rfl rfl
   have c0_6 := K.ce 0 6 rfl rfl
   replace K := Lib.hid K
   go_wp2_with fail
   replace K := K.out
   generalize v2.alloc _ = u2 at *
   generalize v2.heap.size = g1 at *
   refine (CB.out u2).mono ?_
   rintro _ v3 ⟨rfl, hb⟩
   clear c0_0 c0_1 c0_2 c0_3 c0_4 c0_5 c0_6
   replace K := K.on hb
   clear hb
   replace K := K.new 33 [.float .f64 p1, .float .f64 p2, .float .f64 p3, .float .f64 p4, .float .f64 p5, .float .f64 p6]
   simp only [objV, List.cons_append, List.nil_append] at K
   have c2_0 := K.ce 2 0 rfl rfl
   have c2_1 := K.ce 2 1 rfl rfl
   have c2_2 := K.ce 2 2 rfl rfl
   have c2_3 := K.ce 2 3 rfl rfl
   have c2_4 := K.ce 2 4 rfl rfl
   have c2_5 := K.ce 2 5 rfl rfl
   have c1_0 := K.ce 1 0 rfl rfl
   have c1_1 := K.ce 1 1 rfl rfl
   have c1_2 := K.ce 1 2 rfl rfl
   have c0_0 := K.ce 0 0 rfl rfl
   replace K := Lib.hid K
   go_wp2_with fail
   replace K := K.out
   generalize v3.alloc _ = u3 at *
   generalize v3.heap.size = g2 at *
   refine (CD.out u3).mono ?_
   rintro _ v4 ⟨rfl, hb⟩
   clear c2_0 c2_1 c2_2 c2_3 c2_4 c2_5 c1_0 c1_1 c1_2 c0_0
   replace K := K.on hb
   clear hb
   replace K := Lib.hid K
   go_wp2_with fail
   go_ret
   exact ⟨rfl, K.out.old⟩
 · have tk : (k != 0) = true := by simpa using c
   clear c hA h0 h1
   obtain ⟨ax, ec, ti, no, pe, ph, ra⟩ := a0
   unfold vecE at CA
   unfold vecV at CA
   unfold obV at *
   dsimp only at *
   have K0 := kv1 w 24 [.float .f64 ax, .float .f64 ec, .float .f64 ti, .float .f64 no, .float .f64 pe, .float .f64 ph, .float .f64 ra]
   simp only [objV] at K0
   have hst := @fstore
   replace K0 := Lib.hid K0
   go_enter Tryz.func4, Tryz.ntmps4
   go_wp2_with fail
   have K := K0.out
   clear K0
   generalize w.alloc _ = wr at *
   refine (AW.out wr).mono ?_
   rintro _ v1 ⟨rfl, hb⟩
   replace K := K.on hb
   clear hb
   have c0_0 := K.ce 0 0 rfl rfl
   have c0_1 := K.ce 0 1 rfl rfl
   have c0_2 := K.ce 0 2 rfl rfl
   have c0_3 := K.ce 0 3 rfl rfl
   have c0_4 := K.ce 0 4 rfl rfl
   have c0_5 := K.ce 0 5 rfl rfl
   have c0_6 := K.ce 0 6 rfl rfl
   replace K := Lib.hid K
   go_wp2_with fail
   replace K := K.out
   refine (CA.out v1).mono ?_
   rintro _ v2 ⟨rfl, hb⟩
   clear c0_0 c0_1 c0_2 c0_3 c0_4 c0_5 c0_6
   replace K := K.on hb
   clear hb
   replace K := K.new 39 [.float .f64 q1, .float .f64 q2, .float .f64 q3]
   simp only [objV, List.cons_append, List.nil_append] at K
   replace K := Lib.hid K
   go_wp2_with fail
   go_ret
   exact ⟨rfl, K.out.old⟩

theorem own : ownKnob Tryz.prog.godebug = none := by kernel_rfl
theorem laidOut : laidOutB Tryz.prog = true := by kernel_rfl
theorem lifted (os : Os) (started : os.Started) (H : Type) (enc : TypeId × Value → H) :
 ReturnsInHanded {} Tryz.checked os 4 .any (Rows.orbitHoldsSpec.pre6 enc Tryz.prog Tryz.f4 Rows.orbitHoldsRow.domain false) (Rows.orbitHoldsSpec.post enc Tryz.prog Tryz.f4 false true false false) := by
 refine returnsInHanded_of_change_sized (C := Tryz.checked) own started (by kernel_rfl) Tryz.func4
  (ChangeSpec.witness6 (enc := enc) (C := Tryz.checked) false ⟨#[], #[.agg #[.float .f64 0, .float .f64 0, .float .f64 0, .float .f64 0, .float .f64 0, .float .f64 0, .float .f64 0], .float .f64 0], []⟩ 8 (by kernel_rfl) (by kernel_rfl) (by kernel_rfl) (by kernel_rfl)) ?_
 intro W base args ds gs before hval0 hW _ hsz0 _
 have hsz : (DataW.weightsEach Tryz.prog (Tryz.f4.params.toList ++ Rows.orbitHoldsSpec.plain.varTypes Tryz.prog) (ds ++ gs)).all (· ≤ reachBytes) = true := hsz0
 clear hsz0
 have hval : ∀ (j : Nat) t v, Tryz.f4.params[j]? = some t → args[j]? = some v → Value.okWide Tryz.prog W .any base t v := hval0
 have hW' := hW
 obtain ⟨p, q, hA0, hV, rfl, _, _⟩ := hW
 have hA : DataW.TrodAll enc Tryz.prog W 0 (fun _ => true) true Tryz.f4.params.toList args.toList ds p := hA0
 rw [Tryz.params4] at hA hval hsz
 obtain ⟨v0, vs0, d0, ds0, p0, q0, hargs, rfl, rfl, t0, r0⟩ := trodAll_cons hA
 obtain ⟨v1, vs1, d1, ds1, p1, q1, rfl, rfl, rfl, t1, r1⟩ := trodAll_cons r0
 obtain ⟨rfl, rfl, rfl⟩ := trodAll_nil r1
 obtain rfl : args = #[v0, v1] := by cases args; simp_all
 obtain ⟨rfl, rfl⟩ := trodVars_none hV
 simp only [List.append_nil] at hW'
 have tk0 := t0
 obtain ⟨a0, rfl, wa0⟩ := open_orbit (hval 0 24 v0 rfl rfl) t0
 have hlt0 : ∀ x ∈ p0, x.block < W.heap.size := fun x hx => by have := hW'.lt x (by simp [hx]); simpa using this
 obtain ⟨a1, rfl, rfl, rfl, w1⟩ := open_float Tryz.underlying22 (hval 1 22 v1 rfl rfl) t1
 clear hA0 hval0
 refine (walk W a0 wa0 a1 (wf64o w1)).mono fun e W' ⟨he, hb⟩ => ?_
 subst he
 refine ⟨_, rfl, _, _, _, [], _, [], hW', trodAll_cons_mk (shut_bool Tryz.underlying4 _) trodAll_mk0, (trodAll_cons_mk (Below.trod laidOut (by kernel_rfl) (of_decide_eq_true (by kernel_rfl)) tk0 hb hlt0) (trodAll_cons_mk (shut_float Tryz.underlying22 w1) trodAll_mk0)), rfl, hb.frame _, fun h => by cases h⟩

theorem over : Rows.orbitHoldsRow.holds Tryz.pinned (OpenSpec.ofChange Rows.orbitHoldsSpec) :=
 OpenClaim.holds_of_wide 4 Tryz.f4 rfl rfl rfl rfl rfl rfl rfl ⟨rfl, rfl, rfl, rfl, rfl⟩ rfl rfl rfl rfl rfl (by kernel_rfl) Tryz.func4 (by kernel_rfl)
  (of_decide_eq_true (by kernel_rfl)) (by unfold Func.isWrapper; first | (rw [if_pos (by decide +kernel)]; kernel_rfl) | (rw [if_neg (by decide +kernel)]; exact ⟨rfl, rfl⟩))
  (fun os started H enc _ => lifted os started H enc)

theorem proved : Rows.OrbitHoldsSaid :=
 over
end Go.Proofs.YtdfcchocabapkaaGreat.orbitHolds
