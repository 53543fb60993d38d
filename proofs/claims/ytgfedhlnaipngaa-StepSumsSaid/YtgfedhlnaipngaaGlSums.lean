/- Proved here: for all masses and numbers g the law StepSums returns true: sums and energies are the reference's, and what is handed in stays as it was. No conditions. -/
import Derived.Test.YtgfedhlnaipngaaRows
import Derived.Test.YtgfedhlnaipngaaJz10
import Derived.Test.YtgfedhlnaipngaaJz11
import Derived.Test.YtgfedhlnaipngaaJz12
import Derived.Test.YtgfedhlnaipngaaJz2
namespace Go.Proofs.Ytgfedhlnaipngaa.stepSums
open Go.ChangeShapes Go.WideShapes Go.ChangeAt Go.RowKit

set_option maxHeartbeats 4000000 in
set_option maxRecDepth 100000 in
theorem aeq_gen (d : Nat) (a b c : Int) (w : World) : (Op.equalIn (d + 1 + 1) 32 (.agg #[.int .i64 a, .int .i64 b, .int .i64 c]) (.agg #[.int .i64 a, .int .i64 b, .int .i64 c])).run Try.prog w = .ok true w := by
  have e : ∀ a b w, (Op.equalIn (d + 1) 2 (.int .i64 a) (.int .i64 b)).run Try.prog w = .ok (a == b) w := fun a b w => ieq_gen (P := Try.prog) d a b w Try.underlying2
  unfold Op.equalIn
  go_simp
  have r3 : List.range' 0 3 = [0, 1, 2] := rfl
  rw [r3]
  simp only [List.forIn_cons, List.forIn_nil]
  go_simp
set_option maxRecDepth 100000 in
theorem arr_eql (v : T3) (w : World) : (binOp .eql 32 (i3V v) (i3V v)).run Try.prog w = .ok (.bool true) w := by
  obtain ⟨a, b, c⟩ := v
  unfold i3V
  dsimp only
  have e1 : (Op.equalIn 10000 32 (.agg #[.int .i64 a, .int .i64 b, .int .i64 c]) (.agg #[.int .i64 a, .int .i64 b, .int .i64 c])).run Try.prog w = .ok true w := aeq_gen 9998 a b c w
  go_simp
set_option maxHeartbeats 2000000 in
set_option maxRecDepth 100000 in
theorem walk (w : World) (ao0 : Option Addr) (cap0 : Nat) (L0 : List Ma) (hc0 : L0.length ≤ cap0) (hm0 : cap0 ≤ maxLen) (ha0 : MAt w ao0 L0) (hw0 : MsW L0) (hr0 : cap0 * 56 ≤ 140737488351232) (hn0 : ao0 = none → cap0 = 0) (a1 : Nat) (h1 : a1 < 18446744073709551616) :
    Calls Try.prog 4 #[.slice ao0 L0.length cap0, .float .f64 a1] w fun e w' => e = .returned (.bool true) ∧ Below w.heap.size w w' := by
  have AW := Lib.hid awake14
  obtain ⟨n, hn⟩ : ∃ n, n = L0.length := ⟨_, rfl⟩
  rw [← hn] at hc0 ⊢
  have hrn : n * 56 ≤ 140737488351232 := by omega
  have hmn : n ≤ maxLen := by omega
  have hm2 : n ≤ 4611686018427387904 := by unfold maxLen at hmn; omega
  have hm3 : (n : Int) ≤ 4611686018427387904 := by omega
  have S1 := Lib.hid (fun W gr cr (h : MAt W (some ⟨gr, 0, none⟩) L0) => gsum_run (some ⟨gr, 0, none⟩) cr n L0 W hn hm2 h)
  have S2 := Lib.hid (fun W (h : MAt W ao0 L0) => rgsum_run ao0 cap0 n L0 W hn hm2 h)
  have E1 := Lib.hid (fun W gr cr (hc : n < cr) (h : MAt W (some ⟨gr, 0, none⟩) L0) => genergy_run (some ⟨gr, 0, none⟩) cr n L0 a1 W hn hm2 hc h1 h)
  have E2 := Lib.hid (fun W (h : MAt W ao0 L0) => rgenergy_run ao0 cap0 n L0 a1 W hn hm2 h1 h)
  replace hn := Lib.hid hn
  replace ha0 := Lib.hid ha0
  replace hw0 := Lib.hid hw0
  replace hmn := Lib.hid hmn
  replace hc0 := Lib.hid hc0
  replace hm0 := Lib.hid hm0
  replace hn0 := Lib.hid hn0
  replace hr0 := Lib.hid hr0
  replace h1 := Lib.hid h1
  have haT : Hid (∀ W, Below w.heap.size w W → MAt W ao0 L0) := Lib.hid fun W h => ha0.out.below (fun b o e k => ha0.out.lt b o e k) h
  have RO := Lib.hid (fun W (h : MAt W ao0 L0) => groomy_run ao0 cap0 n L0 W hn.out (by unfold maxLen; omega) (by omega) hn0.out h)
  have q := arr_eql (SumR L0).1
  unfold sumE at S1 S2
  unfold enE at E1 E2
  generalize SumR L0 = sm at *
  generalize EnR L0 a1 = em at *
  obtain ⟨⟨s0, s1, s2⟩, sk⟩ := sm
  obtain ⟨ex, ek⟩ := em
  unfold i3V at q S1 S2
  dsimp only at q S1 S2 E1 E2
  have t1 : (sk == sk) = true := by simp
  have t2 : (ek == ek) = true := by simp
  have hst := @fstore
  have hsi := @istore
  go_enter Try.func4, Try.ntmps4
  go_wp2_with fail
  refine (AW.out w).mono ?_
  rintro _ v1 ⟨rfl, hb⟩
  have K := Lib.hid hb
  clear hb AW
  go_wp2_with fail
  refine (RO.out v1 (haT.out _ K.out)).mono ?_
  rintro _ v4 ⟨gr, cr, rfl, hr1, hr2, R4, hgr, hb⟩
  have K4 := Lib.hid (K.out.trans (hb.mono K.out.size))
  replace R4 := Lib.hid R4
  replace hr1 := Lib.hid hr1
  replace hr2 := Lib.hid hr2
  clear hb hgr K RO
  go_wp2_with fail
  refine (S1.out v4 gr cr R4.out.left).mono ?_
  rintro _ v5 ⟨rfl, hb⟩
  have R5 := RAt.on R4.out hb
  have K5 := K4.out.trans (hb.mono K4.out.size)
  clear hb K4 R4 S1
  generalize hg5 : v5.heap.size = g5 at *
  have KV := (Kv.nil v5).new 32 [.int .i64 s0, .int .i64 s1, .int .i64 s2]
  rw [hg5] at KV
  simp only [objV, List.nil_append] at KV
  have R5a := Lib.hid (RAt.alloc R5 (.cells #[.int .i64 s0, .int .i64 s1, .int .i64 s2] 32))
  have K5a := Lib.hid (K5.alloc K5.size (.cells #[.int .i64 s0, .int .i64 s1, .int .i64 s2] 32))
  replace KV := Lib.hid KV
  clear K5 R5
  go_wp2_with fail
  refine (S2.out _ (haT.out _ K5a.out)).mono ?_
  rintro _ v6 ⟨rfl, hb⟩
  have KW := KV.out.on hb
  have K6 := K5a.out.trans (hb.mono K5a.out.size)
  have R6 := RAt.on R5a.out hb
  clear KV hb K5a R5a S2
  generalize hg6 : v6.heap.size = g6 at *
  have KX := KW.new 32 [.int .i64 s0, .int .i64 s1, .int .i64 s2]
  rw [hg6] at KX
  simp only [objV, List.cons_append, List.nil_append] at KX
  have R6a := Lib.hid (RAt.alloc R6 (.cells #[.int .i64 s0, .int .i64 s1, .int .i64 s2] 32))
  have K6a := Lib.hid (K6.alloc K6.size (.cells #[.int .i64 s0, .int .i64 s1, .int .i64 s2] 32))
  replace KX := Lib.hid KX
  clear KW K6 R6
  go_wp2_with fail
  refine (E1.out _ gr cr (by have := hr1.out; omega) (MAt.left (L := L0) (M := [mk7, mk8]) R6a.out)).mono ?_
  rintro _ v7 ⟨rfl, hb⟩
  have KY := Lib.hid (KX.out.on hb)
  have K7 := Lib.hid (K6a.out.trans (hb.mono K6a.out.size))
  have R7 := Lib.hid (RAt.on R6a.out hb)
  clear KX hb K6a R6a E1
  go_wp2_with fail
  refine (E2.out _ (haT.out _ K7.out)).mono ?_
  rintro _ v8 ⟨rfl, hb⟩
  have KZ := KY.out.on hb
  have K8 := Lib.hid (K7.out.trans (hb.mono K7.out.size))
  have R8 := Lib.hid (RAt.on R7.out hb)
  have c0 := (KZ.at_ 0 rfl).at_ 0 _ rfl
  have c1 := (KZ.at_ 0 rfl).at_ 1 _ rfl
  have c2 := (KZ.at_ 0 rfl).at_ 2 _ rfl
  have d0 := (KZ.at_ 1 rfl).at_ 0 _ rfl
  have d1 := (KZ.at_ 1 rfl).at_ 1 _ rfl
  have d2 := (KZ.at_ 1 rfl).at_ 2 _ rfl
  clear KY KZ hb K7 R7 E2
  go_wp2_with (go_at_call 23; ((with_reducible refine (same_self _ _).mono ?_); rintro e w' ⟨rfl, rfl⟩))
  refine (gkept_run gr ao0 cap0 cr n L0 v8 hn.out hm2 hr1.out hr2.out R8.out (haT.out _ K8.out)).mono ?_
  rintro _ v9 ⟨rfl, hb⟩
  have K9 := Lib.hid (K8.out.trans (hb.mono K8.out.size))
  clear hb K8 R8 c0 c1 c2 d0 d1 d2
  go_wp2_with fail
  go_ret
  exact ⟨by first | rfl | trivial, K9.out⟩
set_option maxRecDepth 100000 in
theorem own : ownKnob Try.prog.godebug = none := by kernel_rfl
set_option maxRecDepth 100000 in
theorem laidOut : laidOutB Try.prog = true := by kernel_rfl
set_option maxRecDepth 100000 in
theorem bytesW : Try.prog.bytesOf 34 = 56 := by kernel_rfl
set_option maxRecDepth 100000 in
theorem lifted (os : Os) (started : os.Started) (H : Type) (enc : TypeId × Value → H) :
    ReturnsInHanded {} Try.checked os 4 .any (Rows.stepSumsSpec.pre6 enc Try.prog Try.f4 Rows.stepSumsRow.domain false) (Rows.stepSumsSpec.post enc Try.prog Try.f4 false true false false) := by
  refine returnsInHanded_of_change_sized (C := Try.checked) own started (by kernel_rfl) Try.func4
    (ChangeSpec.witness6 (enc := enc) (C := Try.checked) false ⟨#[], #[.slice none 0 0, .float .f64 0], []⟩ 8 (by kernel_rfl) (by kernel_rfl) (by kernel_rfl) (by kernel_rfl)) ?_
  intro W base args ds gs before hval0 hW _ hsz0 _
  have hsz : (DataW.weightsEach Try.prog (Try.f4.params.toList ++ Rows.stepSumsSpec.plain.varTypes Try.prog) (ds ++ gs)).all (· ≤ reachBytes) = true := hsz0
  clear hsz0
  have hval : ∀ (j : Nat) t v, Try.f4.params[j]? = some t → args[j]? = some v → Value.okWide Try.prog W .any base t v := hval0
  have hW' := hW
  obtain ⟨p, q, hA0, hV, rfl, _, _⟩ := hW
  have hA : DataW.TrodAll enc Try.prog W 0 (fun _ => true) true Try.f4.params.toList args.toList ds p := hA0
  rw [Try.params4] at hA hval hsz
  obtain ⟨v0, vs0, d0, ds0, p0, q0, hargs, rfl, rfl, t0, r0⟩ := trodAll_cons hA
  obtain ⟨v1, vs1, d1, ds1, p1, q1, rfl, rfl, rfl, t1, r1⟩ := trodAll_cons r0
  obtain ⟨rfl, rfl, rfl⟩ := trodAll_nil r1
  obtain rfl : args = #[v0, v1] := by cases args; simp_all
  obtain ⟨rfl, rfl⟩ := trodVars_none hV
  simp only [List.append_nil] at hW'
  have tk0 := t0
  obtain ⟨ao0, cap0, L0, rfl, hc0, hm0, ha0, hw0, hx0⟩ := open_masses (okWide_slice Try.underlying22 (hval 0 22 v0 rfl rfl)) t0
  have hr0 : cap0 * 56 ≤ 140737488351232 := by
    rcases hx0 with ⟨_, h0⟩ | ⟨_, es, sp, hd, h0⟩
    · rw [h0]; decide
    · subst hd
      have := sized_slice hsz (j := 0) (t := 22) (e := 34) rfl rfl Try.underlying22
      rw [bytesW, h0] at this
      simp only [reachBytes] at this
      omega
  have hn0 : ao0 = none → cap0 = 0 := by
    intro h
    rcases hx0 with ⟨_, h0⟩ | ⟨⟨a, h1⟩, _⟩
    · exact h0
    · rw [h] at h1; simp at h1
  have hlt0 : ∀ x ∈ p0, x.block < W.heap.size := fun x hx => by have := hW'.lt x (by simp [hx]); simpa using this
  obtain ⟨a1, rfl, rfl, rfl, w1⟩ := open_float Try.underlying23 (hval 1 23 v1 rfl rfl) t1
  clear hA0 hval0
  refine (walk W ao0 cap0 L0 hc0 hm0 ha0 hw0 hr0 hn0 a1 (wf64 w1)).mono fun e W' ⟨he, hb⟩ => ?_
  subst he
  refine ⟨_, rfl, _, _, _, [], _, [], hW', trodAll_cons_mk (shut_bool Try.underlying4 _) trodAll_mk0, (trodAll_cons_mk (Below.trod laidOut (by kernel_rfl) (of_decide_eq_true (by kernel_rfl)) tk0 hb hlt0) (trodAll_cons_mk (shut_float Try.underlying23 w1) trodAll_mk0)), rfl, hb.frame _, fun h => by cases h⟩

set_option maxRecDepth 100000 in
theorem over : Rows.stepSumsRow.holds Try.pinned (OpenSpec.ofChange Rows.stepSumsSpec) :=
  OpenClaim.holds_of_wide 4 Try.f4 rfl rfl rfl rfl rfl rfl rfl ⟨rfl, rfl, rfl, rfl, rfl⟩ rfl rfl rfl rfl rfl (by kernel_rfl) Try.func4 (by kernel_rfl)
    (of_decide_eq_true (by kernel_rfl)) (by unfold Func.isWrapper; first | (rw [if_pos (by decide +kernel)]; kernel_rfl) | (rw [if_neg (by decide +kernel)]; exact ⟨rfl, rfl⟩))
    (fun os started H enc _ => lifted os started H enc)

theorem proved : Rows.StepSumsSaid :=
  over
end Go.Proofs.Ytgfedhlnaipngaa.stepSums
