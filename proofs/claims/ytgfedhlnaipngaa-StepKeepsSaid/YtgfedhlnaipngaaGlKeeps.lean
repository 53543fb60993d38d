/- Proved here: for all masses, numbers g and n the law StepKeeps returns true: steps change none of the sums of the impulses. No conditions. -/
import Derived.Test.YtgfedhlnaipngaaRows
import Derived.Test.YtgfedhlnaipngaaJz10
import Derived.Test.YtgfedhlnaipngaaJz11
namespace Go.Proofs.Ytgfedhlnaipngaa.stepKeeps
open Go.ChangeShapes Go.WideShapes Go.ChangeAt Go.RowKit

set_option maxHeartbeats 4000000 in
set_option maxRecDepth 100000 in
theorem aeq_gen (d : Nat) (a b c : Int) (w : World) : (Op.equalIn (d + 1 + 1) 32 (.agg #[.int .i64 a, .int .i64 b, .int .i64 c]) (.agg #[.int .i64 a, .int .i64 b, .int .i64 c])).run Try.prog w = .ok true w := by
  have e : ∀ a b w, (Op.equalIn (d + 1) 2 (.int .i64 a) (.int .i64 b)).run Try.prog w = .ok (a == b) w := fun a b w => ieq_gen (P := Try.prog) d a b w Try.underlying2
  unfold Op.equalIn
  go_simp
  have r3 : List.range' 0 3 = [0, 1, 2] := rfl
  rw [r3]
  simp only [List.forIn_cons, List.forIn_nil]
  go_simp
set_option maxRecDepth 100000 in
theorem arr_eql (v : T3) (w : World) : (binOp .eql 32 (i3V v) (i3V v)).run Try.prog w = .ok (.bool true) w := by
  obtain ⟨a, b, c⟩ := v
  unfold i3V
  dsimp only
  have e1 : (Op.equalIn 10000 32 (.agg #[.int .i64 a, .int .i64 b, .int .i64 c]) (.agg #[.int .i64 a, .int .i64 b, .int .i64 c])).run Try.prog w = .ok true w := aeq_gen 9998 a b c w
  go_simp
set_option maxHeartbeats 2000000 in
set_option maxRecDepth 100000 in
theorem walk (w : World) (ao0 : Option Addr) (cap0 : Nat) (L0 : List Ma) (hc0 : L0.length ≤ cap0) (hm0 : cap0 ≤ maxLen) (ha0 : MAt w ao0 L0) (hw0 : MsW L0) (hr0 : cap0 * 56 ≤ 140737488351232) (hn0 : ao0 = none → cap0 = 0) (a1 : Nat) (h1 : a1 < 18446744073709551616) (a2 : Int) (_h2 : (Lit.int .i64 a2).wf = true) :
    Calls Try.prog 6 #[.slice ao0 L0.length cap0, .float .f64 a1, .int .i64 a2] w fun e w' => e = .returned (.bool true) ∧ Below w.heap.size w w' := by
  have AW := Lib.hid awake14
  obtain ⟨n, hn⟩ : ∃ n, n = L0.length := ⟨_, rfl⟩
  rw [← hn] at hc0 ⊢
  have hrn : n * 56 ≤ 140737488351232 := by omega
  have hmn : n ≤ maxLen := by omega
  have hm2 : n ≤ 4611686018427387904 := by unfold maxLen at hmn; omega
  have hm3 : (n : Int) ≤ 4611686018427387904 := by omega
  have RU := Lib.hid (fun W ao cap (L : List Ma) (k : Int) (hL : n = L.length) (ha : MAt W ao L) => gRun_run ao cap n L a1 W (nn := k) hL hm2 ha h1)
  replace hn := Lib.hid hn
  replace ha0 := Lib.hid ha0
  replace hw0 := Lib.hid hw0
  replace hmn := Lib.hid hmn
  replace hc0 := Lib.hid hc0
  replace hm0 := Lib.hid hm0
  replace hn0 := Lib.hid hn0
  replace hr0 := Lib.hid hr0
  replace h1 := Lib.hid h1
  have FW := few_run a2 (rng_of _h2)
  have fr := few_rng a2
  generalize fewI a2 = N at *
  clear fr
  cases hR : (RunR L0 a1 N).2 with
  | none =>
    have nz := RunR_none_nz hR
    replace hR := Lib.hid hR
    have tz : ((RunR L0 a1 N).1 != 0) = true := by simpa using nz
    clear nz
    go_enter Try.func6, Try.ntmps6
    go_wp2_with fail
    refine (AW.out w).mono ?_
    rintro _ v1 ⟨rfl, hb⟩
    have K := Lib.hid hb
    clear hb AW
    have A1 := Lib.hid (ha0.out.below (fun b o e h => ha0.out.lt b o e h) K.out)
    go_wp2_with (first | (go_at_call 13; ((with_reducible refine (FW _).mono ?_); rintro e w' ⟨rfl, rfl⟩)) | (at_builtin; refine wpList_copyR recM rfl _ _ rfl rfl ao0 n cap0 (L0.map maC) rfl (by rw [List.length_map]; exact hn.out) hn0.out A1.out (rows_ma L0) hmn.out hrn ?_))
    intro a1c c1c v2 C
    have K := Lib.hid (K.out.trans (C.old.mono K.out.size))
    have A2 := Lib.hid (show MAt v2 a1c L0 from C.at_)
    clear C A1
    go_wp2_with (first | (go_at_call 13; ((with_reducible refine (FW _).mono ?_); rintro e w' ⟨rfl, rfl⟩)))
    refine (RU.out v2 a1c c1c L0 N hn.out A2.out).mono ?_
    rintro _ v3 ⟨hb, he, -⟩
    obtain rfl := he hR.out
    replace K := Lib.hid (K.out.trans (hb.mono K.out.size))
    clear A2 hb he
    generalize (RunR L0 a1 N).1 = er at *
    go_wp2_with fail
    go_ret
    exact ⟨by first | rfl | trivial, K.out⟩
  | some r =>
    have kp := RunR_kept hR
    have hl : n = r.length := by rw [kp.2.2.1]; exact hn.out
    have s0 : SumR L0 = (T3.of (spI L0), 0) := SumR_ok (chkM_ok kp.2.2.2.1 kp.1)
    have s1 : SumR r = (T3.of (spI L0), 0) := by
      rw [SumR_ok (chkM_ok (by rw [kp.2.2.1]; exact kp.2.2.2.1) kp.2.1)]
      congr 1
      exact of_same fun k hk => RunR_sum h1.out hR hk
    have G0 := Lib.hid (fun W ao cap (h : MAt W ao L0) => rgsum_run ao cap n L0 W hn.out hm2 h)
    have G1 := Lib.hid (fun W ao cap (h : MAt W ao r) => rgsum_run ao cap n r W hl hm2 h)
    rw [s0] at G0
    rw [s1] at G1
    unfold sumE i3V T3.of at G0 G1
    dsimp only at G0 G1
    replace hR := Lib.hid hR
    replace hl := Lib.hid hl
    have hst := @fstore
    have hsi := @istore
    clear kp s0 s1
    go_enter Try.func6, Try.ntmps6
    go_wp2_with fail
    refine (AW.out w).mono ?_
    rintro _ v1 ⟨rfl, hb⟩
    have K := Lib.hid hb
    clear hb AW
    have A1 := Lib.hid (ha0.out.below (fun b o e h => ha0.out.lt b o e h) K.out)
    go_wp2_with (first | (go_at_call 13; ((with_reducible refine (FW _).mono ?_); rintro e w' ⟨rfl, rfl⟩)) | (at_builtin; refine wpList_copyR recM rfl _ _ rfl rfl ao0 n cap0 (L0.map maC) rfl (by rw [List.length_map]; exact hn.out) hn0.out A1.out (rows_ma L0) hmn.out hrn ?_))
    intro a1c c1c v2 C
    have K := Lib.hid (K.out.trans (C.old.mono K.out.size))
    have A2 := Lib.hid (show MAt v2 a1c L0 from C.at_)
    clear C A1
    go_wp2_with (first | (go_at_call 13; ((with_reducible refine (FW _).mono ?_); rintro e w' ⟨rfl, rfl⟩)))
    refine (RU.out v2 a1c c1c L0 N hn.out A2.out).mono ?_
    rintro _ v3 ⟨hb, -, hs⟩
    obtain ⟨b, rfl, -, O⟩ := hs r hR.out
    rw [← hl.out]
    have A3 := Lib.hid O.at_
    replace K := Lib.hid (K.out.trans (hb.mono K.out.size))
    clear A2 hb hs O
    clear hR RU
    have A0 := Lib.hid (ha0.out.below (fun b o e h => ha0.out.lt b o e h) K.out)
    go_wp2_with fail
    refine (G0.out _ _ _ A0.out).mono ?_
    rintro _ v4 ⟨rfl, hb⟩
    replace A3 := Lib.hid (RAt.on A3.out hb)
    replace K := Lib.hid (K.out.trans (hb.mono K.out.size))
    clear A0 hb G0
    have q := arr_eql (T3.of (spI L0))
    unfold i3V T3.of at q
    dsimp only at q
    generalize spI L0 0 = s0 at *
    generalize spI L0 1 = s1 at *
    generalize spI L0 2 = s2 at *
    generalize hg4 : v4.heap.size = g4 at *
    have KV := (Kv.nil v4).new 32 [.int .i64 s0, .int .i64 s1, .int .i64 s2]
    rw [hg4] at KV
    simp only [objV, List.nil_append] at KV
    have A4 := Lib.hid (RAt.alloc A3.out (.cells #[.int .i64 s0, .int .i64 s1, .int .i64 s2] 32))
    have K4 := Lib.hid (K.out.alloc K.out.size (.cells #[.int .i64 s0, .int .i64 s1, .int .i64 s2] 32))
    replace KV := Lib.hid KV
    clear A3 K
    go_wp2_with fail
    refine (G1.out _ _ _ A4.out).mono ?_
    rintro _ v5 ⟨rfl, hb⟩
    have KW := KV.out.on hb
    replace K4 := Lib.hid (K4.out.trans (hb.mono K4.out.size))
    clear KV hb A4 G1
    generalize hg5 : v5.heap.size = g5 at *
    have KX := KW.new 32 [.int .i64 s0, .int .i64 s1, .int .i64 s2]
    rw [hg5] at KX
    simp only [objV, List.cons_append, List.nil_append] at KX
    have K5 := Lib.hid (K4.out.alloc K4.out.size (.cells #[.int .i64 s0, .int .i64 s1, .int .i64 s2] 32))
    have c0 := (KX.at_ 0 rfl).at_ 0 _ rfl
    have c1 := (KX.at_ 0 rfl).at_ 1 _ rfl
    have c2 := (KX.at_ 0 rfl).at_ 2 _ rfl
    have d0 := (KX.at_ 1 rfl).at_ 0 _ rfl
    have d1 := (KX.at_ 1 rfl).at_ 1 _ rfl
    have d2 := (KX.at_ 1 rfl).at_ 2 _ rfl
    clear KX KW K4
    go_wp2_with fail
    go_ret
    exact ⟨by first | rfl | trivial, K5.out⟩
set_option maxRecDepth 100000 in
theorem own : ownKnob Try.prog.godebug = none := by kernel_rfl
set_option maxRecDepth 100000 in
theorem laidOut : laidOutB Try.prog = true := by kernel_rfl
set_option maxRecDepth 100000 in
theorem bytesW : Try.prog.bytesOf 34 = 56 := by kernel_rfl
set_option maxRecDepth 100000 in
theorem lifted (os : Os) (started : os.Started) (H : Type) (enc : TypeId × Value → H) :
    ReturnsInHanded {} Try.checked os 6 .any (Rows.stepKeepsSpec.pre6 enc Try.prog Try.f6 Rows.stepKeepsRow.domain false) (Rows.stepKeepsSpec.post enc Try.prog Try.f6 false true false false) := by
  refine returnsInHanded_of_change_sized (C := Try.checked) own started (by kernel_rfl) Try.func6
    (ChangeSpec.witness6 (enc := enc) (C := Try.checked) false ⟨#[], #[.slice none 0 0, .float .f64 0, .int .i64 0], []⟩ 8 (by kernel_rfl) (by kernel_rfl) (by kernel_rfl) (by kernel_rfl)) ?_
  intro W base args ds gs before hval0 hW _ hsz0 _
  have hsz : (DataW.weightsEach Try.prog (Try.f6.params.toList ++ Rows.stepKeepsSpec.plain.varTypes Try.prog) (ds ++ gs)).all (· ≤ reachBytes) = true := hsz0
  clear hsz0
  have hval : ∀ (j : Nat) t v, Try.f6.params[j]? = some t → args[j]? = some v → Value.okWide Try.prog W .any base t v := hval0
  have hW' := hW
  obtain ⟨p, q, hA0, hV, rfl, _, _⟩ := hW
  have hA : DataW.TrodAll enc Try.prog W 0 (fun _ => true) true Try.f6.params.toList args.toList ds p := hA0
  rw [Try.params6] at hA hval hsz
  obtain ⟨v0, vs0, d0, ds0, p0, q0, hargs, rfl, rfl, t0, r0⟩ := trodAll_cons hA
  obtain ⟨v1, vs1, d1, ds1, p1, q1, rfl, rfl, rfl, t1, r1⟩ := trodAll_cons r0
  obtain ⟨v2, vs2, d2, ds2, p2, q2, rfl, rfl, rfl, t2, r2⟩ := trodAll_cons r1
  obtain ⟨rfl, rfl, rfl⟩ := trodAll_nil r2
  obtain rfl : args = #[v0, v1, v2] := by cases args; simp_all
  obtain ⟨rfl, rfl⟩ := trodVars_none hV
  simp only [List.append_nil] at hW'
  have tk0 := t0
  obtain ⟨ao0, cap0, L0, rfl, hc0, hm0, ha0, hw0, hx0⟩ := open_masses (okWide_slice Try.underlying22 (hval 0 22 v0 rfl rfl)) t0
  have hr0 : cap0 * 56 ≤ 140737488351232 := by
    rcases hx0 with ⟨_, h0⟩ | ⟨_, es, sp, hd, h0⟩
    · rw [h0]; decide
    · subst hd
      have := sized_slice hsz (j := 0) (t := 22) (e := 34) rfl rfl Try.underlying22
      rw [bytesW, h0] at this
      simp only [reachBytes] at this
      omega
  have hn0 : ao0 = none → cap0 = 0 := by
    intro h
    rcases hx0 with ⟨_, h0⟩ | ⟨⟨a, h1⟩, _⟩
    · exact h0
    · rw [h] at h1; simp at h1
  have hlt0 : ∀ x ∈ p0, x.block < W.heap.size := fun x hx => by have := hW'.lt x (by simp [hx]); simpa using this
  obtain ⟨a1, rfl, rfl, rfl, w1⟩ := open_float Try.underlying23 (hval 1 23 v1 rfl rfl) t1
  obtain ⟨a2, rfl, rfl, rfl, w2⟩ := open_int Try.underlying3 (hval 2 3 v2 rfl rfl) t2
  clear hA0 hval0
  refine (walk W ao0 cap0 L0 hc0 hm0 ha0 hw0 hr0 hn0 a1 (wf64 w1) a2 w2).mono fun e W' ⟨he, hb⟩ => ?_
  subst he
  refine ⟨_, rfl, _, _, _, [], _, [], hW', trodAll_cons_mk (shut_bool Try.underlying4 _) trodAll_mk0, (trodAll_cons_mk (Below.trod laidOut (by kernel_rfl) (of_decide_eq_true (by kernel_rfl)) tk0 hb hlt0) (trodAll_cons_mk (shut_float Try.underlying23 w1) (trodAll_cons_mk (shut_int Try.underlying3 w2) trodAll_mk0))), rfl, hb.frame _, fun h => by cases h⟩

set_option maxRecDepth 100000 in
theorem over : Rows.stepKeepsRow.holds Try.pinned (OpenSpec.ofChange Rows.stepKeepsSpec) :=
  OpenClaim.holds_of_wide 6 Try.f6 rfl rfl rfl rfl rfl rfl rfl ⟨rfl, rfl, rfl, rfl, rfl⟩ rfl rfl rfl rfl rfl (by kernel_rfl) Try.func6 (by kernel_rfl)
    (of_decide_eq_true (by kernel_rfl)) (by unfold Func.isWrapper; first | (rw [if_pos (by decide +kernel)]; kernel_rfl) | (rw [if_neg (by decide +kernel)]; exact ⟨rfl, rfl⟩))
    (fun os started H enc _ => lifted os started H enc)

theorem proved : Rows.StepKeepsSaid :=
  over
end Go.Proofs.Ytgfedhlnaipngaa.stepKeeps
