/- Proved here: for all frames, numbers, spans of times, times and boxes the law FrameMeets returns true: a point's box meets the span's. No conditions. -/
import Derived.Test.YtgblpibanagcgaaGreatRows
import Derived.Test.YtgblpibanagcgaaGreatJy14
import Derived.Test.YtgblpibanagcgaaGreatJx9
namespace Go.Proofs.YtgblpibanagcgaaGreat.frameMeets
open Go.ChangeShapes Go.WideShapes Go.ChangeAt Go.RowKit

set_option maxHeartbeats 2000000 in
set_option maxRecDepth 100000 in
theorem walk (w : World) (ao0 : Option Addr) (cap0 : Nat) (L0 : List Fr) (hc0 : L0.length ≤ cap0) (hm0 : cap0 ≤ maxLen) (ha0 : FAt w ao0 L0) (hw0 : FsW L0) (hr0 : cap0 * 56 ≤ 140737488351232) (hn0 : ao0 = none → cap0 = 0) (a1 : Int) (_h1 : (Lit.int .i64 a1).wf = true) (a2 b2 : Nat) (ha2 : a2 < 18446744073709551616) (hb2 : b2 < 18446744073709551616) (a3 : Nat) (h3 : a3 < 18446744073709551616) (a4 : B6) (h4 : W6 a4) :
    Calls Tryz.prog 4 #[.slice ao0 L0.length cap0, .int .i64 a1, spanV a2 b2, .float .f64 a3, boxV a4] w fun e w' => e = .returned (.bool true) ∧ Below w.heap.size w w' := by
  have AW := Lib.hid awake10
  obtain ⟨n, hn⟩ : ∃ n, n = L0.length := ⟨_, rfl⟩
  rw [← hn] at hc0 ⊢
  have hrn : n * 56 ≤ 140737488351232 := by omega
  have hmn : n ≤ maxLen := by omega
  have hm2 : n ≤ 4611686018427387904 := by unfold maxLen at hmn; omega
  replace hn := Lib.hid hn
  replace ha0 := Lib.hid ha0
  replace hw0 := Lib.hid hw0
  replace hmn := Lib.hid hmn
  replace hc0 := Lib.hid hc0
  replace hm0 := Lib.hid hm0
  replace hn0 := Lib.hid hn0
  replace hr0 := Lib.hid hr0
  obtain ⟨⟨x1, x2⟩, ⟨x3, x4⟩, ⟨x5, x6⟩⟩ := a4
  have t1 := a2
  have t2 := b2
  have HS := Lib.hid (fun w => rhas_any ha2 hb2 a3 w)
  have W2t : W2 (a2, b2) := ⟨ha2, hb2⟩
  obtain ⟨RA, hRA⟩ : ∃ RA, RA = rboxR L0 a1 (a3, a3) ((x1, x2), (x3, x4), (x5, x6)) := ⟨_, rfl⟩
  obtain ⟨IA, hIA⟩ : ∃ IA, IA = rboxR L0 a1 (a2, b2) ((x1, x2), (x3, x4), (x5, x6)) := ⟨_, rfl⟩
  have R1 : Hid (∀ W ao cap, FAt W ao L0 → Calls Tryz.prog 8 #[.slice ao n cap, .int .i64 a1, .agg #[.float .f64 a3, .float .f64 a3], .agg #[.float .f64 x1, .float .f64 x2, .float .f64 x3, .float .f64 x4, .float .f64 x5, .float .f64 x6]] W fun e w' => e = .returned (boxE RA.1 RA.2) ∧ Below W.heap.size W w') :=
    Lib.hid fun W ao cap ha => by rw [hRA]; exact frootbox_run ao cap n L0 a1 (a3, a3) ((x1, x2), (x3, x4), (x5, x6)) W hn.out hm2 hw0.out ha ⟨h3, h3⟩ h4
  have I1 : Hid (∀ W ao cap, FAt W ao L0 → Calls Tryz.prog 8 #[.slice ao n cap, .int .i64 a1, .agg #[.float .f64 a2, .float .f64 b2], .agg #[.float .f64 x1, .float .f64 x2, .float .f64 x3, .float .f64 x4, .float .f64 x5, .float .f64 x6]] W fun e w' => e = .returned (boxE IA.1 IA.2) ∧ Below W.heap.size W w') :=
    Lib.hid fun W ao cap ha => by rw [hIA]; exact frootbox_run ao cap n L0 a1 (a2, b2) ((x1, x2), (x3, x4), (x5, x6)) W hn.out hm2 hw0.out ha W2t h4
  have BM : Hid (rhB a2 b2 a3 = true → RA.2 = 0 → IA.2 = 0 → ∀ w, Calls Tryz.prog 12 #[boxV RA.1, boxV IA.1] w fun e w' => e = .returned (.bool true) ∧ Below w.heap.size w w') := Lib.hid fun e0 e1 e2 w =>
    frame_meets hw0.out W2t h3 h4 e0 (P := RA.1) (P' := IA.1) (by rw [← hRA, ← e1]) (by rw [← hIA, ← e2]) w
  clear hRA hIA h3 h4 W2t ha2 hb2 t1 t2
  obtain ⟨⟨⟨p1, p2⟩, ⟨p3, p4⟩, ⟨p5, p6⟩⟩, kr⟩ := RA
  obtain ⟨⟨⟨q1, q2⟩, ⟨q3, q4⟩, ⟨q5, q6⟩⟩, ki⟩ := IA
  generalize rhB a2 b2 a3 = hb at *
  unfold boxE boxV at R1 I1
  unfold boxV at BM
  unfold boxV spanV
  dsimp only at *
  have K0 := kv2 w 31 33 [.float .f64 a2, .float .f64 b2] [.float .f64 x1, .float .f64 x2, .float .f64 x3, .float .f64 x4, .float .f64 x5, .float .f64 x6]
  simp only [objV] at K0
  have hst := @fstore
  replace K0 := Lib.hid K0
  go_enter Tryz.func4, Tryz.ntmps4
  go_wp2_with fail
  have K := K0.out
  clear K0
  generalize (w.alloc _).alloc _ = wr at *
  refine (AW.out wr).mono ?_
  rintro _ v1 ⟨rfl, hb⟩
  replace K := K.on hb
  clear hb AW
  have c0_0 := (K.at_ 0 rfl).at_ 0 _ rfl
  have c0_1 := (K.at_ 0 rfl).at_ 1 _ rfl
  replace K := Lib.hid K
  go_wp2_with fail
  replace K := K.out
  refine (HS.out v1).mono ?_
  rintro _ v1b ⟨rfl, hbb⟩
  clear HS c0_0 c0_1
  replace K := K.on hbb
  clear hbb
  cases hb with
  | false =>
    replace K := Lib.hid K
    go_wp2_with fail
    go_ret
    exact ⟨rfl, K.out.old⟩
  | true =>
    have A1 := Lib.hid (ha0.out.below (fun b o e h => ha0.out.lt b o e h) K.old)
    replace K := Lib.hid K
    go_wp2_with (at_builtin; refine wpList_copyR recF rfl _ _ rfl rfl ao0 n cap0 (L0.map frC) rfl (by rw [List.length_map]; exact hn.out) hn0.out A1.out (rows_fr L0) hmn.out hrn ?_)
    intro a1c c1c v2 C
    replace K := K.out.on C.old
    have AC := Lib.hid (show FAt v2 a1c L0 from C.at_)
    clear C A1
    have c1_0 := (K.at_ 1 rfl).at_ 0 _ rfl
    have c1_1 := (K.at_ 1 rfl).at_ 1 _ rfl
    have c1_2 := (K.at_ 1 rfl).at_ 2 _ rfl
    have c1_3 := (K.at_ 1 rfl).at_ 3 _ rfl
    have c1_4 := (K.at_ 1 rfl).at_ 4 _ rfl
    have c1_5 := (K.at_ 1 rfl).at_ 5 _ rfl
    replace K := Lib.hid K
    go_wp2_with fail
    replace K := K.out
    refine (R1.out v2 a1c c1c AC.out).mono ?_
    rintro _ v3 ⟨rfl, hbb⟩
    clear c1_0 c1_1 c1_2 c1_3 c1_4 c1_5 R1
    have AD := Lib.hid (AC.out.on hbb)
    replace K := K.on hbb
    clear hbb AC
    have AE := Lib.hid (AD.out.alloc (objV 33 [.float .f64 p1, .float .f64 p2, .float .f64 p3, .float .f64 p4, .float .f64 p5, .float .f64 p6]))
    replace K := K.new 33 [.float .f64 p1, .float .f64 p2, .float .f64 p3, .float .f64 p4, .float .f64 p5, .float .f64 p6]
    simp only [objV, List.cons_append, List.nil_append] at K AE
    clear AD
    have c0_0 := (K.at_ 0 rfl).at_ 0 _ rfl
    have c0_1 := (K.at_ 0 rfl).at_ 1 _ rfl
    have c1_0 := (K.at_ 1 rfl).at_ 0 _ rfl
    have c1_1 := (K.at_ 1 rfl).at_ 1 _ rfl
    have c1_2 := (K.at_ 1 rfl).at_ 2 _ rfl
    have c1_3 := (K.at_ 1 rfl).at_ 3 _ rfl
    have c1_4 := (K.at_ 1 rfl).at_ 4 _ rfl
    have c1_5 := (K.at_ 1 rfl).at_ 5 _ rfl
    replace K := Lib.hid K
    go_wp2_with fail
    replace K := K.out
    generalize v3.alloc _ = w3 at *
    generalize v3.heap.size = g1 at *
    refine (I1.out w3 a1c c1c AE.out).mono ?_
    rintro _ v4 ⟨rfl, hbb⟩
    clear c0_0 c0_1 c1_0 c1_1 c1_2 c1_3 c1_4 c1_5 I1 AE
    replace K := K.on hbb
    clear hbb
    replace K := K.new 33 [.float .f64 q1, .float .f64 q2, .float .f64 q3, .float .f64 q4, .float .f64 q5, .float .f64 q6]
    simp only [objV, List.cons_append, List.nil_append] at K
    have c2_0 := (K.at_ 2 rfl).at_ 0 _ rfl
    have c2_1 := (K.at_ 2 rfl).at_ 1 _ rfl
    have c2_2 := (K.at_ 2 rfl).at_ 2 _ rfl
    have c2_3 := (K.at_ 2 rfl).at_ 3 _ rfl
    have c2_4 := (K.at_ 2 rfl).at_ 4 _ rfl
    have c2_5 := (K.at_ 2 rfl).at_ 5 _ rfl
    have c3_0 := (K.at_ 3 rfl).at_ 0 _ rfl
    have c3_1 := (K.at_ 3 rfl).at_ 1 _ rfl
    have c3_2 := (K.at_ 3 rfl).at_ 2 _ rfl
    have c3_3 := (K.at_ 3 rfl).at_ 3 _ rfl
    have c3_4 := (K.at_ 3 rfl).at_ 4 _ rfl
    have c3_5 := (K.at_ 3 rfl).at_ 5 _ rfl
    by_cases hk : kr = 0
    · subst hk
      by_cases hki : ki = 0
      · subst hki
        have BB := Lib.hid (BM.out (by first | rfl | trivial) (by first | rfl | trivial) (by first | rfl | trivial))
        clear BM
        replace K := Lib.hid K
        go_wp2_with fail
        refine (BB.out _).mono ?_
        rintro _ v5 ⟨rfl, hbb⟩
        clear c2_0 c2_1 c2_2 c2_3 c2_4 c2_5 c3_0 c3_1 c3_2 c3_3 c3_4 c3_5
        replace K := Lib.hid (K.out.on hbb)
        clear hbb BB
        go_wp2_with fail
        go_ret
        exact ⟨rfl, K.out.old⟩
      · have tk : (ki != 0) = true := by simpa using hki
        clear BM
        replace K := Lib.hid K
        go_wp2_with fail
        go_ret
        exact ⟨rfl, K.out.old⟩
    · have tk : (kr != 0) = true := by simpa using hk
      clear BM
      replace K := Lib.hid K
      go_wp2_with fail
      go_ret
      exact ⟨rfl, K.out.old⟩

set_option maxRecDepth 100000 in
theorem own : ownKnob Tryz.prog.godebug = none := by kernel_rfl
set_option maxRecDepth 100000 in
theorem laidOut : laidOutB Tryz.prog = true := by kernel_rfl
set_option maxRecDepth 100000 in
theorem bytesQ : Tryz.prog.bytesOf 49 = 56 := by kernel_rfl
set_option maxRecDepth 100000 in
theorem lifted (os : Os) (started : os.Started) (H : Type) (enc : TypeId × Value → H) :
    ReturnsInHanded {} Tryz.checked os 4 .any (Rows.frameMeetsSpec.pre6 enc Tryz.prog Tryz.f4 Rows.frameMeetsRow.domain false) (Rows.frameMeetsSpec.post enc Tryz.prog Tryz.f4 false true false false) := by
  refine returnsInHanded_of_change_sized (C := Tryz.checked) own started (by kernel_rfl) Tryz.func4
    (ChangeSpec.witness6 (enc := enc) (C := Tryz.checked) false ⟨#[], #[.slice none 0 0, .int .i64 0, .agg #[.float .f64 0, .float .f64 0], .float .f64 0, .agg #[.float .f64 0, .float .f64 0, .float .f64 0, .float .f64 0, .float .f64 0, .float .f64 0]], []⟩ 8 (by kernel_rfl) (by kernel_rfl) (by kernel_rfl) (by kernel_rfl)) ?_
  intro W base args ds gs before hval0 hW _ hsz0 _
  have hsz : (DataW.weightsEach Tryz.prog (Tryz.f4.params.toList ++ Rows.frameMeetsSpec.plain.varTypes Tryz.prog) (ds ++ gs)).all (· ≤ reachBytes) = true := hsz0
  clear hsz0
  have hval : ∀ (j : Nat) t v, Tryz.f4.params[j]? = some t → args[j]? = some v → Value.okWide Tryz.prog W .any base t v := hval0
  have hW' := hW
  obtain ⟨p, q, hA0, hV, rfl, _, _⟩ := hW
  have hA : DataW.TrodAll enc Tryz.prog W 0 (fun _ => true) true Tryz.f4.params.toList args.toList ds p := hA0
  rw [Tryz.params4] at hA hval hsz
  obtain ⟨v0, vs0, d0, ds0, p0, q0, hargs, rfl, rfl, t0, r0⟩ := trodAll_cons hA
  obtain ⟨v1, vs1, d1, ds1, p1, q1, rfl, rfl, rfl, t1, r1⟩ := trodAll_cons r0
  obtain ⟨v2, vs2, d2, ds2, p2, q2, rfl, rfl, rfl, t2, r2⟩ := trodAll_cons r1
  obtain ⟨v3, vs3, d3, ds3, p3, q3, rfl, rfl, rfl, t3, r3⟩ := trodAll_cons r2
  obtain ⟨v4, vs4, d4, ds4, p4, q4, rfl, rfl, rfl, t4, r4⟩ := trodAll_cons r3
  obtain ⟨rfl, rfl, rfl⟩ := trodAll_nil r4
  obtain rfl : args = #[v0, v1, v2, v3, v4] := by cases args; simp_all
  obtain ⟨rfl, rfl⟩ := trodVars_none hV
  simp only [List.append_nil] at hW'
  have tk0 := t0
  obtain ⟨ao0, cap0, L0, rfl, hc0, hm0, ha0, hw0, hx0⟩ := open_frames (okWide_slice Tryz.underlying22 (hval 0 22 v0 rfl rfl)) t0
  have hr0 : cap0 * 56 ≤ 140737488351232 := by
    rcases hx0 with ⟨_, h0⟩ | ⟨_, es, sp, hd, h0⟩
    · rw [h0]; decide
    · subst hd
      have := sized_slice hsz (j := 0) (t := 22) (e := 49) rfl rfl Tryz.underlying22
      rw [bytesQ, h0] at this
      simp only [reachBytes] at this
      omega
  have hn0 : ao0 = none → cap0 = 0 := by
    intro h
    rcases hx0 with ⟨_, h0⟩ | ⟨⟨a, h1⟩, _⟩
    · exact h0
    · rw [h] at h1; simp at h1
  have hlt0 : ∀ x ∈ p0, x.block < W.heap.size := fun x hx => by have := hW'.lt x (by simp [hx]); simpa using this
  obtain ⟨a1, rfl, rfl, rfl, w1⟩ := open_int Tryz.underlying3 (hval 1 3 v1 rfl rfl) t1
  have tk2 := t2
  obtain ⟨a2, b2, rfl, wa2, wb2⟩ := open_span (hval 2 31 v2 rfl rfl) t2
  have hlt2 : ∀ x ∈ p2, x.block < W.heap.size := fun x hx => by have := hW'.lt x (by simp [hx]); simpa using this
  obtain ⟨a3, rfl, rfl, rfl, w3⟩ := open_float Tryz.underlying23 (hval 3 23 v3 rfl rfl) t3
  have tk4 := t4
  obtain ⟨a4, rfl, wa4⟩ := open_box (hval 4 33 v4 rfl rfl) t4
  have hlt4 : ∀ x ∈ p4, x.block < W.heap.size := fun x hx => by have := hW'.lt x (by simp [hx]); simpa using this
  clear hA0 hval0
  refine (walk W ao0 cap0 L0 hc0 hm0 ha0 hw0 hr0 hn0 a1 w1 a2 b2 wa2 wb2 a3 (wf64 w3) a4 wa4).mono fun e W' ⟨he, hb⟩ => ?_
  subst he
  refine ⟨_, rfl, _, _, _, [], _, [], hW', trodAll_cons_mk (shut_bool Tryz.underlying4 _) trodAll_mk0, (trodAll_cons_mk (Below.trod laidOut (by kernel_rfl) (of_decide_eq_true (by kernel_rfl)) tk0 hb hlt0) (trodAll_cons_mk (shut_int Tryz.underlying3 w1) (trodAll_cons_mk (Below.trod laidOut (by kernel_rfl) (of_decide_eq_true (by kernel_rfl)) tk2 hb hlt2) (trodAll_cons_mk (shut_float Tryz.underlying23 w3) (trodAll_cons_mk (Below.trod laidOut (by kernel_rfl) (of_decide_eq_true (by kernel_rfl)) tk4 hb hlt4) trodAll_mk0))))), rfl, hb.frame _, fun h => by cases h⟩

set_option maxRecDepth 100000 in
theorem over : Rows.frameMeetsRow.holds Tryz.pinned (OpenSpec.ofChange Rows.frameMeetsSpec) :=
  OpenClaim.holds_of_wide 4 Tryz.f4 rfl rfl rfl rfl rfl rfl rfl ⟨rfl, rfl, rfl, rfl, rfl⟩ rfl rfl rfl rfl rfl (by kernel_rfl) Tryz.func4 (by kernel_rfl)
    (of_decide_eq_true (by kernel_rfl)) (by unfold Func.isWrapper; first | (rw [if_pos (by decide +kernel)]; kernel_rfl) | (rw [if_neg (by decide +kernel)]; exact ⟨rfl, rfl⟩))
    (fun os started H enc _ => lifted os started H enc)

theorem proved : Rows.FrameMeetsSaid :=
  over
end Go.Proofs.YtgblpibanagcgaaGreat.frameMeets
