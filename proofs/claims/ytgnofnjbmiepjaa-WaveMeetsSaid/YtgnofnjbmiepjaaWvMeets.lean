/- Proved here: for all waves, spans of days and times the law WaveMeets returns true: a point's box meets the span's. No conditions. -/
import Derived.Test.YtgnofnjbmiepjaaRows
import Derived.Test.YtgnofnjbmiepjaaJw6
namespace Go.Proofs.Ytgnofnjbmiepjaa.waveMeets
open Go.ChangeShapes Go.WideShapes Go.ChangeAt Go.RowKit

set_option maxHeartbeats 2000000 in
set_option maxRecDepth 100000 in
theorem walk (w : World) (ao0 : Option Addr) (cap0 : Nat) (L0 : List Wv) (hc0 : L0.length ≤ cap0) (hm0 : cap0 ≤ maxLen) (ha0 : VAt w ao0 L0) (hw0 : WvsW L0) (hr0 : cap0 * 40 ≤ 140737488351232) (hn0 : ao0 = none → cap0 = 0) (a1 b1 : Nat) (ha1 : a1 < 18446744073709551616) (hb1 : b1 < 18446744073709551616) (a2 : Nat) (h2 : a2 < 18446744073709551616) :
    Calls Try.prog 5 #[.slice ao0 L0.length cap0, spanV a1 b1, .float .f64 a2] w fun e w' => e = .returned (.bool true) ∧ Below w.heap.size w w' := by
  have AW := Lib.hid awake12
  obtain ⟨n, hn⟩ : ∃ n, n = L0.length := ⟨_, rfl⟩
  rw [← hn] at hc0 ⊢
  have hrn : n * 40 ≤ 140737488351232 := by omega
  have hmn : n ≤ maxLen := by omega
  have hm2 : n ≤ 4611686018427387904 := by unfold maxLen at hmn; omega
  replace hn := Lib.hid hn
  replace ha0 := Lib.hid ha0
  replace hw0 := Lib.hid hw0
  replace hmn := Lib.hid hmn
  replace hc0 := Lib.hid hc0
  replace hm0 := Lib.hid hm0
  replace hn0 := Lib.hid hn0
  replace hr0 := Lib.hid hr0
  have HS := Lib.hid (fun w => rhas_any ha1 hb1 a2 w)
  have W2t : W2 (a1, b1) := ⟨ha1, hb1⟩
  obtain ⟨RA, hRA⟩ : ∃ RA, RA = boxR12 L0 (a2, a2) := ⟨_, rfl⟩
  obtain ⟨IA, hIA⟩ : ∃ IA, IA = boxR12 L0 (a1, b1) := ⟨_, rfl⟩
  have R1 : Hid (∀ W ao cap, VAt W ao L0 → Calls Try.prog 15 #[.slice ao n cap, .agg #[.float .f64 a2, .float .f64 a2]] W fun e w' => e = .returned (boxE RA.1 RA.2) ∧ Below W.heap.size W w') :=
    Lib.hid fun W ao cap ha => by rw [hRA]; exact wbox_run ao cap n (a2, a2) W hn.out hm2 hw0.out ha ⟨h2, h2⟩
  have I1 : Hid (∀ W ao cap, VAt W ao L0 → Calls Try.prog 15 #[.slice ao n cap, .agg #[.float .f64 a1, .float .f64 b1]] W fun e w' => e = .returned (boxE IA.1 IA.2) ∧ Below W.heap.size W w') :=
    Lib.hid fun W ao cap ha => by rw [hIA]; exact wbox_run ao cap n (a1, b1) W hn.out hm2 hw0.out ha W2t
  have BM : Hid (rhB a1 b1 a2 = true → RA.2 = 0 → IA.2 = 0 → ∀ w, Calls Try.prog 16 #[boxV RA.1, boxV IA.1] w fun e w' => e = .returned (.bool true) ∧ Below w.heap.size w w') := Lib.hid fun e0 e1 e2 w => by
    rw [hRA, hIA]
    exact wave_meets hw0.out W2t h2 e0 (by rw [← hRA]; exact e1) (by rw [← hIA]; exact e2) w
  clear hRA hIA h2 W2t ha1 hb1
  obtain ⟨⟨⟨p1, p2⟩, ⟨p3, p4⟩, ⟨p5, p6⟩⟩, kr⟩ := RA
  obtain ⟨⟨⟨q1, q2⟩, ⟨q3, q4⟩, ⟨q5, q6⟩⟩, ki⟩ := IA
  generalize rhB a1 b1 a2 = hb at *
  unfold boxE boxV at R1 I1
  unfold boxV at BM
  unfold spanV
  dsimp only at *
  have K0 := kv1 w 38 [.float .f64 a1, .float .f64 b1]
  simp only [objV] at K0
  have hst := @fstore
  replace K0 := Lib.hid K0
  go_enter Try.func5, Try.ntmps5
  go_wp2_with fail
  have K := K0.out
  clear K0
  generalize w.alloc _ = wr at *
  refine (AW.out wr).mono ?_
  rintro _ v1 ⟨rfl, hb⟩
  replace K := K.on hb
  clear hb AW
  have c0_0 := (K.at_ 0 rfl).at_ 0 _ rfl
  have c0_1 := (K.at_ 0 rfl).at_ 1 _ rfl
  replace K := Lib.hid K
  go_wp2_with fail
  replace K := K.out
  refine (HS.out v1).mono ?_
  rintro _ v1b ⟨rfl, hbb⟩
  clear HS c0_0 c0_1
  replace K := K.on hbb
  clear hbb
  cases hb with
  | false =>
    replace K := Lib.hid K
    go_wp2_with fail
    go_ret
    exact ⟨rfl, K.out.old⟩
  | true =>
    have A1 := Lib.hid (ha0.out.below (fun b o e h => ha0.out.lt b o e h) K.old)
    replace K := Lib.hid K
    go_wp2_with (at_builtin; refine wpList_copyR recW rfl _ _ rfl rfl ao0 n cap0 (L0.map wvC) rfl (by rw [List.length_map]; exact hn.out) hn0.out A1.out (rows_wv L0) hmn.out hrn ?_)
    intro a1c c1c v2 C
    replace K := K.out.on C.old
    have AC := Lib.hid (show VAt v2 a1c L0 from C.at_)
    clear C A1
    replace K := Lib.hid K
    go_wp2_with fail
    replace K := K.out
    refine (R1.out v2 a1c c1c AC.out).mono ?_
    rintro _ v3 ⟨rfl, hbb⟩
    clear R1 
    have AD := Lib.hid (AC.out.on hbb)
    replace K := K.on hbb
    clear hbb AC
    have AE := Lib.hid (AD.out.alloc (objV 41 [.float .f64 p1, .float .f64 p2, .float .f64 p3, .float .f64 p4, .float .f64 p5, .float .f64 p6]))
    replace K := K.new 41 [.float .f64 p1, .float .f64 p2, .float .f64 p3, .float .f64 p4, .float .f64 p5, .float .f64 p6]
    simp only [objV, List.cons_append, List.nil_append] at K AE
    clear AD
    have c0_0 := (K.at_ 0 rfl).at_ 0 _ rfl
    have c0_1 := (K.at_ 0 rfl).at_ 1 _ rfl
    replace K := Lib.hid K
    go_wp2_with fail
    replace K := K.out
    generalize v3.alloc _ = w3 at *
    generalize v3.heap.size = g1 at *
    refine (I1.out w3 a1c c1c AE.out).mono ?_
    rintro _ v4 ⟨rfl, hbb⟩
    clear c0_0 c0_1 I1 AE
    replace K := K.on hbb
    clear hbb
    replace K := K.new 41 [.float .f64 q1, .float .f64 q2, .float .f64 q3, .float .f64 q4, .float .f64 q5, .float .f64 q6]
    simp only [objV, List.cons_append, List.nil_append] at K
    have c1_0 := (K.at_ 1 rfl).at_ 0 _ rfl
    have c1_1 := (K.at_ 1 rfl).at_ 1 _ rfl
    have c1_2 := (K.at_ 1 rfl).at_ 2 _ rfl
    have c1_3 := (K.at_ 1 rfl).at_ 3 _ rfl
    have c1_4 := (K.at_ 1 rfl).at_ 4 _ rfl
    have c1_5 := (K.at_ 1 rfl).at_ 5 _ rfl
    have c2_0 := (K.at_ 2 rfl).at_ 0 _ rfl
    have c2_1 := (K.at_ 2 rfl).at_ 1 _ rfl
    have c2_2 := (K.at_ 2 rfl).at_ 2 _ rfl
    have c2_3 := (K.at_ 2 rfl).at_ 3 _ rfl
    have c2_4 := (K.at_ 2 rfl).at_ 4 _ rfl
    have c2_5 := (K.at_ 2 rfl).at_ 5 _ rfl
    by_cases hk : kr = 0
    · subst hk
      by_cases hki : ki = 0
      · subst hki
        have BB := Lib.hid (BM.out (by first | rfl | trivial) (by first | rfl | trivial) (by first | rfl | trivial))
        clear BM
        replace K := Lib.hid K
        go_wp2_with fail
        refine (BB.out _).mono ?_
        rintro _ v5 ⟨rfl, hbb⟩
        clear c1_0 c1_1 c1_2 c1_3 c1_4 c1_5 c2_0 c2_1 c2_2 c2_3 c2_4 c2_5
        replace K := Lib.hid (K.out.on hbb)
        clear hbb BB
        go_wp2_with fail
        go_ret
        exact ⟨rfl, K.out.old⟩
      · have tk : (ki != 0) = true := by simpa using hki
        clear BM
        replace K := Lib.hid K
        go_wp2_with fail
        go_ret
        exact ⟨rfl, K.out.old⟩
    · have tk : (kr != 0) = true := by simpa using hk
      clear BM
      replace K := Lib.hid K
      go_wp2_with fail
      go_ret
      exact ⟨rfl, K.out.old⟩

set_option maxRecDepth 100000 in
theorem own : ownKnob Try.prog.godebug = none := by kernel_rfl
set_option maxRecDepth 100000 in
theorem laidOut : laidOutB Try.prog = true := by kernel_rfl
set_option maxRecDepth 100000 in
theorem bytesW : Try.prog.bytesOf 49 = 40 := by kernel_rfl
set_option maxRecDepth 100000 in
theorem lifted (os : Os) (started : os.Started) (H : Type) (enc : TypeId × Value → H) :
    ReturnsInHanded {} Try.checked os 5 .any (Rows.waveMeetsSpec.pre6 enc Try.prog Try.f5 Rows.waveMeetsRow.domain false) (Rows.waveMeetsSpec.post enc Try.prog Try.f5 false true false false) := by
  refine returnsInHanded_of_change_sized (C := Try.checked) own started (by kernel_rfl) Try.func5
    (ChangeSpec.witness6 (enc := enc) (C := Try.checked) false ⟨#[], #[.slice none 0 0, .agg #[.float .f64 0, .float .f64 0], .float .f64 0], []⟩ 8 (by kernel_rfl) (by kernel_rfl) (by kernel_rfl) (by kernel_rfl)) ?_
  intro W base args ds gs before hval0 hW _ hsz0 _
  have hsz : (DataW.weightsEach Try.prog (Try.f5.params.toList ++ Rows.waveMeetsSpec.plain.varTypes Try.prog) (ds ++ gs)).all (· ≤ reachBytes) = true := hsz0
  clear hsz0
  have hval : ∀ (j : Nat) t v, Try.f5.params[j]? = some t → args[j]? = some v → Value.okWide Try.prog W .any base t v := hval0
  have hW' := hW
  obtain ⟨p, q, hA0, hV, rfl, _, _⟩ := hW
  have hA : DataW.TrodAll enc Try.prog W 0 (fun _ => true) true Try.f5.params.toList args.toList ds p := hA0
  rw [Try.params5] at hA hval hsz
  obtain ⟨v0, vs0, d0, ds0, p0, q0, hargs, rfl, rfl, t0, r0⟩ := trodAll_cons hA
  obtain ⟨v1, vs1, d1, ds1, p1, q1, rfl, rfl, rfl, t1, r1⟩ := trodAll_cons r0
  obtain ⟨v2, vs2, d2, ds2, p2, q2, rfl, rfl, rfl, t2, r2⟩ := trodAll_cons r1
  obtain ⟨rfl, rfl, rfl⟩ := trodAll_nil r2
  obtain rfl : args = #[v0, v1, v2] := by cases args; simp_all
  obtain ⟨rfl, rfl⟩ := trodVars_none hV
  simp only [List.append_nil] at hW'
  have tk0 := t0
  obtain ⟨ao0, cap0, L0, rfl, hc0, hm0, ha0, hw0, hx0⟩ := open_waves (okWide_slice Try.underlying22 (hval 0 22 v0 rfl rfl)) t0
  have hr0 : cap0 * 40 ≤ 140737488351232 := by
    rcases hx0 with ⟨_, h0⟩ | ⟨_, es, sp, hd, h0⟩
    · rw [h0]; decide
    · subst hd
      have := sized_slice hsz (j := 0) (t := 22) (e := 49) rfl rfl Try.underlying22
      rw [bytesW, h0] at this
      simp only [reachBytes] at this
      omega
  have hn0 : ao0 = none → cap0 = 0 := by
    intro h
    rcases hx0 with ⟨_, h0⟩ | ⟨⟨a, h1⟩, _⟩
    · exact h0
    · rw [h] at h1; simp at h1
  have hlt0 : ∀ x ∈ p0, x.block < W.heap.size := fun x hx => by have := hW'.lt x (by simp [hx]); simpa using this
  have tk1 := t1
  obtain ⟨a1, b1, rfl, wa1, wb1⟩ := open_span (hval 1 38 v1 rfl rfl) t1
  have hlt1 : ∀ x ∈ p1, x.block < W.heap.size := fun x hx => by have := hW'.lt x (by simp [hx]); simpa using this
  obtain ⟨a2, rfl, rfl, rfl, w2⟩ := open_float Try.underlying23 (hval 2 23 v2 rfl rfl) t2
  clear hA0 hval0
  refine (walk W ao0 cap0 L0 hc0 hm0 ha0 hw0 hr0 hn0 a1 b1 wa1 wb1 a2 (wf64 w2)).mono fun e W' ⟨he, hb⟩ => ?_
  subst he
  refine ⟨_, rfl, _, _, _, [], _, [], hW', trodAll_cons_mk (shut_bool Try.underlying4 _) trodAll_mk0, (trodAll_cons_mk (Below.trod laidOut (by kernel_rfl) (of_decide_eq_true (by kernel_rfl)) tk0 hb hlt0) (trodAll_cons_mk (Below.trod laidOut (by kernel_rfl) (of_decide_eq_true (by kernel_rfl)) tk1 hb hlt1) (trodAll_cons_mk (shut_float Try.underlying23 w2) trodAll_mk0))), rfl, hb.frame _, fun h => by cases h⟩

set_option maxRecDepth 100000 in
theorem over : Rows.waveMeetsRow.holds Try.pinned (OpenSpec.ofChange Rows.waveMeetsSpec) :=
  OpenClaim.holds_of_wide 5 Try.f5 rfl rfl rfl rfl rfl rfl rfl ⟨rfl, rfl, rfl, rfl, rfl⟩ rfl rfl rfl rfl rfl (by kernel_rfl) Try.func5 (by kernel_rfl)
    (of_decide_eq_true (by kernel_rfl)) (by unfold Func.isWrapper; first | (rw [if_pos (by decide +kernel)]; kernel_rfl) | (rw [if_neg (by decide +kernel)]; exact ⟨rfl, rfl⟩))
    (fun os started H enc _ => lifted os started H enc)

theorem proved : Rows.WaveMeetsSaid :=
  over
end Go.Proofs.Ytgnofnjbmiepjaa.waveMeets
