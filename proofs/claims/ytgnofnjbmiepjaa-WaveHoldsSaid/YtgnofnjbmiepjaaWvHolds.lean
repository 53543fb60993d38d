/- Proved here: for all waves and times the law WaveHolds returns true: a sum lies by its box. No conditions. -/
import Derived.Test.YtgnofnjbmiepjaaRows
import Derived.Test.YtgnofnjbmiepjaaJw6
import Derived.Test.YtgnofnjbmiepjaaJw7
namespace Go.Proofs.Ytgnofnjbmiepjaa.waveHolds
open Go.ChangeShapes Go.WideShapes Go.ChangeAt Go.RowKit

set_option maxHeartbeats 2000000 in
set_option maxRecDepth 100000 in
theorem walk (w : World) (ao0 : Option Addr) (cap0 : Nat) (L0 : List Wv) (hc0 : L0.length ≤ cap0) (hm0 : cap0 ≤ maxLen) (ha0 : VAt w ao0 L0) (hw0 : WvsW L0) (hr0 : cap0 * 40 ≤ 140737488351232) (hn0 : ao0 = none → cap0 = 0) (a1 : Nat) (h1 : a1 < 18446744073709551616) :
    Calls Try.prog 6 #[.slice ao0 L0.length cap0, .float .f64 a1] w fun e w' => e = .returned (.bool true) ∧ Below w.heap.size w w' := by
  have AW := Lib.hid awake12
  obtain ⟨n, hn⟩ : ∃ n, n = L0.length := ⟨_, rfl⟩
  rw [← hn] at hc0 ⊢
  have hrn : n * 40 ≤ 140737488351232 := by omega
  have hmn : n ≤ maxLen := by omega
  have hm2 : n ≤ 4611686018427387904 := by unfold maxLen at hmn; omega
  replace hn := Lib.hid hn
  replace ha0 := Lib.hid ha0
  replace hw0 := Lib.hid hw0
  replace hmn := Lib.hid hmn
  replace hc0 := Lib.hid hc0
  replace hm0 := Lib.hid hm0
  replace hn0 := Lib.hid hn0
  replace hr0 := Lib.hid hr0
  obtain ⟨RA, hRA⟩ : ∃ RA, RA = rcR L0 := ⟨_, rfl⟩
  have R2 : Hid (∀ W, Below w.heap.size w W → Calls Try.prog 17 #[.slice ao0 n cap0] W fun e w' => e = .returned (floE RA.1 RA.2) ∧ Below W.heap.size W w') :=
    Lib.hid fun W hb => by rw [hRA]; exact rreach12_run ao0 cap0 n W hn.out hm2 hw0.out (ha0.out.below (fun b o e h => ha0.out.lt b o e h) hb)
  have R1 : Hid (∀ W ao cap, VAt W ao L0 → Calls Try.prog 9 #[.slice ao n cap, .float .f64 a1] W fun e w' => e = .returned (vecE (atV L0 a1).1 (atV L0 a1).2) ∧ Below W.heap.size W w') :=
    Lib.hid fun W ao cap ha => wat_run ao cap n a1 W hn.out hm2 hw0.out ha h1
  have I1 : Hid (∀ W ao cap, VAt W ao L0 → Calls Try.prog 15 #[.slice ao n cap, .agg #[.float .f64 a1, .float .f64 a1]] W fun e w' => e = .returned (boxE (boxR12 L0 (a1, a1)).1 (boxR12 L0 (a1, a1)).2) ∧ Below W.heap.size W w') :=
    Lib.hid fun W ao cap ha => wbox_run ao cap n (a1, a1) W hn.out hm2 hw0.out ha ⟨h1, h1⟩
  have hst := @fstore
  by_cases hr : readyV L0 (witB g24 a1) = 0
  · obtain ⟨c0, tt⟩ := readyV_zero hr
    obtain ⟨eb, dq, da, BK'⟩ := wave_holds hw0.out h1 hr
    have BK := Lib.hid BK'
    have rq := run_div _ _ _ dq
    have ra := run_add _ _ _ da
    unfold rcR at hRA
    rw [if_pos c0] at hRA
    subst hRA
    have ea : (atV L0 a1).2 = 0 := by unfold atV; rw [if_pos hr]
    rw [ea] at R1
    rw [eb] at I1
    clear BK' dq da c0 tt hr eb ea
    generalize (atV L0 a1).1 = VA at *
    generalize (boxR12 L0 (a1, a1)).1 = IA at *
    generalize limH L0 = lm at *
    generalize qX (rcW L0) c4096 = qm at *
    generalize rcW L0 = r at *
    obtain ⟨p1, p2, p3⟩ := VA
    obtain ⟨⟨e1, e2⟩, ⟨e3, e4⟩, ⟨e5, e6⟩⟩ := IA
    unfold vecE vecV at R1
    unfold boxE boxV at I1
    unfold boxV vecV at BK
    unfold floE at R2
    unfold c4096 at rq
    unfold c180w at ra
    dsimp only at *
    replace h1 := Lib.hid h1
    go_enter Try.func6, Try.ntmps6
    go_wp2_with fail
    have K := Kv.nil w
    refine (AW.out w).mono ?_
    rintro _ v1 ⟨rfl, hb⟩
    replace K := K.on hb
    clear hb AW
    have A1 := Lib.hid (ha0.out.below (fun b o e h => ha0.out.lt b o e h) K.old)
    replace K := Lib.hid K
    go_wp2_with (at_builtin; refine wpList_copyR recW rfl _ _ rfl rfl ao0 n cap0 (L0.map wvC) rfl (by rw [List.length_map]; exact hn.out) hn0.out A1.out (rows_wv L0) hmn.out hrn ?_)
    intro a1c c1c v2 C
    replace K := K.out.on C.old
    have AC := Lib.hid (show VAt v2 a1c L0 from C.at_)
    clear C A1
    replace K := Lib.hid K
    go_wp2_with fail
    replace K := K.out
    refine (R1.out v2 a1c c1c AC.out).mono ?_
    rintro _ v3 ⟨rfl, hbb⟩
    clear R1 
    have AD := Lib.hid (AC.out.on hbb)
    replace K := K.on hbb
    clear hbb AC
    have AE := Lib.hid (AD.out.alloc (objV 26 [.float .f64 p1, .float .f64 p2, .float .f64 p3]))
    replace K := K.new 26 [.float .f64 p1, .float .f64 p2, .float .f64 p3]
    simp only [objV, List.nil_append] at K AE
    clear AD
    replace K := Lib.hid K
    go_wp2_with fail
    replace K := K.out
    generalize v3.alloc _ = w3 at *
    generalize v3.heap.size = g1 at *
    refine (I1.out w3 a1c c1c AE.out).mono ?_
    rintro _ v4 ⟨rfl, hbb⟩
    clear I1 
    have AD := Lib.hid (AE.out.on hbb)
    replace K := K.on hbb
    clear hbb AE
    have AF := Lib.hid (AD.out.alloc (objV 41 [.float .f64 e1, .float .f64 e2, .float .f64 e3, .float .f64 e4, .float .f64 e5, .float .f64 e6]))
    replace K := K.new 41 [.float .f64 e1, .float .f64 e2, .float .f64 e3, .float .f64 e4, .float .f64 e5, .float .f64 e6]
    simp only [objV, List.cons_append, List.nil_append] at K AF
    clear AD
    clear AF
    replace K := Lib.hid K
    go_wp2_with fail
    replace K := K.out
    generalize v4.alloc _ = w4 at *
    generalize v4.heap.size = g2 at *
    refine (R2.out w4 K.old).mono ?_
    rintro _ v5 ⟨rfl, hbb⟩
    clear R2
    replace K := K.on hbb
    clear hbb
    have c0_0 := (K.at_ 0 rfl).at_ 0 _ rfl
    have c0_1 := (K.at_ 0 rfl).at_ 1 _ rfl
    have c0_2 := (K.at_ 0 rfl).at_ 2 _ rfl
    have c1_0 := (K.at_ 1 rfl).at_ 0 _ rfl
    have c1_1 := (K.at_ 1 rfl).at_ 1 _ rfl
    have c1_2 := (K.at_ 1 rfl).at_ 2 _ rfl
    have c1_3 := (K.at_ 1 rfl).at_ 3 _ rfl
    have c1_4 := (K.at_ 1 rfl).at_ 4 _ rfl
    have c1_5 := (K.at_ 1 rfl).at_ 5 _ rfl
    replace K := Lib.hid K
    go_wp2_with fail
    replace K := K.out
    refine (BK.out _).mono ?_
    rintro _ v6 ⟨rfl, hbb⟩
    clear c0_0 c0_1 c0_2 c1_0 c1_1 c1_2 c1_3 c1_4 c1_5 BK
    replace K := Lib.hid (K.on hbb)
    clear hbb
    go_wp2_with fail
    go_ret
    exact ⟨rfl, K.out.old⟩
  · obtain ⟨k, hk⟩ : ∃ k, k = readyV L0 (witB g24 a1) := ⟨_, rfl⟩
    have ea : atV L0 a1 = (z3, k) := by unfold atV; rw [if_neg hr, hk]
    rw [← hk] at hr
    have tk : (k != 0) = true := by simpa using hr
    rw [ea] at R1
    clear hRA hk hr R2 I1 ea
    unfold vecE vecV z3 at R1
    dsimp only at *
    replace h1 := Lib.hid h1
    go_enter Try.func6, Try.ntmps6
    go_wp2_with fail
    have K := Kv.nil w
    refine (AW.out w).mono ?_
    rintro _ v1 ⟨rfl, hb⟩
    replace K := K.on hb
    clear hb AW
    have A1 := Lib.hid (ha0.out.below (fun b o e h => ha0.out.lt b o e h) K.old)
    replace K := Lib.hid K
    go_wp2_with (at_builtin; refine wpList_copyR recW rfl _ _ rfl rfl ao0 n cap0 (L0.map wvC) rfl (by rw [List.length_map]; exact hn.out) hn0.out A1.out (rows_wv L0) hmn.out hrn ?_)
    intro a1c c1c v2 C
    replace K := K.out.on C.old
    have AC := Lib.hid (show VAt v2 a1c L0 from C.at_)
    clear C A1
    replace K := Lib.hid K
    go_wp2_with fail
    replace K := K.out
    refine (R1.out v2 a1c c1c AC.out).mono ?_
    rintro _ v3 ⟨rfl, hbb⟩
    clear R1 
    have AD := Lib.hid (AC.out.on hbb)
    replace K := K.on hbb
    clear hbb AC
    have AE := Lib.hid (AD.out.alloc (objV 26 [.float .f64 0, .float .f64 0, .float .f64 0]))
    replace K := K.new 26 [.float .f64 0, .float .f64 0, .float .f64 0]
    simp only [objV, List.nil_append] at K AE
    clear AD
    clear AE
    replace K := Lib.hid K
    go_wp2_with fail
    replace K := K.out
    go_ret
    exact ⟨rfl, K.old⟩

set_option maxRecDepth 100000 in
theorem own : ownKnob Try.prog.godebug = none := by kernel_rfl
set_option maxRecDepth 100000 in
theorem laidOut : laidOutB Try.prog = true := by kernel_rfl
set_option maxRecDepth 100000 in
theorem bytesW : Try.prog.bytesOf 49 = 40 := by kernel_rfl
set_option maxRecDepth 100000 in
theorem lifted (os : Os) (started : os.Started) (H : Type) (enc : TypeId × Value → H) :
    ReturnsInHanded {} Try.checked os 6 .any (Rows.waveHoldsSpec.pre6 enc Try.prog Try.f6 Rows.waveHoldsRow.domain false) (Rows.waveHoldsSpec.post enc Try.prog Try.f6 false true false false) := by
  refine returnsInHanded_of_change_sized (C := Try.checked) own started (by kernel_rfl) Try.func6
    (ChangeSpec.witness6 (enc := enc) (C := Try.checked) false ⟨#[], #[.slice none 0 0, .float .f64 0], []⟩ 8 (by kernel_rfl) (by kernel_rfl) (by kernel_rfl) (by kernel_rfl)) ?_
  intro W base args ds gs before hval0 hW _ hsz0 _
  have hsz : (DataW.weightsEach Try.prog (Try.f6.params.toList ++ Rows.waveHoldsSpec.plain.varTypes Try.prog) (ds ++ gs)).all (· ≤ reachBytes) = true := hsz0
  clear hsz0
  have hval : ∀ (j : Nat) t v, Try.f6.params[j]? = some t → args[j]? = some v → Value.okWide Try.prog W .any base t v := hval0
  have hW' := hW
  obtain ⟨p, q, hA0, hV, rfl, _, _⟩ := hW
  have hA : DataW.TrodAll enc Try.prog W 0 (fun _ => true) true Try.f6.params.toList args.toList ds p := hA0
  rw [Try.params6] at hA hval hsz
  obtain ⟨v0, vs0, d0, ds0, p0, q0, hargs, rfl, rfl, t0, r0⟩ := trodAll_cons hA
  obtain ⟨v1, vs1, d1, ds1, p1, q1, rfl, rfl, rfl, t1, r1⟩ := trodAll_cons r0
  obtain ⟨rfl, rfl, rfl⟩ := trodAll_nil r1
  obtain rfl : args = #[v0, v1] := by cases args; simp_all
  obtain ⟨rfl, rfl⟩ := trodVars_none hV
  simp only [List.append_nil] at hW'
  have tk0 := t0
  obtain ⟨ao0, cap0, L0, rfl, hc0, hm0, ha0, hw0, hx0⟩ := open_waves (okWide_slice Try.underlying22 (hval 0 22 v0 rfl rfl)) t0
  have hr0 : cap0 * 40 ≤ 140737488351232 := by
    rcases hx0 with ⟨_, h0⟩ | ⟨_, es, sp, hd, h0⟩
    · rw [h0]; decide
    · subst hd
      have := sized_slice hsz (j := 0) (t := 22) (e := 49) rfl rfl Try.underlying22
      rw [bytesW, h0] at this
      simp only [reachBytes] at this
      omega
  have hn0 : ao0 = none → cap0 = 0 := by
    intro h
    rcases hx0 with ⟨_, h0⟩ | ⟨⟨a, h1⟩, _⟩
    · exact h0
    · rw [h] at h1; simp at h1
  have hlt0 : ∀ x ∈ p0, x.block < W.heap.size := fun x hx => by have := hW'.lt x (by simp [hx]); simpa using this
  obtain ⟨a1, rfl, rfl, rfl, w1⟩ := open_float Try.underlying23 (hval 1 23 v1 rfl rfl) t1
  clear hA0 hval0
  refine (walk W ao0 cap0 L0 hc0 hm0 ha0 hw0 hr0 hn0 a1 (wf64 w1)).mono fun e W' ⟨he, hb⟩ => ?_
  subst he
  refine ⟨_, rfl, _, _, _, [], _, [], hW', trodAll_cons_mk (shut_bool Try.underlying4 _) trodAll_mk0, (trodAll_cons_mk (Below.trod laidOut (by kernel_rfl) (of_decide_eq_true (by kernel_rfl)) tk0 hb hlt0) (trodAll_cons_mk (shut_float Try.underlying23 w1) trodAll_mk0)), rfl, hb.frame _, fun h => by cases h⟩

set_option maxRecDepth 100000 in
theorem over : Rows.waveHoldsRow.holds Try.pinned (OpenSpec.ofChange Rows.waveHoldsSpec) :=
  OpenClaim.holds_of_wide 6 Try.f6 rfl rfl rfl rfl rfl rfl rfl ⟨rfl, rfl, rfl, rfl, rfl⟩ rfl rfl rfl rfl rfl (by kernel_rfl) Try.func6 (by kernel_rfl)
    (of_decide_eq_true (by kernel_rfl)) (by unfold Func.isWrapper; first | (rw [if_pos (by decide +kernel)]; kernel_rfl) | (rw [if_neg (by decide +kernel)]; exact ⟨rfl, rfl⟩))
    (fun os started H enc _ => lifted os started H enc)

theorem proved : Rows.WaveHoldsSaid :=
  over
end Go.Proofs.Ytgnofnjbmiepjaa.waveHolds
