/- Proved here: for all waves and times the law WaveNarrows returns true: with amplitudes in binary32 the sums are off by no more than is told. No conditions. -/
import Derived.Test.YtgnofnjbmiepjaaRows
import Derived.Test.YtgnofnjbmiepjaaJw7
import Derived.Test.YtgnofnjbmiepjaaJw6
import Derived.Test.YtgnofnjbmiepjaaJx2
namespace Go.Proofs.Ytgnofnjbmiepjaa.waveNarrows
open Go.ChangeShapes Go.WideShapes Go.ChangeAt Go.RowKit

set_option maxHeartbeats 2000000 in
set_option maxRecDepth 100000 in
theorem walk (w : World) (ao0 : Option Addr) (cap0 : Nat) (L0 : List Wv) (hc0 : L0.length ≤ cap0) (hm0 : cap0 ≤ maxLen) (ha0 : VAt w ao0 L0) (hw0 : WvsW L0) (hr0 : cap0 * 40 ≤ 140737488351232) (hn0 : ao0 = none → cap0 = 0) (a1 : Nat) (h1 : a1 < 18446744073709551616) :
    Calls Try.prog 4 #[.slice ao0 L0.length cap0, .float .f64 a1] w fun e w' => e = .returned (.bool true) ∧ Below w.heap.size w w' := by
  have AW := Lib.hid awake12
  obtain ⟨n, hn⟩ : ∃ n, n = L0.length := ⟨_, rfl⟩
  rw [← hn] at hc0 ⊢
  have hrn : n * 40 ≤ 140737488351232 := by omega
  have hmn : n ≤ maxLen := by omega
  have hm2 : n ≤ 4611686018427387904 := by unfold maxLen at hmn; omega
  replace hn := Lib.hid hn
  replace ha0 := Lib.hid ha0
  replace hw0 := Lib.hid hw0
  replace hmn := Lib.hid hmn
  replace hc0 := Lib.hid hc0
  replace hm0 := Lib.hid hm0
  replace hn0 := Lib.hid hn0
  replace hr0 := Lib.hid hr0
  have R1 : Hid (∀ W ao cap, VAt W ao L0 → Calls Try.prog 9 #[.slice ao n cap, .float .f64 a1] W fun e w' => e = .returned (vecE (atV L0 a1).1 (atV L0 a1).2) ∧ Below W.heap.size W w') :=
    Lib.hid fun W ao cap ha => wat_run ao cap n a1 W hn.out hm2 hw0.out ha h1
  have hst := @fstore
  have heq := feq_run
  have t0 : (FloatKind.f64.format.order 0 0 == some Ordering.eq) = true := by decide +kernel
  by_cases c0 : chkV L0 = 0
  · have hL := wvs_ok hw0.out c0
    have NA := na_ok hL (chkV_zero c0).1
    have R0 : Hid (∀ W ao cap, VAt W ao L0 → Calls Try.prog 12 #[.slice ao n cap] W fun e w' => (∃ ao' cp', e = .returned (.tuple #[.slice ao' n cp', .float .f64 (naW L0), .int .i64 0]) ∧ VAt w' ao' (L0.map nrw)) ∧ Below W.heap.size W w') :=
      Lib.hid fun W ao cap ha => (wnarrow_run ao cap n W hn.out hm2 hw0.out ha (fun _ => ⟨NA.q, NA.a⟩)).mono fun e w' ⟨h, hb⟩ => by
        rcases h with ⟨-, ao', cp', rfl, -, -, hA⟩ | ⟨h, -⟩
        · exact ⟨⟨ao', cp', by rw [hn.out], hA⟩, hb⟩
        · exact absurd c0 h
    have R2 : Hid (∀ W ao cap, VAt W ao (L0.map nrw) → Calls Try.prog 9 #[.slice ao n cap, .float .f64 a1] W fun e w' => e = .returned (vecE (atV (L0.map nrw) a1).1 (atV (L0.map nrw) a1).2) ∧ Below W.heap.size W w') :=
      Lib.hid fun W ao cap ha => wat_run ao cap n a1 W (by rw [List.length_map]; exact hn.out) hm2 (nrw_w hL) ha h1
    clear hL NA
    by_cases hr : readyV L0 (witB g24 a1) = 0
    · obtain ⟨hr', la, N1, N2, N3⟩ := wave_narrows hw0.out h1 hr
      have ra := run_add _ _ _ la
      have NK : Hid (∀ w, Calls Try.prog 13 #[vecV (atV L0 a1).1, vecV (atV (L0.map nrw) a1).1, .float .f64 (limN L0)] w fun e w' => e = .returned (.bool true) ∧ Below w.heap.size w w') :=
        Lib.hid fun w => near_run (run_sub _ _ _ N1.s) (run_sub _ _ _ N2.s) (run_sub _ _ _ N3.s) (abs_any _ N1.fin.1) (abs_any _ N2.fin.1) (abs_any _ N3.fin.1) N1.o N2.o N3.o w
      have ea : (atV L0 a1).2 = 0 := by unfold atV; rw [if_pos hr]
      have eb : (atV (L0.map nrw) a1).2 = 0 := by unfold atV; rw [if_pos hr']
      rw [ea] at R1
      rw [eb] at R2
      clear la N1 N2 N3 hr hr' ea eb c0
      generalize (atV L0 a1).1 = VA at *
      generalize (atV (L0.map nrw) a1).1 = VB at *
      generalize limN L0 = lm at *
      generalize naW L0 = na at *
      obtain ⟨p1, p2, p3⟩ := VA
      obtain ⟨q1, q2, q3⟩ := VB
      unfold vecE vecV at R1 R2
      unfold vecV at NK
      unfold c190 at ra
      dsimp only at *
      replace h1 := Lib.hid h1
      go_enter Try.func4, Try.ntmps4
      go_wp2_with fail
      have K := Kv.nil w
      refine (AW.out w).mono ?_
      rintro _ v1 ⟨rfl, hb⟩
      replace K := K.on hb
      clear hb AW
      have A1 := Lib.hid (ha0.out.below (fun b o e h => ha0.out.lt b o e h) K.old)
      replace K := Lib.hid K
      go_wp2_with (at_builtin; refine wpList_copyR recW rfl _ _ rfl rfl ao0 n cap0 (L0.map wvC) rfl (by rw [List.length_map]; exact hn.out) hn0.out A1.out (rows_wv L0) hmn.out hrn ?_)
      intro a1c c1c v2 C
      replace K := K.out.on C.old
      have AC := Lib.hid (show VAt v2 a1c L0 from C.at_)
      clear C A1
      replace K := Lib.hid K
      go_wp2_with fail
      replace K := K.out
      refine (R0.out v2 a1c c1c AC.out).mono ?_
      rintro _ v3 ⟨⟨ao', cp', rfl, hA'⟩, hbb⟩
      clear R0
      have AD := Lib.hid (AC.out.on hbb)
      replace hA' := Lib.hid hA'
      replace K := K.on hbb
      clear hbb AC
      replace K := Lib.hid K
      go_wp2_with fail
      replace K := K.out
      refine (R1.out v3 a1c c1c AD.out).mono ?_
      rintro _ v4 ⟨rfl, hbb⟩
      clear R1 AD
      have AE := Lib.hid (hA'.out.on hbb)
      replace K := K.on hbb
      clear hbb hA'
      have AF := Lib.hid (AE.out.alloc (objV 26 [.float .f64 p1, .float .f64 p2, .float .f64 p3]))
      replace K := K.new 26 [.float .f64 p1, .float .f64 p2, .float .f64 p3]
      simp only [objV, List.nil_append] at K AF
      clear AE
      replace K := Lib.hid K
      go_wp2_with fail
      replace K := K.out
      generalize v4.alloc _ = w4 at *
      generalize v4.heap.size = g1 at *
      refine (R2.out w4 ao' cp' AF.out).mono ?_
      rintro _ v5 ⟨rfl, hbb⟩
      clear R2 AF
      replace K := K.on hbb
      clear hbb
      replace K := K.new 26 [.float .f64 q1, .float .f64 q2, .float .f64 q3]
      simp only [objV, List.cons_append, List.nil_append] at K
      have c0_0 := (K.at_ 0 rfl).at_ 0 _ rfl
      have c0_1 := (K.at_ 0 rfl).at_ 1 _ rfl
      have c0_2 := (K.at_ 0 rfl).at_ 2 _ rfl
      have c1_0 := (K.at_ 1 rfl).at_ 0 _ rfl
      have c1_1 := (K.at_ 1 rfl).at_ 1 _ rfl
      have c1_2 := (K.at_ 1 rfl).at_ 2 _ rfl
      replace K := Lib.hid K
      go_wp2_with fail
      replace K := K.out
      refine (NK.out _).mono ?_
      rintro _ v6 ⟨rfl, hbb⟩
      clear c0_0 c0_1 c0_2 c1_0 c1_1 c1_2 NK
      replace K := Lib.hid (K.on hbb)
      clear hbb
      go_wp2_with fail
      go_ret
      exact ⟨rfl, K.out.old⟩
    · obtain ⟨k, hk⟩ : ∃ k, k = readyV L0 (witB g24 a1) := ⟨_, rfl⟩
      have ea : atV L0 a1 = (z3, k) := by unfold atV; rw [if_neg hr, hk]
      rw [← hk] at hr
      have tk : (k != 0) = true := by simpa using hr
      rw [ea] at R1
      obtain ⟨VQ, hVQ⟩ : ∃ VQ, VQ = atV (L0.map nrw) a1 := ⟨_, rfl⟩
      rw [← hVQ] at R2
      clear hVQ hk hr ea c0
      generalize naW L0 = na at *
      unfold vecE vecV z3 at R1
      unfold vecE at R2
      dsimp only at *
      replace h1 := Lib.hid h1
      go_enter Try.func4, Try.ntmps4
      go_wp2_with fail
      have K := Kv.nil w
      refine (AW.out w).mono ?_
      rintro _ v1 ⟨rfl, hb⟩
      replace K := K.on hb
      clear hb AW
      have A1 := Lib.hid (ha0.out.below (fun b o e h => ha0.out.lt b o e h) K.old)
      replace K := Lib.hid K
      go_wp2_with (at_builtin; refine wpList_copyR recW rfl _ _ rfl rfl ao0 n cap0 (L0.map wvC) rfl (by rw [List.length_map]; exact hn.out) hn0.out A1.out (rows_wv L0) hmn.out hrn ?_)
      intro a1c c1c v2 C
      replace K := K.out.on C.old
      have AC := Lib.hid (show VAt v2 a1c L0 from C.at_)
      clear C A1
      replace K := Lib.hid K
      go_wp2_with fail
      replace K := K.out
      refine (R0.out v2 a1c c1c AC.out).mono ?_
      rintro _ v3 ⟨⟨ao', cp', rfl, hA'⟩, hbb⟩
      clear R0
      have AD := Lib.hid (AC.out.on hbb)
      replace hA' := Lib.hid hA'
      replace K := K.on hbb
      clear hbb AC
      replace K := Lib.hid K
      go_wp2_with fail
      replace K := K.out
      refine (R1.out v3 a1c c1c AD.out).mono ?_
      rintro _ v4 ⟨rfl, hbb⟩
      clear R1 AD
      have AE := Lib.hid (hA'.out.on hbb)
      replace K := K.on hbb
      clear hbb hA'
      have AF := Lib.hid (AE.out.alloc (objV 26 [.float .f64 0, .float .f64 0, .float .f64 0]))
      replace K := K.new 26 [.float .f64 0, .float .f64 0, .float .f64 0]
      simp only [objV, List.nil_append] at K AF
      clear AE
      replace K := Lib.hid K
      go_wp2_with fail
      replace K := K.out
      generalize v4.alloc _ = w4 at *
      generalize v4.heap.size = g1 at *
      refine (R2.out w4 ao' cp' AF.out).mono ?_
      rintro _ v5 ⟨rfl, hbb⟩
      clear R2 AF
      replace K := K.on hbb
      clear hbb
      obtain ⟨⟨q1, q2, q3⟩, kq⟩ := VQ
      replace K := K.new 26 [.float .f64 q1, .float .f64 q2, .float .f64 q3]
      simp only [objV, List.cons_append, List.nil_append] at K
      dsimp only [vecV]
      replace K := Lib.hid K
      go_wp2_with fail
      replace K := K.out
      go_ret
      exact ⟨rfl, K.old⟩
  · have R0 : Hid (∀ W ao cap, VAt W ao L0 → Calls Try.prog 12 #[.slice ao n cap] W fun e w' => e = .returned (.tuple #[.slice none 0 0, .float .f64 0, .int .i64 (chkV L0)]) ∧ Below W.heap.size W w') :=
      Lib.hid fun W ao cap ha => (wnarrow_run ao cap n W hn.out hm2 hw0.out ha (fun h => absurd h c0)).mono fun e w' ⟨h, hb⟩ => by
        rcases h with ⟨h, -⟩ | ⟨-, h⟩
        · exact absurd h c0
        · exact ⟨h, hb⟩
    obtain ⟨k, hk⟩ : ∃ k, k = chkV L0 := ⟨_, rfl⟩
    rw [← hk] at R0 c0
    have tk : (k != 0) = true := by simpa using c0
    clear hk c0 R1
    replace h1 := Lib.hid h1
    go_enter Try.func4, Try.ntmps4
    go_wp2_with fail
    have K := Kv.nil w
    refine (AW.out w).mono ?_
    rintro _ v1 ⟨rfl, hb⟩
    replace K := K.on hb
    clear hb AW
    have A1 := Lib.hid (ha0.out.below (fun b o e h => ha0.out.lt b o e h) K.old)
    replace K := Lib.hid K
    go_wp2_with (at_builtin; refine wpList_copyR recW rfl _ _ rfl rfl ao0 n cap0 (L0.map wvC) rfl (by rw [List.length_map]; exact hn.out) hn0.out A1.out (rows_wv L0) hmn.out hrn ?_)
    intro a1c c1c v2 C
    replace K := K.out.on C.old
    have AC := Lib.hid (show VAt v2 a1c L0 from C.at_)
    clear C A1
    replace K := Lib.hid K
    go_wp2_with fail
    replace K := K.out
    refine (R0.out v2 a1c c1c AC.out).mono ?_
    rintro _ v3 ⟨rfl, hbb⟩
    clear R0 AC
    replace K := K.on hbb
    clear hbb
    replace K := Lib.hid K
    go_wp2_with fail
    replace K := K.out
    go_ret
    exact ⟨rfl, K.old⟩

set_option maxRecDepth 100000 in
theorem own : ownKnob Try.prog.godebug = none := by kernel_rfl
set_option maxRecDepth 100000 in
theorem laidOut : laidOutB Try.prog = true := by kernel_rfl
set_option maxRecDepth 100000 in
theorem bytesW : Try.prog.bytesOf 49 = 40 := by kernel_rfl
set_option maxRecDepth 100000 in
theorem lifted (os : Os) (started : os.Started) (H : Type) (enc : TypeId × Value → H) :
    ReturnsInHanded {} Try.checked os 4 .any (Rows.waveNarrowsSpec.pre6 enc Try.prog Try.f4 Rows.waveNarrowsRow.domain false) (Rows.waveNarrowsSpec.post enc Try.prog Try.f4 false true false false) := by
  refine returnsInHanded_of_change_sized (C := Try.checked) own started (by kernel_rfl) Try.func4
    (ChangeSpec.witness6 (enc := enc) (C := Try.checked) false ⟨#[], #[.slice none 0 0, .float .f64 0], []⟩ 8 (by kernel_rfl) (by kernel_rfl) (by kernel_rfl) (by kernel_rfl)) ?_
  intro W base args ds gs before hval0 hW _ hsz0 _
  have hsz : (DataW.weightsEach Try.prog (Try.f4.params.toList ++ Rows.waveNarrowsSpec.plain.varTypes Try.prog) (ds ++ gs)).all (· ≤ reachBytes) = true := hsz0
  clear hsz0
  have hval : ∀ (j : Nat) t v, Try.f4.params[j]? = some t → args[j]? = some v → Value.okWide Try.prog W .any base t v := hval0
  have hW' := hW
  obtain ⟨p, q, hA0, hV, rfl, _, _⟩ := hW
  have hA : DataW.TrodAll enc Try.prog W 0 (fun _ => true) true Try.f4.params.toList args.toList ds p := hA0
  rw [Try.params4] at hA hval hsz
  obtain ⟨v0, vs0, d0, ds0, p0, q0, hargs, rfl, rfl, t0, r0⟩ := trodAll_cons hA
  obtain ⟨v1, vs1, d1, ds1, p1, q1, rfl, rfl, rfl, t1, r1⟩ := trodAll_cons r0
  obtain ⟨rfl, rfl, rfl⟩ := trodAll_nil r1
  obtain rfl : args = #[v0, v1] := by cases args; simp_all
  obtain ⟨rfl, rfl⟩ := trodVars_none hV
  simp only [List.append_nil] at hW'
  have tk0 := t0
  obtain ⟨ao0, cap0, L0, rfl, hc0, hm0, ha0, hw0, hx0⟩ := open_waves (okWide_slice Try.underlying22 (hval 0 22 v0 rfl rfl)) t0
  have hr0 : cap0 * 40 ≤ 140737488351232 := by
    rcases hx0 with ⟨_, h0⟩ | ⟨_, es, sp, hd, h0⟩
    · rw [h0]; decide
    · subst hd
      have := sized_slice hsz (j := 0) (t := 22) (e := 49) rfl rfl Try.underlying22
      rw [bytesW, h0] at this
      simp only [reachBytes] at this
      omega
  have hn0 : ao0 = none → cap0 = 0 := by
    intro h
    rcases hx0 with ⟨_, h0⟩ | ⟨⟨a, h1⟩, _⟩
    · exact h0
    · rw [h] at h1; simp at h1
  have hlt0 : ∀ x ∈ p0, x.block < W.heap.size := fun x hx => by have := hW'.lt x (by simp [hx]); simpa using this
  obtain ⟨a1, rfl, rfl, rfl, w1⟩ := open_float Try.underlying23 (hval 1 23 v1 rfl rfl) t1
  clear hA0 hval0
  refine (walk W ao0 cap0 L0 hc0 hm0 ha0 hw0 hr0 hn0 a1 (wf64 w1)).mono fun e W' ⟨he, hb⟩ => ?_
  subst he
  refine ⟨_, rfl, _, _, _, [], _, [], hW', trodAll_cons_mk (shut_bool Try.underlying4 _) trodAll_mk0, (trodAll_cons_mk (Below.trod laidOut (by kernel_rfl) (of_decide_eq_true (by kernel_rfl)) tk0 hb hlt0) (trodAll_cons_mk (shut_float Try.underlying23 w1) trodAll_mk0)), rfl, hb.frame _, fun h => by cases h⟩

set_option maxRecDepth 100000 in
theorem over : Rows.waveNarrowsRow.holds Try.pinned (OpenSpec.ofChange Rows.waveNarrowsSpec) :=
  OpenClaim.holds_of_wide 4 Try.f4 rfl rfl rfl rfl rfl rfl rfl ⟨rfl, rfl, rfl, rfl, rfl⟩ rfl rfl rfl rfl rfl (by kernel_rfl) Try.func4 (by kernel_rfl)
    (of_decide_eq_true (by kernel_rfl)) (by unfold Func.isWrapper; first | (rw [if_pos (by decide +kernel)]; kernel_rfl) | (rw [if_neg (by decide +kernel)]; exact ⟨rfl, rfl⟩))
    (fun os started H enc _ => lifted os started H enc)

theorem proved : Rows.WaveNarrowsSaid :=
  over
end Go.Proofs.Ytgnofnjbmiepjaa.waveNarrows
