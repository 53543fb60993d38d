/- Proved here: DateCivils returns true for every input (its only condition: that the input can be read as data). -/
import Derived.Test.YtppggaibhfajjaaDaw
import Derived.Test.YtppggaibhfajjaaDjr
import Derived.Test.YtppggaibhfajjaaDjb
import Derived.Test.YtppggaibhfajjaaDjq
namespace Go.Proofs.Ytppggaibhfajjaa.dateCivils
open Go.ChangeShapes Go.WideShapes Go.ChangeAt Go.RowKit

theorem civV_any (L : List (Int × Int)) (t : Int) : ∃ x k : Int, civV L t = .tuple #[.int .i64 x, .int .i64 k] := by
  unfold civV
  split
  · split
    · exact ⟨_, _, rfl⟩
    · exact ⟨_, _, rfl⟩
  · exact ⟨_, _, rfl⟩
theorem drew_belowC {w w1 : World} (h : ∃ n, w1 = w.drewN n) : Below w.heap.size w w1 := by
  obtain ⟨n, rfl⟩ := h; exact bl_drewN (Below.refl _ _) n
theorem bakM_len (L : List (Int × Int)) (c : Int) : (bakM L c).length ≤ 9223372036854775807 := by
  unfold bakM
  split
  · rename_i h
    have hl : L.length ≤ 64 := by
      by_cases h0 : chkJ L = 0
      · exact (chkJ_zero h0).1
      · rw [(bakE_bad c h0).1] at h; exact absurd h h0
    have := bakK_len L c (L.length + 1)
    unfold bak
    omega
  · simp
set_option maxHeartbeats 2000000 in
set_option maxRecDepth 100000 in
theorem walk (w : World) (ao0 : Option Addr) (cap0 : Nat) (L0 : List (Int × Int)) (hc0 : L0.length ≤ cap0) (ha0 : JAt w ao0 L0) (hr0 : cap0 * 16 ≤ 140737488351232) (hn0 : ao0 = none → cap0 = 0) (a1 : Int) (_h1 : (Lit.int .i64 a1).wf = true) (a2 : Int) (_h2 : (Lit.int .i64 a2).wf = true) :
    Calls Try.prog 4 #[.slice ao0 L0.length cap0, .int .i64 a1, .int .i64 a2] w fun e w' => e = .returned (.bool true) ∧ Below w.heap.size w w' := by
  obtain ⟨n, hn⟩ : ∃ n, n = L0.length := ⟨_, rfl⟩
  rw [← hn] at hc0 ⊢
  have hm : n ≤ 4611686018427387904 := by omega
  have hcm : cap0 ≤ 9223372036854775807 := by omega
  have hrn : n * 16 ≤ 140737488351232 := by omega
  have AW := Lib.hid awake_run
  have C1 : Hid (∀ w, JAt w ao0 L0 → Calls Try.prog 19 #[.slice ao0 n cap0] w fun e w' => e = .returned (.int .i64 (chkJ L0)) ∧ Below w.heap.size w w') := fun w h => check_run ao0 cap0 n L0 w hn hm h
  have C2 : Hid (∀ w, JAt w ao0 L0 → Calls Try.prog 20 #[.slice ao0 n cap0] w fun e w' => e = .returned (.int .i64 (chkJ L0)) ∧ ∃ m, w' = w.drewN m) := fun w h => rcheck_run ao0 cap0 n L0 w hn hm h
  have RM : Hid (∀ w, JAt w ao0 L0 → Calls Try.prog 21 #[.slice ao0 n cap0] w fun e w' => ∃ g cap', e = .returned (.slice (some ⟨g, 0, none⟩) n cap') ∧ n + 1 ≤ cap' ∧ cap' ≤ maxLen ∧ JAt w' (some ⟨g, 0, none⟩) (L0 ++ mark) ∧ w.heap.size ≤ g ∧ g < w'.heap.size ∧ Below w.heap.size w w') := fun w h => roomy_run ao0 cap0 n L0 w hn hrn hn0 h
  have V1 : Hid (∀ (g cap' : Nat) w, n + 1 ≤ cap' → cap' ≤ maxLen → JAt w (some ⟨g, 0, none⟩) (L0 ++ mark) → Calls Try.prog 22 #[.slice (some ⟨g, 0, none⟩) n cap', .int .i64 a1] w fun e w' => e = .returned (civV L0 a1) ∧ Below w.heap.size w w') := fun g cap' w h1 h2 h => civil_run _ cap' n L0 a1 w hn (by omega) hm (by unfold maxLen at h2; omega) (by intro q; cases q) h.left
  have V2 : Hid (∀ w, JAt w ao0 L0 → Calls Try.prog 23 #[.slice ao0 n cap0, .int .i64 a1] w fun e w' => e = .returned (civV L0 a1) ∧ ∃ m, w' = w.drewN m) := fun w h => rcivil_run ao0 cap0 n L0 a1 w hn hm h
  have K1 : Hid (∀ (g cap' : Nat) w, n + 1 ≤ cap' → cap' ≤ maxLen → JAt w (some ⟨g, 0, none⟩) (L0 ++ mark) → Calls Try.prog 24 #[.slice (some ⟨g, 0, none⟩) n cap', .int .i64 a2] w (BackRes w (bakM L0 a2) (bakE L0 a2))) := fun g cap' w h1 h2 h => back_run _ cap' n L0 a2 w hn (by omega) hm (by unfold maxLen at h2; omega) (by intro q; cases q) h.left
  have K2 : Hid (∀ w, JAt w ao0 L0 → Calls Try.prog 25 #[.slice ao0 n cap0, .int .i64 a2] w (BackRes w (bakM L0 a2) (bakE L0 a2))) := fun w h => rback_run ao0 cap0 n L0 a2 w hn hm h
  have KP : Hid (∀ (g cap' : Nat) w, n + 1 ≤ cap' → cap' ≤ maxLen → JAt w (some ⟨g, 0, none⟩) (L0 ++ mark) → JAt w ao0 L0 → Calls Try.prog 26 #[.slice (some ⟨g, 0, none⟩) n cap', .slice ao0 n cap0] w fun e w' => e = .returned (.bool true) ∧ ∃ m, w' = w.drewN m) := fun g cap' w h1 h2 h k => kept_run g ao0 cap0 cap' n L0 w hn hm h1 h2 h k
  obtain ⟨x, k, hv⟩ := civV_any L0 a1
  rw [hv] at V1 V2
  have Mb : Hid ((bakM L0 a2).length ≤ 9223372036854775807) := bakM_len L0 a2
  generalize chkJ L0 = ce at *
  generalize bakM L0 a2 = M at *
  generalize bakE L0 a2 = be at *
  have A := Lib.hid ha0
  clear hv hn ha0 hc0 hr0 hn0
  go_enter Try.func4, Try.ntmps4
  go_wp2_with fail
  refine (AW.out _).mono ?_
  rintro _ v0 ⟨rfl, hb1⟩
  replace A := Lib.hid (A.out.on hb1)
  have B := Lib.hid hb1
  clear AW hb1
  go_wp2_with fail
  refine (C1.out _ A.out).mono ?_
  rintro _ v1 ⟨rfl, hb1⟩
  replace A := Lib.hid (A.out.on hb1)
  replace B := Lib.hid (B.out.trans (hb1.mono B.out.size))
  clear C1 hb1
  go_wp2_with fail
  refine (C2.out _ A.out).mono ?_
  rintro _ v2 ⟨rfl, hd⟩
  have hb1 := drew_belowC hd
  replace A := Lib.hid (A.out.on hb1)
  replace B := Lib.hid (B.out.trans (hb1.mono B.out.size))
  clear C2 hb1 hd
  go_wp2_with fail
  refine (RM.out _ A.out).mono ?_
  rintro _ v3 ⟨g, cap', rfl, k1, k2, R, _, _, hb1⟩
  replace R := Lib.hid R
  replace A := Lib.hid (A.out.on hb1)
  replace B := Lib.hid (B.out.trans (hb1.mono B.out.size))
  clear RM hb1
  replace k2 := Lib.hid k2
  go_wp2_with fail
  refine (V1.out g cap' _ k1 k2.out R.out).mono ?_
  rintro _ v4 ⟨rfl, hb1⟩
  replace A := Lib.hid (A.out.on hb1)
  replace B := Lib.hid (B.out.trans (hb1.mono B.out.size))
  replace R := Lib.hid (R.out.on hb1)
  clear V1 hb1
  go_wp2_with fail
  refine (V2.out _ A.out).mono ?_
  rintro _ v5 ⟨rfl, hd⟩
  have hb1 := drew_belowC hd
  replace A := Lib.hid (A.out.on hb1)
  replace B := Lib.hid (B.out.trans (hb1.mono B.out.size))
  replace R := Lib.hid (R.out.on hb1)
  clear V2 hb1 hd
  go_wp2_with fail
  refine (K1.out g cap' _ k1 k2.out R.out).mono ?_
  rintro _ v6 ⟨p, rfl, N⟩
  have hb1 := N.old
  replace A := Lib.hid (A.out.on hb1)
  replace B := Lib.hid (B.out.trans (hb1.mono B.out.size))
  replace R := Lib.hid (R.out.on hb1)
  clear K1 hb1
  obtain ⟨pa, pc, rfl, _, _, P⟩ := ownsI_at N.own
  replace P := Lib.hid P
  clear N
  go_wp2_with fail
  refine (K2.out _ A.out).mono ?_
  rintro _ v7 ⟨q, rfl, N⟩
  have hb1 := N.old
  replace A := Lib.hid (A.out.on hb1)
  replace B := Lib.hid (B.out.trans (hb1.mono B.out.size))
  replace R := Lib.hid (R.out.on hb1)
  replace P := Lib.hid (P.out.on hb1)
  clear K2 hb1
  obtain ⟨qa, qc, rfl, _, _, Q⟩ := ownsI_at N.own
  replace Q := Lib.hid Q
  clear N
  obtain ⟨mlen, hml⟩ : ∃ m, m = M.length := ⟨_, rfl⟩
  rw [← hml] at Mb ⊢
  replace hml := Lib.hid hml
  have mb := Mb.out
  go_wp2_with fail
  go_loopw [14] (fun iv wr => ∃ i m : Nat, i ≤ mlen ∧ iv = .int .i64 i ∧ wr = v7.drewN m) (fun iv _ => mlen - (intOf iv).toNat)
  case atStart => exact ⟨0, 0, Nat.zero_le _, rfl, rfl⟩
  case round =>
    obtain ⟨i, m, hi, rfl, rfl⟩ := hrel
    by_cases hlt : i < mlen
    · obtain ⟨b, o, rfl, p1⟩ := P.out i (by have := hml.out; omega)
      obtain ⟨b2, o2, rfl, q1⟩ := Q.out i (by have := hml.out; omega)
      generalize M.getD i 0 = u at *
      go_wp2_with fail
      go_quiet (fail)
      go_wp2_with fail
      go_roundw
      case rel => exact ⟨i + 1, _, hlt, by go_num, rfl⟩
      case measure => simp [intOf]; omega
    · obtain rfl : i = mlen := by omega
      go_wp2_with fail
      refine (KP.out g cap' _ k1 k2.out (R.out.drew m) (A.out.drew m)).mono ?_
      rintro _ v8 ⟨rfl, hd⟩
      have hb1 := drew_belowC hd
      replace B := Lib.hid ((bl_drewN B.out m).trans (hb1.mono B.out.size))
      clear KP hb1 hd
      go_wp2_with fail
      go_ret
      exact ⟨rfl, B.out⟩

theorem own : ownKnob Try.prog.godebug = none := by kernel_rfl
theorem laidOut : laidOutB Try.prog = true := by kernel_rfl
theorem bytesJ : Try.prog.bytesOf 59 = 16 := by kernel_rfl
set_option maxRecDepth 100000 in
theorem lifted (os : Os) (started : os.Started) (H : Type) (enc : TypeId × Value → H) :
    ReturnsInHanded {} Try.checked os 4 .any (Rows.dateCivilsSpec.pre6 enc Try.prog Try.f4 Rows.dateCivilsRow.domain false) (Rows.dateCivilsSpec.post enc Try.prog Try.f4 false true false false) := by
  refine returnsInHanded_of_change_sized (C := Try.checked) own started (by kernel_rfl) Try.func4
    (ChangeSpec.witness6 (enc := enc) (C := Try.checked) false ⟨#[], #[.slice none 0 0, .int .i64 0, .int .i64 0], []⟩ 8 (by kernel_rfl) (by kernel_rfl) (by kernel_rfl) (by kernel_rfl)) ?_
  intro W base args ds gs before hval0 hW _ hsz0 _
  have hsz : (DataW.weightsEach Try.prog (Try.f4.params.toList ++ Rows.dateCivilsSpec.plain.varTypes Try.prog) (ds ++ gs)).all (· ≤ reachBytes) = true := hsz0
  clear hsz0
  have hval : ∀ (j : Nat) t v, Try.f4.params[j]? = some t → args[j]? = some v → Value.okWide Try.prog W .any base t v := hval0
  have hW' := hW
  obtain ⟨p, q, hA0, hV, rfl, _, _⟩ := hW
  have hA : DataW.TrodAll enc Try.prog W 0 (fun _ => true) true Try.f4.params.toList args.toList ds p := hA0
  rw [Try.params4] at hA hval hsz
  obtain ⟨v0, vs0, d0, ds0, p0, q0, hargs, rfl, rfl, t0, r0⟩ := trodAll_cons hA
  obtain ⟨v1, vs1, d1, ds1, p1, q1, rfl, rfl, rfl, t1, r1⟩ := trodAll_cons r0
  obtain ⟨v2, vs2, d2, ds2, p2, q2, rfl, rfl, rfl, t2, r2⟩ := trodAll_cons r1
  obtain ⟨rfl, rfl, rfl⟩ := trodAll_nil r2
  obtain rfl : args = #[v0, v1, v2] := by cases args; simp_all
  obtain ⟨rfl, rfl⟩ := trodVars_none hV
  simp only [List.append_nil] at hW'
  have tk0 := t0
  obtain ⟨ao0, cap0, L0, rfl, hc0, ha0, hx0⟩ := open_jumps (okWide_slice Try.underlying36 (hval 0 36 v0 rfl rfl)) t0
  have hr0 : cap0 * 16 ≤ 140737488351232 := by
    rcases hx0 with ⟨_, h0⟩ | ⟨_, es, sp, hd, h0⟩
    · rw [h0]; decide
    · subst hd
      have := sized_slice hsz (j := 0) (t := 36) (e := 59) rfl rfl Try.underlying36
      rw [bytesJ, h0] at this
      simp only [reachBytes] at this
      omega
  have hn0 : ao0 = none → cap0 = 0 := by
    intro h
    rcases hx0 with ⟨_, h0⟩ | ⟨⟨a, h1⟩, _⟩
    · exact h0
    · rw [h] at h1; simp at h1
  have hlt0 : ∀ x ∈ p0, x.block < W.heap.size := fun x hx => by have := hW'.lt x (by simp [hx]); simpa using this
  obtain ⟨a1, rfl, rfl, rfl, w1⟩ := open_int Try.underlying2 (hval 1 2 v1 rfl rfl) t1
  obtain ⟨a2, rfl, rfl, rfl, w2⟩ := open_int Try.underlying2 (hval 2 2 v2 rfl rfl) t2
  clear hA0 hval0
  refine (walk W ao0 cap0 L0 hc0 ha0 hr0 hn0 a1 w1 a2 w2).mono fun e W' ⟨he, hb⟩ => ?_
  subst he
  refine ⟨_, rfl, _, _, _, [], _, [], hW', trodAll_cons_mk (shut_bool Try.underlying4 _) trodAll_mk0, (trodAll_cons_mk (Below.trod laidOut (by kernel_rfl) (of_decide_eq_true (by kernel_rfl)) tk0 hb hlt0) (trodAll_cons_mk (shut_int Try.underlying2 w1) (trodAll_cons_mk (shut_int Try.underlying2 w2) trodAll_mk0))), rfl, hb.frame _, fun h => by cases h⟩

theorem over : Rows.dateCivilsRow.holds Try.pinned (OpenSpec.ofChange Rows.dateCivilsSpec) :=
  OpenClaim.holds_of_wide 4 Try.f4 rfl rfl rfl rfl rfl rfl rfl ⟨rfl, rfl, rfl, rfl, rfl⟩ rfl rfl rfl rfl rfl (by kernel_rfl) Try.func4 (by kernel_rfl)
    (of_decide_eq_true (by kernel_rfl)) (by unfold Func.isWrapper; first | (rw [if_pos (by decide +kernel)]; kernel_rfl) | (rw [if_neg (by decide +kernel)]; exact ⟨rfl, rfl⟩))
    (fun os started H enc _ => lifted os started H enc)

theorem proved : Rows.DateCivilsSaid :=
  over
end Go.Proofs.Ytppggaibhfajjaa.dateCivils
