/- Proved here: no order is seen in the exact sums (TotShuffles, second form), over the translated code; where the arguments are of the bulk that the second form names. -/
import Derived.Test.YthgpdgajmpocfaaRows
import Derived.Test.YthgpdgajmpocfaaTsh
import Derived.Test.YthgpdgajmpocfaaTtw
import Derived.JoinedCond
import Derived.Deep.CondSized
namespace Go.Proofs.Ythgpdgajmpocfaa.totShuffles
open Go.ChangeShapes Go.WideShapes Go.ChangeAt Go.RowKit Ieee.Own

theorem start_any (k n : Nat) (hk : k < 18446744073709551616) (hn : n ≤ 4611686018427387904) :
    ∃ at_ : Nat, (at_ < n ∨ n = 0 ∧ at_ = 0) ∧ ∀ w, Calls Try.prog 28 #[.int .u64 k, .int .i64 n] w fun e w' => e = .returned (.int .i64 (at_ : Int)) ∧ w = w' := by
  by_cases h0 : n = 0
  · subst h0
    refine ⟨0, Or.inr ⟨rfl, rfl⟩, fun w => ?_⟩
    go_enter Try.func28, Try.ntmps28
    go_wp2
    go_ret
    exact ⟨rfl, rfl⟩
  · exact ⟨k % n, Or.inl (Nat.mod_lt _ (by omega)), fun w => start_run k n hk hn (by omega) w⟩

set_option maxHeartbeats 2000000 in
theorem walk (w : World) (ao0 : Option Addr) (cap0 : Nat) (L0 : List Nat) (hc0 : L0.length ≤ cap0) (hw0 : Words L0) (ha0 : At w ao0 L0) (hr0 : cap0 * 8 ≤ 140737488351232) (hn0 : ao0 = none → cap0 = 0) (ao1 : Option Addr) (cap1 : Nat) (L1 : List Nat) (hc1 : L1.length ≤ cap1) (hw1 : Words L1) (ha1 : At w ao1 L1) (hr1 : cap1 * 8 ≤ 140737488351232) (hn1 : ao1 = none → cap1 = 0) (a2 : Int) (_h2 : (Lit.int .u64 a2).wf = true) :
    Calls Try.prog 6 #[.slice ao0 L0.length cap0, .slice ao1 L1.length cap1, .int .u64 a2] w fun e w' => e = .returned (.bool true) ∧ Below w.heap.size w w' := by
  obtain ⟨k, hk, hk2⟩ : ∃ k : Nat, a2 = k ∧ k < 18446744073709551616 := by
    have : 0 ≤ a2 ∧ a2 ≤ 18446744073709551615 := by simpa [Lit.wf, IntKind.min, IntKind.max, IntKind.signed, IntKind.bits] using _h2
    exact ⟨a2.toNat, by omega, by omega⟩
  subst hk
  obtain ⟨n, hn⟩ : ∃ n, n = L0.length := ⟨_, rfl⟩
  obtain ⟨m, hm⟩ : ∃ m, m = L1.length := ⟨_, rfl⟩
  rw [← hn] at hc0 ⊢
  rw [← hm] at hc1 ⊢
  have hrnn : n * 8 ≤ 140737488351232 := by omega
  have hrnm : m * 8 ≤ 140737488351232 := by omega
  obtain ⟨at_, hat, S⟩ := start_any k n hk2 (by omega)
  have hat0 : at_ < L0.length ∨ L0.length = 0 := by omega
  have X := fun ao c x h => exact_run ao c n L0 x hn (by omega) hw0 h
  have Y := fun ao c x h => exact_run ao c n (turnL L0 at_) x (by rw [turnL_len]; exact hn) (by omega) (turnL_words hat0 hw0) h
  have T0 := fun x h => turned_run ao0 cap0 n at_ L0 x hn hrnn hat h
  have hxy := fun x y (h : ExactIs L0 x) (h' : ExactIs (turnL L0 at_) y) => exact_turned hat0 h h'
  rw [turnL_err hat0] at Y
  generalize errL L0 = er at *
  have hlt0 := Lib.hid ha0.lt
  have hlt1 := Lib.hid ha1.lt
  have hnn := Lib.hid hn
  have hnm := Lib.hid hm
  replace ha0 := Lib.hid ha0
  replace ha1 := Lib.hid ha1
  replace T0 := Lib.hid T0
  replace X := Lib.hid X
  replace Y := Lib.hid Y
  replace hxy := Lib.hid hxy
  by_cases hlen : n = m
  · have hat1 : at_ < m ∨ m = 0 ∧ at_ = 0 := by omega
    have hll : L0.length = L1.length := by omega
    have D := fun ao c bo c' x h h' => dot_run ao bo c c' n m L0 L1 x hn hm (by omega) (by omega) hw0 hw1 h h'
    have E := fun ao c bo c' x h h' => dot_run ao bo c c' n m (turnL L0 at_) (turnL L1 at_) x (by rw [turnL_len]; exact hn) (by rw [turnL_len]; exact hm) (by omega) (by omega) (turnL_words hat0 hw0) (turnL_words (by omega) hw1) h h'
    have F := fun ao c bo c' x h h' => psign_run ao bo c c' n m L0 L1 x hn hm (by omega) (by omega) hw0 hw1 h h'
    have G := fun ao c bo c' x h h' => psign_run ao bo c c' n m (turnL L0 at_) (turnL L1 at_) x (by rw [turnL_len]; exact hn) (by rw [turnL_len]; exact hm) (by omega) (by omega) (turnL_words hat0 hw0) (turnL_words (by omega) hw1) h h'
    have T1 := fun x h => turned_run ao1 cap1 m at_ L1 x hm hrnm hat1 h
    have hde := fun x y (h : DotIs L0 L1 x) (h' : DotIs (turnL L0 at_) (turnL L1 at_) y) => dot_turned hll hat0 h h'
    rw [errB_turned hll hat0] at E G
    rw [sign_turned hll hat0] at G
    generalize errB L0 L1 = eb at *
    generalize signS L0 L1 = sg at *
    replace D := Lib.hid D
    replace E := Lib.hid E
    replace F := Lib.hid F
    replace G := Lib.hid G
    replace T1 := Lib.hid T1
    replace hde := Lib.hid hde
    have tl : ((n : Int) != (m : Int)) = false := by simp; omega
    clear hw0 hw1 hr0 hr1 hc0 hc1 hn hm hlen hat hat0 hat1 hll hk2
    go_enter Try.func6, Try.ntmps6
    go_wp2_with fail
    refine (awake_run w).mono ?_
    rintro _ w1 ⟨rfl, B1⟩
    replace B1 := Lib.hid B1
    go_wp2_with (first | (at_builtin; refine wpList_copy rfl _ _ rfl rfl ao0 n cap0 L0 rfl hnn.out hn0 (ha0.out.later B1.out hlt0.out) hrnn ?_) | (go_at_call 28; ((with_reducible refine (S _).mono ?_); rintro e w' ⟨rfl, rfl⟩)))
    intro p1 q1 w2 C1
    have B2 := Lib.hid (B1.out.trans (C1.old.mono B1.out.size))
    have A1 := Lib.hid C1.at_
    clear C1
    go_wp2_with fail
    refine (X.out p1 q1 w2 A1.out).mono ?_
    rintro _ w3 ⟨⟨x, rfl, hx⟩, bx⟩
    have B3 := Lib.hid (B2.out.trans (bx.mono B2.out.size))
    replace hx := Lib.hid hx
    clear bx A1 B2
    unfold fe
    go_wp2_with fail
    refine (T0.out w3 (ha0.out.later B3.out hlt0.out)).mono ?_
    rintro _ w4 ⟨p2, q2, rfl, A2, oA2, bA2⟩
    have B4 := Lib.hid (B3.out.trans (oA2.mono B3.out.size))
    have Z := Y.out p2 q2 w4 A2
    clear A2 bA2 oA2
    go_wp2_with fail
    refine Z.mono ?_
    rintro _ w5 ⟨⟨y, rfl, hy⟩, bx⟩
    obtain rfl := hxy.out x y hx.out hy
    have B5 := Lib.hid (B4.out.trans (bx.mono B4.out.size))
    clear bx hy hx Z B4
    unfold fe
    go_wp2_with (first | (at_builtin; refine wpList_copy rfl _ _ rfl rfl ao0 n cap0 L0 rfl hnn.out hn0 (ha0.out.later B5.out hlt0.out) hrnn ?_) | (go_at_call 14; ((with_reducible refine (agree_true _ _ _).mono ?_); rintro e w' ⟨rfl, rfl⟩)))
    intro p3 q3 w6 C3
    have B6 := Lib.hid (B5.out.trans (C3.old.mono B5.out.size))
    have A3 := Lib.hid C3.at_
    have bA3 := Lib.hid C3.base
    clear C3
    go_wp2_with (at_builtin; refine wpList_copy rfl _ _ rfl rfl ao1 m cap1 L1 rfl hnm.out hn1 (ha1.out.later B6.out hlt1.out) hrnm ?_)
    intro p4 q4 w7 C4
    have B7 := Lib.hid (B6.out.trans (C4.old.mono B6.out.size))
    have xA3 := Lib.hid (A3.out.later C4.old (fun b o e _ => (bA3.out b o e).2))
    have A4 := Lib.hid C4.at_
    clear C4
    go_wp2_with fail
    refine (D.out p3 q3 p4 q4 w7 xA3.out A4.out).mono ?_
    rintro _ w8 ⟨⟨x, rfl, hx⟩, bx⟩
    have B8 := Lib.hid (B7.out.trans (bx.mono B7.out.size))
    replace hx := Lib.hid hx
    clear bx xA3 bA3 A3 A4
    unfold fe
    go_wp2_with fail
    refine (T0.out w8 (ha0.out.later B8.out hlt0.out)).mono ?_
    rintro _ w9 ⟨p5, q5, rfl, A5, oA5, bA5⟩
    have B9 := Lib.hid (B8.out.trans (oA5.mono B8.out.size))
    replace A5 := Lib.hid A5
    replace bA5 := Lib.hid bA5
    clear oA5
    go_wp2_with fail
    refine (T1.out w9 (ha1.out.later B9.out hlt1.out)).mono ?_
    rintro _ w10 ⟨p6, q6, rfl, A6, oA6, bA6⟩
    have B10 := Lib.hid (B9.out.trans (oA6.mono B9.out.size))
    have Z := E.out p5 q5 p6 q6 w10 (A5.out.later oA6 (fun b o e _ => bA5.out b o e)) A6
    clear A6 bA6 oA6 A5 bA5
    go_wp2_with fail
    refine Z.mono ?_
    rintro _ w11 ⟨⟨y, rfl, hy⟩, bx⟩
    obtain rfl := hde.out x y hx.out hy
    have B11 := Lib.hid (B10.out.trans (bx.mono B10.out.size))
    clear bx hy hx Z
    unfold fe
    go_wp2_with (at_builtin; refine wpList_copy rfl _ _ rfl rfl ao0 n cap0 L0 rfl hnn.out hn0 (ha0.out.later B11.out hlt0.out) hrnn ?_)
    intro p7 q7 w12 C7
    have B12 := Lib.hid (B11.out.trans (C7.old.mono B11.out.size))
    have A7 := Lib.hid C7.at_
    have bA7 := Lib.hid C7.base
    clear C7
    go_wp2_with (at_builtin; refine wpList_copy rfl _ _ rfl rfl ao1 m cap1 L1 rfl hnm.out hn1 (ha1.out.later B12.out hlt1.out) hrnm ?_)
    intro p8 q8 w13 C8
    have B13 := Lib.hid (B12.out.trans (C8.old.mono B12.out.size))
    have xA7 := Lib.hid (A7.out.later C8.old (fun b o e _ => (bA7.out b o e).2))
    have A8 := Lib.hid C8.at_
    clear C8
    go_wp2_with fail
    refine (F.out p7 q7 p8 q8 w13 xA7.out A8.out).mono ?_
    rintro _ w14 ⟨rfl, bx⟩
    have B14 := Lib.hid (B13.out.trans (bx.mono B13.out.size))
    clear bx xA7 bA7 A7 A8
    unfold ie
    go_wp2_with fail
    refine (T0.out w14 (ha0.out.later B14.out hlt0.out)).mono ?_
    rintro _ w15 ⟨p9, q9, rfl, A9, oA9, bA9⟩
    have B15 := Lib.hid (B14.out.trans (oA9.mono B14.out.size))
    replace A9 := Lib.hid A9
    replace bA9 := Lib.hid bA9
    clear oA9
    go_wp2_with fail
    refine (T1.out w15 (ha1.out.later B15.out hlt1.out)).mono ?_
    rintro _ w16 ⟨p10, q10, rfl, A10, oA10, bA10⟩
    have B16 := Lib.hid (B15.out.trans (oA10.mono B15.out.size))
    have Z := G.out p9 q9 p10 q10 w16 (A9.out.later oA10 (fun b o e _ => bA9.out b o e)) A10
    clear A10 bA10 oA10 A9 bA9
    go_wp2_with fail
    refine Z.mono ?_
    rintro _ w17 ⟨rfl, bx⟩
    have B17 := Lib.hid (B16.out.trans (bx.mono B16.out.size))
    clear bx Z
    unfold ie
    go_wp2_with (go_at_call 14; ((with_reducible refine (agree_true _ _ _).mono ?_); rintro e w' ⟨rfl, rfl⟩))
    go_ret
    exact ⟨rfl, B17.out⟩
  · have tl : ((n : Int) != (m : Int)) = true := by simp; omega
    clear hw0 hw1 hr0 hr1 hc0 hc1 hn hm hlen hat hat0 hk2
    go_enter Try.func6, Try.ntmps6
    go_wp2_with fail
    refine (awake_run w).mono ?_
    rintro _ w1 ⟨rfl, B1⟩
    replace B1 := Lib.hid B1
    go_wp2_with (first | (at_builtin; refine wpList_copy rfl _ _ rfl rfl ao0 n cap0 L0 rfl hnn.out hn0 (ha0.out.later B1.out hlt0.out) hrnn ?_) | (go_at_call 28; ((with_reducible refine (S _).mono ?_); rintro e w' ⟨rfl, rfl⟩)))
    intro p1 q1 w2 C1
    have B2 := Lib.hid (B1.out.trans (C1.old.mono B1.out.size))
    have A1 := Lib.hid C1.at_
    clear C1
    go_wp2_with fail
    refine (X.out p1 q1 w2 A1.out).mono ?_
    rintro _ w3 ⟨⟨x, rfl, hx⟩, bx⟩
    have B3 := Lib.hid (B2.out.trans (bx.mono B2.out.size))
    replace hx := Lib.hid hx
    clear bx A1 B2
    unfold fe
    go_wp2_with fail
    refine (T0.out w3 (ha0.out.later B3.out hlt0.out)).mono ?_
    rintro _ w4 ⟨p2, q2, rfl, A2, oA2, bA2⟩
    have B4 := Lib.hid (B3.out.trans (oA2.mono B3.out.size))
    have Z := Y.out p2 q2 w4 A2
    clear A2 bA2 oA2
    go_wp2_with fail
    refine Z.mono ?_
    rintro _ w5 ⟨⟨y, rfl, hy⟩, bx⟩
    obtain rfl := hxy.out x y hx.out hy
    have B5 := Lib.hid (B4.out.trans (bx.mono B4.out.size))
    clear bx hy hx Z B4
    unfold fe
    go_wp2_with (go_at_call 14; ((with_reducible refine (agree_true _ _ _).mono ?_); rintro e w' ⟨rfl, rfl⟩))
    go_ret
    exact ⟨rfl, B5.out⟩

theorem own : ownKnob Try.prog.godebug = none := by kernel_rfl
theorem laidOut : laidOutB Try.prog = true := by kernel_rfl
theorem cellsF : Try.prog.cellsOf 25 = 1 := by kernel_rfl
theorem bytesF : Try.prog.bytesOf 25 = 8 := by kernel_rfl
theorem wf64 {b : Nat} (h : (Lit.float .f64 b).wf = true) : b < 18446744073709551616 := by
  simp only [Lit.wf, decide_eq_true_eq] at h; exact h

set_option maxRecDepth 100000 in
theorem lifted (os : Os) (started : os.Started) (H : Type) (enc : TypeId × Value → H) (F : Stop.Interp) :
    ReturnsInHanded {} Try.checked os 6 .any ((Rows.OpenSpec.upto Rows.totShufflesSpec).pre6 enc Try.prog Try.f6 Rows.totShufflesUptoRow.domain false) (((Rows.OpenSpec.upto Rows.totShufflesSpec).at F).post enc Try.prog Try.f6 false true false false) := by
  refine returnsInHanded_of_cond_sized (C := Try.checked) (s := (Rows.OpenSpec.upto Rows.totShufflesSpec)) (k := Rows.uptoSmall) rfl own started (by kernel_rfl) Try.func6
    (OpenSpec.witness (enc := enc) (C := Try.checked) (s := (Rows.OpenSpec.upto Rows.totShufflesSpec)) (k := Rows.uptoSmall) rfl false ⟨#[], #[.slice none 0 0, .slice none 0 0, .int .u64 0], []⟩ 8 (by kernel_rfl) (by kernel_rfl) (by kernel_rfl)
      (x := ([.nil, .nil, .lit (.int .u64 0)], [], [])) (by kernel_rfl) rfl (by kernel_rfl)) ?_
  intro W base args ds gs before hval0 hW _ hkk hsz0 _
  have hsz : (DataW.weightsEach Try.prog (Try.f6.params.toList ++ Rows.totShufflesSpec.plain.varTypes Try.prog) (ds ++ gs)).all (· ≤ reachBytes) = true := hsz0
  clear hsz0
  have hval : ∀ (j : Nat) t v, Try.f6.params[j]? = some t → args[j]? = some v → Value.okWide Try.prog W .any base t v := hval0
  have hW' := hW
  obtain ⟨p, q, hA0, hV, rfl, _, _⟩ := hW
  have hA : DataW.TrodAll enc Try.prog W 0 (fun _ => true) true Try.f6.params.toList args.toList ds p := hA0
  rw [Try.params6] at hA hval hsz
  obtain ⟨v0, vs0, d0, ds0, p0, q0, hargs, rfl, rfl, t0, r0⟩ := trodAll_cons hA
  obtain ⟨v1, vs1, d1, ds1, p1, q1, rfl, rfl, rfl, t1, r1⟩ := trodAll_cons r0
  obtain ⟨v2, vs2, d2, ds2, p2, q2, rfl, rfl, rfl, t2, r2⟩ := trodAll_cons r1
  obtain ⟨rfl, rfl, rfl⟩ := trodAll_nil r2
  obtain rfl : args = #[v0, v1, v2] := by cases args; simp_all
  obtain ⟨rfl, rfl⟩ := trodVars_none hV
  simp only [List.append_nil] at hW'
  have tk0 := t0
  obtain ⟨ao0, cap0, L0, rfl, hc0, hw0, ha0, hx0⟩ := open_flts Try.underlying22 Try.underlying25 cellsF (okWide_slice Try.underlying22 (hval 0 22 v0 rfl rfl)) t0
  have hr0 : cap0 * 8 ≤ 140737488351232 := by
    rcases hx0 with ⟨_, h0⟩ | ⟨_, es, sp, hd, h0⟩
    · rw [h0]; decide
    · subst hd
      have := sized_slice hsz (j := 0) (t := 22) (e := 25) rfl rfl Try.underlying22
      rw [bytesF, h0] at this
      simp only [reachBytes] at this
      omega
  have hn0 : ao0 = none → cap0 = 0 := by
    intro h
    rcases hx0 with ⟨_, h0⟩ | ⟨⟨a, h1⟩, _⟩
    · exact h0
    · rw [h] at h1; simp at h1
  have hlt0 : ∀ x ∈ p0, x.block < W.heap.size := fun x hx => by have := hW'.lt x (by simp [hx]); simpa using this
  have tk1 := t1
  obtain ⟨ao1, cap1, L1, rfl, hc1, hw1, ha1, hx1⟩ := open_flts Try.underlying22 Try.underlying25 cellsF (okWide_slice Try.underlying22 (hval 1 22 v1 rfl rfl)) t1
  have hr1 : cap1 * 8 ≤ 140737488351232 := by
    rcases hx1 with ⟨_, h0⟩ | ⟨_, es, sp, hd, h0⟩
    · rw [h0]; decide
    · subst hd
      have := sized_slice hsz (j := 1) (t := 22) (e := 25) rfl rfl Try.underlying22
      rw [bytesF, h0] at this
      simp only [reachBytes] at this
      omega
  have hn1 : ao1 = none → cap1 = 0 := by
    intro h
    rcases hx1 with ⟨_, h0⟩ | ⟨⟨a, h1⟩, _⟩
    · exact h0
    · rw [h] at h1; simp at h1
  have hlt1 : ∀ x ∈ p1, x.block < W.heap.size := fun x hx => by have := hW'.lt x (by simp [hx]); simpa using this
  obtain ⟨a2, rfl, rfl, rfl, w2⟩ := open_int Try.underlying35 (hval 2 35 v2 rfl rfl) t2
  clear hA0 hval0
  refine (walk W ao0 cap0 L0 hc0 hw0 ha0 hr0 hn0 ao1 cap1 L1 hc1 hw1 ha1 hr1 hn1 a2 w2).mono fun e W' ⟨he, hb⟩ => ?_
  subst he
  refine ⟨_, rfl, _, _, _, [], _, [], hW', trodAll_cons_mk (shut_bool Try.underlying4 _) trodAll_mk0, (trodAll_cons_mk (Below.trod laidOut (by kernel_rfl) (of_decide_eq_true (by kernel_rfl)) tk0 hb hlt0) (trodAll_cons_mk (Below.trod laidOut (by kernel_rfl) (of_decide_eq_true (by kernel_rfl)) tk1 hb hlt1) (trodAll_cons_mk (shut_int Try.underlying35 w2) trodAll_mk0))), rfl, hb.frame _, fun h => by cases h⟩

theorem over : Rows.totShufflesUptoRow.holds Try.pinned (Rows.OpenSpec.upto Rows.totShufflesSpec) :=
  OpenClaim.holds_of_cond 6 Try.f6 rfl rfl rfl rfl rfl rfl rfl ⟨rfl, rfl, rfl, rfl, rfl⟩ rfl rfl rfl rfl rfl (by kernel_rfl) Try.func6 (by kernel_rfl)
    (of_decide_eq_true (by kernel_rfl)) (by unfold Func.isWrapper; first | (rw [if_pos (by decide +kernel)]; kernel_rfl) | (rw [if_neg (by decide +kernel)]; exact ⟨rfl, rfl⟩))
    (fun os started H enc _ F => lifted os started H enc F)

theorem proved : Rows.TotShufflesUptoSaid :=
  over
end Go.Proofs.Ythgpdgajmpocfaa.totShuffles
