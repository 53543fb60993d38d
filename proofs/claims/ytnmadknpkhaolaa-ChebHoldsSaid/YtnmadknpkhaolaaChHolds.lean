/- Proved here: for all tables, spans and times the law ChebHolds returns true: a place lies in its box. No conditions. -/
import Derived.Test.YtnmadknpkhaolaaRows
import Derived.Test.YtnmadknpkhaolaaJz19
import Derived.Test.YtnmadknpkhaolaaJz21
namespace Go.Proofs.Ytnmadknpkhaolaa.chebHolds
open Go.ChangeShapes Go.WideShapes Go.ChangeAt Go.RowKit

theorem wf64 {b : Nat} (h : (Lit.float .f64 b).wf = true) : b < 18446744073709551616 := by
  simp only [Lit.wf, decide_eq_true_eq] at h; exact h
set_option maxHeartbeats 2000000 in
set_option maxRecDepth 100000 in
theorem walk (w : World) (ao0 : Option Addr) (cap0 : Nat) (T0 : Tb) (hc0 : T0.rows.length ≤ cap0) (hm0 : cap0 ≤ maxLen) (hn0 : ao0 = none → cap0 = 0) (hw0 : TbW T0) (ha0 : TbAt w ao0 T0.rows) (hS0 : TbSz T0) (a1 b1 : Nat) (ha1 : a1 < 18446744073709551616) (hb1 : b1 < 18446744073709551616) (a2 : Nat) (h2 : a2 < 18446744073709551616) :
    Calls Try.prog 7 #[tbV T0 ao0 cap0, spanV a1 b1, .float .f64 a2] w fun e w' => e = .returned (.bool true) ∧ Below w.heap.size w w' := by
  have _u : _ ∧ _ ∧ _ := ⟨hc0, hm0, hn0⟩
  clear _u
  have AW := Lib.hid awake13
  have hn62 : T0.rows.length ≤ 4611686018427387904 := by have := hS0.n; omega
  have HS := Lib.hid (fun w => rhas_any ha1 hb1 a2 w)
  obtain ⟨RA, hRA⟩ : ∃ RA, RA = atH T0 a2 := ⟨_, rfl⟩
  obtain ⟨IA, hIA⟩ : ∃ IA, IA = boxH T0 (a1, b1) := ⟨_, rfl⟩
  have TR : Hid (∀ W, Below w.heap.size w W → Calls Try.prog 19 #[tbV T0 ao0 cap0] W fun e w' => ∃ ao' cap', e = .returned (tbV T0 ao' cap') ∧ T0.rows.length ≤ cap' ∧ cap' ≤ maxLen ∧ (ao' = none → cap' = 0) ∧ TbAt w' ao' T0.rows ∧ Below W.heap.size W w') := Lib.hid fun W hb => table_run ao0 cap0 W hS0 (ha0.on hb)
  have R1 : Hid (∀ W ao cap, TbAt W ao T0.rows → Calls Try.prog 23 #[tbV T0 ao cap, .float .f64 a2] W fun e w' => e = .returned (vecE RA.1 RA.2) ∧ Below W.heap.size W w') :=
    Lib.hid fun W ao cap ha => by rw [hRA]; exact cat_run ao cap W hn62 hw0 ha h2
  have I1 : Hid (∀ W ao cap, T0.rows.length ≤ cap → TbAt W ao T0.rows → Calls Try.prog 34 #[tbV T0 ao cap, .agg #[.float .f64 a1, .float .f64 b1]] W fun e w' => e = .returned (boxE IA.1 IA.2) ∧ Below W.heap.size W w') :=
    Lib.hid fun W ao cap hc ha => by rw [hIA]; exact cbox_run ao cap W hn62 hc hw0 ha ha1 hb1
  have BK : Hid (rhB a1 b1 a2 = true → RA.2 = 0 → IA.2 = 0 → rhB IA.1.1.1 IA.1.1.2 RA.1.1 = true ∧ rhB IA.1.2.1.1 IA.1.2.1.2 RA.1.2.1 = true ∧ rhB IA.1.2.2.1 IA.1.2.2.2 RA.1.2.2 = true ∧ W6 IA.1) := Lib.hid fun e0 e1 e2 => by
    obtain ⟨x1, x2, x3⟩ := cheb_holds (t := T0) (s := (a1, b1)) (d := a2) hw0 ha1 hb1 h2 e0 (by rw [← hRA]; exact e1) (by rw [← hIA]; exact e2)
    rw [hRA, hIA]
    exact ⟨x1, x2, x3, box_w6 hw0 ha1 hb1 (by rw [← hIA]; exact e2)⟩
  obtain ⟨n, hn⟩ : ∃ n, n = T0.rows.length := ⟨_, rfl⟩
  clear hRA hIA hn62
  unfold tbV at *
  rw [← hn] at TR I1 R1 hc0 ⊢
  generalize hfr : T0.fr = fr at *
  generalize hst' : T0.st = st at *
  clear hfr hst' hn hc0 hm0 hn0 hw0 ha0 hS0 ha1 hb1 h2
  generalize T0.rows = RS at *
  generalize rhB a1 b1 a2 = hb at *
  obtain ⟨⟨p1, p2, p3⟩, kr⟩ := RA
  obtain ⟨⟨⟨q1, q2⟩, ⟨q3, q4⟩, ⟨q5, q6⟩⟩, ki⟩ := IA
  unfold boxE boxV at I1
  unfold vecE vecV at R1
  unfold spanV
  dsimp only at *
  have hst := @fstore
  have K0 := kv2 w 34 60 [.float .f64 fr, .float .f64 st, .slice ao0 n cap0] [.float .f64 a1, .float .f64 b1]
  simp only [objV] at K0
  replace K0 := Lib.hid K0
  go_enter Try.func7, Try.ntmps7
  go_wp2_with fail
  have K := K0.out
  clear K0
  generalize (w.alloc _).alloc _ = wr at *
  refine (AW.out wr).mono ?_
  rintro _ v1 ⟨rfl, hb'⟩
  replace K := K.on hb'
  clear hb' AW
  have c1_0 := (K.at_ 1 rfl).at_ 0 _ rfl
  have c1_1 := (K.at_ 1 rfl).at_ 1 _ rfl
  replace K := Lib.hid K
  go_wp2_with fail
  replace K := K.out
  refine (HS.out v1).mono ?_
  rintro _ v2 ⟨rfl, hb'⟩
  clear c1_0 c1_1 HS
  replace K := K.on hb'
  clear hb'
  cases hb with
  | false =>
    replace K := Lib.hid K
    go_wp2_with fail
    go_ret
    exact ⟨rfl, K.out.old⟩
  | true =>
    have c0_0 := (K.at_ 0 rfl).at_ 0 _ rfl
    have c0_1 := (K.at_ 0 rfl).at_ 1 _ rfl
    have c0_2 := (K.at_ 0 rfl).at_ 2 _ rfl
    replace K := Lib.hid K
    go_wp2_with fail
    replace K := K.out
    refine (TR.out v2 K.old).mono ?_
    rintro _ v3 ⟨ao, cap, rfl, hca, -, -, hta, hb'⟩
    clear c0_0 c0_1 c0_2 TR
    replace K := K.on hb'
    clear hb'
    replace K := K.new 34 [.float .f64 fr, .float .f64 st, .slice ao n cap]
    have TA := Lib.hid (hta.alloc (objV 34 [.float .f64 fr, .float .f64 st, .slice ao n cap]))
    simp only [objV, List.cons_append, List.nil_append] at K TA
    replace hca := Lib.hid hca
    clear hta
    have c2_0 := (K.at_ 2 rfl).at_ 0 _ rfl
    have c2_1 := (K.at_ 2 rfl).at_ 1 _ rfl
    have c2_2 := (K.at_ 2 rfl).at_ 2 _ rfl
    replace K := Lib.hid K
    go_wp2_with fail
    replace K := K.out
    generalize v3.alloc _ = w3 at *
    generalize v3.heap.size = g1 at *
    refine (R1.out w3 ao cap TA.out).mono ?_
    rintro _ v4 ⟨rfl, hb'⟩
    clear c2_0 c2_1 c2_2 R1
    replace K := K.on hb'
    have TB := Lib.hid (TA.out.on hb')
    clear hb' TA
    replace K := K.new 41 [.float .f64 p1, .float .f64 p2, .float .f64 p3]
    have TC := Lib.hid (TB.out.alloc (objV 41 [.float .f64 p1, .float .f64 p2, .float .f64 p3]))
    simp only [objV, List.cons_append, List.nil_append] at K TC
    clear TB
    have c2_0 := (K.at_ 2 rfl).at_ 0 _ rfl
    have c2_1 := (K.at_ 2 rfl).at_ 1 _ rfl
    have c2_2 := (K.at_ 2 rfl).at_ 2 _ rfl
    have c1_0 := (K.at_ 1 rfl).at_ 0 _ rfl
    have c1_1 := (K.at_ 1 rfl).at_ 1 _ rfl
    replace K := Lib.hid K
    go_wp2_with fail
    replace K := K.out
    generalize v4.alloc _ = w4 at *
    generalize v4.heap.size = g2 at *
    refine (I1.out w4 ao cap hca.out TC.out).mono ?_
    rintro _ v5 ⟨rfl, hb'⟩
    clear c2_0 c2_1 c2_2 c1_0 c1_1 I1 TC hca
    replace K := K.on hb'
    clear hb'
    replace K := K.new 63 [.float .f64 q1, .float .f64 q2, .float .f64 q3, .float .f64 q4, .float .f64 q5, .float .f64 q6]
    simp only [objV, List.cons_append, List.nil_append] at K
    have c3_0 := (K.at_ 3 rfl).at_ 0 _ rfl
    have c3_1 := (K.at_ 3 rfl).at_ 1 _ rfl
    have c3_2 := (K.at_ 3 rfl).at_ 2 _ rfl
    have c4_0 := (K.at_ 4 rfl).at_ 0 _ rfl
    have c4_1 := (K.at_ 4 rfl).at_ 1 _ rfl
    have c4_2 := (K.at_ 4 rfl).at_ 2 _ rfl
    have c4_3 := (K.at_ 4 rfl).at_ 3 _ rfl
    have c4_4 := (K.at_ 4 rfl).at_ 4 _ rfl
    have c4_5 := (K.at_ 4 rfl).at_ 5 _ rfl
    by_cases z1 : kr = 0
    · by_cases z2 : ki = 0
      · obtain ⟨b1', b2', b3', bw⟩ := BK.out (by trivial) z1 z2
        have BH := Lib.hid (fun w => rboxhas_true (Lib.hid fun w => by have := rhas_any bw.x.l1 bw.x.l2 p1 w; rw [b1'] at this; exact this) (Lib.hid fun w => by have := rhas_any bw.y.l1 bw.y.l2 p2 w; rw [b2'] at this; exact this) (Lib.hid fun w => by have := rhas_any bw.z.l1 bw.z.l2 p3 w; rw [b3'] at this; exact this) w)
        dsimp only at BH
        subst z1 z2
        clear BK b1' b2' b3' bw
        replace K := Lib.hid K
        go_wp2_with fail
        replace K := K.out
        generalize v5.alloc _ = w5 at *
        generalize v5.heap.size = g3 at *
        refine (BH.out w5).mono ?_
        rintro _ v6 ⟨rfl, hb'⟩
        clear c3_0 c3_1 c3_2 c4_0 c4_1 c4_2 c4_3 c4_4 c4_5 BH
        replace K := K.on hb'
        clear hb'
        replace K := Lib.hid K
        go_wp2_with fail
        go_ret
        exact ⟨rfl, K.out.old⟩
      · have t2 : (ki != 0) = true := by simpa using z2
        subst z1
        clear BK z2
        replace K := Lib.hid K
        go_wp2_with fail
        go_ret
        exact ⟨rfl, K.out.old⟩
    · have t1 : (kr != 0) = true := by simpa using z1
      clear BK z1
      replace K := Lib.hid K
      go_wp2_with fail
      go_ret
      exact ⟨rfl, K.out.old⟩

set_option maxRecDepth 100000 in
theorem own : ownKnob Try.prog.godebug = none := by kernel_rfl
set_option maxRecDepth 100000 in
theorem laidOut : laidOutB Try.prog = true := by kernel_rfl
set_option maxRecDepth 100000 in
theorem lifted (os : Os) (started : os.Started) (H : Type) (enc : TypeId × Value → H) :
    ReturnsInHanded {} Try.checked os 7 .any (Rows.chebHoldsSpec.pre6 enc Try.prog Try.f7 Rows.chebHoldsRow.domain false) (Rows.chebHoldsSpec.post enc Try.prog Try.f7 false true false false) := by
  refine returnsInHanded_of_change_sized (C := Try.checked) own started (by kernel_rfl) Try.func7
    (ChangeSpec.witness6 (enc := enc) (C := Try.checked) false ⟨#[], #[.agg #[.float .f64 0, .float .f64 0, .slice none 0 0], .agg #[.float .f64 0, .float .f64 0], .float .f64 0], []⟩ 8 (by kernel_rfl) (by kernel_rfl) (by kernel_rfl) (by kernel_rfl)) ?_
  intro W base args ds gs before hval0 hW _ hsz0 _
  have hsz : (DataW.weightsEach Try.prog (Try.f7.params.toList ++ Rows.chebHoldsSpec.plain.varTypes Try.prog) (ds ++ gs)).all (· ≤ reachBytes) = true := hsz0
  clear hsz0
  have hval : ∀ (j : Nat) t v, Try.f7.params[j]? = some t → args[j]? = some v → Value.okWide Try.prog W .any base t v := hval0
  have hW' := hW
  obtain ⟨p, q, hA0, hV, rfl, _, _⟩ := hW
  have hA : DataW.TrodAll enc Try.prog W 0 (fun _ => true) true Try.f7.params.toList args.toList ds p := hA0
  rw [Try.params7] at hA hval hsz
  obtain ⟨v0, vs0, d0, ds0, p0, q0, hargs, rfl, rfl, t0, r0⟩ := trodAll_cons hA
  obtain ⟨v1, vs1, d1, ds1, p1, q1, rfl, rfl, rfl, t1, r1⟩ := trodAll_cons r0
  obtain ⟨v2, vs2, d2, ds2, p2, q2, rfl, rfl, rfl, t2, r2⟩ := trodAll_cons r1
  obtain ⟨rfl, rfl, rfl⟩ := trodAll_nil r2
  obtain rfl : args = #[v0, v1, v2] := by cases args; simp_all
  obtain ⟨rfl, rfl⟩ := trodVars_none hV
  simp only [List.append_nil] at hW'
  have tk0 := t0
  obtain ⟨T0, ao0, cap0, e0_0, e1_0, e2_0, rfl, hc0, hm0, hn0, hw0, ha0, hd0, hT0⟩ := open_tab (hval 0 34 v0 rfl rfl) t0
  subst hd0
  have hS0 : TbSz T0 := td_size hT0 (fun x hx => by
    have h := List.all_eq_true.1 hsz _ (DataW.weights_mem_each (j := 0) (t := 34) rfl rfl x (by simp only [DataW.weights, Try.underlying34]; exact DataW.weights_mem_each (j := 2) (t := 32) rfl rfl x hx))
    simpa using h)
  have hlt0 : ∀ x ∈ p0, x.block < W.heap.size := fun x hx => by have := hW'.lt x (by simp [hx]); simpa using this
  have tk1 := t1
  obtain ⟨a1, b1, rfl, wa1, wb1⟩ := open_span (hval 1 60 v1 rfl rfl) t1
  have hlt1 : ∀ x ∈ p1, x.block < W.heap.size := fun x hx => by have := hW'.lt x (by simp [hx]); simpa using this
  obtain ⟨a2, rfl, rfl, rfl, w2⟩ := open_float Try.underlying30 (hval 2 30 v2 rfl rfl) t2
  clear hA0 hval0
  refine (walk W ao0 cap0 T0 hc0 hm0 hn0 hw0 ha0 hS0 a1 b1 wa1 wb1 a2 (wf64 w2)).mono fun e W' ⟨he, hb⟩ => ?_
  subst he
  refine ⟨_, rfl, _, _, _, [], _, [], hW', trodAll_cons_mk (shut_bool Try.underlying4 _) trodAll_mk0, (trodAll_cons_mk (Below.trod laidOut (by kernel_rfl) (of_decide_eq_true (by kernel_rfl)) tk0 hb hlt0) (trodAll_cons_mk (Below.trod laidOut (by kernel_rfl) (of_decide_eq_true (by kernel_rfl)) tk1 hb hlt1) (trodAll_cons_mk (shut_float Try.underlying30 w2) trodAll_mk0))), rfl, hb.frame _, fun h => by cases h⟩

set_option maxRecDepth 100000 in
theorem over : Rows.chebHoldsRow.holds Try.pinned (OpenSpec.ofChange Rows.chebHoldsSpec) :=
  OpenClaim.holds_of_wide 7 Try.f7 rfl rfl rfl rfl rfl rfl rfl ⟨rfl, rfl, rfl, rfl, rfl⟩ rfl rfl rfl rfl rfl (by kernel_rfl) Try.func7 (by kernel_rfl)
    (of_decide_eq_true (by kernel_rfl)) (by unfold Func.isWrapper; first | (rw [if_pos (by decide +kernel)]; kernel_rfl) | (rw [if_neg (by decide +kernel)]; exact ⟨rfl, rfl⟩))
    (fun os started H enc _ => lifted os started H enc)

theorem proved : Rows.ChebHoldsSaid :=
  over
end Go.Proofs.Ytnmadknpkhaolaa.chebHolds
