/- Proved here: for all masses, numbers g, n and at the law StepOrders returns true: whoever is first is not seen. No conditions. -/
import Derived.Test.YtgfedhlnaipngaaRows
import Derived.Test.YtgfedhlnaipngaaJz10
import Derived.Test.YtgfedhlnaipngaaJz11
namespace Go.Proofs.Ytgfedhlnaipngaa.stepOrders
open Go.ChangeShapes Go.WideShapes Go.ChangeAt Go.RowKit

def OwnT (b : Nat) (w0 : World) (M : List Ma) (v : Value) (w : World) : Prop := OwnR 34 7 b w0 (M.map maC) v w
theorem OwnT.any {b : Nat} {w0 w : World} {M : List Ma} {v : Value} (h : OwnT b w0 M v w) : ∃ ao m c, v = .slice ao m c := by
  rcases h.own.2 with ⟨hv, _⟩ | ⟨g, cap, cur, hv, _⟩
  · exact ⟨_, _, _, hv⟩
  · exact ⟨_, _, _, hv⟩
set_option maxHeartbeats 16000000 in
set_option maxRecDepth 100000 in
theorem walk (w : World) (ao0 : Option Addr) (cap0 : Nat) (L0 : List Ma) (hc0 : L0.length ≤ cap0) (hm0 : cap0 ≤ maxLen) (ha0 : MAt w ao0 L0) (hw0 : MsW L0) (hr0 : cap0 * 56 ≤ 140737488351232) (hn0 : ao0 = none → cap0 = 0) (a1 : Nat) (h1 : a1 < 18446744073709551616) (a2 : Int) (_h2 : (Lit.int .i64 a2).wf = true) (a3 : Int) (_h3 : (Lit.int .u64 a3).wf = true) :
    Calls Try.prog 7 #[.slice ao0 L0.length cap0, .float .f64 a1, .int .i64 a2, .int .u64 a3] w fun e w' => e = .returned (.bool true) ∧ Below w.heap.size w w' := by
  have AW := Lib.hid awake14
  obtain ⟨n, hn⟩ : ∃ n, n = L0.length := ⟨_, rfl⟩
  rw [← hn] at hc0 ⊢
  have hrn : n * 56 ≤ 140737488351232 := by omega
  have hmn : n ≤ maxLen := by omega
  have hm2 : n ≤ 4611686018427387904 := by unfold maxLen at hmn; omega
  have hm3 : (n : Int) ≤ 4611686018427387904 := by omega
  have RU := Lib.hid (fun W ao cap (L : List Ma) (k : Int) (hL : n = L.length) (ha : MAt W ao L) => gRun_run ao cap n L a1 W (nn := k) hL hm2 ha h1)
  replace hn := Lib.hid hn
  replace ha0 := Lib.hid ha0
  replace hw0 := Lib.hid hw0
  replace hmn := Lib.hid hmn
  replace hc0 := Lib.hid hc0
  replace hm0 := Lib.hid hm0
  replace hn0 := Lib.hid hn0
  replace hr0 := Lib.hid hr0
  replace h1 := Lib.hid h1
  have FW := few_run a2 (rng_of _h2)
  have fr := few_rng a2
  generalize fewI a2 = N at *
  clear fr
  by_cases h0 : n = 0
  · subst h0
    go_enter Try.func7, Try.ntmps7
    go_wp2_with fail
    refine (AW.out w).mono ?_
    rintro _ v1 ⟨rfl, hb⟩
    have K := Lib.hid hb
    clear hb AW
    go_wp2_with fail
    go_ret
    exact ⟨by first | rfl | trivial, K.out⟩
  · have hp : 0 < n := by omega
    have hpi : (0 : Int) < (n : Int) := by omega
    have hz : ((n : Int) == 0) = false := by simp; omega
    have hz2 : ¬ ((n : Int) = 0) := by omega
    obtain ⟨u0, u1⟩ : 0 ≤ a3 ∧ a3 ≤ 18446744073709551615 := by
      have h := _h3
      unfold Lit.wf at h
      have e1 : IntKind.u64.min = 0 := rfl
      have e2 : IntKind.u64.max = 18446744073709551615 := rfl
      simp [e1, e2] at h
      exact h
    obtain ⟨k, hk⟩ : ∃ k : Nat, (k : Int) = a3 % n := ⟨(a3 % n).toNat, Int.toNat_of_nonneg (Int.emod_nonneg _ hz2)⟩
    have hkn : k < n := by have := Int.emod_lt_of_pos a3 hpi; omega
    have ek : wrap64 (a3.tmod n) = (k : Int) := by
      rw [Int.tmod_eq_emod_of_nonneg u0, ← hk]
      unfold wrap64
      omega
    have et : Hid (∀ i : Nat, i < n → ((n : Int) - 1 - i + k).tmod n = (sgI n k i : Int)) := Lib.hid fun i hi => by
      rw [Int.tmod_eq_emod_of_nonneg (by omega)]
      unfold sgI
      have : ((n - 1 - i + k : Nat) : Int) = (n : Int) - 1 - i + k := by omega
      rw [← this]
      rfl
    have P := Lib.hid (sgL_perm hkn)
    have pk := RunR_pick (I := sgL n k) (l := L0) (by rw [← hn.out]; exact sgL_perm hkn) a1 N
    obtain ⟨T, hT⟩ : ∃ T, T = pick (sgL n k) L0 := ⟨_, rfl⟩
    rw [← hT] at pk
    have lT : Hid (n = T.length) := by show _ = _; rw [hT, pick_len]
    have tk : Hid (∀ i, i < n → T.take (i + 1) = T.take i ++ [mAt L0 (sgI n k i)]) := Lib.hid fun i hi => by rw [hT]; exact pick_take L0 hi
    have hk3 : (k : Int) ≤ 4611686018427387904 := by omega
    have hk0 : (0 : Int) ≤ (k : Int) := by omega
    replace hT := Lib.hid hT
    replace pk := Lib.hid pk
    replace hk := Lib.hid hk
    clear u0 u1
    have hst := @fstore
    have hsi := @istore
    go_enter Try.func7, Try.ntmps7
    go_wp2_with fail
    refine (AW.out w).mono ?_
    rintro _ v1 ⟨rfl, hb⟩
    have K := Lib.hid hb
    clear hb AW
    go_upto_region 7 with fail
    (try rw [hz])
    rw [ek]
    clear hz hz2 h0 ek
    go_wp2_with fail
    have N0 : Hid (OwnT v1.heap.size v1 [] (.slice none 0 0) v1) := Lib.hid (OwnR.nil _ _ _)
    go_loopw [9, 11] (fun tv iv wr => ∃ i : Nat, i ≤ n ∧ iv = .int .i64 i ∧ OwnT v1.heap.size v1 (T.take i) tv wr) (fun _ iv _ => n - (intOf iv).toNat)
    case atStart => exact ⟨0, Nat.zero_le _, rfl, by rw [List.take_zero]; exact N0.out⟩
    case round =>
      obtain ⟨i, hi, rfl, R⟩ := hrel
      clear N0
      obtain ⟨aoT, mT, cT, rfl⟩ := R.any
      have KR := Lib.hid (K.out.trans (R.old.mono K.out.size))
      by_cases hlt : i < n
      · have hin : (i : Int) < (n : Int) := by omega
        have e1 := et.out i hlt
        have sl := sgI_lt (n := n) (k := k) (i := i) hp
        have sli : (sgI n k i : Int) < (n : Int) := by omega
        obtain ⟨bb, oo, rfl, -, c0, c1, c2, c3, c4, c5, c6⟩ := MAt.cells (j := sgI n k i) (ha0.out.below (fun b o e h => ha0.out.lt b o e h) KR.out) (by have := hn.out; omega)
        have tn := tk.out i hlt
        have ml : ((T.take i).map maC).length + 1 ≤ 4611686018427387904 := by simp; omega
        have mb : (((T.take i).map maC).length + 1) * 56 ≤ 140737488355328 := by simp; omega
        generalize mAt L0 (sgI n k i) = f at *
        have rl : (maC f).length = 7 := rfl
        have r1 : ∀ u ∈ maC f, u.oneCell' = true := fun u hu => (rows_ma [f]).one (maC f) (by simp) u hu
        obtain ⟨R0, hR0⟩ : ∃ R0, R0 = (T.take i).map maC := ⟨_, rfl⟩
        unfold OwnT at R
        rw [← hR0] at R ml mb
        have nx : Hid (∀ row v w, row = maC f → OwnR 34 7 v1.heap.size v1 (R0 ++ [row]) v w → OwnT v1.heap.size v1 (T.take (i + 1)) v w) := Lib.hid fun row v w hw h => by
          unfold OwnT
          rw [tn, List.map_append, ← hR0]
          subst hw
          exact h
        clear hR0
        replace R := Lib.hid R
        generalize sgI n k i = si at *
        obtain ⟨m, ⟨xa, xb, xc⟩, ⟨pa, pb, pc⟩⟩ := f
        unfold maC at rl r1
        dsimp only at *
        clear tn KR hlt
        go_wp2_with (first | (at_builtin; go_loud (refine wpList_pushR recM rfl _ _ rfl (.slice aoT mT cT) R0 rfl R.out [.int .i64 m, .int .i64 xa, .int .i64 xb, .int .i64 xc, .int .i64 pa, .int .i64 pb, .int .i64 pc] rl r1 rfl mb (by unfold maxLen; omega) ?_)))
        intro vT wT RT
        replace RT := Lib.hid (nx.out _ _ _ rfl RT)
        obtain ⟨aoU, mU, cU, rfl⟩ := RT.out.any
        go_wp2_with fail
        go_roundw
        case rel => exact ⟨i + 1, by omega, by go_num, RT.out⟩
        case measure => simp [intOf]; omega
      · obtain rfl : n = i := by omega
        rw [show T.take n = T by rw [lT.out]; exact List.take_length ..] at R
        obtain ⟨aoT, cT, eT, -, -, AT, -, -⟩ := ownsR_at (rows_ma T) R.own
        rw [List.length_map, ← lT.out] at eT
        rw [eT]
        clear eT
        replace AT := Lib.hid (show MAt wr aoT T from AT)
        replace K := KR
        clear KR R et tk P
        cases hR : (RunR L0 a1 N).2 with
        | none =>
          have hS : (RunR T a1 N).2 = none := by rw [pk.out, hR]; rfl
          have eO := congrArg Prod.fst pk.out
          replace hR := Lib.hid hR
          have A1 := Lib.hid (ha0.out.below (fun b o e h => ha0.out.lt b o e h) K.out)
          go_wp2_with (first | (at_builtin; refine wpList_copyR recM rfl _ _ rfl rfl ao0 n cap0 (L0.map maC) rfl (by rw [List.length_map]; exact hn.out) hn0.out A1.out (rows_ma L0) hmn.out hrn ?_))
          intro a1c c1c v2 C
          have K := Lib.hid (K.out.trans (C.old.mono K.out.size))
          have A2 := Lib.hid (show MAt v2 a1c L0 from C.at_)
          replace AT := Lib.hid (RAt.on AT.out C.old)
          clear C A1
          go_wp2_with (first | (go_at_call 13; ((with_reducible refine (FW _).mono ?_); rintro e w' ⟨rfl, rfl⟩)))
          refine (RU.out v2 a1c c1c L0 N hn.out A2.out).mono ?_
          rintro _ v3 ⟨hb, he, -⟩
          obtain rfl := he hR.out
          replace K := Lib.hid (K.out.trans (hb.mono K.out.size))
          replace AT := Lib.hid (RAt.on AT.out hb)
          clear A2 hb he
          go_wp2_with (first | (go_at_call 13; ((with_reducible refine (FW _).mono ?_); rintro e w' ⟨rfl, rfl⟩)))
          refine (RU.out v3 _ _ T N lT.out AT.out).mono ?_
          rintro _ v4 ⟨hb, he, -⟩
          obtain rfl := he hS
          replace K := Lib.hid (K.out.trans (hb.mono K.out.size))
          clear AT hb he
          rw [eO]
          clear eO hS RU hR
          dsimp only
          generalize (RunR L0 a1 N).1 = er at *
          have te : (er != er) = false := by simp
          go_upto_region 16 with fail
          go_wp2_with fail
          go_loopw [16] (fun iv wr => iv = .int .i64 0 ∧ wr = v4) (fun _ _ => 0)
          case atStart => exact ⟨rfl, rfl⟩
          case round =>
            obtain ⟨rfl, rfl⟩ := hrel
            go_wp2_with fail
            go_ret
            exact ⟨by first | rfl | trivial, K.out⟩
        | some r =>
          have hS : (RunR T a1 N).2 = some (pick (sgL n k) r) := by rw [pk.out, hR]; rfl
          have kp := RunR_kept hR
          have hl : n = r.length := by rw [kp.2.2.1]; exact hn.out
          have hq : n = (pick (sgL n k) r).length := by rw [pick_len]
          replace hR := Lib.hid hR
          replace hS := Lib.hid hS
          replace hl := Lib.hid hl
          replace hq := Lib.hid hq
          clear kp
          have A1 := Lib.hid (ha0.out.below (fun b o e h => ha0.out.lt b o e h) K.out)
          go_wp2_with (first | (at_builtin; refine wpList_copyR recM rfl _ _ rfl rfl ao0 n cap0 (L0.map maC) rfl (by rw [List.length_map]; exact hn.out) hn0.out A1.out (rows_ma L0) hmn.out hrn ?_))
          intro a1c c1c v2 C
          have K := Lib.hid (K.out.trans (C.old.mono K.out.size))
          have A2 := Lib.hid (show MAt v2 a1c L0 from C.at_)
          replace AT := Lib.hid (RAt.on AT.out C.old)
          clear C A1
          go_wp2_with (first | (go_at_call 13; ((with_reducible refine (FW _).mono ?_); rintro e w' ⟨rfl, rfl⟩)))
          refine (RU.out v2 a1c c1c L0 N hn.out A2.out).mono ?_
          rintro _ v3 ⟨hb, -, hs⟩
          replace AT := Lib.hid (RAt.on AT.out hb)
          obtain ⟨b, rfl, -, O⟩ := hs r hR.out
          rw [← hl.out]
          have A3 := Lib.hid O.at_
          replace K := Lib.hid (K.out.trans (hb.mono K.out.size))
          clear A2 hb hs O
          go_wp2_with (first | (go_at_call 13; ((with_reducible refine (FW _).mono ?_); rintro e w' ⟨rfl, rfl⟩)))
          refine (RU.out v3 _ _ T N lT.out AT.out).mono ?_
          rintro _ v4 ⟨hb, -, hs⟩
          replace A3 := Lib.hid (RAt.on A3.out hb)
          obtain ⟨b4, rfl, -, O⟩ := hs (pick (sgL n k) r) hS.out
          rw [← hq.out]
          have A4 := Lib.hid O.at_
          replace K := Lib.hid (K.out.trans (hb.mono K.out.size))
          clear AT hb hs O
          clear RU hR hS
          go_upto_region 16 with fail
          go_wp2_with fail
          go_loopw [16] (fun iv wr => ∃ i : Nat, i ≤ n ∧ iv = .int .i64 i ∧ Below v4.heap.size v4 wr) (fun iv _ => n - (intOf iv).toNat)
          case atStart => exact ⟨0, Nat.zero_le _, rfl, Below.refl _ _⟩
          case round =>
            obtain ⟨i, hi, rfl, hbw⟩ := hrel
            by_cases hlt : i < n
            · have hin : (i : Int) < (n : Int) := by omega
              have e1 : ((n : Int) - 1 - i + k).tmod n = (sgI n k i : Int) := by
                rw [Int.tmod_eq_emod_of_nonneg (by omega)]
                unfold sgI
                have : ((n - 1 - i + k : Nat) : Int) = (n : Int) - 1 - i + k := by omega
                rw [← this]
                rfl
              have sl := sgI_lt (n := n) (k := k) (i := i) hp
              have sli : (sgI n k i : Int) < (n : Int) := by omega
              obtain ⟨q1, q2, e2, -, z0, z1, z2, z3, z4, z5, z6⟩ := MAt.cells (j := i) (A4.out.below (fun b o e h => A4.out.lt b o e h) hbw) (by have := hq.out; omega)
              obtain ⟨q3, q4, e3, -, y0, y1, y2, y3, y4, y5, y6⟩ := MAt.cells (j := sgI n k i) (A3.out.below (fun b o e h => A3.out.lt b o e h) hbw) (by have := hl.out; omega)
              obtain ⟨rfl, rfl⟩ : b4 = q1 ∧ 0 = q2 := by simpa using e2
              obtain ⟨rfl, rfl⟩ : b = q3 ∧ 0 = q4 := by simpa using e3
              rw [pick_at r hlt] at z0 z1 z2 z3 z4 z5 z6
              simp only [Nat.zero_add] at z0 z1 z2 z3 z4 z5 z6 y0 y1 y2 y3 y4 y5 y6
              have hne := mneq_run (mAt r (sgI n k i))
              generalize mAt r (sgI n k i) = f at *
              generalize sgI n k i = si at *
              obtain ⟨m, ⟨xa, xb, xc⟩, ⟨pa, pb, pc⟩⟩ := f
              unfold maV at hne
              dsimp only at *
              replace hbw := Lib.hid hbw
              clear e2 e3
              go_wp2_with fail
              go_quiet (fail)
              replace hbw := Lib.hid (below_drewN hbw.out nq)
              clear z0 z1 z2 z3 z4 z5 z6 y0 y1 y2 y3 y4 y5 y6
              generalize World.drewN _ _ = wq at *
              go_wp2_with fail
              go_roundw
              case rel => exact ⟨i + 1, by omega, by go_num, hbw.out⟩
              case measure => simp [intOf]; omega
            · obtain rfl : n = i := by omega
              replace K := Lib.hid (K.out.trans (hbw.mono K.out.size))
              clear hbw
              go_wp2_with fail
              go_ret
              exact ⟨by first | rfl | trivial, K.out⟩
set_option maxRecDepth 100000 in
theorem own : ownKnob Try.prog.godebug = none := by kernel_rfl
set_option maxRecDepth 100000 in
theorem laidOut : laidOutB Try.prog = true := by kernel_rfl
set_option maxRecDepth 100000 in
theorem bytesW : Try.prog.bytesOf 34 = 56 := by kernel_rfl
set_option maxRecDepth 100000 in
theorem lifted (os : Os) (started : os.Started) (H : Type) (enc : TypeId × Value → H) :
    ReturnsInHanded {} Try.checked os 7 .any (Rows.stepOrdersSpec.pre6 enc Try.prog Try.f7 Rows.stepOrdersRow.domain false) (Rows.stepOrdersSpec.post enc Try.prog Try.f7 false true false false) := by
  refine returnsInHanded_of_change_sized (C := Try.checked) own started (by kernel_rfl) Try.func7
    (ChangeSpec.witness6 (enc := enc) (C := Try.checked) false ⟨#[], #[.slice none 0 0, .float .f64 0, .int .i64 0, .int .u64 0], []⟩ 8 (by kernel_rfl) (by kernel_rfl) (by kernel_rfl) (by kernel_rfl)) ?_
  intro W base args ds gs before hval0 hW _ hsz0 _
  have hsz : (DataW.weightsEach Try.prog (Try.f7.params.toList ++ Rows.stepOrdersSpec.plain.varTypes Try.prog) (ds ++ gs)).all (· ≤ reachBytes) = true := hsz0
  clear hsz0
  have hval : ∀ (j : Nat) t v, Try.f7.params[j]? = some t → args[j]? = some v → Value.okWide Try.prog W .any base t v := hval0
  have hW' := hW
  obtain ⟨p, q, hA0, hV, rfl, _, _⟩ := hW
  have hA : DataW.TrodAll enc Try.prog W 0 (fun _ => true) true Try.f7.params.toList args.toList ds p := hA0
  rw [Try.params7] at hA hval hsz
  obtain ⟨v0, vs0, d0, ds0, p0, q0, hargs, rfl, rfl, t0, r0⟩ := trodAll_cons hA
  obtain ⟨v1, vs1, d1, ds1, p1, q1, rfl, rfl, rfl, t1, r1⟩ := trodAll_cons r0
  obtain ⟨v2, vs2, d2, ds2, p2, q2, rfl, rfl, rfl, t2, r2⟩ := trodAll_cons r1
  obtain ⟨v3, vs3, d3, ds3, p3, q3, rfl, rfl, rfl, t3, r3⟩ := trodAll_cons r2
  obtain ⟨rfl, rfl, rfl⟩ := trodAll_nil r3
  obtain rfl : args = #[v0, v1, v2, v3] := by cases args; simp_all
  obtain ⟨rfl, rfl⟩ := trodVars_none hV
  simp only [List.append_nil] at hW'
  have tk0 := t0
  obtain ⟨ao0, cap0, L0, rfl, hc0, hm0, ha0, hw0, hx0⟩ := open_masses (okWide_slice Try.underlying22 (hval 0 22 v0 rfl rfl)) t0
  have hr0 : cap0 * 56 ≤ 140737488351232 := by
    rcases hx0 with ⟨_, h0⟩ | ⟨_, es, sp, hd, h0⟩
    · rw [h0]; decide
    · subst hd
      have := sized_slice hsz (j := 0) (t := 22) (e := 34) rfl rfl Try.underlying22
      rw [bytesW, h0] at this
      simp only [reachBytes] at this
      omega
  have hn0 : ao0 = none → cap0 = 0 := by
    intro h
    rcases hx0 with ⟨_, h0⟩ | ⟨⟨a, h1⟩, _⟩
    · exact h0
    · rw [h] at h1; simp at h1
  have hlt0 : ∀ x ∈ p0, x.block < W.heap.size := fun x hx => by have := hW'.lt x (by simp [hx]); simpa using this
  obtain ⟨a1, rfl, rfl, rfl, w1⟩ := open_float Try.underlying23 (hval 1 23 v1 rfl rfl) t1
  obtain ⟨a2, rfl, rfl, rfl, w2⟩ := open_int Try.underlying3 (hval 2 3 v2 rfl rfl) t2
  obtain ⟨a3, rfl, rfl, rfl, w3⟩ := open_int Try.underlying42 (hval 3 42 v3 rfl rfl) t3
  clear hA0 hval0
  refine (walk W ao0 cap0 L0 hc0 hm0 ha0 hw0 hr0 hn0 a1 (wf64 w1) a2 w2 a3 w3).mono fun e W' ⟨he, hb⟩ => ?_
  subst he
  refine ⟨_, rfl, _, _, _, [], _, [], hW', trodAll_cons_mk (shut_bool Try.underlying4 _) trodAll_mk0, (trodAll_cons_mk (Below.trod laidOut (by kernel_rfl) (of_decide_eq_true (by kernel_rfl)) tk0 hb hlt0) (trodAll_cons_mk (shut_float Try.underlying23 w1) (trodAll_cons_mk (shut_int Try.underlying3 w2) (trodAll_cons_mk (shut_int Try.underlying42 w3) trodAll_mk0)))), rfl, hb.frame _, fun h => by cases h⟩

set_option maxRecDepth 100000 in
theorem over : Rows.stepOrdersRow.holds Try.pinned (OpenSpec.ofChange Rows.stepOrdersSpec) :=
  OpenClaim.holds_of_wide 7 Try.f7 rfl rfl rfl rfl rfl rfl rfl ⟨rfl, rfl, rfl, rfl, rfl⟩ rfl rfl rfl rfl rfl (by kernel_rfl) Try.func7 (by kernel_rfl)
    (of_decide_eq_true (by kernel_rfl)) (by unfold Func.isWrapper; first | (rw [if_pos (by decide +kernel)]; kernel_rfl) | (rw [if_neg (by decide +kernel)]; exact ⟨rfl, rfl⟩))
    (fun os started H enc _ => lifted os started H enc)

theorem proved : Rows.StepOrdersSaid :=
  over
end Go.Proofs.Ytgfedhlnaipngaa.stepOrders
