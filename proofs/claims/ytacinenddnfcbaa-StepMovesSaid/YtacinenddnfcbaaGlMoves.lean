/- Proved here: for all masses, numbers g and n, ways and axes the law StepMoves returns true: all places moved, or one axis turned about, moves or turns the answer. No conditions. -/
import Derived.Test.YtacinenddnfcbaaRows
import Derived.Test.YtacinenddnfcbaaJz10
import Derived.Test.YtacinenddnfcbaaJz11
namespace Go.Proofs.Ytacinenddnfcbaa.stepMoves
open Go.ChangeShapes Go.WideShapes Go.ChangeAt Go.RowKit

set_option maxHeartbeats 2000000 in
set_option maxRecDepth 100000 in
theorem walk (w : World) (ao0 : Option Addr) (cap0 : Nat) (L0 : List Ma) (hc0 : L0.length ≤ cap0) (hm0 : cap0 ≤ maxLen) (ha0 : MAt w ao0 L0) (hw0 : MsW L0) (hr0 : cap0 * 56 ≤ 140737488351232) (hn0 : ao0 = none → cap0 = 0) (a1 : Nat) (h1 : a1 < 18446744073709551616) (a2 : Int) (_h2 : (Lit.int .i64 a2).wf = true) (a3 : T3) (h3 : ∀ k, I64 (a3.get k)) (a4 : Int) (_h4 : (Lit.int .u64 a4).wf = true) :
    Calls Try.prog 3 #[.slice ao0 L0.length cap0, .float .f64 a1, .int .i64 a2, i3V a3, .int .u64 a4] w fun e w' => e = .returned (.bool true) ∧ Below w.heap.size w w' := by
  have AW := Lib.hid awake14
  obtain ⟨n, hn⟩ : ∃ n, n = L0.length := ⟨_, rfl⟩
  rw [← hn] at hc0 ⊢
  have hrn : n * 56 ≤ 140737488351232 := by omega
  have hmn : n ≤ maxLen := by omega
  have hm2 : n ≤ 4611686018427387904 := by unfold maxLen at hmn; omega
  have hm3 : (n : Int) ≤ 4611686018427387904 := by omega
  have RU := Lib.hid (fun W ao cap (L : List Ma) (k : Int) (hL : n = L.length) (ha : MAt W ao L) => gRun_run ao cap n L a1 W (nn := k) hL hm2 ha h1)
  replace hn := Lib.hid hn
  replace ha0 := Lib.hid ha0
  replace hw0 := Lib.hid hw0
  replace hmn := Lib.hid hmn
  replace hc0 := Lib.hid hc0
  replace hm0 := Lib.hid hm0
  replace hn0 := Lib.hid hn0
  replace hr0 := Lib.hid hr0
  replace h1 := Lib.hid h1
  have FW := Lib.hid (few_run a2 (rng_of _h2))
  generalize fewI a2 = N at *
  obtain ⟨u0, u1⟩ : 0 ≤ a4 ∧ a4 ≤ 18446744073709551615 := by
    have h := _h4
    unfold Lit.wf at h
    have e1 : IntKind.u64.min = 0 := rfl
    have e2 : IntKind.u64.max = 18446744073709551615 := rfl
    simp [e1, e2] at h
    exact h
  obtain ⟨kk, hkk⟩ : ∃ k : Nat, (k : Int) = a4 % 3 := ⟨(a4 % 3).toNat, Int.toNat_of_nonneg (by omega)⟩
  have hk3 : kk < 3 := by omega
  have hk3i : (kk : Int) < 3 := by omega
  have ek : wrap64 (a4.tmod 3) = (kk : Int) := by
    rw [Int.tmod_eq_emod_of_nonneg u0, ← hkk]
    unfold wrap64
    omega
  clear hkk u0 u1
  have haT : Hid (∀ W, Below w.heap.size w W → MAt W ao0 L0) := Lib.hid fun W h => ha0.out.below (fun b o e k => ha0.out.lt b o e k) h
  have h3 := Lib.hid h3
  have hst := @fstore
  have hsi := @istore
  have eA : i3V a3 = .agg (in3 a3).toArray := rfl
  rw [eA]
  clear eA
  go_enter Try.func3, Try.ntmps3
  go_wp2_with fail
  refine (AW.out _).mono ?_
  rintro _ v1 ⟨rfl, hb⟩
  have KB := kv1 w 24 (in3 a3)
  simp only [objV] at KB
  replace KB := Lib.hid (KB.on hb)
  clear hb AW
  go_upto_region 4 with fail
  (try rw [ek])
  clear ek
  have A1 := Lib.hid (haT.out _ KB.out.old)
  go_wp2_with (at_builtin; refine wpList_copyR recM rfl _ _ rfl rfl ao0 n cap0 (L0.map maC) rfl (by rw [List.length_map]; exact hn.out) hn0.out A1.out (rows_ma L0) hmn.out hrn ?_)
  intro aoM cM v2 C1
  have A2 := Lib.hid (haT.out _ (KB.out.on C1.old).old)
  replace C1 := Lib.hid C1
  go_wp2_with (at_builtin; refine wpList_copyR recM rfl _ _ rfl rfl ao0 n cap0 (L0.map maC) rfl (by rw [List.length_map]; exact hn.out) hn0.out A2.out (rows_ma L0) hmn.out hrn ?_)
  intro aoT cT v3 C2
  have S0 := Lib.hid (MvS.mk0 (n := n) KB.out hn.out C1.out C2)
  clear C1 C2 A1 A2 KB
  go_wp2_with fail
  go_loopw [14] (fun iv wr => ∃ i : Nat, i ≤ n ∧ iv = .int .i64 i ∧ MvS w a3 aoM aoT (upF (mv a3) L0 i) (upF (tnW kk) L0 i) n wr) (fun iv _ => n - (intOf iv).toNat)
  case atStart => exact ⟨0, Nat.zero_le _, rfl, by rw [upF_zero, upF_zero]; exact S0.out⟩
  case round =>
    obtain ⟨i, hi, rfl, C⟩ := hrel
    clear S0
    by_cases hlt : i < n
    · have hil : i < L0.length := by have := hn.out; omega
      have hin : (i : Int) < (n : Int) := by omega
      obtain ⟨bm, bt, rfl, rfl, X⟩ := C.k (by omega)
      clear C
      obtain ⟨b, o, rfl, -⟩ := MAt.row (haT.out _ X.old) hil
      have far : Hid (∀ W, Below w.heap.size w W → (∀ k, k < 3 → W.cell? ⟨b, o + i * 7 + 1 + k, none⟩ = some (.int .i64 ((mAt L0 i).x.get k))) ∧ ∀ k, k < 3 → W.cell? ⟨b, o + i * 7 + 4 + k, none⟩ = some (.int .i64 ((mAt L0 i).p.get k))) := Lib.hid fun W h => by
        obtain ⟨b', o', e, -, -, q⟩ := MAt.row (haT.out _ h) hil
        obtain ⟨rfl, rfl⟩ : b = b' ∧ o = o' := by simpa using e
        exact q
      have wa : MaW (mAt L0 i) := hw0.out _ (mAt_mem hil)
      have nxM := Lib.hid (upF_next (mv a3) hil)
      have nxT := Lib.hid (upF_next (tnW kk) hil)
      have atM := upF_at (mv a3) hil
      have atT := Lib.hid (upF_at (tnW kk) hil)
      have lM : Hid (i < (upF (mv a3) L0 i).length) := by show i < _; rw [upF_len]; exact hil
      have lT : Hid (i < (upF (tnW kk) L0 i).length) := by show i < _; rw [upF_len]; exact hil
      have X0 : Kv w [some (w.heap.size, in3 a3), some (bm, flatM ((upF (mv a3) L0 i).set i (xMv a3 (mAt L0 i) 0))), some (bt, flatM (upF (tnW kk) L0 i))] wr := by
        rw [xMv_zero, ← atM, set_same lM.out]; exact X
      clear X atM
      generalize hM : upF (mv a3) L0 i = M at *
      generalize hT : upF (tnW kk) L0 i = T at *
      generalize mAt L0 i = a at *
      clear hM hT
      replace X0 := Lib.hid X0
      replace wa := Lib.hid wa
      go_wp2_with fail
      go_loopw [15] (fun kv wx => ∃ k : Nat, k ≤ 3 ∧ kv = .int .i64 k ∧ Kv w [some (w.heap.size, in3 a3), some (bm, flatM (M.set i (xMv a3 a k))), some (bt, flatM T)] wx) (fun kv _ => 3 - (intOf kv).toNat)
      case atStart => exact ⟨0, by omega, rfl, X0.out⟩
      case round =>
        obtain ⟨k, hk, rfl, X⟩ := hrel
        clear X0
        by_cases hkt : k < 3
        · have hkti : (k : Int) < 3 := by omega
          have cy := (X.at_ 0 rfl).at_ k _ (in3_get _ hkt)
          have cx := (far.out wr X.old).1 k hkt
          have lMx : i < (M.set i (xMv a3 a k)).length := by rw [List.length_set]; exact lM.out
          have om := OwM.x (h := X.at_ 1 rfl) lMx hkt
          have Y := Kv.setMx X lMx hkt (a.x.get k + a3.get k)
          rw [set_at lM.out] at om Y
          rw [set_set, xMv_put a3 a hkt] at Y
          rw [xMv_get a3 a hkt] at om
          obtain ⟨om1, om2⟩ := om
          replace Y := Lib.hid Y
          replace X := Lib.hid X
          have wx := wa.out.x k
          have wy := h3.out k
          clear far lMx
          generalize hx : a.x.get k = x at *
          generalize hy : a3.get k = y at *
          clear hx hy
          by_cases pq1 : y < -2199023255552
          · have q1 : decide (y < -2199023255552) = true := decide_eq_true pq1
            clear om1 om2 Y wx wy
            go_wp2_with fail
            go_ret
            exact ⟨by first | rfl | trivial, X.out.old⟩
          · have q1 : decide (y < -2199023255552) = false := decide_eq_false pq1
            by_cases pq2 : 2199023255552 < y
            · have q2 : decide (2199023255552 < y) = true := decide_eq_true pq2
              clear om1 om2 Y wx wy
              go_wp2_with fail
              go_ret
              exact ⟨by first | rfl | trivial, X.out.old⟩
            · have q2 : decide (2199023255552 < y) = false := decide_eq_false pq2
              by_cases pq3 : x < -2199023255552
              · have q3 : decide (x < -2199023255552) = true := decide_eq_true pq3
                clear om1 om2 Y wx wy
                go_wp2_with fail
                go_ret
                exact ⟨by first | rfl | trivial, X.out.old⟩
              · have q3 : decide (x < -2199023255552) = false := decide_eq_false pq3
                by_cases pq4 : 2199023255552 < x
                · have q4 : decide (2199023255552 < x) = true := decide_eq_true pq4
                  clear om1 om2 Y wx wy
                  go_wp2_with fail
                  go_ret
                  exact ⟨by first | rfl | trivial, X.out.old⟩
                · have q4 : decide (2199023255552 < x) = false := decide_eq_false pq4
                  have wn : IntKind.i64.wrap (x + y) = x + y := IntWalk.i64_in _ (by omega)
                  clear pq1 pq2 pq3 pq4 wx wy
                  go_wp2_with fail
                  go_still_tail 14, (by kernel_rfl)
                  change wpList _ _ _ _ _ wr.drew
                  go_wp2_with fail
                  go_roundw
                  case rel => exact ⟨k + 1, hkt, by go_num, Y.out⟩
                  case measure => simp [intOf]; omega
        · obtain rfl : k = 3 := by omega
          rw [xMv_three, nxM.out] at X
          have cx := (far.out wr X.old).1 kk hk3
          have cp0 := fun W h => (far.out W h).2 kk hk3
          have om := OwM.x (h := X.at_ 2 rfl) lT.out hk3
          rw [atT.out] at om
          have Y := Kv.setTx X lT.out hk3 (wng (a.x.get kk))
          rw [atT.out] at Y
          have cp1 := cp0 _ Y.old
          have lTx : i < (T.set i { a with x := a.x.put kk (wng (a.x.get kk)) }).length := by rw [List.length_set]; exact lT.out
          have op := OwM.p (h := Y.at_ 2 rfl) lTx hk3
          have Z := Kv.setTp Y lTx hk3 (wng (a.p.get kk))
          rw [set_at lT.out] at op Z
          rw [set_set] at Z
          have eT : ({ m := a.m, x := a.x.put kk (wng (a.x.get kk)), p := a.p.put kk (wng (a.p.get kk)) } : Ma) = tnW kk a := rfl
          rw [eT, nxT.out] at Z
          obtain ⟨om1, om2⟩ := om
          obtain ⟨op1, op2⟩ := op
          have wx : IntKind.i64.wrap (-(a.x.get kk)) = wng (a.x.get kk) := rfl
          have wp : IntKind.i64.wrap (-(a.p.get kk)) = wng (a.p.get kk) := rfl
          replace Z := Lib.hid Z
          clear X Y far cp0 lTx eT nxM nxT wa
          dsimp only at op1 op2
          generalize wng (a.x.get kk) = nx at *
          generalize wng (a.p.get kk) = np at *
          generalize a.x.get kk = x at *
          generalize a.p.get kk = p at *
          go_wp2_with fail
          go_still_tail 14, (by kernel_rfl)
          change wpList _ _ _ _ _ wr.drew
          go_upto_region 15 with fail
          change Code.wp _ _ _ _ (World.drew (World.setCell wr ⟨bt, i * 7 + 1 + kk, none⟩ (.int .i64 nx)))
          clear om1 om2 cx
          generalize World.drew (World.setCell wr _ _) = wq at *
          go_still_tail 14, (by kernel_rfl)
          change wpList _ _ _ _ _ wq.drew
          go_wp2_with fail
          go_roundw
          case rel => exact ⟨i + 1, hlt, by go_num, MvS.of Z.out⟩
          case measure => simp [intOf]; omega
    · obtain rfl : n = i := by omega
      have eM : upF (mv a3) L0 n = L0.map (mv a3) := by rw [hn.out]; exact upF_end _ _
      have eT : upF (tnW kk) L0 n = L0.map (tnW kk) := by rw [hn.out]; exact upF_end _ _
      rw [eM, eT] at C
      have BX := Lib.hid (box_rat C.box)
      have MM := Lib.hid C.m
      have TT := Lib.hid C.tt
      have K := Lib.hid C.box.old
      have tt := RunR_tnW (n := N) h1.out hk3 hw0.out
      have nM : Hid (n = (L0.map (mv a3)).length) := by show _ = _; rw [List.length_map]; exact hn.out
      have nT : Hid (n = (L0.map (tnW kk)).length) := by show _ = _; rw [List.length_map]; exact hn.out
      clear C eM eT haT
      replace tt := Lib.hid tt
      clear hi hlt
      cases hR : (RunR L0 a1 N).2 with
      | none =>
        have nz := RunR_none_nz hR
        have hT : (RunR (L0.map (tnW kk)) a1 N).2 = none := by rw [tt.out, hR]; rfl
        have hE := congrArg Prod.fst tt.out
        dsimp only at hE
        replace hR := Lib.hid hR
        replace hT := Lib.hid hT
        have tz : ((RunR L0 a1 N).1 != 0) = true := by simpa using nz
        have te : ((RunR L0 a1 N).1 == (RunR L0 a1 N).1) = true := by simp
        clear nz tt
        have A1 := Lib.hid (ha0.out.below (fun b o e h => ha0.out.lt b o e h) K.out)
        go_wp2_with (first | (at_builtin; refine wpList_copyR recM rfl _ _ rfl rfl ao0 n cap0 (L0.map maC) rfl (by rw [List.length_map]; exact hn.out) hn0.out A1.out (rows_ma L0) hmn.out hrn ?_))
        intro a1c c1c v2 C
        have K := Lib.hid (K.out.trans (C.old.mono K.out.size))
        have A2 := Lib.hid (show MAt v2 a1c L0 from C.at_)
        replace MM := Lib.hid (RAt.on MM.out C.old)
        replace TT := Lib.hid (RAt.on TT.out C.old)
        clear C A1
        go_wp2_with (first | (go_at_call 6; ((with_reducible refine (FW.out _).mono ?_); rintro e w' ⟨rfl, rfl⟩)))
        refine (RU.out v2 a1c c1c L0 N hn.out A2.out).mono ?_
        rintro _ v3 ⟨hb, he, -⟩
        replace MM := Lib.hid (RAt.on MM.out hb)
        replace TT := Lib.hid (RAt.on TT.out hb)
        obtain rfl := he hR.out
        replace K := Lib.hid (K.out.trans (hb.mono K.out.size))
        clear A2 hb he
        go_wp2_with (first | (go_at_call 6; ((with_reducible refine (FW.out _).mono ?_); rintro e w' ⟨rfl, rfl⟩)))
        cases hM : (RunR (L0.map (mv a3)) a1 N).2 with
        | none =>
          refine (RU.out v3 aoM cM (L0.map (mv a3)) N nM.out MM.out).mono ?_
          rintro _ v4 ⟨hb, he, -⟩
          replace TT := Lib.hid (RAt.on TT.out hb)
          obtain rfl := he hM
          replace K := Lib.hid (K.out.trans (hb.mono K.out.size))
          clear MM hb he
          clear hM
          generalize (RunR (L0.map (mv a3)) a1 N).1 = eM at *
          go_wp2_with (first | (go_at_call 6; ((with_reducible refine (FW.out _).mono ?_); rintro e w' ⟨rfl, rfl⟩)))
          refine (RU.out v4 aoT cT (L0.map (tnW kk)) N nT.out TT.out).mono ?_
          rintro _ v5 ⟨hb, he, -⟩
          obtain rfl := he hT.out
          replace K := Lib.hid (K.out.trans (hb.mono K.out.size))
          clear TT hb he
          clear RU
          rw [hE]
          clear hE
          generalize (RunR L0 a1 N).1 = er at *
          go_wp2_with fail
          go_ret
          exact ⟨by first | rfl | trivial, K.out⟩
        | some s =>
          have hms : n = s.length := by rw [(RunR_kept hM).2.2.1]; exact nM.out
          replace hms := Lib.hid hms
          refine (RU.out v3 aoM cM (L0.map (mv a3)) N nM.out MM.out).mono ?_
          rintro _ v4 ⟨hb, -, hs⟩
          replace TT := Lib.hid (RAt.on TT.out hb)
          obtain ⟨bb, rfl, -, OB⟩ := hs s hM
          rw [← hms.out]
          replace OB := Lib.hid OB
          replace K := Lib.hid (K.out.trans (hb.mono K.out.size))
          clear MM hb hs
          clear hM OB
          go_wp2_with (first | (go_at_call 6; ((with_reducible refine (FW.out _).mono ?_); rintro e w' ⟨rfl, rfl⟩)))
          refine (RU.out v4 aoT cT (L0.map (tnW kk)) N nT.out TT.out).mono ?_
          rintro _ v5 ⟨hb, he, -⟩
          obtain rfl := he hT.out
          replace K := Lib.hid (K.out.trans (hb.mono K.out.size))
          clear TT hb he
          clear RU
          rw [hE]
          clear hE
          generalize (RunR L0 a1 N).1 = er at *
          go_wp2_with fail
          go_ret
          exact ⟨by first | rfl | trivial, K.out⟩
      | some r =>
        have kp := RunR_kept hR
        have hl : n = r.length := by rw [kp.2.2.1]; exact hn.out
        have okr : Hid (∀ a ∈ r, OkM a) := Lib.hid (allB_iff.1 kp.2.1)
        have hT : (RunR (L0.map (tnW kk)) a1 N).2 = some (r.map (tn kk)) := by rw [tt.out, hR]; rfl
        have hlT : n = (r.map (tn kk)).length := by rw [List.length_map]; exact hl
        replace hl := Lib.hid hl
        replace hlT := Lib.hid hlT
        replace hT := Lib.hid hT
        clear kp tt
        have A1 := Lib.hid (ha0.out.below (fun b o e h => ha0.out.lt b o e h) K.out)
        go_wp2_with (first | (at_builtin; refine wpList_copyR recM rfl _ _ rfl rfl ao0 n cap0 (L0.map maC) rfl (by rw [List.length_map]; exact hn.out) hn0.out A1.out (rows_ma L0) hmn.out hrn ?_))
        intro a1c c1c v2 C
        have K := Lib.hid (K.out.trans (C.old.mono K.out.size))
        have A2 := Lib.hid (show MAt v2 a1c L0 from C.at_)
        replace BX := Lib.hid (RAt.on BX.out C.old)
        replace MM := Lib.hid (RAt.on MM.out C.old)
        replace TT := Lib.hid (RAt.on TT.out C.old)
        clear C A1
        go_wp2_with (first | (go_at_call 6; ((with_reducible refine (FW.out _).mono ?_); rintro e w' ⟨rfl, rfl⟩)))
        refine (RU.out v2 a1c c1c L0 N hn.out A2.out).mono ?_
        rintro _ v3 ⟨hb, -, hs⟩
        replace BX := Lib.hid (RAt.on BX.out hb)
        replace MM := Lib.hid (RAt.on MM.out hb)
        replace TT := Lib.hid (RAt.on TT.out hb)
        obtain ⟨ba, rfl, -, OA⟩ := hs r hR
        rw [← hl.out]
        replace OA := Lib.hid OA
        replace K := Lib.hid (K.out.trans (hb.mono K.out.size))
        clear A2 hb hs
        go_wp2_with (first | (go_at_call 6; ((with_reducible refine (FW.out _).mono ?_); rintro e w' ⟨rfl, rfl⟩)))
        cases hM : (RunR (L0.map (mv a3)) a1 N).2 with
        | none =>
          have nz := RunR_none_nz hM
          have tz : ((RunR (L0.map (mv a3)) a1 N).1 == 0) = false := by simpa using nz
          clear nz
          refine (RU.out v3 aoM cM (L0.map (mv a3)) N nM.out MM.out).mono ?_
          rintro _ v4 ⟨hb, he, -⟩
          replace BX := Lib.hid (RAt.on BX.out hb)
          replace TT := Lib.hid (RAt.on TT.out hb)
          replace OA := Lib.hid (OwM.on OA.out hb)
          obtain rfl := he hM
          replace K := Lib.hid (K.out.trans (hb.mono K.out.size))
          clear MM hb he
          clear hM
          generalize (RunR (L0.map (mv a3)) a1 N).1 = eM at *
          go_wp2_with (first | (go_at_call 6; ((with_reducible refine (FW.out _).mono ?_); rintro e w' ⟨rfl, rfl⟩)))
          refine (RU.out v4 aoT cT (L0.map (tnW kk)) N nT.out TT.out).mono ?_
          rintro _ v5 ⟨hb, -, hs⟩
          replace BX := Lib.hid (RAt.on BX.out hb)
          replace OA := Lib.hid (OwM.on OA.out hb)
          obtain ⟨bc, rfl, -, OC⟩ := hs _ hT.out
          rw [← hlT.out]
          replace OC := Lib.hid OC
          replace K := Lib.hid (K.out.trans (hb.mono K.out.size))
          clear TT hb hs
          clear RU hT hR
          go_wp2_with fail
          go_loopw [22] (fun iv wr => ∃ i : Nat, i ≤ n ∧ iv = .int .i64 i ∧ Below v5.heap.size v5 wr) (fun iv _ => n - (intOf iv).toNat)
          case atStart => exact ⟨0, Nat.zero_le _, rfl, Below.refl _ _⟩
          case round =>
            obtain ⟨i, hi, rfl, hbw⟩ := hrel
            by_cases hlt : i < n
            · have hil : i < r.length := by have := hl.out; omega
              have hin : (i : Int) < (n : Int) := by omega
              have okA := okr.out _ (mAt_mem hil)
              have lC : Hid (i < (r.map (tn kk)).length) := by show i < _; rw [List.length_map]; exact hil
              have eC : Hid (mAt (r.map (tn kk)) i = tnW kk (mAt r i)) := by show _ = _; rw [mAt_map _ hil, tnW_ok hk3 okA]
              replace hbw := Lib.hid hbw
              have XA := Lib.hid (OwM.on OA.out hbw.out)
              clear okA
              go_upto_region 26 with fail
              have farA : Hid (∀ W, Below wr.heap.size wr W → _) := Lib.hid fun W hW => (XA.out.on hW).cells hil
              have K2 := (Kv.nil wr).more.more
              simp only [List.nil_append, List.cons_append] at K2
              have KK := K
              clear K
              have K := K2
              clear K2
              generalize hf0 : mAt r i = f at *
              replace hf0 := Lib.hid hf0
              generalize hds : ([some 176, some 177, some 178, some 179, some 180, some 181, some 182, some 183, some 23, some 24, none, none] : List (Option Tmp)) = ds
              have hap : apartL ds = true := by rw [← hds]; decide
              replace hds := hds.symm
              refine wp_region_kv (fun hf => [some (hf 8, [.int .i64 f.m, .int .i64 f.x.a, .int .i64 f.x.b, .int .i64 f.x.c, .int .i64 f.p.a, .int .i64 f.p.b, .int .i64 f.p.c]), some (hf 9, [.int .i64 f.m, .int .i64 f.x.a, .int .i64 f.x.b, .int .i64 f.x.c, .int .i64 f.p.a, .int .i64 f.p.b, .int .i64 f.p.c])]) (fun hf => [some (.slice (some ⟨ba, 0, none⟩) n n), some (.int .i64 (i : Int)), some (.pointer (some ⟨ba, i * 7, none⟩)), some (.agg #[.int .i64 f.m, .int .i64 f.x.a, .int .i64 f.x.b, .int .i64 f.x.c, .int .i64 f.p.a, .int .i64 f.p.b, .int .i64 f.p.c]), some (.slice (some ⟨ba, 0, none⟩) n n), some (.int .i64 (i : Int)), some (.pointer (some ⟨ba, i * 7, none⟩)), some (.agg #[.int .i64 f.m, .int .i64 f.x.a, .int .i64 f.x.b, .int .i64 f.x.c, .int .i64 f.p.a, .int .i64 f.p.b, .int .i64 f.p.c]), some (ptrV (hf 8)), some (ptrV (hf 9)), some (undef), some (undef)]) [⟨8, 0, 28, [.int .i64 0, .int .i64 0, .int .i64 0, .int .i64 0, .int .i64 0, .int .i64 0, .int .i64 0]⟩, ⟨9, 1, 28, [.int .i64 0, .int .i64 0, .int .i64 0, .int .i64 0, .int .i64 0, .int .i64 0, .int .i64 0]⟩] [⟨10, 0, 0, [.int .i64 f.m, .int .i64 f.x.a, .int .i64 f.x.b, .int .i64 f.x.c, .int .i64 f.p.a, .int .i64 f.p.b, .int .i64 f.p.c]⟩, ⟨11, 1, 0, [.int .i64 f.m, .int .i64 f.x.a, .int .i64 f.x.b, .int .i64 f.x.c, .int .i64 f.p.a, .int .i64 f.p.b, .int .i64 f.p.c]⟩] [.slice (some ⟨ba, 0, none⟩) n n, .int .i64 (i : Int), .pointer (some ⟨ba, i * 7, none⟩), .agg #[.int .i64 f.m, .int .i64 f.x.a, .int .i64 f.x.b, .int .i64 f.x.c, .int .i64 f.p.a, .int .i64 f.p.b, .int .i64 f.p.c], .slice (some ⟨ba, 0, none⟩) n n, .int .i64 (i : Int), .pointer (some ⟨ba, i * 7, none⟩), .agg #[.int .i64 f.m, .int .i64 f.x.a, .int .i64 f.x.b, .int .i64 f.x.c, .int .i64 f.p.a, .int .i64 f.p.b, .int .i64 f.p.c], undef, undef, undef, undef] ds (by kernel_rfl) (by rw [hds]; rfl) hap (by decide +kernel) (by decide +kernel) K ?ha ?haj ?hai ?hsi ?hss ?hsa ?hsw ?htg ?hE2 ?hE3 ?hE4 ?hL1 ?hL2 ?hL3 ?alloc ?step ?store ?fin
              case ha => intro al hal; simp only [List.mem_cons, List.not_mem_nil, or_false] at hal; rcases hal with rfl | rfl <;> rfl
              case haj => intro al hal al' hal' e; simp only [List.mem_cons, List.not_mem_nil, or_false] at hal; rcases hal with rfl | rfl <;> (simp only [List.mem_cons, List.not_mem_nil, or_false] at hal'; rcases hal' with rfl | rfl) <;> first | rfl | (exfalso; revert e; simp)
              case hai => intro al hal; simp only [List.mem_cons, List.not_mem_nil, or_false] at hal; rcases hal with rfl | rfl <;> decide
              case hsi => intro st hst st' hst' e; simp only [List.mem_cons, List.not_mem_nil, or_false] at hst; rcases hst with rfl | rfl <;> (simp only [List.mem_cons, List.not_mem_nil, or_false] at hst'; rcases hst' with rfl | rfl) <;> first | rfl | (exfalso; revert e; simp)
              case hss =>
                intro st hst
                simp only [List.mem_cons, List.not_mem_nil, or_false] at hst; rcases hst with rfl | rfl
                · show 10 < 12; decide
                · show 11 < 12; decide
              case hsa =>
                intro st hst al hal
                simp only [List.mem_cons, List.not_mem_nil, or_false] at hst; rcases hst with rfl | rfl
                · simp only [List.mem_cons, List.not_mem_nil, or_false] at hal; rcases hal with rfl | rfl
                  · exact (show ¬ (10 = 8) by decide)
                  · exact (show ¬ (10 = 9) by decide)
                · simp only [List.mem_cons, List.not_mem_nil, or_false] at hal; rcases hal with rfl | rfl
                  · exact (show ¬ (11 = 8) by decide)
                  · exact (show ¬ (11 = 9) by decide)
              case hsw =>
                intro st hst al hal e
                simp only [List.mem_cons, List.not_mem_nil, or_false] at hst; rcases hst with rfl | rfl
                · simp only [List.mem_cons, List.not_mem_nil, or_false] at hal; rcases hal with rfl | rfl
                  · change waitsAt _ 10 8 = true; decide +kernel
                  · exact absurd e (show ¬ (0 = 1) by decide)
                · simp only [List.mem_cons, List.not_mem_nil, or_false] at hal; rcases hal with rfl | rfl
                  · exact absurd e (show ¬ (1 = 0) by decide)
                  · change waitsAt _ 11 9 = true; decide +kernel
              case htg =>
                intro st hst
                simp only [List.mem_cons, List.not_mem_nil, or_false] at hst; rcases hst with rfl | rfl
                · exact .inr ⟨_, List.mem_cons_self .., rfl, show 0 + 7 ≤ 7 by decide⟩
                · exact .inr ⟨_, List.mem_cons_of_mem _ (List.mem_cons_self ..), rfl, show 0 + 7 ≤ 7 by decide⟩
              case hE2 =>
                intro hf j h1 h2
                have n0 : 0 ≠ j := h1 _ (List.mem_cons_self ..)
                have n1 : 1 ≠ j := h1 _ (List.mem_cons_of_mem _ (List.mem_cons_self ..))
                rcases j with _ | _ | j
                · exact absurd rfl n0
                · exact absurd rfl n1
                · rfl
              case hE3 =>
                intro hf st hst g us e
                simp only [List.mem_cons, List.not_mem_nil, or_false] at hst; rcases hst with rfl | rfl
                · simp at e
                · simp at e
              case hE4 =>
                intro hf al hal
                simp only [List.mem_cons, List.not_mem_nil, or_false] at hal; rcases hal with rfl | rfl
                · refine ⟨fun st hst e => ?_, fun h => absurd rfl (h _ (List.mem_cons_self ..))⟩
                  simp only [List.mem_cons, List.not_mem_nil, or_false] at hst; rcases hst with rfl | rfl
                  · rfl
                  · exact absurd e (show ¬ (1 = 0) by decide)
                · refine ⟨fun st hst e => ?_, fun h => absurd rfl (h _ (List.mem_cons_of_mem _ (List.mem_cons_self ..)))⟩
                  simp only [List.mem_cons, List.not_mem_nil, or_false] at hst; rcases hst with rfl | rfl
                  · exact absurd e (show ¬ (0 = 1) by decide)
                  · rfl
              case hL1 => intro hf; rfl
              case hL2 =>
                intro hf i hi hna
                have hi : i < 12 := hi
                have : i = 0 ∨ i = 1 ∨ i = 2 ∨ i = 3 ∨ i = 4 ∨ i = 5 ∨ i = 6 ∨ i = 7 ∨ i = 8 ∨ i = 9 ∨ i = 10 ∨ i = 11 := by omega
                rcases this with rfl | rfl | rfl | rfl | rfl | rfl | rfl | rfl | rfl | rfl | rfl | rfl
                · rfl
                · rfl
                · rfl
                · rfl
                · rfl
                · rfl
                · rfl
                · rfl
                · exact absurd rfl (hna _ (List.mem_cons_self ..))
                · exact absurd rfl (hna _ (List.mem_cons_of_mem _ (List.mem_cons_self ..)))
                · rfl
                · rfl
              case hL3 => intro hf al hal; simp only [List.mem_cons, List.not_mem_nil, or_false] at hal; rcases hal with rfl | rfl <;> rfl
              case alloc =>
                intro al hal o ρ W ho
                simp only [List.mem_cons, List.not_mem_nil, or_false] at hal; rcases hal with rfl | rfl
                · obtain rfl := Option.some.inj ho; unfold execOp ptrV objV; go_simp
                · obtain rfl := Option.some.inj ho; unfold execOp ptrV objV; go_simp
              case step =>
                intro L W i o ho hs ha hd hB hO
                have hi : i < 12 := (Array.getElem?_eq_some_iff.1 ho).1
                have : i = 0 ∨ i = 1 ∨ i = 2 ∨ i = 3 ∨ i = 4 ∨ i = 5 ∨ i = 6 ∨ i = 7 ∨ i = 8 ∨ i = 9 ∨ i = 10 ∨ i = 11 := by omega
                rcases this with rfl | rfl | rfl | rfl | rfl | rfl | rfl | rfl | rfl | rfl | rfl | rfl
                · -- 0
                  obtain rfl := Option.some.inj ho
                  refine .value W ?_ (Below.refl _ _)
                  generalize hA : (puts ds L _).eval = ρ
                  have hc : ∀ v, ρ (.const v) = v := fun v => by rw [← hA]; rfl
                  have hg : ∀ g, ρ (.func g) = .func (.func g) #[] #[] := fun v => by rw [← hA]; rfl
                  have h0 : ρ (.tmp 16) = .slice (some ⟨ba, 0, none⟩) n n := by rw [← hA]; exact (puts_old ds L _ (by rw [hds]; decide)).trans rfl
                  clear hA hd hB ho hs ha hO
                  unfold execOp
                  go_simp
                · -- 1
                  obtain rfl := Option.some.inj ho
                  refine .value W ?_ (Below.refl _ _)
                  generalize hA : (puts ds L _).eval = ρ
                  have hc : ∀ v, ρ (.const v) = v := fun v => by rw [← hA]; rfl
                  have hg : ∀ g, ρ (.func g) = .func (.func g) #[] #[] := fun v => by rw [← hA]; rfl
                  have h0 : ρ (.tmp 22) = .int .i64 (i : Int) := by rw [← hA]; exact (puts_old ds L _ (by rw [hds]; decide)).trans rfl
                  clear hA hd hB ho hs ha hO
                  unfold execOp
                  go_simp
                · -- 2
                  obtain rfl := Option.some.inj ho
                  refine .value W ?_ (Below.refl _ _)
                  generalize hA : (puts ds L _).eval = ρ
                  have hc : ∀ v, ρ (.const v) = v := fun v => by rw [← hA]; rfl
                  have hg : ∀ g, ρ (.func g) = .func (.func g) #[] #[] := fun v => by rw [← hA]; rfl
                  have h0 : ρ (.tmp 176) = .slice (some ⟨ba, 0, none⟩) n n := by rw [← hA]; exact puts_get 0 ds L _ hap (by rw [hds]; rfl) (hd 0 (by decide +kernel) (by intro al hal; simp only [List.mem_cons, List.not_mem_nil, or_false] at hal; rcases hal with rfl | rfl <;> decide)) (show 176 < 232 by decide)
                  have h1 : ρ (.tmp 177) = .int .i64 (i : Int) := by rw [← hA]; exact puts_get 1 ds L _ hap (by rw [hds]; rfl) (hd 1 (by decide +kernel) (by intro al hal; simp only [List.mem_cons, List.not_mem_nil, or_false] at hal; rcases hal with rfl | rfl <;> decide)) (show 177 < 232 by decide)
                  clear hA hd hB ho hs ha hO
                  unfold execOp
                  go_simp
                · -- 3
                  obtain rfl := Option.some.inj ho
                  obtain ⟨d0, d1, d2, d3, d4, d5, d6⟩ := farA.out W hO
                  refine .value W ?_ (Below.refl _ _)
                  generalize hA : (puts ds L _).eval = ρ
                  have hc : ∀ v, ρ (.const v) = v := fun v => by rw [← hA]; rfl
                  have hg : ∀ g, ρ (.func g) = .func (.func g) #[] #[] := fun v => by rw [← hA]; rfl
                  have h0 : ρ (.tmp 178) = .pointer (some ⟨ba, i * 7, none⟩) := by rw [← hA]; exact puts_get 2 ds L _ hap (by rw [hds]; rfl) (hd 2 (by decide +kernel) (by intro al hal; simp only [List.mem_cons, List.not_mem_nil, or_false] at hal; rcases hal with rfl | rfl <;> decide)) (show 178 < 232 by decide)
                  clear hA hd hB ho hs ha hO
                  unfold execOp
                  go_simp
                · -- 4
                  obtain rfl := Option.some.inj ho
                  refine .value W ?_ (Below.refl _ _)
                  generalize hA : (puts ds L _).eval = ρ
                  have hc : ∀ v, ρ (.const v) = v := fun v => by rw [← hA]; rfl
                  have hg : ∀ g, ρ (.func g) = .func (.func g) #[] #[] := fun v => by rw [← hA]; rfl
                  have h0 : ρ (.tmp 16) = .slice (some ⟨ba, 0, none⟩) n n := by rw [← hA]; exact (puts_old ds L _ (by rw [hds]; decide)).trans rfl
                  clear hA hd hB ho hs ha hO
                  unfold execOp
                  go_simp
                · -- 5
                  obtain rfl := Option.some.inj ho
                  refine .value W ?_ (Below.refl _ _)
                  generalize hA : (puts ds L _).eval = ρ
                  have hc : ∀ v, ρ (.const v) = v := fun v => by rw [← hA]; rfl
                  have hg : ∀ g, ρ (.func g) = .func (.func g) #[] #[] := fun v => by rw [← hA]; rfl
                  have h0 : ρ (.tmp 22) = .int .i64 (i : Int) := by rw [← hA]; exact (puts_old ds L _ (by rw [hds]; decide)).trans rfl
                  clear hA hd hB ho hs ha hO
                  unfold execOp
                  go_simp
                · -- 6
                  obtain rfl := Option.some.inj ho
                  refine .value W ?_ (Below.refl _ _)
                  generalize hA : (puts ds L _).eval = ρ
                  have hc : ∀ v, ρ (.const v) = v := fun v => by rw [← hA]; rfl
                  have hg : ∀ g, ρ (.func g) = .func (.func g) #[] #[] := fun v => by rw [← hA]; rfl
                  have h0 : ρ (.tmp 180) = .slice (some ⟨ba, 0, none⟩) n n := by rw [← hA]; exact puts_get 4 ds L _ hap (by rw [hds]; rfl) (hd 4 (by decide +kernel) (by intro al hal; simp only [List.mem_cons, List.not_mem_nil, or_false] at hal; rcases hal with rfl | rfl <;> decide)) (show 180 < 232 by decide)
                  have h1 : ρ (.tmp 181) = .int .i64 (i : Int) := by rw [← hA]; exact puts_get 5 ds L _ hap (by rw [hds]; rfl) (hd 5 (by decide +kernel) (by intro al hal; simp only [List.mem_cons, List.not_mem_nil, or_false] at hal; rcases hal with rfl | rfl <;> decide)) (show 181 < 232 by decide)
                  clear hA hd hB ho hs ha hO
                  unfold execOp
                  go_simp
                · -- 7
                  obtain rfl := Option.some.inj ho
                  obtain ⟨d0, d1, d2, d3, d4, d5, d6⟩ := farA.out W hO
                  refine .value W ?_ (Below.refl _ _)
                  generalize hA : (puts ds L _).eval = ρ
                  have hc : ∀ v, ρ (.const v) = v := fun v => by rw [← hA]; rfl
                  have hg : ∀ g, ρ (.func g) = .func (.func g) #[] #[] := fun v => by rw [← hA]; rfl
                  have h0 : ρ (.tmp 182) = .pointer (some ⟨ba, i * 7, none⟩) := by rw [← hA]; exact puts_get 6 ds L _ hap (by rw [hds]; rfl) (hd 6 (by decide +kernel) (by intro al hal; simp only [List.mem_cons, List.not_mem_nil, or_false] at hal; rcases hal with rfl | rfl <;> decide)) (show 182 < 232 by decide)
                  clear hA hd hB ho hs ha hO
                  unfold execOp
                  go_simp
                · -- 8
                  exact absurd rfl (ha _ (List.mem_cons_self ..))
                · -- 9
                  exact absurd rfl (ha _ (List.mem_cons_of_mem _ (List.mem_cons_self ..)))
                · -- 10
                  exact absurd rfl (hs _ (List.mem_cons_self ..))
                · -- 11
                  exact absurd rfl (hs _ (List.mem_cons_of_mem _ (List.mem_cons_self ..)))
              case store =>
                intro st hst L W o h us ho hd hal hC b
                simp only [List.mem_cons, List.not_mem_nil, or_false] at hst; rcases hst with rfl | rfl
                · dsimp only at ho hd hal hC b ⊢
                  obtain rfl := Option.some.inj ho
                  obtain ⟨hl, rfl⟩ := hal _ (List.mem_cons_self ..) rfl
                  have c0 := b.at_ 0 _ rfl
                  have f0 := b.fr 0 _ rfl
                  have c1 := b.at_ 1 _ rfl
                  have f1 := b.fr 1 _ rfl
                  have c2 := b.at_ 2 _ rfl
                  have f2 := b.fr 2 _ rfl
                  have c3 := b.at_ 3 _ rfl
                  have f3 := b.fr 3 _ rfl
                  have c4 := b.at_ 4 _ rfl
                  have f4 := b.fr 4 _ rfl
                  have c5 := b.at_ 5 _ rfl
                  have f5 := b.fr 5 _ rfl
                  have c6 := b.at_ 6 _ rfl
                  have f6 := b.fr 6 _ rfl
                  refine ⟨?_, rfl⟩
                  generalize hA : (puts ds L _).eval = ρ
                  have h0 : ρ (.tmp 23) = .pointer (some ⟨h, 0, none⟩) := by rw [← hA]; exact puts_get 8 ds L _ hap (by rw [hds]; rfl) hl (show 23 < 232 by decide)
                  have h1 : ρ (.tmp 179) = .agg #[.int .i64 f.m, .int .i64 f.x.a, .int .i64 f.x.b, .int .i64 f.x.c, .int .i64 f.p.a, .int .i64 f.p.b, .int .i64 f.p.c] := by rw [← hA]; exact puts_get 3 ds L _ hap (by rw [hds]; rfl) (hd 3 (by decide +kernel) (by intro al hal; simp only [List.mem_cons, List.not_mem_nil, or_false] at hal; rcases hal with rfl | rfl <;> decide)) (show 179 < 232 by decide)
                  have hst' := @istore
                  clear hA hd b ho hal hC
                  simp only [putV]
                  unfold execOp
                  go_simp
                · dsimp only at ho hd hal hC b ⊢
                  obtain rfl := Option.some.inj ho
                  obtain ⟨hl, rfl⟩ := hal _ (List.mem_cons_of_mem _ (List.mem_cons_self ..)) rfl
                  have c0 := b.at_ 0 _ rfl
                  have f0 := b.fr 0 _ rfl
                  have c1 := b.at_ 1 _ rfl
                  have f1 := b.fr 1 _ rfl
                  have c2 := b.at_ 2 _ rfl
                  have f2 := b.fr 2 _ rfl
                  have c3 := b.at_ 3 _ rfl
                  have f3 := b.fr 3 _ rfl
                  have c4 := b.at_ 4 _ rfl
                  have f4 := b.fr 4 _ rfl
                  have c5 := b.at_ 5 _ rfl
                  have f5 := b.fr 5 _ rfl
                  have c6 := b.at_ 6 _ rfl
                  have f6 := b.fr 6 _ rfl
                  refine ⟨?_, rfl⟩
                  generalize hA : (puts ds L _).eval = ρ
                  have h0 : ρ (.tmp 24) = .pointer (some ⟨h, 0, none⟩) := by rw [← hA]; exact puts_get 9 ds L _ hap (by rw [hds]; rfl) hl (show 24 < 232 by decide)
                  have h1 : ρ (.tmp 183) = .agg #[.int .i64 f.m, .int .i64 f.x.a, .int .i64 f.x.b, .int .i64 f.x.c, .int .i64 f.p.a, .int .i64 f.p.b, .int .i64 f.p.c] := by rw [← hA]; exact puts_get 7 ds L _ hap (by rw [hds]; rfl) (hd 7 (by decide +kernel) (by intro al hal; simp only [List.mem_cons, List.not_mem_nil, or_false] at hal; rcases hal with rfl | rfl <;> decide)) (show 183 < 232 by decide)
                  have hst' := @istore
                  clear hA hd b ho hal hC
                  simp only [putV]
                  unfold execOp
                  go_simp
              case fin =>
                intro hf W0 K
                rw [hds]
                clear hds hap ds
                (try dsimp only at K)
                generalize hf 8 = gx at *
                generalize hf 9 = gy at *
                (try unfold ptrV)
                simp only [List.set_cons_zero, List.set_cons_succ, puts, Act.put, List.setIfInBounds_toArray]
                replace K : Hid (Kv wr [some (gx, maC f), some (gy, maC f)] W0) := Lib.hid K
                clear farA XA hf
                go_wp2_with fail
                go_loopw [25] (fun kv wx => ∃ k : Nat, k ≤ 3 ∧ kv = .int .i64 k ∧ ∃ f', Kv wr [some (gx, maC f'), some (gy, maC f)] wx) (fun kv _ => 3 - (intOf kv).toNat)
                case atStart => exact ⟨0, by omega, rfl, f, K.out⟩
                case round =>
                  obtain ⟨k, hk, rfl, f', X⟩ := hrel
                  clear K
                  by_cases hkt : k < 3
                  · have hkti : (k : Int) < 3 := by omega
                    have hbx := Lib.hid (hbw.out.trans (X.old.mono hbw.out.size))
                    have cy := box_at (RAt.on BX.out hbx.out) hkt
                    have cx := (X.at_ 0 rfl).at_ _ _ (maC_x f' hkt)
                    have fx := (X.at_ 0 rfl).fr _ _ (maC_x f' hkt)
                    have Y := (X.put 0 rfl (1 + k) [.int .i64 (IntKind.i64.wrap (f'.x.get k + a3.get k))] (by show 1 + k + 1 ≤ 7; omega)).draws
                    simp only [setV, putV, List.set_cons_zero] at Y
                    rw [maC_setx f' hkt] at Y
                    replace X := Lib.hid X
                    generalize ({ f' with x := f'.x.put k (IntKind.i64.wrap (f'.x.get k + a3.get k)) } : Ma) = f2 at *
                    generalize f'.x.get k = x at *
                    generalize a3.get k = y at *
                    obtain ⟨nx, hnx⟩ : ∃ nx, IntKind.i64.wrap (x + y) = nx := ⟨_, rfl⟩
                    rw [hnx] at Y
                    replace Y := Lib.hid Y
                    go_wp2_with fail
                    go_still_tail 10, (by kernel_rfl)
                    change wpList _ _ _ _ _ wr.drew
                    go_wp2_with fail
                    go_roundw
                    case rel => exact ⟨k + 1, hkt, by go_num, f2, Y.out⟩
                    case measure => simp [intOf]; omega
                  · obtain rfl : k = 3 := by omega
                    have hbx := Lib.hid (hbw.out.trans (X.old.mono hbw.out.size))
                    have c1 := (X.at_ 1 rfl).at_ _ _ (maC_x f hk3)
                    have c2 := (X.at_ 1 rfl).at_ _ _ (maC_p f hk3)
                    have f1 := (X.at_ 1 rfl).fr _ _ (maC_x f hk3)
                    have f2 := (X.at_ 1 rfl).fr _ _ (maC_p f hk3)
                    have Y := (X.put 1 rfl (1 + kk) [.int .i64 (wng (f.x.get kk))] (by show 1 + kk + 1 ≤ 7; omega)).put 1 rfl (4 + kk) [.int .i64 (wng (f.p.get kk))] (by simp only [setV, List.length_set]; show 4 + kk + 1 ≤ 7; omega)
                    simp only [setV, putV, List.set_cons_zero, List.set_cons_succ] at Y
                    rw [maC_setx f hk3, maC_setp { f with x := f.x.put kk (wng (f.x.get kk)) } hk3] at Y
                    have eT : ({ m := f.m, x := f.x.put kk (wng (f.x.get kk)), p := f.p.put kk (wng (f.p.get kk)) } : Ma) = tnW kk f := rfl
                    dsimp only at Y
                    rw [eT] at Y
                    clear eT
                    have wx' : IntKind.i64.wrap (-(f.x.get kk)) = wng (f.x.get kk) := rfl
                    have wp' : IntKind.i64.wrap (-(f.p.get kk)) = wng (f.p.get kk) := rfl
                    replace Y := Lib.hid Y
                    replace X := Lib.hid X
                    generalize wng (f.x.get kk) = nx at *
                    generalize wng (f.p.get kk) = np at *
                    generalize f.x.get kk = xk at *
                    generalize f.p.get kk = pk at *
                    go_upto_region 31 with fail
                    go_big_region
                    replace Y := Y.out.draws
                    clear c1 c2 f1 f2 wx' wp'
                    generalize World.drew (World.setCell _ _ _) = wq at *
                    have hbq := Lib.hid (hbw.out.trans (Y.old.mono hbw.out.size))
                    obtain ⟨z0, z1, z2, z3, z4, z5, z6⟩ := (OwM.on OC.out hbq.out).cells lC.out
                    rw [eC.out] at z0 z1 z2 z3 z4 z5 z6
                    have zx0 := (Y.at_ 1 rfl).at_ 0 _ rfl
                    have zx1 := (Y.at_ 1 rfl).at_ 1 _ rfl
                    have zx2 := (Y.at_ 1 rfl).at_ 2 _ rfl
                    have zx3 := (Y.at_ 1 rfl).at_ 3 _ rfl
                    have zx4 := (Y.at_ 1 rfl).at_ 4 _ rfl
                    have zx5 := (Y.at_ 1 rfl).at_ 5 _ rfl
                    have zx6 := (Y.at_ 1 rfl).at_ 6 _ rfl
                    clear Y X hbx hf0 lC eC hil
                    have nez := mneq_run (tnW kk f)
                    generalize tnW kk f = g2 at *
                    obtain ⟨g2m, ⟨g2a, g2b, g2c⟩, ⟨g2p, g2q, g2r⟩⟩ := g2
                    unfold maV at nez
                    dsimp only at *
                    go_wp2_with fail
                    go_quiet (fail)
                    replace hbq := Lib.hid (below_drewN hbq.out nq)
                    clear nez z0 zx0 z1 zx1 z2 zx2 z3 zx3 z4 zx4 z5 zx5 z6 zx6
                    generalize World.drewN _ _ = wz at *
                    go_wp2_with fail
                    go_roundw
                    case rel => exact ⟨i + 1, hlt, by go_num, hbq.out⟩
                    case measure => simp [intOf]; omega
            · obtain rfl : n = i := by omega
              replace hbw := Lib.hid (K.out.trans (hbw.mono K.out.size))
              go_wp2_with fail
              go_ret
              exact ⟨by first | rfl | trivial, hbw.out⟩
        | some s =>
          have es := RunR_mv hR hM
          have oks : Hid (∀ a ∈ s, OkM a) := Lib.hid (allB_iff.1 (RunR_kept hM).2.1)
          have hms : n = s.length := by rw [(RunR_kept hM).2.2.1]; exact nM.out
          subst es
          replace hms := Lib.hid hms
          refine (RU.out v3 aoM cM (L0.map (mv a3)) N nM.out MM.out).mono ?_
          rintro _ v4 ⟨hb, -, hs⟩
          replace BX := Lib.hid (RAt.on BX.out hb)
          replace TT := Lib.hid (RAt.on TT.out hb)
          replace OA := Lib.hid (OwM.on OA.out hb)
          obtain ⟨bb, rfl, -, OB⟩ := hs _ hM
          rw [← hms.out]
          replace OB := Lib.hid OB
          replace K := Lib.hid (K.out.trans (hb.mono K.out.size))
          clear MM hb hs
          clear hM
          go_wp2_with (first | (go_at_call 6; ((with_reducible refine (FW.out _).mono ?_); rintro e w' ⟨rfl, rfl⟩)))
          refine (RU.out v4 aoT cT (L0.map (tnW kk)) N nT.out TT.out).mono ?_
          rintro _ v5 ⟨hb, -, hs⟩
          replace BX := Lib.hid (RAt.on BX.out hb)
          replace OA := Lib.hid (OwM.on OA.out hb)
          replace OB := Lib.hid (OwM.on OB.out hb)
          obtain ⟨bc, rfl, -, OC⟩ := hs _ hT.out
          rw [← hlT.out]
          replace OC := Lib.hid OC
          replace K := Lib.hid (K.out.trans (hb.mono K.out.size))
          clear TT hb hs
          clear RU hT hR
          go_wp2_with fail
          go_loopw [22] (fun iv wr => ∃ i : Nat, i ≤ n ∧ iv = .int .i64 i ∧ Below v5.heap.size v5 wr) (fun iv _ => n - (intOf iv).toNat)
          case atStart => exact ⟨0, Nat.zero_le _, rfl, Below.refl _ _⟩
          case round =>
            obtain ⟨i, hi, rfl, hbw⟩ := hrel
            by_cases hlt : i < n
            · have hil : i < r.length := by have := hl.out; omega
              have hin : (i : Int) < (n : Int) := by omega
              have okA := okr.out _ (mAt_mem hil)
              have lC : Hid (i < (r.map (tn kk)).length) := by show i < _; rw [List.length_map]; exact hil
              have eC : Hid (mAt (r.map (tn kk)) i = tnW kk (mAt r i)) := by show _ = _; rw [mAt_map _ hil, tnW_ok hk3 okA]
              have lB : Hid (i < (r.map (mv a3)).length) := by show i < _; rw [List.length_map]; exact hil
              have eB : Hid (mAt (r.map (mv a3)) i = mv a3 (mAt r i)) := Lib.hid (mAt_map _ hil)
              have okB : Hid (OkM (mv a3 (mAt r i))) := by show OkM _; rw [← eB.out]; exact oks.out _ (mAt_mem lB.out)
              replace hbw := Lib.hid hbw
              have XA := Lib.hid (OwM.on OA.out hbw.out)
              clear okA
              go_upto_region 26 with fail
              have farA : Hid (∀ W, Below wr.heap.size wr W → _) := Lib.hid fun W hW => (XA.out.on hW).cells hil
              have K2 := (Kv.nil wr).more.more
              simp only [List.nil_append, List.cons_append] at K2
              have KK := K
              clear K
              have K := K2
              clear K2
              generalize hf0 : mAt r i = f at *
              replace hf0 := Lib.hid hf0
              generalize hds : ([some 176, some 177, some 178, some 179, some 180, some 181, some 182, some 183, some 23, some 24, none, none] : List (Option Tmp)) = ds
              have hap : apartL ds = true := by rw [← hds]; decide
              replace hds := hds.symm
              refine wp_region_kv (fun hf => [some (hf 8, [.int .i64 f.m, .int .i64 f.x.a, .int .i64 f.x.b, .int .i64 f.x.c, .int .i64 f.p.a, .int .i64 f.p.b, .int .i64 f.p.c]), some (hf 9, [.int .i64 f.m, .int .i64 f.x.a, .int .i64 f.x.b, .int .i64 f.x.c, .int .i64 f.p.a, .int .i64 f.p.b, .int .i64 f.p.c])]) (fun hf => [some (.slice (some ⟨ba, 0, none⟩) n n), some (.int .i64 (i : Int)), some (.pointer (some ⟨ba, i * 7, none⟩)), some (.agg #[.int .i64 f.m, .int .i64 f.x.a, .int .i64 f.x.b, .int .i64 f.x.c, .int .i64 f.p.a, .int .i64 f.p.b, .int .i64 f.p.c]), some (.slice (some ⟨ba, 0, none⟩) n n), some (.int .i64 (i : Int)), some (.pointer (some ⟨ba, i * 7, none⟩)), some (.agg #[.int .i64 f.m, .int .i64 f.x.a, .int .i64 f.x.b, .int .i64 f.x.c, .int .i64 f.p.a, .int .i64 f.p.b, .int .i64 f.p.c]), some (ptrV (hf 8)), some (ptrV (hf 9)), some (undef), some (undef)]) [⟨8, 0, 28, [.int .i64 0, .int .i64 0, .int .i64 0, .int .i64 0, .int .i64 0, .int .i64 0, .int .i64 0]⟩, ⟨9, 1, 28, [.int .i64 0, .int .i64 0, .int .i64 0, .int .i64 0, .int .i64 0, .int .i64 0, .int .i64 0]⟩] [⟨10, 0, 0, [.int .i64 f.m, .int .i64 f.x.a, .int .i64 f.x.b, .int .i64 f.x.c, .int .i64 f.p.a, .int .i64 f.p.b, .int .i64 f.p.c]⟩, ⟨11, 1, 0, [.int .i64 f.m, .int .i64 f.x.a, .int .i64 f.x.b, .int .i64 f.x.c, .int .i64 f.p.a, .int .i64 f.p.b, .int .i64 f.p.c]⟩] [.slice (some ⟨ba, 0, none⟩) n n, .int .i64 (i : Int), .pointer (some ⟨ba, i * 7, none⟩), .agg #[.int .i64 f.m, .int .i64 f.x.a, .int .i64 f.x.b, .int .i64 f.x.c, .int .i64 f.p.a, .int .i64 f.p.b, .int .i64 f.p.c], .slice (some ⟨ba, 0, none⟩) n n, .int .i64 (i : Int), .pointer (some ⟨ba, i * 7, none⟩), .agg #[.int .i64 f.m, .int .i64 f.x.a, .int .i64 f.x.b, .int .i64 f.x.c, .int .i64 f.p.a, .int .i64 f.p.b, .int .i64 f.p.c], undef, undef, undef, undef] ds (by kernel_rfl) (by rw [hds]; rfl) hap (by decide +kernel) (by decide +kernel) K ?ha ?haj ?hai ?hsi ?hss ?hsa ?hsw ?htg ?hE2 ?hE3 ?hE4 ?hL1 ?hL2 ?hL3 ?alloc ?step ?store ?fin
              case ha => intro al hal; simp only [List.mem_cons, List.not_mem_nil, or_false] at hal; rcases hal with rfl | rfl <;> rfl
              case haj => intro al hal al' hal' e; simp only [List.mem_cons, List.not_mem_nil, or_false] at hal; rcases hal with rfl | rfl <;> (simp only [List.mem_cons, List.not_mem_nil, or_false] at hal'; rcases hal' with rfl | rfl) <;> first | rfl | (exfalso; revert e; simp)
              case hai => intro al hal; simp only [List.mem_cons, List.not_mem_nil, or_false] at hal; rcases hal with rfl | rfl <;> decide
              case hsi => intro st hst st' hst' e; simp only [List.mem_cons, List.not_mem_nil, or_false] at hst; rcases hst with rfl | rfl <;> (simp only [List.mem_cons, List.not_mem_nil, or_false] at hst'; rcases hst' with rfl | rfl) <;> first | rfl | (exfalso; revert e; simp)
              case hss =>
                intro st hst
                simp only [List.mem_cons, List.not_mem_nil, or_false] at hst; rcases hst with rfl | rfl
                · show 10 < 12; decide
                · show 11 < 12; decide
              case hsa =>
                intro st hst al hal
                simp only [List.mem_cons, List.not_mem_nil, or_false] at hst; rcases hst with rfl | rfl
                · simp only [List.mem_cons, List.not_mem_nil, or_false] at hal; rcases hal with rfl | rfl
                  · exact (show ¬ (10 = 8) by decide)
                  · exact (show ¬ (10 = 9) by decide)
                · simp only [List.mem_cons, List.not_mem_nil, or_false] at hal; rcases hal with rfl | rfl
                  · exact (show ¬ (11 = 8) by decide)
                  · exact (show ¬ (11 = 9) by decide)
              case hsw =>
                intro st hst al hal e
                simp only [List.mem_cons, List.not_mem_nil, or_false] at hst; rcases hst with rfl | rfl
                · simp only [List.mem_cons, List.not_mem_nil, or_false] at hal; rcases hal with rfl | rfl
                  · change waitsAt _ 10 8 = true; decide +kernel
                  · exact absurd e (show ¬ (0 = 1) by decide)
                · simp only [List.mem_cons, List.not_mem_nil, or_false] at hal; rcases hal with rfl | rfl
                  · exact absurd e (show ¬ (1 = 0) by decide)
                  · change waitsAt _ 11 9 = true; decide +kernel
              case htg =>
                intro st hst
                simp only [List.mem_cons, List.not_mem_nil, or_false] at hst; rcases hst with rfl | rfl
                · exact .inr ⟨_, List.mem_cons_self .., rfl, show 0 + 7 ≤ 7 by decide⟩
                · exact .inr ⟨_, List.mem_cons_of_mem _ (List.mem_cons_self ..), rfl, show 0 + 7 ≤ 7 by decide⟩
              case hE2 =>
                intro hf j h1 h2
                have n0 : 0 ≠ j := h1 _ (List.mem_cons_self ..)
                have n1 : 1 ≠ j := h1 _ (List.mem_cons_of_mem _ (List.mem_cons_self ..))
                rcases j with _ | _ | j
                · exact absurd rfl n0
                · exact absurd rfl n1
                · rfl
              case hE3 =>
                intro hf st hst g us e
                simp only [List.mem_cons, List.not_mem_nil, or_false] at hst; rcases hst with rfl | rfl
                · simp at e
                · simp at e
              case hE4 =>
                intro hf al hal
                simp only [List.mem_cons, List.not_mem_nil, or_false] at hal; rcases hal with rfl | rfl
                · refine ⟨fun st hst e => ?_, fun h => absurd rfl (h _ (List.mem_cons_self ..))⟩
                  simp only [List.mem_cons, List.not_mem_nil, or_false] at hst; rcases hst with rfl | rfl
                  · rfl
                  · exact absurd e (show ¬ (1 = 0) by decide)
                · refine ⟨fun st hst e => ?_, fun h => absurd rfl (h _ (List.mem_cons_of_mem _ (List.mem_cons_self ..)))⟩
                  simp only [List.mem_cons, List.not_mem_nil, or_false] at hst; rcases hst with rfl | rfl
                  · exact absurd e (show ¬ (0 = 1) by decide)
                  · rfl
              case hL1 => intro hf; rfl
              case hL2 =>
                intro hf i hi hna
                have hi : i < 12 := hi
                have : i = 0 ∨ i = 1 ∨ i = 2 ∨ i = 3 ∨ i = 4 ∨ i = 5 ∨ i = 6 ∨ i = 7 ∨ i = 8 ∨ i = 9 ∨ i = 10 ∨ i = 11 := by omega
                rcases this with rfl | rfl | rfl | rfl | rfl | rfl | rfl | rfl | rfl | rfl | rfl | rfl
                · rfl
                · rfl
                · rfl
                · rfl
                · rfl
                · rfl
                · rfl
                · rfl
                · exact absurd rfl (hna _ (List.mem_cons_self ..))
                · exact absurd rfl (hna _ (List.mem_cons_of_mem _ (List.mem_cons_self ..)))
                · rfl
                · rfl
              case hL3 => intro hf al hal; simp only [List.mem_cons, List.not_mem_nil, or_false] at hal; rcases hal with rfl | rfl <;> rfl
              case alloc =>
                intro al hal o ρ W ho
                simp only [List.mem_cons, List.not_mem_nil, or_false] at hal; rcases hal with rfl | rfl
                · obtain rfl := Option.some.inj ho; unfold execOp ptrV objV; go_simp
                · obtain rfl := Option.some.inj ho; unfold execOp ptrV objV; go_simp
              case step =>
                intro L W i o ho hs ha hd hB hO
                have hi : i < 12 := (Array.getElem?_eq_some_iff.1 ho).1
                have : i = 0 ∨ i = 1 ∨ i = 2 ∨ i = 3 ∨ i = 4 ∨ i = 5 ∨ i = 6 ∨ i = 7 ∨ i = 8 ∨ i = 9 ∨ i = 10 ∨ i = 11 := by omega
                rcases this with rfl | rfl | rfl | rfl | rfl | rfl | rfl | rfl | rfl | rfl | rfl | rfl
                · -- 0
                  obtain rfl := Option.some.inj ho
                  refine .value W ?_ (Below.refl _ _)
                  generalize hA : (puts ds L _).eval = ρ
                  have hc : ∀ v, ρ (.const v) = v := fun v => by rw [← hA]; rfl
                  have hg : ∀ g, ρ (.func g) = .func (.func g) #[] #[] := fun v => by rw [← hA]; rfl
                  have h0 : ρ (.tmp 16) = .slice (some ⟨ba, 0, none⟩) n n := by rw [← hA]; exact (puts_old ds L _ (by rw [hds]; decide)).trans rfl
                  clear hA hd hB ho hs ha hO
                  unfold execOp
                  go_simp
                · -- 1
                  obtain rfl := Option.some.inj ho
                  refine .value W ?_ (Below.refl _ _)
                  generalize hA : (puts ds L _).eval = ρ
                  have hc : ∀ v, ρ (.const v) = v := fun v => by rw [← hA]; rfl
                  have hg : ∀ g, ρ (.func g) = .func (.func g) #[] #[] := fun v => by rw [← hA]; rfl
                  have h0 : ρ (.tmp 22) = .int .i64 (i : Int) := by rw [← hA]; exact (puts_old ds L _ (by rw [hds]; decide)).trans rfl
                  clear hA hd hB ho hs ha hO
                  unfold execOp
                  go_simp
                · -- 2
                  obtain rfl := Option.some.inj ho
                  refine .value W ?_ (Below.refl _ _)
                  generalize hA : (puts ds L _).eval = ρ
                  have hc : ∀ v, ρ (.const v) = v := fun v => by rw [← hA]; rfl
                  have hg : ∀ g, ρ (.func g) = .func (.func g) #[] #[] := fun v => by rw [← hA]; rfl
                  have h0 : ρ (.tmp 176) = .slice (some ⟨ba, 0, none⟩) n n := by rw [← hA]; exact puts_get 0 ds L _ hap (by rw [hds]; rfl) (hd 0 (by decide +kernel) (by intro al hal; simp only [List.mem_cons, List.not_mem_nil, or_false] at hal; rcases hal with rfl | rfl <;> decide)) (show 176 < 232 by decide)
                  have h1 : ρ (.tmp 177) = .int .i64 (i : Int) := by rw [← hA]; exact puts_get 1 ds L _ hap (by rw [hds]; rfl) (hd 1 (by decide +kernel) (by intro al hal; simp only [List.mem_cons, List.not_mem_nil, or_false] at hal; rcases hal with rfl | rfl <;> decide)) (show 177 < 232 by decide)
                  clear hA hd hB ho hs ha hO
                  unfold execOp
                  go_simp
                · -- 3
                  obtain rfl := Option.some.inj ho
                  obtain ⟨d0, d1, d2, d3, d4, d5, d6⟩ := farA.out W hO
                  refine .value W ?_ (Below.refl _ _)
                  generalize hA : (puts ds L _).eval = ρ
                  have hc : ∀ v, ρ (.const v) = v := fun v => by rw [← hA]; rfl
                  have hg : ∀ g, ρ (.func g) = .func (.func g) #[] #[] := fun v => by rw [← hA]; rfl
                  have h0 : ρ (.tmp 178) = .pointer (some ⟨ba, i * 7, none⟩) := by rw [← hA]; exact puts_get 2 ds L _ hap (by rw [hds]; rfl) (hd 2 (by decide +kernel) (by intro al hal; simp only [List.mem_cons, List.not_mem_nil, or_false] at hal; rcases hal with rfl | rfl <;> decide)) (show 178 < 232 by decide)
                  clear hA hd hB ho hs ha hO
                  unfold execOp
                  go_simp
                · -- 4
                  obtain rfl := Option.some.inj ho
                  refine .value W ?_ (Below.refl _ _)
                  generalize hA : (puts ds L _).eval = ρ
                  have hc : ∀ v, ρ (.const v) = v := fun v => by rw [← hA]; rfl
                  have hg : ∀ g, ρ (.func g) = .func (.func g) #[] #[] := fun v => by rw [← hA]; rfl
                  have h0 : ρ (.tmp 16) = .slice (some ⟨ba, 0, none⟩) n n := by rw [← hA]; exact (puts_old ds L _ (by rw [hds]; decide)).trans rfl
                  clear hA hd hB ho hs ha hO
                  unfold execOp
                  go_simp
                · -- 5
                  obtain rfl := Option.some.inj ho
                  refine .value W ?_ (Below.refl _ _)
                  generalize hA : (puts ds L _).eval = ρ
                  have hc : ∀ v, ρ (.const v) = v := fun v => by rw [← hA]; rfl
                  have hg : ∀ g, ρ (.func g) = .func (.func g) #[] #[] := fun v => by rw [← hA]; rfl
                  have h0 : ρ (.tmp 22) = .int .i64 (i : Int) := by rw [← hA]; exact (puts_old ds L _ (by rw [hds]; decide)).trans rfl
                  clear hA hd hB ho hs ha hO
                  unfold execOp
                  go_simp
                · -- 6
                  obtain rfl := Option.some.inj ho
                  refine .value W ?_ (Below.refl _ _)
                  generalize hA : (puts ds L _).eval = ρ
                  have hc : ∀ v, ρ (.const v) = v := fun v => by rw [← hA]; rfl
                  have hg : ∀ g, ρ (.func g) = .func (.func g) #[] #[] := fun v => by rw [← hA]; rfl
                  have h0 : ρ (.tmp 180) = .slice (some ⟨ba, 0, none⟩) n n := by rw [← hA]; exact puts_get 4 ds L _ hap (by rw [hds]; rfl) (hd 4 (by decide +kernel) (by intro al hal; simp only [List.mem_cons, List.not_mem_nil, or_false] at hal; rcases hal with rfl | rfl <;> decide)) (show 180 < 232 by decide)
                  have h1 : ρ (.tmp 181) = .int .i64 (i : Int) := by rw [← hA]; exact puts_get 5 ds L _ hap (by rw [hds]; rfl) (hd 5 (by decide +kernel) (by intro al hal; simp only [List.mem_cons, List.not_mem_nil, or_false] at hal; rcases hal with rfl | rfl <;> decide)) (show 181 < 232 by decide)
                  clear hA hd hB ho hs ha hO
                  unfold execOp
                  go_simp
                · -- 7
                  obtain rfl := Option.some.inj ho
                  obtain ⟨d0, d1, d2, d3, d4, d5, d6⟩ := farA.out W hO
                  refine .value W ?_ (Below.refl _ _)
                  generalize hA : (puts ds L _).eval = ρ
                  have hc : ∀ v, ρ (.const v) = v := fun v => by rw [← hA]; rfl
                  have hg : ∀ g, ρ (.func g) = .func (.func g) #[] #[] := fun v => by rw [← hA]; rfl
                  have h0 : ρ (.tmp 182) = .pointer (some ⟨ba, i * 7, none⟩) := by rw [← hA]; exact puts_get 6 ds L _ hap (by rw [hds]; rfl) (hd 6 (by decide +kernel) (by intro al hal; simp only [List.mem_cons, List.not_mem_nil, or_false] at hal; rcases hal with rfl | rfl <;> decide)) (show 182 < 232 by decide)
                  clear hA hd hB ho hs ha hO
                  unfold execOp
                  go_simp
                · -- 8
                  exact absurd rfl (ha _ (List.mem_cons_self ..))
                · -- 9
                  exact absurd rfl (ha _ (List.mem_cons_of_mem _ (List.mem_cons_self ..)))
                · -- 10
                  exact absurd rfl (hs _ (List.mem_cons_self ..))
                · -- 11
                  exact absurd rfl (hs _ (List.mem_cons_of_mem _ (List.mem_cons_self ..)))
              case store =>
                intro st hst L W o h us ho hd hal hC b
                simp only [List.mem_cons, List.not_mem_nil, or_false] at hst; rcases hst with rfl | rfl
                · dsimp only at ho hd hal hC b ⊢
                  obtain rfl := Option.some.inj ho
                  obtain ⟨hl, rfl⟩ := hal _ (List.mem_cons_self ..) rfl
                  have c0 := b.at_ 0 _ rfl
                  have f0 := b.fr 0 _ rfl
                  have c1 := b.at_ 1 _ rfl
                  have f1 := b.fr 1 _ rfl
                  have c2 := b.at_ 2 _ rfl
                  have f2 := b.fr 2 _ rfl
                  have c3 := b.at_ 3 _ rfl
                  have f3 := b.fr 3 _ rfl
                  have c4 := b.at_ 4 _ rfl
                  have f4 := b.fr 4 _ rfl
                  have c5 := b.at_ 5 _ rfl
                  have f5 := b.fr 5 _ rfl
                  have c6 := b.at_ 6 _ rfl
                  have f6 := b.fr 6 _ rfl
                  refine ⟨?_, rfl⟩
                  generalize hA : (puts ds L _).eval = ρ
                  have h0 : ρ (.tmp 23) = .pointer (some ⟨h, 0, none⟩) := by rw [← hA]; exact puts_get 8 ds L _ hap (by rw [hds]; rfl) hl (show 23 < 232 by decide)
                  have h1 : ρ (.tmp 179) = .agg #[.int .i64 f.m, .int .i64 f.x.a, .int .i64 f.x.b, .int .i64 f.x.c, .int .i64 f.p.a, .int .i64 f.p.b, .int .i64 f.p.c] := by rw [← hA]; exact puts_get 3 ds L _ hap (by rw [hds]; rfl) (hd 3 (by decide +kernel) (by intro al hal; simp only [List.mem_cons, List.not_mem_nil, or_false] at hal; rcases hal with rfl | rfl <;> decide)) (show 179 < 232 by decide)
                  have hst' := @istore
                  clear hA hd b ho hal hC
                  simp only [putV]
                  unfold execOp
                  go_simp
                · dsimp only at ho hd hal hC b ⊢
                  obtain rfl := Option.some.inj ho
                  obtain ⟨hl, rfl⟩ := hal _ (List.mem_cons_of_mem _ (List.mem_cons_self ..)) rfl
                  have c0 := b.at_ 0 _ rfl
                  have f0 := b.fr 0 _ rfl
                  have c1 := b.at_ 1 _ rfl
                  have f1 := b.fr 1 _ rfl
                  have c2 := b.at_ 2 _ rfl
                  have f2 := b.fr 2 _ rfl
                  have c3 := b.at_ 3 _ rfl
                  have f3 := b.fr 3 _ rfl
                  have c4 := b.at_ 4 _ rfl
                  have f4 := b.fr 4 _ rfl
                  have c5 := b.at_ 5 _ rfl
                  have f5 := b.fr 5 _ rfl
                  have c6 := b.at_ 6 _ rfl
                  have f6 := b.fr 6 _ rfl
                  refine ⟨?_, rfl⟩
                  generalize hA : (puts ds L _).eval = ρ
                  have h0 : ρ (.tmp 24) = .pointer (some ⟨h, 0, none⟩) := by rw [← hA]; exact puts_get 9 ds L _ hap (by rw [hds]; rfl) hl (show 24 < 232 by decide)
                  have h1 : ρ (.tmp 183) = .agg #[.int .i64 f.m, .int .i64 f.x.a, .int .i64 f.x.b, .int .i64 f.x.c, .int .i64 f.p.a, .int .i64 f.p.b, .int .i64 f.p.c] := by rw [← hA]; exact puts_get 7 ds L _ hap (by rw [hds]; rfl) (hd 7 (by decide +kernel) (by intro al hal; simp only [List.mem_cons, List.not_mem_nil, or_false] at hal; rcases hal with rfl | rfl <;> decide)) (show 183 < 232 by decide)
                  have hst' := @istore
                  clear hA hd b ho hal hC
                  simp only [putV]
                  unfold execOp
                  go_simp
              case fin =>
                intro hf W0 K
                rw [hds]
                clear hds hap ds
                (try dsimp only at K)
                generalize hf 8 = gx at *
                generalize hf 9 = gy at *
                (try unfold ptrV)
                simp only [List.set_cons_zero, List.set_cons_succ, puts, Act.put, List.setIfInBounds_toArray]
                replace K : Hid (Kv wr [some (gx, maC f), some (gy, maC f)] W0) := Lib.hid K
                clear farA XA hf
                go_wp2_with fail
                go_loopw [25] (fun kv wx => ∃ k : Nat, k ≤ 3 ∧ kv = .int .i64 k ∧ ∃ f', f' = xMv a3 f k ∧ Kv wr [some (gx, maC f'), some (gy, maC f)] wx) (fun kv _ => 3 - (intOf kv).toNat)
                case atStart => exact ⟨0, by omega, rfl, f, (xMv_zero a3 f).symm, K.out⟩
                case round =>
                  obtain ⟨k, hk, rfl, f', hf', X⟩ := hrel
                  clear K
                  by_cases hkt : k < 3
                  · have hkti : (k : Int) < 3 := by omega
                    have hbx := Lib.hid (hbw.out.trans (X.old.mono hbw.out.size))
                    have cy := box_at (RAt.on BX.out hbx.out) hkt
                    have cx := (X.at_ 0 rfl).at_ _ _ (maC_x f' hkt)
                    have fx := (X.at_ 0 rfl).fr _ _ (maC_x f' hkt)
                    have Y := (X.put 0 rfl (1 + k) [.int .i64 (IntKind.i64.wrap (f'.x.get k + a3.get k))] (by show 1 + k + 1 ≤ 7; omega)).draws
                    simp only [setV, putV, List.set_cons_zero] at Y
                    rw [maC_setx f' hkt] at Y
                    have hx1 : f'.x.get k = f.x.get k := by rw [hf']; exact xMv_get a3 f hkt
                    have ew : IntKind.i64.wrap (f'.x.get k + a3.get k) = f.x.get k + a3.get k := by
                      rw [hx1]
                      have := okB.out.x k
                      have e : (mv a3 f).x.get k = f.x.get k + a3.get k := get_of _ hkt
                      rw [e] at this
                      exact IntWalk.i64_in _ (by omega)
                    have hn' : Hid ({ f' with x := f'.x.put k (IntKind.i64.wrap (f'.x.get k + a3.get k)) } = xMv a3 f (k + 1)) := by
                      show _ = _
                      rw [ew, hf']
                      exact xMv_put a3 f hkt
                    clear hx1 ew
                    replace hf' := Lib.hid hf'
                    replace X := Lib.hid X
                    generalize ({ f' with x := f'.x.put k (IntKind.i64.wrap (f'.x.get k + a3.get k)) } : Ma) = f2 at *
                    generalize f'.x.get k = x at *
                    generalize a3.get k = y at *
                    obtain ⟨nx, hnx⟩ : ∃ nx, IntKind.i64.wrap (x + y) = nx := ⟨_, rfl⟩
                    rw [hnx] at Y
                    replace Y := Lib.hid Y
                    go_wp2_with fail
                    go_still_tail 10, (by kernel_rfl)
                    change wpList _ _ _ _ _ wr.drew
                    go_wp2_with fail
                    go_roundw
                    case rel => exact ⟨k + 1, hkt, by go_num, f2, hn'.out, Y.out⟩
                    case measure => simp [intOf]; omega
                  · obtain rfl : k = 3 := by omega
                    have hf3 : f' = mv a3 f := by rw [hf']; exact xMv_three a3 f
                    subst hf3
                    clear hf'
                    have hbx := Lib.hid (hbw.out.trans (X.old.mono hbw.out.size))
                    have c1 := (X.at_ 1 rfl).at_ _ _ (maC_x f hk3)
                    have c2 := (X.at_ 1 rfl).at_ _ _ (maC_p f hk3)
                    have f1 := (X.at_ 1 rfl).fr _ _ (maC_x f hk3)
                    have f2 := (X.at_ 1 rfl).fr _ _ (maC_p f hk3)
                    have Y := (X.put 1 rfl (1 + kk) [.int .i64 (wng (f.x.get kk))] (by show 1 + kk + 1 ≤ 7; omega)).put 1 rfl (4 + kk) [.int .i64 (wng (f.p.get kk))] (by simp only [setV, List.length_set]; show 4 + kk + 1 ≤ 7; omega)
                    simp only [setV, putV, List.set_cons_zero, List.set_cons_succ] at Y
                    rw [maC_setx f hk3, maC_setp { f with x := f.x.put kk (wng (f.x.get kk)) } hk3] at Y
                    have eT : ({ m := f.m, x := f.x.put kk (wng (f.x.get kk)), p := f.p.put kk (wng (f.p.get kk)) } : Ma) = tnW kk f := rfl
                    dsimp only at Y
                    rw [eT] at Y
                    clear eT
                    have wx' : IntKind.i64.wrap (-(f.x.get kk)) = wng (f.x.get kk) := rfl
                    have wp' : IntKind.i64.wrap (-(f.p.get kk)) = wng (f.p.get kk) := rfl
                    replace Y := Lib.hid Y
                    replace X := Lib.hid X
                    generalize wng (f.x.get kk) = nx at *
                    generalize wng (f.p.get kk) = np at *
                    generalize f.x.get kk = xk at *
                    generalize f.p.get kk = pk at *
                    go_upto_region 31 with fail
                    go_big_region
                    replace Y := Y.out.draws
                    clear c1 c2 f1 f2 wx' wp'
                    generalize World.drew (World.setCell _ _ _) = wq at *
                    have hbq := Lib.hid (hbw.out.trans (Y.old.mono hbw.out.size))
                    obtain ⟨d0, d1, d2, d3, d4, d5, d6⟩ := (OwM.on OB.out hbq.out).cells lB.out
                    rw [eB.out] at d0 d1 d2 d3 d4 d5 d6
                    have dx0 := (Y.at_ 0 rfl).at_ 0 _ rfl
                    have dx1 := (Y.at_ 0 rfl).at_ 1 _ rfl
                    have dx2 := (Y.at_ 0 rfl).at_ 2 _ rfl
                    have dx3 := (Y.at_ 0 rfl).at_ 3 _ rfl
                    have dx4 := (Y.at_ 0 rfl).at_ 4 _ rfl
                    have dx5 := (Y.at_ 0 rfl).at_ 5 _ rfl
                    have dx6 := (Y.at_ 0 rfl).at_ 6 _ rfl
                    obtain ⟨z0, z1, z2, z3, z4, z5, z6⟩ := (OwM.on OC.out hbq.out).cells lC.out
                    rw [eC.out] at z0 z1 z2 z3 z4 z5 z6
                    have zx0 := (Y.at_ 1 rfl).at_ 0 _ rfl
                    have zx1 := (Y.at_ 1 rfl).at_ 1 _ rfl
                    have zx2 := (Y.at_ 1 rfl).at_ 2 _ rfl
                    have zx3 := (Y.at_ 1 rfl).at_ 3 _ rfl
                    have zx4 := (Y.at_ 1 rfl).at_ 4 _ rfl
                    have zx5 := (Y.at_ 1 rfl).at_ 5 _ rfl
                    have zx6 := (Y.at_ 1 rfl).at_ 6 _ rfl
                    clear Y X hbx hf0 lB eB okB lC eC hil
                    have ned := mneq_run (mv a3 f)
                    generalize mv a3 f = g1 at *
                    obtain ⟨g1m, ⟨g1a, g1b, g1c⟩, ⟨g1p, g1q, g1r⟩⟩ := g1
                    have nez := mneq_run (tnW kk f)
                    generalize tnW kk f = g2 at *
                    obtain ⟨g2m, ⟨g2a, g2b, g2c⟩, ⟨g2p, g2q, g2r⟩⟩ := g2
                    unfold maV at ned nez
                    dsimp only at *
                    go_wp2_with fail
                    go_quiet (fail)
                    replace hbq := Lib.hid (below_drewN hbq.out nq)
                    clear ned d0 dx0 d1 dx1 d2 dx2 d3 dx3 d4 dx4 d5 dx5 d6 dx6
                    clear nez z0 zx0 z1 zx1 z2 zx2 z3 zx3 z4 zx4 z5 zx5 z6 zx6
                    generalize World.drewN _ _ = wz at *
                    go_wp2_with fail
                    go_roundw
                    case rel => exact ⟨i + 1, hlt, by go_num, hbq.out⟩
                    case measure => simp [intOf]; omega
            · obtain rfl : n = i := by omega
              replace hbw := Lib.hid (K.out.trans (hbw.mono K.out.size))
              go_wp2_with fail
              go_ret
              exact ⟨by first | rfl | trivial, hbw.out⟩
set_option maxRecDepth 100000 in
theorem own : ownKnob Try.prog.godebug = none := by kernel_rfl
set_option maxRecDepth 100000 in
theorem laidOut : laidOutB Try.prog = true := by kernel_rfl
set_option maxRecDepth 100000 in
theorem bytesW : Try.prog.bytesOf 28 = 56 := by kernel_rfl
set_option maxRecDepth 100000 in
theorem lifted (os : Os) (started : os.Started) (H : Type) (enc : TypeId × Value → H) :
    ReturnsInHanded {} Try.checked os 3 .any (Rows.stepMovesSpec.pre6 enc Try.prog Try.f3 Rows.stepMovesRow.domain false) (Rows.stepMovesSpec.post enc Try.prog Try.f3 false true false false) := by
  refine returnsInHanded_of_change_sized (C := Try.checked) own started (by kernel_rfl) Try.func3
    (ChangeSpec.witness6 (enc := enc) (C := Try.checked) false ⟨#[], #[.slice none 0 0, .float .f64 0, .int .i64 0, .agg #[.int .i64 0, .int .i64 0, .int .i64 0], .int .u64 0], []⟩ 8 (by kernel_rfl) (by kernel_rfl) (by kernel_rfl) (by kernel_rfl)) ?_
  intro W base args ds gs before hval0 hW _ hsz0 _
  have hsz : (DataW.weightsEach Try.prog (Try.f3.params.toList ++ Rows.stepMovesSpec.plain.varTypes Try.prog) (ds ++ gs)).all (· ≤ reachBytes) = true := hsz0
  clear hsz0
  have hval : ∀ (j : Nat) t v, Try.f3.params[j]? = some t → args[j]? = some v → Value.okWide Try.prog W .any base t v := hval0
  have hW' := hW
  obtain ⟨p, q, hA0, hV, rfl, _, _⟩ := hW
  have hA : DataW.TrodAll enc Try.prog W 0 (fun _ => true) true Try.f3.params.toList args.toList ds p := hA0
  rw [Try.params3] at hA hval hsz
  obtain ⟨v0, vs0, d0, ds0, p0, q0, hargs, rfl, rfl, t0, r0⟩ := trodAll_cons hA
  obtain ⟨v1, vs1, d1, ds1, p1, q1, rfl, rfl, rfl, t1, r1⟩ := trodAll_cons r0
  obtain ⟨v2, vs2, d2, ds2, p2, q2, rfl, rfl, rfl, t2, r2⟩ := trodAll_cons r1
  obtain ⟨v3, vs3, d3, ds3, p3, q3, rfl, rfl, rfl, t3, r3⟩ := trodAll_cons r2
  obtain ⟨v4, vs4, d4, ds4, p4, q4, rfl, rfl, rfl, t4, r4⟩ := trodAll_cons r3
  obtain ⟨rfl, rfl, rfl⟩ := trodAll_nil r4
  obtain rfl : args = #[v0, v1, v2, v3, v4] := by cases args; simp_all
  obtain ⟨rfl, rfl⟩ := trodVars_none hV
  simp only [List.append_nil] at hW'
  have tk0 := t0
  obtain ⟨ao0, cap0, L0, rfl, hc0, hm0, ha0, hw0, hx0⟩ := open_masses (okWide_slice Try.underlying22 (hval 0 22 v0 rfl rfl)) t0
  have hr0 : cap0 * 56 ≤ 140737488351232 := by
    rcases hx0 with ⟨_, h0⟩ | ⟨_, es, sp, hd, h0⟩
    · rw [h0]; decide
    · subst hd
      have := sized_slice hsz (j := 0) (t := 22) (e := 28) rfl rfl Try.underlying22
      rw [bytesW, h0] at this
      simp only [reachBytes] at this
      omega
  have hn0 : ao0 = none → cap0 = 0 := by
    intro h
    rcases hx0 with ⟨_, h0⟩ | ⟨⟨a, h1⟩, _⟩
    · exact h0
    · rw [h] at h1; simp at h1
  have hlt0 : ∀ x ∈ p0, x.block < W.heap.size := fun x hx => by have := hW'.lt x (by simp [hx]); simpa using this
  obtain ⟨a1, rfl, rfl, rfl, w1⟩ := open_float Try.underlying23 (hval 1 23 v1 rfl rfl) t1
  obtain ⟨a2, rfl, rfl, rfl, w2⟩ := open_int Try.underlying3 (hval 2 3 v2 rfl rfl) t2
  have tk3 := t3
  obtain ⟨a3, rfl, wa3⟩ := open_i3 (hval 3 24 v3 rfl rfl) t3
  have hlt3 : ∀ x ∈ p3, x.block < W.heap.size := fun x hx => by have := hW'.lt x (by simp [hx]); simpa using this
  obtain ⟨a4, rfl, rfl, rfl, w4⟩ := open_int Try.underlying25 (hval 4 25 v4 rfl rfl) t4
  clear hA0 hval0
  refine (walk W ao0 cap0 L0 hc0 hm0 ha0 hw0 hr0 hn0 a1 (wf64 w1) a2 w2 a3 wa3 a4 w4).mono fun e W' ⟨he, hb⟩ => ?_
  subst he
  refine ⟨_, rfl, _, _, _, [], _, [], hW', trodAll_cons_mk (shut_bool Try.underlying4 _) trodAll_mk0, (trodAll_cons_mk (Below.trod laidOut (by kernel_rfl) (of_decide_eq_true (by kernel_rfl)) tk0 hb hlt0) (trodAll_cons_mk (shut_float Try.underlying23 w1) (trodAll_cons_mk (shut_int Try.underlying3 w2) (trodAll_cons_mk (Below.trod laidOut (by kernel_rfl) (of_decide_eq_true (by kernel_rfl)) tk3 hb hlt3) (trodAll_cons_mk (shut_int Try.underlying25 w4) trodAll_mk0))))), rfl, hb.frame _, fun h => by cases h⟩

set_option maxRecDepth 100000 in
theorem over : Rows.stepMovesRow.holds Try.pinned (OpenSpec.ofChange Rows.stepMovesSpec) :=
  OpenClaim.holds_of_wide 3 Try.f3 rfl rfl rfl rfl rfl rfl rfl ⟨rfl, rfl, rfl, rfl, rfl⟩ rfl rfl rfl rfl rfl (by kernel_rfl) Try.func3 (by kernel_rfl)
    (of_decide_eq_true (by kernel_rfl)) (by unfold Func.isWrapper; first | (rw [if_pos (by decide +kernel)]; kernel_rfl) | (rw [if_neg (by decide +kernel)]; exact ⟨rfl, rfl⟩))
    (fun os started H enc _ => lifted os started H enc)

theorem proved : Rows.StepMovesSaid :=
  over
end Go.Proofs.Ytacinenddnfcbaa.stepMoves
