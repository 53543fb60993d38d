/- Proved here: for all masses, numbers g, m and n the law StepOn returns true: steps behind steps are as many steps at once. No conditions. -/
import Derived.Test.YtgfedhlnaipngaaRows
import Derived.Test.YtgfedhlnaipngaaJz10
namespace Go.Proofs.Ytgfedhlnaipngaa.stepOn
open Go.ChangeShapes Go.WideShapes Go.ChangeAt Go.RowKit

set_option maxHeartbeats 16000000 in
set_option maxRecDepth 100000 in
theorem walk (w : World) (ao0 : Option Addr) (cap0 : Nat) (L0 : List Ma) (hc0 : L0.length ≤ cap0) (hm0 : cap0 ≤ maxLen) (ha0 : MAt w ao0 L0) (hw0 : MsW L0) (hr0 : cap0 * 56 ≤ 140737488351232) (hn0 : ao0 = none → cap0 = 0) (a1 : Nat) (h1 : a1 < 18446744073709551616) (a2 : Int) (_h2 : (Lit.int .i64 a2).wf = true) (a3 : Int) (_h3 : (Lit.int .i64 a3).wf = true) :
    Calls Try.prog 9 #[.slice ao0 L0.length cap0, .float .f64 a1, .int .i64 a2, .int .i64 a3] w fun e w' => e = .returned (.bool true) ∧ Below w.heap.size w w' := by
  have AW := Lib.hid awake14
  obtain ⟨n, hn⟩ : ∃ n, n = L0.length := ⟨_, rfl⟩
  rw [← hn] at hc0 ⊢
  have hrn : n * 56 ≤ 140737488351232 := by omega
  have hmn : n ≤ maxLen := by omega
  have hm2 : n ≤ 4611686018427387904 := by unfold maxLen at hmn; omega
  have hm3 : (n : Int) ≤ 4611686018427387904 := by omega
  have RU := Lib.hid (fun W ao cap (L : List Ma) (k : Int) (hL : n = L.length) (ha : MAt W ao L) => gRun_run ao cap n L a1 W (nn := k) hL hm2 ha h1)
  replace hn := Lib.hid hn
  replace ha0 := Lib.hid ha0
  replace hw0 := Lib.hid hw0
  replace hmn := Lib.hid hmn
  replace hc0 := Lib.hid hc0
  replace hm0 := Lib.hid hm0
  replace hn0 := Lib.hid hn0
  replace hr0 := Lib.hid hr0
  replace h1 := Lib.hid h1
  have FW2 := few_run a2 (rng_of _h2)
  have FW3 := few_run a3 (rng_of _h3)
  have r2 := few_rng a2
  have r3 := few_rng a3
  generalize fewI a2 = M at *
  generalize fewI a3 = N0 at *
  obtain ⟨N, hN⟩ : ∃ N, N = if (M < 0 ∧ 0 < N0) ∨ (0 < M ∧ N0 < 0) then -N0 else N0 := ⟨_, rfl⟩
  have wn : IntKind.i64.wrap (-N0) = -N0 := IntWalk.i64_in _ (by omega)
  have sg : (0 ≤ M ∧ 0 ≤ N) ∨ (M ≤ 0 ∧ N ≤ 0) := by rw [hN]; split <;> omega
  have bN : -64 ≤ N ∧ N ≤ 64 := by rw [hN]; split <;> omega
  have wa : IntKind.i64.wrap (M + N) = M + N := IntWalk.i64_in _ (by omega)
  have on := Lib.hid (fun r (h : (RunR L0 a1 M).2 = some r) => RunR_on h (by omega) (by omega) sg)
  have bl : -64 ≤ N := bN.1
  have bh : N ≤ 64 := bN.2
  clear sg bN r2 r3
  replace FW2 := Lib.hid FW2
  replace FW3 := Lib.hid FW3
  by_cases p1 : M < 0
  · by_cases p2 : 0 < N0
    · rw [if_pos (Or.inl ⟨p1, p2⟩)] at hN
      obtain rfl : N0 = -N := by omega
      have wn2 : IntKind.i64.wrap (-(-N)) = N := by rw [wn, Int.neg_neg]
      have wn3 : IntKind.i64.wrap N = N := IntWalk.i64_in _ (by omega)
      clear hN wn
      have q9769 : decide (M < 0) = true := decide_eq_true (by omega)
      have q6184 : decide (0 < (-N)) = true := decide_eq_true (by omega)
      have q126 : decide (N < 0) = true := decide_eq_true (by omega)
      go_enter Try.func9, Try.ntmps9
      go_wp2_with fail
      refine (AW.out w).mono ?_
      rintro _ v1 ⟨rfl, hb⟩
      have K := Lib.hid hb
      clear hb AW
      go_upto_region 4 with (first | (go_at_call 13; ((with_reducible refine (FW2.out _).mono ?_); rintro e w' ⟨rfl, rfl⟩)) | (go_at_call 13; ((with_reducible refine (FW3.out _).mono ?_); rintro e w' ⟨rfl, rfl⟩)))
      clear FW2 FW3
      cases hR : (RunR L0 a1 M).2 with
      | none =>
        have nz := RunR_none_nz hR
        replace hR := Lib.hid hR
        have tz : ((RunR L0 a1 M).1 != 0) = true := by simpa using nz
        clear nz on
        have A1 := Lib.hid (ha0.out.below (fun b o e h => ha0.out.lt b o e h) K.out)
        go_wp2_with (first | (at_builtin; refine wpList_copyR recM rfl _ _ rfl rfl ao0 n cap0 (L0.map maC) rfl (by rw [List.length_map]; exact hn.out) hn0.out A1.out (rows_ma L0) hmn.out hrn ?_))
        intro a1c c1c v2 C
        have K := Lib.hid (K.out.trans (C.old.mono K.out.size))
        have A2 := Lib.hid (show MAt v2 a1c L0 from C.at_)
        clear C A1
        go_wp2_with fail
        refine (RU.out v2 a1c c1c L0 M hn.out A2.out).mono ?_
        rintro _ v3 ⟨hb, he, -⟩
        obtain rfl := he hR.out
        replace K := Lib.hid (K.out.trans (hb.mono K.out.size))
        clear A2 hb he
        generalize (RunR L0 a1 M).1 = er at *
        go_wp2_with fail
        go_ret
        exact ⟨by first | rfl | trivial, K.out⟩
      | some r =>
        have hO := on.out r hR
        have kp := RunR_kept hR
        have hl : n = r.length := by rw [kp.2.2.1]; exact hn.out
        replace hR := Lib.hid hR
        replace hl := Lib.hid hl
        replace hO := Lib.hid hO
        clear kp on
        have A1 := Lib.hid (ha0.out.below (fun b o e h => ha0.out.lt b o e h) K.out)
        go_wp2_with (first | (at_builtin; refine wpList_copyR recM rfl _ _ rfl rfl ao0 n cap0 (L0.map maC) rfl (by rw [List.length_map]; exact hn.out) hn0.out A1.out (rows_ma L0) hmn.out hrn ?_))
        intro a1c c1c v2 C
        have K := Lib.hid (K.out.trans (C.old.mono K.out.size))
        have A2 := Lib.hid (show MAt v2 a1c L0 from C.at_)
        clear C A1
        go_wp2_with fail
        refine (RU.out v2 a1c c1c L0 M hn.out A2.out).mono ?_
        rintro _ v3 ⟨hb, -, hs⟩
        obtain ⟨b, rfl, -, O⟩ := hs r hR.out
        rw [← hl.out]
        have A3 := Lib.hid O.at_
        replace K := Lib.hid (K.out.trans (hb.mono K.out.size))
        clear A2 hb hs O
        clear hR
        go_wp2_with fail
        cases hS : (RunR L0 a1 (M + N)).2 with
        | none =>
          have hS2 : (RunR r a1 N).2 = none := by rw [hO.out]; exact hS
          have eO := congrArg Prod.fst hO.out
          refine (RU.out v3 _ n r N hl.out A3.out).mono ?_
          rintro _ v4 ⟨hb, he, -⟩
          obtain rfl := he hS2
          replace K := Lib.hid (K.out.trans (hb.mono K.out.size))
          clear A3 hb he
          rw [eO]
          clear eO hS2 hO hl
          replace hS := Lib.hid hS
          have A1 := Lib.hid (ha0.out.below (fun b o e h => ha0.out.lt b o e h) K.out)
          go_wp2_with (first | (at_builtin; refine wpList_copyR recM rfl _ _ rfl rfl ao0 n cap0 (L0.map maC) rfl (by rw [List.length_map]; exact hn.out) hn0.out A1.out (rows_ma L0) hmn.out hrn ?_))
          intro a2c c2c v5 C
          have K := Lib.hid (K.out.trans (C.old.mono K.out.size))
          have A2 := Lib.hid (show MAt v5 a2c L0 from C.at_)
          clear C A1
          go_wp2_with fail
          refine (RU.out v5 a2c c2c L0 (M + N) hn.out A2.out).mono ?_
          rintro _ v6 ⟨hb, he, -⟩
          obtain rfl := he hS.out
          replace K := Lib.hid (K.out.trans (hb.mono K.out.size))
          clear A2 hb he
          clear RU hS
          have t5 : ((RunR L0 a1 (M + N)).1 == (RunR L0 a1 (M + N)).1) = true := by simp
          generalize (RunR L0 a1 (M + N)).1 = er at *
          have nilA : Hid (∀ W, MAt W none []) := Lib.hid fun W j r h => by simp at h
          go_wp2_with fail
          refine (gsame_run none none 0 0 0 [] v6 rfl (by omega) (nilA.out _) (nilA.out _)).mono ?_
          rintro _ v7 ⟨rfl, hb⟩
          replace K := Lib.hid (K.out.trans (hb.mono K.out.size))
          clear hb
          go_wp2_with fail
          go_ret
          exact ⟨by first | rfl | trivial, K.out⟩
        | some s =>
          have hS2 : (RunR r a1 N).2 = some s := by rw [hO.out]; exact hS
          have kp := RunR_kept hS
          have hq : n = s.length := by rw [kp.2.2.1]; exact hn.out
          replace hq := Lib.hid hq
          clear kp
          refine (RU.out v3 _ n r N hl.out A3.out).mono ?_
          rintro _ v4 ⟨hb, -, hs⟩
          obtain ⟨b4, rfl, -, O⟩ := hs s hS2
          rw [← hq.out]
          have A4 := Lib.hid O.at_
          replace K := Lib.hid (K.out.trans (hb.mono K.out.size))
          clear A3 hb hs O
          clear hS2 hO
          replace hS := Lib.hid hS
          have A1 := Lib.hid (ha0.out.below (fun b o e h => ha0.out.lt b o e h) K.out)
          go_wp2_with (first | (at_builtin; refine wpList_copyR recM rfl _ _ rfl rfl ao0 n cap0 (L0.map maC) rfl (by rw [List.length_map]; exact hn.out) hn0.out A1.out (rows_ma L0) hmn.out hrn ?_))
          intro a2c c2c v5 C
          have K := Lib.hid (K.out.trans (C.old.mono K.out.size))
          have A2 := Lib.hid (show MAt v5 a2c L0 from C.at_)
          replace A4 := Lib.hid (RAt.on A4.out C.old)
          clear C A1
          go_wp2_with fail
          refine (RU.out v5 a2c c2c L0 (M + N) hn.out A2.out).mono ?_
          rintro _ v6 ⟨hb, -, hs⟩
          replace A4 := Lib.hid (RAt.on A4.out hb)
          obtain ⟨b6, rfl, -, O⟩ := hs s hS.out
          rw [← hq.out]
          have A6 := Lib.hid O.at_
          replace K := Lib.hid (K.out.trans (hb.mono K.out.size))
          clear A2 hb hs O
          clear RU hS
          go_wp2_with fail
          refine (gsame_run _ _ n n n s v6 hq.out hm2 A4.out A6.out).mono ?_
          rintro _ v7 ⟨rfl, hb⟩
          replace K := Lib.hid (K.out.trans (hb.mono K.out.size))
          clear hb
          go_wp2_with fail
          go_ret
          exact ⟨by first | rfl | trivial, K.out⟩
    · rw [if_neg (by omega)] at hN
      subst N0
      clear wn
      have q9769 : decide (M < 0) = true := decide_eq_true (by omega)
      have q6184 : decide (0 < N) = false := decide_eq_false (by omega)
      have q9825 : decide (0 < M) = false := decide_eq_false (by omega)
      go_enter Try.func9, Try.ntmps9
      go_wp2_with fail
      refine (AW.out w).mono ?_
      rintro _ v1 ⟨rfl, hb⟩
      have K := Lib.hid hb
      clear hb AW
      go_upto_region 4 with (first | (go_at_call 13; ((with_reducible refine (FW2.out _).mono ?_); rintro e w' ⟨rfl, rfl⟩)) | (go_at_call 13; ((with_reducible refine (FW3.out _).mono ?_); rintro e w' ⟨rfl, rfl⟩)))
      clear FW2 FW3
      cases hR : (RunR L0 a1 M).2 with
      | none =>
        have nz := RunR_none_nz hR
        replace hR := Lib.hid hR
        have tz : ((RunR L0 a1 M).1 != 0) = true := by simpa using nz
        clear nz on
        have A1 := Lib.hid (ha0.out.below (fun b o e h => ha0.out.lt b o e h) K.out)
        go_wp2_with (first | (at_builtin; refine wpList_copyR recM rfl _ _ rfl rfl ao0 n cap0 (L0.map maC) rfl (by rw [List.length_map]; exact hn.out) hn0.out A1.out (rows_ma L0) hmn.out hrn ?_))
        intro a1c c1c v2 C
        have K := Lib.hid (K.out.trans (C.old.mono K.out.size))
        have A2 := Lib.hid (show MAt v2 a1c L0 from C.at_)
        clear C A1
        go_wp2_with fail
        refine (RU.out v2 a1c c1c L0 M hn.out A2.out).mono ?_
        rintro _ v3 ⟨hb, he, -⟩
        obtain rfl := he hR.out
        replace K := Lib.hid (K.out.trans (hb.mono K.out.size))
        clear A2 hb he
        generalize (RunR L0 a1 M).1 = er at *
        go_wp2_with fail
        go_ret
        exact ⟨by first | rfl | trivial, K.out⟩
      | some r =>
        have hO := on.out r hR
        have kp := RunR_kept hR
        have hl : n = r.length := by rw [kp.2.2.1]; exact hn.out
        replace hR := Lib.hid hR
        replace hl := Lib.hid hl
        replace hO := Lib.hid hO
        clear kp on
        have A1 := Lib.hid (ha0.out.below (fun b o e h => ha0.out.lt b o e h) K.out)
        go_wp2_with (first | (at_builtin; refine wpList_copyR recM rfl _ _ rfl rfl ao0 n cap0 (L0.map maC) rfl (by rw [List.length_map]; exact hn.out) hn0.out A1.out (rows_ma L0) hmn.out hrn ?_))
        intro a1c c1c v2 C
        have K := Lib.hid (K.out.trans (C.old.mono K.out.size))
        have A2 := Lib.hid (show MAt v2 a1c L0 from C.at_)
        clear C A1
        go_wp2_with fail
        refine (RU.out v2 a1c c1c L0 M hn.out A2.out).mono ?_
        rintro _ v3 ⟨hb, -, hs⟩
        obtain ⟨b, rfl, -, O⟩ := hs r hR.out
        rw [← hl.out]
        have A3 := Lib.hid O.at_
        replace K := Lib.hid (K.out.trans (hb.mono K.out.size))
        clear A2 hb hs O
        clear hR
        go_wp2_with fail
        cases hS : (RunR L0 a1 (M + N)).2 with
        | none =>
          have hS2 : (RunR r a1 N).2 = none := by rw [hO.out]; exact hS
          have eO := congrArg Prod.fst hO.out
          refine (RU.out v3 _ n r N hl.out A3.out).mono ?_
          rintro _ v4 ⟨hb, he, -⟩
          obtain rfl := he hS2
          replace K := Lib.hid (K.out.trans (hb.mono K.out.size))
          clear A3 hb he
          rw [eO]
          clear eO hS2 hO hl
          replace hS := Lib.hid hS
          have A1 := Lib.hid (ha0.out.below (fun b o e h => ha0.out.lt b o e h) K.out)
          go_wp2_with (first | (at_builtin; refine wpList_copyR recM rfl _ _ rfl rfl ao0 n cap0 (L0.map maC) rfl (by rw [List.length_map]; exact hn.out) hn0.out A1.out (rows_ma L0) hmn.out hrn ?_))
          intro a2c c2c v5 C
          have K := Lib.hid (K.out.trans (C.old.mono K.out.size))
          have A2 := Lib.hid (show MAt v5 a2c L0 from C.at_)
          clear C A1
          go_wp2_with fail
          refine (RU.out v5 a2c c2c L0 (M + N) hn.out A2.out).mono ?_
          rintro _ v6 ⟨hb, he, -⟩
          obtain rfl := he hS.out
          replace K := Lib.hid (K.out.trans (hb.mono K.out.size))
          clear A2 hb he
          clear RU hS
          have t5 : ((RunR L0 a1 (M + N)).1 == (RunR L0 a1 (M + N)).1) = true := by simp
          generalize (RunR L0 a1 (M + N)).1 = er at *
          have nilA : Hid (∀ W, MAt W none []) := Lib.hid fun W j r h => by simp at h
          go_wp2_with fail
          refine (gsame_run none none 0 0 0 [] v6 rfl (by omega) (nilA.out _) (nilA.out _)).mono ?_
          rintro _ v7 ⟨rfl, hb⟩
          replace K := Lib.hid (K.out.trans (hb.mono K.out.size))
          clear hb
          go_wp2_with fail
          go_ret
          exact ⟨by first | rfl | trivial, K.out⟩
        | some s =>
          have hS2 : (RunR r a1 N).2 = some s := by rw [hO.out]; exact hS
          have kp := RunR_kept hS
          have hq : n = s.length := by rw [kp.2.2.1]; exact hn.out
          replace hq := Lib.hid hq
          clear kp
          refine (RU.out v3 _ n r N hl.out A3.out).mono ?_
          rintro _ v4 ⟨hb, -, hs⟩
          obtain ⟨b4, rfl, -, O⟩ := hs s hS2
          rw [← hq.out]
          have A4 := Lib.hid O.at_
          replace K := Lib.hid (K.out.trans (hb.mono K.out.size))
          clear A3 hb hs O
          clear hS2 hO
          replace hS := Lib.hid hS
          have A1 := Lib.hid (ha0.out.below (fun b o e h => ha0.out.lt b o e h) K.out)
          go_wp2_with (first | (at_builtin; refine wpList_copyR recM rfl _ _ rfl rfl ao0 n cap0 (L0.map maC) rfl (by rw [List.length_map]; exact hn.out) hn0.out A1.out (rows_ma L0) hmn.out hrn ?_))
          intro a2c c2c v5 C
          have K := Lib.hid (K.out.trans (C.old.mono K.out.size))
          have A2 := Lib.hid (show MAt v5 a2c L0 from C.at_)
          replace A4 := Lib.hid (RAt.on A4.out C.old)
          clear C A1
          go_wp2_with fail
          refine (RU.out v5 a2c c2c L0 (M + N) hn.out A2.out).mono ?_
          rintro _ v6 ⟨hb, -, hs⟩
          replace A4 := Lib.hid (RAt.on A4.out hb)
          obtain ⟨b6, rfl, -, O⟩ := hs s hS.out
          rw [← hq.out]
          have A6 := Lib.hid O.at_
          replace K := Lib.hid (K.out.trans (hb.mono K.out.size))
          clear A2 hb hs O
          clear RU hS
          go_wp2_with fail
          refine (gsame_run _ _ n n n s v6 hq.out hm2 A4.out A6.out).mono ?_
          rintro _ v7 ⟨rfl, hb⟩
          replace K := Lib.hid (K.out.trans (hb.mono K.out.size))
          clear hb
          go_wp2_with fail
          go_ret
          exact ⟨by first | rfl | trivial, K.out⟩
  · by_cases p3 : 0 < M
    · by_cases p4 : N0 < 0
      · rw [if_pos (Or.inr ⟨p3, p4⟩)] at hN
        obtain rfl : N0 = -N := by omega
        have wn2 : IntKind.i64.wrap (-(-N)) = N := by rw [wn, Int.neg_neg]
        have wn3 : IntKind.i64.wrap N = N := IntWalk.i64_in _ (by omega)
        clear hN wn
        have q9769 : decide (M < 0) = false := decide_eq_false (by omega)
        have q9825 : decide (0 < M) = true := decide_eq_true (by omega)
        have q6897 : decide ((-N) < 0) = true := decide_eq_true (by omega)
        have q9106 : decide (0 < N) = true := decide_eq_true (by omega)
        go_enter Try.func9, Try.ntmps9
        go_wp2_with fail
        refine (AW.out w).mono ?_
        rintro _ v1 ⟨rfl, hb⟩
        have K := Lib.hid hb
        clear hb AW
        go_upto_region 4 with (first | (go_at_call 13; ((with_reducible refine (FW2.out _).mono ?_); rintro e w' ⟨rfl, rfl⟩)) | (go_at_call 13; ((with_reducible refine (FW3.out _).mono ?_); rintro e w' ⟨rfl, rfl⟩)))
        clear FW2 FW3
        cases hR : (RunR L0 a1 M).2 with
        | none =>
          have nz := RunR_none_nz hR
          replace hR := Lib.hid hR
          have tz : ((RunR L0 a1 M).1 != 0) = true := by simpa using nz
          clear nz on
          have A1 := Lib.hid (ha0.out.below (fun b o e h => ha0.out.lt b o e h) K.out)
          go_wp2_with (first | (at_builtin; refine wpList_copyR recM rfl _ _ rfl rfl ao0 n cap0 (L0.map maC) rfl (by rw [List.length_map]; exact hn.out) hn0.out A1.out (rows_ma L0) hmn.out hrn ?_))
          intro a1c c1c v2 C
          have K := Lib.hid (K.out.trans (C.old.mono K.out.size))
          have A2 := Lib.hid (show MAt v2 a1c L0 from C.at_)
          clear C A1
          go_wp2_with fail
          refine (RU.out v2 a1c c1c L0 M hn.out A2.out).mono ?_
          rintro _ v3 ⟨hb, he, -⟩
          obtain rfl := he hR.out
          replace K := Lib.hid (K.out.trans (hb.mono K.out.size))
          clear A2 hb he
          generalize (RunR L0 a1 M).1 = er at *
          go_wp2_with fail
          go_ret
          exact ⟨by first | rfl | trivial, K.out⟩
        | some r =>
          have hO := on.out r hR
          have kp := RunR_kept hR
          have hl : n = r.length := by rw [kp.2.2.1]; exact hn.out
          replace hR := Lib.hid hR
          replace hl := Lib.hid hl
          replace hO := Lib.hid hO
          clear kp on
          have A1 := Lib.hid (ha0.out.below (fun b o e h => ha0.out.lt b o e h) K.out)
          go_wp2_with (first | (at_builtin; refine wpList_copyR recM rfl _ _ rfl rfl ao0 n cap0 (L0.map maC) rfl (by rw [List.length_map]; exact hn.out) hn0.out A1.out (rows_ma L0) hmn.out hrn ?_))
          intro a1c c1c v2 C
          have K := Lib.hid (K.out.trans (C.old.mono K.out.size))
          have A2 := Lib.hid (show MAt v2 a1c L0 from C.at_)
          clear C A1
          go_wp2_with fail
          refine (RU.out v2 a1c c1c L0 M hn.out A2.out).mono ?_
          rintro _ v3 ⟨hb, -, hs⟩
          obtain ⟨b, rfl, -, O⟩ := hs r hR.out
          rw [← hl.out]
          have A3 := Lib.hid O.at_
          replace K := Lib.hid (K.out.trans (hb.mono K.out.size))
          clear A2 hb hs O
          clear hR
          go_wp2_with fail
          cases hS : (RunR L0 a1 (M + N)).2 with
          | none =>
            have hS2 : (RunR r a1 N).2 = none := by rw [hO.out]; exact hS
            have eO := congrArg Prod.fst hO.out
            refine (RU.out v3 _ n r N hl.out A3.out).mono ?_
            rintro _ v4 ⟨hb, he, -⟩
            obtain rfl := he hS2
            replace K := Lib.hid (K.out.trans (hb.mono K.out.size))
            clear A3 hb he
            rw [eO]
            clear eO hS2 hO hl
            replace hS := Lib.hid hS
            have A1 := Lib.hid (ha0.out.below (fun b o e h => ha0.out.lt b o e h) K.out)
            go_wp2_with (first | (at_builtin; refine wpList_copyR recM rfl _ _ rfl rfl ao0 n cap0 (L0.map maC) rfl (by rw [List.length_map]; exact hn.out) hn0.out A1.out (rows_ma L0) hmn.out hrn ?_))
            intro a2c c2c v5 C
            have K := Lib.hid (K.out.trans (C.old.mono K.out.size))
            have A2 := Lib.hid (show MAt v5 a2c L0 from C.at_)
            clear C A1
            go_wp2_with fail
            refine (RU.out v5 a2c c2c L0 (M + N) hn.out A2.out).mono ?_
            rintro _ v6 ⟨hb, he, -⟩
            obtain rfl := he hS.out
            replace K := Lib.hid (K.out.trans (hb.mono K.out.size))
            clear A2 hb he
            clear RU hS
            have t5 : ((RunR L0 a1 (M + N)).1 == (RunR L0 a1 (M + N)).1) = true := by simp
            generalize (RunR L0 a1 (M + N)).1 = er at *
            have nilA : Hid (∀ W, MAt W none []) := Lib.hid fun W j r h => by simp at h
            go_wp2_with fail
            refine (gsame_run none none 0 0 0 [] v6 rfl (by omega) (nilA.out _) (nilA.out _)).mono ?_
            rintro _ v7 ⟨rfl, hb⟩
            replace K := Lib.hid (K.out.trans (hb.mono K.out.size))
            clear hb
            go_wp2_with fail
            go_ret
            exact ⟨by first | rfl | trivial, K.out⟩
          | some s =>
            have hS2 : (RunR r a1 N).2 = some s := by rw [hO.out]; exact hS
            have kp := RunR_kept hS
            have hq : n = s.length := by rw [kp.2.2.1]; exact hn.out
            replace hq := Lib.hid hq
            clear kp
            refine (RU.out v3 _ n r N hl.out A3.out).mono ?_
            rintro _ v4 ⟨hb, -, hs⟩
            obtain ⟨b4, rfl, -, O⟩ := hs s hS2
            rw [← hq.out]
            have A4 := Lib.hid O.at_
            replace K := Lib.hid (K.out.trans (hb.mono K.out.size))
            clear A3 hb hs O
            clear hS2 hO
            replace hS := Lib.hid hS
            have A1 := Lib.hid (ha0.out.below (fun b o e h => ha0.out.lt b o e h) K.out)
            go_wp2_with (first | (at_builtin; refine wpList_copyR recM rfl _ _ rfl rfl ao0 n cap0 (L0.map maC) rfl (by rw [List.length_map]; exact hn.out) hn0.out A1.out (rows_ma L0) hmn.out hrn ?_))
            intro a2c c2c v5 C
            have K := Lib.hid (K.out.trans (C.old.mono K.out.size))
            have A2 := Lib.hid (show MAt v5 a2c L0 from C.at_)
            replace A4 := Lib.hid (RAt.on A4.out C.old)
            clear C A1
            go_wp2_with fail
            refine (RU.out v5 a2c c2c L0 (M + N) hn.out A2.out).mono ?_
            rintro _ v6 ⟨hb, -, hs⟩
            replace A4 := Lib.hid (RAt.on A4.out hb)
            obtain ⟨b6, rfl, -, O⟩ := hs s hS.out
            rw [← hq.out]
            have A6 := Lib.hid O.at_
            replace K := Lib.hid (K.out.trans (hb.mono K.out.size))
            clear A2 hb hs O
            clear RU hS
            go_wp2_with fail
            refine (gsame_run _ _ n n n s v6 hq.out hm2 A4.out A6.out).mono ?_
            rintro _ v7 ⟨rfl, hb⟩
            replace K := Lib.hid (K.out.trans (hb.mono K.out.size))
            clear hb
            go_wp2_with fail
            go_ret
            exact ⟨by first | rfl | trivial, K.out⟩
      · rw [if_neg (by omega)] at hN
        subst N0
        clear wn
        have q9769 : decide (M < 0) = false := decide_eq_false (by omega)
        have q9825 : decide (0 < M) = true := decide_eq_true (by omega)
        have q6897 : decide (N < 0) = false := decide_eq_false (by omega)
        go_enter Try.func9, Try.ntmps9
        go_wp2_with fail
        refine (AW.out w).mono ?_
        rintro _ v1 ⟨rfl, hb⟩
        have K := Lib.hid hb
        clear hb AW
        go_upto_region 4 with (first | (go_at_call 13; ((with_reducible refine (FW2.out _).mono ?_); rintro e w' ⟨rfl, rfl⟩)) | (go_at_call 13; ((with_reducible refine (FW3.out _).mono ?_); rintro e w' ⟨rfl, rfl⟩)))
        clear FW2 FW3
        cases hR : (RunR L0 a1 M).2 with
        | none =>
          have nz := RunR_none_nz hR
          replace hR := Lib.hid hR
          have tz : ((RunR L0 a1 M).1 != 0) = true := by simpa using nz
          clear nz on
          have A1 := Lib.hid (ha0.out.below (fun b o e h => ha0.out.lt b o e h) K.out)
          go_wp2_with (first | (at_builtin; refine wpList_copyR recM rfl _ _ rfl rfl ao0 n cap0 (L0.map maC) rfl (by rw [List.length_map]; exact hn.out) hn0.out A1.out (rows_ma L0) hmn.out hrn ?_))
          intro a1c c1c v2 C
          have K := Lib.hid (K.out.trans (C.old.mono K.out.size))
          have A2 := Lib.hid (show MAt v2 a1c L0 from C.at_)
          clear C A1
          go_wp2_with fail
          refine (RU.out v2 a1c c1c L0 M hn.out A2.out).mono ?_
          rintro _ v3 ⟨hb, he, -⟩
          obtain rfl := he hR.out
          replace K := Lib.hid (K.out.trans (hb.mono K.out.size))
          clear A2 hb he
          generalize (RunR L0 a1 M).1 = er at *
          go_wp2_with fail
          go_ret
          exact ⟨by first | rfl | trivial, K.out⟩
        | some r =>
          have hO := on.out r hR
          have kp := RunR_kept hR
          have hl : n = r.length := by rw [kp.2.2.1]; exact hn.out
          replace hR := Lib.hid hR
          replace hl := Lib.hid hl
          replace hO := Lib.hid hO
          clear kp on
          have A1 := Lib.hid (ha0.out.below (fun b o e h => ha0.out.lt b o e h) K.out)
          go_wp2_with (first | (at_builtin; refine wpList_copyR recM rfl _ _ rfl rfl ao0 n cap0 (L0.map maC) rfl (by rw [List.length_map]; exact hn.out) hn0.out A1.out (rows_ma L0) hmn.out hrn ?_))
          intro a1c c1c v2 C
          have K := Lib.hid (K.out.trans (C.old.mono K.out.size))
          have A2 := Lib.hid (show MAt v2 a1c L0 from C.at_)
          clear C A1
          go_wp2_with fail
          refine (RU.out v2 a1c c1c L0 M hn.out A2.out).mono ?_
          rintro _ v3 ⟨hb, -, hs⟩
          obtain ⟨b, rfl, -, O⟩ := hs r hR.out
          rw [← hl.out]
          have A3 := Lib.hid O.at_
          replace K := Lib.hid (K.out.trans (hb.mono K.out.size))
          clear A2 hb hs O
          clear hR
          go_wp2_with fail
          cases hS : (RunR L0 a1 (M + N)).2 with
          | none =>
            have hS2 : (RunR r a1 N).2 = none := by rw [hO.out]; exact hS
            have eO := congrArg Prod.fst hO.out
            refine (RU.out v3 _ n r N hl.out A3.out).mono ?_
            rintro _ v4 ⟨hb, he, -⟩
            obtain rfl := he hS2
            replace K := Lib.hid (K.out.trans (hb.mono K.out.size))
            clear A3 hb he
            rw [eO]
            clear eO hS2 hO hl
            replace hS := Lib.hid hS
            have A1 := Lib.hid (ha0.out.below (fun b o e h => ha0.out.lt b o e h) K.out)
            go_wp2_with (first | (at_builtin; refine wpList_copyR recM rfl _ _ rfl rfl ao0 n cap0 (L0.map maC) rfl (by rw [List.length_map]; exact hn.out) hn0.out A1.out (rows_ma L0) hmn.out hrn ?_))
            intro a2c c2c v5 C
            have K := Lib.hid (K.out.trans (C.old.mono K.out.size))
            have A2 := Lib.hid (show MAt v5 a2c L0 from C.at_)
            clear C A1
            go_wp2_with fail
            refine (RU.out v5 a2c c2c L0 (M + N) hn.out A2.out).mono ?_
            rintro _ v6 ⟨hb, he, -⟩
            obtain rfl := he hS.out
            replace K := Lib.hid (K.out.trans (hb.mono K.out.size))
            clear A2 hb he
            clear RU hS
            have t5 : ((RunR L0 a1 (M + N)).1 == (RunR L0 a1 (M + N)).1) = true := by simp
            generalize (RunR L0 a1 (M + N)).1 = er at *
            have nilA : Hid (∀ W, MAt W none []) := Lib.hid fun W j r h => by simp at h
            go_wp2_with fail
            refine (gsame_run none none 0 0 0 [] v6 rfl (by omega) (nilA.out _) (nilA.out _)).mono ?_
            rintro _ v7 ⟨rfl, hb⟩
            replace K := Lib.hid (K.out.trans (hb.mono K.out.size))
            clear hb
            go_wp2_with fail
            go_ret
            exact ⟨by first | rfl | trivial, K.out⟩
          | some s =>
            have hS2 : (RunR r a1 N).2 = some s := by rw [hO.out]; exact hS
            have kp := RunR_kept hS
            have hq : n = s.length := by rw [kp.2.2.1]; exact hn.out
            replace hq := Lib.hid hq
            clear kp
            refine (RU.out v3 _ n r N hl.out A3.out).mono ?_
            rintro _ v4 ⟨hb, -, hs⟩
            obtain ⟨b4, rfl, -, O⟩ := hs s hS2
            rw [← hq.out]
            have A4 := Lib.hid O.at_
            replace K := Lib.hid (K.out.trans (hb.mono K.out.size))
            clear A3 hb hs O
            clear hS2 hO
            replace hS := Lib.hid hS
            have A1 := Lib.hid (ha0.out.below (fun b o e h => ha0.out.lt b o e h) K.out)
            go_wp2_with (first | (at_builtin; refine wpList_copyR recM rfl _ _ rfl rfl ao0 n cap0 (L0.map maC) rfl (by rw [List.length_map]; exact hn.out) hn0.out A1.out (rows_ma L0) hmn.out hrn ?_))
            intro a2c c2c v5 C
            have K := Lib.hid (K.out.trans (C.old.mono K.out.size))
            have A2 := Lib.hid (show MAt v5 a2c L0 from C.at_)
            replace A4 := Lib.hid (RAt.on A4.out C.old)
            clear C A1
            go_wp2_with fail
            refine (RU.out v5 a2c c2c L0 (M + N) hn.out A2.out).mono ?_
            rintro _ v6 ⟨hb, -, hs⟩
            replace A4 := Lib.hid (RAt.on A4.out hb)
            obtain ⟨b6, rfl, -, O⟩ := hs s hS.out
            rw [← hq.out]
            have A6 := Lib.hid O.at_
            replace K := Lib.hid (K.out.trans (hb.mono K.out.size))
            clear A2 hb hs O
            clear RU hS
            go_wp2_with fail
            refine (gsame_run _ _ n n n s v6 hq.out hm2 A4.out A6.out).mono ?_
            rintro _ v7 ⟨rfl, hb⟩
            replace K := Lib.hid (K.out.trans (hb.mono K.out.size))
            clear hb
            go_wp2_with fail
            go_ret
            exact ⟨by first | rfl | trivial, K.out⟩
    · rw [if_neg (by omega)] at hN
      subst N0
      clear wn
      have q9769 : decide (M < 0) = false := decide_eq_false (by omega)
      have q9825 : decide (0 < M) = false := decide_eq_false (by omega)
      go_enter Try.func9, Try.ntmps9
      go_wp2_with fail
      refine (AW.out w).mono ?_
      rintro _ v1 ⟨rfl, hb⟩
      have K := Lib.hid hb
      clear hb AW
      go_upto_region 4 with (first | (go_at_call 13; ((with_reducible refine (FW2.out _).mono ?_); rintro e w' ⟨rfl, rfl⟩)) | (go_at_call 13; ((with_reducible refine (FW3.out _).mono ?_); rintro e w' ⟨rfl, rfl⟩)))
      clear FW2 FW3
      cases hR : (RunR L0 a1 M).2 with
      | none =>
        have nz := RunR_none_nz hR
        replace hR := Lib.hid hR
        have tz : ((RunR L0 a1 M).1 != 0) = true := by simpa using nz
        clear nz on
        have A1 := Lib.hid (ha0.out.below (fun b o e h => ha0.out.lt b o e h) K.out)
        go_wp2_with (first | (at_builtin; refine wpList_copyR recM rfl _ _ rfl rfl ao0 n cap0 (L0.map maC) rfl (by rw [List.length_map]; exact hn.out) hn0.out A1.out (rows_ma L0) hmn.out hrn ?_))
        intro a1c c1c v2 C
        have K := Lib.hid (K.out.trans (C.old.mono K.out.size))
        have A2 := Lib.hid (show MAt v2 a1c L0 from C.at_)
        clear C A1
        go_wp2_with fail
        refine (RU.out v2 a1c c1c L0 M hn.out A2.out).mono ?_
        rintro _ v3 ⟨hb, he, -⟩
        obtain rfl := he hR.out
        replace K := Lib.hid (K.out.trans (hb.mono K.out.size))
        clear A2 hb he
        generalize (RunR L0 a1 M).1 = er at *
        go_wp2_with fail
        go_ret
        exact ⟨by first | rfl | trivial, K.out⟩
      | some r =>
        have hO := on.out r hR
        have kp := RunR_kept hR
        have hl : n = r.length := by rw [kp.2.2.1]; exact hn.out
        replace hR := Lib.hid hR
        replace hl := Lib.hid hl
        replace hO := Lib.hid hO
        clear kp on
        have A1 := Lib.hid (ha0.out.below (fun b o e h => ha0.out.lt b o e h) K.out)
        go_wp2_with (first | (at_builtin; refine wpList_copyR recM rfl _ _ rfl rfl ao0 n cap0 (L0.map maC) rfl (by rw [List.length_map]; exact hn.out) hn0.out A1.out (rows_ma L0) hmn.out hrn ?_))
        intro a1c c1c v2 C
        have K := Lib.hid (K.out.trans (C.old.mono K.out.size))
        have A2 := Lib.hid (show MAt v2 a1c L0 from C.at_)
        clear C A1
        go_wp2_with fail
        refine (RU.out v2 a1c c1c L0 M hn.out A2.out).mono ?_
        rintro _ v3 ⟨hb, -, hs⟩
        obtain ⟨b, rfl, -, O⟩ := hs r hR.out
        rw [← hl.out]
        have A3 := Lib.hid O.at_
        replace K := Lib.hid (K.out.trans (hb.mono K.out.size))
        clear A2 hb hs O
        clear hR
        go_wp2_with fail
        cases hS : (RunR L0 a1 (M + N)).2 with
        | none =>
          have hS2 : (RunR r a1 N).2 = none := by rw [hO.out]; exact hS
          have eO := congrArg Prod.fst hO.out
          refine (RU.out v3 _ n r N hl.out A3.out).mono ?_
          rintro _ v4 ⟨hb, he, -⟩
          obtain rfl := he hS2
          replace K := Lib.hid (K.out.trans (hb.mono K.out.size))
          clear A3 hb he
          rw [eO]
          clear eO hS2 hO hl
          replace hS := Lib.hid hS
          have A1 := Lib.hid (ha0.out.below (fun b o e h => ha0.out.lt b o e h) K.out)
          go_wp2_with (first | (at_builtin; refine wpList_copyR recM rfl _ _ rfl rfl ao0 n cap0 (L0.map maC) rfl (by rw [List.length_map]; exact hn.out) hn0.out A1.out (rows_ma L0) hmn.out hrn ?_))
          intro a2c c2c v5 C
          have K := Lib.hid (K.out.trans (C.old.mono K.out.size))
          have A2 := Lib.hid (show MAt v5 a2c L0 from C.at_)
          clear C A1
          go_wp2_with fail
          refine (RU.out v5 a2c c2c L0 (M + N) hn.out A2.out).mono ?_
          rintro _ v6 ⟨hb, he, -⟩
          obtain rfl := he hS.out
          replace K := Lib.hid (K.out.trans (hb.mono K.out.size))
          clear A2 hb he
          clear RU hS
          have t5 : ((RunR L0 a1 (M + N)).1 == (RunR L0 a1 (M + N)).1) = true := by simp
          generalize (RunR L0 a1 (M + N)).1 = er at *
          have nilA : Hid (∀ W, MAt W none []) := Lib.hid fun W j r h => by simp at h
          go_wp2_with fail
          refine (gsame_run none none 0 0 0 [] v6 rfl (by omega) (nilA.out _) (nilA.out _)).mono ?_
          rintro _ v7 ⟨rfl, hb⟩
          replace K := Lib.hid (K.out.trans (hb.mono K.out.size))
          clear hb
          go_wp2_with fail
          go_ret
          exact ⟨by first | rfl | trivial, K.out⟩
        | some s =>
          have hS2 : (RunR r a1 N).2 = some s := by rw [hO.out]; exact hS
          have kp := RunR_kept hS
          have hq : n = s.length := by rw [kp.2.2.1]; exact hn.out
          replace hq := Lib.hid hq
          clear kp
          refine (RU.out v3 _ n r N hl.out A3.out).mono ?_
          rintro _ v4 ⟨hb, -, hs⟩
          obtain ⟨b4, rfl, -, O⟩ := hs s hS2
          rw [← hq.out]
          have A4 := Lib.hid O.at_
          replace K := Lib.hid (K.out.trans (hb.mono K.out.size))
          clear A3 hb hs O
          clear hS2 hO
          replace hS := Lib.hid hS
          have A1 := Lib.hid (ha0.out.below (fun b o e h => ha0.out.lt b o e h) K.out)
          go_wp2_with (first | (at_builtin; refine wpList_copyR recM rfl _ _ rfl rfl ao0 n cap0 (L0.map maC) rfl (by rw [List.length_map]; exact hn.out) hn0.out A1.out (rows_ma L0) hmn.out hrn ?_))
          intro a2c c2c v5 C
          have K := Lib.hid (K.out.trans (C.old.mono K.out.size))
          have A2 := Lib.hid (show MAt v5 a2c L0 from C.at_)
          replace A4 := Lib.hid (RAt.on A4.out C.old)
          clear C A1
          go_wp2_with fail
          refine (RU.out v5 a2c c2c L0 (M + N) hn.out A2.out).mono ?_
          rintro _ v6 ⟨hb, -, hs⟩
          replace A4 := Lib.hid (RAt.on A4.out hb)
          obtain ⟨b6, rfl, -, O⟩ := hs s hS.out
          rw [← hq.out]
          have A6 := Lib.hid O.at_
          replace K := Lib.hid (K.out.trans (hb.mono K.out.size))
          clear A2 hb hs O
          clear RU hS
          go_wp2_with fail
          refine (gsame_run _ _ n n n s v6 hq.out hm2 A4.out A6.out).mono ?_
          rintro _ v7 ⟨rfl, hb⟩
          replace K := Lib.hid (K.out.trans (hb.mono K.out.size))
          clear hb
          go_wp2_with fail
          go_ret
          exact ⟨by first | rfl | trivial, K.out⟩
set_option maxRecDepth 100000 in
theorem own : ownKnob Try.prog.godebug = none := by kernel_rfl
set_option maxRecDepth 100000 in
theorem laidOut : laidOutB Try.prog = true := by kernel_rfl
set_option maxRecDepth 100000 in
theorem bytesW : Try.prog.bytesOf 34 = 56 := by kernel_rfl
set_option maxRecDepth 100000 in
theorem lifted (os : Os) (started : os.Started) (H : Type) (enc : TypeId × Value → H) :
    ReturnsInHanded {} Try.checked os 9 .any (Rows.stepOnSpec.pre6 enc Try.prog Try.f9 Rows.stepOnRow.domain false) (Rows.stepOnSpec.post enc Try.prog Try.f9 false true false false) := by
  refine returnsInHanded_of_change_sized (C := Try.checked) own started (by kernel_rfl) Try.func9
    (ChangeSpec.witness6 (enc := enc) (C := Try.checked) false ⟨#[], #[.slice none 0 0, .float .f64 0, .int .i64 0, .int .i64 0], []⟩ 8 (by kernel_rfl) (by kernel_rfl) (by kernel_rfl) (by kernel_rfl)) ?_
  intro W base args ds gs before hval0 hW _ hsz0 _
  have hsz : (DataW.weightsEach Try.prog (Try.f9.params.toList ++ Rows.stepOnSpec.plain.varTypes Try.prog) (ds ++ gs)).all (· ≤ reachBytes) = true := hsz0
  clear hsz0
  have hval : ∀ (j : Nat) t v, Try.f9.params[j]? = some t → args[j]? = some v → Value.okWide Try.prog W .any base t v := hval0
  have hW' := hW
  obtain ⟨p, q, hA0, hV, rfl, _, _⟩ := hW
  have hA : DataW.TrodAll enc Try.prog W 0 (fun _ => true) true Try.f9.params.toList args.toList ds p := hA0
  rw [Try.params9] at hA hval hsz
  obtain ⟨v0, vs0, d0, ds0, p0, q0, hargs, rfl, rfl, t0, r0⟩ := trodAll_cons hA
  obtain ⟨v1, vs1, d1, ds1, p1, q1, rfl, rfl, rfl, t1, r1⟩ := trodAll_cons r0
  obtain ⟨v2, vs2, d2, ds2, p2, q2, rfl, rfl, rfl, t2, r2⟩ := trodAll_cons r1
  obtain ⟨v3, vs3, d3, ds3, p3, q3, rfl, rfl, rfl, t3, r3⟩ := trodAll_cons r2
  obtain ⟨rfl, rfl, rfl⟩ := trodAll_nil r3
  obtain rfl : args = #[v0, v1, v2, v3] := by cases args; simp_all
  obtain ⟨rfl, rfl⟩ := trodVars_none hV
  simp only [List.append_nil] at hW'
  have tk0 := t0
  obtain ⟨ao0, cap0, L0, rfl, hc0, hm0, ha0, hw0, hx0⟩ := open_masses (okWide_slice Try.underlying22 (hval 0 22 v0 rfl rfl)) t0
  have hr0 : cap0 * 56 ≤ 140737488351232 := by
    rcases hx0 with ⟨_, h0⟩ | ⟨_, es, sp, hd, h0⟩
    · rw [h0]; decide
    · subst hd
      have := sized_slice hsz (j := 0) (t := 22) (e := 34) rfl rfl Try.underlying22
      rw [bytesW, h0] at this
      simp only [reachBytes] at this
      omega
  have hn0 : ao0 = none → cap0 = 0 := by
    intro h
    rcases hx0 with ⟨_, h0⟩ | ⟨⟨a, h1⟩, _⟩
    · exact h0
    · rw [h] at h1; simp at h1
  have hlt0 : ∀ x ∈ p0, x.block < W.heap.size := fun x hx => by have := hW'.lt x (by simp [hx]); simpa using this
  obtain ⟨a1, rfl, rfl, rfl, w1⟩ := open_float Try.underlying23 (hval 1 23 v1 rfl rfl) t1
  obtain ⟨a2, rfl, rfl, rfl, w2⟩ := open_int Try.underlying3 (hval 2 3 v2 rfl rfl) t2
  obtain ⟨a3, rfl, rfl, rfl, w3⟩ := open_int Try.underlying3 (hval 3 3 v3 rfl rfl) t3
  clear hA0 hval0
  refine (walk W ao0 cap0 L0 hc0 hm0 ha0 hw0 hr0 hn0 a1 (wf64 w1) a2 w2 a3 w3).mono fun e W' ⟨he, hb⟩ => ?_
  subst he
  refine ⟨_, rfl, _, _, _, [], _, [], hW', trodAll_cons_mk (shut_bool Try.underlying4 _) trodAll_mk0, (trodAll_cons_mk (Below.trod laidOut (by kernel_rfl) (of_decide_eq_true (by kernel_rfl)) tk0 hb hlt0) (trodAll_cons_mk (shut_float Try.underlying23 w1) (trodAll_cons_mk (shut_int Try.underlying3 w2) (trodAll_cons_mk (shut_int Try.underlying3 w3) trodAll_mk0)))), rfl, hb.frame _, fun h => by cases h⟩

set_option maxRecDepth 100000 in
theorem over : Rows.stepOnRow.holds Try.pinned (OpenSpec.ofChange Rows.stepOnSpec) :=
  OpenClaim.holds_of_wide 9 Try.f9 rfl rfl rfl rfl rfl rfl rfl ⟨rfl, rfl, rfl, rfl, rfl⟩ rfl rfl rfl rfl rfl (by kernel_rfl) Try.func9 (by kernel_rfl)
    (of_decide_eq_true (by kernel_rfl)) (by unfold Func.isWrapper; first | (rw [if_pos (by decide +kernel)]; kernel_rfl) | (rw [if_neg (by decide +kernel)]; exact ⟨rfl, rfl⟩))
    (fun os started H enc _ => lifted os started H enc)

theorem proved : Rows.StepOnSaid :=
  over
end Go.Proofs.Ytgfedhlnaipngaa.stepOn
