/- Proved here: for every list of numbers and every number the law PolyHolds returns true: a value lies by the span of values. No conditions. -/
import Derived.Test.YtjhcalgamcdgiaaRows
import Derived.Test.YtjhcalgamcdgiaaJq5
import Derived.Test.YtjhcalgamcdgiaaJb2
namespace Go.Proofs.Ytjhcalgamcdgiaa.polyHolds
open Go.ChangeShapes Go.WideShapes Go.ChangeAt Go.RowKit Ieee.Own

set_option maxHeartbeats 8000000 in
theorem walk (w : World) (ao0 : Option Addr) (cap0 : Nat) (L0 : List Nat) (hc0 : L0.length ≤ cap0) (hw0 : Words L0) (ha0 : At w ao0 L0) (hr0 : cap0 * 8 ≤ 140737488351232) (hn0 : ao0 = none → cap0 = 0) (a1 : Nat) (h1 : a1 < 18446744073709551616) :
    Calls Try.prog 5 #[.slice ao0 L0.length cap0, .float .f64 a1] w fun e w' => e = .returned (.bool true) ∧ Below w.heap.size w w' := by
  obtain ⟨n, hn⟩ : ∃ n, n = L0.length := ⟨_, rfl⟩
  rw [← hn] at hc0 ⊢
  have hrn : n * 8 ≤ 140737488351232 := by omega
  have hm : n ≤ 4611686018427387904 := by omega
  have AW := Lib.hid awake6
  have hst := @fstore
  replace hn := Lib.hid hn
  clear hr0 hc0
  by_cases hh0 : errX m10 L0 a1 = 0
  · obtain ⟨Q, k1, HQ, KS1⟩ := hsp_own hn.out hm hw0 h1 h1
    have hk1 := HQ.er.trans (errO_pt hh0)
    obtain ⟨fx, ⟨D1, o1, S1, OA1⟩, ⟨fm, bm, nm⟩, hfc⟩ := hor_off hw0 h1 hh0 (HQ.ok hk1)
    have KH : Hid (∀ ao cap w, At w ao L0 → Calls Try.prog 17 #[.slice ao n cap, .float .f64 a1] w fun e w' => e = .returned (fe (posW (polW a1 L0)) 0) ∧ w = w') := fun ao cap w h => phorner_ok ao cap n L0 a1 w hn.out hm hw0 h h1 hh0
    have l16 := (errC_zero hw0 (errX_zero hh0).1).1
    have WH : Hid (∀ ao cap w, At w ao L0 → Calls Try.prog 20 #[.slice ao n cap, .float .f64 (selM a1)] w fun e w' => e = .returned (.float .f64 (wtW (selM a1) 0 oneW L0)) ∧ w = w') :=
      fun ao cap w h => weight_run (m := selM a1) fm bm nm ao cap n L0 w hn.out (by have := hn.out; omega) hfc h
    rw [hk1] at KS1
    have OHf := Lib.hid OA1.off
    have r1 := run_div _ _ _ OA1.d
    have r2 := run_add _ _ _ OA1.s
    have r3 := OA1.le
    unfold c190 at r2
    replace KS1 := Lib.hid KS1
    unfold fe at KH
    unfold spanE spanV at KS1
    unfold spanV at OHf
    obtain ⟨Q1, Q2⟩ := Q
    dsimp only at KS1 OHf
    generalize posW (polW a1 L0) = yh at *
    clear hh0 HQ hk1 OA1 hfc l16 fm bm nm
    by_cases hm1 : V (a1 % 9223372036854775808) < V oneW
    · have tm : (FloatKind.f64.format.order (a1 % 9223372036854775808) 4607182418800017408 == some Ordering.lt) = true := by
        have := lt_words (abs_word fx).1 (show FinW oneW by unfold FinW oneW; omega)
        rw [decide_eq_true hm1] at this
        exact this
      have es : selM a1 = 4607182418800017408 := if_pos hm1
      rw [es] at WH
      rw [es] at r1
      have AX := Lib.hid (fun w => abs_any a1 h1 w)
      generalize wtW _ 0 oneW L0 = wt0 at *
      clear hm1 es fx
      go_enter Try.func5, Try.ntmps5
      go_wp2_with fail
      refine (AW.out w).mono ?_
      rintro _ v0 ⟨rfl, hb⟩
      have C := Lib.hid ((Cls.nil w).on hb)
      have A := Lib.hid ((Lin.start ha0).on hb)
      clear hb AW ha0
      go_wp2_with (at_builtin; refine wpList_copy rfl _ _ rfl rfl ao0 n cap0 L0 rfl hn.out hn0 A.out.at_ hrn ?_)
      intro pc1 qc1 wc1 Cc
      replace C := Lib.hid (C.out.on Cc.old)
      replace A := Lib.hid (A.out.on Cc.old)
      have Ac := Lib.hid Cc.at_
      clear Cc
      go_wp2_with fail
      refine (KH.out pc1 qc1 wc1 Ac.out).mono ?_
      rintro _ wd1 ⟨rfl, rfl⟩
      clear Ac
      go_wp2_with (at_builtin; refine wpList_copy rfl _ _ rfl rfl ao0 n cap0 L0 rfl hn.out hn0 A.out.at_ hrn ?_)
      intro pc2 qc2 wc2 Cc
      replace C := Lib.hid (C.out.on Cc.old)
      replace A := Lib.hid (A.out.on Cc.old)
      have Ac := Lib.hid Cc.at_
      clear Cc
      go_wp2_with fail
      refine (KS1.out pc2 qc2 wc2 Ac.out).mono ?_
      rintro _ ws2 ⟨rfl, hb⟩
      have C2 := (C.out.on hb).new Q1 Q2
      have A2 := (A.out.on hb).alloc (boxO Q1 Q2)
      simp only [List.nil_append] at C2
      unfold boxO at C2 A2
      have p0 := (C2.at_ 0 rfl).lo
      have p1 := (C2.at_ 0 rfl).hi
      replace C := Lib.hid C2
      replace A := Lib.hid A2
      clear hb C2 A2 Ac
      go_wp2_with (go_at_call 18; ((with_reducible refine (AX.out _).mono ?_); rintro e w' ⟨rfl, rfl⟩))
      generalize ws2.alloc _ = wt2 at *
      generalize ws2.heap.size = gg2 at *
      clear p0 p1
      refine (OHf.out _).mono ?_
      rintro _ wo2 ⟨rfl, hb⟩
      replace C := Lib.hid (C.out.on hb)
      replace A := Lib.hid (A.out.on hb)
      clear hb
      go_wp2_with fail
      refine (WH.out ao0 cap0 _ A.out.at_).mono ?_
      rintro _ ww2 ⟨rfl, rfl⟩
      clear tm AX KH WH KS1
      by_cases hc0 : errX m00 L0 a1 = 0
      · obtain ⟨P, k2, HP, KS⟩ := csp_own hn.out hm hw0 h1 h1
        have hk2 := HP.er.trans (errO_pt hc0)
        obtain ⟨⟨D2, o2, S2, OA⟩, hfc⟩ := ch_off hw0 h1 hc0 (HP.ok hk2)
        have KC : Hid (∀ ao cap w, At w ao L0 → Calls Try.prog 21 #[.slice ao n cap, .float .f64 a1] w fun e w' => e = .returned (fe (posW (chW a1 L0)) 0) ∧ w = w') := fun ao cap w h => pcheb_ok ao cap n L0 a1 w hn.out hm hw0 h h1 hc0
        have l16 := (errC_zero hw0 (errX_zero hc0).1).1
        have WC : Hid (∀ ao cap w, At w ao L0 → Calls Try.prog 20 #[.slice ao n cap, .float .f64 4607182418800017408] w fun e w' => e = .returned (.float .f64 (wtW oneW 0 oneW L0)) ∧ w = w') := by
          have one : V oneW = 2 ^ 1074 := by decide +kernel
          have t0 : (0 : Int) < 2 ^ 1074 := Int.pow_pos (by omega)
          exact fun ao cap w h => weight_run (m := oneW) (by unfold FinW oneW; omega) (cap_up (c := oneW) (j := 1074) (k := 1084) (by rw [one]; exact pw_abs 1074) (by omega)) (by rw [one]; omega) ao cap n L0 w hn.out (by have := hn.out; omega) hfc h
        rw [hk2] at KS
        have OFf := Lib.hid OA.off
        have r1 := run_div _ _ _ OA.d
        have r2 := run_add _ _ _ OA.s
        have r3 := OA.le
        unfold c190 at r2
        replace KS := Lib.hid KS
        unfold fe at KC
        unfold spanE spanV at KS
        unfold spanV at OFf
        obtain ⟨P1, P2⟩ := P
        dsimp only at KS OFf
        generalize posW (chW a1 L0) = y at *
        generalize wtW oneW 0 oneW L0 = ww at *
        clear hc0 h1 hw0 HP hk2 OA hfc l16 hm
        go_wp2_with (at_builtin; refine wpList_copy rfl _ _ rfl rfl ao0 n cap0 L0 rfl hn.out hn0 A.out.at_ hrn ?_)
        intro pc3 qc3 wc3 Cc
        replace C := Lib.hid (C.out.on Cc.old)
        replace A := Lib.hid (A.out.on Cc.old)
        have Ac := Lib.hid Cc.at_
        clear Cc
        go_wp2_with fail
        refine (KC.out pc3 qc3 wc3 Ac.out).mono ?_
        rintro _ wd3 ⟨rfl, rfl⟩
        clear Ac
        go_wp2_with (at_builtin; refine wpList_copy rfl _ _ rfl rfl ao0 n cap0 L0 rfl hn.out hn0 A.out.at_ hrn ?_)
        intro pc4 qc4 wc4 Cc
        replace C := Lib.hid (C.out.on Cc.old)
        replace A := Lib.hid (A.out.on Cc.old)
        have Ac := Lib.hid Cc.at_
        clear Cc
        go_wp2_with fail
        refine (KS.out pc4 qc4 wc4 Ac.out).mono ?_
        rintro _ ws4 ⟨rfl, hb⟩
        have C2 := (C.out.on hb).new P1 P2
        have A2 := (A.out.on hb).alloc (boxO P1 P2)
        simp only [List.nil_append, List.cons_append] at C2
        unfold boxO at C2 A2
        have p0 := (C2.at_ 1 rfl).lo
        have p1 := (C2.at_ 1 rfl).hi
        replace C := Lib.hid C2
        replace A := Lib.hid A2
        clear hb C2 A2 Ac
        go_wp2_with fail
        generalize ws4.alloc _ = wt4 at *
        generalize ws4.heap.size = gg4 at *
        clear p0 p1
        refine (OFf.out _).mono ?_
        rintro _ wo4 ⟨rfl, hb⟩
        replace C := Lib.hid (C.out.on hb)
        replace A := Lib.hid (A.out.on hb)
        clear hb
        go_wp2_with fail
        refine (WC.out ao0 cap0 _ A.out.at_).mono ?_
        rintro _ ww4 ⟨rfl, rfl⟩
        go_wp2_with fail
        go_ret
        exact ⟨by first | rfl | trivial, C.out.old⟩
      · have tk : (errX m00 L0 a1 != 0) = true := by simpa using hc0
        have KC : Hid (∀ ao cap w, At w ao L0 → Calls Try.prog 21 #[.slice ao n cap, .float .f64 a1] w fun e w' => e = .returned (fe 0 (errX m00 L0 a1)) ∧ w = w') := fun ao cap w h => pcheb_no ao cap n L0 a1 w hn.out hm hw0 h h1 hc0
        unfold fe at KC
        clear hc0 h1 hw0
        generalize errX m00 L0 a1 = ec at *
        go_wp2_with (at_builtin; refine wpList_copy rfl _ _ rfl rfl ao0 n cap0 L0 rfl hn.out hn0 A.out.at_ hrn ?_)
        intro pc3 qc3 wc3 Cc
        replace C := Lib.hid (C.out.on Cc.old)
        replace A := Lib.hid (A.out.on Cc.old)
        have Ac := Lib.hid Cc.at_
        clear Cc
        go_wp2_with fail
        refine (KC.out pc3 qc3 wc3 Ac.out).mono ?_
        rintro _ wd3 ⟨rfl, rfl⟩
        go_wp2_with fail
        go_ret
        exact ⟨by first | rfl | trivial, C.out.old⟩
    · have tm : (FloatKind.f64.format.order (a1 % 9223372036854775808) 4607182418800017408 == some Ordering.lt) = false := by
        have := lt_words (abs_word fx).1 (show FinW oneW by unfold FinW oneW; omega)
        rw [decide_eq_false hm1] at this
        exact this
      have es : selM a1 = a1 % 9223372036854775808 := if_neg hm1
      rw [es] at WH
      rw [es] at r1
      have AX := Lib.hid (fun w => abs_any a1 h1 w)
      generalize wtW _ 0 oneW L0 = wt0 at *
      clear hm1 es fx
      generalize a1 % 9223372036854775808 = ax at *
      go_enter Try.func5, Try.ntmps5
      go_wp2_with fail
      refine (AW.out w).mono ?_
      rintro _ v0 ⟨rfl, hb⟩
      have C := Lib.hid ((Cls.nil w).on hb)
      have A := Lib.hid ((Lin.start ha0).on hb)
      clear hb AW ha0
      go_wp2_with (at_builtin; refine wpList_copy rfl _ _ rfl rfl ao0 n cap0 L0 rfl hn.out hn0 A.out.at_ hrn ?_)
      intro pc1 qc1 wc1 Cc
      replace C := Lib.hid (C.out.on Cc.old)
      replace A := Lib.hid (A.out.on Cc.old)
      have Ac := Lib.hid Cc.at_
      clear Cc
      go_wp2_with fail
      refine (KH.out pc1 qc1 wc1 Ac.out).mono ?_
      rintro _ wd1 ⟨rfl, rfl⟩
      clear Ac
      go_wp2_with (at_builtin; refine wpList_copy rfl _ _ rfl rfl ao0 n cap0 L0 rfl hn.out hn0 A.out.at_ hrn ?_)
      intro pc2 qc2 wc2 Cc
      replace C := Lib.hid (C.out.on Cc.old)
      replace A := Lib.hid (A.out.on Cc.old)
      have Ac := Lib.hid Cc.at_
      clear Cc
      go_wp2_with fail
      refine (KS1.out pc2 qc2 wc2 Ac.out).mono ?_
      rintro _ ws2 ⟨rfl, hb⟩
      have C2 := (C.out.on hb).new Q1 Q2
      have A2 := (A.out.on hb).alloc (boxO Q1 Q2)
      simp only [List.nil_append] at C2
      unfold boxO at C2 A2
      have p0 := (C2.at_ 0 rfl).lo
      have p1 := (C2.at_ 0 rfl).hi
      replace C := Lib.hid C2
      replace A := Lib.hid A2
      clear hb C2 A2 Ac
      go_wp2_with (go_at_call 18; ((with_reducible refine (AX.out _).mono ?_); rintro e w' ⟨rfl, rfl⟩))
      generalize ws2.alloc _ = wt2 at *
      generalize ws2.heap.size = gg2 at *
      clear p0 p1
      refine (OHf.out _).mono ?_
      rintro _ wo2 ⟨rfl, hb⟩
      replace C := Lib.hid (C.out.on hb)
      replace A := Lib.hid (A.out.on hb)
      clear hb
      go_wp2_with fail
      refine (WH.out ao0 cap0 _ A.out.at_).mono ?_
      rintro _ ww2 ⟨rfl, rfl⟩
      clear tm AX KH WH KS1
      by_cases hc0 : errX m00 L0 a1 = 0
      · obtain ⟨P, k2, HP, KS⟩ := csp_own hn.out hm hw0 h1 h1
        have hk2 := HP.er.trans (errO_pt hc0)
        obtain ⟨⟨D2, o2, S2, OA⟩, hfc⟩ := ch_off hw0 h1 hc0 (HP.ok hk2)
        have KC : Hid (∀ ao cap w, At w ao L0 → Calls Try.prog 21 #[.slice ao n cap, .float .f64 a1] w fun e w' => e = .returned (fe (posW (chW a1 L0)) 0) ∧ w = w') := fun ao cap w h => pcheb_ok ao cap n L0 a1 w hn.out hm hw0 h h1 hc0
        have l16 := (errC_zero hw0 (errX_zero hc0).1).1
        have WC : Hid (∀ ao cap w, At w ao L0 → Calls Try.prog 20 #[.slice ao n cap, .float .f64 4607182418800017408] w fun e w' => e = .returned (.float .f64 (wtW oneW 0 oneW L0)) ∧ w = w') := by
          have one : V oneW = 2 ^ 1074 := by decide +kernel
          have t0 : (0 : Int) < 2 ^ 1074 := Int.pow_pos (by omega)
          exact fun ao cap w h => weight_run (m := oneW) (by unfold FinW oneW; omega) (cap_up (c := oneW) (j := 1074) (k := 1084) (by rw [one]; exact pw_abs 1074) (by omega)) (by rw [one]; omega) ao cap n L0 w hn.out (by have := hn.out; omega) hfc h
        rw [hk2] at KS
        have OFf := Lib.hid OA.off
        have r1 := run_div _ _ _ OA.d
        have r2 := run_add _ _ _ OA.s
        have r3 := OA.le
        unfold c190 at r2
        replace KS := Lib.hid KS
        unfold fe at KC
        unfold spanE spanV at KS
        unfold spanV at OFf
        obtain ⟨P1, P2⟩ := P
        dsimp only at KS OFf
        generalize posW (chW a1 L0) = y at *
        generalize wtW oneW 0 oneW L0 = ww at *
        clear hc0 h1 hw0 HP hk2 OA hfc l16 hm
        go_wp2_with (at_builtin; refine wpList_copy rfl _ _ rfl rfl ao0 n cap0 L0 rfl hn.out hn0 A.out.at_ hrn ?_)
        intro pc3 qc3 wc3 Cc
        replace C := Lib.hid (C.out.on Cc.old)
        replace A := Lib.hid (A.out.on Cc.old)
        have Ac := Lib.hid Cc.at_
        clear Cc
        go_wp2_with fail
        refine (KC.out pc3 qc3 wc3 Ac.out).mono ?_
        rintro _ wd3 ⟨rfl, rfl⟩
        clear Ac
        go_wp2_with (at_builtin; refine wpList_copy rfl _ _ rfl rfl ao0 n cap0 L0 rfl hn.out hn0 A.out.at_ hrn ?_)
        intro pc4 qc4 wc4 Cc
        replace C := Lib.hid (C.out.on Cc.old)
        replace A := Lib.hid (A.out.on Cc.old)
        have Ac := Lib.hid Cc.at_
        clear Cc
        go_wp2_with fail
        refine (KS.out pc4 qc4 wc4 Ac.out).mono ?_
        rintro _ ws4 ⟨rfl, hb⟩
        have C2 := (C.out.on hb).new P1 P2
        have A2 := (A.out.on hb).alloc (boxO P1 P2)
        simp only [List.nil_append, List.cons_append] at C2
        unfold boxO at C2 A2
        have p0 := (C2.at_ 1 rfl).lo
        have p1 := (C2.at_ 1 rfl).hi
        replace C := Lib.hid C2
        replace A := Lib.hid A2
        clear hb C2 A2 Ac
        go_wp2_with fail
        generalize ws4.alloc _ = wt4 at *
        generalize ws4.heap.size = gg4 at *
        clear p0 p1
        refine (OFf.out _).mono ?_
        rintro _ wo4 ⟨rfl, hb⟩
        replace C := Lib.hid (C.out.on hb)
        replace A := Lib.hid (A.out.on hb)
        clear hb
        go_wp2_with fail
        refine (WC.out ao0 cap0 _ A.out.at_).mono ?_
        rintro _ ww4 ⟨rfl, rfl⟩
        go_wp2_with fail
        go_ret
        exact ⟨by first | rfl | trivial, C.out.old⟩
      · have tk : (errX m00 L0 a1 != 0) = true := by simpa using hc0
        have KC : Hid (∀ ao cap w, At w ao L0 → Calls Try.prog 21 #[.slice ao n cap, .float .f64 a1] w fun e w' => e = .returned (fe 0 (errX m00 L0 a1)) ∧ w = w') := fun ao cap w h => pcheb_no ao cap n L0 a1 w hn.out hm hw0 h h1 hc0
        unfold fe at KC
        clear hc0 h1 hw0
        generalize errX m00 L0 a1 = ec at *
        go_wp2_with (at_builtin; refine wpList_copy rfl _ _ rfl rfl ao0 n cap0 L0 rfl hn.out hn0 A.out.at_ hrn ?_)
        intro pc3 qc3 wc3 Cc
        replace C := Lib.hid (C.out.on Cc.old)
        replace A := Lib.hid (A.out.on Cc.old)
        have Ac := Lib.hid Cc.at_
        clear Cc
        go_wp2_with fail
        refine (KC.out pc3 qc3 wc3 Ac.out).mono ?_
        rintro _ wd3 ⟨rfl, rfl⟩
        go_wp2_with fail
        go_ret
        exact ⟨by first | rfl | trivial, C.out.old⟩
  · have tk1 : (errX m10 L0 a1 == 0) = false := by simpa using hh0
    have KH : Hid (∀ ao cap w, At w ao L0 → Calls Try.prog 17 #[.slice ao n cap, .float .f64 a1] w fun e w' => e = .returned (fe 0 (errX m10 L0 a1)) ∧ w = w') := fun ao cap w h => phorner_no ao cap n L0 a1 w hn.out hm hw0 h h1 hh0
    unfold fe at KH
    clear hh0
    generalize errX m10 L0 a1 = eh at *
    go_enter Try.func5, Try.ntmps5
    go_wp2_with fail
    refine (AW.out w).mono ?_
    rintro _ v0 ⟨rfl, hb⟩
    have C := Lib.hid ((Cls.nil w).on hb)
    have A := Lib.hid ((Lin.start ha0).on hb)
    clear hb AW ha0
    go_wp2_with (at_builtin; refine wpList_copy rfl _ _ rfl rfl ao0 n cap0 L0 rfl hn.out hn0 A.out.at_ hrn ?_)
    intro pc1 qc1 wc1 Cc
    replace C := Lib.hid (C.out.on Cc.old)
    replace A := Lib.hid (A.out.on Cc.old)
    have Ac := Lib.hid Cc.at_
    clear Cc
    go_wp2_with fail
    refine (KH.out pc1 qc1 wc1 Ac.out).mono ?_
    rintro _ wd1 ⟨rfl, rfl⟩
    clear Ac KH
    by_cases hc0 : errX m00 L0 a1 = 0
    · obtain ⟨P, k2, HP, KS⟩ := csp_own hn.out hm hw0 h1 h1
      have hk2 := HP.er.trans (errO_pt hc0)
      obtain ⟨⟨D2, o2, S2, OA⟩, hfc⟩ := ch_off hw0 h1 hc0 (HP.ok hk2)
      have KC : Hid (∀ ao cap w, At w ao L0 → Calls Try.prog 21 #[.slice ao n cap, .float .f64 a1] w fun e w' => e = .returned (fe (posW (chW a1 L0)) 0) ∧ w = w') := fun ao cap w h => pcheb_ok ao cap n L0 a1 w hn.out hm hw0 h h1 hc0
      have l16 := (errC_zero hw0 (errX_zero hc0).1).1
      have WC : Hid (∀ ao cap w, At w ao L0 → Calls Try.prog 20 #[.slice ao n cap, .float .f64 4607182418800017408] w fun e w' => e = .returned (.float .f64 (wtW oneW 0 oneW L0)) ∧ w = w') := by
        have one : V oneW = 2 ^ 1074 := by decide +kernel
        have t0 : (0 : Int) < 2 ^ 1074 := Int.pow_pos (by omega)
        exact fun ao cap w h => weight_run (m := oneW) (by unfold FinW oneW; omega) (cap_up (c := oneW) (j := 1074) (k := 1084) (by rw [one]; exact pw_abs 1074) (by omega)) (by rw [one]; omega) ao cap n L0 w hn.out (by have := hn.out; omega) hfc h
      rw [hk2] at KS
      have OFf := Lib.hid OA.off
      have r1 := run_div _ _ _ OA.d
      have r2 := run_add _ _ _ OA.s
      have r3 := OA.le
      unfold c190 at r2
      replace KS := Lib.hid KS
      unfold fe at KC
      unfold spanE spanV at KS
      unfold spanV at OFf
      obtain ⟨P1, P2⟩ := P
      dsimp only at KS OFf
      generalize posW (chW a1 L0) = y at *
      generalize wtW oneW 0 oneW L0 = ww at *
      clear hc0 h1 hw0 HP hk2 OA hfc l16 hm
      go_wp2_with (at_builtin; refine wpList_copy rfl _ _ rfl rfl ao0 n cap0 L0 rfl hn.out hn0 A.out.at_ hrn ?_)
      intro pc3 qc3 wc3 Cc
      replace C := Lib.hid (C.out.on Cc.old)
      replace A := Lib.hid (A.out.on Cc.old)
      have Ac := Lib.hid Cc.at_
      clear Cc
      go_wp2_with fail
      refine (KC.out pc3 qc3 wc3 Ac.out).mono ?_
      rintro _ wd3 ⟨rfl, rfl⟩
      clear Ac
      go_wp2_with (at_builtin; refine wpList_copy rfl _ _ rfl rfl ao0 n cap0 L0 rfl hn.out hn0 A.out.at_ hrn ?_)
      intro pc4 qc4 wc4 Cc
      replace C := Lib.hid (C.out.on Cc.old)
      replace A := Lib.hid (A.out.on Cc.old)
      have Ac := Lib.hid Cc.at_
      clear Cc
      go_wp2_with fail
      refine (KS.out pc4 qc4 wc4 Ac.out).mono ?_
      rintro _ ws4 ⟨rfl, hb⟩
      have C2 := (C.out.on hb).new P1 P2
      have A2 := (A.out.on hb).alloc (boxO P1 P2)
      simp only [List.nil_append] at C2
      unfold boxO at C2 A2
      have p0 := (C2.at_ 0 rfl).lo
      have p1 := (C2.at_ 0 rfl).hi
      replace C := Lib.hid C2
      replace A := Lib.hid A2
      clear hb C2 A2 Ac
      go_wp2_with fail
      generalize ws4.alloc _ = wt4 at *
      generalize ws4.heap.size = gg4 at *
      clear p0 p1
      refine (OFf.out _).mono ?_
      rintro _ wo4 ⟨rfl, hb⟩
      replace C := Lib.hid (C.out.on hb)
      replace A := Lib.hid (A.out.on hb)
      clear hb
      go_wp2_with fail
      refine (WC.out ao0 cap0 _ A.out.at_).mono ?_
      rintro _ ww4 ⟨rfl, rfl⟩
      go_wp2_with fail
      go_ret
      exact ⟨by first | rfl | trivial, C.out.old⟩
    · have tk : (errX m00 L0 a1 != 0) = true := by simpa using hc0
      have KC : Hid (∀ ao cap w, At w ao L0 → Calls Try.prog 21 #[.slice ao n cap, .float .f64 a1] w fun e w' => e = .returned (fe 0 (errX m00 L0 a1)) ∧ w = w') := fun ao cap w h => pcheb_no ao cap n L0 a1 w hn.out hm hw0 h h1 hc0
      unfold fe at KC
      clear hc0 h1 hw0
      generalize errX m00 L0 a1 = ec at *
      go_wp2_with (at_builtin; refine wpList_copy rfl _ _ rfl rfl ao0 n cap0 L0 rfl hn.out hn0 A.out.at_ hrn ?_)
      intro pc3 qc3 wc3 Cc
      replace C := Lib.hid (C.out.on Cc.old)
      replace A := Lib.hid (A.out.on Cc.old)
      have Ac := Lib.hid Cc.at_
      clear Cc
      go_wp2_with fail
      refine (KC.out pc3 qc3 wc3 Ac.out).mono ?_
      rintro _ wd3 ⟨rfl, rfl⟩
      go_wp2_with fail
      go_ret
      exact ⟨by first | rfl | trivial, C.out.old⟩

theorem own : ownKnob Try.prog.godebug = none := by kernel_rfl
theorem laidOut : laidOutB Try.prog = true := by kernel_rfl
theorem cellsF : Try.prog.cellsOf 23 = 1 := by kernel_rfl
theorem bytesF : Try.prog.bytesOf 23 = 8 := by kernel_rfl
theorem wf64 {b : Nat} (h : (Lit.float .f64 b).wf = true) : b < 18446744073709551616 := by
  simp only [Lit.wf, decide_eq_true_eq] at h; exact h

set_option maxRecDepth 100000 in
theorem lifted (os : Os) (started : os.Started) (H : Type) (enc : TypeId × Value → H) :
    ReturnsInHanded {} Try.checked os 5 .any (Rows.polyHoldsSpec.pre6 enc Try.prog Try.f5 Rows.polyHoldsRow.domain false) (Rows.polyHoldsSpec.post enc Try.prog Try.f5 false true false false) := by
  refine returnsInHanded_of_change_sized (C := Try.checked) own started (by kernel_rfl) Try.func5
    (ChangeSpec.witness6 (enc := enc) (C := Try.checked) false ⟨#[], #[.slice none 0 0, .float .f64 0], []⟩ 8 (by kernel_rfl) (by kernel_rfl) (by kernel_rfl) (by kernel_rfl)) ?_
  intro W base args ds gs before hval0 hW _ hsz0 _
  have hsz : (DataW.weightsEach Try.prog (Try.f5.params.toList ++ Rows.polyHoldsSpec.plain.varTypes Try.prog) (ds ++ gs)).all (· ≤ reachBytes) = true := hsz0
  clear hsz0
  have hval : ∀ (j : Nat) t v, Try.f5.params[j]? = some t → args[j]? = some v → Value.okWide Try.prog W .any base t v := hval0
  have hW' := hW
  obtain ⟨p, q, hA0, hV, rfl, _, _⟩ := hW
  have hA : DataW.TrodAll enc Try.prog W 0 (fun _ => true) true Try.f5.params.toList args.toList ds p := hA0
  rw [Try.params5] at hA hval hsz
  obtain ⟨v0, vs0, d0, ds0, p0, q0, hargs, rfl, rfl, t0, r0⟩ := trodAll_cons hA
  obtain ⟨v1, vs1, d1, ds1, p1, q1, rfl, rfl, rfl, t1, r1⟩ := trodAll_cons r0
  obtain ⟨rfl, rfl, rfl⟩ := trodAll_nil r1
  obtain rfl : args = #[v0, v1] := by cases args; simp_all
  obtain ⟨rfl, rfl⟩ := trodVars_none hV
  simp only [List.append_nil] at hW'
  have tk0 := t0
  obtain ⟨ao0, cap0, L0, rfl, hc0, hw0, ha0, hx0⟩ := open_flts Try.underlying22 Try.underlying23 cellsF (okWide_slice Try.underlying22 (hval 0 22 v0 rfl rfl)) t0
  have hr0 : cap0 * 8 ≤ 140737488351232 := by
    rcases hx0 with ⟨_, h0⟩ | ⟨_, es, sp, hd, h0⟩
    · rw [h0]; decide
    · subst hd
      have := sized_slice hsz (j := 0) (t := 22) (e := 23) rfl rfl Try.underlying22
      rw [bytesF, h0] at this
      simp only [reachBytes] at this
      omega
  have hn0 : ao0 = none → cap0 = 0 := by
    intro h
    rcases hx0 with ⟨_, h0⟩ | ⟨⟨a, h1⟩, _⟩
    · exact h0
    · rw [h] at h1; simp at h1
  have hlt0 : ∀ x ∈ p0, x.block < W.heap.size := fun x hx => by have := hW'.lt x (by simp [hx]); simpa using this
  obtain ⟨a1, rfl, rfl, rfl, w1⟩ := open_float Try.underlying23 (hval 1 23 v1 rfl rfl) t1
  clear hA0 hval0
  refine (walk W ao0 cap0 L0 hc0 hw0 ha0 hr0 hn0 a1 (wf64 w1)).mono fun e W' ⟨he, hb⟩ => ?_
  subst he
  refine ⟨_, rfl, _, _, _, [], _, [], hW', trodAll_cons_mk (shut_bool Try.underlying4 _) trodAll_mk0, (trodAll_cons_mk (Below.trod laidOut (by kernel_rfl) (of_decide_eq_true (by kernel_rfl)) tk0 hb hlt0) (trodAll_cons_mk (shut_float Try.underlying23 w1) trodAll_mk0)), rfl, hb.frame _, fun h => by cases h⟩

theorem over : Rows.polyHoldsRow.holds Try.pinned (OpenSpec.ofChange Rows.polyHoldsSpec) :=
  OpenClaim.holds_of_wide 5 Try.f5 rfl rfl rfl rfl rfl rfl rfl ⟨rfl, rfl, rfl, rfl, rfl⟩ rfl rfl rfl rfl rfl (by kernel_rfl) Try.func5 (by kernel_rfl)
    (of_decide_eq_true (by kernel_rfl)) (by unfold Func.isWrapper; first | (rw [if_pos (by decide +kernel)]; kernel_rfl) | (rw [if_neg (by decide +kernel)]; exact ⟨rfl, rfl⟩))
    (fun os started H enc _ => lifted os started H enc)

theorem proved : Rows.PolyHoldsSaid :=
  over
end Go.Proofs.Ytjhcalgamcdgiaa.polyHolds
