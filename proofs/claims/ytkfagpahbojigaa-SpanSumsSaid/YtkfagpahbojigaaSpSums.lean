/- Proved here: for every six numbers of binary64 the law SpanSums returns true: exact sums and differences of numbers within lie within. No conditions. -/
import Derived.Test.YtkfagpahbojigaaRows
import Derived.Test.YtkfagpahbojigaaPrf
import Derived.Test.YtkfagpahbojigaaSpf
namespace Go.Proofs.Ytkfagpahbojigaa.spanSums
open Go.ChangeShapes Go.WideShapes Go.ChangeAt Go.RowKit Ieee.Own

set_option maxHeartbeats 2000000 in
theorem walk (w : World) (a0 : Nat) (h0 : a0 < 18446744073709551616) (a1 : Nat) (h1 : a1 < 18446744073709551616) (a2 : Nat) (h2 : a2 < 18446744073709551616) (a3 : Nat) (h3 : a3 < 18446744073709551616) (a4 : Nat) (h4 : a4 < 18446744073709551616) (a5 : Nat) (h5 : a5 < 18446744073709551616) :
    Calls Try.prog 4 #[.float .f64 a0, .float .f64 a1, .float .f64 a2, .float .f64 a3, .float .f64 a4, .float .f64 a5] w fun e w' => e = .returned (.bool true) ∧ Below w.heap.size w w' := by
  have AW := Lib.hid awake_run
  have hst := @fstore
  by_cases fa : fitB a0 = true ∧ fitB a1 = true ∧ fitB a2 = true
  · by_cases fb : fitB a3 = true ∧ fitB a4 = true ∧ fitB a5 = true
    · obtain ⟨f0, f1, f2⟩ := fa
      obtain ⟨f3, f4, f5⟩ := fb
      have TA := fun w => labout_run h0 h1 h2 f0 f1 f2 w
      have TB := fun w => labout_run h3 h4 h5 f3 f4 f5 w
      have SA := abt_of h0 h1 h2 f0 f1 f2
      have SB := abt_of h3 h4 h5 f3 f4 f5
      generalize minW a2 (minW a1 a0) = sl at *
      generalize maxW a2 (maxW a1 a0) = su at *
      generalize minW a5 (minW a4 a3) = tl at *
      generalize maxW a5 (maxW a4 a3) = tu at *
      obtain ⟨X, hX, AX⟩ := fit_unit h1 f1
      obtain ⟨Y, hY, AY⟩ := fit_unit h4 f4
      obtain ⟨Z, hZ, AZ⟩ := fit_unit (negW_lt64 h4) (by rw [fit_neg h4]; exact f4)
      rw [negW_V (fit_fin h4 f4)] at hZ
      have bX := unit_bound hX (fit_abs (k := 1275) h1 f1 (Nat.le_refl _))
      have bY := unit_bound hY (fit_abs (k := 1275) h4 f4 (Nat.le_refl _))
      have bZ := unit_bound hZ (neg_le (fit_abs (k := 1275) h4 f4 (Nat.le_refl _)))
      have NY := fun w => xneg' a4 h4 w
      have bXY := sum_bound (n := 1510) bX bY (by omega)
      have bXZ := sum_bound (n := 1510) bX bZ (by omega)
      have S1 := Lib.hid (fun w => sadd_run sl su tl tu SA.ll SA.lu SB.ll SB.lu w)
      have S2 := Lib.hid (fun w => ssub_run sl su tl tu SA.ll SA.lu SB.ll SB.lu w)
      have U1 : Hid (∀ e, (OpIs (errSS sl su tl tu) (fun v => V sl + V tl - v) (fun v => V su + V tu - v)) e → ∃ x y c, e = .returned (spanE x y c)) := fun e h => h.span
      have U2 : Hid (∀ e, (OpIs (errSS sl su tl tu) (fun v => V sl - V tu - v) (fun v => V su - V tl - v)) e → ∃ x y c, e = .returned (spanE x y c)) := fun e h => h.span
      have W1 : Hid (∀ u v k, (OpIs (errSS sl su tl tu) (fun v => V sl + V tl - v) (fun v => V su + V tu - v)) (.returned (spanE u v k)) → k = 0 → ∀ ws, Sums ws (0 + X + Y) → ∀ w, Calls Try.prog 29 #[spanV u v, .agg (arrW ws).toArray] w fun e w' => e = .returned (.bool true) ∧ Below w.heap.size w w') := fun u v k h hk ws S w => within_ok ⟨⟨h.all.bd.1, h.all.bd.2.1⟩, add_in SA SB h hk⟩ (by omega) (by rw [Int.zero_add]; exact bXY) S w
      have W2 : Hid (∀ u v k, (OpIs (errSS sl su tl tu) (fun v => V sl - V tu - v) (fun v => V su - V tl - v)) (.returned (spanE u v k)) → k = 0 → ∀ ws, Sums ws (0 + X + Z) → ∀ w, Calls Try.prog 29 #[spanV u v, .agg (arrW ws).toArray] w fun e w' => e = .returned (.bool true) ∧ Below w.heap.size w w') := fun u v k h hk ws S w => within_ok ⟨⟨h.all.bd.1, h.all.bd.2.1⟩, sub_in SA SB h hk⟩ (by omega) (by rw [Int.zero_add]; exact bXZ) S w
      unfold spanB at *
      unfold spanV at *
      unfold spanE at *
      replace TA := Lib.hid TA
      replace TB := Lib.hid TB
      replace SA := Lib.hid SA
      replace SB := Lib.hid SB
      replace AX := Lib.hid AX
      replace AY := Lib.hid AY
      replace AZ := Lib.hid AZ
      clear hX hY hZ bX bY bZ bXY bXZ h0 h1 h2 h3 h4 h5 f0 f1 f2 f3 f4 f5
      generalize negW a4 = n4 at *
      go_enter Try.func4, Try.ntmps4
      go_wp2_with fail
      refine (AW.out w).mono ?_
      rintro _ v0 ⟨rfl, hb⟩
      have E := (Env.of (Cls.nil w)).on hb
      clear hb
      go_wp2_with fail
      refine (TA.out v0).mono ?_
      rintro _ v1 ⟨rfl, hb⟩
      have E1 : Env w [(v1.heap.size, sl, su)] [] _ := (E.on hb).new sl su
      unfold boxO at E1
      replace E1 := Lib.hid E1
      clear E hb
      go_wp2_with fail
      have E := E1.out
      clear E1
      generalize hg0 : v1.heap.size = g0 at *
      clear hg0
      generalize v1.alloc _ = w1 at *
      refine (TB.out w1).mono ?_
      rintro _ v2 ⟨rfl, hb⟩
      have E0 := E.on hb
      have E1 : Env w [(g0, sl, su), (v2.heap.size, tl, tu)] [] _ := E0.new tl tu
      unfold boxO at E1
      have P0 := (E1.cls.at_ 0 rfl).lo
      have Ph0 := (E1.cls.at_ 0 rfl).hi
      have P1 := (E1.cls.at_ 1 rfl).lo
      have Ph1 := (E1.cls.at_ 1 rfl).hi
      replace E1 := Lib.hid E1
      clear E E0 hb
      go_wp2_with fail
      clear P0 Ph0 P1 Ph1
      have E := E1.out
      clear E1
      generalize hg1 : v2.heap.size = g1 at *
      clear hg1
      generalize v2.alloc _ = w2 at *
      refine (S1.out w2).mono ?_
      rintro _ v3 ⟨hs, hb⟩
      obtain ⟨x, y, c, rfl⟩ := U1.out _ hs
      have W1' := Lib.hid (W1.out x y c hs)
      have E0 := E.on hb
      have E1 : Env w [(g0, sl, su), (g1, tl, tu), (v3.heap.size, x, y)] [] _ := E0.new x y
      unfold boxO at E1
      have P0 := (E1.cls.at_ 0 rfl).lo
      have Ph0 := (E1.cls.at_ 0 rfl).hi
      have P1 := (E1.cls.at_ 1 rfl).lo
      have Ph1 := (E1.cls.at_ 1 rfl).hi
      have P2 := (E1.cls.at_ 2 rfl).lo
      have Ph2 := (E1.cls.at_ 2 rfl).hi
      replace E1 := Lib.hid E1
      clear E E0 hb hs W1 U1 S1
      go_wp2_with fail
      clear P0 Ph0 P1 Ph1 P2 Ph2
      have E := E1.out
      clear E1
      generalize hg2 : v3.heap.size = g2 at *
      clear hg2
      generalize v3.alloc _ = w3 at *
      refine (S2.out w3).mono ?_
      rintro _ v4 ⟨hs, hb⟩
      obtain ⟨x', y', c', rfl⟩ := U2.out _ hs
      have W2' := Lib.hid (W2.out x' y' c' hs)
      have E0 := E.on hb
      have E1 : Env w [(g0, sl, su), (g1, tl, tu), (g2, x, y), (v4.heap.size, x', y')] [] _ := E0.new x' y'
      have E2 := (E1.zero).zero
      simp only [List.nil_append, List.cons_append] at E2
      rw [show ((v4.alloc (boxO x' y')).alloc zAcc).heap.size = v4.heap.size + 1 + 1 by simp, show (v4.alloc (boxO x' y')).heap.size = v4.heap.size + 1 by simp] at E2
      unfold boxO zAcc at E2
      replace E2 := Lib.hid E2
      clear E E0 E1 hb hs W2 U2 S2
      go_wp2_with fail
      have E := E2.out
      clear E2
      generalize hg3 : v4.heap.size = g3 at *
      clear hg3
      generalize ((v4.alloc _).alloc _).alloc _ = w4 at *
      obtain ⟨-, ns, H⟩ := E.acc 0 (g3 + 1) _ rfl
      refine (AX.out (g3 + 1) _ ns w4 H).mono ?_
      rintro _ y0 ⟨rfl, hP, hs⟩
      have E1 : Env w [(g0, sl, su), (g1, tl, tu), (g2, x, y), (g3, x', y')] [(g3 + 1, 0 + X), (g3 + 1 + 1, 0)] y0 := E.add 0 rfl hP hs
      clear E hP hs H ns
      have p0 := (E1.cls.at_ 0 rfl).lo
      have ph0 := (E1.cls.at_ 0 rfl).hi
      have p1 := (E1.cls.at_ 1 rfl).lo
      have ph1 := (E1.cls.at_ 1 rfl).hi
      have p2 := (E1.cls.at_ 2 rfl).lo
      have ph2 := (E1.cls.at_ 2 rfl).hi
      have p3 := (E1.cls.at_ 3 rfl).lo
      have ph3 := (E1.cls.at_ 3 rfl).hi
      replace E1 := Lib.hid E1
      go_wp2_with fail
      clear p0 ph0 p1 ph1 p2 ph2 p3 ph3
      have E := E1.out
      clear E1
      obtain ⟨-, ns, H⟩ := E.acc 0 (g3 + 1) _ rfl
      refine (AY.out (g3 + 1) _ ns y0 H).mono ?_
      rintro _ y1 ⟨rfl, hP, hs⟩
      have E1 : Env w [(g0, sl, su), (g1, tl, tu), (g2, x, y), (g3, x', y')] [(g3 + 1, 0 + X + Y), (g3 + 1 + 1, 0)] y1 := E.add 0 rfl hP hs
      clear E hP hs H ns
      have p0 := (E1.cls.at_ 0 rfl).lo
      have ph0 := (E1.cls.at_ 0 rfl).hi
      have p1 := (E1.cls.at_ 1 rfl).lo
      have ph1 := (E1.cls.at_ 1 rfl).hi
      have p2 := (E1.cls.at_ 2 rfl).lo
      have ph2 := (E1.cls.at_ 2 rfl).hi
      have p3 := (E1.cls.at_ 3 rfl).lo
      have ph3 := (E1.cls.at_ 3 rfl).hi
      replace E1 := Lib.hid E1
      go_wp2_with fail
      clear p0 ph0 p1 ph1 p2 ph2 p3 ph3
      have E := E1.out
      clear E1
      obtain ⟨-, ns, H⟩ := E.acc 1 (g3 + 1 + 1) _ rfl
      refine (AX.out (g3 + 1 + 1) _ ns y1 H).mono ?_
      rintro _ y2 ⟨rfl, hP, hs⟩
      have E1 : Env w [(g0, sl, su), (g1, tl, tu), (g2, x, y), (g3, x', y')] [(g3 + 1, 0 + X + Y), (g3 + 1 + 1, 0 + X)] y2 := E.add 1 rfl hP hs
      clear E hP hs H ns
      have p0 := (E1.cls.at_ 0 rfl).lo
      have ph0 := (E1.cls.at_ 0 rfl).hi
      have p1 := (E1.cls.at_ 1 rfl).lo
      have ph1 := (E1.cls.at_ 1 rfl).hi
      have p2 := (E1.cls.at_ 2 rfl).lo
      have ph2 := (E1.cls.at_ 2 rfl).hi
      have p3 := (E1.cls.at_ 3 rfl).lo
      have ph3 := (E1.cls.at_ 3 rfl).hi
      replace E1 := Lib.hid E1
      go_wp2_with fail
      clear p0 ph0 p1 ph1 p2 ph2 p3 ph3
      have E := E1.out
      clear E1
      obtain ⟨-, ns, H⟩ := E.acc 1 (g3 + 1 + 1) _ rfl
      refine (AZ.out (g3 + 1 + 1) _ ns y2 H).mono ?_
      rintro _ y3 ⟨rfl, hP, hs⟩
      have E1 : Env w [(g0, sl, su), (g1, tl, tu), (g2, x, y), (g3, x', y')] [(g3 + 1, 0 + X + Y), (g3 + 1 + 1, 0 + X + Z)] y3 := E.add 1 rfl hP hs
      clear E hP hs H ns
      have p0 := (E1.cls.at_ 0 rfl).lo
      have ph0 := (E1.cls.at_ 0 rfl).hi
      have p1 := (E1.cls.at_ 1 rfl).lo
      have ph1 := (E1.cls.at_ 1 rfl).hi
      have p2 := (E1.cls.at_ 2 rfl).lo
      have ph2 := (E1.cls.at_ 2 rfl).hi
      have p3 := (E1.cls.at_ 3 rfl).lo
      have ph3 := (E1.cls.at_ 3 rfl).hi
      replace E1 := Lib.hid E1
      clear p0 ph0 p1 ph1 p2 ph2 p3 ph3
      by_cases k1 : c = 0
      · by_cases k2 : c' = 0
        · have E := E1.out
          clear E1
          subst k1
          obtain ⟨-, ws0, H0⟩ := E.acc 0 (g3 + 1) _ rfl
          have hrg0 := H0.range
          have K0 := Lib.hid (W1'.out (by first | rfl | trivial) ws0 H0.sums)
          have p0 := (E.cls.at_ 0 rfl).lo
          have ph0 := (E.cls.at_ 0 rfl).hi
          have p1 := (E.cls.at_ 1 rfl).lo
          have ph1 := (E.cls.at_ 1 rfl).hi
          have p2 := (E.cls.at_ 2 rfl).lo
          have ph2 := (E.cls.at_ 2 rfl).hi
          have p3 := (E.cls.at_ 3 rfl).lo
          have ph3 := (E.cls.at_ 3 rfl).hi
          replace E := Lib.hid E
          clear H0
          subst k2
          go_wp2_with (first | (refine wpList_load_g (by rfl) 36 _ rfl (g3 + 1) 0 rfl (arrW ws0) _ hrg0 Try.underlying36 rfl (by rw [arrW_len]; exact sizeAcc) ?_))
          refine (K0.out y3).mono ?_
          rintro _ q0 ⟨rfl, hb⟩
          have E2 := E.out.on hb
          clear E hb hrg0 K0
          clear p0 ph0 p1 ph1 p2 ph2 p3 ph3
          obtain ⟨-, ws1, H1⟩ := E2.acc 1 (g3 + 1 + 1) _ rfl
          have hrg1 := H1.range
          have K1 := Lib.hid (W2'.out (by first | rfl | trivial) ws1 H1.sums)
          have p0 := (E2.cls.at_ 0 rfl).lo
          have ph0 := (E2.cls.at_ 0 rfl).hi
          have p1 := (E2.cls.at_ 1 rfl).lo
          have ph1 := (E2.cls.at_ 1 rfl).hi
          have p2 := (E2.cls.at_ 2 rfl).lo
          have ph2 := (E2.cls.at_ 2 rfl).hi
          have p3 := (E2.cls.at_ 3 rfl).lo
          have ph3 := (E2.cls.at_ 3 rfl).hi
          replace E2 := Lib.hid E2
          clear H1
          go_wp2_with (first | (refine wpList_load_g (by rfl) 36 _ rfl (g3 + 1 + 1) 0 rfl (arrW ws1) _ hrg1 Try.underlying36 rfl (by rw [arrW_len]; exact sizeAcc) ?_))
          refine (K1.out q0).mono ?_
          rintro _ q1 ⟨rfl, hb⟩
          have B := Lib.hid (E2.out.on hb).cls.old
          clear E2 hb hrg1 K1
          clear p0 ph0 p1 ph1 p2 ph2 p3 ph3
          go_wp2_with fail
          go_ret
          exact ⟨rfl, B.out⟩
        · have E := E1.out
          clear E1
          subst k1
          obtain ⟨-, ws0, H0⟩ := E.acc 0 (g3 + 1) _ rfl
          have hrg0 := H0.range
          have K0 := Lib.hid (W1'.out (by first | rfl | trivial) ws0 H0.sums)
          have p0 := (E.cls.at_ 0 rfl).lo
          have ph0 := (E.cls.at_ 0 rfl).hi
          have p1 := (E.cls.at_ 1 rfl).lo
          have ph1 := (E.cls.at_ 1 rfl).hi
          have p2 := (E.cls.at_ 2 rfl).lo
          have ph2 := (E.cls.at_ 2 rfl).hi
          have p3 := (E.cls.at_ 3 rfl).lo
          have ph3 := (E.cls.at_ 3 rfl).hi
          replace E := Lib.hid E
          clear H0
          have t2 : (c' != 0) = true := by simpa using k2
          clear k2
          go_wp2_with (first | (refine wpList_load_g (by rfl) 36 _ rfl (g3 + 1) 0 rfl (arrW ws0) _ hrg0 Try.underlying36 rfl (by rw [arrW_len]; exact sizeAcc) ?_))
          refine (K0.out y3).mono ?_
          rintro _ q0 ⟨rfl, hb⟩
          have E2 := E.out.on hb
          clear E hb hrg0 K0
          clear p0 ph0 p1 ph1 p2 ph2 p3 ph3
          have B := Lib.hid E2.cls.old
          clear E2
          go_wp2_with fail
          go_ret
          exact ⟨rfl, B.out⟩
      · by_cases k2 : c' = 0
        · have E := E1.out
          clear E1
          have t1 : (c != 0) = true := by simpa using k1
          clear k1
          subst k2
          have E2 := E
          clear E
          obtain ⟨-, ws1, H1⟩ := E2.acc 1 (g3 + 1 + 1) _ rfl
          have hrg1 := H1.range
          have K1 := Lib.hid (W2'.out (by first | rfl | trivial) ws1 H1.sums)
          have p0 := (E2.cls.at_ 0 rfl).lo
          have ph0 := (E2.cls.at_ 0 rfl).hi
          have p1 := (E2.cls.at_ 1 rfl).lo
          have ph1 := (E2.cls.at_ 1 rfl).hi
          have p2 := (E2.cls.at_ 2 rfl).lo
          have ph2 := (E2.cls.at_ 2 rfl).hi
          have p3 := (E2.cls.at_ 3 rfl).lo
          have ph3 := (E2.cls.at_ 3 rfl).hi
          replace E2 := Lib.hid E2
          clear H1
          go_wp2_with (first | (refine wpList_load_g (by rfl) 36 _ rfl (g3 + 1 + 1) 0 rfl (arrW ws1) _ hrg1 Try.underlying36 rfl (by rw [arrW_len]; exact sizeAcc) ?_))
          refine (K1.out y3).mono ?_
          rintro _ q1 ⟨rfl, hb⟩
          have B := Lib.hid (E2.out.on hb).cls.old
          clear E2 hb hrg1 K1
          clear p0 ph0 p1 ph1 p2 ph2 p3 ph3
          go_wp2_with fail
          go_ret
          exact ⟨rfl, B.out⟩
        · have E := E1.out
          clear E1
          have t1 : (c != 0) = true := by simpa using k1
          clear k1
          have t2 : (c' != 0) = true := by simpa using k2
          clear k2
          have E2 := E
          clear E
          have B := Lib.hid E2.cls.old
          clear E2
          go_wp2_with fail
          go_ret
          exact ⟨rfl, B.out⟩
    · obtain ⟨f0, f1, f2⟩ := fa
      have TA := fun w => labout_run h0 h1 h2 f0 f1 f2 w
      have TB := fun w => labout_no h3 h4 h5 fb w
      generalize minW a2 (minW a1 a0) = sl at *
      generalize maxW a2 (maxW a1 a0) = su at *
      clear h0 h1 h2 h3 h4 h5 f0 f1 f2 fb
      unfold spanB at *
      replace TA := Lib.hid TA
      replace TB := Lib.hid TB
      go_enter Try.func4, Try.ntmps4
      go_wp2_with fail
      refine (AW.out w).mono ?_
      rintro _ v0 ⟨rfl, hb⟩
      have E := (Env.of (Cls.nil w)).on hb
      clear hb
      go_wp2_with fail
      refine (TA.out v0).mono ?_
      rintro _ v1 ⟨rfl, hb⟩
      have E1 := (E.on hb).new sl su
      unfold boxO at E1
      replace E1 := Lib.hid E1
      clear E hb
      go_wp2_with fail
      have E := E1.out
      clear E1
      generalize v1.alloc _ = w1 at *
      refine (TB.out w1).mono ?_
      rintro _ v2 ⟨rfl, hb⟩
      have E1 := (E.on hb).new 0 0
      unfold boxO at E1
      have B := Lib.hid E1.cls.old
      clear E E1 hb
      go_wp2_with fail
      go_ret
      exact ⟨rfl, B.out⟩
  · have TA := fun w => labout_no h0 h1 h2 fa w
    by_cases fb : fitB a3 = true ∧ fitB a4 = true ∧ fitB a5 = true
    · obtain ⟨f3, f4, f5⟩ := fb
      have TB := fun w => labout_run h3 h4 h5 f3 f4 f5 w
      generalize minW a5 (minW a4 a3) = tl at *
      generalize maxW a5 (maxW a4 a3) = tu at *
      clear h0 h1 h2 h3 h4 h5 fa f3 f4 f5
      unfold spanB at *
      replace TA := Lib.hid TA
      replace TB := Lib.hid TB
      go_enter Try.func4, Try.ntmps4
      go_wp2_with fail
      refine (AW.out w).mono ?_
      rintro _ v0 ⟨rfl, hb⟩
      have E := (Env.of (Cls.nil w)).on hb
      clear hb
      go_wp2_with fail
      refine (TA.out v0).mono ?_
      rintro _ v1 ⟨rfl, hb⟩
      have E1 := (E.on hb).new 0 0
      unfold boxO at E1
      replace E1 := Lib.hid E1
      clear E hb
      go_wp2_with fail
      have E := E1.out
      clear E1
      generalize v1.alloc _ = w1 at *
      refine (TB.out w1).mono ?_
      rintro _ v2 ⟨rfl, hb⟩
      have E1 := (E.on hb).new tl tu
      unfold boxO at E1
      have B := Lib.hid E1.cls.old
      clear E E1 hb
      go_wp2_with fail
      go_ret
      exact ⟨rfl, B.out⟩
    · have TB := fun w => labout_no h3 h4 h5 fb w
      clear h0 h1 h2 h3 h4 h5 fa fb
      unfold spanB at *
      replace TA := Lib.hid TA
      replace TB := Lib.hid TB
      go_enter Try.func4, Try.ntmps4
      go_wp2_with fail
      refine (AW.out w).mono ?_
      rintro _ v0 ⟨rfl, hb⟩
      have E := (Env.of (Cls.nil w)).on hb
      clear hb
      go_wp2_with fail
      refine (TA.out v0).mono ?_
      rintro _ v1 ⟨rfl, hb⟩
      have E1 := (E.on hb).new 0 0
      unfold boxO at E1
      replace E1 := Lib.hid E1
      clear E hb
      go_wp2_with fail
      have E := E1.out
      clear E1
      generalize v1.alloc _ = w1 at *
      refine (TB.out w1).mono ?_
      rintro _ v2 ⟨rfl, hb⟩
      have E1 := (E.on hb).new 0 0
      unfold boxO at E1
      have B := Lib.hid E1.cls.old
      clear E E1 hb
      go_wp2_with fail
      go_ret
      exact ⟨rfl, B.out⟩

theorem own : ownKnob Try.prog.godebug = none := by kernel_rfl
theorem laidOut : laidOutB Try.prog = true := by kernel_rfl
theorem cellsF : Try.prog.cellsOf 22 = 1 := by kernel_rfl
theorem bytesF : Try.prog.bytesOf 22 = 8 := by kernel_rfl
theorem wf64 {b : Nat} (h : (Lit.float .f64 b).wf = true) : b < 18446744073709551616 := by
  simp only [Lit.wf, decide_eq_true_eq] at h; exact h

set_option maxRecDepth 100000 in
theorem lifted (os : Os) (started : os.Started) (H : Type) (enc : TypeId × Value → H) :
    ReturnsInHanded {} Try.checked os 4 .any (Rows.spanSumsSpec.pre6 enc Try.prog Try.f4 Rows.spanSumsRow.domain false) (Rows.spanSumsSpec.post enc Try.prog Try.f4 false true false false) := by
  refine returnsInHanded_of_change_sized (C := Try.checked) own started (by kernel_rfl) Try.func4
    (ChangeSpec.witness6 (enc := enc) (C := Try.checked) false ⟨#[], #[.float .f64 0, .float .f64 0, .float .f64 0, .float .f64 0, .float .f64 0, .float .f64 0], []⟩ 8 (by kernel_rfl) (by kernel_rfl) (by kernel_rfl) (by kernel_rfl)) ?_
  intro W base args ds gs before hval0 hW _ hsz0 _
  have hsz : (DataW.weightsEach Try.prog (Try.f4.params.toList ++ Rows.spanSumsSpec.plain.varTypes Try.prog) (ds ++ gs)).all (· ≤ reachBytes) = true := hsz0
  clear hsz0
  have hval : ∀ (j : Nat) t v, Try.f4.params[j]? = some t → args[j]? = some v → Value.okWide Try.prog W .any base t v := hval0
  have hW' := hW
  obtain ⟨p, q, hA0, hV, rfl, _, _⟩ := hW
  have hA : DataW.TrodAll enc Try.prog W 0 (fun _ => true) true Try.f4.params.toList args.toList ds p := hA0
  rw [Try.params4] at hA hval hsz
  obtain ⟨v0, vs0, d0, ds0, p0, q0, hargs, rfl, rfl, t0, r0⟩ := trodAll_cons hA
  obtain ⟨v1, vs1, d1, ds1, p1, q1, rfl, rfl, rfl, t1, r1⟩ := trodAll_cons r0
  obtain ⟨v2, vs2, d2, ds2, p2, q2, rfl, rfl, rfl, t2, r2⟩ := trodAll_cons r1
  obtain ⟨v3, vs3, d3, ds3, p3, q3, rfl, rfl, rfl, t3, r3⟩ := trodAll_cons r2
  obtain ⟨v4, vs4, d4, ds4, p4, q4, rfl, rfl, rfl, t4, r4⟩ := trodAll_cons r3
  obtain ⟨v5, vs5, d5, ds5, p5, q5, rfl, rfl, rfl, t5, r5⟩ := trodAll_cons r4
  obtain ⟨rfl, rfl, rfl⟩ := trodAll_nil r5
  obtain rfl : args = #[v0, v1, v2, v3, v4, v5] := by cases args; simp_all
  obtain ⟨rfl, rfl⟩ := trodVars_none hV
  simp only [List.append_nil] at hW'
  obtain ⟨a0, rfl, rfl, rfl, w0⟩ := open_float Try.underlying22 (hval 0 22 v0 rfl rfl) t0
  obtain ⟨a1, rfl, rfl, rfl, w1⟩ := open_float Try.underlying22 (hval 1 22 v1 rfl rfl) t1
  obtain ⟨a2, rfl, rfl, rfl, w2⟩ := open_float Try.underlying22 (hval 2 22 v2 rfl rfl) t2
  obtain ⟨a3, rfl, rfl, rfl, w3⟩ := open_float Try.underlying22 (hval 3 22 v3 rfl rfl) t3
  obtain ⟨a4, rfl, rfl, rfl, w4⟩ := open_float Try.underlying22 (hval 4 22 v4 rfl rfl) t4
  obtain ⟨a5, rfl, rfl, rfl, w5⟩ := open_float Try.underlying22 (hval 5 22 v5 rfl rfl) t5
  clear hA0 hval0
  refine (walk W a0 (wf64 w0) a1 (wf64 w1) a2 (wf64 w2) a3 (wf64 w3) a4 (wf64 w4) a5 (wf64 w5)).mono fun e W' ⟨he, hb⟩ => ?_
  subst he
  refine ⟨_, rfl, _, _, _, [], _, [], hW', trodAll_cons_mk (shut_bool Try.underlying4 _) trodAll_mk0, (trodAll_cons_mk (shut_float Try.underlying22 w0) (trodAll_cons_mk (shut_float Try.underlying22 w1) (trodAll_cons_mk (shut_float Try.underlying22 w2) (trodAll_cons_mk (shut_float Try.underlying22 w3) (trodAll_cons_mk (shut_float Try.underlying22 w4) (trodAll_cons_mk (shut_float Try.underlying22 w5) trodAll_mk0)))))), rfl, hb.frame _, fun h => by cases h⟩

theorem over : Rows.spanSumsRow.holds Try.pinned (OpenSpec.ofChange Rows.spanSumsSpec) :=
  OpenClaim.holds_of_wide 4 Try.f4 rfl rfl rfl rfl rfl rfl rfl ⟨rfl, rfl, rfl, rfl, rfl⟩ rfl rfl rfl rfl rfl (by kernel_rfl) Try.func4 (by kernel_rfl)
    (of_decide_eq_true (by kernel_rfl)) (by unfold Func.isWrapper; first | (rw [if_pos (by decide +kernel)]; kernel_rfl) | (rw [if_neg (by decide +kernel)]; exact ⟨rfl, rfl⟩))
    (fun os started H enc _ => lifted os started H enc)

theorem proved : Rows.SpanSumsSaid :=
  over
end Go.Proofs.Ytkfagpahbojigaa.spanSums
