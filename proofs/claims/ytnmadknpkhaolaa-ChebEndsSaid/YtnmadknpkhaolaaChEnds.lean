/- Proved here: for all tables and times the law ChebEnds returns true: at the ends the first and the last numbers. No conditions. -/
import Derived.Test.YtnmadknpkhaolaaRows
import Derived.Test.YtnmadknpkhaolaaJz19
import Derived.Test.YtnmadknpkhaolaaJz20
import Derived.Test.YtnmadknpkhaolaaJz12
import Derived.Test.YtnmadknpkhaolaaJz10
namespace Go.Proofs.Ytnmadknpkhaolaa.chebEnds
open Go.ChangeShapes Go.WideShapes Go.ChangeAt Go.RowKit

theorem wf64 {b : Nat} (h : (Lit.float .f64 b).wf = true) : b < 18446744073709551616 := by
  simp only [Lit.wf, decide_eq_true_eq] at h; exact h
open Ieee.Own in
theorem at_rdy {t : Tb} {d : Nat} (h : (atH t d).2 = 0) : rdyT t (inM m24 d) = 0 ∧ atH t d = (rwH t (plc t d), 0) := by
  have r1 : rdyT t (inM m24 d) = 0 := by
    by_cases c : rdyT t (inM m24 d) = 0
    · exact c
    · unfold atH at h; rw [if_neg c] at h; exact h
  exact ⟨r1, by unfold atH; rw [if_pos r1]⟩
open Ieee.Own in
theorem up_of {t : Tb} (h : chkT t = 0) : TbUp t := by
  have K := chkT_zero h
  refine ⟨fun i k hk => ?_⟩
  by_cases hi : i < t.rows.length
  · obtain ⟨m0, m1, m2⟩ := row_may (K.row i hi)
    have : k = 0 ∨ k = 1 ∨ k = 2 := by omega
    rcases this with rfl | rfl | rfl
    · have := (mayB_true m0).1; omega
    · have := (mayB_true m1).1; omega
    · have := (mayB_true m2).1; omega
  · rw [cf_out hi]; simp
open Ieee.Own in
theorem first_end {t : Tb} {d : Nat} (hW : TbW t) (hd : d < 18446744073709551616) (h1 : (atH t d).2 = 0) (h2 : (atH t t.fr).2 = 0) (hle : (FloatKind.f64.format.order d t.fr == some Ordering.lt || FloatKind.f64.format.order d t.fr == some Ordering.eq) = true) : (atH t d).1 = (atH t t.fr).1 := by
  obtain ⟨r1, e1⟩ := at_rdy h1
  obtain ⟨r2, e2⟩ := at_rdy h2
  obtain ⟨k0, k1, k2⟩ := rdyT_zero r1
  obtain ⟨-, j1, -⟩ := rdyT_zero r2
  have KO := chkT_zero k0
  have Y := y_ok KO hW hd k1
  have Z := y_ok KO hW hW.fr j1
  have fd := (tm_ok hd k1).fin
  have ff := (tm_ok hW.fr j1).fin
  rw [le_words fd ff, decide_eq_true_eq] at hle
  have a1 := y_sign KO hW Y hle
  have a2 := y_sign KO hW Z (Int.le_refl _)
  rw [e1, e2, plc_one a1, plc_one a2]
open Ieee.Own in
theorem last_end {t : Tb} {d e : Nat} (hW : TbW t) (hd : d < 18446744073709551616) (he : e < 18446744073709551616) (h1 : (atH t d).2 = 0) (h2 : rdyT t (inM m24 e) = 0) (hi : (plc t e).1 = (plc t d).1)
    (o1 : (FloatKind.f64.format.order (plc t d).2 4607182418800017408 != some Ordering.eq) = false) (o2 : (FloatKind.f64.format.order (plc t e).2 4607182418800017408 != some Ordering.eq) = false) : (atH t e).2 = 0 ∧ (atH t e).1 = (atH t d).1 := by
  obtain ⟨r1, e1⟩ := at_rdy h1
  obtain ⟨k0, k1, k2⟩ := rdyT_zero r1
  obtain ⟨-, j1, -⟩ := rdyT_zero h2
  have KO := chkT_zero k0
  have P := pl_ok (y_ok KO hW hd k1) k2
  have P' := pl_ok (y_ok KO hW he j1) k2
  have e2 : atH t e = (rwH t (plc t e), 0) := by unfold atH; rw [if_pos h2]
  have key : ∀ {x : Nat}, Nz x → (FloatKind.f64.format.order x 4607182418800017408 != some Ordering.eq) = false → V x = V oneW := fun {x} N o => by
    rw [bne_eq_false_iff_eq] at o
    have := eq_words N.fin (show FinW 4607182418800017408 from oneW_V.1)
    rw [o] at this
    show V x = V 4607182418800017408
    simpa using this
  have w : (plc t e).2 = (plc t d).2 := P'.nz.uniq P.nz ((key P'.nz o2).trans (key P.nz o1).symm)
  rw [e1, e2]
  refine ⟨rfl, ?_⟩
  show rwH t (plc t e) = rwH t (plc t d)
  rw [show plc t e = plc t d from Prod.ext hi w]
set_option maxHeartbeats 2000000 in
set_option maxRecDepth 100000 in
theorem walk (w : World) (ao0 : Option Addr) (cap0 : Nat) (T0 : Tb) (hc0 : T0.rows.length ≤ cap0) (hm0 : cap0 ≤ maxLen) (hn0 : ao0 = none → cap0 = 0) (hw0 : TbW T0) (ha0 : TbAt w ao0 T0.rows) (hS0 : TbSz T0) (a1 : Nat) (h1 : a1 < 18446744073709551616) (a2 : Nat) (h2 : a2 < 18446744073709551616) :
    Calls Try.prog 8 #[tbV T0 ao0 cap0, .float .f64 a1, .float .f64 a2] w fun e w' => e = .returned (.bool true) ∧ Below w.heap.size w w' := by
  have _u : _ ∧ _ ∧ _ := ⟨hc0, hm0, hn0⟩
  clear _u
  have AW := Lib.hid awake13
  have hn62 : T0.rows.length ≤ 4611686018427387904 := by have := hS0.n; omega
  obtain ⟨RA, hRA⟩ : ∃ RA, RA = atH T0 a1 := ⟨_, rfl⟩
  obtain ⟨RE, hRE⟩ : ∃ RE, RE = atH T0 T0.fr := ⟨_, rfl⟩
  obtain ⟨RZ, hRZ⟩ : ∃ RZ, RZ = atH T0 a2 := ⟨_, rfl⟩
  obtain ⟨i1, hi1⟩ : ∃ i1, i1 = (plc T0 a1).1 := ⟨_, rfl⟩
  obtain ⟨x1, hx1⟩ : ∃ x1, x1 = (plc T0 a1).2 := ⟨_, rfl⟩
  obtain ⟨i2, hi2⟩ : ∃ i2, i2 = (plc T0 a2).1 := ⟨_, rfl⟩
  obtain ⟨x2, hx2⟩ : ∃ x2, x2 = (plc T0 a2).2 := ⟨_, rfl⟩
  obtain ⟨r2, hr2⟩ : ∃ r2, r2 = rdyT T0 (inM m24 a2) := ⟨_, rfl⟩
  have TR : Hid (∀ W, Below w.heap.size w W → Calls Try.prog 19 #[tbV T0 ao0 cap0] W fun e w' => ∃ ao' cap', e = .returned (tbV T0 ao' cap') ∧ T0.rows.length ≤ cap' ∧ cap' ≤ maxLen ∧ (ao' = none → cap' = 0) ∧ TbAt w' ao' T0.rows ∧ Below W.heap.size W w') := Lib.hid fun W hb => table_run ao0 cap0 W hS0 (ha0.on hb)
  have R1 : Hid (∀ W ao cap, TbAt W ao T0.rows → Calls Try.prog 23 #[tbV T0 ao cap, .float .f64 a1] W fun e w' => e = .returned (vecE RA.1 RA.2) ∧ Below W.heap.size W w') :=
    Lib.hid fun W ao cap ha => by rw [hRA]; exact cat_run ao cap W hn62 hw0 ha h1
  have R2 : Hid (∀ W ao cap, TbAt W ao T0.rows → Calls Try.prog 23 #[tbV T0 ao cap, .float .f64 T0.fr] W fun e w' => e = .returned (vecE RE.1 RE.2) ∧ Below W.heap.size W w') :=
    Lib.hid fun W ao cap ha => by rw [hRE]; exact cat_run ao cap W hn62 hw0 ha hw0.fr
  have R3 : Hid (∀ W ao cap, TbAt W ao T0.rows → Calls Try.prog 23 #[tbV T0 ao cap, .float .f64 a2] W fun e w' => e = .returned (vecE RZ.1 RZ.2) ∧ Below W.heap.size W w') :=
    Lib.hid fun W ao cap ha => by rw [hRZ]; exact cat_run ao cap W hn62 hw0 ha h2
  have P1 : Hid (RA.2 = 0 → ∀ W, Below w.heap.size w W → Calls Try.prog 21 #[tbV T0 ao0 cap0, .float .f64 a1] W fun e w' => e = .returned (.tuple #[.int .i64 (i1 : Int), .float .f64 x1, .int .i64 0]) ∧ Below W.heap.size W w') :=
    Lib.hid fun e W hb => by
      have e' : (atH T0 a1).2 = 0 := by rw [← hRA]; exact e
      have r := (at_rdy e').1
      have := rpiece_run ao0 cap0 W hn62 hw0 (up_of (rdyT_zero r).1) (ha0.on hb) h1
      unfold pieE at this
      rw [if_pos r] at this
      rw [hi1, hx1]
      exact this
  have P2 : Hid (RA.2 = 0 → ∀ W, Below w.heap.size w W → Calls Try.prog 21 #[tbV T0 ao0 cap0, .float .f64 a2] W fun e w' => e = .returned (if r2 = 0 then .tuple #[.int .i64 (i2 : Int), .float .f64 x2, .int .i64 0] else .tuple #[.int .i64 0, .float .f64 0, .int .i64 r2]) ∧ Below W.heap.size W w') :=
    Lib.hid fun e W hb => by
      have e' : (atH T0 a1).2 = 0 := by rw [← hRA]; exact e
      have r := (at_rdy e').1
      rw [hi2, hx2, hr2]
      exact rpiece_run ao0 cap0 W hn62 hw0 (up_of (rdyT_zero r).1) (ha0.on hb) h2
  have LE : Hid (RA.2 = 0 → RE.2 = 0 → (FloatKind.f64.format.order a1 T0.fr == some Ordering.lt || FloatKind.f64.format.order a1 T0.fr == some Ordering.eq) = true → RA.1 = RE.1) := Lib.hid fun e1 e2 h => by
    rw [hRA, hRE]
    exact first_end hw0 h1 (by rw [← hRA]; exact e1) (by rw [← hRE]; exact e2) h
  have ZE : Hid (RA.2 = 0 → r2 = 0 → i2 = i1 → (FloatKind.f64.format.order x1 4607182418800017408 != some Ordering.eq) = false → (FloatKind.f64.format.order x2 4607182418800017408 != some Ordering.eq) = false → RZ.2 = 0 ∧ RZ.1 = RA.1) := Lib.hid fun e1 e2 h g1 g2 => by
    rw [hRA, hRZ]
    exact last_end hw0 h1 h2 (by rw [← hRA]; exact e1) (by rw [← hr2]; exact e2) (by rw [← hi1, ← hi2]; exact h) (by rw [← hx1]; exact g1) (by rw [← hx2]; exact g2)
  have hnp : T0.rows.length ≤ 4611686018427387904 := hn62
  obtain ⟨n, hn⟩ : ∃ n, n = T0.rows.length := ⟨_, rfl⟩
  clear hRA hRE hRZ hi1 hx1 hi2 hx2 hr2 hn62
  unfold tbV at *
  rw [← hn] at TR R1 R2 R3 P1 P2 hnp ⊢
  generalize hfr : T0.fr = fr at *
  generalize hst' : T0.st = st at *
  clear hfr hst' hn hc0 hm0 hn0 hw0 ha0 hS0 h1 h2
  generalize T0.rows = RS at *
  obtain ⟨lo, hlo⟩ : ∃ lo, (FloatKind.f64.format.order a1 fr == some Ordering.lt || FloatKind.f64.format.order a1 fr == some Ordering.eq) = lo := ⟨_, rfl⟩
  obtain ⟨o1, ho1⟩ : ∃ o, (FloatKind.f64.format.order x1 4607182418800017408 != some Ordering.eq) = o := ⟨_, rfl⟩
  obtain ⟨o2, ho2⟩ : ∃ o, (FloatKind.f64.format.order x2 4607182418800017408 != some Ordering.eq) = o := ⟨_, rfl⟩
  rw [hlo] at LE
  rw [ho1, ho2] at ZE
  obtain ⟨⟨p1, p2, p3⟩, kr⟩ := RA
  obtain ⟨⟨q1, q2, q3⟩, ke⟩ := RE
  obtain ⟨⟨s1, s2, s3⟩, kz⟩ := RZ
  unfold vecE vecV at R1 R2 R3
  dsimp only at *
  have hst := @fstore
  have wn : IntKind.i64.wrap ((n : Int) - 1) = (n : Int) - 1 := by rw [IntKind.wrap_i64]; omega
  clear hnp
  have K0 := kv1 w 34 [.float .f64 fr, .float .f64 st, .slice ao0 n cap0]
  simp only [objV] at K0
  replace K0 := Lib.hid K0
  go_enter Try.func8, Try.ntmps8
  go_wp2_with fail
  have K := K0.out
  clear K0
  generalize w.alloc _ = wr at *
  refine (AW.out wr).mono ?_
  rintro _ v1 ⟨rfl, hb'⟩
  replace K := K.on hb'
  clear hb' AW
  have c0_0 := (K.at_ 0 rfl).at_ 0 _ rfl
  have c0_1 := (K.at_ 0 rfl).at_ 1 _ rfl
  have c0_2 := (K.at_ 0 rfl).at_ 2 _ rfl
  replace K := Lib.hid K
  go_wp2_with fail
  replace K := K.out
  refine (TR.out v1 K.old).mono ?_
  rintro _ v2 ⟨ao, cap, rfl, -, -, -, hta, hb'⟩
  clear c0_0 c0_1 c0_2 TR
  replace K := K.on hb'
  clear hb'
  replace K := K.new 34 [.float .f64 fr, .float .f64 st, .slice ao n cap]
  have TA := Lib.hid (hta.alloc (objV 34 [.float .f64 fr, .float .f64 st, .slice ao n cap]))
  simp only [objV, List.cons_append, List.nil_append] at K TA
  clear hta
  have c1_0 := (K.at_ 1 rfl).at_ 0 _ rfl
  have c1_1 := (K.at_ 1 rfl).at_ 1 _ rfl
  have c1_2 := (K.at_ 1 rfl).at_ 2 _ rfl
  replace K := Lib.hid K
  go_wp2_with fail
  replace K := K.out
  generalize v2.alloc _ = w2 at *
  generalize v2.heap.size = g1 at *
  refine (R1.out w2 ao cap TA.out).mono ?_
  rintro _ v3 ⟨rfl, hb'⟩
  clear c1_0 c1_1 c1_2 R1
  replace K := K.on hb'
  have TB' := Lib.hid (TA.out.on hb')
  clear hb' TA
  replace K := K.new 41 [.float .f64 p1, .float .f64 p2, .float .f64 p3]
  have TB := Lib.hid (TB'.out.alloc (objV 41 [.float .f64 p1, .float .f64 p2, .float .f64 p3]))
  simp only [objV, List.cons_append, List.nil_append] at K TB
  clear TB'
  have c1_0 := (K.at_ 1 rfl).at_ 0 _ rfl
  have c1_1 := (K.at_ 1 rfl).at_ 1 _ rfl
  have c1_2 := (K.at_ 1 rfl).at_ 2 _ rfl
  have c0_0 := (K.at_ 0 rfl).at_ 0 _ rfl
  replace K := Lib.hid K
  go_wp2_with fail
  replace K := K.out
  generalize v3.alloc _ = w3 at *
  generalize v3.heap.size = g2 at *
  refine (R2.out w3 ao cap TB.out).mono ?_
  rintro _ v4 ⟨rfl, hb'⟩
  clear c1_0 c1_1 c1_2 c0_0 R2
  replace K := K.on hb'
  have TC' := Lib.hid (TB.out.on hb')
  clear hb' TB
  replace K := K.new 41 [.float .f64 q1, .float .f64 q2, .float .f64 q3]
  have TC := Lib.hid (TC'.out.alloc (objV 41 [.float .f64 q1, .float .f64 q2, .float .f64 q3]))
  simp only [objV, List.cons_append, List.nil_append] at K TC
  clear TC'
  by_cases z1 : kr = 0
  · by_cases z2 : ke = 0
    · subst z1 z2
      cases lo with
      | true =>
        have e := LE.out (by trivial) (by trivial) (by trivial)
        simp only [Prod.mk.injEq] at e
        obtain ⟨rfl, rfl, rfl⟩ := e
        clear LE
        have SV := Lib.hid (fun w => samevec_run p1 p2 p3 w)
        have c0_0 := (K.at_ 0 rfl).at_ 0 _ rfl
        have c2_0 := (K.at_ 2 rfl).at_ 0 _ rfl
        have c2_1 := (K.at_ 2 rfl).at_ 1 _ rfl
        have c2_2 := (K.at_ 2 rfl).at_ 2 _ rfl
        have c3_0 := (K.at_ 3 rfl).at_ 0 _ rfl
        have c3_1 := (K.at_ 3 rfl).at_ 1 _ rfl
        have c3_2 := (K.at_ 3 rfl).at_ 2 _ rfl
        replace K := Lib.hid K
        go_wp2_with fail
        replace K := K.out
        generalize v4.alloc _ = w4 at *
        generalize v4.heap.size = g3 at *
        refine (SV.out w4).mono ?_
        rintro _ v5 ⟨rfl, hb'⟩
        clear c0_0 c2_0 c2_1 c2_2 c3_0 c3_1 c3_2 SV
        replace K := K.on hb'
        have TC' := Lib.hid (TC.out.on hb')
        clear hb' TC
        have TC := TC'
        clear TC'
        have c0_0 := (K.at_ 0 rfl).at_ 0 _ rfl
        have c0_1 := (K.at_ 0 rfl).at_ 1 _ rfl
        have c0_2 := (K.at_ 0 rfl).at_ 2 _ rfl
        replace K := Lib.hid K
        go_wp2_with fail
        replace K := K.out
        refine (P1.out (by trivial) v5 K.old).mono ?_
        rintro _ u1 ⟨rfl, hb'⟩
        clear c0_0 c0_1 c0_2 P1
        replace K := K.on hb'
        have TD := Lib.hid (TC.out.on hb')
        clear hb' TC
        have c0_0 := (K.at_ 0 rfl).at_ 0 _ rfl
        have c0_1 := (K.at_ 0 rfl).at_ 1 _ rfl
        have c0_2 := (K.at_ 0 rfl).at_ 2 _ rfl
        replace K := Lib.hid K
        go_wp2_with fail
        replace K := K.out
        refine (P2.out (by trivial) u1 K.old).mono ?_
        rintro _ u2 ⟨rfl, hb'⟩
        clear c0_0 c0_1 c0_2 P2
        replace K := K.on hb'
        have TE := Lib.hid (TD.out.on hb')
        clear hb' TD
        have c0_2 := (K.at_ 0 rfl).at_ 2 _ rfl
        by_cases z3 : r2 = 0
        · subst z3
          rw [if_pos rfl]
          by_cases z4 : (i1 : Int) = (n : Int) - 1
          · have t4 : ((i1 : Int) != (n : Int) - 1) = false := by simpa using z4
            by_cases z5 : (i2 : Int) = (i1 : Int)
            · have t5 : ((i2 : Int) != (i1 : Int)) = false := by simpa using z5
              cases o1 with
              | true =>
                clear z4 z5 ZE
                replace K := Lib.hid K
                go_wp2_with fail
                go_ret
                exact ⟨rfl, K.out.old⟩
              | false =>
                cases o2 with
                | true =>
                  clear z4 z5 ZE
                  replace K := Lib.hid K
                  go_wp2_with fail
                  go_ret
                  exact ⟨rfl, K.out.old⟩
                | false =>
                  obtain ⟨e1, e2⟩ := ZE.out (by trivial) (by trivial) (by omega) (by trivial) (by trivial)
                  try dsimp only at e1 e2
                  simp only [Prod.mk.injEq] at e2
                  obtain ⟨rfl, rfl, rfl⟩ := e2
                  subst e1
                  clear z4 z5 ZE
                  have c1_0 := (K.at_ 1 rfl).at_ 0 _ rfl
                  have c1_1 := (K.at_ 1 rfl).at_ 1 _ rfl
                  have c1_2 := (K.at_ 1 rfl).at_ 2 _ rfl
                  replace K := Lib.hid K
                  go_wp2_with fail
                  replace K := K.out
                  refine (R3.out u2 ao cap TE.out).mono ?_
                  rintro _ u3 ⟨rfl, hb'⟩
                  clear c0_2 c1_0 c1_1 c1_2 R3 TE
                  replace K := K.on hb'
                  clear hb'
                  replace K := K.new 41 [.float .f64 s1, .float .f64 s2, .float .f64 s3]
                  simp only [objV, List.cons_append, List.nil_append] at K
                  have c2_0 := (K.at_ 2 rfl).at_ 0 _ rfl
                  have c2_1 := (K.at_ 2 rfl).at_ 1 _ rfl
                  have c2_2 := (K.at_ 2 rfl).at_ 2 _ rfl
                  have c4_0 := (K.at_ 4 rfl).at_ 0 _ rfl
                  have c4_1 := (K.at_ 4 rfl).at_ 1 _ rfl
                  have c4_2 := (K.at_ 4 rfl).at_ 2 _ rfl
                  have SV := Lib.hid (fun w => samevec_run s1 s2 s3 w)
                  replace K := Lib.hid K
                  go_wp2_with fail
                  replace K := K.out
                  generalize u3.alloc _ = w5 at *
                  generalize u3.heap.size = g5 at *
                  refine (SV.out w5).mono ?_
                  rintro _ u4 ⟨rfl, hb'⟩
                  clear c2_0 c2_1 c2_2 c4_0 c4_1 c4_2 SV
                  replace K := K.on hb'
                  clear hb'
                  replace K := Lib.hid K
                  go_wp2_with fail
                  go_ret
                  exact ⟨rfl, K.out.old⟩
            · have t5 : ((i2 : Int) != (i1 : Int)) = true := by simpa using z5
              clear z4 z5 ZE
              replace K := Lib.hid K
              go_wp2_with fail
              go_ret
              exact ⟨rfl, K.out.old⟩
          · have t4 : ((i1 : Int) != (n : Int) - 1) = true := by simpa using z4
            clear z4 ZE
            replace K := Lib.hid K
            go_wp2_with fail
            go_ret
            exact ⟨rfl, K.out.old⟩
        · have t3 : (r2 != 0) = true := by simpa using z3
          rw [if_neg z3]
          clear z3 ZE
          replace K := Lib.hid K
          go_wp2_with fail
          go_ret
          exact ⟨rfl, K.out.old⟩
      | false =>
        clear LE
        have c0_0 := (K.at_ 0 rfl).at_ 0 _ rfl
        have c0_1 := (K.at_ 0 rfl).at_ 1 _ rfl
        have c0_2 := (K.at_ 0 rfl).at_ 2 _ rfl
        replace K := Lib.hid K
        go_wp2_with fail
        replace K := K.out
        generalize v4.alloc _ = w4 at *
        generalize v4.heap.size = g3 at *
        clear c0_0 c0_1 c0_2
        refine (P1.out (by trivial) w4 K.old).mono ?_
        rintro _ u1 ⟨rfl, hb'⟩
        clear P1
        replace K := K.on hb'
        have TD := Lib.hid (TC.out.on hb')
        clear hb' TC
        have c0_0 := (K.at_ 0 rfl).at_ 0 _ rfl
        have c0_1 := (K.at_ 0 rfl).at_ 1 _ rfl
        have c0_2 := (K.at_ 0 rfl).at_ 2 _ rfl
        replace K := Lib.hid K
        go_wp2_with fail
        replace K := K.out
        refine (P2.out (by trivial) u1 K.old).mono ?_
        rintro _ u2 ⟨rfl, hb'⟩
        clear c0_0 c0_1 c0_2 P2
        replace K := K.on hb'
        have TE := Lib.hid (TD.out.on hb')
        clear hb' TD
        have c0_2 := (K.at_ 0 rfl).at_ 2 _ rfl
        by_cases z3 : r2 = 0
        · subst z3
          rw [if_pos rfl]
          by_cases z4 : (i1 : Int) = (n : Int) - 1
          · have t4 : ((i1 : Int) != (n : Int) - 1) = false := by simpa using z4
            by_cases z5 : (i2 : Int) = (i1 : Int)
            · have t5 : ((i2 : Int) != (i1 : Int)) = false := by simpa using z5
              cases o1 with
              | true =>
                clear z4 z5 ZE
                replace K := Lib.hid K
                go_wp2_with fail
                go_ret
                exact ⟨rfl, K.out.old⟩
              | false =>
                cases o2 with
                | true =>
                  clear z4 z5 ZE
                  replace K := Lib.hid K
                  go_wp2_with fail
                  go_ret
                  exact ⟨rfl, K.out.old⟩
                | false =>
                  obtain ⟨e1, e2⟩ := ZE.out (by trivial) (by trivial) (by omega) (by trivial) (by trivial)
                  try dsimp only at e1 e2
                  simp only [Prod.mk.injEq] at e2
                  obtain ⟨rfl, rfl, rfl⟩ := e2
                  subst e1
                  clear z4 z5 ZE
                  have c1_0 := (K.at_ 1 rfl).at_ 0 _ rfl
                  have c1_1 := (K.at_ 1 rfl).at_ 1 _ rfl
                  have c1_2 := (K.at_ 1 rfl).at_ 2 _ rfl
                  replace K := Lib.hid K
                  go_wp2_with fail
                  replace K := K.out
                  refine (R3.out u2 ao cap TE.out).mono ?_
                  rintro _ u3 ⟨rfl, hb'⟩
                  clear c0_2 c1_0 c1_1 c1_2 R3 TE
                  replace K := K.on hb'
                  clear hb'
                  replace K := K.new 41 [.float .f64 s1, .float .f64 s2, .float .f64 s3]
                  simp only [objV, List.cons_append, List.nil_append] at K
                  have c2_0 := (K.at_ 2 rfl).at_ 0 _ rfl
                  have c2_1 := (K.at_ 2 rfl).at_ 1 _ rfl
                  have c2_2 := (K.at_ 2 rfl).at_ 2 _ rfl
                  have c4_0 := (K.at_ 4 rfl).at_ 0 _ rfl
                  have c4_1 := (K.at_ 4 rfl).at_ 1 _ rfl
                  have c4_2 := (K.at_ 4 rfl).at_ 2 _ rfl
                  have SV := Lib.hid (fun w => samevec_run s1 s2 s3 w)
                  replace K := Lib.hid K
                  go_wp2_with fail
                  replace K := K.out
                  generalize u3.alloc _ = w5 at *
                  generalize u3.heap.size = g5 at *
                  refine (SV.out w5).mono ?_
                  rintro _ u4 ⟨rfl, hb'⟩
                  clear c2_0 c2_1 c2_2 c4_0 c4_1 c4_2 SV
                  replace K := K.on hb'
                  clear hb'
                  replace K := Lib.hid K
                  go_wp2_with fail
                  go_ret
                  exact ⟨rfl, K.out.old⟩
            · have t5 : ((i2 : Int) != (i1 : Int)) = true := by simpa using z5
              clear z4 z5 ZE
              replace K := Lib.hid K
              go_wp2_with fail
              go_ret
              exact ⟨rfl, K.out.old⟩
          · have t4 : ((i1 : Int) != (n : Int) - 1) = true := by simpa using z4
            clear z4 ZE
            replace K := Lib.hid K
            go_wp2_with fail
            go_ret
            exact ⟨rfl, K.out.old⟩
        · have t3 : (r2 != 0) = true := by simpa using z3
          rw [if_neg z3]
          clear z3 ZE
          replace K := Lib.hid K
          go_wp2_with fail
          go_ret
          exact ⟨rfl, K.out.old⟩
    · have t2 : (ke != 0) = true := by simpa using z2
      subst z1
      clear LE ZE z2 P1 P2
      replace K := Lib.hid K
      go_wp2_with fail
      go_ret
      exact ⟨rfl, K.out.old⟩
  · have t1 : (kr != 0) = true := by simpa using z1
    clear LE ZE z1 P1 P2
    replace K := Lib.hid K
    go_wp2_with fail
    go_ret
    exact ⟨rfl, K.out.old⟩

set_option maxRecDepth 100000 in
theorem own : ownKnob Try.prog.godebug = none := by kernel_rfl
set_option maxRecDepth 100000 in
theorem laidOut : laidOutB Try.prog = true := by kernel_rfl
set_option maxRecDepth 100000 in
theorem lifted (os : Os) (started : os.Started) (H : Type) (enc : TypeId × Value → H) :
    ReturnsInHanded {} Try.checked os 8 .any (Rows.chebEndsSpec.pre6 enc Try.prog Try.f8 Rows.chebEndsRow.domain false) (Rows.chebEndsSpec.post enc Try.prog Try.f8 false true false false) := by
  refine returnsInHanded_of_change_sized (C := Try.checked) own started (by kernel_rfl) Try.func8
    (ChangeSpec.witness6 (enc := enc) (C := Try.checked) false ⟨#[], #[.agg #[.float .f64 0, .float .f64 0, .slice none 0 0], .float .f64 0, .float .f64 0], []⟩ 8 (by kernel_rfl) (by kernel_rfl) (by kernel_rfl) (by kernel_rfl)) ?_
  intro W base args ds gs before hval0 hW _ hsz0 _
  have hsz : (DataW.weightsEach Try.prog (Try.f8.params.toList ++ Rows.chebEndsSpec.plain.varTypes Try.prog) (ds ++ gs)).all (· ≤ reachBytes) = true := hsz0
  clear hsz0
  have hval : ∀ (j : Nat) t v, Try.f8.params[j]? = some t → args[j]? = some v → Value.okWide Try.prog W .any base t v := hval0
  have hW' := hW
  obtain ⟨p, q, hA0, hV, rfl, _, _⟩ := hW
  have hA : DataW.TrodAll enc Try.prog W 0 (fun _ => true) true Try.f8.params.toList args.toList ds p := hA0
  rw [Try.params8] at hA hval hsz
  obtain ⟨v0, vs0, d0, ds0, p0, q0, hargs, rfl, rfl, t0, r0⟩ := trodAll_cons hA
  obtain ⟨v1, vs1, d1, ds1, p1, q1, rfl, rfl, rfl, t1, r1⟩ := trodAll_cons r0
  obtain ⟨v2, vs2, d2, ds2, p2, q2, rfl, rfl, rfl, t2, r2⟩ := trodAll_cons r1
  obtain ⟨rfl, rfl, rfl⟩ := trodAll_nil r2
  obtain rfl : args = #[v0, v1, v2] := by cases args; simp_all
  obtain ⟨rfl, rfl⟩ := trodVars_none hV
  simp only [List.append_nil] at hW'
  have tk0 := t0
  obtain ⟨T0, ao0, cap0, e0_0, e1_0, e2_0, rfl, hc0, hm0, hn0, hw0, ha0, hd0, hT0⟩ := open_tab (hval 0 34 v0 rfl rfl) t0
  subst hd0
  have hS0 : TbSz T0 := td_size hT0 (fun x hx => by
    have h := List.all_eq_true.1 hsz _ (DataW.weights_mem_each (j := 0) (t := 34) rfl rfl x (by simp only [DataW.weights, Try.underlying34]; exact DataW.weights_mem_each (j := 2) (t := 32) rfl rfl x hx))
    simpa using h)
  have hlt0 : ∀ x ∈ p0, x.block < W.heap.size := fun x hx => by have := hW'.lt x (by simp [hx]); simpa using this
  obtain ⟨a1, rfl, rfl, rfl, w1⟩ := open_float Try.underlying30 (hval 1 30 v1 rfl rfl) t1
  obtain ⟨a2, rfl, rfl, rfl, w2⟩ := open_float Try.underlying30 (hval 2 30 v2 rfl rfl) t2
  clear hA0 hval0
  refine (walk W ao0 cap0 T0 hc0 hm0 hn0 hw0 ha0 hS0 a1 (wf64 w1) a2 (wf64 w2)).mono fun e W' ⟨he, hb⟩ => ?_
  subst he
  refine ⟨_, rfl, _, _, _, [], _, [], hW', trodAll_cons_mk (shut_bool Try.underlying4 _) trodAll_mk0, (trodAll_cons_mk (Below.trod laidOut (by kernel_rfl) (of_decide_eq_true (by kernel_rfl)) tk0 hb hlt0) (trodAll_cons_mk (shut_float Try.underlying30 w1) (trodAll_cons_mk (shut_float Try.underlying30 w2) trodAll_mk0))), rfl, hb.frame _, fun h => by cases h⟩

set_option maxRecDepth 100000 in
theorem over : Rows.chebEndsRow.holds Try.pinned (OpenSpec.ofChange Rows.chebEndsSpec) :=
  OpenClaim.holds_of_wide 8 Try.f8 rfl rfl rfl rfl rfl rfl rfl ⟨rfl, rfl, rfl, rfl, rfl⟩ rfl rfl rfl rfl rfl (by kernel_rfl) Try.func8 (by kernel_rfl)
    (of_decide_eq_true (by kernel_rfl)) (by unfold Func.isWrapper; first | (rw [if_pos (by decide +kernel)]; kernel_rfl) | (rw [if_neg (by decide +kernel)]; exact ⟨rfl, rfl⟩))
    (fun os started H enc _ => lifted os started H enc)

theorem proved : Rows.ChebEndsSaid :=
  over
end Go.Proofs.Ytnmadknpkhaolaa.chebEnds
