/- Proved here: for all masses, numbers g and n the law StepTells returns true: Check and Run answer as the document says, the masses stay, and the answer is new. No conditions. -/
import Derived.Test.YtgfedhlnaipngaaRows
import Derived.Test.YtgfedhlnaipngaaJz11
import Derived.Test.YtgfedhlnaipngaaJz10
import Derived.Test.YtgfedhlnaipngaaJz12
import Derived.ArgAppend
namespace Go.Proofs.Ytgfedhlnaipngaa.stepTells
open Go.ChangeShapes Go.WideShapes Go.ChangeAt Go.RowKit

theorem maC_setm (a : Ma) (y : Int) : (maC a).set 0 (.int .i64 y) = maC { a with m := y } := rfl
theorem OwM.setm {g : Nat} {l : List Ma} {w : World} (h : OwM g l w) {j : Nat} (hj : j < l.length) (y : Int) : OwM g (l.set j { mAt l j with m := y }) (w.setCell ⟨g, j * 7, none⟩ (.int .i64 y)) := by
  have := BV.set1 h (flatM_at hj (maC_m _)) (.int .i64 y)
  rwa [flatM_set hj (by omega) (maC_setm _ y), Nat.add_zero] at this
theorem OwM.frm {g : Nat} {l : List Ma} {w : World} (h : OwM g l w) {j : Nat} (hj : j < l.length) : w.frozen? ⟨g, j * 7, none⟩ = false := by
  have := BV.fr h _ _ (flatM_at hj (maC_m _))
  rwa [Nat.add_zero] at this
theorem MAt.take {w : World} {ao : Option Addr} {L : List Ma} (h : MAt w ao L) (k : Nat) : MAt w ao (L.take k) := fun j r hj => h j r (by
  rw [List.map_take] at hj
  have hl := (List.getElem?_eq_some_iff.1 hj).1
  rw [List.length_take] at hl
  rw [List.getElem?_take_of_lt (by omega)] at hj
  exact hj)
/-- a list in an elder block stays, whatever goes on from block b on -/
theorem MAt.under {w w' : World} {g b : Nat} {L : List Ma} (h : MAt w (some ⟨g, 0, none⟩) L) (hb : Below b w w') (hg : g < b) : MAt w' (some ⟨g, 0, none⟩) L :=
  RAt.below h (fun b' o e _ => by cases e; exact hg) hb
theorem OwM.at_' {g : Nat} {l : List Ma} {w : World} (h : OwM g l w) (j : Nat) (u : Value) (e : (flatM l)[j]? = some u) : w.cell? ⟨g, j, none⟩ = some u := BV.at_ h j u e
set_option maxHeartbeats 40000000 in
set_option maxRecDepth 100000 in
theorem walk (w : World) (ao0 : Option Addr) (cap0 : Nat) (L0 : List Ma) (hc0 : L0.length ≤ cap0) (hm0 : cap0 ≤ maxLen) (ha0 : MAt w ao0 L0) (hw0 : MsW L0) (hr0 : cap0 * 56 ≤ 140737488351232) (hn0 : ao0 = none → cap0 = 0) (a1 : Nat) (h1 : a1 < 18446744073709551616) (a2 : Int) (_h2 : (Lit.int .i64 a2).wf = true) :
    Calls Try.prog 3 #[.slice ao0 L0.length cap0, .float .f64 a1, .int .i64 a2] w fun e w' => e = .returned (.bool true) ∧ Below w.heap.size w w' := by
  have AW := Lib.hid awake14
  obtain ⟨n, hn⟩ : ∃ n, n = L0.length := ⟨_, rfl⟩
  rw [← hn] at hc0 ⊢
  have hrn : n * 56 ≤ 140737488351232 := by omega
  have hmn : n ≤ maxLen := by omega
  have hm2 : n ≤ 4611686018427387904 := by unfold maxLen at hmn; omega
  have hm3 : (n : Int) ≤ 4611686018427387904 := by omega
  have CK := Lib.hid (fun W (h : MAt W ao0 L0) => gcheck_run ao0 cap0 n L0 W hn hm2 h)
  have CQ := Lib.hid (fun W (h : MAt W ao0 L0) => rgcheck_run ao0 cap0 n L0 W hn hm2 h)
  have tk : (chkM L0 != chkM L0) = false := by simp
  generalize chkM L0 = ck at *
  have nilA : Hid (∀ W, MAt W none []) := Lib.hid fun W j r h => by simp at h
  replace hn := Lib.hid hn
  replace ha0 := Lib.hid ha0
  replace hw0 := Lib.hid hw0
  replace hmn := Lib.hid hmn
  replace hc0 := Lib.hid hc0
  replace hm0 := Lib.hid hm0
  replace hn0 := Lib.hid hn0
  replace hr0 := Lib.hid hr0
  replace h1 := Lib.hid h1
  have FW := few_run a2 (rng_of _h2)
  by_cases p1 : -4000 < a2
  · by_cases p2 : a2 < 4000
    · generalize fewI a2 = N at *
      have d1 : decide (-4000 < a2) = true := decide_eq_true (by omega)
      have d2 : decide (a2 < 4000) = true := decide_eq_true (by omega)
      have hnT := hn
      have haT : Hid (∀ W, Below w.heap.size w W → MAt W ao0 L0) := Lib.hid fun W h => ha0.out.below (fun b o e k => ha0.out.lt b o e k) h
      have hx1 : Hid (n + 2 ≤ maxLen) := by show _ ≤ _; unfold maxLen; omega
      have hx2 : Hid ((n + 2) * 56 ≤ 140737488355328) := by show _ ≤ _; omega
      have hx3 : Hid (n * 56 ≤ 140737488351232) := Lib.hid hrn
      have RO := Lib.hid (fun W (h : MAt W ao0 L0) => groomy_run ao0 cap0 n L0 W hnT.out hx1.out (by have := hx2.out; omega) hn0.out h)
      have RQ := Lib.hid (fun W (h : MAt W ao0 L0) => rgRun_run ao0 cap0 n L0 a1 W (nn := N) hnT.out (by omega) h h1.out hx3.out hn0.out)
      have RU := Lib.hid (fun W ao cap (L : List Ma) (k : Int) (hL : n = L.length) (ha : MAt W ao L) => gRun_run ao cap n L a1 W (nn := k) hL (by omega) ha h1.out)
      cases hR : (RunR L0 a1 N).2 with
      | none =>
        replace hR := Lib.hid hR
        go_enter Try.func3, Try.ntmps3
        go_wp2_with fail
        refine (AW.out w).mono ?_
        rintro _ v1 ⟨rfl, hb⟩
        have K := Lib.hid hb
        clear hb AW
        go_wp2_with fail
        have c1 := Lib.hid (ha0.out.below (fun b o e h => ha0.out.lt b o e h) K.out)
        refine (CK.out _ c1.out).mono ?_
        rintro _ v2 ⟨rfl, hb⟩
        replace K := Lib.hid (K.out.trans (hb.mono K.out.size))
        clear hb c1
        have c1 := Lib.hid (ha0.out.below (fun b o e h => ha0.out.lt b o e h) K.out)
        go_wp2_with fail
        refine (CQ.out _ c1.out).mono ?_
        rintro _ v3 ⟨rfl, hb⟩
        replace K := Lib.hid (K.out.trans (hb.mono K.out.size))
        clear hb c1 CK CQ
        go_wp2_with (first | (go_at_call 13; ((with_reducible refine (FW _).mono ?_); rintro e w' ⟨rfl, rfl⟩)))
        refine (RO.out _ (haT.out _ K.out)).mono ?_
        rintro _ v4 ⟨gr, cr, rfl, hr1, hr2, R4, hgr, hb⟩
        have K4 := Lib.hid (K.out.trans (hb.mono K.out.size))
        replace R4 := Lib.hid R4
        have gl := Lib.hid (show w.heap.size ≤ gr from Nat.le_trans K.out.size hgr)
        replace hr1 := Lib.hid hr1
        replace hr2 := Lib.hid hr2
        clear hb hgr K RO
        go_wp2_with fail
        refine (RU.out v4 _ cr L0 N hnT.out R4.out.left).mono ?_
        rintro _ v5 ⟨hb, he, -⟩
        obtain rfl := he hR.out
        have K5 := Lib.hid (K4.out.trans (hb.mono K4.out.size))
        have R5 := Lib.hid (RAt.on R4.out hb)
        clear hb he K4 R4 RU
        go_wp2_with fail
        refine (RQ.out v5 (haT.out _ K5.out)).mono ?_
        rintro _ v6 ⟨hb, he, -⟩
        obtain rfl := he hR.out
        have K6 := Lib.hid (K5.out.trans (hb.mono K5.out.size))
        have R6 := Lib.hid (RAt.on R5.out hb)
        clear hb he K5 R5 RQ hR
        generalize (RunR L0 a1 N).1 = er at *
        have te : (er != er) = false := by simp
        go_wp2_with fail
        refine (gsame_run none none 0 0 0 [] v6 rfl (by omega) (nilA.out _) (nilA.out _)).mono ?_
        rintro _ v7 ⟨rfl, hb⟩
        have R7 := Lib.hid (RAt.on R6.out hb)
        replace K6 := Lib.hid (K6.out.trans (hb.mono K6.out.size))
        clear hb R6
        go_wp2_with fail
        refine (gkept_run gr ao0 cap0 cr n L0 v7 hnT.out (by omega) hr1.out hr2.out R7.out (haT.out _ K6.out)).mono ?_
        rintro _ v8 ⟨rfl, hb⟩
        have R8 := Lib.hid (RAt.on R7.out hb)
        replace K6 := Lib.hid (K6.out.trans (hb.mono K6.out.size))
        clear hb R7
        go_upto_region 13 with fail
        go_wp2_with fail
        go_loopw [12] (fun iv wr => iv = .int .i64 0 ∧ wr = v8) (fun _ _ => 0)
        case atStart => exact ⟨rfl, rfl⟩
        case round =>
          obtain ⟨rfl, rfl⟩ := hrel
          obtain ⟨i0, hi0, hz0, hz1, hz2⟩ := info_ofR recM.info
          have news : ∀ j u, ([.int .i64 0, .int .i64 0, .int .i64 0, .int .i64 0, .int .i64 0, .int .i64 0, .int .i64 0, .int .i64 0, .int .i64 0, .int .i64 0, .int .i64 0, .int .i64 0, .int .i64 0, .int .i64 0] : List Value)[j]? = some u → (wr.alloc (.cells #[.int .i64 0, .int .i64 0, .int .i64 0, .int .i64 0, .int .i64 0, .int .i64 0, .int .i64 0, .int .i64 0, .int .i64 0, .int .i64 0, .int .i64 0, .int .i64 0, .int .i64 0, .int .i64 0] 34)).cell? ((⟨wr.heap.size, 0, none⟩ : Addr).add j) = some u := fun j u h => by
            have B := BV.box wr 34 [.int .i64 0, .int .i64 0, .int .i64 0, .int .i64 0, .int .i64 0, .int .i64 0, .int .i64 0, .int .i64 0, .int .i64 0, .int .i64 0, .int .i64 0, .int .i64 0, .int .i64 0, .int .i64 0]
            rw [ad_plainR, Nat.zero_add]
            exact B.at_ j u h
          have KA := Lib.hid (K6.out.alloc K6.out.size (.cells #[.int .i64 0, .int .i64 0, .int .i64 0, .int .i64 0, .int .i64 0, .int .i64 0, .int .i64 0, .int .i64 0, .int .i64 0, .int .i64 0, .int .i64 0, .int .i64 0, .int .i64 0, .int .i64 0] 34))
          have RA := Lib.hid (RAt.alloc R8.out (.cells #[.int .i64 0, .int .i64 0, .int .i64 0, .int .i64 0, .int .i64 0, .int .i64 0, .int .i64 0, .int .i64 0, .int .i64 0, .int .i64 0, .int .i64 0, .int .i64 0, .int .i64 0, .int .i64 0] 34))
          replace news := Lib.hid news
          clear K6 R8
          go_wp2_with (at_builtin; refine wpList_append_grows _ rfl _ _ _ rfl 34 i0 _ 7 56 Try.underlying22 hi0 hz0 hz1 hz2 rfl (by decide) none 0 0 [] rfl (fun _ => ⟨rfl, rfl⟩) rfl (by intro b h; cases h) ⟨wr.heap.size, 0, none⟩ 2 2 [.int .i64 0, .int .i64 0, .int .i64 0, .int .i64 0, .int .i64 0, .int .i64 0, .int .i64 0, .int .i64 0, .int .i64 0, .int .i64 0, .int .i64 0, .int .i64 0, .int .i64 0, .int .i64 0] rfl rfl news.out (by intro u hu; simp at hu; subst hu; rfl) (by omega) (by decide) (by decide) ?_)
          intro v' w9 ho hg
          have hbg : Below w.heap.size w w9 := KA.out.grown hg KA.out.size (by intro k h; cases h)
          have K9 := Lib.hid hbg
          have R9 := Lib.hid (show MAt w9 (some ⟨gr, 0, none⟩) _ from RAt.on RA.out ((Below.refl _ _).grown hg (Nat.le_refl _) (by intro k h; cases h)))
          obtain ⟨aof, cf, e9⟩ : ∃ aof cf, v' = .slice aof (0 + 2) cf := by
            rcases ho.2 with ⟨-, h0⟩ | ⟨g9, c9, cur, hv, -⟩
            · omega
            · exact ⟨_, _, hv⟩
          subst e9
          clear ho hg KA RA hbg news hi0 hz0 hz1 hz2
          go_wp2_with fail
          refine (gkept_run gr ao0 cap0 cr n L0 w9 hnT.out (by omega) hr1.out hr2.out R9.out (haT.out _ K9.out)).mono ?_
          rintro _ v10 ⟨rfl, hb⟩
          have K10 := Lib.hid (K9.out.trans (hb.mono K9.out.size))
          clear hb K9 R9
          go_wp2_with fail
          go_ret
          exact ⟨by first | rfl | trivial, K10.out⟩
      | some s =>
        have hq : Hid (n = s.length) := by show _ = _; rw [(RunR_kept hR).2.2.1]; exact hnT.out
        replace hR := Lib.hid hR
        go_enter Try.func3, Try.ntmps3
        go_wp2_with fail
        refine (AW.out w).mono ?_
        rintro _ v1 ⟨rfl, hb⟩
        have K := Lib.hid hb
        clear hb AW
        go_wp2_with fail
        have c1 := Lib.hid (ha0.out.below (fun b o e h => ha0.out.lt b o e h) K.out)
        refine (CK.out _ c1.out).mono ?_
        rintro _ v2 ⟨rfl, hb⟩
        replace K := Lib.hid (K.out.trans (hb.mono K.out.size))
        clear hb c1
        have c1 := Lib.hid (ha0.out.below (fun b o e h => ha0.out.lt b o e h) K.out)
        go_wp2_with fail
        refine (CQ.out _ c1.out).mono ?_
        rintro _ v3 ⟨rfl, hb⟩
        replace K := Lib.hid (K.out.trans (hb.mono K.out.size))
        clear hb c1 CK CQ
        go_wp2_with (first | (go_at_call 13; ((with_reducible refine (FW _).mono ?_); rintro e w' ⟨rfl, rfl⟩)))
        refine (RO.out _ (haT.out _ K.out)).mono ?_
        rintro _ v4 ⟨gr, cr, rfl, hr1, hr2, R4, hgr, hb⟩
        have K4 := Lib.hid (K.out.trans (hb.mono K.out.size))
        replace R4 := Lib.hid R4
        have gl := Lib.hid (show w.heap.size ≤ gr from Nat.le_trans K.out.size hgr)
        replace hr1 := Lib.hid hr1
        replace hr2 := Lib.hid hr2
        clear hb hgr K RO
        go_wp2_with fail
        refine (RU.out v4 _ cr L0 N hnT.out R4.out.left).mono ?_
        rintro _ v5 ⟨hb, -, hs⟩
        obtain ⟨b, rfl, hbb, O5⟩ := hs s hR.out
        rw [← hq.out]
        have gb : Hid (gr < b) := by
          have := RAt.lt R4.out gr 0 rfl (by simp)
          show _ < _
          omega
        have K5 := Lib.hid (K4.out.trans (hb.mono K4.out.size))
        have R5 := Lib.hid (RAt.on R4.out hb)
        replace O5 := Lib.hid O5
        clear hb hs K4 R4 RU hbb
        go_wp2_with fail
        refine (RQ.out v5 (haT.out _ K5.out)).mono ?_
        rintro _ v6 ⟨hb, -, hs⟩
        obtain ⟨aoq, cq, rfl, Q6⟩ := hs s hR.out
        rw [← hq.out]
        have K6 := Lib.hid (K5.out.trans (hb.mono K5.out.size))
        have R6 := Lib.hid (RAt.on R5.out hb)
        have O6 := Lib.hid (O5.out.on hb)
        replace Q6 := Lib.hid Q6
        clear hb hs K5 R5 RQ hR O5
        go_wp2_with fail
        refine (gsame_run _ _ n cq n s v6 hq.out (by omega) O6.out.at_ Q6.out).mono ?_
        rintro _ v7 ⟨rfl, hb⟩
        have R7 := Lib.hid (RAt.on R6.out hb)
        have O7 := Lib.hid (O6.out.on hb)
        replace K6 := Lib.hid (K6.out.trans (hb.mono K6.out.size))
        clear hb R6 O6 Q6
        go_wp2_with fail
        refine (gkept_run gr ao0 cap0 cr n L0 v7 hnT.out (by omega) hr1.out hr2.out R7.out (haT.out _ K6.out)).mono ?_
        rintro _ v8 ⟨rfl, hb⟩
        have R8 := Lib.hid (RAt.on R7.out hb)
        have O8 := Lib.hid (O7.out.on hb)
        replace K6 := Lib.hid (K6.out.trans (hb.mono K6.out.size))
        clear hb R7 O7
        go_upto_region 13 with fail
        go_wp2_with fail
        go_loopw [12] (fun iv wr => ∃ (i : Nat) (M : List Ma), i ≤ n ∧ M.length = n ∧ iv = .int .i64 i ∧ OwM b M wr ∧ Below b v8 wr) (fun iv _ => n - (intOf iv).toNat)
        case atStart => exact ⟨0, s, Nat.zero_le _, hq.out.symm, rfl, O8.out, Below.refl _ _⟩
        case round =>
          obtain ⟨i, M, hi, hM, rfl, O, hbw⟩ := hrel
          by_cases hlt : i < n
          · have hiM : i < M.length := by omega
            have hin : (i : Int) < (n : Int) := by omega
            have c := O.m hiM
            have fz := OwM.frm O hiM
            have O2 := Lib.hid (OwM.setm O hiM (-1))
            have b2 := Lib.hid (hbw.setCell (p := ⟨b, i * 7, none⟩) (Nat.le_refl b) (.int .i64 (-1)))
            have hM2 := Lib.hid (show (M.set i { mAt M i with m := -1 }).length = n by rw [List.length_set]; exact hM)
            clear O hbw hM hiM O8
            go_wp2_with fail
            go_roundw
            case rel => exact ⟨i + 1, _, hlt, hM2.out, by go_num, O2.out, b2.out⟩
            case measure => simp [intOf]; omega
          · obtain rfl : n = i := by omega
            have O9 := O.at_
            have RZ := Lib.hid (MAt.under R8.out hbw gb.out)
            have KZ := Lib.hid (K6.out.trans (hbw.mono (by have := gb.out; have := gl.out; omega)))
            replace hM := Lib.hid hM
            replace O := Lib.hid O
            clear R8 K6 O8 hbw O9
            obtain ⟨i0, hi0, hz0, hz1, hz2⟩ := info_ofR recM.info
            have news : ∀ j u, ([.int .i64 0, .int .i64 0, .int .i64 0, .int .i64 0, .int .i64 0, .int .i64 0, .int .i64 0, .int .i64 0, .int .i64 0, .int .i64 0, .int .i64 0, .int .i64 0, .int .i64 0, .int .i64 0] : List Value)[j]? = some u → (wr.alloc (.cells #[.int .i64 0, .int .i64 0, .int .i64 0, .int .i64 0, .int .i64 0, .int .i64 0, .int .i64 0, .int .i64 0, .int .i64 0, .int .i64 0, .int .i64 0, .int .i64 0, .int .i64 0, .int .i64 0] 34)).cell? ((⟨wr.heap.size, 0, none⟩ : Addr).add j) = some u := fun j u h => by
              have B := BV.box wr 34 [.int .i64 0, .int .i64 0, .int .i64 0, .int .i64 0, .int .i64 0, .int .i64 0, .int .i64 0, .int .i64 0, .int .i64 0, .int .i64 0, .int .i64 0, .int .i64 0, .int .i64 0, .int .i64 0]
              rw [ad_plainR, Nat.zero_add]
              exact B.at_ j u h
            have olds : ∀ bb, (some ⟨b, 0, none⟩ : Option Addr) = some bb → ∀ j u, (flatM M)[j]? = some u → (wr.alloc (.cells #[.int .i64 0, .int .i64 0, .int .i64 0, .int .i64 0, .int .i64 0, .int .i64 0, .int .i64 0, .int .i64 0, .int .i64 0, .int .i64 0, .int .i64 0, .int .i64 0, .int .i64 0, .int .i64 0] 34)).cell? (bb.add j) = some u := fun bb e j u h => by
              obtain rfl := Option.some.inj e
              rw [ad_plainR, Nat.zero_add]
              exact OwM.at_' (OwM.on O.out ((Below.refl _ _).alloc (Nat.le_refl _) _)) j u h
            have fl : (flatM M).length = n * 7 := by unfold flatM; rw [flat_len (rows_ma M), List.length_map, hM.out]
            have KA := Lib.hid (KZ.out.alloc KZ.out.size (.cells #[.int .i64 0, .int .i64 0, .int .i64 0, .int .i64 0, .int .i64 0, .int .i64 0, .int .i64 0, .int .i64 0, .int .i64 0, .int .i64 0, .int .i64 0, .int .i64 0, .int .i64 0, .int .i64 0] 34))
            have RA := Lib.hid (RAt.alloc RZ.out (.cells #[.int .i64 0, .int .i64 0, .int .i64 0, .int .i64 0, .int .i64 0, .int .i64 0, .int .i64 0, .int .i64 0, .int .i64 0, .int .i64 0, .int .i64 0, .int .i64 0, .int .i64 0, .int .i64 0] 34))
            replace news := Lib.hid news
            replace olds := Lib.hid olds
            replace fl := Lib.hid fl
            clear KZ RZ
            go_wp2_with (at_builtin; refine wpList_append_grows _ rfl _ _ _ rfl 34 i0 _ 7 56 Try.underlying22 hi0 hz0 hz1 hz2 rfl (by decide) (some ⟨b, 0, none⟩) n n (flatM M) rfl (by intro h; cases h) fl.out olds.out ⟨wr.heap.size, 0, none⟩ 2 2 [.int .i64 0, .int .i64 0, .int .i64 0, .int .i64 0, .int .i64 0, .int .i64 0, .int .i64 0, .int .i64 0, .int .i64 0, .int .i64 0, .int .i64 0, .int .i64 0, .int .i64 0, .int .i64 0] rfl rfl news.out (by intro u hu; simp at hu; subst hu; rfl) (by omega) hx1.out hx2.out ?_)
            intro v' w9 ho hg
            have hbg : Below w.heap.size w w9 := KA.out.grown hg KA.out.size (by intro k h; cases h)
            have K9 := Lib.hid hbg
            have R9 := Lib.hid (show MAt w9 (some ⟨gr, 0, none⟩) _ from RAt.on RA.out ((Below.refl _ _).grown hg (Nat.le_refl _) (by intro k h; cases h)))
            obtain ⟨aof, cf, e9⟩ : ∃ aof cf, v' = .slice aof (n + 2) cf := by
              rcases ho.2 with ⟨-, h0⟩ | ⟨g9, c9, cur, hv, -⟩
              · omega
              · exact ⟨_, _, hv⟩
            subst e9
            clear ho hg KA RA hbg news olds hi0 hz0 hz1 hz2 O
            go_wp2_with fail
            refine (gkept_run gr ao0 cap0 cr n L0 w9 hnT.out (by omega) hr1.out hr2.out R9.out (haT.out _ K9.out)).mono ?_
            rintro _ v10 ⟨rfl, hb⟩
            have K10 := Lib.hid (K9.out.trans (hb.mono K9.out.size))
            clear hb K9 R9
            go_wp2_with fail
            go_ret
            exact ⟨by first | rfl | trivial, K10.out⟩
    · clear FW
      by_cases p3 : a2 ≤ 4096
      · by_cases p4 : 2 < n
        · have d1 : decide (-4000 < a2) = true := decide_eq_true (by omega)
          have d2 : decide (a2 < 4000) = false := decide_eq_false (by omega)
          have d3 : decide (-4096 ≤ a2) = true := decide_eq_true (by omega)
          have d4 : decide (a2 ≤ 4096) = true := decide_eq_true (by omega)
          have d5 : decide ((2 : Int) < n) = true := decide_eq_true (by omega)
          obtain ⟨LT, hLT⟩ : ∃ LT, LT = L0.take 2 := ⟨_, rfl⟩
          have hnT : Hid (2 = LT.length) := by show _ = _; rw [hLT, List.length_take]; have := hn.out; omega
          have haT : Hid (∀ W, Below w.heap.size w W → MAt W ao0 LT) := Lib.hid fun W h => by rw [hLT]; exact MAt.take (ha0.out.below (fun b o e k => ha0.out.lt b o e k) h) 2
          have hx1 : Hid (2 + 2 ≤ maxLen) := by show _ ≤ _; unfold maxLen; omega
          have hx2 : Hid ((2 + 2) * 56 ≤ 140737488355328) := by show _ ≤ _; omega
          have hx3 : Hid (2 * 56 ≤ 140737488351232) := by show _ ≤ _; omega
          have hc2 : ¬ (cap0 < 2) := by have := hc0.out; omega
          have hc3 : 2 ≤ cap0 := by have := hc0.out; omega
          replace hLT := Lib.hid hLT
          have RO := Lib.hid (fun W (h : MAt W ao0 LT) => groomy_run ao0 cap0 2 LT W hnT.out hx1.out (by have := hx2.out; omega) hn0.out h)
          have RQ := Lib.hid (fun W (h : MAt W ao0 LT) => rgRun_run ao0 cap0 2 LT a1 W (nn := a2) hnT.out (by omega) h h1.out hx3.out hn0.out)
          have RU := Lib.hid (fun W ao cap (L : List Ma) (k : Int) (hL : 2 = L.length) (ha : MAt W ao L) => gRun_run ao cap 2 L a1 W (nn := k) hL (by omega) ha h1.out)
          cases hR : (RunR LT a1 a2).2 with
          | none =>
            replace hR := Lib.hid hR
            go_enter Try.func3, Try.ntmps3
            go_wp2_with fail
            refine (AW.out w).mono ?_
            rintro _ v1 ⟨rfl, hb⟩
            have K := Lib.hid hb
            clear hb AW
            go_wp2_with fail
            have c1 := Lib.hid (ha0.out.below (fun b o e h => ha0.out.lt b o e h) K.out)
            refine (CK.out _ c1.out).mono ?_
            rintro _ v2 ⟨rfl, hb⟩
            replace K := Lib.hid (K.out.trans (hb.mono K.out.size))
            clear hb c1
            have c1 := Lib.hid (ha0.out.below (fun b o e h => ha0.out.lt b o e h) K.out)
            go_wp2_with fail
            refine (CQ.out _ c1.out).mono ?_
            rintro _ v3 ⟨rfl, hb⟩
            replace K := Lib.hid (K.out.trans (hb.mono K.out.size))
            clear hb c1 CK CQ
            go_wp2_with fail
            refine (RO.out _ (haT.out _ K.out)).mono ?_
            rintro _ v4 ⟨gr, cr, rfl, hr1, hr2, R4, hgr, hb⟩
            have K4 := Lib.hid (K.out.trans (hb.mono K.out.size))
            replace R4 := Lib.hid R4
            have gl := Lib.hid (show w.heap.size ≤ gr from Nat.le_trans K.out.size hgr)
            replace hr1 := Lib.hid hr1
            replace hr2 := Lib.hid hr2
            clear hb hgr K RO
            go_wp2_with fail
            refine (RU.out v4 _ cr LT a2 hnT.out R4.out.left).mono ?_
            rintro _ v5 ⟨hb, he, -⟩
            obtain rfl := he hR.out
            have K5 := Lib.hid (K4.out.trans (hb.mono K4.out.size))
            have R5 := Lib.hid (RAt.on R4.out hb)
            clear hb he K4 R4 RU
            go_wp2_with fail
            refine (RQ.out v5 (haT.out _ K5.out)).mono ?_
            rintro _ v6 ⟨hb, he, -⟩
            obtain rfl := he hR.out
            have K6 := Lib.hid (K5.out.trans (hb.mono K5.out.size))
            have R6 := Lib.hid (RAt.on R5.out hb)
            clear hb he K5 R5 RQ hR
            generalize (RunR LT a1 a2).1 = er at *
            have te : (er != er) = false := by simp
            go_wp2_with fail
            refine (gsame_run none none 0 0 0 [] v6 rfl (by omega) (nilA.out _) (nilA.out _)).mono ?_
            rintro _ v7 ⟨rfl, hb⟩
            have R7 := Lib.hid (RAt.on R6.out hb)
            replace K6 := Lib.hid (K6.out.trans (hb.mono K6.out.size))
            clear hb R6
            go_wp2_with fail
            refine (gkept_run gr ao0 cap0 cr 2 LT v7 hnT.out (by omega) hr1.out hr2.out R7.out (haT.out _ K6.out)).mono ?_
            rintro _ v8 ⟨rfl, hb⟩
            have R8 := Lib.hid (RAt.on R7.out hb)
            replace K6 := Lib.hid (K6.out.trans (hb.mono K6.out.size))
            clear hb R7
            go_upto_region 13 with fail
            go_wp2_with fail
            go_loopw [12] (fun iv wr => iv = .int .i64 0 ∧ wr = v8) (fun _ _ => 0)
            case atStart => exact ⟨rfl, rfl⟩
            case round =>
              obtain ⟨rfl, rfl⟩ := hrel
              obtain ⟨i0, hi0, hz0, hz1, hz2⟩ := info_ofR recM.info
              have news : ∀ j u, ([.int .i64 0, .int .i64 0, .int .i64 0, .int .i64 0, .int .i64 0, .int .i64 0, .int .i64 0, .int .i64 0, .int .i64 0, .int .i64 0, .int .i64 0, .int .i64 0, .int .i64 0, .int .i64 0] : List Value)[j]? = some u → (wr.alloc (.cells #[.int .i64 0, .int .i64 0, .int .i64 0, .int .i64 0, .int .i64 0, .int .i64 0, .int .i64 0, .int .i64 0, .int .i64 0, .int .i64 0, .int .i64 0, .int .i64 0, .int .i64 0, .int .i64 0] 34)).cell? ((⟨wr.heap.size, 0, none⟩ : Addr).add j) = some u := fun j u h => by
                have B := BV.box wr 34 [.int .i64 0, .int .i64 0, .int .i64 0, .int .i64 0, .int .i64 0, .int .i64 0, .int .i64 0, .int .i64 0, .int .i64 0, .int .i64 0, .int .i64 0, .int .i64 0, .int .i64 0, .int .i64 0]
                rw [ad_plainR, Nat.zero_add]
                exact B.at_ j u h
              have KA := Lib.hid (K6.out.alloc K6.out.size (.cells #[.int .i64 0, .int .i64 0, .int .i64 0, .int .i64 0, .int .i64 0, .int .i64 0, .int .i64 0, .int .i64 0, .int .i64 0, .int .i64 0, .int .i64 0, .int .i64 0, .int .i64 0, .int .i64 0] 34))
              have RA := Lib.hid (RAt.alloc R8.out (.cells #[.int .i64 0, .int .i64 0, .int .i64 0, .int .i64 0, .int .i64 0, .int .i64 0, .int .i64 0, .int .i64 0, .int .i64 0, .int .i64 0, .int .i64 0, .int .i64 0, .int .i64 0, .int .i64 0] 34))
              replace news := Lib.hid news
              clear K6 R8
              go_wp2_with (at_builtin; refine wpList_append_grows _ rfl _ _ _ rfl 34 i0 _ 7 56 Try.underlying22 hi0 hz0 hz1 hz2 rfl (by decide) none 0 0 [] rfl (fun _ => ⟨rfl, rfl⟩) rfl (by intro b h; cases h) ⟨wr.heap.size, 0, none⟩ 2 2 [.int .i64 0, .int .i64 0, .int .i64 0, .int .i64 0, .int .i64 0, .int .i64 0, .int .i64 0, .int .i64 0, .int .i64 0, .int .i64 0, .int .i64 0, .int .i64 0, .int .i64 0, .int .i64 0] rfl rfl news.out (by intro u hu; simp at hu; subst hu; rfl) (by omega) (by decide) (by decide) ?_)
              intro v' w9 ho hg
              have hbg : Below w.heap.size w w9 := KA.out.grown hg KA.out.size (by intro k h; cases h)
              have K9 := Lib.hid hbg
              have R9 := Lib.hid (show MAt w9 (some ⟨gr, 0, none⟩) _ from RAt.on RA.out ((Below.refl _ _).grown hg (Nat.le_refl _) (by intro k h; cases h)))
              obtain ⟨aof, cf, e9⟩ : ∃ aof cf, v' = .slice aof (0 + 2) cf := by
                rcases ho.2 with ⟨-, h0⟩ | ⟨g9, c9, cur, hv, -⟩
                · omega
                · exact ⟨_, _, hv⟩
              subst e9
              clear ho hg KA RA hbg news hi0 hz0 hz1 hz2
              go_wp2_with fail
              refine (gkept_run gr ao0 cap0 cr 2 LT w9 hnT.out (by omega) hr1.out hr2.out R9.out (haT.out _ K9.out)).mono ?_
              rintro _ v10 ⟨rfl, hb⟩
              have K10 := Lib.hid (K9.out.trans (hb.mono K9.out.size))
              clear hb K9 R9
              go_wp2_with fail
              go_ret
              exact ⟨by first | rfl | trivial, K10.out⟩
          | some s =>
            have hq : Hid (2 = s.length) := by show _ = _; rw [(RunR_kept hR).2.2.1]; exact hnT.out
            replace hR := Lib.hid hR
            go_enter Try.func3, Try.ntmps3
            go_wp2_with fail
            refine (AW.out w).mono ?_
            rintro _ v1 ⟨rfl, hb⟩
            have K := Lib.hid hb
            clear hb AW
            go_wp2_with fail
            have c1 := Lib.hid (ha0.out.below (fun b o e h => ha0.out.lt b o e h) K.out)
            refine (CK.out _ c1.out).mono ?_
            rintro _ v2 ⟨rfl, hb⟩
            replace K := Lib.hid (K.out.trans (hb.mono K.out.size))
            clear hb c1
            have c1 := Lib.hid (ha0.out.below (fun b o e h => ha0.out.lt b o e h) K.out)
            go_wp2_with fail
            refine (CQ.out _ c1.out).mono ?_
            rintro _ v3 ⟨rfl, hb⟩
            replace K := Lib.hid (K.out.trans (hb.mono K.out.size))
            clear hb c1 CK CQ
            go_wp2_with fail
            refine (RO.out _ (haT.out _ K.out)).mono ?_
            rintro _ v4 ⟨gr, cr, rfl, hr1, hr2, R4, hgr, hb⟩
            have K4 := Lib.hid (K.out.trans (hb.mono K.out.size))
            replace R4 := Lib.hid R4
            have gl := Lib.hid (show w.heap.size ≤ gr from Nat.le_trans K.out.size hgr)
            replace hr1 := Lib.hid hr1
            replace hr2 := Lib.hid hr2
            clear hb hgr K RO
            go_wp2_with fail
            refine (RU.out v4 _ cr LT a2 hnT.out R4.out.left).mono ?_
            rintro _ v5 ⟨hb, -, hs⟩
            obtain ⟨b, rfl, hbb, O5⟩ := hs s hR.out
            rw [← hq.out]
            have gb : Hid (gr < b) := by
              have := RAt.lt R4.out gr 0 rfl (by simp)
              show _ < _
              omega
            have K5 := Lib.hid (K4.out.trans (hb.mono K4.out.size))
            have R5 := Lib.hid (RAt.on R4.out hb)
            replace O5 := Lib.hid O5
            clear hb hs K4 R4 RU hbb
            go_wp2_with fail
            refine (RQ.out v5 (haT.out _ K5.out)).mono ?_
            rintro _ v6 ⟨hb, -, hs⟩
            obtain ⟨aoq, cq, rfl, Q6⟩ := hs s hR.out
            rw [← hq.out]
            have K6 := Lib.hid (K5.out.trans (hb.mono K5.out.size))
            have R6 := Lib.hid (RAt.on R5.out hb)
            have O6 := Lib.hid (O5.out.on hb)
            replace Q6 := Lib.hid Q6
            clear hb hs K5 R5 RQ hR O5
            go_wp2_with fail
            refine (gsame_run _ _ 2 cq 2 s v6 hq.out (by omega) O6.out.at_ Q6.out).mono ?_
            rintro _ v7 ⟨rfl, hb⟩
            have R7 := Lib.hid (RAt.on R6.out hb)
            have O7 := Lib.hid (O6.out.on hb)
            replace K6 := Lib.hid (K6.out.trans (hb.mono K6.out.size))
            clear hb R6 O6 Q6
            go_wp2_with fail
            refine (gkept_run gr ao0 cap0 cr 2 LT v7 hnT.out (by omega) hr1.out hr2.out R7.out (haT.out _ K6.out)).mono ?_
            rintro _ v8 ⟨rfl, hb⟩
            have R8 := Lib.hid (RAt.on R7.out hb)
            have O8 := Lib.hid (O7.out.on hb)
            replace K6 := Lib.hid (K6.out.trans (hb.mono K6.out.size))
            clear hb R7 O7
            go_upto_region 13 with fail
            go_wp2_with fail
            go_loopw [12] (fun iv wr => ∃ (i : Nat) (M : List Ma), i ≤ 2 ∧ M.length = 2 ∧ iv = .int .i64 i ∧ OwM b M wr ∧ Below b v8 wr) (fun iv _ => 2 - (intOf iv).toNat)
            case atStart => exact ⟨0, s, Nat.zero_le _, hq.out.symm, rfl, O8.out, Below.refl _ _⟩
            case round =>
              obtain ⟨i, M, hi, hM, rfl, O, hbw⟩ := hrel
              by_cases hlt : i < 2
              · have hiM : i < M.length := by omega
                have hin : (i : Int) < (2 : Int) := by omega
                have c := O.m hiM
                have fz := OwM.frm O hiM
                have O2 := Lib.hid (OwM.setm O hiM (-1))
                have b2 := Lib.hid (hbw.setCell (p := ⟨b, i * 7, none⟩) (Nat.le_refl b) (.int .i64 (-1)))
                have hM2 := Lib.hid (show (M.set i { mAt M i with m := -1 }).length = 2 by rw [List.length_set]; exact hM)
                clear O hbw hM hiM O8
                go_wp2_with fail
                go_roundw
                case rel => exact ⟨i + 1, _, hlt, hM2.out, by go_num, O2.out, b2.out⟩
                case measure => simp [intOf]; omega
              · obtain rfl : 2 = i := by omega
                have O9 := O.at_
                have RZ := Lib.hid (MAt.under R8.out hbw gb.out)
                have KZ := Lib.hid (K6.out.trans (hbw.mono (by have := gb.out; have := gl.out; omega)))
                replace hM := Lib.hid hM
                replace O := Lib.hid O
                clear R8 K6 O8 hbw O9
                obtain ⟨i0, hi0, hz0, hz1, hz2⟩ := info_ofR recM.info
                have news : ∀ j u, ([.int .i64 0, .int .i64 0, .int .i64 0, .int .i64 0, .int .i64 0, .int .i64 0, .int .i64 0, .int .i64 0, .int .i64 0, .int .i64 0, .int .i64 0, .int .i64 0, .int .i64 0, .int .i64 0] : List Value)[j]? = some u → (wr.alloc (.cells #[.int .i64 0, .int .i64 0, .int .i64 0, .int .i64 0, .int .i64 0, .int .i64 0, .int .i64 0, .int .i64 0, .int .i64 0, .int .i64 0, .int .i64 0, .int .i64 0, .int .i64 0, .int .i64 0] 34)).cell? ((⟨wr.heap.size, 0, none⟩ : Addr).add j) = some u := fun j u h => by
                  have B := BV.box wr 34 [.int .i64 0, .int .i64 0, .int .i64 0, .int .i64 0, .int .i64 0, .int .i64 0, .int .i64 0, .int .i64 0, .int .i64 0, .int .i64 0, .int .i64 0, .int .i64 0, .int .i64 0, .int .i64 0]
                  rw [ad_plainR, Nat.zero_add]
                  exact B.at_ j u h
                have olds : ∀ bb, (some ⟨b, 0, none⟩ : Option Addr) = some bb → ∀ j u, (flatM M)[j]? = some u → (wr.alloc (.cells #[.int .i64 0, .int .i64 0, .int .i64 0, .int .i64 0, .int .i64 0, .int .i64 0, .int .i64 0, .int .i64 0, .int .i64 0, .int .i64 0, .int .i64 0, .int .i64 0, .int .i64 0, .int .i64 0] 34)).cell? (bb.add j) = some u := fun bb e j u h => by
                  obtain rfl := Option.some.inj e
                  rw [ad_plainR, Nat.zero_add]
                  exact OwM.at_' (OwM.on O.out ((Below.refl _ _).alloc (Nat.le_refl _) _)) j u h
                have fl : (flatM M).length = 2 * 7 := by unfold flatM; rw [flat_len (rows_ma M), List.length_map, hM.out]
                have KA := Lib.hid (KZ.out.alloc KZ.out.size (.cells #[.int .i64 0, .int .i64 0, .int .i64 0, .int .i64 0, .int .i64 0, .int .i64 0, .int .i64 0, .int .i64 0, .int .i64 0, .int .i64 0, .int .i64 0, .int .i64 0, .int .i64 0, .int .i64 0] 34))
                have RA := Lib.hid (RAt.alloc RZ.out (.cells #[.int .i64 0, .int .i64 0, .int .i64 0, .int .i64 0, .int .i64 0, .int .i64 0, .int .i64 0, .int .i64 0, .int .i64 0, .int .i64 0, .int .i64 0, .int .i64 0, .int .i64 0, .int .i64 0] 34))
                replace news := Lib.hid news
                replace olds := Lib.hid olds
                replace fl := Lib.hid fl
                clear KZ RZ
                go_wp2_with (at_builtin; refine wpList_append_grows _ rfl _ _ _ rfl 34 i0 _ 7 56 Try.underlying22 hi0 hz0 hz1 hz2 rfl (by decide) (some ⟨b, 0, none⟩) 2 2 (flatM M) rfl (by intro h; cases h) fl.out olds.out ⟨wr.heap.size, 0, none⟩ 2 2 [.int .i64 0, .int .i64 0, .int .i64 0, .int .i64 0, .int .i64 0, .int .i64 0, .int .i64 0, .int .i64 0, .int .i64 0, .int .i64 0, .int .i64 0, .int .i64 0, .int .i64 0, .int .i64 0] rfl rfl news.out (by intro u hu; simp at hu; subst hu; rfl) (by omega) hx1.out hx2.out ?_)
                intro v' w9 ho hg
                have hbg : Below w.heap.size w w9 := KA.out.grown hg KA.out.size (by intro k h; cases h)
                have K9 := Lib.hid hbg
                have R9 := Lib.hid (show MAt w9 (some ⟨gr, 0, none⟩) _ from RAt.on RA.out ((Below.refl _ _).grown hg (Nat.le_refl _) (by intro k h; cases h)))
                obtain ⟨aof, cf, e9⟩ : ∃ aof cf, v' = .slice aof (2 + 2) cf := by
                  rcases ho.2 with ⟨-, h0⟩ | ⟨g9, c9, cur, hv, -⟩
                  · omega
                  · exact ⟨_, _, hv⟩
                subst e9
                clear ho hg KA RA hbg news olds hi0 hz0 hz1 hz2 O
                go_wp2_with fail
                refine (gkept_run gr ao0 cap0 cr 2 LT w9 hnT.out (by omega) hr1.out hr2.out R9.out (haT.out _ K9.out)).mono ?_
                rintro _ v10 ⟨rfl, hb⟩
                have K10 := Lib.hid (K9.out.trans (hb.mono K9.out.size))
                clear hb K9 R9
                go_wp2_with fail
                go_ret
                exact ⟨by first | rfl | trivial, K10.out⟩
        · have d1 : decide (-4000 < a2) = true := decide_eq_true (by omega)
          have d2 : decide (a2 < 4000) = false := decide_eq_false (by omega)
          have d3 : decide (-4096 ≤ a2) = true := decide_eq_true (by omega)
          have d4 : decide (a2 ≤ 4096) = true := decide_eq_true (by omega)
          have d5 : decide ((2 : Int) < n) = false := decide_eq_false (by omega)
          have hnT := hn
          have haT : Hid (∀ W, Below w.heap.size w W → MAt W ao0 L0) := Lib.hid fun W h => ha0.out.below (fun b o e k => ha0.out.lt b o e k) h
          have hx1 : Hid (n + 2 ≤ maxLen) := by show _ ≤ _; unfold maxLen; omega
          have hx2 : Hid ((n + 2) * 56 ≤ 140737488355328) := by show _ ≤ _; omega
          have hx3 : Hid (n * 56 ≤ 140737488351232) := Lib.hid hrn
          have RO := Lib.hid (fun W (h : MAt W ao0 L0) => groomy_run ao0 cap0 n L0 W hnT.out hx1.out (by have := hx2.out; omega) hn0.out h)
          have RQ := Lib.hid (fun W (h : MAt W ao0 L0) => rgRun_run ao0 cap0 n L0 a1 W (nn := a2) hnT.out (by omega) h h1.out hx3.out hn0.out)
          have RU := Lib.hid (fun W ao cap (L : List Ma) (k : Int) (hL : n = L.length) (ha : MAt W ao L) => gRun_run ao cap n L a1 W (nn := k) hL (by omega) ha h1.out)
          cases hR : (RunR L0 a1 a2).2 with
          | none =>
            replace hR := Lib.hid hR
            go_enter Try.func3, Try.ntmps3
            go_wp2_with fail
            refine (AW.out w).mono ?_
            rintro _ v1 ⟨rfl, hb⟩
            have K := Lib.hid hb
            clear hb AW
            go_wp2_with fail
            have c1 := Lib.hid (ha0.out.below (fun b o e h => ha0.out.lt b o e h) K.out)
            refine (CK.out _ c1.out).mono ?_
            rintro _ v2 ⟨rfl, hb⟩
            replace K := Lib.hid (K.out.trans (hb.mono K.out.size))
            clear hb c1
            have c1 := Lib.hid (ha0.out.below (fun b o e h => ha0.out.lt b o e h) K.out)
            go_wp2_with fail
            refine (CQ.out _ c1.out).mono ?_
            rintro _ v3 ⟨rfl, hb⟩
            replace K := Lib.hid (K.out.trans (hb.mono K.out.size))
            clear hb c1 CK CQ
            go_wp2_with fail
            refine (RO.out _ (haT.out _ K.out)).mono ?_
            rintro _ v4 ⟨gr, cr, rfl, hr1, hr2, R4, hgr, hb⟩
            have K4 := Lib.hid (K.out.trans (hb.mono K.out.size))
            replace R4 := Lib.hid R4
            have gl := Lib.hid (show w.heap.size ≤ gr from Nat.le_trans K.out.size hgr)
            replace hr1 := Lib.hid hr1
            replace hr2 := Lib.hid hr2
            clear hb hgr K RO
            go_wp2_with fail
            refine (RU.out v4 _ cr L0 a2 hnT.out R4.out.left).mono ?_
            rintro _ v5 ⟨hb, he, -⟩
            obtain rfl := he hR.out
            have K5 := Lib.hid (K4.out.trans (hb.mono K4.out.size))
            have R5 := Lib.hid (RAt.on R4.out hb)
            clear hb he K4 R4 RU
            go_wp2_with fail
            refine (RQ.out v5 (haT.out _ K5.out)).mono ?_
            rintro _ v6 ⟨hb, he, -⟩
            obtain rfl := he hR.out
            have K6 := Lib.hid (K5.out.trans (hb.mono K5.out.size))
            have R6 := Lib.hid (RAt.on R5.out hb)
            clear hb he K5 R5 RQ hR
            generalize (RunR L0 a1 a2).1 = er at *
            have te : (er != er) = false := by simp
            go_wp2_with fail
            refine (gsame_run none none 0 0 0 [] v6 rfl (by omega) (nilA.out _) (nilA.out _)).mono ?_
            rintro _ v7 ⟨rfl, hb⟩
            have R7 := Lib.hid (RAt.on R6.out hb)
            replace K6 := Lib.hid (K6.out.trans (hb.mono K6.out.size))
            clear hb R6
            go_wp2_with fail
            refine (gkept_run gr ao0 cap0 cr n L0 v7 hnT.out (by omega) hr1.out hr2.out R7.out (haT.out _ K6.out)).mono ?_
            rintro _ v8 ⟨rfl, hb⟩
            have R8 := Lib.hid (RAt.on R7.out hb)
            replace K6 := Lib.hid (K6.out.trans (hb.mono K6.out.size))
            clear hb R7
            go_upto_region 13 with fail
            go_wp2_with fail
            go_loopw [12] (fun iv wr => iv = .int .i64 0 ∧ wr = v8) (fun _ _ => 0)
            case atStart => exact ⟨rfl, rfl⟩
            case round =>
              obtain ⟨rfl, rfl⟩ := hrel
              obtain ⟨i0, hi0, hz0, hz1, hz2⟩ := info_ofR recM.info
              have news : ∀ j u, ([.int .i64 0, .int .i64 0, .int .i64 0, .int .i64 0, .int .i64 0, .int .i64 0, .int .i64 0, .int .i64 0, .int .i64 0, .int .i64 0, .int .i64 0, .int .i64 0, .int .i64 0, .int .i64 0] : List Value)[j]? = some u → (wr.alloc (.cells #[.int .i64 0, .int .i64 0, .int .i64 0, .int .i64 0, .int .i64 0, .int .i64 0, .int .i64 0, .int .i64 0, .int .i64 0, .int .i64 0, .int .i64 0, .int .i64 0, .int .i64 0, .int .i64 0] 34)).cell? ((⟨wr.heap.size, 0, none⟩ : Addr).add j) = some u := fun j u h => by
                have B := BV.box wr 34 [.int .i64 0, .int .i64 0, .int .i64 0, .int .i64 0, .int .i64 0, .int .i64 0, .int .i64 0, .int .i64 0, .int .i64 0, .int .i64 0, .int .i64 0, .int .i64 0, .int .i64 0, .int .i64 0]
                rw [ad_plainR, Nat.zero_add]
                exact B.at_ j u h
              have KA := Lib.hid (K6.out.alloc K6.out.size (.cells #[.int .i64 0, .int .i64 0, .int .i64 0, .int .i64 0, .int .i64 0, .int .i64 0, .int .i64 0, .int .i64 0, .int .i64 0, .int .i64 0, .int .i64 0, .int .i64 0, .int .i64 0, .int .i64 0] 34))
              have RA := Lib.hid (RAt.alloc R8.out (.cells #[.int .i64 0, .int .i64 0, .int .i64 0, .int .i64 0, .int .i64 0, .int .i64 0, .int .i64 0, .int .i64 0, .int .i64 0, .int .i64 0, .int .i64 0, .int .i64 0, .int .i64 0, .int .i64 0] 34))
              replace news := Lib.hid news
              clear K6 R8
              go_wp2_with (at_builtin; refine wpList_append_grows _ rfl _ _ _ rfl 34 i0 _ 7 56 Try.underlying22 hi0 hz0 hz1 hz2 rfl (by decide) none 0 0 [] rfl (fun _ => ⟨rfl, rfl⟩) rfl (by intro b h; cases h) ⟨wr.heap.size, 0, none⟩ 2 2 [.int .i64 0, .int .i64 0, .int .i64 0, .int .i64 0, .int .i64 0, .int .i64 0, .int .i64 0, .int .i64 0, .int .i64 0, .int .i64 0, .int .i64 0, .int .i64 0, .int .i64 0, .int .i64 0] rfl rfl news.out (by intro u hu; simp at hu; subst hu; rfl) (by omega) (by decide) (by decide) ?_)
              intro v' w9 ho hg
              have hbg : Below w.heap.size w w9 := KA.out.grown hg KA.out.size (by intro k h; cases h)
              have K9 := Lib.hid hbg
              have R9 := Lib.hid (show MAt w9 (some ⟨gr, 0, none⟩) _ from RAt.on RA.out ((Below.refl _ _).grown hg (Nat.le_refl _) (by intro k h; cases h)))
              obtain ⟨aof, cf, e9⟩ : ∃ aof cf, v' = .slice aof (0 + 2) cf := by
                rcases ho.2 with ⟨-, h0⟩ | ⟨g9, c9, cur, hv, -⟩
                · omega
                · exact ⟨_, _, hv⟩
              subst e9
              clear ho hg KA RA hbg news hi0 hz0 hz1 hz2
              go_wp2_with fail
              refine (gkept_run gr ao0 cap0 cr n L0 w9 hnT.out (by omega) hr1.out hr2.out R9.out (haT.out _ K9.out)).mono ?_
              rintro _ v10 ⟨rfl, hb⟩
              have K10 := Lib.hid (K9.out.trans (hb.mono K9.out.size))
              clear hb K9 R9
              go_wp2_with fail
              go_ret
              exact ⟨by first | rfl | trivial, K10.out⟩
          | some s =>
            have hq : Hid (n = s.length) := by show _ = _; rw [(RunR_kept hR).2.2.1]; exact hnT.out
            replace hR := Lib.hid hR
            go_enter Try.func3, Try.ntmps3
            go_wp2_with fail
            refine (AW.out w).mono ?_
            rintro _ v1 ⟨rfl, hb⟩
            have K := Lib.hid hb
            clear hb AW
            go_wp2_with fail
            have c1 := Lib.hid (ha0.out.below (fun b o e h => ha0.out.lt b o e h) K.out)
            refine (CK.out _ c1.out).mono ?_
            rintro _ v2 ⟨rfl, hb⟩
            replace K := Lib.hid (K.out.trans (hb.mono K.out.size))
            clear hb c1
            have c1 := Lib.hid (ha0.out.below (fun b o e h => ha0.out.lt b o e h) K.out)
            go_wp2_with fail
            refine (CQ.out _ c1.out).mono ?_
            rintro _ v3 ⟨rfl, hb⟩
            replace K := Lib.hid (K.out.trans (hb.mono K.out.size))
            clear hb c1 CK CQ
            go_wp2_with fail
            refine (RO.out _ (haT.out _ K.out)).mono ?_
            rintro _ v4 ⟨gr, cr, rfl, hr1, hr2, R4, hgr, hb⟩
            have K4 := Lib.hid (K.out.trans (hb.mono K.out.size))
            replace R4 := Lib.hid R4
            have gl := Lib.hid (show w.heap.size ≤ gr from Nat.le_trans K.out.size hgr)
            replace hr1 := Lib.hid hr1
            replace hr2 := Lib.hid hr2
            clear hb hgr K RO
            go_wp2_with fail
            refine (RU.out v4 _ cr L0 a2 hnT.out R4.out.left).mono ?_
            rintro _ v5 ⟨hb, -, hs⟩
            obtain ⟨b, rfl, hbb, O5⟩ := hs s hR.out
            rw [← hq.out]
            have gb : Hid (gr < b) := by
              have := RAt.lt R4.out gr 0 rfl (by simp)
              show _ < _
              omega
            have K5 := Lib.hid (K4.out.trans (hb.mono K4.out.size))
            have R5 := Lib.hid (RAt.on R4.out hb)
            replace O5 := Lib.hid O5
            clear hb hs K4 R4 RU hbb
            go_wp2_with fail
            refine (RQ.out v5 (haT.out _ K5.out)).mono ?_
            rintro _ v6 ⟨hb, -, hs⟩
            obtain ⟨aoq, cq, rfl, Q6⟩ := hs s hR.out
            rw [← hq.out]
            have K6 := Lib.hid (K5.out.trans (hb.mono K5.out.size))
            have R6 := Lib.hid (RAt.on R5.out hb)
            have O6 := Lib.hid (O5.out.on hb)
            replace Q6 := Lib.hid Q6
            clear hb hs K5 R5 RQ hR O5
            go_wp2_with fail
            refine (gsame_run _ _ n cq n s v6 hq.out (by omega) O6.out.at_ Q6.out).mono ?_
            rintro _ v7 ⟨rfl, hb⟩
            have R7 := Lib.hid (RAt.on R6.out hb)
            have O7 := Lib.hid (O6.out.on hb)
            replace K6 := Lib.hid (K6.out.trans (hb.mono K6.out.size))
            clear hb R6 O6 Q6
            go_wp2_with fail
            refine (gkept_run gr ao0 cap0 cr n L0 v7 hnT.out (by omega) hr1.out hr2.out R7.out (haT.out _ K6.out)).mono ?_
            rintro _ v8 ⟨rfl, hb⟩
            have R8 := Lib.hid (RAt.on R7.out hb)
            have O8 := Lib.hid (O7.out.on hb)
            replace K6 := Lib.hid (K6.out.trans (hb.mono K6.out.size))
            clear hb R7 O7
            go_upto_region 13 with fail
            go_wp2_with fail
            go_loopw [12] (fun iv wr => ∃ (i : Nat) (M : List Ma), i ≤ n ∧ M.length = n ∧ iv = .int .i64 i ∧ OwM b M wr ∧ Below b v8 wr) (fun iv _ => n - (intOf iv).toNat)
            case atStart => exact ⟨0, s, Nat.zero_le _, hq.out.symm, rfl, O8.out, Below.refl _ _⟩
            case round =>
              obtain ⟨i, M, hi, hM, rfl, O, hbw⟩ := hrel
              by_cases hlt : i < n
              · have hiM : i < M.length := by omega
                have hin : (i : Int) < (n : Int) := by omega
                have c := O.m hiM
                have fz := OwM.frm O hiM
                have O2 := Lib.hid (OwM.setm O hiM (-1))
                have b2 := Lib.hid (hbw.setCell (p := ⟨b, i * 7, none⟩) (Nat.le_refl b) (.int .i64 (-1)))
                have hM2 := Lib.hid (show (M.set i { mAt M i with m := -1 }).length = n by rw [List.length_set]; exact hM)
                clear O hbw hM hiM O8
                go_wp2_with fail
                go_roundw
                case rel => exact ⟨i + 1, _, hlt, hM2.out, by go_num, O2.out, b2.out⟩
                case measure => simp [intOf]; omega
              · obtain rfl : n = i := by omega
                have O9 := O.at_
                have RZ := Lib.hid (MAt.under R8.out hbw gb.out)
                have KZ := Lib.hid (K6.out.trans (hbw.mono (by have := gb.out; have := gl.out; omega)))
                replace hM := Lib.hid hM
                replace O := Lib.hid O
                clear R8 K6 O8 hbw O9
                obtain ⟨i0, hi0, hz0, hz1, hz2⟩ := info_ofR recM.info
                have news : ∀ j u, ([.int .i64 0, .int .i64 0, .int .i64 0, .int .i64 0, .int .i64 0, .int .i64 0, .int .i64 0, .int .i64 0, .int .i64 0, .int .i64 0, .int .i64 0, .int .i64 0, .int .i64 0, .int .i64 0] : List Value)[j]? = some u → (wr.alloc (.cells #[.int .i64 0, .int .i64 0, .int .i64 0, .int .i64 0, .int .i64 0, .int .i64 0, .int .i64 0, .int .i64 0, .int .i64 0, .int .i64 0, .int .i64 0, .int .i64 0, .int .i64 0, .int .i64 0] 34)).cell? ((⟨wr.heap.size, 0, none⟩ : Addr).add j) = some u := fun j u h => by
                  have B := BV.box wr 34 [.int .i64 0, .int .i64 0, .int .i64 0, .int .i64 0, .int .i64 0, .int .i64 0, .int .i64 0, .int .i64 0, .int .i64 0, .int .i64 0, .int .i64 0, .int .i64 0, .int .i64 0, .int .i64 0]
                  rw [ad_plainR, Nat.zero_add]
                  exact B.at_ j u h
                have olds : ∀ bb, (some ⟨b, 0, none⟩ : Option Addr) = some bb → ∀ j u, (flatM M)[j]? = some u → (wr.alloc (.cells #[.int .i64 0, .int .i64 0, .int .i64 0, .int .i64 0, .int .i64 0, .int .i64 0, .int .i64 0, .int .i64 0, .int .i64 0, .int .i64 0, .int .i64 0, .int .i64 0, .int .i64 0, .int .i64 0] 34)).cell? (bb.add j) = some u := fun bb e j u h => by
                  obtain rfl := Option.some.inj e
                  rw [ad_plainR, Nat.zero_add]
                  exact OwM.at_' (OwM.on O.out ((Below.refl _ _).alloc (Nat.le_refl _) _)) j u h
                have fl : (flatM M).length = n * 7 := by unfold flatM; rw [flat_len (rows_ma M), List.length_map, hM.out]
                have KA := Lib.hid (KZ.out.alloc KZ.out.size (.cells #[.int .i64 0, .int .i64 0, .int .i64 0, .int .i64 0, .int .i64 0, .int .i64 0, .int .i64 0, .int .i64 0, .int .i64 0, .int .i64 0, .int .i64 0, .int .i64 0, .int .i64 0, .int .i64 0] 34))
                have RA := Lib.hid (RAt.alloc RZ.out (.cells #[.int .i64 0, .int .i64 0, .int .i64 0, .int .i64 0, .int .i64 0, .int .i64 0, .int .i64 0, .int .i64 0, .int .i64 0, .int .i64 0, .int .i64 0, .int .i64 0, .int .i64 0, .int .i64 0] 34))
                replace news := Lib.hid news
                replace olds := Lib.hid olds
                replace fl := Lib.hid fl
                clear KZ RZ
                go_wp2_with (at_builtin; refine wpList_append_grows _ rfl _ _ _ rfl 34 i0 _ 7 56 Try.underlying22 hi0 hz0 hz1 hz2 rfl (by decide) (some ⟨b, 0, none⟩) n n (flatM M) rfl (by intro h; cases h) fl.out olds.out ⟨wr.heap.size, 0, none⟩ 2 2 [.int .i64 0, .int .i64 0, .int .i64 0, .int .i64 0, .int .i64 0, .int .i64 0, .int .i64 0, .int .i64 0, .int .i64 0, .int .i64 0, .int .i64 0, .int .i64 0, .int .i64 0, .int .i64 0] rfl rfl news.out (by intro u hu; simp at hu; subst hu; rfl) (by omega) hx1.out hx2.out ?_)
                intro v' w9 ho hg
                have hbg : Below w.heap.size w w9 := KA.out.grown hg KA.out.size (by intro k h; cases h)
                have K9 := Lib.hid hbg
                have R9 := Lib.hid (show MAt w9 (some ⟨gr, 0, none⟩) _ from RAt.on RA.out ((Below.refl _ _).grown hg (Nat.le_refl _) (by intro k h; cases h)))
                obtain ⟨aof, cf, e9⟩ : ∃ aof cf, v' = .slice aof (n + 2) cf := by
                  rcases ho.2 with ⟨-, h0⟩ | ⟨g9, c9, cur, hv, -⟩
                  · omega
                  · exact ⟨_, _, hv⟩
                subst e9
                clear ho hg KA RA hbg news olds hi0 hz0 hz1 hz2 O
                go_wp2_with fail
                refine (gkept_run gr ao0 cap0 cr n L0 w9 hnT.out (by omega) hr1.out hr2.out R9.out (haT.out _ K9.out)).mono ?_
                rintro _ v10 ⟨rfl, hb⟩
                have K10 := Lib.hid (K9.out.trans (hb.mono K9.out.size))
                clear hb K9 R9
                go_wp2_with fail
                go_ret
                exact ⟨by first | rfl | trivial, K10.out⟩
      · have d1 : decide (-4000 < a2) = true := decide_eq_true (by omega)
        have d2 : decide (a2 < 4000) = false := decide_eq_false (by omega)
        have d3 : decide (-4096 ≤ a2) = true := decide_eq_true (by omega)
        have d4 : decide (a2 ≤ 4096) = false := decide_eq_false (by omega)
        have hnT := hn
        have haT : Hid (∀ W, Below w.heap.size w W → MAt W ao0 L0) := Lib.hid fun W h => ha0.out.below (fun b o e k => ha0.out.lt b o e k) h
        have hx1 : Hid (n + 2 ≤ maxLen) := by show _ ≤ _; unfold maxLen; omega
        have hx2 : Hid ((n + 2) * 56 ≤ 140737488355328) := by show _ ≤ _; omega
        have hx3 : Hid (n * 56 ≤ 140737488351232) := Lib.hid hrn
        have RO := Lib.hid (fun W (h : MAt W ao0 L0) => groomy_run ao0 cap0 n L0 W hnT.out hx1.out (by have := hx2.out; omega) hn0.out h)
        have RQ := Lib.hid (fun W (h : MAt W ao0 L0) => rgRun_run ao0 cap0 n L0 a1 W (nn := a2) hnT.out (by omega) h h1.out hx3.out hn0.out)
        have RU := Lib.hid (fun W ao cap (L : List Ma) (k : Int) (hL : n = L.length) (ha : MAt W ao L) => gRun_run ao cap n L a1 W (nn := k) hL (by omega) ha h1.out)
        cases hR : (RunR L0 a1 a2).2 with
        | none =>
          replace hR := Lib.hid hR
          go_enter Try.func3, Try.ntmps3
          go_wp2_with fail
          refine (AW.out w).mono ?_
          rintro _ v1 ⟨rfl, hb⟩
          have K := Lib.hid hb
          clear hb AW
          go_wp2_with fail
          have c1 := Lib.hid (ha0.out.below (fun b o e h => ha0.out.lt b o e h) K.out)
          refine (CK.out _ c1.out).mono ?_
          rintro _ v2 ⟨rfl, hb⟩
          replace K := Lib.hid (K.out.trans (hb.mono K.out.size))
          clear hb c1
          have c1 := Lib.hid (ha0.out.below (fun b o e h => ha0.out.lt b o e h) K.out)
          go_wp2_with fail
          refine (CQ.out _ c1.out).mono ?_
          rintro _ v3 ⟨rfl, hb⟩
          replace K := Lib.hid (K.out.trans (hb.mono K.out.size))
          clear hb c1 CK CQ
          go_wp2_with fail
          refine (RO.out _ (haT.out _ K.out)).mono ?_
          rintro _ v4 ⟨gr, cr, rfl, hr1, hr2, R4, hgr, hb⟩
          have K4 := Lib.hid (K.out.trans (hb.mono K.out.size))
          replace R4 := Lib.hid R4
          have gl := Lib.hid (show w.heap.size ≤ gr from Nat.le_trans K.out.size hgr)
          replace hr1 := Lib.hid hr1
          replace hr2 := Lib.hid hr2
          clear hb hgr K RO
          go_wp2_with fail
          refine (RU.out v4 _ cr L0 a2 hnT.out R4.out.left).mono ?_
          rintro _ v5 ⟨hb, he, -⟩
          obtain rfl := he hR.out
          have K5 := Lib.hid (K4.out.trans (hb.mono K4.out.size))
          have R5 := Lib.hid (RAt.on R4.out hb)
          clear hb he K4 R4 RU
          go_wp2_with fail
          refine (RQ.out v5 (haT.out _ K5.out)).mono ?_
          rintro _ v6 ⟨hb, he, -⟩
          obtain rfl := he hR.out
          have K6 := Lib.hid (K5.out.trans (hb.mono K5.out.size))
          have R6 := Lib.hid (RAt.on R5.out hb)
          clear hb he K5 R5 RQ hR
          generalize (RunR L0 a1 a2).1 = er at *
          have te : (er != er) = false := by simp
          go_wp2_with fail
          refine (gsame_run none none 0 0 0 [] v6 rfl (by omega) (nilA.out _) (nilA.out _)).mono ?_
          rintro _ v7 ⟨rfl, hb⟩
          have R7 := Lib.hid (RAt.on R6.out hb)
          replace K6 := Lib.hid (K6.out.trans (hb.mono K6.out.size))
          clear hb R6
          go_wp2_with fail
          refine (gkept_run gr ao0 cap0 cr n L0 v7 hnT.out (by omega) hr1.out hr2.out R7.out (haT.out _ K6.out)).mono ?_
          rintro _ v8 ⟨rfl, hb⟩
          have R8 := Lib.hid (RAt.on R7.out hb)
          replace K6 := Lib.hid (K6.out.trans (hb.mono K6.out.size))
          clear hb R7
          go_upto_region 13 with fail
          go_wp2_with fail
          go_loopw [12] (fun iv wr => iv = .int .i64 0 ∧ wr = v8) (fun _ _ => 0)
          case atStart => exact ⟨rfl, rfl⟩
          case round =>
            obtain ⟨rfl, rfl⟩ := hrel
            obtain ⟨i0, hi0, hz0, hz1, hz2⟩ := info_ofR recM.info
            have news : ∀ j u, ([.int .i64 0, .int .i64 0, .int .i64 0, .int .i64 0, .int .i64 0, .int .i64 0, .int .i64 0, .int .i64 0, .int .i64 0, .int .i64 0, .int .i64 0, .int .i64 0, .int .i64 0, .int .i64 0] : List Value)[j]? = some u → (wr.alloc (.cells #[.int .i64 0, .int .i64 0, .int .i64 0, .int .i64 0, .int .i64 0, .int .i64 0, .int .i64 0, .int .i64 0, .int .i64 0, .int .i64 0, .int .i64 0, .int .i64 0, .int .i64 0, .int .i64 0] 34)).cell? ((⟨wr.heap.size, 0, none⟩ : Addr).add j) = some u := fun j u h => by
              have B := BV.box wr 34 [.int .i64 0, .int .i64 0, .int .i64 0, .int .i64 0, .int .i64 0, .int .i64 0, .int .i64 0, .int .i64 0, .int .i64 0, .int .i64 0, .int .i64 0, .int .i64 0, .int .i64 0, .int .i64 0]
              rw [ad_plainR, Nat.zero_add]
              exact B.at_ j u h
            have KA := Lib.hid (K6.out.alloc K6.out.size (.cells #[.int .i64 0, .int .i64 0, .int .i64 0, .int .i64 0, .int .i64 0, .int .i64 0, .int .i64 0, .int .i64 0, .int .i64 0, .int .i64 0, .int .i64 0, .int .i64 0, .int .i64 0, .int .i64 0] 34))
            have RA := Lib.hid (RAt.alloc R8.out (.cells #[.int .i64 0, .int .i64 0, .int .i64 0, .int .i64 0, .int .i64 0, .int .i64 0, .int .i64 0, .int .i64 0, .int .i64 0, .int .i64 0, .int .i64 0, .int .i64 0, .int .i64 0, .int .i64 0] 34))
            replace news := Lib.hid news
            clear K6 R8
            go_wp2_with (at_builtin; refine wpList_append_grows _ rfl _ _ _ rfl 34 i0 _ 7 56 Try.underlying22 hi0 hz0 hz1 hz2 rfl (by decide) none 0 0 [] rfl (fun _ => ⟨rfl, rfl⟩) rfl (by intro b h; cases h) ⟨wr.heap.size, 0, none⟩ 2 2 [.int .i64 0, .int .i64 0, .int .i64 0, .int .i64 0, .int .i64 0, .int .i64 0, .int .i64 0, .int .i64 0, .int .i64 0, .int .i64 0, .int .i64 0, .int .i64 0, .int .i64 0, .int .i64 0] rfl rfl news.out (by intro u hu; simp at hu; subst hu; rfl) (by omega) (by decide) (by decide) ?_)
            intro v' w9 ho hg
            have hbg : Below w.heap.size w w9 := KA.out.grown hg KA.out.size (by intro k h; cases h)
            have K9 := Lib.hid hbg
            have R9 := Lib.hid (show MAt w9 (some ⟨gr, 0, none⟩) _ from RAt.on RA.out ((Below.refl _ _).grown hg (Nat.le_refl _) (by intro k h; cases h)))
            obtain ⟨aof, cf, e9⟩ : ∃ aof cf, v' = .slice aof (0 + 2) cf := by
              rcases ho.2 with ⟨-, h0⟩ | ⟨g9, c9, cur, hv, -⟩
              · omega
              · exact ⟨_, _, hv⟩
            subst e9
            clear ho hg KA RA hbg news hi0 hz0 hz1 hz2
            go_wp2_with fail
            refine (gkept_run gr ao0 cap0 cr n L0 w9 hnT.out (by omega) hr1.out hr2.out R9.out (haT.out _ K9.out)).mono ?_
            rintro _ v10 ⟨rfl, hb⟩
            have K10 := Lib.hid (K9.out.trans (hb.mono K9.out.size))
            clear hb K9 R9
            go_wp2_with fail
            go_ret
            exact ⟨by first | rfl | trivial, K10.out⟩
        | some s =>
          have hq : Hid (n = s.length) := by show _ = _; rw [(RunR_kept hR).2.2.1]; exact hnT.out
          replace hR := Lib.hid hR
          go_enter Try.func3, Try.ntmps3
          go_wp2_with fail
          refine (AW.out w).mono ?_
          rintro _ v1 ⟨rfl, hb⟩
          have K := Lib.hid hb
          clear hb AW
          go_wp2_with fail
          have c1 := Lib.hid (ha0.out.below (fun b o e h => ha0.out.lt b o e h) K.out)
          refine (CK.out _ c1.out).mono ?_
          rintro _ v2 ⟨rfl, hb⟩
          replace K := Lib.hid (K.out.trans (hb.mono K.out.size))
          clear hb c1
          have c1 := Lib.hid (ha0.out.below (fun b o e h => ha0.out.lt b o e h) K.out)
          go_wp2_with fail
          refine (CQ.out _ c1.out).mono ?_
          rintro _ v3 ⟨rfl, hb⟩
          replace K := Lib.hid (K.out.trans (hb.mono K.out.size))
          clear hb c1 CK CQ
          go_wp2_with fail
          refine (RO.out _ (haT.out _ K.out)).mono ?_
          rintro _ v4 ⟨gr, cr, rfl, hr1, hr2, R4, hgr, hb⟩
          have K4 := Lib.hid (K.out.trans (hb.mono K.out.size))
          replace R4 := Lib.hid R4
          have gl := Lib.hid (show w.heap.size ≤ gr from Nat.le_trans K.out.size hgr)
          replace hr1 := Lib.hid hr1
          replace hr2 := Lib.hid hr2
          clear hb hgr K RO
          go_wp2_with fail
          refine (RU.out v4 _ cr L0 a2 hnT.out R4.out.left).mono ?_
          rintro _ v5 ⟨hb, -, hs⟩
          obtain ⟨b, rfl, hbb, O5⟩ := hs s hR.out
          rw [← hq.out]
          have gb : Hid (gr < b) := by
            have := RAt.lt R4.out gr 0 rfl (by simp)
            show _ < _
            omega
          have K5 := Lib.hid (K4.out.trans (hb.mono K4.out.size))
          have R5 := Lib.hid (RAt.on R4.out hb)
          replace O5 := Lib.hid O5
          clear hb hs K4 R4 RU hbb
          go_wp2_with fail
          refine (RQ.out v5 (haT.out _ K5.out)).mono ?_
          rintro _ v6 ⟨hb, -, hs⟩
          obtain ⟨aoq, cq, rfl, Q6⟩ := hs s hR.out
          rw [← hq.out]
          have K6 := Lib.hid (K5.out.trans (hb.mono K5.out.size))
          have R6 := Lib.hid (RAt.on R5.out hb)
          have O6 := Lib.hid (O5.out.on hb)
          replace Q6 := Lib.hid Q6
          clear hb hs K5 R5 RQ hR O5
          go_wp2_with fail
          refine (gsame_run _ _ n cq n s v6 hq.out (by omega) O6.out.at_ Q6.out).mono ?_
          rintro _ v7 ⟨rfl, hb⟩
          have R7 := Lib.hid (RAt.on R6.out hb)
          have O7 := Lib.hid (O6.out.on hb)
          replace K6 := Lib.hid (K6.out.trans (hb.mono K6.out.size))
          clear hb R6 O6 Q6
          go_wp2_with fail
          refine (gkept_run gr ao0 cap0 cr n L0 v7 hnT.out (by omega) hr1.out hr2.out R7.out (haT.out _ K6.out)).mono ?_
          rintro _ v8 ⟨rfl, hb⟩
          have R8 := Lib.hid (RAt.on R7.out hb)
          have O8 := Lib.hid (O7.out.on hb)
          replace K6 := Lib.hid (K6.out.trans (hb.mono K6.out.size))
          clear hb R7 O7
          go_upto_region 13 with fail
          go_wp2_with fail
          go_loopw [12] (fun iv wr => ∃ (i : Nat) (M : List Ma), i ≤ n ∧ M.length = n ∧ iv = .int .i64 i ∧ OwM b M wr ∧ Below b v8 wr) (fun iv _ => n - (intOf iv).toNat)
          case atStart => exact ⟨0, s, Nat.zero_le _, hq.out.symm, rfl, O8.out, Below.refl _ _⟩
          case round =>
            obtain ⟨i, M, hi, hM, rfl, O, hbw⟩ := hrel
            by_cases hlt : i < n
            · have hiM : i < M.length := by omega
              have hin : (i : Int) < (n : Int) := by omega
              have c := O.m hiM
              have fz := OwM.frm O hiM
              have O2 := Lib.hid (OwM.setm O hiM (-1))
              have b2 := Lib.hid (hbw.setCell (p := ⟨b, i * 7, none⟩) (Nat.le_refl b) (.int .i64 (-1)))
              have hM2 := Lib.hid (show (M.set i { mAt M i with m := -1 }).length = n by rw [List.length_set]; exact hM)
              clear O hbw hM hiM O8
              go_wp2_with fail
              go_roundw
              case rel => exact ⟨i + 1, _, hlt, hM2.out, by go_num, O2.out, b2.out⟩
              case measure => simp [intOf]; omega
            · obtain rfl : n = i := by omega
              have O9 := O.at_
              have RZ := Lib.hid (MAt.under R8.out hbw gb.out)
              have KZ := Lib.hid (K6.out.trans (hbw.mono (by have := gb.out; have := gl.out; omega)))
              replace hM := Lib.hid hM
              replace O := Lib.hid O
              clear R8 K6 O8 hbw O9
              obtain ⟨i0, hi0, hz0, hz1, hz2⟩ := info_ofR recM.info
              have news : ∀ j u, ([.int .i64 0, .int .i64 0, .int .i64 0, .int .i64 0, .int .i64 0, .int .i64 0, .int .i64 0, .int .i64 0, .int .i64 0, .int .i64 0, .int .i64 0, .int .i64 0, .int .i64 0, .int .i64 0] : List Value)[j]? = some u → (wr.alloc (.cells #[.int .i64 0, .int .i64 0, .int .i64 0, .int .i64 0, .int .i64 0, .int .i64 0, .int .i64 0, .int .i64 0, .int .i64 0, .int .i64 0, .int .i64 0, .int .i64 0, .int .i64 0, .int .i64 0] 34)).cell? ((⟨wr.heap.size, 0, none⟩ : Addr).add j) = some u := fun j u h => by
                have B := BV.box wr 34 [.int .i64 0, .int .i64 0, .int .i64 0, .int .i64 0, .int .i64 0, .int .i64 0, .int .i64 0, .int .i64 0, .int .i64 0, .int .i64 0, .int .i64 0, .int .i64 0, .int .i64 0, .int .i64 0]
                rw [ad_plainR, Nat.zero_add]
                exact B.at_ j u h
              have olds : ∀ bb, (some ⟨b, 0, none⟩ : Option Addr) = some bb → ∀ j u, (flatM M)[j]? = some u → (wr.alloc (.cells #[.int .i64 0, .int .i64 0, .int .i64 0, .int .i64 0, .int .i64 0, .int .i64 0, .int .i64 0, .int .i64 0, .int .i64 0, .int .i64 0, .int .i64 0, .int .i64 0, .int .i64 0, .int .i64 0] 34)).cell? (bb.add j) = some u := fun bb e j u h => by
                obtain rfl := Option.some.inj e
                rw [ad_plainR, Nat.zero_add]
                exact OwM.at_' (OwM.on O.out ((Below.refl _ _).alloc (Nat.le_refl _) _)) j u h
              have fl : (flatM M).length = n * 7 := by unfold flatM; rw [flat_len (rows_ma M), List.length_map, hM.out]
              have KA := Lib.hid (KZ.out.alloc KZ.out.size (.cells #[.int .i64 0, .int .i64 0, .int .i64 0, .int .i64 0, .int .i64 0, .int .i64 0, .int .i64 0, .int .i64 0, .int .i64 0, .int .i64 0, .int .i64 0, .int .i64 0, .int .i64 0, .int .i64 0] 34))
              have RA := Lib.hid (RAt.alloc RZ.out (.cells #[.int .i64 0, .int .i64 0, .int .i64 0, .int .i64 0, .int .i64 0, .int .i64 0, .int .i64 0, .int .i64 0, .int .i64 0, .int .i64 0, .int .i64 0, .int .i64 0, .int .i64 0, .int .i64 0] 34))
              replace news := Lib.hid news
              replace olds := Lib.hid olds
              replace fl := Lib.hid fl
              clear KZ RZ
              go_wp2_with (at_builtin; refine wpList_append_grows _ rfl _ _ _ rfl 34 i0 _ 7 56 Try.underlying22 hi0 hz0 hz1 hz2 rfl (by decide) (some ⟨b, 0, none⟩) n n (flatM M) rfl (by intro h; cases h) fl.out olds.out ⟨wr.heap.size, 0, none⟩ 2 2 [.int .i64 0, .int .i64 0, .int .i64 0, .int .i64 0, .int .i64 0, .int .i64 0, .int .i64 0, .int .i64 0, .int .i64 0, .int .i64 0, .int .i64 0, .int .i64 0, .int .i64 0, .int .i64 0] rfl rfl news.out (by intro u hu; simp at hu; subst hu; rfl) (by omega) hx1.out hx2.out ?_)
              intro v' w9 ho hg
              have hbg : Below w.heap.size w w9 := KA.out.grown hg KA.out.size (by intro k h; cases h)
              have K9 := Lib.hid hbg
              have R9 := Lib.hid (show MAt w9 (some ⟨gr, 0, none⟩) _ from RAt.on RA.out ((Below.refl _ _).grown hg (Nat.le_refl _) (by intro k h; cases h)))
              obtain ⟨aof, cf, e9⟩ : ∃ aof cf, v' = .slice aof (n + 2) cf := by
                rcases ho.2 with ⟨-, h0⟩ | ⟨g9, c9, cur, hv, -⟩
                · omega
                · exact ⟨_, _, hv⟩
              subst e9
              clear ho hg KA RA hbg news olds hi0 hz0 hz1 hz2 O
              go_wp2_with fail
              refine (gkept_run gr ao0 cap0 cr n L0 w9 hnT.out (by omega) hr1.out hr2.out R9.out (haT.out _ K9.out)).mono ?_
              rintro _ v10 ⟨rfl, hb⟩
              have K10 := Lib.hid (K9.out.trans (hb.mono K9.out.size))
              clear hb K9 R9
              go_wp2_with fail
              go_ret
              exact ⟨by first | rfl | trivial, K10.out⟩
  · clear FW
    by_cases p3 : -4096 ≤ a2
    · by_cases p4 : 2 < n
      · have d1 : decide (-4000 < a2) = false := decide_eq_false (by omega)
        have d3 : decide (-4096 ≤ a2) = true := decide_eq_true (by omega)
        have d4 : decide (a2 ≤ 4096) = true := decide_eq_true (by omega)
        have d5 : decide ((2 : Int) < n) = true := decide_eq_true (by omega)
        obtain ⟨LT, hLT⟩ : ∃ LT, LT = L0.take 2 := ⟨_, rfl⟩
        have hnT : Hid (2 = LT.length) := by show _ = _; rw [hLT, List.length_take]; have := hn.out; omega
        have haT : Hid (∀ W, Below w.heap.size w W → MAt W ao0 LT) := Lib.hid fun W h => by rw [hLT]; exact MAt.take (ha0.out.below (fun b o e k => ha0.out.lt b o e k) h) 2
        have hx1 : Hid (2 + 2 ≤ maxLen) := by show _ ≤ _; unfold maxLen; omega
        have hx2 : Hid ((2 + 2) * 56 ≤ 140737488355328) := by show _ ≤ _; omega
        have hx3 : Hid (2 * 56 ≤ 140737488351232) := by show _ ≤ _; omega
        have hc2 : ¬ (cap0 < 2) := by have := hc0.out; omega
        have hc3 : 2 ≤ cap0 := by have := hc0.out; omega
        replace hLT := Lib.hid hLT
        have RO := Lib.hid (fun W (h : MAt W ao0 LT) => groomy_run ao0 cap0 2 LT W hnT.out hx1.out (by have := hx2.out; omega) hn0.out h)
        have RQ := Lib.hid (fun W (h : MAt W ao0 LT) => rgRun_run ao0 cap0 2 LT a1 W (nn := a2) hnT.out (by omega) h h1.out hx3.out hn0.out)
        have RU := Lib.hid (fun W ao cap (L : List Ma) (k : Int) (hL : 2 = L.length) (ha : MAt W ao L) => gRun_run ao cap 2 L a1 W (nn := k) hL (by omega) ha h1.out)
        cases hR : (RunR LT a1 a2).2 with
        | none =>
          replace hR := Lib.hid hR
          go_enter Try.func3, Try.ntmps3
          go_wp2_with fail
          refine (AW.out w).mono ?_
          rintro _ v1 ⟨rfl, hb⟩
          have K := Lib.hid hb
          clear hb AW
          go_wp2_with fail
          have c1 := Lib.hid (ha0.out.below (fun b o e h => ha0.out.lt b o e h) K.out)
          refine (CK.out _ c1.out).mono ?_
          rintro _ v2 ⟨rfl, hb⟩
          replace K := Lib.hid (K.out.trans (hb.mono K.out.size))
          clear hb c1
          have c1 := Lib.hid (ha0.out.below (fun b o e h => ha0.out.lt b o e h) K.out)
          go_wp2_with fail
          refine (CQ.out _ c1.out).mono ?_
          rintro _ v3 ⟨rfl, hb⟩
          replace K := Lib.hid (K.out.trans (hb.mono K.out.size))
          clear hb c1 CK CQ
          go_wp2_with fail
          refine (RO.out _ (haT.out _ K.out)).mono ?_
          rintro _ v4 ⟨gr, cr, rfl, hr1, hr2, R4, hgr, hb⟩
          have K4 := Lib.hid (K.out.trans (hb.mono K.out.size))
          replace R4 := Lib.hid R4
          have gl := Lib.hid (show w.heap.size ≤ gr from Nat.le_trans K.out.size hgr)
          replace hr1 := Lib.hid hr1
          replace hr2 := Lib.hid hr2
          clear hb hgr K RO
          go_wp2_with fail
          refine (RU.out v4 _ cr LT a2 hnT.out R4.out.left).mono ?_
          rintro _ v5 ⟨hb, he, -⟩
          obtain rfl := he hR.out
          have K5 := Lib.hid (K4.out.trans (hb.mono K4.out.size))
          have R5 := Lib.hid (RAt.on R4.out hb)
          clear hb he K4 R4 RU
          go_wp2_with fail
          refine (RQ.out v5 (haT.out _ K5.out)).mono ?_
          rintro _ v6 ⟨hb, he, -⟩
          obtain rfl := he hR.out
          have K6 := Lib.hid (K5.out.trans (hb.mono K5.out.size))
          have R6 := Lib.hid (RAt.on R5.out hb)
          clear hb he K5 R5 RQ hR
          generalize (RunR LT a1 a2).1 = er at *
          have te : (er != er) = false := by simp
          go_wp2_with fail
          refine (gsame_run none none 0 0 0 [] v6 rfl (by omega) (nilA.out _) (nilA.out _)).mono ?_
          rintro _ v7 ⟨rfl, hb⟩
          have R7 := Lib.hid (RAt.on R6.out hb)
          replace K6 := Lib.hid (K6.out.trans (hb.mono K6.out.size))
          clear hb R6
          go_wp2_with fail
          refine (gkept_run gr ao0 cap0 cr 2 LT v7 hnT.out (by omega) hr1.out hr2.out R7.out (haT.out _ K6.out)).mono ?_
          rintro _ v8 ⟨rfl, hb⟩
          have R8 := Lib.hid (RAt.on R7.out hb)
          replace K6 := Lib.hid (K6.out.trans (hb.mono K6.out.size))
          clear hb R7
          go_upto_region 13 with fail
          go_wp2_with fail
          go_loopw [12] (fun iv wr => iv = .int .i64 0 ∧ wr = v8) (fun _ _ => 0)
          case atStart => exact ⟨rfl, rfl⟩
          case round =>
            obtain ⟨rfl, rfl⟩ := hrel
            obtain ⟨i0, hi0, hz0, hz1, hz2⟩ := info_ofR recM.info
            have news : ∀ j u, ([.int .i64 0, .int .i64 0, .int .i64 0, .int .i64 0, .int .i64 0, .int .i64 0, .int .i64 0, .int .i64 0, .int .i64 0, .int .i64 0, .int .i64 0, .int .i64 0, .int .i64 0, .int .i64 0] : List Value)[j]? = some u → (wr.alloc (.cells #[.int .i64 0, .int .i64 0, .int .i64 0, .int .i64 0, .int .i64 0, .int .i64 0, .int .i64 0, .int .i64 0, .int .i64 0, .int .i64 0, .int .i64 0, .int .i64 0, .int .i64 0, .int .i64 0] 34)).cell? ((⟨wr.heap.size, 0, none⟩ : Addr).add j) = some u := fun j u h => by
              have B := BV.box wr 34 [.int .i64 0, .int .i64 0, .int .i64 0, .int .i64 0, .int .i64 0, .int .i64 0, .int .i64 0, .int .i64 0, .int .i64 0, .int .i64 0, .int .i64 0, .int .i64 0, .int .i64 0, .int .i64 0]
              rw [ad_plainR, Nat.zero_add]
              exact B.at_ j u h
            have KA := Lib.hid (K6.out.alloc K6.out.size (.cells #[.int .i64 0, .int .i64 0, .int .i64 0, .int .i64 0, .int .i64 0, .int .i64 0, .int .i64 0, .int .i64 0, .int .i64 0, .int .i64 0, .int .i64 0, .int .i64 0, .int .i64 0, .int .i64 0] 34))
            have RA := Lib.hid (RAt.alloc R8.out (.cells #[.int .i64 0, .int .i64 0, .int .i64 0, .int .i64 0, .int .i64 0, .int .i64 0, .int .i64 0, .int .i64 0, .int .i64 0, .int .i64 0, .int .i64 0, .int .i64 0, .int .i64 0, .int .i64 0] 34))
            replace news := Lib.hid news
            clear K6 R8
            go_wp2_with (at_builtin; refine wpList_append_grows _ rfl _ _ _ rfl 34 i0 _ 7 56 Try.underlying22 hi0 hz0 hz1 hz2 rfl (by decide) none 0 0 [] rfl (fun _ => ⟨rfl, rfl⟩) rfl (by intro b h; cases h) ⟨wr.heap.size, 0, none⟩ 2 2 [.int .i64 0, .int .i64 0, .int .i64 0, .int .i64 0, .int .i64 0, .int .i64 0, .int .i64 0, .int .i64 0, .int .i64 0, .int .i64 0, .int .i64 0, .int .i64 0, .int .i64 0, .int .i64 0] rfl rfl news.out (by intro u hu; simp at hu; subst hu; rfl) (by omega) (by decide) (by decide) ?_)
            intro v' w9 ho hg
            have hbg : Below w.heap.size w w9 := KA.out.grown hg KA.out.size (by intro k h; cases h)
            have K9 := Lib.hid hbg
            have R9 := Lib.hid (show MAt w9 (some ⟨gr, 0, none⟩) _ from RAt.on RA.out ((Below.refl _ _).grown hg (Nat.le_refl _) (by intro k h; cases h)))
            obtain ⟨aof, cf, e9⟩ : ∃ aof cf, v' = .slice aof (0 + 2) cf := by
              rcases ho.2 with ⟨-, h0⟩ | ⟨g9, c9, cur, hv, -⟩
              · omega
              · exact ⟨_, _, hv⟩
            subst e9
            clear ho hg KA RA hbg news hi0 hz0 hz1 hz2
            go_wp2_with fail
            refine (gkept_run gr ao0 cap0 cr 2 LT w9 hnT.out (by omega) hr1.out hr2.out R9.out (haT.out _ K9.out)).mono ?_
            rintro _ v10 ⟨rfl, hb⟩
            have K10 := Lib.hid (K9.out.trans (hb.mono K9.out.size))
            clear hb K9 R9
            go_wp2_with fail
            go_ret
            exact ⟨by first | rfl | trivial, K10.out⟩
        | some s =>
          have hq : Hid (2 = s.length) := by show _ = _; rw [(RunR_kept hR).2.2.1]; exact hnT.out
          replace hR := Lib.hid hR
          go_enter Try.func3, Try.ntmps3
          go_wp2_with fail
          refine (AW.out w).mono ?_
          rintro _ v1 ⟨rfl, hb⟩
          have K := Lib.hid hb
          clear hb AW
          go_wp2_with fail
          have c1 := Lib.hid (ha0.out.below (fun b o e h => ha0.out.lt b o e h) K.out)
          refine (CK.out _ c1.out).mono ?_
          rintro _ v2 ⟨rfl, hb⟩
          replace K := Lib.hid (K.out.trans (hb.mono K.out.size))
          clear hb c1
          have c1 := Lib.hid (ha0.out.below (fun b o e h => ha0.out.lt b o e h) K.out)
          go_wp2_with fail
          refine (CQ.out _ c1.out).mono ?_
          rintro _ v3 ⟨rfl, hb⟩
          replace K := Lib.hid (K.out.trans (hb.mono K.out.size))
          clear hb c1 CK CQ
          go_wp2_with fail
          refine (RO.out _ (haT.out _ K.out)).mono ?_
          rintro _ v4 ⟨gr, cr, rfl, hr1, hr2, R4, hgr, hb⟩
          have K4 := Lib.hid (K.out.trans (hb.mono K.out.size))
          replace R4 := Lib.hid R4
          have gl := Lib.hid (show w.heap.size ≤ gr from Nat.le_trans K.out.size hgr)
          replace hr1 := Lib.hid hr1
          replace hr2 := Lib.hid hr2
          clear hb hgr K RO
          go_wp2_with fail
          refine (RU.out v4 _ cr LT a2 hnT.out R4.out.left).mono ?_
          rintro _ v5 ⟨hb, -, hs⟩
          obtain ⟨b, rfl, hbb, O5⟩ := hs s hR.out
          rw [← hq.out]
          have gb : Hid (gr < b) := by
            have := RAt.lt R4.out gr 0 rfl (by simp)
            show _ < _
            omega
          have K5 := Lib.hid (K4.out.trans (hb.mono K4.out.size))
          have R5 := Lib.hid (RAt.on R4.out hb)
          replace O5 := Lib.hid O5
          clear hb hs K4 R4 RU hbb
          go_wp2_with fail
          refine (RQ.out v5 (haT.out _ K5.out)).mono ?_
          rintro _ v6 ⟨hb, -, hs⟩
          obtain ⟨aoq, cq, rfl, Q6⟩ := hs s hR.out
          rw [← hq.out]
          have K6 := Lib.hid (K5.out.trans (hb.mono K5.out.size))
          have R6 := Lib.hid (RAt.on R5.out hb)
          have O6 := Lib.hid (O5.out.on hb)
          replace Q6 := Lib.hid Q6
          clear hb hs K5 R5 RQ hR O5
          go_wp2_with fail
          refine (gsame_run _ _ 2 cq 2 s v6 hq.out (by omega) O6.out.at_ Q6.out).mono ?_
          rintro _ v7 ⟨rfl, hb⟩
          have R7 := Lib.hid (RAt.on R6.out hb)
          have O7 := Lib.hid (O6.out.on hb)
          replace K6 := Lib.hid (K6.out.trans (hb.mono K6.out.size))
          clear hb R6 O6 Q6
          go_wp2_with fail
          refine (gkept_run gr ao0 cap0 cr 2 LT v7 hnT.out (by omega) hr1.out hr2.out R7.out (haT.out _ K6.out)).mono ?_
          rintro _ v8 ⟨rfl, hb⟩
          have R8 := Lib.hid (RAt.on R7.out hb)
          have O8 := Lib.hid (O7.out.on hb)
          replace K6 := Lib.hid (K6.out.trans (hb.mono K6.out.size))
          clear hb R7 O7
          go_upto_region 13 with fail
          go_wp2_with fail
          go_loopw [12] (fun iv wr => ∃ (i : Nat) (M : List Ma), i ≤ 2 ∧ M.length = 2 ∧ iv = .int .i64 i ∧ OwM b M wr ∧ Below b v8 wr) (fun iv _ => 2 - (intOf iv).toNat)
          case atStart => exact ⟨0, s, Nat.zero_le _, hq.out.symm, rfl, O8.out, Below.refl _ _⟩
          case round =>
            obtain ⟨i, M, hi, hM, rfl, O, hbw⟩ := hrel
            by_cases hlt : i < 2
            · have hiM : i < M.length := by omega
              have hin : (i : Int) < (2 : Int) := by omega
              have c := O.m hiM
              have fz := OwM.frm O hiM
              have O2 := Lib.hid (OwM.setm O hiM (-1))
              have b2 := Lib.hid (hbw.setCell (p := ⟨b, i * 7, none⟩) (Nat.le_refl b) (.int .i64 (-1)))
              have hM2 := Lib.hid (show (M.set i { mAt M i with m := -1 }).length = 2 by rw [List.length_set]; exact hM)
              clear O hbw hM hiM O8
              go_wp2_with fail
              go_roundw
              case rel => exact ⟨i + 1, _, hlt, hM2.out, by go_num, O2.out, b2.out⟩
              case measure => simp [intOf]; omega
            · obtain rfl : 2 = i := by omega
              have O9 := O.at_
              have RZ := Lib.hid (MAt.under R8.out hbw gb.out)
              have KZ := Lib.hid (K6.out.trans (hbw.mono (by have := gb.out; have := gl.out; omega)))
              replace hM := Lib.hid hM
              replace O := Lib.hid O
              clear R8 K6 O8 hbw O9
              obtain ⟨i0, hi0, hz0, hz1, hz2⟩ := info_ofR recM.info
              have news : ∀ j u, ([.int .i64 0, .int .i64 0, .int .i64 0, .int .i64 0, .int .i64 0, .int .i64 0, .int .i64 0, .int .i64 0, .int .i64 0, .int .i64 0, .int .i64 0, .int .i64 0, .int .i64 0, .int .i64 0] : List Value)[j]? = some u → (wr.alloc (.cells #[.int .i64 0, .int .i64 0, .int .i64 0, .int .i64 0, .int .i64 0, .int .i64 0, .int .i64 0, .int .i64 0, .int .i64 0, .int .i64 0, .int .i64 0, .int .i64 0, .int .i64 0, .int .i64 0] 34)).cell? ((⟨wr.heap.size, 0, none⟩ : Addr).add j) = some u := fun j u h => by
                have B := BV.box wr 34 [.int .i64 0, .int .i64 0, .int .i64 0, .int .i64 0, .int .i64 0, .int .i64 0, .int .i64 0, .int .i64 0, .int .i64 0, .int .i64 0, .int .i64 0, .int .i64 0, .int .i64 0, .int .i64 0]
                rw [ad_plainR, Nat.zero_add]
                exact B.at_ j u h
              have olds : ∀ bb, (some ⟨b, 0, none⟩ : Option Addr) = some bb → ∀ j u, (flatM M)[j]? = some u → (wr.alloc (.cells #[.int .i64 0, .int .i64 0, .int .i64 0, .int .i64 0, .int .i64 0, .int .i64 0, .int .i64 0, .int .i64 0, .int .i64 0, .int .i64 0, .int .i64 0, .int .i64 0, .int .i64 0, .int .i64 0] 34)).cell? (bb.add j) = some u := fun bb e j u h => by
                obtain rfl := Option.some.inj e
                rw [ad_plainR, Nat.zero_add]
                exact OwM.at_' (OwM.on O.out ((Below.refl _ _).alloc (Nat.le_refl _) _)) j u h
              have fl : (flatM M).length = 2 * 7 := by unfold flatM; rw [flat_len (rows_ma M), List.length_map, hM.out]
              have KA := Lib.hid (KZ.out.alloc KZ.out.size (.cells #[.int .i64 0, .int .i64 0, .int .i64 0, .int .i64 0, .int .i64 0, .int .i64 0, .int .i64 0, .int .i64 0, .int .i64 0, .int .i64 0, .int .i64 0, .int .i64 0, .int .i64 0, .int .i64 0] 34))
              have RA := Lib.hid (RAt.alloc RZ.out (.cells #[.int .i64 0, .int .i64 0, .int .i64 0, .int .i64 0, .int .i64 0, .int .i64 0, .int .i64 0, .int .i64 0, .int .i64 0, .int .i64 0, .int .i64 0, .int .i64 0, .int .i64 0, .int .i64 0] 34))
              replace news := Lib.hid news
              replace olds := Lib.hid olds
              replace fl := Lib.hid fl
              clear KZ RZ
              go_wp2_with (at_builtin; refine wpList_append_grows _ rfl _ _ _ rfl 34 i0 _ 7 56 Try.underlying22 hi0 hz0 hz1 hz2 rfl (by decide) (some ⟨b, 0, none⟩) 2 2 (flatM M) rfl (by intro h; cases h) fl.out olds.out ⟨wr.heap.size, 0, none⟩ 2 2 [.int .i64 0, .int .i64 0, .int .i64 0, .int .i64 0, .int .i64 0, .int .i64 0, .int .i64 0, .int .i64 0, .int .i64 0, .int .i64 0, .int .i64 0, .int .i64 0, .int .i64 0, .int .i64 0] rfl rfl news.out (by intro u hu; simp at hu; subst hu; rfl) (by omega) hx1.out hx2.out ?_)
              intro v' w9 ho hg
              have hbg : Below w.heap.size w w9 := KA.out.grown hg KA.out.size (by intro k h; cases h)
              have K9 := Lib.hid hbg
              have R9 := Lib.hid (show MAt w9 (some ⟨gr, 0, none⟩) _ from RAt.on RA.out ((Below.refl _ _).grown hg (Nat.le_refl _) (by intro k h; cases h)))
              obtain ⟨aof, cf, e9⟩ : ∃ aof cf, v' = .slice aof (2 + 2) cf := by
                rcases ho.2 with ⟨-, h0⟩ | ⟨g9, c9, cur, hv, -⟩
                · omega
                · exact ⟨_, _, hv⟩
              subst e9
              clear ho hg KA RA hbg news olds hi0 hz0 hz1 hz2 O
              go_wp2_with fail
              refine (gkept_run gr ao0 cap0 cr 2 LT w9 hnT.out (by omega) hr1.out hr2.out R9.out (haT.out _ K9.out)).mono ?_
              rintro _ v10 ⟨rfl, hb⟩
              have K10 := Lib.hid (K9.out.trans (hb.mono K9.out.size))
              clear hb K9 R9
              go_wp2_with fail
              go_ret
              exact ⟨by first | rfl | trivial, K10.out⟩
      · have d1 : decide (-4000 < a2) = false := decide_eq_false (by omega)
        have d3 : decide (-4096 ≤ a2) = true := decide_eq_true (by omega)
        have d4 : decide (a2 ≤ 4096) = true := decide_eq_true (by omega)
        have d5 : decide ((2 : Int) < n) = false := decide_eq_false (by omega)
        have hnT := hn
        have haT : Hid (∀ W, Below w.heap.size w W → MAt W ao0 L0) := Lib.hid fun W h => ha0.out.below (fun b o e k => ha0.out.lt b o e k) h
        have hx1 : Hid (n + 2 ≤ maxLen) := by show _ ≤ _; unfold maxLen; omega
        have hx2 : Hid ((n + 2) * 56 ≤ 140737488355328) := by show _ ≤ _; omega
        have hx3 : Hid (n * 56 ≤ 140737488351232) := Lib.hid hrn
        have RO := Lib.hid (fun W (h : MAt W ao0 L0) => groomy_run ao0 cap0 n L0 W hnT.out hx1.out (by have := hx2.out; omega) hn0.out h)
        have RQ := Lib.hid (fun W (h : MAt W ao0 L0) => rgRun_run ao0 cap0 n L0 a1 W (nn := a2) hnT.out (by omega) h h1.out hx3.out hn0.out)
        have RU := Lib.hid (fun W ao cap (L : List Ma) (k : Int) (hL : n = L.length) (ha : MAt W ao L) => gRun_run ao cap n L a1 W (nn := k) hL (by omega) ha h1.out)
        cases hR : (RunR L0 a1 a2).2 with
        | none =>
          replace hR := Lib.hid hR
          go_enter Try.func3, Try.ntmps3
          go_wp2_with fail
          refine (AW.out w).mono ?_
          rintro _ v1 ⟨rfl, hb⟩
          have K := Lib.hid hb
          clear hb AW
          go_wp2_with fail
          have c1 := Lib.hid (ha0.out.below (fun b o e h => ha0.out.lt b o e h) K.out)
          refine (CK.out _ c1.out).mono ?_
          rintro _ v2 ⟨rfl, hb⟩
          replace K := Lib.hid (K.out.trans (hb.mono K.out.size))
          clear hb c1
          have c1 := Lib.hid (ha0.out.below (fun b o e h => ha0.out.lt b o e h) K.out)
          go_wp2_with fail
          refine (CQ.out _ c1.out).mono ?_
          rintro _ v3 ⟨rfl, hb⟩
          replace K := Lib.hid (K.out.trans (hb.mono K.out.size))
          clear hb c1 CK CQ
          go_wp2_with fail
          refine (RO.out _ (haT.out _ K.out)).mono ?_
          rintro _ v4 ⟨gr, cr, rfl, hr1, hr2, R4, hgr, hb⟩
          have K4 := Lib.hid (K.out.trans (hb.mono K.out.size))
          replace R4 := Lib.hid R4
          have gl := Lib.hid (show w.heap.size ≤ gr from Nat.le_trans K.out.size hgr)
          replace hr1 := Lib.hid hr1
          replace hr2 := Lib.hid hr2
          clear hb hgr K RO
          go_wp2_with fail
          refine (RU.out v4 _ cr L0 a2 hnT.out R4.out.left).mono ?_
          rintro _ v5 ⟨hb, he, -⟩
          obtain rfl := he hR.out
          have K5 := Lib.hid (K4.out.trans (hb.mono K4.out.size))
          have R5 := Lib.hid (RAt.on R4.out hb)
          clear hb he K4 R4 RU
          go_wp2_with fail
          refine (RQ.out v5 (haT.out _ K5.out)).mono ?_
          rintro _ v6 ⟨hb, he, -⟩
          obtain rfl := he hR.out
          have K6 := Lib.hid (K5.out.trans (hb.mono K5.out.size))
          have R6 := Lib.hid (RAt.on R5.out hb)
          clear hb he K5 R5 RQ hR
          generalize (RunR L0 a1 a2).1 = er at *
          have te : (er != er) = false := by simp
          go_wp2_with fail
          refine (gsame_run none none 0 0 0 [] v6 rfl (by omega) (nilA.out _) (nilA.out _)).mono ?_
          rintro _ v7 ⟨rfl, hb⟩
          have R7 := Lib.hid (RAt.on R6.out hb)
          replace K6 := Lib.hid (K6.out.trans (hb.mono K6.out.size))
          clear hb R6
          go_wp2_with fail
          refine (gkept_run gr ao0 cap0 cr n L0 v7 hnT.out (by omega) hr1.out hr2.out R7.out (haT.out _ K6.out)).mono ?_
          rintro _ v8 ⟨rfl, hb⟩
          have R8 := Lib.hid (RAt.on R7.out hb)
          replace K6 := Lib.hid (K6.out.trans (hb.mono K6.out.size))
          clear hb R7
          go_upto_region 13 with fail
          go_wp2_with fail
          go_loopw [12] (fun iv wr => iv = .int .i64 0 ∧ wr = v8) (fun _ _ => 0)
          case atStart => exact ⟨rfl, rfl⟩
          case round =>
            obtain ⟨rfl, rfl⟩ := hrel
            obtain ⟨i0, hi0, hz0, hz1, hz2⟩ := info_ofR recM.info
            have news : ∀ j u, ([.int .i64 0, .int .i64 0, .int .i64 0, .int .i64 0, .int .i64 0, .int .i64 0, .int .i64 0, .int .i64 0, .int .i64 0, .int .i64 0, .int .i64 0, .int .i64 0, .int .i64 0, .int .i64 0] : List Value)[j]? = some u → (wr.alloc (.cells #[.int .i64 0, .int .i64 0, .int .i64 0, .int .i64 0, .int .i64 0, .int .i64 0, .int .i64 0, .int .i64 0, .int .i64 0, .int .i64 0, .int .i64 0, .int .i64 0, .int .i64 0, .int .i64 0] 34)).cell? ((⟨wr.heap.size, 0, none⟩ : Addr).add j) = some u := fun j u h => by
              have B := BV.box wr 34 [.int .i64 0, .int .i64 0, .int .i64 0, .int .i64 0, .int .i64 0, .int .i64 0, .int .i64 0, .int .i64 0, .int .i64 0, .int .i64 0, .int .i64 0, .int .i64 0, .int .i64 0, .int .i64 0]
              rw [ad_plainR, Nat.zero_add]
              exact B.at_ j u h
            have KA := Lib.hid (K6.out.alloc K6.out.size (.cells #[.int .i64 0, .int .i64 0, .int .i64 0, .int .i64 0, .int .i64 0, .int .i64 0, .int .i64 0, .int .i64 0, .int .i64 0, .int .i64 0, .int .i64 0, .int .i64 0, .int .i64 0, .int .i64 0] 34))
            have RA := Lib.hid (RAt.alloc R8.out (.cells #[.int .i64 0, .int .i64 0, .int .i64 0, .int .i64 0, .int .i64 0, .int .i64 0, .int .i64 0, .int .i64 0, .int .i64 0, .int .i64 0, .int .i64 0, .int .i64 0, .int .i64 0, .int .i64 0] 34))
            replace news := Lib.hid news
            clear K6 R8
            go_wp2_with (at_builtin; refine wpList_append_grows _ rfl _ _ _ rfl 34 i0 _ 7 56 Try.underlying22 hi0 hz0 hz1 hz2 rfl (by decide) none 0 0 [] rfl (fun _ => ⟨rfl, rfl⟩) rfl (by intro b h; cases h) ⟨wr.heap.size, 0, none⟩ 2 2 [.int .i64 0, .int .i64 0, .int .i64 0, .int .i64 0, .int .i64 0, .int .i64 0, .int .i64 0, .int .i64 0, .int .i64 0, .int .i64 0, .int .i64 0, .int .i64 0, .int .i64 0, .int .i64 0] rfl rfl news.out (by intro u hu; simp at hu; subst hu; rfl) (by omega) (by decide) (by decide) ?_)
            intro v' w9 ho hg
            have hbg : Below w.heap.size w w9 := KA.out.grown hg KA.out.size (by intro k h; cases h)
            have K9 := Lib.hid hbg
            have R9 := Lib.hid (show MAt w9 (some ⟨gr, 0, none⟩) _ from RAt.on RA.out ((Below.refl _ _).grown hg (Nat.le_refl _) (by intro k h; cases h)))
            obtain ⟨aof, cf, e9⟩ : ∃ aof cf, v' = .slice aof (0 + 2) cf := by
              rcases ho.2 with ⟨-, h0⟩ | ⟨g9, c9, cur, hv, -⟩
              · omega
              · exact ⟨_, _, hv⟩
            subst e9
            clear ho hg KA RA hbg news hi0 hz0 hz1 hz2
            go_wp2_with fail
            refine (gkept_run gr ao0 cap0 cr n L0 w9 hnT.out (by omega) hr1.out hr2.out R9.out (haT.out _ K9.out)).mono ?_
            rintro _ v10 ⟨rfl, hb⟩
            have K10 := Lib.hid (K9.out.trans (hb.mono K9.out.size))
            clear hb K9 R9
            go_wp2_with fail
            go_ret
            exact ⟨by first | rfl | trivial, K10.out⟩
        | some s =>
          have hq : Hid (n = s.length) := by show _ = _; rw [(RunR_kept hR).2.2.1]; exact hnT.out
          replace hR := Lib.hid hR
          go_enter Try.func3, Try.ntmps3
          go_wp2_with fail
          refine (AW.out w).mono ?_
          rintro _ v1 ⟨rfl, hb⟩
          have K := Lib.hid hb
          clear hb AW
          go_wp2_with fail
          have c1 := Lib.hid (ha0.out.below (fun b o e h => ha0.out.lt b o e h) K.out)
          refine (CK.out _ c1.out).mono ?_
          rintro _ v2 ⟨rfl, hb⟩
          replace K := Lib.hid (K.out.trans (hb.mono K.out.size))
          clear hb c1
          have c1 := Lib.hid (ha0.out.below (fun b o e h => ha0.out.lt b o e h) K.out)
          go_wp2_with fail
          refine (CQ.out _ c1.out).mono ?_
          rintro _ v3 ⟨rfl, hb⟩
          replace K := Lib.hid (K.out.trans (hb.mono K.out.size))
          clear hb c1 CK CQ
          go_wp2_with fail
          refine (RO.out _ (haT.out _ K.out)).mono ?_
          rintro _ v4 ⟨gr, cr, rfl, hr1, hr2, R4, hgr, hb⟩
          have K4 := Lib.hid (K.out.trans (hb.mono K.out.size))
          replace R4 := Lib.hid R4
          have gl := Lib.hid (show w.heap.size ≤ gr from Nat.le_trans K.out.size hgr)
          replace hr1 := Lib.hid hr1
          replace hr2 := Lib.hid hr2
          clear hb hgr K RO
          go_wp2_with fail
          refine (RU.out v4 _ cr L0 a2 hnT.out R4.out.left).mono ?_
          rintro _ v5 ⟨hb, -, hs⟩
          obtain ⟨b, rfl, hbb, O5⟩ := hs s hR.out
          rw [← hq.out]
          have gb : Hid (gr < b) := by
            have := RAt.lt R4.out gr 0 rfl (by simp)
            show _ < _
            omega
          have K5 := Lib.hid (K4.out.trans (hb.mono K4.out.size))
          have R5 := Lib.hid (RAt.on R4.out hb)
          replace O5 := Lib.hid O5
          clear hb hs K4 R4 RU hbb
          go_wp2_with fail
          refine (RQ.out v5 (haT.out _ K5.out)).mono ?_
          rintro _ v6 ⟨hb, -, hs⟩
          obtain ⟨aoq, cq, rfl, Q6⟩ := hs s hR.out
          rw [← hq.out]
          have K6 := Lib.hid (K5.out.trans (hb.mono K5.out.size))
          have R6 := Lib.hid (RAt.on R5.out hb)
          have O6 := Lib.hid (O5.out.on hb)
          replace Q6 := Lib.hid Q6
          clear hb hs K5 R5 RQ hR O5
          go_wp2_with fail
          refine (gsame_run _ _ n cq n s v6 hq.out (by omega) O6.out.at_ Q6.out).mono ?_
          rintro _ v7 ⟨rfl, hb⟩
          have R7 := Lib.hid (RAt.on R6.out hb)
          have O7 := Lib.hid (O6.out.on hb)
          replace K6 := Lib.hid (K6.out.trans (hb.mono K6.out.size))
          clear hb R6 O6 Q6
          go_wp2_with fail
          refine (gkept_run gr ao0 cap0 cr n L0 v7 hnT.out (by omega) hr1.out hr2.out R7.out (haT.out _ K6.out)).mono ?_
          rintro _ v8 ⟨rfl, hb⟩
          have R8 := Lib.hid (RAt.on R7.out hb)
          have O8 := Lib.hid (O7.out.on hb)
          replace K6 := Lib.hid (K6.out.trans (hb.mono K6.out.size))
          clear hb R7 O7
          go_upto_region 13 with fail
          go_wp2_with fail
          go_loopw [12] (fun iv wr => ∃ (i : Nat) (M : List Ma), i ≤ n ∧ M.length = n ∧ iv = .int .i64 i ∧ OwM b M wr ∧ Below b v8 wr) (fun iv _ => n - (intOf iv).toNat)
          case atStart => exact ⟨0, s, Nat.zero_le _, hq.out.symm, rfl, O8.out, Below.refl _ _⟩
          case round =>
            obtain ⟨i, M, hi, hM, rfl, O, hbw⟩ := hrel
            by_cases hlt : i < n
            · have hiM : i < M.length := by omega
              have hin : (i : Int) < (n : Int) := by omega
              have c := O.m hiM
              have fz := OwM.frm O hiM
              have O2 := Lib.hid (OwM.setm O hiM (-1))
              have b2 := Lib.hid (hbw.setCell (p := ⟨b, i * 7, none⟩) (Nat.le_refl b) (.int .i64 (-1)))
              have hM2 := Lib.hid (show (M.set i { mAt M i with m := -1 }).length = n by rw [List.length_set]; exact hM)
              clear O hbw hM hiM O8
              go_wp2_with fail
              go_roundw
              case rel => exact ⟨i + 1, _, hlt, hM2.out, by go_num, O2.out, b2.out⟩
              case measure => simp [intOf]; omega
            · obtain rfl : n = i := by omega
              have O9 := O.at_
              have RZ := Lib.hid (MAt.under R8.out hbw gb.out)
              have KZ := Lib.hid (K6.out.trans (hbw.mono (by have := gb.out; have := gl.out; omega)))
              replace hM := Lib.hid hM
              replace O := Lib.hid O
              clear R8 K6 O8 hbw O9
              obtain ⟨i0, hi0, hz0, hz1, hz2⟩ := info_ofR recM.info
              have news : ∀ j u, ([.int .i64 0, .int .i64 0, .int .i64 0, .int .i64 0, .int .i64 0, .int .i64 0, .int .i64 0, .int .i64 0, .int .i64 0, .int .i64 0, .int .i64 0, .int .i64 0, .int .i64 0, .int .i64 0] : List Value)[j]? = some u → (wr.alloc (.cells #[.int .i64 0, .int .i64 0, .int .i64 0, .int .i64 0, .int .i64 0, .int .i64 0, .int .i64 0, .int .i64 0, .int .i64 0, .int .i64 0, .int .i64 0, .int .i64 0, .int .i64 0, .int .i64 0] 34)).cell? ((⟨wr.heap.size, 0, none⟩ : Addr).add j) = some u := fun j u h => by
                have B := BV.box wr 34 [.int .i64 0, .int .i64 0, .int .i64 0, .int .i64 0, .int .i64 0, .int .i64 0, .int .i64 0, .int .i64 0, .int .i64 0, .int .i64 0, .int .i64 0, .int .i64 0, .int .i64 0, .int .i64 0]
                rw [ad_plainR, Nat.zero_add]
                exact B.at_ j u h
              have olds : ∀ bb, (some ⟨b, 0, none⟩ : Option Addr) = some bb → ∀ j u, (flatM M)[j]? = some u → (wr.alloc (.cells #[.int .i64 0, .int .i64 0, .int .i64 0, .int .i64 0, .int .i64 0, .int .i64 0, .int .i64 0, .int .i64 0, .int .i64 0, .int .i64 0, .int .i64 0, .int .i64 0, .int .i64 0, .int .i64 0] 34)).cell? (bb.add j) = some u := fun bb e j u h => by
                obtain rfl := Option.some.inj e
                rw [ad_plainR, Nat.zero_add]
                exact OwM.at_' (OwM.on O.out ((Below.refl _ _).alloc (Nat.le_refl _) _)) j u h
              have fl : (flatM M).length = n * 7 := by unfold flatM; rw [flat_len (rows_ma M), List.length_map, hM.out]
              have KA := Lib.hid (KZ.out.alloc KZ.out.size (.cells #[.int .i64 0, .int .i64 0, .int .i64 0, .int .i64 0, .int .i64 0, .int .i64 0, .int .i64 0, .int .i64 0, .int .i64 0, .int .i64 0, .int .i64 0, .int .i64 0, .int .i64 0, .int .i64 0] 34))
              have RA := Lib.hid (RAt.alloc RZ.out (.cells #[.int .i64 0, .int .i64 0, .int .i64 0, .int .i64 0, .int .i64 0, .int .i64 0, .int .i64 0, .int .i64 0, .int .i64 0, .int .i64 0, .int .i64 0, .int .i64 0, .int .i64 0, .int .i64 0] 34))
              replace news := Lib.hid news
              replace olds := Lib.hid olds
              replace fl := Lib.hid fl
              clear KZ RZ
              go_wp2_with (at_builtin; refine wpList_append_grows _ rfl _ _ _ rfl 34 i0 _ 7 56 Try.underlying22 hi0 hz0 hz1 hz2 rfl (by decide) (some ⟨b, 0, none⟩) n n (flatM M) rfl (by intro h; cases h) fl.out olds.out ⟨wr.heap.size, 0, none⟩ 2 2 [.int .i64 0, .int .i64 0, .int .i64 0, .int .i64 0, .int .i64 0, .int .i64 0, .int .i64 0, .int .i64 0, .int .i64 0, .int .i64 0, .int .i64 0, .int .i64 0, .int .i64 0, .int .i64 0] rfl rfl news.out (by intro u hu; simp at hu; subst hu; rfl) (by omega) hx1.out hx2.out ?_)
              intro v' w9 ho hg
              have hbg : Below w.heap.size w w9 := KA.out.grown hg KA.out.size (by intro k h; cases h)
              have K9 := Lib.hid hbg
              have R9 := Lib.hid (show MAt w9 (some ⟨gr, 0, none⟩) _ from RAt.on RA.out ((Below.refl _ _).grown hg (Nat.le_refl _) (by intro k h; cases h)))
              obtain ⟨aof, cf, e9⟩ : ∃ aof cf, v' = .slice aof (n + 2) cf := by
                rcases ho.2 with ⟨-, h0⟩ | ⟨g9, c9, cur, hv, -⟩
                · omega
                · exact ⟨_, _, hv⟩
              subst e9
              clear ho hg KA RA hbg news olds hi0 hz0 hz1 hz2 O
              go_wp2_with fail
              refine (gkept_run gr ao0 cap0 cr n L0 w9 hnT.out (by omega) hr1.out hr2.out R9.out (haT.out _ K9.out)).mono ?_
              rintro _ v10 ⟨rfl, hb⟩
              have K10 := Lib.hid (K9.out.trans (hb.mono K9.out.size))
              clear hb K9 R9
              go_wp2_with fail
              go_ret
              exact ⟨by first | rfl | trivial, K10.out⟩
    · have d1 : decide (-4000 < a2) = false := decide_eq_false (by omega)
      have d3 : decide (-4096 ≤ a2) = false := decide_eq_false (by omega)
      have hnT := hn
      have haT : Hid (∀ W, Below w.heap.size w W → MAt W ao0 L0) := Lib.hid fun W h => ha0.out.below (fun b o e k => ha0.out.lt b o e k) h
      have hx1 : Hid (n + 2 ≤ maxLen) := by show _ ≤ _; unfold maxLen; omega
      have hx2 : Hid ((n + 2) * 56 ≤ 140737488355328) := by show _ ≤ _; omega
      have hx3 : Hid (n * 56 ≤ 140737488351232) := Lib.hid hrn
      have RO := Lib.hid (fun W (h : MAt W ao0 L0) => groomy_run ao0 cap0 n L0 W hnT.out hx1.out (by have := hx2.out; omega) hn0.out h)
      have RQ := Lib.hid (fun W (h : MAt W ao0 L0) => rgRun_run ao0 cap0 n L0 a1 W (nn := a2) hnT.out (by omega) h h1.out hx3.out hn0.out)
      have RU := Lib.hid (fun W ao cap (L : List Ma) (k : Int) (hL : n = L.length) (ha : MAt W ao L) => gRun_run ao cap n L a1 W (nn := k) hL (by omega) ha h1.out)
      cases hR : (RunR L0 a1 a2).2 with
      | none =>
        replace hR := Lib.hid hR
        go_enter Try.func3, Try.ntmps3
        go_wp2_with fail
        refine (AW.out w).mono ?_
        rintro _ v1 ⟨rfl, hb⟩
        have K := Lib.hid hb
        clear hb AW
        go_wp2_with fail
        have c1 := Lib.hid (ha0.out.below (fun b o e h => ha0.out.lt b o e h) K.out)
        refine (CK.out _ c1.out).mono ?_
        rintro _ v2 ⟨rfl, hb⟩
        replace K := Lib.hid (K.out.trans (hb.mono K.out.size))
        clear hb c1
        have c1 := Lib.hid (ha0.out.below (fun b o e h => ha0.out.lt b o e h) K.out)
        go_wp2_with fail
        refine (CQ.out _ c1.out).mono ?_
        rintro _ v3 ⟨rfl, hb⟩
        replace K := Lib.hid (K.out.trans (hb.mono K.out.size))
        clear hb c1 CK CQ
        go_wp2_with fail
        refine (RO.out _ (haT.out _ K.out)).mono ?_
        rintro _ v4 ⟨gr, cr, rfl, hr1, hr2, R4, hgr, hb⟩
        have K4 := Lib.hid (K.out.trans (hb.mono K.out.size))
        replace R4 := Lib.hid R4
        have gl := Lib.hid (show w.heap.size ≤ gr from Nat.le_trans K.out.size hgr)
        replace hr1 := Lib.hid hr1
        replace hr2 := Lib.hid hr2
        clear hb hgr K RO
        go_wp2_with fail
        refine (RU.out v4 _ cr L0 a2 hnT.out R4.out.left).mono ?_
        rintro _ v5 ⟨hb, he, -⟩
        obtain rfl := he hR.out
        have K5 := Lib.hid (K4.out.trans (hb.mono K4.out.size))
        have R5 := Lib.hid (RAt.on R4.out hb)
        clear hb he K4 R4 RU
        go_wp2_with fail
        refine (RQ.out v5 (haT.out _ K5.out)).mono ?_
        rintro _ v6 ⟨hb, he, -⟩
        obtain rfl := he hR.out
        have K6 := Lib.hid (K5.out.trans (hb.mono K5.out.size))
        have R6 := Lib.hid (RAt.on R5.out hb)
        clear hb he K5 R5 RQ hR
        generalize (RunR L0 a1 a2).1 = er at *
        have te : (er != er) = false := by simp
        go_wp2_with fail
        refine (gsame_run none none 0 0 0 [] v6 rfl (by omega) (nilA.out _) (nilA.out _)).mono ?_
        rintro _ v7 ⟨rfl, hb⟩
        have R7 := Lib.hid (RAt.on R6.out hb)
        replace K6 := Lib.hid (K6.out.trans (hb.mono K6.out.size))
        clear hb R6
        go_wp2_with fail
        refine (gkept_run gr ao0 cap0 cr n L0 v7 hnT.out (by omega) hr1.out hr2.out R7.out (haT.out _ K6.out)).mono ?_
        rintro _ v8 ⟨rfl, hb⟩
        have R8 := Lib.hid (RAt.on R7.out hb)
        replace K6 := Lib.hid (K6.out.trans (hb.mono K6.out.size))
        clear hb R7
        go_upto_region 13 with fail
        go_wp2_with fail
        go_loopw [12] (fun iv wr => iv = .int .i64 0 ∧ wr = v8) (fun _ _ => 0)
        case atStart => exact ⟨rfl, rfl⟩
        case round =>
          obtain ⟨rfl, rfl⟩ := hrel
          obtain ⟨i0, hi0, hz0, hz1, hz2⟩ := info_ofR recM.info
          have news : ∀ j u, ([.int .i64 0, .int .i64 0, .int .i64 0, .int .i64 0, .int .i64 0, .int .i64 0, .int .i64 0, .int .i64 0, .int .i64 0, .int .i64 0, .int .i64 0, .int .i64 0, .int .i64 0, .int .i64 0] : List Value)[j]? = some u → (wr.alloc (.cells #[.int .i64 0, .int .i64 0, .int .i64 0, .int .i64 0, .int .i64 0, .int .i64 0, .int .i64 0, .int .i64 0, .int .i64 0, .int .i64 0, .int .i64 0, .int .i64 0, .int .i64 0, .int .i64 0] 34)).cell? ((⟨wr.heap.size, 0, none⟩ : Addr).add j) = some u := fun j u h => by
            have B := BV.box wr 34 [.int .i64 0, .int .i64 0, .int .i64 0, .int .i64 0, .int .i64 0, .int .i64 0, .int .i64 0, .int .i64 0, .int .i64 0, .int .i64 0, .int .i64 0, .int .i64 0, .int .i64 0, .int .i64 0]
            rw [ad_plainR, Nat.zero_add]
            exact B.at_ j u h
          have KA := Lib.hid (K6.out.alloc K6.out.size (.cells #[.int .i64 0, .int .i64 0, .int .i64 0, .int .i64 0, .int .i64 0, .int .i64 0, .int .i64 0, .int .i64 0, .int .i64 0, .int .i64 0, .int .i64 0, .int .i64 0, .int .i64 0, .int .i64 0] 34))
          have RA := Lib.hid (RAt.alloc R8.out (.cells #[.int .i64 0, .int .i64 0, .int .i64 0, .int .i64 0, .int .i64 0, .int .i64 0, .int .i64 0, .int .i64 0, .int .i64 0, .int .i64 0, .int .i64 0, .int .i64 0, .int .i64 0, .int .i64 0] 34))
          replace news := Lib.hid news
          clear K6 R8
          go_wp2_with (at_builtin; refine wpList_append_grows _ rfl _ _ _ rfl 34 i0 _ 7 56 Try.underlying22 hi0 hz0 hz1 hz2 rfl (by decide) none 0 0 [] rfl (fun _ => ⟨rfl, rfl⟩) rfl (by intro b h; cases h) ⟨wr.heap.size, 0, none⟩ 2 2 [.int .i64 0, .int .i64 0, .int .i64 0, .int .i64 0, .int .i64 0, .int .i64 0, .int .i64 0, .int .i64 0, .int .i64 0, .int .i64 0, .int .i64 0, .int .i64 0, .int .i64 0, .int .i64 0] rfl rfl news.out (by intro u hu; simp at hu; subst hu; rfl) (by omega) (by decide) (by decide) ?_)
          intro v' w9 ho hg
          have hbg : Below w.heap.size w w9 := KA.out.grown hg KA.out.size (by intro k h; cases h)
          have K9 := Lib.hid hbg
          have R9 := Lib.hid (show MAt w9 (some ⟨gr, 0, none⟩) _ from RAt.on RA.out ((Below.refl _ _).grown hg (Nat.le_refl _) (by intro k h; cases h)))
          obtain ⟨aof, cf, e9⟩ : ∃ aof cf, v' = .slice aof (0 + 2) cf := by
            rcases ho.2 with ⟨-, h0⟩ | ⟨g9, c9, cur, hv, -⟩
            · omega
            · exact ⟨_, _, hv⟩
          subst e9
          clear ho hg KA RA hbg news hi0 hz0 hz1 hz2
          go_wp2_with fail
          refine (gkept_run gr ao0 cap0 cr n L0 w9 hnT.out (by omega) hr1.out hr2.out R9.out (haT.out _ K9.out)).mono ?_
          rintro _ v10 ⟨rfl, hb⟩
          have K10 := Lib.hid (K9.out.trans (hb.mono K9.out.size))
          clear hb K9 R9
          go_wp2_with fail
          go_ret
          exact ⟨by first | rfl | trivial, K10.out⟩
      | some s =>
        have hq : Hid (n = s.length) := by show _ = _; rw [(RunR_kept hR).2.2.1]; exact hnT.out
        replace hR := Lib.hid hR
        go_enter Try.func3, Try.ntmps3
        go_wp2_with fail
        refine (AW.out w).mono ?_
        rintro _ v1 ⟨rfl, hb⟩
        have K := Lib.hid hb
        clear hb AW
        go_wp2_with fail
        have c1 := Lib.hid (ha0.out.below (fun b o e h => ha0.out.lt b o e h) K.out)
        refine (CK.out _ c1.out).mono ?_
        rintro _ v2 ⟨rfl, hb⟩
        replace K := Lib.hid (K.out.trans (hb.mono K.out.size))
        clear hb c1
        have c1 := Lib.hid (ha0.out.below (fun b o e h => ha0.out.lt b o e h) K.out)
        go_wp2_with fail
        refine (CQ.out _ c1.out).mono ?_
        rintro _ v3 ⟨rfl, hb⟩
        replace K := Lib.hid (K.out.trans (hb.mono K.out.size))
        clear hb c1 CK CQ
        go_wp2_with fail
        refine (RO.out _ (haT.out _ K.out)).mono ?_
        rintro _ v4 ⟨gr, cr, rfl, hr1, hr2, R4, hgr, hb⟩
        have K4 := Lib.hid (K.out.trans (hb.mono K.out.size))
        replace R4 := Lib.hid R4
        have gl := Lib.hid (show w.heap.size ≤ gr from Nat.le_trans K.out.size hgr)
        replace hr1 := Lib.hid hr1
        replace hr2 := Lib.hid hr2
        clear hb hgr K RO
        go_wp2_with fail
        refine (RU.out v4 _ cr L0 a2 hnT.out R4.out.left).mono ?_
        rintro _ v5 ⟨hb, -, hs⟩
        obtain ⟨b, rfl, hbb, O5⟩ := hs s hR.out
        rw [← hq.out]
        have gb : Hid (gr < b) := by
          have := RAt.lt R4.out gr 0 rfl (by simp)
          show _ < _
          omega
        have K5 := Lib.hid (K4.out.trans (hb.mono K4.out.size))
        have R5 := Lib.hid (RAt.on R4.out hb)
        replace O5 := Lib.hid O5
        clear hb hs K4 R4 RU hbb
        go_wp2_with fail
        refine (RQ.out v5 (haT.out _ K5.out)).mono ?_
        rintro _ v6 ⟨hb, -, hs⟩
        obtain ⟨aoq, cq, rfl, Q6⟩ := hs s hR.out
        rw [← hq.out]
        have K6 := Lib.hid (K5.out.trans (hb.mono K5.out.size))
        have R6 := Lib.hid (RAt.on R5.out hb)
        have O6 := Lib.hid (O5.out.on hb)
        replace Q6 := Lib.hid Q6
        clear hb hs K5 R5 RQ hR O5
        go_wp2_with fail
        refine (gsame_run _ _ n cq n s v6 hq.out (by omega) O6.out.at_ Q6.out).mono ?_
        rintro _ v7 ⟨rfl, hb⟩
        have R7 := Lib.hid (RAt.on R6.out hb)
        have O7 := Lib.hid (O6.out.on hb)
        replace K6 := Lib.hid (K6.out.trans (hb.mono K6.out.size))
        clear hb R6 O6 Q6
        go_wp2_with fail
        refine (gkept_run gr ao0 cap0 cr n L0 v7 hnT.out (by omega) hr1.out hr2.out R7.out (haT.out _ K6.out)).mono ?_
        rintro _ v8 ⟨rfl, hb⟩
        have R8 := Lib.hid (RAt.on R7.out hb)
        have O8 := Lib.hid (O7.out.on hb)
        replace K6 := Lib.hid (K6.out.trans (hb.mono K6.out.size))
        clear hb R7 O7
        go_upto_region 13 with fail
        go_wp2_with fail
        go_loopw [12] (fun iv wr => ∃ (i : Nat) (M : List Ma), i ≤ n ∧ M.length = n ∧ iv = .int .i64 i ∧ OwM b M wr ∧ Below b v8 wr) (fun iv _ => n - (intOf iv).toNat)
        case atStart => exact ⟨0, s, Nat.zero_le _, hq.out.symm, rfl, O8.out, Below.refl _ _⟩
        case round =>
          obtain ⟨i, M, hi, hM, rfl, O, hbw⟩ := hrel
          by_cases hlt : i < n
          · have hiM : i < M.length := by omega
            have hin : (i : Int) < (n : Int) := by omega
            have c := O.m hiM
            have fz := OwM.frm O hiM
            have O2 := Lib.hid (OwM.setm O hiM (-1))
            have b2 := Lib.hid (hbw.setCell (p := ⟨b, i * 7, none⟩) (Nat.le_refl b) (.int .i64 (-1)))
            have hM2 := Lib.hid (show (M.set i { mAt M i with m := -1 }).length = n by rw [List.length_set]; exact hM)
            clear O hbw hM hiM O8
            go_wp2_with fail
            go_roundw
            case rel => exact ⟨i + 1, _, hlt, hM2.out, by go_num, O2.out, b2.out⟩
            case measure => simp [intOf]; omega
          · obtain rfl : n = i := by omega
            have O9 := O.at_
            have RZ := Lib.hid (MAt.under R8.out hbw gb.out)
            have KZ := Lib.hid (K6.out.trans (hbw.mono (by have := gb.out; have := gl.out; omega)))
            replace hM := Lib.hid hM
            replace O := Lib.hid O
            clear R8 K6 O8 hbw O9
            obtain ⟨i0, hi0, hz0, hz1, hz2⟩ := info_ofR recM.info
            have news : ∀ j u, ([.int .i64 0, .int .i64 0, .int .i64 0, .int .i64 0, .int .i64 0, .int .i64 0, .int .i64 0, .int .i64 0, .int .i64 0, .int .i64 0, .int .i64 0, .int .i64 0, .int .i64 0, .int .i64 0] : List Value)[j]? = some u → (wr.alloc (.cells #[.int .i64 0, .int .i64 0, .int .i64 0, .int .i64 0, .int .i64 0, .int .i64 0, .int .i64 0, .int .i64 0, .int .i64 0, .int .i64 0, .int .i64 0, .int .i64 0, .int .i64 0, .int .i64 0] 34)).cell? ((⟨wr.heap.size, 0, none⟩ : Addr).add j) = some u := fun j u h => by
              have B := BV.box wr 34 [.int .i64 0, .int .i64 0, .int .i64 0, .int .i64 0, .int .i64 0, .int .i64 0, .int .i64 0, .int .i64 0, .int .i64 0, .int .i64 0, .int .i64 0, .int .i64 0, .int .i64 0, .int .i64 0]
              rw [ad_plainR, Nat.zero_add]
              exact B.at_ j u h
            have olds : ∀ bb, (some ⟨b, 0, none⟩ : Option Addr) = some bb → ∀ j u, (flatM M)[j]? = some u → (wr.alloc (.cells #[.int .i64 0, .int .i64 0, .int .i64 0, .int .i64 0, .int .i64 0, .int .i64 0, .int .i64 0, .int .i64 0, .int .i64 0, .int .i64 0, .int .i64 0, .int .i64 0, .int .i64 0, .int .i64 0] 34)).cell? (bb.add j) = some u := fun bb e j u h => by
              obtain rfl := Option.some.inj e
              rw [ad_plainR, Nat.zero_add]
              exact OwM.at_' (OwM.on O.out ((Below.refl _ _).alloc (Nat.le_refl _) _)) j u h
            have fl : (flatM M).length = n * 7 := by unfold flatM; rw [flat_len (rows_ma M), List.length_map, hM.out]
            have KA := Lib.hid (KZ.out.alloc KZ.out.size (.cells #[.int .i64 0, .int .i64 0, .int .i64 0, .int .i64 0, .int .i64 0, .int .i64 0, .int .i64 0, .int .i64 0, .int .i64 0, .int .i64 0, .int .i64 0, .int .i64 0, .int .i64 0, .int .i64 0] 34))
            have RA := Lib.hid (RAt.alloc RZ.out (.cells #[.int .i64 0, .int .i64 0, .int .i64 0, .int .i64 0, .int .i64 0, .int .i64 0, .int .i64 0, .int .i64 0, .int .i64 0, .int .i64 0, .int .i64 0, .int .i64 0, .int .i64 0, .int .i64 0] 34))
            replace news := Lib.hid news
            replace olds := Lib.hid olds
            replace fl := Lib.hid fl
            clear KZ RZ
            go_wp2_with (at_builtin; refine wpList_append_grows _ rfl _ _ _ rfl 34 i0 _ 7 56 Try.underlying22 hi0 hz0 hz1 hz2 rfl (by decide) (some ⟨b, 0, none⟩) n n (flatM M) rfl (by intro h; cases h) fl.out olds.out ⟨wr.heap.size, 0, none⟩ 2 2 [.int .i64 0, .int .i64 0, .int .i64 0, .int .i64 0, .int .i64 0, .int .i64 0, .int .i64 0, .int .i64 0, .int .i64 0, .int .i64 0, .int .i64 0, .int .i64 0, .int .i64 0, .int .i64 0] rfl rfl news.out (by intro u hu; simp at hu; subst hu; rfl) (by omega) hx1.out hx2.out ?_)
            intro v' w9 ho hg
            have hbg : Below w.heap.size w w9 := KA.out.grown hg KA.out.size (by intro k h; cases h)
            have K9 := Lib.hid hbg
            have R9 := Lib.hid (show MAt w9 (some ⟨gr, 0, none⟩) _ from RAt.on RA.out ((Below.refl _ _).grown hg (Nat.le_refl _) (by intro k h; cases h)))
            obtain ⟨aof, cf, e9⟩ : ∃ aof cf, v' = .slice aof (n + 2) cf := by
              rcases ho.2 with ⟨-, h0⟩ | ⟨g9, c9, cur, hv, -⟩
              · omega
              · exact ⟨_, _, hv⟩
            subst e9
            clear ho hg KA RA hbg news olds hi0 hz0 hz1 hz2 O
            go_wp2_with fail
            refine (gkept_run gr ao0 cap0 cr n L0 w9 hnT.out (by omega) hr1.out hr2.out R9.out (haT.out _ K9.out)).mono ?_
            rintro _ v10 ⟨rfl, hb⟩
            have K10 := Lib.hid (K9.out.trans (hb.mono K9.out.size))
            clear hb K9 R9
            go_wp2_with fail
            go_ret
            exact ⟨by first | rfl | trivial, K10.out⟩
set_option maxRecDepth 100000 in
theorem own : ownKnob Try.prog.godebug = none := by kernel_rfl
set_option maxRecDepth 100000 in
theorem laidOut : laidOutB Try.prog = true := by kernel_rfl
set_option maxRecDepth 100000 in
theorem bytesW : Try.prog.bytesOf 34 = 56 := by kernel_rfl
set_option maxRecDepth 100000 in
theorem lifted (os : Os) (started : os.Started) (H : Type) (enc : TypeId × Value → H) :
    ReturnsInHanded {} Try.checked os 3 .any (Rows.stepTellsSpec.pre6 enc Try.prog Try.f3 Rows.stepTellsRow.domain false) (Rows.stepTellsSpec.post enc Try.prog Try.f3 false true false false) := by
  refine returnsInHanded_of_change_sized (C := Try.checked) own started (by kernel_rfl) Try.func3
    (ChangeSpec.witness6 (enc := enc) (C := Try.checked) false ⟨#[], #[.slice none 0 0, .float .f64 0, .int .i64 0], []⟩ 8 (by kernel_rfl) (by kernel_rfl) (by kernel_rfl) (by kernel_rfl)) ?_
  intro W base args ds gs before hval0 hW _ hsz0 _
  have hsz : (DataW.weightsEach Try.prog (Try.f3.params.toList ++ Rows.stepTellsSpec.plain.varTypes Try.prog) (ds ++ gs)).all (· ≤ reachBytes) = true := hsz0
  clear hsz0
  have hval : ∀ (j : Nat) t v, Try.f3.params[j]? = some t → args[j]? = some v → Value.okWide Try.prog W .any base t v := hval0
  have hW' := hW
  obtain ⟨p, q, hA0, hV, rfl, _, _⟩ := hW
  have hA : DataW.TrodAll enc Try.prog W 0 (fun _ => true) true Try.f3.params.toList args.toList ds p := hA0
  rw [Try.params3] at hA hval hsz
  obtain ⟨v0, vs0, d0, ds0, p0, q0, hargs, rfl, rfl, t0, r0⟩ := trodAll_cons hA
  obtain ⟨v1, vs1, d1, ds1, p1, q1, rfl, rfl, rfl, t1, r1⟩ := trodAll_cons r0
  obtain ⟨v2, vs2, d2, ds2, p2, q2, rfl, rfl, rfl, t2, r2⟩ := trodAll_cons r1
  obtain ⟨rfl, rfl, rfl⟩ := trodAll_nil r2
  obtain rfl : args = #[v0, v1, v2] := by cases args; simp_all
  obtain ⟨rfl, rfl⟩ := trodVars_none hV
  simp only [List.append_nil] at hW'
  have tk0 := t0
  obtain ⟨ao0, cap0, L0, rfl, hc0, hm0, ha0, hw0, hx0⟩ := open_masses (okWide_slice Try.underlying22 (hval 0 22 v0 rfl rfl)) t0
  have hr0 : cap0 * 56 ≤ 140737488351232 := by
    rcases hx0 with ⟨_, h0⟩ | ⟨_, es, sp, hd, h0⟩
    · rw [h0]; decide
    · subst hd
      have := sized_slice hsz (j := 0) (t := 22) (e := 34) rfl rfl Try.underlying22
      rw [bytesW, h0] at this
      simp only [reachBytes] at this
      omega
  have hn0 : ao0 = none → cap0 = 0 := by
    intro h
    rcases hx0 with ⟨_, h0⟩ | ⟨⟨a, h1⟩, _⟩
    · exact h0
    · rw [h] at h1; simp at h1
  have hlt0 : ∀ x ∈ p0, x.block < W.heap.size := fun x hx => by have := hW'.lt x (by simp [hx]); simpa using this
  obtain ⟨a1, rfl, rfl, rfl, w1⟩ := open_float Try.underlying23 (hval 1 23 v1 rfl rfl) t1
  obtain ⟨a2, rfl, rfl, rfl, w2⟩ := open_int Try.underlying3 (hval 2 3 v2 rfl rfl) t2
  clear hA0 hval0
  refine (walk W ao0 cap0 L0 hc0 hm0 ha0 hw0 hr0 hn0 a1 (wf64 w1) a2 w2).mono fun e W' ⟨he, hb⟩ => ?_
  subst he
  refine ⟨_, rfl, _, _, _, [], _, [], hW', trodAll_cons_mk (shut_bool Try.underlying4 _) trodAll_mk0, (trodAll_cons_mk (Below.trod laidOut (by kernel_rfl) (of_decide_eq_true (by kernel_rfl)) tk0 hb hlt0) (trodAll_cons_mk (shut_float Try.underlying23 w1) (trodAll_cons_mk (shut_int Try.underlying3 w2) trodAll_mk0))), rfl, hb.frame _, fun h => by cases h⟩

set_option maxRecDepth 100000 in
theorem over : Rows.stepTellsRow.holds Try.pinned (OpenSpec.ofChange Rows.stepTellsSpec) :=
  OpenClaim.holds_of_wide 3 Try.f3 rfl rfl rfl rfl rfl rfl rfl ⟨rfl, rfl, rfl, rfl, rfl⟩ rfl rfl rfl rfl rfl (by kernel_rfl) Try.func3 (by kernel_rfl)
    (of_decide_eq_true (by kernel_rfl)) (by unfold Func.isWrapper; first | (rw [if_pos (by decide +kernel)]; kernel_rfl) | (rw [if_neg (by decide +kernel)]; exact ⟨rfl, rfl⟩))
    (fun os started H enc _ => lifted os started H enc)

theorem proved : Rows.StepTellsSaid :=
  over
end Go.Proofs.Ytgfedhlnaipngaa.stepTells
