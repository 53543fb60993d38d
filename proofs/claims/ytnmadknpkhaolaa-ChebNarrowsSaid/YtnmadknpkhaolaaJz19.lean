/- Proved here: what the texts Hch, Pcn, Plw, Hcm prove, one behind the other. -/
import Derived.Test.YtnmadknpkhaolaaJz18
import Derived.Test.YtnmadknpkhaolaaJz10
import Derived.Test.YtnmadknpkhaolaaJz17
import Derived.Test.YtnmadknpkhaolaaJz13

namespace Go.Proofs.Ytnmadknpkhaolaa
open Go.ChangeShapes Go.WideShapes Go.ChangeAt Go.RowKit Ieee.Own Pol

/-- what Piece answers -/
def pieE (t : Tb) (d : Nat) : Value := if rdyT t (inM m24 d) = 0 then .tuple #[.int .i64 ((plc t d).1 : Int), .float .f64 (plc t d).2, .int .i64 0] else .tuple #[.int .i64 0, .float .f64 0, .int .i64 (rdyT t (inM m24 d))]
set_option maxHeartbeats 4000000 in
set_option maxRecDepth 100000 in
theorem cpiece_run {t : Tb} {d : Nat} (ao : Option Addr) (cap : Nat) (w : World) (hm : t.rows.length ≤ 4611686018427387904) (hW : TbW t) (ha : TbAt w ao t.rows) (hd : d < 18446744073709551616) :
    Calls Try.prog 20 #[tbV t ao cap, .float .f64 d] w fun e w' => e = .returned (pieE t d) ∧ Below w.heap.size w w' := by
  have CT : Hid (∀ W, Calls Try.prog 41 #[.float .f64 d] W fun e w' => e = .returned (.bool (inM m24 d)) ∧ Below W.heap.size W w') := Lib.hid fun W => (ctime_run d hd W).mono fun e w' h => ⟨h.1, h.2 ▸ Below.refl _ _⟩
  have CR : Hid (∀ W, Below w.heap.size w W → Calls Try.prog 45 #[tbV t ao cap, .bool (inM m24 d)] W fun e w' => e = .returned (.int .i64 (rdyT t (inM m24 d))) ∧ Below W.heap.size W w') := Lib.hid fun W hb => cready_run (inM m24 d) ao cap W hm hW (ha.on hb)
  unfold pieE
  by_cases hr : rdyT t (inM m24 d) = 0
  · rw [if_pos hr]
    rw [hr] at CR
    obtain ⟨c0, c1, c2⟩ := rdyT_zero hr
    have KO := chkT_zero c0
    have Y := y_ok KO hW hd c1
    have CP : Hid (∀ W, Below w.heap.size w W → Calls Try.prog 46 #[tbV t ao cap, .float .f64 d] W fun e w' => e = .returned (plcE (plc t d)) ∧ Below W.heap.size W w') := Lib.hid fun W _ => cplace_run ao cap W KO.len c2 Y
    unfold plcE at CP
    clear hm hW ha hr c0 c1 c2 KO Y hd
    generalize inM m24 d = b at *
    generalize plc t d = P at *
    obtain ⟨i, x⟩ := P
    dsimp only at *
    unfold tbV at *
    obtain ⟨fr, st, R⟩ := t
    dsimp only at *
    generalize R.length = n at *
    generalize hk : (0 : Int) = k at CR
    have tk : (k != 0) = false := by rw [← hk]; rfl
    replace hk := Lib.hid hk
    have K0 := kv1 w 34 [.float .f64 fr, .float .f64 st, .slice ao n cap]
    simp only [objV] at K0
    have hst := @fstore
    replace K0 := Lib.hid K0
    go_enter Try.func20, Try.ntmps20
    go_upto_region 1 with fail
    have K := K0.out
    clear K0
    generalize w.alloc _ = wr at *
    generalize hds : ([some 10, some 11, some 12, some 13, some 7] : List (Option Tmp)) = ds
    have hap : apartL ds = true := by rw [← hds]; decide
    replace hds := hds.symm
    refine wp_region_det (by kernel_rfl) ds (by rw [hds]; rfl) hap (by decide +kernel) [.agg #[.float .f64 fr, .float .f64 st, .slice ao n cap], .float .f64 d, .bool b, .int .i64 k, .int .i64 k] rfl (fun W => Kv w [some (w.heap.size, [.float .f64 fr, .float .f64 st, .slice ao n cap])] W) K.draws ?step ?fin
    case step =>
      intro L W i o ho hd hS
      have hi : i < 5 := (Array.getElem?_eq_some_iff.1 ho).1
      have : i = 0 ∨ i = 1 ∨ i = 2 ∨ i = 3 ∨ i = 4 := by omega
      rcases this with rfl | rfl | rfl | rfl | rfl
      · -- 0
        obtain rfl := Option.some.inj ho
        have b := hS.at_ 0 rfl
        have c0 := b.at_ 0 _ rfl
        have c1 := b.at_ 1 _ rfl
        have c2 := b.at_ 2 _ rfl
        clear b
        refine .value rfl W ?_ hS
        generalize hA : (puts ds L _).eval = ρ
        have hc : ∀ v, ρ (.const v) = v := fun v => by rw [← hA]; rfl
        have hg : ∀ g, ρ (.func g) = .func (.func g) #[] #[] := fun v => by rw [← hA]; rfl
        have h0 : ρ (.tmp 2) = .pointer (some ⟨w.heap.size, 0, none⟩) := by rw [← hA]; exact (puts_old ds L _ (by rw [hds]; decide)).trans rfl
        clear hA hd ho
        unfold execOp
        go_simp
      · -- 1
        obtain rfl := Option.some.inj ho
        refine .value rfl W ?_ hS
        generalize hA : (puts ds L _).eval = ρ
        have hc : ∀ v, ρ (.const v) = v := fun v => by rw [← hA]; rfl
        have hg : ∀ g, ρ (.func g) = .func (.func g) #[] #[] := fun v => by rw [← hA]; rfl
        have h0 : ρ (.tmp 1) = .float .f64 d := by rw [← hA]; exact (puts_old ds L _ (by rw [hds]; decide)).trans rfl
        clear hA hd ho
        unfold execOp
        go_simp
      · -- 2
        obtain rfl := Option.some.inj ho
        refine .call rfl 41 #[.float .f64 d] ?_ ((CT.out W).mono fun e w' h => ⟨h.1, hS.on h.2⟩)
        generalize hA : (puts ds L _).eval = ρ
        have hc : ∀ v, ρ (.const v) = v := fun v => by rw [← hA]; rfl
        have hg : ∀ g, ρ (.func g) = .func (.func g) #[] #[] := fun v => by rw [← hA]; rfl
        have h0 : ρ (.tmp 11) = .float .f64 d := by rw [← hA]; exact puts_get 1 ds L _ hap (by rw [hds]; rfl) (hd 1 (by decide +kernel)) (show 11 < 25 by decide)
        have hf := Try.func41
        unfold execOp
        go_simp
      · -- 3
        obtain rfl := Option.some.inj ho
        refine .call rfl 45 #[.agg #[.float .f64 fr, .float .f64 st, .slice ao n cap], .bool b] ?_ ((CR.out W hS.old).mono fun e w' h => ⟨h.1, hS.on h.2⟩)
        generalize hA : (puts ds L _).eval = ρ
        have hc : ∀ v, ρ (.const v) = v := fun v => by rw [← hA]; rfl
        have hg : ∀ g, ρ (.func g) = .func (.func g) #[] #[] := fun v => by rw [← hA]; rfl
        have h0 : ρ (.tmp 10) = .agg #[.float .f64 fr, .float .f64 st, .slice ao n cap] := by rw [← hA]; exact puts_get 0 ds L _ hap (by rw [hds]; rfl) (hd 0 (by decide +kernel)) (show 10 < 25 by decide)
        have h1 : ρ (.tmp 12) = .bool b := by rw [← hA]; exact puts_get 2 ds L _ hap (by rw [hds]; rfl) (hd 2 (by decide +kernel)) (show 12 < 25 by decide)
        have hf := Try.func45
        unfold execOp
        go_simp
      · -- 4
        obtain rfl := Option.some.inj ho
        refine .value rfl W ?_ hS
        generalize hA : (puts ds L _).eval = ρ
        have hc : ∀ v, ρ (.const v) = v := fun v => by rw [← hA]; rfl
        have hg : ∀ g, ρ (.func g) = .func (.func g) #[] #[] := fun v => by rw [← hA]; rfl
        have h0 : ρ (.tmp 13) = .int .i64 k := by rw [← hA]; exact puts_get 3 ds L _ hap (by rw [hds]; rfl) (hd 3 (by decide +kernel)) (show 13 < 25 by decide)
        clear hA hd ho
        unfold execOp
        go_simp
    case fin =>
      intro W0 K
      rw [hds]
      clear hds hap ds CT CR
      simp only [List.map_cons, List.map_nil, puts, Act.put, List.setIfInBounds_toArray]
      have c0_0 := (K.at_ 0 rfl).at_ 0 _ rfl
      have c0_1 := (K.at_ 0 rfl).at_ 1 _ rfl
      have c0_2 := (K.at_ 0 rfl).at_ 2 _ rfl
      replace K := Lib.hid K
      go_wp2_with fail
      replace K := K.out
      refine (CP.out W0 K.old).mono ?_
      rintro _ w1 ⟨rfl, hb⟩
      clear c0_0 c0_1 c0_2 CP
      replace K := Lib.hid (K.on hb)
      clear hb
      go_wp2_with fail
      go_ret3
      exact ⟨by rw [← hk.out]; rfl, K.out.old⟩
  · rw [if_neg hr]
    generalize rdyT t (inM m24 d) = k at *
    generalize inM m24 d = b at *
    have tk : (k != 0) = true := by simpa using hr
    clear hm hW ha hr hd
    unfold tbV at *
    obtain ⟨fr, st, R⟩ := t
    dsimp only at *
    generalize R.length = n at *
    have K0 := kv1 w 34 [.float .f64 fr, .float .f64 st, .slice ao n cap]
    simp only [objV] at K0
    have hst := @fstore
    replace K0 := Lib.hid K0
    go_enter Try.func20, Try.ntmps20
    go_upto_region 1 with fail
    have K := K0.out
    clear K0
    generalize w.alloc _ = wr at *
    generalize hds : ([some 10, some 11, some 12, some 13, some 7] : List (Option Tmp)) = ds
    have hap : apartL ds = true := by rw [← hds]; decide
    replace hds := hds.symm
    refine wp_region_det (by kernel_rfl) ds (by rw [hds]; rfl) hap (by decide +kernel) [.agg #[.float .f64 fr, .float .f64 st, .slice ao n cap], .float .f64 d, .bool b, .int .i64 k, .int .i64 k] rfl (fun W => Kv w [some (w.heap.size, [.float .f64 fr, .float .f64 st, .slice ao n cap])] W) K.draws ?step ?fin
    case step =>
      intro L W i o ho hd hS
      have hi : i < 5 := (Array.getElem?_eq_some_iff.1 ho).1
      have : i = 0 ∨ i = 1 ∨ i = 2 ∨ i = 3 ∨ i = 4 := by omega
      rcases this with rfl | rfl | rfl | rfl | rfl
      · -- 0
        obtain rfl := Option.some.inj ho
        have b := hS.at_ 0 rfl
        have c0 := b.at_ 0 _ rfl
        have c1 := b.at_ 1 _ rfl
        have c2 := b.at_ 2 _ rfl
        clear b
        refine .value rfl W ?_ hS
        generalize hA : (puts ds L _).eval = ρ
        have hc : ∀ v, ρ (.const v) = v := fun v => by rw [← hA]; rfl
        have hg : ∀ g, ρ (.func g) = .func (.func g) #[] #[] := fun v => by rw [← hA]; rfl
        have h0 : ρ (.tmp 2) = .pointer (some ⟨w.heap.size, 0, none⟩) := by rw [← hA]; exact (puts_old ds L _ (by rw [hds]; decide)).trans rfl
        clear hA hd ho
        unfold execOp
        go_simp
      · -- 1
        obtain rfl := Option.some.inj ho
        refine .value rfl W ?_ hS
        generalize hA : (puts ds L _).eval = ρ
        have hc : ∀ v, ρ (.const v) = v := fun v => by rw [← hA]; rfl
        have hg : ∀ g, ρ (.func g) = .func (.func g) #[] #[] := fun v => by rw [← hA]; rfl
        have h0 : ρ (.tmp 1) = .float .f64 d := by rw [← hA]; exact (puts_old ds L _ (by rw [hds]; decide)).trans rfl
        clear hA hd ho
        unfold execOp
        go_simp
      · -- 2
        obtain rfl := Option.some.inj ho
        refine .call rfl 41 #[.float .f64 d] ?_ ((CT.out W).mono fun e w' h => ⟨h.1, hS.on h.2⟩)
        generalize hA : (puts ds L _).eval = ρ
        have hc : ∀ v, ρ (.const v) = v := fun v => by rw [← hA]; rfl
        have hg : ∀ g, ρ (.func g) = .func (.func g) #[] #[] := fun v => by rw [← hA]; rfl
        have h0 : ρ (.tmp 11) = .float .f64 d := by rw [← hA]; exact puts_get 1 ds L _ hap (by rw [hds]; rfl) (hd 1 (by decide +kernel)) (show 11 < 25 by decide)
        have hf := Try.func41
        unfold execOp
        go_simp
      · -- 3
        obtain rfl := Option.some.inj ho
        refine .call rfl 45 #[.agg #[.float .f64 fr, .float .f64 st, .slice ao n cap], .bool b] ?_ ((CR.out W hS.old).mono fun e w' h => ⟨h.1, hS.on h.2⟩)
        generalize hA : (puts ds L _).eval = ρ
        have hc : ∀ v, ρ (.const v) = v := fun v => by rw [← hA]; rfl
        have hg : ∀ g, ρ (.func g) = .func (.func g) #[] #[] := fun v => by rw [← hA]; rfl
        have h0 : ρ (.tmp 10) = .agg #[.float .f64 fr, .float .f64 st, .slice ao n cap] := by rw [← hA]; exact puts_get 0 ds L _ hap (by rw [hds]; rfl) (hd 0 (by decide +kernel)) (show 10 < 25 by decide)
        have h1 : ρ (.tmp 12) = .bool b := by rw [← hA]; exact puts_get 2 ds L _ hap (by rw [hds]; rfl) (hd 2 (by decide +kernel)) (show 12 < 25 by decide)
        have hf := Try.func45
        unfold execOp
        go_simp
      · -- 4
        obtain rfl := Option.some.inj ho
        refine .value rfl W ?_ hS
        generalize hA : (puts ds L _).eval = ρ
        have hc : ∀ v, ρ (.const v) = v := fun v => by rw [← hA]; rfl
        have hg : ∀ g, ρ (.func g) = .func (.func g) #[] #[] := fun v => by rw [← hA]; rfl
        have h0 : ρ (.tmp 13) = .int .i64 k := by rw [← hA]; exact puts_get 3 ds L _ hap (by rw [hds]; rfl) (hd 3 (by decide +kernel)) (show 13 < 25 by decide)
        clear hA hd ho
        unfold execOp
        go_simp
    case fin =>
      intro W0 K
      rw [hds]
      clear hds hap ds CT CR
      simp only [List.map_cons, List.map_nil, puts, Act.put, List.setIfInBounds_toArray]
      have c0_0 := (K.at_ 0 rfl).at_ 0 _ rfl
      have c0_1 := (K.at_ 0 rfl).at_ 1 _ rfl
      have c0_2 := (K.at_ 0 rfl).at_ 2 _ rfl
      replace K := Lib.hid K
      go_wp2_with fail
      go_ret3
      exact ⟨rfl, K.out.old⟩
/-- a row's number at a place -/
def vH (L : List Nat) (x : Nat) : Nat := bgW (posW (chW x (L.map wideW)))
structure VhOk (L : List Nat) (x : Nat) : Prop where
  len : L.length ≤ 16
  er : errX m00 (L.map wideW) x = 0
  fc : ∀ c ∈ L.map wideW, Fc c
  fx : FinW x
  bx : (V x).natAbs ≤ 2 ^ 1074
  fin : FinW (chW x (L.map wideW))
theorem vh_ok {L : List Nat} {x : Nat} (hw : Ws32 L) (hm : mayB L = true) (hx : x < 18446744073709551616) (h1 : inM m00 x = true) : VhOk L x := by
  obtain ⟨l, e⟩ := mayB_true hm
  obtain ⟨l2, fc⟩ := errC_zero (ws_wide hw) e
  obtain ⟨fx, bx⟩ := inM_x00 hx h1
  have er : errX m00 (L.map wideW) x = 0 := by unfold errX; rw [if_pos e, if_pos h1]
  exact ⟨l, er, fc, fx, bx, (ch_wd fx bx _ (fc_cw fc) l2).1⟩
set_option maxHeartbeats 4000000 in
set_option maxRecDepth 100000 in
theorem cvalue_run {v : Value} {L : List Nat} {x : Nat} (w : World) (hw : Ws32 L) (hm : mayB L = true) (hx : x < 18446744073709551616) (h1 : inM m00 x = true) (h : FsAt w v L) :
    Calls Try.prog 49 #[v, .float .f64 x] w fun e w' => e = .returned (.float .f64 (vH L x)) ∧ Below w.heap.size w w' := by
  have O := vh_ok hw hm hx h1
  have CW := Lib.hid (cwide_run w O.len hw h)
  have CC := Lib.hid (fun g w1 hA => pcheb_ok (some ⟨g, 0, none⟩) L.length L.length (L.map wideW) x w1 (by simp) (by have := O.len; omega) (ws_wide hw) hA hx O.er)
  have CS := fun w => csure_run (posW (chW x (L.map wideW))) 0 w
  have CB := fun w => cbrought_run (posW (chW x (L.map wideW))) (Nz.pos O.fin).fin.1 w
  unfold vH
  obtain ⟨ao, cap, rfl, -⟩ := h
  unfold fe at CC
  generalize bgW (posW (chW x (L.map wideW))) = z at *
  generalize posW (chW x (L.map wideW)) = y at *
  generalize L.map wideW = M at *
  generalize L.length = n at *
  clear O hm h1 hx hw
  go_enter Try.func49, Try.ntmps49
  go_wp2_with fail
  refine CW.out.mono ?_
  rintro _ w1 ⟨g, rfl, hg, hA, hb⟩
  have K := CC.out g w1 hA
  replace hb := Lib.hid hb
  clear hA hg CW CC
  go_wp2_with (first | (go_at_call 69; ((with_reducible refine K.mono ?_); rintro e w' ⟨rfl, rfl⟩)) | (go_at_call 61; ((with_reducible refine (CS _).mono ?_); rintro e w' ⟨rfl, rfl⟩)) | (go_at_call 65; ((with_reducible refine (CB _).mono ?_); rintro e w' ⟨rfl, rfl⟩)))
  go_ret
  exact ⟨rfl, hb.out⟩
def rwH (t : Tb) (p : Nat × Nat) : V3 := (vH (cfT t.rows p.1 0) p.2, vH (cfT t.rows p.1 1) p.2, vH (cfT t.rows p.1 2) p.2)
/-- what At answers -/
def atH (t : Tb) (d : Nat) : V3 × Int := if rdyT t (inM m24 d) = 0 then (rwH t (plc t d), 0) else (z3, rdyT t (inM m24 d))
theorem row_may {T : List (List (List Nat))} {j : Nat} (h : rowB T j = true) : mayB (cfT T j 0) = true ∧ mayB (cfT T j 1) = true ∧ mayB (cfT T j 2) = true := by
  unfold rowB at h
  simpa using h
theorem pl_m00 {t : Tb} {p : Nat × Nat} (P : PlOk t p) : inM m00 p.2 = true := by
  rw [inM_iff (by decide) P.nz.fin.1 P.fit]
  have e : V m00 = 2 ^ 1074 := by decide +kernel
  rw [e]
  exact ⟨P.lo, P.hi⟩
set_option maxHeartbeats 4000000 in
set_option maxRecDepth 100000 in
theorem cat_run {t : Tb} {d : Nat} (ao : Option Addr) (cap : Nat) (w : World) (hm : t.rows.length ≤ 4611686018427387904) (hW : TbW t) (ha : TbAt w ao t.rows) (hd : d < 18446744073709551616) :
    Calls Try.prog 23 #[tbV t ao cap, .float .f64 d] w fun e w' => e = .returned (vecE (atH t d).1 (atH t d).2) ∧ Below w.heap.size w w' := by
  have CP : Hid (∀ W, Below w.heap.size w W → Calls Try.prog 20 #[tbV t ao cap, .float .f64 d] W fun e w' => e = .returned (pieE t d) ∧ Below W.heap.size W w') := Lib.hid fun W hb => cpiece_run ao cap W hm hW (ha.on hb) hd
  unfold pieE at CP
  unfold atH vecE
  by_cases hr : rdyT t (inM m24 d) = 0
  · rw [if_pos hr] at CP
    rw [if_pos hr]
    obtain ⟨c0, c1, c2⟩ := rdyT_zero hr
    have KO := chkT_zero c0
    have P := pl_ok (y_ok KO hW hd c1) c2
    have M := row_may (KO.row _ P.row)
    have hx := pl_m00 P
    have CV0 : Hid (∀ v W, FsAt W v (cfT t.rows (plc t d).1 0) → Calls Try.prog 49 #[v, .float .f64 (plc t d).2] W fun e w' => e = .returned (.float .f64 (vH (cfT t.rows (plc t d).1 0) (plc t d).2)) ∧ Below W.heap.size W w') := Lib.hid fun v W h => cvalue_run W (hW.w _ _) M.1 P.nz.fin.1 hx h
    have CV1 : Hid (∀ v W, FsAt W v (cfT t.rows (plc t d).1 1) → Calls Try.prog 49 #[v, .float .f64 (plc t d).2] W fun e w' => e = .returned (.float .f64 (vH (cfT t.rows (plc t d).1 1) (plc t d).2)) ∧ Below W.heap.size W w') := Lib.hid fun v W h => cvalue_run W (hW.w _ _) M.2.1 P.nz.fin.1 hx h
    have CV2 : Hid (∀ v W, FsAt W v (cfT t.rows (plc t d).1 2) → Calls Try.prog 49 #[v, .float .f64 (plc t d).2] W fun e w' => e = .returned (.float .f64 (vH (cfT t.rows (plc t d).1 2) (plc t d).2)) ∧ Below W.heap.size W w') := Lib.hid fun v W h => cvalue_run W (hW.w _ _) M.2.2 P.nz.fin.1 hx h
    have hi := P.row
    unfold rwH
    replace ha := Lib.hid ha
    clear hm hW hr c0 c1 c2 KO P M hx hd
    generalize plc t d = P at *
    obtain ⟨i, x⟩ := P
    obtain ⟨fr, st, R⟩ := t
    unfold tbV vecV at *
    dsimp only at *
    generalize vH (cfT R i 0) x = y0 at *
    generalize vH (cfT R i 1) x = y1 at *
    generalize vH (cfT R i 2) x = y2 at *
    generalize hn : R.length = n at *
    replace hn := Lib.hid hn
    obtain ⟨bb, oo, u0, u1, u2, rfl, hbl, c0, c1, c2, f0, f1, f2⟩ := ha.out i (by rw [hn.out]; exact hi)
    have V0 : Hid (∀ W, Below w.heap.size w W → Calls Try.prog 49 #[u0, .float .f64 x] W fun e w' => e = .returned (.float .f64 y0) ∧ Below W.heap.size W w') := Lib.hid fun W hb => CV0.out _ W (f0.on hb)
    have V1 : Hid (∀ W, Below w.heap.size w W → Calls Try.prog 49 #[u1, .float .f64 x] W fun e w' => e = .returned (.float .f64 y1) ∧ Below W.heap.size W w') := Lib.hid fun W hb => CV1.out _ W (f1.on hb)
    have V2 : Hid (∀ W, Below w.heap.size w W → Calls Try.prog 49 #[u2, .float .f64 x] W fun e w' => e = .returned (.float .f64 y2) ∧ Below W.heap.size W w') := Lib.hid fun W hb => CV2.out _ W (f2.on hb)
    obtain ⟨a0, p0, rfl, -⟩ := f0
    obtain ⟨a1, p1, rfl, -⟩ := f1
    obtain ⟨a2, p2, rfl, -⟩ := f2
    generalize (cfT R i 0).length = l0 at *
    generalize (cfT R i 1).length = l1 at *
    generalize (cfT R i 2).length = l2 at *
    replace c0 := Lib.hid c0
    replace c1 := Lib.hid c1
    replace c2 := Lib.hid c2
    clear CV0 CV1 CV2 ha
    have K0 := kv2 w 34 41 [.float .f64 fr, .float .f64 st, .slice (some ⟨bb, oo, none⟩) n cap] [.float .f64 0, .float .f64 0, .float .f64 0]
    simp only [objV] at K0
    have hst := @fstore
    replace K0 := Lib.hid K0
    go_enter Try.func23, Try.ntmps23
    go_wp2_with fail
    have K := K0.out
    clear K0
    generalize (w.alloc _).alloc _ = wr at *
    refine (CP.out wr K.old).mono ?_
    rintro _ w1 ⟨rfl, hb⟩
    replace K := K.on hb
    clear hb CP
    replace c0 := (K.old.cell (p := ⟨bb, _, none⟩) hbl).trans c0.out
    replace c1 := (K.old.cell (p := ⟨bb, _, none⟩) hbl).trans c1.out
    replace c2 := (K.old.cell (p := ⟨bb, _, none⟩) hbl).trans c2.out
    have k0_0 := (K.at_ 0 rfl).at_ 0 _ rfl
    have k0_1 := (K.at_ 0 rfl).at_ 1 _ rfl
    have k0_2 := (K.at_ 0 rfl).at_ 2 _ rfl
    have hi2 : (i : Int) < (n : Int) := by omega
    clear hbl
    replace K := K.new 69 [.slice a0 l0 p0, .slice a1 l1 p1, .slice a2 l2 p2]
    simp only [objV, List.cons_append, List.nil_append] at K
    replace K := Lib.hid K
    go_upto_region 5 with fail
    replace K := K.out
    clear c0 c1 c2 k0_0 k0_1 k0_2
    generalize w1.alloc _ = wq at *
    generalize w1.heap.size = g1 at *
    generalize hds : ([some 26, some 27, some 28, some 29, some 30, some 31, some 32, some 33, some 34, some 35, some 36, some 37, some 38, none, some 5] : List (Option Tmp)) = ds
    have hap : apartL ds = true := by rw [← hds]; decide
    replace hds := hds.symm
    refine wp_region_kv (fun hf => [some (w.heap.size, [.float .f64 fr, .float .f64 st, .slice (some ⟨bb, oo, none⟩) n cap]), some (w.heap.size + 1, [.float .f64 y0, .float .f64 y1, .float .f64 y2]), some (g1, [.slice a0 l0 p0, .slice a1 l1 p1, .slice a2 l2 p2])]) (fun hf => [some (.pointer (some ⟨g1, 0, none⟩)), some (.slice a0 l0 p0), some (.float .f64 x), some (.float .f64 y0), some (.pointer (some ⟨g1, 1, none⟩)), some (.slice a1 l1 p1), some (.float .f64 x), some (.float .f64 y1), some (.pointer (some ⟨g1, 2, none⟩)), some (.slice a2 l2 p2), some (.float .f64 x), some (.float .f64 y2), some (.agg #[.float .f64 y0, .float .f64 y1, .float .f64 y2]), some (undef), some (.int .i64 0)]) [] [⟨13, 1, 0, [.float .f64 y0, .float .f64 y1, .float .f64 y2]⟩] [.pointer (some ⟨g1, 0, none⟩), .slice a0 l0 p0, .float .f64 x, .float .f64 y0, .pointer (some ⟨g1, 1, none⟩), .slice a1 l1 p1, .float .f64 x, .float .f64 y1, .pointer (some ⟨g1, 2, none⟩), .slice a2 l2 p2, .float .f64 x, .float .f64 y2, .agg #[.float .f64 y0, .float .f64 y1, .float .f64 y2], undef, .int .i64 0] ds (by kernel_rfl) (by rw [hds]; rfl) hap (by decide +kernel) (by decide +kernel) K ?ha ?haj ?hai ?hsi ?hss ?hsa ?hsw ?htg ?hE2 ?hE3 ?hE4 ?hL1 ?hL2 ?hL3 ?alloc ?step ?store ?fin
    case ha => intro al hal; cases hal
    case haj => intro al hal al' hal' e; cases hal
    case hai => intro al hal; cases hal
    case hsi => intro st hst st' hst' e; simp only [List.mem_cons, List.not_mem_nil, or_false] at hst; rcases hst with rfl <;> (simp only [List.mem_cons, List.not_mem_nil, or_false] at hst'; rcases hst' with rfl) <;> first | rfl | (exfalso; revert e; simp)
    case hss =>
      intro st hst
      simp only [List.mem_cons, List.not_mem_nil, or_false] at hst; rcases hst with rfl
      · show 13 < 15; decide
    case hsa =>
      intro st hst al hal
      cases hal
    case hsw =>
      intro st hst al hal e
      cases hal
    case htg =>
      intro st hst
      simp only [List.mem_cons, List.not_mem_nil, or_false] at hst; rcases hst with rfl
      · exact .inl ⟨_, _, rfl, show 0 + 3 ≤ 3 by decide⟩
    case hE2 =>
      intro hf j h1 h2
      have n1 : 1 ≠ j := h1 _ (List.mem_cons_self ..)
      rcases j with _ | _ | _ | j
      · rfl
      · exact absurd rfl n1
      · rfl
      · rfl
    case hE3 =>
      intro hf st hst g us e
      simp only [List.mem_cons, List.not_mem_nil, or_false] at hst; rcases hst with rfl
      · obtain ⟨rfl, rfl⟩ := Prod.mk.inj (Option.some.inj (Option.some.inj e)); rfl
    case hE4 =>
      intro hf al hal
      cases hal
    case hL1 => intro hf; rfl
    case hL2 =>
      intro hf i hi hna
      have hi : i < 15 := hi
      have : i = 0 ∨ i = 1 ∨ i = 2 ∨ i = 3 ∨ i = 4 ∨ i = 5 ∨ i = 6 ∨ i = 7 ∨ i = 8 ∨ i = 9 ∨ i = 10 ∨ i = 11 ∨ i = 12 ∨ i = 13 ∨ i = 14 := by omega
      rcases this with rfl | rfl | rfl | rfl | rfl | rfl | rfl | rfl | rfl | rfl | rfl | rfl | rfl | rfl | rfl
      · rfl
      · rfl
      · rfl
      · rfl
      · rfl
      · rfl
      · rfl
      · rfl
      · rfl
      · rfl
      · rfl
      · rfl
      · rfl
      · rfl
      · rfl
    case hL3 => intro hf al hal; cases hal
    case alloc =>
      intro al hal o ρ W ho
      cases hal
    case step =>
      intro L W i o ho hs ha hd hB hO
      have hi : i < 15 := (Array.getElem?_eq_some_iff.1 ho).1
      have : i = 0 ∨ i = 1 ∨ i = 2 ∨ i = 3 ∨ i = 4 ∨ i = 5 ∨ i = 6 ∨ i = 7 ∨ i = 8 ∨ i = 9 ∨ i = 10 ∨ i = 11 ∨ i = 12 ∨ i = 13 ∨ i = 14 := by omega
      rcases this with rfl | rfl | rfl | rfl | rfl | rfl | rfl | rfl | rfl | rfl | rfl | rfl | rfl | rfl | rfl
      · -- 0
        obtain rfl := Option.some.inj ho
        refine .value W ?_ (Below.refl _ _)
        generalize hA : (puts ds L _).eval = ρ
        have hc : ∀ v, ρ (.const v) = v := fun v => by rw [← hA]; rfl
        have h0 : ρ (.tmp 9) = .pointer (some ⟨g1, 0, none⟩) := (po hA (by rw [hds]; decide)).trans rfl
        clear hA hd hB ho hs ha hO
        unfold execOp
        go_simp
      · -- 1
        obtain rfl := Option.some.inj ho
        have b := hB 2 _ _ rfl (by
          intro st hst e
          simp only [List.mem_cons, List.not_mem_nil, or_false] at hst; rcases hst with rfl
          · exact absurd e (show ¬ 1 = 2 by decide))
        have c0 := b.at_ 0 _ rfl
        clear b
        refine .value W ?_ (Below.refl _ _)
        generalize hA : (puts ds L _).eval = ρ
        have h0 : ρ (.tmp 26) = .pointer (some ⟨g1, 0, none⟩) := pg 0 hA hap (by rw [hds]; rfl) (hd 0 (by decide +kernel) (alne rfl)) (show 26 < 39 by decide)
        clear hA hd hB ho hs ha hO
        unfold execOp
        go_simp
      · -- 2
        obtain rfl := Option.some.inj ho
        refine .value W ?_ (Below.refl _ _)
        generalize hA : (puts ds L _).eval = ρ
        have hc : ∀ v, ρ (.const v) = v := fun v => by rw [← hA]; rfl
        have h0 : ρ (.tmp 7) = .float .f64 x := (po hA (by rw [hds]; decide)).trans rfl
        clear hA hd hB ho hs ha hO
        unfold execOp
        go_simp
      · -- 3
        obtain rfl := Option.some.inj ho
        refine .call 49 #[.slice a0 l0 p0, .float .f64 x] ?_ (V0.out W hO)
        generalize hA : (puts ds L _).eval = ρ
        have hg : ∀ g, ρ (.func g) = .func (.func g) #[] #[] := fun v => by rw [← hA]; rfl
        have h0 : ρ (.tmp 27) = .slice a0 l0 p0 := pg 1 hA hap (by rw [hds]; rfl) (hd 1 (by decide +kernel) (alne rfl)) (show 27 < 39 by decide)
        have h1 : ρ (.tmp 28) = .float .f64 x := pg 2 hA hap (by rw [hds]; rfl) (hd 2 (by decide +kernel) (alne rfl)) (show 28 < 39 by decide)
        have hf := Try.func49
        unfold execOp
        go_simp
      · -- 4
        obtain rfl := Option.some.inj ho
        refine .value W ?_ (Below.refl _ _)
        generalize hA : (puts ds L _).eval = ρ
        have hc : ∀ v, ρ (.const v) = v := fun v => by rw [← hA]; rfl
        have h0 : ρ (.tmp 9) = .pointer (some ⟨g1, 0, none⟩) := (po hA (by rw [hds]; decide)).trans rfl
        clear hA hd hB ho hs ha hO
        unfold execOp
        go_simp
      · -- 5
        obtain rfl := Option.some.inj ho
        have b := hB 2 _ _ rfl (by
          intro st hst e
          simp only [List.mem_cons, List.not_mem_nil, or_false] at hst; rcases hst with rfl
          · exact absurd e (show ¬ 1 = 2 by decide))
        have c1 := b.at_ 1 _ rfl
        clear b
        refine .value W ?_ (Below.refl _ _)
        generalize hA : (puts ds L _).eval = ρ
        have h0 : ρ (.tmp 30) = .pointer (some ⟨g1, 1, none⟩) := pg 4 hA hap (by rw [hds]; rfl) (hd 4 (by decide +kernel) (alne rfl)) (show 30 < 39 by decide)
        clear hA hd hB ho hs ha hO
        unfold execOp
        go_simp
      · -- 6
        obtain rfl := Option.some.inj ho
        refine .value W ?_ (Below.refl _ _)
        generalize hA : (puts ds L _).eval = ρ
        have hc : ∀ v, ρ (.const v) = v := fun v => by rw [← hA]; rfl
        have h0 : ρ (.tmp 7) = .float .f64 x := (po hA (by rw [hds]; decide)).trans rfl
        clear hA hd hB ho hs ha hO
        unfold execOp
        go_simp
      · -- 7
        obtain rfl := Option.some.inj ho
        refine .call 49 #[.slice a1 l1 p1, .float .f64 x] ?_ (V1.out W hO)
        generalize hA : (puts ds L _).eval = ρ
        have hg : ∀ g, ρ (.func g) = .func (.func g) #[] #[] := fun v => by rw [← hA]; rfl
        have h0 : ρ (.tmp 31) = .slice a1 l1 p1 := pg 5 hA hap (by rw [hds]; rfl) (hd 5 (by decide +kernel) (alne rfl)) (show 31 < 39 by decide)
        have h1 : ρ (.tmp 32) = .float .f64 x := pg 6 hA hap (by rw [hds]; rfl) (hd 6 (by decide +kernel) (alne rfl)) (show 32 < 39 by decide)
        have hf := Try.func49
        unfold execOp
        go_simp
      · -- 8
        obtain rfl := Option.some.inj ho
        refine .value W ?_ (Below.refl _ _)
        generalize hA : (puts ds L _).eval = ρ
        have hc : ∀ v, ρ (.const v) = v := fun v => by rw [← hA]; rfl
        have h0 : ρ (.tmp 9) = .pointer (some ⟨g1, 0, none⟩) := (po hA (by rw [hds]; decide)).trans rfl
        clear hA hd hB ho hs ha hO
        unfold execOp
        go_simp
      · -- 9
        obtain rfl := Option.some.inj ho
        have b := hB 2 _ _ rfl (by
          intro st hst e
          simp only [List.mem_cons, List.not_mem_nil, or_false] at hst; rcases hst with rfl
          · exact absurd e (show ¬ 1 = 2 by decide))
        have c2 := b.at_ 2 _ rfl
        clear b
        refine .value W ?_ (Below.refl _ _)
        generalize hA : (puts ds L _).eval = ρ
        have h0 : ρ (.tmp 34) = .pointer (some ⟨g1, 2, none⟩) := pg 8 hA hap (by rw [hds]; rfl) (hd 8 (by decide +kernel) (alne rfl)) (show 34 < 39 by decide)
        clear hA hd hB ho hs ha hO
        unfold execOp
        go_simp
      · -- 10
        obtain rfl := Option.some.inj ho
        refine .value W ?_ (Below.refl _ _)
        generalize hA : (puts ds L _).eval = ρ
        have hc : ∀ v, ρ (.const v) = v := fun v => by rw [← hA]; rfl
        have h0 : ρ (.tmp 7) = .float .f64 x := (po hA (by rw [hds]; decide)).trans rfl
        clear hA hd hB ho hs ha hO
        unfold execOp
        go_simp
      · -- 11
        obtain rfl := Option.some.inj ho
        refine .call 49 #[.slice a2 l2 p2, .float .f64 x] ?_ (V2.out W hO)
        generalize hA : (puts ds L _).eval = ρ
        have hg : ∀ g, ρ (.func g) = .func (.func g) #[] #[] := fun v => by rw [← hA]; rfl
        have h0 : ρ (.tmp 35) = .slice a2 l2 p2 := pg 9 hA hap (by rw [hds]; rfl) (hd 9 (by decide +kernel) (alne rfl)) (show 35 < 39 by decide)
        have h1 : ρ (.tmp 36) = .float .f64 x := pg 10 hA hap (by rw [hds]; rfl) (hd 10 (by decide +kernel) (alne rfl)) (show 36 < 39 by decide)
        have hf := Try.func49
        unfold execOp
        go_simp
      · -- 12
        obtain rfl := Option.some.inj ho
        refine .value W ?_ (Below.refl _ _)
        generalize hA : (puts ds L _).eval = ρ
        have hc : ∀ v, ρ (.const v) = v := fun v => by rw [← hA]; rfl
        have h0 : ρ (.tmp 29) = .float .f64 y0 := pg 3 hA hap (by rw [hds]; rfl) (hd 3 (by decide +kernel) (alne rfl)) (show 29 < 39 by decide)
        have h1 : ρ (.tmp 33) = .float .f64 y1 := pg 7 hA hap (by rw [hds]; rfl) (hd 7 (by decide +kernel) (alne rfl)) (show 33 < 39 by decide)
        have h2 : ρ (.tmp 37) = .float .f64 y2 := pg 11 hA hap (by rw [hds]; rfl) (hd 11 (by decide +kernel) (alne rfl)) (show 37 < 39 by decide)
        clear hA hd hB ho hs ha hO
        unfold execOp
        go_simp
      · -- 13
        exact absurd rfl (hs _ (List.mem_cons_self ..))
      · -- 14
        obtain rfl := Option.some.inj ho
        refine .value W ?_ (Below.refl _ _)
        generalize hA : (puts ds L _).eval = ρ
        have hc : ∀ v, ρ (.const v) = v := fun v => by rw [← hA]; rfl
        clear hA hd hB ho hs ha hO
        unfold execOp
        go_simp
    case store =>
      intro st hst L W o h us ho hd hal hC b
      simp only [List.mem_cons, List.not_mem_nil, or_false] at hst; rcases hst with rfl
      · dsimp only at ho hd hal hC b ⊢
        obtain rfl := Option.some.inj ho
        obtain ⟨hh, rfl⟩ := hC _ _ rfl
        replace hh := hh.symm
        subst hh
        have c0 := b.at_ 0 _ rfl
        have f0 := b.fr 0 _ rfl
        have c1 := b.at_ 1 _ rfl
        have f1 := b.fr 1 _ rfl
        have c2 := b.at_ 2 _ rfl
        have f2 := b.fr 2 _ rfl
        refine ⟨?_, rfl⟩
        generalize hA : (puts ds L _).eval = ρ
        have h0 : ρ (.tmp 4) = .pointer (some ⟨w.heap.size + 1, 0, none⟩) := (po hA (by rw [hds]; decide)).trans rfl
        have h1 : ρ (.tmp 38) = .agg #[.float .f64 y0, .float .f64 y1, .float .f64 y2] := pg 12 hA hap (by rw [hds]; rfl) (hd 12 (by decide +kernel) (alne rfl)) (show 38 < 39 by decide)
        have hst' := @fstore
        clear hA hd b ho hal hC
        simp only [putV]
        unfold execOp
        go_simp
    case fin =>
      intro hf W0 K
      rw [hds]
      clear hds hap ds V0 V1 V2
      (try dsimp only at K)
      simp only [List.set_cons_zero, List.set_cons_succ, puts, Act.put, List.setIfInBounds_toArray]
      have c1_0 := (K.at_ 1 rfl).at_ 0 _ rfl
      have c1_1 := (K.at_ 1 rfl).at_ 1 _ rfl
      have c1_2 := (K.at_ 1 rfl).at_ 2 _ rfl
      replace K := Lib.hid K
      go_wp2_with fail
      replace K := K.out
      (try simp only [Exit.inBlock, Exit.then])
      refine bodyPost_ret (v := .tuple #[.agg #[.float .f64 y0, .float .f64 y1, .float .f64 y2], .int .i64 0]) ?_ rfl ⟨rfl, K.old⟩
      rw [results_cell_tmp rfl]; go_simp
  · rw [if_neg hr] at CP
    rw [if_neg hr]
    generalize rdyT t (inM m24 d) = k at *
    have tk : (k != 0) = true := by simpa using hr
    clear hm hW ha hr hd
    obtain ⟨fr, st, R⟩ := t
    unfold tbV vecV z3 at *
    dsimp only at *
    generalize R.length = n at *
    have K0 := kv2 w 34 41 [.float .f64 fr, .float .f64 st, .slice ao n cap] [.float .f64 0, .float .f64 0, .float .f64 0]
    simp only [objV] at K0
    have hst := @fstore
    replace K0 := Lib.hid K0
    go_enter Try.func23, Try.ntmps23
    go_wp2_with fail
    have K := K0.out
    clear K0
    generalize (w.alloc _).alloc _ = wr at *
    refine (CP.out wr K.old).mono ?_
    rintro _ w1 ⟨rfl, hb⟩
    replace K := K.on hb
    clear hb CP
    have c1_0 := (K.at_ 1 rfl).at_ 0 _ rfl
    have f1_0 := (K.at_ 1 rfl).fr 0 _ rfl
    have c1_1 := (K.at_ 1 rfl).at_ 1 _ rfl
    have f1_1 := (K.at_ 1 rfl).fr 1 _ rfl
    have c1_2 := (K.at_ 1 rfl).at_ 2 _ rfl
    have f1_2 := (K.at_ 1 rfl).fr 2 _ rfl
    replace K := Lib.hid K
    go_wp2_with fail
    replace K := K.out
    (try simp only [Exit.inBlock, Exit.then])
    refine bodyPost_ret (v := .tuple #[.agg #[.float .f64 0, .float .f64 0, .float .f64 0], .int .i64 k]) ?_ rfl ⟨rfl, ?_⟩
    · rw [results_cell_tmp rfl]; go_simp
    · exact (((K.old).setCell (by first | exact Nat.le_refl _ | omega | (dsimp only; omega)) _).setCell (by first | exact Nat.le_refl _ | omega | (dsimp only; omega)) _).setCell (by first | exact Nat.le_refl _ | omega | (dsimp only; omega)) _
end Go.Proofs.Ytnmadknpkhaolaa

namespace Go.Proofs.Ytnmadknpkhaolaa
open Go.ChangeShapes Go.WideShapes Go.ChangeAt Go.RowKit Ieee.Own

end Go.Proofs.Ytnmadknpkhaolaa

namespace Go.Proofs.Ytnmadknpkhaolaa
open Go.ChangeShapes Go.WideShapes Go.ChangeAt Go.RowKit Ieee.Own

end Go.Proofs.Ytnmadknpkhaolaa

namespace Go.Proofs.Ytnmadknpkhaolaa
open Go.ChangeShapes Go.WideShapes Go.ChangeAt Go.RowKit Ieee.Own Pol

/-! ### the span of values -/
/-! ### hulls -/
/-! ### which part of a row -/
/-! ### the rows' spans, hulled -/
structure RkOk (L : List Nat) : Prop where
  w : Ws32 L
  may : mayB L = true
theorem RkOk.fc {L : List Nat} (h : RkOk L) : (L.map wideW).length ≤ 16 ∧ ∀ c ∈ L.map wideW, Fc c := errC_zero (ws_wide h.w) (mayB_true h.may).2
/-! ### the sum of magnitudes -/
def totL : List Nat → Nat → Nat
  | [], s => s
  | c :: cs, s => totL cs (aX s (c % 9223372036854775808))
theorem low_step {u T c k s s' : Rat} (u0 : 0 ≤ u) (u1 : 1000000 * u ≤ 1) (k0 : 0 ≤ k) (_k1 : k ≤ 2000) (T0 : 0 ≤ T) (c0 : 0 ≤ c) (h : T * (1 - k * u) ≤ s) (hr : Rd u 0 s' (s + c)) (hs : 0 ≤ s) : (T + c) * (1 - (k + 1) * u) ≤ s' := by
  have m := hr (s + c) (mag_nn (by grind))
  have l := (mag_le (s' - (s + c))).1
  have w1 := Rat.mul_nonneg u0 T0
  have w2 := Rat.mul_nonneg u0 c0
  have w3 := Rat.mul_nonneg u0 hs
  have x := Rat.mul_le_mul_of_nonneg_left h (show 0 ≤ 1 - u by grind)
  have y1 := Rat.mul_nonneg k0 w1
  have y2 := Rat.mul_nonneg u0 y1
  have y3 := Rat.mul_nonneg k0 w2
  have e1 : (1 - u) * (T * (1 - k * u)) = T - k * (u * T) - u * T + u * (k * (u * T)) := by grind
  have e2 : (T + c) * (1 - (k + 1) * u) = T + c - k * (u * T) - u * T - k * (u * c) - u * c := by grind
  have e3 : (1 - u) * s = s - u * s := by grind
  rw [e1, e3] at x
  rw [e2]
  have e4 : u * (s + c) + 0 = u * s + u * c := by grind
  rw [e4] at m
  generalize k * (u * T) = A at *
  generalize u * A = B at *
  generalize k * (u * c) = C at *
  generalize u * T = D at *
  generalize u * c = E at *
  generalize u * s = F at *
  grind
theorem rep_k {k : Nat} (h : k ≤ 2 ^ 53) (j : Nat) : Rep ((k : Int) * 2 ^ j) := ⟨k, j, h, by rw [Int.natAbs_mul, Int.natAbs_pow]; rfl⟩
theorem nat_small {v : Int} {k j l m : Nat} (e : m = j + l) (h0 : 0 ≤ v) (h : v ≤ (k : Int) * 2 ^ j) (hk : k ≤ 2 ^ l) : v.natAbs ≤ 2 ^ m := by
  subst e
  have a : (k : Int) * 2 ^ j ≤ ((2 ^ l : Nat) : Int) * 2 ^ j := Int.mul_le_mul_of_nonneg_right (Int.ofNat_le.2 hk) (Int.le_of_lt (pow1 j))
  have e : ((2 ^ l : Nat) : Int) * 2 ^ j = ((2 ^ (j + l) : Nat) : Int) := by
    rw [two_cast j, ← Int.natCast_mul, Nat.pow_add, Nat.mul_comm]
  rw [e] at a
  have b := Int.le_trans h a
  omega
/-! ### what is added at both ends -/
/-! ### Box along an axis -/
theorem uR_53h : uR * 9007199254740992 = 1 := by decide +kernel
theorem q_cap1 {x : Nat} (h : (V x).natAbs ≤ 2 ^ 1074) : mag (Q x) ≤ 1 := by
  have v1 := oneW_V.2
  have v2 := moneW_V.2
  have q1 : Q oneW = 1 := by decide +kernel
  have q2 : Q moneW = -1 := by decide +kernel
  have t := two_cast 1074
  have a : Q x ≤ Q oneW := Q_le.2 (by rw [v1]; omega)
  have b : Q moneW ≤ Q x := Q_le.2 (by rw [v2]; omega)
  rw [q1] at a
  rw [q2] at b
  exact mag_of b a
end Go.Proofs.Ytnmadknpkhaolaa
