/- Proved here: what the texts Hch, Feq, Hci, Psh, Hcj, Hck, Hcl, Rwd prove, one behind the other. -/
import Derived.Test.YtnmadknpkhaolaaJz18
import Derived.Test.YtnmadknpkhaolaaJz10
import Derived.Test.YtnmadknpkhaolaaJz17
import Derived.Test.YtnmadknpkhaolaaJz6
import Derived.Test.YtnmadknpkhaolaaJz16
import Derived.Maps.AppendAt
import Derived.Test.YtnmadknpkhaolaaJz9
import Derived.OpenShut
import Derived.Deep.Strs
import Derived.SizedLaws
import Derived.Test.YtnmadknpkhaolaaJz15
import Derived.Laws.Externs
import Derived.Laws.BitsAllLaws

namespace Go.Proofs.Ytnmadknpkhaolaa
open Go.ChangeShapes Go.WideShapes Go.ChangeAt Go.RowKit Ieee.Own Pol

/-- what Piece answers -/
def pieE (t : Tb) (d : Nat) : Value := if rdyT t (inM m24 d) = 0 then .tuple #[.int .i64 ((plc t d).1 : Int), .float .f64 (plc t d).2, .int .i64 0] else .tuple #[.int .i64 0, .float .f64 0, .int .i64 (rdyT t (inM m24 d))]
set_option maxHeartbeats 4000000 in
set_option maxRecDepth 100000 in
theorem cpiece_run {t : Tb} {d : Nat} (ao : Option Addr) (cap : Nat) (w : World) (hm : t.rows.length ≤ 4611686018427387904) (hW : TbW t) (ha : TbAt w ao t.rows) (hd : d < 18446744073709551616) :
    Calls Try.prog 20 #[tbV t ao cap, .float .f64 d] w fun e w' => e = .returned (pieE t d) ∧ Below w.heap.size w w' := by
  have CT : Hid (∀ W, Calls Try.prog 41 #[.float .f64 d] W fun e w' => e = .returned (.bool (inM m24 d)) ∧ Below W.heap.size W w') := Lib.hid fun W => (ctime_run d hd W).mono fun e w' h => ⟨h.1, h.2 ▸ Below.refl _ _⟩
  have CR : Hid (∀ W, Below w.heap.size w W → Calls Try.prog 45 #[tbV t ao cap, .bool (inM m24 d)] W fun e w' => e = .returned (.int .i64 (rdyT t (inM m24 d))) ∧ Below W.heap.size W w') := Lib.hid fun W hb => cready_run (inM m24 d) ao cap W hm hW (ha.on hb)
  unfold pieE
  by_cases hr : rdyT t (inM m24 d) = 0
  · rw [if_pos hr]
    rw [hr] at CR
    obtain ⟨c0, c1, c2⟩ := rdyT_zero hr
    have KO := chkT_zero c0
    have Y := y_ok KO hW hd c1
    have CP : Hid (∀ W, Below w.heap.size w W → Calls Try.prog 46 #[tbV t ao cap, .float .f64 d] W fun e w' => e = .returned (plcE (plc t d)) ∧ Below W.heap.size W w') := Lib.hid fun W _ => cplace_run ao cap W KO.len c2 Y
    unfold plcE at CP
    clear hm hW ha hr c0 c1 c2 KO Y hd
    generalize inM m24 d = b at *
    generalize plc t d = P at *
    obtain ⟨i, x⟩ := P
    dsimp only at *
    unfold tbV at *
    obtain ⟨fr, st, R⟩ := t
    dsimp only at *
    generalize R.length = n at *
    generalize hk : (0 : Int) = k at CR
    have tk : (k != 0) = false := by rw [← hk]; rfl
    replace hk := Lib.hid hk
    have K0 := kv1 w 34 [.float .f64 fr, .float .f64 st, .slice ao n cap]
    simp only [objV] at K0
    have hst := @fstore
    replace K0 := Lib.hid K0
    go_enter Try.func20, Try.ntmps20
    go_upto_region 1 with fail
    have K := K0.out
    clear K0
    generalize w.alloc _ = wr at *
    generalize hds : ([some 10, some 11, some 12, some 13, some 7] : List (Option Tmp)) = ds
    have hap : apartL ds = true := by rw [← hds]; decide
    replace hds := hds.symm
    refine wp_region_det (by kernel_rfl) ds (by rw [hds]; rfl) hap (by decide +kernel) [.agg #[.float .f64 fr, .float .f64 st, .slice ao n cap], .float .f64 d, .bool b, .int .i64 k, .int .i64 k] rfl (fun W => Kv w [some (w.heap.size, [.float .f64 fr, .float .f64 st, .slice ao n cap])] W) K.draws ?step ?fin
    case step =>
      intro L W i o ho hd hS
      have hi : i < 5 := (Array.getElem?_eq_some_iff.1 ho).1
      have : i = 0 ∨ i = 1 ∨ i = 2 ∨ i = 3 ∨ i = 4 := by omega
      rcases this with rfl | rfl | rfl | rfl | rfl
      · -- 0
        obtain rfl := Option.some.inj ho
        have b := hS.at_ 0 rfl
        have c0 := b.at_ 0 _ rfl
        have c1 := b.at_ 1 _ rfl
        have c2 := b.at_ 2 _ rfl
        clear b
        refine .value rfl W ?_ hS
        generalize hA : (puts ds L _).eval = ρ
        have hc : ∀ v, ρ (.const v) = v := fun v => by rw [← hA]; rfl
        have hg : ∀ g, ρ (.func g) = .func (.func g) #[] #[] := fun v => by rw [← hA]; rfl
        have h0 : ρ (.tmp 2) = .pointer (some ⟨w.heap.size, 0, none⟩) := by rw [← hA]; exact (puts_old ds L _ (by rw [hds]; decide)).trans rfl
        clear hA hd ho
        unfold execOp
        go_simp
      · -- 1
        obtain rfl := Option.some.inj ho
        refine .value rfl W ?_ hS
        generalize hA : (puts ds L _).eval = ρ
        have hc : ∀ v, ρ (.const v) = v := fun v => by rw [← hA]; rfl
        have hg : ∀ g, ρ (.func g) = .func (.func g) #[] #[] := fun v => by rw [← hA]; rfl
        have h0 : ρ (.tmp 1) = .float .f64 d := by rw [← hA]; exact (puts_old ds L _ (by rw [hds]; decide)).trans rfl
        clear hA hd ho
        unfold execOp
        go_simp
      · -- 2
        obtain rfl := Option.some.inj ho
        refine .call rfl 41 #[.float .f64 d] ?_ ((CT.out W).mono fun e w' h => ⟨h.1, hS.on h.2⟩)
        generalize hA : (puts ds L _).eval = ρ
        have hc : ∀ v, ρ (.const v) = v := fun v => by rw [← hA]; rfl
        have hg : ∀ g, ρ (.func g) = .func (.func g) #[] #[] := fun v => by rw [← hA]; rfl
        have h0 : ρ (.tmp 11) = .float .f64 d := by rw [← hA]; exact puts_get 1 ds L _ hap (by rw [hds]; rfl) (hd 1 (by decide +kernel)) (show 11 < 25 by decide)
        have hf := Try.func41
        unfold execOp
        go_simp
      · -- 3
        obtain rfl := Option.some.inj ho
        refine .call rfl 45 #[.agg #[.float .f64 fr, .float .f64 st, .slice ao n cap], .bool b] ?_ ((CR.out W hS.old).mono fun e w' h => ⟨h.1, hS.on h.2⟩)
        generalize hA : (puts ds L _).eval = ρ
        have hc : ∀ v, ρ (.const v) = v := fun v => by rw [← hA]; rfl
        have hg : ∀ g, ρ (.func g) = .func (.func g) #[] #[] := fun v => by rw [← hA]; rfl
        have h0 : ρ (.tmp 10) = .agg #[.float .f64 fr, .float .f64 st, .slice ao n cap] := by rw [← hA]; exact puts_get 0 ds L _ hap (by rw [hds]; rfl) (hd 0 (by decide +kernel)) (show 10 < 25 by decide)
        have h1 : ρ (.tmp 12) = .bool b := by rw [← hA]; exact puts_get 2 ds L _ hap (by rw [hds]; rfl) (hd 2 (by decide +kernel)) (show 12 < 25 by decide)
        have hf := Try.func45
        unfold execOp
        go_simp
      · -- 4
        obtain rfl := Option.some.inj ho
        refine .value rfl W ?_ hS
        generalize hA : (puts ds L _).eval = ρ
        have hc : ∀ v, ρ (.const v) = v := fun v => by rw [← hA]; rfl
        have hg : ∀ g, ρ (.func g) = .func (.func g) #[] #[] := fun v => by rw [← hA]; rfl
        have h0 : ρ (.tmp 13) = .int .i64 k := by rw [← hA]; exact puts_get 3 ds L _ hap (by rw [hds]; rfl) (hd 3 (by decide +kernel)) (show 13 < 25 by decide)
        clear hA hd ho
        unfold execOp
        go_simp
    case fin =>
      intro W0 K
      rw [hds]
      clear hds hap ds CT CR
      simp only [List.map_cons, List.map_nil, puts, Act.put, List.setIfInBounds_toArray]
      have c0_0 := (K.at_ 0 rfl).at_ 0 _ rfl
      have c0_1 := (K.at_ 0 rfl).at_ 1 _ rfl
      have c0_2 := (K.at_ 0 rfl).at_ 2 _ rfl
      replace K := Lib.hid K
      go_wp2_with fail
      replace K := K.out
      refine (CP.out W0 K.old).mono ?_
      rintro _ w1 ⟨rfl, hb⟩
      clear c0_0 c0_1 c0_2 CP
      replace K := Lib.hid (K.on hb)
      clear hb
      go_wp2_with fail
      go_ret3
      exact ⟨by rw [← hk.out]; rfl, K.out.old⟩
  · rw [if_neg hr]
    generalize rdyT t (inM m24 d) = k at *
    generalize inM m24 d = b at *
    have tk : (k != 0) = true := by simpa using hr
    clear hm hW ha hr hd
    unfold tbV at *
    obtain ⟨fr, st, R⟩ := t
    dsimp only at *
    generalize R.length = n at *
    have K0 := kv1 w 34 [.float .f64 fr, .float .f64 st, .slice ao n cap]
    simp only [objV] at K0
    have hst := @fstore
    replace K0 := Lib.hid K0
    go_enter Try.func20, Try.ntmps20
    go_upto_region 1 with fail
    have K := K0.out
    clear K0
    generalize w.alloc _ = wr at *
    generalize hds : ([some 10, some 11, some 12, some 13, some 7] : List (Option Tmp)) = ds
    have hap : apartL ds = true := by rw [← hds]; decide
    replace hds := hds.symm
    refine wp_region_det (by kernel_rfl) ds (by rw [hds]; rfl) hap (by decide +kernel) [.agg #[.float .f64 fr, .float .f64 st, .slice ao n cap], .float .f64 d, .bool b, .int .i64 k, .int .i64 k] rfl (fun W => Kv w [some (w.heap.size, [.float .f64 fr, .float .f64 st, .slice ao n cap])] W) K.draws ?step ?fin
    case step =>
      intro L W i o ho hd hS
      have hi : i < 5 := (Array.getElem?_eq_some_iff.1 ho).1
      have : i = 0 ∨ i = 1 ∨ i = 2 ∨ i = 3 ∨ i = 4 := by omega
      rcases this with rfl | rfl | rfl | rfl | rfl
      · -- 0
        obtain rfl := Option.some.inj ho
        have b := hS.at_ 0 rfl
        have c0 := b.at_ 0 _ rfl
        have c1 := b.at_ 1 _ rfl
        have c2 := b.at_ 2 _ rfl
        clear b
        refine .value rfl W ?_ hS
        generalize hA : (puts ds L _).eval = ρ
        have hc : ∀ v, ρ (.const v) = v := fun v => by rw [← hA]; rfl
        have hg : ∀ g, ρ (.func g) = .func (.func g) #[] #[] := fun v => by rw [← hA]; rfl
        have h0 : ρ (.tmp 2) = .pointer (some ⟨w.heap.size, 0, none⟩) := by rw [← hA]; exact (puts_old ds L _ (by rw [hds]; decide)).trans rfl
        clear hA hd ho
        unfold execOp
        go_simp
      · -- 1
        obtain rfl := Option.some.inj ho
        refine .value rfl W ?_ hS
        generalize hA : (puts ds L _).eval = ρ
        have hc : ∀ v, ρ (.const v) = v := fun v => by rw [← hA]; rfl
        have hg : ∀ g, ρ (.func g) = .func (.func g) #[] #[] := fun v => by rw [← hA]; rfl
        have h0 : ρ (.tmp 1) = .float .f64 d := by rw [← hA]; exact (puts_old ds L _ (by rw [hds]; decide)).trans rfl
        clear hA hd ho
        unfold execOp
        go_simp
      · -- 2
        obtain rfl := Option.some.inj ho
        refine .call rfl 41 #[.float .f64 d] ?_ ((CT.out W).mono fun e w' h => ⟨h.1, hS.on h.2⟩)
        generalize hA : (puts ds L _).eval = ρ
        have hc : ∀ v, ρ (.const v) = v := fun v => by rw [← hA]; rfl
        have hg : ∀ g, ρ (.func g) = .func (.func g) #[] #[] := fun v => by rw [← hA]; rfl
        have h0 : ρ (.tmp 11) = .float .f64 d := by rw [← hA]; exact puts_get 1 ds L _ hap (by rw [hds]; rfl) (hd 1 (by decide +kernel)) (show 11 < 25 by decide)
        have hf := Try.func41
        unfold execOp
        go_simp
      · -- 3
        obtain rfl := Option.some.inj ho
        refine .call rfl 45 #[.agg #[.float .f64 fr, .float .f64 st, .slice ao n cap], .bool b] ?_ ((CR.out W hS.old).mono fun e w' h => ⟨h.1, hS.on h.2⟩)
        generalize hA : (puts ds L _).eval = ρ
        have hc : ∀ v, ρ (.const v) = v := fun v => by rw [← hA]; rfl
        have hg : ∀ g, ρ (.func g) = .func (.func g) #[] #[] := fun v => by rw [← hA]; rfl
        have h0 : ρ (.tmp 10) = .agg #[.float .f64 fr, .float .f64 st, .slice ao n cap] := by rw [← hA]; exact puts_get 0 ds L _ hap (by rw [hds]; rfl) (hd 0 (by decide +kernel)) (show 10 < 25 by decide)
        have h1 : ρ (.tmp 12) = .bool b := by rw [← hA]; exact puts_get 2 ds L _ hap (by rw [hds]; rfl) (hd 2 (by decide +kernel)) (show 12 < 25 by decide)
        have hf := Try.func45
        unfold execOp
        go_simp
      · -- 4
        obtain rfl := Option.some.inj ho
        refine .value rfl W ?_ hS
        generalize hA : (puts ds L _).eval = ρ
        have hc : ∀ v, ρ (.const v) = v := fun v => by rw [← hA]; rfl
        have hg : ∀ g, ρ (.func g) = .func (.func g) #[] #[] := fun v => by rw [← hA]; rfl
        have h0 : ρ (.tmp 13) = .int .i64 k := by rw [← hA]; exact puts_get 3 ds L _ hap (by rw [hds]; rfl) (hd 3 (by decide +kernel)) (show 13 < 25 by decide)
        clear hA hd ho
        unfold execOp
        go_simp
    case fin =>
      intro W0 K
      rw [hds]
      clear hds hap ds CT CR
      simp only [List.map_cons, List.map_nil, puts, Act.put, List.setIfInBounds_toArray]
      have c0_0 := (K.at_ 0 rfl).at_ 0 _ rfl
      have c0_1 := (K.at_ 0 rfl).at_ 1 _ rfl
      have c0_2 := (K.at_ 0 rfl).at_ 2 _ rfl
      replace K := Lib.hid K
      go_wp2_with fail
      go_ret3
      exact ⟨rfl, K.out.old⟩
/-- a row's number at a place -/
def vH (L : List Nat) (x : Nat) : Nat := bgW (posW (chW x (L.map wideW)))
structure VhOk (L : List Nat) (x : Nat) : Prop where
  len : L.length ≤ 16
  er : errX m00 (L.map wideW) x = 0
  fc : ∀ c ∈ L.map wideW, Fc c
  fx : FinW x
  bx : (V x).natAbs ≤ 2 ^ 1074
  fin : FinW (chW x (L.map wideW))
theorem vh_ok {L : List Nat} {x : Nat} (hw : Ws32 L) (hm : mayB L = true) (hx : x < 18446744073709551616) (h1 : inM m00 x = true) : VhOk L x := by
  obtain ⟨l, e⟩ := mayB_true hm
  obtain ⟨l2, fc⟩ := errC_zero (ws_wide hw) e
  obtain ⟨fx, bx⟩ := inM_x00 hx h1
  have er : errX m00 (L.map wideW) x = 0 := by unfold errX; rw [if_pos e, if_pos h1]
  exact ⟨l, er, fc, fx, bx, (ch_wd fx bx _ (fc_cw fc) l2).1⟩
set_option maxHeartbeats 4000000 in
set_option maxRecDepth 100000 in
theorem cvalue_run {v : Value} {L : List Nat} {x : Nat} (w : World) (hw : Ws32 L) (hm : mayB L = true) (hx : x < 18446744073709551616) (h1 : inM m00 x = true) (h : FsAt w v L) :
    Calls Try.prog 49 #[v, .float .f64 x] w fun e w' => e = .returned (.float .f64 (vH L x)) ∧ Below w.heap.size w w' := by
  have O := vh_ok hw hm hx h1
  have CW := Lib.hid (cwide_run w O.len hw h)
  have CC := Lib.hid (fun g w1 hA => pcheb_ok (some ⟨g, 0, none⟩) L.length L.length (L.map wideW) x w1 (by simp) (by have := O.len; omega) (ws_wide hw) hA hx O.er)
  have CS := fun w => csure_run (posW (chW x (L.map wideW))) 0 w
  have CB := fun w => cbrought_run (posW (chW x (L.map wideW))) (Nz.pos O.fin).fin.1 w
  unfold vH
  obtain ⟨ao, cap, rfl, -⟩ := h
  unfold fe at CC
  generalize bgW (posW (chW x (L.map wideW))) = z at *
  generalize posW (chW x (L.map wideW)) = y at *
  generalize L.map wideW = M at *
  generalize L.length = n at *
  clear O hm h1 hx hw
  go_enter Try.func49, Try.ntmps49
  go_wp2_with fail
  refine CW.out.mono ?_
  rintro _ w1 ⟨g, rfl, hg, hA, hb⟩
  have K := CC.out g w1 hA
  replace hb := Lib.hid hb
  clear hA hg CW CC
  go_wp2_with (first | (go_at_call 69; ((with_reducible refine K.mono ?_); rintro e w' ⟨rfl, rfl⟩)) | (go_at_call 61; ((with_reducible refine (CS _).mono ?_); rintro e w' ⟨rfl, rfl⟩)) | (go_at_call 65; ((with_reducible refine (CB _).mono ?_); rintro e w' ⟨rfl, rfl⟩)))
  go_ret
  exact ⟨rfl, hb.out⟩
def rwH (t : Tb) (p : Nat × Nat) : V3 := (vH (cfT t.rows p.1 0) p.2, vH (cfT t.rows p.1 1) p.2, vH (cfT t.rows p.1 2) p.2)
/-- what At answers -/
def atH (t : Tb) (d : Nat) : V3 × Int := if rdyT t (inM m24 d) = 0 then (rwH t (plc t d), 0) else (z3, rdyT t (inM m24 d))
theorem row_may {T : List (List (List Nat))} {j : Nat} (h : rowB T j = true) : mayB (cfT T j 0) = true ∧ mayB (cfT T j 1) = true ∧ mayB (cfT T j 2) = true := by
  unfold rowB at h
  simpa using h
theorem pl_m00 {t : Tb} {p : Nat × Nat} (P : PlOk t p) : inM m00 p.2 = true := by
  rw [inM_iff (by decide) P.nz.fin.1 P.fit]
  have e : V m00 = 2 ^ 1074 := by decide +kernel
  rw [e]
  exact ⟨P.lo, P.hi⟩
set_option maxHeartbeats 4000000 in
set_option maxRecDepth 100000 in
theorem cat_run {t : Tb} {d : Nat} (ao : Option Addr) (cap : Nat) (w : World) (hm : t.rows.length ≤ 4611686018427387904) (hW : TbW t) (ha : TbAt w ao t.rows) (hd : d < 18446744073709551616) :
    Calls Try.prog 23 #[tbV t ao cap, .float .f64 d] w fun e w' => e = .returned (vecE (atH t d).1 (atH t d).2) ∧ Below w.heap.size w w' := by
  have CP : Hid (∀ W, Below w.heap.size w W → Calls Try.prog 20 #[tbV t ao cap, .float .f64 d] W fun e w' => e = .returned (pieE t d) ∧ Below W.heap.size W w') := Lib.hid fun W hb => cpiece_run ao cap W hm hW (ha.on hb) hd
  unfold pieE at CP
  unfold atH vecE
  by_cases hr : rdyT t (inM m24 d) = 0
  · rw [if_pos hr] at CP
    rw [if_pos hr]
    obtain ⟨c0, c1, c2⟩ := rdyT_zero hr
    have KO := chkT_zero c0
    have P := pl_ok (y_ok KO hW hd c1) c2
    have M := row_may (KO.row _ P.row)
    have hx := pl_m00 P
    have CV0 : Hid (∀ v W, FsAt W v (cfT t.rows (plc t d).1 0) → Calls Try.prog 49 #[v, .float .f64 (plc t d).2] W fun e w' => e = .returned (.float .f64 (vH (cfT t.rows (plc t d).1 0) (plc t d).2)) ∧ Below W.heap.size W w') := Lib.hid fun v W h => cvalue_run W (hW.w _ _) M.1 P.nz.fin.1 hx h
    have CV1 : Hid (∀ v W, FsAt W v (cfT t.rows (plc t d).1 1) → Calls Try.prog 49 #[v, .float .f64 (plc t d).2] W fun e w' => e = .returned (.float .f64 (vH (cfT t.rows (plc t d).1 1) (plc t d).2)) ∧ Below W.heap.size W w') := Lib.hid fun v W h => cvalue_run W (hW.w _ _) M.2.1 P.nz.fin.1 hx h
    have CV2 : Hid (∀ v W, FsAt W v (cfT t.rows (plc t d).1 2) → Calls Try.prog 49 #[v, .float .f64 (plc t d).2] W fun e w' => e = .returned (.float .f64 (vH (cfT t.rows (plc t d).1 2) (plc t d).2)) ∧ Below W.heap.size W w') := Lib.hid fun v W h => cvalue_run W (hW.w _ _) M.2.2 P.nz.fin.1 hx h
    have hi := P.row
    unfold rwH
    replace ha := Lib.hid ha
    clear hm hW hr c0 c1 c2 KO P M hx hd
    generalize plc t d = P at *
    obtain ⟨i, x⟩ := P
    obtain ⟨fr, st, R⟩ := t
    unfold tbV vecV at *
    dsimp only at *
    generalize vH (cfT R i 0) x = y0 at *
    generalize vH (cfT R i 1) x = y1 at *
    generalize vH (cfT R i 2) x = y2 at *
    generalize hn : R.length = n at *
    replace hn := Lib.hid hn
    obtain ⟨bb, oo, u0, u1, u2, rfl, hbl, c0, c1, c2, f0, f1, f2⟩ := ha.out i (by rw [hn.out]; exact hi)
    have V0 : Hid (∀ W, Below w.heap.size w W → Calls Try.prog 49 #[u0, .float .f64 x] W fun e w' => e = .returned (.float .f64 y0) ∧ Below W.heap.size W w') := Lib.hid fun W hb => CV0.out _ W (f0.on hb)
    have V1 : Hid (∀ W, Below w.heap.size w W → Calls Try.prog 49 #[u1, .float .f64 x] W fun e w' => e = .returned (.float .f64 y1) ∧ Below W.heap.size W w') := Lib.hid fun W hb => CV1.out _ W (f1.on hb)
    have V2 : Hid (∀ W, Below w.heap.size w W → Calls Try.prog 49 #[u2, .float .f64 x] W fun e w' => e = .returned (.float .f64 y2) ∧ Below W.heap.size W w') := Lib.hid fun W hb => CV2.out _ W (f2.on hb)
    obtain ⟨a0, p0, rfl, -⟩ := f0
    obtain ⟨a1, p1, rfl, -⟩ := f1
    obtain ⟨a2, p2, rfl, -⟩ := f2
    generalize (cfT R i 0).length = l0 at *
    generalize (cfT R i 1).length = l1 at *
    generalize (cfT R i 2).length = l2 at *
    replace c0 := Lib.hid c0
    replace c1 := Lib.hid c1
    replace c2 := Lib.hid c2
    clear CV0 CV1 CV2 ha
    have K0 := kv2 w 34 41 [.float .f64 fr, .float .f64 st, .slice (some ⟨bb, oo, none⟩) n cap] [.float .f64 0, .float .f64 0, .float .f64 0]
    simp only [objV] at K0
    have hst := @fstore
    replace K0 := Lib.hid K0
    go_enter Try.func23, Try.ntmps23
    go_wp2_with fail
    have K := K0.out
    clear K0
    generalize (w.alloc _).alloc _ = wr at *
    refine (CP.out wr K.old).mono ?_
    rintro _ w1 ⟨rfl, hb⟩
    replace K := K.on hb
    clear hb CP
    replace c0 := (K.old.cell (p := ⟨bb, _, none⟩) hbl).trans c0.out
    replace c1 := (K.old.cell (p := ⟨bb, _, none⟩) hbl).trans c1.out
    replace c2 := (K.old.cell (p := ⟨bb, _, none⟩) hbl).trans c2.out
    have k0_0 := (K.at_ 0 rfl).at_ 0 _ rfl
    have k0_1 := (K.at_ 0 rfl).at_ 1 _ rfl
    have k0_2 := (K.at_ 0 rfl).at_ 2 _ rfl
    have hi2 : (i : Int) < (n : Int) := by omega
    clear hbl
    replace K := K.new 69 [.slice a0 l0 p0, .slice a1 l1 p1, .slice a2 l2 p2]
    simp only [objV, List.cons_append, List.nil_append] at K
    replace K := Lib.hid K
    go_upto_region 5 with fail
    replace K := K.out
    clear c0 c1 c2 k0_0 k0_1 k0_2
    generalize w1.alloc _ = wq at *
    generalize w1.heap.size = g1 at *
    generalize hds : ([some 26, some 27, some 28, some 29, some 30, some 31, some 32, some 33, some 34, some 35, some 36, some 37, some 38, none, some 5] : List (Option Tmp)) = ds
    have hap : apartL ds = true := by rw [← hds]; decide
    replace hds := hds.symm
    refine wp_region_kv (fun hf => [some (w.heap.size, [.float .f64 fr, .float .f64 st, .slice (some ⟨bb, oo, none⟩) n cap]), some (w.heap.size + 1, [.float .f64 y0, .float .f64 y1, .float .f64 y2]), some (g1, [.slice a0 l0 p0, .slice a1 l1 p1, .slice a2 l2 p2])]) (fun hf => [some (.pointer (some ⟨g1, 0, none⟩)), some (.slice a0 l0 p0), some (.float .f64 x), some (.float .f64 y0), some (.pointer (some ⟨g1, 1, none⟩)), some (.slice a1 l1 p1), some (.float .f64 x), some (.float .f64 y1), some (.pointer (some ⟨g1, 2, none⟩)), some (.slice a2 l2 p2), some (.float .f64 x), some (.float .f64 y2), some (.agg #[.float .f64 y0, .float .f64 y1, .float .f64 y2]), some (undef), some (.int .i64 0)]) [] [⟨13, 1, 0, [.float .f64 y0, .float .f64 y1, .float .f64 y2]⟩] [.pointer (some ⟨g1, 0, none⟩), .slice a0 l0 p0, .float .f64 x, .float .f64 y0, .pointer (some ⟨g1, 1, none⟩), .slice a1 l1 p1, .float .f64 x, .float .f64 y1, .pointer (some ⟨g1, 2, none⟩), .slice a2 l2 p2, .float .f64 x, .float .f64 y2, .agg #[.float .f64 y0, .float .f64 y1, .float .f64 y2], undef, .int .i64 0] ds (by kernel_rfl) (by rw [hds]; rfl) hap (by decide +kernel) (by decide +kernel) K ?ha ?haj ?hai ?hsi ?hss ?hsa ?hsw ?htg ?hE2 ?hE3 ?hE4 ?hL1 ?hL2 ?hL3 ?alloc ?step ?store ?fin
    case ha => intro al hal; cases hal
    case haj => intro al hal al' hal' e; cases hal
    case hai => intro al hal; cases hal
    case hsi => intro st hst st' hst' e; simp only [List.mem_cons, List.not_mem_nil, or_false] at hst; rcases hst with rfl <;> (simp only [List.mem_cons, List.not_mem_nil, or_false] at hst'; rcases hst' with rfl) <;> first | rfl | (exfalso; revert e; simp)
    case hss =>
      intro st hst
      simp only [List.mem_cons, List.not_mem_nil, or_false] at hst; rcases hst with rfl
      · show 13 < 15; decide
    case hsa =>
      intro st hst al hal
      cases hal
    case hsw =>
      intro st hst al hal e
      cases hal
    case htg =>
      intro st hst
      simp only [List.mem_cons, List.not_mem_nil, or_false] at hst; rcases hst with rfl
      · exact .inl ⟨_, _, rfl, show 0 + 3 ≤ 3 by decide⟩
    case hE2 =>
      intro hf j h1 h2
      have n1 : 1 ≠ j := h1 _ (List.mem_cons_self ..)
      rcases j with _ | _ | _ | j
      · rfl
      · exact absurd rfl n1
      · rfl
      · rfl
    case hE3 =>
      intro hf st hst g us e
      simp only [List.mem_cons, List.not_mem_nil, or_false] at hst; rcases hst with rfl
      · obtain ⟨rfl, rfl⟩ := Prod.mk.inj (Option.some.inj (Option.some.inj e)); rfl
    case hE4 =>
      intro hf al hal
      cases hal
    case hL1 => intro hf; rfl
    case hL2 =>
      intro hf i hi hna
      have hi : i < 15 := hi
      have : i = 0 ∨ i = 1 ∨ i = 2 ∨ i = 3 ∨ i = 4 ∨ i = 5 ∨ i = 6 ∨ i = 7 ∨ i = 8 ∨ i = 9 ∨ i = 10 ∨ i = 11 ∨ i = 12 ∨ i = 13 ∨ i = 14 := by omega
      rcases this with rfl | rfl | rfl | rfl | rfl | rfl | rfl | rfl | rfl | rfl | rfl | rfl | rfl | rfl | rfl
      · rfl
      · rfl
      · rfl
      · rfl
      · rfl
      · rfl
      · rfl
      · rfl
      · rfl
      · rfl
      · rfl
      · rfl
      · rfl
      · rfl
      · rfl
    case hL3 => intro hf al hal; cases hal
    case alloc =>
      intro al hal o ρ W ho
      cases hal
    case step =>
      intro L W i o ho hs ha hd hB hO
      have hi : i < 15 := (Array.getElem?_eq_some_iff.1 ho).1
      have : i = 0 ∨ i = 1 ∨ i = 2 ∨ i = 3 ∨ i = 4 ∨ i = 5 ∨ i = 6 ∨ i = 7 ∨ i = 8 ∨ i = 9 ∨ i = 10 ∨ i = 11 ∨ i = 12 ∨ i = 13 ∨ i = 14 := by omega
      rcases this with rfl | rfl | rfl | rfl | rfl | rfl | rfl | rfl | rfl | rfl | rfl | rfl | rfl | rfl | rfl
      · -- 0
        obtain rfl := Option.some.inj ho
        refine .value W ?_ (Below.refl _ _)
        generalize hA : (puts ds L _).eval = ρ
        have hc : ∀ v, ρ (.const v) = v := fun v => by rw [← hA]; rfl
        have h0 : ρ (.tmp 9) = .pointer (some ⟨g1, 0, none⟩) := (po hA (by rw [hds]; decide)).trans rfl
        clear hA hd hB ho hs ha hO
        unfold execOp
        go_simp
      · -- 1
        obtain rfl := Option.some.inj ho
        have b := hB 2 _ _ rfl (by
          intro st hst e
          simp only [List.mem_cons, List.not_mem_nil, or_false] at hst; rcases hst with rfl
          · exact absurd e (show ¬ 1 = 2 by decide))
        have c0 := b.at_ 0 _ rfl
        clear b
        refine .value W ?_ (Below.refl _ _)
        generalize hA : (puts ds L _).eval = ρ
        have h0 : ρ (.tmp 26) = .pointer (some ⟨g1, 0, none⟩) := pg 0 hA hap (by rw [hds]; rfl) (hd 0 (by decide +kernel) (alne rfl)) (show 26 < 39 by decide)
        clear hA hd hB ho hs ha hO
        unfold execOp
        go_simp
      · -- 2
        obtain rfl := Option.some.inj ho
        refine .value W ?_ (Below.refl _ _)
        generalize hA : (puts ds L _).eval = ρ
        have hc : ∀ v, ρ (.const v) = v := fun v => by rw [← hA]; rfl
        have h0 : ρ (.tmp 7) = .float .f64 x := (po hA (by rw [hds]; decide)).trans rfl
        clear hA hd hB ho hs ha hO
        unfold execOp
        go_simp
      · -- 3
        obtain rfl := Option.some.inj ho
        refine .call 49 #[.slice a0 l0 p0, .float .f64 x] ?_ (V0.out W hO)
        generalize hA : (puts ds L _).eval = ρ
        have hg : ∀ g, ρ (.func g) = .func (.func g) #[] #[] := fun v => by rw [← hA]; rfl
        have h0 : ρ (.tmp 27) = .slice a0 l0 p0 := pg 1 hA hap (by rw [hds]; rfl) (hd 1 (by decide +kernel) (alne rfl)) (show 27 < 39 by decide)
        have h1 : ρ (.tmp 28) = .float .f64 x := pg 2 hA hap (by rw [hds]; rfl) (hd 2 (by decide +kernel) (alne rfl)) (show 28 < 39 by decide)
        have hf := Try.func49
        unfold execOp
        go_simp
      · -- 4
        obtain rfl := Option.some.inj ho
        refine .value W ?_ (Below.refl _ _)
        generalize hA : (puts ds L _).eval = ρ
        have hc : ∀ v, ρ (.const v) = v := fun v => by rw [← hA]; rfl
        have h0 : ρ (.tmp 9) = .pointer (some ⟨g1, 0, none⟩) := (po hA (by rw [hds]; decide)).trans rfl
        clear hA hd hB ho hs ha hO
        unfold execOp
        go_simp
      · -- 5
        obtain rfl := Option.some.inj ho
        have b := hB 2 _ _ rfl (by
          intro st hst e
          simp only [List.mem_cons, List.not_mem_nil, or_false] at hst; rcases hst with rfl
          · exact absurd e (show ¬ 1 = 2 by decide))
        have c1 := b.at_ 1 _ rfl
        clear b
        refine .value W ?_ (Below.refl _ _)
        generalize hA : (puts ds L _).eval = ρ
        have h0 : ρ (.tmp 30) = .pointer (some ⟨g1, 1, none⟩) := pg 4 hA hap (by rw [hds]; rfl) (hd 4 (by decide +kernel) (alne rfl)) (show 30 < 39 by decide)
        clear hA hd hB ho hs ha hO
        unfold execOp
        go_simp
      · -- 6
        obtain rfl := Option.some.inj ho
        refine .value W ?_ (Below.refl _ _)
        generalize hA : (puts ds L _).eval = ρ
        have hc : ∀ v, ρ (.const v) = v := fun v => by rw [← hA]; rfl
        have h0 : ρ (.tmp 7) = .float .f64 x := (po hA (by rw [hds]; decide)).trans rfl
        clear hA hd hB ho hs ha hO
        unfold execOp
        go_simp
      · -- 7
        obtain rfl := Option.some.inj ho
        refine .call 49 #[.slice a1 l1 p1, .float .f64 x] ?_ (V1.out W hO)
        generalize hA : (puts ds L _).eval = ρ
        have hg : ∀ g, ρ (.func g) = .func (.func g) #[] #[] := fun v => by rw [← hA]; rfl
        have h0 : ρ (.tmp 31) = .slice a1 l1 p1 := pg 5 hA hap (by rw [hds]; rfl) (hd 5 (by decide +kernel) (alne rfl)) (show 31 < 39 by decide)
        have h1 : ρ (.tmp 32) = .float .f64 x := pg 6 hA hap (by rw [hds]; rfl) (hd 6 (by decide +kernel) (alne rfl)) (show 32 < 39 by decide)
        have hf := Try.func49
        unfold execOp
        go_simp
      · -- 8
        obtain rfl := Option.some.inj ho
        refine .value W ?_ (Below.refl _ _)
        generalize hA : (puts ds L _).eval = ρ
        have hc : ∀ v, ρ (.const v) = v := fun v => by rw [← hA]; rfl
        have h0 : ρ (.tmp 9) = .pointer (some ⟨g1, 0, none⟩) := (po hA (by rw [hds]; decide)).trans rfl
        clear hA hd hB ho hs ha hO
        unfold execOp
        go_simp
      · -- 9
        obtain rfl := Option.some.inj ho
        have b := hB 2 _ _ rfl (by
          intro st hst e
          simp only [List.mem_cons, List.not_mem_nil, or_false] at hst; rcases hst with rfl
          · exact absurd e (show ¬ 1 = 2 by decide))
        have c2 := b.at_ 2 _ rfl
        clear b
        refine .value W ?_ (Below.refl _ _)
        generalize hA : (puts ds L _).eval = ρ
        have h0 : ρ (.tmp 34) = .pointer (some ⟨g1, 2, none⟩) := pg 8 hA hap (by rw [hds]; rfl) (hd 8 (by decide +kernel) (alne rfl)) (show 34 < 39 by decide)
        clear hA hd hB ho hs ha hO
        unfold execOp
        go_simp
      · -- 10
        obtain rfl := Option.some.inj ho
        refine .value W ?_ (Below.refl _ _)
        generalize hA : (puts ds L _).eval = ρ
        have hc : ∀ v, ρ (.const v) = v := fun v => by rw [← hA]; rfl
        have h0 : ρ (.tmp 7) = .float .f64 x := (po hA (by rw [hds]; decide)).trans rfl
        clear hA hd hB ho hs ha hO
        unfold execOp
        go_simp
      · -- 11
        obtain rfl := Option.some.inj ho
        refine .call 49 #[.slice a2 l2 p2, .float .f64 x] ?_ (V2.out W hO)
        generalize hA : (puts ds L _).eval = ρ
        have hg : ∀ g, ρ (.func g) = .func (.func g) #[] #[] := fun v => by rw [← hA]; rfl
        have h0 : ρ (.tmp 35) = .slice a2 l2 p2 := pg 9 hA hap (by rw [hds]; rfl) (hd 9 (by decide +kernel) (alne rfl)) (show 35 < 39 by decide)
        have h1 : ρ (.tmp 36) = .float .f64 x := pg 10 hA hap (by rw [hds]; rfl) (hd 10 (by decide +kernel) (alne rfl)) (show 36 < 39 by decide)
        have hf := Try.func49
        unfold execOp
        go_simp
      · -- 12
        obtain rfl := Option.some.inj ho
        refine .value W ?_ (Below.refl _ _)
        generalize hA : (puts ds L _).eval = ρ
        have hc : ∀ v, ρ (.const v) = v := fun v => by rw [← hA]; rfl
        have h0 : ρ (.tmp 29) = .float .f64 y0 := pg 3 hA hap (by rw [hds]; rfl) (hd 3 (by decide +kernel) (alne rfl)) (show 29 < 39 by decide)
        have h1 : ρ (.tmp 33) = .float .f64 y1 := pg 7 hA hap (by rw [hds]; rfl) (hd 7 (by decide +kernel) (alne rfl)) (show 33 < 39 by decide)
        have h2 : ρ (.tmp 37) = .float .f64 y2 := pg 11 hA hap (by rw [hds]; rfl) (hd 11 (by decide +kernel) (alne rfl)) (show 37 < 39 by decide)
        clear hA hd hB ho hs ha hO
        unfold execOp
        go_simp
      · -- 13
        exact absurd rfl (hs _ (List.mem_cons_self ..))
      · -- 14
        obtain rfl := Option.some.inj ho
        refine .value W ?_ (Below.refl _ _)
        generalize hA : (puts ds L _).eval = ρ
        have hc : ∀ v, ρ (.const v) = v := fun v => by rw [← hA]; rfl
        clear hA hd hB ho hs ha hO
        unfold execOp
        go_simp
    case store =>
      intro st hst L W o h us ho hd hal hC b
      simp only [List.mem_cons, List.not_mem_nil, or_false] at hst; rcases hst with rfl
      · dsimp only at ho hd hal hC b ⊢
        obtain rfl := Option.some.inj ho
        obtain ⟨hh, rfl⟩ := hC _ _ rfl
        replace hh := hh.symm
        subst hh
        have c0 := b.at_ 0 _ rfl
        have f0 := b.fr 0 _ rfl
        have c1 := b.at_ 1 _ rfl
        have f1 := b.fr 1 _ rfl
        have c2 := b.at_ 2 _ rfl
        have f2 := b.fr 2 _ rfl
        refine ⟨?_, rfl⟩
        generalize hA : (puts ds L _).eval = ρ
        have h0 : ρ (.tmp 4) = .pointer (some ⟨w.heap.size + 1, 0, none⟩) := (po hA (by rw [hds]; decide)).trans rfl
        have h1 : ρ (.tmp 38) = .agg #[.float .f64 y0, .float .f64 y1, .float .f64 y2] := pg 12 hA hap (by rw [hds]; rfl) (hd 12 (by decide +kernel) (alne rfl)) (show 38 < 39 by decide)
        have hst' := @fstore
        clear hA hd b ho hal hC
        simp only [putV]
        unfold execOp
        go_simp
    case fin =>
      intro hf W0 K
      rw [hds]
      clear hds hap ds V0 V1 V2
      (try dsimp only at K)
      simp only [List.set_cons_zero, List.set_cons_succ, puts, Act.put, List.setIfInBounds_toArray]
      have c1_0 := (K.at_ 1 rfl).at_ 0 _ rfl
      have c1_1 := (K.at_ 1 rfl).at_ 1 _ rfl
      have c1_2 := (K.at_ 1 rfl).at_ 2 _ rfl
      replace K := Lib.hid K
      go_wp2_with fail
      replace K := K.out
      (try simp only [Exit.inBlock, Exit.then])
      refine bodyPost_ret (v := .tuple #[.agg #[.float .f64 y0, .float .f64 y1, .float .f64 y2], .int .i64 0]) ?_ rfl ⟨rfl, K.old⟩
      rw [results_cell_tmp rfl]; go_simp
  · rw [if_neg hr] at CP
    rw [if_neg hr]
    generalize rdyT t (inM m24 d) = k at *
    have tk : (k != 0) = true := by simpa using hr
    clear hm hW ha hr hd
    obtain ⟨fr, st, R⟩ := t
    unfold tbV vecV z3 at *
    dsimp only at *
    generalize R.length = n at *
    have K0 := kv2 w 34 41 [.float .f64 fr, .float .f64 st, .slice ao n cap] [.float .f64 0, .float .f64 0, .float .f64 0]
    simp only [objV] at K0
    have hst := @fstore
    replace K0 := Lib.hid K0
    go_enter Try.func23, Try.ntmps23
    go_wp2_with fail
    have K := K0.out
    clear K0
    generalize (w.alloc _).alloc _ = wr at *
    refine (CP.out wr K.old).mono ?_
    rintro _ w1 ⟨rfl, hb⟩
    replace K := K.on hb
    clear hb CP
    have c1_0 := (K.at_ 1 rfl).at_ 0 _ rfl
    have f1_0 := (K.at_ 1 rfl).fr 0 _ rfl
    have c1_1 := (K.at_ 1 rfl).at_ 1 _ rfl
    have f1_1 := (K.at_ 1 rfl).fr 1 _ rfl
    have c1_2 := (K.at_ 1 rfl).at_ 2 _ rfl
    have f1_2 := (K.at_ 1 rfl).fr 2 _ rfl
    replace K := Lib.hid K
    go_wp2_with fail
    replace K := K.out
    (try simp only [Exit.inBlock, Exit.then])
    refine bodyPost_ret (v := .tuple #[.agg #[.float .f64 0, .float .f64 0, .float .f64 0], .int .i64 k]) ?_ rfl ⟨rfl, ?_⟩
    · rw [results_cell_tmp rfl]; go_simp
    · exact (((K.old).setCell (by first | exact Nat.le_refl _ | omega | (dsimp only; omega)) _).setCell (by first | exact Nat.le_refl _ | omega | (dsimp only; omega)) _).setCell (by first | exact Nat.le_refl _ | omega | (dsimp only; omega)) _
end Go.Proofs.Ytnmadknpkhaolaa

namespace Go.Proofs.Ytnmadknpkhaolaa
open Go.ChangeShapes Go.WideShapes Go.ChangeAt Go.RowKit

set_option maxRecDepth 100000 in
theorem feq_gen {P : Program} {t : TypeId} {k' : FloatKind} (d : Nat) (a b : Nat) (w : World) (h : P.underlying t = some (.float k')) : (Op.equalIn (d + 1) t (.float .f64 a) (.float .f64 b)).run P w = .ok (FloatKind.f64.format.order a b == some Ordering.eq) w := by
  simp [Op.equalIn, run_underlying h]
  rfl
set_option maxRecDepth 100000 in
theorem feq_run (a b : Nat) (w : World) : (Op.equalIn 9999 30 (.float .f64 a) (.float .f64 b)).run Try.prog w = .ok (FloatKind.f64.format.order a b == some Ordering.eq) w := feq_gen 9998 a b w Try.underlying30
end Go.Proofs.Ytnmadknpkhaolaa

namespace Go.Proofs.Ytnmadknpkhaolaa
open Go.ChangeShapes Go.WideShapes Go.ChangeAt Go.RowKit Ieee.Own Pol

theorem bv_fs {w : World} {g : Nat} {L : List Nat} {cap : Nat} (h : BV w g (L.map (Value.float .f32))) (h1 : L.length ≤ cap) (h2 : cap ≤ maxLen) : FsAt w (.slice (some ⟨g, 0, none⟩) L.length cap) L := by
  refine ⟨_, _, rfl, h1, h2, (fun e => nomatch e), fun j r hj => ?_⟩
  have hjl : j < L.length := by have := (List.getElem?_eq_some_iff.1 hj).1; simpa using this
  have hr : r = fsC (L.getD j 0) := by
    have e : (L.map fsC)[j]? = some (fsC (L.getD j 0)) := by simp [List.getD, hjl]
    rw [e] at hj
    exact (Option.some.inj hj).symm
  subst hr
  refine ⟨g, 0, rfl, h.lt, fun k u hu => ?_⟩
  have hk : k = 0 := by
    have := (List.getElem?_eq_some_iff.1 hu).1
    simp [fsC] at this
    exact this
  subst hk
  have hu' : u = .float .f32 (L.getD j 0) := by simp [fsC] at hu; simpa using hu.symm
  subst hu'
  rw [Nat.mul_one, Nat.add_zero, Nat.zero_add]
  exact h.at_ j _ (by simp [List.getD, hjl])
def awT : Tb := ⟨0, 4607182418800017408, [[[1065353216, 1073741824], [], [1077936128]]]⟩
theorem awT_at : atH awT 4604930618986332160 = ((4611686018427387904, 0, 4613937818241073152), 0) := by decide +kernel
theorem awT_w : TbW awT := by
  refine ⟨by decide, by decide, fun i k => ?_⟩
  have h0 : Ws32 [] := fun x hx => by cases hx
  have h1 : Ws32 [1065353216, 1073741824] := fun x hx => by simp at hx; rcases hx with rfl | rfl <;> omega
  have h2 : Ws32 [1077936128] := fun x hx => by simp at hx; subst hx; omega
  by_cases hi : i = 0
  · subst hi
    by_cases k0 : k = 0
    · subst k0; exact h1
    · by_cases k1 : k = 1
      · subst k1; exact h0
      · by_cases k2 : k = 2
        · subst k2; exact h2
        · have : cfT awT.rows 0 k = [] := by
            unfold cfT awT
            simp [List.getD, show 3 ≤ k by omega]
          rw [this]; exact h0
  · have : cfT awT.rows i k = [] := by
      obtain ⟨j, rfl⟩ : ∃ j, i = j + 1 := ⟨i - 1, by omega⟩
      unfold cfT awT
      simp [List.getD]
    rw [this]; exact h0
set_option maxHeartbeats 4000000 in
set_option maxRecDepth 100000 in
theorem awake13 (w : World) : Calls Try.prog 9 #[] w fun e w' => e = .returned (.bool true) ∧ Below w.heap.size w w' := by
  have C : Hid (∀ W ao, TbAt W ao awT.rows → Calls Try.prog 23 #[.agg #[.float .f64 0, .float .f64 4607182418800017408, .slice ao 1 1], .float .f64 4604930618986332160] W fun e w' => e = .returned (.tuple #[.agg #[.float .f64 4611686018427387904, .float .f64 0, .float .f64 4613937818241073152], .int .i64 0]) ∧ Below W.heap.size W w') :=
    Lib.hid fun W ao ha => by
      have := cat_run (t := awT) (d := 4604930618986332160) ao 1 W (by decide) awT_w ha (by omega)
      rw [awT_at] at this
      exact this
  have t1 : (FloatKind.f64.format.order 4611686018427387904 4611686018427387904 == some Ordering.eq) = true := by decide +kernel
  have t2 : (FloatKind.f64.format.order 4613937818241073152 4613937818241073152 == some Ordering.eq) = true := by decide +kernel
  have t3 : (FloatKind.f64.format.order 0 0 == some Ordering.eq) = true := by decide +kernel
  have hst := @fstore
  have heq := feq_run
  have K := kv4 w 57 57 57 69 [.float .f32 1065353216, .float .f32 1073741824] [] [.float .f32 1077936128] [.slice (some ⟨w.heap.size, 0, none⟩) 2 2, .slice (some ⟨w.heap.size + 1, 0, none⟩) 0 0, .slice (some ⟨w.heap.size + 1 + 1, 0, none⟩) 1 1]
  replace K := K.and (n := w.heap.size + 1 + 1 + 1 + 1) (by simp) 34 [.float .f64 0, .float .f64 4607182418800017408, .slice (some ⟨w.heap.size + 1 + 1 + 1, 0, none⟩) 1 1]
  have FA : Hid (TbAt _ (some ⟨w.heap.size + 1 + 1 + 1, 0, none⟩) awT.rows) := Lib.hid (fun i hi => by
    have i0 : i = 0 := by have : awT.rows.length = 1 := rfl; omega
    subst i0
    have B := K.at_ 3 rfl
    exact ⟨_, 0, _, _, _, rfl, B.lt, B.at_ 0 _ rfl, B.at_ 1 _ rfl, B.at_ 2 _ rfl,
      bv_fs (L := [1065353216, 1073741824]) (K.at_ 0 rfl) (by decide) (by decide), bv_fs (L := []) (K.at_ 1 rfl) (by decide) (by decide), bv_fs (L := [1077936128]) (K.at_ 2 rfl) (by decide) (by decide)⟩)
  simp only [objV, List.cons_append, List.nil_append] at K FA
  have k0 := (K.at_ 4 rfl).at_ 0 _ rfl
  have k1 := (K.at_ 4 rfl).at_ 1 _ rfl
  have k2 := (K.at_ 4 rfl).at_ 2 _ rfl
  replace K := Lib.hid K
  go_enter Try.func9, Try.ntmps9
  go_wp2_with fail
  have C1 := C.out _ _ FA.out
  refine C1.mono ?_
  rintro _ w2 ⟨rfl, hb⟩
  replace hb := Lib.hid (K.out.on hb).old
  clear C1 C FA k0 k1 k2
  go_wp2_with fail
  go_ret
  exact ⟨rfl, hb.out.alloc (hb.out.size) _⟩
end Go.Proofs.Ytnmadknpkhaolaa

namespace Go.Proofs.Ytnmadknpkhaolaa
open Go.ChangeShapes Go.WideShapes Go.ChangeAt Go.RowKit Ieee.Own

set_option maxRecDepth 100000 in
/-- one more record appended, which lies in a block of its own; what else stays -/
theorem wpList_pushR2 {w0 w : World} {base : Nat} {ops : Array Oper} {rest : List Oper} {o : Oper} {a : Act} {Q : Exit → Act → World → Prop} {t e : TypeId} {m bytes : Nat} {z : Value} (T : RecT t e m bytes z) (hgd : o.guard = none) (s x : Operand)
    (ho : o.op = .call { callee := .builtin .append, args := #[s, x], argTypes := #[t, t] }) (v : Value) (R : List (List Value)) (hs : a.eval s = v)
    (hown : OwnR e m base w0 R v w) (r : List Value) (hr : r.length = m) (h1 : ∀ u ∈ r, u.oneCell' = true) (hx : a.eval x = .slice (some ⟨w.heap.size, 0, none⟩) 1 1) (hl : (R.length + 1) * bytes ≤ 140737488355328) (hmax : R.length + 1 ≤ maxLen)
    (h : ∀ v' w', OwnR e m base w0 (R ++ [r]) v' w' → (w.alloc (.cells r.toArray e)).grownBy w' v.ownBlock → (v'.ownBlock = v.ownBlock ∨ v'.ownBlock = some (w.heap.size + 1)) → wpList Try.prog ops Q rest (a.put o.dst v') w') :
    wpList Try.prog ops Q (o :: rest) a (w.alloc (.cells r.toArray e)) := by
  obtain ⟨i0, hi0, hz0, hz1, hz2⟩ := info_ofR T.info
  have hb := (Below.refl w.heap.size w).alloc (Nat.le_refl _) (.cells r.toArray e)
  have ho2 := hown.grow hb
  refine wpList_append_own_at (w := w.alloc (.cells r.toArray e)) hgd s x t ho base e i0 z m bytes T.te hi0 hz0 hz1 hz2 T.zs T.pos v R.length _ hs ho2.own ⟨w.heap.size, 0, none⟩ 1 1 r hx (by rw [hr, Nat.one_mul]) ?_ h1 hmax hl ho2.size ?_
  · intro j u hj
    rw [ad_plainR, World.cell?_alloc_at _ _ _ _ rfl, Nat.zero_add]
    simpa using hj
  · intro v' w' h1' h2 _ h4
    refine h v' w' ⟨ho2.old.grown h2 ho2.size ?_, ?_, Nat.le_trans ho2.size h2.size, ?_⟩ h2 (by simpa using h4)
    · intro k hk
      rcases ho2.own.2 with ⟨hv, _⟩ | ⟨g, cap, cur, hv, hg, _⟩
      · rw [hv] at hk; simp [Value.ownBlock] at hk
      · rw [hv] at hk
        simp only [Value.ownBlock, Option.some.injEq] at hk
        rw [← hk]; exact hg
    · rw [List.length_append, List.flatten_append]
      simpa using h1'
    · refine ⟨fun q hq => ?_, fun q hq => ?_⟩
      · rcases List.mem_append.1 hq with hq | hq
        · exact hown.ok.len q hq
        · rw [List.mem_singleton.1 hq]; exact hr
      · rcases List.mem_append.1 hq with hq | hq
        · exact hown.ok.one q hq
        · rw [List.mem_singleton.1 hq]; exact h1
theorem BV.grown {w w' : World} {g : Nat} {us : List Value} {row : Option Nat} (b : BV w g us) (h : w.grownBy w' row) (hne : row ≠ some g) : BV w' g us := by
  have e := h.block g b.lt (fun k => hne k.symm)
  exact ⟨Nat.lt_of_lt_of_le b.lt h.size, fun i u k => (World.cell?_of_block (a := ⟨g, i, none⟩) e).trans (b.at_ i u k), fun i u k => (World.frozen?_of_block (a := ⟨g, i, none⟩) e).trans (b.fr i u k)⟩
theorem OwnR.kept {e : TypeId} {m base : Nat} {w w1 w2 : World} {R : List (List Value)} {v : Value} {row : Option Nat} (h : OwnR e m base w R v w1) (hg : w1.grownBy w2 row) (hr : ∀ k, row = some k → base ≤ k) (hne : v.ownBlock = none ∨ v.ownBlock ≠ row) : OwnR e m base w R v w2 :=
  ⟨h.old.grown hg h.size hr, h.own.kept hg hne, Nat.le_trans h.size hg.size, h.ok⟩
theorem OwnR.lt {e : TypeId} {m base : Nat} {w w1 : World} {R : List (List Value)} {v : Value} (h : OwnR e m base w R v w1) : ∀ k, v.ownBlock = some k → base ≤ k ∧ k < w1.heap.size := h.own.lt
theorem grown_set (w : World) (g k : Nat) (x : Value) : w.grownBy (w.setCell ⟨g, k, none⟩ x) (some g) := by
  refine ⟨?_, ?_, ?_, by simp, fun j hj hne => heap_setCell_other w ⟨g, k, none⟩ j x (fun e => hne (by rw [e]))⟩ <;> (unfold World.setCell; split <;> rfl)
end Go.Proofs.Ytnmadknpkhaolaa

namespace Go.Proofs.Ytnmadknpkhaolaa
open Go.ChangeShapes Go.WideShapes Go.ChangeAt Go.RowKit Ieee.Own

theorem FsAt.grown {w w' : World} {u : Value} {L : List Nat} {row : Option Nat} (h : FsAt w u L) (hg : w.grownBy w' row) (hne : 0 < L.length → u.ownBlock ≠ row) : FsAt w' u L := by
  obtain ⟨ao, cap, rfl, h1, h2, h3, h4⟩ := h
  refine ⟨ao, cap, rfl, h1, h2, h3, fun j r hj => ?_⟩
  obtain ⟨b, o, e, hb, hc⟩ := h4 j r hj
  subst e
  have hl : 0 < L.length := by have := (List.getElem?_eq_some_iff.1 hj).1; simp at this; omega
  have n := hne hl
  have eb := hg.block b hb (fun k => n (by simp [Value.ownBlock]; exact k))
  exact ⟨b, o, rfl, Nat.lt_of_lt_of_le hb hg.size, fun c v hv => (World.cell?_of_block (a := ⟨b, _, none⟩) eb).trans (hc c v hv)⟩
theorem FsAt.lt {w : World} {u : Value} {L : List Nat} (h : FsAt w u L) (hl : 0 < L.length) : ∀ b, u.ownBlock = some b → b < w.heap.size := by
  obtain ⟨ao, cap, rfl, h1, h2, h3, h4⟩ := h
  obtain ⟨b, o, e, hb, hc⟩ := fs_cell h4 hl
  subst e
  intro c hc2
  simp only [Value.ownBlock, Option.some.injEq] at hc2
  omega
set_option maxRecDepth 100000 in
theorem rec32 : RecT 53 57 1 4 (.float .f32 0) := ⟨Try.underlying53, by kernel_rfl, rfl, by omega⟩
set_option maxRecDepth 100000 in
theorem recRw : RecT 32 69 3 72 (.agg #[.slice none 0 0, .slice none 0 0, .slice none 0 0]) := ⟨Try.underlying32, by kernel_rfl, rfl, by omega⟩
/-- a copy of a list, behind block g -/
structure CpAt (B : Nat) (w : World) (u : Value) (L : List Nat) : Prop where
  at_ : FsAt w u L
  out : 0 < L.length → ∀ b, u.ownBlock = some b → B ≤ b
theorem CpAt.on {B : Nat} {w w' : World} {u : Value} {L : List Nat} (h : CpAt B w u L) (hb : Below w.heap.size w w') : CpAt B w' u L := ⟨h.at_.on hb, h.out⟩
theorem CpAt.set {B g k : Nat} {w : World} {u : Value} {L : List Nat} (h : CpAt B w u L) (hg : g < B) (x : Value) : CpAt B (w.setCell ⟨g, k, none⟩ x) u L :=
  ⟨h.at_.grown (grown_set w g k x) (fun hl e => by have := h.out hl g e; omega), h.out⟩
theorem CpAt.mono {B C : Nat} {w : World} {u : Value} {L : List Nat} (h : CpAt B w u L) (hc : C ≤ B) : CpAt C w u L := ⟨h.at_, fun hl b e => Nat.le_trans hc (h.out hl b e)⟩
/-- the rows copied so far -/
structure Rws (w0 : World) (T : List (List (List Nat))) (i : Nat) (M : List (List Value)) (v : Value) (w : World) : Prop where
  own : OwnR 69 3 w0.heap.size w0 M v w
  len : M.length = i
  row : ∀ j, j < i → ∃ v0 v1 v2, M[j]? = some [v0, v1, v2] ∧ CpAt (w0.heap.size + 3) w v0 (cfT T j 0) ∧ CpAt (w0.heap.size + 3) w v1 (cfT T j 1) ∧ CpAt (w0.heap.size + 3) w v2 (cfT T j 2)
  ne : ∀ j, j < i → ∀ k, ∀ u, (M.getD j [])[k]? = some u → 0 < (cfT T j k).length → v.ownBlock = none ∨ u.ownBlock ≠ v.ownBlock
  hi : ∀ b, v.ownBlock = some b → w0.heap.size + 3 ≤ b
theorem Rws.start (w w1 : World) (T : List (List (List Nat))) (hb : Below w.heap.size w w1) (hs : w.heap.size ≤ w1.heap.size) : Rws w T 0 [] (.slice none 0 0) w1 :=
  ⟨⟨hb, World.ownsRow_nil _ _ _ _, hs, ⟨by simp, by simp⟩⟩, rfl, fun j hj => by omega, fun j hj => by omega, fun b e => by simp [Value.ownBlock] at e⟩
theorem Rws.on {w0 : World} {T : List (List (List Nat))} {i : Nat} {M : List (List Value)} {v : Value} {w w' : World} (h : Rws w0 T i M v w) (hb : Below w.heap.size w w') : Rws w0 T i M v w' :=
  ⟨h.own.grow hb, h.len, fun j hj => by
    obtain ⟨v0, v1, v2, e, a, b, c⟩ := h.row j hj
    exact ⟨v0, v1, v2, e, a.on hb, b.on hb, c.on hb⟩, h.ne, h.hi⟩
theorem Rws.set {w0 : World} {T : List (List (List Nat))} {i : Nat} {M : List (List Value)} {v : Value} {w : World} (h : Rws w0 T i M v w) {g : Nat} (h1 : w0.heap.size ≤ g) (h2 : g < w0.heap.size + 3) (k : Nat) (x : Value) : Rws w0 T i M v (w.setCell ⟨g, k, none⟩ x) :=
  ⟨h.own.kept (grown_set w g k x) (fun j e => by cases e; exact h1) (.inr fun e => by have := h.hi g e; omega), h.len, fun j hj => by
    obtain ⟨v0, v1, v2, e, a, b, c⟩ := h.row j hj
    exact ⟨v0, v1, v2, e, a.set h2 x, b.set h2 x, c.set h2 x⟩, h.ne, h.hi⟩
theorem Rws.tb {w0 : World} {T : List (List (List Nat))} {M : List (List Value)} {v : Value} {w : World} (h : Rws w0 T T.length M v w) :
    ∃ ao cap, v = .slice ao T.length cap ∧ T.length ≤ cap ∧ cap ≤ maxLen ∧ (ao = none → cap = 0) ∧ TbAt w ao T := by
  obtain ⟨ao, cap, e, h1, h2, h3, h4, -⟩ := ownsR_at h.own.ok h.own.own
  rw [h.len] at e h1
  refine ⟨ao, cap, e, h1, h2, h4, fun i hi => ?_⟩
  obtain ⟨v0, v1, v2, em, a, b, c⟩ := h.row i hi
  obtain ⟨g, o, eg, hg, hc⟩ := h3 i _ em
  exact ⟨g, o, v0, v1, v2, eg, hg, hc 0 _ rfl, hc 1 _ rfl, hc 2 _ rfl, a.at_, b.at_, c.at_⟩
/-- one more row -/
theorem Rws.push {w0 : World} {T : List (List (List Nat))} {i : Nat} {M : List (List Value)} {v v' : Value} {w u w' : World} {v0 v1 v2 : Value} (h : Rws w0 T i M v w) (hs : w0.heap.size + 3 ≤ w.heap.size)
    (hu : Below w.heap.size w u) (c0 : CpAt w.heap.size u v0 (cfT T i 0)) (c1 : CpAt w.heap.size u v1 (cfT T i 1)) (c2 : CpAt w.heap.size u v2 (cfT T i 2))
    (hown : OwnR 69 3 w0.heap.size w0 (M ++ [[v0, v1, v2]]) v' w') (hg : (u.alloc (.cells [v0, v1, v2].toArray 69)).grownBy w' v.ownBlock) (hb : v'.ownBlock = v.ownBlock ∨ v'.ownBlock = some (u.heap.size + 1)) :
    Rws w0 T (i + 1) (M ++ [[v0, v1, v2]]) v' w' := by
  have ba := (Below.refl u.heap.size u).alloc (Nat.le_refl _) (.cells [v0, v1, v2].toArray 69)
  have hU := (h.on hu).on ba
  have lt := h.own.lt
  have key : ∀ {x : Value} {L : List Nat} {B : Nat}, CpAt B u x L → (0 < L.length → v.ownBlock = none ∨ x.ownBlock ≠ v.ownBlock) → CpAt B w' x L := fun {x L B} c n =>
    ⟨(c.at_.on ba).grown hg (fun hl e => by
      rcases n hl with n | n
      · -- nothing of the call's own
        have lx := c.at_.lt hl
        rw [n] at e
        obtain ⟨ao, cap, rfl, k1, k2, k3, k4⟩ := c.at_
        obtain ⟨b, o, eb, -⟩ := fs_cell k4 hl
        subst eb
        simp [Value.ownBlock] at e
      · exact n e), c.out⟩
  have new : ∀ {x : Value} {L : List Nat}, CpAt w.heap.size u x L → (0 < L.length → v.ownBlock = none ∨ x.ownBlock ≠ v.ownBlock) := fun {x L} c hl => by
    by_cases z : v.ownBlock = none
    · exact .inl z
    · right
      intro e
      obtain ⟨b, hb'⟩ := Option.ne_none_iff_exists'.1 z
      have a := (lt b hb').2
      have := c.out hl b (by rw [e]; exact hb')
      omega
  have nw : ∀ {x : Value} {L : List Nat}, FsAt u x L → 0 < L.length → x.ownBlock ≠ some (u.heap.size + 1) := fun {x L} c hl e => by
    have := c.lt hl _ e
    omega
  have nx : ∀ {x : Value} {L : List Nat}, FsAt u x L → (0 < L.length → v.ownBlock = none ∨ x.ownBlock ≠ v.ownBlock) → 0 < L.length → v'.ownBlock = none ∨ x.ownBlock ≠ v'.ownBlock := fun {x L} c n hl => by
    rcases hb with e | e
    · rw [e]; exact n hl
    · right; rw [e]; exact nw c hl
  have getL : ∀ {j : Nat}, j < i → (M ++ [[v0, v1, v2]])[j]? = M[j]? := fun hj => List.getElem?_append_left (by rw [h.len]; exact hj)
  have getN : (M ++ [[v0, v1, v2]])[i]? = some [v0, v1, v2] := by
    rw [List.getElem?_append_right (by rw [h.len]; exact Nat.le_refl _), h.len, Nat.sub_self]; rfl
  refine ⟨hown, by simp [h.len], fun j hj => ?_, fun j hj k x hx hl => ?_, fun b e => ?_⟩
  · by_cases q : j < i
    · obtain ⟨x0, x1, x2, e, a, b, c⟩ := (h.on hu).row j q
      have em : M.getD j [] = [x0, x1, x2] := by simp [List.getD, e]
      have n := h.ne j q
      rw [em] at n
      exact ⟨x0, x1, x2, by rw [getL q]; exact e, key a (n 0 x0 rfl), key b (n 1 x1 rfl), key c (n 2 x2 rfl)⟩
    · have e : j = i := by omega
      subst e
      exact ⟨v0, v1, v2, getN, key (c0.mono hs) (new c0), key (c1.mono hs) (new c1), key (c2.mono hs) (new c2)⟩
  · by_cases q : j < i
    · have em : (M ++ [[v0, v1, v2]]).getD j [] = M.getD j [] := by simp only [List.getD, getL q]
      rw [em] at hx
      obtain ⟨x0, x1, x2, e, a, b, c⟩ := (h.on hu).row j q
      have e3 : M.getD j [] = [x0, x1, x2] := by simp [List.getD, e]
      have n := h.ne j q k x hx
      rw [e3] at hx
      have hk := (List.getElem?_eq_some_iff.1 hx).1
      have hk3 : k = 0 ∨ k = 1 ∨ k = 2 := by simp at hk; omega
      rcases hk3 with rfl | rfl | rfl
      · simp at hx; subst hx; exact nx a.at_ n hl
      · simp at hx; subst hx; exact nx b.at_ n hl
      · simp at hx; subst hx; exact nx c.at_ n hl
    · have e : j = i := by omega
      subst e
      have em : (M ++ [[v0, v1, v2]]).getD j [] = [v0, v1, v2] := by simp only [List.getD, getN]; rfl
      rw [em] at hx
      have hk := (List.getElem?_eq_some_iff.1 hx).1
      have hk3 : k = 0 ∨ k = 1 ∨ k = 2 := by simp at hk; omega
      rcases hk3 with rfl | rfl | rfl
      · simp at hx; subst hx; exact nx c0.at_ (new c0) hl
      · simp at hx; subst hx; exact nx c1.at_ (new c1) hl
      · simp at hx; subst hx; exact nx c2.at_ (new c2) hl
  · rcases hb with q | q
    · rw [q] at e; exact h.hi b e
    · rw [q] at e
      cases e
      have := hu.size
      omega
end Go.Proofs.Ytnmadknpkhaolaa

namespace Go.Proofs.Ytnmadknpkhaolaa
open Go.ChangeShapes Go.WideShapes Go.ChangeAt Go.RowKit Ieee.Own

structure TbSz (t : Tb) : Prop where
  n : t.rows.length * 72 ≤ 140737488351232
  l : ∀ i k, k < 3 → (cfT t.rows i k).length * 4 ≤ 140737488351232
theorem own_any {e : TypeId} {m base : Nat} {w w' : World} {M : List (List Value)} {v : Value} (h : OwnR e m base w M v w') : ∃ ao n c, v = .slice ao n c := by
  rcases h.own.2 with ⟨hv, _⟩ | ⟨g, cap, cur, hv, _⟩
  · exact ⟨_, _, _, hv⟩
  · exact ⟨_, _, _, hv⟩
theorem copied_cp {w w' : World} {ao : Option Addr} {cap B : Nat} {L : List Nat} (h : CopiedR w w' ao L.length cap 1 (L.map fsC)) (hB : B ≤ w.heap.size) : CpAt B w' (.slice ao L.length cap) L := by
  refine ⟨⟨ao, cap, rfl, h.room, h.most, h.bare, h.at_⟩, fun hl b e => ?_⟩
  obtain ⟨g, o, eg, -⟩ := fs_cell h.at_ hl
  subst eg
  simp only [Value.ownBlock, Option.some.injEq] at e
  subst e
  exact Nat.le_trans hB (h.own _ _ rfl).2.1
theorem list3 {α : Type} {us : List α} (h : us.length = 3) : ∃ a b c, us = [a, b, c] := by
  match us, h with
  | [a, b, c], _ => exact ⟨a, b, c, rfl⟩
set_option maxHeartbeats 4000000 in
set_option maxRecDepth 100000 in
theorem table_run {t : Tb} (ao : Option Addr) (cap : Nat) (w : World) (hS : TbSz t) (ha : TbAt w ao t.rows) :
    Calls Try.prog 19 #[tbV t ao cap] w fun e w' => ∃ ao' cap', e = .returned (tbV t ao' cap') ∧ t.rows.length ≤ cap' ∧ cap' ≤ maxLen ∧ (ao' = none → cap' = 0) ∧ TbAt w' ao' t.rows ∧ Below w.heap.size w w' := by
  obtain ⟨n, hn⟩ : ∃ n, n = t.rows.length := ⟨_, rfl⟩
  unfold tbV
  rw [← hn]
  obtain ⟨fr, hfr⟩ : ∃ fr, fr = t.fr := ⟨_, rfl⟩
  obtain ⟨st, hst'⟩ : ∃ st, st = t.st := ⟨_, rfl⟩
  rw [← hfr, ← hst']
  have hSn : n * 72 ≤ 140737488351232 := by rw [hn]; exact hS.n
  have hSl := Lib.hid hS.l
  have K := kv3 w 34 34 34 [.float .f64 fr, .float .f64 st, .slice ao n cap] [.float .f64 0, .float .f64 0, .slice none 0 0] [.float .f64 fr, .float .f64 st, .slice none 0 0]
  have hb0 : w.heap.size ≤ (((w.alloc (objV 34 [.float .f64 fr, .float .f64 st, .slice ao n cap])).alloc (objV 34 [.float .f64 0, .float .f64 0, .slice none 0 0])).alloc (objV 34 [.float .f64 fr, .float .f64 st, .slice none 0 0])).heap.size := K.old.size
  have R0 := Lib.hid (Rws.start w _ t.rows K.old hb0)
  simp only [objV] at K R0
  have k0 := (K.at_ 0 rfl).at_ 0 _ rfl
  have k1 := (K.at_ 0 rfl).at_ 1 _ rfl
  have k2 := (K.at_ 0 rfl).at_ 2 _ rfl
  replace K := Lib.hid K
  replace hn := Lib.hid hn
  replace ha := Lib.hid ha
  have hst := @fstore
  clear hS hb0 hfr hst'
  go_enter Try.func19, Try.ntmps19
  go_wp2_with fail
  clear k0 k1 k2
  go_loopw [4] (fun iv wr => ∃ (i : Nat) (M : List (List Value)) (v : Value), i ≤ n ∧ iv = .int .i64 i ∧ Rws w t.rows i M v wr ∧ BV wr w.heap.size [.float .f64 fr, .float .f64 st, .slice ao n cap] ∧ BV wr (w.heap.size + 1) [.float .f64 0, .float .f64 0, .slice none 0 0] ∧ BV wr (w.heap.size + 1 + 1) [.float .f64 fr, .float .f64 st, v]) (fun iv _ => n - (intOf iv).toNat)
  case atStart => exact ⟨0, [], _, Nat.zero_le _, rfl, R0.out, K.out.at_ 0 rfl, K.out.at_ 1 rfl, K.out.at_ 2 rfl⟩
  case round =>
    obtain ⟨i, M, v, hi, rfl, RW, B1, B2, B3⟩ := hrel
    have hb : Below w.heap.size w wr := RW.own.old
    clear K R0
    by_cases hlt : i < n
    · have hil : i < t.rows.length := by have := hn.out; omega
      have hi2 : (i : Int) < (n : Int) := by omega
      have k2 := B1.at_ 2 _ rfl
      have R1 := Lib.hid (BV.box wr 69 [.slice none 0 0, .slice none 0 0, .slice none 0 0])
      have h0 := Lib.hid ((Below.refl wr.heap.size wr).alloc (Nat.le_refl _) (objV 69 [.slice none 0 0, .slice none 0 0, .slice none 0 0]))
      simp only [objV] at R1 h0
      replace RW := Lib.hid RW
      replace B1 := Lib.hid B1
      replace B2 := Lib.hid B2
      replace B3 := Lib.hid B3
      replace hb := Lib.hid hb
      go_wp2_with fail
      replace B1 := B1.out
      replace hb := hb.out
      clear k2
      generalize wr = wq at *
      go_loopw [6] (fun kv wr2 => ∃ (k : Nat) (us : List Value), k ≤ 3 ∧ kv = .int .i64 k ∧ us.length = 3 ∧ BV wr2 wq.heap.size us ∧ (∀ q, q < k → ∃ y, us[q]? = some y ∧ CpAt (wq.heap.size + 1) wr2 y (cfT t.rows i q)) ∧ Below wq.heap.size wq wr2) (fun kv _ => 3 - (intOf kv).toNat)
      case atStart => exact ⟨0, _, by omega, rfl, rfl, R1.out, fun q hq => by omega, h0.out⟩
      case round =>
        obtain ⟨k, us, hk, rfl, hus, R, hq, h2⟩ := hrel
        clear R1 h0
        have hk' : k = 0 ∨ k = 1 ∨ k = 2 ∨ k = 3 := by omega
        rcases hk' with hk' | hk' | hk' | hk'
        · obtain rfl : k = 0 := by omega
          have B1w := (B1.on h2).on (((Below.refl _ wr).alloc (Nat.le_refl _) (.cells #[] 57)))
          have k2 := B1w.at_ 2 _ rfl
          have bw := hb.trans (h2.mono hb.size)
          obtain ⟨b, o, v0, v1, v2, rfl, hbl, c0, c1, c2, f0, f1, f2⟩ := (ha.out.on bw) i hil
          have ba := (Below.refl wr.heap.size wr).alloc (Nat.le_refl _) (.cells #[] 57)
          have cc := (ba.cell (p := ⟨b, o + i * 3, none⟩) hbl).trans c0
          obtain ⟨ak, pk, rfl, m1, m2, m3, m4⟩ := f0
          have m5 := m4.on ba
          obtain ⟨L, hL⟩ : ∃ L, L = cfT t.rows i 0 := ⟨_, rfl⟩
          have hr4 : L.length * 4 ≤ 140737488351232 := by rw [hL]; exact hSl.out i 0 (by omega)
          rw [← hL] at cc m1 m4 m5
          have hmx : L.length ≤ maxLen := Nat.le_trans m1 m2
          generalize hl : L.length = l at *
          have m4' := Lib.hid m4
          have hhl : Hid (l = (L.map fsC).length) := Lib.hid (by rw [List.length_map]; exact hl.symm)
          replace hL := Lib.hid hL
          replace hl := Lib.hid hl
          replace B1w := Lib.hid B1w
          replace R := Lib.hid R
          replace hq := Lib.hid hq
          replace h2 := Lib.hid h2
          clear c0 c1 c2 m4 m5 ba bw hbl m1
          go_wp2_with (at_builtin; refine wpList_copyR rec32 rfl _ _ rfl rfl ak l pk (L.map fsC) rfl hhl.out m3 m4'.out (rows_fs L) hmx hr4 ?_)
          intro ao' cap' w' hC
          rw [← hl.out] at hC
          have hsz : wq.heap.size + 1 ≤ wr.heap.size := by have := R.out.lt; omega
          have cp := copied_cp hC hsz
          rw [hl.out] at cp
          have hw2 := hC.old
          have R2 := R.out.on hw2
          obtain ⟨x, hx⟩ : ∃ x, us[0]? = some x := ⟨us[0]'(by omega), List.getElem?_eq_getElem (by omega)⟩
          have d0 := R2.at_ 0 _ hx
          have d1 := R2.fr 0 _ hx
          have R3 := Lib.hid (R2.set1 hx (.slice ao' l cap'))
          have hB3 := Lib.hid ((h2.out.trans (hw2.mono h2.out.size)).setCell (p := ⟨wq.heap.size, 0, none⟩) (Nat.le_refl _) (.slice ao' l cap'))
          have hq3 : Hid (∀ q, q < 0 + 1 → ∃ y, (us.set 0 (.slice ao' l cap'))[q]? = some y ∧ CpAt (wq.heap.size + 1) (w'.setCell ⟨wq.heap.size, 0, none⟩ (.slice ao' l cap')) y (cfT t.rows i q)) := Lib.hid fun q hq' => by
            by_cases e : q < 0
            · obtain ⟨y, e1, e2⟩ := hq.out q e
              exact ⟨y, by rw [List.getElem?_set_ne (by omega)]; exact e1, (e2.on hw2).set (by omega) _⟩
            · have e : q = 0 := by omega
              subst e
              exact ⟨_, List.getElem?_set_self (by omega), by rw [← hL.out]; exact cp.set (by omega) _⟩
          have hus' : Hid ((us.set 0 (.slice ao' l cap')).length = 3) := Lib.hid (by simp [hus])
          clear hC hsz cp hw2 R2 hx k2 cc hq B1w R h2 m4' hhl hL hl m2 m3 hr4 hmx
          go_wp2_with fail
          go_roundw
          case rel => exact ⟨0 + 1, _, by omega, by go_num, hus'.out, R3.out, hq3.out, hB3.out⟩
          case measure => first | (simp [intOf]; done) | (simp [intOf]; omega)
        · obtain rfl : k = 1 := by omega
          have B1w := (B1.on h2).on (((Below.refl _ wr).alloc (Nat.le_refl _) (.cells #[] 57)))
          have k2 := B1w.at_ 2 _ rfl
          have bw := hb.trans (h2.mono hb.size)
          obtain ⟨b, o, v0, v1, v2, rfl, hbl, c0, c1, c2, f0, f1, f2⟩ := (ha.out.on bw) i hil
          have ba := (Below.refl wr.heap.size wr).alloc (Nat.le_refl _) (.cells #[] 57)
          have cc := (ba.cell (p := ⟨b, o + i * 3 + 1, none⟩) hbl).trans c1
          obtain ⟨ak, pk, rfl, m1, m2, m3, m4⟩ := f1
          have m5 := m4.on ba
          obtain ⟨L, hL⟩ : ∃ L, L = cfT t.rows i 1 := ⟨_, rfl⟩
          have hr4 : L.length * 4 ≤ 140737488351232 := by rw [hL]; exact hSl.out i 1 (by omega)
          rw [← hL] at cc m1 m4 m5
          have hmx : L.length ≤ maxLen := Nat.le_trans m1 m2
          generalize hl : L.length = l at *
          have m4' := Lib.hid m4
          have hhl : Hid (l = (L.map fsC).length) := Lib.hid (by rw [List.length_map]; exact hl.symm)
          replace hL := Lib.hid hL
          replace hl := Lib.hid hl
          replace B1w := Lib.hid B1w
          replace R := Lib.hid R
          replace hq := Lib.hid hq
          replace h2 := Lib.hid h2
          clear c0 c1 c2 m4 m5 ba bw hbl m1
          go_wp2_with (at_builtin; refine wpList_copyR rec32 rfl _ _ rfl rfl ak l pk (L.map fsC) rfl hhl.out m3 m4'.out (rows_fs L) hmx hr4 ?_)
          intro ao' cap' w' hC
          rw [← hl.out] at hC
          have hsz : wq.heap.size + 1 ≤ wr.heap.size := by have := R.out.lt; omega
          have cp := copied_cp hC hsz
          rw [hl.out] at cp
          have hw2 := hC.old
          have R2 := R.out.on hw2
          obtain ⟨x, hx⟩ : ∃ x, us[1]? = some x := ⟨us[1]'(by omega), List.getElem?_eq_getElem (by omega)⟩
          have d0 := R2.at_ 1 _ hx
          have d1 := R2.fr 1 _ hx
          have R3 := Lib.hid (R2.set1 hx (.slice ao' l cap'))
          have hB3 := Lib.hid ((h2.out.trans (hw2.mono h2.out.size)).setCell (p := ⟨wq.heap.size, 1, none⟩) (Nat.le_refl _) (.slice ao' l cap'))
          have hq3 : Hid (∀ q, q < 1 + 1 → ∃ y, (us.set 1 (.slice ao' l cap'))[q]? = some y ∧ CpAt (wq.heap.size + 1) (w'.setCell ⟨wq.heap.size, 1, none⟩ (.slice ao' l cap')) y (cfT t.rows i q)) := Lib.hid fun q hq' => by
            by_cases e : q < 1
            · obtain ⟨y, e1, e2⟩ := hq.out q e
              exact ⟨y, by rw [List.getElem?_set_ne (by omega)]; exact e1, (e2.on hw2).set (by omega) _⟩
            · have e : q = 1 := by omega
              subst e
              exact ⟨_, List.getElem?_set_self (by omega), by rw [← hL.out]; exact cp.set (by omega) _⟩
          have hus' : Hid ((us.set 1 (.slice ao' l cap')).length = 3) := Lib.hid (by simp [hus])
          clear hC hsz cp hw2 R2 hx k2 cc hq B1w R h2 m4' hhl hL hl m2 m3 hr4 hmx
          go_wp2_with fail
          go_roundw
          case rel => exact ⟨1 + 1, _, by omega, by go_num, hus'.out, R3.out, hq3.out, hB3.out⟩
          case measure => first | (simp [intOf]; done) | (simp [intOf]; omega)
        · obtain rfl : k = 2 := by omega
          have B1w := (B1.on h2).on (((Below.refl _ wr).alloc (Nat.le_refl _) (.cells #[] 57)))
          have k2 := B1w.at_ 2 _ rfl
          have bw := hb.trans (h2.mono hb.size)
          obtain ⟨b, o, v0, v1, v2, rfl, hbl, c0, c1, c2, f0, f1, f2⟩ := (ha.out.on bw) i hil
          have ba := (Below.refl wr.heap.size wr).alloc (Nat.le_refl _) (.cells #[] 57)
          have cc := (ba.cell (p := ⟨b, o + i * 3 + 2, none⟩) hbl).trans c2
          obtain ⟨ak, pk, rfl, m1, m2, m3, m4⟩ := f2
          have m5 := m4.on ba
          obtain ⟨L, hL⟩ : ∃ L, L = cfT t.rows i 2 := ⟨_, rfl⟩
          have hr4 : L.length * 4 ≤ 140737488351232 := by rw [hL]; exact hSl.out i 2 (by omega)
          rw [← hL] at cc m1 m4 m5
          have hmx : L.length ≤ maxLen := Nat.le_trans m1 m2
          generalize hl : L.length = l at *
          have m4' := Lib.hid m4
          have hhl : Hid (l = (L.map fsC).length) := Lib.hid (by rw [List.length_map]; exact hl.symm)
          replace hL := Lib.hid hL
          replace hl := Lib.hid hl
          replace B1w := Lib.hid B1w
          replace R := Lib.hid R
          replace hq := Lib.hid hq
          replace h2 := Lib.hid h2
          clear c0 c1 c2 m4 m5 ba bw hbl m1
          go_wp2_with (at_builtin; refine wpList_copyR rec32 rfl _ _ rfl rfl ak l pk (L.map fsC) rfl hhl.out m3 m4'.out (rows_fs L) hmx hr4 ?_)
          intro ao' cap' w' hC
          rw [← hl.out] at hC
          have hsz : wq.heap.size + 1 ≤ wr.heap.size := by have := R.out.lt; omega
          have cp := copied_cp hC hsz
          rw [hl.out] at cp
          have hw2 := hC.old
          have R2 := R.out.on hw2
          obtain ⟨x, hx⟩ : ∃ x, us[2]? = some x := ⟨us[2]'(by omega), List.getElem?_eq_getElem (by omega)⟩
          have d0 := R2.at_ 2 _ hx
          have d1 := R2.fr 2 _ hx
          have R3 := Lib.hid (R2.set1 hx (.slice ao' l cap'))
          have hB3 := Lib.hid ((h2.out.trans (hw2.mono h2.out.size)).setCell (p := ⟨wq.heap.size, 2, none⟩) (Nat.le_refl _) (.slice ao' l cap'))
          have hq3 : Hid (∀ q, q < 2 + 1 → ∃ y, (us.set 2 (.slice ao' l cap'))[q]? = some y ∧ CpAt (wq.heap.size + 1) (w'.setCell ⟨wq.heap.size, 2, none⟩ (.slice ao' l cap')) y (cfT t.rows i q)) := Lib.hid fun q hq' => by
            by_cases e : q < 2
            · obtain ⟨y, e1, e2⟩ := hq.out q e
              exact ⟨y, by rw [List.getElem?_set_ne (by omega)]; exact e1, (e2.on hw2).set (by omega) _⟩
            · have e : q = 2 := by omega
              subst e
              exact ⟨_, List.getElem?_set_self (by omega), by rw [← hL.out]; exact cp.set (by omega) _⟩
          have hus' : Hid ((us.set 2 (.slice ao' l cap')).length = 3) := Lib.hid (by simp [hus])
          clear hC hsz cp hw2 R2 hx k2 cc hq B1w R h2 m4' hhl hL hl m2 m3 hr4 hmx
          go_wp2_with fail
          go_roundw
          case rel => exact ⟨2 + 1, _, by omega, by go_num, hus'.out, R3.out, hq3.out, hB3.out⟩
          case measure => first | (simp [intOf]; done) | (simp [intOf]; omega)
        · obtain rfl : k = 3 := by omega
          obtain ⟨x0, e0, q0⟩ := hq 0 (by omega)
          obtain ⟨x1, e1, q1⟩ := hq 1 (by omega)
          obtain ⟨x2, e2, q2⟩ := hq 2 (by omega)
          obtain ⟨y0, y1, y2, rfl⟩ := list3 hus
          obtain rfl := Option.some.inj e0
          obtain rfl := Option.some.inj e1
          obtain rfl := Option.some.inj e2
          have Q0 := Lib.hid q0
          have Q1 := Lib.hid q1
          have Q2 := Lib.hid q2
          obtain ⟨a0, p0, rfl, -⟩ := q0.at_
          obtain ⟨a1, p1, rfl, -⟩ := q1.at_
          obtain ⟨a2, p2, rfl, -⟩ := q2.at_
          have rw2 := RW.out.on h2
          obtain ⟨av, nv, cv, rfl⟩ := own_any RW.out.own
          have d0 := R.at_ 0 _ rfl
          have d1 := R.at_ 1 _ rfl
          have d2 := R.at_ 2 _ rfl
          have B3w := B3.out.on h2
          have B1w := Lib.hid (B1.on h2)
          have B2w := Lib.hid (B2.out.on h2)
          have z2 := B3w.at_ 2 _ rfl
          have lM := RW.out.len
          have OWN := Lib.hid rw2.own
          have hlen : Hid ((M.length + 1) * 72 ≤ 140737488355328) := Lib.hid (by rw [lM]; omega)
          have hmx : Hid (M.length + 1 ≤ maxLen) := Lib.hid (by rw [lM]; unfold maxLen; omega)
          have hws : w.heap.size + 3 ≤ wq.heap.size := by have := B3.out.lt; omega
          have gne : Hid ((Value.slice av nv cv).ownBlock ≠ some (w.heap.size + 1 + 1)) := Lib.hid fun e => by have := RW.out.hi _ e; omega
          have gne1 : Hid ((Value.slice av nv cv).ownBlock ≠ some w.heap.size) := Lib.hid fun e => by have := RW.out.hi _ e; omega
          have gne2 : Hid ((Value.slice av nv cv).ownBlock ≠ some (w.heap.size + 1)) := Lib.hid fun e => by have := RW.out.hi _ e; omega
          generalize hl0 : (cfT t.rows i 0).length = l0 at *
          generalize hl1 : (cfT t.rows i 1).length = l1 at *
          generalize hl2 : (cfT t.rows i 2).length = l2 at *
          replace B3w := Lib.hid B3w
          replace h2 := Lib.hid h2
          replace hws := Lib.hid hws
          replace B1 := Lib.hid B1
          clear e0 e1 e2 hq q0 q1 q2 R hus rw2 lM B1 hl0 hl1 hl2
          go_wp2_with (at_builtin; refine wpList_pushR2 recRw rfl _ _ rfl _ M rfl OWN.out [.slice a0 l0 p0, .slice a1 l1 p1, .slice a2 l2 p2] rfl (by intro u hu; simp only [List.mem_cons, List.not_mem_nil, or_false] at hu; rcases hu with rfl | rfl | rfl <;> rfl) rfl hlen.out hmx.out ?_)
          intro v' w' o1 g1 h4
          have P := RW.out.push hws.out h2.out (Q0.out.mono (by omega)) (Q1.out.mono (by omega)) (Q2.out.mono (by omega)) o1 g1 h4
          obtain ⟨an, nn', cn, rfl⟩ := own_any o1
          have al := (Below.refl wr.heap.size wr).alloc (Nat.le_refl _) (.cells [.slice a0 l0 p0, .slice a1 l1 p1, .slice a2 l2 p2].toArray 69)
          have B3x := (B3w.out.on al).grown g1 gne.out
          have B1x := (B1w.out.on al).grown g1 gne1.out
          have B2x := (B2w.out.on al).grown g1 gne2.out
          have y2 := B3x.at_ 2 _ rfl
          have y3 := B3x.fr 2 _ rfl
          have FIN : Hid (Rws w t.rows (i + 1) (M ++ [[.slice a0 l0 p0, .slice a1 l1 p1, .slice a2 l2 p2]]) (.slice an nn' cn) (w'.setCell ⟨w.heap.size + 1 + 1, 2, none⟩ (.slice an nn' cn)) ∧ BV (w'.setCell ⟨w.heap.size + 1 + 1, 2, none⟩ (.slice an nn' cn)) w.heap.size [.float .f64 fr, .float .f64 st, .slice ao n cap] ∧ BV (w'.setCell ⟨w.heap.size + 1 + 1, 2, none⟩ (.slice an nn' cn)) (w.heap.size + 1) [.float .f64 0, .float .f64 0, .slice none 0 0] ∧ BV (w'.setCell ⟨w.heap.size + 1 + 1, 2, none⟩ (.slice an nn' cn)) (w.heap.size + 1 + 1) [.float .f64 fr, .float .f64 st, .slice an nn' cn]) :=
            Lib.hid ⟨P.set (by omega) (by omega) 2 _, B1x.other1 (by omega) _, B2x.other1 (by omega) _, B3x.set1 rfl _⟩
          clear P o1 g1 h4 al B3x B1x B2x d0 d1 d2 z2 Q0 Q1 Q2 OWN hlen hmx gne gne1 gne2 h2 B1w B2w B3w RW B2 B3
          go_wp2_with fail
          go_roundw
          case rel => exact ⟨i + 1, _, _, hlt, by go_num, FIN.out⟩
          case measure => simp [intOf]; omega
    · obtain rfl : i = n := by omega
      have k2 := B1.at_ 2 _ rfl
      have RW' := RW
      rw [hn.out] at RW'
      obtain ⟨ao', cap', rfl, r1, r2, r3, -⟩ := RW'.tb
      have z0 := B3.at_ 0 _ rfl
      have z1 := B3.at_ 1 _ rfl
      have z2 := B3.at_ 2 _ rfl
      have y0 := B2.at_ 0 _ rfl
      have y1 := B2.at_ 1 _ rfl
      have y2 := B2.at_ 2 _ rfl
      have x0 := B2.fr 0 _ rfl
      have x1 := B2.fr 1 _ rfl
      have x2 := B2.fr 2 _ rfl
      have S := ((RW'.set (g := w.heap.size + 1) (by omega) (by omega) 0 (.float .f64 fr)).set (g := w.heap.size + 1) (by omega) (by omega) 1 (.float .f64 st)).set (g := w.heap.size + 1) (by omega) (by omega) 2 (.slice ao' t.rows.length cap')
      have hbS := Lib.hid S.own.old
      obtain ⟨ao2, cap2, ee, -, -, -, TT⟩ := S.tb
      simp only [Value.slice.injEq, true_and] at ee
      obtain ⟨rfl, rfl⟩ := ee
      rw [← hn.out] at z2 r1
      rw [← hn.out] at hbS TT
      replace TT := Lib.hid TT
      replace RW := Lib.hid RW
      replace RW' := Lib.hid RW'
      replace B1 := Lib.hid B1
      replace B2 := Lib.hid B2
      replace B3 := Lib.hid B3
      replace hb := Lib.hid hb
      clear S
      go_wp2_with fail
      (try simp only [Exit.inBlock, Exit.then])
      refine bodyPost_ret (v := .agg #[.float .f64 fr, .float .f64 st, .slice ao' i cap']) ?_ rfl ⟨ao', cap', rfl, r1, r2, r3, TT.out, hbS.out⟩
      rw [results_cell1 rfl]; go_simp
end Go.Proofs.Ytnmadknpkhaolaa

namespace Go.Proofs.Ytnmadknpkhaolaa
open Go.ChangeShapes Go.WideShapes Go.ChangeAt Go.RowKit Go.Deep Ieee.Own

section
variable {H : Type} {enc : TypeId × Value → H}
theorem float_cell32 {P : Program} {w : World} {base : Nat} {spare : Nat → Bool} {held : Bool} {n : Nat} {e : TypeId} {v : Value} {x : DataW H × List MemPlace}
    (he : P.underlying e = some (.float .f32)) (h : DataW.trod enc P w base spare held n e [v] = some x) : ∃ b, v = .float .f32 b ∧ b < 4294967296 := by
  cases n with
  | zero => simp [DataW.trod] at h
  | succ n =>
    simp only [DataW.trod, he] at h
    cases v with
    | float k b =>
      cases k with
      | f32 => exact ⟨b, rfl, by
          by_cases hw : (Lit.float .f32 b).wf = true
          · simpa only [Lit.wf, decide_eq_true_eq] using hw
          · simp [hw] at h⟩
      | f64 => simp at h
    | _ => simp at h
/-- a list's data -/
def LD (p : DataW H) (L : List Nat) : Prop := (L = [] ∧ p = .nil) ∨ ∃ es sp, p = .slice es sp ∧ es.length = L.length
def TD (d : DataW H) (T : List (List (List Nat))) : Prop := (T = [] ∧ d = .nil) ∨ ∃ es sp, d = .slice es sp ∧ es.length = T.length ∧ ∀ i, i < T.length → ∃ p0 p1 p2, es[i]? = some (.agg [p0, p1, p2]) ∧ LD p0 (cfT T i 0) ∧ LD p1 (cfT T i 1) ∧ LD p2 (cfT T i 2)
set_option maxRecDepth 100000 in
theorem cells32 : Try.prog.cellsOf 57 = 1 := by kernel_rfl
set_option maxRecDepth 100000 in
theorem cellsFs : Try.prog.cellsOf 53 = 1 := by kernel_rfl
set_option maxRecDepth 100000 in
theorem cellsRw : Try.prog.cellsOf 69 = 3 := by kernel_rfl
set_option maxRecDepth 100000 in
theorem bytes32 : Try.prog.bytesOf 57 = 4 := by kernel_rfl
set_option maxRecDepth 100000 in
theorem bytesRw : Try.prog.bytesOf 69 = 72 := by kernel_rfl
set_option maxRecDepth 100000 in
theorem open_fs {W : World} {n : Nat} {c : Value} {y : DataW H × List MemPlace} (h : DataW.trod enc Try.prog W 0 (fun _ => true) true n 53 [c] = some y) : ∃ L, FsAt W c L ∧ Ws32 L ∧ LD y.1 L := by
  rcases open_slice1 Try.underlying53 cells32 h with ⟨h1, h2⟩ | ⟨a, len, cap, m, n, V, D, Pl, h1, hb, hl, hm, hmm, hx, hcell⟩
  · simp at h1
    subst h1
    refine ⟨[], ⟨none, 0, rfl, Nat.le_refl _, by decide, fun _ => rfl, fun j r hj => by simp at hj⟩, (fun x hx => (by cases hx)), .inl ⟨rfl, by rw [h2]⟩⟩
  · simp at h1
    subst h1
    simp only [if_true] at hmm
    subst hmm
    obtain ⟨F, hF⟩ := Deep.choose_lt (n := m) (p := fun i b => V i = .float .f32 b ∧ b < 4294967296) (fun i hi => float_cell32 Try.underlying57 (hcell i hi).2)
    have hl0 : ((List.range len).map F).length = len := by simp
    refine ⟨(List.range len).map F, ⟨some a, m, by rw [hl0], by rw [hl0]; exact hl, hm, (fun e => nomatch e), fun j r hj => ?_⟩, ?_, .inr ⟨(List.range len).map D, _, congrArg Prod.fst hx, by simp⟩⟩
    · have hjl : j < len := by have := (List.getElem?_eq_some_iff.1 hj).1; simpa using this
      have hr : r = fsC (F j) := by
        have e : (((List.range len).map F).map fsC)[j]? = some (fsC (F j)) := by simp [hjl]
        rw [e] at hj
        exact (Option.some.inj hj).symm
      subst hr
      have hc := (hcell j (by omega)).1
      obtain ⟨b, o, s⟩ := a
      have hsp : s = none := by simpa [Addr.add] using World.cell?_spot (hcell 0 (by omega)).1
      subst hsp
      rw [add_plain] at hc
      refine ⟨b, o, rfl, World.block_lt_of_cell? W _ hc, fun k u hu => ?_⟩
      have hk : k = 0 := by
        have := (List.getElem?_eq_some_iff.1 hu).1
        simp [fsC] at this
        exact this
      subst hk
      have hu' : u = .float .f32 (F j) := by simp [fsC] at hu; simpa using hu.symm
      subst hu'
      rw [Nat.mul_one, Nat.add_zero, hc, (hF j (by omega)).1]
    · intro x hx
      obtain ⟨i, hi, rfl⟩ := List.mem_map.1 hx
      exact (hF i (by simp at hi; omega)).2
set_option maxRecDepth 100000 in
theorem open_row {W : World} {n : Nat} {cs : List Value} {y : DataW H × List MemPlace} (hl : cs.length = 3) (h : DataW.trod enc Try.prog W 0 (fun _ => true) true n 69 cs = some y) :
    ∃ v0 v1 v2 L0 L1 L2 p0 p1 p2, cs = [v0, v1, v2] ∧ FsAt W v0 L0 ∧ FsAt W v1 L1 ∧ FsAt W v2 L2 ∧ Ws32 L0 ∧ Ws32 L1 ∧ Ws32 L2 ∧ y.1 = .agg [p0, p1, p2] ∧ LD p0 L0 ∧ LD p1 L1 ∧ LD p2 L2 := by
  obtain ⟨v0, v1, v2, rfl⟩ := list3 hl
  obtain ⟨xs, m, -, hx, -, hlen, hg⟩ := DataW.trod_array Try.underlying69 h
  rw [cellsFs] at hg
  match xs, hlen with
  | [y0, y1, y2], _ =>
    have g0 : DataW.trod enc Try.prog W 0 (fun _ => true) true m 53 [v0] = some y0 := by simpa using hg 0 (by omega)
    have g1 : DataW.trod enc Try.prog W 0 (fun _ => true) true m 53 [v1] = some y1 := by simpa using hg 1 (by omega)
    have g2 : DataW.trod enc Try.prog W 0 (fun _ => true) true m 53 [v2] = some y2 := by simpa using hg 2 (by omega)
    obtain ⟨L0, a0, b0, c0⟩ := open_fs g0
    obtain ⟨L1, a1, b1, c1⟩ := open_fs g1
    obtain ⟨L2, a2, b2, c2⟩ := open_fs g2
    exact ⟨v0, v1, v2, L0, L1, L2, y0.1, y1.1, y2.1, rfl, a0, a1, a2, b0, b1, b2, by rw [hx]; rfl, c0, c1, c2⟩
structure RwG (W : World) (cs : List Value) (d : DataW H) (r : List (List Nat)) : Prop where
  ex : ∃ v0 v1 v2 L0 L1 L2 p0 p1 p2, cs = [v0, v1, v2] ∧ r = [L0, L1, L2] ∧ FsAt W v0 L0 ∧ FsAt W v1 L1 ∧ FsAt W v2 L2 ∧ Ws32 L0 ∧ Ws32 L1 ∧ Ws32 L2 ∧ d = .agg [p0, p1, p2] ∧ LD p0 L0 ∧ LD p1 L1 ∧ LD p2 L2
theorem cf_map {n i k : Nat} {F : Nat → List (List Nat)} (hi : i < n) : cfT ((List.range n).map F) i k = (F i).getD k [] := by
  unfold cfT
  simp [List.getD, hi]
theorem cf_out {T : List (List (List Nat))} {i k : Nat} (hi : ¬ i < T.length) : cfT T i k = [] := by
  unfold cfT
  simp [List.getD, List.getElem?_eq_none (show T.length ≤ i by omega)]
set_option maxRecDepth 100000 in
theorem open_rws {W : World} {n : Nat} {c : Value} {y : DataW H × List MemPlace} (h : DataW.trod enc Try.prog W 0 (fun _ => true) true n 32 [c] = some y) :
    ∃ ao cap T, c = .slice ao (List.length T) cap ∧ T.length ≤ cap ∧ cap ≤ maxLen ∧ (ao = none → cap = 0) ∧ TbAt W ao T ∧ (∀ i k, Ws32 (cfT T i k)) ∧ TD y.1 T := by
  rcases open_slice Try.underlying32 h with ⟨h1, h2⟩ | ⟨a, len, cap, m, n, D, Pl, h1, hb, hl, hm, hmm, hx, hcell⟩
  · simp at h1
    subst h1
    exact ⟨none, 0, [], rfl, Nat.le_refl _, by decide, fun _ => rfl, fun i hi => by simp at hi, (fun i k => by rw [cf_out (by simp)]; exact fun x hx => (by cases hx)), .inl ⟨rfl, by rw [h2]⟩⟩
  · simp at h1
    subst h1
    simp only [if_true] at hmm
    subst hmm
    rw [cellsRw] at hcell
    obtain ⟨F, hF⟩ := Deep.choose_lt (n := m) (p := fun i (q : List Value × List (List Nat)) => W.cells? 0 (a.add (i * 3)) 3 = some q.1 ∧ RwG W q.1 (D i) q.2) (fun i hi => by
      obtain ⟨cs, h1, h2⟩ := hcell i hi
      have hl := (World.cells?_some h1).2.1
      obtain ⟨v0, v1, v2, L0, L1, L2, p0, p1, p2, e, a0, a1, a2, b0, b1, b2, ed, c0, c1, c2⟩ := open_row hl h2
      exact ⟨(cs, [L0, L1, L2]), h1, ⟨v0, v1, v2, L0, L1, L2, p0, p1, p2, e, rfl, a0, a1, a2, b0, b1, b2, ed, c0, c1, c2⟩⟩)
    have hl0 : ((List.range len).map fun i => (F i).2).length = len := by simp
    refine ⟨some a, m, (List.range len).map fun i => (F i).2, by rw [hl0], by rw [hl0]; exact hl, hm, (fun e => nomatch e), fun i hi => ?_, fun i k => ?_, .inr ⟨(List.range len).map D, _, congrArg Prod.fst hx, by simp, fun i hi => ?_⟩⟩
    · rw [hl0] at hi
      obtain ⟨h1, ⟨v0, v1, v2, L0, L1, L2, p0, p1, p2, e, er, a0, a1, a2, -⟩⟩ := hF i (by omega)
      rw [cf_map hi, cf_map hi, cf_map hi, er]
      rw [e] at h1
      obtain ⟨_, _, hat⟩ := World.cells?_some h1
      obtain ⟨b, o, s⟩ := a
      have hsp : s = none := by
        obtain ⟨g1, ⟨u0, u1, u2, -, -, -, -, -, -, e', -⟩⟩ := hF 0 (by omega)
        rw [e'] at g1
        obtain ⟨_, _, hat1⟩ := World.cells?_some g1
        have hc1 := hat1 0 (by omega)
        have hv1 : ([u0, u1, u2] : List Value)[0]? = some u0 := rfl
        rw [hv1] at hc1
        simpa [Addr.add] using World.cell?_spot hc1
      subst hsp
      have c0 := hat 0 (by omega)
      have c1 := hat 1 (by omega)
      have c2 := hat 2 (by omega)
      rw [ad_plainR, ad_plainR] at c0 c1 c2
      exact ⟨b, o, v0, v1, v2, rfl, World.block_lt_of_cell? W _ c0, c0, c1, c2, a0, a1, a2⟩
    · by_cases hi : i < len
      · obtain ⟨-, ⟨v0, v1, v2, L0, L1, L2, p0, p1, p2, e, er, -, -, -, b0, b1, b2, -⟩⟩ := hF i (by omega)
        rw [cf_map hi, er]
        match k with
        | 0 => exact b0
        | 1 => exact b1
        | 2 => exact b2
        | k + 3 => exact fun x hx => (by simp [List.getD] at hx)
      · rw [cf_out (by rw [hl0]; exact hi)]; exact fun x hx => (by cases hx)
    · rw [hl0] at hi
      obtain ⟨-, ⟨v0, v1, v2, L0, L1, L2, p0, p1, p2, e, er, -, -, -, -, -, -, ed, d0, d1, d2⟩⟩ := hF i (by omega)
      refine ⟨p0, p1, p2, by simp [hi, ed], ?_, ?_, ?_⟩
      · rw [cf_map hi, er]; exact d0
      · rw [cf_map hi, er]; exact d1
      · rw [cf_map hi, er]; exact d2
set_option maxRecDepth 100000 in
theorem open_tab {W : World} {r : Reach} {b0 : Nat} {v : Value} {d : DataW H} {p : List MemPlace}
    (hv : Value.okWide Try.prog W r b0 34 v) (h : DataW.Trod enc Try.prog W 0 (fun _ => true) true 34 v d p) :
    ∃ t ao cap d0 d1 d2, v = tbV t ao cap ∧ t.rows.length ≤ cap ∧ cap ≤ maxLen ∧ (ao = none → cap = 0) ∧ TbW t ∧ TbAt W ao t.rows ∧ d = .agg [d0, d1, d2] ∧ TD d2 t.rows := by
  obtain ⟨cs, rfl, hs⟩ := okWide_struct Try.underlying34 hv
  obtain ⟨c0, c1, c2, rfl⟩ : ∃ c0 c1 c2, cs = #[c0, c1, c2] := by
    obtain ⟨l⟩ := cs
    have hl : l.length = 3 := hs.trans (by kernel_rfl)
    obtain ⟨a, b, c, rfl⟩ := list3 hl
    exact ⟨a, b, c, rfl⟩
  obtain ⟨fuel, hf⟩ := h
  obtain ⟨y0, y1, y2, n, hx, -, h0, h1, h2⟩ := Go.Deep.trod_struct3 Try.underlying34 hf
  have e0 : Try.prog.cellsOf 30 = 1 := by kernel_rfl
  have e1 : Try.prog.cellsOf 32 = 1 := by kernel_rfl
  have k0 : DataW.trod enc Try.prog W 0 (fun _ => true) true n 30 (([c0, c1, c2].drop 0).take (Try.prog.cellsOf 30)) = some y0 := h0
  have k1 : DataW.trod enc Try.prog W 0 (fun _ => true) true n 30 (([c0, c1, c2].drop 1).take (Try.prog.cellsOf 30)) = some y1 := h1
  have k2 : DataW.trod enc Try.prog W 0 (fun _ => true) true n 32 (([c0, c1, c2].drop 2).take (Try.prog.cellsOf 32)) = some y2 := h2
  rw [e0] at k0 k1
  rw [e1] at k2
  obtain ⟨fr, rfl, hfr⟩ := float_cell (v := c0) Try.underlying30 k0
  obtain ⟨st, rfl, hst⟩ := float_cell (v := c1) Try.underlying30 k1
  obtain ⟨ao, cap, T, rfl, q1, q2, q3, q4, q5, q6⟩ := open_rws (c := c2) k2
  exact ⟨⟨fr, st, T⟩, ao, cap, y0.1, y1.1, y2.1, rfl, q1, q2, q3, ⟨hfr, hst, q5⟩, q4, congrArg Prod.fst hx, q6⟩
/-! ### sizes -/
theorem mem_weights {P : Program} {e : TypeId} : ∀ {es : List (DataW H)} {i : Nat} {d : DataW H} {x : Nat}, es[i]? = some d → x ∈ d.weights P e → x ∈ DataW.weightsAll P e es
  | [], i, d, x, h, _ => by simp at h
  | d' :: es, 0, d, x, h, hx => by
    simp at h
    subst h
    simp only [DataW.weightsAll, List.mem_append]
    exact .inl hx
  | d' :: es, i + 1, d, x, h, hx => by
    simp only [DataW.weightsAll, List.mem_append]
    exact .inr (mem_weights (i := i) (by simpa using h) hx)
set_option maxRecDepth 100000 in
theorem ld_size {p : DataW H} {L : List Nat} (h : LD p L) (hs : ∀ x ∈ p.weights Try.prog 53, x ≤ reachBytes) : L.length * 4 ≤ 140737488351232 := by
  rcases h with ⟨rfl, -⟩ | ⟨es, sp, rfl, e⟩
  · simp
  · have := hs ((es.length + sp.length) * Try.prog.bytesOf 57) (by simp [DataW.weights, Try.underlying53])
    rw [bytes32] at this
    unfold reachBytes at this
    omega
set_option maxRecDepth 100000 in
theorem td_size {d : DataW H} {t : Tb} (h : TD d t.rows) (hs : ∀ x ∈ d.weights Try.prog 32, x ≤ reachBytes) : TbSz t := by
  rcases h with ⟨e, -⟩ | ⟨es, sp, rfl, e, hr⟩
  · exact ⟨by rw [e]; simp, fun i k _ => by rw [cf_out (by rw [e]; simp)]; simp⟩
  · have k := hs ((es.length + sp.length) * Try.prog.bytesOf 69) (by simp [DataW.weights, Try.underlying32])
    rw [bytesRw] at k
    unfold reachBytes at k
    refine ⟨by omega, fun i k hk => ?_⟩
    by_cases hi : i < t.rows.length
    · obtain ⟨p0, p1, p2, ei, l0, l1, l2⟩ := hr i hi
      have up : ∀ (j : Nat) (p : DataW H), [p0, p1, p2][j]? = some p → ∀ x ∈ p.weights Try.prog 53, x ≤ reachBytes := fun j p hj x hx => by
        refine hs x ?_
        have m1 : x ∈ (DataW.agg [p0, p1, p2]).weights Try.prog 69 := by
          simp only [DataW.weights, Try.underlying69]
          exact mem_weights hj hx
        have m2 := mem_weights (P := Try.prog) (e := 69) ei m1
        simp only [DataW.weights, Try.underlying32, List.mem_cons, List.mem_append]
        exact .inr (.inl m2)
      have hk3 : k = 0 ∨ k = 1 ∨ k = 2 := by omega
      rcases hk3 with rfl | rfl | rfl
      · exact ld_size l0 (up 0 _ rfl)
      · exact ld_size l1 (up 1 _ rfl)
      · exact ld_size l2 (up 2 _ rfl)
    · rw [cf_out hi]; simp
end
end Go.Proofs.Ytnmadknpkhaolaa

namespace Go.Proofs.Ytnmadknpkhaolaa
open Go.ChangeShapes Go.WideShapes Go.ChangeAt Go.RowKit Ieee.Own

set_option maxRecDepth 100000 in
theorem x56w (b : Nat) (w : World) : (callFunc 56 #[.float .f32 b]).run Try.prog w = .ok (.value (.int .u32 (b : Int))) w := by
  rw [run_callFunc_extern (e := Extern.MathFloatBits.float32bits) Try.func56 (by kernel_rfl) (by kernel_rfl) (by kernel_rfl) (by kernel_rfl)]; rfl
set_option maxRecDepth 100000 in
theorem x53w (n : Int) (w : World) : (callFunc 53 #[.int .u64 n]).run Try.prog w = .ok (.value (.float .f64 n.toNat)) w := by
  rw [run_callFunc_extern (e := Extern.MathFloatBits.float64frombits) Try.func53 (by kernel_rfl) (by kernel_rfl) (by kernel_rfl) (by kernel_rfl)]; rfl
theorem andn31w (b : Nat) (hb : b < 4294967296) : bits BinOp.andNot IntKind.u32 (b : Int) 2147483648 = ((b % 2147483648 : Nat) : Int) := by
  rw [show (2147483648 : Int) = ((2147483648 : Nat) : Int) from rfl, u32_andNot_nat b 2147483648 hb (by omega)]
  exact congrArg _ (Nat.and_two_pow_sub_one_eq_mod b 31)
theorem and23w (b : Nat) (hb : b < 4294967296) : bits BinOp.and IntKind.u64 (b : Int) 8388607 = ((b % 8388608 : Nat) : Int) := by
  rw [show (8388607 : Int) = ((8388607 : Nat) : Int) from rfl, u64_and_nat b 8388607 (by omega) (by omega)]
  exact congrArg _ (Nat.and_two_pow_sub_one_eq_mod b 23)
theorem and8w (b : Nat) (hb : b < 4294967296) : bits BinOp.and IntKind.u64 ((b : Int) / 8388608) 255 = ((b / 8388608 % 256 : Nat) : Int) := by
  rw [show (255 : Int) = ((255 : Nat) : Int) from rfl, show ((b : Int) / 8388608) = ((b / 8388608 : Nat) : Int) by omega, u64_and_nat _ 255 (by omega) (by omega)]
  exact congrArg _ (Nat.and_two_pow_sub_one_eq_mod _ 8)
def kls32 (b : Nat) : Int :=
  if b % 2147483648 = 0 then 1 else if b % 2147483648 < 8388608 then 2
  else if b % 2147483648 < 2139095040 then 3 else if b % 2147483648 = 2139095040 then 4 else 5
theorem iq_f {a b : Int} (h : ¬ a = b) : (a == b) = false := by simpa using h
theorem iq_t {a b : Int} (h : a = b) : (a == b) = true := by simpa using h
set_option maxRecDepth 100000 in
theorem rcls32 (b : Nat) (hb : b < 4294967296) (w : World) :
    Calls Try.prog 57 #[.float .f32 b] w fun e w' => e = .returned (.int .i64 (kls32 b)) ∧ w = w' := by
  have H := andn31w b hb
  unfold kls32
  clear hb
  generalize b % 2147483648 = m at *
  by_cases h1 : m = 0
  · subst h1
    go_enter Try.func57, Try.ntmps57
    go_wp2_with (simp only [x56w])
    go_ret
    exact ⟨rfl, rfl⟩
  have t1 : ((m : Int) == 0) = false := iq_f (by omega)
  by_cases h2 : m < 8388608
  · have t2 : decide ((m : Int) < 8388608) = true := decide_eq_true (by omega)
    rw [if_neg h1, if_pos h2]
    clear h1 h2
    go_enter Try.func57, Try.ntmps57
    go_wp2_with (simp only [x56w])
    go_ret
    exact ⟨rfl, rfl⟩
  have t2 : decide ((m : Int) < 8388608) = false := decide_eq_false (by omega)
  by_cases h3 : m < 2139095040
  · have t3 : decide ((m : Int) < 2139095040) = true := decide_eq_true (by omega)
    rw [if_neg h1, if_neg h2, if_pos h3]
    clear h1 h2 h3
    go_enter Try.func57, Try.ntmps57
    go_wp2_with (simp only [x56w])
    go_ret
    exact ⟨rfl, rfl⟩
  have t3 : decide ((m : Int) < 2139095040) = false := decide_eq_false (by omega)
  by_cases h4 : m = 2139095040
  · have t4 : ((m : Int) == 2139095040) = true := iq_t (by omega)
    rw [if_neg h1, if_neg h2, if_neg h3, if_pos h4]
    clear h1 h2 h3 h4
    go_enter Try.func57, Try.ntmps57
    go_wp2_with (simp only [x56w])
    go_ret
    exact ⟨rfl, rfl⟩
  · have t4 : ((m : Int) == 2139095040) = false := iq_f (by omega)
    rw [if_neg h1, if_neg h2, if_neg h3, if_neg h4]
    clear h1 h2 h3 h4
    go_enter Try.func57, Try.ntmps57
    go_wp2_with (simp only [x56w])
    go_ret
    exact ⟨rfl, rfl⟩
theorem ret_fl {k : FloatKind} {a b : Nat} (h : a = b) : Ending.returned (.float k a) = .returned (.float k b) := by rw [h]
theorem val_big {F q m : Nat} (hq : 1 ≤ q) (hm : m < 2 ^ F) : val F (q * 2 ^ F + m) = (2 ^ F + m) * 2 ^ (q - 1) := by
  have h1 : ¬ q * 2 ^ F + m < 2 ^ F := by
    have := Nat.mul_le_mul_right (2 ^ F) hq
    omega
  have h2 : (q * 2 ^ F + m) % 2 ^ F = m := by rw [Nat.mul_comm, Nat.mul_add_mod, Nat.mod_eq_of_lt hm]
  have h3 : (q * 2 ^ F + m) / 2 ^ F = q := by rw [Nat.mul_comm, Nat.mul_add_div (Nat.two_pow_pos F), Nat.div_eq_of_lt hm, Nat.add_zero]
  unfold val mg ex
  rw [if_neg h1, if_neg h1, h2, h3]
theorem val_low {F m : Nat} (hm : m < 2 ^ F) : val F m = m := by
  unfold val mg ex
  rw [if_pos hm, if_pos hm, Nat.pow_zero, Nat.mul_one]
theorem scale_up (a : Nat) {i j k l : Nat} (e : i + j = k + l) : a * 2 ^ i * 2 ^ j = a * 2 ^ k * 2 ^ l := by
  rw [Nat.mul_assoc, ← Nat.pow_add, e, Nat.pow_add, Nat.mul_assoc]
theorem scale_3 (m : Nat) {k i j l : Nat} (e : k + i + j = l) : m * 2 ^ k * 2 ^ i * 2 ^ j = m * 2 ^ l := by
  rw [← e, Nat.pow_add, Nat.pow_add, Nat.mul_assoc, Nat.mul_assoc, Nat.mul_assoc]
theorem zero_rank {F G k a b : Nat} (h : a = 0) (g : b = 0) : val F a = val G b * 2 ^ k := by rw [h, g, val_zero, val_zero, Nat.zero_mul]
theorem rank_norm {x m c : Nat} (hc : c = 925) (hx : 1 ≤ x) (hm : m < 8388608) : val 52 ((x + 896) * 4503599627370496 + m * 536870912) = val 23 (x * 8388608 + m) * 2 ^ c := by
  have a := val_big (F := 52) (q := x + 896) (m := m * 536870912) (by omega) (by omega)
  have b := val_big (F := 23) (q := x) (m := m) hx (by omega)
  rw [show (2 : Nat) ^ 52 = 4503599627370496 by rfl] at a
  rw [show (2 : Nat) ^ 23 = 8388608 by rfl] at b
  rw [a, b, show 4503599627370496 + m * 536870912 = (8388608 + m) * 2 ^ 29 by omega]
  exact scale_up _ (by omega)
theorem rank_sub {m k u c : Nat} (hc : c = 925) (hm : m < 8388608) (hu : u = m * 2 ^ k) (hk : k ≤ 23) (h1 : 8388608 ≤ u) (h2 : u < 16777216) : val 52 ((897 - k) * 4503599627370496 + (u - 8388608) * 536870912) = val 23 m * 2 ^ c := by
  have a := val_big (F := 52) (q := 897 - k) (m := (u - 8388608) * 536870912) (by omega) (by omega)
  rw [show (2 : Nat) ^ 52 = 4503599627370496 by rfl] at a
  rw [a, val_low (show m < 2 ^ 23 by omega), show 4503599627370496 + (u - 8388608) * 536870912 = u * 2 ^ 29 by omega, hu]
  exact scale_3 _ (by omega)
theorem wide_eq {f W c : Nat} (hc : c = 925) (hf : f < 4294967296) (hn : f % 2147483648 < 2139095040) (hW : W < 18446744073709551616) (hv : val 52 (W % 9223372036854775808) = val 23 (f % 2147483648) * 2 ^ c) (hs : W < 9223372036854775808 ↔ f < 2147483648) : wideW f = W := by
  obtain ⟨a, -, -, -, -, b, d⟩ := wide_spec f hf (by omega)
  rw [← hc] at d
  have e := (val_eq_iff 52 _ _).1 ((d hn).trans hv.symm)
  generalize wideW f = X at *
  omega
structure Pt32 (f s x m : Nat) : Prop where
  hf : f < 4294967296
  s2 : s < 2
  x8 : x < 256
  m23 : m < 8388608
  hr : f % 2147483648 = x * 8388608 + m
  hs : s = f / 2147483648
theorem wide_zero {f s x m : Nat} (P : Pt32 f s x m) (h : x * 8388608 + m = 0) : wideW f = s * 9223372036854775808 := by
  obtain ⟨hf, s2, x8, m23, hr, hs⟩ := P
  obtain ⟨c, hc⟩ : ∃ c, c = 925 := ⟨_, rfl⟩
  exact wide_eq hc hf (by omega) (by omega) (zero_rank (by omega) (by omega)) (by omega)
theorem wide_norm {f s x m : Nat} (P : Pt32 f s x m) (h1 : 1 ≤ x) (h2 : x < 255) : wideW f = s * 9223372036854775808 + (x + 896) * 4503599627370496 + m * 536870912 := by
  obtain ⟨hf, s2, x8, m23, hr, hs⟩ := P
  obtain ⟨c, hc⟩ : ∃ c, c = 925 := ⟨_, rfl⟩
  have e : (s * 9223372036854775808 + (x + 896) * 4503599627370496 + m * 536870912) % 9223372036854775808 = (x + 896) * 4503599627370496 + m * 536870912 := by omega
  exact wide_eq hc hf (by omega) (by omega) (by rw [e, hr]; exact rank_norm hc h1 m23) (by omega)
theorem wide_sub {f s x m k u : Nat} (P : Pt32 f s x m) (h : x = 0) (hu : u = m * 2 ^ k) (hk : k ≤ 23) (h1 : 8388608 ≤ u) (h2 : u < 16777216) : wideW f = s * 9223372036854775808 + (897 - k) * 4503599627370496 + (u - 8388608) * 536870912 := by
  obtain ⟨hf, s2, x8, m23, hr, hs⟩ := P
  obtain ⟨c, hc⟩ : ∃ c, c = 925 := ⟨_, rfl⟩
  have e : (s * 9223372036854775808 + (897 - k) * 4503599627370496 + (u - 8388608) * 536870912) % 9223372036854775808 = (897 - k) * 4503599627370496 + (u - 8388608) * 536870912 := by omega
  have er : f % 2147483648 = m := by omega
  exact wide_eq hc hf (by omega) (by omega) (by rw [e, er]; exact rank_sub hc m23 hu hk h1 h2) (by omega)
theorem wide_inf {f s x m : Nat} (P : Pt32 f s x m) (h : x * 8388608 + m = 2139095040) : wideW f = s * 9223372036854775808 + 9218868437227405312 := by
  obtain ⟨hf, s2, x8, m23, hr, hs⟩ := P
  have h2 : f = 2139095040 ∨ f = 4286578688 := by omega
  rcases h2 with rfl | rfl
  · have e : wideW 2139095040 = 9218868437227405312 := by unfold wideW; rw [if_neg (by decide), wide_up]; rfl
    rw [e]; omega
  · have e : wideW 4286578688 = 18442240474082181120 := by unfold wideW; rw [if_neg (by decide), wide_down]; rfl
    rw [e]; omega
theorem wide_non {f s x m : Nat} (P : Pt32 f s x m) (h : 2139095040 < x * 8388608 + m) : wideW f = 9221120237041090560 := by
  unfold wideW
  rw [if_pos (by rw [P.hr]; exact h)]
theorem or_top {s y : Nat} (hs : s < 2) (hy : y < 9223372036854775808) : bits BinOp.or IntKind.u64 ((s : Int) * 9223372036854775808) (y : Int) = ((s * 9223372036854775808 + y : Nat) : Int) := by
  rw [show (s : Int) * 9223372036854775808 = ((s * 9223372036854775808 : Nat) : Int) by omega, u64_or_nat _ _ (by omega) (by omega)]
  have := Nat.two_pow_add_eq_or_of_lt (i := 63) (b := y) hy s
  rw [show (2 : Nat) ^ 63 = 9223372036854775808 by rfl, Nat.mul_comm] at this
  rw [← this]
theorem or_low {q y : Nat} (hq : q < 4096) (hy : y < 4503599627370496) : bits BinOp.or IntKind.u64 ((q * 4503599627370496 : Nat) : Int) (y : Int) = ((q * 4503599627370496 + y : Nat) : Int) := by
  rw [u64_or_nat _ _ (by omega) (by omega)]
  have := Nat.two_pow_add_eq_or_of_lt (i := 52) (b := y) hy q
  rw [show (2 : Nat) ^ 52 = 4503599627370496 by rfl, Nat.mul_comm] at this
  rw [← this]
/-- the widened word's parts -/
theorem or_all {s q y : Nat} (hs : s < 2) (hq : q < 2048) (hy : y < 4503599627370496) :
    bits BinOp.or IntKind.u64 (bits BinOp.or IntKind.u64 ((s : Int) * 9223372036854775808) ((q : Int) * 4503599627370496)) (y : Int) = ((s * 9223372036854775808 + q * 4503599627370496 + y : Nat) : Int) := by
  rw [show (q : Int) * 4503599627370496 = ((q * 4503599627370496 : Nat) : Int) by omega, or_top hs (by omega), show s * 9223372036854775808 + q * 4503599627370496 = (s * 2048 + q) * 4503599627370496 by omega, or_low (by omega) hy]
theorem top_bits (m : Nat) (h0 : 0 < m) (hm : m < 8388608) : ∃ k, k ≤ 23 ∧ 1 ≤ k ∧ 8388608 ≤ m * 2 ^ k ∧ m * 2 ^ k < 16777216 ∧ ∀ j, j < k → m * 2 ^ j < 8388608 := by
  obtain ⟨l1, l2⟩ := (Nat.log2_eq_iff (n := m) (by omega)).1 rfl
  generalize Nat.log2 m = l at *
  have hl : l < 23 := by
    by_cases c : l < 23
    · exact c
    · have := Nat.pow_le_pow_right (n := 2) (by omega) (show 23 ≤ l by omega)
      omega
  have k1 : 2 ^ l * 2 ^ (23 - l) ≤ m * 2 ^ (23 - l) := Nat.mul_le_mul_right _ l1
  have k2 : m * 2 ^ (23 - l) < 2 ^ (l + 1) * 2 ^ (23 - l) := Nat.mul_lt_mul_of_pos_right l2 (Nat.two_pow_pos _)
  rw [← Nat.pow_add, show l + (23 - l) = 23 by omega] at k1
  rw [← Nat.pow_add, show l + 1 + (23 - l) = 24 by omega] at k2
  refine ⟨23 - l, by omega, by omega, k1, k2, fun j hj => ?_⟩
  have a : m * 2 ^ j < 2 ^ (l + 1) * 2 ^ j := Nat.mul_lt_mul_of_pos_right l2 (Nat.two_pow_pos _)
  rw [← Nat.pow_add] at a
  have b := Nat.pow_le_pow_right (n := 2) (by omega) (show l + 1 + j ≤ 23 by omega)
  omega
theorem or_inf {s : Nat} (hs : s < 2) : (bits BinOp.or IntKind.u64 ((s : Int) * 9223372036854775808) 9218868437227405312).toNat = s * 9223372036854775808 + 9218868437227405312 := by
  have h : s = 0 ∨ s = 1 := by omega
  rcases h with rfl | rfl <;> decide +kernel
theorem or_nrm {s m : Nat} {q' : Int} {q : Nat} (hs : s < 2) (hq : q' = q) (h : q < 2048) (hm : m < 8388608) :
    (bits BinOp.or IntKind.u64 (bits BinOp.or IntKind.u64 ((s : Int) * 9223372036854775808) (q' * 4503599627370496)) ((m : Int) * 536870912)).toNat = s * 9223372036854775808 + q * 4503599627370496 + m * 536870912 := by
  have o := or_all (q := q) (y := m * 536870912) hs h (by omega)
  rw [hq, show (m : Int) * 536870912 = ((m * 536870912 : Nat) : Int) by omega, o, Int.toNat_natCast]
set_option maxHeartbeats 4000000 in
set_option maxRecDepth 100000 in
theorem rwide_run (f : Nat) (hf : f < 4294967296) (w : World) :
    Calls Try.prog 32 #[.float .f32 f] w fun e w' => e = .returned (.float .f64 (wideW f)) ∧ w = w' := by
  have CC := fun w => rcls32 f hf w
  have a1 := and23w f hf
  have a2 := and8w f hf
  obtain ⟨s, hs⟩ : ∃ s : Nat, s = f / 2147483648 := ⟨_, rfl⟩
  obtain ⟨x, hx⟩ : ∃ x : Nat, x = f / 8388608 % 256 := ⟨_, rfl⟩
  obtain ⟨m, hm⟩ : ∃ m : Nat, m = f % 8388608 := ⟨_, rfl⟩
  have hs' : (f : Int) / 2147483648 = (s : Int) := by omega
  have P : Pt32 f s x m := ⟨hf, by omega, by omega, by omega, by omega, hs⟩
  rw [← hx] at a2
  rw [← hm] at a1
  have ek : kls32 f = if x * 8388608 + m = 0 then 1 else if x * 8388608 + m < 8388608 then 2 else if x * 8388608 + m < 2139095040 then 3 else if x * 8388608 + m = 2139095040 then 4 else 5 := by unfold kls32; rw [P.hr]
  rw [ek] at CC
  clear ek hx hm hs
  have s2 := P.s2
  have x8 := P.x8
  have m23 := P.m23
  generalize hW : wideW f = W
  by_cases c1 : x * 8388608 + m = 0
  · rw [if_pos c1] at CC
    have e2 : ((s : Int) * 9223372036854775808).toNat = s * 9223372036854775808 := by omega
    have e := Lib.hid (hW.symm.trans (wide_zero P c1))
    clear hW P c1
    replace e2 := Lib.hid e2
    go_enter Try.func32, Try.ntmps32
    go_wp2_with (first | simp only [x56w] | simp only [x53w] | (go_at_call 57; ((with_reducible refine (CC _).mono ?_); rintro e w' ⟨rfl, rfl⟩)))
    go_ret
    exact ⟨ret_fl (e2.out.trans e.out.symm), rfl⟩
  rw [if_neg c1] at CC
  by_cases c2 : x * 8388608 + m < 8388608
  · rw [if_pos c2] at CC
    have x0 : x = 0 := by omega
    obtain ⟨k, k1, k2, t1, t2, tj⟩ := top_bits m (by omega) m23
    obtain ⟨u, hu⟩ : ∃ u, u = m * 2 ^ k := ⟨_, rfl⟩
    rw [← hu] at t1 t2
    have e3 := Lib.hid (or_nrm (q' := 1 - (k : Int) - 127 + 1023) (m := u - 8388608) s2 (show 1 - (k : Int) - 127 + 1023 = ((897 - k : Nat) : Int) by omega) (by omega) (by omega))
    have tm : (((u - 8388608 : Nat)) : Int) = (u : Int) - 8388608 := by omega
    have e := Lib.hid (hW.symm.trans (wide_sub P x0 hu k1 t1 t2))
    have tj' : Hid (∀ j, j < k → m * 2 ^ j < 8388608) := Lib.hid tj
    have hu' := Lib.hid hu
    clear hW P c1 c2 x0 tj hu
    go_enter Try.func32, Try.ntmps32
    go_wp2_with (first | simp only [x56w] | simp only [x53w] | (go_at_call 57; ((with_reducible refine (CC _).mono ?_); rintro e w' ⟨rfl, rfl⟩)))
    go_loop [5, 6] (fun ev mv => ∃ j v : Nat, j ≤ k ∧ v = m * 2 ^ j ∧ ev = .int .i64 (1 - (j : Int)) ∧ mv = .int .u64 v) (fun ev _ => (intOf ev + 23).toNat)
    case atStart => exact ⟨0, m, by omega, by simp, rfl, rfl⟩
    case round =>
      obtain ⟨j, v, hj, hv, rfl, rfl⟩ := hrel
      by_cases hlt : j < k
      · have b := tj'.out j hlt
        rw [← hv] at b
        have hv2 : v * 2 = m * 2 ^ (j + 1) := by rw [hv, Nat.pow_succ, Nat.mul_assoc]
        replace hv2 := Lib.hid hv2
        have td : decide ((v : Int) < 8388608) = true := decide_eq_true (by omega)
        have j23 : j < 23 := by omega
        have tw : IntKind.u64.wrap ((v : Int) * 2) = ((v * 2 : Nat) : Int) := by rw [IntKind.wrap_u64]; omega
        replace b := Lib.hid b
        clear hv t1 t2 hf x8 m23 s2 hj k1 k2
        go_wp2_with fail
        go_round
        case rel => exact ⟨j + 1, v * 2, by omega, hv2.out, by go_num, rfl⟩
        case measure => simp [intOf]; omega
      · have : j = k := by omega
        subst this
        have ev : v = u := by rw [hv, hu'.out]
        subst ev
        have td : decide ((v : Int) < 8388608) = false := decide_eq_false (by omega)
        have tw : IntKind.u64.wrap ((v : Int) - 8388608) = ((v - 8388608 : Nat) : Int) := by rw [IntKind.wrap_u64]; omega
        have tw2 : IntKind.u64.wrap (((v - 8388608 : Nat) : Int) * 536870912) = ((v - 8388608 : Nat) : Int) * 536870912 := by rw [IntKind.wrap_u64]; omega
        clear hv hu' t1 t2 hf x8 m23 s2 hj k2 tm
        go_wp2_with (simp only [x53w])
        go_ret
        exact ⟨ret_fl (e3.out.trans e.out.symm), rfl⟩
  rw [if_neg c2] at CC
  by_cases c3 : x * 8388608 + m < 2139095040
  · rw [if_pos c3] at CC
    have e3 := Lib.hid (or_nrm (q' := (x : Int) - 127 + 1023) s2 (show (x : Int) - 127 + 1023 = ((x + 896 : Nat) : Int) by omega) (by omega) m23)
    have e := Lib.hid (hW.symm.trans (wide_norm P (by omega) (by omega)))
    clear hW P c1 c2 c3
    go_enter Try.func32, Try.ntmps32
    go_wp2_with (first | simp only [x56w] | simp only [x53w] | (go_at_call 57; ((with_reducible refine (CC _).mono ?_); rintro e w' ⟨rfl, rfl⟩)))
    go_ret
    exact ⟨ret_fl (e3.out.trans e.out.symm), rfl⟩
  rw [if_neg c3] at CC
  by_cases c4 : x * 8388608 + m = 2139095040
  · rw [if_pos c4] at CC
    have e3 := Lib.hid (or_inf s2)
    have e := Lib.hid (hW.symm.trans (wide_inf P c4))
    clear hW P c1 c2 c3 c4
    go_enter Try.func32, Try.ntmps32
    go_wp2_with (first | simp only [x56w] | simp only [x53w] | (go_at_call 57; ((with_reducible refine (CC _).mono ?_); rintro e w' ⟨rfl, rfl⟩)))
    go_ret
    exact ⟨ret_fl (e3.out.trans e.out.symm), rfl⟩
  · rw [if_neg c4] at CC
    have e := Lib.hid (hW.symm.trans (wide_non P (by omega)))
    clear hW P c1 c2 c3 c4
    go_enter Try.func32, Try.ntmps32
    go_wp2_with (first | simp only [x56w] | simp only [x53w] | (go_at_call 57; ((with_reducible refine (CC _).mono ?_); rintro e w' ⟨rfl, rfl⟩)))
    go_ret
    exact ⟨ret_fl e.out.symm, rfl⟩
end Go.Proofs.Ytnmadknpkhaolaa
