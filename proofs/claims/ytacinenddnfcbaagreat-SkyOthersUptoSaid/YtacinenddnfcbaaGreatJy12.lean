/- Proved here: what the texts Hch, Pcn, Plw, Hcm, Hcn, Hco, Bg, Vbx, Hcp, Feq, Fra prove, one behind the other. -/
import Derived.Test.YtacinenddnfcbaaGreatJy11
import Derived.Test.YtacinenddnfcbaaGreatJy6
import Derived.Test.YtacinenddnfcbaaGreatJy10
import Derived.Test.YtacinenddnfcbaaGreatJy8
import Derived.Test.YtacinenddnfcbaaGreatJy3

set_option maxHeartbeats 4000000
set_option maxRecDepth 100000
namespace Go.Proofs.YtacinenddnfcbaaGreat
open Go.ChangeShapes Go.WideShapes Go.ChangeAt Go.RowKit Ieee.Own Pol

def pieE (t : Tb) (d : Nat) : Value := if rdyT t (inM m24 d) = 0 then .tuple #[.int .i64 ((plc t d).1 : Int), .float .f64 (plc t d).2, .int .i64 0] else .tuple #[.int .i64 0, .float .f64 0, .int .i64 (rdyT t (inM m24 d))]
theorem cpiece_run {t : Tb} {d : Nat} (ao : Option Addr) (cap : Nat) (w : World) (hm : t.rows.length ≤ 4611686018427387904) (hW : TbW t) (ha : TbAt w ao t.rows) (hd : d < 18446744073709551616) :
 Calls Tryz.prog 110 #[tbV t ao cap, .float .f64 d] w fun e w' => e = .returned (pieE t d) ∧ Below w.heap.size w w' := by
 have CT : Hid (∀ W, Calls Tryz.prog 155 #[.float .f64 d] W fun e w' => e = .returned (.bool (inM m24 d)) ∧ Below W.heap.size W w') := Lib.hid fun W => (ctime_run d hd W).mono fun e w' h => ⟨h.1, h.2 ▸ Below.refl _ _⟩
 have CR : Hid (∀ W, Below w.heap.size w W → Calls Tryz.prog 85 #[tbV t ao cap, .bool (inM m24 d)] W fun e w' => e = .returned (.int .i64 (rdyT t (inM m24 d))) ∧ Below W.heap.size W w') := Lib.hid fun W hb => cready_run (inM m24 d) ao cap W hm hW (ha.on hb)
 unfold pieE
 by_cases hr : rdyT t (inM m24 d) = 0
 · rw [if_pos hr]
   rw [hr] at CR
   obtain ⟨c0, c1, c2⟩ := rdyT_zero hr
   have KO := chkT_zero c0
   have Y := y_ok KO hW hd c1
   have CP : Hid (∀ W, Below w.heap.size w W → Calls Tryz.prog 87 #[tbV t ao cap, .float .f64 d] W fun e w' => e = .returned (plcE (plc t d)) ∧ Below W.heap.size W w') := Lib.hid fun W _ => cplace_run ao cap W KO.len c2 Y
   unfold plcE at CP
   clear hm hW ha hr c0 c1 c2 KO Y hd
   generalize inM m24 d = b at *
   generalize plc t d = P at *
   obtain ⟨i, x⟩ := P
   dsimp only at *
   unfold tbV at *
   obtain ⟨fr, st, R⟩ := t
   dsimp only at *
   generalize R.length = n at *
   generalize hk : (0 : Int) = k at CR
   have tk : (k != 0) = false := by rw [← hk]; rfl
   replace hk := Lib.hid hk
   have K0 := kv1 w 49 [.float .f64 fr, .float .f64 st, .slice ao n cap]
   simp only [objV] at K0
   have hst := @fstore
   replace K0 := Lib.hid K0
   go_enter Tryz.func110, Tryz.ntmps110
   go_upto_region 1 with fail
   have K := K0.out
   clear K0
   generalize w.alloc _ = wr at *
   generalize hds : ([some 10, some 11, some 12, some 13, some 7] : List (Option Tmp)) = ds
   have hap : apartL ds = true := by rw [← hds]; decide
   replace hds := hds.symm
   refine wp_region_det (by kernel_rfl) ds (by rw [hds]; rfl) hap (by decide +kernel) [.agg #[.float .f64 fr, .float .f64 st, .slice ao n cap], .float .f64 d, .bool b, .int .i64 k, .int .i64 k] rfl (fun W => Kv w [some (w.heap.size, [.float .f64 fr, .float .f64 st, .slice ao n cap])] W) K.draws ?step ?fin
   case step =>
    intro L W i o ho hd hS
    have hi : i < 5 := (Array.getElem?_eq_some_iff.1 ho).1
    have : i = 0 ∨ i = 1 ∨ i = 2 ∨ i = 3 ∨ i = 4 := by omega
    rcases this with rfl | rfl | rfl | rfl | rfl
    · obtain rfl := Option.some.inj ho
      have b := hS.at_ 0 rfl
      have c0 := b.at_ 0 _ rfl
      have c1 := b.at_ 1 _ rfl
      have c2 := b.at_ 2 _ rfl
      clear b
      refine .value rfl W ?_ hS
      generalize hA : (puts ds L _).eval = ρ
      have hc : ∀ v, ρ (.const v) = v := fun v => by rw [← hA]; rfl
      have h0 : ρ (.tmp 2) = .pointer (some ⟨w.heap.size, 0, none⟩) := by rw [← hA]; exact (puts_old ds L _ (by rw [hds]; decide)).trans rfl
      clear hA hd ho
      unfold execOp
      go_simp
    · obtain rfl := Option.some.inj ho
      refine .value rfl W ?_ hS
      generalize hA : (puts ds L _).eval = ρ
      have hc : ∀ v, ρ (.const v) = v := fun v => by rw [← hA]; rfl
      have h0 : ρ (.tmp 1) = .float .f64 d := by rw [← hA]; exact (puts_old ds L _ (by rw [hds]; decide)).trans rfl
      clear hA hd ho
      unfold execOp
      go_simp
    · obtain rfl := Option.some.inj ho
      refine .call rfl 155 #[.float .f64 d] ?_ ((CT.out W).mono fun e w' h => ⟨h.1, hS.on h.2⟩)
      generalize hA : (puts ds L _).eval = ρ
      have hc : ∀ v, ρ (.const v) = v := fun v => by rw [← hA]; rfl
      have hg : ∀ g, ρ (.func g) = .func (.func g) #[] #[] := fun v => by rw [← hA]; rfl
      have h0 : ρ (.tmp 11) = .float .f64 d := by rw [← hA]; exact puts_get 1 ds L _ hap (by rw [hds]; rfl) (hd 1 (by decide +kernel)) (show 11 < 25 by decide)
      have hf := Tryz.func155
      unfold execOp
      go_simp
    · obtain rfl := Option.some.inj ho
      refine .call rfl 85 #[.agg #[.float .f64 fr, .float .f64 st, .slice ao n cap], .bool b] ?_ ((CR.out W hS.old).mono fun e w' h => ⟨h.1, hS.on h.2⟩)
      generalize hA : (puts ds L _).eval = ρ
      have hc : ∀ v, ρ (.const v) = v := fun v => by rw [← hA]; rfl
      have hg : ∀ g, ρ (.func g) = .func (.func g) #[] #[] := fun v => by rw [← hA]; rfl
      have h0 : ρ (.tmp 10) = .agg #[.float .f64 fr, .float .f64 st, .slice ao n cap] := by rw [← hA]; exact puts_get 0 ds L _ hap (by rw [hds]; rfl) (hd 0 (by decide +kernel)) (show 10 < 25 by decide)
      have h1 : ρ (.tmp 12) = .bool b := by rw [← hA]; exact puts_get 2 ds L _ hap (by rw [hds]; rfl) (hd 2 (by decide +kernel)) (show 12 < 25 by decide)
      have hf := Tryz.func85
      unfold execOp
      go_simp
    · obtain rfl := Option.some.inj ho
      refine .value rfl W ?_ hS
      generalize hA : (puts ds L _).eval = ρ
      have hc : ∀ v, ρ (.const v) = v := fun v => by rw [← hA]; rfl
      have h0 : ρ (.tmp 13) = .int .i64 k := by rw [← hA]; exact puts_get 3 ds L _ hap (by rw [hds]; rfl) (hd 3 (by decide +kernel)) (show 13 < 25 by decide)
      clear hA hd ho
      unfold execOp
      go_simp
   case fin =>
    intro W0 K
    rw [hds]
    clear hds hap ds CT CR
    simp only [List.map_cons, List.map_nil, puts, Act.put, List.setIfInBounds_toArray]
    have c0_0 := (K.at_ 0 rfl).at_ 0 _ rfl
    have c0_1 := (K.at_ 0 rfl).at_ 1 _ rfl
    have c0_2 := (K.at_ 0 rfl).at_ 2 _ rfl
    replace K := Lib.hid K
    go_wp2_with fail
    replace K := K.out
    refine (CP.out W0 K.old).mono ?_
    rintro _ w1 ⟨rfl, hb⟩
    clear c0_0 c0_1 c0_2 CP
    replace K := Lib.hid (K.on hb)
    clear hb
    go_wp2_with fail
    go_ret3
    exact ⟨by rw [← hk.out]; rfl, K.out.old⟩
 · rw [if_neg hr]
   generalize rdyT t (inM m24 d) = k at *
   generalize inM m24 d = b at *
   have tk : (k != 0) = true := by simpa using hr
   clear hm hW ha hr hd
   unfold tbV at *
   obtain ⟨fr, st, R⟩ := t
   dsimp only at *
   generalize R.length = n at *
   have K0 := kv1 w 49 [.float .f64 fr, .float .f64 st, .slice ao n cap]
   simp only [objV] at K0
   have hst := @fstore
   replace K0 := Lib.hid K0
   go_enter Tryz.func110, Tryz.ntmps110
   go_upto_region 1 with fail
   have K := K0.out
   clear K0
   generalize w.alloc _ = wr at *
   generalize hds : ([some 10, some 11, some 12, some 13, some 7] : List (Option Tmp)) = ds
   have hap : apartL ds = true := by rw [← hds]; decide
   replace hds := hds.symm
   refine wp_region_det (by kernel_rfl) ds (by rw [hds]; rfl) hap (by decide +kernel) [.agg #[.float .f64 fr, .float .f64 st, .slice ao n cap], .float .f64 d, .bool b, .int .i64 k, .int .i64 k] rfl (fun W => Kv w [some (w.heap.size, [.float .f64 fr, .float .f64 st, .slice ao n cap])] W) K.draws ?step ?fin
   case step =>
    intro L W i o ho hd hS
    have hi : i < 5 := (Array.getElem?_eq_some_iff.1 ho).1
    have : i = 0 ∨ i = 1 ∨ i = 2 ∨ i = 3 ∨ i = 4 := by omega
    rcases this with rfl | rfl | rfl | rfl | rfl
    · obtain rfl := Option.some.inj ho
      have b := hS.at_ 0 rfl
      have c0 := b.at_ 0 _ rfl
      have c1 := b.at_ 1 _ rfl
      have c2 := b.at_ 2 _ rfl
      clear b
      refine .value rfl W ?_ hS
      generalize hA : (puts ds L _).eval = ρ
      have hc : ∀ v, ρ (.const v) = v := fun v => by rw [← hA]; rfl
      have h0 : ρ (.tmp 2) = .pointer (some ⟨w.heap.size, 0, none⟩) := by rw [← hA]; exact (puts_old ds L _ (by rw [hds]; decide)).trans rfl
      clear hA hd ho
      unfold execOp
      go_simp
    · obtain rfl := Option.some.inj ho
      refine .value rfl W ?_ hS
      generalize hA : (puts ds L _).eval = ρ
      have hc : ∀ v, ρ (.const v) = v := fun v => by rw [← hA]; rfl
      have h0 : ρ (.tmp 1) = .float .f64 d := by rw [← hA]; exact (puts_old ds L _ (by rw [hds]; decide)).trans rfl
      clear hA hd ho
      unfold execOp
      go_simp
    · obtain rfl := Option.some.inj ho
      refine .call rfl 155 #[.float .f64 d] ?_ ((CT.out W).mono fun e w' h => ⟨h.1, hS.on h.2⟩)
      generalize hA : (puts ds L _).eval = ρ
      have hc : ∀ v, ρ (.const v) = v := fun v => by rw [← hA]; rfl
      have hg : ∀ g, ρ (.func g) = .func (.func g) #[] #[] := fun v => by rw [← hA]; rfl
      have h0 : ρ (.tmp 11) = .float .f64 d := by rw [← hA]; exact puts_get 1 ds L _ hap (by rw [hds]; rfl) (hd 1 (by decide +kernel)) (show 11 < 25 by decide)
      have hf := Tryz.func155
      unfold execOp
      go_simp
    · obtain rfl := Option.some.inj ho
      refine .call rfl 85 #[.agg #[.float .f64 fr, .float .f64 st, .slice ao n cap], .bool b] ?_ ((CR.out W hS.old).mono fun e w' h => ⟨h.1, hS.on h.2⟩)
      generalize hA : (puts ds L _).eval = ρ
      have hc : ∀ v, ρ (.const v) = v := fun v => by rw [← hA]; rfl
      have hg : ∀ g, ρ (.func g) = .func (.func g) #[] #[] := fun v => by rw [← hA]; rfl
      have h0 : ρ (.tmp 10) = .agg #[.float .f64 fr, .float .f64 st, .slice ao n cap] := by rw [← hA]; exact puts_get 0 ds L _ hap (by rw [hds]; rfl) (hd 0 (by decide +kernel)) (show 10 < 25 by decide)
      have h1 : ρ (.tmp 12) = .bool b := by rw [← hA]; exact puts_get 2 ds L _ hap (by rw [hds]; rfl) (hd 2 (by decide +kernel)) (show 12 < 25 by decide)
      have hf := Tryz.func85
      unfold execOp
      go_simp
    · obtain rfl := Option.some.inj ho
      refine .value rfl W ?_ hS
      generalize hA : (puts ds L _).eval = ρ
      have hc : ∀ v, ρ (.const v) = v := fun v => by rw [← hA]; rfl
      have h0 : ρ (.tmp 13) = .int .i64 k := by rw [← hA]; exact puts_get 3 ds L _ hap (by rw [hds]; rfl) (hd 3 (by decide +kernel)) (show 13 < 25 by decide)
      clear hA hd ho
      unfold execOp
      go_simp
   case fin =>
    intro W0 K
    rw [hds]
    clear hds hap ds CT CR
    simp only [List.map_cons, List.map_nil, puts, Act.put, List.setIfInBounds_toArray]
    have c0_0 := (K.at_ 0 rfl).at_ 0 _ rfl
    have c0_1 := (K.at_ 0 rfl).at_ 1 _ rfl
    have c0_2 := (K.at_ 0 rfl).at_ 2 _ rfl
    replace K := Lib.hid K
    go_wp2_with fail
    go_ret3
    exact ⟨rfl, K.out.old⟩
def vH (L : List Nat) (x : Nat) : Nat := bgW (posW (chW x (L.map wideW)))
structure VhOk (L : List Nat) (x : Nat) : Prop where
 len : L.length ≤ 16
 er : errX m00 (L.map wideW) x = 0
 fc : ∀ c ∈ L.map wideW, Fc c
 fx : FinW x
 bx : (V x).natAbs ≤ 2 ^ 1074
 fin : FinW (chW x (L.map wideW))
theorem vh_ok {L : List Nat} {x : Nat} (hw : Ws32 L) (hm : mayT L = true) (hx : x < 18446744073709551616) (h1 : inM m00 x = true) : VhOk L x := by
 obtain ⟨l, e⟩ := mayB_true hm
 obtain ⟨l2, fc⟩ := errC_zero (ws_wide hw) e
 obtain ⟨fx, bx⟩ := inM_x00 hx h1
 have er : errX m00 (L.map wideW) x = 0 := by unfold errX; rw [if_pos e, if_pos h1]
 exact ⟨l, er, fc, fx, bx, (ch_wd fx bx _ (fc_cw fc) l2).1⟩
theorem cvalue_run {v : Value} {L : List Nat} {x : Nat} (w : World) (hw : Ws32 L) (hm : mayT L = true) (hx : x < 18446744073709551616) (h1 : inM m00 x = true) (h : FsAt w v L) :
 Calls Tryz.prog 111 #[v, .float .f64 x] w fun e w' => e = .returned (.float .f64 (vH L x)) ∧ Below w.heap.size w w' := by
 have O := vh_ok hw hm hx h1
 have CW := Lib.hid (cwide_run w O.len hw h)
 have CC := Lib.hid (fun g w1 hA => pcheb_ok (some ⟨g, 0, none⟩) L.length L.length (L.map wideW) x w1 (by simp) (by have := O.len; omega) (ws_wide hw) hA hx O.er)
 have CS := fun w => csure_run (posW (chW x (L.map wideW))) 0 w
 have CB := fun w => cbrought_run (posW (chW x (L.map wideW))) (Nz.pos O.fin).fin.1 w
 unfold vH
 obtain ⟨ao, cap, rfl, -⟩ := h
 unfold fe at CC
 generalize bgW (posW (chW x (L.map wideW))) = z at *
 generalize posW (chW x (L.map wideW)) = y at *
 generalize L.map wideW = M at *
 generalize L.length = n at *
 clear O hm h1 hx hw
 go_enter Tryz.func111, Tryz.ntmps111
 go_wp2_with fail
 refine CW.out.mono ?_
 rintro _ w1 ⟨g, rfl, hg, hA, hb⟩
 have K := CC.out g w1 hA
 replace hb := Lib.hid hb
 clear hA hg CW CC
 go_wp2_with (first | (go_at_call 186; ((with_reducible refine K.mono ?_); rintro e w' ⟨rfl, rfl⟩)) | (go_at_call 185; ((with_reducible refine (CS _).mono ?_); rintro e w' ⟨rfl, rfl⟩)) | (go_at_call 156; ((with_reducible refine (CB _).mono ?_); rintro e w' ⟨rfl, rfl⟩)))
 go_ret
 exact ⟨rfl, hb.out⟩
def rwH (t : Tb) (p : Nat × Nat) : V3 := (vH (cfT t.rows p.1 0) p.2, vH (cfT t.rows p.1 1) p.2, vH (cfT t.rows p.1 2) p.2)
def atH (t : Tb) (d : Nat) : V3 × Int := if rdyT t (inM m24 d) = 0 then (rwH t (plc t d), 0) else (z3, rdyT t (inM m24 d))
theorem row_may {T : List (List (List Nat))} {j : Nat} (h : rowB T j = true) : mayT (cfT T j 0) = true ∧ mayT (cfT T j 1) = true ∧ mayT (cfT T j 2) = true := by
 unfold rowB at h
 simpa using h
theorem pl_m00 {t : Tb} {p : Nat × Nat} (P : PlOk t p) : inM m00 p.2 = true := by
 rw [inM_iff (by decide) P.nz.fin.1 P.fit]
 have e : V m00 = 2 ^ 1074 := by decide +kernel
 rw [e]
 exact ⟨P.lo, P.hi⟩
theorem cat_run {t : Tb} {d : Nat} (ao : Option Addr) (cap : Nat) (w : World) (hm : t.rows.length ≤ 4611686018427387904) (hW : TbW t) (ha : TbAt w ao t.rows) (hd : d < 18446744073709551616) :
 Calls Tryz.prog 59 #[tbV t ao cap, .float .f64 d] w fun e w' => e = .returned (vecE (atH t d).1 (atH t d).2) ∧ Below w.heap.size w w' := by
 have CP : Hid (∀ W, Below w.heap.size w W → Calls Tryz.prog 110 #[tbV t ao cap, .float .f64 d] W fun e w' => e = .returned (pieE t d) ∧ Below W.heap.size W w') := Lib.hid fun W hb => cpiece_run ao cap W hm hW (ha.on hb) hd
 unfold pieE at CP
 unfold atH vecE
 by_cases hr : rdyT t (inM m24 d) = 0
 · rw [if_pos hr] at CP
   rw [if_pos hr]
   obtain ⟨c0, c1, c2⟩ := rdyT_zero hr
   have KO := chkT_zero c0
   have P := pl_ok (y_ok KO hW hd c1) c2
   have M := row_may (KO.row _ P.row)
   have hx := pl_m00 P
   have CV0 : Hid (∀ v W, FsAt W v (cfT t.rows (plc t d).1 0) → Calls Tryz.prog 111 #[v, .float .f64 (plc t d).2] W fun e w' => e = .returned (.float .f64 (vH (cfT t.rows (plc t d).1 0) (plc t d).2)) ∧ Below W.heap.size W w') := Lib.hid fun v W h => cvalue_run W (hW.w _ _) M.1 P.nz.fin.1 hx h
   have CV1 : Hid (∀ v W, FsAt W v (cfT t.rows (plc t d).1 1) → Calls Tryz.prog 111 #[v, .float .f64 (plc t d).2] W fun e w' => e = .returned (.float .f64 (vH (cfT t.rows (plc t d).1 1) (plc t d).2)) ∧ Below W.heap.size W w') := Lib.hid fun v W h => cvalue_run W (hW.w _ _) M.2.1 P.nz.fin.1 hx h
   have CV2 : Hid (∀ v W, FsAt W v (cfT t.rows (plc t d).1 2) → Calls Tryz.prog 111 #[v, .float .f64 (plc t d).2] W fun e w' => e = .returned (.float .f64 (vH (cfT t.rows (plc t d).1 2) (plc t d).2)) ∧ Below W.heap.size W w') := Lib.hid fun v W h => cvalue_run W (hW.w _ _) M.2.2 P.nz.fin.1 hx h
   have hi := P.row
   unfold rwH
   replace ha := Lib.hid ha
   clear hm hW hr c0 c1 c2 KO P M hx hd
   generalize plc t d = P at *
   obtain ⟨i, x⟩ := P
   obtain ⟨fr, st, R⟩ := t
   unfold tbV vecV at *
   dsimp only at *
   generalize vH (cfT R i 0) x = y0 at *
   generalize vH (cfT R i 1) x = y1 at *
   generalize vH (cfT R i 2) x = y2 at *
   generalize hn : R.length = n at *
   replace hn := Lib.hid hn
   obtain ⟨bb, oo, u0, u1, u2, rfl, hbl, c0, c1, c2, f0, f1, f2⟩ := ha.out i (by rw [hn.out]; exact hi)
   have V0 : Hid (∀ W, Below w.heap.size w W → Calls Tryz.prog 111 #[u0, .float .f64 x] W fun e w' => e = .returned (.float .f64 y0) ∧ Below W.heap.size W w') := Lib.hid fun W hb => CV0.out _ W (f0.on hb)
   have V1 : Hid (∀ W, Below w.heap.size w W → Calls Tryz.prog 111 #[u1, .float .f64 x] W fun e w' => e = .returned (.float .f64 y1) ∧ Below W.heap.size W w') := Lib.hid fun W hb => CV1.out _ W (f1.on hb)
   have V2 : Hid (∀ W, Below w.heap.size w W → Calls Tryz.prog 111 #[u2, .float .f64 x] W fun e w' => e = .returned (.float .f64 y2) ∧ Below W.heap.size W w') := Lib.hid fun W hb => CV2.out _ W (f2.on hb)
   obtain ⟨a0, p0, rfl, -⟩ := f0
   obtain ⟨a1, p1, rfl, -⟩ := f1
   obtain ⟨a2, p2, rfl, -⟩ := f2
   generalize (cfT R i 0).length = l0 at *
   generalize (cfT R i 1).length = l1 at *
   generalize (cfT R i 2).length = l2 at *
   replace c0 := Lib.hid c0
   replace c1 := Lib.hid c1
   replace c2 := Lib.hid c2
   clear CV0 CV1 CV2 ha
   have K0 := kv2 w 49 41 [.float .f64 fr, .float .f64 st, .slice (some ⟨bb, oo, none⟩) n cap] [.float .f64 0, .float .f64 0, .float .f64 0]
   simp only [objV] at K0
   have hst := @fstore
   replace K0 := Lib.hid K0
   go_enter Tryz.func59, Tryz.ntmps59
   go_wp2_with fail
   have K := K0.out
   clear K0
   generalize (w.alloc _).alloc _ = wr at *
   refine (CP.out wr K.old).mono ?_
   rintro _ w1 ⟨rfl, hb⟩
   replace K := K.on hb
   clear hb CP
   replace c0 := (K.old.cell (p := ⟨bb, _, none⟩) hbl).trans c0.out
   replace c1 := (K.old.cell (p := ⟨bb, _, none⟩) hbl).trans c1.out
   replace c2 := (K.old.cell (p := ⟨bb, _, none⟩) hbl).trans c2.out
   have k0_0 := (K.at_ 0 rfl).at_ 0 _ rfl
   have k0_1 := (K.at_ 0 rfl).at_ 1 _ rfl
   have k0_2 := (K.at_ 0 rfl).at_ 2 _ rfl
   have hi2 : (i : Int) < (n : Int) := by omega
   clear hbl
   replace K := K.new 68 [.slice a0 l0 p0, .slice a1 l1 p1, .slice a2 l2 p2]
   simp only [objV, List.cons_append, List.nil_append] at K
   replace K := Lib.hid K
   go_upto_region 5 with fail
   replace K := K.out
   clear c0 c1 c2 k0_0 k0_1 k0_2
   generalize w1.alloc _ = wq at *
   generalize w1.heap.size = g1 at *
   generalize hds : ([some 26, some 27, some 28, some 29, some 30, some 31, some 32, some 33, some 34, some 35, some 36, some 37, some 38, none, some 5] : List (Option Tmp)) = ds
   have hap : apartL ds = true := by rw [← hds]; decide
   replace hds := hds.symm
   refine wp_region_kv (fun hf => [some (w.heap.size, [.float .f64 fr, .float .f64 st, .slice (some ⟨bb, oo, none⟩) n cap]), some (w.heap.size + 1, [.float .f64 y0, .float .f64 y1, .float .f64 y2]), some (g1, [.slice a0 l0 p0, .slice a1 l1 p1, .slice a2 l2 p2])]) (fun hf => [some (.pointer (some ⟨g1, 0, none⟩)), some (.slice a0 l0 p0), some (.float .f64 x), some (.float .f64 y0), some (.pointer (some ⟨g1, 1, none⟩)), some (.slice a1 l1 p1), some (.float .f64 x), some (.float .f64 y1), some (.pointer (some ⟨g1, 2, none⟩)), some (.slice a2 l2 p2), some (.float .f64 x), some (.float .f64 y2), some (.agg #[.float .f64 y0, .float .f64 y1, .float .f64 y2]), some (undef), some (.int .i64 0)]) [] [⟨13, 1, 0, [.float .f64 y0, .float .f64 y1, .float .f64 y2]⟩] [.pointer (some ⟨g1, 0, none⟩), .slice a0 l0 p0, .float .f64 x, .float .f64 y0, .pointer (some ⟨g1, 1, none⟩), .slice a1 l1 p1, .float .f64 x, .float .f64 y1, .pointer (some ⟨g1, 2, none⟩), .slice a2 l2 p2, .float .f64 x, .float .f64 y2, .agg #[.float .f64 y0, .float .f64 y1, .float .f64 y2], undef, .int .i64 0] ds (by kernel_rfl) (by rw [hds]; rfl) hap (by decide +kernel) (by decide +kernel) K ?ha ?haj ?hai ?hsi ?hss ?hsa ?hsw ?htg ?hE2 ?hE3 ?hE4 ?hL1 ?hL2 ?hL3 ?alloc ?step ?store ?fin
   case ha => intro al hal; cases hal
   case haj => intro al hal al' hal' e; cases hal
   case hai => intro al hal; cases hal
   case hsi => intro st hst st' hst' e; rcases List.mem_singleton.1 hst with rfl <;> (rcases List.mem_singleton.1 hst' with rfl) <;> first | rfl | (exfalso; revert e; simp)
   case hss =>
    intro st hst
    rcases List.mem_singleton.1 hst with rfl
    · show 13 < 15; decide
   case hsa =>
    intro st hst al hal
    cases hal
   case hsw =>
    intro st hst al hal e
    cases hal
   case htg =>
    intro st hst
    rcases List.mem_singleton.1 hst with rfl
    · exact .inl ⟨_, _, rfl, show 0 + 3 ≤ 3 by decide⟩
   case hE2 =>
    intro hf j h1 h2
    have n1 : 1 ≠ j := h1 _ (List.mem_cons_self ..)
    rcases j with _ | _ | _ | j
    · rfl
    · exact absurd rfl n1
    · rfl
    · rfl
   case hE3 =>
    intro hf st hst g us e
    rcases List.mem_singleton.1 hst with rfl
    · obtain ⟨rfl, rfl⟩ := Prod.mk.inj (Option.some.inj (Option.some.inj e)); rfl
   case hE4 =>
    intro hf al hal
    cases hal
   case hL1 => intro hf; rfl
   case hL2 =>
    intro hf i hi hna
    have hi : i < 15 := hi
    have : i = 0 ∨ i = 1 ∨ i = 2 ∨ i = 3 ∨ i = 4 ∨ i = 5 ∨ i = 6 ∨ i = 7 ∨ i = 8 ∨ i = 9 ∨ i = 10 ∨ i = 11 ∨ i = 12 ∨ i = 13 ∨ i = 14 := by omega
    rcases this with rfl | rfl | rfl | rfl | rfl | rfl | rfl | rfl | rfl | rfl | rfl | rfl | rfl | rfl | rfl
    · rfl
    · rfl
    · rfl
    · rfl
    · rfl
    · rfl
    · rfl
    · rfl
    · rfl
    · rfl
    · rfl
    · rfl
    · rfl
    · rfl
    · rfl
   case hL3 => intro hf al hal; cases hal
   case alloc =>
    intro al hal o ρ W ho
    cases hal
   case step =>
    intro L W i o ho hs ha hd hB hO
    have hi : i < 15 := (Array.getElem?_eq_some_iff.1 ho).1
    have : i = 0 ∨ i = 1 ∨ i = 2 ∨ i = 3 ∨ i = 4 ∨ i = 5 ∨ i = 6 ∨ i = 7 ∨ i = 8 ∨ i = 9 ∨ i = 10 ∨ i = 11 ∨ i = 12 ∨ i = 13 ∨ i = 14 := by omega
    rcases this with rfl | rfl | rfl | rfl | rfl | rfl | rfl | rfl | rfl | rfl | rfl | rfl | rfl | rfl | rfl
    · obtain rfl := Option.some.inj ho
      refine .value W ?_ (Below.refl _ _)
      generalize hA : (puts ds L _).eval = ρ
      have hc : ∀ v, ρ (.const v) = v := fun v => by rw [← hA]; rfl
      have h0 : ρ (.tmp 9) = .pointer (some ⟨g1, 0, none⟩) := (po hA (by rw [hds]; decide)).trans rfl
      clear hA hd hB ho hs ha hO
      unfold execOp
      go_simp
    · obtain rfl := Option.some.inj ho
      have b := hB 2 _ _ rfl (by
       intro st hst e
       rcases List.mem_singleton.1 hst with rfl
       · exact absurd e (show ¬ 1 = 2 by decide))
      have c0 := b.at_ 0 _ rfl
      clear b
      refine .value W ?_ (Below.refl _ _)
      generalize hA : (puts ds L _).eval = ρ
      have h0 : ρ (.tmp 26) = .pointer (some ⟨g1, 0, none⟩) := pg 0 hA hap (by rw [hds]; rfl) (hd 0 (by decide +kernel) (alne rfl)) (show 26 < 39 by decide)
      clear hA hd hB ho hs ha hO
      unfold execOp
      go_simp
    · obtain rfl := Option.some.inj ho
      refine .value W ?_ (Below.refl _ _)
      generalize hA : (puts ds L _).eval = ρ
      have hc : ∀ v, ρ (.const v) = v := fun v => by rw [← hA]; rfl
      have h0 : ρ (.tmp 7) = .float .f64 x := (po hA (by rw [hds]; decide)).trans rfl
      clear hA hd hB ho hs ha hO
      unfold execOp
      go_simp
    · obtain rfl := Option.some.inj ho
      refine .call 111 #[.slice a0 l0 p0, .float .f64 x] ?_ (V0.out W hO)
      generalize hA : (puts ds L _).eval = ρ
      have hg : ∀ g, ρ (.func g) = .func (.func g) #[] #[] := fun v => by rw [← hA]; rfl
      have h0 : ρ (.tmp 27) = .slice a0 l0 p0 := pg 1 hA hap (by rw [hds]; rfl) (hd 1 (by decide +kernel) (alne rfl)) (show 27 < 39 by decide)
      have h1 : ρ (.tmp 28) = .float .f64 x := pg 2 hA hap (by rw [hds]; rfl) (hd 2 (by decide +kernel) (alne rfl)) (show 28 < 39 by decide)
      have hf := Tryz.func111
      unfold execOp
      go_simp
    · obtain rfl := Option.some.inj ho
      refine .value W ?_ (Below.refl _ _)
      generalize hA : (puts ds L _).eval = ρ
      have hc : ∀ v, ρ (.const v) = v := fun v => by rw [← hA]; rfl
      have h0 : ρ (.tmp 9) = .pointer (some ⟨g1, 0, none⟩) := (po hA (by rw [hds]; decide)).trans rfl
      clear hA hd hB ho hs ha hO
      unfold execOp
      go_simp
    · obtain rfl := Option.some.inj ho
      have b := hB 2 _ _ rfl (by
       intro st hst e
       rcases List.mem_singleton.1 hst with rfl
       · exact absurd e (show ¬ 1 = 2 by decide))
      have c1 := b.at_ 1 _ rfl
      clear b
      refine .value W ?_ (Below.refl _ _)
      generalize hA : (puts ds L _).eval = ρ
      have h0 : ρ (.tmp 30) = .pointer (some ⟨g1, 1, none⟩) := pg 4 hA hap (by rw [hds]; rfl) (hd 4 (by decide +kernel) (alne rfl)) (show 30 < 39 by decide)
      clear hA hd hB ho hs ha hO
      unfold execOp
      go_simp
    · obtain rfl := Option.some.inj ho
      refine .value W ?_ (Below.refl _ _)
      generalize hA : (puts ds L _).eval = ρ
      have hc : ∀ v, ρ (.const v) = v := fun v => by rw [← hA]; rfl
      have h0 : ρ (.tmp 7) = .float .f64 x := (po hA (by rw [hds]; decide)).trans rfl
      clear hA hd hB ho hs ha hO
      unfold execOp
      go_simp
    · obtain rfl := Option.some.inj ho
      refine .call 111 #[.slice a1 l1 p1, .float .f64 x] ?_ (V1.out W hO)
      generalize hA : (puts ds L _).eval = ρ
      have hg : ∀ g, ρ (.func g) = .func (.func g) #[] #[] := fun v => by rw [← hA]; rfl
      have h0 : ρ (.tmp 31) = .slice a1 l1 p1 := pg 5 hA hap (by rw [hds]; rfl) (hd 5 (by decide +kernel) (alne rfl)) (show 31 < 39 by decide)
      have h1 : ρ (.tmp 32) = .float .f64 x := pg 6 hA hap (by rw [hds]; rfl) (hd 6 (by decide +kernel) (alne rfl)) (show 32 < 39 by decide)
      have hf := Tryz.func111
      unfold execOp
      go_simp
    · obtain rfl := Option.some.inj ho
      refine .value W ?_ (Below.refl _ _)
      generalize hA : (puts ds L _).eval = ρ
      have hc : ∀ v, ρ (.const v) = v := fun v => by rw [← hA]; rfl
      have h0 : ρ (.tmp 9) = .pointer (some ⟨g1, 0, none⟩) := (po hA (by rw [hds]; decide)).trans rfl
      clear hA hd hB ho hs ha hO
      unfold execOp
      go_simp
    · obtain rfl := Option.some.inj ho
      have b := hB 2 _ _ rfl (by
       intro st hst e
       rcases List.mem_singleton.1 hst with rfl
       · exact absurd e (show ¬ 1 = 2 by decide))
      have c2 := b.at_ 2 _ rfl
      clear b
      refine .value W ?_ (Below.refl _ _)
      generalize hA : (puts ds L _).eval = ρ
      have h0 : ρ (.tmp 34) = .pointer (some ⟨g1, 2, none⟩) := pg 8 hA hap (by rw [hds]; rfl) (hd 8 (by decide +kernel) (alne rfl)) (show 34 < 39 by decide)
      clear hA hd hB ho hs ha hO
      unfold execOp
      go_simp
    · obtain rfl := Option.some.inj ho
      refine .value W ?_ (Below.refl _ _)
      generalize hA : (puts ds L _).eval = ρ
      have hc : ∀ v, ρ (.const v) = v := fun v => by rw [← hA]; rfl
      have h0 : ρ (.tmp 7) = .float .f64 x := (po hA (by rw [hds]; decide)).trans rfl
      clear hA hd hB ho hs ha hO
      unfold execOp
      go_simp
    · obtain rfl := Option.some.inj ho
      refine .call 111 #[.slice a2 l2 p2, .float .f64 x] ?_ (V2.out W hO)
      generalize hA : (puts ds L _).eval = ρ
      have hg : ∀ g, ρ (.func g) = .func (.func g) #[] #[] := fun v => by rw [← hA]; rfl
      have h0 : ρ (.tmp 35) = .slice a2 l2 p2 := pg 9 hA hap (by rw [hds]; rfl) (hd 9 (by decide +kernel) (alne rfl)) (show 35 < 39 by decide)
      have h1 : ρ (.tmp 36) = .float .f64 x := pg 10 hA hap (by rw [hds]; rfl) (hd 10 (by decide +kernel) (alne rfl)) (show 36 < 39 by decide)
      have hf := Tryz.func111
      unfold execOp
      go_simp
    · obtain rfl := Option.some.inj ho
      refine .value W ?_ (Below.refl _ _)
      generalize hA : (puts ds L _).eval = ρ
      have hc : ∀ v, ρ (.const v) = v := fun v => by rw [← hA]; rfl
      have h0 : ρ (.tmp 29) = .float .f64 y0 := pg 3 hA hap (by rw [hds]; rfl) (hd 3 (by decide +kernel) (alne rfl)) (show 29 < 39 by decide)
      have h1 : ρ (.tmp 33) = .float .f64 y1 := pg 7 hA hap (by rw [hds]; rfl) (hd 7 (by decide +kernel) (alne rfl)) (show 33 < 39 by decide)
      have h2 : ρ (.tmp 37) = .float .f64 y2 := pg 11 hA hap (by rw [hds]; rfl) (hd 11 (by decide +kernel) (alne rfl)) (show 37 < 39 by decide)
      clear hA hd hB ho hs ha hO
      unfold execOp
      go_simp
    · exact absurd rfl (hs _ (List.mem_cons_self ..))
    · obtain rfl := Option.some.inj ho
      refine .value W ?_ (Below.refl _ _)
      generalize hA : (puts ds L _).eval = ρ
      have hc : ∀ v, ρ (.const v) = v := fun v => by rw [← hA]; rfl
      clear hA hd hB ho hs ha hO
      unfold execOp
      go_simp
   case store =>
    intro st hst L W o h us ho hd hal hC b
    rcases List.mem_singleton.1 hst with rfl
    · dsimp only at ho hd hal hC b ⊢
      obtain rfl := Option.some.inj ho
      obtain ⟨hh, rfl⟩ := hC _ _ rfl
      replace hh := hh.symm
      subst hh
      have c0 := b.at_ 0 _ rfl
      have f0 := b.fr 0 _ rfl
      have c1 := b.at_ 1 _ rfl
      have f1 := b.fr 1 _ rfl
      have c2 := b.at_ 2 _ rfl
      have f2 := b.fr 2 _ rfl
      refine ⟨?_, rfl⟩
      generalize hA : (puts ds L _).eval = ρ
      have h0 : ρ (.tmp 4) = .pointer (some ⟨w.heap.size + 1, 0, none⟩) := (po hA (by rw [hds]; decide)).trans rfl
      have h1 : ρ (.tmp 38) = .agg #[.float .f64 y0, .float .f64 y1, .float .f64 y2] := pg 12 hA hap (by rw [hds]; rfl) (hd 12 (by decide +kernel) (alne rfl)) (show 38 < 39 by decide)
      have hst' := @fstore
      clear hA hd b ho hal hC
      simp only [putV]
      unfold execOp
      go_simp
   case fin =>
    intro hf W0 K
    rw [hds]
    clear hds hap ds V0 V1 V2
    (try dsimp only at K)
    simp only [List.set_cons_zero, List.set_cons_succ, puts, Act.put, List.setIfInBounds_toArray]
    have c1_0 := (K.at_ 1 rfl).at_ 0 _ rfl
    have c1_1 := (K.at_ 1 rfl).at_ 1 _ rfl
    have c1_2 := (K.at_ 1 rfl).at_ 2 _ rfl
    replace K := Lib.hid K
    go_wp2_with fail
    replace K := K.out
    (try simp only [Exit.inBlock, Exit.then])
    refine bodyPost_ret (v := .tuple #[.agg #[.float .f64 y0, .float .f64 y1, .float .f64 y2], .int .i64 0]) ?_ rfl ⟨rfl, K.old⟩
    rw [results_cell_tmp rfl]; go_simp
 · rw [if_neg hr] at CP
   rw [if_neg hr]
   generalize rdyT t (inM m24 d) = k at *
   have tk : (k != 0) = true := by simpa using hr
   clear hm hW ha hr hd
   obtain ⟨fr, st, R⟩ := t
   unfold tbV vecV z3 at *
   dsimp only at *
   generalize R.length = n at *
   have K0 := kv2 w 49 41 [.float .f64 fr, .float .f64 st, .slice ao n cap] [.float .f64 0, .float .f64 0, .float .f64 0]
   simp only [objV] at K0
   have hst := @fstore
   replace K0 := Lib.hid K0
   go_enter Tryz.func59, Tryz.ntmps59
   go_wp2_with fail
   have K := K0.out
   clear K0
   generalize (w.alloc _).alloc _ = wr at *
   refine (CP.out wr K.old).mono ?_
   rintro _ w1 ⟨rfl, hb⟩
   replace K := K.on hb
   clear hb CP
   have c1_0 := (K.at_ 1 rfl).at_ 0 _ rfl
   have f1_0 := (K.at_ 1 rfl).fr 0 _ rfl
   have c1_1 := (K.at_ 1 rfl).at_ 1 _ rfl
   have f1_1 := (K.at_ 1 rfl).fr 1 _ rfl
   have c1_2 := (K.at_ 1 rfl).at_ 2 _ rfl
   have f1_2 := (K.at_ 1 rfl).fr 2 _ rfl
   replace K := Lib.hid K
   go_wp2_with fail
   replace K := K.out
   (try simp only [Exit.inBlock, Exit.then])
   refine bodyPost_ret (v := .tuple #[.agg #[.float .f64 0, .float .f64 0, .float .f64 0], .int .i64 k]) ?_ rfl ⟨rfl, ?_⟩
   · rw [results_cell_tmp rfl]; go_simp
   · exact (((K.old).setCell (by first | exact Nat.le_refl _ | omega | (dsimp only; omega)) _).setCell (by first | exact Nat.le_refl _ | omega | (dsimp only; omega)) _).setCell (by first | exact Nat.le_refl _ | omega | (dsimp only; omega)) _
end Go.Proofs.YtacinenddnfcbaaGreat

namespace Go.Proofs.YtacinenddnfcbaaGreat
open Go.ChangeShapes Go.WideShapes Go.ChangeAt Go.RowKit Ieee.Own

end Go.Proofs.YtacinenddnfcbaaGreat

namespace Go.Proofs.YtacinenddnfcbaaGreat
open Go.ChangeShapes Go.WideShapes Go.ChangeAt Go.RowKit Ieee.Own

end Go.Proofs.YtacinenddnfcbaaGreat

namespace Go.Proofs.YtacinenddnfcbaaGreat
open Go.ChangeShapes Go.WideShapes Go.ChangeAt Go.RowKit Ieee.Own Pol

end Go.Proofs.YtacinenddnfcbaaGreat

namespace Go.Proofs.YtacinenddnfcbaaGreat
open Go.ChangeShapes Go.WideShapes Go.ChangeAt Go.RowKit Ieee.Own Pol

end Go.Proofs.YtacinenddnfcbaaGreat

namespace Go.Proofs.YtacinenddnfcbaaGreat
open Go.ChangeShapes Go.WideShapes Go.ChangeAt Go.RowKit Ieee.Own Pol

end Go.Proofs.YtacinenddnfcbaaGreat

namespace Go.Proofs.YtacinenddnfcbaaGreat
open Go.ChangeShapes Go.WideShapes Go.ChangeAt Go.RowKit Ieee.Own

end Go.Proofs.YtacinenddnfcbaaGreat

namespace Go.Proofs.YtacinenddnfcbaaGreat
open Go.ChangeShapes Go.WideShapes Go.ChangeAt Go.RowKit Ieee.Own

abbrev B6 := Pr × Pr × Pr
structure W2 (p : Pr) : Prop where
 l1 : p.1 < 18446744073709551616
 l2 : p.2 < 18446744073709551616
def z6 : B6 := ((0, 0), (0, 0), (0, 0))
end Go.Proofs.YtacinenddnfcbaaGreat

namespace Go.Proofs.YtacinenddnfcbaaGreat
open Go.ChangeShapes Go.WideShapes Go.ChangeAt Go.RowKit Ieee.Own Pol

def subT (T : List (List (List Nat))) (i n : Nat) : List (List (List Nat)) := (T.drop i).take n
theorem sub_len {T : List (List (List Nat))} {i n : Nat} (h : i + n ≤ T.length) : (subT T i n).length = n := by unfold subT; simp; omega
theorem sub_cf {T : List (List (List Nat))} {i n q : Nat} (hq : q < n) (k : Nat) : cfT (subT T i n) q k = cfT T (i + q) k := by
 unfold cfT subT
 congr 1
 simp only [List.getD]
 rw [List.getElem?_take_of_lt hq, List.getElem?_drop]
theorem TbAt.sub {w : World} {b o : Nat} {T : List (List (List Nat))} {i n : Nat} (h : TbAt w (some ⟨b, o, none⟩) T) (hl : i + n ≤ T.length) : TbAt w (some ⟨b, o + i * 3, none⟩) (subT T i n) := by
 intro q hq
 rw [sub_len hl] at hq
 obtain ⟨b', o', v0, v1, v2, e, hb, c0, c1, c2, f0, f1, f2⟩ := h (i + q) (by omega)
 simp only [Option.some.injEq, Addr.mk.injEq, and_true] at e
 obtain ⟨rfl, rfl⟩ := e
 rw [sub_cf hq, sub_cf hq, sub_cf hq]
 have ea : o + i * 3 + q * 3 = o + (i + q) * 3 := by omega
 exact ⟨b, o + i * 3, v0, v1, v2, rfl, hb, by rw [ea]; exact c0, by rw [ea]; exact c1, by rw [ea]; exact c2, f0, f1, f2⟩
end Go.Proofs.YtacinenddnfcbaaGreat

namespace Go.Proofs.YtacinenddnfcbaaGreat
open Go.ChangeShapes Go.WideShapes Go.ChangeAt Go.RowKit

theorem feq_gen {P : Program} {t : TypeId} {k' : FloatKind} (d : Nat) (a b : Nat) (w : World) (h : P.underlying t = some (.float k')) : (Op.equalIn (d + 1) t (.float .f64 a) (.float .f64 b)).run P w = .ok (FloatKind.f64.format.order a b == some Ordering.eq) w := by
 simp [Op.equalIn, run_underlying h]
 rfl
theorem feq_run (a b : Nat) (w : World) : (Op.equalIn 9999 22 (.float .f64 a) (.float .f64 b)).run Tryz.prog w = .ok (FloatKind.f64.format.order a b == some Ordering.eq) w := feq_gen 9998 a b w Tryz.underlying22
end Go.Proofs.YtacinenddnfcbaaGreat

namespace Go.Proofs.YtacinenddnfcbaaGreat
open Go.ChangeShapes Go.WideShapes Go.ChangeAt Go.RowKit Ieee.Own

structure Fr where
 up : Int
 ax : Int
 ph : Nat
 rt : Nat
 o1 : Nat
 o2 : Nat
 o3 : Nat
def Fr.og (f : Fr) : V3 := (f.o1, f.o2, f.o3)
def frC (f : Fr) : List Value := [.int .i64 f.up, .int .i64 f.ax, .float .f64 f.ph, .float .f64 f.rt, .float .f64 f.o1, .float .f64 f.o2, .float .f64 f.o3]
def frV (f : Fr) : Value := .agg #[.int .i64 f.up, .int .i64 f.ax, .float .f64 f.ph, .float .f64 f.rt, .float .f64 f.o1, .float .f64 f.o2, .float .f64 f.o3]
structure FrW (f : Fr) : Prop where
 ph : f.ph < 18446744073709551616
 rt : f.rt < 18446744073709551616
 o1 : f.o1 < 18446744073709551616
 o2 : f.o2 < 18446744073709551616
 o3 : f.o3 < 18446744073709551616
def witB (c x : Nat) : Bool := decide (fitB x = true ∧ x % 9223372036854775808 ≤ c)
def g10 : Nat := 4652218415073722368
def g40 : Nat := 4787326403894837248
def g24 : Nat := 4715268809856909312
theorem fwit_run (c x : Nat) (hc : c < 9218868437227405312) (hx : x < 18446744073709551616) (w : World) :
 Calls Tryz.prog 56 #[.float .f64 x, .float .f64 c] w fun e w' => e = .returned (.bool (witB c x)) ∧ w = w' := by
 have CF := fun w => fit_any x hx w
 have CA := fun w => abs_any x hx w
 have g := o_leq (x % 9223372036854775808) c (by omega) (by omega)
 by_cases h1 : fitB x = true
 · have fn := fit_fin hx h1
   have m := fn.2
   rw [key_low (by omega), key_low (by omega)] at g
   rw [h1] at CF
   by_cases h2 : x % 9223372036854775808 ≤ c
   · have e : witB c x = true := by unfold witB; rw [decide_eq_true_eq]; exact ⟨h1, h2⟩
     rw [e]
     rw [decide_eq_true (by unfold nn; omega)] at g
     clear hx h1 fn m h2 e hc
     generalize x % 9223372036854775808 = y at *
     go_enter Tryz.func56, Tryz.ntmps56
     go_wp2_with (first | (go_at_call 72; ((with_reducible refine (CF _).mono ?_); rintro e w' ⟨rfl, rfl⟩)) | (go_at_call 37; ((with_reducible refine (CA _).mono ?_); rintro e w' ⟨rfl, rfl⟩)))
     go_ret
     exact ⟨rfl, rfl⟩
   · have e : witB c x = false := by unfold witB; rw [decide_eq_false_iff_not]; exact fun h => h2 h.2
     rw [e]
     rw [decide_eq_false (by omega)] at g
     clear hx h1 fn m h2 e hc
     generalize x % 9223372036854775808 = y at *
     go_enter Tryz.func56, Tryz.ntmps56
     go_wp2_with (first | (go_at_call 72; ((with_reducible refine (CF _).mono ?_); rintro e w' ⟨rfl, rfl⟩)) | (go_at_call 37; ((with_reducible refine (CA _).mono ?_); rintro e w' ⟨rfl, rfl⟩)))
     go_ret
     exact ⟨rfl, rfl⟩
 · have e : witB c x = false := by unfold witB; rw [decide_eq_false_iff_not]; exact fun h => h1 h.1
   rw [Bool.not_eq_true] at h1
   rw [h1] at CF
   rw [e]
   clear hx h1 e g hc
   go_enter Tryz.func56, Tryz.ntmps56
   go_wp2_with (first | (go_at_call 72; ((with_reducible refine (CF _).mono ?_); rintro e w' ⟨rfl, rfl⟩)) | (go_at_call 37; ((with_reducible refine (CA _).mono ?_); rintro e w' ⟨rfl, rfl⟩)))
   go_ret
   exact ⟨rfl, rfl⟩
theorem ftime_run (x : Nat) (hx : x < 18446744073709551616) (w : World) :
 Calls Tryz.prog 31 #[.float .f64 x] w fun e w' => e = .returned (.bool (witB g24 x)) ∧ w = w' := by
 have C := fun w => fwit_run 4715268809856909312 x (by omega) hx w
 unfold g24
 generalize witB 4715268809856909312 x = b at *
 clear hx
 go_enter Tryz.func31, Tryz.ntmps31
 go_wp2_with (go_at_call 56; ((with_reducible refine (C _).mono ?_); rintro e w' ⟨rfl, rfl⟩))
 go_ret
 exact ⟨rfl, rfl⟩
def mayB (f : Fr) (i : Int) : Bool := decide (-1 ≤ f.up) && (decide (f.up < i) && (decide (0 ≤ f.ax) && (decide (f.ax ≤ 2) && (witB g10 f.ph && (witB g10 f.rt && (witB g40 f.o1 && (witB g40 f.o2 && witB g40 f.o3)))))))
theorem may_run {f : Fr} (h : FrW f) (i : Int) (w : World) : Calls Tryz.prog 131 #[frV f, .int .i64 i] w fun e w' => e = .returned (.bool (mayB f i)) ∧ Below w.heap.size w w' := by
 have C0 := fun w => fwit_run 4652218415073722368 f.ph (by omega) h.ph w
 have C1 := fun w => fwit_run 4652218415073722368 f.rt (by omega) h.rt w
 have C2 := fun w => fwit_run 4787326403894837248 f.o1 (by omega) h.o1 w
 have C3 := fun w => fwit_run 4787326403894837248 f.o2 (by omega) h.o2 w
 have C4 := fun w => fwit_run 4787326403894837248 f.o3 (by omega) h.o3 w
 clear h
 unfold mayB frV g10 g40
 generalize witB 4652218415073722368 f.ph = b0 at *
 generalize witB 4652218415073722368 f.rt = b1 at *
 generalize witB 4787326403894837248 f.o1 = b2 at *
 generalize witB 4787326403894837248 f.o2 = b3 at *
 generalize witB 4787326403894837248 f.o3 = b4 at *
 obtain ⟨up, ax, ph, rt, o1, o2, o3⟩ := f
 dsimp only at *
 have K := kv1 w 91 [.int .i64 up, .int .i64 ax, .float .f64 ph, .float .f64 rt, .float .f64 o1, .float .f64 o2, .float .f64 o3]
 simp only [objV] at K
 have c0 := (K.at_ 0 rfl).at_ 0 _ rfl
 have c1 := (K.at_ 0 rfl).at_ 1 _ rfl
 have c2 := (K.at_ 0 rfl).at_ 2 _ rfl
 have c3 := (K.at_ 0 rfl).at_ 3 _ rfl
 have c4 := (K.at_ 0 rfl).at_ 4 _ rfl
 have c5 := (K.at_ 0 rfl).at_ 5 _ rfl
 have c6 := (K.at_ 0 rfl).at_ 6 _ rfl
 replace K := Lib.hid K
 by_cases h0 : -1 ≤ up
 · rw [decide_eq_true h0]
   by_cases h1 : up < i
   · rw [decide_eq_true h1]
     by_cases h2 : 0 ≤ ax
     · rw [decide_eq_true h2]
       by_cases h3 : ax ≤ 2
       · rw [decide_eq_true h3]
         cases hb0 : b0 with
         | true =>
           subst hb0
           cases hb1 : b1 with
           | true =>
             subst hb1
             cases hb2 : b2 with
             | true =>
               subst hb2
               cases hb3 : b3 with
               | true =>
                 subst hb3
                 cases hb4 : b4 with
                 | true =>
                   subst hb4
                   go_enter Tryz.func131, Tryz.ntmps131
                   go_wp2_with (first | (go_at_call 56; ((with_reducible refine (C0 _).mono ?_); rintro e w' ⟨rfl, rfl⟩)) | (go_at_call 56; ((with_reducible refine (C1 _).mono ?_); rintro e w' ⟨rfl, rfl⟩)) | (go_at_call 56; ((with_reducible refine (C2 _).mono ?_); rintro e w' ⟨rfl, rfl⟩)) | (go_at_call 56; ((with_reducible refine (C3 _).mono ?_); rintro e w' ⟨rfl, rfl⟩)) | (go_at_call 56; ((with_reducible refine (C4 _).mono ?_); rintro e w' ⟨rfl, rfl⟩)))
                   replace K := K.out
                   go_ret
                   exact ⟨rfl, K.old⟩
                 | false =>
                   subst hb4
                   go_enter Tryz.func131, Tryz.ntmps131
                   go_wp2_with (first | (go_at_call 56; ((with_reducible refine (C0 _).mono ?_); rintro e w' ⟨rfl, rfl⟩)) | (go_at_call 56; ((with_reducible refine (C1 _).mono ?_); rintro e w' ⟨rfl, rfl⟩)) | (go_at_call 56; ((with_reducible refine (C2 _).mono ?_); rintro e w' ⟨rfl, rfl⟩)) | (go_at_call 56; ((with_reducible refine (C3 _).mono ?_); rintro e w' ⟨rfl, rfl⟩)) | (go_at_call 56; ((with_reducible refine (C4 _).mono ?_); rintro e w' ⟨rfl, rfl⟩)))
                   replace K := K.out
                   go_ret
                   exact ⟨rfl, K.old⟩
               | false =>
                 subst hb3
                 go_enter Tryz.func131, Tryz.ntmps131
                 go_wp2_with (first | (go_at_call 56; ((with_reducible refine (C0 _).mono ?_); rintro e w' ⟨rfl, rfl⟩)) | (go_at_call 56; ((with_reducible refine (C1 _).mono ?_); rintro e w' ⟨rfl, rfl⟩)) | (go_at_call 56; ((with_reducible refine (C2 _).mono ?_); rintro e w' ⟨rfl, rfl⟩)) | (go_at_call 56; ((with_reducible refine (C3 _).mono ?_); rintro e w' ⟨rfl, rfl⟩)) | (go_at_call 56; ((with_reducible refine (C4 _).mono ?_); rintro e w' ⟨rfl, rfl⟩)))
                 replace K := K.out
                 go_ret
                 exact ⟨rfl, K.old⟩
             | false =>
               subst hb2
               go_enter Tryz.func131, Tryz.ntmps131
               go_wp2_with (first | (go_at_call 56; ((with_reducible refine (C0 _).mono ?_); rintro e w' ⟨rfl, rfl⟩)) | (go_at_call 56; ((with_reducible refine (C1 _).mono ?_); rintro e w' ⟨rfl, rfl⟩)) | (go_at_call 56; ((with_reducible refine (C2 _).mono ?_); rintro e w' ⟨rfl, rfl⟩)) | (go_at_call 56; ((with_reducible refine (C3 _).mono ?_); rintro e w' ⟨rfl, rfl⟩)) | (go_at_call 56; ((with_reducible refine (C4 _).mono ?_); rintro e w' ⟨rfl, rfl⟩)))
               replace K := K.out
               go_ret
               exact ⟨rfl, K.old⟩
           | false =>
             subst hb1
             go_enter Tryz.func131, Tryz.ntmps131
             go_wp2_with (first | (go_at_call 56; ((with_reducible refine (C0 _).mono ?_); rintro e w' ⟨rfl, rfl⟩)) | (go_at_call 56; ((with_reducible refine (C1 _).mono ?_); rintro e w' ⟨rfl, rfl⟩)) | (go_at_call 56; ((with_reducible refine (C2 _).mono ?_); rintro e w' ⟨rfl, rfl⟩)) | (go_at_call 56; ((with_reducible refine (C3 _).mono ?_); rintro e w' ⟨rfl, rfl⟩)) | (go_at_call 56; ((with_reducible refine (C4 _).mono ?_); rintro e w' ⟨rfl, rfl⟩)))
             replace K := K.out
             go_ret
             exact ⟨rfl, K.old⟩
         | false =>
           subst hb0
           go_enter Tryz.func131, Tryz.ntmps131
           go_wp2_with (first | (go_at_call 56; ((with_reducible refine (C0 _).mono ?_); rintro e w' ⟨rfl, rfl⟩)) | (go_at_call 56; ((with_reducible refine (C1 _).mono ?_); rintro e w' ⟨rfl, rfl⟩)) | (go_at_call 56; ((with_reducible refine (C2 _).mono ?_); rintro e w' ⟨rfl, rfl⟩)) | (go_at_call 56; ((with_reducible refine (C3 _).mono ?_); rintro e w' ⟨rfl, rfl⟩)) | (go_at_call 56; ((with_reducible refine (C4 _).mono ?_); rintro e w' ⟨rfl, rfl⟩)))
           replace K := K.out
           go_ret
           exact ⟨rfl, K.old⟩
       · rw [decide_eq_false h3]
         go_enter Tryz.func131, Tryz.ntmps131
         go_wp2_with (first | (go_at_call 56; ((with_reducible refine (C0 _).mono ?_); rintro e w' ⟨rfl, rfl⟩)) | (go_at_call 56; ((with_reducible refine (C1 _).mono ?_); rintro e w' ⟨rfl, rfl⟩)) | (go_at_call 56; ((with_reducible refine (C2 _).mono ?_); rintro e w' ⟨rfl, rfl⟩)) | (go_at_call 56; ((with_reducible refine (C3 _).mono ?_); rintro e w' ⟨rfl, rfl⟩)) | (go_at_call 56; ((with_reducible refine (C4 _).mono ?_); rintro e w' ⟨rfl, rfl⟩)))
         replace K := K.out
         go_ret
         exact ⟨rfl, K.old⟩
     · rw [decide_eq_false h2]
       go_enter Tryz.func131, Tryz.ntmps131
       go_wp2_with (first | (go_at_call 56; ((with_reducible refine (C0 _).mono ?_); rintro e w' ⟨rfl, rfl⟩)) | (go_at_call 56; ((with_reducible refine (C1 _).mono ?_); rintro e w' ⟨rfl, rfl⟩)) | (go_at_call 56; ((with_reducible refine (C2 _).mono ?_); rintro e w' ⟨rfl, rfl⟩)) | (go_at_call 56; ((with_reducible refine (C3 _).mono ?_); rintro e w' ⟨rfl, rfl⟩)) | (go_at_call 56; ((with_reducible refine (C4 _).mono ?_); rintro e w' ⟨rfl, rfl⟩)))
       replace K := K.out
       go_ret
       exact ⟨rfl, K.old⟩
   · rw [decide_eq_false h1]
     go_enter Tryz.func131, Tryz.ntmps131
     go_wp2_with (first | (go_at_call 56; ((with_reducible refine (C0 _).mono ?_); rintro e w' ⟨rfl, rfl⟩)) | (go_at_call 56; ((with_reducible refine (C1 _).mono ?_); rintro e w' ⟨rfl, rfl⟩)) | (go_at_call 56; ((with_reducible refine (C2 _).mono ?_); rintro e w' ⟨rfl, rfl⟩)) | (go_at_call 56; ((with_reducible refine (C3 _).mono ?_); rintro e w' ⟨rfl, rfl⟩)) | (go_at_call 56; ((with_reducible refine (C4 _).mono ?_); rintro e w' ⟨rfl, rfl⟩)))
     replace K := K.out
     go_ret
     exact ⟨rfl, K.old⟩
 · rw [decide_eq_false h0]
   go_enter Tryz.func131, Tryz.ntmps131
   go_wp2_with (first | (go_at_call 56; ((with_reducible refine (C0 _).mono ?_); rintro e w' ⟨rfl, rfl⟩)) | (go_at_call 56; ((with_reducible refine (C1 _).mono ?_); rintro e w' ⟨rfl, rfl⟩)) | (go_at_call 56; ((with_reducible refine (C2 _).mono ?_); rintro e w' ⟨rfl, rfl⟩)) | (go_at_call 56; ((with_reducible refine (C3 _).mono ?_); rintro e w' ⟨rfl, rfl⟩)) | (go_at_call 56; ((with_reducible refine (C4 _).mono ?_); rintro e w' ⟨rfl, rfl⟩)))
   replace K := K.out
   go_ret
   exact ⟨rfl, K.old⟩
theorem has_run (ao : Option Addr) (n cap : Nat) (i : Int) (w : World) : Calls Tryz.prog 164 #[.slice ao n cap, .int .i64 i] w fun e w' => e = .returned (.bool (decide (-1 ≤ i) && decide (i < (n : Int)))) ∧ w = w' := by
 by_cases h0 : -1 ≤ i
 · rw [decide_eq_true h0]
   by_cases h1 : i < (n : Int)
   · rw [decide_eq_true h1]
     go_enter Tryz.func164, Tryz.ntmps164
     go_wp2_with fail
     go_ret
     exact ⟨rfl, rfl⟩
   · rw [decide_eq_false h1]
     go_enter Tryz.func164, Tryz.ntmps164
     go_wp2_with fail
     go_ret
     exact ⟨rfl, rfl⟩
 · rw [decide_eq_false h0]
   go_enter Tryz.func164, Tryz.ntmps164
   go_wp2_with fail
   go_ret
   exact ⟨rfl, rfl⟩
end Go.Proofs.YtacinenddnfcbaaGreat
