/- Proved here: what the texts Obd, Obl, Opo prove, one behind the other. -/
import Derived.Test.YtdfcchocabapkaaGreatJq1
import Derived.Lib.SmallJoins
import Derived.Deep.Slices
import Derived.Deep.Fields
import Derived.ChangeSame

set_option maxRecDepth 100000
set_option maxHeartbeats 4000000
namespace Go.Proofs.YtdfcchocabapkaaGreat
open Go.ChangeShapes Go.WideShapes Go.ChangeAt Go.RowKit Ieee.Own Pol

def floE2 (x : Nat) (k : Int) : Value := .tuple #[.float .f64 x, .int .i64 k]
def meanR (o : Ob) (d : Nat) : Nat × Int := if readyO o (witB g24 d) = 0 then (meanW o d, 0) else (0, readyO o (witB g24 d))
noncomputable def solV (e m : Nat) : Nat := oW (plcW (kepW e) m)
noncomputable def solR (e m : Nat) : Nat × Int := if ecB e = true then (if haB m = true then (solV e m, 0) else (0, 3)) else (0, 110)
theorem timeB (d : Nat) (hd : d < 18446744073709551616) (w : World) : Calls Tryz.prog 48 #[.float .f64 d] w fun e w' => e = .returned (.bool (witB g24 d)) ∧ Below w.heap.size w w' :=
 (ftime_run d hd w).mono fun e w' h => ⟨h.1, by rw [← h.2]; exact Below.refl _ _⟩
theorem omean_ok {ax ec ti no pe ph ra d p x y z u : Nat} {tb : Bool} (CT : Hid (∀ w, Calls Tryz.prog 48 #[.float .f64 d] w fun e w' => e = .returned (.bool tb) ∧ Below w.heap.size w w')) (CR : Hid (∀ w, Calls Tryz.prog 24 #[.agg #[.float .f64 ax, .float .f64 ec, .float .f64 ti, .float .f64 no, .float .f64 pe, .float .f64 ph, .float .f64 ra], .bool tb] w fun e w' => e = .returned (.int .i64 0) ∧ Below w.heap.size w w')) (r1 : ∀ t w, (binOp .mul t (.float .f64 ra) (.float .f64 d)).run Tryz.prog w = .ok (.float .f64 p) w) (r2 : ∀ t w, (binOp .add t (.float .f64 ph) (.float .f64 p)).run Tryz.prog w = .ok (.float .f64 x) w) (X : ∀ w, (callFunc 49 #[.float .f64 x]).run Tryz.prog w = .ok (.value (.float .f64 y)) w) (r3 : ∀ t w, (binOp .sub t (.float .f64 x) (.float .f64 y)).run Tryz.prog w = .ok (.float .f64 z) w) (CB : ∀ w, Calls Tryz.prog 45 #[.float .f64 z] w fun e w' => e = .returned (.float .f64 u) ∧ w = w') (w : World) : Calls Tryz.prog 14 #[.agg #[.float .f64 ax, .float .f64 ec, .float .f64 ti, .float .f64 no, .float .f64 pe, .float .f64 ph, .float .f64 ra], .float .f64 d] w fun e w' => e = .returned (.tuple #[.float .f64 u, .int .i64 0]) ∧ Below w.heap.size w w' := by
 have K0 := kv1 w 24 [.float .f64 ax, .float .f64 ec, .float .f64 ti, .float .f64 no, .float .f64 pe, .float .f64 ph, .float .f64 ra]
 simp only [objV] at K0
 have hst := @fstore
 replace K0 := Lib.hid K0
 go_enter Tryz.func14, Tryz.ntmps14
 go_upto_region 1 with fail
 have K := K0.out
 clear K0
 generalize w.alloc _ = wr at *
 generalize hds : ([some 8, some 9, some 10, some 11, some 6] : List (Option Tmp)) = ds
 have hap : apartL ds = true := by rw [← hds]; decide
 replace hds := hds.symm
 refine wp_region_kv (fun hf => [some (w.heap.size, [.float .f64 ax, .float .f64 ec, .float .f64 ti, .float .f64 no, .float .f64 pe, .float .f64 ph, .float .f64 ra])]) (fun hf => [some (.agg #[.float .f64 ax, .float .f64 ec, .float .f64 ti, .float .f64 no, .float .f64 pe, .float .f64 ph, .float .f64 ra]), some (.float .f64 d), some (.bool tb), some (.int .i64 0), some (.int .i64 0)]) [] [] [.agg #[.float .f64 ax, .float .f64 ec, .float .f64 ti, .float .f64 no, .float .f64 pe, .float .f64 ph, .float .f64 ra], .float .f64 d, .bool tb, .int .i64 0, .int .i64 0] ds (by kernel_rfl) (by rw [hds]; rfl) hap (by decide +kernel) (by decide +kernel) K ?ha ?haj ?hai ?hsi ?hss ?hsa ?hsw ?htg ?hE2 ?hE3 ?hE4 ?hL1 ?hL2 ?hL3 ?alloc ?step ?store ?fin
 case ha => intro al hal; cases hal
 case haj => intro al hal al' hal' e; cases hal
 case hai => intro al hal; cases hal
 case hsi => intro st hst st' hst' e; cases hst
 case hss =>
  intro st hst
  cases hst
 case hsa =>
  intro st hst al hal
  cases hst
 case hsw =>
  intro st hst al hal e
  cases hst
 case htg =>
  intro st hst
  cases hst
 case hE2 =>
  intro hf j h1 h2
  rcases j with _ | j <;> first | rfl
 case hE3 =>
  intro hf st hst g us e
  cases hst
 case hE4 =>
  intro hf al hal
  cases hal
 case hL1 => intro hf; rfl
 case hL2 =>
  intro hf i hi hna
  rcases (ql5 hi) with rfl | rfl | rfl | rfl | rfl <;> first | rfl
 case hL3 => intro hf al hal; cases hal
 case alloc =>
  intro al hal o ρ W ho
  cases hal
 case step =>
  intro L W i o ho hs ha hd hB hO
  rcases (ql5 (Array.getElem?_eq_some_iff.1 ho).1) with rfl | rfl | rfl | rfl | rfl
  · obtain rfl := qsj ho
    have b := hB 0 _ _ rfl (qns rfl)
    have c0 := b.at_ 0 _ rfl
    have c1 := b.at_ 1 _ rfl
    have c2 := b.at_ 2 _ rfl
    have c3 := b.at_ 3 _ rfl
    have c4 := b.at_ 4 _ rfl
    have c5 := b.at_ 5 _ rfl
    have c6 := b.at_ 6 _ rfl
    clear b
    refine qvr fun ρ hA => ?_
    have h0 : ρ (.tmp 2) = .pointer (some ⟨w.heap.size, 0, none⟩) := (po hA (by rw [hds]; decide)).trans rfl
    clear hA hd hB ho hs ha hO
    unfold execOp; go_simp
  · obtain rfl := qsj ho
    refine qvr fun ρ hA => ?_
    have hc := qrc hA
    have h0 : ρ (.tmp 1) = .float .f64 d := (po hA (by rw [hds]; decide)).trans rfl
    clear hA hd hB ho hs ha hO
    unfold execOp; go_simp
  · obtain rfl := qsj ho
    refine .call 48 #[.float .f64 d] ?_ (CT.out W)
    generalize hA : (puts ds L _).eval = ρ
    have hg := qrg hA
    have h0 : ρ (.tmp 9) = .float .f64 d := pg 1 hA hap (by rw [hds]; rfl) (hd 1 (by decide +kernel) (alne rfl)) (show 9 < 27 by decide)
    have hf := Tryz.func48
    unfold execOp; go_simp
  · obtain rfl := qsj ho
    refine .call 24 #[.agg #[.float .f64 ax, .float .f64 ec, .float .f64 ti, .float .f64 no, .float .f64 pe, .float .f64 ph, .float .f64 ra], .bool tb] ?_ (CR.out W)
    generalize hA : (puts ds L _).eval = ρ
    have hg := qrg hA
    have h0 : ρ (.tmp 8) = .agg #[.float .f64 ax, .float .f64 ec, .float .f64 ti, .float .f64 no, .float .f64 pe, .float .f64 ph, .float .f64 ra] := pg 0 hA hap (by rw [hds]; rfl) (hd 0 (by decide +kernel) (alne rfl)) (show 8 < 27 by decide)
    have h1 : ρ (.tmp 10) = .bool tb := pg 2 hA hap (by rw [hds]; rfl) (hd 2 (by decide +kernel) (alne rfl)) (show 10 < 27 by decide)
    have hf := Tryz.func24
    unfold execOp; go_simp
  · obtain rfl := qsj ho
    refine qvr fun ρ hA => ?_
    have hc := qrc hA
    have h0 : ρ (.tmp 11) = .int .i64 0 := pg 3 hA hap (by rw [hds]; rfl) (hd 3 (by decide +kernel) (alne rfl)) (show 11 < 27 by decide)
    clear hA hd hB ho hs ha hO
    unfold execOp; go_simp
 case store =>
  intro st hst L W o h us ho hd hal hC b
  cases hst
 case fin =>
  intro hf W0 K
  rw [hds]
  clear hds hap ds CT CR
  (try dsimp only at K)
  simp only [List.set_cons_zero, List.set_cons_succ, puts, Act.put, List.setIfInBounds_toArray]
  have c0_5 := K.ce 0 5 rfl rfl
  have c0_6 := K.ce 0 6 rfl rfl
  replace K := Lib.hid K
  go_wp2_with (go_at_call 45; ((with_reducible refine (CB _).mono ?_); rintro e w' ⟨rfl, rfl⟩))
  go_ret2
  exact ⟨rfl, K.out.old⟩
theorem omean_no {ax ec ti no pe ph ra d  : Nat} {tb : Bool} {k : Int} (t : (k != 0) = true) (CT : Hid (∀ w, Calls Tryz.prog 48 #[.float .f64 d] w fun e w' => e = .returned (.bool tb) ∧ Below w.heap.size w w')) (CR : Hid (∀ w, Calls Tryz.prog 24 #[.agg #[.float .f64 ax, .float .f64 ec, .float .f64 ti, .float .f64 no, .float .f64 pe, .float .f64 ph, .float .f64 ra], .bool tb] w fun e w' => e = .returned (.int .i64 k) ∧ Below w.heap.size w w')) (w : World) : Calls Tryz.prog 14 #[.agg #[.float .f64 ax, .float .f64 ec, .float .f64 ti, .float .f64 no, .float .f64 pe, .float .f64 ph, .float .f64 ra], .float .f64 d] w fun e w' => e = .returned (.tuple #[.float .f64 0, .int .i64 k]) ∧ Below w.heap.size w w' := by
 have K0 := kv1 w 24 [.float .f64 ax, .float .f64 ec, .float .f64 ti, .float .f64 no, .float .f64 pe, .float .f64 ph, .float .f64 ra]
 simp only [objV] at K0
 have hst := @fstore
 replace K0 := Lib.hid K0
 go_enter Tryz.func14, Tryz.ntmps14
 go_upto_region 1 with fail
 have K := K0.out
 clear K0
 generalize w.alloc _ = wr at *
 generalize hds : ([some 8, some 9, some 10, some 11, some 6] : List (Option Tmp)) = ds
 have hap : apartL ds = true := by rw [← hds]; decide
 replace hds := hds.symm
 refine wp_region_kv (fun hf => [some (w.heap.size, [.float .f64 ax, .float .f64 ec, .float .f64 ti, .float .f64 no, .float .f64 pe, .float .f64 ph, .float .f64 ra])]) (fun hf => [some (.agg #[.float .f64 ax, .float .f64 ec, .float .f64 ti, .float .f64 no, .float .f64 pe, .float .f64 ph, .float .f64 ra]), some (.float .f64 d), some (.bool tb), some (.int .i64 k), some (.int .i64 k)]) [] [] [.agg #[.float .f64 ax, .float .f64 ec, .float .f64 ti, .float .f64 no, .float .f64 pe, .float .f64 ph, .float .f64 ra], .float .f64 d, .bool tb, .int .i64 k, .int .i64 k] ds (by kernel_rfl) (by rw [hds]; rfl) hap (by decide +kernel) (by decide +kernel) K ?ha ?haj ?hai ?hsi ?hss ?hsa ?hsw ?htg ?hE2 ?hE3 ?hE4 ?hL1 ?hL2 ?hL3 ?alloc ?step ?store ?fin
 case ha => intro al hal; cases hal
 case haj => intro al hal al' hal' e; cases hal
 case hai => intro al hal; cases hal
 case hsi => intro st hst st' hst' e; cases hst
 case hss =>
  intro st hst
  cases hst
 case hsa =>
  intro st hst al hal
  cases hst
 case hsw =>
  intro st hst al hal e
  cases hst
 case htg =>
  intro st hst
  cases hst
 case hE2 =>
  intro hf j h1 h2
  rcases j with _ | j <;> first | rfl
 case hE3 =>
  intro hf st hst g us e
  cases hst
 case hE4 =>
  intro hf al hal
  cases hal
 case hL1 => intro hf; rfl
 case hL2 =>
  intro hf i hi hna
  rcases (ql5 hi) with rfl | rfl | rfl | rfl | rfl <;> first | rfl
 case hL3 => intro hf al hal; cases hal
 case alloc =>
  intro al hal o ρ W ho
  cases hal
 case step =>
  intro L W i o ho hs ha hd hB hO
  rcases (ql5 (Array.getElem?_eq_some_iff.1 ho).1) with rfl | rfl | rfl | rfl | rfl
  · obtain rfl := qsj ho
    have b := hB 0 _ _ rfl (qns rfl)
    have c0 := b.at_ 0 _ rfl
    have c1 := b.at_ 1 _ rfl
    have c2 := b.at_ 2 _ rfl
    have c3 := b.at_ 3 _ rfl
    have c4 := b.at_ 4 _ rfl
    have c5 := b.at_ 5 _ rfl
    have c6 := b.at_ 6 _ rfl
    clear b
    refine qvr fun ρ hA => ?_
    have h0 : ρ (.tmp 2) = .pointer (some ⟨w.heap.size, 0, none⟩) := (po hA (by rw [hds]; decide)).trans rfl
    clear hA hd hB ho hs ha hO
    unfold execOp; go_simp
  · obtain rfl := qsj ho
    refine qvr fun ρ hA => ?_
    have hc := qrc hA
    have h0 : ρ (.tmp 1) = .float .f64 d := (po hA (by rw [hds]; decide)).trans rfl
    clear hA hd hB ho hs ha hO
    unfold execOp; go_simp
  · obtain rfl := qsj ho
    refine .call 48 #[.float .f64 d] ?_ (CT.out W)
    generalize hA : (puts ds L _).eval = ρ
    have hg := qrg hA
    have h0 : ρ (.tmp 9) = .float .f64 d := pg 1 hA hap (by rw [hds]; rfl) (hd 1 (by decide +kernel) (alne rfl)) (show 9 < 27 by decide)
    have hf := Tryz.func48
    unfold execOp; go_simp
  · obtain rfl := qsj ho
    refine .call 24 #[.agg #[.float .f64 ax, .float .f64 ec, .float .f64 ti, .float .f64 no, .float .f64 pe, .float .f64 ph, .float .f64 ra], .bool tb] ?_ (CR.out W)
    generalize hA : (puts ds L _).eval = ρ
    have hg := qrg hA
    have h0 : ρ (.tmp 8) = .agg #[.float .f64 ax, .float .f64 ec, .float .f64 ti, .float .f64 no, .float .f64 pe, .float .f64 ph, .float .f64 ra] := pg 0 hA hap (by rw [hds]; rfl) (hd 0 (by decide +kernel) (alne rfl)) (show 8 < 27 by decide)
    have h1 : ρ (.tmp 10) = .bool tb := pg 2 hA hap (by rw [hds]; rfl) (hd 2 (by decide +kernel) (alne rfl)) (show 10 < 27 by decide)
    have hf := Tryz.func24
    unfold execOp; go_simp
  · obtain rfl := qsj ho
    refine qvr fun ρ hA => ?_
    have hc := qrc hA
    have h0 : ρ (.tmp 11) = .int .i64 k := pg 3 hA hap (by rw [hds]; rfl) (hd 3 (by decide +kernel) (alne rfl)) (show 11 < 27 by decide)
    clear hA hd hB ho hs ha hO
    unfold execOp; go_simp
 case store =>
  intro st hst L W o h us ho hd hal hC b
  cases hst
 case fin =>
  intro hf W0 K
  rw [hds]
  clear hds hap ds CT CR
  (try dsimp only at K)
  simp only [List.set_cons_zero, List.set_cons_succ, puts, Act.put, List.setIfInBounds_toArray]
  replace K := Lib.hid K
  go_wp2_with fail
  go_ret2
  exact ⟨rfl, K.out.old⟩
theorem omean_run {o : Ob} {d : Nat} (h : ObW o) (hd : d < 18446744073709551616) (w : World) : Calls Tryz.prog 14 #[obV o, .float .f64 d] w fun e w' => e = .returned (floE2 (meanR o d).1 (meanR o d).2) ∧ Below w.heap.size w w' := by
 have CT := Lib.hid (fun w => timeB d hd w)
 have CR := Lib.hid (fun w => oready_run h (witB g24 d) w)
 unfold meanR
 by_cases c : readyO o (witB g24 d) = 0
 · rw [if_pos c]
   rw [c] at CR
   obtain ⟨m, t⟩ := readyO_zero c
   have M := mayO_of m
   have P := pos_of h hd M.ph M.ra t
   have L := lef_of P.left
   exact omean_ok CT CR (run_mul _ _ _ P.mul) (run_add _ _ _ P.add) (fun w => xeven P.left.fin w) (run_sub _ _ _ L.sub) (fun w => obrought_run L.fin w) w
 · rw [if_neg c]
   exact omean_no (by simpa using c) CT CR w
theorem bis_on {k m : Nat} (K : Kp k m) (hm : mag (Q m) ≤ 1 / 2) : ∀ n, n ≤ 64 → Wd (bisR k m n).1 (400 + (64 - n) + 1) 1074 ∧ Wd (bisR k m n).2 (400 + (64 - n) + 1) 1074 ∧ Q (bisR k m n).1 ≤ Q (bisR k m n).2
 | 0, _ => by
   have k0 := K.k0
   have mw := K.mw
   have kw := K.kw
   have ad := Wd.add mw kw (by omega)
   obtain ⟨s1, s2, s3, s4⟩ := sub_ok (i := 1073) (k := 1074) mw.fin kw.fin mw.abs kw.abs rfl (by omega)
   have Wl : Wd (lX m k) 800 1074 := ⟨s2, by rw [s3]; exact RN_dvd (Int.dvd_sub mw.dvd kw.dvd), s4⟩
   have Wh : Wd (aX m k) 800 1074 := ad.2.1
   refine ⟨Wl.le (by omega) (Nat.le_refl _), Wh.le (by omega) (Nat.le_refl _), ?_⟩
   obtain ⟨r, g1, g2, g3, g4⟩ := addW mw.fin kw.fin mw.abs kw.abs (by omega)
   have er : aX m k = r := by unfold aX; rw [g1]; rfl
   show Q (lX m k) ≤ Q (aX m k)
   rw [er, Q_le, g3, s3]
   have := Q_nn.1 k0
   exact RN_mono (by omega)
 | n + 1, hn => by
   obtain ⟨a, b, c⟩ := bis_on K hm n (by omega)
   have e : bisR k m (n + 1) = Ply.stepB mdW (tst k m) (bisR k m n) := Ply.bis_step _ _ _ _ _
   rw [show 400 + (64 - n) + 1 = 400 + (64 - (n + 1)) + 1 + 1 by omega] at a b
   obtain ⟨w, l, u, -, -⟩ := mid_near a b (by omega) c
   rw [e]
   unfold Ply.stepB
   by_cases t : tst k m (mdW (bisR k m n).1 (bisR k m n).2) = true
   · rw [if_pos t]; exact ⟨a.le (by omega) (Nat.le_refl _), w, l⟩
   · rw [if_neg t]; exact ⟨w, b.le (by omega) (Nat.le_refl _), u⟩
structure BisN (k m lo hi e : Nat) : Prop where
 add : Ieee.double.add lo hi = some (aX lo hi)
 div : Ieee.double.div (aX lo hi) two52 = some e
 wd : ∃ j, Wd e j 1074
 mul : Ieee.double.mul k (snW e) = some (mX k (snW e))
 s1 : Ieee.double.sub e (mX k (snW e)) = some (lX e (mX k (snW e)))
 s2 : Ieee.double.sub (lX e (mX k (snW e))) m = some (rsdW k m e)
 t : (FloatKind.f64.format.order (rsdW k m e) 0 == some Ordering.gt) = tst k m e
theorem bis_n {k m : Nat} (K : Kp k m) (hm : mag (Q m) ≤ 1 / 2) {n : Nat} (hn : n ≤ 64) : BisN k m (bisR k m n).1 (bisR k m n).2 (mdW (bisR k m n).1 (bisR k m n).2) := by
 obtain ⟨a, b, c⟩ := bis_on K hm n hn
 obtain ⟨a1, a2, a3, -⟩ := mid_any a b (by omega) (by omega) (by omega) (Q_le.1 c)
 obtain ⟨b1, b2, b3, b4, -⟩ := rsd_near K a3
 have g := gt_words b4 zero_fin
 rw [V_zero] at g
 exact ⟨a1, a2, ⟨_, a3⟩, b1, b2, b3, g⟩
theorem kp_ec {e m : Nat} (he : e < 18446744073709551616) (hm : m < 18446744073709551616) (e1 : ecB e = true) (m1 : haB m = true) : Ieee.double.div e tauW = some (kepW e) ∧ Kp (kepW e) m ∧ mag (Q m) ≤ 1 / 2 := by
 obtain ⟨f, g, a, b⟩ := btw_of he e1
 have M := ha_wd hm m1
 have q : Q ecHi = 7 / 8 := by decide +kernel
 rw [V_zero] at a
 obtain ⟨k1, k2⟩ := kp_of (m := m) he g (Q_nn.2 a) (by rw [← q]; exact Q_le.2 b) (M.le (by omega) (Nat.le_refl _))
 obtain ⟨-, -, c, d⟩ := btw_of hm m1
 have q1 : Q haLo = -(1 / 2) := by decide +kernel
 have q2 : Q haHi = 1 / 2 := by decide +kernel
 exact ⟨k1, k2, mag_of (by rw [← q1]; exact Q_le.2 c) (by rw [← q2]; exact Q_le.2 d)⟩
theorem start_some {k m : Nat} (K : Kp k m) : Ieee.double.sub m k = some (lX m k) ∧ Ieee.double.add m k = some (aX m k) := by
 have ad := Wd.add K.mw K.kw (by omega)
 obtain ⟨s1, -, -, -⟩ := sub_ok (i := 1073) (k := 1074) K.mw.fin K.kw.fin K.mw.abs K.kw.abs rfl (by omega)
 exact ⟨s1, ad.1⟩
theorem tst_step (k m n : Nat) : (tst k m (mdW (bisR k m n).1 (bisR k m n).2) = true → bisR k m (n + 1) = ((bisR k m n).1, mdW (bisR k m n).1 (bisR k m n).2)) ∧ (tst k m (mdW (bisR k m n).1 (bisR k m n).2) = false → bisR k m (n + 1) = (mdW (bisR k m n).1 (bisR k m n).2, (bisR k m n).2)) := by
 have e : bisR k m (n + 1) = Ply.stepB mdW (tst k m) (bisR k m n) := Ply.bis_step _ _ _ _ _
 rw [e]
 unfold Ply.stepB
 exact ⟨fun h => if_pos h, fun h => if_neg (by rw [h]; decide)⟩
theorem osolve_no {e m : Nat} (he : e < 18446744073709551616) (w : World) (h : ecB e = false) : Calls Tryz.prog 42 #[.float .f64 e, .float .f64 m] w fun en w' => en = .returned (floE2 0 110) ∧ Below w.heap.size w w' := by
 have C := fun w => ofitEcc_run he w
 rw [h] at C
 clear h he
 go_enter Tryz.func42, Tryz.ntmps42
 go_wp2_with (go_at_call 15; ((with_reducible refine (C _).mono ?_); rintro e w' ⟨rfl, rfl⟩))
 go_ret2
 exact ⟨rfl, Below.refl _ _⟩
theorem osolve_nm {e m : Nat} (he : e < 18446744073709551616) (hm : m < 18446744073709551616) (w : World) (h : ecB e = true) (h2 : haB m = false) : Calls Tryz.prog 42 #[.float .f64 e, .float .f64 m] w fun en w' => en = .returned (floE2 0 3) ∧ Below w.heap.size w w' := by
 have C := fun w => ofitEcc_run he w
 have C2 := fun w => ofitMean_run hm w
 rw [h] at C
 rw [h2] at C2
 clear h he h2 hm
 go_enter Tryz.func42, Tryz.ntmps42
 go_wp2_with (first | (go_at_call 15; ((with_reducible refine (C _).mono ?_); rintro e w' ⟨rfl, rfl⟩)) | (go_at_call 17; ((with_reducible refine (C2 _).mono ?_); rintro e w' ⟨rfl, rfl⟩)))
 go_ret2
 exact ⟨rfl, Below.refl _ _⟩
theorem osolve_ok {e m : Nat} (he : e < 18446744073709551616) (hm : m < 18446744073709551616) (w : World) (h : ecB e = true) (h2 : haB m = true) : Calls Tryz.prog 42 #[.float .f64 e, .float .f64 m] w fun en w' => en = .returned (floE2 (solV e m) 0) ∧ Below w.heap.size w w' := by
 have C := fun w => ofitEcc_run he w
 have C2 := fun w => ofitMean_run hm w
 rw [h] at C
 rw [h2] at C2
 obtain ⟨k1, K, hq⟩ := kp_ec he hm h h2
 obtain ⟨q1, q2⟩ := start_some K
 have rk := run_div _ _ _ k1
 have rl := run_sub _ _ _ q1
 have rh := run_add _ _ _ q2
 have B : Hid (∀ n, n ≤ 64 → BisN (kepW e) m (bisR (kepW e) m n).1 (bisR (kepW e) m n).2 (mdW (bisR (kepW e) m n).1 (bisR (kepW e) m n).2)) := Lib.hid fun n hn => bis_n K hq hn
 have TS : Hid (∀ n, (tst (kepW e) m (mdW (bisR (kepW e) m n).1 (bisR (kepW e) m n).2) = true → bisR (kepW e) m (n + 1) = ((bisR (kepW e) m n).1, mdW (bisR (kepW e) m n).1 (bisR (kepW e) m n).2)) ∧ (tst (kepW e) m (mdW (bisR (kepW e) m n).1 (bisR (kepW e) m n).2) = false → bisR (kepW e) m (n + 1) = (mdW (bisR (kepW e) m n).1 (bisR (kepW e) m n).2, (bisR (kepW e) m n).2))) := Lib.hid (tst_step (kepW e) m)
 have B0 : bisR (kepW e) m 0 = (lX m (kepW e), aX m (kepW e)) := rfl
 have fin : Hid (solV e m = oW (mdW (bisR (kepW e) m 64).1 (bisR (kepW e) m 64).2)) := Lib.hid rfl
 generalize hA : solV e m = A at *
 unfold tauW at rk
 clear hA k1 K hq q1 q2 h h2 he hm
 replace B0 := Lib.hid B0
 generalize hk : kepW e = k at *
 clear hk
 generalize lX m k = l0 at *
 generalize aX m k = h0 at *
 go_enter Tryz.func42, Tryz.ntmps42
 go_wp2_with (first | (go_at_call 15; ((with_reducible refine (C _).mono ?_); rintro e w' ⟨rfl, rfl⟩)) | (go_at_call 17; ((with_reducible refine (C2 _).mono ?_); rintro e w' ⟨rfl, rfl⟩)))
 go_loopw [7, 8, 26] (fun lv hv iv wr => ∃ (i l h : Nat), lv = .float .f64 l ∧ hv = .float .f64 h ∧ iv = .int .i64 i ∧ i ≤ 64 ∧ bisR k m i = (l, h) ∧ Below w.heap.size w wr) (fun _ _ iv _ => 64 - (intOf iv).toNat)
 case atStart => exact ⟨0, l0, h0, rfl, rfl, rfl, by omega, B0.out, Below.refl _ _⟩
 case round =>
  obtain ⟨i, l, h, rfl, rfl, rfl, hi, hb, ho⟩ := hrel
  have R := B.out i hi
  rw [hb] at R
  dsimp only at R
  have TS := TS.out i
  rw [hb] at TS
  dsimp only at TS
  have ra := run_add _ _ _ R.add
  have rd := run_div _ _ _ R.div
  unfold two52 at rd
  by_cases hlt : i < 64
  · obtain ⟨j, wd⟩ := R.wd
    have rm := run_mul _ _ _ R.mul
    have r1 := run_sub _ _ _ R.s1
    have r2 := run_sub _ _ _ R.s2
    have rt := R.t
    have wd5 := wd.le (q := j) (l := 1075) (Nat.le_refl _) (by omega)
    obtain ⟨-, ea⟩ := oW_ang wd5
    have CB := fun w => obrought_run wd.fin w
    have CS := Lib.hid (fun w => osin_run (oW_nz wd.fin).fin.1 ea w)
    rw [sn_oW wd.fin] at CS
    clear R wd wd5 ea B
    generalize hx : mdW l h = x at *
    clear hx
    generalize snW x = sx at *
    generalize oW x = ox at *
    generalize rsdW k m x = z at *
    generalize lX x (mX k sx) = z1 at *
    generalize mX k sx = z2 at *
    generalize aX l h = z3 at *
    replace ho := Lib.hid ho
    replace TS := Lib.hid TS
    generalize tst k m x = tb at *
    have hlt2 := hlt
    go_wp2_with (go_at_call 45; ((with_reducible refine (CB _).mono ?_); rintro e w' ⟨rfl, rfl⟩))
    refine (CS.out _).mono ?_
    rintro _ v1 ⟨rfl, hb1⟩
    replace ho := Lib.hid (ho.out.trans (hb1.mono ho.out.size))
    clear hb1 CS
    cases tb with
    | true =>
      replace TS := Lib.hid (TS.out.1 rfl)
      go_wp2_with fail
      go_roundw
      case rel => exact ⟨i + 1, l, x, rfl, rfl, by go_num, hlt, TS.out, ho.out⟩
      case measure => simp [intOf]; omega
    | false =>
      replace TS := Lib.hid (TS.out.2 rfl)
      go_wp2_with fail
      go_roundw
      case rel => exact ⟨i + 1, x, h, rfl, rfl, by go_num, hlt, TS.out, ho.out⟩
      case measure => simp [intOf]; omega
  · obtain rfl : i = 64 := by omega
    obtain ⟨j, wd⟩ := R.wd
    have CB := fun w => obrought_run wd.fin w
    have fin := fin.out
    rw [hb] at fin
    dsimp only at fin
    clear R wd TS B
    generalize hx : mdW l h = x at *
    clear hx
    generalize aX l h = z3 at *
    generalize oW x = ox at *
    replace ho := Lib.hid ho
    clear hb
    go_wp2_with (go_at_call 45; ((with_reducible refine (CB _).mono ?_); rintro e w' ⟨rfl, rfl⟩))
    go_ret2
    exact ⟨by rw [fin]; rfl, ho.out⟩
theorem osolve_run {e m : Nat} (he : e < 18446744073709551616) (hm : m < 18446744073709551616) (w : World) : Calls Tryz.prog 42 #[.float .f64 e, .float .f64 m] w fun en w' => en = .returned (floE2 (solR e m).1 (solR e m).2) ∧ Below w.heap.size w w' := by
 unfold solR
 by_cases h : ecB e = true
 · rw [if_pos h]
   by_cases h2 : haB m = true
   · rw [if_pos h2]; exact osolve_ok he hm w h h2
   · rw [if_neg h2]; exact osolve_nm he hm w h (by simpa using h2)
 · rw [if_neg h]; exact osolve_no he w (by simpa using h)

def awO : Ob := ⟨4621819117588971520, 4602678819172646912, 0, 0, 0, 0, 4607182418800017408⟩
theorem awO_w : ObW awO := ⟨by decide, by decide, by decide, by decide, by decide, by decide, by decide⟩
theorem awO_mean : meanR awO 4598175219545276416 = (4598175219545276416, 0) := by decide +kernel
theorem awake11 (w : World) : Calls Tryz.prog 5 #[] w fun e w' => e = .returned (.bool true) ∧ Below w.heap.size w w' := by
 have C := Lib.hid (fun w => omean_run (o := awO) (d := 4598175219545276416) awO_w (by decide) w)
 rw [awO_mean] at C
 unfold obV awO floE2 at C
 dsimp only at C
 have g1 : (FloatKind.f64.format.order 4598175219545276416 4598175219545276416 == some Ordering.eq) = true := by decide +kernel
 go_enter Tryz.func5, Tryz.ntmps5
 go_wp2_with fail
 refine (C.out w).mono ?_
 rintro _ w1 ⟨rfl, hb1⟩
 replace hb1 := Lib.hid hb1
 clear C
 go_wp2_with fail
 go_ret
 exact ⟨rfl, hb1.out⟩
end Go.Proofs.YtdfcchocabapkaaGreat

namespace Go.Proofs.YtdfcchocabapkaaGreat
open Go.ChangeShapes Go.WideShapes Go.ChangeAt Go.RowKit Go.Joins Go.Deep

section
variable {H : Type} {enc : TypeId × Value → H} {P : Program} {w : World} {base : Nat} {spare : Nat → Bool} {held : Bool}
theorem open_agg7o {r : Reach} {b0 : Nat} {t : TypeId} {f0 f1 f2 f3 f4 f5 f6 : Field} {v : Value} {d : DataW H} {p : List MemPlace} (hs : P.underlying t = some (.struct #[f0, f1, f2, f3, f4, f5, f6])) (hone : oneCellFields P #[f0, f1, f2, f3, f4, f5, f6] = true) (hC : P.cellsOf t = 7)
 (hv : Value.okWide P w r b0 t v) (h : DataW.Trod enc P w base spare held t v d p) :
 ∃ (v0 v1 v2 v3 v4 v5 v6 : Value) (y0 y1 y2 y3 y4 y5 y6 : DataW H × List MemPlace) (n : Nat), v = .agg #[v0, v1, v2, v3, v4, v5, v6] ∧
   DataW.trod enc P w base spare held n f0.type [v0] = some y0 ∧ DataW.trod enc P w base spare held n f1.type [v1] = some y1 ∧ DataW.trod enc P w base spare held n f2.type [v2] = some y2 ∧ DataW.trod enc P w base spare held n f3.type [v3] = some y3 ∧ DataW.trod enc P w base spare held n f4.type [v4] = some y4 ∧ DataW.trod enc P w base spare held n f5.type [v5] = some y5 ∧ DataW.trod enc P w base spare held n f6.type [v6] = some y6 := by
 obtain ⟨cs, rfl, hsz⟩ := okWide_struct hs hv
 obtain ⟨l⟩ := cs
 match l, hsz.trans hC with
 | [c0, c1, c2, c3, c4, c5, c6], _ =>
   obtain ⟨fuel, hf⟩ := h
   obtain ⟨xs, n, _, hx, _, hlen, hg⟩ := DataW.trod_struct hs hf
   obtain ⟨o0, k0⟩ := hone_of hone 0 f0 rfl
   obtain ⟨o1, k1⟩ := hone_of hone 1 f1 rfl
   obtain ⟨o2, k2⟩ := hone_of hone 2 f2 rfl
   obtain ⟨o3, k3⟩ := hone_of hone 3 f3 rfl
   obtain ⟨o4, k4⟩ := hone_of hone 4 f4 rfl
   obtain ⟨o5, k5⟩ := hone_of hone 5 f5 rfl
   obtain ⟨o6, k6⟩ := hone_of hone 6 f6 rfl
   match xs, hlen with
   | [y0, y1, y2, y3, y4, y5, y6], _ =>
     simp only [Prod.mk.injEq] at hx
     exact ⟨c0, c1, c2, c3, c4, c5, c6, y0, y1, y2, y3, y4, y5, y6, n, rfl, by simpa [Value.cells, o0, k0] using hg 0 f0 rfl, by simpa [Value.cells, o1, k1] using hg 1 f1 rfl, by simpa [Value.cells, o2, k2] using hg 2 f2 rfl, by simpa [Value.cells, o3, k3] using hg 3 f3 rfl, by simpa [Value.cells, o4, k4] using hg 4 f4 rfl, by simpa [Value.cells, o5, k5] using hg 5 f5 rfl, by simpa [Value.cells, o6, k6] using hg 6 f6 rfl⟩
end
theorem wf64o {b : Nat} (h : (Lit.float .f64 b).wf = true) : b < 18446744073709551616 := by
 simp only [Lit.wf, decide_eq_true_eq] at h; exact h
theorem cellsO : Tryz.prog.cellsOf 24 = 7 := by kernel_rfl
theorem open_orbit {H : Type} {enc : TypeId × Value → H} {W : World} {base : Nat} {r : Reach} {b0 : Nat} {spare : Nat → Bool} {held : Bool} {v : Value} {d : DataW H} {ps : List MemPlace}
 (hval : Value.okWide Tryz.prog W r b0 24 v) (h : DataW.Trod enc Tryz.prog W base spare held 24 v d ps) : ∃ o : Ob, v = obV o ∧ ObW o := by
 obtain ⟨v0, v1, v2, v3, v4, v5, v6, _, _, _, _, _, _, _, n, rfl, t0, t1, t2, t3, t4, t5, t6⟩ := open_agg7o Tryz.underlying24 (by kernel_rfl) cellsO hval h
 obtain ⟨a0, rfl, h0⟩ := float_cell (e := 22) Tryz.underlying22 t0
 obtain ⟨a1, rfl, h1⟩ := float_cell (e := 22) Tryz.underlying22 t1
 obtain ⟨a2, rfl, h2⟩ := float_cell (e := 22) Tryz.underlying22 t2
 obtain ⟨a3, rfl, h3⟩ := float_cell (e := 22) Tryz.underlying22 t3
 obtain ⟨a4, rfl, h4⟩ := float_cell (e := 22) Tryz.underlying22 t4
 obtain ⟨a5, rfl, h5⟩ := float_cell (e := 22) Tryz.underlying22 t5
 obtain ⟨a6, rfl, h6⟩ := float_cell (e := 22) Tryz.underlying22 t6
 exact ⟨⟨a0, a1, a2, a3, a4, a5, a6⟩, rfl, h0, h1, h2, h3, h4, h5, h6⟩
end Go.Proofs.YtdfcchocabapkaaGreat
