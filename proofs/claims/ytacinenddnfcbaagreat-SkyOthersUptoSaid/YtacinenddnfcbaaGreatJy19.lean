/- Proved here: what the texts Obd, Obe prove, one behind the other. -/
import Derived.Test.YtacinenddnfcbaaGreatJy18
import Derived.Test.YtacinenddnfcbaaGreatJy16
import Derived.Test.YtacinenddnfcbaaGreatJy14

set_option maxRecDepth 100000
set_option maxHeartbeats 4000000
namespace Go.Proofs.YtacinenddnfcbaaGreat
open Go.ChangeShapes Go.WideShapes Go.ChangeAt Go.RowKit Ieee.Own Pol

def floE2 (x : Nat) (k : Int) : Value := .tuple #[.float .f64 x, .int .i64 k]
def meanR (o : Ob) (d : Nat) : Nat × Int := if readyO o (witB g24 d) = 0 then (meanW o d, 0) else (0, readyO o (witB g24 d))
noncomputable def solV (e m : Nat) : Nat := oW (plcW (kepW e) m)
noncomputable def solR (e m : Nat) : Nat × Int := if ecB e = true then (if haB m = true then (solV e m, 0) else (0, 3)) else (0, 110)
theorem timeB (d : Nat) (hd : d < 18446744073709551616) (w : World) : Calls Tryz.prog 31 #[.float .f64 d] w fun e w' => e = .returned (.bool (witB g24 d)) ∧ Below w.heap.size w w' :=
 (ftime_run d hd w).mono fun e w' h => ⟨h.1, by rw [← h.2]; exact Below.refl _ _⟩
theorem omean_ok {ax ec ti no pe ph ra d p x y z u : Nat} {tb : Bool} (CT : Hid (∀ w, Calls Tryz.prog 31 #[.float .f64 d] w fun e w' => e = .returned (.bool tb) ∧ Below w.heap.size w w')) (CR : Hid (∀ w, Calls Tryz.prog 73 #[.agg #[.float .f64 ax, .float .f64 ec, .float .f64 ti, .float .f64 no, .float .f64 pe, .float .f64 ph, .float .f64 ra], .bool tb] w fun e w' => e = .returned (.int .i64 0) ∧ Below w.heap.size w w')) (r1 : ∀ t w, (binOp .mul t (.float .f64 ra) (.float .f64 d)).run Tryz.prog w = .ok (.float .f64 p) w) (r2 : ∀ t w, (binOp .add t (.float .f64 ph) (.float .f64 p)).run Tryz.prog w = .ok (.float .f64 x) w) (X : ∀ w, (callFunc 171 #[.float .f64 x]).run Tryz.prog w = .ok (.value (.float .f64 y)) w) (r3 : ∀ t w, (binOp .sub t (.float .f64 x) (.float .f64 y)).run Tryz.prog w = .ok (.float .f64 z) w) (CB : ∀ w, Calls Tryz.prog 106 #[.float .f64 z] w fun e w' => e = .returned (.float .f64 u) ∧ w = w') (w : World) : Calls Tryz.prog 102 #[.agg #[.float .f64 ax, .float .f64 ec, .float .f64 ti, .float .f64 no, .float .f64 pe, .float .f64 ph, .float .f64 ra], .float .f64 d] w fun e w' => e = .returned (.tuple #[.float .f64 u, .int .i64 0]) ∧ Below w.heap.size w w' := by
 have K0 := kv1 w 45 [.float .f64 ax, .float .f64 ec, .float .f64 ti, .float .f64 no, .float .f64 pe, .float .f64 ph, .float .f64 ra]
 simp only [objV] at K0
 have hst := @fstore
 replace K0 := Lib.hid K0
 go_enter Tryz.func102, Tryz.ntmps102
 go_upto_region 1 with fail
 have K := K0.out
 clear K0
 generalize w.alloc _ = wr at *
 generalize hds : ([some 8, some 9, some 10, some 11, some 6] : List (Option Tmp)) = ds
 have hap : apartL ds = true := by rw [← hds]; decide
 replace hds := hds.symm
 refine wp_region_kv (fun hf => [some (w.heap.size, [.float .f64 ax, .float .f64 ec, .float .f64 ti, .float .f64 no, .float .f64 pe, .float .f64 ph, .float .f64 ra])]) (fun hf => [some (.agg #[.float .f64 ax, .float .f64 ec, .float .f64 ti, .float .f64 no, .float .f64 pe, .float .f64 ph, .float .f64 ra]), some (.float .f64 d), some (.bool tb), some (.int .i64 0), some (.int .i64 0)]) [] [] [.agg #[.float .f64 ax, .float .f64 ec, .float .f64 ti, .float .f64 no, .float .f64 pe, .float .f64 ph, .float .f64 ra], .float .f64 d, .bool tb, .int .i64 0, .int .i64 0] ds (by kernel_rfl) (by rw [hds]; rfl) hap (by decide +kernel) (by decide +kernel) K ?ha ?haj ?hai ?hsi ?hss ?hsa ?hsw ?htg ?hE2 ?hE3 ?hE4 ?hL1 ?hL2 ?hL3 ?alloc ?step ?store ?fin
 case ha => intro al hal; cases hal
 case haj => intro al hal al' hal' e; cases hal
 case hai => intro al hal; cases hal
 case hsi => intro st hst st' hst' e; cases hst
 case hss =>
  intro st hst
  cases hst
 case hsa =>
  intro st hst al hal
  cases hst
 case hsw =>
  intro st hst al hal e
  cases hst
 case htg =>
  intro st hst
  cases hst
 case hE2 =>
  intro hf j h1 h2
  rcases j with _ | j
  · rfl
  · rfl
 case hE3 =>
  intro hf st hst g us e
  cases hst
 case hE4 =>
  intro hf al hal
  cases hal
 case hL1 => intro hf; rfl
 case hL2 =>
  intro hf i hi hna
  have hi : i < 5 := hi
  have : i = 0 ∨ i = 1 ∨ i = 2 ∨ i = 3 ∨ i = 4 := by omega
  rcases this with rfl | rfl | rfl | rfl | rfl
  · rfl
  · rfl
  · rfl
  · rfl
  · rfl
 case hL3 => intro hf al hal; cases hal
 case alloc =>
  intro al hal o ρ W ho
  cases hal
 case step =>
  intro L W i o ho hs ha hd hB hO
  have hi : i < 5 := (Array.getElem?_eq_some_iff.1 ho).1
  have : i = 0 ∨ i = 1 ∨ i = 2 ∨ i = 3 ∨ i = 4 := by omega
  rcases this with rfl | rfl | rfl | rfl | rfl
  · obtain rfl := Option.some.inj ho
    have b := hB 0 _ _ rfl (by
        intro st hst e
        cases hst)
    have c0 := b.at_ 0 _ rfl
    have c1 := b.at_ 1 _ rfl
    have c2 := b.at_ 2 _ rfl
    have c3 := b.at_ 3 _ rfl
    have c4 := b.at_ 4 _ rfl
    have c5 := b.at_ 5 _ rfl
    have c6 := b.at_ 6 _ rfl
    clear b
    refine .value W ?_ (Below.refl _ _)
    generalize hA : (puts ds L _).eval = ρ
    have h0 : ρ (.tmp 2) = .pointer (some ⟨w.heap.size, 0, none⟩) := (po hA (by rw [hds]; decide)).trans rfl
    clear hA hd hB ho hs ha hO
    unfold execOp
    go_simp
  · obtain rfl := Option.some.inj ho
    refine .value W ?_ (Below.refl _ _)
    generalize hA : (puts ds L _).eval = ρ
    have hc : ∀ v, ρ (.const v) = v := fun v => by rw [← hA]; rfl
    have h0 : ρ (.tmp 1) = .float .f64 d := (po hA (by rw [hds]; decide)).trans rfl
    clear hA hd hB ho hs ha hO
    unfold execOp
    go_simp
  · obtain rfl := Option.some.inj ho
    refine .call 31 #[.float .f64 d] ?_ (CT.out W)
    generalize hA : (puts ds L _).eval = ρ
    have hg : ∀ g, ρ (.func g) = .func (.func g) #[] #[] := fun v => by rw [← hA]; rfl
    have h0 : ρ (.tmp 9) = .float .f64 d := pg 1 hA hap (by rw [hds]; rfl) (hd 1 (by decide +kernel) (alne rfl)) (show 9 < 27 by decide)
    have hf := Tryz.func31
    unfold execOp
    go_simp
  · obtain rfl := Option.some.inj ho
    refine .call 73 #[.agg #[.float .f64 ax, .float .f64 ec, .float .f64 ti, .float .f64 no, .float .f64 pe, .float .f64 ph, .float .f64 ra], .bool tb] ?_ (CR.out W)
    generalize hA : (puts ds L _).eval = ρ
    have hg : ∀ g, ρ (.func g) = .func (.func g) #[] #[] := fun v => by rw [← hA]; rfl
    have h0 : ρ (.tmp 8) = .agg #[.float .f64 ax, .float .f64 ec, .float .f64 ti, .float .f64 no, .float .f64 pe, .float .f64 ph, .float .f64 ra] := pg 0 hA hap (by rw [hds]; rfl) (hd 0 (by decide +kernel) (alne rfl)) (show 8 < 27 by decide)
    have h1 : ρ (.tmp 10) = .bool tb := pg 2 hA hap (by rw [hds]; rfl) (hd 2 (by decide +kernel) (alne rfl)) (show 10 < 27 by decide)
    have hf := Tryz.func73
    unfold execOp
    go_simp
  · obtain rfl := Option.some.inj ho
    refine .value W ?_ (Below.refl _ _)
    generalize hA : (puts ds L _).eval = ρ
    have hc : ∀ v, ρ (.const v) = v := fun v => by rw [← hA]; rfl
    have h0 : ρ (.tmp 11) = .int .i64 0 := pg 3 hA hap (by rw [hds]; rfl) (hd 3 (by decide +kernel) (alne rfl)) (show 11 < 27 by decide)
    clear hA hd hB ho hs ha hO
    unfold execOp
    go_simp
 case store =>
  intro st hst L W o h us ho hd hal hC b
  cases hst
 case fin =>
  intro hf W0 K
  rw [hds]
  clear hds hap ds CT CR
  (try dsimp only at K)
  simp only [List.set_cons_zero, List.set_cons_succ, puts, Act.put, List.setIfInBounds_toArray]
  have c0_5 := (K.at_ 0 rfl).at_ 5 _ rfl
  have c0_6 := (K.at_ 0 rfl).at_ 6 _ rfl
  replace K := Lib.hid K
  go_wp2_with (go_at_call 106; ((with_reducible refine (CB _).mono ?_); rintro e w' ⟨rfl, rfl⟩))
  go_ret2
  exact ⟨rfl, K.out.old⟩
theorem omean_no {ax ec ti no pe ph ra d  : Nat} {tb : Bool} {k : Int} (t : (k != 0) = true) (CT : Hid (∀ w, Calls Tryz.prog 31 #[.float .f64 d] w fun e w' => e = .returned (.bool tb) ∧ Below w.heap.size w w')) (CR : Hid (∀ w, Calls Tryz.prog 73 #[.agg #[.float .f64 ax, .float .f64 ec, .float .f64 ti, .float .f64 no, .float .f64 pe, .float .f64 ph, .float .f64 ra], .bool tb] w fun e w' => e = .returned (.int .i64 k) ∧ Below w.heap.size w w')) (w : World) : Calls Tryz.prog 102 #[.agg #[.float .f64 ax, .float .f64 ec, .float .f64 ti, .float .f64 no, .float .f64 pe, .float .f64 ph, .float .f64 ra], .float .f64 d] w fun e w' => e = .returned (.tuple #[.float .f64 0, .int .i64 k]) ∧ Below w.heap.size w w' := by
 have K0 := kv1 w 45 [.float .f64 ax, .float .f64 ec, .float .f64 ti, .float .f64 no, .float .f64 pe, .float .f64 ph, .float .f64 ra]
 simp only [objV] at K0
 have hst := @fstore
 replace K0 := Lib.hid K0
 go_enter Tryz.func102, Tryz.ntmps102
 go_upto_region 1 with fail
 have K := K0.out
 clear K0
 generalize w.alloc _ = wr at *
 generalize hds : ([some 8, some 9, some 10, some 11, some 6] : List (Option Tmp)) = ds
 have hap : apartL ds = true := by rw [← hds]; decide
 replace hds := hds.symm
 refine wp_region_kv (fun hf => [some (w.heap.size, [.float .f64 ax, .float .f64 ec, .float .f64 ti, .float .f64 no, .float .f64 pe, .float .f64 ph, .float .f64 ra])]) (fun hf => [some (.agg #[.float .f64 ax, .float .f64 ec, .float .f64 ti, .float .f64 no, .float .f64 pe, .float .f64 ph, .float .f64 ra]), some (.float .f64 d), some (.bool tb), some (.int .i64 k), some (.int .i64 k)]) [] [] [.agg #[.float .f64 ax, .float .f64 ec, .float .f64 ti, .float .f64 no, .float .f64 pe, .float .f64 ph, .float .f64 ra], .float .f64 d, .bool tb, .int .i64 k, .int .i64 k] ds (by kernel_rfl) (by rw [hds]; rfl) hap (by decide +kernel) (by decide +kernel) K ?ha ?haj ?hai ?hsi ?hss ?hsa ?hsw ?htg ?hE2 ?hE3 ?hE4 ?hL1 ?hL2 ?hL3 ?alloc ?step ?store ?fin
 case ha => intro al hal; cases hal
 case haj => intro al hal al' hal' e; cases hal
 case hai => intro al hal; cases hal
 case hsi => intro st hst st' hst' e; cases hst
 case hss =>
  intro st hst
  cases hst
 case hsa =>
  intro st hst al hal
  cases hst
 case hsw =>
  intro st hst al hal e
  cases hst
 case htg =>
  intro st hst
  cases hst
 case hE2 =>
  intro hf j h1 h2
  rcases j with _ | j
  · rfl
  · rfl
 case hE3 =>
  intro hf st hst g us e
  cases hst
 case hE4 =>
  intro hf al hal
  cases hal
 case hL1 => intro hf; rfl
 case hL2 =>
  intro hf i hi hna
  have hi : i < 5 := hi
  have : i = 0 ∨ i = 1 ∨ i = 2 ∨ i = 3 ∨ i = 4 := by omega
  rcases this with rfl | rfl | rfl | rfl | rfl
  · rfl
  · rfl
  · rfl
  · rfl
  · rfl
 case hL3 => intro hf al hal; cases hal
 case alloc =>
  intro al hal o ρ W ho
  cases hal
 case step =>
  intro L W i o ho hs ha hd hB hO
  have hi : i < 5 := (Array.getElem?_eq_some_iff.1 ho).1
  have : i = 0 ∨ i = 1 ∨ i = 2 ∨ i = 3 ∨ i = 4 := by omega
  rcases this with rfl | rfl | rfl | rfl | rfl
  · obtain rfl := Option.some.inj ho
    have b := hB 0 _ _ rfl (by
        intro st hst e
        cases hst)
    have c0 := b.at_ 0 _ rfl
    have c1 := b.at_ 1 _ rfl
    have c2 := b.at_ 2 _ rfl
    have c3 := b.at_ 3 _ rfl
    have c4 := b.at_ 4 _ rfl
    have c5 := b.at_ 5 _ rfl
    have c6 := b.at_ 6 _ rfl
    clear b
    refine .value W ?_ (Below.refl _ _)
    generalize hA : (puts ds L _).eval = ρ
    have h0 : ρ (.tmp 2) = .pointer (some ⟨w.heap.size, 0, none⟩) := (po hA (by rw [hds]; decide)).trans rfl
    clear hA hd hB ho hs ha hO
    unfold execOp
    go_simp
  · obtain rfl := Option.some.inj ho
    refine .value W ?_ (Below.refl _ _)
    generalize hA : (puts ds L _).eval = ρ
    have hc : ∀ v, ρ (.const v) = v := fun v => by rw [← hA]; rfl
    have h0 : ρ (.tmp 1) = .float .f64 d := (po hA (by rw [hds]; decide)).trans rfl
    clear hA hd hB ho hs ha hO
    unfold execOp
    go_simp
  · obtain rfl := Option.some.inj ho
    refine .call 31 #[.float .f64 d] ?_ (CT.out W)
    generalize hA : (puts ds L _).eval = ρ
    have hg : ∀ g, ρ (.func g) = .func (.func g) #[] #[] := fun v => by rw [← hA]; rfl
    have h0 : ρ (.tmp 9) = .float .f64 d := pg 1 hA hap (by rw [hds]; rfl) (hd 1 (by decide +kernel) (alne rfl)) (show 9 < 27 by decide)
    have hf := Tryz.func31
    unfold execOp
    go_simp
  · obtain rfl := Option.some.inj ho
    refine .call 73 #[.agg #[.float .f64 ax, .float .f64 ec, .float .f64 ti, .float .f64 no, .float .f64 pe, .float .f64 ph, .float .f64 ra], .bool tb] ?_ (CR.out W)
    generalize hA : (puts ds L _).eval = ρ
    have hg : ∀ g, ρ (.func g) = .func (.func g) #[] #[] := fun v => by rw [← hA]; rfl
    have h0 : ρ (.tmp 8) = .agg #[.float .f64 ax, .float .f64 ec, .float .f64 ti, .float .f64 no, .float .f64 pe, .float .f64 ph, .float .f64 ra] := pg 0 hA hap (by rw [hds]; rfl) (hd 0 (by decide +kernel) (alne rfl)) (show 8 < 27 by decide)
    have h1 : ρ (.tmp 10) = .bool tb := pg 2 hA hap (by rw [hds]; rfl) (hd 2 (by decide +kernel) (alne rfl)) (show 10 < 27 by decide)
    have hf := Tryz.func73
    unfold execOp
    go_simp
  · obtain rfl := Option.some.inj ho
    refine .value W ?_ (Below.refl _ _)
    generalize hA : (puts ds L _).eval = ρ
    have hc : ∀ v, ρ (.const v) = v := fun v => by rw [← hA]; rfl
    have h0 : ρ (.tmp 11) = .int .i64 k := pg 3 hA hap (by rw [hds]; rfl) (hd 3 (by decide +kernel) (alne rfl)) (show 11 < 27 by decide)
    clear hA hd hB ho hs ha hO
    unfold execOp
    go_simp
 case store =>
  intro st hst L W o h us ho hd hal hC b
  cases hst
 case fin =>
  intro hf W0 K
  rw [hds]
  clear hds hap ds CT CR
  (try dsimp only at K)
  simp only [List.set_cons_zero, List.set_cons_succ, puts, Act.put, List.setIfInBounds_toArray]
  replace K := Lib.hid K
  go_wp2_with fail
  go_ret2
  exact ⟨rfl, K.out.old⟩
theorem omean_run {o : Ob} {d : Nat} (h : ObW o) (hd : d < 18446744073709551616) (w : World) : Calls Tryz.prog 102 #[obV o, .float .f64 d] w fun e w' => e = .returned (floE2 (meanR o d).1 (meanR o d).2) ∧ Below w.heap.size w w' := by
 have CT := Lib.hid (fun w => timeB d hd w)
 have CR := Lib.hid (fun w => oready_run h (witB g24 d) w)
 unfold meanR
 by_cases c : readyO o (witB g24 d) = 0
 · rw [if_pos c]
   rw [c] at CR
   obtain ⟨m, t⟩ := readyO_zero c
   have M := mayO_of m
   have P := pos_of h hd M.ph M.ra t
   have L := lef_of P.left
   exact omean_ok CT CR (run_mul _ _ _ P.mul) (run_add _ _ _ P.add) (fun w => xeven P.left.fin w) (run_sub _ _ _ L.sub) (fun w => obrought_run L.fin w) w
 · rw [if_neg c]
   exact omean_no (by simpa using c) CT CR w
theorem bis_on {k m : Nat} (K : Kp k m) (hm : mag (Q m) ≤ 1 / 2) : ∀ n, n ≤ 64 → Wd (bisR k m n).1 (400 + (64 - n) + 1) 1074 ∧ Wd (bisR k m n).2 (400 + (64 - n) + 1) 1074 ∧ Q (bisR k m n).1 ≤ Q (bisR k m n).2
 | 0, _ => by
   have k0 := K.k0
   have mw := K.mw
   have kw := K.kw
   have ad := Wd.add mw kw (by omega)
   obtain ⟨s1, s2, s3, s4⟩ := sub_ok (i := 1073) (k := 1074) mw.fin kw.fin mw.abs kw.abs rfl (by omega)
   have Wl : Wd (lX m k) 800 1074 := ⟨s2, by rw [s3]; exact RN_dvd (Int.dvd_sub mw.dvd kw.dvd), s4⟩
   have Wh : Wd (aX m k) 800 1074 := ad.2.1
   refine ⟨Wl.le (by omega) (Nat.le_refl _), Wh.le (by omega) (Nat.le_refl _), ?_⟩
   obtain ⟨r, g1, g2, g3, g4⟩ := addW mw.fin kw.fin mw.abs kw.abs (by omega)
   have er : aX m k = r := by unfold aX; rw [g1]; rfl
   show Q (lX m k) ≤ Q (aX m k)
   rw [er, Q_le, g3, s3]
   have := Q_nn.1 k0
   exact RN_mono (by omega)
 | n + 1, hn => by
   obtain ⟨a, b, c⟩ := bis_on K hm n (by omega)
   have e : bisR k m (n + 1) = Ply.stepB mdW (tst k m) (bisR k m n) := Ply.bis_step _ _ _ _ _
   rw [show 400 + (64 - n) + 1 = 400 + (64 - (n + 1)) + 1 + 1 by omega] at a b
   obtain ⟨w, l, u, -, -⟩ := mid_near a b (by omega) c
   rw [e]
   unfold Ply.stepB
   by_cases t : tst k m (mdW (bisR k m n).1 (bisR k m n).2) = true
   · rw [if_pos t]; exact ⟨a.le (by omega) (Nat.le_refl _), w, l⟩
   · rw [if_neg t]; exact ⟨w, b.le (by omega) (Nat.le_refl _), u⟩
structure BisN (k m lo hi e : Nat) : Prop where
 add : Ieee.double.add lo hi = some (aX lo hi)
 div : Ieee.double.div (aX lo hi) two52 = some e
 wd : ∃ j, Wd e j 1074
 mul : Ieee.double.mul k (snW e) = some (mX k (snW e))
 s1 : Ieee.double.sub e (mX k (snW e)) = some (lX e (mX k (snW e)))
 s2 : Ieee.double.sub (lX e (mX k (snW e))) m = some (rsdW k m e)
 t : (FloatKind.f64.format.order (rsdW k m e) 0 == some Ordering.gt) = tst k m e
theorem bis_n {k m : Nat} (K : Kp k m) (hm : mag (Q m) ≤ 1 / 2) {n : Nat} (hn : n ≤ 64) : BisN k m (bisR k m n).1 (bisR k m n).2 (mdW (bisR k m n).1 (bisR k m n).2) := by
 obtain ⟨a, b, c⟩ := bis_on K hm n hn
 obtain ⟨a1, a2, a3, -⟩ := mid_any a b (by omega) (by omega) (by omega) (Q_le.1 c)
 obtain ⟨b1, b2, b3, b4, -⟩ := rsd_near K a3
 have g := gt_words b4 zero_fin
 rw [V_zero] at g
 exact ⟨a1, a2, ⟨_, a3⟩, b1, b2, b3, g⟩
theorem kp_ec {e m : Nat} (he : e < 18446744073709551616) (hm : m < 18446744073709551616) (e1 : ecB e = true) (m1 : haB m = true) : Ieee.double.div e tauW = some (kepW e) ∧ Kp (kepW e) m ∧ mag (Q m) ≤ 1 / 2 := by
 obtain ⟨f, g, a, b⟩ := btw_of he e1
 have M := ha_wd hm m1
 have q : Q ecHi = 7 / 8 := by decide +kernel
 rw [V_zero] at a
 obtain ⟨k1, k2⟩ := kp_of (m := m) he g (Q_nn.2 a) (by rw [← q]; exact Q_le.2 b) (M.le (by omega) (Nat.le_refl _))
 obtain ⟨-, -, c, d⟩ := btw_of hm m1
 have q1 : Q haLo = -(1 / 2) := by decide +kernel
 have q2 : Q haHi = 1 / 2 := by decide +kernel
 exact ⟨k1, k2, mag_of (by rw [← q1]; exact Q_le.2 c) (by rw [← q2]; exact Q_le.2 d)⟩
theorem start_some {k m : Nat} (K : Kp k m) : Ieee.double.sub m k = some (lX m k) ∧ Ieee.double.add m k = some (aX m k) := by
 have ad := Wd.add K.mw K.kw (by omega)
 obtain ⟨s1, -, -, -⟩ := sub_ok (i := 1073) (k := 1074) K.mw.fin K.kw.fin K.mw.abs K.kw.abs rfl (by omega)
 exact ⟨s1, ad.1⟩
theorem tst_step (k m n : Nat) : (tst k m (mdW (bisR k m n).1 (bisR k m n).2) = true → bisR k m (n + 1) = ((bisR k m n).1, mdW (bisR k m n).1 (bisR k m n).2)) ∧ (tst k m (mdW (bisR k m n).1 (bisR k m n).2) = false → bisR k m (n + 1) = (mdW (bisR k m n).1 (bisR k m n).2, (bisR k m n).2)) := by
 have e : bisR k m (n + 1) = Ply.stepB mdW (tst k m) (bisR k m n) := Ply.bis_step _ _ _ _ _
 rw [e]
 unfold Ply.stepB
 exact ⟨fun h => if_pos h, fun h => if_neg (by rw [h]; decide)⟩
theorem osolve_no {e m : Nat} (he : e < 18446744073709551616) (w : World) (h : ecB e = false) : Calls Tryz.prog 103 #[.float .f64 e, .float .f64 m] w fun en w' => en = .returned (floE2 0 110) ∧ Below w.heap.size w w' := by
 have C := fun w => ofitEcc_run he w
 rw [h] at C
 clear h he
 go_enter Tryz.func103, Tryz.ntmps103
 go_wp2_with (go_at_call 172; ((with_reducible refine (C _).mono ?_); rintro e w' ⟨rfl, rfl⟩))
 go_ret2
 exact ⟨rfl, Below.refl _ _⟩
theorem osolve_nm {e m : Nat} (he : e < 18446744073709551616) (hm : m < 18446744073709551616) (w : World) (h : ecB e = true) (h2 : haB m = false) : Calls Tryz.prog 103 #[.float .f64 e, .float .f64 m] w fun en w' => en = .returned (floE2 0 3) ∧ Below w.heap.size w w' := by
 have C := fun w => ofitEcc_run he w
 have C2 := fun w => ofitMean_run hm w
 rw [h] at C
 rw [h2] at C2
 clear h he h2 hm
 go_enter Tryz.func103, Tryz.ntmps103
 go_wp2_with (first | (go_at_call 172; ((with_reducible refine (C _).mono ?_); rintro e w' ⟨rfl, rfl⟩)) | (go_at_call 173; ((with_reducible refine (C2 _).mono ?_); rintro e w' ⟨rfl, rfl⟩)))
 go_ret2
 exact ⟨rfl, Below.refl _ _⟩
theorem osolve_ok {e m : Nat} (he : e < 18446744073709551616) (hm : m < 18446744073709551616) (w : World) (h : ecB e = true) (h2 : haB m = true) : Calls Tryz.prog 103 #[.float .f64 e, .float .f64 m] w fun en w' => en = .returned (floE2 (solV e m) 0) ∧ Below w.heap.size w w' := by
 have C := fun w => ofitEcc_run he w
 have C2 := fun w => ofitMean_run hm w
 rw [h] at C
 rw [h2] at C2
 obtain ⟨k1, K, hq⟩ := kp_ec he hm h h2
 obtain ⟨q1, q2⟩ := start_some K
 have rk := run_div _ _ _ k1
 have rl := run_sub _ _ _ q1
 have rh := run_add _ _ _ q2
 have B : Hid (∀ n, n ≤ 64 → BisN (kepW e) m (bisR (kepW e) m n).1 (bisR (kepW e) m n).2 (mdW (bisR (kepW e) m n).1 (bisR (kepW e) m n).2)) := Lib.hid fun n hn => bis_n K hq hn
 have TS : Hid (∀ n, (tst (kepW e) m (mdW (bisR (kepW e) m n).1 (bisR (kepW e) m n).2) = true → bisR (kepW e) m (n + 1) = ((bisR (kepW e) m n).1, mdW (bisR (kepW e) m n).1 (bisR (kepW e) m n).2)) ∧ (tst (kepW e) m (mdW (bisR (kepW e) m n).1 (bisR (kepW e) m n).2) = false → bisR (kepW e) m (n + 1) = (mdW (bisR (kepW e) m n).1 (bisR (kepW e) m n).2, (bisR (kepW e) m n).2))) := Lib.hid (tst_step (kepW e) m)
 have B0 : bisR (kepW e) m 0 = (lX m (kepW e), aX m (kepW e)) := rfl
 have fin : Hid (solV e m = oW (mdW (bisR (kepW e) m 64).1 (bisR (kepW e) m 64).2)) := Lib.hid rfl
 generalize hA : solV e m = A at *
 unfold tauW at rk
 clear hA k1 K hq q1 q2 h h2 he hm
 replace B0 := Lib.hid B0
 generalize hk : kepW e = k at *
 clear hk
 generalize lX m k = l0 at *
 generalize aX m k = h0 at *
 go_enter Tryz.func103, Tryz.ntmps103
 go_wp2_with (first | (go_at_call 172; ((with_reducible refine (C _).mono ?_); rintro e w' ⟨rfl, rfl⟩)) | (go_at_call 173; ((with_reducible refine (C2 _).mono ?_); rintro e w' ⟨rfl, rfl⟩)))
 go_loopw [7, 8, 26] (fun lv hv iv wr => ∃ (i l h : Nat), lv = .float .f64 l ∧ hv = .float .f64 h ∧ iv = .int .i64 i ∧ i ≤ 64 ∧ bisR k m i = (l, h) ∧ Below w.heap.size w wr) (fun _ _ iv _ => 64 - (intOf iv).toNat)
 case atStart => exact ⟨0, l0, h0, rfl, rfl, rfl, by omega, B0.out, Below.refl _ _⟩
 case round =>
  obtain ⟨i, l, h, rfl, rfl, rfl, hi, hb, ho⟩ := hrel
  have R := B.out i hi
  rw [hb] at R
  dsimp only at R
  have TS := TS.out i
  rw [hb] at TS
  dsimp only at TS
  have ra := run_add _ _ _ R.add
  have rd := run_div _ _ _ R.div
  unfold two52 at rd
  by_cases hlt : i < 64
  · obtain ⟨j, wd⟩ := R.wd
    have rm := run_mul _ _ _ R.mul
    have r1 := run_sub _ _ _ R.s1
    have r2 := run_sub _ _ _ R.s2
    have rt := R.t
    have wd5 := wd.le (q := j) (l := 1075) (Nat.le_refl _) (by omega)
    obtain ⟨-, ea⟩ := oW_ang wd5
    have CB := fun w => obrought_run wd.fin w
    have CS := Lib.hid (fun w => osin_run (oW_nz wd.fin).fin.1 ea w)
    rw [sn_oW wd.fin] at CS
    clear R wd wd5 ea B
    generalize hx : mdW l h = x at *
    clear hx
    generalize snW x = sx at *
    generalize oW x = ox at *
    generalize rsdW k m x = z at *
    generalize lX x (mX k sx) = z1 at *
    generalize mX k sx = z2 at *
    generalize aX l h = z3 at *
    replace ho := Lib.hid ho
    replace TS := Lib.hid TS
    generalize tst k m x = tb at *
    have hlt2 := hlt
    go_wp2_with (go_at_call 106; ((with_reducible refine (CB _).mono ?_); rintro e w' ⟨rfl, rfl⟩))
    refine (CS.out _).mono ?_
    rintro _ v1 ⟨rfl, hb1⟩
    replace ho := Lib.hid (ho.out.trans (hb1.mono ho.out.size))
    clear hb1 CS
    cases tb with
    | true =>
      replace TS := Lib.hid (TS.out.1 rfl)
      go_wp2_with fail
      go_roundw
      case rel => exact ⟨i + 1, l, x, rfl, rfl, by go_num, hlt, TS.out, ho.out⟩
      case measure => simp [intOf]; omega
    | false =>
      replace TS := Lib.hid (TS.out.2 rfl)
      go_wp2_with fail
      go_roundw
      case rel => exact ⟨i + 1, x, h, rfl, rfl, by go_num, hlt, TS.out, ho.out⟩
      case measure => simp [intOf]; omega
  · obtain rfl : i = 64 := by omega
    obtain ⟨j, wd⟩ := R.wd
    have CB := fun w => obrought_run wd.fin w
    have fin := fin.out
    rw [hb] at fin
    dsimp only at fin
    clear R wd TS B
    generalize hx : mdW l h = x at *
    clear hx
    generalize aX l h = z3 at *
    generalize oW x = ox at *
    replace ho := Lib.hid ho
    clear hb
    go_wp2_with (go_at_call 106; ((with_reducible refine (CB _).mono ?_); rintro e w' ⟨rfl, rfl⟩))
    go_ret2
    exact ⟨by rw [fin]; rfl, ho.out⟩
theorem osolve_run {e m : Nat} (he : e < 18446744073709551616) (hm : m < 18446744073709551616) (w : World) : Calls Tryz.prog 103 #[.float .f64 e, .float .f64 m] w fun en w' => en = .returned (floE2 (solR e m).1 (solR e m).2) ∧ Below w.heap.size w w' := by
 unfold solR
 by_cases h : ecB e = true
 · rw [if_pos h]
   by_cases h2 : haB m = true
   · rw [if_pos h2]; exact osolve_ok he hm w h h2
   · rw [if_neg h2]; exact osolve_nm he hm w h (by simpa using h2)
 · rw [if_neg h]; exact osolve_no he w (by simpa using h)
end Go.Proofs.YtacinenddnfcbaaGreat

namespace Go.Proofs.YtacinenddnfcbaaGreat
open Go.ChangeShapes Go.WideShapes Go.ChangeAt Go.RowKit Ieee.Own Pol

noncomputable def laidR : List (Int × Nat) → V3 → V3 × Int
 | [], v => (v, 0)
 | t :: l, v => if (applyR (turnW t.1 t.2) v).2 = 0 then laidR l (applyR (turnW t.1 t.2) v).1 else (z3, (applyR (turnW t.1 t.2) v).2)
def turnsO (o : Ob) : List (Int × Nat) := [(2, o.pe), (0, o.ti), (2, o.no)]
theorem laid_ok {t : Int × Nat} {l : List (Int × Nat)} {v : V3} {A : V3 × Int} (h : laidR (t :: l) v = A) (e : (applyR (turnW t.1 t.2) v).2 = 0) : laidR l (applyR (turnW t.1 t.2) v).1 = A := by
 unfold laidR at h; rw [if_pos e] at h; exact h
theorem laid_no {t : Int × Nat} {l : List (Int × Nat)} {v : V3} {A : V3 × Int} (h : laidR (t :: l) v = A) (e : (applyR (turnW t.1 t.2) v).2 ≠ 0) : (z3, (applyR (turnW t.1 t.2) v).2) = A := by
 unfold laidR at h; rw [if_neg e] at h; exact h
theorem tu_ang {x : Nat} (hx : x < 18446744073709551616) (h : tuB x = true) : errA x = 0 := by
 have W := tu_wd hx h
 exact err_small W.fin (btw_of hx h).2.1 (abs_up (k := 1084) (l := 1114) W.abs (by omega))
structure TurnO (a : Int) (x : Nat) : Prop where
 own : ∀ w, Calls Tryz.prog 181 #[.int .i64 a, .float .f64 x] w fun e w' => e = .returned (matE (turnW a x) 0) ∧ Below w.heap.size w w'
 w : W9 (turnW a x)
theorem turn_o {a : Int} {x : Nat} (h0 : 0 ≤ a) (h1 : a ≤ 2) (hx : x < 18446744073709551616) (e : errA x = 0) : TurnO a x := by
 exact ⟨fun w => vturned_run h0 h1 hx e w, (turnW_ok a hx e).1⟩
theorem oturnings_run {ax ec ti no pe ph ra : Nat} (w : World) : Calls Tryz.prog 146 #[.agg #[.float .f64 ax, .float .f64 ec, .float .f64 ti, .float .f64 no, .float .f64 pe, .float .f64 ph, .float .f64 ra]] w fun e w' => e = .returned (.agg #[.int .i64 2, .float .f64 pe, .int .i64 0, .float .f64 ti, .int .i64 2, .float .f64 no]) ∧ Below w.heap.size w w' := by
 have K0 := kv2 w 45 158 [.float .f64 ax, .float .f64 ec, .float .f64 ti, .float .f64 no, .float .f64 pe, .float .f64 ph, .float .f64 ra] [.int .i64 2, .float .f64 pe, .int .i64 0, .float .f64 ti, .int .i64 2, .float .f64 no]
 simp only [objV] at K0
 have hst := @fstore
 have c0_2 := (K0.at_ 0 rfl).at_ 2 _ rfl
 have c0_3 := (K0.at_ 0 rfl).at_ 3 _ rfl
 have c0_4 := (K0.at_ 0 rfl).at_ 4 _ rfl
 have c1_0 := (K0.at_ 1 rfl).at_ 0 _ rfl
 have f1_0 := (K0.at_ 1 rfl).fr 0 _ rfl
 have c1_1 := (K0.at_ 1 rfl).at_ 1 _ rfl
 have f1_1 := (K0.at_ 1 rfl).fr 1 _ rfl
 have c1_2 := (K0.at_ 1 rfl).at_ 2 _ rfl
 have f1_2 := (K0.at_ 1 rfl).fr 2 _ rfl
 have c1_3 := (K0.at_ 1 rfl).at_ 3 _ rfl
 have f1_3 := (K0.at_ 1 rfl).fr 3 _ rfl
 have c1_4 := (K0.at_ 1 rfl).at_ 4 _ rfl
 have f1_4 := (K0.at_ 1 rfl).fr 4 _ rfl
 have c1_5 := (K0.at_ 1 rfl).at_ 5 _ rfl
 have f1_5 := (K0.at_ 1 rfl).fr 5 _ rfl
 replace K0 := Lib.hid K0
 go_enter Tryz.func146, Tryz.ntmps146
 go_wp2_with fail
 have K := K0.out
 (try simp only [Exit.inBlock, Exit.then])
 refine bodyPost_ret (v := .agg #[.int .i64 2, .float .f64 pe, .int .i64 0, .float .f64 ti, .int .i64 2, .float .f64 no]) ?_ rfl ⟨rfl, ?_⟩
 · rw [results_cell1 rfl]; go_simp
 · exact K.old
theorem ix0 (a b c : Nat) (w : World) : (Instr.index 158 (.agg #[.int .i64 2, .float .f64 a, .int .i64 0, .float .f64 b, .int .i64 2, .float .f64 c]) (.int .i64 0)).run Tryz.prog w = .ok (.agg #[.int .i64 2, .float .f64 a]) w := by rfl
theorem ix1 (a b c : Nat) (w : World) : (Instr.index 158 (.agg #[.int .i64 2, .float .f64 a, .int .i64 0, .float .f64 b, .int .i64 2, .float .f64 c]) (.int .i64 1)).run Tryz.prog w = .ok (.agg #[.int .i64 0, .float .f64 b]) w := by rfl
theorem ix2 (a b c : Nat) (w : World) : (Instr.index 158 (.agg #[.int .i64 2, .float .f64 a, .int .i64 0, .float .f64 b, .int .i64 2, .float .f64 c]) (.int .i64 2)).run Tryz.prog w = .ok (.agg #[.int .i64 2, .float .f64 c]) w := by rfl
theorem oturned_run {o : Ob} {v : V3} (h : ObW o) (hO : ObOk o) (hv : W3 v) (w : World) : Calls Tryz.prog 107 #[obV o, vecV v] w fun e w' => e = .returned (vecE (laidR (turnsO o) v).1 (laidR (turnsO o) v).2) ∧ Below w.heap.size w w' := by
 have T0 := Lib.hid (turn_o (a := 2) (by decide) (by decide) h.pe (tu_ang h.pe hO.pe))
 have T1 := Lib.hid (turn_o (a := 0) (by decide) (by decide) h.ti (tu_ang h.ti hO.ti))
 have T2 := Lib.hid (turn_o (a := 2) (by decide) (by decide) h.no (tu_ang h.no hO.no))
 clear h hO
 obtain ⟨A, hA⟩ : ∃ A, A = laidR (turnsO o) v := ⟨_, rfl⟩
 rw [← hA]
 have R0 : laidR (turnsO o) v = A := hA.symm
 clear hA
 unfold turnsO at R0
 obtain ⟨ax, ec, ti, no, pe, ph, ra⟩ := o
 obtain ⟨x1, x2, x3⟩ := v
 unfold obV vecV at *
 dsimp only at *
 have CN := Lib.hid (fun w => oturnings_run (ax := ax) (ec := ec) (ti := ti) (no := no) (pe := pe) (ph := ph) (ra := ra) w)
 have i0 := ix0 pe ti no
 have i1 := ix1 pe ti no
 have i2 := ix2 pe ti no
 replace R0 := Lib.hid R0
 replace hv := Lib.hid hv
 have K0 := kv3 w 45 41 41 [.float .f64 ax, .float .f64 ec, .float .f64 ti, .float .f64 no, .float .f64 pe, .float .f64 ph, .float .f64 ra] [.float .f64 x1, .float .f64 x2, .float .f64 x3] [.float .f64 0, .float .f64 0, .float .f64 0]
 simp only [objV] at K0
 have hst := @fstore
 replace K0 := Lib.hid K0
 go_enter Tryz.func107, Tryz.ntmps107
 go_wp2_with fail
 have K := K0.out
 clear K0
 generalize ((w.alloc _).alloc _).alloc _ = wr at *
 refine (CN.out wr).mono ?_
 rintro _ v1 ⟨rfl, hb⟩
 replace K := K.on hb
 clear hb
 replace K := Lib.hid K
 go_wp2_with fail
 replace K := K.out
 go_loopw [12] (fun iv wr => ∃ (i : Int) (p1 p2 p3 : Nat), iv = .int .i64 i ∧ W3 (p1, p2, p3) ∧ ((i = 0 ∧ laidR [(2, pe), (0, ti), (2, no)] (p1, p2, p3) = A) ∨ (i = 1 ∧ laidR [(0, ti), (2, no)] (p1, p2, p3) = A) ∨ (i = 2 ∧ laidR [(2, no)] (p1, p2, p3) = A) ∨ (i = 3 ∧ laidR [] (p1, p2, p3) = A)) ∧ Kv w [some (w.heap.size, [.float .f64 ax, .float .f64 ec, .float .f64 ti, .float .f64 no, .float .f64 pe, .float .f64 ph, .float .f64 ra]), some (w.heap.size + 1, [.float .f64 p1, .float .f64 p2, .float .f64 p3]), some (w.heap.size + 1 + 1, [.float .f64 0, .float .f64 0, .float .f64 0])] wr) (fun iv _ => (3 - intOf iv).toNat)
 case atStart => exact ⟨0, x1, x2, x3, rfl, hv.out, .inl ⟨rfl, R0.out⟩, K⟩
 case round =>
  obtain ⟨i, p1, p2, p3, rfl, hw, hi, K⟩ := hrel
  rcases hi with ⟨rfl, R1⟩ | ⟨rfl, R1⟩ | ⟨rfl, R1⟩ | ⟨rfl, R1⟩
  · have CT := Lib.hid T0.out.own
    have CP := fun w => vapply_any T0.out.w hw w
    have YW := (ans_apply T0.out.w hw).w
    have G1 := laid_ok R1
    have G2 := laid_no R1
    clear R1 T0 T1 T2
    dsimp only at G1 G2
    generalize hY : applyR (turnW 2 pe) (p1, p2, p3) = Y at *
    clear hY
    generalize turnW 2 pe = M at *
    obtain ⟨⟨m0, m1, m2⟩, ⟨m3, m4, m5⟩, ⟨m6, m7, m8⟩⟩ := M
    obtain ⟨⟨y1, y2, y3⟩, k⟩ := Y
    unfold matE vecE at *
    unfold matV at CT CP
    unfold vecV at CP
    dsimp only at *
    replace CP := Lib.hid CP
    replace YW := Lib.hid YW
    replace hw := Lib.hid hw
    by_cases hk : k = 0
    · subst hk
      replace G1 := Lib.hid (G1 rfl)
      clear G2
      replace K := K.new 157 [.int .i64 2, .float .f64 pe]
      simp only [objV, List.cons_append, List.nil_append] at K
      have c3_0 := (K.at_ 3 rfl).at_ 0 _ rfl
      have c3_1 := (K.at_ 3 rfl).at_ 1 _ rfl
      replace K := Lib.hid K
      go_wp2_with fail
      replace K := K.out
      generalize wr.alloc _ = u0 at *
      generalize wr.heap.size = g0 at *
      refine (CT.out u0).mono ?_
      rintro _ v1 ⟨rfl, hb⟩
      clear c3_0 c3_1
      replace K := K.on hb
      clear hb
      replace K := K.new 144 [.float .f64 m0, .float .f64 m1, .float .f64 m2, .float .f64 m3, .float .f64 m4, .float .f64 m5, .float .f64 m6, .float .f64 m7, .float .f64 m8]
      simp only [objV, List.cons_append, List.nil_append] at K
      have c4_0 := (K.at_ 4 rfl).at_ 0 _ rfl
      have c4_1 := (K.at_ 4 rfl).at_ 1 _ rfl
      have c4_2 := (K.at_ 4 rfl).at_ 2 _ rfl
      have c4_3 := (K.at_ 4 rfl).at_ 3 _ rfl
      have c4_4 := (K.at_ 4 rfl).at_ 4 _ rfl
      have c4_5 := (K.at_ 4 rfl).at_ 5 _ rfl
      have c4_6 := (K.at_ 4 rfl).at_ 6 _ rfl
      have c4_7 := (K.at_ 4 rfl).at_ 7 _ rfl
      have c4_8 := (K.at_ 4 rfl).at_ 8 _ rfl
      have c1_0 := (K.at_ 1 rfl).at_ 0 _ rfl
      have c1_1 := (K.at_ 1 rfl).at_ 1 _ rfl
      have c1_2 := (K.at_ 1 rfl).at_ 2 _ rfl
      replace K := Lib.hid K
      go_wp2_with fail
      replace K := K.out
      generalize v1.alloc _ = u1 at *
      generalize v1.heap.size = g1 at *
      refine (CP.out u1).mono ?_
      rintro _ v2 ⟨rfl, hb⟩
      clear c4_0 c4_1 c4_2 c4_3 c4_4 c4_5 c4_6 c4_7 c4_8 c1_0 c1_1 c1_2
      replace K := K.on hb
      clear hb
      have c1_0 := (K.at_ 1 rfl).at_ 0 _ rfl
      have f1_0 := (K.at_ 1 rfl).fr 0 _ rfl
      have c1_1 := (K.at_ 1 rfl).at_ 1 _ rfl
      have f1_1 := (K.at_ 1 rfl).fr 1 _ rfl
      have c1_2 := (K.at_ 1 rfl).at_ 2 _ rfl
      have f1_2 := (K.at_ 1 rfl).fr 2 _ rfl
      replace K := K.put 1 rfl 0 [.float .f64 y1, .float .f64 y2, .float .f64 y3] (by simp)
      simp only [putV, setV, List.set_cons_zero, List.set_cons_succ] at K
      replace K := Lib.hid K
      go_wp2_with fail
      go_roundw
      case rel => exact ⟨1, y1, y2, y3, rfl, YW.out, .inr (.inl ⟨rfl, G1.out⟩), K.out.take 3⟩
      case measure => simp [intOf]
    · have tk : (k != 0) = true := by simpa using hk
      replace G2 := Lib.hid (G2 hk)
      clear G1 hk
      replace K := K.new 157 [.int .i64 2, .float .f64 pe]
      simp only [objV, List.cons_append, List.nil_append] at K
      have c3_0 := (K.at_ 3 rfl).at_ 0 _ rfl
      have c3_1 := (K.at_ 3 rfl).at_ 1 _ rfl
      replace K := Lib.hid K
      go_wp2_with fail
      replace K := K.out
      generalize wr.alloc _ = u0 at *
      generalize wr.heap.size = g0 at *
      refine (CT.out u0).mono ?_
      rintro _ v1 ⟨rfl, hb⟩
      clear c3_0 c3_1
      replace K := K.on hb
      clear hb
      replace K := K.new 144 [.float .f64 m0, .float .f64 m1, .float .f64 m2, .float .f64 m3, .float .f64 m4, .float .f64 m5, .float .f64 m6, .float .f64 m7, .float .f64 m8]
      simp only [objV, List.cons_append, List.nil_append] at K
      have c4_0 := (K.at_ 4 rfl).at_ 0 _ rfl
      have c4_1 := (K.at_ 4 rfl).at_ 1 _ rfl
      have c4_2 := (K.at_ 4 rfl).at_ 2 _ rfl
      have c4_3 := (K.at_ 4 rfl).at_ 3 _ rfl
      have c4_4 := (K.at_ 4 rfl).at_ 4 _ rfl
      have c4_5 := (K.at_ 4 rfl).at_ 5 _ rfl
      have c4_6 := (K.at_ 4 rfl).at_ 6 _ rfl
      have c4_7 := (K.at_ 4 rfl).at_ 7 _ rfl
      have c4_8 := (K.at_ 4 rfl).at_ 8 _ rfl
      have c1_0 := (K.at_ 1 rfl).at_ 0 _ rfl
      have c1_1 := (K.at_ 1 rfl).at_ 1 _ rfl
      have c1_2 := (K.at_ 1 rfl).at_ 2 _ rfl
      replace K := Lib.hid K
      go_wp2_with fail
      replace K := K.out
      generalize v1.alloc _ = u1 at *
      generalize v1.heap.size = g1 at *
      refine (CP.out u1).mono ?_
      rintro _ v2 ⟨rfl, hb⟩
      clear c4_0 c4_1 c4_2 c4_3 c4_4 c4_5 c4_6 c4_7 c4_8 c1_0 c1_1 c1_2
      replace K := K.on hb
      clear hb
      have c1_0 := (K.at_ 1 rfl).at_ 0 _ rfl
      have f1_0 := (K.at_ 1 rfl).fr 0 _ rfl
      have c1_1 := (K.at_ 1 rfl).at_ 1 _ rfl
      have f1_1 := (K.at_ 1 rfl).fr 1 _ rfl
      have c1_2 := (K.at_ 1 rfl).at_ 2 _ rfl
      have f1_2 := (K.at_ 1 rfl).fr 2 _ rfl
      replace K := K.put 1 rfl 0 [.float .f64 y1, .float .f64 y2, .float .f64 y3] (by simp)
      simp only [putV, setV, List.set_cons_zero, List.set_cons_succ] at K
      have c2_0 := (K.at_ 2 rfl).at_ 0 _ rfl
      have f2_0 := (K.at_ 2 rfl).fr 0 _ rfl
      have c2_1 := (K.at_ 2 rfl).at_ 1 _ rfl
      have f2_1 := (K.at_ 2 rfl).fr 1 _ rfl
      have c2_2 := (K.at_ 2 rfl).at_ 2 _ rfl
      have f2_2 := (K.at_ 2 rfl).fr 2 _ rfl
      replace K := Lib.hid K
      go_wp2_with fail
      replace K := K.out
      (try simp only [Exit.inBlock, Exit.then])
      refine bodyPost_ret (v := .tuple #[.agg #[.float .f64 0, .float .f64 0, .float .f64 0], .int .i64 k]) ?_ rfl ⟨ret_vF G2.out, ?_⟩
      · rw [results_cell_tmp rfl]; go_simp
      · exact (((K.old).setCell (by first | exact Nat.le_refl _ | (dsimp only; omega)) _).setCell (by first | exact Nat.le_refl _ | (dsimp only; omega)) _).setCell (by first | exact Nat.le_refl _ | (dsimp only; omega)) _
  · have CT := Lib.hid T1.out.own
    have CP := fun w => vapply_any T1.out.w hw w
    have YW := (ans_apply T1.out.w hw).w
    have G1 := laid_ok R1
    have G2 := laid_no R1
    clear R1 T0 T1 T2
    dsimp only at G1 G2
    generalize hY : applyR (turnW 0 ti) (p1, p2, p3) = Y at *
    clear hY
    generalize turnW 0 ti = M at *
    obtain ⟨⟨m0, m1, m2⟩, ⟨m3, m4, m5⟩, ⟨m6, m7, m8⟩⟩ := M
    obtain ⟨⟨y1, y2, y3⟩, k⟩ := Y
    unfold matE vecE at *
    unfold matV at CT CP
    unfold vecV at CP
    dsimp only at *
    replace CP := Lib.hid CP
    replace YW := Lib.hid YW
    replace hw := Lib.hid hw
    by_cases hk : k = 0
    · subst hk
      replace G1 := Lib.hid (G1 rfl)
      clear G2
      replace K := K.new 157 [.int .i64 0, .float .f64 ti]
      simp only [objV, List.cons_append, List.nil_append] at K
      have c3_0 := (K.at_ 3 rfl).at_ 0 _ rfl
      have c3_1 := (K.at_ 3 rfl).at_ 1 _ rfl
      replace K := Lib.hid K
      go_wp2_with fail
      replace K := K.out
      generalize wr.alloc _ = u0 at *
      generalize wr.heap.size = g0 at *
      refine (CT.out u0).mono ?_
      rintro _ v1 ⟨rfl, hb⟩
      clear c3_0 c3_1
      replace K := K.on hb
      clear hb
      replace K := K.new 144 [.float .f64 m0, .float .f64 m1, .float .f64 m2, .float .f64 m3, .float .f64 m4, .float .f64 m5, .float .f64 m6, .float .f64 m7, .float .f64 m8]
      simp only [objV, List.cons_append, List.nil_append] at K
      have c4_0 := (K.at_ 4 rfl).at_ 0 _ rfl
      have c4_1 := (K.at_ 4 rfl).at_ 1 _ rfl
      have c4_2 := (K.at_ 4 rfl).at_ 2 _ rfl
      have c4_3 := (K.at_ 4 rfl).at_ 3 _ rfl
      have c4_4 := (K.at_ 4 rfl).at_ 4 _ rfl
      have c4_5 := (K.at_ 4 rfl).at_ 5 _ rfl
      have c4_6 := (K.at_ 4 rfl).at_ 6 _ rfl
      have c4_7 := (K.at_ 4 rfl).at_ 7 _ rfl
      have c4_8 := (K.at_ 4 rfl).at_ 8 _ rfl
      have c1_0 := (K.at_ 1 rfl).at_ 0 _ rfl
      have c1_1 := (K.at_ 1 rfl).at_ 1 _ rfl
      have c1_2 := (K.at_ 1 rfl).at_ 2 _ rfl
      replace K := Lib.hid K
      go_wp2_with fail
      replace K := K.out
      generalize v1.alloc _ = u1 at *
      generalize v1.heap.size = g1 at *
      refine (CP.out u1).mono ?_
      rintro _ v2 ⟨rfl, hb⟩
      clear c4_0 c4_1 c4_2 c4_3 c4_4 c4_5 c4_6 c4_7 c4_8 c1_0 c1_1 c1_2
      replace K := K.on hb
      clear hb
      have c1_0 := (K.at_ 1 rfl).at_ 0 _ rfl
      have f1_0 := (K.at_ 1 rfl).fr 0 _ rfl
      have c1_1 := (K.at_ 1 rfl).at_ 1 _ rfl
      have f1_1 := (K.at_ 1 rfl).fr 1 _ rfl
      have c1_2 := (K.at_ 1 rfl).at_ 2 _ rfl
      have f1_2 := (K.at_ 1 rfl).fr 2 _ rfl
      replace K := K.put 1 rfl 0 [.float .f64 y1, .float .f64 y2, .float .f64 y3] (by simp)
      simp only [putV, setV, List.set_cons_zero, List.set_cons_succ] at K
      replace K := Lib.hid K
      go_wp2_with fail
      go_roundw
      case rel => exact ⟨2, y1, y2, y3, rfl, YW.out, .inr (.inr (.inl ⟨rfl, G1.out⟩)), K.out.take 3⟩
      case measure => simp [intOf]
    · have tk : (k != 0) = true := by simpa using hk
      replace G2 := Lib.hid (G2 hk)
      clear G1 hk
      replace K := K.new 157 [.int .i64 0, .float .f64 ti]
      simp only [objV, List.cons_append, List.nil_append] at K
      have c3_0 := (K.at_ 3 rfl).at_ 0 _ rfl
      have c3_1 := (K.at_ 3 rfl).at_ 1 _ rfl
      replace K := Lib.hid K
      go_wp2_with fail
      replace K := K.out
      generalize wr.alloc _ = u0 at *
      generalize wr.heap.size = g0 at *
      refine (CT.out u0).mono ?_
      rintro _ v1 ⟨rfl, hb⟩
      clear c3_0 c3_1
      replace K := K.on hb
      clear hb
      replace K := K.new 144 [.float .f64 m0, .float .f64 m1, .float .f64 m2, .float .f64 m3, .float .f64 m4, .float .f64 m5, .float .f64 m6, .float .f64 m7, .float .f64 m8]
      simp only [objV, List.cons_append, List.nil_append] at K
      have c4_0 := (K.at_ 4 rfl).at_ 0 _ rfl
      have c4_1 := (K.at_ 4 rfl).at_ 1 _ rfl
      have c4_2 := (K.at_ 4 rfl).at_ 2 _ rfl
      have c4_3 := (K.at_ 4 rfl).at_ 3 _ rfl
      have c4_4 := (K.at_ 4 rfl).at_ 4 _ rfl
      have c4_5 := (K.at_ 4 rfl).at_ 5 _ rfl
      have c4_6 := (K.at_ 4 rfl).at_ 6 _ rfl
      have c4_7 := (K.at_ 4 rfl).at_ 7 _ rfl
      have c4_8 := (K.at_ 4 rfl).at_ 8 _ rfl
      have c1_0 := (K.at_ 1 rfl).at_ 0 _ rfl
      have c1_1 := (K.at_ 1 rfl).at_ 1 _ rfl
      have c1_2 := (K.at_ 1 rfl).at_ 2 _ rfl
      replace K := Lib.hid K
      go_wp2_with fail
      replace K := K.out
      generalize v1.alloc _ = u1 at *
      generalize v1.heap.size = g1 at *
      refine (CP.out u1).mono ?_
      rintro _ v2 ⟨rfl, hb⟩
      clear c4_0 c4_1 c4_2 c4_3 c4_4 c4_5 c4_6 c4_7 c4_8 c1_0 c1_1 c1_2
      replace K := K.on hb
      clear hb
      have c1_0 := (K.at_ 1 rfl).at_ 0 _ rfl
      have f1_0 := (K.at_ 1 rfl).fr 0 _ rfl
      have c1_1 := (K.at_ 1 rfl).at_ 1 _ rfl
      have f1_1 := (K.at_ 1 rfl).fr 1 _ rfl
      have c1_2 := (K.at_ 1 rfl).at_ 2 _ rfl
      have f1_2 := (K.at_ 1 rfl).fr 2 _ rfl
      replace K := K.put 1 rfl 0 [.float .f64 y1, .float .f64 y2, .float .f64 y3] (by simp)
      simp only [putV, setV, List.set_cons_zero, List.set_cons_succ] at K
      have c2_0 := (K.at_ 2 rfl).at_ 0 _ rfl
      have f2_0 := (K.at_ 2 rfl).fr 0 _ rfl
      have c2_1 := (K.at_ 2 rfl).at_ 1 _ rfl
      have f2_1 := (K.at_ 2 rfl).fr 1 _ rfl
      have c2_2 := (K.at_ 2 rfl).at_ 2 _ rfl
      have f2_2 := (K.at_ 2 rfl).fr 2 _ rfl
      replace K := Lib.hid K
      go_wp2_with fail
      replace K := K.out
      (try simp only [Exit.inBlock, Exit.then])
      refine bodyPost_ret (v := .tuple #[.agg #[.float .f64 0, .float .f64 0, .float .f64 0], .int .i64 k]) ?_ rfl ⟨ret_vF G2.out, ?_⟩
      · rw [results_cell_tmp rfl]; go_simp
      · exact (((K.old).setCell (by first | exact Nat.le_refl _ | (dsimp only; omega)) _).setCell (by first | exact Nat.le_refl _ | (dsimp only; omega)) _).setCell (by first | exact Nat.le_refl _ | (dsimp only; omega)) _
  · have CT := Lib.hid T2.out.own
    have CP := fun w => vapply_any T2.out.w hw w
    have YW := (ans_apply T2.out.w hw).w
    have G1 := laid_ok R1
    have G2 := laid_no R1
    clear R1 T0 T1 T2
    dsimp only at G1 G2
    generalize hY : applyR (turnW 2 no) (p1, p2, p3) = Y at *
    clear hY
    generalize turnW 2 no = M at *
    obtain ⟨⟨m0, m1, m2⟩, ⟨m3, m4, m5⟩, ⟨m6, m7, m8⟩⟩ := M
    obtain ⟨⟨y1, y2, y3⟩, k⟩ := Y
    unfold matE vecE at *
    unfold matV at CT CP
    unfold vecV at CP
    dsimp only at *
    replace CP := Lib.hid CP
    replace YW := Lib.hid YW
    replace hw := Lib.hid hw
    by_cases hk : k = 0
    · subst hk
      replace G1 := Lib.hid (G1 rfl)
      clear G2
      replace K := K.new 157 [.int .i64 2, .float .f64 no]
      simp only [objV, List.cons_append, List.nil_append] at K
      have c3_0 := (K.at_ 3 rfl).at_ 0 _ rfl
      have c3_1 := (K.at_ 3 rfl).at_ 1 _ rfl
      replace K := Lib.hid K
      go_wp2_with fail
      replace K := K.out
      generalize wr.alloc _ = u0 at *
      generalize wr.heap.size = g0 at *
      refine (CT.out u0).mono ?_
      rintro _ v1 ⟨rfl, hb⟩
      clear c3_0 c3_1
      replace K := K.on hb
      clear hb
      replace K := K.new 144 [.float .f64 m0, .float .f64 m1, .float .f64 m2, .float .f64 m3, .float .f64 m4, .float .f64 m5, .float .f64 m6, .float .f64 m7, .float .f64 m8]
      simp only [objV, List.cons_append, List.nil_append] at K
      have c4_0 := (K.at_ 4 rfl).at_ 0 _ rfl
      have c4_1 := (K.at_ 4 rfl).at_ 1 _ rfl
      have c4_2 := (K.at_ 4 rfl).at_ 2 _ rfl
      have c4_3 := (K.at_ 4 rfl).at_ 3 _ rfl
      have c4_4 := (K.at_ 4 rfl).at_ 4 _ rfl
      have c4_5 := (K.at_ 4 rfl).at_ 5 _ rfl
      have c4_6 := (K.at_ 4 rfl).at_ 6 _ rfl
      have c4_7 := (K.at_ 4 rfl).at_ 7 _ rfl
      have c4_8 := (K.at_ 4 rfl).at_ 8 _ rfl
      have c1_0 := (K.at_ 1 rfl).at_ 0 _ rfl
      have c1_1 := (K.at_ 1 rfl).at_ 1 _ rfl
      have c1_2 := (K.at_ 1 rfl).at_ 2 _ rfl
      replace K := Lib.hid K
      go_wp2_with fail
      replace K := K.out
      generalize v1.alloc _ = u1 at *
      generalize v1.heap.size = g1 at *
      refine (CP.out u1).mono ?_
      rintro _ v2 ⟨rfl, hb⟩
      clear c4_0 c4_1 c4_2 c4_3 c4_4 c4_5 c4_6 c4_7 c4_8 c1_0 c1_1 c1_2
      replace K := K.on hb
      clear hb
      have c1_0 := (K.at_ 1 rfl).at_ 0 _ rfl
      have f1_0 := (K.at_ 1 rfl).fr 0 _ rfl
      have c1_1 := (K.at_ 1 rfl).at_ 1 _ rfl
      have f1_1 := (K.at_ 1 rfl).fr 1 _ rfl
      have c1_2 := (K.at_ 1 rfl).at_ 2 _ rfl
      have f1_2 := (K.at_ 1 rfl).fr 2 _ rfl
      replace K := K.put 1 rfl 0 [.float .f64 y1, .float .f64 y2, .float .f64 y3] (by simp)
      simp only [putV, setV, List.set_cons_zero, List.set_cons_succ] at K
      replace K := Lib.hid K
      go_wp2_with fail
      go_roundw
      case rel => exact ⟨3, y1, y2, y3, rfl, YW.out, .inr (.inr (.inr (⟨rfl, G1.out⟩))), K.out.take 3⟩
      case measure => simp [intOf]
    · have tk : (k != 0) = true := by simpa using hk
      replace G2 := Lib.hid (G2 hk)
      clear G1 hk
      replace K := K.new 157 [.int .i64 2, .float .f64 no]
      simp only [objV, List.cons_append, List.nil_append] at K
      have c3_0 := (K.at_ 3 rfl).at_ 0 _ rfl
      have c3_1 := (K.at_ 3 rfl).at_ 1 _ rfl
      replace K := Lib.hid K
      go_wp2_with fail
      replace K := K.out
      generalize wr.alloc _ = u0 at *
      generalize wr.heap.size = g0 at *
      refine (CT.out u0).mono ?_
      rintro _ v1 ⟨rfl, hb⟩
      clear c3_0 c3_1
      replace K := K.on hb
      clear hb
      replace K := K.new 144 [.float .f64 m0, .float .f64 m1, .float .f64 m2, .float .f64 m3, .float .f64 m4, .float .f64 m5, .float .f64 m6, .float .f64 m7, .float .f64 m8]
      simp only [objV, List.cons_append, List.nil_append] at K
      have c4_0 := (K.at_ 4 rfl).at_ 0 _ rfl
      have c4_1 := (K.at_ 4 rfl).at_ 1 _ rfl
      have c4_2 := (K.at_ 4 rfl).at_ 2 _ rfl
      have c4_3 := (K.at_ 4 rfl).at_ 3 _ rfl
      have c4_4 := (K.at_ 4 rfl).at_ 4 _ rfl
      have c4_5 := (K.at_ 4 rfl).at_ 5 _ rfl
      have c4_6 := (K.at_ 4 rfl).at_ 6 _ rfl
      have c4_7 := (K.at_ 4 rfl).at_ 7 _ rfl
      have c4_8 := (K.at_ 4 rfl).at_ 8 _ rfl
      have c1_0 := (K.at_ 1 rfl).at_ 0 _ rfl
      have c1_1 := (K.at_ 1 rfl).at_ 1 _ rfl
      have c1_2 := (K.at_ 1 rfl).at_ 2 _ rfl
      replace K := Lib.hid K
      go_wp2_with fail
      replace K := K.out
      generalize v1.alloc _ = u1 at *
      generalize v1.heap.size = g1 at *
      refine (CP.out u1).mono ?_
      rintro _ v2 ⟨rfl, hb⟩
      clear c4_0 c4_1 c4_2 c4_3 c4_4 c4_5 c4_6 c4_7 c4_8 c1_0 c1_1 c1_2
      replace K := K.on hb
      clear hb
      have c1_0 := (K.at_ 1 rfl).at_ 0 _ rfl
      have f1_0 := (K.at_ 1 rfl).fr 0 _ rfl
      have c1_1 := (K.at_ 1 rfl).at_ 1 _ rfl
      have f1_1 := (K.at_ 1 rfl).fr 1 _ rfl
      have c1_2 := (K.at_ 1 rfl).at_ 2 _ rfl
      have f1_2 := (K.at_ 1 rfl).fr 2 _ rfl
      replace K := K.put 1 rfl 0 [.float .f64 y1, .float .f64 y2, .float .f64 y3] (by simp)
      simp only [putV, setV, List.set_cons_zero, List.set_cons_succ] at K
      have c2_0 := (K.at_ 2 rfl).at_ 0 _ rfl
      have f2_0 := (K.at_ 2 rfl).fr 0 _ rfl
      have c2_1 := (K.at_ 2 rfl).at_ 1 _ rfl
      have f2_1 := (K.at_ 2 rfl).fr 1 _ rfl
      have c2_2 := (K.at_ 2 rfl).at_ 2 _ rfl
      have f2_2 := (K.at_ 2 rfl).fr 2 _ rfl
      replace K := Lib.hid K
      go_wp2_with fail
      replace K := K.out
      (try simp only [Exit.inBlock, Exit.then])
      refine bodyPost_ret (v := .tuple #[.agg #[.float .f64 0, .float .f64 0, .float .f64 0], .int .i64 k]) ?_ rfl ⟨ret_vF G2.out, ?_⟩
      · rw [results_cell_tmp rfl]; go_simp
      · exact (((K.old).setCell (by first | exact Nat.le_refl _ | (dsimp only; omega)) _).setCell (by first | exact Nat.le_refl _ | (dsimp only; omega)) _).setCell (by first | exact Nat.le_refl _ | (dsimp only; omega)) _
  · have fin : ((p1, p2, p3), (0 : Int)) = A := R1
    replace fin := Lib.hid fin
    clear R1
    have c1_0 := (K.at_ 1 rfl).at_ 0 _ rfl
    have c1_1 := (K.at_ 1 rfl).at_ 1 _ rfl
    have c1_2 := (K.at_ 1 rfl).at_ 2 _ rfl
    have c2_0 := (K.at_ 2 rfl).at_ 0 _ rfl
    have f2_0 := (K.at_ 2 rfl).fr 0 _ rfl
    have c2_1 := (K.at_ 2 rfl).at_ 1 _ rfl
    have f2_1 := (K.at_ 2 rfl).fr 1 _ rfl
    have c2_2 := (K.at_ 2 rfl).at_ 2 _ rfl
    have f2_2 := (K.at_ 2 rfl).fr 2 _ rfl
    replace K := Lib.hid K
    go_wp2_with fail
    replace K := K.out
    (try simp only [Exit.inBlock, Exit.then])
    refine bodyPost_ret (v := .tuple #[.agg #[.float .f64 p1, .float .f64 p2, .float .f64 p3], .int .i64 0]) ?_ rfl ⟨ret_vF fin.out, ?_⟩
    · rw [results_cell_tmp rfl]; go_simp
    · exact (((K.old).setCell (by first | exact Nat.le_refl _ | (dsimp only; omega)) _).setCell (by first | exact Nat.le_refl _ | (dsimp only; omega)) _).setCell (by first | exact Nat.le_refl _ | (dsimp only; omega)) _
end Go.Proofs.YtacinenddnfcbaaGreat
