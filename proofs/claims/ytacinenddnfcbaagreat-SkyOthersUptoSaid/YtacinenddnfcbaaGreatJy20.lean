/- Proved here: what the texts Obf, Omh, Obi, Obj, Obk, Obo, Obs, Obt, Obu, Obv, Obw, Obx, Oby, Frr, Rhs, Hci, Psh, Hcj, Hck, Kaa prove, one behind the other. -/
import Derived.Test.YtacinenddnfcbaaGreatJy19
import Derived.Test.YtacinenddnfcbaaGreatJy15
import Derived.Test.YtacinenddnfcbaaGreatJy14
import Derived.Test.YtacinenddnfcbaaGreatJy10
import Derived.Test.YtacinenddnfcbaaGreatJy3
import Derived.Test.YtacinenddnfcbaaGreatJy9
import Derived.Test.YtacinenddnfcbaaGreatJy12
import Derived.Maps.AppendAt
import Derived.Test.YtacinenddnfcbaaGreatJy18

set_option maxRecDepth 100000
set_option maxHeartbeats 4000000
namespace Go.Proofs.YtacinenddnfcbaaGreat
open Go.ChangeShapes Go.WideShapes Go.ChangeAt Go.RowKit Ieee.Own Pol

theorem q_abs {x : Nat} (h : mag (Q x) ≤ 4398046511104) : (V x).natAbs ≤ 2 ^ 1116 := by
 have m := mag_le (Q x)
 have q1 : Q 4796333603149578240 = 4398046511104 := by decide +kernel
 have q2 : Q 14019705640004354048 = -4398046511104 := by decide +kernel
 have v1 : V 4796333603149578240 = 2 ^ 1116 := by decide +kernel
 have v2 : V 14019705640004354048 = -(2 ^ 1116) := by decide +kernel
 have a : V x ≤ V 4796333603149578240 := Q_le.1 (by rw [q1]; grind)
 have b : V 14019705640004354048 ≤ V x := Q_le.1 (by rw [q2]; grind)
 rw [v1] at a
 rw [v2] at b
 have ce : ((2 ^ 1116 : Nat) : Int) = 2 ^ 1116 := Int.natCast_pow 2 1116
 omega
theorem obroughtB {x : Nat} (hx : FinW x) (w : World) : Calls Tryz.prog 106 #[.float .f64 x] w fun e w' => e = .returned (.float .f64 (oW x)) ∧ Below w.heap.size w w' := (obrought_run hx w).mono fun e w' h => ⟨h.1, by rw [← h.2]; exact Below.refl _ _⟩
noncomputable def plaV (o : Ob) (x : Nat) : V3 := (oW (plX o.ax o.ec (tC x)), oW (plY o.ax o.ec (tS x)), 0)
noncomputable def placeW (o : Ob) (d : Nat) : Nat := solV o.ec (meanW o d)
noncomputable def atR (o : Ob) (d : Nat) : V3 × Int := if readyO o (witB g24 d) = 0 then laidR (turnsO o) (plaV o (placeW o d)) else (z3, readyO o (witB g24 d))
theorem axi_of {o : Ob} (h : ObW o) (hO : ObOk o) : Axi o.ax := by
 obtain ⟨f, g, a, b⟩ := btw_of h.ax hO.ax
 have q1 : Q axLo = 1 / 1048576 := by decide +kernel
 have q2 : Q axHi = 1099511627776 := by decide +kernel
 exact ⟨h.ax, g, by rw [← q1]; exact Q_le.2 a, by rw [← q2]; exact Q_le.2 b⟩
theorem ecc_of {e : Nat} (he : e < 18446744073709551616) (h : ecB e = true) : fitB e = true ∧ 0 ≤ Q e ∧ Q e ≤ 7 / 8 := by
 obtain ⟨f, g, a, b⟩ := btw_of he h
 have q : Q ecHi = 7 / 8 := by decide +kernel
 rw [V_zero] at a
 exact ⟨g, Q_nn.2 a, by rw [← q]; exact Q_le.2 b⟩
theorem sol_wd {e m : Nat} (he : e < 18446744073709551616) (hm : m < 18446744073709551616) (e1 : ecB e = true) (m1 : haB m = true) : FinW (plcW (kepW e) m) ∧ Ang (solV e m) ∧ errA (solV e m) = 0 := by
 obtain ⟨-, K, q⟩ := kp_ec he hm e1 m1
 obtain ⟨w, -⟩ := kepler_end K q
 have w5 : Wd (plcW (kepW e) m) 400 1075 := w.le (Nat.le_refl _) (by omega)
 exact ⟨w.fin, (oW_ang w5).1, (oW_ang w5).2⟩
structure AtS (o : Ob) (d : Nat) : Prop where
 ha : haB (meanW o d) = true
 lt : meanW o d < 18446744073709551616
 ang : Ang (placeW o d)
 er : errA (placeW o d) = 0
 roo : Roo o.ec
 pla : Pla o.ax o.ec (tS (placeW o d)) (tC (placeW o d))
 sx : (V (plX o.ax o.ec (tC (placeW o d)))).natAbs ≤ 2 ^ 1116
 sy : (V (plY o.ax o.ec (tS (placeW o d)))).natAbs ≤ 2 ^ 1116
 w : W3 (plaV o (placeW o d))
theorem at_of {o : Ob} {d : Nat} (h : ObW o) (hO : ObOk o) (hd : d < 18446744073709551616) (t : witB g24 d = true) : AtS o d := by
 have P := pos_of h hd hO.ph hO.ra t
 have L := lef_of P.left
 have m1 := mean_ha L
 have ml := (oW_nz L.fin).fin.1
 obtain ⟨pf, A, e⟩ := sol_wd h.ec ml hO.ec m1
 obtain ⟨g, e0, e1⟩ := ecc_of h.ec hO.ec
 have X := axi_of h hO
 have R := roo_of h.ec g e0 e1
 have Pl := pla_of X h.ec g e0 e1 A
 have hi := X.hi
 refine ⟨m1, ml, A, e, R, Pl, q_abs ?_, q_abs ?_, ⟨(oW_nz Pl.fx).fin.1, (oW_nz Pl.fy).fin.1, show 0 < 18446744073709551616 by decide⟩⟩
 · have := Pl.bx; exact Rat.le_trans this (by grind)
 · have := Pl.by_; exact Rat.le_trans this (by grind)
theorem oat_ok {ax ec ti no pe ph ra d m x s c q t b h1 h2 j1 j2 y1 y2 q1 q2 q3 : Nat} {k : Int} (CM : Hid (∀ w, Calls Tryz.prog 102 #[.agg #[.float .f64 ax, .float .f64 ec, .float .f64 ti, .float .f64 no, .float .f64 pe, .float .f64 ph, .float .f64 ra], .float .f64 d] w fun e w' => e = .returned (.tuple #[.float .f64 m, .int .i64 0]) ∧ Below w.heap.size w w')) (CS : Hid (∀ w, Calls Tryz.prog 103 #[.float .f64 ec, .float .f64 m] w fun e w' => e = .returned (.tuple #[.float .f64 x, .int .i64 0]) ∧ Below w.heap.size w w')) (CB : Hid (∀ w, Calls Tryz.prog 104 #[.float .f64 x] w fun e w' => e = .returned (.tuple #[.float .f64 s, .float .f64 c, .int .i64 0]) ∧ Below w.heap.size w w')) (r1 : ∀ ty w, (binOp .mul ty (.float .f64 ec) (.float .f64 ec)).run Tryz.prog w = .ok (.float .f64 q) w) (r2 : ∀ ty w, (binOp .sub ty (.float .f64 4607182418800017408) (.float .f64 q)).run Tryz.prog w = .ok (.float .f64 t) w) (CR : ∀ w, Calls Tryz.prog 105 #[.float .f64 t] w fun e w' => e = .returned (.float .f64 b) ∧ w = w') (a1 : ∀ ty w, (binOp .sub ty (.float .f64 c) (.float .f64 ec)).run Tryz.prog w = .ok (.float .f64 h1) w) (a2 : ∀ ty w, (binOp .mul ty (.float .f64 ax) (.float .f64 h1)).run Tryz.prog w = .ok (.float .f64 h2) w) (b1 : ∀ ty w, (binOp .mul ty (.float .f64 ax) (.float .f64 b)).run Tryz.prog w = .ok (.float .f64 j1) w) (b2 : ∀ ty w, (binOp .mul ty (.float .f64 j1) (.float .f64 s)).run Tryz.prog w = .ok (.float .f64 j2) w) (BX : Hid (∀ w, Calls Tryz.prog 106 #[.float .f64 h2] w fun e w' => e = .returned (.float .f64 y1) ∧ Below w.heap.size w w')) (BY : Hid (∀ w, Calls Tryz.prog 106 #[.float .f64 j2] w fun e w' => e = .returned (.float .f64 y2) ∧ Below w.heap.size w w')) (CT : Hid (∀ w, Calls Tryz.prog 107 #[.agg #[.float .f64 ax, .float .f64 ec, .float .f64 ti, .float .f64 no, .float .f64 pe, .float .f64 ph, .float .f64 ra], .agg #[.float .f64 y1, .float .f64 y2, .float .f64 0]] w fun e w' => e = .returned (.tuple #[.agg #[.float .f64 q1, .float .f64 q2, .float .f64 q3], .int .i64 k]) ∧ Below w.heap.size w w')) (w : World) : Calls Tryz.prog 57 #[.agg #[.float .f64 ax, .float .f64 ec, .float .f64 ti, .float .f64 no, .float .f64 pe, .float .f64 ph, .float .f64 ra], .float .f64 d] w fun e w' => e = .returned (.tuple #[.agg #[.float .f64 q1, .float .f64 q2, .float .f64 q3], .int .i64 k]) ∧ Below w.heap.size w w' := by
 have K0 := kv2 w 45 41 [.float .f64 ax, .float .f64 ec, .float .f64 ti, .float .f64 no, .float .f64 pe, .float .f64 ph, .float .f64 ra] [.float .f64 0, .float .f64 0, .float .f64 0]
 simp only [objV] at K0
 have hst := @fstore
 replace K0 := Lib.hid K0
 go_enter Tryz.func57, Tryz.ntmps57
 go_wp2_with fail
 have K := K0.out
 clear K0
 generalize (w.alloc _).alloc _ = wr at *
 refine (CM.out wr).mono ?_
 rintro _ v1 ⟨rfl, hb⟩
 replace K := K.on hb
 clear hb
 have c0_1 := (K.at_ 0 rfl).at_ 1 _ rfl
 replace K := Lib.hid K
 go_wp2_with fail
 replace K := K.out
 refine (CS.out v1).mono ?_
 rintro _ v2 ⟨rfl, hb⟩
 clear c0_1
 replace K := K.on hb
 clear hb
 replace K := Lib.hid K
 go_wp2_with fail
 replace K := K.out
 refine (CB.out v2).mono ?_
 rintro _ v3 ⟨rfl, hb⟩
 replace K := K.on hb
 clear hb
 have c0_1 := (K.at_ 0 rfl).at_ 1 _ rfl
 replace K := Lib.hid K
 go_upto_region 11 with (go_at_call 105; ((with_reducible refine (CR _).mono ?_); rintro e w' ⟨rfl, rfl⟩))
 replace K := K.out
 clear c0_1
 replace K := K.more
 simp only [List.cons_append, List.nil_append] at K
 generalize hds : ([some 51, some 52, some 53, some 54, some 55, some 56, some 57, some 58, some 59, some 60, some 61, some 62, some 63, some 64, some 65, some 66, some 12, none] : List (Option Tmp)) = ds
 have hap : apartL ds = true := by rw [← hds]; decide
 replace hds := hds.symm
 refine wp_region_kv (fun hf => [some (w.heap.size, [.float .f64 ax, .float .f64 ec, .float .f64 ti, .float .f64 no, .float .f64 pe, .float .f64 ph, .float .f64 ra]), some (w.heap.size + 1, [.float .f64 0, .float .f64 0, .float .f64 0]), some (hf 16, [.float .f64 y1, .float .f64 y2, .float .f64 0])]) (fun hf => [some (.pointer (some ⟨w.heap.size, 0, none⟩)), some (.float .f64 ax), some (.float .f64 c), some (.pointer (some ⟨w.heap.size, 1, none⟩)), some (.float .f64 ec), some (.float .f64 h1), some (.float .f64 h2), some (.float .f64 y1), some (.pointer (some ⟨w.heap.size, 0, none⟩)), some (.float .f64 ax), some (.float .f64 b), some (.float .f64 j1), some (.float .f64 s), some (.float .f64 j2), some (.float .f64 y2), some (.agg #[.float .f64 y1, .float .f64 y2, .float .f64 0]), some (ptrV (hf 16)), some (undef)]) [⟨16, 2, 41, [.float .f64 0, .float .f64 0, .float .f64 0]⟩] [⟨17, 2, 0, [.float .f64 y1, .float .f64 y2, .float .f64 0]⟩] [.pointer (some ⟨w.heap.size, 0, none⟩), .float .f64 ax, .float .f64 c, .pointer (some ⟨w.heap.size, 1, none⟩), .float .f64 ec, .float .f64 h1, .float .f64 h2, .float .f64 y1, .pointer (some ⟨w.heap.size, 0, none⟩), .float .f64 ax, .float .f64 b, .float .f64 j1, .float .f64 s, .float .f64 j2, .float .f64 y2, .agg #[.float .f64 y1, .float .f64 y2, .float .f64 0], undef, undef] ds (by kernel_rfl) (by rw [hds]; rfl) hap (by decide +kernel) (by decide +kernel) K ?ha ?haj ?hai ?hsi ?hss ?hsa ?hsw ?htg ?hE2 ?hE3 ?hE4 ?hL1 ?hL2 ?hL3 ?alloc ?step ?store ?fin
 case ha => intro al hal; rcases List.mem_singleton.1 hal with rfl <;> rfl
 case haj => intro al hal al' hal' e; rcases List.mem_singleton.1 hal with rfl <;> (rcases List.mem_singleton.1 hal' with rfl) <;> first | rfl | (exfalso; revert e; simp)
 case hai => intro al hal; rcases List.mem_singleton.1 hal with rfl <;> decide
 case hsi => intro st hst st' hst' e; rcases List.mem_singleton.1 hst with rfl <;> (rcases List.mem_singleton.1 hst' with rfl) <;> first | rfl | (exfalso; revert e; simp)
 case hss =>
  intro st hst
  rcases List.mem_singleton.1 hst with rfl
  · show 17 < 18; decide
 case hsa =>
  intro st hst al hal
  rcases List.mem_singleton.1 hst with rfl
  · rcases List.mem_singleton.1 hal with rfl
    · exact (show ¬ (17 = 16) by decide)
 case hsw =>
  intro st hst al hal e
  rcases List.mem_singleton.1 hst with rfl
  · rcases List.mem_singleton.1 hal with rfl
    · change waitsAt _ 17 16 = true; decide +kernel
 case htg =>
  intro st hst
  rcases List.mem_singleton.1 hst with rfl
  · exact .inr ⟨_, List.mem_cons_self .., rfl, show 0 + 3 ≤ 3 by decide⟩
 case hE2 =>
  intro hf j h1 h2
  have n2 : 2 ≠ j := h1 _ (List.mem_cons_self ..)
  rcases j with _ | _ | _ | j
  · rfl
  · rfl
  · exact absurd rfl n2
  · rfl
 case hE3 =>
  intro hf st hst g us e
  rcases List.mem_singleton.1 hst with rfl
  · simp at e
 case hE4 =>
  intro hf al hal
  rcases List.mem_singleton.1 hal with rfl
  · refine ⟨fun st hst e => ?_, fun h => absurd rfl (h _ (List.mem_cons_self ..))⟩
    rcases List.mem_singleton.1 hst with rfl
    · rfl
 case hL1 => intro hf; rfl
 case hL2 =>
  intro hf i hi hna
  have hi : i < 18 := hi
  have : i = 0 ∨ i = 1 ∨ i = 2 ∨ i = 3 ∨ i = 4 ∨ i = 5 ∨ i = 6 ∨ i = 7 ∨ i = 8 ∨ i = 9 ∨ i = 10 ∨ i = 11 ∨ i = 12 ∨ i = 13 ∨ i = 14 ∨ i = 15 ∨ i = 16 ∨ i = 17 := by omega
  rcases this with rfl | rfl | rfl | rfl | rfl | rfl | rfl | rfl | rfl | rfl | rfl | rfl | rfl | rfl | rfl | rfl | rfl | rfl
  · rfl
  · rfl
  · rfl
  · rfl
  · rfl
  · rfl
  · rfl
  · rfl
  · rfl
  · rfl
  · rfl
  · rfl
  · rfl
  · rfl
  · rfl
  · rfl
  · exact absurd rfl (hna _ (List.mem_cons_self ..))
  · rfl
 case hL3 => intro hf al hal; rcases List.mem_singleton.1 hal with rfl <;> rfl
 case alloc =>
  intro al hal o ρ W ho
  rcases List.mem_singleton.1 hal with rfl
  · obtain rfl := Option.some.inj ho; unfold execOp ptrV objV; go_simp
 case step =>
  intro L W i o ho hs ha hd hB hO
  have hi : i < 18 := (Array.getElem?_eq_some_iff.1 ho).1
  have : i = 0 ∨ i = 1 ∨ i = 2 ∨ i = 3 ∨ i = 4 ∨ i = 5 ∨ i = 6 ∨ i = 7 ∨ i = 8 ∨ i = 9 ∨ i = 10 ∨ i = 11 ∨ i = 12 ∨ i = 13 ∨ i = 14 ∨ i = 15 ∨ i = 16 ∨ i = 17 := by omega
  rcases this with rfl | rfl | rfl | rfl | rfl | rfl | rfl | rfl | rfl | rfl | rfl | rfl | rfl | rfl | rfl | rfl | rfl | rfl
  · obtain rfl := Option.some.inj ho
    refine .value W ?_ (Below.refl _ _)
    generalize hA : (puts ds L _).eval = ρ
    have hc : ∀ v, ρ (.const v) = v := fun v => by rw [← hA]; rfl
    have h0 : ρ (.tmp 2) = .pointer (some ⟨w.heap.size, 0, none⟩) := (po hA (by rw [hds]; decide)).trans rfl
    clear hA hd hB ho hs ha hO
    unfold execOp
    go_simp
  · obtain rfl := Option.some.inj ho
    have b := hB 0 _ _ rfl (by
        intro st hst e
        rcases List.mem_singleton.1 hst with rfl
        · exact absurd e (show ¬ 2 = 0 by decide))
    have c0 := b.at_ 0 _ rfl
    clear b
    refine .value W ?_ (Below.refl _ _)
    generalize hA : (puts ds L _).eval = ρ
    have h0 : ρ (.tmp 51) = .pointer (some ⟨w.heap.size, 0, none⟩) := pg 0 hA hap (by rw [hds]; rfl) (hd 0 (by decide +kernel) (alne rfl)) (show 51 < 72 by decide)
    clear hA hd hB ho hs ha hO
    unfold execOp
    go_simp
  · obtain rfl := Option.some.inj ho
    refine .value W ?_ (Below.refl _ _)
    generalize hA : (puts ds L _).eval = ρ
    have hc : ∀ v, ρ (.const v) = v := fun v => by rw [← hA]; rfl
    have h0 : ρ (.tmp 10) = .float .f64 c := (po hA (by rw [hds]; decide)).trans rfl
    clear hA hd hB ho hs ha hO
    unfold execOp
    go_simp
  · obtain rfl := Option.some.inj ho
    refine .value W ?_ (Below.refl _ _)
    generalize hA : (puts ds L _).eval = ρ
    have hc : ∀ v, ρ (.const v) = v := fun v => by rw [← hA]; rfl
    have h0 : ρ (.tmp 2) = .pointer (some ⟨w.heap.size, 0, none⟩) := (po hA (by rw [hds]; decide)).trans rfl
    clear hA hd hB ho hs ha hO
    unfold execOp
    go_simp
  · obtain rfl := Option.some.inj ho
    have b := hB 0 _ _ rfl (by
        intro st hst e
        rcases List.mem_singleton.1 hst with rfl
        · exact absurd e (show ¬ 2 = 0 by decide))
    have c1 := b.at_ 1 _ rfl
    clear b
    refine .value W ?_ (Below.refl _ _)
    generalize hA : (puts ds L _).eval = ρ
    have h0 : ρ (.tmp 54) = .pointer (some ⟨w.heap.size, 1, none⟩) := pg 3 hA hap (by rw [hds]; rfl) (hd 3 (by decide +kernel) (alne rfl)) (show 54 < 72 by decide)
    clear hA hd hB ho hs ha hO
    unfold execOp
    go_simp
  · obtain rfl := Option.some.inj ho
    refine .value W ?_ (Below.refl _ _)
    generalize hA : (puts ds L _).eval = ρ
    have hc : ∀ v, ρ (.const v) = v := fun v => by rw [← hA]; rfl
    have h0 : ρ (.tmp 53) = .float .f64 c := pg 2 hA hap (by rw [hds]; rfl) (hd 2 (by decide +kernel) (alne rfl)) (show 53 < 72 by decide)
    have h1 : ρ (.tmp 55) = .float .f64 ec := pg 4 hA hap (by rw [hds]; rfl) (hd 4 (by decide +kernel) (alne rfl)) (show 55 < 72 by decide)
    clear hA hd hB ho hs ha hO
    have h9 := a1
    unfold execOp
    go_simp
  · obtain rfl := Option.some.inj ho
    refine .value W ?_ (Below.refl _ _)
    generalize hA : (puts ds L _).eval = ρ
    have hc : ∀ v, ρ (.const v) = v := fun v => by rw [← hA]; rfl
    have h0 : ρ (.tmp 52) = .float .f64 ax := pg 1 hA hap (by rw [hds]; rfl) (hd 1 (by decide +kernel) (alne rfl)) (show 52 < 72 by decide)
    have h1 : ρ (.tmp 56) = .float .f64 h1 := pg 5 hA hap (by rw [hds]; rfl) (hd 5 (by decide +kernel) (alne rfl)) (show 56 < 72 by decide)
    clear hA hd hB ho hs ha hO
    have h9 := a2
    unfold execOp
    go_simp
  · obtain rfl := Option.some.inj ho
    refine .call 106 #[.float .f64 h2] ?_ (BX.out W)
    generalize hA : (puts ds L _).eval = ρ
    have hg : ∀ g, ρ (.func g) = .func (.func g) #[] #[] := fun v => by rw [← hA]; rfl
    have h0 : ρ (.tmp 57) = .float .f64 h2 := pg 6 hA hap (by rw [hds]; rfl) (hd 6 (by decide +kernel) (alne rfl)) (show 57 < 72 by decide)
    have hf := Tryz.func106
    unfold execOp
    go_simp
  · obtain rfl := Option.some.inj ho
    refine .value W ?_ (Below.refl _ _)
    generalize hA : (puts ds L _).eval = ρ
    have hc : ∀ v, ρ (.const v) = v := fun v => by rw [← hA]; rfl
    have h0 : ρ (.tmp 2) = .pointer (some ⟨w.heap.size, 0, none⟩) := (po hA (by rw [hds]; decide)).trans rfl
    clear hA hd hB ho hs ha hO
    unfold execOp
    go_simp
  · obtain rfl := Option.some.inj ho
    have b := hB 0 _ _ rfl (by
        intro st hst e
        rcases List.mem_singleton.1 hst with rfl
        · exact absurd e (show ¬ 2 = 0 by decide))
    have c0 := b.at_ 0 _ rfl
    clear b
    refine .value W ?_ (Below.refl _ _)
    generalize hA : (puts ds L _).eval = ρ
    have h0 : ρ (.tmp 59) = .pointer (some ⟨w.heap.size, 0, none⟩) := pg 8 hA hap (by rw [hds]; rfl) (hd 8 (by decide +kernel) (alne rfl)) (show 59 < 72 by decide)
    clear hA hd hB ho hs ha hO
    unfold execOp
    go_simp
  · obtain rfl := Option.some.inj ho
    refine .value W ?_ (Below.refl _ _)
    generalize hA : (puts ds L _).eval = ρ
    have hc : ∀ v, ρ (.const v) = v := fun v => by rw [← hA]; rfl
    have h0 : ρ (.tmp 11) = .float .f64 b := (po hA (by rw [hds]; decide)).trans rfl
    clear hA hd hB ho hs ha hO
    unfold execOp
    go_simp
  · obtain rfl := Option.some.inj ho
    refine .value W ?_ (Below.refl _ _)
    generalize hA : (puts ds L _).eval = ρ
    have hc : ∀ v, ρ (.const v) = v := fun v => by rw [← hA]; rfl
    have h0 : ρ (.tmp 60) = .float .f64 ax := pg 9 hA hap (by rw [hds]; rfl) (hd 9 (by decide +kernel) (alne rfl)) (show 60 < 72 by decide)
    have h1 : ρ (.tmp 61) = .float .f64 b := pg 10 hA hap (by rw [hds]; rfl) (hd 10 (by decide +kernel) (alne rfl)) (show 61 < 72 by decide)
    clear hA hd hB ho hs ha hO
    have h9 := b1
    unfold execOp
    go_simp
  · obtain rfl := Option.some.inj ho
    refine .value W ?_ (Below.refl _ _)
    generalize hA : (puts ds L _).eval = ρ
    have hc : ∀ v, ρ (.const v) = v := fun v => by rw [← hA]; rfl
    have h0 : ρ (.tmp 9) = .float .f64 s := (po hA (by rw [hds]; decide)).trans rfl
    clear hA hd hB ho hs ha hO
    unfold execOp
    go_simp
  · obtain rfl := Option.some.inj ho
    refine .value W ?_ (Below.refl _ _)
    generalize hA : (puts ds L _).eval = ρ
    have hc : ∀ v, ρ (.const v) = v := fun v => by rw [← hA]; rfl
    have h0 : ρ (.tmp 62) = .float .f64 j1 := pg 11 hA hap (by rw [hds]; rfl) (hd 11 (by decide +kernel) (alne rfl)) (show 62 < 72 by decide)
    have h1 : ρ (.tmp 63) = .float .f64 s := pg 12 hA hap (by rw [hds]; rfl) (hd 12 (by decide +kernel) (alne rfl)) (show 63 < 72 by decide)
    clear hA hd hB ho hs ha hO
    have h9 := b2
    unfold execOp
    go_simp
  · obtain rfl := Option.some.inj ho
    refine .call 106 #[.float .f64 j2] ?_ (BY.out W)
    generalize hA : (puts ds L _).eval = ρ
    have hg : ∀ g, ρ (.func g) = .func (.func g) #[] #[] := fun v => by rw [← hA]; rfl
    have h0 : ρ (.tmp 64) = .float .f64 j2 := pg 13 hA hap (by rw [hds]; rfl) (hd 13 (by decide +kernel) (alne rfl)) (show 64 < 72 by decide)
    have hf := Tryz.func106
    unfold execOp
    go_simp
  · obtain rfl := Option.some.inj ho
    refine .value W ?_ (Below.refl _ _)
    generalize hA : (puts ds L _).eval = ρ
    have hc : ∀ v, ρ (.const v) = v := fun v => by rw [← hA]; rfl
    have h0 : ρ (.tmp 58) = .float .f64 y1 := pg 7 hA hap (by rw [hds]; rfl) (hd 7 (by decide +kernel) (alne rfl)) (show 58 < 72 by decide)
    have h1 : ρ (.tmp 65) = .float .f64 y2 := pg 14 hA hap (by rw [hds]; rfl) (hd 14 (by decide +kernel) (alne rfl)) (show 65 < 72 by decide)
    clear hA hd hB ho hs ha hO
    unfold execOp
    go_simp
  · exact absurd rfl (ha _ (List.mem_cons_self ..))
  · exact absurd rfl (hs _ (List.mem_cons_self ..))
 case store =>
  intro st hst L W o h us ho hd hal hC b
  rcases List.mem_singleton.1 hst with rfl
  · dsimp only at ho hd hal hC b ⊢
    obtain rfl := Option.some.inj ho
    obtain ⟨hl, rfl⟩ := hal _ (List.mem_cons_self ..) rfl
    have c0 := b.at_ 0 _ rfl
    have f0 := b.fr 0 _ rfl
    have c1 := b.at_ 1 _ rfl
    have f1 := b.fr 1 _ rfl
    have c2 := b.at_ 2 _ rfl
    have f2 := b.fr 2 _ rfl
    refine ⟨?_, rfl⟩
    generalize hA : (puts ds L _).eval = ρ
    have h0 : ρ (.tmp 12) = .pointer (some ⟨h, 0, none⟩) := by rw [← hA]; exact puts_get 16 ds L _ hap (by rw [hds]; rfl) hl (show 12 < 72 by decide)
    have h1 : ρ (.tmp 66) = .agg #[.float .f64 y1, .float .f64 y2, .float .f64 0] := pg 15 hA hap (by rw [hds]; rfl) (hd 15 (by decide +kernel) (alne rfl)) (show 66 < 72 by decide)
    have hst' := @fstore
    clear hA hd b ho hal hC
    simp only [putV]
    unfold execOp
    go_simp
 case fin =>
  intro hf W0 K
  rw [hds]
  clear hds hap ds BX BY CM CS CB
  (try dsimp only at K)
  generalize hf 16 = gm at *
  (try unfold ptrV)
  simp only [List.set_cons_zero, List.set_cons_succ, puts, Act.put, List.setIfInBounds_toArray]
  have c0_0 := (K.at_ 0 rfl).at_ 0 _ rfl
  have c0_1 := (K.at_ 0 rfl).at_ 1 _ rfl
  have c0_2 := (K.at_ 0 rfl).at_ 2 _ rfl
  have c0_3 := (K.at_ 0 rfl).at_ 3 _ rfl
  have c0_4 := (K.at_ 0 rfl).at_ 4 _ rfl
  have c0_5 := (K.at_ 0 rfl).at_ 5 _ rfl
  have c0_6 := (K.at_ 0 rfl).at_ 6 _ rfl
  have c2_0 := (K.at_ 2 rfl).at_ 0 _ rfl
  have c2_1 := (K.at_ 2 rfl).at_ 1 _ rfl
  have c2_2 := (K.at_ 2 rfl).at_ 2 _ rfl
  replace K := Lib.hid K
  go_wp2_with fail
  replace K := K.out
  refine (CT.out W0).mono ?_
  rintro _ v1 ⟨rfl, hb⟩
  clear c0_0 c0_1 c0_2 c0_3 c0_4 c0_5 c0_6 c2_0 c2_1 c2_2
  replace K := K.on hb
  clear hb
  have c1_0 := (K.at_ 1 rfl).at_ 0 _ rfl
  have f1_0 := (K.at_ 1 rfl).fr 0 _ rfl
  have c1_1 := (K.at_ 1 rfl).at_ 1 _ rfl
  have f1_1 := (K.at_ 1 rfl).fr 1 _ rfl
  have c1_2 := (K.at_ 1 rfl).at_ 2 _ rfl
  have f1_2 := (K.at_ 1 rfl).fr 2 _ rfl
  replace K := Lib.hid K
  go_wp2_with fail
  replace K := K.out
  (try simp only [Exit.inBlock, Exit.then])
  refine bodyPost_ret (v := .tuple #[.agg #[.float .f64 q1, .float .f64 q2, .float .f64 q3], .int .i64 k]) ?_ rfl ⟨rfl, ?_⟩
  · rw [results_cell_tmp rfl]; go_simp
  · exact (((K.old).setCell (by first | exact Nat.le_refl _ | omega | (dsimp only; omega)) _).setCell (by first | exact Nat.le_refl _ | omega | (dsimp only; omega)) _).setCell (by first | exact Nat.le_refl _ | omega | (dsimp only; omega)) _
theorem oat_no {ax ec ti no pe ph ra d : Nat} {k : Int} (t : (k != 0) = true) (CM : Hid (∀ w, Calls Tryz.prog 102 #[.agg #[.float .f64 ax, .float .f64 ec, .float .f64 ti, .float .f64 no, .float .f64 pe, .float .f64 ph, .float .f64 ra], .float .f64 d] w fun e w' => e = .returned (.tuple #[.float .f64 0, .int .i64 k]) ∧ Below w.heap.size w w')) (w : World) : Calls Tryz.prog 57 #[.agg #[.float .f64 ax, .float .f64 ec, .float .f64 ti, .float .f64 no, .float .f64 pe, .float .f64 ph, .float .f64 ra], .float .f64 d] w fun e w' => e = .returned (.tuple #[.agg #[.float .f64 0, .float .f64 0, .float .f64 0], .int .i64 k]) ∧ Below w.heap.size w w' := by
 have K0 := kv2 w 45 41 [.float .f64 ax, .float .f64 ec, .float .f64 ti, .float .f64 no, .float .f64 pe, .float .f64 ph, .float .f64 ra] [.float .f64 0, .float .f64 0, .float .f64 0]
 simp only [objV] at K0
 have hst := @fstore
 replace K0 := Lib.hid K0
 go_enter Tryz.func57, Tryz.ntmps57
 go_wp2_with fail
 have K := K0.out
 clear K0
 generalize (w.alloc _).alloc _ = wr at *
 refine (CM.out wr).mono ?_
 rintro _ v1 ⟨rfl, hb⟩
 replace K := K.on hb
 clear hb
 have c1_0 := (K.at_ 1 rfl).at_ 0 _ rfl
 have f1_0 := (K.at_ 1 rfl).fr 0 _ rfl
 have c1_1 := (K.at_ 1 rfl).at_ 1 _ rfl
 have f1_1 := (K.at_ 1 rfl).fr 1 _ rfl
 have c1_2 := (K.at_ 1 rfl).at_ 2 _ rfl
 have f1_2 := (K.at_ 1 rfl).fr 2 _ rfl
 replace K := Lib.hid K
 go_wp2_with fail
 replace K := K.out
 (try simp only [Exit.inBlock, Exit.then])
 refine bodyPost_ret (v := .tuple #[.agg #[.float .f64 0, .float .f64 0, .float .f64 0], .int .i64 k]) ?_ rfl ⟨rfl, ?_⟩
 · rw [results_cell_tmp rfl]; go_simp
 · exact (((K.old).setCell (by first | exact Nat.le_refl _ | omega | (dsimp only; omega)) _).setCell (by first | exact Nat.le_refl _ | omega | (dsimp only; omega)) _).setCell (by first | exact Nat.le_refl _ | omega | (dsimp only; omega)) _
theorem oat_run {o : Ob} {d : Nat} (h : ObW o) (hd : d < 18446744073709551616) (w : World) : Calls Tryz.prog 57 #[obV o, .float .f64 d] w fun e w' => e = .returned (vecE (atR o d).1 (atR o d).2) ∧ Below w.heap.size w w' := by
 have CM := Lib.hid (fun w => omean_run h hd w)
 unfold meanR at CM
 unfold atR
 by_cases c : readyO o (witB g24 d) = 0
 · rw [if_pos c] at CM ⊢
   obtain ⟨m, t⟩ := readyO_zero c
   have hO := mayO_of m
   have S := at_of h hO hd t
   have CS := Lib.hid (fun w => osolve_run h.ec S.lt w)
   unfold solR at CS
   rw [if_pos hO.ec, if_pos S.ha] at CS
   obtain ⟨s, c', T, CB⟩ := uboth_ok S.ang.fin.1 S.er
   obtain ⟨e1, e2⟩ := tS_eq T
   have Pl := S.pla
   have hw := S.w
   unfold plaV at hw ⊢
   have CT := fun w => oturned_run h hO hw w
   have BX := Lib.hid (fun w => obroughtB Pl.fx w)
   have BY := Lib.hid (fun w => obroughtB Pl.fy w)
   have rx1 := run_sub _ _ _ Pl.x1
   have rx2 := run_mul _ _ _ Pl.x2
   have ry1 := run_mul _ _ _ Pl.y1
   have ry2 := run_mul _ _ _ Pl.y2
   rw [e1, e2] at *
   exact oat_ok CM CS (Lib.hid CB) (run_mul _ _ _ S.roo.m) (run_sub _ _ _ S.roo.s) (fun w => sqrt_any _ _ S.roo.r w) rx1 rx2 ry1 ry2 BX BY (Lib.hid CT) w
 · rw [if_neg c] at CM ⊢
   exact oat_no (by simpa using c) CM w
end Go.Proofs.YtacinenddnfcbaaGreat

namespace Go.Proofs.YtacinenddnfcbaaGreat
open Go.ChangeShapes Go.WideShapes Go.ChangeAt Go.RowKit Ieee.Own Pol Fma

end Go.Proofs.YtacinenddnfcbaaGreat

namespace Go.Proofs.YtacinenddnfcbaaGreat
open Go.ChangeShapes Go.WideShapes Go.ChangeAt Go.RowKit Ieee.Own Pol

end Go.Proofs.YtacinenddnfcbaaGreat

namespace Go.Proofs.YtacinenddnfcbaaGreat
open Go.ChangeShapes Go.WideShapes Go.ChangeAt Go.RowKit Ieee.Own Pol

end Go.Proofs.YtacinenddnfcbaaGreat

namespace Go.Proofs.YtacinenddnfcbaaGreat
open Go.ChangeShapes Go.WideShapes Go.ChangeAt Go.RowKit Ieee.Own Pol

end Go.Proofs.YtacinenddnfcbaaGreat

namespace Go.Proofs.YtacinenddnfcbaaGreat
open Ieee.Own Pol

end Go.Proofs.YtacinenddnfcbaaGreat

namespace Go.Proofs.YtacinenddnfcbaaGreat
open Go.ChangeShapes Go.WideShapes Go.ChangeAt Go.RowKit Ieee.Own Pol

end Go.Proofs.YtacinenddnfcbaaGreat

namespace Go.Proofs.YtacinenddnfcbaaGreat
open Go.ChangeShapes Go.WideShapes Go.ChangeAt Go.RowKit Ieee.Own Pol

end Go.Proofs.YtacinenddnfcbaaGreat

namespace Go.Proofs.YtacinenddnfcbaaGreat
open Go.ChangeShapes Go.WideShapes Go.ChangeAt Go.RowKit Ieee.Own Pol

def cur (S T : Nat → Pr) : Nat → Pr
 | 0 => S 0
 | n + 1 => T n
end Go.Proofs.YtacinenddnfcbaaGreat

namespace Go.Proofs.YtacinenddnfcbaaGreat
open Go.ChangeShapes Go.WideShapes Go.ChangeAt Go.RowKit Ieee.Own Pol

end Go.Proofs.YtacinenddnfcbaaGreat

namespace Go.Proofs.YtacinenddnfcbaaGreat
open Go.ChangeShapes Go.WideShapes Go.ChangeAt Go.RowKit Ieee.Own Pol

end Go.Proofs.YtacinenddnfcbaaGreat

namespace Go.Proofs.YtacinenddnfcbaaGreat
open Go.ChangeShapes Go.WideShapes Go.ChangeAt Go.RowKit Ieee.Own Pol Fma

end Go.Proofs.YtacinenddnfcbaaGreat

namespace Go.Proofs.YtacinenddnfcbaaGreat
open Go.ChangeShapes Go.WideShapes Go.ChangeAt Go.RowKit Ieee.Own Pol Fma

end Go.Proofs.YtacinenddnfcbaaGreat

namespace Go.Proofs.YtacinenddnfcbaaGreat
open Go.ChangeShapes Go.WideShapes Go.ChangeAt Go.RowKit Ieee.Own Pol Fma

end Go.Proofs.YtacinenddnfcbaaGreat

namespace Go.Proofs.YtacinenddnfcbaaGreat
open Go.ChangeShapes Go.WideShapes Go.ChangeAt Go.RowKit Ieee.Own

def leO (a b : Nat) : Bool := FloatKind.f64.format.order a b == some Ordering.lt || FloatKind.f64.format.order a b == some Ordering.eq
end Go.Proofs.YtacinenddnfcbaaGreat

namespace Go.Proofs.YtacinenddnfcbaaGreat
open Go.ChangeShapes Go.WideShapes Go.ChangeAt Go.RowKit Ieee.Own Pol

end Go.Proofs.YtacinenddnfcbaaGreat

namespace Go.Proofs.YtacinenddnfcbaaGreat
open Go.ChangeShapes Go.WideShapes Go.ChangeAt Go.RowKit Ieee.Own

theorem wpList_pushR2 {w0 w : World} {base : Nat} {ops : Array Oper} {rest : List Oper} {o : Oper} {a : Act} {Q : Exit → Act → World → Prop} {t e : TypeId} {m bytes : Nat} {z : Value} (T : RecT t e m bytes z) (hgd : o.guard = none) (s x : Operand)
 (ho : o.op = .call { callee := .builtin .append, args := #[s, x], argTypes := #[t, t] }) (v : Value) (R : List (List Value)) (hs : a.eval s = v)
 (hown : OwnR e m base w0 R v w) (r : List Value) (hr : r.length = m) (h1 : ∀ u ∈ r, u.oneCell' = true) (hx : a.eval x = .slice (some ⟨w.heap.size, 0, none⟩) 1 1) (hl : (R.length + 1) * bytes ≤ 140737488355328) (hmax : R.length + 1 ≤ maxLen)
 (h : ∀ v' w', OwnR e m base w0 (R ++ [r]) v' w' → (w.alloc (.cells r.toArray e)).grownBy w' v.ownBlock → (v'.ownBlock = v.ownBlock ∨ v'.ownBlock = some (w.heap.size + 1)) → wpList Tryz.prog ops Q rest (a.put o.dst v') w') :
 wpList Tryz.prog ops Q (o :: rest) a (w.alloc (.cells r.toArray e)) := by
 obtain ⟨i0, hi0, hz0, hz1, hz2⟩ := info_ofR T.info
 have hb := (Below.refl w.heap.size w).alloc (Nat.le_refl _) (.cells r.toArray e)
 have ho2 := hown.grow hb
 refine wpList_append_own_at (w := w.alloc (.cells r.toArray e)) hgd s x t ho base e i0 z m bytes T.te hi0 hz0 hz1 hz2 T.zs T.pos v R.length _ hs ho2.own ⟨w.heap.size, 0, none⟩ 1 1 r hx (by rw [hr, Nat.one_mul]) ?_ h1 hmax hl ho2.size ?_
 · intro j u hj
   rw [ad_plainR, World.cell?_alloc_at _ _ _ _ rfl, Nat.zero_add]
   simpa using hj
 · intro v' w' h1' h2 _ h4
   refine h v' w' ⟨ho2.old.grown h2 ho2.size ?_, ?_, Nat.le_trans ho2.size h2.size, ?_⟩ h2 (by simpa using h4)
   · intro k hk
     rcases ho2.own.2 with ⟨hv, _⟩ | ⟨g, cap, cur, hv, hg, _⟩
     · rw [hv] at hk; simp [Value.ownBlock] at hk
     · rw [hv] at hk
       simp only [Value.ownBlock, Option.some.injEq] at hk
       rw [← hk]; exact hg
   · rw [List.length_append, List.flatten_append]
     simpa using h1'
   · refine ⟨fun q hq => ?_, fun q hq => ?_⟩
     · rcases List.mem_append.1 hq with hq | hq
       · exact hown.ok.len q hq
       · rw [List.mem_singleton.1 hq]; exact hr
     · rcases List.mem_append.1 hq with hq | hq
       · exact hown.ok.one q hq
       · rw [List.mem_singleton.1 hq]; exact h1
theorem BV.grown {w w' : World} {g : Nat} {us : List Value} {row : Option Nat} (b : BV w g us) (h : w.grownBy w' row) (hne : row ≠ some g) : BV w' g us := by
 have e := h.block g b.lt (fun k => hne k.symm)
 exact ⟨Nat.lt_of_lt_of_le b.lt h.size, fun i u k => (World.cell?_of_block (a := ⟨g, i, none⟩) e).trans (b.at_ i u k), fun i u k => (World.frozen?_of_block (a := ⟨g, i, none⟩) e).trans (b.fr i u k)⟩
theorem OwnR.kept {e : TypeId} {m base : Nat} {w w1 w2 : World} {R : List (List Value)} {v : Value} {row : Option Nat} (h : OwnR e m base w R v w1) (hg : w1.grownBy w2 row) (hr : ∀ k, row = some k → base ≤ k) (hne : v.ownBlock = none ∨ v.ownBlock ≠ row) : OwnR e m base w R v w2 :=
 ⟨h.old.grown hg h.size hr, h.own.kept hg hne, Nat.le_trans h.size hg.size, h.ok⟩
theorem OwnR.lt {e : TypeId} {m base : Nat} {w w1 : World} {R : List (List Value)} {v : Value} (h : OwnR e m base w R v w1) : ∀ k, v.ownBlock = some k → base ≤ k ∧ k < w1.heap.size := h.own.lt
theorem grown_set (w : World) (g k : Nat) (x : Value) : w.grownBy (w.setCell ⟨g, k, none⟩ x) (some g) := by
 refine ⟨?_, ?_, ?_, by simp, fun j hj hne => heap_setCell_other w ⟨g, k, none⟩ j x (fun e => hne (by rw [e]))⟩ <;> (unfold World.setCell; split <;> rfl)
end Go.Proofs.YtacinenddnfcbaaGreat

namespace Go.Proofs.YtacinenddnfcbaaGreat
open Go.ChangeShapes Go.WideShapes Go.ChangeAt Go.RowKit Ieee.Own

theorem FsAt.grown {w w' : World} {u : Value} {L : List Nat} {row : Option Nat} (h : FsAt w u L) (hg : w.grownBy w' row) (hne : 0 < L.length → u.ownBlock ≠ row) : FsAt w' u L := by
 obtain ⟨ao, cap, rfl, h1, h2, h3, h4⟩ := h
 refine ⟨ao, cap, rfl, h1, h2, h3, fun j r hj => ?_⟩
 obtain ⟨b, o, e, hb, hc⟩ := h4 j r hj
 subst e
 have hl : 0 < L.length := by have := (List.getElem?_eq_some_iff.1 hj).1; simp at this; omega
 have n := hne hl
 have eb := hg.block b hb (fun k => n (by simp [Value.ownBlock]; exact k))
 exact ⟨b, o, rfl, Nat.lt_of_lt_of_le hb hg.size, fun c v hv => (World.cell?_of_block (a := ⟨b, _, none⟩) eb).trans (hc c v hv)⟩
theorem FsAt.lt {w : World} {u : Value} {L : List Nat} (h : FsAt w u L) (hl : 0 < L.length) : ∀ b, u.ownBlock = some b → b < w.heap.size := by
 obtain ⟨ao, cap, rfl, h1, h2, h3, h4⟩ := h
 obtain ⟨b, o, e, hb, hc⟩ := fs_cell h4 hl
 subst e
 intro c hc2
 simp only [Value.ownBlock, Option.some.injEq] at hc2
 omega
theorem rec32 : RecT 67 169 1 4 (.float .f32 0) := ⟨Tryz.underlying67, by kernel_rfl, rfl, by omega⟩
theorem recRw : RecT 47 68 3 72 (.agg #[.slice none 0 0, .slice none 0 0, .slice none 0 0]) := ⟨Tryz.underlying47, by kernel_rfl, rfl, by omega⟩
structure CpAt (B : Nat) (w : World) (u : Value) (L : List Nat) : Prop where
 at_ : FsAt w u L
 out : 0 < L.length → ∀ b, u.ownBlock = some b → B ≤ b
theorem CpAt.on {B : Nat} {w w' : World} {u : Value} {L : List Nat} (h : CpAt B w u L) (hb : Below w.heap.size w w') : CpAt B w' u L := ⟨h.at_.on hb, h.out⟩
theorem CpAt.set {B g k : Nat} {w : World} {u : Value} {L : List Nat} (h : CpAt B w u L) (hg : g < B) (x : Value) : CpAt B (w.setCell ⟨g, k, none⟩ x) u L :=
 ⟨h.at_.grown (grown_set w g k x) (fun hl e => by have := h.out hl g e; omega), h.out⟩
theorem CpAt.mono {B C : Nat} {w : World} {u : Value} {L : List Nat} (h : CpAt B w u L) (hc : C ≤ B) : CpAt C w u L := ⟨h.at_, fun hl b e => Nat.le_trans hc (h.out hl b e)⟩
end Go.Proofs.YtacinenddnfcbaaGreat

namespace Go.Proofs.YtacinenddnfcbaaGreat
open Go.ChangeShapes Go.WideShapes Go.ChangeAt Go.RowKit Ieee.Own

structure TbSz (t : Tb) : Prop where
 n : t.rows.length * 72 ≤ 140737488351232
 l : ∀ i k, k < 3 → (cfT t.rows i k).length * 4 ≤ 140737488351232
theorem own_any {e : TypeId} {m base : Nat} {w w' : World} {M : List (List Value)} {v : Value} (h : OwnR e m base w M v w') : ∃ ao n c, v = .slice ao n c := by
 rcases h.own.2 with ⟨hv, _⟩ | ⟨g, cap, cur, hv, _⟩
 · exact ⟨_, _, _, hv⟩
 · exact ⟨_, _, _, hv⟩
theorem copied_cp {w w' : World} {ao : Option Addr} {cap B : Nat} {L : List Nat} (h : CopiedR w w' ao L.length cap 1 (L.map fsC)) (hB : B ≤ w.heap.size) : CpAt B w' (.slice ao L.length cap) L := by
 refine ⟨⟨ao, cap, rfl, h.room, h.most, h.bare, h.at_⟩, fun hl b e => ?_⟩
 obtain ⟨g, o, eg, -⟩ := fs_cell h.at_ hl
 subst eg
 simp only [Value.ownBlock, Option.some.injEq] at e
 subst e
 exact Nat.le_trans hB (h.own _ _ rfl).2.1
theorem list3 {α : Type} {us : List α} (h : us.length = 3) : ∃ a b c, us = [a, b, c] := by
 match us, h with
 | [a, b, c], _ => exact ⟨a, b, c, rfl⟩
end Go.Proofs.YtacinenddnfcbaaGreat

namespace Go.Proofs.YtacinenddnfcbaaGreat
open Go.ChangeShapes Go.WideShapes Go.ChangeAt Go.RowKit Ieee.Own

structure Bo where
 kd : Int
 up : Int
 sz : Nat
 at_ : V3
 orb : Ob
 wvs : List Wv
 tab : Tb
 frm : Int
structure Bm where
 b : Bo
 wao : Option Addr
 wcap : Nat
 tao : Option Addr
 tcap : Nat
def bmC (m : Bm) : List Value := [.int .i64 m.b.kd, .int .i64 m.b.up, .float .f64 m.b.sz, .float .f64 m.b.at_.1, .float .f64 m.b.at_.2.1, .float .f64 m.b.at_.2.2, .float .f64 m.b.orb.ax, .float .f64 m.b.orb.ec, .float .f64 m.b.orb.ti, .float .f64 m.b.orb.no, .float .f64 m.b.orb.pe, .float .f64 m.b.orb.ph, .float .f64 m.b.orb.ra, .slice m.wao m.b.wvs.length m.wcap, .float .f64 m.b.tab.fr, .float .f64 m.b.tab.st, .slice m.tao m.b.tab.rows.length m.tcap, .int .i64 m.b.frm]
def bmV (m : Bm) : Value := .agg #[.int .i64 m.b.kd, .int .i64 m.b.up, .float .f64 m.b.sz, .float .f64 m.b.at_.1, .float .f64 m.b.at_.2.1, .float .f64 m.b.at_.2.2, .float .f64 m.b.orb.ax, .float .f64 m.b.orb.ec, .float .f64 m.b.orb.ti, .float .f64 m.b.orb.no, .float .f64 m.b.orb.pe, .float .f64 m.b.orb.ph, .float .f64 m.b.orb.ra, .slice m.wao m.b.wvs.length m.wcap, .float .f64 m.b.tab.fr, .float .f64 m.b.tab.st, .slice m.tao m.b.tab.rows.length m.tcap, .int .i64 m.b.frm]
structure BoW (b : Bo) : Prop where
 sz : b.sz < 18446744073709551616
 at_ : W3 b.at_
 orb : ObW b.orb
 wvs : WvsW b.wvs
 tab : TbW b.tab
 wl : b.wvs.length * 40 ≤ 140737488351232
 tl : TbSz b.tab
structure BmAt (w : World) (m : Bm) : Prop where
 wv : VAt w m.wao m.b.wvs
 tb : TbAt w m.tao m.b.tab.rows
 wc : m.b.wvs.length ≤ m.wcap
 tc : m.b.tab.rows.length ≤ m.tcap
 wn : m.wao = none → m.wcap = 0
 tn : m.tao = none → m.tcap = 0
theorem BmAt.on {w w' : World} {m : Bm} (h : BmAt w m) (hb : Below w.heap.size w w') : BmAt w' m := ⟨RAt.on h.wv hb, h.tb.on hb, h.wc, h.tc, h.wn, h.tn⟩
structure BsAt (w : World) (ao : Option Addr) (M : List Bm) : Prop where
 rows : RAt w ao 18 (M.map bmC)
 each : ∀ m ∈ M, BmAt w m
theorem BsAt.on {w w' : World} {ao : Option Addr} {M : List Bm} (h : BsAt w ao M) (hb : Below w.heap.size w w') : BsAt w' ao M := ⟨h.rows.on hb, fun m hm => (h.each m hm).on hb⟩
def obZ : Ob := ⟨0, 0, 0, 0, 0, 0, 0⟩
def boZ : Bo := ⟨0, 0, 0, (0, 0, 0), obZ, [], ⟨0, 0, []⟩, 0⟩
def bmZ : Bm := ⟨boZ, none, 0, none, 0⟩
def bmAt (M : List Bm) (j : Nat) : Bm := M.getD j bmZ
theorem bm_get {M : List Bm} {j : Nat} (h : j < M.length) : (M.map bmC)[j]? = some (bmC (bmAt M j)) := by
 unfold bmAt; simp [List.getD, h]
theorem bm_mem {M : List Bm} {j : Nat} (h : j < M.length) : bmAt M j ∈ M := by
 unfold bmAt
 have : M.getD j bmZ = M[j] := by simp [List.getD, h]
 rw [this]; exact List.getElem_mem h
theorem BsAt.row {w : World} {ao : Option Addr} {M : List Bm} (h : BsAt w ao M) {j : Nat} (hj : j < M.length) :
 ∃ b o, ao = some ⟨b, o, none⟩ ∧ b < w.heap.size ∧ ∀ k u, (bmC (bmAt M j))[k]? = some u → w.cell? ⟨b, o + j * 18 + k, none⟩ = some u := h.rows j _ (bm_get hj)
structure Sy where
 lt : Nat
 fs : List Fr
 bs : List Bo
def boAt (L : List Bo) (j : Nat) : Bo := L.getD j boZ
theorem bo_bm {M : List Bm} {j : Nat} : boAt (M.map Bm.b) j = (bmAt M j).b := by
 unfold boAt bmAt
 by_cases h : j < M.length
 · simp [List.getD, h]
 · simp [List.getD, List.getElem?_eq_none (show M.length ≤ j by omega)]; rfl
end Go.Proofs.YtacinenddnfcbaaGreat
