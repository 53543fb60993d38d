/- Proved here: what the texts Wvc prove, one behind the other. -/
import Derived.Test.YtacinenddnfcbaaGreatJy16
import Derived.Test.YtacinenddnfcbaaGreatJy11
import Derived.Test.YtacinenddnfcbaaGreatJy8

set_option maxHeartbeats 4000000
set_option maxRecDepth 100000
namespace Go.Proofs.YtacinenddnfcbaaGreat
open Go.ChangeShapes Go.WideShapes Go.ChangeAt Go.RowKit Ieee.Own Pol

theorem wheight_shape {ax : Int} {am ph rt d m a x c u p y0 : Nat} {y : Nat → Nat} (hp : p ≤ 2) (hy : Hid (y 0 = y0)) (r1 : ∀ ty w, (binOp .mul ty (.float .f64 rt) (.float .f64 d)).run Tryz.prog w = .ok (.float .f64 m) w) (r2 : ∀ ty w, (binOp .add ty (.float .f64 ph) (.float .f64 m)).run Tryz.prog w = .ok (.float .f64 a) w) (BR : Hid (∀ w, Calls Tryz.prog 109 #[.float .f64 a] w fun e w' => e = .returned (.float .f64 x) ∧ Below w.heap.size w w')) (CC : Hid (∀ w, Calls Tryz.prog 184 #[.float .f64 x] w fun e w' => e = .returned (.tuple #[.float .f64 c, .int .i64 0]) ∧ Below w.heap.size w w')) (SU : Hid (∀ w, Calls Tryz.prog 183 #[.float .f64 c, .int .i64 0] w fun e w' => e = .returned (.float .f64 c) ∧ Below w.heap.size w w')) (r3 : ∀ ty w, (binOp .mul ty (.float .f64 am) (.float .f64 c)).run Tryz.prog w = .ok (.float .f64 y0) w) (r4 : ∀ ty w, (binOp .quo ty (.float .f64 d) (.float .f64 4679240012837945344)).run Tryz.prog w = .ok (.float .f64 u) w) (ST : Hid (∀ k, k < p → ∀ t w, (binOp .mul t (.float .f64 (y k)) (.float .f64 u)).run Tryz.prog w = .ok (.float .f64 (y (k + 1))) w)) (w : World) :
 Calls Tryz.prog 108 #[.agg #[.int .i64 ax, .int .i64 (p : Int), .float .f64 am, .float .f64 ph, .float .f64 rt], .float .f64 d] w fun e w' => e = .returned (.float .f64 (y p)) ∧ Below w.heap.size w w' := by
 obtain ⟨P, hP⟩ : ∃ P : Int, P = (p : Int) := ⟨_, rfl⟩
 rw [← hP]
 replace hP := Lib.hid hP
 have K0 := kv1 w 115 [.int .i64 ax, .int .i64 P, .float .f64 am, .float .f64 ph, .float .f64 rt]
 simp only [objV] at K0
 have hst := @fstore
 replace K0 := Lib.hid K0
 go_enter Tryz.func108, Tryz.ntmps108
 go_upto_region 1 with fail
 have K := K0.out
 clear K0
 generalize w.alloc _ = wr at *
 generalize hds : ([some 6, some 7, some 8, some 9, some 10, some 11, some 12, some 13, some 14, some 15, some 16, some 17, some 18, some 19, some 20, some 5] : List (Option Tmp)) = ds
 have hap : apartL ds = true := by rw [← hds]; decide
 replace hds := hds.symm
 refine wp_region_kv (fun hf => [some (w.heap.size, [.int .i64 ax, .int .i64 P, .float .f64 am, .float .f64 ph, .float .f64 rt])]) (fun hf => [some (.pointer (some ⟨w.heap.size, 2, none⟩)), some (.float .f64 am), some (.pointer (some ⟨w.heap.size, 3, none⟩)), some (.float .f64 ph), some (.pointer (some ⟨w.heap.size, 4, none⟩)), some (.float .f64 rt), some (.float .f64 d), some (.float .f64 m), some (.float .f64 a), some (.float .f64 x), some (.tuple #[.float .f64 c, .int .i64 0]), some (.float .f64 c), some (.int .i64 0), some (.float .f64 c), some (.float .f64 y0), some (.float .f64 y0)]) [] [] [.pointer (some ⟨w.heap.size, 2, none⟩), .float .f64 am, .pointer (some ⟨w.heap.size, 3, none⟩), .float .f64 ph, .pointer (some ⟨w.heap.size, 4, none⟩), .float .f64 rt, .float .f64 d, .float .f64 m, .float .f64 a, .float .f64 x, .tuple #[.float .f64 c, .int .i64 0], .float .f64 c, .int .i64 0, .float .f64 c, .float .f64 y0, .float .f64 y0] ds (by kernel_rfl) (by rw [hds]; rfl) hap (by decide +kernel) (by decide +kernel) K ?ha ?haj ?hai ?hsi ?hss ?hsa ?hsw ?htg ?hE2 ?hE3 ?hE4 ?hL1 ?hL2 ?hL3 ?alloc ?step ?store ?fin
 case ha => intro al hal; cases hal
 case haj => intro al hal al' hal' e; cases hal
 case hai => intro al hal; cases hal
 case hsi => intro st hst st' hst' e; cases hst
 case hss =>
  intro st hst
  cases hst
 case hsa =>
  intro st hst al hal
  cases hst
 case hsw =>
  intro st hst al hal e
  cases hst
 case htg =>
  intro st hst
  cases hst
 case hE2 =>
  intro hf j h1 h2
  rcases j with _ | j
  · rfl
  · rfl
 case hE3 =>
  intro hf st hst g us e
  cases hst
 case hE4 =>
  intro hf al hal
  cases hal
 case hL1 => intro hf; rfl
 case hL2 =>
  intro hf i hi hna
  have hi : i < 16 := hi
  have : i = 0 ∨ i = 1 ∨ i = 2 ∨ i = 3 ∨ i = 4 ∨ i = 5 ∨ i = 6 ∨ i = 7 ∨ i = 8 ∨ i = 9 ∨ i = 10 ∨ i = 11 ∨ i = 12 ∨ i = 13 ∨ i = 14 ∨ i = 15 := by omega
  rcases this with rfl | rfl | rfl | rfl | rfl | rfl | rfl | rfl | rfl | rfl | rfl | rfl | rfl | rfl | rfl | rfl
  · rfl
  · rfl
  · rfl
  · rfl
  · rfl
  · rfl
  · rfl
  · rfl
  · rfl
  · rfl
  · rfl
  · rfl
  · rfl
  · rfl
  · rfl
  · rfl
 case hL3 => intro hf al hal; cases hal
 case alloc =>
  intro al hal o ρ W ho
  cases hal
 case step =>
  intro L W i o ho hs ha hd hB hO
  have hi : i < 16 := (Array.getElem?_eq_some_iff.1 ho).1
  have : i = 0 ∨ i = 1 ∨ i = 2 ∨ i = 3 ∨ i = 4 ∨ i = 5 ∨ i = 6 ∨ i = 7 ∨ i = 8 ∨ i = 9 ∨ i = 10 ∨ i = 11 ∨ i = 12 ∨ i = 13 ∨ i = 14 ∨ i = 15 := by omega
  rcases this with rfl | rfl | rfl | rfl | rfl | rfl | rfl | rfl | rfl | rfl | rfl | rfl | rfl | rfl | rfl | rfl
  · obtain rfl := Option.some.inj ho
    refine .value W ?_ (Below.refl _ _)
    generalize hA : (puts ds L _).eval = ρ
    have hc : ∀ v, ρ (.const v) = v := fun v => by rw [← hA]; rfl
    have h0 : ρ (.tmp 2) = .pointer (some ⟨w.heap.size, 0, none⟩) := (po hA (by rw [hds]; decide)).trans rfl
    clear hA hd hB ho hs ha hO
    unfold execOp
    go_simp
  · obtain rfl := Option.some.inj ho
    have b := hB 0 _ _ rfl (by
        intro st hst e
        cases hst)
    have c2 := b.at_ 2 _ rfl
    clear b
    refine .value W ?_ (Below.refl _ _)
    generalize hA : (puts ds L _).eval = ρ
    have h0 : ρ (.tmp 6) = .pointer (some ⟨w.heap.size, 2, none⟩) := pg 0 hA hap (by rw [hds]; rfl) (hd 0 (by decide +kernel) (alne rfl)) (show 6 < 31 by decide)
    clear hA hd hB ho hs ha hO
    unfold execOp
    go_simp
  · obtain rfl := Option.some.inj ho
    refine .value W ?_ (Below.refl _ _)
    generalize hA : (puts ds L _).eval = ρ
    have hc : ∀ v, ρ (.const v) = v := fun v => by rw [← hA]; rfl
    have h0 : ρ (.tmp 2) = .pointer (some ⟨w.heap.size, 0, none⟩) := (po hA (by rw [hds]; decide)).trans rfl
    clear hA hd hB ho hs ha hO
    unfold execOp
    go_simp
  · obtain rfl := Option.some.inj ho
    have b := hB 0 _ _ rfl (by
        intro st hst e
        cases hst)
    have c3 := b.at_ 3 _ rfl
    clear b
    refine .value W ?_ (Below.refl _ _)
    generalize hA : (puts ds L _).eval = ρ
    have h0 : ρ (.tmp 8) = .pointer (some ⟨w.heap.size, 3, none⟩) := pg 2 hA hap (by rw [hds]; rfl) (hd 2 (by decide +kernel) (alne rfl)) (show 8 < 31 by decide)
    clear hA hd hB ho hs ha hO
    unfold execOp
    go_simp
  · obtain rfl := Option.some.inj ho
    refine .value W ?_ (Below.refl _ _)
    generalize hA : (puts ds L _).eval = ρ
    have hc : ∀ v, ρ (.const v) = v := fun v => by rw [← hA]; rfl
    have h0 : ρ (.tmp 2) = .pointer (some ⟨w.heap.size, 0, none⟩) := (po hA (by rw [hds]; decide)).trans rfl
    clear hA hd hB ho hs ha hO
    unfold execOp
    go_simp
  · obtain rfl := Option.some.inj ho
    have b := hB 0 _ _ rfl (by
        intro st hst e
        cases hst)
    have c4 := b.at_ 4 _ rfl
    clear b
    refine .value W ?_ (Below.refl _ _)
    generalize hA : (puts ds L _).eval = ρ
    have h0 : ρ (.tmp 10) = .pointer (some ⟨w.heap.size, 4, none⟩) := pg 4 hA hap (by rw [hds]; rfl) (hd 4 (by decide +kernel) (alne rfl)) (show 10 < 31 by decide)
    clear hA hd hB ho hs ha hO
    unfold execOp
    go_simp
  · obtain rfl := Option.some.inj ho
    refine .value W ?_ (Below.refl _ _)
    generalize hA : (puts ds L _).eval = ρ
    have hc : ∀ v, ρ (.const v) = v := fun v => by rw [← hA]; rfl
    have h0 : ρ (.tmp 1) = .float .f64 d := (po hA (by rw [hds]; decide)).trans rfl
    clear hA hd hB ho hs ha hO
    unfold execOp
    go_simp
  · obtain rfl := Option.some.inj ho
    refine .value W ?_ (Below.refl _ _)
    generalize hA : (puts ds L _).eval = ρ
    have hc : ∀ v, ρ (.const v) = v := fun v => by rw [← hA]; rfl
    have h0 : ρ (.tmp 11) = .float .f64 rt := pg 5 hA hap (by rw [hds]; rfl) (hd 5 (by decide +kernel) (alne rfl)) (show 11 < 31 by decide)
    have h1 : ρ (.tmp 12) = .float .f64 d := pg 6 hA hap (by rw [hds]; rfl) (hd 6 (by decide +kernel) (alne rfl)) (show 12 < 31 by decide)
    clear hA hd hB ho hs ha hO
    have h9 := r1
    unfold execOp
    go_simp
  · obtain rfl := Option.some.inj ho
    refine .value W ?_ (Below.refl _ _)
    generalize hA : (puts ds L _).eval = ρ
    have hc : ∀ v, ρ (.const v) = v := fun v => by rw [← hA]; rfl
    have h0 : ρ (.tmp 9) = .float .f64 ph := pg 3 hA hap (by rw [hds]; rfl) (hd 3 (by decide +kernel) (alne rfl)) (show 9 < 31 by decide)
    have h1 : ρ (.tmp 13) = .float .f64 m := pg 7 hA hap (by rw [hds]; rfl) (hd 7 (by decide +kernel) (alne rfl)) (show 13 < 31 by decide)
    clear hA hd hB ho hs ha hO
    have h9 := r2
    unfold execOp
    go_simp
  · obtain rfl := Option.some.inj ho
    refine .call 109 #[.float .f64 a] ?_ (BR.out W)
    generalize hA : (puts ds L _).eval = ρ
    have hg : ∀ g, ρ (.func g) = .func (.func g) #[] #[] := fun v => by rw [← hA]; rfl
    have h0 : ρ (.tmp 14) = .float .f64 a := pg 8 hA hap (by rw [hds]; rfl) (hd 8 (by decide +kernel) (alne rfl)) (show 14 < 31 by decide)
    have hf := Tryz.func109
    unfold execOp
    go_simp
  · obtain rfl := Option.some.inj ho
    refine .call 184 #[.float .f64 x] ?_ (CC.out W)
    generalize hA : (puts ds L _).eval = ρ
    have hg : ∀ g, ρ (.func g) = .func (.func g) #[] #[] := fun v => by rw [← hA]; rfl
    have h0 : ρ (.tmp 15) = .float .f64 x := pg 9 hA hap (by rw [hds]; rfl) (hd 9 (by decide +kernel) (alne rfl)) (show 15 < 31 by decide)
    have hf := Tryz.func184
    unfold execOp
    go_simp
  · obtain rfl := Option.some.inj ho
    refine .value W ?_ (Below.refl _ _)
    generalize hA : (puts ds L _).eval = ρ
    have hc : ∀ v, ρ (.const v) = v := fun v => by rw [← hA]; rfl
    have h0 : ρ (.tmp 16) = .tuple #[.float .f64 c, .int .i64 0] := pg 10 hA hap (by rw [hds]; rfl) (hd 10 (by decide +kernel) (alne rfl)) (show 16 < 31 by decide)
    clear hA hd hB ho hs ha hO
    unfold execOp
    go_simp
  · obtain rfl := Option.some.inj ho
    refine .value W ?_ (Below.refl _ _)
    generalize hA : (puts ds L _).eval = ρ
    have hc : ∀ v, ρ (.const v) = v := fun v => by rw [← hA]; rfl
    have h0 : ρ (.tmp 16) = .tuple #[.float .f64 c, .int .i64 0] := pg 10 hA hap (by rw [hds]; rfl) (hd 10 (by decide +kernel) (alne rfl)) (show 16 < 31 by decide)
    clear hA hd hB ho hs ha hO
    unfold execOp
    go_simp
  · obtain rfl := Option.some.inj ho
    refine .call 183 #[.float .f64 c, .int .i64 0] ?_ (SU.out W)
    generalize hA : (puts ds L _).eval = ρ
    have hg : ∀ g, ρ (.func g) = .func (.func g) #[] #[] := fun v => by rw [← hA]; rfl
    have h0 : ρ (.tmp 17) = .float .f64 c := pg 11 hA hap (by rw [hds]; rfl) (hd 11 (by decide +kernel) (alne rfl)) (show 17 < 31 by decide)
    have h1 : ρ (.tmp 18) = .int .i64 0 := pg 12 hA hap (by rw [hds]; rfl) (hd 12 (by decide +kernel) (alne rfl)) (show 18 < 31 by decide)
    have hf := Tryz.func183
    unfold execOp
    go_simp
  · obtain rfl := Option.some.inj ho
    refine .value W ?_ (Below.refl _ _)
    generalize hA : (puts ds L _).eval = ρ
    have hc : ∀ v, ρ (.const v) = v := fun v => by rw [← hA]; rfl
    have h0 : ρ (.tmp 7) = .float .f64 am := pg 1 hA hap (by rw [hds]; rfl) (hd 1 (by decide +kernel) (alne rfl)) (show 7 < 31 by decide)
    have h1 : ρ (.tmp 19) = .float .f64 c := pg 13 hA hap (by rw [hds]; rfl) (hd 13 (by decide +kernel) (alne rfl)) (show 19 < 31 by decide)
    clear hA hd hB ho hs ha hO
    have h9 := r3
    unfold execOp
    go_simp
  · obtain rfl := Option.some.inj ho
    refine .value W ?_ (Below.refl _ _)
    generalize hA : (puts ds L _).eval = ρ
    have hc : ∀ v, ρ (.const v) = v := fun v => by rw [← hA]; rfl
    have h0 : ρ (.tmp 20) = .float .f64 y0 := pg 14 hA hap (by rw [hds]; rfl) (hd 14 (by decide +kernel) (alne rfl)) (show 20 < 31 by decide)
    clear hA hd hB ho hs ha hO
    unfold execOp
    go_simp
 case store =>
  intro st hst L W o h us ho hd hal hC b
  cases hst
 case fin =>
  intro hf W0 K
  rw [hds]
  clear hds hap ds BR CC SU r1 r2 r3
  (try dsimp only at K)
  simp only [List.set_cons_zero, List.set_cons_succ, puts, Act.put, List.setIfInBounds_toArray]
  have c0_1 := (K.at_ 0 rfl).at_ 1 _ rfl
  replace K := Lib.hid K
  go_wp2_with fail
  replace K := K.out
  go_loopw [5, 23] (fun xv iv wr => ∃ k : Nat, xv = .float .f64 (y k) ∧ iv = .int .i64 k ∧ k ≤ p ∧ Below w.heap.size w wr) (fun _ iv _ => p - (intOf iv).toNat)
  case atStart => exact ⟨0, by rw [hy.out], rfl, Nat.zero_le _, K.old⟩
  case round =>
   obtain ⟨k, rfl, rfl, hk, hb⟩ := hrel
   replace hb := Lib.hid hb
   have hPo := hP.out
   by_cases hlt : k < p
   · have r := ST.out k hlt
     have t1 : decide ((k : Int) < P) = true := decide_eq_true (by omega)
     generalize hs1 : y (k + 1) = s1 at *
     generalize y k = s0 at *
     replace hs1 := Lib.hid hs1
     clear hPo
     go_wp2_with fail
     go_roundw
     case rel => exact ⟨k + 1, by rw [hs1.out], by go_num, hlt, hb.out⟩
     case measure => simp [intOf]; omega
   · obtain rfl : k = p := by omega
     have t1 : decide ((k : Int) < P) = false := decide_eq_false (by omega)
     clear ST hPo
     go_wp2_with fail
     go_ret
     exact ⟨rfl, hb.out⟩
theorem wheight_run {f : Wv} {d : Nat} (h : WvOk f) (hd : d < 18446744073709551616) (t : witB g24 d = true) (w : World) : Calls Tryz.prog 108 #[wvV f, .float .f64 d] w fun e w' => e = .returned (.float .f64 (hgt f d)) ∧ Below w.heap.size w w' := by
 have A := h.ang hd t
 have H := hg_ok h hd t
 have U := age_of hd t
 obtain ⟨aw, ae⟩ := ang_w A
 have p := h.pw
 have BR : Hid (∀ w, Calls Tryz.prog 109 #[.float .f64 (angA f.fr d)] w fun e w' => e = .returned (.float .f64 (angW f.fr d)) ∧ Below w.heap.size w w') := Lib.hid fun w => (wbrought_run A.fin.1 w).mono fun e w' q => ⟨q.1, by rw [← q.2]; exact Below.refl _ _⟩
 have CC := Lib.hid (fun w => wcos_run aw ae w)
 have SU : Hid (∀ w, Calls Tryz.prog 183 #[.float .f64 (tC (angW f.fr d)), .int .i64 0] w fun e w' => e = .returned (.float .f64 (tC (angW f.fr d))) ∧ Below w.heap.size w w') := Lib.hid fun w => (wsuref_run _ 0 w).mono fun e w' q => ⟨q.1, by rw [← q.2]; exact Below.refl _ _⟩
 have := wheight_shape (ax := f.ax) (am := f.am) (ph := f.ph) (rt := f.rt) (p := f.pw.toNat) (y := hg (ageW d) (amc f d)) p.1 (Lib.hid rfl) (run_mul _ _ _ A.mul) (run_add _ _ _ A.add) BR CC SU (run_mul _ _ _ H.run) (run_div _ _ _ U.run) (Lib.hid fun k hk => run_mul _ _ _ (H.st k (by omega)).1) w
 rw [← p.2] at this
 exact this
noncomputable def atV (L : List Wv) (d : Nat) : V3 × Int := if readyV L (witB g24 d) = 0 then ((fnW (sumW d L z3).1, fnW (sumW d L z3).2.1, fnW (sumW d L z3).2.2), 0) else (z3, readyV L (witB g24 d))
theorem put_a0 (p : V3) (x : Nat) : putA p 0 x = (aX p.1 x, p.2.1, p.2.2) := if_pos rfl
theorem put_a1 (p : V3) (x : Nat) : putA p 1 x = (p.1, aX p.2.1 x, p.2.2) := by unfold putA; rw [if_neg (by decide), if_pos rfl]
theorem put_a2 (p : V3) (x : Nat) : putA p 2 x = (p.1, p.2.1, aX p.2.2 x) := by unfold putA; rw [if_neg (by decide), if_neg (by decide)]
theorem wat_run {L : List Wv} (ao : Option Addr) (cap n : Nat) (d : Nat) (w : World) (hn : n = L.length) (hm : n ≤ 4611686018427387904) (hW : WvsW L) (ha : VAt w ao L) (hd : d < 18446744073709551616) :
 Calls Tryz.prog 58 #[.slice ao n cap, .float .f64 d] w fun e w' => e = .returned (vecE (atV L d).1 (atV L d).2) ∧ Below w.heap.size w w' := by
 have CT := fun w => ftime_run d hd w
 have CR : Hid (∀ W, Below w.heap.size w W → Calls Tryz.prog 82 #[.slice ao n cap, .bool (witB g24 d)] W fun e w' => e = .returned (.int .i64 (readyV L (witB g24 d))) ∧ Below W.heap.size W w') :=
  Lib.hid fun W hb => wready_run ao cap n L (witB g24 d) W hn hm hW (ha.below (fun b o e h => ha.lt b o e h) hb)
 unfold atV
 have hst := @fstore
 by_cases hr : readyV L (witB g24 d) = 0
 · rw [if_pos hr]
   rw [hr] at CR
   obtain ⟨c0, tt⟩ := readyV_zero hr
   have OK := Lib.hid (wvs_ok hW c0)
   have hl := (chkV_zero c0).1
   obtain ⟨A, hA⟩ : ∃ A, A = sumW d L z3 := ⟨_, rfl⟩
   have AS := sum_sm hd tt L z3 0 (wvs_ok hW c0) (by omega) sm_zero
   rw [← hA] at AS ⊢
   have R0 : sumW d (L.drop 0) (0, 0, 0) = A := hA.symm
   have HH : Hid (∀ f ∈ L, ∀ w, Calls Tryz.prog 108 #[wvV f, .float .f64 d] w fun e w' => e = .returned (.float .f64 (hgt f d)) ∧ Below w.heap.size w w') := Lib.hid fun f hf w => wheight_run (OK.out f hf) hd tt w
   have HF : Hid (∀ f ∈ L, FinW (hgt f d) ∧ (V (hgt f d)).natAbs ≤ 2 ^ 1131) := Lib.hid fun f hf => hgt_fin (OK.out f hf) (hg_ok (OK.out f hf) hd tt)
   rw [tt] at CT CR
   have B1 := Lib.hid (fun w => (wbrought_run AS.f1.1 w).mono fun e w' q => (⟨q.1, by rw [← q.2]; exact Below.refl _ _⟩ : e = .returned (.float .f64 (fnW A.1)) ∧ Below w.heap.size w w'))
   have B2 := Lib.hid (fun w => (wbrought_run AS.f2.1 w).mono fun e w' q => (⟨q.1, by rw [← q.2]; exact Below.refl _ _⟩ : e = .returned (.float .f64 (fnW A.2.1)) ∧ Below w.heap.size w w'))
   have B3 := Lib.hid (fun w => (wbrought_run AS.f3.1 w).mono fun e w' q => (⟨q.1, by rw [← q.2]; exact Below.refl _ _⟩ : e = .returned (.float .f64 (fnW A.2.2)) ∧ Below w.heap.size w w'))
   clear hA hr AS c0 hW tt
   have hnl : n ≤ 32 := by omega
   clear hl
   replace ha := Lib.hid ha
   replace hn := Lib.hid hn
   replace R0 := Lib.hid R0
   replace hd := Lib.hid hd
   unfold vecE vecV
   have K0 := kv1 w 41 [.float .f64 0, .float .f64 0, .float .f64 0]
   simp only [objV] at K0
   have hst := @fstore
   replace K0 := Lib.hid K0
   go_enter Tryz.func58, Tryz.ntmps58
   go_wp2_with (go_at_call 31; ((with_reducible refine (CT _).mono ?_); rintro e w' ⟨rfl, rfl⟩))
   have K := K0.out
   clear K0
   generalize w.alloc _ = wr at *
   refine (CR.out wr K.old).mono ?_
   rintro _ v1 ⟨rfl, hb⟩
   replace K := K.on hb
   clear hb CR CT
   replace K := K.new 133 [.float .f64 0, .float .f64 0, .float .f64 0]
   simp only [objV, List.cons_append, List.nil_append] at K
   replace K := Lib.hid K
   go_wp2_with fail
   replace K := K.out
   generalize v1.alloc _ = wl at *
   generalize v1.heap.size = g1 at *
   go_loopw [20] (fun iv wr => ∃ i s1 s2 s3 : Nat, iv = .int .i64 i ∧ i ≤ n ∧ sumW d (L.drop i) (s1, s2, s3) = A ∧ Sm (s1, s2, s3) i ∧ Kv w [some (w.heap.size, [.float .f64 0, .float .f64 0, .float .f64 0]), some (g1, [.float .f64 s1, .float .f64 s2, .float .f64 s3])] wr) (fun iv _ => n - (intOf iv).toNat)
   case atStart => exact ⟨0, 0, 0, 0, rfl, Nat.zero_le _, R0.out, sm_zero, K⟩
   case round =>
    obtain ⟨i, s1, s2, s3, rfl, hi, hR, hS, K⟩ := hrel
    by_cases hlt : i < n
    · have hil : i < L.length := by have := hn.out; omega
      obtain ⟨b, o, rfl, hbl, c0, c1, c2, c3, c4⟩ := VAt.cells (ha.out.below (fun b o e _ => ha.out.lt b o e (by simp; omega)) K.old) hil
      have fm := wv_mem hil
      have CH' := HH.out _ fm
      have O := OK.out _ fm
      have F := HF.out _ fm
      rw [wv_drop hil] at hR
      unfold sumW at hR
      have a3 : (wvAt L i).ax = 0 ∨ (wvAt L i).ax = 1 ∨ (wvAt L i).ax = 2 := by have h1 := O.ax0; have h2 := O.ax1; omega
      have SP := hS.put (by omega) (wvAt L i).ax F.1 F.2
      have A1 := add_sm (by omega) hS.f1 hS.b1 F.1 F.2
      have A2 := add_sm (by omega) hS.f2 hS.b2 F.1 F.2
      have A3 := add_sm (by omega) hS.f3 hS.b3 F.1 F.2
      have r1 := run_add _ _ _ A1.1
      have r2 := run_add _ _ _ A2.1
      have r3 := run_add _ _ _ A3.1
      dsimp only at r1 r2 r3
      clear O F fm hbl A1 A2 A3 hS
      generalize hgt (wvAt L i) d = x at *
      generalize wvAt L i = f at *
      obtain ⟨ax, pw, am, ph, rt⟩ := f
      unfold wvV at CH'
      dsimp only at *
      have CH := Lib.hid CH'
      clear CH'
      replace K := K.new 115 [.int .i64 ax, .int .i64 pw, .float .f64 am, .float .f64 ph, .float .f64 rt]
      simp only [objV, List.cons_append, List.nil_append] at K
      replace hR := Lib.hid hR
      replace SP := Lib.hid SP
      have d2_0 := (K.at_ 2 rfl).at_ 0 _ rfl
      have d2_1 := (K.at_ 2 rfl).at_ 1 _ rfl
      have d2_2 := (K.at_ 2 rfl).at_ 2 _ rfl
      have d2_3 := (K.at_ 2 rfl).at_ 3 _ rfl
      have d2_4 := (K.at_ 2 rfl).at_ 4 _ rfl
      replace K := Lib.hid K
      rcases a3 with rfl | rfl | rfl
      · clear r2 r3
        go_upto_region 8 with fail
        replace K := K.out
        clear c0 c1 c2 c3 c4 d2_0 d2_1 d2_2 d2_3 d2_4
        generalize wr.alloc _ = wq at *
        generalize wr.heap.size = g2 at *
        generalize hds : ([some 24, some 25, some 26, some 27, some 28, some 29, some 30, some 31, some 32, none] : List (Option Tmp)) = ds
        have hap : apartL ds = true := by rw [← hds]; decide
        replace hds := hds.symm
        refine wp_region_kv (fun hf => [some (w.heap.size, [.float .f64 0, .float .f64 0, .float .f64 0]), some (g1, [.float .f64 (aX s1 x), .float .f64 s2, .float .f64 s3]), some (g2, [.int .i64 0, .int .i64 pw, .float .f64 am, .float .f64 ph, .float .f64 rt])]) (fun hf => [some (.pointer (some ⟨g2, 0, none⟩)), some (.int .i64 0), some (.pointer (some ⟨g1, 0, none⟩)), some (.float .f64 s1), some (.agg #[.int .i64 0, .int .i64 pw, .float .f64 am, .float .f64 ph, .float .f64 rt]), some (.float .f64 d), some (.float .f64 x), some (.float .f64 (aX s1 x)), some (.pointer (some ⟨g1, 0, none⟩)), some (undef)]) [] [⟨9, 1, 0, [.float .f64 (aX s1 x)]⟩] [.pointer (some ⟨g2, 0, none⟩), .int .i64 0, .pointer (some ⟨g1, 0, none⟩), .float .f64 s1, .agg #[.int .i64 0, .int .i64 pw, .float .f64 am, .float .f64 ph, .float .f64 rt], .float .f64 d, .float .f64 x, .float .f64 (aX s1 x), .pointer (some ⟨g1, 0, none⟩), undef] ds (by kernel_rfl) (by rw [hds]; rfl) hap (by decide +kernel) (by decide +kernel) K ?ha ?haj ?hai ?hsi ?hss ?hsa ?hsw ?htg ?hE2 ?hE3 ?hE4 ?hL1 ?hL2 ?hL3 ?alloc ?step ?store ?fin
        case ha => intro al hal; cases hal
        case haj => intro al hal al' hal' e; cases hal
        case hai => intro al hal; cases hal
        case hsi => intro st hst st' hst' e; rcases List.mem_singleton.1 hst with rfl <;> (rcases List.mem_singleton.1 hst' with rfl) <;> first | rfl | (exfalso; revert e; simp)
        case hss =>
         intro st hst
         rcases List.mem_singleton.1 hst with rfl
         · show 9 < 10; decide
        case hsa =>
         intro st hst al hal
         cases hal
        case hsw =>
         intro st hst al hal e
         cases hal
        case htg =>
         intro st hst
         rcases List.mem_singleton.1 hst with rfl
         · exact .inl ⟨_, _, rfl, show 0 + 1 ≤ 3 by decide⟩
        case hE2 =>
         intro hf j h1 h2
         have n1 : 1 ≠ j := h1 _ (List.mem_cons_self ..)
         rcases j with _ | _ | _ | j
         · rfl
         · exact absurd rfl n1
         · rfl
         · rfl
        case hE3 =>
         intro hf st hst g us e
         rcases List.mem_singleton.1 hst with rfl
         · obtain ⟨rfl, rfl⟩ := Prod.mk.inj (Option.some.inj (Option.some.inj e)); rfl
        case hE4 =>
         intro hf al hal
         cases hal
        case hL1 => intro hf; rfl
        case hL2 =>
         intro hf i hi hna
         have hi : i < 10 := hi
         have : i = 0 ∨ i = 1 ∨ i = 2 ∨ i = 3 ∨ i = 4 ∨ i = 5 ∨ i = 6 ∨ i = 7 ∨ i = 8 ∨ i = 9 := by omega
         rcases this with rfl | rfl | rfl | rfl | rfl | rfl | rfl | rfl | rfl | rfl
         · rfl
         · rfl
         · rfl
         · rfl
         · rfl
         · rfl
         · rfl
         · rfl
         · rfl
         · rfl
        case hL3 => intro hf al hal; cases hal
        case alloc =>
         intro al hal o ρ W ho
         cases hal
        case step =>
         intro L W i o ho hs ha hd hB hO
         have hi : i < 10 := (Array.getElem?_eq_some_iff.1 ho).1
         have : i = 0 ∨ i = 1 ∨ i = 2 ∨ i = 3 ∨ i = 4 ∨ i = 5 ∨ i = 6 ∨ i = 7 ∨ i = 8 ∨ i = 9 := by omega
         rcases this with rfl | rfl | rfl | rfl | rfl | rfl | rfl | rfl | rfl | rfl
         · obtain rfl := Option.some.inj ho
           refine .value W ?_ (Below.refl _ _)
           generalize hA : (puts ds L _).eval = ρ
           have hc : ∀ v, ρ (.const v) = v := fun v => by rw [← hA]; rfl
           have h0 : ρ (.tmp 9) = .pointer (some ⟨g2, 0, none⟩) := (po hA (by rw [hds]; decide)).trans rfl
           clear hA hd hB ho hs ha hO
           unfold execOp
           go_simp
         · obtain rfl := Option.some.inj ho
           have b := hB 2 _ _ rfl (by
              intro st hst e
              rcases List.mem_singleton.1 hst with rfl
              · exact absurd e (show ¬ 1 = 2 by decide))
           have c0 := b.at_ 0 _ rfl
           clear b
           refine .value W ?_ (Below.refl _ _)
           generalize hA : (puts ds L _).eval = ρ
           have h0 : ρ (.tmp 24) = .pointer (some ⟨g2, 0, none⟩) := pg 0 hA hap (by rw [hds]; rfl) (hd 0 (by decide +kernel) (alne rfl)) (show 24 < 44 by decide)
           clear hA hd hB ho hs ha hO
           unfold execOp
           go_simp
         · obtain rfl := Option.some.inj ho
           refine .value W ?_ (Below.refl _ _)
           generalize hA : (puts ds L _).eval = ρ
           have hc : ∀ v, ρ (.const v) = v := fun v => by rw [← hA]; rfl
           have h0 : ρ (.tmp 7) = .pointer (some ⟨g1, 0, none⟩) := (po hA (by rw [hds]; decide)).trans rfl
           have h1 : ρ (.tmp 25) = .int .i64 0 := pg 1 hA hap (by rw [hds]; rfl) (hd 1 (by decide +kernel) (alne rfl)) (show 25 < 44 by decide)
           clear hA hd hB ho hs ha hO
           unfold execOp
           go_simp
         · obtain rfl := Option.some.inj ho
           have b := hB 1 _ _ rfl (by
              intro st hst e
              rcases List.mem_singleton.1 hst with rfl
              · change needs _ _ 9 3 = true; decide +kernel)
           have c0 := b.at_ 0 _ rfl
           clear b
           refine .value W ?_ (Below.refl _ _)
           generalize hA : (puts ds L _).eval = ρ
           have h0 : ρ (.tmp 26) = .pointer (some ⟨g1, 0, none⟩) := pg 2 hA hap (by rw [hds]; rfl) (hd 2 (by decide +kernel) (alne rfl)) (show 26 < 44 by decide)
           clear hA hd hB ho hs ha hO
           unfold execOp
           go_simp
         · obtain rfl := Option.some.inj ho
           have b := hB 2 _ _ rfl (by
              intro st hst e
              rcases List.mem_singleton.1 hst with rfl
              · exact absurd e (show ¬ 1 = 2 by decide))
           have c0 := b.at_ 0 _ rfl
           have c1 := b.at_ 1 _ rfl
           have c2 := b.at_ 2 _ rfl
           have c3 := b.at_ 3 _ rfl
           have c4 := b.at_ 4 _ rfl
           clear b
           refine .value W ?_ (Below.refl _ _)
           generalize hA : (puts ds L _).eval = ρ
           have h0 : ρ (.tmp 9) = .pointer (some ⟨g2, 0, none⟩) := (po hA (by rw [hds]; decide)).trans rfl
           clear hA hd hB ho hs ha hO
           unfold execOp
           go_simp
         · obtain rfl := Option.some.inj ho
           refine .value W ?_ (Below.refl _ _)
           generalize hA : (puts ds L _).eval = ρ
           have hc : ∀ v, ρ (.const v) = v := fun v => by rw [← hA]; rfl
           have h0 : ρ (.tmp 1) = .float .f64 d := (po hA (by rw [hds]; decide)).trans rfl
           clear hA hd hB ho hs ha hO
           unfold execOp
           go_simp
         · obtain rfl := Option.some.inj ho
           refine .call 108 #[.agg #[.int .i64 0, .int .i64 pw, .float .f64 am, .float .f64 ph, .float .f64 rt], .float .f64 d] ?_ (CH.out W)
           generalize hA : (puts ds L _).eval = ρ
           have hg : ∀ g, ρ (.func g) = .func (.func g) #[] #[] := fun v => by rw [← hA]; rfl
           have h0 : ρ (.tmp 28) = .agg #[.int .i64 0, .int .i64 pw, .float .f64 am, .float .f64 ph, .float .f64 rt] := pg 4 hA hap (by rw [hds]; rfl) (hd 4 (by decide +kernel) (alne rfl)) (show 28 < 44 by decide)
           have h1 : ρ (.tmp 29) = .float .f64 d := pg 5 hA hap (by rw [hds]; rfl) (hd 5 (by decide +kernel) (alne rfl)) (show 29 < 44 by decide)
           have hf := Tryz.func108
           unfold execOp
           go_simp
         · obtain rfl := Option.some.inj ho
           refine .value W ?_ (Below.refl _ _)
           generalize hA : (puts ds L _).eval = ρ
           have hc : ∀ v, ρ (.const v) = v := fun v => by rw [← hA]; rfl
           have h0 : ρ (.tmp 27) = .float .f64 s1 := pg 3 hA hap (by rw [hds]; rfl) (hd 3 (by decide +kernel) (alne rfl)) (show 27 < 44 by decide)
           have h1 : ρ (.tmp 30) = .float .f64 x := pg 6 hA hap (by rw [hds]; rfl) (hd 6 (by decide +kernel) (alne rfl)) (show 30 < 44 by decide)
           clear hA hd hB ho hs ha hO
           have h9 := r1
           unfold execOp
           go_simp
         · obtain rfl := Option.some.inj ho
           refine .value W ?_ (Below.refl _ _)
           generalize hA : (puts ds L _).eval = ρ
           have hc : ∀ v, ρ (.const v) = v := fun v => by rw [← hA]; rfl
           have h0 : ρ (.tmp 7) = .pointer (some ⟨g1, 0, none⟩) := (po hA (by rw [hds]; decide)).trans rfl
           have h1 : ρ (.tmp 25) = .int .i64 0 := pg 1 hA hap (by rw [hds]; rfl) (hd 1 (by decide +kernel) (alne rfl)) (show 25 < 44 by decide)
           clear hA hd hB ho hs ha hO
           unfold execOp
           go_simp
         · exact absurd rfl (hs _ (List.mem_cons_self ..))
        case store =>
         intro st hst L W o h us ho hd hal hC b
         rcases List.mem_singleton.1 hst with rfl
         · dsimp only at ho hd hal hC b ⊢
           obtain rfl := Option.some.inj ho
           obtain ⟨hh, rfl⟩ := hC _ _ rfl
           replace hh := hh.symm
           subst hh
           have c0 := b.at_ 0 _ rfl
           have f0 := b.fr 0 _ rfl
           refine ⟨?_, rfl⟩
           generalize hA : (puts ds L _).eval = ρ
           have h0 : ρ (.tmp 32) = .pointer (some ⟨g1, 0, none⟩) := pg 8 hA hap (by rw [hds]; rfl) (hd 8 (by decide +kernel) (alne rfl)) (show 32 < 44 by decide)
           have h1 : ρ (.tmp 31) = .float .f64 (aX s1 x) := pg 7 hA hap (by rw [hds]; rfl) (hd 7 (by decide +kernel) (alne rfl)) (show 31 < 44 by decide)
           have hst' := @fstore
           clear hA hd b ho hal hC
           simp only [putV]
           unfold execOp
           go_simp
        case fin =>
         intro hf W0 K
         rw [hds]
         clear hds hap ds CH r1
         (try dsimp only at K)
         simp only [List.set_cons_zero, List.set_cons_succ, puts, Act.put, List.setIfInBounds_toArray]
         replace K := K.take 2
         simp only [List.take_succ_cons, List.take_zero] at K
         replace K := Lib.hid K
         go_wp2_with fail
         go_roundw
         case rel => exact ⟨i + 1, aX s1 x, s2, s3, by go_num, hlt, by have q := hR.out; rw [put_a0] at q; exact q, by have q := SP.out; rw [put_a0] at q; exact q, K.out⟩
         case measure => simp [intOf]; omega
      · clear r1 r3
        go_upto_region 8 with fail
        replace K := K.out
        clear c0 c1 c2 c3 c4 d2_0 d2_1 d2_2 d2_3 d2_4
        generalize wr.alloc _ = wq at *
        generalize wr.heap.size = g2 at *
        generalize hds : ([some 24, some 25, some 26, some 27, some 28, some 29, some 30, some 31, some 32, none] : List (Option Tmp)) = ds
        have hap : apartL ds = true := by rw [← hds]; decide
        replace hds := hds.symm
        refine wp_region_kv (fun hf => [some (w.heap.size, [.float .f64 0, .float .f64 0, .float .f64 0]), some (g1, [.float .f64 s1, .float .f64 (aX s2 x), .float .f64 s3]), some (g2, [.int .i64 1, .int .i64 pw, .float .f64 am, .float .f64 ph, .float .f64 rt])]) (fun hf => [some (.pointer (some ⟨g2, 0, none⟩)), some (.int .i64 1), some (.pointer (some ⟨g1, 1, none⟩)), some (.float .f64 s2), some (.agg #[.int .i64 1, .int .i64 pw, .float .f64 am, .float .f64 ph, .float .f64 rt]), some (.float .f64 d), some (.float .f64 x), some (.float .f64 (aX s2 x)), some (.pointer (some ⟨g1, 1, none⟩)), some (undef)]) [] [⟨9, 1, 1, [.float .f64 (aX s2 x)]⟩] [.pointer (some ⟨g2, 0, none⟩), .int .i64 1, .pointer (some ⟨g1, 1, none⟩), .float .f64 s2, .agg #[.int .i64 1, .int .i64 pw, .float .f64 am, .float .f64 ph, .float .f64 rt], .float .f64 d, .float .f64 x, .float .f64 (aX s2 x), .pointer (some ⟨g1, 1, none⟩), undef] ds (by kernel_rfl) (by rw [hds]; rfl) hap (by decide +kernel) (by decide +kernel) K ?ha ?haj ?hai ?hsi ?hss ?hsa ?hsw ?htg ?hE2 ?hE3 ?hE4 ?hL1 ?hL2 ?hL3 ?alloc ?step ?store ?fin
        case ha => intro al hal; cases hal
        case haj => intro al hal al' hal' e; cases hal
        case hai => intro al hal; cases hal
        case hsi => intro st hst st' hst' e; rcases List.mem_singleton.1 hst with rfl <;> (rcases List.mem_singleton.1 hst' with rfl) <;> first | rfl | (exfalso; revert e; simp)
        case hss =>
         intro st hst
         rcases List.mem_singleton.1 hst with rfl
         · show 9 < 10; decide
        case hsa =>
         intro st hst al hal
         cases hal
        case hsw =>
         intro st hst al hal e
         cases hal
        case htg =>
         intro st hst
         rcases List.mem_singleton.1 hst with rfl
         · exact .inl ⟨_, _, rfl, show 1 + 1 ≤ 3 by decide⟩
        case hE2 =>
         intro hf j h1 h2
         have n1 : 1 ≠ j := h1 _ (List.mem_cons_self ..)
         rcases j with _ | _ | _ | j
         · rfl
         · exact absurd rfl n1
         · rfl
         · rfl
        case hE3 =>
         intro hf st hst g us e
         rcases List.mem_singleton.1 hst with rfl
         · obtain ⟨rfl, rfl⟩ := Prod.mk.inj (Option.some.inj (Option.some.inj e)); rfl
        case hE4 =>
         intro hf al hal
         cases hal
        case hL1 => intro hf; rfl
        case hL2 =>
         intro hf i hi hna
         have hi : i < 10 := hi
         have : i = 0 ∨ i = 1 ∨ i = 2 ∨ i = 3 ∨ i = 4 ∨ i = 5 ∨ i = 6 ∨ i = 7 ∨ i = 8 ∨ i = 9 := by omega
         rcases this with rfl | rfl | rfl | rfl | rfl | rfl | rfl | rfl | rfl | rfl
         · rfl
         · rfl
         · rfl
         · rfl
         · rfl
         · rfl
         · rfl
         · rfl
         · rfl
         · rfl
        case hL3 => intro hf al hal; cases hal
        case alloc =>
         intro al hal o ρ W ho
         cases hal
        case step =>
         intro L W i o ho hs ha hd hB hO
         have hi : i < 10 := (Array.getElem?_eq_some_iff.1 ho).1
         have : i = 0 ∨ i = 1 ∨ i = 2 ∨ i = 3 ∨ i = 4 ∨ i = 5 ∨ i = 6 ∨ i = 7 ∨ i = 8 ∨ i = 9 := by omega
         rcases this with rfl | rfl | rfl | rfl | rfl | rfl | rfl | rfl | rfl | rfl
         · obtain rfl := Option.some.inj ho
           refine .value W ?_ (Below.refl _ _)
           generalize hA : (puts ds L _).eval = ρ
           have hc : ∀ v, ρ (.const v) = v := fun v => by rw [← hA]; rfl
           have h0 : ρ (.tmp 9) = .pointer (some ⟨g2, 0, none⟩) := (po hA (by rw [hds]; decide)).trans rfl
           clear hA hd hB ho hs ha hO
           unfold execOp
           go_simp
         · obtain rfl := Option.some.inj ho
           have b := hB 2 _ _ rfl (by
              intro st hst e
              rcases List.mem_singleton.1 hst with rfl
              · exact absurd e (show ¬ 1 = 2 by decide))
           have c0 := b.at_ 0 _ rfl
           clear b
           refine .value W ?_ (Below.refl _ _)
           generalize hA : (puts ds L _).eval = ρ
           have h0 : ρ (.tmp 24) = .pointer (some ⟨g2, 0, none⟩) := pg 0 hA hap (by rw [hds]; rfl) (hd 0 (by decide +kernel) (alne rfl)) (show 24 < 44 by decide)
           clear hA hd hB ho hs ha hO
           unfold execOp
           go_simp
         · obtain rfl := Option.some.inj ho
           refine .value W ?_ (Below.refl _ _)
           generalize hA : (puts ds L _).eval = ρ
           have hc : ∀ v, ρ (.const v) = v := fun v => by rw [← hA]; rfl
           have h0 : ρ (.tmp 7) = .pointer (some ⟨g1, 0, none⟩) := (po hA (by rw [hds]; decide)).trans rfl
           have h1 : ρ (.tmp 25) = .int .i64 1 := pg 1 hA hap (by rw [hds]; rfl) (hd 1 (by decide +kernel) (alne rfl)) (show 25 < 44 by decide)
           clear hA hd hB ho hs ha hO
           unfold execOp
           go_simp
         · obtain rfl := Option.some.inj ho
           have b := hB 1 _ _ rfl (by
              intro st hst e
              rcases List.mem_singleton.1 hst with rfl
              · change needs _ _ 9 3 = true; decide +kernel)
           have c1 := b.at_ 1 _ rfl
           clear b
           refine .value W ?_ (Below.refl _ _)
           generalize hA : (puts ds L _).eval = ρ
           have h0 : ρ (.tmp 26) = .pointer (some ⟨g1, 1, none⟩) := pg 2 hA hap (by rw [hds]; rfl) (hd 2 (by decide +kernel) (alne rfl)) (show 26 < 44 by decide)
           clear hA hd hB ho hs ha hO
           unfold execOp
           go_simp
         · obtain rfl := Option.some.inj ho
           have b := hB 2 _ _ rfl (by
              intro st hst e
              rcases List.mem_singleton.1 hst with rfl
              · exact absurd e (show ¬ 1 = 2 by decide))
           have c0 := b.at_ 0 _ rfl
           have c1 := b.at_ 1 _ rfl
           have c2 := b.at_ 2 _ rfl
           have c3 := b.at_ 3 _ rfl
           have c4 := b.at_ 4 _ rfl
           clear b
           refine .value W ?_ (Below.refl _ _)
           generalize hA : (puts ds L _).eval = ρ
           have h0 : ρ (.tmp 9) = .pointer (some ⟨g2, 0, none⟩) := (po hA (by rw [hds]; decide)).trans rfl
           clear hA hd hB ho hs ha hO
           unfold execOp
           go_simp
         · obtain rfl := Option.some.inj ho
           refine .value W ?_ (Below.refl _ _)
           generalize hA : (puts ds L _).eval = ρ
           have hc : ∀ v, ρ (.const v) = v := fun v => by rw [← hA]; rfl
           have h0 : ρ (.tmp 1) = .float .f64 d := (po hA (by rw [hds]; decide)).trans rfl
           clear hA hd hB ho hs ha hO
           unfold execOp
           go_simp
         · obtain rfl := Option.some.inj ho
           refine .call 108 #[.agg #[.int .i64 1, .int .i64 pw, .float .f64 am, .float .f64 ph, .float .f64 rt], .float .f64 d] ?_ (CH.out W)
           generalize hA : (puts ds L _).eval = ρ
           have hg : ∀ g, ρ (.func g) = .func (.func g) #[] #[] := fun v => by rw [← hA]; rfl
           have h0 : ρ (.tmp 28) = .agg #[.int .i64 1, .int .i64 pw, .float .f64 am, .float .f64 ph, .float .f64 rt] := pg 4 hA hap (by rw [hds]; rfl) (hd 4 (by decide +kernel) (alne rfl)) (show 28 < 44 by decide)
           have h1 : ρ (.tmp 29) = .float .f64 d := pg 5 hA hap (by rw [hds]; rfl) (hd 5 (by decide +kernel) (alne rfl)) (show 29 < 44 by decide)
           have hf := Tryz.func108
           unfold execOp
           go_simp
         · obtain rfl := Option.some.inj ho
           refine .value W ?_ (Below.refl _ _)
           generalize hA : (puts ds L _).eval = ρ
           have hc : ∀ v, ρ (.const v) = v := fun v => by rw [← hA]; rfl
           have h0 : ρ (.tmp 27) = .float .f64 s2 := pg 3 hA hap (by rw [hds]; rfl) (hd 3 (by decide +kernel) (alne rfl)) (show 27 < 44 by decide)
           have h1 : ρ (.tmp 30) = .float .f64 x := pg 6 hA hap (by rw [hds]; rfl) (hd 6 (by decide +kernel) (alne rfl)) (show 30 < 44 by decide)
           clear hA hd hB ho hs ha hO
           have h9 := r2
           unfold execOp
           go_simp
         · obtain rfl := Option.some.inj ho
           refine .value W ?_ (Below.refl _ _)
           generalize hA : (puts ds L _).eval = ρ
           have hc : ∀ v, ρ (.const v) = v := fun v => by rw [← hA]; rfl
           have h0 : ρ (.tmp 7) = .pointer (some ⟨g1, 0, none⟩) := (po hA (by rw [hds]; decide)).trans rfl
           have h1 : ρ (.tmp 25) = .int .i64 1 := pg 1 hA hap (by rw [hds]; rfl) (hd 1 (by decide +kernel) (alne rfl)) (show 25 < 44 by decide)
           clear hA hd hB ho hs ha hO
           unfold execOp
           go_simp
         · exact absurd rfl (hs _ (List.mem_cons_self ..))
        case store =>
         intro st hst L W o h us ho hd hal hC b
         rcases List.mem_singleton.1 hst with rfl
         · dsimp only at ho hd hal hC b ⊢
           obtain rfl := Option.some.inj ho
           obtain ⟨hh, rfl⟩ := hC _ _ rfl
           replace hh := hh.symm
           subst hh
           have c0 := b.at_ 1 _ rfl
           have f0 := b.fr 1 _ rfl
           refine ⟨?_, rfl⟩
           generalize hA : (puts ds L _).eval = ρ
           have h0 : ρ (.tmp 32) = .pointer (some ⟨g1, 1, none⟩) := pg 8 hA hap (by rw [hds]; rfl) (hd 8 (by decide +kernel) (alne rfl)) (show 32 < 44 by decide)
           have h1 : ρ (.tmp 31) = .float .f64 (aX s2 x) := pg 7 hA hap (by rw [hds]; rfl) (hd 7 (by decide +kernel) (alne rfl)) (show 31 < 44 by decide)
           have hst' := @fstore
           clear hA hd b ho hal hC
           simp only [putV]
           unfold execOp
           go_simp
        case fin =>
         intro hf W0 K
         rw [hds]
         clear hds hap ds CH r2
         (try dsimp only at K)
         simp only [List.set_cons_zero, List.set_cons_succ, puts, Act.put, List.setIfInBounds_toArray]
         replace K := K.take 2
         simp only [List.take_succ_cons, List.take_zero] at K
         replace K := Lib.hid K
         go_wp2_with fail
         go_roundw
         case rel => exact ⟨i + 1, s1, aX s2 x, s3, by go_num, hlt, by have q := hR.out; rw [put_a1] at q; exact q, by have q := SP.out; rw [put_a1] at q; exact q, K.out⟩
         case measure => simp [intOf]; omega
      · clear r1 r2
        go_upto_region 8 with fail
        replace K := K.out
        clear c0 c1 c2 c3 c4 d2_0 d2_1 d2_2 d2_3 d2_4
        generalize wr.alloc _ = wq at *
        generalize wr.heap.size = g2 at *
        generalize hds : ([some 24, some 25, some 26, some 27, some 28, some 29, some 30, some 31, some 32, none] : List (Option Tmp)) = ds
        have hap : apartL ds = true := by rw [← hds]; decide
        replace hds := hds.symm
        refine wp_region_kv (fun hf => [some (w.heap.size, [.float .f64 0, .float .f64 0, .float .f64 0]), some (g1, [.float .f64 s1, .float .f64 s2, .float .f64 (aX s3 x)]), some (g2, [.int .i64 2, .int .i64 pw, .float .f64 am, .float .f64 ph, .float .f64 rt])]) (fun hf => [some (.pointer (some ⟨g2, 0, none⟩)), some (.int .i64 2), some (.pointer (some ⟨g1, 2, none⟩)), some (.float .f64 s3), some (.agg #[.int .i64 2, .int .i64 pw, .float .f64 am, .float .f64 ph, .float .f64 rt]), some (.float .f64 d), some (.float .f64 x), some (.float .f64 (aX s3 x)), some (.pointer (some ⟨g1, 2, none⟩)), some (undef)]) [] [⟨9, 1, 2, [.float .f64 (aX s3 x)]⟩] [.pointer (some ⟨g2, 0, none⟩), .int .i64 2, .pointer (some ⟨g1, 2, none⟩), .float .f64 s3, .agg #[.int .i64 2, .int .i64 pw, .float .f64 am, .float .f64 ph, .float .f64 rt], .float .f64 d, .float .f64 x, .float .f64 (aX s3 x), .pointer (some ⟨g1, 2, none⟩), undef] ds (by kernel_rfl) (by rw [hds]; rfl) hap (by decide +kernel) (by decide +kernel) K ?ha ?haj ?hai ?hsi ?hss ?hsa ?hsw ?htg ?hE2 ?hE3 ?hE4 ?hL1 ?hL2 ?hL3 ?alloc ?step ?store ?fin
        case ha => intro al hal; cases hal
        case haj => intro al hal al' hal' e; cases hal
        case hai => intro al hal; cases hal
        case hsi => intro st hst st' hst' e; rcases List.mem_singleton.1 hst with rfl <;> (rcases List.mem_singleton.1 hst' with rfl) <;> first | rfl | (exfalso; revert e; simp)
        case hss =>
         intro st hst
         rcases List.mem_singleton.1 hst with rfl
         · show 9 < 10; decide
        case hsa =>
         intro st hst al hal
         cases hal
        case hsw =>
         intro st hst al hal e
         cases hal
        case htg =>
         intro st hst
         rcases List.mem_singleton.1 hst with rfl
         · exact .inl ⟨_, _, rfl, show 2 + 1 ≤ 3 by decide⟩
        case hE2 =>
         intro hf j h1 h2
         have n1 : 1 ≠ j := h1 _ (List.mem_cons_self ..)
         rcases j with _ | _ | _ | j
         · rfl
         · exact absurd rfl n1
         · rfl
         · rfl
        case hE3 =>
         intro hf st hst g us e
         rcases List.mem_singleton.1 hst with rfl
         · obtain ⟨rfl, rfl⟩ := Prod.mk.inj (Option.some.inj (Option.some.inj e)); rfl
        case hE4 =>
         intro hf al hal
         cases hal
        case hL1 => intro hf; rfl
        case hL2 =>
         intro hf i hi hna
         have hi : i < 10 := hi
         have : i = 0 ∨ i = 1 ∨ i = 2 ∨ i = 3 ∨ i = 4 ∨ i = 5 ∨ i = 6 ∨ i = 7 ∨ i = 8 ∨ i = 9 := by omega
         rcases this with rfl | rfl | rfl | rfl | rfl | rfl | rfl | rfl | rfl | rfl
         · rfl
         · rfl
         · rfl
         · rfl
         · rfl
         · rfl
         · rfl
         · rfl
         · rfl
         · rfl
        case hL3 => intro hf al hal; cases hal
        case alloc =>
         intro al hal o ρ W ho
         cases hal
        case step =>
         intro L W i o ho hs ha hd hB hO
         have hi : i < 10 := (Array.getElem?_eq_some_iff.1 ho).1
         have : i = 0 ∨ i = 1 ∨ i = 2 ∨ i = 3 ∨ i = 4 ∨ i = 5 ∨ i = 6 ∨ i = 7 ∨ i = 8 ∨ i = 9 := by omega
         rcases this with rfl | rfl | rfl | rfl | rfl | rfl | rfl | rfl | rfl | rfl
         · obtain rfl := Option.some.inj ho
           refine .value W ?_ (Below.refl _ _)
           generalize hA : (puts ds L _).eval = ρ
           have hc : ∀ v, ρ (.const v) = v := fun v => by rw [← hA]; rfl
           have h0 : ρ (.tmp 9) = .pointer (some ⟨g2, 0, none⟩) := (po hA (by rw [hds]; decide)).trans rfl
           clear hA hd hB ho hs ha hO
           unfold execOp
           go_simp
         · obtain rfl := Option.some.inj ho
           have b := hB 2 _ _ rfl (by
              intro st hst e
              rcases List.mem_singleton.1 hst with rfl
              · exact absurd e (show ¬ 1 = 2 by decide))
           have c0 := b.at_ 0 _ rfl
           clear b
           refine .value W ?_ (Below.refl _ _)
           generalize hA : (puts ds L _).eval = ρ
           have h0 : ρ (.tmp 24) = .pointer (some ⟨g2, 0, none⟩) := pg 0 hA hap (by rw [hds]; rfl) (hd 0 (by decide +kernel) (alne rfl)) (show 24 < 44 by decide)
           clear hA hd hB ho hs ha hO
           unfold execOp
           go_simp
         · obtain rfl := Option.some.inj ho
           refine .value W ?_ (Below.refl _ _)
           generalize hA : (puts ds L _).eval = ρ
           have hc : ∀ v, ρ (.const v) = v := fun v => by rw [← hA]; rfl
           have h0 : ρ (.tmp 7) = .pointer (some ⟨g1, 0, none⟩) := (po hA (by rw [hds]; decide)).trans rfl
           have h1 : ρ (.tmp 25) = .int .i64 2 := pg 1 hA hap (by rw [hds]; rfl) (hd 1 (by decide +kernel) (alne rfl)) (show 25 < 44 by decide)
           clear hA hd hB ho hs ha hO
           unfold execOp
           go_simp
         · obtain rfl := Option.some.inj ho
           have b := hB 1 _ _ rfl (by
              intro st hst e
              rcases List.mem_singleton.1 hst with rfl
              · change needs _ _ 9 3 = true; decide +kernel)
           have c2 := b.at_ 2 _ rfl
           clear b
           refine .value W ?_ (Below.refl _ _)
           generalize hA : (puts ds L _).eval = ρ
           have h0 : ρ (.tmp 26) = .pointer (some ⟨g1, 2, none⟩) := pg 2 hA hap (by rw [hds]; rfl) (hd 2 (by decide +kernel) (alne rfl)) (show 26 < 44 by decide)
           clear hA hd hB ho hs ha hO
           unfold execOp
           go_simp
         · obtain rfl := Option.some.inj ho
           have b := hB 2 _ _ rfl (by
              intro st hst e
              rcases List.mem_singleton.1 hst with rfl
              · exact absurd e (show ¬ 1 = 2 by decide))
           have c0 := b.at_ 0 _ rfl
           have c1 := b.at_ 1 _ rfl
           have c2 := b.at_ 2 _ rfl
           have c3 := b.at_ 3 _ rfl
           have c4 := b.at_ 4 _ rfl
           clear b
           refine .value W ?_ (Below.refl _ _)
           generalize hA : (puts ds L _).eval = ρ
           have h0 : ρ (.tmp 9) = .pointer (some ⟨g2, 0, none⟩) := (po hA (by rw [hds]; decide)).trans rfl
           clear hA hd hB ho hs ha hO
           unfold execOp
           go_simp
         · obtain rfl := Option.some.inj ho
           refine .value W ?_ (Below.refl _ _)
           generalize hA : (puts ds L _).eval = ρ
           have hc : ∀ v, ρ (.const v) = v := fun v => by rw [← hA]; rfl
           have h0 : ρ (.tmp 1) = .float .f64 d := (po hA (by rw [hds]; decide)).trans rfl
           clear hA hd hB ho hs ha hO
           unfold execOp
           go_simp
         · obtain rfl := Option.some.inj ho
           refine .call 108 #[.agg #[.int .i64 2, .int .i64 pw, .float .f64 am, .float .f64 ph, .float .f64 rt], .float .f64 d] ?_ (CH.out W)
           generalize hA : (puts ds L _).eval = ρ
           have hg : ∀ g, ρ (.func g) = .func (.func g) #[] #[] := fun v => by rw [← hA]; rfl
           have h0 : ρ (.tmp 28) = .agg #[.int .i64 2, .int .i64 pw, .float .f64 am, .float .f64 ph, .float .f64 rt] := pg 4 hA hap (by rw [hds]; rfl) (hd 4 (by decide +kernel) (alne rfl)) (show 28 < 44 by decide)
           have h1 : ρ (.tmp 29) = .float .f64 d := pg 5 hA hap (by rw [hds]; rfl) (hd 5 (by decide +kernel) (alne rfl)) (show 29 < 44 by decide)
           have hf := Tryz.func108
           unfold execOp
           go_simp
         · obtain rfl := Option.some.inj ho
           refine .value W ?_ (Below.refl _ _)
           generalize hA : (puts ds L _).eval = ρ
           have hc : ∀ v, ρ (.const v) = v := fun v => by rw [← hA]; rfl
           have h0 : ρ (.tmp 27) = .float .f64 s3 := pg 3 hA hap (by rw [hds]; rfl) (hd 3 (by decide +kernel) (alne rfl)) (show 27 < 44 by decide)
           have h1 : ρ (.tmp 30) = .float .f64 x := pg 6 hA hap (by rw [hds]; rfl) (hd 6 (by decide +kernel) (alne rfl)) (show 30 < 44 by decide)
           clear hA hd hB ho hs ha hO
           have h9 := r3
           unfold execOp
           go_simp
         · obtain rfl := Option.some.inj ho
           refine .value W ?_ (Below.refl _ _)
           generalize hA : (puts ds L _).eval = ρ
           have hc : ∀ v, ρ (.const v) = v := fun v => by rw [← hA]; rfl
           have h0 : ρ (.tmp 7) = .pointer (some ⟨g1, 0, none⟩) := (po hA (by rw [hds]; decide)).trans rfl
           have h1 : ρ (.tmp 25) = .int .i64 2 := pg 1 hA hap (by rw [hds]; rfl) (hd 1 (by decide +kernel) (alne rfl)) (show 25 < 44 by decide)
           clear hA hd hB ho hs ha hO
           unfold execOp
           go_simp
         · exact absurd rfl (hs _ (List.mem_cons_self ..))
        case store =>
         intro st hst L W o h us ho hd hal hC b
         rcases List.mem_singleton.1 hst with rfl
         · dsimp only at ho hd hal hC b ⊢
           obtain rfl := Option.some.inj ho
           obtain ⟨hh, rfl⟩ := hC _ _ rfl
           replace hh := hh.symm
           subst hh
           have c0 := b.at_ 2 _ rfl
           have f0 := b.fr 2 _ rfl
           refine ⟨?_, rfl⟩
           generalize hA : (puts ds L _).eval = ρ
           have h0 : ρ (.tmp 32) = .pointer (some ⟨g1, 2, none⟩) := pg 8 hA hap (by rw [hds]; rfl) (hd 8 (by decide +kernel) (alne rfl)) (show 32 < 44 by decide)
           have h1 : ρ (.tmp 31) = .float .f64 (aX s3 x) := pg 7 hA hap (by rw [hds]; rfl) (hd 7 (by decide +kernel) (alne rfl)) (show 31 < 44 by decide)
           have hst' := @fstore
           clear hA hd b ho hal hC
           simp only [putV]
           unfold execOp
           go_simp
        case fin =>
         intro hf W0 K
         rw [hds]
         clear hds hap ds CH r3
         (try dsimp only at K)
         simp only [List.set_cons_zero, List.set_cons_succ, puts, Act.put, List.setIfInBounds_toArray]
         replace K := K.take 2
         simp only [List.take_succ_cons, List.take_zero] at K
         replace K := Lib.hid K
         go_wp2_with fail
         go_roundw
         case rel => exact ⟨i + 1, s1, s2, aX s3 x, by go_num, hlt, by have q := hR.out; rw [put_a2] at q; exact q, by have q := SP.out; rw [put_a2] at q; exact q, K.out⟩
         case measure => simp [intOf]; omega
    · obtain rfl : i = n := by omega
      have hv : (s1, s2, s3) = A := by
       rw [hn.out, List.drop_length] at hR
       exact hR
      subst hv
      dsimp only at *
      clear HH HF OK hS
      go_upto_region 10 with fail
      generalize hds : ([some 34, some 35, some 36, some 37, some 38, some 39, some 40, some 41, some 42, some 43, none, some 5] : List (Option Tmp)) = ds
      have hap : apartL ds = true := by rw [← hds]; decide
      replace hds := hds.symm
      refine wp_region_kv (fun hf => [some (w.heap.size, [.float .f64 (fnW s1), .float .f64 (fnW s2), .float .f64 (fnW s3)]), some (g1, [.float .f64 s1, .float .f64 s2, .float .f64 s3])]) (fun hf => [some (.pointer (some ⟨g1, 0, none⟩)), some (.float .f64 s1), some (.float .f64 (fnW s1)), some (.pointer (some ⟨g1, 1, none⟩)), some (.float .f64 s2), some (.float .f64 (fnW s2)), some (.pointer (some ⟨g1, 2, none⟩)), some (.float .f64 s3), some (.float .f64 (fnW s3)), some (.agg #[.float .f64 (fnW s1), .float .f64 (fnW s2), .float .f64 (fnW s3)]), some (undef), some (.int .i64 0)]) [] [⟨10, 0, 0, [.float .f64 (fnW s1), .float .f64 (fnW s2), .float .f64 (fnW s3)]⟩] [.pointer (some ⟨g1, 0, none⟩), .float .f64 s1, .float .f64 (fnW s1), .pointer (some ⟨g1, 1, none⟩), .float .f64 s2, .float .f64 (fnW s2), .pointer (some ⟨g1, 2, none⟩), .float .f64 s3, .float .f64 (fnW s3), .agg #[.float .f64 (fnW s1), .float .f64 (fnW s2), .float .f64 (fnW s3)], undef, .int .i64 0] ds (by kernel_rfl) (by rw [hds]; rfl) hap (by decide +kernel) (by decide +kernel) K ?ha ?haj ?hai ?hsi ?hss ?hsa ?hsw ?htg ?hE2 ?hE3 ?hE4 ?hL1 ?hL2 ?hL3 ?alloc ?step ?store ?fin
      case ha => intro al hal; cases hal
      case haj => intro al hal al' hal' e; cases hal
      case hai => intro al hal; cases hal
      case hsi => intro st hst st' hst' e; rcases List.mem_singleton.1 hst with rfl <;> (rcases List.mem_singleton.1 hst' with rfl) <;> first | rfl | (exfalso; revert e; simp)
      case hss =>
       intro st hst
       rcases List.mem_singleton.1 hst with rfl
       · show 10 < 12; decide
      case hsa =>
       intro st hst al hal
       cases hal
      case hsw =>
       intro st hst al hal e
       cases hal
      case htg =>
       intro st hst
       rcases List.mem_singleton.1 hst with rfl
       · exact .inl ⟨_, _, rfl, show 0 + 3 ≤ 3 by decide⟩
      case hE2 =>
       intro hf j h1 h2
       have n0 : 0 ≠ j := h1 _ (List.mem_cons_self ..)
       rcases j with _ | _ | j
       · exact absurd rfl n0
       · rfl
       · rfl
      case hE3 =>
       intro hf st hst g us e
       rcases List.mem_singleton.1 hst with rfl
       · obtain ⟨rfl, rfl⟩ := Prod.mk.inj (Option.some.inj (Option.some.inj e)); rfl
      case hE4 =>
       intro hf al hal
       cases hal
      case hL1 => intro hf; rfl
      case hL2 =>
       intro hf i hi hna
       have hi : i < 12 := hi
       have : i = 0 ∨ i = 1 ∨ i = 2 ∨ i = 3 ∨ i = 4 ∨ i = 5 ∨ i = 6 ∨ i = 7 ∨ i = 8 ∨ i = 9 ∨ i = 10 ∨ i = 11 := by omega
       rcases this with rfl | rfl | rfl | rfl | rfl | rfl | rfl | rfl | rfl | rfl | rfl | rfl
       · rfl
       · rfl
       · rfl
       · rfl
       · rfl
       · rfl
       · rfl
       · rfl
       · rfl
       · rfl
       · rfl
       · rfl
      case hL3 => intro hf al hal; cases hal
      case alloc =>
       intro al hal o ρ W ho
       cases hal
      case step =>
       intro L W i o ho hs ha hd hB hO
       have hi : i < 12 := (Array.getElem?_eq_some_iff.1 ho).1
       have : i = 0 ∨ i = 1 ∨ i = 2 ∨ i = 3 ∨ i = 4 ∨ i = 5 ∨ i = 6 ∨ i = 7 ∨ i = 8 ∨ i = 9 ∨ i = 10 ∨ i = 11 := by omega
       rcases this with rfl | rfl | rfl | rfl | rfl | rfl | rfl | rfl | rfl | rfl | rfl | rfl
       · obtain rfl := Option.some.inj ho
         refine .value W ?_ (Below.refl _ _)
         generalize hA : (puts ds L _).eval = ρ
         have hc : ∀ v, ρ (.const v) = v := fun v => by rw [← hA]; rfl
         have h0 : ρ (.tmp 7) = .pointer (some ⟨g1, 0, none⟩) := (po hA (by rw [hds]; decide)).trans rfl
         clear hA hd hB ho hs ha hO
         unfold execOp
         go_simp
       · obtain rfl := Option.some.inj ho
         have b := hB 1 _ _ rfl (by
          intro st hst e
          rcases List.mem_singleton.1 hst with rfl
          · exact absurd e (show ¬ 0 = 1 by decide))
         have c0 := b.at_ 0 _ rfl
         clear b
         refine .value W ?_ (Below.refl _ _)
         generalize hA : (puts ds L _).eval = ρ
         have h0 : ρ (.tmp 34) = .pointer (some ⟨g1, 0, none⟩) := pg 0 hA hap (by rw [hds]; rfl) (hd 0 (by decide +kernel) (alne rfl)) (show 34 < 44 by decide)
         clear hA hd hB ho hs ha hO
         unfold execOp
         go_simp
       · obtain rfl := Option.some.inj ho
         refine .call 109 #[.float .f64 s1] ?_ (B1.out W)
         generalize hA : (puts ds L _).eval = ρ
         have hg : ∀ g, ρ (.func g) = .func (.func g) #[] #[] := fun v => by rw [← hA]; rfl
         have h0 : ρ (.tmp 35) = .float .f64 s1 := pg 1 hA hap (by rw [hds]; rfl) (hd 1 (by decide +kernel) (alne rfl)) (show 35 < 44 by decide)
         have hf := Tryz.func109
         unfold execOp
         go_simp
       · obtain rfl := Option.some.inj ho
         refine .value W ?_ (Below.refl _ _)
         generalize hA : (puts ds L _).eval = ρ
         have hc : ∀ v, ρ (.const v) = v := fun v => by rw [← hA]; rfl
         have h0 : ρ (.tmp 7) = .pointer (some ⟨g1, 0, none⟩) := (po hA (by rw [hds]; decide)).trans rfl
         clear hA hd hB ho hs ha hO
         unfold execOp
         go_simp
       · obtain rfl := Option.some.inj ho
         have b := hB 1 _ _ rfl (by
          intro st hst e
          rcases List.mem_singleton.1 hst with rfl
          · exact absurd e (show ¬ 0 = 1 by decide))
         have c1 := b.at_ 1 _ rfl
         clear b
         refine .value W ?_ (Below.refl _ _)
         generalize hA : (puts ds L _).eval = ρ
         have h0 : ρ (.tmp 37) = .pointer (some ⟨g1, 1, none⟩) := pg 3 hA hap (by rw [hds]; rfl) (hd 3 (by decide +kernel) (alne rfl)) (show 37 < 44 by decide)
         clear hA hd hB ho hs ha hO
         unfold execOp
         go_simp
       · obtain rfl := Option.some.inj ho
         refine .call 109 #[.float .f64 s2] ?_ (B2.out W)
         generalize hA : (puts ds L _).eval = ρ
         have hg : ∀ g, ρ (.func g) = .func (.func g) #[] #[] := fun v => by rw [← hA]; rfl
         have h0 : ρ (.tmp 38) = .float .f64 s2 := pg 4 hA hap (by rw [hds]; rfl) (hd 4 (by decide +kernel) (alne rfl)) (show 38 < 44 by decide)
         have hf := Tryz.func109
         unfold execOp
         go_simp
       · obtain rfl := Option.some.inj ho
         refine .value W ?_ (Below.refl _ _)
         generalize hA : (puts ds L _).eval = ρ
         have hc : ∀ v, ρ (.const v) = v := fun v => by rw [← hA]; rfl
         have h0 : ρ (.tmp 7) = .pointer (some ⟨g1, 0, none⟩) := (po hA (by rw [hds]; decide)).trans rfl
         clear hA hd hB ho hs ha hO
         unfold execOp
         go_simp
       · obtain rfl := Option.some.inj ho
         have b := hB 1 _ _ rfl (by
          intro st hst e
          rcases List.mem_singleton.1 hst with rfl
          · exact absurd e (show ¬ 0 = 1 by decide))
         have c2 := b.at_ 2 _ rfl
         clear b
         refine .value W ?_ (Below.refl _ _)
         generalize hA : (puts ds L _).eval = ρ
         have h0 : ρ (.tmp 40) = .pointer (some ⟨g1, 2, none⟩) := pg 6 hA hap (by rw [hds]; rfl) (hd 6 (by decide +kernel) (alne rfl)) (show 40 < 44 by decide)
         clear hA hd hB ho hs ha hO
         unfold execOp
         go_simp
       · obtain rfl := Option.some.inj ho
         refine .call 109 #[.float .f64 s3] ?_ (B3.out W)
         generalize hA : (puts ds L _).eval = ρ
         have hg : ∀ g, ρ (.func g) = .func (.func g) #[] #[] := fun v => by rw [← hA]; rfl
         have h0 : ρ (.tmp 41) = .float .f64 s3 := pg 7 hA hap (by rw [hds]; rfl) (hd 7 (by decide +kernel) (alne rfl)) (show 41 < 44 by decide)
         have hf := Tryz.func109
         unfold execOp
         go_simp
       · obtain rfl := Option.some.inj ho
         refine .value W ?_ (Below.refl _ _)
         generalize hA : (puts ds L _).eval = ρ
         have hc : ∀ v, ρ (.const v) = v := fun v => by rw [← hA]; rfl
         have h0 : ρ (.tmp 36) = .float .f64 (fnW s1) := pg 2 hA hap (by rw [hds]; rfl) (hd 2 (by decide +kernel) (alne rfl)) (show 36 < 44 by decide)
         have h1 : ρ (.tmp 39) = .float .f64 (fnW s2) := pg 5 hA hap (by rw [hds]; rfl) (hd 5 (by decide +kernel) (alne rfl)) (show 39 < 44 by decide)
         have h2 : ρ (.tmp 42) = .float .f64 (fnW s3) := pg 8 hA hap (by rw [hds]; rfl) (hd 8 (by decide +kernel) (alne rfl)) (show 42 < 44 by decide)
         clear hA hd hB ho hs ha hO
         unfold execOp
         go_simp
       · exact absurd rfl (hs _ (List.mem_cons_self ..))
       · obtain rfl := Option.some.inj ho
         refine .value W ?_ (Below.refl _ _)
         generalize hA : (puts ds L _).eval = ρ
         have hc : ∀ v, ρ (.const v) = v := fun v => by rw [← hA]; rfl
         clear hA hd hB ho hs ha hO
         unfold execOp
         go_simp
      case store =>
       intro st hst L W o h us ho hd hal hC b
       rcases List.mem_singleton.1 hst with rfl
       · dsimp only at ho hd hal hC b ⊢
         obtain rfl := Option.some.inj ho
         obtain ⟨hh, rfl⟩ := hC _ _ rfl
         replace hh := hh.symm
         subst hh
         have c0 := b.at_ 0 _ rfl
         have f0 := b.fr 0 _ rfl
         have c1 := b.at_ 1 _ rfl
         have f1 := b.fr 1 _ rfl
         have c2 := b.at_ 2 _ rfl
         have f2 := b.fr 2 _ rfl
         refine ⟨?_, rfl⟩
         generalize hA : (puts ds L _).eval = ρ
         have h0 : ρ (.tmp 4) = .pointer (some ⟨w.heap.size, 0, none⟩) := (po hA (by rw [hds]; decide)).trans rfl
         have h1 : ρ (.tmp 43) = .agg #[.float .f64 (fnW s1), .float .f64 (fnW s2), .float .f64 (fnW s3)] := pg 9 hA hap (by rw [hds]; rfl) (hd 9 (by decide +kernel) (alne rfl)) (show 43 < 44 by decide)
         have hst' := @fstore
         clear hA hd b ho hal hC
         simp only [putV]
         unfold execOp
         go_simp
      case fin =>
       intro hf W0 K
       rw [hds]
       clear hds hap ds B1 B2 B3
       (try dsimp only at K)
       simp only [List.set_cons_zero, List.set_cons_succ, puts, Act.put, List.setIfInBounds_toArray]
       have c0_0 := (K.at_ 0 rfl).at_ 0 _ rfl
       have c0_1 := (K.at_ 0 rfl).at_ 1 _ rfl
       have c0_2 := (K.at_ 0 rfl).at_ 2 _ rfl
       replace K := Lib.hid K
       go_wp2_with fail
       (try simp only [Exit.inBlock, Exit.then])
       refine bodyPost_ret (v := .tuple #[.agg #[.float .f64 (fnW s1), .float .f64 (fnW s2), .float .f64 (fnW s3)], .int .i64 0]) ?_ rfl ⟨rfl, K.out.old⟩
       rw [results_cell_tmp rfl]; go_simp
 · rw [if_neg hr]
   obtain ⟨k, hk⟩ : ∃ k, k = readyV L (witB g24 d) := ⟨_, rfl⟩
   rw [← hk] at CR hr ⊢
   have tk : (k != 0) = true := by simpa using hr
   clear hk hn hm hW ha hd hr
   generalize witB g24 d = tb at *
   unfold vecE vecV z3
   dsimp only
   have K0 := kv1 w 41 [.float .f64 0, .float .f64 0, .float .f64 0]
   simp only [objV] at K0
   have hst := @fstore
   replace K0 := Lib.hid K0
   go_enter Tryz.func58, Tryz.ntmps58
   go_wp2_with (go_at_call 31; ((with_reducible refine (CT _).mono ?_); rintro e w' ⟨rfl, rfl⟩))
   have K := K0.out
   clear K0
   generalize w.alloc _ = wr at *
   refine (CR.out wr K.old).mono ?_
   rintro _ v1 ⟨rfl, hb⟩
   replace K := K.on hb
   clear hb CR CT
   have c0_0 := (K.at_ 0 rfl).at_ 0 _ rfl
   have f0_0 := (K.at_ 0 rfl).fr 0 _ rfl
   have c0_1 := (K.at_ 0 rfl).at_ 1 _ rfl
   have f0_1 := (K.at_ 0 rfl).fr 1 _ rfl
   have c0_2 := (K.at_ 0 rfl).at_ 2 _ rfl
   have f0_2 := (K.at_ 0 rfl).fr 2 _ rfl
   replace K := Lib.hid K
   go_wp2_with fail
   replace K := K.out
   (try simp only [Exit.inBlock, Exit.then])
   refine bodyPost_ret (v := .tuple #[.agg #[.float .f64 0, .float .f64 0, .float .f64 0], .int .i64 k]) ?_ rfl ⟨rfl, ?_⟩
   · rw [results_cell_tmp rfl]; go_simp
   · exact (((K.old).setCell (by first | exact Nat.le_refl _ | omega | (dsimp only; omega)) _).setCell (by first | exact Nat.le_refl _ | omega | (dsimp only; omega)) _).setCell (by first | exact Nat.le_refl _ | omega | (dsimp only; omega)) _
end Go.Proofs.YtacinenddnfcbaaGreat
