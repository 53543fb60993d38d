/- Proved here: what the texts Wvf prove, one behind the other. -/
import Derived.Test.YtgnofnjbmiepjaaGreatJw3

set_option maxHeartbeats 4000000
set_option maxRecDepth 100000
namespace Go.Proofs.YtgnofnjbmiepjaaGreat
open Go.ChangeShapes Go.WideShapes Go.ChangeAt Go.RowKit Ieee.Own Pol Fma

open Classical in
noncomputable def htP (f : Wv) (t : Pr) : Pr := if h : ∃ R, HtR f t R then h.choose else (0, 0)
theorem htP_eq {f : Wv} {t R : Pr} (h : HtR f t R) : htP f t = R := by
 have e : ∃ R, HtR f t R := ⟨R, h⟩
 unfold htP
 rw [dif_pos e]
 exact e.choose_spec.uniq h
open Classical in
noncomputable def adP (p q : Pr) : Pr := if h : ∃ u, AddR p q u then h.choose else (0, 0)
theorem adP_eq {p q u : Pr} (h : AddR p q u) : adP p q = u := by
 have e : ∃ u, AddR p q u := ⟨u, h⟩
 unfold adP
 rw [dif_pos e]
 exact e.choose_spec.uniq h
theorem ad_of {p q : Pr} {m : Nat} (hp : Sn p m) (hq : Sn q m) (hm : m + 1 < 190) : AddR p q (adP p q) ∧ Sn (adP p q) (m + 1) ∧ AddSp (ps p) (ps q) (ps (adP p q)) := by
 obtain ⟨u, a, b, c⟩ := add_step7 hp hq hm
 rw [adP_eq b]
 exact ⟨b, a, c⟩
noncomputable def putP (P : B6) (a : Int) (x : Pr) : B6 := if a = 0 then (adP P.1 x, P.2.1, P.2.2) else if a = 1 then (P.1, adP P.2.1 x, P.2.2) else (P.1, P.2.1, adP P.2.2 x)
def putQ (p : R3) (a : Int) (x : Rat) : R3 := if a = 0 then (p.1 + x, p.2.1, p.2.2) else if a = 1 then (p.1, p.2.1 + x, p.2.2) else (p.1, p.2.1, p.2.2 + x)
theorem put_p0 (P : B6) (x : Pr) : putP P 0 x = (adP P.1 x, P.2.1, P.2.2) := if_pos rfl
theorem put_p1 (P : B6) (x : Pr) : putP P 1 x = (P.1, adP P.2.1 x, P.2.2) := by unfold putP; rw [if_neg (by decide), if_pos rfl]
theorem put_p2 (P : B6) (x : Pr) : putP P 2 x = (P.1, P.2.1, adP P.2.2 x) := by unfold putP; rw [if_neg (by decide), if_neg (by decide)]
theorem up56 {p : Pr} {i : Nat} (h : Sn p (56 + i)) : Sn p (56 + (i + 1)) := h.le (by omega)
theorem putP_sn {P : B6} {i : Nat} (h : Sn3 P (56 + i)) (hi : i < 64) (a : Int) {x : Pr} (hx : Sn x 56) : Sn3 (putP P a x) (56 + (i + 1)) ∧ ∀ (p : R3) (y : Rat), InB p P → In y (ps x) → InB (putQ p a y) (putP P a x) := by
 have hx' := hx.le (n := 56 + i) (by omega)
 unfold putP putQ
 by_cases h0 : a = 0
 · simp only [if_pos h0]
   obtain ⟨-, b, c⟩ := ad_of h.x hx' (by omega)
   exact ⟨⟨b, up56 h.y, up56 h.z⟩, fun p y ip iy => ⟨In.add ip.1 iy c, ip.2.1, ip.2.2⟩⟩
 · simp only [if_neg h0]
   by_cases h1 : a = 1
   · simp only [if_pos h1]
     obtain ⟨-, b, c⟩ := ad_of h.y hx' (by omega)
     exact ⟨⟨up56 h.x, b, up56 h.z⟩, fun p y ip iy => ⟨ip.1, In.add ip.2.1 iy c, ip.2.2⟩⟩
   · simp only [if_neg h1]
     obtain ⟨-, b, c⟩ := ad_of h.z hx' (by omega)
     exact ⟨⟨up56 h.x, up56 h.y, b⟩, fun p y ip iy => ⟨ip.1, ip.2.1, In.add ip.2.2 iy c⟩⟩
noncomputable def boxF (t : Pr) : List Wv → B6 → B6
 | [], P => P
 | f :: L, P => boxF t L (putP P f.ax (htP f t))
theorem sn3_zero : Sn3 z6 56 := ⟨sn_zero.le (by omega), sn_zero.le (by omega), sn_zero.le (by omega)⟩
noncomputable def boxR12 (L : List Wv) (t : Pr) : B6 × Int := if readyV L (timB t) = 0 then (boxF t L z6, 0) else (z6, readyV L (timB t))
theorem wbox_run {L : List Wv} (ao : Option Addr) (cap n : Nat) (t : Pr) (w : World) (hn : n = L.length) (hm : n ≤ 4611686018427387904) (hW : WvsW L) (ha : VAt w ao L) (ht : W2 t) :
 Calls Tryz.prog 6 #[.slice ao n cap, pv t] w fun e w' => e = .returned (boxE (boxR12 L t).1 (boxR12 L t).2) ∧ Below w.heap.size w w' := by
 have CT' := Lib.hid (fun w => ftimes_run ht w)
 have CR : Hid (∀ W, Below w.heap.size w W → Calls Tryz.prog 12 #[.slice ao n cap, .bool (timB t)] W fun e w' => e = .returned (.int .i64 (readyV L (timB t))) ∧ Below W.heap.size W w') :=
  Lib.hid fun W hb => wready_run ao cap n L (timB t) W hn hm hW (ha.below (fun b o e h => ha.lt b o e h) hb)
 unfold boxR12
 have hst := @fstore
 by_cases hr : readyV L (timB t) = 0
 · rw [if_pos hr]
   rw [hr] at CR
   obtain ⟨c0, tt⟩ := readyV_zero hr
   have OK := Lib.hid (wvs_ok hW c0)
   have hl := (chkV_zero c0).1
   obtain ⟨A, hA⟩ : ∃ A, A = boxF t L z6 := ⟨_, rfl⟩
   rw [← hA]
   have R0 : boxF t (L.drop 0) ((0, 0), (0, 0), (0, 0)) = A := hA.symm
   have HH : Hid (∀ f ∈ L, Sn (htP f t) 56 ∧ ∀ w, Calls Tryz.prog 15 #[wvV f, pv t] w fun e w' => e = .returned (pv (htP f t)) ∧ Below w.heap.size w w') := Lib.hid fun f hf => by
    obtain ⟨R, hR, nR, -, C⟩ := heights_ex (OK.out f hf) ht tt
    rw [htP_eq hR]; exact ⟨nR, C⟩
   rw [tt] at CT' CR
   clear hA hr c0 hW tt
   have hnl : n ≤ 32 := by omega
   clear hl
   replace ha := Lib.hid ha
   replace hn := Lib.hid hn
   replace R0 := Lib.hid R0
   have CT := CT'
   clear CT'
   obtain ⟨t1, t2⟩ := t
   unfold boxE boxV pv spanV at *
   dsimp only at *
   have K0 := kv2 w 25 29 [.float .f64 t1, .float .f64 t2] [.float .f64 0, .float .f64 0, .float .f64 0, .float .f64 0, .float .f64 0, .float .f64 0]
   simp only [objV] at K0
   have hst := @fstore
   replace K0 := Lib.hid K0
   go_enter Tryz.func6, Tryz.ntmps6
   go_wp2_with fail
   have K := K0.out
   clear K0
   generalize (w.alloc _).alloc _ = wr at *
   refine (CT.out wr).mono ?_
   rintro _ v0 ⟨rfl, hb⟩
   replace K := K.on hb
   clear hb CT
   replace K := Lib.hid K
   go_wp2_with fail
   replace K := K.out
   refine (CR.out v0 K.old).mono ?_
   rintro _ v1 ⟨rfl, hb⟩
   replace K := K.on hb
   clear hb CR
   replace K := K.new 45 [.float .f64 0, .float .f64 0, .float .f64 0, .float .f64 0, .float .f64 0, .float .f64 0]
   simp only [objV, List.cons_append, List.nil_append] at K
   replace K := Lib.hid K
   go_wp2_with fail
   replace K := K.out
   generalize v1.alloc _ = wl at *
   generalize v1.heap.size = g1 at *
   go_loopw [20] (fun iv wr => ∃ i s1 s2 s3 s4 s5 s6 : Nat, iv = .int .i64 i ∧ i ≤ n ∧ boxF (t1, t2) (L.drop i) ((s1, s2), (s3, s4), (s5, s6)) = A ∧ Sn3 ((s1, s2), (s3, s4), (s5, s6)) (56 + i) ∧ Kv w [some (w.heap.size, [.float .f64 t1, .float .f64 t2]), some (w.heap.size + 1, [.float .f64 0, .float .f64 0, .float .f64 0, .float .f64 0, .float .f64 0, .float .f64 0]), some (g1, [.float .f64 s1, .float .f64 s2, .float .f64 s3, .float .f64 s4, .float .f64 s5, .float .f64 s6])] wr) (fun iv _ => n - (intOf iv).toNat)
   case atStart => exact ⟨0, 0, 0, 0, 0, 0, 0, rfl, Nat.zero_le _, R0.out, sn3_zero, K⟩
   case round =>
    obtain ⟨i, s1, s2, s3, s4, s5, s6, rfl, hi, hR, hS, K⟩ := hrel
    by_cases hlt : i < n
    · have hil : i < L.length := by have := hn.out; omega
      obtain ⟨b, o, rfl, hbl, c0, c1, c2, c3, c4⟩ := VAt.cells (ha.out.below (fun b o e _ => ha.out.lt b o e (by simp; omega)) K.old) hil
      have fm := wv_mem hil
      obtain ⟨nH, CH'⟩ := HH.out _ fm
      have O := OK.out _ fm
      rw [wv_drop hil] at hR
      unfold boxF at hR
      have a3 : (wvAt L i).ax = 0 ∨ (wvAt L i).ax = 1 ∨ (wvAt L i).ax = 2 := by have h1 := O.ax0; have h2 := O.ax1; omega
      have SP := (putP_sn hS (by omega) (wvAt L i).ax nH).1
      have nH' := nH.le (n := 56 + i) (by omega)
      have A1 := Lib.hid (fun w => wadd_run hS.x.w2 nH.w2 (ad_of hS.x nH' (by omega)).1 w)
      have A2 := Lib.hid (fun w => wadd_run hS.y.w2 nH.w2 (ad_of hS.y nH' (by omega)).1 w)
      have A3 := Lib.hid (fun w => wadd_run hS.z.w2 nH.w2 (ad_of hS.z nH' (by omega)).1 w)
      clear O fm hbl nH nH' hS
      generalize htP (wvAt L i) (t1, t2) = x at *
      generalize wvAt L i = f at *
      obtain ⟨ax, pw, am, ph, rt⟩ := f
      obtain ⟨x1, x2⟩ := x
      unfold wvV at CH'
      dsimp only at *
      have CH := Lib.hid CH'
      clear CH'
      replace K := K.new 41 [.int .i64 ax, .int .i64 pw, .float .f64 am, .float .f64 ph, .float .f64 rt]
      simp only [objV, List.cons_append, List.nil_append] at K
      replace hR := Lib.hid hR
      replace SP := Lib.hid SP
      have d3_0 := (K.at_ 3 rfl).at_ 0 _ rfl
      have d3_1 := (K.at_ 3 rfl).at_ 1 _ rfl
      have d3_2 := (K.at_ 3 rfl).at_ 2 _ rfl
      have d3_3 := (K.at_ 3 rfl).at_ 3 _ rfl
      have d3_4 := (K.at_ 3 rfl).at_ 4 _ rfl
      replace K := Lib.hid K
      rcases a3 with rfl | rfl | rfl
      · generalize hN : adP (s1, s2) (x1, x2) = N at *
        obtain ⟨n1, n2⟩ := N
        replace hN := Lib.hid hN
        clear A2 A3
        unfold pv spanV at A1
        dsimp only at A1
        go_upto_region 8 with fail
        replace K := K.out
        clear c0 c1 c2 c3 c4 d3_0 d3_1 d3_2 d3_3 d3_4
        generalize wr.alloc _ = wq at *
        generalize wr.heap.size = g2 at *
        generalize hds : ([some 24, some 25, some 26, some 27, some 28, some 29, some 30, some 31, some 32, some 33, some 34, none] : List (Option Tmp)) = ds
        have hap : apartL ds = true := by rw [← hds]; decide
        replace hds := hds.symm
        refine wp_region_kv (fun hf => [some (w.heap.size, [.float .f64 t1, .float .f64 t2]), some (w.heap.size + 1, [.float .f64 0, .float .f64 0, .float .f64 0, .float .f64 0, .float .f64 0, .float .f64 0]), some (g1, [.float .f64 n1, .float .f64 n2, .float .f64 s3, .float .f64 s4, .float .f64 s5, .float .f64 s6]), some (g2, [.int .i64 0, .int .i64 pw, .float .f64 am, .float .f64 ph, .float .f64 rt])]) (fun hf => [some (.pointer (some ⟨g2, 0, none⟩)), some (.int .i64 0), some (.pointer (some ⟨g2, 0, none⟩)), some (.int .i64 0), some (.pointer (some ⟨g1, 0, none⟩)), some (.agg #[.float .f64 s1, .float .f64 s2]), some (.agg #[.int .i64 0, .int .i64 pw, .float .f64 am, .float .f64 ph, .float .f64 rt]), some (.agg #[.float .f64 t1, .float .f64 t2]), some (.agg #[.float .f64 x1, .float .f64 x2]), some (.agg #[.float .f64 n1, .float .f64 n2]), some (.pointer (some ⟨g1, 0, none⟩)), some (undef)]) [] [⟨11, 2, 0, [.float .f64 n1, .float .f64 n2]⟩] [.pointer (some ⟨g2, 0, none⟩), .int .i64 0, .pointer (some ⟨g2, 0, none⟩), .int .i64 0, .pointer (some ⟨g1, 0, none⟩), .agg #[.float .f64 s1, .float .f64 s2], .agg #[.int .i64 0, .int .i64 pw, .float .f64 am, .float .f64 ph, .float .f64 rt], .agg #[.float .f64 t1, .float .f64 t2], .agg #[.float .f64 x1, .float .f64 x2], .agg #[.float .f64 n1, .float .f64 n2], .pointer (some ⟨g1, 0, none⟩), undef] ds (by kernel_rfl) (by rw [hds]; rfl) hap (by decide +kernel) (by decide +kernel) K ?ha ?haj ?hai ?hsi ?hss ?hsa ?hsw ?htg ?hE2 ?hE3 ?hE4 ?hL1 ?hL2 ?hL3 ?alloc ?step ?store ?fin
        case ha => intro al hal; cases hal
        case haj => intro al hal al' hal' e; cases hal
        case hai => intro al hal; cases hal
        case hsi => intro st hst st' hst' e; rcases List.mem_singleton.1 hst with rfl <;> (rcases List.mem_singleton.1 hst' with rfl) <;> first | rfl | (exfalso; revert e; simp)
        case hss =>
         intro st hst
         rcases List.mem_singleton.1 hst with rfl
         · show 11 < 12; decide
        case hsa =>
         intro st hst al hal
         cases hal
        case hsw =>
         intro st hst al hal e
         cases hal
        case htg =>
         intro st hst
         rcases List.mem_singleton.1 hst with rfl
         · exact .inl ⟨_, _, rfl, show 0 + 2 ≤ 6 by decide⟩
        case hE2 =>
         intro hf j h1 h2
         have n2 : 2 ≠ j := h1 _ (List.mem_cons_self ..)
         rcases j with _ | _ | _ | _ | j
         · rfl
         · rfl
         · exact absurd rfl n2
         · rfl
         · rfl
        case hE3 =>
         intro hf st hst g us e
         rcases List.mem_singleton.1 hst with rfl
         · obtain ⟨rfl, rfl⟩ := Prod.mk.inj (Option.some.inj (Option.some.inj e)); rfl
        case hE4 =>
         intro hf al hal
         cases hal
        case hL1 => intro hf; rfl
        case hL2 =>
         intro hf i hi hna
         have hi : i < 12 := hi
         have : i = 0 ∨ i = 1 ∨ i = 2 ∨ i = 3 ∨ i = 4 ∨ i = 5 ∨ i = 6 ∨ i = 7 ∨ i = 8 ∨ i = 9 ∨ i = 10 ∨ i = 11 := by omega
         rcases this with rfl | rfl | rfl | rfl | rfl | rfl | rfl | rfl | rfl | rfl | rfl | rfl
         · rfl
         · rfl
         · rfl
         · rfl
         · rfl
         · rfl
         · rfl
         · rfl
         · rfl
         · rfl
         · rfl
         · rfl
        case hL3 => intro hf al hal; cases hal
        case alloc =>
         intro al hal o ρ W ho
         cases hal
        case step =>
         intro L W i o ho hs ha hd hB hO
         have hi : i < 12 := (Array.getElem?_eq_some_iff.1 ho).1
         have : i = 0 ∨ i = 1 ∨ i = 2 ∨ i = 3 ∨ i = 4 ∨ i = 5 ∨ i = 6 ∨ i = 7 ∨ i = 8 ∨ i = 9 ∨ i = 10 ∨ i = 11 := by omega
         rcases this with rfl | rfl | rfl | rfl | rfl | rfl | rfl | rfl | rfl | rfl | rfl | rfl
         · obtain rfl := Option.some.inj ho
           refine .value W ?_ (Below.refl _ _)
           generalize hA : (puts ds L _).eval = ρ
           have hc : ∀ v, ρ (.const v) = v := fun v => by rw [← hA]; rfl
           have h0 : ρ (.tmp 9) = .pointer (some ⟨g2, 0, none⟩) := (po hA (by rw [hds]; decide)).trans rfl
           clear hA hd hB ho hs ha hO
           unfold execOp
           go_simp
         · obtain rfl := Option.some.inj ho
           have b := hB 3 _ _ rfl (by
            intro st hst e
            rcases List.mem_singleton.1 hst with rfl
            · exact absurd e (show ¬ 2 = 3 by decide))
           have c0 := b.at_ 0 _ rfl
           clear b
           refine .value W ?_ (Below.refl _ _)
           generalize hA : (puts ds L _).eval = ρ
           have h0 : ρ (.tmp 24) = .pointer (some ⟨g2, 0, none⟩) := pg 0 hA hap (by rw [hds]; rfl) (hd 0 (by decide +kernel) (alne rfl)) (show 24 < 43 by decide)
           clear hA hd hB ho hs ha hO
           unfold execOp
           go_simp
         · obtain rfl := Option.some.inj ho
           refine .value W ?_ (Below.refl _ _)
           generalize hA : (puts ds L _).eval = ρ
           have hc : ∀ v, ρ (.const v) = v := fun v => by rw [← hA]; rfl
           have h0 : ρ (.tmp 9) = .pointer (some ⟨g2, 0, none⟩) := (po hA (by rw [hds]; decide)).trans rfl
           clear hA hd hB ho hs ha hO
           unfold execOp
           go_simp
         · obtain rfl := Option.some.inj ho
           have b := hB 3 _ _ rfl (by
            intro st hst e
            rcases List.mem_singleton.1 hst with rfl
            · exact absurd e (show ¬ 2 = 3 by decide))
           have c0 := b.at_ 0 _ rfl
           clear b
           refine .value W ?_ (Below.refl _ _)
           generalize hA : (puts ds L _).eval = ρ
           have h0 : ρ (.tmp 26) = .pointer (some ⟨g2, 0, none⟩) := pg 2 hA hap (by rw [hds]; rfl) (hd 2 (by decide +kernel) (alne rfl)) (show 26 < 43 by decide)
           clear hA hd hB ho hs ha hO
           unfold execOp
           go_simp
         · obtain rfl := Option.some.inj ho
           refine .value W ?_ (Below.refl _ _)
           generalize hA : (puts ds L _).eval = ρ
           have hc : ∀ v, ρ (.const v) = v := fun v => by rw [← hA]; rfl
           have h0 : ρ (.tmp 7) = .pointer (some ⟨g1, 0, none⟩) := (po hA (by rw [hds]; decide)).trans rfl
           have h1 : ρ (.tmp 27) = .int .i64 0 := pg 3 hA hap (by rw [hds]; rfl) (hd 3 (by decide +kernel) (alne rfl)) (show 27 < 43 by decide)
           clear hA hd hB ho hs ha hO
           unfold execOp
           go_simp
         · obtain rfl := Option.some.inj ho
           have b := hB 2 _ _ rfl (by
            intro st hst e
            rcases List.mem_singleton.1 hst with rfl
            · change needs _ _ 11 5 = true; decide +kernel)
           have c0 := b.at_ 0 _ rfl
           have c1 := b.at_ 1 _ rfl
           clear b
           refine .value W ?_ (Below.refl _ _)
           generalize hA : (puts ds L _).eval = ρ
           have h0 : ρ (.tmp 28) = .pointer (some ⟨g1, 0, none⟩) := pg 4 hA hap (by rw [hds]; rfl) (hd 4 (by decide +kernel) (alne rfl)) (show 28 < 43 by decide)
           clear hA hd hB ho hs ha hO
           unfold execOp
           go_simp
         · obtain rfl := Option.some.inj ho
           have b := hB 3 _ _ rfl (by
            intro st hst e
            rcases List.mem_singleton.1 hst with rfl
            · exact absurd e (show ¬ 2 = 3 by decide))
           have c0 := b.at_ 0 _ rfl
           have c1 := b.at_ 1 _ rfl
           have c2 := b.at_ 2 _ rfl
           have c3 := b.at_ 3 _ rfl
           have c4 := b.at_ 4 _ rfl
           clear b
           refine .value W ?_ (Below.refl _ _)
           generalize hA : (puts ds L _).eval = ρ
           have h0 : ρ (.tmp 9) = .pointer (some ⟨g2, 0, none⟩) := (po hA (by rw [hds]; decide)).trans rfl
           clear hA hd hB ho hs ha hO
           unfold execOp
           go_simp
         · obtain rfl := Option.some.inj ho
           have b := hB 0 _ _ rfl (by
            intro st hst e
            rcases List.mem_singleton.1 hst with rfl
            · exact absurd e (show ¬ 2 = 0 by decide))
           have c0 := b.at_ 0 _ rfl
           have c1 := b.at_ 1 _ rfl
           clear b
           refine .value W ?_ (Below.refl _ _)
           generalize hA : (puts ds L _).eval = ρ
           have h0 : ρ (.tmp 3) = .pointer (some ⟨w.heap.size, 0, none⟩) := (po hA (by rw [hds]; decide)).trans rfl
           clear hA hd hB ho hs ha hO
           unfold execOp
           go_simp
         · obtain rfl := Option.some.inj ho
           refine .call 15 #[.agg #[.int .i64 0, .int .i64 pw, .float .f64 am, .float .f64 ph, .float .f64 rt], .agg #[.float .f64 t1, .float .f64 t2]] ?_ (CH.out W)
           generalize hA : (puts ds L _).eval = ρ
           have hg : ∀ g, ρ (.func g) = .func (.func g) #[] #[] := fun v => by rw [← hA]; rfl
           have h0 : ρ (.tmp 30) = .agg #[.int .i64 0, .int .i64 pw, .float .f64 am, .float .f64 ph, .float .f64 rt] := pg 6 hA hap (by rw [hds]; rfl) (hd 6 (by decide +kernel) (alne rfl)) (show 30 < 43 by decide)
           have h1 : ρ (.tmp 31) = .agg #[.float .f64 t1, .float .f64 t2] := pg 7 hA hap (by rw [hds]; rfl) (hd 7 (by decide +kernel) (alne rfl)) (show 31 < 43 by decide)
           have hf := Tryz.func15
           unfold execOp
           go_simp
         · obtain rfl := Option.some.inj ho
           refine .call 14 #[.agg #[.float .f64 s1, .float .f64 s2], .agg #[.float .f64 x1, .float .f64 x2]] ?_ (A1.out W)
           generalize hA : (puts ds L _).eval = ρ
           have hg : ∀ g, ρ (.func g) = .func (.func g) #[] #[] := fun v => by rw [← hA]; rfl
           have h0 : ρ (.tmp 29) = .agg #[.float .f64 s1, .float .f64 s2] := pg 5 hA hap (by rw [hds]; rfl) (hd 5 (by decide +kernel) (alne rfl)) (show 29 < 43 by decide)
           have h1 : ρ (.tmp 32) = .agg #[.float .f64 x1, .float .f64 x2] := pg 8 hA hap (by rw [hds]; rfl) (hd 8 (by decide +kernel) (alne rfl)) (show 32 < 43 by decide)
           have hf := Tryz.func14
           unfold execOp
           go_simp
         · obtain rfl := Option.some.inj ho
           refine .value W ?_ (Below.refl _ _)
           generalize hA : (puts ds L _).eval = ρ
           have hc : ∀ v, ρ (.const v) = v := fun v => by rw [← hA]; rfl
           have h0 : ρ (.tmp 7) = .pointer (some ⟨g1, 0, none⟩) := (po hA (by rw [hds]; decide)).trans rfl
           have h1 : ρ (.tmp 25) = .int .i64 0 := pg 1 hA hap (by rw [hds]; rfl) (hd 1 (by decide +kernel) (alne rfl)) (show 25 < 43 by decide)
           clear hA hd hB ho hs ha hO
           unfold execOp
           go_simp
         · exact absurd rfl (hs _ (List.mem_cons_self ..))
        case store =>
         intro st hst L W o h us ho hd hal hC b
         rcases List.mem_singleton.1 hst with rfl
         · dsimp only at ho hd hal hC b ⊢
           obtain rfl := Option.some.inj ho
           obtain ⟨hh, rfl⟩ := hC _ _ rfl
           replace hh := hh.symm
           subst hh
           have c0 := b.at_ 0 _ rfl
           have f0 := b.fr 0 _ rfl
           have c1 := b.at_ 1 _ rfl
           have f1 := b.fr 1 _ rfl
           refine ⟨?_, rfl⟩
           generalize hA : (puts ds L _).eval = ρ
           have h0 : ρ (.tmp 34) = .pointer (some ⟨g1, 0, none⟩) := pg 10 hA hap (by rw [hds]; rfl) (hd 10 (by decide +kernel) (alne rfl)) (show 34 < 43 by decide)
           have h1 : ρ (.tmp 33) = .agg #[.float .f64 n1, .float .f64 n2] := pg 9 hA hap (by rw [hds]; rfl) (hd 9 (by decide +kernel) (alne rfl)) (show 33 < 43 by decide)
           have hst' := @fstore
           clear hA hd b ho hal hC
           simp only [putV]
           unfold execOp
           go_simp
        case fin =>
         intro hf W0 K
         rw [hds]
         clear hds hap ds CH A1
         (try dsimp only at K)
         simp only [List.set_cons_zero, List.set_cons_succ, puts, Act.put, List.setIfInBounds_toArray]
         replace K := K.take 3
         simp only [List.take_succ_cons, List.take_zero] at K
         replace K := Lib.hid K
         go_wp2_with fail
         go_roundw
         case rel => exact ⟨i + 1, n1, n2, s3, s4, s5, s6, by go_num, hlt, by have q := hR.out; rw [put_p0] at q; dsimp only at q; rw [hN.out] at q; exact q, by have q := SP.out; rw [put_p0] at q; dsimp only at q; rw [hN.out] at q; exact q, K.out⟩
         case measure => simp [intOf]; omega
      · generalize hN : adP (s3, s4) (x1, x2) = N at *
        obtain ⟨n1, n2⟩ := N
        replace hN := Lib.hid hN
        clear A1 A3
        unfold pv spanV at A2
        dsimp only at A2
        go_upto_region 8 with fail
        replace K := K.out
        clear c0 c1 c2 c3 c4 d3_0 d3_1 d3_2 d3_3 d3_4
        generalize wr.alloc _ = wq at *
        generalize wr.heap.size = g2 at *
        generalize hds : ([some 24, some 25, some 26, some 27, some 28, some 29, some 30, some 31, some 32, some 33, some 34, none] : List (Option Tmp)) = ds
        have hap : apartL ds = true := by rw [← hds]; decide
        replace hds := hds.symm
        refine wp_region_kv (fun hf => [some (w.heap.size, [.float .f64 t1, .float .f64 t2]), some (w.heap.size + 1, [.float .f64 0, .float .f64 0, .float .f64 0, .float .f64 0, .float .f64 0, .float .f64 0]), some (g1, [.float .f64 s1, .float .f64 s2, .float .f64 n1, .float .f64 n2, .float .f64 s5, .float .f64 s6]), some (g2, [.int .i64 1, .int .i64 pw, .float .f64 am, .float .f64 ph, .float .f64 rt])]) (fun hf => [some (.pointer (some ⟨g2, 0, none⟩)), some (.int .i64 1), some (.pointer (some ⟨g2, 0, none⟩)), some (.int .i64 1), some (.pointer (some ⟨g1, 2, none⟩)), some (.agg #[.float .f64 s3, .float .f64 s4]), some (.agg #[.int .i64 1, .int .i64 pw, .float .f64 am, .float .f64 ph, .float .f64 rt]), some (.agg #[.float .f64 t1, .float .f64 t2]), some (.agg #[.float .f64 x1, .float .f64 x2]), some (.agg #[.float .f64 n1, .float .f64 n2]), some (.pointer (some ⟨g1, 2, none⟩)), some (undef)]) [] [⟨11, 2, 2, [.float .f64 n1, .float .f64 n2]⟩] [.pointer (some ⟨g2, 0, none⟩), .int .i64 1, .pointer (some ⟨g2, 0, none⟩), .int .i64 1, .pointer (some ⟨g1, 2, none⟩), .agg #[.float .f64 s3, .float .f64 s4], .agg #[.int .i64 1, .int .i64 pw, .float .f64 am, .float .f64 ph, .float .f64 rt], .agg #[.float .f64 t1, .float .f64 t2], .agg #[.float .f64 x1, .float .f64 x2], .agg #[.float .f64 n1, .float .f64 n2], .pointer (some ⟨g1, 2, none⟩), undef] ds (by kernel_rfl) (by rw [hds]; rfl) hap (by decide +kernel) (by decide +kernel) K ?ha ?haj ?hai ?hsi ?hss ?hsa ?hsw ?htg ?hE2 ?hE3 ?hE4 ?hL1 ?hL2 ?hL3 ?alloc ?step ?store ?fin
        case ha => intro al hal; cases hal
        case haj => intro al hal al' hal' e; cases hal
        case hai => intro al hal; cases hal
        case hsi => intro st hst st' hst' e; rcases List.mem_singleton.1 hst with rfl <;> (rcases List.mem_singleton.1 hst' with rfl) <;> first | rfl | (exfalso; revert e; simp)
        case hss =>
         intro st hst
         rcases List.mem_singleton.1 hst with rfl
         · show 11 < 12; decide
        case hsa =>
         intro st hst al hal
         cases hal
        case hsw =>
         intro st hst al hal e
         cases hal
        case htg =>
         intro st hst
         rcases List.mem_singleton.1 hst with rfl
         · exact .inl ⟨_, _, rfl, show 2 + 2 ≤ 6 by decide⟩
        case hE2 =>
         intro hf j h1 h2
         have n2 : 2 ≠ j := h1 _ (List.mem_cons_self ..)
         rcases j with _ | _ | _ | _ | j
         · rfl
         · rfl
         · exact absurd rfl n2
         · rfl
         · rfl
        case hE3 =>
         intro hf st hst g us e
         rcases List.mem_singleton.1 hst with rfl
         · obtain ⟨rfl, rfl⟩ := Prod.mk.inj (Option.some.inj (Option.some.inj e)); rfl
        case hE4 =>
         intro hf al hal
         cases hal
        case hL1 => intro hf; rfl
        case hL2 =>
         intro hf i hi hna
         have hi : i < 12 := hi
         have : i = 0 ∨ i = 1 ∨ i = 2 ∨ i = 3 ∨ i = 4 ∨ i = 5 ∨ i = 6 ∨ i = 7 ∨ i = 8 ∨ i = 9 ∨ i = 10 ∨ i = 11 := by omega
         rcases this with rfl | rfl | rfl | rfl | rfl | rfl | rfl | rfl | rfl | rfl | rfl | rfl
         · rfl
         · rfl
         · rfl
         · rfl
         · rfl
         · rfl
         · rfl
         · rfl
         · rfl
         · rfl
         · rfl
         · rfl
        case hL3 => intro hf al hal; cases hal
        case alloc =>
         intro al hal o ρ W ho
         cases hal
        case step =>
         intro L W i o ho hs ha hd hB hO
         have hi : i < 12 := (Array.getElem?_eq_some_iff.1 ho).1
         have : i = 0 ∨ i = 1 ∨ i = 2 ∨ i = 3 ∨ i = 4 ∨ i = 5 ∨ i = 6 ∨ i = 7 ∨ i = 8 ∨ i = 9 ∨ i = 10 ∨ i = 11 := by omega
         rcases this with rfl | rfl | rfl | rfl | rfl | rfl | rfl | rfl | rfl | rfl | rfl | rfl
         · obtain rfl := Option.some.inj ho
           refine .value W ?_ (Below.refl _ _)
           generalize hA : (puts ds L _).eval = ρ
           have hc : ∀ v, ρ (.const v) = v := fun v => by rw [← hA]; rfl
           have h0 : ρ (.tmp 9) = .pointer (some ⟨g2, 0, none⟩) := (po hA (by rw [hds]; decide)).trans rfl
           clear hA hd hB ho hs ha hO
           unfold execOp
           go_simp
         · obtain rfl := Option.some.inj ho
           have b := hB 3 _ _ rfl (by
            intro st hst e
            rcases List.mem_singleton.1 hst with rfl
            · exact absurd e (show ¬ 2 = 3 by decide))
           have c0 := b.at_ 0 _ rfl
           clear b
           refine .value W ?_ (Below.refl _ _)
           generalize hA : (puts ds L _).eval = ρ
           have h0 : ρ (.tmp 24) = .pointer (some ⟨g2, 0, none⟩) := pg 0 hA hap (by rw [hds]; rfl) (hd 0 (by decide +kernel) (alne rfl)) (show 24 < 43 by decide)
           clear hA hd hB ho hs ha hO
           unfold execOp
           go_simp
         · obtain rfl := Option.some.inj ho
           refine .value W ?_ (Below.refl _ _)
           generalize hA : (puts ds L _).eval = ρ
           have hc : ∀ v, ρ (.const v) = v := fun v => by rw [← hA]; rfl
           have h0 : ρ (.tmp 9) = .pointer (some ⟨g2, 0, none⟩) := (po hA (by rw [hds]; decide)).trans rfl
           clear hA hd hB ho hs ha hO
           unfold execOp
           go_simp
         · obtain rfl := Option.some.inj ho
           have b := hB 3 _ _ rfl (by
            intro st hst e
            rcases List.mem_singleton.1 hst with rfl
            · exact absurd e (show ¬ 2 = 3 by decide))
           have c0 := b.at_ 0 _ rfl
           clear b
           refine .value W ?_ (Below.refl _ _)
           generalize hA : (puts ds L _).eval = ρ
           have h0 : ρ (.tmp 26) = .pointer (some ⟨g2, 0, none⟩) := pg 2 hA hap (by rw [hds]; rfl) (hd 2 (by decide +kernel) (alne rfl)) (show 26 < 43 by decide)
           clear hA hd hB ho hs ha hO
           unfold execOp
           go_simp
         · obtain rfl := Option.some.inj ho
           refine .value W ?_ (Below.refl _ _)
           generalize hA : (puts ds L _).eval = ρ
           have hc : ∀ v, ρ (.const v) = v := fun v => by rw [← hA]; rfl
           have h0 : ρ (.tmp 7) = .pointer (some ⟨g1, 0, none⟩) := (po hA (by rw [hds]; decide)).trans rfl
           have h1 : ρ (.tmp 27) = .int .i64 1 := pg 3 hA hap (by rw [hds]; rfl) (hd 3 (by decide +kernel) (alne rfl)) (show 27 < 43 by decide)
           clear hA hd hB ho hs ha hO
           unfold execOp
           go_simp
         · obtain rfl := Option.some.inj ho
           have b := hB 2 _ _ rfl (by
            intro st hst e
            rcases List.mem_singleton.1 hst with rfl
            · change needs _ _ 11 5 = true; decide +kernel)
           have c2 := b.at_ 2 _ rfl
           have c3 := b.at_ 3 _ rfl
           clear b
           refine .value W ?_ (Below.refl _ _)
           generalize hA : (puts ds L _).eval = ρ
           have h0 : ρ (.tmp 28) = .pointer (some ⟨g1, 2, none⟩) := pg 4 hA hap (by rw [hds]; rfl) (hd 4 (by decide +kernel) (alne rfl)) (show 28 < 43 by decide)
           clear hA hd hB ho hs ha hO
           unfold execOp
           go_simp
         · obtain rfl := Option.some.inj ho
           have b := hB 3 _ _ rfl (by
            intro st hst e
            rcases List.mem_singleton.1 hst with rfl
            · exact absurd e (show ¬ 2 = 3 by decide))
           have c0 := b.at_ 0 _ rfl
           have c1 := b.at_ 1 _ rfl
           have c2 := b.at_ 2 _ rfl
           have c3 := b.at_ 3 _ rfl
           have c4 := b.at_ 4 _ rfl
           clear b
           refine .value W ?_ (Below.refl _ _)
           generalize hA : (puts ds L _).eval = ρ
           have h0 : ρ (.tmp 9) = .pointer (some ⟨g2, 0, none⟩) := (po hA (by rw [hds]; decide)).trans rfl
           clear hA hd hB ho hs ha hO
           unfold execOp
           go_simp
         · obtain rfl := Option.some.inj ho
           have b := hB 0 _ _ rfl (by
            intro st hst e
            rcases List.mem_singleton.1 hst with rfl
            · exact absurd e (show ¬ 2 = 0 by decide))
           have c0 := b.at_ 0 _ rfl
           have c1 := b.at_ 1 _ rfl
           clear b
           refine .value W ?_ (Below.refl _ _)
           generalize hA : (puts ds L _).eval = ρ
           have h0 : ρ (.tmp 3) = .pointer (some ⟨w.heap.size, 0, none⟩) := (po hA (by rw [hds]; decide)).trans rfl
           clear hA hd hB ho hs ha hO
           unfold execOp
           go_simp
         · obtain rfl := Option.some.inj ho
           refine .call 15 #[.agg #[.int .i64 1, .int .i64 pw, .float .f64 am, .float .f64 ph, .float .f64 rt], .agg #[.float .f64 t1, .float .f64 t2]] ?_ (CH.out W)
           generalize hA : (puts ds L _).eval = ρ
           have hg : ∀ g, ρ (.func g) = .func (.func g) #[] #[] := fun v => by rw [← hA]; rfl
           have h0 : ρ (.tmp 30) = .agg #[.int .i64 1, .int .i64 pw, .float .f64 am, .float .f64 ph, .float .f64 rt] := pg 6 hA hap (by rw [hds]; rfl) (hd 6 (by decide +kernel) (alne rfl)) (show 30 < 43 by decide)
           have h1 : ρ (.tmp 31) = .agg #[.float .f64 t1, .float .f64 t2] := pg 7 hA hap (by rw [hds]; rfl) (hd 7 (by decide +kernel) (alne rfl)) (show 31 < 43 by decide)
           have hf := Tryz.func15
           unfold execOp
           go_simp
         · obtain rfl := Option.some.inj ho
           refine .call 14 #[.agg #[.float .f64 s3, .float .f64 s4], .agg #[.float .f64 x1, .float .f64 x2]] ?_ (A2.out W)
           generalize hA : (puts ds L _).eval = ρ
           have hg : ∀ g, ρ (.func g) = .func (.func g) #[] #[] := fun v => by rw [← hA]; rfl
           have h0 : ρ (.tmp 29) = .agg #[.float .f64 s3, .float .f64 s4] := pg 5 hA hap (by rw [hds]; rfl) (hd 5 (by decide +kernel) (alne rfl)) (show 29 < 43 by decide)
           have h1 : ρ (.tmp 32) = .agg #[.float .f64 x1, .float .f64 x2] := pg 8 hA hap (by rw [hds]; rfl) (hd 8 (by decide +kernel) (alne rfl)) (show 32 < 43 by decide)
           have hf := Tryz.func14
           unfold execOp
           go_simp
         · obtain rfl := Option.some.inj ho
           refine .value W ?_ (Below.refl _ _)
           generalize hA : (puts ds L _).eval = ρ
           have hc : ∀ v, ρ (.const v) = v := fun v => by rw [← hA]; rfl
           have h0 : ρ (.tmp 7) = .pointer (some ⟨g1, 0, none⟩) := (po hA (by rw [hds]; decide)).trans rfl
           have h1 : ρ (.tmp 25) = .int .i64 1 := pg 1 hA hap (by rw [hds]; rfl) (hd 1 (by decide +kernel) (alne rfl)) (show 25 < 43 by decide)
           clear hA hd hB ho hs ha hO
           unfold execOp
           go_simp
         · exact absurd rfl (hs _ (List.mem_cons_self ..))
        case store =>
         intro st hst L W o h us ho hd hal hC b
         rcases List.mem_singleton.1 hst with rfl
         · dsimp only at ho hd hal hC b ⊢
           obtain rfl := Option.some.inj ho
           obtain ⟨hh, rfl⟩ := hC _ _ rfl
           replace hh := hh.symm
           subst hh
           have c0 := b.at_ 2 _ rfl
           have f0 := b.fr 2 _ rfl
           have c1 := b.at_ 3 _ rfl
           have f1 := b.fr 3 _ rfl
           refine ⟨?_, rfl⟩
           generalize hA : (puts ds L _).eval = ρ
           have h0 : ρ (.tmp 34) = .pointer (some ⟨g1, 2, none⟩) := pg 10 hA hap (by rw [hds]; rfl) (hd 10 (by decide +kernel) (alne rfl)) (show 34 < 43 by decide)
           have h1 : ρ (.tmp 33) = .agg #[.float .f64 n1, .float .f64 n2] := pg 9 hA hap (by rw [hds]; rfl) (hd 9 (by decide +kernel) (alne rfl)) (show 33 < 43 by decide)
           have hst' := @fstore
           clear hA hd b ho hal hC
           simp only [putV]
           unfold execOp
           go_simp
        case fin =>
         intro hf W0 K
         rw [hds]
         clear hds hap ds CH A2
         (try dsimp only at K)
         simp only [List.set_cons_zero, List.set_cons_succ, puts, Act.put, List.setIfInBounds_toArray]
         replace K := K.take 3
         simp only [List.take_succ_cons, List.take_zero] at K
         replace K := Lib.hid K
         go_wp2_with fail
         go_roundw
         case rel => exact ⟨i + 1, s1, s2, n1, n2, s5, s6, by go_num, hlt, by have q := hR.out; rw [put_p1] at q; dsimp only at q; rw [hN.out] at q; exact q, by have q := SP.out; rw [put_p1] at q; dsimp only at q; rw [hN.out] at q; exact q, K.out⟩
         case measure => simp [intOf]; omega
      · generalize hN : adP (s5, s6) (x1, x2) = N at *
        obtain ⟨n1, n2⟩ := N
        replace hN := Lib.hid hN
        clear A1 A2
        unfold pv spanV at A3
        dsimp only at A3
        go_upto_region 8 with fail
        replace K := K.out
        clear c0 c1 c2 c3 c4 d3_0 d3_1 d3_2 d3_3 d3_4
        generalize wr.alloc _ = wq at *
        generalize wr.heap.size = g2 at *
        generalize hds : ([some 24, some 25, some 26, some 27, some 28, some 29, some 30, some 31, some 32, some 33, some 34, none] : List (Option Tmp)) = ds
        have hap : apartL ds = true := by rw [← hds]; decide
        replace hds := hds.symm
        refine wp_region_kv (fun hf => [some (w.heap.size, [.float .f64 t1, .float .f64 t2]), some (w.heap.size + 1, [.float .f64 0, .float .f64 0, .float .f64 0, .float .f64 0, .float .f64 0, .float .f64 0]), some (g1, [.float .f64 s1, .float .f64 s2, .float .f64 s3, .float .f64 s4, .float .f64 n1, .float .f64 n2]), some (g2, [.int .i64 2, .int .i64 pw, .float .f64 am, .float .f64 ph, .float .f64 rt])]) (fun hf => [some (.pointer (some ⟨g2, 0, none⟩)), some (.int .i64 2), some (.pointer (some ⟨g2, 0, none⟩)), some (.int .i64 2), some (.pointer (some ⟨g1, 4, none⟩)), some (.agg #[.float .f64 s5, .float .f64 s6]), some (.agg #[.int .i64 2, .int .i64 pw, .float .f64 am, .float .f64 ph, .float .f64 rt]), some (.agg #[.float .f64 t1, .float .f64 t2]), some (.agg #[.float .f64 x1, .float .f64 x2]), some (.agg #[.float .f64 n1, .float .f64 n2]), some (.pointer (some ⟨g1, 4, none⟩)), some (undef)]) [] [⟨11, 2, 4, [.float .f64 n1, .float .f64 n2]⟩] [.pointer (some ⟨g2, 0, none⟩), .int .i64 2, .pointer (some ⟨g2, 0, none⟩), .int .i64 2, .pointer (some ⟨g1, 4, none⟩), .agg #[.float .f64 s5, .float .f64 s6], .agg #[.int .i64 2, .int .i64 pw, .float .f64 am, .float .f64 ph, .float .f64 rt], .agg #[.float .f64 t1, .float .f64 t2], .agg #[.float .f64 x1, .float .f64 x2], .agg #[.float .f64 n1, .float .f64 n2], .pointer (some ⟨g1, 4, none⟩), undef] ds (by kernel_rfl) (by rw [hds]; rfl) hap (by decide +kernel) (by decide +kernel) K ?ha ?haj ?hai ?hsi ?hss ?hsa ?hsw ?htg ?hE2 ?hE3 ?hE4 ?hL1 ?hL2 ?hL3 ?alloc ?step ?store ?fin
        case ha => intro al hal; cases hal
        case haj => intro al hal al' hal' e; cases hal
        case hai => intro al hal; cases hal
        case hsi => intro st hst st' hst' e; rcases List.mem_singleton.1 hst with rfl <;> (rcases List.mem_singleton.1 hst' with rfl) <;> first | rfl | (exfalso; revert e; simp)
        case hss =>
         intro st hst
         rcases List.mem_singleton.1 hst with rfl
         · show 11 < 12; decide
        case hsa =>
         intro st hst al hal
         cases hal
        case hsw =>
         intro st hst al hal e
         cases hal
        case htg =>
         intro st hst
         rcases List.mem_singleton.1 hst with rfl
         · exact .inl ⟨_, _, rfl, show 4 + 2 ≤ 6 by decide⟩
        case hE2 =>
         intro hf j h1 h2
         have n2 : 2 ≠ j := h1 _ (List.mem_cons_self ..)
         rcases j with _ | _ | _ | _ | j
         · rfl
         · rfl
         · exact absurd rfl n2
         · rfl
         · rfl
        case hE3 =>
         intro hf st hst g us e
         rcases List.mem_singleton.1 hst with rfl
         · obtain ⟨rfl, rfl⟩ := Prod.mk.inj (Option.some.inj (Option.some.inj e)); rfl
        case hE4 =>
         intro hf al hal
         cases hal
        case hL1 => intro hf; rfl
        case hL2 =>
         intro hf i hi hna
         have hi : i < 12 := hi
         have : i = 0 ∨ i = 1 ∨ i = 2 ∨ i = 3 ∨ i = 4 ∨ i = 5 ∨ i = 6 ∨ i = 7 ∨ i = 8 ∨ i = 9 ∨ i = 10 ∨ i = 11 := by omega
         rcases this with rfl | rfl | rfl | rfl | rfl | rfl | rfl | rfl | rfl | rfl | rfl | rfl
         · rfl
         · rfl
         · rfl
         · rfl
         · rfl
         · rfl
         · rfl
         · rfl
         · rfl
         · rfl
         · rfl
         · rfl
        case hL3 => intro hf al hal; cases hal
        case alloc =>
         intro al hal o ρ W ho
         cases hal
        case step =>
         intro L W i o ho hs ha hd hB hO
         have hi : i < 12 := (Array.getElem?_eq_some_iff.1 ho).1
         have : i = 0 ∨ i = 1 ∨ i = 2 ∨ i = 3 ∨ i = 4 ∨ i = 5 ∨ i = 6 ∨ i = 7 ∨ i = 8 ∨ i = 9 ∨ i = 10 ∨ i = 11 := by omega
         rcases this with rfl | rfl | rfl | rfl | rfl | rfl | rfl | rfl | rfl | rfl | rfl | rfl
         · obtain rfl := Option.some.inj ho
           refine .value W ?_ (Below.refl _ _)
           generalize hA : (puts ds L _).eval = ρ
           have hc : ∀ v, ρ (.const v) = v := fun v => by rw [← hA]; rfl
           have h0 : ρ (.tmp 9) = .pointer (some ⟨g2, 0, none⟩) := (po hA (by rw [hds]; decide)).trans rfl
           clear hA hd hB ho hs ha hO
           unfold execOp
           go_simp
         · obtain rfl := Option.some.inj ho
           have b := hB 3 _ _ rfl (by
            intro st hst e
            rcases List.mem_singleton.1 hst with rfl
            · exact absurd e (show ¬ 2 = 3 by decide))
           have c0 := b.at_ 0 _ rfl
           clear b
           refine .value W ?_ (Below.refl _ _)
           generalize hA : (puts ds L _).eval = ρ
           have h0 : ρ (.tmp 24) = .pointer (some ⟨g2, 0, none⟩) := pg 0 hA hap (by rw [hds]; rfl) (hd 0 (by decide +kernel) (alne rfl)) (show 24 < 43 by decide)
           clear hA hd hB ho hs ha hO
           unfold execOp
           go_simp
         · obtain rfl := Option.some.inj ho
           refine .value W ?_ (Below.refl _ _)
           generalize hA : (puts ds L _).eval = ρ
           have hc : ∀ v, ρ (.const v) = v := fun v => by rw [← hA]; rfl
           have h0 : ρ (.tmp 9) = .pointer (some ⟨g2, 0, none⟩) := (po hA (by rw [hds]; decide)).trans rfl
           clear hA hd hB ho hs ha hO
           unfold execOp
           go_simp
         · obtain rfl := Option.some.inj ho
           have b := hB 3 _ _ rfl (by
            intro st hst e
            rcases List.mem_singleton.1 hst with rfl
            · exact absurd e (show ¬ 2 = 3 by decide))
           have c0 := b.at_ 0 _ rfl
           clear b
           refine .value W ?_ (Below.refl _ _)
           generalize hA : (puts ds L _).eval = ρ
           have h0 : ρ (.tmp 26) = .pointer (some ⟨g2, 0, none⟩) := pg 2 hA hap (by rw [hds]; rfl) (hd 2 (by decide +kernel) (alne rfl)) (show 26 < 43 by decide)
           clear hA hd hB ho hs ha hO
           unfold execOp
           go_simp
         · obtain rfl := Option.some.inj ho
           refine .value W ?_ (Below.refl _ _)
           generalize hA : (puts ds L _).eval = ρ
           have hc : ∀ v, ρ (.const v) = v := fun v => by rw [← hA]; rfl
           have h0 : ρ (.tmp 7) = .pointer (some ⟨g1, 0, none⟩) := (po hA (by rw [hds]; decide)).trans rfl
           have h1 : ρ (.tmp 27) = .int .i64 2 := pg 3 hA hap (by rw [hds]; rfl) (hd 3 (by decide +kernel) (alne rfl)) (show 27 < 43 by decide)
           clear hA hd hB ho hs ha hO
           unfold execOp
           go_simp
         · obtain rfl := Option.some.inj ho
           have b := hB 2 _ _ rfl (by
            intro st hst e
            rcases List.mem_singleton.1 hst with rfl
            · change needs _ _ 11 5 = true; decide +kernel)
           have c4 := b.at_ 4 _ rfl
           have c5 := b.at_ 5 _ rfl
           clear b
           refine .value W ?_ (Below.refl _ _)
           generalize hA : (puts ds L _).eval = ρ
           have h0 : ρ (.tmp 28) = .pointer (some ⟨g1, 4, none⟩) := pg 4 hA hap (by rw [hds]; rfl) (hd 4 (by decide +kernel) (alne rfl)) (show 28 < 43 by decide)
           clear hA hd hB ho hs ha hO
           unfold execOp
           go_simp
         · obtain rfl := Option.some.inj ho
           have b := hB 3 _ _ rfl (by
            intro st hst e
            rcases List.mem_singleton.1 hst with rfl
            · exact absurd e (show ¬ 2 = 3 by decide))
           have c0 := b.at_ 0 _ rfl
           have c1 := b.at_ 1 _ rfl
           have c2 := b.at_ 2 _ rfl
           have c3 := b.at_ 3 _ rfl
           have c4 := b.at_ 4 _ rfl
           clear b
           refine .value W ?_ (Below.refl _ _)
           generalize hA : (puts ds L _).eval = ρ
           have h0 : ρ (.tmp 9) = .pointer (some ⟨g2, 0, none⟩) := (po hA (by rw [hds]; decide)).trans rfl
           clear hA hd hB ho hs ha hO
           unfold execOp
           go_simp
         · obtain rfl := Option.some.inj ho
           have b := hB 0 _ _ rfl (by
            intro st hst e
            rcases List.mem_singleton.1 hst with rfl
            · exact absurd e (show ¬ 2 = 0 by decide))
           have c0 := b.at_ 0 _ rfl
           have c1 := b.at_ 1 _ rfl
           clear b
           refine .value W ?_ (Below.refl _ _)
           generalize hA : (puts ds L _).eval = ρ
           have h0 : ρ (.tmp 3) = .pointer (some ⟨w.heap.size, 0, none⟩) := (po hA (by rw [hds]; decide)).trans rfl
           clear hA hd hB ho hs ha hO
           unfold execOp
           go_simp
         · obtain rfl := Option.some.inj ho
           refine .call 15 #[.agg #[.int .i64 2, .int .i64 pw, .float .f64 am, .float .f64 ph, .float .f64 rt], .agg #[.float .f64 t1, .float .f64 t2]] ?_ (CH.out W)
           generalize hA : (puts ds L _).eval = ρ
           have hg : ∀ g, ρ (.func g) = .func (.func g) #[] #[] := fun v => by rw [← hA]; rfl
           have h0 : ρ (.tmp 30) = .agg #[.int .i64 2, .int .i64 pw, .float .f64 am, .float .f64 ph, .float .f64 rt] := pg 6 hA hap (by rw [hds]; rfl) (hd 6 (by decide +kernel) (alne rfl)) (show 30 < 43 by decide)
           have h1 : ρ (.tmp 31) = .agg #[.float .f64 t1, .float .f64 t2] := pg 7 hA hap (by rw [hds]; rfl) (hd 7 (by decide +kernel) (alne rfl)) (show 31 < 43 by decide)
           have hf := Tryz.func15
           unfold execOp
           go_simp
         · obtain rfl := Option.some.inj ho
           refine .call 14 #[.agg #[.float .f64 s5, .float .f64 s6], .agg #[.float .f64 x1, .float .f64 x2]] ?_ (A3.out W)
           generalize hA : (puts ds L _).eval = ρ
           have hg : ∀ g, ρ (.func g) = .func (.func g) #[] #[] := fun v => by rw [← hA]; rfl
           have h0 : ρ (.tmp 29) = .agg #[.float .f64 s5, .float .f64 s6] := pg 5 hA hap (by rw [hds]; rfl) (hd 5 (by decide +kernel) (alne rfl)) (show 29 < 43 by decide)
           have h1 : ρ (.tmp 32) = .agg #[.float .f64 x1, .float .f64 x2] := pg 8 hA hap (by rw [hds]; rfl) (hd 8 (by decide +kernel) (alne rfl)) (show 32 < 43 by decide)
           have hf := Tryz.func14
           unfold execOp
           go_simp
         · obtain rfl := Option.some.inj ho
           refine .value W ?_ (Below.refl _ _)
           generalize hA : (puts ds L _).eval = ρ
           have hc : ∀ v, ρ (.const v) = v := fun v => by rw [← hA]; rfl
           have h0 : ρ (.tmp 7) = .pointer (some ⟨g1, 0, none⟩) := (po hA (by rw [hds]; decide)).trans rfl
           have h1 : ρ (.tmp 25) = .int .i64 2 := pg 1 hA hap (by rw [hds]; rfl) (hd 1 (by decide +kernel) (alne rfl)) (show 25 < 43 by decide)
           clear hA hd hB ho hs ha hO
           unfold execOp
           go_simp
         · exact absurd rfl (hs _ (List.mem_cons_self ..))
        case store =>
         intro st hst L W o h us ho hd hal hC b
         rcases List.mem_singleton.1 hst with rfl
         · dsimp only at ho hd hal hC b ⊢
           obtain rfl := Option.some.inj ho
           obtain ⟨hh, rfl⟩ := hC _ _ rfl
           replace hh := hh.symm
           subst hh
           have c0 := b.at_ 4 _ rfl
           have f0 := b.fr 4 _ rfl
           have c1 := b.at_ 5 _ rfl
           have f1 := b.fr 5 _ rfl
           refine ⟨?_, rfl⟩
           generalize hA : (puts ds L _).eval = ρ
           have h0 : ρ (.tmp 34) = .pointer (some ⟨g1, 4, none⟩) := pg 10 hA hap (by rw [hds]; rfl) (hd 10 (by decide +kernel) (alne rfl)) (show 34 < 43 by decide)
           have h1 : ρ (.tmp 33) = .agg #[.float .f64 n1, .float .f64 n2] := pg 9 hA hap (by rw [hds]; rfl) (hd 9 (by decide +kernel) (alne rfl)) (show 33 < 43 by decide)
           have hst' := @fstore
           clear hA hd b ho hal hC
           simp only [putV]
           unfold execOp
           go_simp
        case fin =>
         intro hf W0 K
         rw [hds]
         clear hds hap ds CH A3
         (try dsimp only at K)
         simp only [List.set_cons_zero, List.set_cons_succ, puts, Act.put, List.setIfInBounds_toArray]
         replace K := K.take 3
         simp only [List.take_succ_cons, List.take_zero] at K
         replace K := Lib.hid K
         go_wp2_with fail
         go_roundw
         case rel => exact ⟨i + 1, s1, s2, s3, s4, n1, n2, by go_num, hlt, by have q := hR.out; rw [put_p2] at q; dsimp only at q; rw [hN.out] at q; exact q, by have q := SP.out; rw [put_p2] at q; dsimp only at q; rw [hN.out] at q; exact q, K.out⟩
         case measure => simp [intOf]; omega
    · obtain rfl : i = n := by omega
      have hv : ((s1, s2), (s3, s4), (s5, s6)) = A := by
       rw [hn.out, List.drop_length] at hR
       exact hR
      subst hv
      (try dsimp only at *)
      clear HH OK hS
      have c2_0 := (K.at_ 2 rfl).at_ 0 _ rfl
      have c2_1 := (K.at_ 2 rfl).at_ 1 _ rfl
      have c2_2 := (K.at_ 2 rfl).at_ 2 _ rfl
      have c2_3 := (K.at_ 2 rfl).at_ 3 _ rfl
      have c2_4 := (K.at_ 2 rfl).at_ 4 _ rfl
      have c2_5 := (K.at_ 2 rfl).at_ 5 _ rfl
      have c1_0 := (K.at_ 1 rfl).at_ 0 _ rfl
      have f1_0 := (K.at_ 1 rfl).fr 0 _ rfl
      have c1_1 := (K.at_ 1 rfl).at_ 1 _ rfl
      have f1_1 := (K.at_ 1 rfl).fr 1 _ rfl
      have c1_2 := (K.at_ 1 rfl).at_ 2 _ rfl
      have f1_2 := (K.at_ 1 rfl).fr 2 _ rfl
      have c1_3 := (K.at_ 1 rfl).at_ 3 _ rfl
      have f1_3 := (K.at_ 1 rfl).fr 3 _ rfl
      have c1_4 := (K.at_ 1 rfl).at_ 4 _ rfl
      have f1_4 := (K.at_ 1 rfl).fr 4 _ rfl
      have c1_5 := (K.at_ 1 rfl).at_ 5 _ rfl
      have f1_5 := (K.at_ 1 rfl).fr 5 _ rfl
      replace K := Lib.hid K
      go_wp2_with fail
      replace K := K.out
      (try simp only [Exit.inBlock, Exit.then])
      refine bodyPost_ret (v := .tuple #[.agg #[.float .f64 s1, .float .f64 s2, .float .f64 s3, .float .f64 s4, .float .f64 s5, .float .f64 s6], .int .i64 0]) ?_ rfl ⟨rfl, ?_⟩
      · rw [results_cell_tmp rfl]; go_simp
      · exact ((((((K.old).setCell (by first | exact Nat.le_refl _ | omega | (dsimp only; omega)) _).setCell (by first | exact Nat.le_refl _ | omega | (dsimp only; omega)) _).setCell (by first | exact Nat.le_refl _ | omega | (dsimp only; omega)) _).setCell (by first | exact Nat.le_refl _ | omega | (dsimp only; omega)) _).setCell (by first | exact Nat.le_refl _ | omega | (dsimp only; omega)) _).setCell (by first | exact Nat.le_refl _ | omega | (dsimp only; omega)) _
 · rw [if_neg hr]
   obtain ⟨k, hk⟩ : ∃ k, k = readyV L (timB t) := ⟨_, rfl⟩
   rw [← hk] at CR hr ⊢
   have tk : (k != 0) = true := by simpa using hr
   clear hk hn hm hW ha ht hr
   generalize timB t = tb at *
   have CT := CT'
   clear CT'
   obtain ⟨t1, t2⟩ := t
   unfold boxE boxV pv spanV z6 at *
   dsimp only at *
   have K0 := kv2 w 25 29 [.float .f64 t1, .float .f64 t2] [.float .f64 0, .float .f64 0, .float .f64 0, .float .f64 0, .float .f64 0, .float .f64 0]
   simp only [objV] at K0
   have hst := @fstore
   replace K0 := Lib.hid K0
   go_enter Tryz.func6, Tryz.ntmps6
   go_wp2_with fail
   have K := K0.out
   clear K0
   generalize (w.alloc _).alloc _ = wr at *
   refine (CT.out wr).mono ?_
   rintro _ v0 ⟨rfl, hb⟩
   replace K := K.on hb
   clear hb CT
   replace K := Lib.hid K
   go_wp2_with fail
   replace K := K.out
   refine (CR.out v0 K.old).mono ?_
   rintro _ v1 ⟨rfl, hb⟩
   replace K := K.on hb
   clear hb CR
   have c1_0 := (K.at_ 1 rfl).at_ 0 _ rfl
   have f1_0 := (K.at_ 1 rfl).fr 0 _ rfl
   have c1_1 := (K.at_ 1 rfl).at_ 1 _ rfl
   have f1_1 := (K.at_ 1 rfl).fr 1 _ rfl
   have c1_2 := (K.at_ 1 rfl).at_ 2 _ rfl
   have f1_2 := (K.at_ 1 rfl).fr 2 _ rfl
   have c1_3 := (K.at_ 1 rfl).at_ 3 _ rfl
   have f1_3 := (K.at_ 1 rfl).fr 3 _ rfl
   have c1_4 := (K.at_ 1 rfl).at_ 4 _ rfl
   have f1_4 := (K.at_ 1 rfl).fr 4 _ rfl
   have c1_5 := (K.at_ 1 rfl).at_ 5 _ rfl
   have f1_5 := (K.at_ 1 rfl).fr 5 _ rfl
   replace K := Lib.hid K
   go_wp2_with fail
   replace K := K.out
   (try simp only [Exit.inBlock, Exit.then])
   refine bodyPost_ret (v := .tuple #[.agg #[.float .f64 0, .float .f64 0, .float .f64 0, .float .f64 0, .float .f64 0, .float .f64 0], .int .i64 k]) ?_ rfl ⟨rfl, ?_⟩
   · rw [results_cell_tmp rfl]; go_simp
   · exact ((((((K.old).setCell (by first | exact Nat.le_refl _ | omega | (dsimp only; omega)) _).setCell (by first | exact Nat.le_refl _ | omega | (dsimp only; omega)) _).setCell (by first | exact Nat.le_refl _ | omega | (dsimp only; omega)) _).setCell (by first | exact Nat.le_refl _ | omega | (dsimp only; omega)) _).setCell (by first | exact Nat.le_refl _ | omega | (dsimp only; omega)) _).setCell (by first | exact Nat.le_refl _ | omega | (dsimp only; omega)) _
end Go.Proofs.YtgnofnjbmiepjaaGreat
