/- Proved here: what the texts Kan prove, one behind the other. -/
import Derived.Test.YtacinenddnfcbaaGreatJy24
import Derived.Test.YtacinenddnfcbaaGreatJy20

set_option maxHeartbeats 16000000
set_option maxRecDepth 100000
namespace Go.Proofs.YtacinenddnfcbaaGreat
open Go.ChangeShapes Go.WideShapes Go.ChangeAt Go.RowKit Ieee.Own

structure CpS (w : World) (F : List Fr) (L : List Bo) (fa : Option Addr) (fcc : Nat) (ba : Option Addr) (bcc : Nat) (N : List Bm) (w' : World) : Prop where
 eq : N.map Bm.b = L
 fl : F.length ≤ fcc
 fm : fcc ≤ maxLen
 fz : fa = none → fcc = 0
 ff : Foot (fun b => w.heap.size ≤ b ∧ (Value.slice ba L.length bcc).ownBlock ≠ some b) w' fun W => FAt W fa F
 fb : Foot (fun b => w.heap.size ≤ b ∧ (Value.slice ba L.length bcc).ownBlock ≠ some b) w' fun W => ∀ m ∈ N, BmAt W m
 own : OwnR 51 18 w.heap.size w (N.map bmC) (.slice ba L.length bcc) w'
def CpE (w : World) (lt fn bn : Nat) (F : List Fr) (L : List Bo) (e : Ending) (w' : World) : Prop :=
 ∃ fa fcc ba bcc N, e = .returned (.agg #[.float .f64 lt, .slice fa fn fcc, .slice ba bn bcc]) ∧ CpS w F L fa fcc ba bcc N w'
theorem rows_bm (N : List Bm) : RowsOk 18 (N.map bmC) := by
 refine ⟨fun r hr => ?_, fun r hr u hu => ?_⟩
 · obtain ⟨f, -, rfl⟩ := List.mem_map.1 hr; rfl
 · obtain ⟨f, -, rfl⟩ := List.mem_map.1 hr
   have := bm_one f
   rw [Array.all_eq_true_iff_forall_mem] at this
   exact this u (by simpa using hu)
theorem CpS.at_ {w : World} {F : List Fr} {L : List Bo} {fa ba : Option Addr} {fcc bcc : Nat} {N : List Bm} {w' : World} (h : CpS w F L fa fcc ba bcc N w') : FAt w' fa F ∧ BsAt w' ba N := by
 refine ⟨h.ff.now, ?_, fun m hm => h.fb.now m hm⟩
 obtain ⟨ao, cap, e, -, -, q, -⟩ := ownsR_at h.own.ok h.own.own
 simp only [Value.slice.injEq] at e
 rw [e.1]
 exact q
theorem CpS.fin {w wq w1 u w' : World} {g lt fn fcc : Nat} {fa : Option Addr} {F : List Fr} {L : List Bo} {N : List Bm} {ba : Option Addr} {nb bcc : Nat} (C : CyI w w1 g lt fn fcc fa L L.length N (.slice ba nb bcc) u)
 (hq : w.heap.size + 2 ≤ wq.heap.size) (FF : Foot (fun b => wq.heap.size ≤ b ∧ b < w1.heap.size ∧ b ≠ g) w1 fun U => FAt U fa F) (hg : u.grownBy w' (some (w.heap.size + 1))) (hl : F.length ≤ fcc) (hm : fcc ≤ maxLen) (hz : fa = none → fcc = 0) (hw1 : w.heap.size + 2 ≤ w1.heap.size) :
 nb = L.length ∧ CpS w F L fa fcc ba bcc N w' := by
 have eN : N.map Bm.b = L := by rw [C.eq, List.take_length]
 have lN : (N.map bmC).length = L.length := by rw [← eN]; simp
 obtain ⟨ao, cap, e, -⟩ := ownsR_at C.own.ok C.own.own
 simp only [Value.slice.injEq] at e
 obtain ⟨rfl, rfl, rfl⟩ := e
 rw [lN] at C
 refine ⟨lN, eN, hl, hm, hz, fun W hs hk => FF W (Nat.le_trans C.size (Nat.le_trans hg.size hs)) fun b pb hb => ?_, ?_, C.own.kept hg (fun k e => by obtain rfl := Option.some.inj e; omega) (.inr fun e => by have := C.hi _ e; omega)⟩
 · have h1 := hk b ⟨by omega, fun e => by have := C.hi _ e; omega⟩ (by have := C.size; have := hg.size; omega)
   rw [h1, hg.block b (by have := C.size; omega) (fun e => by have := Option.some.inj e; omega)]
   exact C.same b hb pb.2.2
 · refine Foot.imp (P := fun b => w1.heap.size ≤ b ∧ (Value.slice ba L.length bcc).ownBlock ≠ some b) ?_ (fun b _ pb => ⟨by omega, pb.2⟩)
   exact C.foot.grow hg (fun b pb e => by have := Option.some.inj e; omega)
theorem list18 {α : Type} {us : List α} (h : us.length = 18) : ∃ a0 a1 a2 a3 a4 a5 a6 a7 a8 a9 a10 a11 a12 a13 a14 a15 a16 a17, us = [a0, a1, a2, a3, a4, a5, a6, a7, a8, a9, a10, a11, a12, a13, a14, a15, a16, a17] := by
 match us, h with
 | [a0, a1, a2, a3, a4, a5, a6, a7, a8, a9, a10, a11, a12, a13, a14, a15, a16, a17], _ => exact ⟨a0, a1, a2, a3, a4, a5, a6, a7, a8, a9, a10, a11, a12, a13, a14, a15, a16, a17, rfl⟩
theorem wpList_build1 {ops : Array Oper} {rest : List Oper} {o : Oper} {a : Act} {w : World} {Q : Exit → Act → World → Prop} (hgd : o.guard = none) (x : Operand) (ho : o.op = .buildSlice 24 1 #[(0, x)]) (L : List Value) (hx : a.eval x = .agg L.toArray) (hl : L.length = 18)
 (h : wpList Tryz.prog ops Q rest (a.put o.dst (.slice (some ⟨w.heap.size, 0, none⟩) 1 1)) (w.alloc (.cells L.toArray 51))) : wpList Tryz.prog ops Q (o :: rest) a w := by
 refine wpList_plain hgd fun _ hK => step_value (v := .slice (some ⟨w.heap.size, 0, none⟩) 1 1) (w' := w.alloc (.cells L.toArray 51)) ?_ (hK _ _ h)
 obtain ⟨a0, a1, a2, a3, a4, a5, a6, a7, a8, a9, a10, a11, a12, a13, a14, a15, a16, a17, rfl⟩ := list18 hl
 clear h hK hl
 unfold execOp
 rw [ho]
 simp only [List.map_toArray, List.map_cons, List.map_nil, hx]
 go_simp
theorem rcopy_shape {F : List Fr} {M : List Bm} {L : List Bo} (hML : M.map Bm.b = L) {lt fn fc bn bc : Nat} {fao bao : Option Addr} {w : World} (hfn : fn = F.length) (hfz : fao = none → fc = 0) (hfb : fn * 56 ≤ 140737488351232) (hbn : bn = M.length) (hbb : bn * 176 ≤ 140737488351232) (haF : FAt w fao F) (haB : BsAt w bao M) (hW : ∀ m ∈ M, BoW m.b) : Calls Tryz.prog 10 #[.agg #[.float .f64 lt, .slice fao fn fc, .slice bao bn bc]] w fun e w' => CpE w lt fn bn F L e w' ∧ Below w.heap.size w w' := by
 have hud := Tryz.underlying51
 have hLM : L.length = bn := by rw [← hML, List.length_map]; exact hbn.symm
 replace hML := Lib.hid hML
 replace hfn := Lib.hid hfn
 replace hbn := Lib.hid hbn
 replace haF := Lib.hid haF
 replace haB := Lib.hid haB
 replace hW := Lib.hid hW
 replace hLM := Lib.hid hLM
 have K0 := kv2 w 26 26 [.float .f64 lt, .slice fao fn fc, .slice bao bn bc] [.float .f64 0, .slice none 0 0, .slice none 0 0]
 simp only [objV] at K0
 replace K0 := Lib.hid K0
 have hst := @fstore
 go_enter Tryz.func10, Tryz.ntmps10
 go_upto_region 1 with fail
 have K := K0.out
 clear K0
 generalize (w.alloc _).alloc _ = wr at *
 have haFw : Hid (FAt wr fao F) := Lib.hid (RAt.on haF.out K.old)
 generalize hds : ([some 10, some 11, some 12, some 13, some 14, some 15, some 16, some 3, none] : List (Option Tmp)) = ds
 have hap : apartL ds = true := by rw [← hds]; decide
 replace hds := hds.symm
 refine wp_region_inv (by kernel_rfl) ds (by rw [hds]; rfl) hap (by decide +kernel) (by decide +kernel) (RlS wr (.pointer (some ⟨w.heap.size, 0, none⟩)) (.float .f64 lt) (.pointer (some ⟨w.heap.size, 1, none⟩)) (.slice fao fn fc) fn lt (F.map frC).flatten) ?start ?step ?fin
 case start => exact RlS.start wr _ _ _ _ _ _ _
 case step =>
  intro Lo W i o hL ho hn hd R
  have hi : i < 9 := (Array.getElem?_eq_some_iff.1 ho).1
  have : i = 0 ∨ i = 1 ∨ i = 2 ∨ i = 3 ∨ i = 4 ∨ i = 5 ∨ i = 6 ∨ i = 7 ∨ i = 8 := by omega
  rcases this with rfl | rfl | rfl | rfl | rfl | rfl | rfl | rfl | rfl
  · obtain rfl := Option.some.inj ho
    refine step_value (v := .pointer (some ⟨w.heap.size, 0, none⟩)) (w' := W) ?_ ⟨_, rfl, R.set0⟩
    generalize hA : (puts ds Lo _).eval = ρ
    have h0 : ρ (.tmp 1) = .pointer (some ⟨w.heap.size, 0, none⟩) := by rw [← hA]; exact (puts_old ds Lo _ (by rw [hds]; decide)).trans rfl
    unfold execOp
    go_simp
  · obtain rfl := Option.some.inj ho
    obtain ⟨v, hv⟩ := hd ⟨0, .data⟩ (by simp) rfl
    obtain rfl := R.d0 _ (gd_of hv)
    have c0 := ((K.on R.old).at_ 0 rfl).at_ 0 _ rfl
    refine step_value (v := .float .f64 lt) (w' := W) ?_ ⟨_, rfl, R.set1⟩
    generalize hA : (puts ds Lo _).eval = ρ
    have h0 : ρ (.tmp 10) = .pointer (some ⟨w.heap.size, 0, none⟩) := by rw [← hA]; exact puts_get 0 ds Lo _ hap (by rw [hds]; rfl) hv (show 10 < 72 by decide)
    unfold execOp
    go_simp
  · obtain rfl := Option.some.inj ho
    have m := R.m
    rw [gd_of hn] at m
    refine step_value (v := .slice (some ⟨W.heap.size, 0, none⟩) 0 0) (w' := W.alloc (.cells #[] 91)) ?_ ⟨_, rfl, R.set2 (R.old.alloc R.old.size _) m.build⟩
    unfold execOp
    go_simp
  · obtain rfl := Option.some.inj ho
    refine step_value (v := .pointer (some ⟨w.heap.size, 1, none⟩)) (w' := W) ?_ ⟨_, rfl, R.set3⟩
    generalize hA : (puts ds Lo _).eval = ρ
    have h0 : ρ (.tmp 1) = .pointer (some ⟨w.heap.size, 0, none⟩) := by rw [← hA]; exact (puts_old ds Lo _ (by rw [hds]; decide)).trans rfl
    unfold execOp
    go_simp
  · obtain rfl := Option.some.inj ho
    obtain ⟨v, hv⟩ := hd ⟨3, .data⟩ (by simp) rfl
    obtain rfl := R.d3 _ (gd_of hv)
    have c0 := ((K.on R.old).at_ 0 rfl).at_ 1 _ rfl
    refine step_value (v := .slice fao fn fc) (w' := W) ?_ ⟨_, rfl, R.set4⟩
    generalize hA : (puts ds Lo _).eval = ρ
    have h0 : ρ (.tmp 13) = .pointer (some ⟨w.heap.size, 1, none⟩) := by rw [← hA]; exact puts_get 3 ds Lo _ hap (by rw [hds]; rfl) hv (show 13 < 72 by decide)
    unfold execOp
    go_simp
  · obtain rfl := Option.some.inj ho
    obtain ⟨v2, hv2⟩ := hd ⟨2, .data⟩ (by simp) rfl
    obtain ⟨v4, hv4⟩ := hd ⟨4, .data⟩ (by simp) rfl
    obtain rfl := R.d4 _ (gd_of hv4)
    have m := R.m
    rw [gd_of hn, gd_of hv2] at m
    refine wp_dupAt recFr (.tmp 12) (.tmp 14) rfl wr.heap.size v2 (puts_get 2 ds Lo _ hap (by rw [hds]; rfl) hv2 (show 12 < 72 by decide)) (m.a _ rfl rfl) fao fn fc (F.map frC) (puts_get 4 ds Lo _ hap (by rw [hds]; rfl) hv4 (show 14 < 72 by decide)) (by rw [List.length_map]; exact hfn.out) hfz (RAt.on haFw.out R.old) (rows_fr F) (by rw [List.length_map, ← hfn.out]; unfold maxLen; omega) (by rw [List.length_map, ← hfn.out]; omega) R.old.size (fun v' w' q1 q2 q3 => ⟨v', rfl, R.set5 (R.old.grown q2 R.old.size (fun k hk => ?_)) ?_⟩)
    · exact ((m.a _ rfl rfl).lt k hk).1
    · rw [gd_of hv2]
      exact m.append q1 q2 q3
  · obtain rfl := Option.some.inj ho
    obtain ⟨v1, hv1⟩ := hd ⟨1, .data⟩ (by simp) rfl
    obtain ⟨v5, hv5⟩ := hd ⟨5, .data⟩ (by simp) rfl
    obtain rfl := R.d1 _ (gd_of hv1)
    have m := R.m
    rw [gd_of hn, gd_of hv5] at m
    obtain ⟨a5, c5, e5⟩ : ∃ a c, v5 = .slice a fn c := own_sl (m.b _ rfl)
    refine step_value (v := .agg #[.float .f64 lt, v5, .slice none 0 0]) (w' := W) ?_ ⟨_, rfl, R.set6 R.old (by rw [gd_of hv5]; exact m.made)⟩
    generalize hA : (puts ds Lo _).eval = ρ
    have h0 : ρ (.tmp 11) = .float .f64 lt := by rw [← hA]; exact puts_get 1 ds Lo _ hap (by rw [hds]; rfl) hv1 (show 11 < 72 by decide)
    have h1 : ρ (.tmp 15) = v5 := by rw [← hA]; exact puts_get 5 ds Lo _ hap (by rw [hds]; rfl) hv5 (show 15 < 72 by decide)
    subst e5
    unfold execOp
    go_simp
  · obtain rfl := Option.some.inj ho
    have m := R.m
    rw [gd_of hn] at m
    refine step_value (v := .pointer (some ⟨W.heap.size, 0, none⟩)) (w' := W.alloc (objV 26 [.float .f64 0, .slice none 0 0, .slice none 0 0])) ?_ ⟨_, rfl, R.set7 (R.old.alloc R.old.size _) m.alloc⟩
    unfold execOp objV
    go_simp
  · obtain rfl := Option.some.inj ho
    obtain ⟨v7, hv7⟩ := hd ⟨7, .data⟩ (by simp) rfl
    obtain ⟨v6, hv6⟩ := hd ⟨6, .data⟩ (by simp) rfl
    have m := R.m
    rw [gd_of hn, gd_of hv7] at m
    obtain ⟨x, e5, rfl⟩ := m.c _ (gd_of hv6)
    obtain ⟨g, us, rfl, hg, B, hz, -⟩ := m.d _ rfl
    obtain rfl := hz rfl
    rw [e5] at m
    obtain ⟨a5, c5, rfl⟩ : ∃ a c, x = .slice a fn c := own_sl (m.b _ rfl)
    have M' := m.store (y := undef)
    have c0 := B.at_ 0 _ rfl
    have c1 := B.at_ 1 _ rfl
    have c2 := B.at_ 2 _ rfl
    have f0 := B.fr 0 _ rfl
    have f1 := B.fr 1 _ rfl
    have f2 := B.fr 2 _ rfl
    refine step_skip (w' := putV W g 0 [.float .f64 lt, .slice a5 fn c5, .slice none 0 0]) ?_ ⟨undef, rfl, R.set8 (putV_below hg _ 0 R.old) (by rw [gd_of hv7, e5]; exact M')⟩
    generalize hA : (puts ds Lo _).eval = ρ
    have h0 : ρ (.tmp 3) = .pointer (some ⟨g, 0, none⟩) := by rw [← hA]; exact puts_get 7 ds Lo _ hap (by rw [hds]; rfl) hv7 (show 3 < 72 by decide)
    have h1 : ρ (.tmp 16) = .agg #[.float .f64 lt, .slice a5 fn c5, .slice none 0 0] := by rw [← hA]; exact puts_get 6 ds Lo _ hap (by rw [hds]; rfl) hv6 (show 16 < 72 by decide)
    have hst := @fstore
    clear M' m R
    simp only [putV]
    unfold execOp
    go_simp
 case fin =>
  intro Lo W hL hall R
  obtain ⟨f, hf, hall⟩ := all_some (n := 9) hL hall
  have m := R.m
  rw [gd_of (hall 5 (by omega)), gd_of (hall 7 (by omega)), gd_of (hall 8 (by omega))] at m
  have own := m.b _ rfl
  obtain ⟨g, us, e7, hg, B3, -, h8, ne, -⟩ := m.d _ rfl
  obtain ⟨x, e5, rfl⟩ := h8 _ rfl
  obtain rfl := Option.some.inj e5
  have ne5 := ne _ rfl
  rw [hf, hds, show List.range 9 = [0, 1, 2, 3, 4, 5, 6, 7, 8] by decide]
  have hb := R.old
  clear m hall hf hL R h8 ne e5
  simp only [List.map_cons, List.map_nil, puts, Act.put, List.setIfInBounds_toArray, List.set_cons_zero, List.set_cons_succ]
  rw [e7]
  obtain ⟨fa, fcc, e5⟩ : ∃ a c, f 5 = .slice a fn c := own_sl own
  rw [e5] at own ne5 B3
  rw [e5]
  clear e5 e7 hds hap
  generalize f 0 = y0 at *
  generalize f 1 = y1 at *
  generalize f 2 = y2 at *
  generalize f 3 = y3 at *
  generalize f 4 = y4 at *
  generalize f 6 = y6 at *
  clear f ds
  have own' : W.ownsRow wr.heap.size 91 7 (.slice fa fn fcc) (F.map frC).length (F.map frC).flatten := by rw [List.length_map, ← hfn.out]; exact own
  obtain ⟨ao', cap', ee, q1, q2, q3, q4, q5⟩ := ownsR_at (rows_fr F) own'
  simp only [Value.slice.injEq] at ee
  obtain ⟨rfl, -, rfl⟩ := ee
  rw [List.length_map] at q1
  have ws : w.heap.size + 2 ≤ wr.heap.size := by have := (K.at_ 1 rfl).lt; omega
  have FF : Hid (Foot (fun b => wr.heap.size ≤ b ∧ b < W.heap.size ∧ b ≠ g) W fun U => FAt U fa F) := Lib.hid (rat_foot q3 (fun b o e hl => ⟨(q5 b o e).2.1, RAt.lt q3 b o e hl, fun z => ne5 (by rw [e, ← z]; rfl)⟩))
  have K1 := Lib.hid (K.on hb)
  have C0 := Lib.hid (CyI.start (L := L) (by omega : w.heap.size ≤ g) K1.out.old K1.out.old.size B3)
  have hws1 : Hid (w.heap.size + 2 ≤ W.heap.size) := by show _ ≤ _; have := (K1.out.at_ 1 rfl).lt; omega
  have q1' := Lib.hid q1
  have q2' := Lib.hid q2
  have q4' := Lib.hid q4
  have ws' := Lib.hid ws
  have hg' := Lib.hid hg
  generalize wr = wp at *
  clear own own' q1 q2 q3 q4 q5 ne5 K hb B3 ws hg haFw
  go_wp2_with fail
  go_loopw [4] (fun iv wr => ∃ (i : Nat) (N : List Bm) (v : Value), i ≤ bn ∧ iv = .int .i64 i ∧ CyI w W g lt fn fcc fa L i N v wr) (fun iv _ => bn - (intOf iv).toNat)
  case atStart => exact ⟨0, [], _, Nat.zero_le _, rfl, C0.out⟩
  case round =>
   obtain ⟨i, N, v, hi, rfl, C⟩ := hrel
   clear C0
   have sb := (K1.out.at_ 0 rfl).same C.size (C.same _ (K1.out.at_ 0 rfl).lt (by have := hg'.out; have := ws'.out; omega))
   have s2 := sb.at_ 2 _ rfl
   by_cases hlt : i < bn
   · have hin : (i : Int) < (bn : Int) := by omega
     have hil : Hid (i < L.length) := by show i < _; rw [hLM.out]; exact hlt
     have him : i < M.length := by have := hbn.out; omega
     obtain ⟨bb, bo, rfl, hbl, hrow⟩ := haB.out.row him
     have er : Hid (wr.rangeAt bb (bo + i * 18) (bmC (bmAt M i))) := Lib.hid fun k u e => (C.own.old.cell (p := ⟨bb, _, none⟩) hbl).trans (hrow k u e)
     have em : Hid ((bmAt M i).b = boAt L i) := by show _ = _; rw [← hML.out, bo_bm]
     have hm := haB.out.each _ (bm_mem him)
     have hWm := hW.out _ (bm_mem him)
     clear hrow hbl him
     generalize bmAt M i = m at *
     have l13 : Hid ((bmC m)[13]? = some (.slice m.wao m.b.wvs.length m.wcap)) := rfl
     have l16' : Hid (((bmC m).set 13 (.slice none 0 0))[16]? = some (.slice m.tao m.b.tab.rows.length m.tcap)) := rfl
     have hl0 : Hid ((bmC m).length = 18) := rfl
     have ho0 := bm_one m
     have hsn := ybody_store hl0.out ho0
     have nm : Hid (∀ a c ta tc, ((bmC m).set 13 (.slice a m.b.wvs.length c)).set 16 (.slice ta m.b.tab.rows.length tc) = bmC ⟨m.b, a, c, ta, tc⟩) := Lib.hid fun _ _ _ _ => rfl
     have hwA : Hid (VAt w m.wao m.b.wvs) := Lib.hid hm.wv
     have hwz := hm.wn
     have htz := hm.tn
     have hTb : Hid (TbAt w m.tao m.b.tab.rows) := Lib.hid hm.tb
     have hwl := hWm.wl
     have htl := hWm.tl.n
     have hSl := Lib.hid hWm.tl.l
     obtain ⟨nw, hnw⟩ : ∃ nw, nw = m.b.wvs.length := ⟨_, rfl⟩
     obtain ⟨tn, htn⟩ : ∃ tn, tn = m.b.tab.rows.length := ⟨_, rfl⟩
     rw [← hnw] at l13 nm hwl
     rw [← htn] at l16' nm htl
     replace hnw := Lib.hid hnw
     replace htn := Lib.hid htn
     clear hm hWm ho0
     generalize hL0 : bmC m = L0 at *
     replace hL0 := Lib.hid hL0
     generalize hWv : m.b.wvs = WV at *
     replace hWv := Lib.hid hWv
     generalize hT : m.b.tab.rows = T at *
     replace hT := Lib.hid hT
     have B5 := Lib.hid (BV.box wr 51 L0)
     have hb5 := Lib.hid ((Below.refl wr.heap.size wr).alloc (Nat.le_refl _) (objV 51 L0))
     simp only [objV] at B5 hb5
     replace C := Lib.hid C
     clear sb
     go_upto_region 6 with (refine wpList_load_mid rfl 51 (.tmp 27) rfl bb (bo + i * 18) rfl L0 _ er.out hud rfl (by rw [hl0.out]; exact sizeBody) ?_)
     clear s2 hsn
     generalize hw5 : wr.alloc _ = w5 at *
     have s5 : Hid (w5.heap.size = wr.heap.size + 1) := by show _ = _; rw [← hw5]; simp
     clear hw5 er
     have ba := (Below.refl w5.heap.size w5).alloc (Nat.le_refl _) (.cells #[] 115)
     have e13 := (B5.out.on ba).at_ 13 _ l13.out
     have hwA5 : Hid (RAt w5 m.wao 5 (WV.map wvC)) := Lib.hid (RAt.on hwA.out (C.out.own.old.trans (hb5.out.mono C.out.own.old.size)))
     have hnw2 : Hid (nw = (WV.map wvC).length) := by show _ = _; rw [List.length_map]; exact hnw.out
     have hmx : nw ≤ maxLen := by unfold maxLen; omega
     replace ba := Lib.hid ba
     generalize m.wao = wao at *
     generalize m.wcap = wcp at *
     generalize m.tao = tao at *
     generalize m.tcap = tcp at *
     go_wp2_with (at_builtin; refine wpList_copyR recWv rfl _ _ rfl rfl wao nw wcp (WV.map wvC) rfl hnw2.out hwz hwA5.out (rows_wv WV) hmx hwl ?_)
     intro aw cw w6 hC
     have B6 := B5.out.on hC.old
     have e13' := B6.at_ 13 _ l13.out
     have f13 := B6.fr 13 _ l13.out
     have B7 := Lib.hid (B6.set1 l13.out (.slice aw nw cw))
     have gr := grown_set w6 wr.heap.size 13 (.slice aw nw cw)
     have WF : Hid (Foot (fun b => w5.heap.size ≤ b) (w6.setCell ⟨wr.heap.size, 13, none⟩ (.slice aw nw cw)) fun U => RAt U aw 5 (WV.map wvC)) := Lib.hid (Foot.grow (rat_foot hC.at_ (fun b o e _ => (hC.own b o e).2.1)) gr (fun b pb e => by have := s5.out; have := Option.some.inj e; omega))
     have hb7 := Lib.hid ((hb5.out.trans (hC.old.mono hb5.out.size)).setCell (p := ⟨wr.heap.size, 13, none⟩) (Nat.le_refl _) (.slice aw nw cw))
     have s7 : Hid (w5.heap.size ≤ (w6.setCell ⟨wr.heap.size, 13, none⟩ (.slice aw nw cw)).heap.size) := by show _ ≤ _; have := hC.old.size; have := gr.size; omega
     have rmw : Hid (nw ≤ cw ∧ (aw = none → cw = 0)) := Lib.hid ⟨hC.room, hC.bare⟩
     have hbw : Hid (Below w.heap.size w (w6.setCell ⟨wr.heap.size, 13, none⟩ (.slice aw nw cw))) := Lib.hid (C.out.own.old.trans (hb7.out.mono C.out.own.size))
     have l16 : Hid ((L0.set 13 (.slice aw nw cw))[16]? = some (.slice tao tn tcp)) := by show _ = _; rw [List.getElem?_set_ne (by decide)]; have := l16'.out; rwa [List.getElem?_set_ne (by decide)] at this
     have hl1 : Hid ((L0.set 13 (.slice aw nw cw)).length = 18) := by show _ = _; rw [List.length_set]; exact hl0.out
     clear B5 hb5 hC B6 gr hwA5 hwA hnw2 ba l16' hwl hmx hl0
     generalize hL1 : L0.set 13 (.slice aw nw cw) = L1 at *
     have g16 := B7.out.at_ 16 _ l16.out
     go_wp2_with fail
     clear e13 e13' f13 g16
     generalize World.setCell _ _ _ = w7 at *
     have R0 := Lib.hid (Rwt.start w7 w7 T (Below.refl _ _) (Nat.le_refl _))
     generalize wr = wi at *
     go_loopw [7, 6] (fun kv sv wr => ∃ (k : Nat) (Mr : List (List Value)), k ≤ tn ∧ kv = .int .i64 k ∧ Rwt w7 T k Mr sv wr) (fun kv _ _ => tn - (intOf kv).toNat)
     case atStart => exact ⟨0, [], Nat.zero_le _, rfl, R0.out⟩
     case round =>
      obtain ⟨k, Mr, hk, rfl, R⟩ := hrel
      clear R0
      obtain ⟨av, nv, cv, rfl⟩ := own_any R.own
      have g16 := (B7.out.on R.own.old).at_ 16 _ l16.out
      by_cases hkt : k < tn
      · have hkn : (k : Int) < (tn : Int) := by omega
        have hkT : k < T.length := by have := htn.out; omega
        have R1 := Lib.hid (BV.box wr 68 [.slice none 0 0, .slice none 0 0, .slice none 0 0])
        have h0 := Lib.hid ((Below.refl wr.heap.size wr).alloc (Nat.le_refl _) (objV 68 [.slice none 0 0, .slice none 0 0, .slice none 0 0]))
        simp only [objV] at R1 h0
        replace R := Lib.hid R
        go_wp2_with fail
        clear g16
        generalize wr = wq at *
        go_loopw [9] (fun av wr => ∃ (a : Nat) (us : List Value), a ≤ 3 ∧ av = .int .i64 a ∧ us.length = 3 ∧ BV wr wq.heap.size us ∧ (∀ q, q < a → ∃ y, us[q]? = some y ∧ CpAt (wq.heap.size + 1) wr y (cfT T k q)) ∧ Below wq.heap.size wq wr) (fun av _ => 3 - (intOf av).toNat)
        case atStart => exact ⟨0, _, by omega, rfl, rfl, R1.out, fun q hq => by omega, h0.out⟩
        case round =>
         obtain ⟨a, us, ha3, rfl, hus, Rr, hq, h2⟩ := hrel
         clear R1 h0
         have ha' : a = 0 ∨ a = 1 ∨ a = 2 ∨ a = 3 := by omega
         rcases ha' with ha' | ha' | ha' | ha'
         · obtain rfl : a = 0 := by omega
           have B7w := (B7.out.on (R.out.own.old.trans (h2.mono R.out.own.old.size))).on ((Below.refl _ wr).alloc (Nat.le_refl _) (.cells #[] 169))
           have k16 := B7w.at_ 16 _ l16.out
           have bw := (hbw.out.trans ((R.out.own.old.trans (h2.mono R.out.own.old.size)).mono hbw.out.size))
           obtain ⟨tb, to_, v0, v1, v2, et, tbl, c0, c1, c2, f0, f1, f2⟩ := (hTb.out.on bw) k hkT
           subst et
           have ba := (Below.refl wr.heap.size wr).alloc (Nat.le_refl _) (.cells #[] 169)
           have cc := (ba.cell (p := ⟨tb, to_ + k * 3, none⟩) tbl).trans c0
           obtain ⟨ak, pk, rfl, m1, m2, m3, m4⟩ := f0
           obtain ⟨Lc, hLc⟩ : ∃ Lc, Lc = cfT T k 0 := ⟨_, rfl⟩
           have hr4 : Lc.length * 4 ≤ 140737488351232 := by rw [hLc]; exact hSl.out k 0 (by omega)
           rw [← hLc] at cc m1 m4
           have hmx : Lc.length ≤ maxLen := Nat.le_trans m1 m2
           generalize hl : Lc.length = l at *
           have m4' := Lib.hid m4
           have hhl : Hid (l = (Lc.map fsC).length) := Lib.hid (by rw [List.length_map]; exact hl.symm)
           replace hLc := Lib.hid hLc
           replace hl := Lib.hid hl
           replace B7w := Lib.hid B7w
           replace Rr := Lib.hid Rr
           replace hq := Lib.hid hq
           replace h2 := Lib.hid h2
           clear c0 c1 c2 m4 ba bw tbl m1 B7w
           go_wp2_with (at_builtin; refine wpList_copyR rec32 rfl _ _ rfl rfl ak l pk (Lc.map fsC) rfl hhl.out m3 m4'.out (rows_fs Lc) hmx hr4 ?_)
           intro ao' cap' w' hC
           rw [← hl.out] at hC
           have hsz : wq.heap.size + 1 ≤ wr.heap.size := by have := Rr.out.lt; omega
           have cp := copied_cp hC hsz
           rw [hl.out] at cp
           have hw2 := hC.old
           have R2 := Rr.out.on hw2
           obtain ⟨x, hx⟩ : ∃ x, us[0]? = some x := ⟨us[0]'(by omega), List.getElem?_eq_getElem (by omega)⟩
           have d0 := R2.at_ 0 _ hx
           have d1 := R2.fr 0 _ hx
           have R3 := Lib.hid (R2.set1 hx (.slice ao' l cap'))
           have hB3 := Lib.hid ((h2.out.trans (hw2.mono h2.out.size)).setCell (p := ⟨wq.heap.size, 0, none⟩) (Nat.le_refl _) (.slice ao' l cap'))
           have hq3 : Hid (∀ q, q < 0 + 1 → ∃ y, (us.set 0 (.slice ao' l cap'))[q]? = some y ∧ CpAt (wq.heap.size + 1) (w'.setCell ⟨wq.heap.size, 0, none⟩ (.slice ao' l cap')) y (cfT T k q)) := Lib.hid fun q hq' => by
            by_cases e : q < 0
            · obtain ⟨y, e1, e2⟩ := hq.out q e
              exact ⟨y, by rw [List.getElem?_set_ne (by omega)]; exact e1, (e2.on hw2).set (by omega) _⟩
            · have e : q = 0 := by omega
              subst e
              exact ⟨_, List.getElem?_set_self (by omega), by rw [← hLc.out]; exact cp.set (by omega) _⟩
           have hus' : Hid ((us.set 0 (.slice ao' l cap')).length = 3) := Lib.hid (by simp [hus])
           clear hC hsz cp hw2 R2 hx k16 cc hq Rr h2 m4' hhl hLc hl m2 m3 hr4 hmx
           go_wp2_with fail
           go_roundw
           case rel => exact ⟨0 + 1, _, by omega, by go_num, hus'.out, R3.out, hq3.out, hB3.out⟩
           case measure => first | (simp [intOf]; done) | (simp [intOf]; omega)
         · obtain rfl : a = 1 := by omega
           have B7w := (B7.out.on (R.out.own.old.trans (h2.mono R.out.own.old.size))).on ((Below.refl _ wr).alloc (Nat.le_refl _) (.cells #[] 169))
           have k16 := B7w.at_ 16 _ l16.out
           have bw := (hbw.out.trans ((R.out.own.old.trans (h2.mono R.out.own.old.size)).mono hbw.out.size))
           obtain ⟨tb, to_, v0, v1, v2, et, tbl, c0, c1, c2, f0, f1, f2⟩ := (hTb.out.on bw) k hkT
           subst et
           have ba := (Below.refl wr.heap.size wr).alloc (Nat.le_refl _) (.cells #[] 169)
           have cc := (ba.cell (p := ⟨tb, to_ + k * 3 + 1, none⟩) tbl).trans c1
           obtain ⟨ak, pk, rfl, m1, m2, m3, m4⟩ := f1
           obtain ⟨Lc, hLc⟩ : ∃ Lc, Lc = cfT T k 1 := ⟨_, rfl⟩
           have hr4 : Lc.length * 4 ≤ 140737488351232 := by rw [hLc]; exact hSl.out k 1 (by omega)
           rw [← hLc] at cc m1 m4
           have hmx : Lc.length ≤ maxLen := Nat.le_trans m1 m2
           generalize hl : Lc.length = l at *
           have m4' := Lib.hid m4
           have hhl : Hid (l = (Lc.map fsC).length) := Lib.hid (by rw [List.length_map]; exact hl.symm)
           replace hLc := Lib.hid hLc
           replace hl := Lib.hid hl
           replace B7w := Lib.hid B7w
           replace Rr := Lib.hid Rr
           replace hq := Lib.hid hq
           replace h2 := Lib.hid h2
           clear c0 c1 c2 m4 ba bw tbl m1 B7w
           go_wp2_with (at_builtin; refine wpList_copyR rec32 rfl _ _ rfl rfl ak l pk (Lc.map fsC) rfl hhl.out m3 m4'.out (rows_fs Lc) hmx hr4 ?_)
           intro ao' cap' w' hC
           rw [← hl.out] at hC
           have hsz : wq.heap.size + 1 ≤ wr.heap.size := by have := Rr.out.lt; omega
           have cp := copied_cp hC hsz
           rw [hl.out] at cp
           have hw2 := hC.old
           have R2 := Rr.out.on hw2
           obtain ⟨x, hx⟩ : ∃ x, us[1]? = some x := ⟨us[1]'(by omega), List.getElem?_eq_getElem (by omega)⟩
           have d0 := R2.at_ 1 _ hx
           have d1 := R2.fr 1 _ hx
           have R3 := Lib.hid (R2.set1 hx (.slice ao' l cap'))
           have hB3 := Lib.hid ((h2.out.trans (hw2.mono h2.out.size)).setCell (p := ⟨wq.heap.size, 1, none⟩) (Nat.le_refl _) (.slice ao' l cap'))
           have hq3 : Hid (∀ q, q < 1 + 1 → ∃ y, (us.set 1 (.slice ao' l cap'))[q]? = some y ∧ CpAt (wq.heap.size + 1) (w'.setCell ⟨wq.heap.size, 1, none⟩ (.slice ao' l cap')) y (cfT T k q)) := Lib.hid fun q hq' => by
            by_cases e : q < 1
            · obtain ⟨y, e1, e2⟩ := hq.out q e
              exact ⟨y, by rw [List.getElem?_set_ne (by omega)]; exact e1, (e2.on hw2).set (by omega) _⟩
            · have e : q = 1 := by omega
              subst e
              exact ⟨_, List.getElem?_set_self (by omega), by rw [← hLc.out]; exact cp.set (by omega) _⟩
           have hus' : Hid ((us.set 1 (.slice ao' l cap')).length = 3) := Lib.hid (by simp [hus])
           clear hC hsz cp hw2 R2 hx k16 cc hq Rr h2 m4' hhl hLc hl m2 m3 hr4 hmx
           go_wp2_with fail
           go_roundw
           case rel => exact ⟨1 + 1, _, by omega, by go_num, hus'.out, R3.out, hq3.out, hB3.out⟩
           case measure => first | (simp [intOf]; done) | (simp [intOf]; omega)
         · obtain rfl : a = 2 := by omega
           have B7w := (B7.out.on (R.out.own.old.trans (h2.mono R.out.own.old.size))).on ((Below.refl _ wr).alloc (Nat.le_refl _) (.cells #[] 169))
           have k16 := B7w.at_ 16 _ l16.out
           have bw := (hbw.out.trans ((R.out.own.old.trans (h2.mono R.out.own.old.size)).mono hbw.out.size))
           obtain ⟨tb, to_, v0, v1, v2, et, tbl, c0, c1, c2, f0, f1, f2⟩ := (hTb.out.on bw) k hkT
           subst et
           have ba := (Below.refl wr.heap.size wr).alloc (Nat.le_refl _) (.cells #[] 169)
           have cc := (ba.cell (p := ⟨tb, to_ + k * 3 + 2, none⟩) tbl).trans c2
           obtain ⟨ak, pk, rfl, m1, m2, m3, m4⟩ := f2
           obtain ⟨Lc, hLc⟩ : ∃ Lc, Lc = cfT T k 2 := ⟨_, rfl⟩
           have hr4 : Lc.length * 4 ≤ 140737488351232 := by rw [hLc]; exact hSl.out k 2 (by omega)
           rw [← hLc] at cc m1 m4
           have hmx : Lc.length ≤ maxLen := Nat.le_trans m1 m2
           generalize hl : Lc.length = l at *
           have m4' := Lib.hid m4
           have hhl : Hid (l = (Lc.map fsC).length) := Lib.hid (by rw [List.length_map]; exact hl.symm)
           replace hLc := Lib.hid hLc
           replace hl := Lib.hid hl
           replace B7w := Lib.hid B7w
           replace Rr := Lib.hid Rr
           replace hq := Lib.hid hq
           replace h2 := Lib.hid h2
           clear c0 c1 c2 m4 ba bw tbl m1 B7w
           go_wp2_with (at_builtin; refine wpList_copyR rec32 rfl _ _ rfl rfl ak l pk (Lc.map fsC) rfl hhl.out m3 m4'.out (rows_fs Lc) hmx hr4 ?_)
           intro ao' cap' w' hC
           rw [← hl.out] at hC
           have hsz : wq.heap.size + 1 ≤ wr.heap.size := by have := Rr.out.lt; omega
           have cp := copied_cp hC hsz
           rw [hl.out] at cp
           have hw2 := hC.old
           have R2 := Rr.out.on hw2
           obtain ⟨x, hx⟩ : ∃ x, us[2]? = some x := ⟨us[2]'(by omega), List.getElem?_eq_getElem (by omega)⟩
           have d0 := R2.at_ 2 _ hx
           have d1 := R2.fr 2 _ hx
           have R3 := Lib.hid (R2.set1 hx (.slice ao' l cap'))
           have hB3 := Lib.hid ((h2.out.trans (hw2.mono h2.out.size)).setCell (p := ⟨wq.heap.size, 2, none⟩) (Nat.le_refl _) (.slice ao' l cap'))
           have hq3 : Hid (∀ q, q < 2 + 1 → ∃ y, (us.set 2 (.slice ao' l cap'))[q]? = some y ∧ CpAt (wq.heap.size + 1) (w'.setCell ⟨wq.heap.size, 2, none⟩ (.slice ao' l cap')) y (cfT T k q)) := Lib.hid fun q hq' => by
            by_cases e : q < 2
            · obtain ⟨y, e1, e2⟩ := hq.out q e
              exact ⟨y, by rw [List.getElem?_set_ne (by omega)]; exact e1, (e2.on hw2).set (by omega) _⟩
            · have e : q = 2 := by omega
              subst e
              exact ⟨_, List.getElem?_set_self (by omega), by rw [← hLc.out]; exact cp.set (by omega) _⟩
           have hus' : Hid ((us.set 2 (.slice ao' l cap')).length = 3) := Lib.hid (by simp [hus])
           clear hC hsz cp hw2 R2 hx k16 cc hq Rr h2 m4' hhl hLc hl m2 m3 hr4 hmx
           go_wp2_with fail
           go_roundw
           case rel => exact ⟨2 + 1, _, by omega, by go_num, hus'.out, R3.out, hq3.out, hB3.out⟩
           case measure => first | (simp [intOf]; done) | (simp [intOf]; omega)
         · obtain rfl : a = 3 := by omega
           obtain ⟨x0, e0, z0⟩ := hq 0 (by omega)
           obtain ⟨x1, e1, z1⟩ := hq 1 (by omega)
           obtain ⟨x2, e2, z2⟩ := hq 2 (by omega)
           obtain ⟨y0, y1, y2, rfl⟩ := list3 hus
           obtain rfl := Option.some.inj e0
           obtain rfl := Option.some.inj e1
           obtain rfl := Option.some.inj e2
           have Q0 := Lib.hid z0
           have Q1 := Lib.hid z1
           have Q2 := Lib.hid z2
           obtain ⟨a0, p0, rfl, -⟩ := z0.at_
           obtain ⟨a1, p1, rfl, -⟩ := z1.at_
           obtain ⟨a2, p2, rfl, -⟩ := z2.at_
           have OWN := Lib.hid (R.out.on h2).own
           have d0 := Rr.at_ 0 _ rfl
           have d1 := Rr.at_ 1 _ rfl
           have d2 := Rr.at_ 2 _ rfl
           have lM := R.out.len
           have hlen : Hid ((Mr.length + 1) * 72 ≤ 140737488355328) := Lib.hid (by rw [lM]; omega)
           have hmx : Hid (Mr.length + 1 ≤ maxLen) := Lib.hid (by rw [lM]; unfold maxLen; omega)
           have hws7 := Lib.hid R.out.own.size
           generalize hx0 : (cfT T k 0).length = n0 at *
           generalize hx1 : (cfT T k 1).length = n1 at *
           generalize hx2 : (cfT T k 2).length = n2 at *
           replace h2 := Lib.hid h2
           clear e0 e1 e2 hq z0 z1 z2 Rr hus lM hx0 hx1 hx2
           go_wp2_with (at_builtin; refine wpList_pushR2 recRw rfl _ _ rfl _ Mr rfl OWN.out [.slice a0 n0 p0, .slice a1 n1 p1, .slice a2 n2 p2] rfl (by intro u hu; simp only [List.mem_cons, List.not_mem_nil, or_false] at hu; rcases hu with rfl | rfl | rfl <;> rfl) rfl hlen.out hmx.out ?_)
           intro v' w' o1 g1 h4
           have FIN := Lib.hid (R.out.push hws7.out h2.out (Q0.out.mono (by omega)) (Q1.out.mono (by omega)) (Q2.out.mono (by omega)) o1 g1 h4)
           obtain ⟨an, nn', cn, rfl⟩ := own_any o1
           clear o1 g1 h4 d0 d1 d2 Q0 Q1 Q2 OWN hlen hmx h2 R hws7
           go_wp2_with fail
           go_roundw
           case rel => exact ⟨k + 1, _, hkt, by go_num, FIN.out⟩
           case measure => simp [intOf]; omega
      · obtain rfl : tn = k := by omega
        have Rw := R
        rw [htn.out] at Rw
        obtain ⟨ta, tc, eR, t1, t2, t3, TF⟩ := Rw.foot
        simp only [Value.slice.injEq] at eR
        obtain ⟨rfl, -, rfl⟩ := eR
        have hnv : nv = tn := by rw [htn.out]; exact (by obtain ⟨x, y, z, -⟩ := Rw.tb; simp only [Value.slice.injEq] at z; exact z.2.1)
        subst hnv
        have B8 := B7.out.on R.own.old
        have k16 := B8.at_ 16 _ l16.out
        have j16 := B8.fr 16 _ l16.out
        have B9 := B8.set1 l16.out (.slice av nv cv)
        have gr := grown_set wr wi.heap.size 16 (.slice av nv cv)
        have en : L1.set 16 (.slice av nv cv) = bmC ⟨m.b, aw, cw, av, cv⟩ := by rw [← hL1]; exact nm.out aw cw av cv
        rw [en] at B9
        have h9 : Below wi.heap.size wi (wr.setCell ⟨wi.heap.size, 16, none⟩ (.slice av nv cv)) := (hb7.out.trans (R.own.old.mono hb7.out.size)).setCell (Nat.le_refl _) _
        have FM : Hid (Foot (fun b => wi.heap.size ≤ b) (wr.setCell ⟨wi.heap.size, 16, none⟩ (.slice av nv cv)) fun U => BmAt U ⟨m.b, aw, cw, av, cv⟩) := Lib.hid fun U hs hk => by
         have F1 : Foot (fun b => w5.heap.size ≤ b) (wr.setCell ⟨wi.heap.size, 16, none⟩ (.slice av nv cv)) fun U => RAt U aw 5 (WV.map wvC) := (WF.out.on R.own.old).grow gr (fun b pb e => by have := s5.out; have := Option.some.inj e; omega)
         have F2 : Foot (fun b => w7.heap.size ≤ b) (wr.setCell ⟨wi.heap.size, 16, none⟩ (.slice av nv cv)) fun U => TbAt U av T := TF.grow gr (fun b pb e => by have := s5.out; have := s7.out; have := Option.some.inj e; omega)
         have G1 := F1 U hs (fun b pb hl => hk b (by have := s5.out; omega) hl)
         have G2 := F2 U hs (fun b pb hl => hk b (by have := s5.out; have := s7.out; omega) hl)
         rw [← hWv.out] at G1
         rw [← hT.out] at G2
         exact ⟨G1, G2, by rw [hWv.out, ← hnw.out]; exact rmw.out.1, by rw [hT.out]; exact t1, rmw.out.2, t3⟩
        have oB := (C.out.on h9).out
        have o2 := oB.at_ 2 _ rfl
        have er9 : Hid ((wr.setCell ⟨wi.heap.size, 16, none⟩ (.slice av nv cv)).rangeAt wi.heap.size 0 (bmC ⟨m.b, aw, cw, av, cv⟩)) := Lib.hid fun j u e => by rw [Nat.zero_add]; exact B9.at_ j u e
        have OWN := Lib.hid (C.out.on h9).own
        have lN : N.length = i := by have := congrArg List.length C.out.eq; rw [List.length_map, List.length_take] at this; have := hil.out; omega
        have hlen : Hid (((N.map bmC).length + 1) * 176 ≤ 140737488355328) := Lib.hid (by rw [List.length_map, lN]; omega)
        have hmx : Hid ((N.map bmC).length + 1 ≤ maxLen) := Lib.hid (by rw [List.length_map, lN]; unfold maxLen; omega)
        have ho9 := bm_one ⟨m.b, aw, cw, av, cv⟩
        have hl9 : Hid ((bmC ⟨m.b, aw, cw, av, cv⟩).length = 18) := rfl
        obtain ⟨vo, vn, vc, rfl⟩ := own_any C.out.own
        replace h9 := Lib.hid h9
        clear B8 B9 gr R TF oB Rw t1 t2 t3 lN hb7 WF B7
        have one9 : Hid (∀ u ∈ bmC ⟨m.b, aw, cw, av, cv⟩, u.oneCell' = true) := Lib.hid fun u hu => by
         have := ho9
         rw [Array.all_eq_true_iff_forall_mem] at this
         exact this u (by simpa using hu)
        generalize hL9 : bmC ⟨m.b, aw, cw, av, cv⟩ = L9 at *
        go_upto_region 18 with fail
        clear k16 j16
        generalize World.setCell _ _ _ = w9 at *
        go_wp2_with (first | (refine wpList_load_mid rfl 51 (.tmp 5) rfl wi.heap.size 0 rfl L9 _ er9.out hud rfl (by rw [hl9.out]; exact sizeBody) ?_) | (refine wpList_build1 rfl (.tmp 67) rfl L9 rfl hl9.out ?_) | (at_builtin; refine wpList_pushR2 recBd rfl _ _ rfl _ (N.map bmC) rfl OWN.out L9 hl9.out one9.out rfl hlen.out hmx.out ?_))
        intro v' w' z1 z2 z3
        rw [← hL9] at z1 z2
        obtain ⟨P1, P2, P3⟩ := C.out.push (m := ⟨m.b, aw, cw, av, cv⟩) hil.out em.out h9.out FM.out z1 z2 z3
        have FIN := Lib.hid P1
        obtain ⟨xn, yn, zn, rfl⟩ := own_any z1
        clear P1 z1 z2 z3 C FM h9 OWN er9 one9 o2
        go_wp2_with fail
        go_roundw
        case rel => exact ⟨i + 1, _, _, hlt, by go_num, FIN.out⟩
        case measure => simp [intOf]; omega
   · obtain rfl : i = bn := by omega
     obtain ⟨vo, vn, vc, rfl⟩ := own_any C.own
     have rb := (K1.out.at_ 1 rfl).same C.size (C.same _ (K1.out.at_ 1 rfl).lt (by have := hg'.out; have := ws'.out; omega))
     have o0 := C.out.at_ 0 _ rfl
     have o1 := C.out.at_ 1 _ rfl
     have o2 := C.out.at_ 2 _ rfl
     have r0 := rb.at_ 0 _ rfl
     have r1 := rb.at_ 1 _ rfl
     have r2 := rb.at_ 2 _ rfl
     have x0 := rb.fr 0 _ rfl
     have x1 := rb.fr 1 _ rfl
     have x2 := rb.fr 2 _ rfl
     have gr := grown_puts wr (w.heap.size + 1) [.float .f64 lt, .slice fa fn fcc, .slice vo vn vc] 0
     have hbe := putV_below (B := w.heap.size) (u := w) (g := w.heap.size + 1) (by omega) [.float .f64 lt, .slice fa fn fcc, .slice vo vn vc] (w := wr) 0 C.own.old
     have C' := C
     rw [← hLM.out] at C'
     obtain ⟨hn, SS⟩ := CpS.fin C' ws'.out FF.out gr q1'.out q2'.out q4'.out hws1.out
     have hn' : vn = i := hn.trans hLM.out
     subst hn'
     simp only [putV] at SS hbe
     replace SS := Lib.hid SS
     replace hbe := Lib.hid hbe
     clear C C' gr rb sb hn FF
     go_wp2_with fail
     (try simp only [Exit.inBlock, Exit.then])
     refine bodyPost_ret (v := .agg #[.float .f64 lt, .slice fa fn fcc, .slice vo vn vc]) ?_ rfl ⟨⟨fa, fcc, vo, vc, N, rfl, SS.out⟩, hbe.out⟩
     rw [results_cell1 rfl]; go_simp
theorem rcopy_run {S : Sy} (hW : SyW S) {M : List Bm} (hM : M.map Bm.b = S.bs) {fc bc : Nat} {fao bao : Option Addr} {w : World} (hfz : fao = none → fc = 0) (hfb : S.fs.length * 56 ≤ 140737488351232) (hbb : S.bs.length * 176 ≤ 140737488351232) (ha : SkAt w S fao bao M) :
 Calls Tryz.prog 10 #[.agg #[.float .f64 S.lt, .slice fao S.fs.length fc, .slice bao S.bs.length bc]] w fun e w' => CpE w S.lt S.fs.length S.bs.length S.fs S.bs e w' ∧ Below w.heap.size w w' :=
 rcopy_shape hM rfl hfz hfb (by rw [← hM, List.length_map]) hbb ha.fs ha.bs (fun m hm => hW.bs _ (by rw [← hM]; exact List.mem_map_of_mem hm))
end Go.Proofs.YtacinenddnfcbaaGreat
