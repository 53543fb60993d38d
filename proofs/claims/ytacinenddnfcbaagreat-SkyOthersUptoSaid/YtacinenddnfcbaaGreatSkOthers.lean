/- Proved here: for all skies, bodies, times and vectors that the second form names the law SkyOthers returns true: bodies about which one does not go are not seen in its place. -/
import Derived.Test.YtacinenddnfcbaaGreatRows
import Derived.Test.YtacinenddnfcbaaGreatJy30
import Derived.JoinedCond
import Derived.Deep.CondSized
set_option maxHeartbeats 2000000
set_option maxRecDepth 100000
namespace Go.Proofs.YtacinenddnfcbaaGreat.skyOthers
open Go.ChangeShapes Go.WideShapes Go.ChangeAt Go.RowKit

theorem bulk_pos {H : Type} (d : DataW H) : 1 ≤ Rows.uptoBulk d := by
 cases d with
 | lit l => cases l <;> simp [Rows.uptoBulk]
 | nil => simp [Rows.uptoBulk]
 | ptr d => simp [Rows.uptoBulk]
 | slice es sp => simp [Rows.uptoBulk]
 | agg ps => simp [Rows.uptoBulk]
 | iface _ d => simp [Rows.uptoBulk]
 | map es => simp [Rows.uptoBulk]
 | held _ => simp [Rows.uptoBulk]
theorem bulk_len {H : Type} : ∀ (es : List (DataW H)), es.length ≤ Rows.uptoBulkAll es
 | [] => by simp [Rows.uptoBulkAll]
 | d :: es => by
   have a := bulk_pos d
   have b := bulk_len es
   simp only [Rows.uptoBulkAll, List.length_cons]
   omega
theorem bulk_get {H : Type} : ∀ {es : List (DataW H)} {i : Nat} {d : DataW H}, es[i]? = some d → Rows.uptoBulk d ≤ Rows.uptoBulkAll es
 | [], i, d, h => by simp at h
 | e :: es, 0, d, h => by
   simp at h
   subst h
   simp only [Rows.uptoBulkAll]
   omega
 | e :: es, i + 1, d, h => by
   have := bulk_get (es := es) (i := i) (d := d) (by simpa using h)
   simp only [Rows.uptoBulkAll]
   omega
theorem ld_up {H : Type} {p : DataW H} {L : List Nat} (h : LD p L) (hk : Rows.uptoBulk p ≤ 1048576) : L.length ≤ 1048576 := by
 rcases h with ⟨rfl, -⟩ | ⟨es, sp, rfl, e⟩
 · simp
 · have := bulk_len es
   simp only [Rows.uptoBulk] at hk
   omega
theorem td_up {H : Type} {d0 d1 d2 : DataW H} {rest : List (DataW H)} {t : Tb} (h : TD d2 t.rows) (hk : Rows.uptoBulkAll (.agg [d0, d1, d2] :: rest) ≤ 1048576) : TbUp t := by
 refine ⟨fun i k hk3 => ?_⟩
 by_cases hi : i < t.rows.length
 · rcases h with ⟨e, -⟩ | ⟨es, sp, rfl, e, hr⟩
   · rw [e] at hi; simp at hi
   · obtain ⟨p0, p1, p2, ei, l0, l1, l2⟩ := hr i hi
     have a := bulk_get ei
     simp only [Rows.uptoBulkAll, Rows.uptoBulk] at hk a
     have : k = 0 ∨ k = 1 ∨ k = 2 := by omega
     rcases this with rfl | rfl | rfl
     · exact ld_up l0 (by omega)
     · exact ld_up l1 (by omega)
     · exact ld_up l2 (by omega)
 · rw [cf_out hi]; simp
theorem sky_up {H : Type} {W : World} {S : Sy} {fao bao : Option Addr} {fc bc : Nat} {M : List Bm} {d : DataW H} {rest : List (DataW H)} (G : SkG W S fao bao fc bc M d) (hk : Rows.uptoBulkAll (d :: rest) ≤ 1048576) : ∀ b ∈ S.bs, TbUp b.tab := by
 intro b hb
 obtain ⟨d0, d1, d2, rfl, -, hB⟩ := G.data
 have lM : M.length = S.bs.length := by rw [← G.eq, List.length_map]
 rcases hB with e | ⟨es, sp, rfl, e, hj⟩
 · rw [e] at hb; cases hb
 · rw [← G.eq] at hb
   obtain ⟨m, hm, rfl⟩ := List.mem_map.1 hb
   obtain ⟨j, hjl, rfl⟩ := List.mem_iff_getElem.1 hm
   obtain ⟨d', ed, e0, e1, e2, e3, e4, e5, e7, t0, t1, t2, rfl, -, ht⟩ := hj j hjl
   rw [show bmAt M j = M[j] by unfold bmAt; simp [List.getD, hjl]] at ht
   have a := bulk_get ed
   refine td_up (d0 := t0) (d1 := t1) (rest := []) ht ?_
   simp only [Rows.uptoBulkAll, Rows.uptoBulk] at hk a ⊢
   omega
theorem walk (w : World) (S0 : Sy) (fao0 bao0 : Option Addr) (fc0 bc0 : Nat) (M0 : List Bm) (hM0 : M0.map Bm.b = S0.bs) (ha0 : SkAt w S0 fao0 bao0 M0) (hz0 : fao0 = none → fc0 = 0) (Z0 : SkZ S0) (hU0 : ∀ b ∈ S0.bs, TbUp b.tab) (a1 : Int) (_h1 : (Lit.int .i64 a1).wf = true) (a2 : Int) (_h2 : (Lit.int .i64 a2).wf = true) (a3 : Nat) (h3 : a3 < 18446744073709551616) (a4 : V3) (h4 : W3 a4) :
 Calls Tryz.prog 5 #[.agg #[.float .f64 S0.lt, .slice fao0 S0.fs.length fc0, .slice bao0 S0.bs.length bc0], .int .i64 a1, .int .i64 a2, .float .f64 a3, vecV a4] w fun e w' => e = .returned (.bool true) ∧ Below w.heap.size w w' := by
 have AW := Lib.hid awake15
 have CC := Lib.hid (fun W (h : Below w.heap.size w W) => rcopy_run Z0.w hM0 hz0 Z0.f Z0.b (bc := bc0) (fc := fc0) (ha0.on h))
 have RC : Hid (∀ W, Below w.heap.size w W → Calls Tryz.prog 12 #[.agg #[.float .f64 S0.lt, .slice fao0 S0.fs.length fc0, .slice bao0 S0.bs.length bc0]] W fun e w' => e = .returned (.int .i64 (chkRS S0)) ∧ Below W.heap.size W w') := Lib.hid fun W h => rcheck15_run Z0.w hU0 hM0 (ha0.on h)
 have AB : Hid (chkRS S0 = 0 → 0 ≤ a1 → a1 < (S0.bs.length : Int) → ∀ W, Below w.heap.size w W → Calls Tryz.prog 17 #[.agg #[.float .f64 S0.lt, .slice fao0 S0.fs.length fc0, .slice bao0 S0.bs.length bc0], .int .i64 a1, .int .i64 a2] W fun e w' => e = .returned (.bool (abS S0.bs S0.bs.length a1 a2)) ∧ Below W.heap.size W w') := Lib.hid fun hc i0 i1 W h => about15_run hM0 (lower_of (chk_of Z0.w hc)) (by rw [← hM0, List.length_map]) i0 i1 (ha0.on h).bs
 have P1 : Hid (∀ (W : World) (fa ba : Option Addr) (fcc bcc : Nat) (N : List Bm), N.map Bm.b = S0.bs → SkAt W S0 fa ba N → Calls Tryz.prog 13 #[.agg #[.float .f64 S0.lt, .slice fa S0.fs.length fcc, .slice ba S0.bs.length bcc], .int .i64 a1, .float .f64 a3] W fun e w' => e = .returned (vecE (plS S0 a1 a3).1 (plS S0 a1 a3).2) ∧ Below W.heap.size W w') := Lib.hid fun W fa ba fcc bcc N h g => yplace_run Z0.w h h3 g
 obtain ⟨x1, x2, x3⟩ := a4
 unfold vecV
 dsimp only at *
 have K0 := kv2 w 26 41 [.float .f64 S0.lt, .slice fao0 S0.fs.length fc0, .slice bao0 S0.bs.length bc0] [.float .f64 x1, .float .f64 x2, .float .f64 x3]
 simp only [objV] at K0
 replace K0 := Lib.hid K0
 have hst := @fstore
 replace hM0 := Lib.hid hM0
 replace ha0 := Lib.hid ha0
 go_enter Tryz.func5, Tryz.ntmps5
 go_wp2_with fail
 replace K0 := K0.out
 have K := K0
 clear K0
 generalize (w.alloc _).alloc _ = wr at *
 refine (AW.out wr).mono ?_
 rintro _ v1 ⟨rfl, hb⟩
 replace K := K.on hb
 clear hb AW
 have c0_0 := (K.at_ 0 rfl).at_ 0 _ rfl
 have c0_1 := (K.at_ 0 rfl).at_ 1 _ rfl
 have c0_2 := (K.at_ 0 rfl).at_ 2 _ rfl
 replace K := Lib.hid K
 go_wp2_with fail
 refine (RC.out _ K.out.old).mono ?_
 rintro _ v2 ⟨rfl, hb⟩
 clear RC c0_0 c0_1 c0_2
 replace K := K.out.on hb
 clear hb
 have c0_0 := (K.at_ 0 rfl).at_ 0 _ rfl
 have c0_1 := (K.at_ 0 rfl).at_ 1 _ rfl
 have c0_2 := (K.at_ 0 rfl).at_ 2 _ rfl
 replace K := Lib.hid K
 have FIN : Hid True := Lib.hid trivial
 by_cases hc : chkRS S0 = 0
 case neg =>
  have hc' : (chkRS S0 != 0) = true := by simpa using hc
  clear AB P1
  generalize chkRS S0 = kc at *
  go_wp2_with fail
  go_ret
  exact ⟨by first | rfl | trivial, K.out.old⟩
 case pos =>
  rw [hc]
  by_cases i0 : a1 < 0
  · clear AB P1
    go_wp2_with fail
    go_ret
    exact ⟨by first | rfl | trivial, K.out.old⟩
  by_cases i1 : (S0.bs.length : Int) ≤ a1
  · clear AB P1
    go_wp2_with fail
    go_ret
    exact ⟨by first | rfl | trivial, K.out.old⟩
  by_cases j0 : a2 < 0
  · clear AB P1
    go_wp2_with fail
    go_ret
    exact ⟨by first | rfl | trivial, K.out.old⟩
  by_cases j1 : (S0.bs.length : Int) ≤ a2
  · clear AB P1
    go_wp2_with fail
    go_ret
    exact ⟨by first | rfl | trivial, K.out.old⟩
  have AB1 := Lib.hid (AB.out hc (by omega) (by omega))
  have hc2 := Lib.hid hc
  clear AB hc
  obtain ⟨k, rfl⟩ : ∃ k : Nat, a2 = k := ⟨a2.toNat, by omega⟩
  have hkl : Hid (k < S0.bs.length) := by show k < _; omega
  have hk2 : (k : Int) < (S0.bs.length : Int) := by omega
  have OTH : Hid (abS S0.bs S0.bs.length a1 k = false → ∀ v : V3, chkS (fxS S0 k v) = 0 → plS S0 a1 a3 = plS (fxS S0 k v) a1 a3) := Lib.hid fun h v g => pl_others hkl.out (chk_of Z0.w hc2.out) g h
  generalize hab : abS S0.bs S0.bs.length a1 k = ab at *
  replace hab := Lib.hid hab
  go_wp2_with fail
  refine (AB1.out _ K.out.old).mono ?_
  rintro _ v3 ⟨rfl, hb⟩
  clear AB1 c0_0 c0_1 c0_2
  replace K := K.out.on hb
  clear hb
  cases ab with
  | true =>
    replace K := Lib.hid K
    clear P1 OTH
    go_wp2_with fail
    go_ret
    exact ⟨by first | rfl | trivial, K.out.old⟩
  | false =>
    have c0_0 := (K.at_ 0 rfl).at_ 0 _ rfl
    have c0_1 := (K.at_ 0 rfl).at_ 1 _ rfl
    have c0_2 := (K.at_ 0 rfl).at_ 2 _ rfl
    replace K := Lib.hid K
    replace OTH := Lib.hid (OTH.out rfl)
    go_wp2_with fail
    refine (CC.out _ K.out.old).mono ?_
    rintro _ v4 ⟨hce, hb⟩
    obtain ⟨fa, fcc, ba, bcc, N, rfl, CS⟩ := hce
    have K3 := K
    obtain ⟨b, y0, y3, y4, y5, rfl, hbw, hbl, e0, e3, e4, e5, f0, f3, f4, f5, N1, eN1, SKN⟩ := CS.fix hkl.out (x1, x2, x3)
    dsimp only at SKN
    replace K := (K.out.on hb)
    replace K := K.new 26 [.float .f64 S0.lt, .slice fa S0.fs.length fcc, .slice (some ⟨b, 0, none⟩) S0.bs.length bcc]
    simp only [objV, List.cons_append, List.nil_append] at K
    have hal := (Below.refl v4.heap.size v4).alloc (Nat.le_refl _) (.cells #[.float .f64 S0.lt, .slice fa S0.fs.length fcc, .slice (some ⟨b, 0, none⟩) S0.bs.length bcc] 26)
    have SKU := SKN _ hal
    have E0 := (hal.cell (p := ⟨b, k * 18, none⟩) hbl).trans e0
    have E3 := (hal.cell (p := ⟨b, k * 18 + 3, none⟩) hbl).trans e3
    have E4 := (hal.cell (p := ⟨b, k * 18 + 4, none⟩) hbl).trans e4
    have E5 := (hal.cell (p := ⟨b, k * 18 + 5, none⟩) hbl).trans e5
    have F0 := (frozen_on hal ⟨b, k * 18, none⟩ hbl).trans f0
    have F3 := (frozen_on hal ⟨b, k * 18 + 3, none⟩ hbl).trans f3
    have F4 := (frozen_on hal ⟨b, k * 18 + 4, none⟩ hbl).trans f4
    have F5 := (frozen_on hal ⟨b, k * 18 + 5, none⟩ hbl).trans f5
    have hK3 : Hid (w.heap.size + 2 ≤ v3.heap.size) := by show _ ≤ _; have := (K3.out.at_ 1 rfl).lt; omega
    clear K3
    have hbg : Hid (b ≠ v4.heap.size) := by show b ≠ _; omega
    have hbv : Hid (v3.heap.size ≤ b) := Lib.hid hbw
    have hb4 := Lib.hid hb
    clear hb CS SKN e0 e3 e4 e5 f0 f3 f4 f5 hal c0_0 c0_1 c0_2
    have s2_0 := (K.at_ 2 rfl).at_ 0 _ rfl
    have s2_1 := (K.at_ 2 rfl).at_ 1 _ rfl
    have s2_2 := (K.at_ 2 rfl).at_ 2 _ rfl
    have s1_0 := (K.at_ 1 rfl).at_ 0 _ rfl
    have s1_1 := (K.at_ 1 rfl).at_ 1 _ rfl
    have s1_2 := (K.at_ 1 rfl).at_ 2 _ rfl
    replace K := Lib.hid K
    replace SKU := Lib.hid SKU
    go_upto_region 6 with fail
    have hu4 : Hid (v4.heap.size ≤ (v4.alloc (.cells #[.float .f64 S0.lt, .slice fa S0.fs.length fcc, .slice (some ⟨b, 0, none⟩) S0.bs.length bcc] 26)).heap.size) := by show _ ≤ _; simp
    generalize v4.alloc _ = u4 at *
    have hsi := istoreY
    have hn1 : ¬ (b = w.heap.size + 1) := by have := hbv.out; have := hK3.out; omega
    have hn2 : ¬ (w.heap.size + 1 = b) := fun e => hn1 e.symm
    have hn3 : ¬ (b = v4.heap.size) := hbg.out
    have hn4 : ¬ (v4.heap.size = b) := fun e => hn3 e.symm
    go_big_region
    clear hn1 hn2 hn3 hn4 hsi E0 E3 E4 E5 F0 F3 F4 F5 s1_0 s1_1 s1_2 s2_0 s2_1 s2_2
    have G := Lib.hid ((((grown_set u4 b (k * 18) (.int .i64 1)).trans (grown_set _ b (k * 18 + 3) (.float .f64 x1))).trans (grown_set _ b (k * 18 + 4) (.float .f64 x2))).trans (grown_set _ b (k * 18 + 5) (.float .f64 x3)))
    replace K := (K.out.grown G.out (by have := K.out.old.size; have := hbv.out; have := hK3.out; omega) (fun j g' us h => by
        rcases j with _ | _ | _ | j
        · simp at h; have := hbv.out; have := hK3.out; omega
        · simp at h; have := hbv.out; have := hK3.out; omega
        · simp at h; have := hbg.out; omega
        · simp at h)).draws
    replace SKU := Lib.hid (SKU.out.on (Below.refl _ _).drew)
    clear G hu4 hbg hbv hbw hbl hb4
    generalize World.drew (World.setCell _ _ _) = u5 at *
    have el : (fxS S0 k (x1, x2, x3)).bs.length = S0.bs.length := by show (S0.bs.set _ _).length = _; rw [List.length_set]
    have W1 : SyW (fxS S0 k (x1, x2, x3)) := fx_w Z0.w hkl.out h4
    have RC2 : Hid (∀ W, Below u5.heap.size u5 W → Calls Tryz.prog 12 #[.agg #[.float .f64 S0.lt, .slice fa S0.fs.length fcc, .slice (some ⟨b, 0, none⟩) S0.bs.length bcc]] W fun e w' => e = .returned (.int .i64 (chkRS (fxS S0 k (x1, x2, x3)))) ∧ Below W.heap.size W w') := Lib.hid fun W h => by
        have := rcheck15_run (fc := fcc) (bc := bcc) W1 (fx_tb hU0 hkl.out) eN1 (SKU.out.on h)
        rw [el] at this
        exact this
    have P2 : Hid (∀ W, Below u5.heap.size u5 W → Calls Tryz.prog 13 #[.agg #[.float .f64 S0.lt, .slice fa S0.fs.length fcc, .slice (some ⟨b, 0, none⟩) S0.bs.length bcc], .int .i64 a1, .float .f64 a3] W fun e w' => e = .returned (vecE (plS (fxS S0 k (x1, x2, x3)) a1 a3).1 (plS (fxS S0 k (x1, x2, x3)) a1 a3).2) ∧ Below W.heap.size W w') := Lib.hid fun W h => by
        have := yplace_run (fc := fcc) (bc := bcc) W1 eN1 (i := a1) h3 (SKU.out.on h)
        rw [el] at this
        exact this
    have OT : Hid (chkRS (fxS S0 k (x1, x2, x3)) = 0 → plS S0 a1 a3 = plS (fxS S0 k (x1, x2, x3)) a1 a3) := Lib.hid fun h => OTH.out _ (chk_of W1 h)
    clear OTH W1 el SKU eN1 hU0
    generalize chkRS (fxS S0 k (x1, x2, x3)) = kc at *
    generalize plS (fxS S0 k (x1, x2, x3)) a1 a3 = RB at *
    have K5 := (Kv.nil u5)
    have s2_0 := (K.at_ 2 rfl).at_ 0 _ rfl
    have s2_1 := (K.at_ 2 rfl).at_ 1 _ rfl
    have s2_2 := (K.at_ 2 rfl).at_ 2 _ rfl
    replace K := Lib.hid K
    go_wp2_with fail
    refine (RC2.out _ (Below.refl _ _)).mono ?_
    rintro _ v5 ⟨rfl, hb⟩
    clear RC2 s2_0 s2_1 s2_2
    have hb5 := Lib.hid hb
    replace K := K.out.on hb
    clear hb K5
    by_cases hkc : kc = 0
    case neg =>
        have hkc' : (kc != 0) = true := by simpa using hkc
        replace K := Lib.hid K
        clear P1 P2 OT CC
        go_wp2_with fail
        go_ret
        exact ⟨by first | rfl | trivial, K.out.old⟩
    case pos =>
        have eO := OT.out hkc
        subst hkc
        rw [eO] at P1
        clear eO OT
        unfold vecE vecV at P1 P2
        obtain ⟨⟨y1, y2, y3⟩, l⟩ := RB
        dsimp only at *
        have te : (l == l) = true := by simp
        have c0_0 := (K.at_ 0 rfl).at_ 0 _ rfl
        have c0_1 := (K.at_ 0 rfl).at_ 1 _ rfl
        have c0_2 := (K.at_ 0 rfl).at_ 2 _ rfl
        replace K := Lib.hid K
        go_wp2_with fail
        refine (CC.out _ K.out.old).mono ?_
        rintro _ v6 ⟨hce, hb⟩
        obtain ⟨fa2, fcc2, ba2, bcc2, N2, rfl, CS2⟩ := hce
        have hb6 := Lib.hid (hb5.out.trans (hb.mono hb5.out.size))
        replace K := Lib.hid (K.out.on hb)
        have A1 := CS2.at_
        have eN2 := CS2.eq
        clear hb CS2 hb5 CC c0_0 c0_1 c0_2
        go_wp2_with fail
        refine (P1.out _ _ _ _ _ _ eN2 ⟨A1.1, A1.2⟩).mono ?_
        rintro _ v7 ⟨rfl, hb⟩
        have hb7 := Lib.hid ((hb6.out.trans (hb.mono hb6.out.size)))
        replace K := (K.out.on hb).new 41 [.float .f64 y1, .float .f64 y2, .float .f64 y3]
        simp only [objV, List.cons_append, List.nil_append] at K
        have hb8 := Lib.hid (hb7.out.alloc hb7.out.size (.cells #[.float .f64 y1, .float .f64 y2, .float .f64 y3] 41))
        clear hb eN2 A1 P1 hb6 hb7
        have s2_0 := (K.at_ 2 rfl).at_ 0 _ rfl
        have s2_1 := (K.at_ 2 rfl).at_ 1 _ rfl
        have s2_2 := (K.at_ 2 rfl).at_ 2 _ rfl
        replace K := Lib.hid K
        go_wp2_with fail
        replace K := K.out
        generalize hu : v7.alloc _ = u7 at *
        generalize v7.heap.size = g7 at *
        clear hu s2_0 s2_1 s2_2
        refine (P2.out _ hb8.out).mono ?_
        rintro _ v8 ⟨rfl, hb⟩
        replace K := (K.on hb).new 41 [.float .f64 y1, .float .f64 y2, .float .f64 y3]
        simp only [objV, List.cons_append, List.nil_append] at K
        clear hb P2 hb8
        have c3_0 := (K.at_ 3 rfl).at_ 0 _ rfl
        have c3_1 := (K.at_ 3 rfl).at_ 1 _ rfl
        have c3_2 := (K.at_ 3 rfl).at_ 2 _ rfl
        have c4_0 := (K.at_ 4 rfl).at_ 0 _ rfl
        have c4_1 := (K.at_ 4 rfl).at_ 1 _ rfl
        have c4_2 := (K.at_ 4 rfl).at_ 2 _ rfl
        replace K := Lib.hid K
        go_wp2_with fail
        refine (samevec_run _ _ _ _).mono ?_
        rintro _ v9 ⟨rfl, hb⟩
        replace K := Lib.hid (K.out.on hb)
        clear hb
        go_wp2_with fail
        go_ret
        exact ⟨by first | rfl | trivial, K.out.old⟩
theorem own : ownKnob Tryz.prog.godebug = none := by kernel_rfl
theorem laidOut : laidOutB Tryz.prog = true := by kernel_rfl
theorem lifted (os : Os) (started : os.Started) (H : Type) (enc : TypeId × Value → H) (F : Stop.Interp) :
 ReturnsInHanded {} Tryz.checked os 5 .any ((Rows.OpenSpec.upto Rows.skyOthersSpec).pre6 enc Tryz.prog Tryz.f5 Rows.skyOthersUptoRow.domain false) (((Rows.OpenSpec.upto Rows.skyOthersSpec).at F).post enc Tryz.prog Tryz.f5 false true false false) := by
 refine returnsInHanded_of_cond_sized (C := Tryz.checked) (s := (Rows.OpenSpec.upto Rows.skyOthersSpec)) (k := Rows.uptoSmall) rfl own started (by kernel_rfl) Tryz.func5
  (OpenSpec.witness (enc := enc) (C := Tryz.checked) (s := (Rows.OpenSpec.upto Rows.skyOthersSpec)) (k := Rows.uptoSmall) rfl false ⟨#[], #[.agg #[.float .f64 0, .slice none 0 0, .slice none 0 0], .int .i64 0, .int .i64 0, .float .f64 0, .agg #[.float .f64 0, .float .f64 0, .float .f64 0]], []⟩ 8 (by kernel_rfl) (by kernel_rfl) (by kernel_rfl)
   (x := ([.agg [.lit (.float .f64 0), .nil, .nil], .lit (.int .i64 0), .lit (.int .i64 0), .lit (.float .f64 0), .agg [.lit (.float .f64 0), .lit (.float .f64 0), .lit (.float .f64 0)]], [], [])) (by kernel_rfl) rfl (by kernel_rfl)) ?_
 intro W base args ds gs before hval0 hW _ hkk hsz0 _
 have hsz : (DataW.weightsEach Tryz.prog (Tryz.f5.params.toList ++ Rows.skyOthersSpec.plain.varTypes Tryz.prog) (ds ++ gs)).all (· ≤ reachBytes) = true := hsz0
 clear hsz0
 have hval : ∀ (j : Nat) t v, Tryz.f5.params[j]? = some t → args[j]? = some v → Value.okWide Tryz.prog W .any base t v := hval0
 have hW' := hW
 obtain ⟨p, q, hA0, hV, rfl, _, _⟩ := hW
 have hA : DataW.TrodAll enc Tryz.prog W 0 (fun _ => true) true Tryz.f5.params.toList args.toList ds p := hA0
 rw [Tryz.params5] at hA hval hsz
 obtain ⟨v0, vs0, d0, ds0, p0, q0, hargs, rfl, rfl, t0, r0⟩ := trodAll_cons hA
 obtain ⟨v1, vs1, d1, ds1, p1, q1, rfl, rfl, rfl, t1, r1⟩ := trodAll_cons r0
 obtain ⟨v2, vs2, d2, ds2, p2, q2, rfl, rfl, rfl, t2, r2⟩ := trodAll_cons r1
 obtain ⟨v3, vs3, d3, ds3, p3, q3, rfl, rfl, rfl, t3, r3⟩ := trodAll_cons r2
 obtain ⟨v4, vs4, d4, ds4, p4, q4, rfl, rfl, rfl, t4, r4⟩ := trodAll_cons r3
 obtain ⟨rfl, rfl, rfl⟩ := trodAll_nil r4
 obtain rfl : args = #[v0, v1, v2, v3, v4] := by cases args; simp_all
 obtain ⟨rfl, rfl⟩ := trodVars_none hV
 simp only [List.append_nil] at hW'
 have tk0 := t0
 obtain ⟨S0, fao0, fc0, bao0, bc0, M0, rfl, G0⟩ := open_sky (hval 0 26 v0 rfl rfl) t0
 have Z0 : SkZ S0 := sky_size G0 (fun x hx => by
  have h := List.all_eq_true.1 hsz _ (DataW.weights_mem_each (j := 0) (t := 26) rfl rfl x hx)
  simpa using h)
 have hlt0 : ∀ x ∈ p0, x.block < W.heap.size := fun x hx => by have := hW'.lt x (by simp [hx]); simpa using this
 have hU0 : ∀ b ∈ S0.bs, TbUp b.tab := sky_up G0 (of_decide_eq_true hkk)
 obtain ⟨a1, rfl, rfl, rfl, w1⟩ := open_int Tryz.underlying3 (hval 1 3 v1 rfl rfl) t1
 obtain ⟨a2, rfl, rfl, rfl, w2⟩ := open_int Tryz.underlying3 (hval 2 3 v2 rfl rfl) t2
 obtain ⟨a3, rfl, rfl, rfl, w3⟩ := open_float Tryz.underlying22 (hval 3 22 v3 rfl rfl) t3
 have tk4 := t4
 obtain ⟨a4, rfl, wa4⟩ := open_vec (hval 4 41 v4 rfl rfl) t4
 have hlt4 : ∀ x ∈ p4, x.block < W.heap.size := fun x hx => by have := hW'.lt x (by simp [hx]); simpa using this
 clear hA0 hval0
 refine (walk W S0 fao0 bao0 fc0 bc0 M0 G0.eq G0.at_ G0.fz Z0 hU0 a1 w1 a2 w2 a3 (wf64 w3) a4 wa4).mono fun e W' ⟨he, hb⟩ => ?_
 subst he
 refine ⟨_, rfl, _, _, _, [], _, [], hW', trodAll_cons_mk (shut_bool Tryz.underlying4 _) trodAll_mk0, (trodAll_cons_mk (Below.trod laidOut (by kernel_rfl) (of_decide_eq_true (by kernel_rfl)) tk0 hb hlt0) (trodAll_cons_mk (shut_int Tryz.underlying3 w1) (trodAll_cons_mk (shut_int Tryz.underlying3 w2) (trodAll_cons_mk (shut_float Tryz.underlying22 w3) (trodAll_cons_mk (Below.trod laidOut (by kernel_rfl) (of_decide_eq_true (by kernel_rfl)) tk4 hb hlt4) trodAll_mk0))))), rfl, hb.frame _, fun h => by cases h⟩

theorem over : Rows.skyOthersUptoRow.holds Tryz.pinned (Rows.OpenSpec.upto Rows.skyOthersSpec) :=
 OpenClaim.holds_of_cond 5 Tryz.f5 rfl rfl rfl rfl rfl rfl rfl ⟨rfl, rfl, rfl, rfl, rfl⟩ rfl rfl rfl rfl rfl (by kernel_rfl) Tryz.func5 (by kernel_rfl)
  (of_decide_eq_true (by kernel_rfl)) (by unfold Func.isWrapper; first | (rw [if_pos (by decide +kernel)]; kernel_rfl) | (rw [if_neg (by decide +kernel)]; exact ⟨rfl, rfl⟩))
  (fun os started H enc _ F => lifted os started H enc F)

theorem proved : Rows.SkyOthersUptoSaid :=
 over
end Go.Proofs.YtacinenddnfcbaaGreat.skyOthers
