/- Proved here: what the texts Obu prove, one behind the other. -/
import Derived.Test.YtdfcchocabapkaaGreatJq7

set_option maxHeartbeats 4000000
set_option maxRecDepth 100000
namespace Go.Proofs.YtdfcchocabapkaaGreat
open Go.ChangeShapes Go.WideShapes Go.ChangeAt Go.RowKit Ieee.Own Pol

theorem osines_wide {ec m1 m2 wd : Nat} (CW : Hid (∀ w, Calls Tryz.prog 63 #[.agg #[.float .f64 m1, .float .f64 m2]] w fun en w' => en = .returned (.tuple #[.float .f64 wd, .int .i64 0]) ∧ Below w.heap.size w w')) (gw : (FloatKind.f64.format.order wd 4607182418800017408 == some Ordering.gt || FloatKind.f64.format.order wd 4607182418800017408 == some Ordering.eq) = true) (w : World) : Calls Tryz.prog 26 #[.float .f64 ec, .agg #[.float .f64 m1, .float .f64 m2]] w fun en w' => en = .returned (.tuple #[.agg #[.float .f64 13830554455654793216, .float .f64 4607182418800017408], .agg #[.float .f64 13830554455654793216, .float .f64 4607182418800017408]]) ∧ Below w.heap.size w w' := by
 have K0 := kv3 w 26 26 26 [.float .f64 m1, .float .f64 m2] [.float .f64 0, .float .f64 0] [.float .f64 0, .float .f64 0]
 simp only [objV] at K0
 have hst := @fstore
 replace K0 := Lib.hid K0
 go_enter Tryz.func26, Tryz.ntmps26
 go_wp2_with fail
 have K := K0.out
 clear K0
 generalize ((w.alloc _).alloc _).alloc _ = wr at *
 have c0_0 := K.ce 0 0 rfl rfl
 have c0_1 := K.ce 0 1 rfl rfl
 refine (CW.out wr).mono ?_
 rintro _ v1 ⟨rfl, hb⟩
 clear c0_0 c0_1
 replace K := K.on hb
 clear hb CW
 replace K := K.new 26 [.float .f64 13830554455654793216, .float .f64 4607182418800017408]
 simp only [objV, List.cons_append, List.nil_append] at K
 replace K := Lib.hid K
 go_upto_region 4 with fail
 replace K := K.out
 generalize v1.alloc _ = u0 at *
 generalize v1.heap.size = ga at *
 generalize hds : ([some 24, some 25, none, none] : List (Option Tmp)) = ds
 have hap : apartL ds = true := by rw [← hds]; decide
 replace hds := hds.symm
 refine wp_region_kv (fun hf => [some (w.heap.size, [.float .f64 m1, .float .f64 m2]), some (w.heap.size + 1, [.float .f64 13830554455654793216, .float .f64 4607182418800017408]), some (w.heap.size + 1 + 1, [.float .f64 13830554455654793216, .float .f64 4607182418800017408]), some (ga, [.float .f64 13830554455654793216, .float .f64 4607182418800017408])]) (fun hf => [some (.agg #[.float .f64 13830554455654793216, .float .f64 4607182418800017408]), some (.agg #[.float .f64 13830554455654793216, .float .f64 4607182418800017408]), some (undef), some (undef)]) [] [⟨2, 1, 0, [.float .f64 13830554455654793216, .float .f64 4607182418800017408]⟩, ⟨3, 2, 0, [.float .f64 13830554455654793216, .float .f64 4607182418800017408]⟩] [.agg #[.float .f64 13830554455654793216, .float .f64 4607182418800017408], .agg #[.float .f64 13830554455654793216, .float .f64 4607182418800017408], undef, undef] ds (by kernel_rfl) (by rw [hds]; rfl) hap (by decide +kernel) (by decide +kernel) K ?ha ?haj ?hai ?hsi ?hss ?hsa ?hsw ?htg ?hE2 ?hE3 ?hE4 ?hL1 ?hL2 ?hL3 ?alloc ?step ?store ?fin
 case ha => intro al hal; cases hal
 case haj => intro al hal al' hal' e; cases hal
 case hai => intro al hal; cases hal
 case hsi => exact quq _ _ _ rfl rfl
 case hss => exact qss rfl
 case hsa =>
  intro st hst al hal
  cases hal
 case hsw =>
  intro st hst al hal e
  cases hal
 case htg =>
  intro st hst
  rcases qm2 hst with rfl | rfl
  · exact .inl ⟨_, _, rfl, show 0 + 2 ≤ 2 by decide⟩
  · exact .inl ⟨_, _, rfl, show 0 + 2 ≤ 2 by decide⟩
 case hE2 =>
  intro hf j h1 h2
  have n1 : 1 ≠ j := h1 _ qh0
  have n2 : 2 ≠ j := h1 _ qh1
  rcases j with _ | _ | _ | _ | j <;> first | rfl | exact absurd rfl n1 | exact absurd rfl n2
 case hE3 =>
  intro hf st hst g us e
  rcases qm2 hst with rfl | rfl
  · obtain ⟨rfl, rfl⟩ := Prod.mk.inj (Option.some.inj (Option.some.inj e)); rfl
  · obtain ⟨rfl, rfl⟩ := Prod.mk.inj (Option.some.inj (Option.some.inj e)); rfl
 case hE4 =>
  intro hf al hal
  cases hal
 case hL1 => intro hf; rfl
 case hL2 =>
  intro hf i hi hna
  rcases (ql4 hi) with rfl | rfl | rfl | rfl <;> first | rfl
 case hL3 => intro hf al hal; cases hal
 case alloc =>
  intro al hal o ρ W ho
  cases hal
 case step =>
  intro L W i o ho hs ha hd hB hO
  rcases (ql4 (Array.getElem?_eq_some_iff.1 ho).1) with rfl | rfl | rfl | rfl
  · obtain rfl := qsj ho
    have b := hB 3 _ _ rfl (qns rfl)
    have c0 := b.at_ 0 _ rfl
    have c1 := b.at_ 1 _ rfl
    clear b
    refine qvr fun ρ hA => ?_
    have h0 : ρ (.tmp 8) = .pointer (some ⟨ga, 0, none⟩) := (po hA (by rw [hds]; decide)).trans rfl
    clear hA hd hB ho hs ha hO
    unfold execOp; go_simp
  · obtain rfl := qsj ho
    have b := hB 3 _ _ rfl (qns rfl)
    have c0 := b.at_ 0 _ rfl
    have c1 := b.at_ 1 _ rfl
    clear b
    refine qvr fun ρ hA => ?_
    have h0 : ρ (.tmp 8) = .pointer (some ⟨ga, 0, none⟩) := (po hA (by rw [hds]; decide)).trans rfl
    clear hA hd hB ho hs ha hO
    unfold execOp; go_simp
  · exact absurd rfl (hs _ qh0)
  · exact absurd rfl (hs _ qh1)
 case store =>
  intro st hst L W o h us ho hd hal hC b
  rcases qm2 hst with rfl | rfl
  · dsimp only at ho hd hal hC b ⊢
    obtain rfl := qsj ho
    obtain ⟨hh, rfl⟩ := hC _ _ rfl
    replace hh := hh.symm
    subst hh
    have c0 := b.at_ 0 _ rfl
    have f0 := b.fr 0 _ rfl
    have c1 := b.at_ 1 _ rfl
    have f1 := b.fr 1 _ rfl
    refine ⟨?_, rfl⟩
    generalize hA : (puts ds L _).eval = ρ
    have h0 : ρ (.tmp 4) = .pointer (some ⟨w.heap.size + 1, 0, none⟩) := (po hA (by rw [hds]; decide)).trans rfl
    have h1 : ρ (.tmp 24) = .agg #[.float .f64 13830554455654793216, .float .f64 4607182418800017408] := pg 0 hA hap (by rw [hds]; rfl) (hd 0 (by decide +kernel) (alne rfl)) (show 24 < 59 by decide)
    have hst' := @fstore
    clear hA hd b ho hal hC
    simp only [putV]
    unfold execOp; go_simp
  · dsimp only at ho hd hal hC b ⊢
    obtain rfl := qsj ho
    obtain ⟨hh, rfl⟩ := hC _ _ rfl
    replace hh := hh.symm
    subst hh
    have c0 := b.at_ 0 _ rfl
    have f0 := b.fr 0 _ rfl
    have c1 := b.at_ 1 _ rfl
    have f1 := b.fr 1 _ rfl
    refine ⟨?_, rfl⟩
    generalize hA : (puts ds L _).eval = ρ
    have h0 : ρ (.tmp 5) = .pointer (some ⟨w.heap.size + 1 + 1, 0, none⟩) := (po hA (by rw [hds]; decide)).trans rfl
    have h1 : ρ (.tmp 25) = .agg #[.float .f64 13830554455654793216, .float .f64 4607182418800017408] := pg 1 hA hap (by rw [hds]; rfl) (hd 1 (by decide +kernel) (alne rfl)) (show 25 < 59 by decide)
    have hst' := @fstore
    clear hA hd b ho hal hC
    simp only [putV]
    unfold execOp; go_simp
 case fin =>
  intro hf W9 K
  rw [hds]
  clear hds hap ds
  (try dsimp only at K)
  simp only [List.set_cons_zero, List.set_cons_succ, puts, Act.put, List.setIfInBounds_toArray]
  have c1_0 := K.ce 1 0 rfl rfl
  have f1_0 := K.fe 1 0 rfl rfl
  have c1_1 := K.ce 1 1 rfl rfl
  have f1_1 := K.fe 1 1 rfl rfl
  have c2_0 := K.ce 2 0 rfl rfl
  have f2_0 := K.fe 2 0 rfl rfl
  have c2_1 := K.ce 2 1 rfl rfl
  have f2_1 := K.fe 2 1 rfl rfl
  replace K := Lib.hid K
  go_wp2_with fail
  replace K := K.out
  (try simp only [Exit.inBlock, Exit.then])
  refine bodyPost_ret (v := .tuple #[.agg #[.float .f64 13830554455654793216, .float .f64 4607182418800017408], .agg #[.float .f64 13830554455654793216, .float .f64 4607182418800017408]]) ?_ rfl ⟨rfl, ?_⟩
  · rw [results_cells2 rfl]; go_simp
  · exact K.old
def hld (T : Nat → Pr) : Nat → Pr
 | 0 => (0, 0)
 | n + 1 => T n
def cur (S T : Nat → Pr) : Nat → Pr
 | 0 => S 0
 | n + 1 => T n
theorem osines_run {ec m1 m2 wd : Nat} {L : List Pr} (P S C TS TC : Nat → Pr) (CW : Hid (∀ w, Calls Tryz.prog 63 #[.agg #[.float .f64 m1, .float .f64 m2]] w fun en w' => en = .returned (.tuple #[.float .f64 wd, .int .i64 0]) ∧ Below w.heap.size w w')) (gw : (FloatKind.f64.format.order wd 4607182418800017408 == some Ordering.gt || FloatKind.f64.format.order wd 4607182418800017408 == some Ordering.eq) = false) (CL : Hid (∀ w, Calls Tryz.prog 64 #[.agg #[.float .f64 m1, .float .f64 m2]] w (PartsA L w))) (hne : L ≠ []) (hm : L.length ≤ 3) (CS : Hid (∀ n q, L[n]? = some q → ∀ w, Calls Tryz.prog 6 #[.float .f64 ec, pv q] w fun en w' => en = .returned (.tuple #[pv (P n), .int .i64 0]) ∧ Below w.heap.size w w')) (CU : Hid (∀ n, n < L.length → ∀ w, Calls Tryz.prog 65 #[pv (P n)] w fun en w' => en = .returned (.tuple #[pv (S n), pv (C n), .int .i64 0]) ∧ Below w.heap.size w w')) (CH : Hid (∀ n, n < L.length → ∀ w, Calls Tryz.prog 66 #[pv (cur S TS n), pv (S n)] w fun en w' => en = .returned (pv (TS n)) ∧ Below w.heap.size w w')) (CI : Hid (∀ n, n < L.length → ∀ w, Calls Tryz.prog 66 #[pv (cur C TC n), pv (C n)] w fun en w' => en = .returned (pv (TC n)) ∧ Below w.heap.size w w')) (w : World) : Calls Tryz.prog 26 #[.float .f64 ec, .agg #[.float .f64 m1, .float .f64 m2]] w fun en w' => en = .returned (.tuple #[pv (TS (L.length - 1)), pv (TC (L.length - 1))]) ∧ Below w.heap.size w w' := by
 obtain ⟨⟨a1, a2⟩, ha⟩ : ∃ A, A = TS (L.length - 1) := ⟨_, rfl⟩
 obtain ⟨⟨b1, b2⟩, hc⟩ : ∃ A, A = TC (L.length - 1) := ⟨_, rfl⟩
 rw [← ha, ← hc]
 unfold pv spanV
 dsimp only
 unfold pv spanV at CS CU CH CI
 replace ha := Lib.hid ha
 replace hc := Lib.hid hc
 have K0 := kv3 w 26 26 26 [.float .f64 m1, .float .f64 m2] [.float .f64 0, .float .f64 0] [.float .f64 0, .float .f64 0]
 simp only [objV] at K0
 have hst := @fstore
 replace K0 := Lib.hid K0
 go_enter Tryz.func26, Tryz.ntmps26
 go_wp2_with fail
 have K := K0.out
 clear K0
 generalize ((w.alloc _).alloc _).alloc _ = wr at *
 have c0_0 := K.ce 0 0 rfl rfl
 have c0_1 := K.ce 0 1 rfl rfl
 refine (CW.out wr).mono ?_
 rintro _ v1 ⟨rfl, hb⟩
 clear c0_0 c0_1
 replace K := K.on hb
 clear hb CW
 have c0_0 := K.ce 0 0 rfl rfl
 have c0_1 := K.ce 0 1 rfl rfl
 replace K := Lib.hid K
 go_wp2_with fail
 replace K := K.out
 refine (CL.out v1).mono ?_
 rintro _ v2 ⟨hb, hl⟩
 clear c0_0 c0_1 CL
 obtain ⟨b, cap, rfl, hbb, B⟩ := hb hne
 have rows := Lib.hid (rows_pr L)
 replace K := K.own hl hbb B
 simp only [List.cons_append, List.nil_append] at K
 clear hl hbb B
 obtain ⟨N, hN⟩ : ∃ N, N = L.length := ⟨_, rfl⟩
 have hN0 : 0 < N := by rw [hN]; exact List.length_pos_iff.2 hne
 rw [← hN] at CU CH CI hm ⊢
 have RD : Hid (∀ n, n < N → ∃ q, L[n]? = some q) := Lib.hid fun n hn => ⟨_, List.getElem?_eq_getElem (by omega)⟩
 have FA : Hid (∀ n q, L[n]? = some q → (L.map prC).flatten[n * 2 + 0]? = some (.float .f64 q.1) ∧ (L.map prC).flatten[n * 2 + 1]? = some (.float .f64 q.2)) := Lib.hid fun n q h => by
  have h1 : (L.map prC)[n]? = some (prC q) := by rw [List.getElem?_map, h]; rfl
  exact ⟨flat_at rows.out h1 rfl, flat_at rows.out h1 rfl⟩
 replace hN := Lib.hid hN
 clear hne rows
 generalize (L.map prC).flatten = fl at *
 replace K := Lib.hid K
 go_wp2_with fail
 replace K := K.out
 go_loopw [29] (fun iv wr => ∃ n x1 x2 y1 y2 : Nat, iv = .int .i64 n ∧ n ≤ N ∧ hld TS n = (x1, x2) ∧ hld TC n = (y1, y2) ∧ Kv w [some (w.heap.size, [.float .f64 m1, .float .f64 m2]), some (w.heap.size + 1, [.float .f64 x1, .float .f64 x2]), some (w.heap.size + 1 + 1, [.float .f64 y1, .float .f64 y2]), some (b, fl)] wr) (fun iv _ => N - (intOf iv).toNat)
 case atStart => exact ⟨0, 0, 0, 0, 0, rfl, Nat.zero_le _, rfl, rfl, K⟩
 case round =>
  obtain ⟨n, x1, x2, y1, y2, rfl, hn, hx, hy, K⟩ := hrel
  by_cases hnN : n < N
  · obtain ⟨⟨q1, q2⟩, hq⟩ := RD.out n hnN
    have CS1 := Lib.hid (fun w => CS.out n _ hq w)
    have CU1 := Lib.hid (fun w => CU.out n hnN w)
    have CH1 := Lib.hid (fun w => CH.out n hnN w)
    have CI1 := Lib.hid (fun w => CI.out n hnN w)
    obtain ⟨fa, fb⟩ := FA.out n _ hq
    have hs0 : cur S TS n = S 0 ∨ cur S TS n = (x1, x2) := by cases n with | zero => exact .inl rfl | succ n => exact .inr hx
    have c3_0 : wr.cell? ⟨b, n * 2, none⟩ = some (.float .f64 q1) := (K.at_ 3 rfl).at_ _ _ fa
    have c3_1 : wr.cell? ⟨b, n * 2 + 1, none⟩ = some (.float .f64 q2) := (K.at_ 3 rfl).at_ _ _ fb
    clear fa fb hs0
    obtain ⟨P1, hP1⟩ : ∃ P1, P1 = P n := ⟨_, rfl⟩
    obtain ⟨S1, hS1⟩ : ∃ S1, S1 = S n := ⟨_, rfl⟩
    obtain ⟨C1, hC1⟩ : ∃ C1, C1 = C n := ⟨_, rfl⟩
    obtain ⟨TS1, hTS1⟩ : ∃ TS1, TS1 = TS n := ⟨_, rfl⟩
    obtain ⟨TC1, hTC1⟩ : ∃ TC1, TC1 = TC n := ⟨_, rfl⟩
    rw [← hP1] at CS1 CU1
    rw [← hS1] at CU1 CH1
    rw [← hC1] at CU1 CI1
    rw [← hTS1] at CH1
    rw [← hTC1] at CI1
    replace hTS1 := Lib.hid hTS1
    replace hTC1 := Lib.hid hTC1
    have e0 : n = 0 → cur S TS n = S1 ∧ cur C TC n = C1 := by rintro rfl; exact ⟨hS1.symm, hC1.symm⟩
    have e1 : n ≠ 0 → cur S TS n = (x1, x2) ∧ cur C TC n = (y1, y2) := by
        intro h
        obtain ⟨k, rfl⟩ := Nat.exists_eq_succ_of_ne_zero h
        exact ⟨hx, hy⟩
    replace hx := Lib.hid hx
    replace hy := Lib.hid hy
    clear hP1 hS1 hC1
    generalize cur S TS n = U1 at *
    generalize cur C TC n = V1 at *
    obtain ⟨p1, p2⟩ := P1
    obtain ⟨s1, s2⟩ := S1
    obtain ⟨k1, k2⟩ := C1
    obtain ⟨t1, t2⟩ := TS1
    obtain ⟨r1, r2⟩ := TC1
    obtain ⟨u1, u2⟩ := U1
    obtain ⟨z1, z2⟩ := V1
    dsimp only at CS1 CU1 CH1 CI1
    replace K := K.new 26 [.float .f64 q1, .float .f64 q2]
    simp only [objV, List.cons_append, List.nil_append] at K
    have c4_0 := K.ce 4 0 rfl rfl
    have c4_1 := K.ce 4 1 rfl rfl
    replace e0 := Lib.hid e0
    replace e1 := Lib.hid e1
    replace K := Lib.hid K
    go_wp2_with fail
    replace K := K.out
    generalize wr.alloc _ = v3 at *
    generalize wr.heap.size = g0 at *
    refine (CS1.out v3).mono ?_
    rintro _ v4 ⟨rfl, hb⟩
    clear c3_0 c3_1 c4_0 c4_1
    replace K := K.on hb
    clear hb CS1
    replace K := K.new 26 [.float .f64 p1, .float .f64 p2]
    simp only [objV, List.cons_append, List.nil_append] at K
    have c5_0 := K.ce 5 0 rfl rfl
    have c5_1 := K.ce 5 1 rfl rfl
    replace K := Lib.hid K
    go_wp2_with fail
    replace K := K.out
    generalize v4.alloc _ = v5 at *
    generalize v4.heap.size = g1 at *
    refine (CU1.out v5).mono ?_
    rintro _ v6 ⟨rfl, hb⟩
    clear c5_0 c5_1
    replace K := K.on hb
    clear hb CU1
    replace K := K.new 26 [.float .f64 s1, .float .f64 s2]
    simp only [objV, List.cons_append, List.nil_append] at K
    replace K := K.and (n := v6.heap.size + 1) (by simp) 26 [.float .f64 k1, .float .f64 k2]
    simp only [objV, List.cons_append, List.nil_append] at K
    replace K := Lib.hid K
    by_cases h0 : n = 0
    · have gz : ((n : Int) == 0) = true := by simp [h0]
      obtain ⟨ea, eb⟩ := e0.out h0
      obtain ⟨rfl, rfl⟩ := Prod.mk.inj ea.symm
      obtain ⟨rfl, rfl⟩ := Prod.mk.inj eb.symm
      clear e0 e1 ea eb h0
      go_upto_region 11 with fail
      replace K := K.out
      generalize (v6.alloc _).alloc _ = v7 at *
      generalize v6.heap.size + 1 = g3 at *
      generalize v6.heap.size = g2 at *
      generalize hds : ([some 48, some 49, none, none] : List (Option Tmp)) = ds
      have hap : apartL ds = true := by rw [← hds]; decide
      replace hds := hds.symm
      refine wp_region_kv (fun hf => [some (w.heap.size, [.float .f64 m1, .float .f64 m2]), some (w.heap.size + 1, [.float .f64 s1, .float .f64 s2]), some (w.heap.size + 1 + 1, [.float .f64 k1, .float .f64 k2]), some (b, fl), some (g0, [.float .f64 q1, .float .f64 q2]), some (g1, [.float .f64 p1, .float .f64 p2]), some (g2, [.float .f64 s1, .float .f64 s2]), some (g3, [.float .f64 k1, .float .f64 k2])]) (fun hf => [some (.agg #[.float .f64 s1, .float .f64 s2]), some (.agg #[.float .f64 k1, .float .f64 k2]), some (undef), some (undef)]) [] [⟨2, 1, 0, [.float .f64 s1, .float .f64 s2]⟩, ⟨3, 2, 0, [.float .f64 k1, .float .f64 k2]⟩] [.agg #[.float .f64 s1, .float .f64 s2], .agg #[.float .f64 k1, .float .f64 k2], undef, undef] ds (by kernel_rfl) (by rw [hds]; rfl) hap (by decide +kernel) (by decide +kernel) K ?ha ?haj ?hai ?hsi ?hss ?hsa ?hsw ?htg ?hE2 ?hE3 ?hE4 ?hL1 ?hL2 ?hL3 ?alloc ?step ?store ?fin
      case ha => intro al hal; cases hal
      case haj => intro al hal al' hal' e; cases hal
      case hai => intro al hal; cases hal
      case hsi => exact quq _ _ _ rfl rfl
      case hss => exact qss rfl
      case hsa =>
       intro st hst al hal
       cases hal
      case hsw =>
       intro st hst al hal e
       cases hal
      case htg =>
       intro st hst
       rcases qm2 hst with rfl | rfl
       · exact .inl ⟨_, _, rfl, show 0 + 2 ≤ 2 by decide⟩
       · exact .inl ⟨_, _, rfl, show 0 + 2 ≤ 2 by decide⟩
      case hE2 =>
       intro hf j h1 h2
       have n1 : 1 ≠ j := h1 _ qh0
       have n2 : 2 ≠ j := h1 _ qh1
       rcases j with _ | _ | _ | _ | _ | _ | _ | _ | j <;> first | rfl | exact absurd rfl n1 | exact absurd rfl n2
      case hE3 =>
       intro hf st hst g us e
       rcases qm2 hst with rfl | rfl
       · obtain ⟨rfl, rfl⟩ := Prod.mk.inj (Option.some.inj (Option.some.inj e)); rfl
       · obtain ⟨rfl, rfl⟩ := Prod.mk.inj (Option.some.inj (Option.some.inj e)); rfl
      case hE4 =>
       intro hf al hal
       cases hal
      case hL1 => intro hf; rfl
      case hL2 =>
       intro hf i hi hna
       rcases (ql4 hi) with rfl | rfl | rfl | rfl <;> first | rfl
      case hL3 => intro hf al hal; cases hal
      case alloc =>
       intro al hal o ρ W ho
       cases hal
      case step =>
       intro L W i o ho hs ha hd hB hO
       rcases (ql4 (Array.getElem?_eq_some_iff.1 ho).1) with rfl | rfl | rfl | rfl
       · obtain rfl := qsj ho
         have b := hB 6 _ _ rfl (qns rfl)
         have c0 := b.at_ 0 _ rfl
         have c1 := b.at_ 1 _ rfl
         clear b
         refine qvr fun ρ hA => ?_
         have h0 : ρ (.tmp 13) = .pointer (some ⟨g2, 0, none⟩) := (po hA (by rw [hds]; decide)).trans rfl
         clear hA hd hB ho hs ha hO
         unfold execOp; go_simp
       · obtain rfl := qsj ho
         have b := hB 7 _ _ rfl (qns rfl)
         have c0 := b.at_ 0 _ rfl
         have c1 := b.at_ 1 _ rfl
         clear b
         refine qvr fun ρ hA => ?_
         have h0 : ρ (.tmp 14) = .pointer (some ⟨g3, 0, none⟩) := (po hA (by rw [hds]; decide)).trans rfl
         clear hA hd hB ho hs ha hO
         unfold execOp; go_simp
       · exact absurd rfl (hs _ qh0)
       · exact absurd rfl (hs _ qh1)
      case store =>
       intro st hst L W o h us ho hd hal hC b
       rcases qm2 hst with rfl | rfl
       · dsimp only at ho hd hal hC b ⊢
         obtain rfl := qsj ho
         obtain ⟨hh, rfl⟩ := hC _ _ rfl
         replace hh := hh.symm
         subst hh
         have c0 := b.at_ 0 _ rfl
         have f0 := b.fr 0 _ rfl
         have c1 := b.at_ 1 _ rfl
         have f1 := b.fr 1 _ rfl
         refine ⟨?_, rfl⟩
         generalize hA : (puts ds L _).eval = ρ
         have h0 : ρ (.tmp 4) = .pointer (some ⟨w.heap.size + 1, 0, none⟩) := (po hA (by rw [hds]; decide)).trans rfl
         have h1 : ρ (.tmp 48) = .agg #[.float .f64 s1, .float .f64 s2] := pg 0 hA hap (by rw [hds]; rfl) (hd 0 (by decide +kernel) (alne rfl)) (show 48 < 59 by decide)
         have hst' := @fstore
         clear hA hd b ho hal hC
         simp only [putV]
         unfold execOp; go_simp
       · dsimp only at ho hd hal hC b ⊢
         obtain rfl := qsj ho
         obtain ⟨hh, rfl⟩ := hC _ _ rfl
         replace hh := hh.symm
         subst hh
         have c0 := b.at_ 0 _ rfl
         have f0 := b.fr 0 _ rfl
         have c1 := b.at_ 1 _ rfl
         have f1 := b.fr 1 _ rfl
         refine ⟨?_, rfl⟩
         generalize hA : (puts ds L _).eval = ρ
         have h0 : ρ (.tmp 5) = .pointer (some ⟨w.heap.size + 1 + 1, 0, none⟩) := (po hA (by rw [hds]; decide)).trans rfl
         have h1 : ρ (.tmp 49) = .agg #[.float .f64 k1, .float .f64 k2] := pg 1 hA hap (by rw [hds]; rfl) (hd 1 (by decide +kernel) (alne rfl)) (show 49 < 59 by decide)
         have hst' := @fstore
         clear hA hd b ho hal hC
         simp only [putV]
         unfold execOp; go_simp
      case fin =>
       intro hf W1 K
       rw [hds]
       clear hds hap ds
       (try dsimp only at K)
       simp only [List.set_cons_zero, List.set_cons_succ, puts, Act.put, List.setIfInBounds_toArray]
       replace K := Lib.hid K
       go_upto_region 12 with fail
       replace K := K.out
       generalize hds : ([some 50, some 51, some 52, some 53, some 54, some 55, none, none] : List (Option Tmp)) = ds
       have hap : apartL ds = true := by rw [← hds]; decide
       replace hds := hds.symm
       refine wp_region_kv (fun hf => [some (w.heap.size, [.float .f64 m1, .float .f64 m2]), some (w.heap.size + 1, [.float .f64 t1, .float .f64 t2]), some (w.heap.size + 1 + 1, [.float .f64 r1, .float .f64 r2]), some (b, fl), some (g0, [.float .f64 q1, .float .f64 q2]), some (g1, [.float .f64 p1, .float .f64 p2]), some (g2, [.float .f64 s1, .float .f64 s2]), some (g3, [.float .f64 k1, .float .f64 k2])]) (fun hf => [some (.agg #[.float .f64 s1, .float .f64 s2]), some (.agg #[.float .f64 s1, .float .f64 s2]), some (.agg #[.float .f64 t1, .float .f64 t2]), some (.agg #[.float .f64 k1, .float .f64 k2]), some (.agg #[.float .f64 k1, .float .f64 k2]), some (.agg #[.float .f64 r1, .float .f64 r2]), some (undef), some (undef)]) [] [⟨6, 1, 0, [.float .f64 t1, .float .f64 t2]⟩, ⟨7, 2, 0, [.float .f64 r1, .float .f64 r2]⟩] [.agg #[.float .f64 s1, .float .f64 s2], .agg #[.float .f64 s1, .float .f64 s2], .agg #[.float .f64 t1, .float .f64 t2], .agg #[.float .f64 k1, .float .f64 k2], .agg #[.float .f64 k1, .float .f64 k2], .agg #[.float .f64 r1, .float .f64 r2], undef, undef] ds (by kernel_rfl) (by rw [hds]; rfl) hap (by decide +kernel) (by decide +kernel) K ?ha ?haj ?hai ?hsi ?hss ?hsa ?hsw ?htg ?hE2 ?hE3 ?hE4 ?hL1 ?hL2 ?hL3 ?alloc ?step ?store ?fin
       case ha => intro al hal; cases hal
       case haj => intro al hal al' hal' e; cases hal
       case hai => intro al hal; cases hal
       case hsi => exact quq _ _ _ rfl rfl
       case hss => exact qss rfl
       case hsa =>
        intro st hst al hal
        cases hal
       case hsw =>
        intro st hst al hal e
        cases hal
       case htg =>
        intro st hst
        rcases qm2 hst with rfl | rfl
        · exact .inl ⟨_, _, rfl, show 0 + 2 ≤ 2 by decide⟩
        · exact .inl ⟨_, _, rfl, show 0 + 2 ≤ 2 by decide⟩
       case hE2 =>
        intro hf j h1 h2
        have n1 : 1 ≠ j := h1 _ qh0
        have n2 : 2 ≠ j := h1 _ qh1
        rcases j with _ | _ | _ | _ | _ | _ | _ | _ | j <;> first | rfl | exact absurd rfl n1 | exact absurd rfl n2
       case hE3 =>
        intro hf st hst g us e
        rcases qm2 hst with rfl | rfl
        · obtain ⟨rfl, rfl⟩ := Prod.mk.inj (Option.some.inj (Option.some.inj e)); rfl
        · obtain ⟨rfl, rfl⟩ := Prod.mk.inj (Option.some.inj (Option.some.inj e)); rfl
       case hE4 =>
        intro hf al hal
        cases hal
       case hL1 => intro hf; rfl
       case hL2 =>
        intro hf i hi hna
        rcases (ql8 hi) with rfl | rfl | rfl | rfl | rfl | rfl | rfl | rfl <;> first | rfl
       case hL3 => intro hf al hal; cases hal
       case alloc =>
        intro al hal o ρ W ho
        cases hal
       case step =>
        intro L W i o ho hs ha hd hB hO
        rcases (ql8 (Array.getElem?_eq_some_iff.1 ho).1) with rfl | rfl | rfl | rfl | rfl | rfl | rfl | rfl
        · obtain rfl := qsj ho
          have b := hB 1 _ _ rfl (by
              intro st hst e
              rcases qm2 hst with rfl | rfl
              · change needs _ _ 6 0 = true; decide +kernel
              · exact qnd e rfl)
          have c0 := b.at_ 0 _ rfl
          have c1 := b.at_ 1 _ rfl
          clear b
          refine qvr fun ρ hA => ?_
          have h0 : ρ (.tmp 4) = .pointer (some ⟨w.heap.size + 1, 0, none⟩) := (po hA (by rw [hds]; decide)).trans rfl
          clear hA hd hB ho hs ha hO
          unfold execOp; go_simp
        · obtain rfl := qsj ho
          have b := hB 6 _ _ rfl (qns rfl)
          have c0 := b.at_ 0 _ rfl
          have c1 := b.at_ 1 _ rfl
          clear b
          refine qvr fun ρ hA => ?_
          have h0 : ρ (.tmp 13) = .pointer (some ⟨g2, 0, none⟩) := (po hA (by rw [hds]; decide)).trans rfl
          clear hA hd hB ho hs ha hO
          unfold execOp; go_simp
        · obtain rfl := qsj ho
          refine .call 66 #[.agg #[.float .f64 s1, .float .f64 s2], .agg #[.float .f64 s1, .float .f64 s2]] ?_ (CH1.out W)
          generalize hA : (puts ds L _).eval = ρ
          have hg := qrg hA
          have h0 : ρ (.tmp 50) = .agg #[.float .f64 s1, .float .f64 s2] := pg 0 hA hap (by rw [hds]; rfl) (hd 0 (by decide +kernel) (alne rfl)) (show 50 < 59 by decide)
          have h1 : ρ (.tmp 51) = .agg #[.float .f64 s1, .float .f64 s2] := pg 1 hA hap (by rw [hds]; rfl) (hd 1 (by decide +kernel) (alne rfl)) (show 51 < 59 by decide)
          have hf := Tryz.func66
          unfold execOp; go_simp
        · obtain rfl := qsj ho
          have b := hB 2 _ _ rfl (by
              intro st hst e
              rcases qm2 hst with rfl | rfl
              · exact qnd e rfl
              · change needs _ _ 7 3 = true; decide +kernel)
          have c0 := b.at_ 0 _ rfl
          have c1 := b.at_ 1 _ rfl
          clear b
          refine qvr fun ρ hA => ?_
          have h0 : ρ (.tmp 5) = .pointer (some ⟨w.heap.size + 1 + 1, 0, none⟩) := (po hA (by rw [hds]; decide)).trans rfl
          clear hA hd hB ho hs ha hO
          unfold execOp; go_simp
        · obtain rfl := qsj ho
          have b := hB 7 _ _ rfl (qns rfl)
          have c0 := b.at_ 0 _ rfl
          have c1 := b.at_ 1 _ rfl
          clear b
          refine qvr fun ρ hA => ?_
          have h0 : ρ (.tmp 14) = .pointer (some ⟨g3, 0, none⟩) := (po hA (by rw [hds]; decide)).trans rfl
          clear hA hd hB ho hs ha hO
          unfold execOp; go_simp
        · obtain rfl := qsj ho
          refine .call 66 #[.agg #[.float .f64 k1, .float .f64 k2], .agg #[.float .f64 k1, .float .f64 k2]] ?_ (CI1.out W)
          generalize hA : (puts ds L _).eval = ρ
          have hg := qrg hA
          have h0 : ρ (.tmp 53) = .agg #[.float .f64 k1, .float .f64 k2] := pg 3 hA hap (by rw [hds]; rfl) (hd 3 (by decide +kernel) (alne rfl)) (show 53 < 59 by decide)
          have h1 : ρ (.tmp 54) = .agg #[.float .f64 k1, .float .f64 k2] := pg 4 hA hap (by rw [hds]; rfl) (hd 4 (by decide +kernel) (alne rfl)) (show 54 < 59 by decide)
          have hf := Tryz.func66
          unfold execOp; go_simp
        · exact absurd rfl (hs _ qh0)
        · exact absurd rfl (hs _ qh1)
       case store =>
        intro st hst L W o h us ho hd hal hC b
        rcases qm2 hst with rfl | rfl
        · dsimp only at ho hd hal hC b ⊢
          obtain rfl := qsj ho
          obtain ⟨hh, rfl⟩ := hC _ _ rfl
          replace hh := hh.symm
          subst hh
          have c0 := b.at_ 0 _ rfl
          have f0 := b.fr 0 _ rfl
          have c1 := b.at_ 1 _ rfl
          have f1 := b.fr 1 _ rfl
          refine ⟨?_, rfl⟩
          generalize hA : (puts ds L _).eval = ρ
          have h0 : ρ (.tmp 4) = .pointer (some ⟨w.heap.size + 1, 0, none⟩) := (po hA (by rw [hds]; decide)).trans rfl
          have h1 : ρ (.tmp 52) = .agg #[.float .f64 t1, .float .f64 t2] := pg 2 hA hap (by rw [hds]; rfl) (hd 2 (by decide +kernel) (alne rfl)) (show 52 < 59 by decide)
          have hst' := @fstore
          clear hA hd b ho hal hC
          simp only [putV]
          unfold execOp; go_simp
        · dsimp only at ho hd hal hC b ⊢
          obtain rfl := qsj ho
          obtain ⟨hh, rfl⟩ := hC _ _ rfl
          replace hh := hh.symm
          subst hh
          have c0 := b.at_ 0 _ rfl
          have f0 := b.fr 0 _ rfl
          have c1 := b.at_ 1 _ rfl
          have f1 := b.fr 1 _ rfl
          refine ⟨?_, rfl⟩
          generalize hA : (puts ds L _).eval = ρ
          have h0 : ρ (.tmp 5) = .pointer (some ⟨w.heap.size + 1 + 1, 0, none⟩) := (po hA (by rw [hds]; decide)).trans rfl
          have h1 : ρ (.tmp 55) = .agg #[.float .f64 r1, .float .f64 r2] := pg 5 hA hap (by rw [hds]; rfl) (hd 5 (by decide +kernel) (alne rfl)) (show 55 < 59 by decide)
          have hst' := @fstore
          clear hA hd b ho hal hC
          simp only [putV]
          unfold execOp; go_simp
       case fin =>
        intro hf W2 K
        rw [hds]
        clear hds hap ds CH1 CI1
        (try dsimp only at K)
        simp only [List.set_cons_zero, List.set_cons_succ, puts, Act.put, List.setIfInBounds_toArray]
        replace K := Lib.hid K
        go_wp2_with fail
        go_roundw
        case rel => exact ⟨n + 1, t1, t2, r1, r2, by go_num, hnN, hTS1.out.symm, hTC1.out.symm, K.out.take 4⟩
        case measure => simp [intOf]; omega
    · have gz : ((n : Int) == 0) = false := by simpa using h0
      obtain ⟨ea, eb⟩ := e1.out h0
      obtain ⟨rfl, rfl⟩ := Prod.mk.inj ea.symm
      obtain ⟨rfl, rfl⟩ := Prod.mk.inj eb.symm
      clear e0 e1 ea eb h0
      go_upto_region 12 with fail
      replace K := K.out
      generalize (v6.alloc _).alloc _ = v7 at *
      generalize v6.heap.size + 1 = g3 at *
      generalize v6.heap.size = g2 at *
      generalize hds : ([some 50, some 51, some 52, some 53, some 54, some 55, none, none] : List (Option Tmp)) = ds
      have hap : apartL ds = true := by rw [← hds]; decide
      replace hds := hds.symm
      refine wp_region_kv (fun hf => [some (w.heap.size, [.float .f64 m1, .float .f64 m2]), some (w.heap.size + 1, [.float .f64 t1, .float .f64 t2]), some (w.heap.size + 1 + 1, [.float .f64 r1, .float .f64 r2]), some (b, fl), some (g0, [.float .f64 q1, .float .f64 q2]), some (g1, [.float .f64 p1, .float .f64 p2]), some (g2, [.float .f64 s1, .float .f64 s2]), some (g3, [.float .f64 k1, .float .f64 k2])]) (fun hf => [some (.agg #[.float .f64 x1, .float .f64 x2]), some (.agg #[.float .f64 s1, .float .f64 s2]), some (.agg #[.float .f64 t1, .float .f64 t2]), some (.agg #[.float .f64 y1, .float .f64 y2]), some (.agg #[.float .f64 k1, .float .f64 k2]), some (.agg #[.float .f64 r1, .float .f64 r2]), some (undef), some (undef)]) [] [⟨6, 1, 0, [.float .f64 t1, .float .f64 t2]⟩, ⟨7, 2, 0, [.float .f64 r1, .float .f64 r2]⟩] [.agg #[.float .f64 x1, .float .f64 x2], .agg #[.float .f64 s1, .float .f64 s2], .agg #[.float .f64 t1, .float .f64 t2], .agg #[.float .f64 y1, .float .f64 y2], .agg #[.float .f64 k1, .float .f64 k2], .agg #[.float .f64 r1, .float .f64 r2], undef, undef] ds (by kernel_rfl) (by rw [hds]; rfl) hap (by decide +kernel) (by decide +kernel) K ?ha ?haj ?hai ?hsi ?hss ?hsa ?hsw ?htg ?hE2 ?hE3 ?hE4 ?hL1 ?hL2 ?hL3 ?alloc ?step ?store ?fin
      case ha => intro al hal; cases hal
      case haj => intro al hal al' hal' e; cases hal
      case hai => intro al hal; cases hal
      case hsi => exact quq _ _ _ rfl rfl
      case hss => exact qss rfl
      case hsa =>
       intro st hst al hal
       cases hal
      case hsw =>
       intro st hst al hal e
       cases hal
      case htg =>
       intro st hst
       rcases qm2 hst with rfl | rfl
       · exact .inl ⟨_, _, rfl, show 0 + 2 ≤ 2 by decide⟩
       · exact .inl ⟨_, _, rfl, show 0 + 2 ≤ 2 by decide⟩
      case hE2 =>
       intro hf j h1 h2
       have n1 : 1 ≠ j := h1 _ qh0
       have n2 : 2 ≠ j := h1 _ qh1
       rcases j with _ | _ | _ | _ | _ | _ | _ | _ | j <;> first | rfl | exact absurd rfl n1 | exact absurd rfl n2
      case hE3 =>
       intro hf st hst g us e
       rcases qm2 hst with rfl | rfl
       · obtain ⟨rfl, rfl⟩ := Prod.mk.inj (Option.some.inj (Option.some.inj e)); rfl
       · obtain ⟨rfl, rfl⟩ := Prod.mk.inj (Option.some.inj (Option.some.inj e)); rfl
      case hE4 =>
       intro hf al hal
       cases hal
      case hL1 => intro hf; rfl
      case hL2 =>
       intro hf i hi hna
       rcases (ql8 hi) with rfl | rfl | rfl | rfl | rfl | rfl | rfl | rfl <;> first | rfl
      case hL3 => intro hf al hal; cases hal
      case alloc =>
       intro al hal o ρ W ho
       cases hal
      case step =>
       intro L W i o ho hs ha hd hB hO
       rcases (ql8 (Array.getElem?_eq_some_iff.1 ho).1) with rfl | rfl | rfl | rfl | rfl | rfl | rfl | rfl
       · obtain rfl := qsj ho
         have b := hB 1 _ _ rfl (by
            intro st hst e
            rcases qm2 hst with rfl | rfl
            · change needs _ _ 6 0 = true; decide +kernel
            · exact qnd e rfl)
         have c0 := b.at_ 0 _ rfl
         have c1 := b.at_ 1 _ rfl
         clear b
         refine qvr fun ρ hA => ?_
         have h0 : ρ (.tmp 4) = .pointer (some ⟨w.heap.size + 1, 0, none⟩) := (po hA (by rw [hds]; decide)).trans rfl
         clear hA hd hB ho hs ha hO
         unfold execOp; go_simp
       · obtain rfl := qsj ho
         have b := hB 6 _ _ rfl (qns rfl)
         have c0 := b.at_ 0 _ rfl
         have c1 := b.at_ 1 _ rfl
         clear b
         refine qvr fun ρ hA => ?_
         have h0 : ρ (.tmp 13) = .pointer (some ⟨g2, 0, none⟩) := (po hA (by rw [hds]; decide)).trans rfl
         clear hA hd hB ho hs ha hO
         unfold execOp; go_simp
       · obtain rfl := qsj ho
         refine .call 66 #[.agg #[.float .f64 x1, .float .f64 x2], .agg #[.float .f64 s1, .float .f64 s2]] ?_ (CH1.out W)
         generalize hA : (puts ds L _).eval = ρ
         have hg := qrg hA
         have h0 : ρ (.tmp 50) = .agg #[.float .f64 x1, .float .f64 x2] := pg 0 hA hap (by rw [hds]; rfl) (hd 0 (by decide +kernel) (alne rfl)) (show 50 < 59 by decide)
         have h1 : ρ (.tmp 51) = .agg #[.float .f64 s1, .float .f64 s2] := pg 1 hA hap (by rw [hds]; rfl) (hd 1 (by decide +kernel) (alne rfl)) (show 51 < 59 by decide)
         have hf := Tryz.func66
         unfold execOp; go_simp
       · obtain rfl := qsj ho
         have b := hB 2 _ _ rfl (by
            intro st hst e
            rcases qm2 hst with rfl | rfl
            · exact qnd e rfl
            · change needs _ _ 7 3 = true; decide +kernel)
         have c0 := b.at_ 0 _ rfl
         have c1 := b.at_ 1 _ rfl
         clear b
         refine qvr fun ρ hA => ?_
         have h0 : ρ (.tmp 5) = .pointer (some ⟨w.heap.size + 1 + 1, 0, none⟩) := (po hA (by rw [hds]; decide)).trans rfl
         clear hA hd hB ho hs ha hO
         unfold execOp; go_simp
       · obtain rfl := qsj ho
         have b := hB 7 _ _ rfl (qns rfl)
         have c0 := b.at_ 0 _ rfl
         have c1 := b.at_ 1 _ rfl
         clear b
         refine qvr fun ρ hA => ?_
         have h0 : ρ (.tmp 14) = .pointer (some ⟨g3, 0, none⟩) := (po hA (by rw [hds]; decide)).trans rfl
         clear hA hd hB ho hs ha hO
         unfold execOp; go_simp
       · obtain rfl := qsj ho
         refine .call 66 #[.agg #[.float .f64 y1, .float .f64 y2], .agg #[.float .f64 k1, .float .f64 k2]] ?_ (CI1.out W)
         generalize hA : (puts ds L _).eval = ρ
         have hg := qrg hA
         have h0 : ρ (.tmp 53) = .agg #[.float .f64 y1, .float .f64 y2] := pg 3 hA hap (by rw [hds]; rfl) (hd 3 (by decide +kernel) (alne rfl)) (show 53 < 59 by decide)
         have h1 : ρ (.tmp 54) = .agg #[.float .f64 k1, .float .f64 k2] := pg 4 hA hap (by rw [hds]; rfl) (hd 4 (by decide +kernel) (alne rfl)) (show 54 < 59 by decide)
         have hf := Tryz.func66
         unfold execOp; go_simp
       · exact absurd rfl (hs _ qh0)
       · exact absurd rfl (hs _ qh1)
      case store =>
       intro st hst L W o h us ho hd hal hC b
       rcases qm2 hst with rfl | rfl
       · dsimp only at ho hd hal hC b ⊢
         obtain rfl := qsj ho
         obtain ⟨hh, rfl⟩ := hC _ _ rfl
         replace hh := hh.symm
         subst hh
         have c0 := b.at_ 0 _ rfl
         have f0 := b.fr 0 _ rfl
         have c1 := b.at_ 1 _ rfl
         have f1 := b.fr 1 _ rfl
         refine ⟨?_, rfl⟩
         generalize hA : (puts ds L _).eval = ρ
         have h0 : ρ (.tmp 4) = .pointer (some ⟨w.heap.size + 1, 0, none⟩) := (po hA (by rw [hds]; decide)).trans rfl
         have h1 : ρ (.tmp 52) = .agg #[.float .f64 t1, .float .f64 t2] := pg 2 hA hap (by rw [hds]; rfl) (hd 2 (by decide +kernel) (alne rfl)) (show 52 < 59 by decide)
         have hst' := @fstore
         clear hA hd b ho hal hC
         simp only [putV]
         unfold execOp; go_simp
       · dsimp only at ho hd hal hC b ⊢
         obtain rfl := qsj ho
         obtain ⟨hh, rfl⟩ := hC _ _ rfl
         replace hh := hh.symm
         subst hh
         have c0 := b.at_ 0 _ rfl
         have f0 := b.fr 0 _ rfl
         have c1 := b.at_ 1 _ rfl
         have f1 := b.fr 1 _ rfl
         refine ⟨?_, rfl⟩
         generalize hA : (puts ds L _).eval = ρ
         have h0 : ρ (.tmp 5) = .pointer (some ⟨w.heap.size + 1 + 1, 0, none⟩) := (po hA (by rw [hds]; decide)).trans rfl
         have h1 : ρ (.tmp 55) = .agg #[.float .f64 r1, .float .f64 r2] := pg 5 hA hap (by rw [hds]; rfl) (hd 5 (by decide +kernel) (alne rfl)) (show 55 < 59 by decide)
         have hst' := @fstore
         clear hA hd b ho hal hC
         simp only [putV]
         unfold execOp; go_simp
      case fin =>
       intro hf W2 K
       rw [hds]
       clear hds hap ds CH1 CI1
       (try dsimp only at K)
       simp only [List.set_cons_zero, List.set_cons_succ, puts, Act.put, List.setIfInBounds_toArray]
       replace K := Lib.hid K
       go_wp2_with fail
       go_roundw
       case rel => exact ⟨n + 1, t1, t2, r1, r2, by go_num, hnN, hTS1.out.symm, hTC1.out.symm, K.out.take 4⟩
       case measure => simp [intOf]; omega
  · obtain rfl : n = N := by omega
    have fx : TS (L.length - 1) = (x1, x2) ∧ TC (L.length - 1) = (y1, y2) := by
        rw [← hN.out]
        obtain ⟨k, rfl⟩ := Nat.exists_eq_succ_of_ne_zero (Nat.pos_iff_ne_zero.1 hN0)
        exact ⟨hx, hy⟩
    obtain ⟨rfl, rfl⟩ := Prod.mk.inj (ha.out.trans fx.1)
    obtain ⟨rfl, rfl⟩ := Prod.mk.inj (hc.out.trans fx.2)
    clear fx ha hc hx hy CS CU CH CI RD FA hN hN0
    replace K := Lib.hid K
    go_upto_region 14 with fail
    replace K := K.out
    generalize hds : ([some 57, some 58, none, none] : List (Option Tmp)) = ds
    have hap : apartL ds = true := by rw [← hds]; decide
    replace hds := hds.symm
    refine wp_region_kv (fun hf => [some (w.heap.size, [.float .f64 m1, .float .f64 m2]), some (w.heap.size + 1, [.float .f64 a1, .float .f64 a2]), some (w.heap.size + 1 + 1, [.float .f64 b1, .float .f64 b2]), some (b, fl)]) (fun hf => [some (.agg #[.float .f64 a1, .float .f64 a2]), some (.agg #[.float .f64 b1, .float .f64 b2]), some (undef), some (undef)]) [] [⟨2, 1, 0, [.float .f64 a1, .float .f64 a2]⟩, ⟨3, 2, 0, [.float .f64 b1, .float .f64 b2]⟩] [.agg #[.float .f64 a1, .float .f64 a2], .agg #[.float .f64 b1, .float .f64 b2], undef, undef] ds (by kernel_rfl) (by rw [hds]; rfl) hap (by decide +kernel) (by decide +kernel) K ?ha ?haj ?hai ?hsi ?hss ?hsa ?hsw ?htg ?hE2 ?hE3 ?hE4 ?hL1 ?hL2 ?hL3 ?alloc ?step ?store ?fin
    case ha => intro al hal; cases hal
    case haj => intro al hal al' hal' e; cases hal
    case hai => intro al hal; cases hal
    case hsi => exact quq _ _ _ rfl rfl
    case hss => exact qss rfl
    case hsa =>
        intro st hst al hal
        cases hal
    case hsw =>
        intro st hst al hal e
        cases hal
    case htg =>
        intro st hst
        rcases qm2 hst with rfl | rfl
        · exact .inl ⟨_, _, rfl, show 0 + 2 ≤ 2 by decide⟩
        · exact .inl ⟨_, _, rfl, show 0 + 2 ≤ 2 by decide⟩
    case hE2 =>
        intro hf j h1 h2
        have n1 : 1 ≠ j := h1 _ qh0
        have n2 : 2 ≠ j := h1 _ qh1
        rcases j with _ | _ | _ | _ | j <;> first | rfl | exact absurd rfl n1 | exact absurd rfl n2
    case hE3 =>
        intro hf st hst g us e
        rcases qm2 hst with rfl | rfl
        · obtain ⟨rfl, rfl⟩ := Prod.mk.inj (Option.some.inj (Option.some.inj e)); rfl
        · obtain ⟨rfl, rfl⟩ := Prod.mk.inj (Option.some.inj (Option.some.inj e)); rfl
    case hE4 =>
        intro hf al hal
        cases hal
    case hL1 => intro hf; rfl
    case hL2 =>
        intro hf i hi hna
        rcases (ql4 hi) with rfl | rfl | rfl | rfl <;> first | rfl
    case hL3 => intro hf al hal; cases hal
    case alloc =>
        intro al hal o ρ W ho
        cases hal
    case step =>
        intro L W i o ho hs ha hd hB hO
        rcases (ql4 (Array.getElem?_eq_some_iff.1 ho).1) with rfl | rfl | rfl | rfl
        · obtain rfl := qsj ho
          have b := hB 1 _ _ rfl (by
           intro st hst e
           rcases qm2 hst with rfl | rfl
           · change needs _ _ 2 0 = true; decide +kernel
           · exact qnd e rfl)
          have c0 := b.at_ 0 _ rfl
          have c1 := b.at_ 1 _ rfl
          clear b
          refine qvr fun ρ hA => ?_
          have h0 : ρ (.tmp 4) = .pointer (some ⟨w.heap.size + 1, 0, none⟩) := (po hA (by rw [hds]; decide)).trans rfl
          clear hA hd hB ho hs ha hO
          unfold execOp; go_simp
        · obtain rfl := qsj ho
          have b := hB 2 _ _ rfl (by
           intro st hst e
           rcases qm2 hst with rfl | rfl
           · exact qnd e rfl
           · change needs _ _ 3 1 = true; decide +kernel)
          have c0 := b.at_ 0 _ rfl
          have c1 := b.at_ 1 _ rfl
          clear b
          refine qvr fun ρ hA => ?_
          have h0 : ρ (.tmp 5) = .pointer (some ⟨w.heap.size + 1 + 1, 0, none⟩) := (po hA (by rw [hds]; decide)).trans rfl
          clear hA hd hB ho hs ha hO
          unfold execOp; go_simp
        · exact absurd rfl (hs _ qh0)
        · exact absurd rfl (hs _ qh1)
    case store =>
        intro st hst L W o h us ho hd hal hC b
        rcases qm2 hst with rfl | rfl
        · dsimp only at ho hd hal hC b ⊢
          obtain rfl := qsj ho
          obtain ⟨hh, rfl⟩ := hC _ _ rfl
          replace hh := hh.symm
          subst hh
          have c0 := b.at_ 0 _ rfl
          have f0 := b.fr 0 _ rfl
          have c1 := b.at_ 1 _ rfl
          have f1 := b.fr 1 _ rfl
          refine ⟨?_, rfl⟩
          generalize hA : (puts ds L _).eval = ρ
          have h0 : ρ (.tmp 4) = .pointer (some ⟨w.heap.size + 1, 0, none⟩) := (po hA (by rw [hds]; decide)).trans rfl
          have h1 : ρ (.tmp 57) = .agg #[.float .f64 a1, .float .f64 a2] := pg 0 hA hap (by rw [hds]; rfl) (hd 0 (by decide +kernel) (alne rfl)) (show 57 < 59 by decide)
          have hst' := @fstore
          clear hA hd b ho hal hC
          simp only [putV]
          unfold execOp; go_simp
        · dsimp only at ho hd hal hC b ⊢
          obtain rfl := qsj ho
          obtain ⟨hh, rfl⟩ := hC _ _ rfl
          replace hh := hh.symm
          subst hh
          have c0 := b.at_ 0 _ rfl
          have f0 := b.fr 0 _ rfl
          have c1 := b.at_ 1 _ rfl
          have f1 := b.fr 1 _ rfl
          refine ⟨?_, rfl⟩
          generalize hA : (puts ds L _).eval = ρ
          have h0 : ρ (.tmp 5) = .pointer (some ⟨w.heap.size + 1 + 1, 0, none⟩) := (po hA (by rw [hds]; decide)).trans rfl
          have h1 : ρ (.tmp 58) = .agg #[.float .f64 b1, .float .f64 b2] := pg 1 hA hap (by rw [hds]; rfl) (hd 1 (by decide +kernel) (alne rfl)) (show 58 < 59 by decide)
          have hst' := @fstore
          clear hA hd b ho hal hC
          simp only [putV]
          unfold execOp; go_simp
    case fin =>
        intro hf W9 K
        rw [hds]
        clear hds hap ds
        (try dsimp only at K)
        simp only [List.set_cons_zero, List.set_cons_succ, puts, Act.put, List.setIfInBounds_toArray]
        have c1_0 := K.ce 1 0 rfl rfl
        have f1_0 := K.fe 1 0 rfl rfl
        have c1_1 := K.ce 1 1 rfl rfl
        have f1_1 := K.fe 1 1 rfl rfl
        have c2_0 := K.ce 2 0 rfl rfl
        have f2_0 := K.fe 2 0 rfl rfl
        have c2_1 := K.ce 2 1 rfl rfl
        have f2_1 := K.fe 2 1 rfl rfl
        replace K := Lib.hid K
        go_wp2_with fail
        replace K := K.out
        (try simp only [Exit.inBlock, Exit.then])
        refine bodyPost_ret (v := .tuple #[.agg #[.float .f64 a1, .float .f64 a2], .agg #[.float .f64 b1, .float .f64 b2]]) ?_ rfl ⟨rfl, ?_⟩
        · rw [results_cells2 rfl]; go_simp
        · exact K.old
end Go.Proofs.YtdfcchocabapkaaGreat
