/- Proved here: for all skies, bodies and two times the law SkyStill returns true: a body that is Fixed, and whose Ups all are, stands at one place at all times. No conditions. -/
import Derived.Test.YtacinenddnfcbaaGreatRows
import Derived.Test.YtacinenddnfcbaaGreatJy25
set_option maxHeartbeats 2000000
set_option maxRecDepth 100000
namespace Go.Proofs.YtacinenddnfcbaaGreat.skyStill
open Go.ChangeShapes Go.WideShapes Go.ChangeAt Go.RowKit

theorem walk (w : World) (S0 : Sy) (fao0 bao0 : Option Addr) (fc0 bc0 : Nat) (M0 : List Bm) (hM0 : M0.map Bm.b = S0.bs) (ha0 : SkAt w S0 fao0 bao0 M0) (hz0 : fao0 = none → fc0 = 0) (Z0 : SkZ S0) (a1 : Int) (_h1 : (Lit.int .i64 a1).wf = true) (a2 : Nat) (h2 : a2 < 18446744073709551616) (a3 : Nat) (h3 : a3 < 18446744073709551616) :
 Calls Tryz.prog 6 #[.agg #[.float .f64 S0.lt, .slice fao0 S0.fs.length fc0, .slice bao0 S0.bs.length bc0], .int .i64 a1, .float .f64 a2, .float .f64 a3] w fun e w' => e = .returned (.bool true) ∧ Below w.heap.size w w' := by
 have AW := Lib.hid awake15
 have CC := Lib.hid (fun W (h : Below w.heap.size w W) => rcopy_run Z0.w hM0 hz0 Z0.f Z0.b (bc := bc0) (fc := fc0) (ha0.on h))
 have ST : Hid (∀ W, Below w.heap.size w W → Calls Tryz.prog 19 #[.agg #[.float .f64 S0.lt, .slice fao0 S0.fs.length fc0, .slice bao0 S0.bs.length bc0], .int .i64 a1] W fun e w' => e = .returned (.bool (stS S0.bs (a1.toNat + 1) a1)) ∧ Below W.heap.size W w') := Lib.hid fun W h => rstill_run hM0 (by rw [← hM0, List.length_map]) (ha0.on h).bs
 have P1 : Hid (∀ (W : World) (fa ba : Option Addr) (fcc bcc : Nat) (N : List Bm), N.map Bm.b = S0.bs → SkAt W S0 fa ba N → Calls Tryz.prog 13 #[.agg #[.float .f64 S0.lt, .slice fa S0.fs.length fcc, .slice ba S0.bs.length bcc], .int .i64 a1, .float .f64 a2] W fun e w' => e = .returned (vecE (plS S0 a1 a2).1 (plS S0 a1 a2).2) ∧ Below W.heap.size W w') := Lib.hid fun W fa ba fcc bcc N h g => yplace_run Z0.w h h2 g
 have P2 : Hid (∀ (W : World) (fa ba : Option Addr) (fcc bcc : Nat) (N : List Bm), N.map Bm.b = S0.bs → SkAt W S0 fa ba N → Calls Tryz.prog 13 #[.agg #[.float .f64 S0.lt, .slice fa S0.fs.length fcc, .slice ba S0.bs.length bcc], .int .i64 a1, .float .f64 a3] W fun e w' => e = .returned (vecE (plS S0 a1 a3).1 (plS S0 a1 a3).2) ∧ Below W.heap.size W w') := Lib.hid fun W fa ba fcc bcc N h g => yplace_run Z0.w h h3 g
 have KEY : Hid ((plS S0 a1 a2).2 = 0 → (plS S0 a1 a3).2 = 0 → stS S0.bs (a1.toNat + 1) a1 = true → plS S0 a1 a2 = plS S0 a1 a3) := Lib.hid fun e f g => pl_still e f g
 unfold vecE vecV at P1 P2
 generalize stS S0.bs (a1.toNat + 1) a1 = st at *
 generalize plS S0 a1 a2 = RA at *
 generalize plS S0 a1 a3 = RB at *
 obtain ⟨⟨x1, x2, x3⟩, k⟩ := RA
 obtain ⟨⟨y1, y2, y3⟩, l⟩ := RB
 dsimp only at *
 clear hM0 ha0 hz0 Z0
 have K0 := kv1 w 26 [.float .f64 S0.lt, .slice fao0 S0.fs.length fc0, .slice bao0 S0.bs.length bc0]
 simp only [objV] at K0
 replace K0 := Lib.hid K0
 have hst := @fstore
 go_enter Tryz.func6, Tryz.ntmps6
 go_wp2_with fail
 replace K0 := K0.out
 have K := K0
 clear K0
 generalize w.alloc _ = wr at *
 refine (AW.out wr).mono ?_
 rintro _ v1 ⟨rfl, hb⟩
 replace K := K.on hb
 clear hb AW
 have c0_0 := (K.at_ 0 rfl).at_ 0 _ rfl
 have c0_1 := (K.at_ 0 rfl).at_ 1 _ rfl
 have c0_2 := (K.at_ 0 rfl).at_ 2 _ rfl
 replace K := Lib.hid K
 go_wp2_with fail
 clear c0_0 c0_1 c0_2
 refine (CC.out _ K.out.old).mono ?_
 rintro _ v2 ⟨hce, hb⟩
 obtain ⟨fa, fcc, ba, bcc, N, rfl, CS⟩ := hce
 replace K := Lib.hid (K.out.on hb)
 have A1 := CS.at_
 have eN := CS.eq
 clear hb CS
 go_wp2_with fail
 refine (P1.out _ _ _ _ _ _ eN ⟨A1.1, A1.2⟩).mono ?_
 rintro _ v3 ⟨rfl, hb⟩
 replace K := (K.out.on hb).new 41 [.float .f64 x1, .float .f64 x2, .float .f64 x3]
 simp only [objV, List.cons_append, List.nil_append] at K
 clear hb eN A1 P1
 have c0_0 := (K.at_ 0 rfl).at_ 0 _ rfl
 have c0_1 := (K.at_ 0 rfl).at_ 1 _ rfl
 have c0_2 := (K.at_ 0 rfl).at_ 2 _ rfl
 replace K := Lib.hid K
 go_wp2_with fail
 replace K := K.out
 generalize hu : v3.alloc _ = u3 at *
 generalize v3.heap.size = g3 at *
 clear hu c0_0 c0_1 c0_2
 replace K := Lib.hid K
 refine (CC.out _ K.out.old).mono ?_
 rintro _ v4 ⟨hce, hb⟩
 obtain ⟨fa, fcc, ba, bcc, N, rfl, CS⟩ := hce
 replace K := Lib.hid (K.out.on hb)
 have A1 := CS.at_
 have eN := CS.eq
 clear hb CS
 go_wp2_with fail
 refine (P2.out _ _ _ _ _ _ eN ⟨A1.1, A1.2⟩).mono ?_
 rintro _ v5 ⟨rfl, hb⟩
 replace K := (K.out.on hb).new 41 [.float .f64 y1, .float .f64 y2, .float .f64 y3]
 simp only [objV, List.cons_append, List.nil_append] at K
 clear hb eN A1 P2 CC
 have c0_0 := (K.at_ 0 rfl).at_ 0 _ rfl
 have c0_1 := (K.at_ 0 rfl).at_ 1 _ rfl
 have c0_2 := (K.at_ 0 rfl).at_ 2 _ rfl
 have c1_0 := (K.at_ 1 rfl).at_ 0 _ rfl
 have c1_1 := (K.at_ 1 rfl).at_ 1 _ rfl
 have c1_2 := (K.at_ 1 rfl).at_ 2 _ rfl
 have c2_0 := (K.at_ 2 rfl).at_ 0 _ rfl
 have c2_1 := (K.at_ 2 rfl).at_ 1 _ rfl
 have c2_2 := (K.at_ 2 rfl).at_ 2 _ rfl
 replace K := Lib.hid K
 by_cases hk : k = 0
 · by_cases hl : l = 0
   · replace KEY := Lib.hid (KEY.out hk hl)
     subst hk
     subst hl
     go_wp2_with fail
     refine (ST.out _ K.out.old).mono ?_
     rintro _ v6 ⟨rfl, hb⟩
     clear c0_0 c0_1 c0_2 c1_0 c1_1 c1_2 c2_0 c2_1 c2_2 ST
     replace K := K.out.on hb
     clear hb
     cases st with
     | false =>
       replace K := Lib.hid K
       go_wp2_with fail
       go_ret
       exact ⟨by first | rfl | trivial, K.out.old⟩
     | true =>
       have e := KEY.out rfl
       simp only [Prod.mk.injEq, and_true] at e
       obtain ⟨rfl, rfl, rfl⟩ := e
       have c1_0 := (K.at_ 1 rfl).at_ 0 _ rfl
       have c1_1 := (K.at_ 1 rfl).at_ 1 _ rfl
       have c1_2 := (K.at_ 1 rfl).at_ 2 _ rfl
       have c2_0 := (K.at_ 2 rfl).at_ 0 _ rfl
       have c2_1 := (K.at_ 2 rfl).at_ 1 _ rfl
       have c2_2 := (K.at_ 2 rfl).at_ 2 _ rfl
       replace K := Lib.hid K
       go_wp2_with fail
       refine (samevec_run _ _ _ _).mono ?_
       rintro _ v7 ⟨rfl, hb⟩
       replace K := Lib.hid (K.out.on hb)
       clear hb
       go_wp2_with fail
       go_ret
       exact ⟨by first | rfl | trivial, K.out.old⟩
   · have hl' : (l != 0) = true := by simpa using hl
     subst hk
     go_wp2_with fail
     go_ret
     exact ⟨by first | rfl | trivial, K.out.old⟩
 · have hk' : (k != 0) = true := by simpa using hk
   go_wp2_with fail
   go_ret
   exact ⟨by first | rfl | trivial, K.out.old⟩
theorem own : ownKnob Tryz.prog.godebug = none := by kernel_rfl
theorem laidOut : laidOutB Tryz.prog = true := by kernel_rfl
theorem lifted (os : Os) (started : os.Started) (H : Type) (enc : TypeId × Value → H) :
 ReturnsInHanded {} Tryz.checked os 6 .any (Rows.skyStillSpec.pre6 enc Tryz.prog Tryz.f6 Rows.skyStillRow.domain false) (Rows.skyStillSpec.post enc Tryz.prog Tryz.f6 false true false false) := by
 refine returnsInHanded_of_change_sized (C := Tryz.checked) own started (by kernel_rfl) Tryz.func6
  (ChangeSpec.witness6 (enc := enc) (C := Tryz.checked) false ⟨#[], #[.agg #[.float .f64 0, .slice none 0 0, .slice none 0 0], .int .i64 0, .float .f64 0, .float .f64 0], []⟩ 8 (by kernel_rfl) (by kernel_rfl) (by kernel_rfl) (by kernel_rfl)) ?_
 intro W base args ds gs before hval0 hW _ hsz0 _
 have hsz : (DataW.weightsEach Tryz.prog (Tryz.f6.params.toList ++ Rows.skyStillSpec.plain.varTypes Tryz.prog) (ds ++ gs)).all (· ≤ reachBytes) = true := hsz0
 clear hsz0
 have hval : ∀ (j : Nat) t v, Tryz.f6.params[j]? = some t → args[j]? = some v → Value.okWide Tryz.prog W .any base t v := hval0
 have hW' := hW
 obtain ⟨p, q, hA0, hV, rfl, _, _⟩ := hW
 have hA : DataW.TrodAll enc Tryz.prog W 0 (fun _ => true) true Tryz.f6.params.toList args.toList ds p := hA0
 rw [Tryz.params6] at hA hval hsz
 obtain ⟨v0, vs0, d0, ds0, p0, q0, hargs, rfl, rfl, t0, r0⟩ := trodAll_cons hA
 obtain ⟨v1, vs1, d1, ds1, p1, q1, rfl, rfl, rfl, t1, r1⟩ := trodAll_cons r0
 obtain ⟨v2, vs2, d2, ds2, p2, q2, rfl, rfl, rfl, t2, r2⟩ := trodAll_cons r1
 obtain ⟨v3, vs3, d3, ds3, p3, q3, rfl, rfl, rfl, t3, r3⟩ := trodAll_cons r2
 obtain ⟨rfl, rfl, rfl⟩ := trodAll_nil r3
 obtain rfl : args = #[v0, v1, v2, v3] := by cases args; simp_all
 obtain ⟨rfl, rfl⟩ := trodVars_none hV
 simp only [List.append_nil] at hW'
 have tk0 := t0
 obtain ⟨S0, fao0, fc0, bao0, bc0, M0, rfl, G0⟩ := open_sky (hval 0 26 v0 rfl rfl) t0
 have Z0 : SkZ S0 := sky_size G0 (fun x hx => by
  have h := List.all_eq_true.1 hsz _ (DataW.weights_mem_each (j := 0) (t := 26) rfl rfl x hx)
  simpa using h)
 have hlt0 : ∀ x ∈ p0, x.block < W.heap.size := fun x hx => by have := hW'.lt x (by simp [hx]); simpa using this
 obtain ⟨a1, rfl, rfl, rfl, w1⟩ := open_int Tryz.underlying3 (hval 1 3 v1 rfl rfl) t1
 obtain ⟨a2, rfl, rfl, rfl, w2⟩ := open_float Tryz.underlying22 (hval 2 22 v2 rfl rfl) t2
 obtain ⟨a3, rfl, rfl, rfl, w3⟩ := open_float Tryz.underlying22 (hval 3 22 v3 rfl rfl) t3
 clear hA0 hval0
 refine (walk W S0 fao0 bao0 fc0 bc0 M0 G0.eq G0.at_ G0.fz Z0 a1 w1 a2 (wf64 w2) a3 (wf64 w3)).mono fun e W' ⟨he, hb⟩ => ?_
 subst he
 refine ⟨_, rfl, _, _, _, [], _, [], hW', trodAll_cons_mk (shut_bool Tryz.underlying4 _) trodAll_mk0, (trodAll_cons_mk (Below.trod laidOut (by kernel_rfl) (of_decide_eq_true (by kernel_rfl)) tk0 hb hlt0) (trodAll_cons_mk (shut_int Tryz.underlying3 w1) (trodAll_cons_mk (shut_float Tryz.underlying22 w2) (trodAll_cons_mk (shut_float Tryz.underlying22 w3) trodAll_mk0)))), rfl, hb.frame _, fun h => by cases h⟩

theorem over : Rows.skyStillRow.holds Tryz.pinned (OpenSpec.ofChange Rows.skyStillSpec) :=
 OpenClaim.holds_of_wide 6 Tryz.f6 rfl rfl rfl rfl rfl rfl rfl ⟨rfl, rfl, rfl, rfl, rfl⟩ rfl rfl rfl rfl rfl (by kernel_rfl) Tryz.func6 (by kernel_rfl)
  (of_decide_eq_true (by kernel_rfl)) (by unfold Func.isWrapper; first | (rw [if_pos (by decide +kernel)]; kernel_rfl) | (rw [if_neg (by decide +kernel)]; exact ⟨rfl, rfl⟩))
  (fun os started H enc _ => lifted os started H enc)

theorem proved : Rows.SkyStillSaid :=
 over
end Go.Proofs.YtacinenddnfcbaaGreat.skyStill
