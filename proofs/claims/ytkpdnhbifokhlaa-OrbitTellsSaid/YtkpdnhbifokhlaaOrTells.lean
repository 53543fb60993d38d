/- Proved here: for all orbits and numbers the law OrbitTells returns true: mean and true places are the document's, bit by bit. No conditions. -/
import Derived.Test.YtkpdnhbifokhlaaRows
import Derived.Test.YtkpdnhbifokhlaaJp6
import Derived.Test.YtkpdnhbifokhlaaJp7
import Derived.Test.YtkpdnhbifokhlaaJv2
namespace Go.Proofs.Ytkpdnhbifokhlaa.orbitTells
open Go.ChangeShapes Go.WideShapes Go.ChangeAt Go.RowKit

open Ieee.Own
set_option maxHeartbeats 2000000 in
set_option maxRecDepth 100000 in
theorem walk (w : World) (a0 : Ob) (h0 : ObW a0) (a1 : Nat) (h1 : a1 < 18446744073709551616) (a2 : Nat) (h2 : a2 < 18446744073709551616) (a3 : Nat) (h3 : a3 < 18446744073709551616) :
    Calls Try.prog 3 #[obV a0, .float .f64 a1, .float .f64 a2, .float .f64 a3] w fun e w' => e = .returned (.bool true) ∧ Below w.heap.size w w' := by
  have AW := Lib.hid awake11
  have CC := Lib.hid (fun w => ocheck_run h0 w)
  have CD := Lib.hid (fun w => rcheckO_run h0 w)
  have CM := Lib.hid (fun w => omean_run h0 h1 w)
  have CN := Lib.hid (fun w => rmean_run h0 h1 w)
  have CS := Lib.hid (fun w => osolve_run h2 h3 w)
  have CT := Lib.hid (fun w => rsolve_run h2 h3 w)
  have CA := Lib.hid (fun w => oat_run h0 h1 w)
  have CB := Lib.hid (fun w => rat_run h0 h1 w)
  clear h0 h1 h2 h3
  generalize chkO a0 = kc at *
  generalize meanR a0 a1 = M at *
  generalize solR a2 a3 = S at *
  generalize atR a0 a1 = A at *
  obtain ⟨m, km⟩ := M
  obtain ⟨s, ks⟩ := S
  obtain ⟨⟨y1, y2, y3⟩, ka⟩ := A
  have tc : (kc != kc) = false := by simp
  have tm : (km != km) = false := by simp
  have ts : (ks != ks) = false := by simp
  have ta : (ka == ka) = true := by simp
  have S1 := fun w => same_self m w
  have S2 := fun w => same_self s w
  have SV := Lib.hid (fun w => samevec_run y1 y2 y3 w)
  obtain ⟨ax, ec, ti, no, pe, ph, ra⟩ := a0
  unfold obV floE2 vecE at *
  unfold vecV at *
  dsimp only at *
  have K0 := kv1 w 24 [.float .f64 ax, .float .f64 ec, .float .f64 ti, .float .f64 no, .float .f64 pe, .float .f64 ph, .float .f64 ra]
  simp only [objV] at K0
  have hst := @fstore
  replace K0 := Lib.hid K0
  go_enter Try.func3, Try.ntmps3
  go_upto_region 1 with fail
  have K := K0.out
  clear K0
  generalize w.alloc _ = wr at *
  generalize hds : ([some 15, some 16, some 17, some 18, some 19, some 20, some 21, some 22, some 23] : List (Option Tmp)) = ds
  have hap : apartL ds = true := by rw [← hds]; decide
  replace hds := hds.symm
  refine wp_region_det (by kernel_rfl) ds (by rw [hds]; rfl) hap (by decide +kernel) [.bool true, .bool false, .bool false, .agg #[.float .f64 ax, .float .f64 ec, .float .f64 ti, .float .f64 no, .float .f64 pe, .float .f64 ph, .float .f64 ra], .int .i64 kc, .agg #[.float .f64 ax, .float .f64 ec, .float .f64 ti, .float .f64 no, .float .f64 pe, .float .f64 ph, .float .f64 ra], .int .i64 kc, .bool false, .bool false] rfl (fun W => Kv w [some (w.heap.size, [.float .f64 ax, .float .f64 ec, .float .f64 ti, .float .f64 no, .float .f64 pe, .float .f64 ph, .float .f64 ra])] W) K.draws ?step ?fin
  case step =>
    intro L W i o ho hd hS
    have hi : i < 9 := (Array.getElem?_eq_some_iff.1 ho).1
    have : i = 0 ∨ i = 1 ∨ i = 2 ∨ i = 3 ∨ i = 4 ∨ i = 5 ∨ i = 6 ∨ i = 7 ∨ i = 8 := by omega
    rcases this with rfl | rfl | rfl | rfl | rfl | rfl | rfl | rfl | rfl
    · -- 0
      obtain rfl := Option.some.inj ho
      refine .call rfl 8 #[] ?_ ((AW.out W).mono fun e w' h => ⟨h.1, hS.on h.2⟩)
      generalize hA : (puts ds L _).eval = ρ
      have hc : ∀ v, ρ (.const v) = v := fun v => by rw [← hA]; rfl
      have hg : ∀ g, ρ (.func g) = .func (.func g) #[] #[] := fun v => by rw [← hA]; rfl
      have hf := Try.func8
      unfold execOp
      go_simp
    · -- 1
      obtain rfl := Option.some.inj ho
      refine .value rfl W ?_ hS
      generalize hA : (puts ds L _).eval = ρ
      have hc : ∀ v, ρ (.const v) = v := fun v => by rw [← hA]; rfl
      have hg : ∀ g, ρ (.func g) = .func (.func g) #[] #[] := fun v => by rw [← hA]; rfl
      have h0 : ρ (.tmp 15) = .bool true := by rw [← hA]; exact puts_get 0 ds L _ hap (by rw [hds]; rfl) (hd 0 (by decide +kernel)) (show 15 < 86 by decide)
      clear hA hd ho
      unfold execOp
      go_simp
    · -- 2
      obtain rfl := Option.some.inj ho
      refine .value rfl W ?_ hS
      generalize hA : (puts ds L _).eval = ρ
      have hc : ∀ v, ρ (.const v) = v := fun v => by rw [← hA]; rfl
      have hg : ∀ g, ρ (.func g) = .func (.func g) #[] #[] := fun v => by rw [← hA]; rfl
      have h0 : ρ (.tmp 16) = .bool false := by rw [← hA]; exact puts_get 1 ds L _ hap (by rw [hds]; rfl) (hd 1 (by decide +kernel)) (show 16 < 86 by decide)
      clear hA hd ho
      unfold execOp
      go_simp
    · -- 3
      obtain rfl := Option.some.inj ho
      refine Comes.guarded (j := 2) (t := 17) (want := false) (b := false) (by rw [hds]; rfl) hap rfl (by rw [hds]; rfl) (hd 2 (by decide +kernel)) (show 17 < 86 by decide) (fun _ hw => ?_) (fun e => absurd rfl e)
      have b := hS.at_ 0 rfl
      have c0 := b.at_ 0 _ rfl
      have c1 := b.at_ 1 _ rfl
      have c2 := b.at_ 2 _ rfl
      have c3 := b.at_ 3 _ rfl
      have c4 := b.at_ 4 _ rfl
      have c5 := b.at_ 5 _ rfl
      have c6 := b.at_ 6 _ rfl
      clear b
      refine .value hw W ?_ hS
      generalize hA : (puts ds L _).eval = ρ
      have hc : ∀ v, ρ (.const v) = v := fun v => by rw [← hA]; rfl
      have hg : ∀ g, ρ (.func g) = .func (.func g) #[] #[] := fun v => by rw [← hA]; rfl
      have h0 : ρ (.tmp 4) = .pointer (some ⟨w.heap.size, 0, none⟩) := by rw [← hA]; exact (puts_old ds L _ (by rw [hds]; decide)).trans rfl
      clear hA hd ho
      unfold execOp
      go_simp
    · -- 4
      obtain rfl := Option.some.inj ho
      refine Comes.guarded (j := 2) (t := 17) (want := false) (b := false) (by rw [hds]; rfl) hap rfl (by rw [hds]; rfl) (hd 2 (by decide +kernel)) (show 17 < 86 by decide) (fun _ hw => ?_) (fun e => absurd rfl e)
      refine .call hw 9 #[.agg #[.float .f64 ax, .float .f64 ec, .float .f64 ti, .float .f64 no, .float .f64 pe, .float .f64 ph, .float .f64 ra]] ?_ ((CC.out W).mono fun e w' h => ⟨h.1, hS.on h.2⟩)
      generalize hA : (puts ds L _).eval = ρ
      have hc : ∀ v, ρ (.const v) = v := fun v => by rw [← hA]; rfl
      have hg : ∀ g, ρ (.func g) = .func (.func g) #[] #[] := fun v => by rw [← hA]; rfl
      have h0 : ρ (.tmp 18) = .agg #[.float .f64 ax, .float .f64 ec, .float .f64 ti, .float .f64 no, .float .f64 pe, .float .f64 ph, .float .f64 ra] := by rw [← hA]; exact puts_get 3 ds L _ hap (by rw [hds]; rfl) (hd 3 (by decide +kernel)) (show 18 < 86 by decide)
      have hf := Try.func9
      unfold execOp
      go_simp
    · -- 5
      obtain rfl := Option.some.inj ho
      refine Comes.guarded (j := 2) (t := 17) (want := false) (b := false) (by rw [hds]; rfl) hap rfl (by rw [hds]; rfl) (hd 2 (by decide +kernel)) (show 17 < 86 by decide) (fun _ hw => ?_) (fun e => absurd rfl e)
      have b := hS.at_ 0 rfl
      have c0 := b.at_ 0 _ rfl
      have c1 := b.at_ 1 _ rfl
      have c2 := b.at_ 2 _ rfl
      have c3 := b.at_ 3 _ rfl
      have c4 := b.at_ 4 _ rfl
      have c5 := b.at_ 5 _ rfl
      have c6 := b.at_ 6 _ rfl
      clear b
      refine .value hw W ?_ hS
      generalize hA : (puts ds L _).eval = ρ
      have hc : ∀ v, ρ (.const v) = v := fun v => by rw [← hA]; rfl
      have hg : ∀ g, ρ (.func g) = .func (.func g) #[] #[] := fun v => by rw [← hA]; rfl
      have h0 : ρ (.tmp 4) = .pointer (some ⟨w.heap.size, 0, none⟩) := by rw [← hA]; exact (puts_old ds L _ (by rw [hds]; decide)).trans rfl
      clear hA hd ho
      unfold execOp
      go_simp
    · -- 6
      obtain rfl := Option.some.inj ho
      refine Comes.guarded (j := 2) (t := 17) (want := false) (b := false) (by rw [hds]; rfl) hap rfl (by rw [hds]; rfl) (hd 2 (by decide +kernel)) (show 17 < 86 by decide) (fun _ hw => ?_) (fun e => absurd rfl e)
      refine .call hw 10 #[.agg #[.float .f64 ax, .float .f64 ec, .float .f64 ti, .float .f64 no, .float .f64 pe, .float .f64 ph, .float .f64 ra]] ?_ ((CD.out W).mono fun e w' h => ⟨h.1, hS.on h.2⟩)
      generalize hA : (puts ds L _).eval = ρ
      have hc : ∀ v, ρ (.const v) = v := fun v => by rw [← hA]; rfl
      have hg : ∀ g, ρ (.func g) = .func (.func g) #[] #[] := fun v => by rw [← hA]; rfl
      have h0 : ρ (.tmp 20) = .agg #[.float .f64 ax, .float .f64 ec, .float .f64 ti, .float .f64 no, .float .f64 pe, .float .f64 ph, .float .f64 ra] := by rw [← hA]; exact puts_get 5 ds L _ hap (by rw [hds]; rfl) (hd 5 (by decide +kernel)) (show 20 < 86 by decide)
      have hf := Try.func10
      unfold execOp
      go_simp
    · -- 7
      obtain rfl := Option.some.inj ho
      refine Comes.guarded (j := 2) (t := 17) (want := false) (b := false) (by rw [hds]; rfl) hap rfl (by rw [hds]; rfl) (hd 2 (by decide +kernel)) (show 17 < 86 by decide) (fun _ hw => ?_) (fun e => absurd rfl e)
      refine .value hw W ?_ hS
      generalize hA : (puts ds L _).eval = ρ
      have hc : ∀ v, ρ (.const v) = v := fun v => by rw [← hA]; rfl
      have hg : ∀ g, ρ (.func g) = .func (.func g) #[] #[] := fun v => by rw [← hA]; rfl
      have h0 : ρ (.tmp 19) = .int .i64 kc := by rw [← hA]; exact puts_get 4 ds L _ hap (by rw [hds]; rfl) (hd 4 (by decide +kernel)) (show 19 < 86 by decide)
      have h1 : ρ (.tmp 21) = .int .i64 kc := by rw [← hA]; exact puts_get 6 ds L _ hap (by rw [hds]; rfl) (hd 6 (by decide +kernel)) (show 21 < 86 by decide)
      clear hA hd ho
      have tc2 := tc
      unfold execOp
      go_simp
    · -- 8
      obtain rfl := Option.some.inj ho
      refine .value rfl W ?_ hS
      generalize hA : (puts ds L _).eval = ρ
      have hc : ∀ v, ρ (.const v) = v := fun v => by rw [← hA]; rfl
      have hg : ∀ g, ρ (.func g) = .func (.func g) #[] #[] := fun v => by rw [← hA]; rfl
      have h0 : ρ (.tmp 17) = .bool false := by rw [← hA]; exact puts_get 2 ds L _ hap (by rw [hds]; rfl) (hd 2 (by decide +kernel)) (show 17 < 86 by decide)
      have h1 : ρ (.tmp 22) = .bool false := by rw [← hA]; exact puts_get 7 ds L _ hap (by rw [hds]; rfl) (hd 7 (by decide +kernel)) (show 22 < 86 by decide)
      clear hA hd ho
      unfold execOp
      go_simp
  case fin =>
    intro W0 K
    rw [hds]
    clear hds hap ds AW CC CD
    simp only [List.map_cons, List.map_nil, puts, Act.put, List.setIfInBounds_toArray]
    have c0_0 := (K.at_ 0 rfl).at_ 0 _ rfl
    have c0_1 := (K.at_ 0 rfl).at_ 1 _ rfl
    have c0_2 := (K.at_ 0 rfl).at_ 2 _ rfl
    have c0_3 := (K.at_ 0 rfl).at_ 3 _ rfl
    have c0_4 := (K.at_ 0 rfl).at_ 4 _ rfl
    have c0_5 := (K.at_ 0 rfl).at_ 5 _ rfl
    have c0_6 := (K.at_ 0 rfl).at_ 6 _ rfl
    replace K := Lib.hid K
    go_wp2_with fail
    replace K := K.out
    refine (CM.out W0).mono ?_
    rintro _ v1 ⟨rfl, hb⟩
    clear c0_0 c0_1 c0_2 c0_3 c0_4 c0_5 c0_6
    replace K := K.on hb
    clear hb
    have c0_0 := (K.at_ 0 rfl).at_ 0 _ rfl
    have c0_1 := (K.at_ 0 rfl).at_ 1 _ rfl
    have c0_2 := (K.at_ 0 rfl).at_ 2 _ rfl
    have c0_3 := (K.at_ 0 rfl).at_ 3 _ rfl
    have c0_4 := (K.at_ 0 rfl).at_ 4 _ rfl
    have c0_5 := (K.at_ 0 rfl).at_ 5 _ rfl
    have c0_6 := (K.at_ 0 rfl).at_ 6 _ rfl
    replace K := Lib.hid K
    go_wp2_with fail
    replace K := K.out
    refine (CN.out v1).mono ?_
    rintro _ v2 ⟨rfl, hb⟩
    clear c0_0 c0_1 c0_2 c0_3 c0_4 c0_5 c0_6
    replace K := K.on hb
    clear hb
    replace K := Lib.hid K
    go_wp2_with (go_at_call 13; ((with_reducible refine (S1 _).mono ?_); rintro e w' ⟨rfl, rfl⟩))
    replace K := K.out
    refine (CS.out v2).mono ?_
    rintro _ v3 ⟨rfl, hb⟩
    replace K := K.on hb
    clear hb
    replace K := Lib.hid K
    go_wp2_with fail
    replace K := K.out
    refine (CT.out v3).mono ?_
    rintro _ v4 ⟨rfl, hb⟩
    replace K := K.on hb
    clear hb
    have c0_0 := (K.at_ 0 rfl).at_ 0 _ rfl
    have c0_1 := (K.at_ 0 rfl).at_ 1 _ rfl
    have c0_2 := (K.at_ 0 rfl).at_ 2 _ rfl
    have c0_3 := (K.at_ 0 rfl).at_ 3 _ rfl
    have c0_4 := (K.at_ 0 rfl).at_ 4 _ rfl
    have c0_5 := (K.at_ 0 rfl).at_ 5 _ rfl
    have c0_6 := (K.at_ 0 rfl).at_ 6 _ rfl
    replace K := Lib.hid K
    go_wp2_with (go_at_call 13; ((with_reducible refine (S2 _).mono ?_); rintro e w' ⟨rfl, rfl⟩))
    replace K := K.out
    refine (CA.out v4).mono ?_
    rintro _ v5 ⟨rfl, hb⟩
    clear c0_0 c0_1 c0_2 c0_3 c0_4 c0_5 c0_6
    replace K := K.on hb
    clear hb
    replace K := K.new 33 [.float .f64 y1, .float .f64 y2, .float .f64 y3]
    simp only [objV, List.cons_append, List.nil_append] at K
    have c0_0 := (K.at_ 0 rfl).at_ 0 _ rfl
    have c0_1 := (K.at_ 0 rfl).at_ 1 _ rfl
    have c0_2 := (K.at_ 0 rfl).at_ 2 _ rfl
    have c0_3 := (K.at_ 0 rfl).at_ 3 _ rfl
    have c0_4 := (K.at_ 0 rfl).at_ 4 _ rfl
    have c0_5 := (K.at_ 0 rfl).at_ 5 _ rfl
    have c0_6 := (K.at_ 0 rfl).at_ 6 _ rfl
    replace K := Lib.hid K
    go_wp2_with fail
    replace K := K.out
    generalize v5.alloc _ = u5 at *
    generalize v5.heap.size = g1 at *
    refine (CB.out u5).mono ?_
    rintro _ v6 ⟨rfl, hb⟩
    clear c0_0 c0_1 c0_2 c0_3 c0_4 c0_5 c0_6
    replace K := K.on hb
    clear hb
    replace K := K.new 33 [.float .f64 y1, .float .f64 y2, .float .f64 y3]
    simp only [objV, List.cons_append, List.nil_append] at K
    have c1_0 := (K.at_ 1 rfl).at_ 0 _ rfl
    have c1_1 := (K.at_ 1 rfl).at_ 1 _ rfl
    have c1_2 := (K.at_ 1 rfl).at_ 2 _ rfl
    have c2_0 := (K.at_ 2 rfl).at_ 0 _ rfl
    have c2_1 := (K.at_ 2 rfl).at_ 1 _ rfl
    have c2_2 := (K.at_ 2 rfl).at_ 2 _ rfl
    replace K := Lib.hid K
    go_wp2_with fail
    replace K := K.out
    generalize v6.alloc _ = u6 at *
    generalize v6.heap.size = g2 at *
    refine (SV.out u6).mono ?_
    rintro _ v7 ⟨rfl, hb⟩
    clear c1_0 c1_1 c1_2 c2_0 c2_1 c2_2
    replace K := K.on hb
    clear hb
    replace K := Lib.hid K
    go_wp2_with fail
    go_ret
    exact ⟨rfl, K.out.old⟩

set_option maxRecDepth 100000 in
theorem own : ownKnob Try.prog.godebug = none := by kernel_rfl
set_option maxRecDepth 100000 in
theorem laidOut : laidOutB Try.prog = true := by kernel_rfl
set_option maxRecDepth 100000 in
theorem lifted (os : Os) (started : os.Started) (H : Type) (enc : TypeId × Value → H) :
    ReturnsInHanded {} Try.checked os 3 .any (Rows.orbitTellsSpec.pre6 enc Try.prog Try.f3 Rows.orbitTellsRow.domain false) (Rows.orbitTellsSpec.post enc Try.prog Try.f3 false true false false) := by
  refine returnsInHanded_of_change_sized (C := Try.checked) own started (by kernel_rfl) Try.func3
    (ChangeSpec.witness6 (enc := enc) (C := Try.checked) false ⟨#[], #[.agg #[.float .f64 0, .float .f64 0, .float .f64 0, .float .f64 0, .float .f64 0, .float .f64 0, .float .f64 0], .float .f64 0, .float .f64 0, .float .f64 0], []⟩ 8 (by kernel_rfl) (by kernel_rfl) (by kernel_rfl) (by kernel_rfl)) ?_
  intro W base args ds gs before hval0 hW _ hsz0 _
  have hsz : (DataW.weightsEach Try.prog (Try.f3.params.toList ++ Rows.orbitTellsSpec.plain.varTypes Try.prog) (ds ++ gs)).all (· ≤ reachBytes) = true := hsz0
  clear hsz0
  have hval : ∀ (j : Nat) t v, Try.f3.params[j]? = some t → args[j]? = some v → Value.okWide Try.prog W .any base t v := hval0
  have hW' := hW
  obtain ⟨p, q, hA0, hV, rfl, _, _⟩ := hW
  have hA : DataW.TrodAll enc Try.prog W 0 (fun _ => true) true Try.f3.params.toList args.toList ds p := hA0
  rw [Try.params3] at hA hval hsz
  obtain ⟨v0, vs0, d0, ds0, p0, q0, hargs, rfl, rfl, t0, r0⟩ := trodAll_cons hA
  obtain ⟨v1, vs1, d1, ds1, p1, q1, rfl, rfl, rfl, t1, r1⟩ := trodAll_cons r0
  obtain ⟨v2, vs2, d2, ds2, p2, q2, rfl, rfl, rfl, t2, r2⟩ := trodAll_cons r1
  obtain ⟨v3, vs3, d3, ds3, p3, q3, rfl, rfl, rfl, t3, r3⟩ := trodAll_cons r2
  obtain ⟨rfl, rfl, rfl⟩ := trodAll_nil r3
  obtain rfl : args = #[v0, v1, v2, v3] := by cases args; simp_all
  obtain ⟨rfl, rfl⟩ := trodVars_none hV
  simp only [List.append_nil] at hW'
  have tk0 := t0
  obtain ⟨a0, rfl, wa0⟩ := open_orbit (hval 0 24 v0 rfl rfl) t0
  have hlt0 : ∀ x ∈ p0, x.block < W.heap.size := fun x hx => by have := hW'.lt x (by simp [hx]); simpa using this
  obtain ⟨a1, rfl, rfl, rfl, w1⟩ := open_float Try.underlying22 (hval 1 22 v1 rfl rfl) t1
  obtain ⟨a2, rfl, rfl, rfl, w2⟩ := open_float Try.underlying22 (hval 2 22 v2 rfl rfl) t2
  obtain ⟨a3, rfl, rfl, rfl, w3⟩ := open_float Try.underlying22 (hval 3 22 v3 rfl rfl) t3
  clear hA0 hval0
  refine (walk W a0 wa0 a1 (wf64o w1) a2 (wf64o w2) a3 (wf64o w3)).mono fun e W' ⟨he, hb⟩ => ?_
  subst he
  refine ⟨_, rfl, _, _, _, [], _, [], hW', trodAll_cons_mk (shut_bool Try.underlying4 _) trodAll_mk0, (trodAll_cons_mk (Below.trod laidOut (by kernel_rfl) (of_decide_eq_true (by kernel_rfl)) tk0 hb hlt0) (trodAll_cons_mk (shut_float Try.underlying22 w1) (trodAll_cons_mk (shut_float Try.underlying22 w2) (trodAll_cons_mk (shut_float Try.underlying22 w3) trodAll_mk0)))), rfl, hb.frame _, fun h => by cases h⟩

set_option maxRecDepth 100000 in
theorem over : Rows.orbitTellsRow.holds Try.pinned (OpenSpec.ofChange Rows.orbitTellsSpec) :=
  OpenClaim.holds_of_wide 3 Try.f3 rfl rfl rfl rfl rfl rfl rfl ⟨rfl, rfl, rfl, rfl, rfl⟩ rfl rfl rfl rfl rfl (by kernel_rfl) Try.func3 (by kernel_rfl)
    (of_decide_eq_true (by kernel_rfl)) (by unfold Func.isWrapper; first | (rw [if_pos (by decide +kernel)]; kernel_rfl) | (rw [if_neg (by decide +kernel)]; exact ⟨rfl, rfl⟩))
    (fun os started H enc _ => lifted os started H enc)

theorem proved : Rows.OrbitTellsSaid :=
  over
end Go.Proofs.Ytkpdnhbifokhlaa.orbitTells
