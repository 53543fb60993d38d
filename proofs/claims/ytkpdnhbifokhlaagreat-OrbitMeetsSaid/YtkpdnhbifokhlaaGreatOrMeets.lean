/- Proved here: for all orbits, spans of days and days the law OrbitMeets returns true: a point's box meets the span's. No conditions. -/
import Derived.Test.YtkpdnhbifokhlaaGreatRows
import Derived.Test.YtkpdnhbifokhlaaGreatJq11
import Derived.Test.YtkpdnhbifokhlaaGreatJq2
namespace Go.Proofs.YtkpdnhbifokhlaaGreat.orbitMeets
open Go.ChangeShapes Go.WideShapes Go.ChangeAt Go.RowKit

open Ieee.Own Pol
theorem rh_fact {a b x : Nat} (ha : a < 18446744073709551616) (hb : b < 18446744073709551616) (h : rhB a b x = true) (fx : FinW x) : errS a b = 0 ∧ V a ≤ V x ∧ V x ≤ V b := by
 unfold rhB leO at h
 simp only [Bool.and_eq_true, decide_eq_true_eq] at h
 obtain ⟨e, p, q⟩ := h
 obtain ⟨f1, f2, -⟩ := errS_zero e
 rw [le_words (fit_fin ha f1) fx, decide_eq_true_eq] at p
 rw [le_words fx (fit_fin hb f2), decide_eq_true_eq] at q
 exact ⟨e, p, q⟩
set_option maxRecDepth 100000 in
theorem box_any {o : Ob} {t : Pr} (h : ObW o) (ht : W2 t) : ∃ P, ∀ w, Calls Tryz.prog 10 #[obV o, pv t] w fun e w' => e = .returned (boxE P (readyO o (timB t))) ∧ Below w.heap.size w w' := by
 by_cases r : readyO o (timB t) = 0
 · have hO := mayO_of (readyO_zero r).1
   obtain ⟨Qs, D, R, RR⟩ := roo_ex h.ec hO.ec
   obtain ⟨M1, S1, C1, P1, MF1, SF1, p1, B1, K1⟩ := box_ex h ht r RR
   exact ⟨P1, by rw [r]; exact K1⟩
 · exact ⟨z6, fun w => box_no h ht r w⟩
set_option maxRecDepth 100000 in
theorem meets_any {o : Ob} {t : Pr} {d : Nat} (h : ObW o) (ht : W2 t) (hd : d < 18446744073709551616) (c : rhB t.1 t.2 d = true) :
   ∃ P k P' l, (∀ w, Calls Tryz.prog 10 #[obV o, pv (d, d)] w fun e w' => e = .returned (boxE P k) ∧ Below w.heap.size w w') ∧ (∀ w, Calls Tryz.prog 10 #[obV o, pv t] w fun e w' => e = .returned (boxE P' l) ∧ Below w.heap.size w w') ∧
     (k = 0 → l = 0 → ∀ w, Calls Tryz.prog 14 #[boxV P, boxV P'] w fun e w' => e = .returned (.bool true) ∧ Below w.heap.size w w') := by
 by_cases r1 : readyO o (timB (d, d)) = 0
 · by_cases r2 : readyO o (timB t) = 0
   · have td := (readyO_zero r1).2
     unfold timB at td
     simp only [Bool.and_eq_true, decide_eq_true_eq] at td
     obtain ⟨-, l1, l2⟩ := rh_fact ht.l1 ht.l2 c (wit_spec hd v24 td.2).1
     obtain ⟨P, P', c1, c2, c3⟩ := orbit_meets h ht hd l1 l2 r1 r2
     exact ⟨P, 0, P', 0, c1, c2, fun _ _ => c3⟩
   · obtain ⟨P, C⟩ := box_any (t := (d, d)) h ⟨hd, hd⟩
     obtain ⟨P', C'⟩ := box_any h ht
     exact ⟨P, _, P', _, C, C', fun _ e => absurd e r2⟩
 · obtain ⟨P, C⟩ := box_any (t := (d, d)) h ⟨hd, hd⟩
   obtain ⟨P', C'⟩ := box_any h ht
   exact ⟨P, _, P', _, C, C', fun e => absurd e r1⟩
set_option maxHeartbeats 2000000 in
set_option maxRecDepth 100000 in
theorem walk (w : World) (a0 : Ob) (h0 : ObW a0) (a1 b1 : Nat) (ha1 : a1 < 18446744073709551616) (hb1 : b1 < 18446744073709551616) (a2 : Nat) (h2 : a2 < 18446744073709551616) :
   Calls Tryz.prog 4 #[obV a0, spanV a1 b1, .float .f64 a2] w fun e w' => e = .returned (.bool true) ∧ Below w.heap.size w w' := by
 have AW := Lib.hid awake11
 have CH := Lib.hid (fun w => rhas_any ha1 hb1 a2 w)
 by_cases c : rhB a1 b1 a2 = true
 · rw [c] at CH
   obtain ⟨P, k, P', l, c1, c2, c3⟩ := meets_any (t := (a1, b1)) h0 ⟨ha1, hb1⟩ h2 c
   have CP := Lib.hid c1
   have CQ := Lib.hid c2
   have CM := Lib.hid c3
   clear c1 c2 c3 c h0 h2 ha1 hb1
   obtain ⟨ax, ec, ti, no, pe, ph, ra⟩ := a0
   obtain ⟨⟨p1, p2⟩, ⟨p3, p4⟩, ⟨p5, p6⟩⟩ := P
   obtain ⟨⟨q1, q2⟩, ⟨q3, q4⟩, ⟨q5, q6⟩⟩ := P'
   unfold boxE at CP CQ
   unfold boxV at CP CQ CM
   unfold obV pv spanV at *
   dsimp only at *
   have K0 := kv2 w 24 26 [.float .f64 ax, .float .f64 ec, .float .f64 ti, .float .f64 no, .float .f64 pe, .float .f64 ph, .float .f64 ra] [.float .f64 a1, .float .f64 b1]
   simp only [objV] at K0
   have hst := @fstore
   replace K0 := Lib.hid K0
   go_enter Tryz.func4, Tryz.ntmps4
   go_wp2_with fail
   have K := K0.out
   clear K0
   generalize (w.alloc _).alloc _ = wr at *
   refine (AW.out wr).mono ?_
   rintro _ v1 ⟨rfl, hb⟩
   replace K := K.on hb
   clear hb
   have c1_0 := (K.at_ 1 rfl).at_ 0 _ rfl
   have c1_1 := (K.at_ 1 rfl).at_ 1 _ rfl
   replace K := Lib.hid K
   go_wp2_with fail
   replace K := K.out
   refine (CH.out v1).mono ?_
   rintro _ v2 ⟨rfl, hb⟩
   clear c1_0 c1_1
   replace K := K.on hb
   clear hb
   have c0_0 := (K.at_ 0 rfl).at_ 0 _ rfl
   have c0_1 := (K.at_ 0 rfl).at_ 1 _ rfl
   have c0_2 := (K.at_ 0 rfl).at_ 2 _ rfl
   have c0_3 := (K.at_ 0 rfl).at_ 3 _ rfl
   have c0_4 := (K.at_ 0 rfl).at_ 4 _ rfl
   have c0_5 := (K.at_ 0 rfl).at_ 5 _ rfl
   have c0_6 := (K.at_ 0 rfl).at_ 6 _ rfl
   replace K := Lib.hid K
   go_wp2_with fail
   replace K := K.out
   refine (CP.out v2).mono ?_
   rintro _ v3 ⟨rfl, hb⟩
   clear c0_0 c0_1 c0_2 c0_3 c0_4 c0_5 c0_6
   replace K := K.on hb
   clear hb
   replace K := K.new 33 [.float .f64 p1, .float .f64 p2, .float .f64 p3, .float .f64 p4, .float .f64 p5, .float .f64 p6]
   simp only [objV, List.cons_append, List.nil_append] at K
   have c0_0 := (K.at_ 0 rfl).at_ 0 _ rfl
   have c0_1 := (K.at_ 0 rfl).at_ 1 _ rfl
   have c0_2 := (K.at_ 0 rfl).at_ 2 _ rfl
   have c0_3 := (K.at_ 0 rfl).at_ 3 _ rfl
   have c0_4 := (K.at_ 0 rfl).at_ 4 _ rfl
   have c0_5 := (K.at_ 0 rfl).at_ 5 _ rfl
   have c0_6 := (K.at_ 0 rfl).at_ 6 _ rfl
   have c1_0 := (K.at_ 1 rfl).at_ 0 _ rfl
   have c1_1 := (K.at_ 1 rfl).at_ 1 _ rfl
   replace K := Lib.hid K
   go_wp2_with fail
   replace K := K.out
   generalize v3.alloc _ = u3 at *
   generalize v3.heap.size = g1 at *
   refine (CQ.out u3).mono ?_
   rintro _ v9 ⟨rfl, hb⟩
   clear c0_0 c0_1 c0_2 c0_3 c0_4 c0_5 c0_6 c1_0 c1_1 CQ
   replace K := K.on hb
   clear hb
   replace K := K.new 33 [.float .f64 q1, .float .f64 q2, .float .f64 q3, .float .f64 q4, .float .f64 q5, .float .f64 q6]
   simp only [objV, List.cons_append, List.nil_append] at K
   have c2_0 := (K.at_ 2 rfl).at_ 0 _ rfl
   have c2_1 := (K.at_ 2 rfl).at_ 1 _ rfl
   have c2_2 := (K.at_ 2 rfl).at_ 2 _ rfl
   have c2_3 := (K.at_ 2 rfl).at_ 3 _ rfl
   have c2_4 := (K.at_ 2 rfl).at_ 4 _ rfl
   have c2_5 := (K.at_ 2 rfl).at_ 5 _ rfl
   have c3_0 := (K.at_ 3 rfl).at_ 0 _ rfl
   have c3_1 := (K.at_ 3 rfl).at_ 1 _ rfl
   have c3_2 := (K.at_ 3 rfl).at_ 2 _ rfl
   have c3_3 := (K.at_ 3 rfl).at_ 3 _ rfl
   have c3_4 := (K.at_ 3 rfl).at_ 4 _ rfl
   have c3_5 := (K.at_ 3 rfl).at_ 5 _ rfl
   by_cases hk : k = 0
   · subst hk
     by_cases hl : l = 0
     · subst hl
       have BB := Lib.hid (CM.out (by first | rfl | trivial) (by first | rfl | trivial))
       clear CM
       replace K := Lib.hid K
       go_wp2_with fail
       refine (BB.out _).mono ?_
       rintro _ v5 ⟨rfl, hbb⟩
       clear c2_0 c2_1 c2_2 c2_3 c2_4 c2_5 c3_0 c3_1 c3_2 c3_3 c3_4 c3_5
       replace K := Lib.hid (K.out.on hbb)
       clear hbb BB
       go_wp2_with fail
       go_ret
       exact ⟨rfl, K.out.old⟩
     · have tk : (l != 0) = true := by simpa using hl
       clear CM
       replace K := Lib.hid K
       go_wp2_with fail
       go_ret
       exact ⟨rfl, K.out.old⟩
   · have tk : (k != 0) = true := by simpa using hk
     clear CM
     replace K := Lib.hid K
     go_wp2_with fail
     go_ret
     exact ⟨rfl, K.out.old⟩
 · rw [Bool.not_eq_true] at c
   rw [c] at CH
   clear c h0 h2 ha1 hb1
   obtain ⟨ax, ec, ti, no, pe, ph, ra⟩ := a0
   unfold obV spanV at *
   dsimp only at *
   have K0 := kv2 w 24 26 [.float .f64 ax, .float .f64 ec, .float .f64 ti, .float .f64 no, .float .f64 pe, .float .f64 ph, .float .f64 ra] [.float .f64 a1, .float .f64 b1]
   simp only [objV] at K0
   have hst := @fstore
   replace K0 := Lib.hid K0
   go_enter Tryz.func4, Tryz.ntmps4
   go_wp2_with fail
   have K := K0.out
   clear K0
   generalize (w.alloc _).alloc _ = wr at *
   refine (AW.out wr).mono ?_
   rintro _ v1 ⟨rfl, hb⟩
   replace K := K.on hb
   clear hb
   have c1_0 := (K.at_ 1 rfl).at_ 0 _ rfl
   have c1_1 := (K.at_ 1 rfl).at_ 1 _ rfl
   replace K := Lib.hid K
   go_wp2_with fail
   replace K := K.out
   refine (CH.out v1).mono ?_
   rintro _ v2 ⟨rfl, hb⟩
   clear c1_0 c1_1
   replace K := K.on hb
   clear hb
   replace K := Lib.hid K
   go_wp2_with fail
   go_ret
   exact ⟨rfl, K.out.old⟩

set_option maxRecDepth 100000 in
theorem own : ownKnob Tryz.prog.godebug = none := by kernel_rfl
set_option maxRecDepth 100000 in
theorem laidOut : laidOutB Tryz.prog = true := by kernel_rfl
set_option maxRecDepth 100000 in
theorem lifted (os : Os) (started : os.Started) (H : Type) (enc : TypeId × Value → H) :
   ReturnsInHanded {} Tryz.checked os 4 .any (Rows.orbitMeetsSpec.pre6 enc Tryz.prog Tryz.f4 Rows.orbitMeetsRow.domain false) (Rows.orbitMeetsSpec.post enc Tryz.prog Tryz.f4 false true false false) := by
 refine returnsInHanded_of_change_sized (C := Tryz.checked) own started (by kernel_rfl) Tryz.func4
   (ChangeSpec.witness6 (enc := enc) (C := Tryz.checked) false ⟨#[], #[.agg #[.float .f64 0, .float .f64 0, .float .f64 0, .float .f64 0, .float .f64 0, .float .f64 0, .float .f64 0], .agg #[.float .f64 0, .float .f64 0], .float .f64 0], []⟩ 8 (by kernel_rfl) (by kernel_rfl) (by kernel_rfl) (by kernel_rfl)) ?_
 intro W base args ds gs before hval0 hW _ hsz0 _
 have hsz : (DataW.weightsEach Tryz.prog (Tryz.f4.params.toList ++ Rows.orbitMeetsSpec.plain.varTypes Tryz.prog) (ds ++ gs)).all (· ≤ reachBytes) = true := hsz0
 clear hsz0
 have hval : ∀ (j : Nat) t v, Tryz.f4.params[j]? = some t → args[j]? = some v → Value.okWide Tryz.prog W .any base t v := hval0
 have hW' := hW
 obtain ⟨p, q, hA0, hV, rfl, _, _⟩ := hW
 have hA : DataW.TrodAll enc Tryz.prog W 0 (fun _ => true) true Tryz.f4.params.toList args.toList ds p := hA0
 rw [Tryz.params4] at hA hval hsz
 obtain ⟨v0, vs0, d0, ds0, p0, q0, hargs, rfl, rfl, t0, r0⟩ := trodAll_cons hA
 obtain ⟨v1, vs1, d1, ds1, p1, q1, rfl, rfl, rfl, t1, r1⟩ := trodAll_cons r0
 obtain ⟨v2, vs2, d2, ds2, p2, q2, rfl, rfl, rfl, t2, r2⟩ := trodAll_cons r1
 obtain ⟨rfl, rfl, rfl⟩ := trodAll_nil r2
 obtain rfl : args = #[v0, v1, v2] := by cases args; simp_all
 obtain ⟨rfl, rfl⟩ := trodVars_none hV
 simp only [List.append_nil] at hW'
 have tk0 := t0
 obtain ⟨a0, rfl, wa0⟩ := open_orbit (hval 0 24 v0 rfl rfl) t0
 have hlt0 : ∀ x ∈ p0, x.block < W.heap.size := fun x hx => by have := hW'.lt x (by simp [hx]); simpa using this
 have tk1 := t1
 obtain ⟨a1, b1, rfl, wa1, wb1⟩ := open_span (hval 1 26 v1 rfl rfl) t1
 have hlt1 : ∀ x ∈ p1, x.block < W.heap.size := fun x hx => by have := hW'.lt x (by simp [hx]); simpa using this
 obtain ⟨a2, rfl, rfl, rfl, w2⟩ := open_float Tryz.underlying22 (hval 2 22 v2 rfl rfl) t2
 clear hA0 hval0
 refine (walk W a0 wa0 a1 b1 wa1 wb1 a2 (wf64o w2)).mono fun e W' ⟨he, hb⟩ => ?_
 subst he
 refine ⟨_, rfl, _, _, _, [], _, [], hW', trodAll_cons_mk (shut_bool Tryz.underlying4 _) trodAll_mk0, (trodAll_cons_mk (Below.trod laidOut (by kernel_rfl) (of_decide_eq_true (by kernel_rfl)) tk0 hb hlt0) (trodAll_cons_mk (Below.trod laidOut (by kernel_rfl) (of_decide_eq_true (by kernel_rfl)) tk1 hb hlt1) (trodAll_cons_mk (shut_float Tryz.underlying22 w2) trodAll_mk0))), rfl, hb.frame _, fun h => by cases h⟩

set_option maxRecDepth 100000 in
theorem over : Rows.orbitMeetsRow.holds Tryz.pinned (OpenSpec.ofChange Rows.orbitMeetsSpec) :=
 OpenClaim.holds_of_wide 4 Tryz.f4 rfl rfl rfl rfl rfl rfl rfl ⟨rfl, rfl, rfl, rfl, rfl⟩ rfl rfl rfl rfl rfl (by kernel_rfl) Tryz.func4 (by kernel_rfl)
   (of_decide_eq_true (by kernel_rfl)) (by unfold Func.isWrapper; first | (rw [if_pos (by decide +kernel)]; kernel_rfl) | (rw [if_neg (by decide +kernel)]; exact ⟨rfl, rfl⟩))
   (fun os started H enc _ => lifted os started H enc)

theorem proved : Rows.OrbitMeetsSaid :=
 over
end Go.Proofs.YtkpdnhbifokhlaaGreat.orbitMeets
