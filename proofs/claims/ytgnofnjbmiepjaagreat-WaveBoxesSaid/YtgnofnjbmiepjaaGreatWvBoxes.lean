/- Proved here: for all waves and spans of days the law WaveBoxes returns true: the program's boxes are the reference's, end by end; the waves stay. No conditions. -/
import Derived.Test.YtgnofnjbmiepjaaGreatRows
import Derived.Test.YtgnofnjbmiepjaaGreatJz5
import Derived.Test.YtgnofnjbmiepjaaGreatJz6
set_option maxHeartbeats 2000000
set_option maxRecDepth 100000
namespace Go.Proofs.YtgnofnjbmiepjaaGreat.waveBoxes
open Go.ChangeShapes Go.WideShapes Go.ChangeAt Go.RowKit

theorem walk (w : World) (ao0 : Option Addr) (cap0 : Nat) (L0 : List Wv) (hc0 : L0.length ≤ cap0) (hm0 : cap0 ≤ maxLen) (ha0 : VAt w ao0 L0) (hw0 : WvsW L0) (hr0 : cap0 * 40 ≤ 140737488351232) (hn0 : ao0 = none → cap0 = 0) (a1 b1 : Nat) (ha1 : a1 < 18446744073709551616) (hb1 : b1 < 18446744073709551616) :
 Calls Tryz.prog 3 #[.slice ao0 L0.length cap0, spanV a1 b1] w fun e w' => e = .returned (.bool true) ∧ Below w.heap.size w w' := by
 have AW := Lib.hid awake12
 obtain ⟨n, hn⟩ : ∃ n, n = L0.length := ⟨_, rfl⟩
 rw [← hn] at hc0 ⊢
 have hr2 : (n + 2) * 40 ≤ 140737488355328 := by omega
 have hmn : n + 2 ≤ maxLen := by unfold maxLen; omega
 have hm2 : n ≤ 4611686018427387904 := by omega
 have R0 : Hid (∀ W, Below w.heap.size w W → Calls Tryz.prog 5 #[.slice ao0 n cap0] W fun e w' => ∃ g cap', e = .returned (.slice (some ⟨g, 0, none⟩) n cap') ∧ n + 2 ≤ cap' ∧ cap' ≤ maxLen ∧ VAt w' (some ⟨g, 0, none⟩) (L0 ++ [mkW, mkW]) ∧ Below W.heap.size W w') :=
  Lib.hid fun W hb => roomy12_run ao0 cap0 n L0 W hn hmn hr2 hn0 (ha0.below (fun b o e h => ha0.lt b o e h) hb)
 have KP : Hid (∀ W g c', n + 2 ≤ c' → c' ≤ maxLen → Below w.heap.size w W → VAt W (some ⟨g, 0, none⟩) (L0 ++ [mkW, mkW]) → Calls Tryz.prog 9 #[(.slice (some ⟨g, 0, none⟩) n c'), .slice ao0 n cap0] W fun e w' => e = .returned (.bool true) ∧ Below W.heap.size W w') :=
  Lib.hid fun W g c' h1 h2 hb hv => kept12_run g ao0 cap0 c' n L0 W hn hm2 h1 h2 hv (ha0.below (fun b o e h => ha0.lt b o e h) hb)
 obtain ⟨RA, hRA⟩ : ∃ RA, RA = boxR12 L0 (a1, b1) := ⟨_, rfl⟩
 have OB : Hid (∀ W ao cap, VAt W ao L0 → Calls Tryz.prog 6 #[.slice ao n cap, .agg #[.float .f64 a1, .float .f64 b1]] W fun e w' => e = .returned (boxE RA.1 RA.2) ∧ Below W.heap.size W w') :=
  Lib.hid fun W ao cap ha => by rw [hRA]; exact wbox_run ao cap n (a1, b1) W hn hm2 hw0 ha ⟨ha1, hb1⟩
 have RB : Hid (∀ W, Below w.heap.size w W → Calls Tryz.prog 7 #[.slice ao0 n cap0, .agg #[.float .f64 a1, .float .f64 b1]] W fun e w' => e = .returned (boxE RA.1 RA.2) ∧ Below W.heap.size W w') :=
  Lib.hid fun W hb => by rw [hRA]; exact rbox12_run ao0 cap0 n (a1, b1) W hn hm2 hw0 (ha0.below (fun b o e h => ha0.lt b o e h) hb) ⟨ha1, hb1⟩
 replace hm0 := Lib.hid hm0
 clear hRA hn hmn hm2 hr2 ha0 hw0 hm0 hn0 hr0 hc0 ha1 hb1
 obtain ⟨⟨⟨p1, p2⟩, ⟨p3, p4⟩, ⟨p5, p6⟩⟩, kr⟩ := RA
 have SB := Lib.hid (samebox_run p1 p2 p3 p4 p5 p6)
 have tk : (kr == kr) = true := by simp
 unfold boxE boxV at OB RB
 unfold spanV
 dsimp only at *
 have K0 := kv1 w 25 [.float .f64 a1, .float .f64 b1]
 simp only [objV] at K0
 have hst := @fstore
 replace K0 := Lib.hid K0
 go_enter Tryz.func3, Tryz.ntmps3
 go_wp2_with fail
 have K := K0.out
 clear K0
 generalize w.alloc _ = wr at *
 refine (AW.out wr).mono ?_
 rintro _ v1 ⟨rfl, hb⟩
 replace K := K.on hb
 clear hb AW
 replace K := Lib.hid K
 go_wp2_with fail
 replace K := K.out
 refine (R0.out v1 K.old).mono ?_
 rintro _ v2 ⟨g, c', rfl, h1, h2, hV, hbb⟩
 replace hV := Lib.hid hV
 replace K := K.on hbb
 clear hbb R0
 have c0_0 := (K.at_ 0 rfl).at_ 0 _ rfl
 have c0_1 := (K.at_ 0 rfl).at_ 1 _ rfl
 replace K := Lib.hid K
 go_wp2_with fail
 replace K := K.out
 refine (OB.out v2 _ c' hV.out.left).mono ?_
 rintro _ v3 ⟨rfl, hbb⟩
 clear c0_0 c0_1 OB
 have HV := Lib.hid ((hV.out.on hbb).alloc (objV 29 [.float .f64 p1, .float .f64 p2, .float .f64 p3, .float .f64 p4, .float .f64 p5, .float .f64 p6]))
 replace K := (K.on hbb).new 29 [.float .f64 p1, .float .f64 p2, .float .f64 p3, .float .f64 p4, .float .f64 p5, .float .f64 p6]
 simp only [objV, List.cons_append, List.nil_append] at K HV
 clear hbb hV
 have c0_0 := (K.at_ 0 rfl).at_ 0 _ rfl
 have c0_1 := (K.at_ 0 rfl).at_ 1 _ rfl
 replace K := Lib.hid K
 go_wp2_with fail
 replace K := K.out
 generalize v3.alloc _ = w3 at *
 generalize v3.heap.size = g1 at *
 refine (RB.out w3 K.old).mono ?_
 rintro _ v4 ⟨rfl, hbb⟩
 clear c0_0 c0_1 RB
 have HV2 := Lib.hid ((HV.out.on hbb).alloc (objV 29 [.float .f64 p1, .float .f64 p2, .float .f64 p3, .float .f64 p4, .float .f64 p5, .float .f64 p6]))
 replace K := (K.on hbb).new 29 [.float .f64 p1, .float .f64 p2, .float .f64 p3, .float .f64 p4, .float .f64 p5, .float .f64 p6]
 simp only [objV, List.cons_append, List.nil_append] at K HV2
 clear hbb HV
 have c1_0 := (K.at_ 1 rfl).at_ 0 _ rfl
 have c1_1 := (K.at_ 1 rfl).at_ 1 _ rfl
 have c1_2 := (K.at_ 1 rfl).at_ 2 _ rfl
 have c1_3 := (K.at_ 1 rfl).at_ 3 _ rfl
 have c1_4 := (K.at_ 1 rfl).at_ 4 _ rfl
 have c1_5 := (K.at_ 1 rfl).at_ 5 _ rfl
 have c2_0 := (K.at_ 2 rfl).at_ 0 _ rfl
 have c2_1 := (K.at_ 2 rfl).at_ 1 _ rfl
 have c2_2 := (K.at_ 2 rfl).at_ 2 _ rfl
 have c2_3 := (K.at_ 2 rfl).at_ 3 _ rfl
 have c2_4 := (K.at_ 2 rfl).at_ 4 _ rfl
 have c2_5 := (K.at_ 2 rfl).at_ 5 _ rfl
 replace K := Lib.hid K
 go_wp2_with fail
 replace K := K.out
 generalize v4.alloc _ = w4 at *
 generalize v4.heap.size = g2 at *
 refine (SB.out w4).mono ?_
 rintro _ v5 ⟨rfl, hbb⟩
 clear c1_0 c1_1 c1_2 c1_3 c1_4 c1_5 c2_0 c2_1 c2_2 c2_3 c2_4 c2_5 SB
 have HV3 := HV2.out.on hbb
 replace K := K.on hbb
 clear hbb HV2
 replace K := Lib.hid K
 go_wp2_with fail
 replace K := K.out
 refine (KP.out v5 g c' h1 h2 K.old HV3).mono ?_
 rintro _ v6 ⟨rfl, hbb⟩
 replace K := Lib.hid (K.on hbb)
 clear hbb KP HV3
 go_wp2_with fail
 go_ret
 exact ⟨by first | rfl | trivial, K.out.old⟩

theorem own : ownKnob Tryz.prog.godebug = none := by kernel_rfl
theorem laidOut : laidOutB Tryz.prog = true := by kernel_rfl
theorem bytesW : Tryz.prog.bytesOf 41 = 40 := by kernel_rfl
theorem lifted (os : Os) (started : os.Started) (H : Type) (enc : TypeId × Value → H) :
 ReturnsInHanded {} Tryz.checked os 3 .any (Rows.waveBoxesSpec.pre6 enc Tryz.prog Tryz.f3 Rows.waveBoxesRow.domain false) (Rows.waveBoxesSpec.post enc Tryz.prog Tryz.f3 false true false false) := by
 refine returnsInHanded_of_change_sized (C := Tryz.checked) own started (by kernel_rfl) Tryz.func3
  (ChangeSpec.witness6 (enc := enc) (C := Tryz.checked) false ⟨#[], #[.slice none 0 0, .agg #[.float .f64 0, .float .f64 0]], []⟩ 8 (by kernel_rfl) (by kernel_rfl) (by kernel_rfl) (by kernel_rfl)) ?_
 intro W base args ds gs before hval0 hW _ hsz0 _
 have hsz : (DataW.weightsEach Tryz.prog (Tryz.f3.params.toList ++ Rows.waveBoxesSpec.plain.varTypes Tryz.prog) (ds ++ gs)).all (· ≤ reachBytes) = true := hsz0
 clear hsz0
 have hval : ∀ (j : Nat) t v, Tryz.f3.params[j]? = some t → args[j]? = some v → Value.okWide Tryz.prog W .any base t v := hval0
 have hW' := hW
 obtain ⟨p, q, hA0, hV, rfl, _, _⟩ := hW
 have hA : DataW.TrodAll enc Tryz.prog W 0 (fun _ => true) true Tryz.f3.params.toList args.toList ds p := hA0
 rw [Tryz.params3] at hA hval hsz
 obtain ⟨v0, vs0, d0, ds0, p0, q0, hargs, rfl, rfl, t0, r0⟩ := trodAll_cons hA
 obtain ⟨v1, vs1, d1, ds1, p1, q1, rfl, rfl, rfl, t1, r1⟩ := trodAll_cons r0
 obtain ⟨rfl, rfl, rfl⟩ := trodAll_nil r1
 obtain rfl : args = #[v0, v1] := by cases args; simp_all
 obtain ⟨rfl, rfl⟩ := trodVars_none hV
 simp only [List.append_nil] at hW'
 have tk0 := t0
 obtain ⟨ao0, cap0, L0, rfl, hc0, hm0, ha0, hw0, hx0⟩ := open_waves (okWide_slice Tryz.underlying22 (hval 0 22 v0 rfl rfl)) t0
 have hr0 : cap0 * 40 ≤ 140737488351232 := by
  rcases hx0 with ⟨_, h0⟩ | ⟨_, es, sp, hd, h0⟩
  · rw [h0]; decide
  · subst hd
    have := sized_slice hsz (j := 0) (t := 22) (e := 41) rfl rfl Tryz.underlying22
    rw [bytesW, h0] at this
    simp only [reachBytes] at this
    omega
 have hn0 : ao0 = none → cap0 = 0 := by
  intro h
  rcases hx0 with ⟨_, h0⟩ | ⟨⟨a, h1⟩, _⟩
  · exact h0
  · rw [h] at h1; simp at h1
 have hlt0 : ∀ x ∈ p0, x.block < W.heap.size := fun x hx => by have := hW'.lt x (by simp [hx]); simpa using this
 have tk1 := t1
 obtain ⟨a1, b1, rfl, wa1, wb1⟩ := open_span (hval 1 25 v1 rfl rfl) t1
 have hlt1 : ∀ x ∈ p1, x.block < W.heap.size := fun x hx => by have := hW'.lt x (by simp [hx]); simpa using this
 clear hA0 hval0
 refine (walk W ao0 cap0 L0 hc0 hm0 ha0 hw0 hr0 hn0 a1 b1 wa1 wb1).mono fun e W' ⟨he, hb⟩ => ?_
 subst he
 refine ⟨_, rfl, _, _, _, [], _, [], hW', trodAll_cons_mk (shut_bool Tryz.underlying4 _) trodAll_mk0, (trodAll_cons_mk (Below.trod laidOut (by kernel_rfl) (of_decide_eq_true (by kernel_rfl)) tk0 hb hlt0) (trodAll_cons_mk (Below.trod laidOut (by kernel_rfl) (of_decide_eq_true (by kernel_rfl)) tk1 hb hlt1) trodAll_mk0)), rfl, hb.frame _, fun h => by cases h⟩

theorem over : Rows.waveBoxesRow.holds Tryz.pinned (OpenSpec.ofChange Rows.waveBoxesSpec) :=
 OpenClaim.holds_of_wide 3 Tryz.f3 rfl rfl rfl rfl rfl rfl rfl ⟨rfl, rfl, rfl, rfl, rfl⟩ rfl rfl rfl rfl rfl (by kernel_rfl) Tryz.func3 (by kernel_rfl)
  (of_decide_eq_true (by kernel_rfl)) (by unfold Func.isWrapper; first | (rw [if_pos (by decide +kernel)]; kernel_rfl) | (rw [if_neg (by decide +kernel)]; exact ⟨rfl, rfl⟩))
  (fun os started H enc _ => lifted os started H enc)

theorem proved : Rows.WaveBoxesSaid :=
 over
end Go.Proofs.YtgnofnjbmiepjaaGreat.waveBoxes
