/- Proved here: StampFigures. -/
import Derived.Test.YtocnpcjpkieogaaGreatDoorJs5
import Derived.Test.YtocnpcjpkieogaaGreatDoorJs18
import Derived.Test.YtocnpcjpkieogaaGreatDoorJs26
import Derived.Test.YtocnpcjpkieogaaGreatDoorJs27
import Derived.Test.YtocnpcjpkieogaaGreatDoorJs20
import Derived.Test.YtocnpcjpkieogaaGreatDoorJs30
import Derived.Test.YtocnpcjpkieogaaGreatDoorJs29
import Derived.Test.YtocnpcjpkieogaaGreatDoorJs40
import Derived.ProofKit
import Derived.OpenShut
import Derived.LaidMore
import Derived.Lay
import Derived.SevenTiedAt
import Derived.Stop.Joined
import Derived.ChangeMaps5
import Derived.LaidOnce
namespace Go.Proofs.YtocnpcjpkieogaaGreatDoor.stampFigures
open Go.ChangeShapes Go.WideShapes Go.ChangeAt Go.RowKit Ieee.Own

set_option maxRecDepth 100000 in
theorem fig_all (b : Nat) (p : Int) (hb : b < 18446744073709551616) (w : World) (L : Lib9 w) :
   Calls Tryz.prog 5 #[.float .f64 b, .int .i64 p] w fun e w' => e = .returned (figV b p) ∧ Below w.heap.size w w' := by
 by_cases h : p < 0 ∨ 9 < p
 · have e : figV b p = .tuple #[.string ⟨#[]⟩, .int .i64 1] := if_pos h
   rw [e]; exact fig_arg b p hb h w
 · obtain ⟨q, rfl⟩ : ∃ q : Nat, p = (q : Int) := ⟨p.toNat, by omega⟩
   by_cases hf : figB b = true
   · exact fig_ok b q hb (by omega) hf (ftoaOk_all hb (by omega) hf) w L
   · have e : figV b q = .tuple #[.string ⟨#[]⟩, .int .i64 3] := by unfold figV; rw [if_neg h, if_neg hf]
     rw [e]; exact fig_fit b q hb (by omega) (by rwa [Bool.not_eq_true] at hf) w
set_option maxRecDepth 100000 in
theorem val_all (s : ByteArray) (hs : s.size ≤ 9223372036854775807) (w : World) (L : Lib10 w) : Calls Tryz.prog 7 #[.string s] w fun e w' => RvA (byI s) e ∧ Below w.heap.size w w' := by
 by_cases h : figT (byI s) = true
 · by_cases ha : abvT (hdF s) (tlF s) = true
   · refine (val_fit s h ha w L).mono fun e w' k => ⟨⟨fun q => ?_, fun _ _ => k.1, fun _ q => ?_⟩, k.2⟩
     · rw [h] at q; cases q
     · exact absurd (ha.symm.trans q) (by decide)
   · rw [Bool.not_eq_true] at ha
     refine (val_ok s h ha w L).mono fun e w' k => ⟨⟨fun q => ?_, fun _ q => ?_, fun _ _ => k.1⟩, k.2⟩
     · rw [h] at q; cases q
     · exact absurd (ha.symm.trans q) (by decide)
 · rw [Bool.not_eq_true] at h
   refine (val_text s hs h w).mono fun e w' k => ⟨⟨fun _ => k.1, fun q => ?_, fun q => ?_⟩, k.2⟩
   · rw [h] at q; cases q
   · rw [h] at q; cases q
theorem rv_form {L : List Int} {e : Ending} (h : RvA L e) : ∃ n g, e = .returned (.tuple #[.float .f64 n, .int .i64 g]) := by
 obtain ⟨h1, h2, h3⟩ := h
 cases a : figT L with
 | false => exact ⟨_, _, h1 a⟩
 | true =>
   cases b : abvT (hdP (rsP L)) (tlP (rsP L)) with
   | true => exact ⟨_, _, h2 a b⟩
   | false =>
     obtain ⟨x, e, -⟩ := h3 a b
     exact ⟨_, _, e⟩
theorem rv_uniq {L : List Int} {e f : Ending} (h : RvA L e) (g : RvA L f) : e = f := by
 obtain ⟨h1, h2, h3⟩ := h
 obtain ⟨g1, g2, g3⟩ := g
 cases a : figT L with
 | false => rw [h1 a, g1 a]
 | true =>
   cases b : abvT (hdP (rsP L)) (tlP (rsP L)) with
   | true => rw [h2 a b, g2 a b]
   | false =>
     obtain ⟨x, e1, k1⟩ := h3 a b
     obtain ⟨y, e2, k2⟩ := g3 a b
     rw [e1, e2, got_uniq k1 k2]
set_option maxHeartbeats 2000000 in
set_option maxRecDepth 100000 in
theorem walk (w : World) (L : Lib10 w) (a0 : Nat) (h0 : a0 < 18446744073709551616) (a1 : Int) (_h1 : (Lit.int .i64 a1).wf = true) (a2 : ByteArray) (_h2 : a2.size ≤ maxLen) :
   Calls Tryz.prog 3 #[.float .f64 a0, .int .i64 a1, .string a2] w fun e w' => e = .returned (.bool true) ∧ Below w.heap.size w w' := by
 have A := Lib.hid (awake_run w L.l9)
 obtain ⟨S, k, hS⟩ : ∃ (S : ByteArray) (k : Int), figV a0 a1 = .tuple #[.string S, .int .i64 k] := by
   unfold figV
   split
   · exact ⟨_, _, rfl⟩
   · split
     · exact ⟨_, _, rfl⟩
     · exact ⟨_, _, rfl⟩
 have FO := Lib.hid (fun u (Lu : Lib9 u) => fig_all a0 a1 h0 u Lu)
 have FR := Lib.hid (fun u => rfigure_run a0 a1 h0 u)
 rw [hS] at FO FR
 have VO := Lib.hid (fun u (Lu : Lib10 u) => val_all a2 (by have := _h2; unfold maxLen at this; omega) u Lu)
 have VR := Lib.hid (fun u => rval_run a2 (by have := _h2; unfold maxLen at this; omega) u)
 have SW := fun n u => same_word n u
 have tS : (S.toList == S.toList) = true := by simp
 have tk : (k == k) = true := by simp
 clear hS _h2 h0
 go_enter Tryz.func3, Tryz.ntmps3
 go_wp2_with fail
 refine A.out.mono ?_
 rintro _ w1 ⟨rfl, B⟩
 have L1 := L.on B
 replace B := Lib.hid B
 clear A L
 replace L1 := Lib.hid L1
 go_wp2_with fail
 refine (FO.out _ L1.out.l9).mono ?_
 rintro _ w2 ⟨rfl, B2⟩
 have L2 := Lib.hid (L1.out.on B2)
 replace B := Lib.hid (B.out.trans (B2.mono B.out.size))
 clear FO L1 B2
 go_wp2_with fail
 refine (FR.out _).mono ?_
 rintro _ w3 ⟨rfl, B2⟩
 have L3 := Lib.hid (L2.out.on B2)
 replace B := Lib.hid (B.out.trans (B2.mono B.out.size))
 clear FR L2 B2
 go_wp2_with fail
 refine (VO.out _ L3.out).mono ?_
 rintro e1 w4 ⟨R1, B2⟩
 obtain ⟨n, g, rfl⟩ := rv_form R1
 replace R1 := Lib.hid R1
 replace B := Lib.hid (B.out.trans (B2.mono B.out.size))
 clear VO L3 B2
 go_wp2_with fail
 refine (VR.out _).mono ?_
 rintro e2 w5 ⟨R2, B2⟩
 obtain rfl := rv_uniq R1.out R2
 replace B := Lib.hid (B.out.trans (B2.mono B.out.size))
 have tg : (g == g) = true := by simp
 clear VR R1 R2 B2
 go_wp2_with (go_at_call 9; ((with_reducible refine (SW _ _).mono ?_); rintro e w' ⟨rfl, rfl⟩))
 go_ret
 exact ⟨rfl, B.out⟩

set_option maxRecDepth 100000 in
theorem own : ownKnob Tryz.prog.godebug = none := by kernel_rfl
set_option maxRecDepth 100000 in
theorem lib {w : World} (h : laidMetH Tryz.prog Rows.stampFiguresRow.laid w) : Lib10 w := by
 rw [MakeChecks.laidMetH_plain _ _ _ (by kernel_rfl)] at h
 have m : ∀ (i : Nat) (x : String × DataW Unit), Rows.stampFiguresRow.laid[i]? = some x → Lib.VarReads Tryz.prog w x.1 x.2 := fun i x hx => Lib.laidMet.reads h (List.mem_of_getElem? hx)
 have h0 := m 4 ("internal/strconv.optimize", Rows.laid_internal_strconv_optimize) rfl
 have h1 := m 8 ("internal/strconv.uint64pow10", Rows.laid_internal_strconv_uint64pow10) rfl
 have h2 := m 13 ("internal/strconv.pow10Tab", Rows.laid_internal_strconv_pow10Tab) rfl
 have h3 := m 1 ("math/bits.deBruijn64tab", Rows.laid_math_bits_deBruijn64tab) rfl
 have h4 := m 3 ("internal/strconv.float64info", Rows.laid_internal_strconv_float64info) rfl
 have h5 := m 6 ("internal/strconv.float64pow10", Rows.laid_internal_strconv_float64pow10) rfl
 exact lib10_of h0 h1 h2 h3 h4 h5
set_option maxRecDepth 100000 in
theorem lifted (os : Os) (started : os.Started) (H : Type) (enc : TypeId × Value → H) :
   ReturnsInHanded {} Tryz.checked os 3 .any (fun w args => (Rows.stampFiguresSpec.pre enc Tryz.prog Tryz.f3 Rows.stampFiguresRow.domain false w args ∧ laidMetH Tryz.prog Rows.stampFiguresRow.laid w) ∧ sizedMet enc Tryz.prog Tryz.f3 (OpenSpec.ofChange Rows.stampFiguresSpec) false w args)
     (Rows.stampFiguresSpec.post enc Tryz.prog Tryz.f3 false true false false) := by
 refine returnsInHanded_of_change_and (C := Tryz.checked) (X := fun w _ => laidMetH Tryz.prog Rows.stampFiguresRow.laid w) (fun _ _ _ hh h => h.of_heap hh) own started (by kernel_rfl) Tryz.func3
   (ChangeSpec.witness_shaped (enc := enc) (C := Tryz.checked) (os := os) (X := fun w _ => laidMetH Tryz.prog Rows.stampFiguresRow.laid w) false (World.laidAll Tryz.prog os Rows.stampFiguresRow.laid) #[.float .f64 0, .int .i64 0, .string ⟨#[]⟩] 8 (World.laidAll_os _ _ _)
     (World.shaped_of_ZipB (by kernel_rfl) (by kernel_rfl)) (by kernel_rfl) (by kernel_rfl) (by kernel_rfl)
     (by rw [MakeChecks.laidMetH_plain _ _ _ (by kernel_rfl)]; exact laidMet_laidAll _ (by kernel_rfl) (by kernel_rfl))) ?_
 intro W base args ds gs before hval0 hW _ _ hL _
 have hval : ∀ (j : Nat) t v, Tryz.f3.params[j]? = some t → args[j]? = some v → Value.okWide Tryz.prog W .any base t v := hval0
 have hW' := hW
 obtain ⟨p, q, hA0, hV, rfl, _, _⟩ := hW
 have hA : DataW.TrodAll enc Tryz.prog W 0 (fun _ => true) true Tryz.f3.params.toList args.toList ds p := hA0
 rw [Tryz.params3] at hA hval
 obtain ⟨v0, vs0, d0, ds0, p0, q0, hargs, rfl, rfl, t0, r0⟩ := trodAll_cons hA
 obtain ⟨v1, vs1, d1, ds1, p1, q1, rfl, rfl, rfl, t1, r1⟩ := trodAll_cons r0
 obtain ⟨v2, vs2, d2, ds2, p2, q2, rfl, rfl, rfl, t2, r2⟩ := trodAll_cons r1
 obtain ⟨rfl, rfl, rfl⟩ := trodAll_nil r2
 obtain rfl : args = #[v0, v1, v2] := by cases args; simp_all
 obtain ⟨rfl, rfl⟩ := trodVars_none hV
 simp only [List.append_nil] at hW'
 obtain ⟨a0, rfl, rfl, rfl, w0⟩ := open_float Tryz.underlying22 (hval 0 22 v0 rfl rfl) t0
 obtain ⟨a1, rfl, rfl, rfl, w1⟩ := open_int Tryz.underlying3 (hval 1 3 v1 rfl rfl) t1
 obtain ⟨a2, rfl, rfl, rfl, w2⟩ := Go.ChangeMaps.open_string Tryz.underlying9 (hval 2 9 v2 rfl rfl) t2
 clear hA0 hval0
 refine (walk W (lib hL) a0 (wf64 w0) a1 w1 a2 w2).mono fun e W' ⟨he, hb⟩ => ?_
 subst he
 exact ⟨_, rfl, _, _, _, [], _, [], hW', trodAll_cons_mk (shut_bool Tryz.underlying4 _) trodAll_mk0, (trodAll_cons_mk (shut_float Tryz.underlying22 w0) (trodAll_cons_mk (shut_int Tryz.underlying3 w1) (trodAll_cons_mk (Go.ChangeMaps.shut_string Tryz.underlying9 w2) trodAll_mk0))), rfl, hb.frame _, fun h => by cases h⟩

set_option maxRecDepth 100000 in
theorem over : Rows.stampFiguresRow.holds Tryz.pinned (OpenSpec.ofChange Rows.stampFiguresSpec) :=
 OpenClaim.holds_of_wide 3 Tryz.f3 rfl rfl rfl rfl rfl rfl rfl ⟨rfl, rfl, rfl, rfl, rfl⟩ rfl rfl rfl rfl rfl (by kernel_rfl) Tryz.func3 (by kernel_rfl)
   (of_decide_eq_true (by kernel_rfl)) (by unfold Func.isWrapper; first | (rw [if_pos (by decide +kernel)]; kernel_rfl) | (rw [if_neg (by decide +kernel)]; exact ⟨rfl, rfl⟩))
   (fun os started H enc _ => lifted os started H enc)

set_option maxRecDepth 100000 in
theorem proved : Rows.StampFiguresCardSaid :=
 Claim7.holds_tied_plain_at .later [] [.data, .data, .widerDeep, .widerDeep, .data, .data, .data, .data, .data, .data, .sentinel, .sentinel, .pinned, .pinned, .pinned] true Rows.stampFiguresCard.stood.harness Rows.stampFiguresCard.stood.looks over (fun _ h => by cases h) (by kernel_rfl) (fun _ h => by cases h) stampFigures_row_tie rfl ⟨rfl, rfl⟩ (by kernel_rfl) rfl
   (fun f fn hf hfn => by
     obtain rfl : f = 3 := Option.some.inj ((show Tryz.prog.funcNamed "orrery/orrerylaw09.StampFigures" = some 3 by kernel_rfl).symm.trans hf) |>.symm
     obtain rfl : fn = Tryz.f3 := (Option.some.inj (Tryz.func3.symm.trans hfn)).symm
     exact ⟨by kernel_rfl, fun j t ht => by
       rw [Tryz.params3] at ht
       have hm : t ∈ [22, 3, 9] := by simpa using Array.mem_of_getElem? ht
       have hall : ([22, 3, 9].all fun u => !Tryz.prog.wantsStandIn u) = true := by kernel_rfl
       exact (show Tryz.prog.wantsStandIn t = false by simpa using List.all_eq_true.1 hall t hm)⟩)
   (by kernel_rfl)
end Go.Proofs.YtocnpcjpkieogaaGreatDoor.stampFigures
