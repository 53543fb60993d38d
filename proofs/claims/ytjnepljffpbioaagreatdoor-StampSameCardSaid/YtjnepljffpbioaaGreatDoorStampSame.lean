/- Proved here: StampSame. -/
import Derived.Test.YtjnepljffpbioaaGreatDoorJs5
import Derived.Test.YtjnepljffpbioaaGreatDoorJs18
import Derived.Test.YtjnepljffpbioaaGreatDoorJs26
import Derived.Test.YtjnepljffpbioaaGreatDoorJs27
import Derived.Test.YtjnepljffpbioaaGreatDoorJs20
import Derived.ProofKit
import Derived.OpenShut
import Derived.LaidMore
import Derived.Lay
import Derived.SevenTiedAt
import Derived.Stop.Joined
import Derived.ChangeMaps5
import Derived.LaidOnce
namespace Go.Proofs.YtjnepljffpbioaaGreatDoor.stampSame
open Go.ChangeShapes Go.WideShapes Go.ChangeAt Go.RowKit Ieee.Own

theorem fig_zero (p : Nat) : FtoaOk 0 p ↔ FtoaOk 0 p := Iff.rfl
theorem ftoa_any {D p x : Nat} {neg : Bool} (hp : p ≤ 9) (hD : D < 4503599627370496) (hl : D ≤ 1073741824 * 10 ^ p) (g : GotF neg D p x) : FtoaOk x p := by
  rcases g with ⟨_, rfl⟩ | ⟨_, k, nk, x1, x2⟩
  · exact fun w0 w a O Lw => ftoa_zero 0 p a false (Or.inl ⟨rfl, rfl⟩) hp w0 w O
  · obtain ⟨a1, a2⟩ := near_fit hp hl nk
    exact fun w0 w a O Lw => ftoa_fast x p a _ _ _ _ x1 rfl rfl rfl rfl (by omega) (by omega) hp (fdig_near hp hl hD nk) a2 w0 w O Lw
theorem figB_any {D p x : Nat} {neg : Bool} (hp : p ≤ 9) (hl : D ≤ 1073741824 * 10 ^ p) (g : GotF neg D p x) : figB x = true ∧ x < 18446744073709551616 := by
  rcases g with ⟨_, rfl⟩ | ⟨_, k, nk, x1, x2⟩
  · exact ⟨by decide +kernel, by decide⟩
  · obtain ⟨a1, a2⟩ := near_fit hp hl nk
    refine ⟨?_, x1⟩
    unfold figB fitB
    rw [decide_eq_true (Or.inr ⟨by omega, by omega⟩), decide_eq_true a2]
    rfl
theorem fig_back {s : ByteArray} (h : figT (byI s) = true) (ha : abvT (hdF s) (tlF s) = false) (hD : figD (hdF s) (tlF s) < 4503599627370496) {x : Nat} (g : GotF (ngF s) (figD (hdF s) (tlF s)) (tlF s).length x) :
    figV x (tlF s).length = .tuple #[.string s, .int .i64 0] := by
  have F := fig_parts h
  have hl := abv_not F.dP ha
  have hp := F.p2
  obtain ⟨b1, b2⟩ := figB_any hp hl g
  have nz := F.nz
  have sc : scN x (tlF s).length = figD (hdF s) (tlF s) := by
    rcases g with ⟨d0, rfl⟩ | ⟨_, k, nk, _, _⟩
    · rw [d0]; rfl
    · exact sc_near hp hD nk
  have sg : (9223372036854775808 < x ∧ 0 < figD (hdF s) (tlF s)) ↔ ngF s = true := by
    rcases g with ⟨d0, rfl⟩ | ⟨d1, k, nk, x1, x2⟩
    · constructor
      · rintro ⟨q, _⟩; omega
      · intro q; exact absurd d0 (nz q)
    · obtain ⟨a1, a2⟩ := near_fit hp hl nk
      rcases Bool.eq_false_or_eq_true (ngF s) with q | q
      · rw [q, if_pos rfl] at x2
        exact ⟨fun _ => q, fun _ => by omega⟩
      · rw [q, if_neg (by decide)] at x2
        constructor
        · rintro ⟨r, _⟩; omega
        · intro r; rw [q] at r; cases r
  have S := fig_same F sg sc
  unfold figV
  have e : (((tlF s).length : Nat) : Int).toNat = (tlF s).length := by omega
  have hp' : (tlF s).length ≤ 9 := hp
  rw [if_neg (by omega), if_pos b1, e]
  rw [show figS x (tlF s).length = s from S]
set_option maxHeartbeats 2000000 in
set_option maxRecDepth 100000 in
theorem walk (w : World) (L : Lib10 w) (a0 : ByteArray) (_h0 : a0.size ≤ maxLen) :
    Calls Tryz.prog 7 #[.string a0] w fun e w' => e = .returned (.bool true) ∧ Below w.heap.size w w' := by
  have A := Lib.hid (awake_run w L.l9)
  have D := Lib.hid (fun u => ldig_run a0 (by have := _h0; unfold maxLen at this; omega) u)
  by_cases h : figT (byI a0) = true
  · have P := fig_parts h
    obtain ⟨l1, l2⟩ := ld_fig P
    change _ = figD (hdF a0) (tlF a0) at l1
    change _ = (tlF a0).length at l2
    rw [l1, l2] at D
    have hp : (tlF a0).length ≤ 9 := P.p2
    by_cases ha : abvT (hdF a0) (tlF a0) = true
    · have V := Lib.hid (fun u (Lu : Lib10 u) => val_fit a0 h ha u Lu)
      clear h ha P l1 l2 _h0 hp
      go_enter Tryz.func7, Tryz.ntmps7
      go_wp2_with fail
      refine A.out.mono ?_
      rintro _ w1 ⟨rfl, B⟩
      have L1 := L.on B
      replace B := Lib.hid B
      clear A L
      go_wp2_with fail
      refine (V.out _ L1).mono ?_
      rintro _ w2 ⟨rfl, B2⟩
      replace B := Lib.hid (B.out.trans (B2.mono B.out.size))
      clear V B2 L1
      go_wp2_with fail
      refine (D.out _).mono ?_
      rintro _ w3 ⟨rfl, rfl⟩
      clear D
      go_wp2_with fail
      go_ret
      exact ⟨rfl, B.out⟩
    · rw [Bool.not_eq_true] at ha
      have V := Lib.hid (fun u (Lu : Lib10 u) => val_ok a0 h ha u Lu)
      have hl : figD (hdF a0) (tlF a0) ≤ 1073741824 * 10 ^ (tlF a0).length := abv_not P.dP ha
      by_cases hD : figD (hdF a0) (tlF a0) < 4503599627370496
      · have K := Lib.hid (fun x (g : GotF (ngF a0) (figD (hdF a0) (tlF a0)) (tlF a0).length x) => fig_back h ha hD g)
        have G := Lib.hid (fun x (g : GotF (ngF a0) (figD (hdF a0) (tlF a0)) (tlF a0).length x) u (Lu : Lib9 u) => fig_ok x (tlF a0).length (figB_any hp hl g).2 hp (figB_any hp hl g).1 (ftoa_any hp hD hl g) u Lu)
        have t1 : decide (4503599627370496 ≤ ((figD (hdF a0) (tlF a0) : Nat) : Int)) = false := decide_eq_false (by omega)
        clear h ha P l1 l2 _h0 hl hD
        generalize figD (hdF a0) (tlF a0) = DD at *
        generalize (tlF a0).length = p at *
        generalize ngF a0 = neg at *
        have t2 : (a0.toList == a0.toList) = true := by simp
        go_enter Tryz.func7, Tryz.ntmps7
        go_wp2_with fail
        refine A.out.mono ?_
        rintro _ w1 ⟨rfl, B⟩
        have L1 := L.on B
        replace B := Lib.hid B
        clear A L
        go_wp2_with fail
        refine (V.out _ L1).mono ?_
        rintro _ w2 ⟨⟨x, rfl, g⟩, B2⟩
        have K1 := K.out x g
        have G1 := Lib.hid (fun u Lu => G.out x g u Lu)
        rw [K1] at G1
        have L2 := L1.on B2
        replace B := Lib.hid (B.out.trans (B2.mono B.out.size))
        clear V B2 L1 K G K1 g
        replace L2 := Lib.hid L2
        go_wp2_with fail
        refine (D.out _).mono ?_
        rintro _ w3 ⟨rfl, rfl⟩
        clear D
        go_wp2_with fail
        refine (G1.out _ L2.out.l9).mono ?_
        rintro _ w4 ⟨rfl, B2⟩
        replace B := Lib.hid (B.out.trans (B2.mono B.out.size))
        clear G1 B2 L2
        go_wp2_with fail
        go_ret
        exact ⟨rfl, B.out⟩
      · have t1 : decide (4503599627370496 ≤ ((figD (hdF a0) (tlF a0) : Nat) : Int)) = true := decide_eq_true (by omega)
        clear h ha P l1 l2 _h0 hl hD
        generalize figD (hdF a0) (tlF a0) = DD at *
        generalize (tlF a0).length = p at *
        generalize ngF a0 = neg at *
        go_enter Tryz.func7, Tryz.ntmps7
        go_wp2_with fail
        refine A.out.mono ?_
        rintro _ w1 ⟨rfl, B⟩
        have L1 := L.on B
        replace B := Lib.hid B
        clear A L
        go_wp2_with fail
        refine (V.out _ L1).mono ?_
        rintro _ w2 ⟨⟨x, rfl, g⟩, B2⟩
        replace B := Lib.hid (B.out.trans (B2.mono B.out.size))
        clear V B2 L1 g
        go_wp2_with fail
        refine (D.out _).mono ?_
        rintro _ w3 ⟨rfl, rfl⟩
        clear D
        go_wp2_with fail
        go_ret
        exact ⟨rfl, B.out⟩
  · rw [Bool.not_eq_true] at h
    have V := Lib.hid (fun u => val_text a0 (by have := _h0; unfold maxLen at this; omega) h u)
    clear h _h0
    go_enter Tryz.func7, Tryz.ntmps7
    go_wp2_with fail
    refine A.out.mono ?_
    rintro _ w1 ⟨rfl, B⟩
    have L1 := L.on B
    replace B := Lib.hid B
    clear A L
    go_wp2_with fail
    refine (V.out _).mono ?_
    rintro _ w2 ⟨rfl, B2⟩
    replace B := Lib.hid (B.out.trans (B2.mono B.out.size))
    clear V B2 L1
    go_wp2_with fail
    refine (D.out _).mono ?_
    rintro _ w3 ⟨rfl, rfl⟩
    clear D
    go_wp2_with fail
    go_ret
    exact ⟨rfl, B.out⟩

set_option maxRecDepth 100000 in
theorem own : ownKnob Tryz.prog.godebug = none := by kernel_rfl
set_option maxRecDepth 100000 in
theorem lib {w : World} (h : laidMetH Tryz.prog Rows.stampSameRow.laid w) : Lib10 w := by
  rw [MakeChecks.laidMetH_plain _ _ _ (by kernel_rfl)] at h
  have m : ∀ (i : Nat) (x : String × DataW Unit), Rows.stampSameRow.laid[i]? = some x → Lib.VarReads Tryz.prog w x.1 x.2 := fun i x hx => Lib.laidMet.reads h (List.mem_of_getElem? hx)
  have h0 := m 4 ("internal/strconv.optimize", Rows.laid_internal_strconv_optimize) rfl
  have h1 := m 8 ("internal/strconv.uint64pow10", Rows.laid_internal_strconv_uint64pow10) rfl
  have h2 := m 13 ("internal/strconv.pow10Tab", Rows.laid_internal_strconv_pow10Tab) rfl
  have h3 := m 1 ("math/bits.deBruijn64tab", Rows.laid_math_bits_deBruijn64tab) rfl
  have h4 := m 3 ("internal/strconv.float64info", Rows.laid_internal_strconv_float64info) rfl
  have h5 := m 6 ("internal/strconv.float64pow10", Rows.laid_internal_strconv_float64pow10) rfl
  exact lib10_of h0 h1 h2 h3 h4 h5
set_option maxRecDepth 100000 in
theorem lifted (os : Os) (started : os.Started) (H : Type) (enc : TypeId × Value → H) :
    ReturnsInHanded {} Tryz.checked os 7 .any (fun w args => (Rows.stampSameSpec.pre enc Tryz.prog Tryz.f7 Rows.stampSameRow.domain false w args ∧ laidMetH Tryz.prog Rows.stampSameRow.laid w) ∧ sizedMet enc Tryz.prog Tryz.f7 (OpenSpec.ofChange Rows.stampSameSpec) false w args)
      (Rows.stampSameSpec.post enc Tryz.prog Tryz.f7 false true false false) := by
  refine returnsInHanded_of_change_and (C := Tryz.checked) (X := fun w _ => laidMetH Tryz.prog Rows.stampSameRow.laid w) (fun _ _ _ hh h => h.of_heap hh) own started (by kernel_rfl) Tryz.func7
    (ChangeSpec.witness_shaped (enc := enc) (C := Tryz.checked) (os := os) (X := fun w _ => laidMetH Tryz.prog Rows.stampSameRow.laid w) false (World.laidAll Tryz.prog os Rows.stampSameRow.laid) #[.string ⟨#[]⟩] 8 (World.laidAll_os _ _ _)
      (World.shaped_of_ZipB (by kernel_rfl) (by kernel_rfl)) (by kernel_rfl) (by kernel_rfl) (by kernel_rfl)
      (by rw [MakeChecks.laidMetH_plain _ _ _ (by kernel_rfl)]; exact laidMet_laidAll _ (by kernel_rfl) (by kernel_rfl))) ?_
  intro W base args ds gs before hval0 hW _ _ hL _
  have hval : ∀ (j : Nat) t v, Tryz.f7.params[j]? = some t → args[j]? = some v → Value.okWide Tryz.prog W .any base t v := hval0
  have hW' := hW
  obtain ⟨p, q, hA0, hV, rfl, _, _⟩ := hW
  have hA : DataW.TrodAll enc Tryz.prog W 0 (fun _ => true) true Tryz.f7.params.toList args.toList ds p := hA0
  rw [Tryz.params7] at hA hval
  obtain ⟨v0, vs0, d0, ds0, p0, q0, hargs, rfl, rfl, t0, r0⟩ := trodAll_cons hA
  obtain ⟨rfl, rfl, rfl⟩ := trodAll_nil r0
  obtain rfl : args = #[v0] := by cases args; simp_all
  obtain ⟨rfl, rfl⟩ := trodVars_none hV
  simp only [List.append_nil] at hW'
  obtain ⟨a0, rfl, rfl, rfl, w0⟩ := Go.ChangeMaps.open_string Tryz.underlying9 (hval 0 9 v0 rfl rfl) t0
  clear hA0 hval0
  refine (walk W (lib hL) a0 w0).mono fun e W' ⟨he, hb⟩ => ?_
  subst he
  exact ⟨_, rfl, _, _, _, [], _, [], hW', trodAll_cons_mk (shut_bool Tryz.underlying4 _) trodAll_mk0, (trodAll_cons_mk (Go.ChangeMaps.shut_string Tryz.underlying9 w0) trodAll_mk0), rfl, hb.frame _, fun h => by cases h⟩

set_option maxRecDepth 100000 in
theorem over : Rows.stampSameRow.holds Tryz.pinned (OpenSpec.ofChange Rows.stampSameSpec) :=
  OpenClaim.holds_of_wide 7 Tryz.f7 rfl rfl rfl rfl rfl rfl rfl ⟨rfl, rfl, rfl, rfl, rfl⟩ rfl rfl rfl rfl rfl (by kernel_rfl) Tryz.func7 (by kernel_rfl)
    (of_decide_eq_true (by kernel_rfl)) (by unfold Func.isWrapper; first | (rw [if_pos (by decide +kernel)]; kernel_rfl) | (rw [if_neg (by decide +kernel)]; exact ⟨rfl, rfl⟩))
    (fun os started H enc _ => lifted os started H enc)

set_option maxRecDepth 100000 in
theorem proved : Rows.StampSameCardSaid :=
  Claim7.holds_tied_plain_at .later [] [.data, .data, .widerDeep, .widerDeep, .data, .data, .data, .data, .data, .data, .sentinel, .sentinel, .pinned, .pinned, .pinned] true Rows.stampSameCard.stood.harness Rows.stampSameCard.stood.looks over (fun _ h => by cases h) (by kernel_rfl) (fun _ h => by cases h) stampSame_row_tie rfl ⟨rfl, rfl⟩ (by kernel_rfl) rfl
    (fun f fn hf hfn => by
      obtain rfl : f = 7 := Option.some.inj ((show Tryz.prog.funcNamed "orrery/orrerylaw09.StampSame" = some 7 by kernel_rfl).symm.trans hf) |>.symm
      obtain rfl : fn = Tryz.f7 := (Option.some.inj (Tryz.func7.symm.trans hfn)).symm
      exact ⟨by kernel_rfl, fun j t ht => by
        rw [Tryz.params7] at ht
        have hm : t ∈ [9] := by simpa using Array.mem_of_getElem? ht
        have hall : ([9].all fun u => !Tryz.prog.wantsStandIn u) = true := by kernel_rfl
        exact (show Tryz.prog.wantsStandIn t = false by simpa using List.all_eq_true.1 hall t hm)⟩)
    (by kernel_rfl)
end Go.Proofs.YtjnepljffpbioaaGreatDoor.stampSame
