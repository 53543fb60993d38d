/- Proved here: StampNear. -/
import Derived.Test.YtjnepljffpbioaaGreatDoorJs5
import Derived.Test.YtjnepljffpbioaaGreatDoorJs18
import Derived.Test.YtjnepljffpbioaaGreatDoorJs30
import Derived.Test.YtjnepljffpbioaaGreatDoorJs27
import Derived.ProofKit
import Derived.OpenShut
import Derived.LaidMore
import Derived.Lay
import Derived.SevenTiedAt
import Derived.Stop.Joined
import Derived.ChangeMaps5
import Derived.LaidOnce
namespace Go.Proofs.YtjnepljffpbioaaGreatDoor.stampNear
open Go.ChangeShapes Go.WideShapes Go.ChangeAt Go.RowKit Ieee.Own

theorem figV_ok {b p : Nat} (hp : p ≤ 9) (h : figB b = true) : figV b (p : Int) = .tuple #[.string (figS b p), .int .i64 0] := by
  unfold figV
  rw [if_neg (by omega), if_pos h]
  rfl
set_option maxRecDepth 100000 in
/-- what Value answers of a figure that was printed -/
theorem val_back {b p : Nat} (hb : b < 18446744073709551616) (hp : p ≤ 9) (h : figB b = true) :
    ∃ neg : Bool, (neg = true ↔ 9223372036854775808 < b ∧ 0 < scN b p) ∧ ∀ u, Lib10 u → Calls Tryz.prog 15 #[.string (figS b p)] u fun e w' => ansV neg (scN b p) p e ∧ Below u.heap.size u w' := by
  have hfd := h
  unfold figB fitB at hfd
  rw [Bool.and_eq_true, decide_eq_true_eq, decide_eq_true_eq] at hfd
  have hfd2 : b % 9223372036854775808 = 0 ∨ 3706462493325918208 ≤ b % 9223372036854775808 ∧ b % 9223372036854775808 ≤ 4742290407621132288 := by
    rcases hfd.1 with q | q
    · exact Or.inl q
    · exact Or.inr ⟨q.1, hfd.2⟩
  have hS := figS_is b p
  have top := sc_top hb hp h
  have lim := scN_le b p hp (by rcases hfd2 with q | q; exact Or.inl q; exact Or.inr q.2)
  generalize scN b p = D at *
  obtain ⟨neg, hneg⟩ : ∃ neg : Bool, neg = decide (9223372036854775808 < b ∧ 0 < D) := ⟨_, rfl⟩
  have hn : neg = true ↔ 9223372036854775808 < b ∧ 0 < D := by rw [hneg, decide_eq_true_eq]
  refine ⟨neg, hn, ?_⟩
  have hL : byI (figS b p) = sgL neg ++ nuL D p := by
    have e : (if 9223372036854775808 < b ∧ 0 < D then ([45] : List Int) else []) = sgL neg := by
      unfold sgL
      by_cases q : neg = true
      · rw [if_pos q, if_pos (hn.1 q)]
      · rw [if_neg q, if_neg (fun k => q (hn.2 k))]
    rw [hS, e, byI_str]
    intro x hx
    rcases List.mem_append.1 hx with r | r
    · have := sgL_ok _ _ r; omega
    · exact nuL_bytes _ _ _ r
  have t0 := ten_pos p
  have q10 : D / 10 ^ p < 10000000000 := by
    rw [Nat.div_lt_iff_lt_mul t0]; omega
  obtain ⟨g1, g2, g3, g4⟩ := fig_written hL hp q10 (fun q => by have := hn.1 q; omega)
  have lP : (tlF (figS b p)).length = p := by
    show (tlP (rsP (byI (figS b p)))).length = p
    rw [g3]
    by_cases q : 0 < p
    · rw [if_pos q, dgI_len]
    · rw [if_neg q]; simp; omega
  have sum : figD (hdF (figS b p)) (tlF (figS b p)) = D := fig_sum lP g2 g3
  have ab : abvT (hdF (figS b p)) (tlF (figS b p)) = false := by
    rw [← Bool.not_eq_true]
    intro q
    have := abv_is (fig_parts g4).dP q
    change 1073741824 * 10 ^ (tlF (figS b p)).length < figD (hdF (figS b p)) (tlF (figS b p)) at this
    rw [sum, lP] at this
    omega
  intro u Lu
  have V := val_ok (figS b p) g4 ab u Lu
  rw [sum, lP, show ngF (figS b p) = neg from g1] at V
  exact V
set_option maxHeartbeats 2000000 in
set_option maxRecDepth 100000 in
theorem walk (w : World) (L : Lib10 w) (a0 : Nat) (h0 : a0 < 18446744073709551616) (a1 : Int) (_h1 : (Lit.int .i64 a1).wf = true) :
    Calls Tryz.prog 6 #[.float .f64 a0, .int .i64 a1] w fun e w' => e = .returned (.bool true) ∧ Below w.heap.size w w' := by
  have A := Lib.hid (awake_run w L.l9)
  by_cases hp : a1 < 0 ∨ 9 < a1
  · have F := Lib.hid (fun u => fig_arg a0 a1 h0 hp u)
    clear hp
    go_enter Tryz.func6, Tryz.ntmps6
    go_wp2_with fail
    refine A.out.mono ?_
    rintro _ w1 ⟨rfl, B⟩
    have L1 := L.on B
    replace B := Lib.hid B
    clear A L
    go_wp2_with fail
    refine (F.out _).mono ?_
    rintro _ w2 ⟨rfl, B2⟩
    replace B := Lib.hid (B.out.trans (B2.mono B.out.size))
    clear F B2 L1
    go_wp2_with fail
    go_ret
    exact ⟨rfl, B.out⟩
  · obtain ⟨p, rfl⟩ : ∃ p : Nat, a1 = (p : Int) := ⟨a1.toNat, by omega⟩
    have hp9 : p ≤ 9 := by omega
    clear hp
    by_cases h : figB a0 = true
    · have F := Lib.hid (fun u (Lu : Lib9 u) => fig_ok a0 p h0 hp9 h (ftoaOk_all h0 hp9 h) u Lu)
      rw [figV_ok hp9 h] at F
      obtain ⟨neg, hn, V⟩ := val_back h0 hp9 h
      replace V := Lib.hid V
      have N := Lib.hid (fun v g => near_words (v := v) h0 h hp9 rfl g hn)
      have UN := Lib.hid (fun i (hi : i < 9) T w => run_div (unW i) 4621819117588971520 (unW (i + 1)) (un_next hi) T w)
      have HM := fun T w => run_mul (unW p) 4602678828179846167 (haW p) (ha_mul hp9) T w
      have AB := Lib.hid (fun x (hx : x < 18446744073709551616) w => abs_any x hx w)
      have gp : (p : Int) ≤ 9 := by omega
      clear h hn
      generalize figS a0 p = s at *
      generalize scN a0 p = D at *
      go_enter Tryz.func6, Tryz.ntmps6
      go_wp2_with fail
      refine A.out.mono ?_
      rintro _ w1 ⟨rfl, B⟩
      have L1 := L.on B
      replace B := Lib.hid B
      clear A L
      go_wp2_with fail
      refine (F.out _ L1.l9).mono ?_
      rintro _ w2 ⟨rfl, B2⟩
      have L2 := L1.on B2
      replace B := Lib.hid (B.out.trans (B2.mono B.out.size))
      clear F B2 L1
      go_wp2_with fail
      refine (V.out _ L2).mono ?_
      rintro _ w3 ⟨⟨x, rfl, g⟩, B2⟩
      obtain ⟨r1, r3, r4, k1, k2, k3, k4, k5⟩ := N.out x g
      replace B := Lib.hid (B.out.trans (B2.mono B.out.size))
      clear V B2 L2 g N
      replace k5 := Lib.hid k5
      go_wp2_with fail
      go_loop [9, 10] (fun uv iv => ∃ i : Nat, i ≤ p ∧ uv = .float .f64 (unW i) ∧ iv = .int .i64 (i : Int)) (fun _ iv => 10 - (intOf iv).toNat)
      case atStart => exact ⟨0, Nat.zero_le _, rfl, rfl⟩
      case round =>
        obtain ⟨i, hi, rfl, rfl⟩ := hrel
        by_cases hlt : i < p
        · have t : decide (i < p) = true := decide_eq_true hlt
          have Q := UN.out i (by omega)
          have gi : (i : Int) ≤ 9 := by omega
          clear HM
          go_wp2_with fail
          go_round
          case rel => exact ⟨i + 1, hlt, rfl, by go_num⟩
          case measure => simp [intOf]; omega
        · obtain rfl : i = p := by omega
          have t : decide (i < i) = false := decide_eq_false (by omega)
          have S1 := fun T w => run_sub x a0 r1 k1 T w
          have D1 := fun T w => run_div (a0 % 9223372036854775808) 4841369599423283200 r3 k2 T w
          have P1 := fun T w => run_add (haW i) r3 r4 k3 T w
          have A1 := Lib.hid (fun w => AB.out r1 k4 w)
          have A2 := Lib.hid (fun w => AB.out a0 h0 w)
          clear UN AB k1 k2 k3
          go_wp2_with fail
          refine (A1.out _).mono ?_
          rintro _ w4 ⟨rfl, rfl⟩
          clear A1
          go_wp2_with fail
          refine (A2.out _).mono ?_
          rintro _ w4 ⟨rfl, rfl⟩
          clear A2
          go_wp2_with fail
          go_ret
          exact ⟨ret_bo k5.out, B.out⟩
    · rw [Bool.not_eq_true] at h
      have F := Lib.hid (fun u => fig_fit a0 p h0 hp9 h u)
      clear h
      go_enter Tryz.func6, Tryz.ntmps6
      go_wp2_with fail
      refine A.out.mono ?_
      rintro _ w1 ⟨rfl, B⟩
      have L1 := L.on B
      replace B := Lib.hid B
      clear A L
      go_wp2_with fail
      refine (F.out _).mono ?_
      rintro _ w2 ⟨rfl, B2⟩
      replace B := Lib.hid (B.out.trans (B2.mono B.out.size))
      clear F B2 L1
      go_wp2_with fail
      go_ret
      exact ⟨rfl, B.out⟩

set_option maxRecDepth 100000 in
theorem own : ownKnob Tryz.prog.godebug = none := by kernel_rfl
set_option maxRecDepth 100000 in
theorem lib {w : World} (h : laidMetH Tryz.prog Rows.stampNearRow.laid w) : Lib10 w := by
  rw [MakeChecks.laidMetH_plain _ _ _ (by kernel_rfl)] at h
  have m : ∀ (i : Nat) (x : String × DataW Unit), Rows.stampNearRow.laid[i]? = some x → Lib.VarReads Tryz.prog w x.1 x.2 := fun i x hx => Lib.laidMet.reads h (List.mem_of_getElem? hx)
  have h0 := m 4 ("internal/strconv.optimize", Rows.laid_internal_strconv_optimize) rfl
  have h1 := m 8 ("internal/strconv.uint64pow10", Rows.laid_internal_strconv_uint64pow10) rfl
  have h2 := m 13 ("internal/strconv.pow10Tab", Rows.laid_internal_strconv_pow10Tab) rfl
  have h3 := m 1 ("math/bits.deBruijn64tab", Rows.laid_math_bits_deBruijn64tab) rfl
  have h4 := m 3 ("internal/strconv.float64info", Rows.laid_internal_strconv_float64info) rfl
  have h5 := m 6 ("internal/strconv.float64pow10", Rows.laid_internal_strconv_float64pow10) rfl
  exact lib10_of h0 h1 h2 h3 h4 h5
set_option maxRecDepth 100000 in
theorem lifted (os : Os) (started : os.Started) (H : Type) (enc : TypeId × Value → H) :
    ReturnsInHanded {} Tryz.checked os 6 .any (fun w args => (Rows.stampNearSpec.pre enc Tryz.prog Tryz.f6 Rows.stampNearRow.domain false w args ∧ laidMetH Tryz.prog Rows.stampNearRow.laid w) ∧ sizedMet enc Tryz.prog Tryz.f6 (OpenSpec.ofChange Rows.stampNearSpec) false w args)
      (Rows.stampNearSpec.post enc Tryz.prog Tryz.f6 false true false false) := by
  refine returnsInHanded_of_change_and (C := Tryz.checked) (X := fun w _ => laidMetH Tryz.prog Rows.stampNearRow.laid w) (fun _ _ _ hh h => h.of_heap hh) own started (by kernel_rfl) Tryz.func6
    (ChangeSpec.witness_shaped (enc := enc) (C := Tryz.checked) (os := os) (X := fun w _ => laidMetH Tryz.prog Rows.stampNearRow.laid w) false (World.laidAll Tryz.prog os Rows.stampNearRow.laid) #[.float .f64 0, .int .i64 0] 8 (World.laidAll_os _ _ _)
      (World.shaped_of_ZipB (by kernel_rfl) (by kernel_rfl)) (by kernel_rfl) (by kernel_rfl) (by kernel_rfl)
      (by rw [MakeChecks.laidMetH_plain _ _ _ (by kernel_rfl)]; exact laidMet_laidAll _ (by kernel_rfl) (by kernel_rfl))) ?_
  intro W base args ds gs before hval0 hW _ _ hL _
  have hval : ∀ (j : Nat) t v, Tryz.f6.params[j]? = some t → args[j]? = some v → Value.okWide Tryz.prog W .any base t v := hval0
  have hW' := hW
  obtain ⟨p, q, hA0, hV, rfl, _, _⟩ := hW
  have hA : DataW.TrodAll enc Tryz.prog W 0 (fun _ => true) true Tryz.f6.params.toList args.toList ds p := hA0
  rw [Tryz.params6] at hA hval
  obtain ⟨v0, vs0, d0, ds0, p0, q0, hargs, rfl, rfl, t0, r0⟩ := trodAll_cons hA
  obtain ⟨v1, vs1, d1, ds1, p1, q1, rfl, rfl, rfl, t1, r1⟩ := trodAll_cons r0
  obtain ⟨rfl, rfl, rfl⟩ := trodAll_nil r1
  obtain rfl : args = #[v0, v1] := by cases args; simp_all
  obtain ⟨rfl, rfl⟩ := trodVars_none hV
  simp only [List.append_nil] at hW'
  obtain ⟨a0, rfl, rfl, rfl, w0⟩ := open_float Tryz.underlying29 (hval 0 29 v0 rfl rfl) t0
  obtain ⟨a1, rfl, rfl, rfl, w1⟩ := open_int Tryz.underlying3 (hval 1 3 v1 rfl rfl) t1
  clear hA0 hval0
  refine (walk W (lib hL) a0 (wf64 w0) a1 w1).mono fun e W' ⟨he, hb⟩ => ?_
  subst he
  exact ⟨_, rfl, _, _, _, [], _, [], hW', trodAll_cons_mk (shut_bool Tryz.underlying4 _) trodAll_mk0, (trodAll_cons_mk (shut_float Tryz.underlying29 w0) (trodAll_cons_mk (shut_int Tryz.underlying3 w1) trodAll_mk0)), rfl, hb.frame _, fun h => by cases h⟩

set_option maxRecDepth 100000 in
theorem over : Rows.stampNearRow.holds Tryz.pinned (OpenSpec.ofChange Rows.stampNearSpec) :=
  OpenClaim.holds_of_wide 6 Tryz.f6 rfl rfl rfl rfl rfl rfl rfl ⟨rfl, rfl, rfl, rfl, rfl⟩ rfl rfl rfl rfl rfl (by kernel_rfl) Tryz.func6 (by kernel_rfl)
    (of_decide_eq_true (by kernel_rfl)) (by unfold Func.isWrapper; first | (rw [if_pos (by decide +kernel)]; kernel_rfl) | (rw [if_neg (by decide +kernel)]; exact ⟨rfl, rfl⟩))
    (fun os started H enc _ => lifted os started H enc)

set_option maxRecDepth 100000 in
theorem proved : Rows.StampNearCardSaid :=
  Claim7.holds_tied_plain_at .later [] [.data, .data, .widerDeep, .widerDeep, .data, .data, .data, .data, .data, .data, .sentinel, .sentinel, .pinned, .pinned, .pinned] true Rows.stampNearCard.stood.harness Rows.stampNearCard.stood.looks over (fun _ h => by cases h) (by kernel_rfl) (fun _ h => by cases h) stampNear_row_tie rfl ⟨rfl, rfl⟩ (by kernel_rfl) rfl
    (fun f fn hf hfn => by
      obtain rfl : f = 6 := Option.some.inj ((show Tryz.prog.funcNamed "orrery/orrerylaw09.StampNear" = some 6 by kernel_rfl).symm.trans hf) |>.symm
      obtain rfl : fn = Tryz.f6 := (Option.some.inj (Tryz.func6.symm.trans hfn)).symm
      exact ⟨by kernel_rfl, fun j t ht => by
        rw [Tryz.params6] at ht
        have hm : t ∈ [29, 3] := by simpa using Array.mem_of_getElem? ht
        have hall : ([29, 3].all fun u => !Tryz.prog.wantsStandIn u) = true := by kernel_rfl
        exact (show Tryz.prog.wantsStandIn t = false by simpa using List.all_eq_true.1 hall t hm)⟩)
    (by kernel_rfl)
end Go.Proofs.YtjnepljffpbioaaGreatDoor.stampNear
