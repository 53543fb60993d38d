/- Proved here: StampTells. -/
import Derived.Test.YtpnncmdeidbemaaGreatDoorJs5
import Derived.Test.YtpnncmdeidbemaaGreatDoorJs18
import Derived.Test.YtpnncmdeidbemaaGreatDoorJs17
import Derived.ProofKit
import Derived.OpenShut
import Derived.LaidMore
import Derived.Lay
import Derived.SevenTiedAt
import Derived.Stop.Joined
import Derived.ChangeMaps5
import Derived.LaidOnce
namespace Go.Proofs.YtpnncmdeidbemaaGreatDoor.stampTells
open Go.ChangeShapes Go.WideShapes Go.ChangeAt Go.RowKit Ieee.Own

set_option maxHeartbeats 2000000 in
set_option maxRecDepth 100000 in
theorem walk (w : World) (L : Lib9 w) (a0 : Int) (_h0 : (Lit.int .i64 a0).wf = true) (a1 : ByteArray) (_h1 : a1.size ≤ maxLen) :
    Calls Tryz.prog 3 #[.int .i64 a0, .string a1] w fun e w' => e = .returned (.bool true) ∧ Below w.heap.size w w' := by
  have A := Lib.hid (awake_run w L)
  have P1 := Lib.hid (fun u => print_run a0 u)
  have P2 := Lib.hid (fun u => rprint_run a0 u)
  have P3 := Lib.hid (fun u => parse_run a1 u)
  have P4 := Lib.hid (fun u => rparse_run a1 u)
  obtain ⟨S, e1, h1⟩ := prV_form a0
  obtain ⟨x, e2, h2⟩ := parV_form (byI a1)
  rw [h1] at P1 P2
  rw [h2] at P3 P4
  clear h1 h2 _h0 _h1 L
  go_enter Tryz.func3, Tryz.ntmps3
  go_wp2_with fail
  refine A.out.mono ?_
  rintro _ w1 ⟨rfl, B⟩
  replace B := Lib.hid B
  clear A
  go_wp2_with fail
  refine (P1.out _).mono ?_
  rintro _ w2 ⟨rfl, B2⟩
  replace B := Lib.hid (B.out.trans (B2.mono B.out.size))
  clear B2
  go_wp2_with fail
  refine (P2.out _).mono ?_
  rintro _ w3 ⟨rfl, B3⟩
  replace B := Lib.hid (B.out.trans (B3.mono B.out.size))
  clear B3
  go_wp2_with fail
  refine (P3.out _).mono ?_
  rintro _ w4 ⟨rfl, B4⟩
  replace B := Lib.hid (B.out.trans (B4.mono B.out.size))
  clear B4
  go_wp2_with fail
  refine (P4.out _).mono ?_
  rintro _ w5 ⟨rfl, B5⟩
  replace B := Lib.hid (B.out.trans (B5.mono B.out.size))
  clear B5
  go_wp2_with fail
  go_ret
  exact ⟨rfl, B.out⟩

set_option maxRecDepth 100000 in
theorem own : ownKnob Tryz.prog.godebug = none := by kernel_rfl
set_option maxRecDepth 100000 in
theorem lib {w : World} (h : laidMetH Tryz.prog Rows.stampTellsRow.laid w) : Lib9 w := by
  rw [MakeChecks.laidMetH_plain _ _ _ (by kernel_rfl)] at h
  have m : ∀ (i : Nat) (x : String × DataW Unit), Rows.stampTellsRow.laid[i]? = some x → Lib.VarReads Tryz.prog w x.1 x.2 := fun i x hx => Lib.laidMet.reads h (List.mem_of_getElem? hx)
  have h0 := m 2 ("internal/strconv.optimize", Rows.laid_internal_strconv_optimize) rfl
  have h1 := m 3 ("internal/strconv.uint64pow10", Rows.laid_internal_strconv_uint64pow10) rfl
  have h2 := m 6 ("internal/strconv.pow10Tab", Rows.laid_internal_strconv_pow10Tab) rfl
  have h3 := m 1 ("math/bits.deBruijn64tab", Rows.laid_math_bits_deBruijn64tab) rfl
  exact lib9_of h0 h1 h2 h3
set_option maxRecDepth 100000 in
theorem lifted (os : Os) (started : os.Started) (H : Type) (enc : TypeId × Value → H) :
    ReturnsInHanded {} Tryz.checked os 3 .any (fun w args => (Rows.stampTellsSpec.pre enc Tryz.prog Tryz.f3 Rows.stampTellsRow.domain false w args ∧ laidMetH Tryz.prog Rows.stampTellsRow.laid w) ∧ sizedMet enc Tryz.prog Tryz.f3 (OpenSpec.ofChange Rows.stampTellsSpec) false w args)
      (Rows.stampTellsSpec.post enc Tryz.prog Tryz.f3 false true false false) := by
  refine returnsInHanded_of_change_and (C := Tryz.checked) (X := fun w _ => laidMetH Tryz.prog Rows.stampTellsRow.laid w) (fun _ _ _ hh h => h.of_heap hh) own started (by kernel_rfl) Tryz.func3
    (ChangeSpec.witness_shaped (enc := enc) (C := Tryz.checked) (os := os) (X := fun w _ => laidMetH Tryz.prog Rows.stampTellsRow.laid w) false (World.laidAll Tryz.prog os Rows.stampTellsRow.laid) #[.int .i64 0, .string ⟨#[]⟩] 8 (World.laidAll_os _ _ _)
      (World.shaped_of_ZipB (by kernel_rfl) (by kernel_rfl)) (by kernel_rfl) (by kernel_rfl) (by kernel_rfl)
      (by rw [MakeChecks.laidMetH_plain _ _ _ (by kernel_rfl)]; exact laidMet_laidAll _ (by kernel_rfl) (by kernel_rfl))) ?_
  intro W base args ds gs before hval0 hW _ _ hL _
  have hval : ∀ (j : Nat) t v, Tryz.f3.params[j]? = some t → args[j]? = some v → Value.okWide Tryz.prog W .any base t v := hval0
  have hW' := hW
  obtain ⟨p, q, hA0, hV, rfl, _, _⟩ := hW
  have hA : DataW.TrodAll enc Tryz.prog W 0 (fun _ => true) true Tryz.f3.params.toList args.toList ds p := hA0
  rw [Tryz.params3] at hA hval
  obtain ⟨v0, vs0, d0, ds0, p0, q0, hargs, rfl, rfl, t0, r0⟩ := trodAll_cons hA
  obtain ⟨v1, vs1, d1, ds1, p1, q1, rfl, rfl, rfl, t1, r1⟩ := trodAll_cons r0
  obtain ⟨rfl, rfl, rfl⟩ := trodAll_nil r1
  obtain rfl : args = #[v0, v1] := by cases args; simp_all
  obtain ⟨rfl, rfl⟩ := trodVars_none hV
  simp only [List.append_nil] at hW'
  obtain ⟨a0, rfl, rfl, rfl, w0⟩ := open_int Tryz.underlying2 (hval 0 2 v0 rfl rfl) t0
  obtain ⟨a1, rfl, rfl, rfl, w1⟩ := Go.ChangeMaps.open_string Tryz.underlying9 (hval 1 9 v1 rfl rfl) t1
  clear hA0 hval0
  refine (walk W (lib hL) a0 w0 a1 w1).mono fun e W' ⟨he, hb⟩ => ?_
  subst he
  exact ⟨_, rfl, _, _, _, [], _, [], hW', trodAll_cons_mk (shut_bool Tryz.underlying4 _) trodAll_mk0, (trodAll_cons_mk (shut_int Tryz.underlying2 w0) (trodAll_cons_mk (Go.ChangeMaps.shut_string Tryz.underlying9 w1) trodAll_mk0)), rfl, hb.frame _, fun h => by cases h⟩

set_option maxRecDepth 100000 in
theorem over : Rows.stampTellsRow.holds Tryz.pinned (OpenSpec.ofChange Rows.stampTellsSpec) :=
  OpenClaim.holds_of_wide 3 Tryz.f3 rfl rfl rfl rfl rfl rfl rfl ⟨rfl, rfl, rfl, rfl, rfl⟩ rfl rfl rfl rfl rfl (by kernel_rfl) Tryz.func3 (by kernel_rfl)
    (of_decide_eq_true (by kernel_rfl)) (by unfold Func.isWrapper; first | (rw [if_pos (by decide +kernel)]; kernel_rfl) | (rw [if_neg (by decide +kernel)]; exact ⟨rfl, rfl⟩))
    (fun os started H enc _ => lifted os started H enc)

set_option maxRecDepth 100000 in
theorem proved : Rows.StampTellsCardSaid :=
  Claim7.holds_tied_plain_at .later [] [.data, .data, .data, .data, .data, .pinned, .pinned, .pinned] true Rows.stampTellsCard.stood.harness Rows.stampTellsCard.stood.looks over (fun _ h => by cases h) (by kernel_rfl) (fun _ h => by cases h) stampTells_row_tie rfl ⟨rfl, rfl⟩ (by kernel_rfl) rfl
    (fun f fn hf hfn => by
      obtain rfl : f = 3 := Option.some.inj ((show Tryz.prog.funcNamed "orrery/orrerylaw09.StampTells" = some 3 by kernel_rfl).symm.trans hf) |>.symm
      obtain rfl : fn = Tryz.f3 := (Option.some.inj (Tryz.func3.symm.trans hfn)).symm
      exact ⟨by kernel_rfl, fun j t ht => by
        rw [Tryz.params3] at ht
        have hm : t ∈ [2, 9] := by simpa using Array.mem_of_getElem? ht
        have hall : ([2, 9].all fun u => !Tryz.prog.wantsStandIn u) = true := by kernel_rfl
        exact (show Tryz.prog.wantsStandIn t = false by simpa using List.all_eq_true.1 hall t hm)⟩)
    (by kernel_rfl)
end Go.Proofs.YtpnncmdeidbemaaGreatDoor.stampTells
