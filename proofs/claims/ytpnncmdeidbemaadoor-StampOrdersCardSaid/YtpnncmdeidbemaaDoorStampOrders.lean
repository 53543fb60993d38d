/- Proved here: StampOrders. -/
import Derived.Test.YtpnncmdeidbemaaDoorJs5
import Derived.Test.YtpnncmdeidbemaaDoorJs18
import Derived.Test.YtpnncmdeidbemaaDoorJs17
import Derived.Test.YtpnncmdeidbemaaDoorJs1
import Derived.ProofKit
import Derived.OpenShut
import Derived.LaidMore
import Derived.Lay
import Derived.SevenTiedAt
import Derived.Stop.Joined
import Derived.ChangeMaps5
import Derived.LaidOnce
namespace Go.Proofs.YtpnncmdeidbemaaDoor.stampOrders
open Go.ChangeShapes Go.WideShapes Go.ChangeAt Go.RowKit Ieee.Own

theorem toV_form (t : Int) : ∃ (D : Int × Int × Int × Int × Int × Int × Int) (e : Int), toV t = .tuple #[dAgg D.1 D.2.1 D.2.2.1 D.2.2.2.1 D.2.2.2.2.1 D.2.2.2.2.2.1 D.2.2.2.2.2.2, .int .i64 e] := by
  by_cases h : isI t = true
  · exact ⟨(dYr t, dMo t, dDy t, dHr t, dMi t, dSe t, dTk t), _, toV_t h⟩
  · exact ⟨(0, 0, 0, 0, 0, 0, 0), _, toV_f (by rwa [Bool.not_eq_true] at h)⟩
set_option maxHeartbeats 2000000 in
set_option maxRecDepth 100000 in
theorem walk (w : World) (L : Lib9 w) (a0 : Int) (_h0 : (Lit.int .i64 a0).wf = true) (a1 : Int) (_h1 : (Lit.int .i64 a1).wf = true) :
    Calls Tryd.prog 3 #[.int .i64 a0, .int .i64 a1] w fun e w' => e = .returned (.bool true) ∧ Below w.heap.size w w' := by
  have A := Lib.hid (awake_run w L)
  have T1 := Lib.hid (fun u => rto_run a0 u)
  have T2 := Lib.hid (fun u => rto_run a1 u)
  have P1 := Lib.hid (fun u => print_run a0 u)
  have P2 := Lib.hid (fun u => print_run a1 u)
  have K := @less_stamp a0 a1
  by_cases h : isI a0 = true
  · rw [toV_t h] at T1
    rw [prV_t h] at P1
    unfold dateV dAgg at T1
    by_cases k : isI a1 = true
    · rw [toV_t k] at T2
      rw [prV_t k] at P2
      unfold dateV dAgg at T2
      replace K := K h k
      generalize strOfNums (stampL a0) = S at *
      generalize strOfNums (stampL a1) = V at *
      clear h k _h0 _h1 L
      by_cases y : dYr a0 < 0
      · replace y := decide_eq_true y
        clear K P1 P2
        go_enter Tryd.func3, Tryd.ntmps3
        go_wp2_with fail
        refine A.out.mono ?_
        rintro _ w1 ⟨rfl, B⟩
        replace B := Lib.hid B
        clear A
        go_wp2_with fail
        refine (T1.out _).mono ?_
        rintro _ w2 ⟨rfl, B2⟩
        replace B := Lib.hid (B.out.trans (B2.mono B.out.size))
        clear B2
        go_wp2_with fail
        refine (T2.out _).mono ?_
        rintro _ w3 ⟨rfl, B3⟩
        have c3 : w3.cell? ⟨w2.heap.size, 0, none⟩ = some (.int .i64 (dYr a0)) := (B3.cell (p := ⟨w2.heap.size, 0, none⟩) (by simp)).trans (by rw [World.cell?_alloc_at _ _ _ _ rfl]; rfl)
        have l3 : w2.heap.size < w3.heap.size := Nat.lt_of_lt_of_le (by simp) B3.size
        replace B := Lib.hid ((B.out.alloc B.out.size _).trans (B3.mono (B.out.alloc B.out.size _).size))
        clear B3
        go_wp2_with fail
        go_ret
        exact ⟨rfl, B.out.alloc B.out.size _⟩
      · by_cases z : dYr a1 < 0
        · replace z := decide_eq_true z
          replace y := decide_eq_false y
          clear K P1 P2
          go_enter Tryd.func3, Tryd.ntmps3
          go_wp2_with fail
          refine A.out.mono ?_
          rintro _ w1 ⟨rfl, B⟩
          replace B := Lib.hid B
          clear A
          go_wp2_with fail
          refine (T1.out _).mono ?_
          rintro _ w2 ⟨rfl, B2⟩
          replace B := Lib.hid (B.out.trans (B2.mono B.out.size))
          clear B2
          go_wp2_with fail
          refine (T2.out _).mono ?_
          rintro _ w3 ⟨rfl, B3⟩
          have c3 : w3.cell? ⟨w2.heap.size, 0, none⟩ = some (.int .i64 (dYr a0)) := (B3.cell (p := ⟨w2.heap.size, 0, none⟩) (by simp)).trans (by rw [World.cell?_alloc_at _ _ _ _ rfl]; rfl)
          have l3 : w2.heap.size < w3.heap.size := Nat.lt_of_lt_of_le (by simp) B3.size
          replace B := Lib.hid ((B.out.alloc B.out.size _).trans (B3.mono (B.out.alloc B.out.size _).size))
          clear B3
          go_wp2_with fail
          go_ret
          exact ⟨rfl, B.out.alloc B.out.size _⟩
        · have e := K (by omega) (by omega)
          replace y := decide_eq_false y
          replace z := decide_eq_false z
          clear K
          go_enter Tryd.func3, Tryd.ntmps3
          go_wp2_with fail
          refine A.out.mono ?_
          rintro _ w1 ⟨rfl, B⟩
          replace B := Lib.hid B
          clear A
          go_wp2_with fail
          refine (T1.out _).mono ?_
          rintro _ w2 ⟨rfl, B2⟩
          replace B := Lib.hid (B.out.trans (B2.mono B.out.size))
          clear B2
          go_wp2_with fail
          refine (T2.out _).mono ?_
          rintro _ w3 ⟨rfl, B3⟩
          have c3 : w3.cell? ⟨w2.heap.size, 0, none⟩ = some (.int .i64 (dYr a0)) := (B3.cell (p := ⟨w2.heap.size, 0, none⟩) (by simp)).trans (by rw [World.cell?_alloc_at _ _ _ _ rfl]; rfl)
          have l3 : w2.heap.size < w3.heap.size := Nat.lt_of_lt_of_le (by simp) B3.size
          replace B := Lib.hid ((B.out.alloc B.out.size _).trans (B3.mono (B.out.alloc B.out.size _).size))
          clear B3
          go_wp2_with fail
          refine (P1.out _).mono ?_
          rintro _ w4 ⟨rfl, B4⟩
          replace B := Lib.hid ((B.out.alloc B.out.size _).trans (B4.mono (B.out.alloc B.out.size _).size))
          clear B4 c3 l3
          go_wp2_with fail
          refine (P2.out _).mono ?_
          rintro _ w5 ⟨rfl, B5⟩
          replace B := Lib.hid (B.out.trans (B5.mono B.out.size))
          clear B5
          go_wp2_with fail
          go_ret
          exact ⟨rfl, B.out⟩
    · rw [Bool.not_eq_true] at k
      rw [toV_f k] at T2
      unfold noDate dAgg at T2
      clear K P1 P2 h k _h0 _h1 L
      go_enter Tryd.func3, Tryd.ntmps3
      go_wp2_with fail
      refine A.out.mono ?_
      rintro _ w1 ⟨rfl, B⟩
      replace B := Lib.hid B
      clear A
      go_wp2_with fail
      refine (T1.out _).mono ?_
      rintro _ w2 ⟨rfl, B2⟩
      replace B := Lib.hid (B.out.trans (B2.mono B.out.size))
      clear B2
      go_wp2_with fail
      refine (T2.out _).mono ?_
      rintro _ w3 ⟨rfl, B3⟩
      have c3 : w3.cell? ⟨w2.heap.size, 0, none⟩ = some (.int .i64 (dYr a0)) := (B3.cell (p := ⟨w2.heap.size, 0, none⟩) (by simp)).trans (by rw [World.cell?_alloc_at _ _ _ _ rfl]; rfl)
      have l3 : w2.heap.size < w3.heap.size := Nat.lt_of_lt_of_le (by simp) B3.size
      replace B := Lib.hid ((B.out.alloc B.out.size _).trans (B3.mono (B.out.alloc B.out.size _).size))
      clear B3
      go_wp2_with fail
      go_ret
      exact ⟨rfl, B.out.alloc B.out.size _⟩
  · rw [Bool.not_eq_true] at h
    rw [toV_f h] at T1
    unfold noDate dAgg at T1
    clear K P1 P2 h _h0 _h1 L
    obtain ⟨D, e, hd⟩ := toV_form a1
    rw [hd] at T2
    unfold dAgg at T2
    clear hd
    go_enter Tryd.func3, Tryd.ntmps3
    go_wp2_with fail
    refine A.out.mono ?_
    rintro _ w1 ⟨rfl, B⟩
    replace B := Lib.hid B
    clear A
    go_wp2_with fail
    refine (T1.out _).mono ?_
    rintro _ w2 ⟨rfl, B2⟩
    replace B := Lib.hid (B.out.trans (B2.mono B.out.size))
    clear B2
    go_wp2_with fail
    refine (T2.out _).mono ?_
    rintro _ w3 ⟨rfl, B3⟩
    have c3 : w3.cell? ⟨w2.heap.size, 0, none⟩ = some (.int .i64 (0)) := (B3.cell (p := ⟨w2.heap.size, 0, none⟩) (by simp)).trans (by rw [World.cell?_alloc_at _ _ _ _ rfl]; rfl)
    have l3 : w2.heap.size < w3.heap.size := Nat.lt_of_lt_of_le (by simp) B3.size
    replace B := Lib.hid ((B.out.alloc B.out.size _).trans (B3.mono (B.out.alloc B.out.size _).size))
    clear B3
    go_wp2_with fail
    go_ret
    exact ⟨rfl, B.out.alloc B.out.size _⟩

set_option maxRecDepth 100000 in
theorem own : ownKnob Tryd.prog.godebug = none := by kernel_rfl
set_option maxRecDepth 100000 in
theorem lib {w : World} (h : laidMetH Tryd.prog Rows.stampOrdersRow.laid w) : Lib9 w := by
  rw [MakeChecks.laidMetH_plain _ _ _ (by kernel_rfl)] at h
  have m : ∀ (i : Nat) (x : String × DataW Unit), Rows.stampOrdersRow.laid[i]? = some x → Lib.VarReads Tryd.prog w x.1 x.2 := fun i x hx => Lib.laidMet.reads h (List.mem_of_getElem? hx)
  have h0 := m 2 ("internal/strconv.optimize", Rows.laid_internal_strconv_optimize) rfl
  have h1 := m 3 ("internal/strconv.uint64pow10", Rows.laid_internal_strconv_uint64pow10) rfl
  have h2 := m 6 ("internal/strconv.pow10Tab", Rows.laid_internal_strconv_pow10Tab) rfl
  have h3 := m 1 ("math/bits.deBruijn64tab", Rows.laid_math_bits_deBruijn64tab) rfl
  exact lib9_of h0 h1 h2 h3
set_option maxRecDepth 100000 in
theorem lifted (os : Os) (started : os.Started) (H : Type) (enc : TypeId × Value → H) :
    ReturnsInHanded {} Tryd.checked os 3 .any (fun w args => (Rows.stampOrdersSpec.pre enc Tryd.prog Tryd.f3 Rows.stampOrdersRow.domain false w args ∧ laidMetH Tryd.prog Rows.stampOrdersRow.laid w) ∧ sizedMet enc Tryd.prog Tryd.f3 (OpenSpec.ofChange Rows.stampOrdersSpec) false w args)
      (Rows.stampOrdersSpec.post enc Tryd.prog Tryd.f3 false true false false) := by
  refine returnsInHanded_of_change_and (C := Tryd.checked) (X := fun w _ => laidMetH Tryd.prog Rows.stampOrdersRow.laid w) (fun _ _ _ hh h => h.of_heap hh) own started (by kernel_rfl) Tryd.func3
    (ChangeSpec.witness_shaped (enc := enc) (C := Tryd.checked) (os := os) (X := fun w _ => laidMetH Tryd.prog Rows.stampOrdersRow.laid w) false (World.laidAll Tryd.prog os Rows.stampOrdersRow.laid) #[.int .i64 0, .int .i64 0] 8 (World.laidAll_os _ _ _)
      (World.shaped_of_ZipB (by kernel_rfl) (by kernel_rfl)) (by kernel_rfl) (by kernel_rfl) (by kernel_rfl)
      (by rw [MakeChecks.laidMetH_plain _ _ _ (by kernel_rfl)]; exact laidMet_laidAll _ (by kernel_rfl) (by kernel_rfl))) ?_
  intro W base args ds gs before hval0 hW _ _ hL _
  have hval : ∀ (j : Nat) t v, Tryd.f3.params[j]? = some t → args[j]? = some v → Value.okWide Tryd.prog W .any base t v := hval0
  have hW' := hW
  obtain ⟨p, q, hA0, hV, rfl, _, _⟩ := hW
  have hA : DataW.TrodAll enc Tryd.prog W 0 (fun _ => true) true Tryd.f3.params.toList args.toList ds p := hA0
  rw [Tryd.params3] at hA hval
  obtain ⟨v0, vs0, d0, ds0, p0, q0, hargs, rfl, rfl, t0, r0⟩ := trodAll_cons hA
  obtain ⟨v1, vs1, d1, ds1, p1, q1, rfl, rfl, rfl, t1, r1⟩ := trodAll_cons r0
  obtain ⟨rfl, rfl, rfl⟩ := trodAll_nil r1
  obtain rfl : args = #[v0, v1] := by cases args; simp_all
  obtain ⟨rfl, rfl⟩ := trodVars_none hV
  simp only [List.append_nil] at hW'
  obtain ⟨a0, rfl, rfl, rfl, w0⟩ := open_int Tryd.underlying2 (hval 0 2 v0 rfl rfl) t0
  obtain ⟨a1, rfl, rfl, rfl, w1⟩ := open_int Tryd.underlying2 (hval 1 2 v1 rfl rfl) t1
  clear hA0 hval0
  refine (walk W (lib hL) a0 w0 a1 w1).mono fun e W' ⟨he, hb⟩ => ?_
  subst he
  exact ⟨_, rfl, _, _, _, [], _, [], hW', trodAll_cons_mk (shut_bool Tryd.underlying4 _) trodAll_mk0, (trodAll_cons_mk (shut_int Tryd.underlying2 w0) (trodAll_cons_mk (shut_int Tryd.underlying2 w1) trodAll_mk0)), rfl, hb.frame _, fun h => by cases h⟩

set_option maxRecDepth 100000 in
theorem over : Rows.stampOrdersRow.holds Tryd.pinned (OpenSpec.ofChange Rows.stampOrdersSpec) :=
  OpenClaim.holds_of_wide 3 Tryd.f3 rfl rfl rfl rfl rfl rfl rfl ⟨rfl, rfl, rfl, rfl, rfl⟩ rfl rfl rfl rfl rfl (by kernel_rfl) Tryd.func3 (by kernel_rfl)
    (of_decide_eq_true (by kernel_rfl)) (by unfold Func.isWrapper; first | (rw [if_pos (by decide +kernel)]; kernel_rfl) | (rw [if_neg (by decide +kernel)]; exact ⟨rfl, rfl⟩))
    (fun os started H enc _ => lifted os started H enc)

set_option maxRecDepth 100000 in
theorem proved : Rows.StampOrdersCardSaid :=
  Claim7.holds_tied_plain_at .later [] [.data, .data, .data, .data, .data, .pinned, .pinned, .pinned] true Rows.stampOrdersCard.stood.harness Rows.stampOrdersCard.stood.looks over (fun _ h => by cases h) (by kernel_rfl) (fun _ h => by cases h) stampOrders_row_tie rfl ⟨rfl, rfl⟩ (by kernel_rfl) rfl
    (fun f fn hf hfn => by
      obtain rfl : f = 3 := Option.some.inj ((show Tryd.prog.funcNamed "orrery/orrerylaw09.StampOrders" = some 3 by kernel_rfl).symm.trans hf) |>.symm
      obtain rfl : fn = Tryd.f3 := (Option.some.inj (Tryd.func3.symm.trans hfn)).symm
      exact ⟨by kernel_rfl, fun j t ht => by
        rw [Tryd.params3] at ht
        have hm : t ∈ [2, 2] := by simpa using Array.mem_of_getElem? ht
        have hall : ([2, 2].all fun u => !Tryd.prog.wantsStandIn u) = true := by kernel_rfl
        exact (show Tryd.prog.wantsStandIn t = false by simpa using List.all_eq_true.1 hall t hm)⟩)
    (by kernel_rfl)
end Go.Proofs.YtpnncmdeidbemaaDoor.stampOrders
