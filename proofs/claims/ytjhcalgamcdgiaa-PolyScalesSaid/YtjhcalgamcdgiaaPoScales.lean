/- Proved here: for every list of numbers, every number and every whole number the law PolyScales returns true: coefficients times a power of two have the value times it. No conditions. -/
import Derived.Test.YtjhcalgamcdgiaaRows
import Derived.Test.YtjhcalgamcdgiaaJq5
import Derived.Test.YtjhcalgamcdgiaaJb2
namespace Go.Proofs.Ytjhcalgamcdgiaa.polyScales
open Go.ChangeShapes Go.WideShapes Go.ChangeAt Go.RowKit Ieee.Own

set_option maxHeartbeats 8000000 in
theorem walk (w : World) (ao0 : Option Addr) (cap0 : Nat) (L0 : List Nat) (hc0 : L0.length ≤ cap0) (hw0 : Words L0) (ha0 : At w ao0 L0) (hr0 : cap0 * 8 ≤ 140737488351232) (hn0 : ao0 = none → cap0 = 0) (a1 : Nat) (h1 : a1 < 18446744073709551616) (a2 : Int) (_h2 : (Lit.int .i64 a2).wf = true) :
    Calls Try.prog 7 #[.slice ao0 L0.length cap0, .float .f64 a1, .int .i64 a2] w fun e w' => e = .returned (.bool true) ∧ Below w.heap.size w w' := by
  obtain ⟨n, hn⟩ : ∃ n, n = L0.length := ⟨_, rfl⟩
  rw [← hn] at hc0 ⊢
  have hrn : n * 8 ≤ 140737488351232 := by omega
  have hm : n ≤ 4611686018427387904 := by omega
  have AW := Lib.hid awake6
  have AX := Lib.hid (fun w => abs_any a1 h1 w)
  replace hn := Lib.hid hn
  by_cases hr : a2 < -20 ∨ 20 < a2
  · clear ha0 hr0 hc0 hn hm hw0 h1 AX
    rcases hr with hr | hr
    · go_enter Try.func7, Try.ntmps7
      go_wp2_with fail
      refine (AW.out w).mono ?_
      rintro _ v0 ⟨rfl, hb⟩
      replace hb := Lib.hid hb
      clear AW
      go_wp2_with fail
      go_ret
      exact ⟨by first | rfl | trivial, hb.out⟩
    · have hr' : ¬ a2 < -20 := by omega
      go_enter Try.func7, Try.ntmps7
      go_wp2_with fail
      refine (AW.out w).mono ?_
      rintro _ v0 ⟨rfl, hb⟩
      replace hb := Lib.hid hb
      clear AW
      go_wp2_with fail
      go_ret
      exact ⟨by first | rfl | trivial, hb.out⟩
  have r1 : -20 ≤ a2 := by omega
  have r2 : a2 ≤ 20 := by omega
  obtain ⟨mk, hk, hmk⟩ : ∃ m : Nat, m < 41 ∧ a2 = (m : Int) - 20 := ⟨(a2 + 20).toNat, by omega, by omega⟩
  clear hr
  by_cases hz : (FloatKind.f64.format.order a1 0 == some Ordering.eq) = true
  · have hNs : FinW a1 → Nsm 1064 (V a1) := fun f => nsm_zero f hz
    have LDX := Lib.hid (fun w => ldexp_k a2 (by omega) (by omega) w)
    rw [show (a2 + 1023).toNat * 4503599627370496 = pwW mk by unfold pwW; omega] at LDX
    replace hNs := Lib.hid hNs
    replace hwd := Lib.hid hw0
    replace hk := Lib.hid hk
    have MD := Lib.hid (fun x w => mul_drawn x (pwW mk) 23 w)
    obtain ⟨yw, hyw⟩ : ∃ y, y = pwW mk := ⟨_, rfl⟩
    rw [← hyw] at LDX MD
    replace hyw := Lib.hid hyw
    clear hw0 hr0 hc0 hmk
    go_enter Try.func7, Try.ntmps7
    go_wp2_with fail
    refine (AW.out w).mono ?_
    rintro _ v0 ⟨rfl, hb⟩
    have B := Lib.hid hb
    have A := Lib.hid ((Lin.start ha0).on hb)
    have N0 : Hid (Own v0.heap.size v0 [] (.slice none 0 0) v0) := ⟨Below.refl _ _, World.ownsRow_nil _ _ _ _, Nat.le_refl _⟩
    clear hb AW ha0
    go_wp2_with (first | (go_at_call 18; ((with_reducible refine (AX.out _).mono ?_); rintro e w' ⟨rfl, rfl⟩)) | (go_at_call 22; ((with_reducible refine (LDX.out _).mono ?_); rintro e w' ⟨rfl, rfl⟩)))
    clear AX LDX
    go_loopw [8, 9] (fun nv iv wr => ∃ (i : Nat) (M : List Nat), i ≤ n ∧ iv = .int .i64 i ∧ M.length = i ∧ Scl L0 yw M ∧ Own v0.heap.size v0 M nv wr) (fun _ iv _ => n - (intOf iv).toNat)
    case atStart => exact ⟨0, [], Nat.zero_le _, rfl, rfl, Scl.nil _ _, N0.out⟩
    case round =>
      obtain ⟨i, M, hi, rfl, hM, hS, N⟩ := hrel
      by_cases hlt : i < n
      · have hil : i < L0.length := by have := hn.out; omega
        obtain ⟨b, o, rfl, hc⟩ := (A.out.on N.old).at_ i hil
        obtain ⟨r, wd, hmul, hdr, hr, he⟩ := MD.out (L0.getD i 0) wr
        have hS2 := Lib.hid (hS.next hr (by rw [hM]; exact he))
        have Nd := N.drawn hdr
        have hNx := Lib.hid (fun v' w' ho hg => Nd.next (x := r) (v' := v') (w' := w') (o := .cells #[.float .f64 r] 23) ho hg)
        have ho1 := Nd.own.alloc (.cells #[.float .f64 r] 23)
        have hA1 := oneAt r wd
        have hby : (M.length + [r].length) * 8 ≤ 140737488355328 := by rw [hM]; simp; omega
        have hsz : v0.heap.size ≤ (wd.alloc (.cells #[.float .f64 r] 23)).heap.size := by have := Nd.size; simp; omega
        obtain ⟨ao', m', c', rfl⟩ := owns_slice N.own
        obtain ⟨u, hu⟩ : ∃ u, u = L0.getD i 0 := ⟨_, rfl⟩
        rw [← hu] at hc hmul
        replace hM := Lib.hid hM
        clear hu hil N Nd hS he hr hdr MD
        go_wp2_with (at_builtin; refine wpList_dup rfl _ _ _ rfl Try.underlying22 v0.heap.size _ M rfl ho1 (some ⟨wd.heap.size, 0, none⟩) 1 1 [r] rfl rfl (by intro h; cases h) hA1 hby hsz ?_)
        intro v' w' ho' hg'
        have N2 := Lib.hid (hNx.out v' w' (by simpa using ho') hg')
        clear ho' hg' hNx ho1 hA1 hby hsz hmul hc
        go_wp2_with fail
        go_roundw
        case rel => exact ⟨i + 1, M ++ [r], hlt, by go_num, by rw [List.length_append, hM.out]; rfl, hS2.out, N2.out⟩
        case measure => simp [intOf]; omega
      · obtain rfl : i = n := by omega
        obtain ⟨ao', c', rfl, k1, k2, k3, k4, k5⟩ := owns_at N.own
        have E : Hid (Lin wr.heap.size ao' M wr) := Lin.start k3
        replace A := Lib.hid (A.out.on N.old)
        replace B := Lib.hid (B.out.trans (N.old.mono B.out.size))
        rw [hM]
        have hlen : Hid (M.length = L0.length) := hM.trans hn.out
        have hM' : Hid (i = M.length) := hM.symm
        replace hS := Lib.hid hS
        clear k1 k2 k3 k4 k5 N hM MD N0
        go_wp2_with (at_builtin; refine wpList_copy rfl _ _ rfl rfl ao0 i cap0 L0 rfl hn.out hn0 A.out.at_ hrn ?_)
        intro p1 q1 w1 C1
        replace B := Lib.hid (B.out.trans (C1.old.mono B.out.size))
        replace E := Lib.hid (E.out.on C1.old)
        have Ac := Lib.hid C1.at_
        clear C1 A
        by_cases hh : errX m10 L0 a1 = 0
        · have K1 := Lib.hid (phorner_ok p1 q1 i L0 a1 w1 hn.out hm hwd.out Ac.out h1 hh)
          unfold fe at K1
          have t1 : ((0 : Int) != 0) = false := rfl
          by_cases hf : errX m10 M a1 = 0
          · have K2 := Lib.hid (phorner_ok ao' c' i M a1 w1 hM'.out hm hS.out.wd E.out.at_ h1 hf)
            unfold fe at K2
            obtain ⟨r, r1, r2⟩ := scale_eq hwd.out h1 hk.out (by rw [← hyw.out]; exact hS.out) hlen.out hh hf (hNs.out (inM_x10 h1 (errX_zero hh).2).1)
            rw [← hyw.out] at r1
            have r1 := run_mul _ _ _ r1
            generalize posW (polW a1 L0) = pa at *
            generalize posW (polW a1 M) = pb at *
            clear hh hf E Ac hS hNs hwd hlen hyw hk
            go_wp2_with fail
            refine K1.out.mono ?_
            rintro _ w2 ⟨rfl, rfl⟩
            go_wp2_with fail
            refine K2.out.mono ?_
            rintro _ w2 ⟨rfl, rfl⟩
            clear K1 K2
            go_wp2_with fail
            go_ret
            exact ⟨by first | rfl | trivial, B.out⟩
          · have K2 := Lib.hid (phorner_no ao' c' i M a1 w1 hM'.out hm hS.out.wd E.out.at_ h1 hf)
            unfold fe at K2
            have t2 : (errX m10 M a1 != 0) = true := by simpa using hf
            generalize errX m10 M a1 = ef at *
            generalize posW (polW a1 L0) = pa at *
            clear hh hf E Ac hS hNs hwd hlen hyw hk
            go_wp2_with fail
            refine K1.out.mono ?_
            rintro _ w2 ⟨rfl, rfl⟩
            go_wp2_with fail
            refine K2.out.mono ?_
            rintro _ w2 ⟨rfl, rfl⟩
            clear K1 K2
            go_wp2_with fail
            go_ret
            exact ⟨by first | rfl | trivial, B.out⟩
        · have K1 := Lib.hid (phorner_no p1 q1 i L0 a1 w1 hn.out hm hwd.out Ac.out h1 hh)
          unfold fe at K1
          have t1 : (errX m10 L0 a1 != 0) = true := by simpa using hh
          have K2 : Hid (∃ b k, Calls Try.prog 17 #[.slice ao' i c', .float .f64 a1] w1 fun e w' => e = .returned (.tuple #[.float .f64 b, .int .i64 k]) ∧ w1 = w') := by
            by_cases hf : errX m10 M a1 = 0
            · exact ⟨_, _, phorner_ok ao' c' i M a1 w1 hM'.out hm hS.out.wd E.out.at_ h1 hf⟩
            · exact ⟨_, _, phorner_no ao' c' i M a1 w1 hM'.out hm hS.out.wd E.out.at_ h1 hf⟩
          obtain ⟨bb, kk, K2⟩ := K2.out
          replace K2 := Lib.hid K2
          generalize errX m10 L0 a1 = eh at *
          clear hh E Ac hS hNs hwd hlen hyw hk
          go_wp2_with fail
          refine K1.out.mono ?_
          rintro _ w2 ⟨rfl, rfl⟩
          go_wp2_with fail
          refine K2.out.mono ?_
          rintro _ w2 ⟨rfl, rfl⟩
          clear K1 K2
          go_wp2_with fail
          go_ret
          exact ⟨by first | rfl | trivial, B.out⟩
  · rw [Bool.not_eq_true] at hz
    by_cases hg : (FloatKind.f64.format.order (a1 % 9223372036854775808) 4562146422526312448 == some Ordering.gt || FloatKind.f64.format.order (a1 % 9223372036854775808) 4562146422526312448 == some Ordering.eq) = true
    · have hNs : FinW a1 → Nsm 1064 (V a1) := fun f => nsm_big6 f hg
      generalize hax : a1 % 9223372036854775808 = ax at *
      clear hax
      have LDX := Lib.hid (fun w => ldexp_k a2 (by omega) (by omega) w)
      rw [show (a2 + 1023).toNat * 4503599627370496 = pwW mk by unfold pwW; omega] at LDX
      replace hNs := Lib.hid hNs
      replace hwd := Lib.hid hw0
      replace hk := Lib.hid hk
      have MD := Lib.hid (fun x w => mul_drawn x (pwW mk) 23 w)
      obtain ⟨yw, hyw⟩ : ∃ y, y = pwW mk := ⟨_, rfl⟩
      rw [← hyw] at LDX MD
      replace hyw := Lib.hid hyw
      clear hw0 hr0 hc0 hmk
      go_enter Try.func7, Try.ntmps7
      go_wp2_with fail
      refine (AW.out w).mono ?_
      rintro _ v0 ⟨rfl, hb⟩
      have B := Lib.hid hb
      have A := Lib.hid ((Lin.start ha0).on hb)
      have N0 : Hid (Own v0.heap.size v0 [] (.slice none 0 0) v0) := ⟨Below.refl _ _, World.ownsRow_nil _ _ _ _, Nat.le_refl _⟩
      clear hb AW ha0
      go_wp2_with (first | (go_at_call 18; ((with_reducible refine (AX.out _).mono ?_); rintro e w' ⟨rfl, rfl⟩)) | (go_at_call 22; ((with_reducible refine (LDX.out _).mono ?_); rintro e w' ⟨rfl, rfl⟩)))
      clear AX LDX
      go_loopw [8, 9] (fun nv iv wr => ∃ (i : Nat) (M : List Nat), i ≤ n ∧ iv = .int .i64 i ∧ M.length = i ∧ Scl L0 yw M ∧ Own v0.heap.size v0 M nv wr) (fun _ iv _ => n - (intOf iv).toNat)
      case atStart => exact ⟨0, [], Nat.zero_le _, rfl, rfl, Scl.nil _ _, N0.out⟩
      case round =>
        obtain ⟨i, M, hi, rfl, hM, hS, N⟩ := hrel
        by_cases hlt : i < n
        · have hil : i < L0.length := by have := hn.out; omega
          obtain ⟨b, o, rfl, hc⟩ := (A.out.on N.old).at_ i hil
          obtain ⟨r, wd, hmul, hdr, hr, he⟩ := MD.out (L0.getD i 0) wr
          have hS2 := Lib.hid (hS.next hr (by rw [hM]; exact he))
          have Nd := N.drawn hdr
          have hNx := Lib.hid (fun v' w' ho hg => Nd.next (x := r) (v' := v') (w' := w') (o := .cells #[.float .f64 r] 23) ho hg)
          have ho1 := Nd.own.alloc (.cells #[.float .f64 r] 23)
          have hA1 := oneAt r wd
          have hby : (M.length + [r].length) * 8 ≤ 140737488355328 := by rw [hM]; simp; omega
          have hsz : v0.heap.size ≤ (wd.alloc (.cells #[.float .f64 r] 23)).heap.size := by have := Nd.size; simp; omega
          obtain ⟨ao', m', c', rfl⟩ := owns_slice N.own
          obtain ⟨u, hu⟩ : ∃ u, u = L0.getD i 0 := ⟨_, rfl⟩
          rw [← hu] at hc hmul
          replace hM := Lib.hid hM
          clear hu hil N Nd hS he hr hdr MD
          go_wp2_with (at_builtin; refine wpList_dup rfl _ _ _ rfl Try.underlying22 v0.heap.size _ M rfl ho1 (some ⟨wd.heap.size, 0, none⟩) 1 1 [r] rfl rfl (by intro h; cases h) hA1 hby hsz ?_)
          intro v' w' ho' hg'
          have N2 := Lib.hid (hNx.out v' w' (by simpa using ho') hg')
          clear ho' hg' hNx ho1 hA1 hby hsz hmul hc
          go_wp2_with fail
          go_roundw
          case rel => exact ⟨i + 1, M ++ [r], hlt, by go_num, by rw [List.length_append, hM.out]; rfl, hS2.out, N2.out⟩
          case measure => simp [intOf]; omega
        · obtain rfl : i = n := by omega
          obtain ⟨ao', c', rfl, k1, k2, k3, k4, k5⟩ := owns_at N.own
          have E : Hid (Lin wr.heap.size ao' M wr) := Lin.start k3
          replace A := Lib.hid (A.out.on N.old)
          replace B := Lib.hid (B.out.trans (N.old.mono B.out.size))
          rw [hM]
          have hlen : Hid (M.length = L0.length) := hM.trans hn.out
          have hM' : Hid (i = M.length) := hM.symm
          replace hS := Lib.hid hS
          clear k1 k2 k3 k4 k5 N hM MD N0
          go_wp2_with (at_builtin; refine wpList_copy rfl _ _ rfl rfl ao0 i cap0 L0 rfl hn.out hn0 A.out.at_ hrn ?_)
          intro p1 q1 w1 C1
          replace B := Lib.hid (B.out.trans (C1.old.mono B.out.size))
          replace E := Lib.hid (E.out.on C1.old)
          have Ac := Lib.hid C1.at_
          clear C1 A
          by_cases hh : errX m10 L0 a1 = 0
          · have K1 := Lib.hid (phorner_ok p1 q1 i L0 a1 w1 hn.out hm hwd.out Ac.out h1 hh)
            unfold fe at K1
            have t1 : ((0 : Int) != 0) = false := rfl
            by_cases hf : errX m10 M a1 = 0
            · have K2 := Lib.hid (phorner_ok ao' c' i M a1 w1 hM'.out hm hS.out.wd E.out.at_ h1 hf)
              unfold fe at K2
              obtain ⟨r, r1, r2⟩ := scale_eq hwd.out h1 hk.out (by rw [← hyw.out]; exact hS.out) hlen.out hh hf (hNs.out (inM_x10 h1 (errX_zero hh).2).1)
              rw [← hyw.out] at r1
              have r1 := run_mul _ _ _ r1
              generalize posW (polW a1 L0) = pa at *
              generalize posW (polW a1 M) = pb at *
              clear hh hf E Ac hS hNs hwd hlen hyw hk
              go_wp2_with fail
              refine K1.out.mono ?_
              rintro _ w2 ⟨rfl, rfl⟩
              go_wp2_with fail
              refine K2.out.mono ?_
              rintro _ w2 ⟨rfl, rfl⟩
              clear K1 K2
              go_wp2_with fail
              go_ret
              exact ⟨by first | rfl | trivial, B.out⟩
            · have K2 := Lib.hid (phorner_no ao' c' i M a1 w1 hM'.out hm hS.out.wd E.out.at_ h1 hf)
              unfold fe at K2
              have t2 : (errX m10 M a1 != 0) = true := by simpa using hf
              generalize errX m10 M a1 = ef at *
              generalize posW (polW a1 L0) = pa at *
              clear hh hf E Ac hS hNs hwd hlen hyw hk
              go_wp2_with fail
              refine K1.out.mono ?_
              rintro _ w2 ⟨rfl, rfl⟩
              go_wp2_with fail
              refine K2.out.mono ?_
              rintro _ w2 ⟨rfl, rfl⟩
              clear K1 K2
              go_wp2_with fail
              go_ret
              exact ⟨by first | rfl | trivial, B.out⟩
          · have K1 := Lib.hid (phorner_no p1 q1 i L0 a1 w1 hn.out hm hwd.out Ac.out h1 hh)
            unfold fe at K1
            have t1 : (errX m10 L0 a1 != 0) = true := by simpa using hh
            have K2 : Hid (∃ b k, Calls Try.prog 17 #[.slice ao' i c', .float .f64 a1] w1 fun e w' => e = .returned (.tuple #[.float .f64 b, .int .i64 k]) ∧ w1 = w') := by
              by_cases hf : errX m10 M a1 = 0
              · exact ⟨_, _, phorner_ok ao' c' i M a1 w1 hM'.out hm hS.out.wd E.out.at_ h1 hf⟩
              · exact ⟨_, _, phorner_no ao' c' i M a1 w1 hM'.out hm hS.out.wd E.out.at_ h1 hf⟩
            obtain ⟨bb, kk, K2⟩ := K2.out
            replace K2 := Lib.hid K2
            generalize errX m10 L0 a1 = eh at *
            clear hh E Ac hS hNs hwd hlen hyw hk
            go_wp2_with fail
            refine K1.out.mono ?_
            rintro _ w2 ⟨rfl, rfl⟩
            go_wp2_with fail
            refine K2.out.mono ?_
            rintro _ w2 ⟨rfl, rfl⟩
            clear K1 K2
            go_wp2_with fail
            go_ret
            exact ⟨by first | rfl | trivial, B.out⟩
    · rw [Bool.not_eq_true] at hg
      generalize a1 % 9223372036854775808 = ax at *
      clear ha0 hr0 hc0 hn hm hw0 h1 hmk hk
      go_enter Try.func7, Try.ntmps7
      go_wp2_with fail
      refine (AW.out w).mono ?_
      rintro _ v0 ⟨rfl, hb⟩
      replace hb := Lib.hid hb
      clear AW
      go_wp2_with (go_at_call 18; ((with_reducible refine (AX.out _).mono ?_); rintro e w' ⟨rfl, rfl⟩))
      go_ret
      exact ⟨by first | rfl | trivial, hb.out⟩

theorem own : ownKnob Try.prog.godebug = none := by kernel_rfl
theorem laidOut : laidOutB Try.prog = true := by kernel_rfl
theorem cellsF : Try.prog.cellsOf 23 = 1 := by kernel_rfl
theorem bytesF : Try.prog.bytesOf 23 = 8 := by kernel_rfl
theorem wf64 {b : Nat} (h : (Lit.float .f64 b).wf = true) : b < 18446744073709551616 := by
  simp only [Lit.wf, decide_eq_true_eq] at h; exact h

set_option maxRecDepth 100000 in
theorem lifted (os : Os) (started : os.Started) (H : Type) (enc : TypeId × Value → H) :
    ReturnsInHanded {} Try.checked os 7 .any (Rows.polyScalesSpec.pre6 enc Try.prog Try.f7 Rows.polyScalesRow.domain false) (Rows.polyScalesSpec.post enc Try.prog Try.f7 false true false false) := by
  refine returnsInHanded_of_change_sized (C := Try.checked) own started (by kernel_rfl) Try.func7
    (ChangeSpec.witness6 (enc := enc) (C := Try.checked) false ⟨#[], #[.slice none 0 0, .float .f64 0, .int .i64 0], []⟩ 8 (by kernel_rfl) (by kernel_rfl) (by kernel_rfl) (by kernel_rfl)) ?_
  intro W base args ds gs before hval0 hW _ hsz0 _
  have hsz : (DataW.weightsEach Try.prog (Try.f7.params.toList ++ Rows.polyScalesSpec.plain.varTypes Try.prog) (ds ++ gs)).all (· ≤ reachBytes) = true := hsz0
  clear hsz0
  have hval : ∀ (j : Nat) t v, Try.f7.params[j]? = some t → args[j]? = some v → Value.okWide Try.prog W .any base t v := hval0
  have hW' := hW
  obtain ⟨p, q, hA0, hV, rfl, _, _⟩ := hW
  have hA : DataW.TrodAll enc Try.prog W 0 (fun _ => true) true Try.f7.params.toList args.toList ds p := hA0
  rw [Try.params7] at hA hval hsz
  obtain ⟨v0, vs0, d0, ds0, p0, q0, hargs, rfl, rfl, t0, r0⟩ := trodAll_cons hA
  obtain ⟨v1, vs1, d1, ds1, p1, q1, rfl, rfl, rfl, t1, r1⟩ := trodAll_cons r0
  obtain ⟨v2, vs2, d2, ds2, p2, q2, rfl, rfl, rfl, t2, r2⟩ := trodAll_cons r1
  obtain ⟨rfl, rfl, rfl⟩ := trodAll_nil r2
  obtain rfl : args = #[v0, v1, v2] := by cases args; simp_all
  obtain ⟨rfl, rfl⟩ := trodVars_none hV
  simp only [List.append_nil] at hW'
  have tk0 := t0
  obtain ⟨ao0, cap0, L0, rfl, hc0, hw0, ha0, hx0⟩ := open_flts Try.underlying22 Try.underlying23 cellsF (okWide_slice Try.underlying22 (hval 0 22 v0 rfl rfl)) t0
  have hr0 : cap0 * 8 ≤ 140737488351232 := by
    rcases hx0 with ⟨_, h0⟩ | ⟨_, es, sp, hd, h0⟩
    · rw [h0]; decide
    · subst hd
      have := sized_slice hsz (j := 0) (t := 22) (e := 23) rfl rfl Try.underlying22
      rw [bytesF, h0] at this
      simp only [reachBytes] at this
      omega
  have hn0 : ao0 = none → cap0 = 0 := by
    intro h
    rcases hx0 with ⟨_, h0⟩ | ⟨⟨a, h1⟩, _⟩
    · exact h0
    · rw [h] at h1; simp at h1
  have hlt0 : ∀ x ∈ p0, x.block < W.heap.size := fun x hx => by have := hW'.lt x (by simp [hx]); simpa using this
  obtain ⟨a1, rfl, rfl, rfl, w1⟩ := open_float Try.underlying23 (hval 1 23 v1 rfl rfl) t1
  obtain ⟨a2, rfl, rfl, rfl, w2⟩ := open_int Try.underlying3 (hval 2 3 v2 rfl rfl) t2
  clear hA0 hval0
  refine (walk W ao0 cap0 L0 hc0 hw0 ha0 hr0 hn0 a1 (wf64 w1) a2 w2).mono fun e W' ⟨he, hb⟩ => ?_
  subst he
  refine ⟨_, rfl, _, _, _, [], _, [], hW', trodAll_cons_mk (shut_bool Try.underlying4 _) trodAll_mk0, (trodAll_cons_mk (Below.trod laidOut (by kernel_rfl) (of_decide_eq_true (by kernel_rfl)) tk0 hb hlt0) (trodAll_cons_mk (shut_float Try.underlying23 w1) (trodAll_cons_mk (shut_int Try.underlying3 w2) trodAll_mk0))), rfl, hb.frame _, fun h => by cases h⟩

theorem over : Rows.polyScalesRow.holds Try.pinned (OpenSpec.ofChange Rows.polyScalesSpec) :=
  OpenClaim.holds_of_wide 7 Try.f7 rfl rfl rfl rfl rfl rfl rfl ⟨rfl, rfl, rfl, rfl, rfl⟩ rfl rfl rfl rfl rfl (by kernel_rfl) Try.func7 (by kernel_rfl)
    (of_decide_eq_true (by kernel_rfl)) (by unfold Func.isWrapper; first | (rw [if_pos (by decide +kernel)]; kernel_rfl) | (rw [if_neg (by decide +kernel)]; exact ⟨rfl, rfl⟩))
    (fun os started H enc _ => lifted os started H enc)

theorem proved : Rows.PolyScalesSaid :=
  over
end Go.Proofs.Ytjhcalgamcdgiaa.polyScales
