/- Proved here: what the texts Szq, Szr, Sla, Slo prove, one behind the other. -/
import Derived.Test.YtpnncmdeidbemaaGreatDoorJs14
import Derived.Test.YtpnncmdeidbemaaGreatDoorJs1
import Derived.Test.YtpnncmdeidbemaaGreatDoorJs7
import Derived.BigQuiet
import Derived.Deep.QuietTactic
import Derived.Test.YtpnncmdeidbemaaGreatDoorJs9
import Derived.Test.YtpnncmdeidbemaaGreatDoorJs12
import Derived.Test.YtpnncmdeidbemaaGreatDoorJs10
import Derived.Test.YtpnncmdeidbemaaGreatDoorJs15

namespace Go.Proofs.YtpnncmdeidbemaaGreatDoor
open Go.ChangeShapes Go.WideShapes Go.ChangeAt Go.RowKit

def isDgB (c : Int) : Bool := decide (48 ≤ c ∧ c ≤ 57)
set_option maxRecDepth 100000 in
theorem isdg_run (c : Int) (w : World) : Calls Tryz.prog 65 #[.int .u8 c] w fun e w' => e = .returned (.bool (isDgB c)) ∧ w = w' := by
  unfold isDgB
  by_cases h1 : 48 ≤ c
  · by_cases h2 : c ≤ 57
    · have d : Hid (decide (48 ≤ c ∧ c ≤ 57) = true) := decide_eq_true ⟨h1, h2⟩
      rw [d.out]
      have t1 : decide (48 ≤ c) = true := decide_eq_true h1
      have t2 : decide (c ≤ 57) = true := decide_eq_true h2
      clear h1 h2
      go_enter Tryz.func65, Tryz.ntmps65
      go_wp2_with fail
      go_ret
      exact ⟨rfl, rfl⟩
    · have d : Hid (decide (48 ≤ c ∧ c ≤ 57) = false) := decide_eq_false (fun h => h2 h.2)
      rw [d.out]
      have t1 : decide (48 ≤ c) = true := decide_eq_true h1
      have t2 : decide (c ≤ 57) = false := decide_eq_false h2
      clear h1 h2
      go_enter Tryz.func65, Tryz.ntmps65
      go_wp2_with fail
      go_ret
      exact ⟨rfl, rfl⟩
  · have d : Hid (decide (48 ≤ c ∧ c ≤ 57) = false) := decide_eq_false (fun h => h1 h.1)
    rw [d.out]
    have t1 : decide (48 ≤ c) = false := decide_eq_false h1
    clear h1
    go_enter Tryz.func65, Tryz.ntmps65
    go_wp2_with fail
    go_ret
    exact ⟨rfl, rfl⟩
/-- may c stand where the form has f? -/
def stdB (c f : Int) : Bool := if f = 48 then isDgB c else if f = 43 then (decide (c = 43) || decide (c = 45)) else decide (c = f)
set_option maxRecDepth 100000 in
theorem stands_run (c f : Int) (w : World) : Calls Tryz.prog 48 #[.int .u8 c, .int .u8 f] w fun e w' => e = .returned (.bool (stdB c f)) ∧ w = w' := by
  have C := Lib.hid (fun w => isdg_run c w)
  obtain ⟨b, hb⟩ : ∃ b, b = isDgB c := ⟨_, rfl⟩
  rw [← hb] at C
  by_cases h1 : f = 48
  · subst h1
    have d : stdB c 48 = b := hb.symm
    rw [d]
    clear d hb
    go_enter Tryz.func48, Tryz.ntmps48
    go_wp2_with fail
    refine (C.out w).mono ?_
    rintro _ v ⟨rfl, rfl⟩
    clear C
    go_wp2_with fail
    go_ret
    exact ⟨rfl, rfl⟩
  · by_cases h2 : f = 43
    · subst h2
      have d : stdB c 43 = (decide (c = 43) || decide (c = 45)) := rfl
      rw [d]
      clear d C hb h1
      by_cases q : c = 43
      · subst q
        go_enter Tryz.func48, Tryz.ntmps48
        go_wp2_with fail
        go_ret
        exact ⟨rfl, rfl⟩
      · have d2 : Hid ((decide (c = 43) || decide (c = 45)) = (c == 45)) := by
          show _ = _
          rw [decide_eq_false q, Bool.false_or]; rfl
        rw [d2.out]
        have t1 : (c == 43) = false := by simpa using q
        clear q
        go_enter Tryz.func48, Tryz.ntmps48
        go_wp2_with fail
        go_ret
        exact ⟨rfl, rfl⟩
    · have d : Hid (stdB c f = (c == f)) := by
        show _ = _
        unfold stdB
        rw [if_neg h1, if_neg h2]; rfl
      rw [d.out]
      have t1 : (f == 48) = false := by simpa using h1
      have t2 : (f == 43) = false := by simpa using h2
      clear C hb h1 h2
      go_enter Tryz.func48, Tryz.ntmps48
      go_wp2_with fail
      go_ret
      exact ⟨rfl, rfl⟩
def formF : List Int := [43, 48, 48, 48, 48, 48, 45, 48, 48, 45, 48, 48, 32, 48, 48, 58, 48, 48, 58, 48, 48, 46, 48, 48, 48, 48]
/-- the form, byte by byte -/
theorem isSt_form {L : List Int} (hl : L.length = 26) : isSt L = (!decide (L.take 6 = [45, 48, 48, 48, 48, 48]) && (List.range 26).all fun i => stdB (L.getD i 0) (formF.getD i 0)) := by
  match L, hl with
  | [c0, c1, c2, c3, c4, c5, c6, c7, c8, c9, c10, c11, c12, c13, c14, c15, c16, c17, c18, c19, c20, c21, c22, c23, c24, c25], _ =>
    have ea : ((List.range 26).all fun i => stdB ([c0, c1, c2, c3, c4, c5, c6, c7, c8, c9, c10, c11, c12, c13, c14, c15, c16, c17, c18, c19, c20, c21, c22, c23, c24, c25].getD i 0) (formF.getD i 0)) =
      ((decide (c0 = 43) || decide (c0 = 45)) && (isDgB c1 && (isDgB c2 && (isDgB c3 && (isDgB c4 && (isDgB c5 && (decide (c6 = 45) && (isDgB c7 && (isDgB c8 && (decide (c9 = 45) && (isDgB c10 && (isDgB c11 && (decide (c12 = 32) && (isDgB c13 && (isDgB c14 && (decide (c15 = 58) && (isDgB c16 && (isDgB c17 && (decide (c18 = 58) && (isDgB c19 && (isDgB c20 && (decide (c21 = 46) && (isDgB c22 && (isDgB c23 && (isDgB c24 && (isDgB c25 && true)))))))))))))))))))))))))) := rfl
    rw [ea, Bool.eq_iff_iff]
    constructor
    · intro h
      obtain ⟨_, h0, h6, h9, h12, h15, h18, h21, a, b, c, d, e, f, g, k⟩ := isSt_parts h
      have a' : ∀ x ∈ [c1, c2, c3, c4, c5], 48 ≤ x ∧ x ≤ 57 := digB_iff.1 a
      have b' : ∀ x ∈ [c7, c8], 48 ≤ x ∧ x ≤ 57 := digB_iff.1 b
      have c' : ∀ x ∈ [c10, c11], 48 ≤ x ∧ x ≤ 57 := digB_iff.1 c
      have d' : ∀ x ∈ [c13, c14], 48 ≤ x ∧ x ≤ 57 := digB_iff.1 d
      have e' : ∀ x ∈ [c16, c17], 48 ≤ x ∧ x ≤ 57 := digB_iff.1 e
      have f' : ∀ x ∈ [c19, c20], 48 ≤ x ∧ x ≤ 57 := digB_iff.1 f
      have g' : ∀ x ∈ [c22, c23, c24, c25], 48 ≤ x ∧ x ≤ 57 := digB_iff.1 g
      have k' : ¬ (c0 = 45 ∧ numI [c1, c2, c3, c4, c5] 0 = 0) := k
      have h0' : c0 = 43 ∨ c0 = 45 := h0
      have h6' : c6 = 45 := h6
      have h9' : c9 = 45 := h9
      have h12' : c12 = 32 := h12
      have h15' : c15 = 58 := h15
      have h18' : c18 = 58 := h18
      have h21' : c21 = 46 := h21
      have nk : ¬ [c0, c1, c2, c3, c4, c5] = [45, 48, 48, 48, 48, 48] := fun e => by
        simp only [List.cons.injEq, and_true] at e
        obtain ⟨rfl, rfl, rfl, rfl, rfl, rfl⟩ := e
        exact k' ⟨rfl, rfl⟩
      simp only [List.mem_cons, List.not_mem_nil, or_false, forall_eq_or_imp, forall_eq] at a' b' c' d' e' f' g'
      simp only [List.take_succ_cons, List.take_zero, Bool.and_eq_true, Bool.not_eq_true', Bool.or_eq_true, decide_eq_true_eq, isDgB, and_true]
      exact ⟨decide_eq_false nk, h0', a'.1, a'.2.1, a'.2.2.1, a'.2.2.2.1, a'.2.2.2.2, h6', b'.1, b'.2, h9', c'.1, c'.2, h12', d'.1, d'.2, h15', e'.1, e'.2, h18', f'.1, f'.2, h21', g'.1, g'.2.1, g'.2.2.1, g'.2.2.2⟩
    · intro h
      simp only [List.take_succ_cons, List.take_zero, Bool.and_eq_true, Bool.not_eq_true', Bool.or_eq_true, decide_eq_true_eq, isDgB, and_true] at h
      obtain ⟨nk, h0, a1, a2, a3, a4, a5, h6, b1, b2, h9, d1, d2, h12, e1, e2, h15, f1, f2, h18, g1, g2, h21, i1, i2, i3, i4⟩ := h
      refine isSt_mk rfl h0 h6 h9 h12 h15 h18 h21 (digB_iff.2 ?_) (digB_iff.2 ?_) (digB_iff.2 ?_) (digB_iff.2 ?_) (digB_iff.2 ?_) (digB_iff.2 ?_) (digB_iff.2 ?_) ?_
      · show ∀ x ∈ [c1, c2, c3, c4, c5], _
        simp only [List.mem_cons, List.not_mem_nil, or_false, forall_eq_or_imp, forall_eq]; exact ⟨a1, a2, a3, a4, a5⟩
      · show ∀ x ∈ [c7, c8], _
        simp only [List.mem_cons, List.not_mem_nil, or_false, forall_eq_or_imp, forall_eq]; exact ⟨b1, b2⟩
      · show ∀ x ∈ [c10, c11], _
        simp only [List.mem_cons, List.not_mem_nil, or_false, forall_eq_or_imp, forall_eq]; exact ⟨d1, d2⟩
      · show ∀ x ∈ [c13, c14], _
        simp only [List.mem_cons, List.not_mem_nil, or_false, forall_eq_or_imp, forall_eq]; exact ⟨e1, e2⟩
      · show ∀ x ∈ [c16, c17], _
        simp only [List.mem_cons, List.not_mem_nil, or_false, forall_eq_or_imp, forall_eq]; exact ⟨f1, f2⟩
      · show ∀ x ∈ [c19, c20], _
        simp only [List.mem_cons, List.not_mem_nil, or_false, forall_eq_or_imp, forall_eq]; exact ⟨g1, g2⟩
      · show ∀ x ∈ [c22, c23, c24, c25], _
        simp only [List.mem_cons, List.not_mem_nil, or_false, forall_eq_or_imp, forall_eq]; exact ⟨i1, i2, i3, i4⟩
      · intro ⟨x, y⟩
        have x' : c0 = 45 := x
        have y' : ((((0 * 10 + (c1 - 48).toNat) * 10 + (c2 - 48).toNat) * 10 + (c3 - 48).toNat) * 10 + (c4 - 48).toNat) * 10 + (c5 - 48).toNat = 0 := y
        refine of_decide_eq_false nk ?_
        simp only [List.cons.injEq, and_true]
        omega
theorem form_at : ∀ i (h : i < (ByteArray.mk #[43, 48, 48, 48, 48, 48, 45, 48, 48, 45, 48, 48, 32, 48, 48, 58, 48, 48, 58, 48, 48, 46, 48, 48, 48, 48]).size), (((ByteArray.mk #[43, 48, 48, 48, 48, 48, 45, 48, 48, 45, 48, 48, 32, 48, 48, 58, 48, 48, 58, 48, 48, 46, 48, 48, 48, 48])[i].toNat : Nat) : Int) = formF.getD i 0 := by
  intro i h
  have h' : i < 26 := h
  have : i = 0 ∨ i = 1 ∨ i = 2 ∨ i = 3 ∨ i = 4 ∨ i = 5 ∨ i = 6 ∨ i = 7 ∨ i = 8 ∨ i = 9 ∨ i = 10 ∨ i = 11 ∨ i = 12 ∨ i = 13 ∨ i = 14 ∨ i = 15 ∨ i = 16 ∨ i = 17 ∨ i = 18 ∨ i = 19 ∨ i = 20 ∨ i = 21 ∨ i = 22 ∨ i = 23 ∨ i = 24 ∨ i = 25 := by omega
  rcases this with rfl | rfl | rfl | rfl | rfl | rfl | rfl | rfl | rfl | rfl | rfl | rfl | rfl | rfl | rfl | rfl | rfl | rfl | rfl | rfl | rfl | rfl | rfl | rfl | rfl | rfl <;> rfl
theorem byI_inj {s t : ByteArray} (h : byI s = byI t) : s = t := by
  apply ByteArray.ext
  apply Array.toList_inj.1
  unfold byI at h
  refine List.map_inj_right (fun a b hab => ?_) |>.1 h
  have : a.toNat = b.toNat := by omega
  exact UInt8.toNat_inj.1 this
set_option maxRecDepth 100000 in
theorem isstamp_len (s : ByteArray) (hs : s.size ≠ 26) (w : World) : Calls Tryz.prog 24 #[.string s] w fun e w' => e = .returned (.bool (isSt (byI s))) ∧ ∃ n, w' = w.drewN n := by
  have h : isSt (byI s) = false := by
    rw [← Bool.not_eq_true]
    intro e
    have := (isSt_parts e).1
    rw [byI_len] at this
    exact hs this
  rw [h]
  have t : ((s.size : Int) != 26) = true := by simp; omega
  clear h hs
  go_enter Tryz.func24, Tryz.ntmps24
  go_wp2_with fail
  go_ret
  exact ⟨rfl, 0, rfl⟩
set_option maxRecDepth 100000 in
set_option maxHeartbeats 2000000 in
theorem isstamp_26 (s : ByteArray) (hs : s.size = 26) (w : World) : Calls Tryz.prog 24 #[.string s] w fun e w' => e = .returned (.bool (isSt (byI s))) ∧ ∃ n, w' = w.drewN n := by
  have t : ((s.size : Int) != 26) = false := by simp; omega
  have l : 26 ≤ s.size := by omega
  have ll : (byI s).length = 26 := by rw [byI_len]; exact hs
  have eF := isSt_form ll
  have hq : ((s.extract 0 6).toList == [45, 48, 48, 48, 48, 48]) = decide ((byI s).take 6 = [45, 48, 48, 48, 48, 48]) := by
    have p6 : byI (s.extract 0 6) = (byI s).take 6 := by rw [byI_extract]; rfl
    rw [← p6, Bool.eq_iff_iff, beq_iff_eq, decide_eq_true_iff]
    have eL : (s.extract 0 6).toList = (s.extract 0 6).data.toList := ByteArray.toList_eq _
    rw [eL]
    constructor
    · intro h; unfold byI; rw [h]; rfl
    · intro h
      have : byI (s.extract 0 6) = byI ⟨#[45, 48, 48, 48, 48, 48]⟩ := h.trans rfl
      rw [byI_inj this]
  rw [← hq] at eF
  obtain ⟨V, hV⟩ : ∃ V, V = isSt (byI s) := ⟨_, rfl⟩
  rw [← hV]
  rw [← hV] at eF
  replace hV := Lib.hid hV
  have at_ : Hid (∀ i (h : i < s.size), ((s[i].toNat : Nat) : Int) = (byI s).getD i 0) := fun i h => (byI_at s i h).symm
  generalize byI s = L at *
  replace eF := Lib.hid eF
  replace hs := Lib.hid hs
  replace ll := Lib.hid ll
  replace hq := Lib.hid hq
  have fa := Lib.hid form_at
  go_enter Tryz.func24, Tryz.ntmps24
  go_wp2_with fail
  · go_ret
    rename_i hb
    exact ⟨ret_bo (by rw [eF.out, hb]; rfl), 0, rfl⟩
  · have hb : ((s.extract 0 6).toList == [45, 48, 48, 48, 48, 48]) = false := by assumption
    go_loopw [12] (fun iv wr => ∃ i n : Nat, i ≤ 26 ∧ iv = .int .i64 (i : Int) ∧ wr = w.drewN n ∧ ∀ j, j < i → stdB (L.getD j 0) (formF.getD j 0) = true) (fun iv _ => 26 - (intOf iv).toNat)
    case atStart => exact ⟨0, 0, Nat.zero_le _, rfl, rfl, fun j hj => by omega⟩
    case round =>
      obtain ⟨i, n, hi, rfl, hw, ha⟩ := hrel
      replace hw := Lib.hid hw
      by_cases hlt : i < 26
      · have h1 := at_.out i (by omega)
        have h2 := fa.out i hlt
        have hls : (i : Int) < (s.size : Int) := by omega
        have C := Lib.hid (fun w => stands_run ((s[i].toNat : Nat) : Int) (((ByteArray.mk #[43, 48, 48, 48, 48, 48, 45, 48, 48, 45, 48, 48, 32, 48, 48, 58, 48, 48, 58, 48, 48, 46, 48, 48, 48, 48])[i].toNat : Nat) : Int) w)
        rw [h2] at C
        obtain ⟨b, hb2⟩ : ∃ b, b = stdB (L.getD i 0) (formF.getD i 0) := ⟨_, rfl⟩
        have hb3 : stdB ((s[i].toNat : Nat) : Int) (formF.getD i 0) = b := by rw [h1, hb2]
        rw [hb3, ← h2] at C
        replace ha := Lib.hid ha
        replace hb2 := Lib.hid hb2
        clear h1 h2 hb3
        go_wp2_with fail
        go_quiet ((go_at_call 48; with_reducible refine quiet_as (C.out _)))
        cases b with
        | false =>
          have hv : Hid (V = false) := by
            show _ = _
            rw [eF.out]
            have : ((List.range 26).all fun i => stdB (L.getD i 0) (formF.getD i 0)) = false := by
              rw [← Bool.not_eq_true, List.all_eq_true]
              intro h
              have := h i (List.mem_range.2 hlt)
              rw [← hb2.out] at this
              cases this
            rw [this, Bool.and_false]
          clear C
          go_wp2_with fail
          go_ret
          exact ⟨ret_bo hv.out.symm, _, by rw [hw.out, World.drewN_drewN]⟩
        | true =>
          clear C
          go_wp2_with fail
          go_roundw
          case rel => exact ⟨i + 1, _, hlt, by go_num, by rw [hw.out, World.drewN_drewN], fun j hj => by
            by_cases e : j = i
            · rw [e]; exact hb2.out.symm
            · exact ha.out j (by omega)⟩
          case measure => simp [intOf]; omega
      · obtain rfl : i = 26 := by omega
        have hv : Hid (V = true) := by
          show _ = _
          rw [eF.out, hb, Bool.not_false, Bool.true_and, List.all_eq_true]
          intro j hj
          exact ha j (List.mem_range.1 hj)
        clear ha
        go_wp2_with fail
        go_ret
        exact ⟨ret_bo hv.out.symm, n, hw.out⟩
set_option maxRecDepth 100000 in
theorem isstamp_run (s : ByteArray) (w : World) : Calls Tryz.prog 24 #[.string s] w fun e w' => e = .returned (.bool (isSt (byI s))) ∧ ∃ n, w' = w.drewN n := by
  by_cases h : s.size = 26
  · exact isstamp_26 s h w
  · exact isstamp_len s h w
set_option maxRecDepth 100000 in
set_option maxHeartbeats 1000000 in
theorem read_run (s : ByteArray) (hs : s.size ≤ 17) (hd : digB (byI s) = true) (u : World) : Calls Tryz.prog 25 #[.string s] u fun e u' => e = .returned (.int .i64 (numI (byI s) 0 : Nat)) ∧ u = u' := by
  obtain ⟨L, hL⟩ : ∃ L, L = byI s := ⟨_, rfl⟩
  have ll : L.length = s.size := by rw [hL]; exact byI_len s
  have at_ : Hid (∀ i (h : i < s.size), ((s[i].toNat : Nat) : Int) = L.getD i 0) := fun i h => by rw [hL]; exact (byI_at s i h).symm
  have hd' : Hid (∀ x ∈ L, 48 ≤ x ∧ x ≤ 57) := by rw [hL]; exact digB_iff.1 hd
  rw [← hL]
  clear hd
  replace hL := Lib.hid hL
  replace ll := Lib.hid ll
  go_enter Tryz.func25, Tryz.ntmps25
  go_wp2_with fail
  go_loop [3, 7] (fun nv iv => ∃ i : Nat, i ≤ s.size ∧ iv = .int .i64 i ∧ nv = .int .i64 (numI (L.take i) 0 : Nat)) (fun _ iv => s.size - (intOf iv).toNat)
  case atStart => exact ⟨0, Nat.zero_le _, rfl, rfl⟩
  case round =>
    obtain ⟨i, hi, rfl, rfl⟩ := hrel
    have r := numI_range (l := L.take i) (fun x hx => hd'.out x (List.mem_of_mem_take hx)) (by rw [List.length_take]; have := ll.out; omega)
    by_cases hlt : i < s.size
    · have hil : i < L.length := by have := ll.out; omega
      have hx := at_.out i hlt
      have hm : L.getD i 0 ∈ L := by simp [List.getD, hil]
      have hg := hd'.out _ hm
      have tn := take_next hil
      have hb : s[i].toNat < 256 := s[i].toNat_lt
      have hn2 : Hid (numI (L.take (i + 1)) 0 = numI (L.take i) 0 * 10 + (s[i].toNat - 48)) := by
        show numI (L.take (i + 1)) 0 = _
        rw [tn, numI_app]
        simp only [numI]
        omega
      have g1 : 48 ≤ (s[i].toNat : Int) := by omega
      have g2 : (s[i].toNat : Int) ≤ 57 := by omega
      generalize numI (L.take i) 0 = q at *
      clear tn hx hg hm
      go_wp2_with fail
      go_round
      case rel => exact ⟨i + 1, hlt, by go_num, by rw [hn2.out]; exact congrArg (Value.int .i64) (by omega)⟩
      case measure => simp [intOf]; omega
    · obtain rfl : i = s.size := by omega
      have hv : Hid (numI (L.take s.size) 0 = numI L 0) := by
        show _ = _
        rw [List.take_of_length_le (by have := ll.out; omega)]
      rw [hv.out]
      go_wp2_with fail
      go_ret
      exact ⟨rfl, rfl⟩
end Go.Proofs.YtpnncmdeidbemaaGreatDoor

namespace Go.Proofs.YtpnncmdeidbemaaGreatDoor
open Go.ChangeShapes Go.WideShapes Go.ChangeAt Go.RowKit

set_option maxRecDepth 100000 in
theorem parse_no (s : ByteArray) (h : isSt (byI s) = false) (u : World) : Calls Tryz.prog 11 #[.string s] u fun e u' => e = .returned (parV (byI s)) ∧ Below u.heap.size u u' := by
  have C := Lib.hid (fun w => isstamp_run s w)
  rw [h] at C
  rw [parV_no h]
  clear h
  go_enter Tryz.func11, Tryz.ntmps11
  go_wp2_with fail
  refine (C.out u).mono ?_
  rintro _ v1 ⟨rfl, n, rfl⟩
  clear C
  go_wp2_with fail
  go_ret2
  exact ⟨rfl, bl_drewN (Below.refl _ _) n⟩
set_option maxHeartbeats 4000000 in
set_option maxRecDepth 100000 in
theorem parse_yes (s : ByteArray) (h : isSt (byI s) = true) (u : World) : Calls Tryz.prog 11 #[.string s] u fun e u' => e = .returned (parV (byI s)) ∧ Below u.heap.size u u' := by
  have C := Lib.hid (fun w => isstamp_run s w)
  rw [h] at C
  obtain ⟨l26, s0, _, _, _, _, _, _, c1, c2, c3, c4, c5, c6, c7, _⟩ := isSt_parts h
  rw [byI_len] at l26
  have b0 : ((s[0].toNat : Nat) : Int) = at_ (byI s) 0 := (byI_at s 0 (by omega)).symm
  obtain ⟨V, hV⟩ : ∃ V, V = parV (byI s) := ⟨_, rfl⟩
  rw [← hV]
  rw [parV_yes h] at hV
  obtain ⟨e1, he1⟩ : ∃ e, s.extract 1 6 = e := ⟨_, rfl⟩
  have p1 : byI e1 = pc (byI s) 1 6 := by rw [← he1, byI_extract]
  have z1 : e1.size ≤ 17 := by rw [← he1, ByteArray.size_extract]; omega
  rw [← p1] at c1
  have N1 := Lib.hid (fun w => read_run e1 z1 c1 w)
  have r1 := numI_range (digB_iff.1 c1) (by rw [byI_len]; exact z1)
  obtain ⟨v1, hv1⟩ : ∃ v, v = nf (byI s) 1 6 := ⟨_, rfl⟩
  have hw1 : numI (byI e1) 0 = v1 := by rw [hv1, p1]; rfl
  rw [hw1] at N1 r1
  have SL1 : Hid (∀ W, (Instr.slice 9 (.string s) (some (.int .i64 1)) (some (.int .i64 6)) none).run Tryz.prog W = .ok (.string e1) W) := fun W => by rw [run_slice_string W 9 s .i64 .i64 1 6 Tryz.underlying9 (by omega) (by omega) (by omega)]; exact congrArg (fun x => Result.ok (Value.string x) W) he1
  replace he1 := Lib.hid he1
  clear p1 z1 hw1 c1
  obtain ⟨e2, he2⟩ : ∃ e, s.extract 7 9 = e := ⟨_, rfl⟩
  have p2 : byI e2 = pc (byI s) 7 9 := by rw [← he2, byI_extract]
  have z2 : e2.size ≤ 17 := by rw [← he2, ByteArray.size_extract]; omega
  rw [← p2] at c2
  have N2 := Lib.hid (fun w => read_run e2 z2 c2 w)
  have r2 := numI_range (digB_iff.1 c2) (by rw [byI_len]; exact z2)
  obtain ⟨v2, hv2⟩ : ∃ v, v = nf (byI s) 7 9 := ⟨_, rfl⟩
  have hw2 : numI (byI e2) 0 = v2 := by rw [hv2, p2]; rfl
  rw [hw2] at N2 r2
  have SL2 : Hid (∀ W, (Instr.slice 9 (.string s) (some (.int .i64 7)) (some (.int .i64 9)) none).run Tryz.prog W = .ok (.string e2) W) := fun W => by rw [run_slice_string W 9 s .i64 .i64 7 9 Tryz.underlying9 (by omega) (by omega) (by omega)]; exact congrArg (fun x => Result.ok (Value.string x) W) he2
  rw [← hv2] at hV
  replace he2 := Lib.hid he2
  clear p2 z2 hw2 c2 hv2
  obtain ⟨e3, he3⟩ : ∃ e, s.extract 10 12 = e := ⟨_, rfl⟩
  have p3 : byI e3 = pc (byI s) 10 12 := by rw [← he3, byI_extract]
  have z3 : e3.size ≤ 17 := by rw [← he3, ByteArray.size_extract]; omega
  rw [← p3] at c3
  have N3 := Lib.hid (fun w => read_run e3 z3 c3 w)
  have r3 := numI_range (digB_iff.1 c3) (by rw [byI_len]; exact z3)
  obtain ⟨v3, hv3⟩ : ∃ v, v = nf (byI s) 10 12 := ⟨_, rfl⟩
  have hw3 : numI (byI e3) 0 = v3 := by rw [hv3, p3]; rfl
  rw [hw3] at N3 r3
  have SL3 : Hid (∀ W, (Instr.slice 9 (.string s) (some (.int .i64 10)) (some (.int .i64 12)) none).run Tryz.prog W = .ok (.string e3) W) := fun W => by rw [run_slice_string W 9 s .i64 .i64 10 12 Tryz.underlying9 (by omega) (by omega) (by omega)]; exact congrArg (fun x => Result.ok (Value.string x) W) he3
  rw [← hv3] at hV
  replace he3 := Lib.hid he3
  clear p3 z3 hw3 c3 hv3
  obtain ⟨e4, he4⟩ : ∃ e, s.extract 13 15 = e := ⟨_, rfl⟩
  have p4 : byI e4 = pc (byI s) 13 15 := by rw [← he4, byI_extract]
  have z4 : e4.size ≤ 17 := by rw [← he4, ByteArray.size_extract]; omega
  rw [← p4] at c4
  have N4 := Lib.hid (fun w => read_run e4 z4 c4 w)
  have r4 := numI_range (digB_iff.1 c4) (by rw [byI_len]; exact z4)
  obtain ⟨v4, hv4⟩ : ∃ v, v = nf (byI s) 13 15 := ⟨_, rfl⟩
  have hw4 : numI (byI e4) 0 = v4 := by rw [hv4, p4]; rfl
  rw [hw4] at N4 r4
  have SL4 : Hid (∀ W, (Instr.slice 9 (.string s) (some (.int .i64 13)) (some (.int .i64 15)) none).run Tryz.prog W = .ok (.string e4) W) := fun W => by rw [run_slice_string W 9 s .i64 .i64 13 15 Tryz.underlying9 (by omega) (by omega) (by omega)]; exact congrArg (fun x => Result.ok (Value.string x) W) he4
  rw [← hv4] at hV
  replace he4 := Lib.hid he4
  clear p4 z4 hw4 c4 hv4
  obtain ⟨e5, he5⟩ : ∃ e, s.extract 16 18 = e := ⟨_, rfl⟩
  have p5 : byI e5 = pc (byI s) 16 18 := by rw [← he5, byI_extract]
  have z5 : e5.size ≤ 17 := by rw [← he5, ByteArray.size_extract]; omega
  rw [← p5] at c5
  have N5 := Lib.hid (fun w => read_run e5 z5 c5 w)
  have r5 := numI_range (digB_iff.1 c5) (by rw [byI_len]; exact z5)
  obtain ⟨v5, hv5⟩ : ∃ v, v = nf (byI s) 16 18 := ⟨_, rfl⟩
  have hw5 : numI (byI e5) 0 = v5 := by rw [hv5, p5]; rfl
  rw [hw5] at N5 r5
  have SL5 : Hid (∀ W, (Instr.slice 9 (.string s) (some (.int .i64 16)) (some (.int .i64 18)) none).run Tryz.prog W = .ok (.string e5) W) := fun W => by rw [run_slice_string W 9 s .i64 .i64 16 18 Tryz.underlying9 (by omega) (by omega) (by omega)]; exact congrArg (fun x => Result.ok (Value.string x) W) he5
  rw [← hv5] at hV
  replace he5 := Lib.hid he5
  clear p5 z5 hw5 c5 hv5
  obtain ⟨e6, he6⟩ : ∃ e, s.extract 19 21 = e := ⟨_, rfl⟩
  have p6 : byI e6 = pc (byI s) 19 21 := by rw [← he6, byI_extract]
  have z6 : e6.size ≤ 17 := by rw [← he6, ByteArray.size_extract]; omega
  rw [← p6] at c6
  have N6 := Lib.hid (fun w => read_run e6 z6 c6 w)
  have r6 := numI_range (digB_iff.1 c6) (by rw [byI_len]; exact z6)
  obtain ⟨v6, hv6⟩ : ∃ v, v = nf (byI s) 19 21 := ⟨_, rfl⟩
  have hw6 : numI (byI e6) 0 = v6 := by rw [hv6, p6]; rfl
  rw [hw6] at N6 r6
  have SL6 : Hid (∀ W, (Instr.slice 9 (.string s) (some (.int .i64 19)) (some (.int .i64 21)) none).run Tryz.prog W = .ok (.string e6) W) := fun W => by rw [run_slice_string W 9 s .i64 .i64 19 21 Tryz.underlying9 (by omega) (by omega) (by omega)]; exact congrArg (fun x => Result.ok (Value.string x) W) he6
  rw [← hv6] at hV
  replace he6 := Lib.hid he6
  clear p6 z6 hw6 c6 hv6
  obtain ⟨e7, he7⟩ : ∃ e, s.extract 22 s.size = e := ⟨_, rfl⟩
  have p7 : byI e7 = pc (byI s) 22 26 := by rw [← he7, byI_extract]; rw [l26]
  have z7 : e7.size ≤ 17 := by rw [← he7, ByteArray.size_extract]; omega
  rw [← p7] at c7
  have N7 := Lib.hid (fun w => read_run e7 z7 c7 w)
  have r7 := numI_range (digB_iff.1 c7) (by rw [byI_len]; exact z7)
  obtain ⟨v7, hv7⟩ : ∃ v, v = nf (byI s) 22 26 := ⟨_, rfl⟩
  have hw7 : numI (byI e7) 0 = v7 := by rw [hv7, p7]; rfl
  rw [hw7] at N7 r7
  have SL7 : Hid (∀ W, (Instr.slice 9 (.string s) (some (.int .i64 22)) none none).run Tryz.prog W = .ok (.string e7) W) := fun W => by rw [run_slice_string_from_if W 9 s .i64 22 Tryz.underlying9, if_pos (by omega)]; exact congrArg (fun x => Result.ok (Value.string x) W) he7
  rw [← hv7] at hV
  replace he7 := Lib.hid he7
  clear p7 z7 hw7 c7 hv7
  have sg2 : (at_ (byI s) 0 = 43 ∧ ((s[0].toNat : Int) == 45) = false ∧ V = fromV (v1 : Int) v2 v3 v4 v5 v6 v7) ∨ (at_ (byI s) 0 = 45 ∧ ((s[0].toNat : Int) == 45) = true ∧ V = fromV (-(v1 : Int)) v2 v3 v4 v5 v6 v7) := by
    rcases s0 with q | q
    · refine .inl ⟨q, by simp; omega, ?_⟩
      rw [hV, show stY (byI s) = (v1 : Int) by rw [hv1]; unfold stY; rw [if_neg (by omega)]; rfl]
    · refine .inr ⟨q, by simp; omega, ?_⟩
      rw [hV, show stY (byI s) = -(v1 : Int) by rw [hv1]; unfold stY; rw [if_pos q]; rfl]
  have l0 : 26 ≤ s.size := by omega
  clear hV hv1 s0 b0 h
  replace l26 := Lib.hid l26
  replace sg2 := Lib.hid sg2
  go_enter Tryz.func11, Tryz.ntmps11
  go_wp2_with fail
  refine (C.out u).mono ?_
  rintro _ x ⟨rfl, n, hx⟩
  have B := Lib.hid (show Below u.heap.size u x by rw [hx]; exact bl_drewN (Below.refl _ _) n)
  clear C hx
  go_wp2_with fail
  generalize hds : ([some 8, some 9, some 10, some 11, some 12, some 13, some 14, some 15, some 16, some 17, some 18, some 19, some 20, some 21, some 22, some 23, some 24, some 25, some 26, some 27, some 28, some 29, some 4, none] : List (Option Tmp)) = ds
  have hap : apartL ds = true := by rw [← hds]; decide
  replace hds := hds.symm
  refine wp_region_mk (W := x) 22 23 (.cells #[.int .i64 0, .int .i64 0, .int .i64 0, .int .i64 0, .int .i64 0, .int .i64 0, .int .i64 0] 42) ((((((((x.drew.alloc (.cells #[.int .i64 0, .int .i64 0, .int .i64 0, .int .i64 0, .int .i64 0, .int .i64 0, .int .i64 0] 42)).setCell ⟨x.heap.size, 0, none⟩ (.int .i64 (v1 : Int))).setCell ⟨x.heap.size, 1, none⟩ (.int .i64 (v2 : Int))).setCell ⟨x.heap.size, 2, none⟩ (.int .i64 (v3 : Int))).setCell ⟨x.heap.size, 3, none⟩ (.int .i64 (v4 : Int))).setCell ⟨x.heap.size, 4, none⟩ (.int .i64 (v5 : Int))).setCell ⟨x.heap.size, 5, none⟩ (.int .i64 (v6 : Int))).setCell ⟨x.heap.size, 6, none⟩ (.int .i64 (v7 : Int))) [.string s, .string e1, .int .i64 (v1 : Int), .string s, .string e2, .int .i64 (v2 : Int), .string s, .string e3, .int .i64 (v3 : Int), .string s, .string e4, .int .i64 (v4 : Int), .string s, .string e5, .int .i64 (v5 : Int), .string s, .string e6, .int .i64 (v6 : Int), .string s, .string e7, .int .i64 (v7 : Int), .agg #[.int .i64 (v1 : Int), .int .i64 (v2 : Int), .int .i64 (v3 : Int), .int .i64 (v4 : Int), .int .i64 (v5 : Int), .int .i64 (v6 : Int), .int .i64 (v7 : Int)], undef, undef]
    ds (by kernel_rfl) (by rw [hds]; rfl) hap (by decide +kernel) (by decide +kernel) rfl (by decide) (by decide) (by decide +kernel) (by decide +kernel) (by decide) ?alloc ?step ?store ?fin
  case alloc =>
    intro L o w ho
    obtain rfl := Option.some.inj ho
    unfold execOp
    go_simp
  case step =>
    intro L W i o ho hia his hd
    have hi : i < 24 := (Array.getElem?_eq_some_iff.1 ho).1
    have : i = 0 ∨ i = 1 ∨ i = 2 ∨ i = 3 ∨ i = 4 ∨ i = 5 ∨ i = 6 ∨ i = 7 ∨ i = 8 ∨ i = 9 ∨ i = 10 ∨ i = 11 ∨ i = 12 ∨ i = 13 ∨ i = 14 ∨ i = 15 ∨ i = 16 ∨ i = 17 ∨ i = 18 ∨ i = 19 ∨ i = 20 ∨ i = 21 ∨ i = 22 ∨ i = 23 := by omega
    rcases this with rfl | rfl | rfl | rfl | rfl | rfl | rfl | rfl | rfl | rfl | rfl | rfl | rfl | rfl | rfl | rfl | rfl | rfl | rfl | rfl | rfl | rfl | rfl | rfl
    · -- 0
      obtain rfl := Option.some.inj ho
      exact .value (exK_move W rfl ((puts_old ds L _ (by rw [hds]; decide)).trans rfl))
    · -- 1
      obtain rfl := Option.some.inj ho
      refine .value ?_
      generalize hA : (puts ds L _).eval = ρ
      have hc : ∀ v, ρ (.const v) = v := fun v => by rw [← hA]; rfl
      have h0 : ρ (.tmp 8) = .string s := by rw [← hA]; exact (puts_get 0 ds L _ hap (by rw [hds]; rfl) (hd 0 (by decide +kernel) (by decide)) (show 8 < 41 by decide))
      have hsl := SL1.out W
      unfold execOp
      go_simp
    · -- 2
      obtain rfl := Option.some.inj ho
      refine .call 25 #[.string e1] ?_ (N1.out W)
      generalize hA : (puts ds L _).eval = ρ
      have hc : ∀ v, ρ (.const v) = v := fun v => by rw [← hA]; rfl
      have hg : ∀ g, ρ (.func g) = .func (.func g) #[] #[] := fun v => by rw [← hA]; rfl
      have h0 : ρ (.tmp 9) = .string e1 := by rw [← hA]; exact (puts_get 1 ds L _ hap (by rw [hds]; rfl) (hd 1 (by decide +kernel) (by decide)) (show 9 < 41 by decide))
      have hf := Tryz.func25
      unfold execOp
      go_simp
    · -- 3
      obtain rfl := Option.some.inj ho
      exact .value (exK_move W rfl ((puts_old ds L _ (by rw [hds]; decide)).trans rfl))
    · -- 4
      obtain rfl := Option.some.inj ho
      refine .value ?_
      generalize hA : (puts ds L _).eval = ρ
      have hc : ∀ v, ρ (.const v) = v := fun v => by rw [← hA]; rfl
      have h0 : ρ (.tmp 11) = .string s := by rw [← hA]; exact (puts_get 3 ds L _ hap (by rw [hds]; rfl) (hd 3 (by decide +kernel) (by decide)) (show 11 < 41 by decide))
      have hsl := SL2.out W
      unfold execOp
      go_simp
    · -- 5
      obtain rfl := Option.some.inj ho
      refine .call 25 #[.string e2] ?_ (N2.out W)
      generalize hA : (puts ds L _).eval = ρ
      have hc : ∀ v, ρ (.const v) = v := fun v => by rw [← hA]; rfl
      have hg : ∀ g, ρ (.func g) = .func (.func g) #[] #[] := fun v => by rw [← hA]; rfl
      have h0 : ρ (.tmp 12) = .string e2 := by rw [← hA]; exact (puts_get 4 ds L _ hap (by rw [hds]; rfl) (hd 4 (by decide +kernel) (by decide)) (show 12 < 41 by decide))
      have hf := Tryz.func25
      unfold execOp
      go_simp
    · -- 6
      obtain rfl := Option.some.inj ho
      exact .value (exK_move W rfl ((puts_old ds L _ (by rw [hds]; decide)).trans rfl))
    · -- 7
      obtain rfl := Option.some.inj ho
      refine .value ?_
      generalize hA : (puts ds L _).eval = ρ
      have hc : ∀ v, ρ (.const v) = v := fun v => by rw [← hA]; rfl
      have h0 : ρ (.tmp 14) = .string s := by rw [← hA]; exact (puts_get 6 ds L _ hap (by rw [hds]; rfl) (hd 6 (by decide +kernel) (by decide)) (show 14 < 41 by decide))
      have hsl := SL3.out W
      unfold execOp
      go_simp
    · -- 8
      obtain rfl := Option.some.inj ho
      refine .call 25 #[.string e3] ?_ (N3.out W)
      generalize hA : (puts ds L _).eval = ρ
      have hc : ∀ v, ρ (.const v) = v := fun v => by rw [← hA]; rfl
      have hg : ∀ g, ρ (.func g) = .func (.func g) #[] #[] := fun v => by rw [← hA]; rfl
      have h0 : ρ (.tmp 15) = .string e3 := by rw [← hA]; exact (puts_get 7 ds L _ hap (by rw [hds]; rfl) (hd 7 (by decide +kernel) (by decide)) (show 15 < 41 by decide))
      have hf := Tryz.func25
      unfold execOp
      go_simp
    · -- 9
      obtain rfl := Option.some.inj ho
      exact .value (exK_move W rfl ((puts_old ds L _ (by rw [hds]; decide)).trans rfl))
    · -- 10
      obtain rfl := Option.some.inj ho
      refine .value ?_
      generalize hA : (puts ds L _).eval = ρ
      have hc : ∀ v, ρ (.const v) = v := fun v => by rw [← hA]; rfl
      have h0 : ρ (.tmp 17) = .string s := by rw [← hA]; exact (puts_get 9 ds L _ hap (by rw [hds]; rfl) (hd 9 (by decide +kernel) (by decide)) (show 17 < 41 by decide))
      have hsl := SL4.out W
      unfold execOp
      go_simp
    · -- 11
      obtain rfl := Option.some.inj ho
      refine .call 25 #[.string e4] ?_ (N4.out W)
      generalize hA : (puts ds L _).eval = ρ
      have hc : ∀ v, ρ (.const v) = v := fun v => by rw [← hA]; rfl
      have hg : ∀ g, ρ (.func g) = .func (.func g) #[] #[] := fun v => by rw [← hA]; rfl
      have h0 : ρ (.tmp 18) = .string e4 := by rw [← hA]; exact (puts_get 10 ds L _ hap (by rw [hds]; rfl) (hd 10 (by decide +kernel) (by decide)) (show 18 < 41 by decide))
      have hf := Tryz.func25
      unfold execOp
      go_simp
    · -- 12
      obtain rfl := Option.some.inj ho
      exact .value (exK_move W rfl ((puts_old ds L _ (by rw [hds]; decide)).trans rfl))
    · -- 13
      obtain rfl := Option.some.inj ho
      refine .value ?_
      generalize hA : (puts ds L _).eval = ρ
      have hc : ∀ v, ρ (.const v) = v := fun v => by rw [← hA]; rfl
      have h0 : ρ (.tmp 20) = .string s := by rw [← hA]; exact (puts_get 12 ds L _ hap (by rw [hds]; rfl) (hd 12 (by decide +kernel) (by decide)) (show 20 < 41 by decide))
      have hsl := SL5.out W
      unfold execOp
      go_simp
    · -- 14
      obtain rfl := Option.some.inj ho
      refine .call 25 #[.string e5] ?_ (N5.out W)
      generalize hA : (puts ds L _).eval = ρ
      have hc : ∀ v, ρ (.const v) = v := fun v => by rw [← hA]; rfl
      have hg : ∀ g, ρ (.func g) = .func (.func g) #[] #[] := fun v => by rw [← hA]; rfl
      have h0 : ρ (.tmp 21) = .string e5 := by rw [← hA]; exact (puts_get 13 ds L _ hap (by rw [hds]; rfl) (hd 13 (by decide +kernel) (by decide)) (show 21 < 41 by decide))
      have hf := Tryz.func25
      unfold execOp
      go_simp
    · -- 15
      obtain rfl := Option.some.inj ho
      exact .value (exK_move W rfl ((puts_old ds L _ (by rw [hds]; decide)).trans rfl))
    · -- 16
      obtain rfl := Option.some.inj ho
      refine .value ?_
      generalize hA : (puts ds L _).eval = ρ
      have hc : ∀ v, ρ (.const v) = v := fun v => by rw [← hA]; rfl
      have h0 : ρ (.tmp 23) = .string s := by rw [← hA]; exact (puts_get 15 ds L _ hap (by rw [hds]; rfl) (hd 15 (by decide +kernel) (by decide)) (show 23 < 41 by decide))
      have hsl := SL6.out W
      unfold execOp
      go_simp
    · -- 17
      obtain rfl := Option.some.inj ho
      refine .call 25 #[.string e6] ?_ (N6.out W)
      generalize hA : (puts ds L _).eval = ρ
      have hc : ∀ v, ρ (.const v) = v := fun v => by rw [← hA]; rfl
      have hg : ∀ g, ρ (.func g) = .func (.func g) #[] #[] := fun v => by rw [← hA]; rfl
      have h0 : ρ (.tmp 24) = .string e6 := by rw [← hA]; exact (puts_get 16 ds L _ hap (by rw [hds]; rfl) (hd 16 (by decide +kernel) (by decide)) (show 24 < 41 by decide))
      have hf := Tryz.func25
      unfold execOp
      go_simp
    · -- 18
      obtain rfl := Option.some.inj ho
      exact .value (exK_move W rfl ((puts_old ds L _ (by rw [hds]; decide)).trans rfl))
    · -- 19
      obtain rfl := Option.some.inj ho
      refine .value ?_
      generalize hA : (puts ds L _).eval = ρ
      have hc : ∀ v, ρ (.const v) = v := fun v => by rw [← hA]; rfl
      have h0 : ρ (.tmp 26) = .string s := by rw [← hA]; exact (puts_get 18 ds L _ hap (by rw [hds]; rfl) (hd 18 (by decide +kernel) (by decide)) (show 26 < 41 by decide))
      have hsl := SL7.out W
      unfold execOp
      go_simp
    · -- 20
      obtain rfl := Option.some.inj ho
      refine .call 25 #[.string e7] ?_ (N7.out W)
      generalize hA : (puts ds L _).eval = ρ
      have hc : ∀ v, ρ (.const v) = v := fun v => by rw [← hA]; rfl
      have hg : ∀ g, ρ (.func g) = .func (.func g) #[] #[] := fun v => by rw [← hA]; rfl
      have h0 : ρ (.tmp 27) = .string e7 := by rw [← hA]; exact (puts_get 19 ds L _ hap (by rw [hds]; rfl) (hd 19 (by decide +kernel) (by decide)) (show 27 < 41 by decide))
      have hf := Tryz.func25
      unfold execOp
      go_simp
    · -- 21
      obtain rfl := Option.some.inj ho
      refine .value ?_
      generalize hA : (puts ds L _).eval = ρ
      have hc : ∀ v, ρ (.const v) = v := fun v => by rw [← hA]; rfl
      have h0 : ρ (.tmp 10) = .int .i64 (v1 : Int) := by rw [← hA]; exact (puts_get 2 ds L _ hap (by rw [hds]; rfl) (hd 2 (by decide +kernel) (by decide)) (show 10 < 41 by decide))
      have h1 : ρ (.tmp 13) = .int .i64 (v2 : Int) := by rw [← hA]; exact (puts_get 5 ds L _ hap (by rw [hds]; rfl) (hd 5 (by decide +kernel) (by decide)) (show 13 < 41 by decide))
      have h2 : ρ (.tmp 16) = .int .i64 (v3 : Int) := by rw [← hA]; exact (puts_get 8 ds L _ hap (by rw [hds]; rfl) (hd 8 (by decide +kernel) (by decide)) (show 16 < 41 by decide))
      have h3 : ρ (.tmp 19) = .int .i64 (v4 : Int) := by rw [← hA]; exact (puts_get 11 ds L _ hap (by rw [hds]; rfl) (hd 11 (by decide +kernel) (by decide)) (show 19 < 41 by decide))
      have h4 : ρ (.tmp 22) = .int .i64 (v5 : Int) := by rw [← hA]; exact (puts_get 14 ds L _ hap (by rw [hds]; rfl) (hd 14 (by decide +kernel) (by decide)) (show 22 < 41 by decide))
      have h5 : ρ (.tmp 25) = .int .i64 (v6 : Int) := by rw [← hA]; exact (puts_get 17 ds L _ hap (by rw [hds]; rfl) (hd 17 (by decide +kernel) (by decide)) (show 25 < 41 by decide))
      have h6 : ρ (.tmp 28) = .int .i64 (v7 : Int) := by rw [← hA]; exact (puts_get 20 ds L _ hap (by rw [hds]; rfl) (hd 20 (by decide +kernel) (by decide)) (show 28 < 41 by decide))
      unfold execOp
      go_simp
    · -- 22
      exact absurd rfl hia
    · -- 23
      exact absurd rfl his
  case store =>
    intro L o ho hd hp
    obtain rfl := Option.some.inj ho
    refine ⟨?_, rfl⟩
    generalize hA : (puts ds L _).eval = ρ
    have h0 : ρ (.tmp 4) = .pointer (some ⟨x.heap.size, 0, none⟩) := by rw [← hA]; exact (puts_get 22 ds L _ hap (by rw [hds]; rfl) hp (show 4 < 41 by decide))
    have h1 : ρ (.tmp 29) = .agg #[.int .i64 (v1 : Int), .int .i64 (v2 : Int), .int .i64 (v3 : Int), .int .i64 (v4 : Int), .int .i64 (v5 : Int), .int .i64 (v6 : Int), .int .i64 (v7 : Int)] := by rw [← hA]; exact (puts_get 21 ds L _ hap (by rw [hds]; rfl) (hd 21 (by decide +kernel) (by decide)) (show 29 < 41 by decide))
    unfold execOp
    go_simp
  case fin =>
    rw [hds]
    clear hds hap
    simp only [List.map_cons, List.map_nil, List.set_cons_zero, List.set_cons_succ, puts, Act.put, List.setIfInBounds_toArray]
    have bs := B.out.size
    generalize hW : (((((((x.drew.alloc (.cells #[.int .i64 0, .int .i64 0, .int .i64 0, .int .i64 0, .int .i64 0, .int .i64 0, .int .i64 0] 42)).setCell ⟨x.heap.size, 0, none⟩ (.int .i64 (v1 : Int))).setCell ⟨x.heap.size, 1, none⟩ (.int .i64 (v2 : Int))).setCell ⟨x.heap.size, 2, none⟩ (.int .i64 (v3 : Int))).setCell ⟨x.heap.size, 3, none⟩ (.int .i64 (v4 : Int))).setCell ⟨x.heap.size, 4, none⟩ (.int .i64 (v5 : Int))).setCell ⟨x.heap.size, 5, none⟩ (.int .i64 (v6 : Int))).setCell ⟨x.heap.size, 6, none⟩ (.int .i64 (v7 : Int)) = W2
    have k1 : W2.cell? ⟨x.heap.size, 0, none⟩ = some (.int .i64 (v1 : Int)) := by rw [← hW]; go_simp
    have k2 : W2.cell? ⟨x.heap.size, 1, none⟩ = some (.int .i64 (v2 : Int)) := by rw [← hW]; go_simp
    have k3 : W2.cell? ⟨x.heap.size, 2, none⟩ = some (.int .i64 (v3 : Int)) := by rw [← hW]; go_simp
    have k4 : W2.cell? ⟨x.heap.size, 3, none⟩ = some (.int .i64 (v4 : Int)) := by rw [← hW]; go_simp
    have k5 : W2.cell? ⟨x.heap.size, 4, none⟩ = some (.int .i64 (v5 : Int)) := by rw [← hW]; go_simp
    have k6 : W2.cell? ⟨x.heap.size, 5, none⟩ = some (.int .i64 (v6 : Int)) := by rw [← hW]; go_simp
    have k7 : W2.cell? ⟨x.heap.size, 6, none⟩ = some (.int .i64 (v7 : Int)) := by rw [← hW]; go_simp
    have kf : W2.frozen? ⟨x.heap.size, 0, none⟩ = false := by rw [← hW]; go_simp
    replace B : Hid (Below u.heap.size u W2) := by
      show Below u.heap.size u W2
      rw [← hW]
      exact (((((((B.out.drew.alloc bs _).setCell bs _).setCell bs _).setCell bs _).setCell bs _).setCell bs _).setCell bs _).setCell bs _
    clear hW
    have Bm := Lib.hid (fun y => B.out.setCell (p := ⟨x.heap.size, 0, none⟩) bs (.int .i64 y))
    clear N1 N2 N3 N4 N5 N6 N7 SL1 SL2 SL3 SL4 SL5 SL6 SL7 he1 he2 he3 he4 he5 he6 he7
    rcases sg2.out with ⟨_, t1, hv⟩ | ⟨_, t1, hv⟩
    · clear sg2
      have R := Lib.hid (fun w => from_run ((v1 : Int)) v2 v3 v4 v5 v6 v7 w)
      unfold dAgg at R
      obtain ⟨z, k, hx⟩ := fromV_anyP ((v1 : Int)) v2 v3 v4 v5 v6 v7
      rw [hx] at hv R
      replace hv := Lib.hid hv
      clear hx
      go_wp2_with fail
      refine (R.out _).mono ?_
      rintro _ v9 ⟨rfl, hb⟩
      replace B := Lib.hid (B.out.trans (hb.mono B.out.size))
      clear R hb
      go_wp2_with fail
      go_ret2
      exact ⟨by rw [hv.out]; rfl, B.out⟩
    · clear sg2
      replace B := Lib.hid (Bm.out (-(v1 : Int)))
      have R := Lib.hid (fun w => from_run (-(v1 : Int)) v2 v3 v4 v5 v6 v7 w)
      unfold dAgg at R
      obtain ⟨z, k, hx⟩ := fromV_anyP (-(v1 : Int)) v2 v3 v4 v5 v6 v7
      rw [hx] at hv R
      replace hv := Lib.hid hv
      clear hx
      go_wp2_with fail
      refine (R.out _).mono ?_
      rintro _ v9 ⟨rfl, hb⟩
      replace B := Lib.hid (B.out.trans (hb.mono B.out.size))
      clear R hb
      go_wp2_with fail
      go_ret2
      exact ⟨by rw [hv.out]; rfl, B.out⟩
set_option maxRecDepth 100000 in
theorem parse_run (s : ByteArray) (u : World) : Calls Tryz.prog 11 #[.string s] u fun e u' => e = .returned (parV (byI s)) ∧ Below u.heap.size u u' := by
  cases h : isSt (byI s) with
  | true => exact parse_yes s h u
  | false => exact parse_no s h u
end Go.Proofs.YtpnncmdeidbemaaGreatDoor

namespace Go.Proofs.YtpnncmdeidbemaaGreatDoor
open Go.ChangeShapes Go.WideShapes Go.ChangeAt Go.RowKit
theorem prV_form (t : Int) : ∃ S e, prV t = .tuple #[.string S, .int .i64 e] := by
  by_cases h : isI t = true
  · exact ⟨_, _, prV_t h⟩
  · exact ⟨_, _, prV_f (by rwa [Bool.not_eq_true] at h)⟩
theorem parV_form (L : List Int) : ∃ x e, parV L = .tuple #[.int .i64 x, .int .i64 e] := by
  by_cases h : isSt L = true
  · rw [parV_yes h]
    unfold fromV
    split
    · exact ⟨_, _, rfl⟩
    · exact ⟨_, _, rfl⟩
  · exact ⟨_, _, parV_no (by rwa [Bool.not_eq_true] at h)⟩
theorem stD_bytes (y : Int) (mo dy hr mi se tk : Nat) : ∀ x ∈ stD y mo dy hr mi se tk, 0 ≤ x ∧ x < 256 := by
  intro x hx
  have D : ∀ w n, x ∈ dgI w n → 0 ≤ x ∧ x < 256 := fun w n h => by have := dgI_digit w n x h; omega
  unfold stD at hx
  simp only [List.mem_append, List.mem_singleton] at hx
  rcases hx with ((((((((((((hx | hx) | hx) | hx) | hx) | hx) | hx) | hx) | hx) | hx) | hx) | hx) | hx) | hx
  all_goals first | exact D _ _ hx | (split at hx <;> omega) | omega
theorem stampL_size (t : Int) : (strOfNums (stampL t)).size = 26 := by
  rw [strOfNums_size]; exact stD_len ..
theorem par_stamp {t : Int} (h : isI t = true) : parV (byI (strOfNums (stampL t))) = .tuple #[.int .i64 t, .int .i64 0] := by
  rw [byI_str (stampL t) (stD_bytes _ _ _ _ _ _ _)]
  obtain ⟨h0, h1, h2, h3, h4, h5, h6, h7⟩ := stampL_read h
  rw [parV_yes h0, h1, h2, h3, h4, h5, h6, h7, fromV_t (isD_of t) (by rw [inst_of]; exact h), inst_of]
theorem byI_bytes (s : ByteArray) : ∀ x ∈ byI s, 0 ≤ x ∧ x < 256 := by
  intro x hx
  unfold byI at hx
  obtain ⟨c, -, rfl⟩ := List.mem_map.1 hx
  have := c.toNat_lt
  omega
theorem str_byI (s : ByteArray) : strOfNums (byI s) = s := byI_inj (byI_str _ (byI_bytes s))
theorem par_back (s : ByteArray) : (∃ x, parV (byI s) = .tuple #[.int .i64 x, .int .i64 0] ∧ prV x = .tuple #[.string s, .int .i64 0]) ∨ (∃ e : Int, parV (byI s) = .tuple #[.int .i64 0, .int .i64 e] ∧ (e != 0) = true) := by
  by_cases h : isSt (byI s) = true
  · rw [parV_yes h]
    unfold fromV
    split
    · rename_i q
      refine .inl ⟨_, rfl, ?_⟩
      rw [prV_t q.2, stampL_write h q.1, str_byI]
    · exact .inr ⟨80, rfl, rfl⟩
  · rw [Bool.not_eq_true] at h
    rw [parV_no h]
    exact .inr ⟨90, rfl, rfl⟩
end Go.Proofs.YtpnncmdeidbemaaGreatDoor

namespace Go.Proofs.YtpnncmdeidbemaaGreatDoor
open Go.ChangeShapes Go.WideShapes Go.ChangeAt Go.RowKit
theorem bl_map : ∀ (L M : List Int), (∀ x ∈ L, 0 ≤ x ∧ x < 256) → (∀ x ∈ M, 0 ≤ x ∧ x < 256) → Op.bytesLess (L.map fun n => UInt8.ofNat n.toNat) (M.map fun n => UInt8.ofNat n.toNat) = lessL L M
  | [], [], _, _ => by simp [Op.bytesLess, lessL]
  | [], _ :: _, _, _ => by simp [Op.bytesLess, lessL]
  | _ :: _, [], _, _ => by simp [Op.bytesLess, lessL]
  | a :: l, b :: m, hl, hm => by
    have ih := bl_map l m (fun x hx => hl x (List.mem_cons_of_mem _ hx)) (fun x hx => hm x (List.mem_cons_of_mem _ hx))
    have ha := hl a (List.mem_cons_self ..)
    have hb := hm b (List.mem_cons_self ..)
    have ta : (UInt8.ofNat a.toNat).toNat = a.toNat := by rw [UInt8.toNat_ofNat']; exact Nat.mod_eq_of_lt (by show a.toNat < 256; omega)
    have tb : (UInt8.ofNat b.toNat).toNat = b.toNat := by rw [UInt8.toNat_ofNat']; exact Nat.mod_eq_of_lt (by show b.toNat < 256; omega)
    rw [List.map_cons, List.map_cons, Op.bytesLess, lessL, ih]
    by_cases q : a = b
    · subst q
      rw [if_pos rfl, decide_eq_false (by rw [UInt8.lt_iff_toNat_lt]; omega), Bool.false_or, beq_self_eq_true, Bool.true_and]
    · rw [if_neg q]
      have n : (UInt8.ofNat a.toNat == UInt8.ofNat b.toNat) = false := by
        rw [beq_eq_false_iff_ne]
        intro e
        have := congrArg UInt8.toNat e
        rw [ta, tb] at this
        omega
      rw [n, Bool.false_and, Bool.or_false]
      apply decide_eq_decide.2
      rw [UInt8.lt_iff_toNat_lt, ta, tb]
      omega
theorem less_str (L M : List Int) (hL : ∀ x ∈ L, 0 ≤ x ∧ x < 256) (hM : ∀ x ∈ M, 0 ≤ x ∧ x < 256) : Op.bytesLess (strOfNums L).toList (strOfNums M).toList = lessL L M := by
  have e : ∀ X : List Int, (strOfNums X).toList = X.map fun n => UInt8.ofNat n.toNat := fun X => (ByteArray.toList_eq _).trans (strOfNums_data X)
  rw [e, e]
  exact bl_map L M hL hM
theorem less_stamp {t u : Int} (ht : isI t = true) (hu : isI u = true) (h0 : 0 ≤ dYr t) (k0 : 0 ≤ dYr u) : Op.bytesLess (strOfNums (stampL t)).toList (strOfNums (stampL u)).toList = decide (t < u) := by
  rw [less_str (stampL t) (stampL u) (stD_bytes _ _ _ _ _ _ _) (stD_bytes _ _ _ _ _ _ _)]
  exact stampL_order ht hu h0 k0
end Go.Proofs.YtpnncmdeidbemaaGreatDoor
