/- Proved here: what the texts Szq, Szr, Sla, Slo prove, one behind the other. -/
import Derived.Test.YtpnncmdeidbemaaDoorJs14
import Derived.Test.YtpnncmdeidbemaaDoorJs1
import Derived.Test.YtpnncmdeidbemaaDoorJs7
import Derived.BigQuiet
import Derived.Deep.QuietTactic
import Derived.Test.YtpnncmdeidbemaaDoorJs9
import Derived.Test.YtpnncmdeidbemaaDoorJs12
import Derived.Test.YtpnncmdeidbemaaDoorJs10
import Derived.Test.YtpnncmdeidbemaaDoorJs15

namespace Go.Proofs.YtpnncmdeidbemaaDoor
open Go.ChangeShapes Go.WideShapes Go.ChangeAt Go.RowKit

def isDgB (c : Int) : Bool := decide (48 ≤ c ∧ c ≤ 57)
/-- may c stand where the form has f? -/
def stdB (c f : Int) : Bool := if f = 48 then isDgB c else if f = 43 then (decide (c = 43) || decide (c = 45)) else decide (c = f)
def formF : List Int := [43, 48, 48, 48, 48, 48, 45, 48, 48, 45, 48, 48, 32, 48, 48, 58, 48, 48, 58, 48, 48, 46, 48, 48, 48, 48]
/-- the form, byte by byte -/
theorem isSt_form {L : List Int} (hl : L.length = 26) : isSt L = (!decide (L.take 6 = [45, 48, 48, 48, 48, 48]) && (List.range 26).all fun i => stdB (L.getD i 0) (formF.getD i 0)) := by
  match L, hl with
  | [c0, c1, c2, c3, c4, c5, c6, c7, c8, c9, c10, c11, c12, c13, c14, c15, c16, c17, c18, c19, c20, c21, c22, c23, c24, c25], _ =>
    have ea : ((List.range 26).all fun i => stdB ([c0, c1, c2, c3, c4, c5, c6, c7, c8, c9, c10, c11, c12, c13, c14, c15, c16, c17, c18, c19, c20, c21, c22, c23, c24, c25].getD i 0) (formF.getD i 0)) =
      ((decide (c0 = 43) || decide (c0 = 45)) && (isDgB c1 && (isDgB c2 && (isDgB c3 && (isDgB c4 && (isDgB c5 && (decide (c6 = 45) && (isDgB c7 && (isDgB c8 && (decide (c9 = 45) && (isDgB c10 && (isDgB c11 && (decide (c12 = 32) && (isDgB c13 && (isDgB c14 && (decide (c15 = 58) && (isDgB c16 && (isDgB c17 && (decide (c18 = 58) && (isDgB c19 && (isDgB c20 && (decide (c21 = 46) && (isDgB c22 && (isDgB c23 && (isDgB c24 && (isDgB c25 && true)))))))))))))))))))))))))) := rfl
    rw [ea, Bool.eq_iff_iff]
    constructor
    · intro h
      obtain ⟨_, h0, h6, h9, h12, h15, h18, h21, a, b, c, d, e, f, g, k⟩ := isSt_parts h
      have a' : ∀ x ∈ [c1, c2, c3, c4, c5], 48 ≤ x ∧ x ≤ 57 := digB_iff.1 a
      have b' : ∀ x ∈ [c7, c8], 48 ≤ x ∧ x ≤ 57 := digB_iff.1 b
      have c' : ∀ x ∈ [c10, c11], 48 ≤ x ∧ x ≤ 57 := digB_iff.1 c
      have d' : ∀ x ∈ [c13, c14], 48 ≤ x ∧ x ≤ 57 := digB_iff.1 d
      have e' : ∀ x ∈ [c16, c17], 48 ≤ x ∧ x ≤ 57 := digB_iff.1 e
      have f' : ∀ x ∈ [c19, c20], 48 ≤ x ∧ x ≤ 57 := digB_iff.1 f
      have g' : ∀ x ∈ [c22, c23, c24, c25], 48 ≤ x ∧ x ≤ 57 := digB_iff.1 g
      have k' : ¬ (c0 = 45 ∧ numI [c1, c2, c3, c4, c5] 0 = 0) := k
      have h0' : c0 = 43 ∨ c0 = 45 := h0
      have h6' : c6 = 45 := h6
      have h9' : c9 = 45 := h9
      have h12' : c12 = 32 := h12
      have h15' : c15 = 58 := h15
      have h18' : c18 = 58 := h18
      have h21' : c21 = 46 := h21
      have nk : ¬ [c0, c1, c2, c3, c4, c5] = [45, 48, 48, 48, 48, 48] := fun e => by
        simp only [List.cons.injEq, and_true] at e
        obtain ⟨rfl, rfl, rfl, rfl, rfl, rfl⟩ := e
        exact k' ⟨rfl, rfl⟩
      simp only [List.mem_cons, List.not_mem_nil, or_false, forall_eq_or_imp, forall_eq] at a' b' c' d' e' f' g'
      simp only [List.take_succ_cons, List.take_zero, Bool.and_eq_true, Bool.not_eq_true', Bool.or_eq_true, decide_eq_true_eq, isDgB, and_true]
      exact ⟨decide_eq_false nk, h0', a'.1, a'.2.1, a'.2.2.1, a'.2.2.2.1, a'.2.2.2.2, h6', b'.1, b'.2, h9', c'.1, c'.2, h12', d'.1, d'.2, h15', e'.1, e'.2, h18', f'.1, f'.2, h21', g'.1, g'.2.1, g'.2.2.1, g'.2.2.2⟩
    · intro h
      simp only [List.take_succ_cons, List.take_zero, Bool.and_eq_true, Bool.not_eq_true', Bool.or_eq_true, decide_eq_true_eq, isDgB, and_true] at h
      obtain ⟨nk, h0, a1, a2, a3, a4, a5, h6, b1, b2, h9, d1, d2, h12, e1, e2, h15, f1, f2, h18, g1, g2, h21, i1, i2, i3, i4⟩ := h
      refine isSt_mk rfl h0 h6 h9 h12 h15 h18 h21 (digB_iff.2 ?_) (digB_iff.2 ?_) (digB_iff.2 ?_) (digB_iff.2 ?_) (digB_iff.2 ?_) (digB_iff.2 ?_) (digB_iff.2 ?_) ?_
      · show ∀ x ∈ [c1, c2, c3, c4, c5], _
        simp only [List.mem_cons, List.not_mem_nil, or_false, forall_eq_or_imp, forall_eq]; exact ⟨a1, a2, a3, a4, a5⟩
      · show ∀ x ∈ [c7, c8], _
        simp only [List.mem_cons, List.not_mem_nil, or_false, forall_eq_or_imp, forall_eq]; exact ⟨b1, b2⟩
      · show ∀ x ∈ [c10, c11], _
        simp only [List.mem_cons, List.not_mem_nil, or_false, forall_eq_or_imp, forall_eq]; exact ⟨d1, d2⟩
      · show ∀ x ∈ [c13, c14], _
        simp only [List.mem_cons, List.not_mem_nil, or_false, forall_eq_or_imp, forall_eq]; exact ⟨e1, e2⟩
      · show ∀ x ∈ [c16, c17], _
        simp only [List.mem_cons, List.not_mem_nil, or_false, forall_eq_or_imp, forall_eq]; exact ⟨f1, f2⟩
      · show ∀ x ∈ [c19, c20], _
        simp only [List.mem_cons, List.not_mem_nil, or_false, forall_eq_or_imp, forall_eq]; exact ⟨g1, g2⟩
      · show ∀ x ∈ [c22, c23, c24, c25], _
        simp only [List.mem_cons, List.not_mem_nil, or_false, forall_eq_or_imp, forall_eq]; exact ⟨i1, i2, i3, i4⟩
      · intro ⟨x, y⟩
        have x' : c0 = 45 := x
        have y' : ((((0 * 10 + (c1 - 48).toNat) * 10 + (c2 - 48).toNat) * 10 + (c3 - 48).toNat) * 10 + (c4 - 48).toNat) * 10 + (c5 - 48).toNat = 0 := y
        refine of_decide_eq_false nk ?_
        simp only [List.cons.injEq, and_true]
        omega
theorem form_at : ∀ i (h : i < (ByteArray.mk #[43, 48, 48, 48, 48, 48, 45, 48, 48, 45, 48, 48, 32, 48, 48, 58, 48, 48, 58, 48, 48, 46, 48, 48, 48, 48]).size), (((ByteArray.mk #[43, 48, 48, 48, 48, 48, 45, 48, 48, 45, 48, 48, 32, 48, 48, 58, 48, 48, 58, 48, 48, 46, 48, 48, 48, 48])[i].toNat : Nat) : Int) = formF.getD i 0 := by
  intro i h
  have h' : i < 26 := h
  have : i = 0 ∨ i = 1 ∨ i = 2 ∨ i = 3 ∨ i = 4 ∨ i = 5 ∨ i = 6 ∨ i = 7 ∨ i = 8 ∨ i = 9 ∨ i = 10 ∨ i = 11 ∨ i = 12 ∨ i = 13 ∨ i = 14 ∨ i = 15 ∨ i = 16 ∨ i = 17 ∨ i = 18 ∨ i = 19 ∨ i = 20 ∨ i = 21 ∨ i = 22 ∨ i = 23 ∨ i = 24 ∨ i = 25 := by omega
  rcases this with rfl | rfl | rfl | rfl | rfl | rfl | rfl | rfl | rfl | rfl | rfl | rfl | rfl | rfl | rfl | rfl | rfl | rfl | rfl | rfl | rfl | rfl | rfl | rfl | rfl | rfl <;> rfl
theorem byI_inj {s t : ByteArray} (h : byI s = byI t) : s = t := by
  apply ByteArray.ext
  apply Array.toList_inj.1
  unfold byI at h
  refine List.map_inj_right (fun a b hab => ?_) |>.1 h
  have : a.toNat = b.toNat := by omega
  exact UInt8.toNat_inj.1 this
end Go.Proofs.YtpnncmdeidbemaaDoor

namespace Go.Proofs.YtpnncmdeidbemaaDoor
open Go.ChangeShapes Go.WideShapes Go.ChangeAt Go.RowKit

end Go.Proofs.YtpnncmdeidbemaaDoor

namespace Go.Proofs.YtpnncmdeidbemaaDoor
open Go.ChangeShapes Go.WideShapes Go.ChangeAt Go.RowKit
theorem prV_form (t : Int) : ∃ S e, prV t = .tuple #[.string S, .int .i64 e] := by
  by_cases h : isI t = true
  · exact ⟨_, _, prV_t h⟩
  · exact ⟨_, _, prV_f (by rwa [Bool.not_eq_true] at h)⟩
theorem parV_form (L : List Int) : ∃ x e, parV L = .tuple #[.int .i64 x, .int .i64 e] := by
  by_cases h : isSt L = true
  · rw [parV_yes h]
    unfold fromV
    split
    · exact ⟨_, _, rfl⟩
    · exact ⟨_, _, rfl⟩
  · exact ⟨_, _, parV_no (by rwa [Bool.not_eq_true] at h)⟩
theorem stD_bytes (y : Int) (mo dy hr mi se tk : Nat) : ∀ x ∈ stD y mo dy hr mi se tk, 0 ≤ x ∧ x < 256 := by
  intro x hx
  have D : ∀ w n, x ∈ dgI w n → 0 ≤ x ∧ x < 256 := fun w n h => by have := dgI_digit w n x h; omega
  unfold stD at hx
  simp only [List.mem_append, List.mem_singleton] at hx
  rcases hx with ((((((((((((hx | hx) | hx) | hx) | hx) | hx) | hx) | hx) | hx) | hx) | hx) | hx) | hx) | hx
  all_goals first | exact D _ _ hx | (split at hx <;> omega) | omega
theorem stampL_size (t : Int) : (strOfNums (stampL t)).size = 26 := by
  rw [strOfNums_size]; exact stD_len ..
theorem par_stamp {t : Int} (h : isI t = true) : parV (byI (strOfNums (stampL t))) = .tuple #[.int .i64 t, .int .i64 0] := by
  rw [byI_str (stampL t) (stD_bytes _ _ _ _ _ _ _)]
  obtain ⟨h0, h1, h2, h3, h4, h5, h6, h7⟩ := stampL_read h
  rw [parV_yes h0, h1, h2, h3, h4, h5, h6, h7, fromV_t (isD_of t) (by rw [inst_of]; exact h), inst_of]
theorem byI_bytes (s : ByteArray) : ∀ x ∈ byI s, 0 ≤ x ∧ x < 256 := by
  intro x hx
  unfold byI at hx
  obtain ⟨c, -, rfl⟩ := List.mem_map.1 hx
  have := c.toNat_lt
  omega
theorem str_byI (s : ByteArray) : strOfNums (byI s) = s := byI_inj (byI_str _ (byI_bytes s))
theorem par_back (s : ByteArray) : (∃ x, parV (byI s) = .tuple #[.int .i64 x, .int .i64 0] ∧ prV x = .tuple #[.string s, .int .i64 0]) ∨ (∃ e : Int, parV (byI s) = .tuple #[.int .i64 0, .int .i64 e] ∧ (e != 0) = true) := by
  by_cases h : isSt (byI s) = true
  · rw [parV_yes h]
    unfold fromV
    split
    · rename_i q
      refine .inl ⟨_, rfl, ?_⟩
      rw [prV_t q.2, stampL_write h q.1, str_byI]
    · exact .inr ⟨80, rfl, rfl⟩
  · rw [Bool.not_eq_true] at h
    rw [parV_no h]
    exact .inr ⟨90, rfl, rfl⟩
end Go.Proofs.YtpnncmdeidbemaaDoor

namespace Go.Proofs.YtpnncmdeidbemaaDoor
open Go.ChangeShapes Go.WideShapes Go.ChangeAt Go.RowKit
theorem bl_map : ∀ (L M : List Int), (∀ x ∈ L, 0 ≤ x ∧ x < 256) → (∀ x ∈ M, 0 ≤ x ∧ x < 256) → Op.bytesLess (L.map fun n => UInt8.ofNat n.toNat) (M.map fun n => UInt8.ofNat n.toNat) = lessL L M
  | [], [], _, _ => by simp [Op.bytesLess, lessL]
  | [], _ :: _, _, _ => by simp [Op.bytesLess, lessL]
  | _ :: _, [], _, _ => by simp [Op.bytesLess, lessL]
  | a :: l, b :: m, hl, hm => by
    have ih := bl_map l m (fun x hx => hl x (List.mem_cons_of_mem _ hx)) (fun x hx => hm x (List.mem_cons_of_mem _ hx))
    have ha := hl a (List.mem_cons_self ..)
    have hb := hm b (List.mem_cons_self ..)
    have ta : (UInt8.ofNat a.toNat).toNat = a.toNat := by rw [UInt8.toNat_ofNat']; exact Nat.mod_eq_of_lt (by show a.toNat < 256; omega)
    have tb : (UInt8.ofNat b.toNat).toNat = b.toNat := by rw [UInt8.toNat_ofNat']; exact Nat.mod_eq_of_lt (by show b.toNat < 256; omega)
    rw [List.map_cons, List.map_cons, Op.bytesLess, lessL, ih]
    by_cases q : a = b
    · subst q
      rw [if_pos rfl, decide_eq_false (by rw [UInt8.lt_iff_toNat_lt]; omega), Bool.false_or, beq_self_eq_true, Bool.true_and]
    · rw [if_neg q]
      have n : (UInt8.ofNat a.toNat == UInt8.ofNat b.toNat) = false := by
        rw [beq_eq_false_iff_ne]
        intro e
        have := congrArg UInt8.toNat e
        rw [ta, tb] at this
        omega
      rw [n, Bool.false_and, Bool.or_false]
      apply decide_eq_decide.2
      rw [UInt8.lt_iff_toNat_lt, ta, tb]
      omega
theorem less_str (L M : List Int) (hL : ∀ x ∈ L, 0 ≤ x ∧ x < 256) (hM : ∀ x ∈ M, 0 ≤ x ∧ x < 256) : Op.bytesLess (strOfNums L).toList (strOfNums M).toList = lessL L M := by
  have e : ∀ X : List Int, (strOfNums X).toList = X.map fun n => UInt8.ofNat n.toNat := fun X => (ByteArray.toList_eq _).trans (strOfNums_data X)
  rw [e, e]
  exact bl_map L M hL hM
theorem less_stamp {t u : Int} (ht : isI t = true) (hu : isI u = true) (h0 : 0 ≤ dYr t) (k0 : 0 ≤ dYr u) : Op.bytesLess (strOfNums (stampL t)).toList (strOfNums (stampL u)).toList = decide (t < u) := by
  rw [less_str (stampL t) (stampL u) (stD_bytes _ _ _ _ _ _ _) (stD_bytes _ _ _ _ _ _ _)]
  exact stampL_order ht hu h0 k0
end Go.Proofs.YtpnncmdeidbemaaDoor
