/- Proved here: what the texts Stm, Sdn prove, one behind the other. -/
import Derived.Test.YtpnncmdeidbemaaGreatDoorJs1

namespace Go.Proofs.YtpnncmdeidbemaaGreatDoor

def digB (l : List Int) : Bool := l.all fun x => decide (48 ≤ x ∧ x ≤ 57)
theorem digB_iff {l : List Int} : digB l = true ↔ ∀ x ∈ l, 48 ≤ x ∧ x ≤ 57 := by
  unfold digB
  rw [List.all_eq_true]
  simp only [decide_eq_true_eq]
theorem digB_dgI (w n : Nat) : digB (dgI w n) = true := digB_iff.2 (dgI_digit w n)
/-- the text of a date: its sign, its numbers' digits -/
def stD (y : Int) (mo dy hr mi se tk : Nat) : List Int :=
  ((((((((((((([if y < 0 then 45 else 43]) ++ (dgI 5 y.natAbs)) ++ [45]) ++ (dgI 2 mo)) ++ [45]) ++ (dgI 2 dy)) ++ [32]) ++ (dgI 2 hr)) ++ [58]) ++ (dgI 2 mi)) ++ [58]) ++ (dgI 2 se)) ++ [46]) ++ (dgI 4 tk)
/-- the stamp of an instant -/
def stampL (t : Int) : List Int := stD (dYr t) (dMo t).toNat (dDy t).toNat (dHr t).toNat (dMi t).toNat (dSe t).toNat (dTk t).toNat
theorem stD_len (y : Int) (mo dy hr mi se tk : Nat) : (stD y mo dy hr mi se tk).length = 26 := by
  unfold stD
  simp only [List.length_append, dgI_len, List.length_cons, List.length_nil]
theorem form2 {l : List Int} (h : l.length = 2) : ∃ a b, l = [a, b] := by
  match l, h with
  | [a, b], _ => exact ⟨a, b, rfl⟩
theorem form4 {l : List Int} (h : l.length = 4) : ∃ a b c d, l = [a, b, c, d] := by
  match l, h with
  | [a, b, c, d], _ => exact ⟨a, b, c, d, rfl⟩
theorem form5 {l : List Int} (h : l.length = 5) : ∃ a b c d e, l = [a, b, c, d, e] := by
  match l, h with
  | [a, b, c, d, e], _ => exact ⟨a, b, c, d, e, rfl⟩
/-- a piece of a text -/
def pc (L : List Int) (a b : Nat) : List Int := (L.drop a).take (b - a)
def at_ (L : List Int) (i : Nat) : Int := L.getD i 0
/-- has a text a stamp's form? -/
def isSt (L : List Int) : Bool := decide (L.length = 26) && (decide (at_ L 0 = 43) || decide (at_ L 0 = 45)) && decide (at_ L 6 = 45) && decide (at_ L 9 = 45) && decide (at_ L 12 = 32) && decide (at_ L 15 = 58) && decide (at_ L 18 = 58) && decide (at_ L 21 = 46) &&
  (digB (pc L 1 6) && digB (pc L 7 9) && digB (pc L 10 12) && digB (pc L 13 15) && digB (pc L 16 18) && digB (pc L 19 21) && digB (pc L 22 26)) && !(decide (at_ L 0 = 45) && decide (numI (pc L 1 6) 0 = 0))
/-- the year that a stamp tells -/
def stY (L : List Int) : Int := if at_ L 0 = 45 then -(numI (pc L 1 6) 0 : Int) else (numI (pc L 1 6) 0 : Int)
def nf (L : List Int) (a b : Nat) : Nat := numI (pc L a b) 0
/-- what stands in a date that a stamp tells, and what is written of it -/
theorem isSt_parts {L : List Int} (h : isSt L = true) : L.length = 26 ∧ (at_ L 0 = 43 ∨ at_ L 0 = 45) ∧ at_ L 6 = 45 ∧ at_ L 9 = 45 ∧ at_ L 12 = 32 ∧ at_ L 15 = 58 ∧ at_ L 18 = 58 ∧ at_ L 21 = 46 ∧
    digB (pc L 1 6) = true ∧ digB (pc L 7 9) = true ∧ digB (pc L 10 12) = true ∧ digB (pc L 13 15) = true ∧ digB (pc L 16 18) = true ∧ digB (pc L 19 21) = true ∧ digB (pc L 22 26) = true ∧ ¬ (at_ L 0 = 45 ∧ numI (pc L 1 6) 0 = 0) := by
  unfold isSt at h
  simp only [Bool.and_eq_true, Bool.or_eq_true, decide_eq_true_eq, Bool.not_eq_true', Bool.and_eq_false_iff, decide_eq_false_iff_not] at h
  obtain ⟨⟨⟨⟨⟨⟨⟨⟨⟨h1, h2⟩, h3⟩, h4⟩, h5⟩, h6⟩, h7⟩, h8⟩, ⟨⟨⟨⟨⟨⟨a, b⟩, c⟩, d⟩, e⟩, f⟩, g⟩⟩, k⟩ := h
  exact ⟨h1, h2, h3, h4, h5, h6, h7, h8, a, b, c, d, e, f, g, fun ⟨x, y⟩ => by rcases k with k | k; exact k x; exact k y⟩
theorem isSt_mk {L : List Int} (h1 : L.length = 26) (h2 : at_ L 0 = 43 ∨ at_ L 0 = 45) (h3 : at_ L 6 = 45) (h4 : at_ L 9 = 45) (h5 : at_ L 12 = 32) (h6 : at_ L 15 = 58) (h7 : at_ L 18 = 58) (h8 : at_ L 21 = 46)
    (a : digB (pc L 1 6) = true) (b : digB (pc L 7 9) = true) (c : digB (pc L 10 12) = true) (d : digB (pc L 13 15) = true) (e : digB (pc L 16 18) = true) (f : digB (pc L 19 21) = true) (g : digB (pc L 22 26) = true) (k : ¬ (at_ L 0 = 45 ∧ numI (pc L 1 6) 0 = 0)) : isSt L = true := by
  unfold isSt
  simp only [Bool.and_eq_true, Bool.or_eq_true, decide_eq_true_eq, Bool.not_eq_true', Bool.and_eq_false_iff, decide_eq_false_iff_not]
  refine ⟨⟨⟨⟨⟨⟨⟨⟨⟨h1, h2⟩, h3⟩, h4⟩, h5⟩, h6⟩, h7⟩, h8⟩, ⟨⟨⟨⟨⟨⟨a, b⟩, c⟩, d⟩, e⟩, f⟩, g⟩⟩, ?_⟩
  by_cases q : at_ L 0 = 45
  · exact .inr fun r => k ⟨q, r⟩
  · exact .inl q
theorem num_small {w n : Nat} (h : n < 10 ^ w) : numI (dgI w n) 0 = n := by
  rw [numI_dgI, Nat.zero_mul, Nat.zero_add, Nat.mod_eq_of_lt h]
/-- a date's text has the form, and tells the date -/
theorem stD_read {y : Int} {mo dy hr mi se tk : Nat} (hy : y.natAbs < 100000) (h1 : mo < 100) (h2 : dy < 100) (h3 : hr < 100) (h4 : mi < 100) (h5 : se < 100) (h6 : tk < 10000) :
    isSt (stD y mo dy hr mi se tk) = true ∧ stY (stD y mo dy hr mi se tk) = y ∧ nf (stD y mo dy hr mi se tk) 7 9 = mo ∧ nf (stD y mo dy hr mi se tk) 10 12 = dy ∧ nf (stD y mo dy hr mi se tk) 13 15 = hr ∧ nf (stD y mo dy hr mi se tk) 16 18 = mi ∧ nf (stD y mo dy hr mi se tk) 19 21 = se ∧ nf (stD y mo dy hr mi se tk) 22 26 = tk := by
  obtain ⟨y1, y2, y3, y4, y5, fy⟩ := form5 (dgI_len 5 y.natAbs)
  obtain ⟨a1, a2, fa⟩ := form2 (dgI_len 2 mo)
  obtain ⟨b1, b2, fb⟩ := form2 (dgI_len 2 dy)
  obtain ⟨c1, c2, fc⟩ := form2 (dgI_len 2 hr)
  obtain ⟨d1, d2, fd⟩ := form2 (dgI_len 2 mi)
  obtain ⟨e1, e2, fe⟩ := form2 (dgI_len 2 se)
  obtain ⟨t1, t2, t3, t4, ft⟩ := form4 (dgI_len 4 tk)
  have n1 : numI (dgI 5 y.natAbs) 0 = y.natAbs := num_small hy
  have n2 := num_small (w := 2) h1
  have n3 := num_small (w := 2) h2
  have n4 := num_small (w := 2) h3
  have n5 := num_small (w := 2) h4
  have n6 := num_small (w := 2) h5
  have n7 := num_small (w := 4) h6
  have g1 := digB_dgI 5 y.natAbs
  have g2 := digB_dgI 2 mo
  have g3 := digB_dgI 2 dy
  have g4 := digB_dgI 2 hr
  have g5 := digB_dgI 2 mi
  have g6 := digB_dgI 2 se
  have g7 := digB_dgI 4 tk
  obtain ⟨sg, hsg⟩ : ∃ sg, sg = (if y < 0 then (45 : Int) else 43) := ⟨_, rfl⟩
  have eL : stD y mo dy hr mi se tk = [sg, y1, y2, y3, y4, y5, 45, a1, a2, 45, b1, b2, 32, c1, c2, 58, d1, d2, 58, e1, e2, 46, t1, t2, t3, t4] := by
    unfold stD
    rw [fy, fa, fb, fc, fd, fe, ft, ← hsg]
    rfl
  rw [eL]
  rw [fy] at n1 g1
  rw [fa] at n2 g2
  rw [fb] at n3 g3
  rw [fc] at n4 g4
  rw [fd] at n5 g5
  rw [fe] at n6 g6
  rw [ft] at n7 g7
  have sgs : sg = 43 ∨ sg = 45 := by rw [hsg]; split
                                     · exact .inr rfl
                                     · exact .inl rfl
  have k : ¬ (sg = 45 ∧ numI [y1, y2, y3, y4, y5] 0 = 0) := by
    rw [n1, hsg]
    intro ⟨a, b⟩
    split at a
    · omega
    · omega
  refine ⟨isSt_mk rfl sgs rfl rfl rfl rfl rfl rfl g1 g2 g3 g4 g5 g6 g7 k, ?_, n2, n3, n4, n5, n6, n7⟩
  show (if sg = 45 then -(numI [y1, y2, y3, y4, y5] 0 : Int) else (numI [y1, y2, y3, y4, y5] 0 : Int)) = y
  rw [n1, hsg]
  by_cases q : y < 0
  · rw [if_pos q, if_pos rfl]; omega
  · rw [if_neg q, if_neg (by decide)]; omega
/-- a text of the form is what is written of the date that it tells -/
theorem stD_write {L : List Int} (h : isSt L = true) : stD (stY L) (nf L 7 9) (nf L 10 12) (nf L 13 15) (nf L 16 18) (nf L 19 21) (nf L 22 26) = L := by
  obtain ⟨hl, h0, h6, h9, h12, h15, h18, h21, a, b, c, d, e, f, g, k⟩ := isSt_parts h
  match L, hl with
  | [c0, c1, c2, c3, c4, c5, c6, c7, c8, c9, c10, c11, c12, c13, c14, c15, c16, c17, c18, c19, c20, c21, c22, c23, c24, c25], _ =>
    have q1 : dgI 5 (numI [c1, c2, c3, c4, c5] 0) = [c1, c2, c3, c4, c5] := dgI_numI _ (digB_iff.1 a) 0
    have q2 : dgI 2 (numI [c7, c8] 0) = [c7, c8] := dgI_numI _ (digB_iff.1 b) 0
    have q3 : dgI 2 (numI [c10, c11] 0) = [c10, c11] := dgI_numI _ (digB_iff.1 c) 0
    have q4 : dgI 2 (numI [c13, c14] 0) = [c13, c14] := dgI_numI _ (digB_iff.1 d) 0
    have q5 : dgI 2 (numI [c16, c17] 0) = [c16, c17] := dgI_numI _ (digB_iff.1 e) 0
    have q6 : dgI 2 (numI [c19, c20] 0) = [c19, c20] := dgI_numI _ (digB_iff.1 f) 0
    have q7 : dgI 4 (numI [c22, c23, c24, c25] 0) = [c22, c23, c24, c25] := dgI_numI _ (digB_iff.1 g) 0
    have r0 : c0 = 43 ∨ c0 = 45 := h0
    have r6 : c6 = 45 := h6
    have r9 : c9 = 45 := h9
    have r12 : c12 = 32 := h12
    have r15 : c15 = 58 := h15
    have r18 : c18 = 58 := h18
    have r21 : c21 = 46 := h21
    have k' : ¬ (c0 = 45 ∧ numI [c1, c2, c3, c4, c5] 0 = 0) := k
    have eY : stY [c0, c1, c2, c3, c4, c5, c6, c7, c8, c9, c10, c11, c12, c13, c14, c15, c16, c17, c18, c19, c20, c21, c22, c23, c24, c25] = if c0 = 45 then -(numI [c1, c2, c3, c4, c5] 0 : Int) else (numI [c1, c2, c3, c4, c5] 0 : Int) := rfl
    have s1 : (if c0 = 45 then -(numI [c1, c2, c3, c4, c5] 0 : Int) else (numI [c1, c2, c3, c4, c5] 0 : Int)).natAbs = numI [c1, c2, c3, c4, c5] 0 := by split <;> omega
    have s0 : (if (if c0 = 45 then -(numI [c1, c2, c3, c4, c5] 0 : Int) else (numI [c1, c2, c3, c4, c5] 0 : Int)) < 0 then (45 : Int) else 43) = c0 := by
      rcases r0 with r0 | r0
      · rw [if_neg (by omega : ¬ c0 = 45), if_neg (by omega)]; omega
      · rw [if_pos r0, if_pos (by have : ¬ numI [c1, c2, c3, c4, c5] 0 = 0 := fun z => k' ⟨r0, z⟩; omega)]; omega
    unfold stD
    rw [eY, s0, s1, q1]
    show _ ++ dgI 2 (numI [c7, c8] 0) ++ [45] ++ dgI 2 (numI [c10, c11] 0) ++ [32] ++ dgI 2 (numI [c13, c14] 0) ++ [58] ++ dgI 2 (numI [c16, c17] 0) ++ [58] ++ dgI 2 (numI [c19, c20] 0) ++ [46] ++ dgI 4 (numI [c22, c23, c24, c25] 0) = _
    rw [q2, q3, q4, q5, q6, q7, r6, r9, r12, r15, r18, r21]
    rfl
/-! ### in order -/
/-- does one text come ahead of another one? -/
def lessL : List Int → List Int → Bool
  | [], [] => false
  | [], _ :: _ => true
  | _ :: _, [] => false
  | a :: l, b :: m => if a = b then lessL l m else decide (a < b)
theorem lessL_app : ∀ (p l m : List Int), lessL (p ++ l) (p ++ m) = lessL l m
  | [], _, _ => rfl
  | a :: p, l, m => by
    show (if a = a then lessL (p ++ l) (p ++ m) else decide (a < a)) = _
    rw [if_pos rfl, lessL_app p]
/-- digits of one length come as their numbers do -/
theorem lessL_dgI : ∀ (w a b : Nat) (l m : List Int), a < 10 ^ w → b < 10 ^ w → lessL (dgI w a ++ l) (dgI w b ++ m) = if a = b then lessL l m else decide (a < b)
  | 0, a, b, l, m, ha, hb => by
    have e1 : a = 0 := by simp at ha; exact ha
    have e2 : b = 0 := by simp at hb; exact hb
    subst e1; subst e2; rfl
  | w + 1, a, b, l, m, ha, hb => by
    have pw : 10 ^ (w + 1) = 10 ^ w * 10 := Nat.pow_succ 10 w
    have ih := lessL_dgI w (a / 10) (b / 10) ([48 + ((a % 10 : Nat) : Int)] ++ l) ([48 + ((b % 10 : Nat) : Int)] ++ m) (by omega) (by omega)
    rw [dgI_succ, dgI_succ, List.append_assoc, List.append_assoc, ih]
    by_cases e : a / 10 = b / 10
    · rw [if_pos e]
      show (if 48 + ((a % 10 : Nat) : Int) = 48 + ((b % 10 : Nat) : Int) then lessL l m else decide (48 + ((a % 10 : Nat) : Int) < 48 + ((b % 10 : Nat) : Int))) = _
      by_cases e2 : a % 10 = b % 10
      · rw [if_pos (by omega), if_pos (by omega)]
      · rw [if_neg (by omega), if_neg (by omega)]
        exact decide_eq_decide.2 (by omega)
    · rw [if_neg e, if_neg (by omega)]
      exact decide_eq_decide.2 (by omega)
theorem lessL_stD (y : Nat) (mo dy hr mi se tk : Nat) (y' : Nat) (mo' dy' hr' mi' se' tk' : Nat) (h0 : y < 100000) (h1 : mo < 100) (h2 : dy < 100) (h3 : hr < 100) (h4 : mi < 100) (h5 : se < 100) (h6 : tk < 10000)
    (k0 : y' < 100000) (k1 : mo' < 100) (k2 : dy' < 100) (k3 : hr' < 100) (k4 : mi' < 100) (k5 : se' < 100) (k6 : tk' < 10000) :
    lessL (stD y mo dy hr mi se tk) (stD y' mo' dy' hr' mi' se' tk') = lexB [(y : Int), mo, dy, hr, mi, se, tk] [(y' : Int), mo', dy', hr', mi', se', tk'] := by
  have c : ∀ (a b : Nat) (p q : Bool), p = q → (if a = b then p else decide (a < b)) = (if (a : Int) = (b : Int) then q else decide ((a : Int) < (b : Int))) := fun a b p q h => by
    rw [h]
    by_cases e : a = b
    · rw [if_pos e, if_pos (by omega)]
    · rw [if_neg e, if_neg (by omega)]; exact decide_eq_decide.2 (by omega)
  unfold stD
  rw [if_neg (by omega : ¬ (y : Int) < 0), if_neg (by omega : ¬ (y' : Int) < 0)]
  simp only [List.append_assoc, Int.natAbs_natCast]
  rw [lessL_app, lessL_dgI 5 _ _ _ _ h0 k0, lessL_app, lessL_dgI 2 _ _ _ _ h1 k1, lessL_app, lessL_dgI 2 _ _ _ _ h2 k2, lessL_app, lessL_dgI 2 _ _ _ _ h3 k3, lessL_app, lessL_dgI 2 _ _ _ _ h4 k4, lessL_app, lessL_dgI 2 _ _ _ _ h5 k5, lessL_app]
  rw [← List.append_nil (dgI 4 tk), ← List.append_nil (dgI 4 tk'), lessL_dgI 4 _ _ _ _ h6 k6]
  exact c _ _ _ _ (c _ _ _ _ (c _ _ _ _ (c _ _ _ _ (c _ _ _ _ (c _ _ _ _ (c _ _ _ _ rfl))))))
/-- the numbers of an instant's date, as they are printed -/
structure Prn (t : Int) (mo dy hr mi se tk : Nat) : Prop where
  e1 : dMo t = mo
  e2 : dDy t = dy
  e3 : dHr t = hr
  e4 : dMi t = mi
  e5 : dSe t = se
  e6 : dTk t = tk
  b1 : mo ≤ 14
  b2 : dy ≤ 28
  b3 : hr ≤ 15
  b4 : mi ≤ 63
  b5 : se ≤ 63
  b6 : tk ≤ 1023
theorem prn_of (t : Int) : Prn t (dMo t).toNat (dDy t).toNat (dHr t).toNat (dMi t).toNat (dSe t).toNat (dTk t).toNat := by
  obtain ⟨⟨m1, m2⟩, ⟨d1, d2⟩, ⟨h1, h2⟩, ⟨i1, i2⟩, ⟨s1, s2⟩, ⟨k1, k2⟩⟩ := isD_parts (isD_of t)
  have d3 := (mLen_le (dYr t) (dMo t)).2
  constructor <;> omega
theorem dYr_range {t : Int} (h : isI t = true) : -45965 ≤ dYr t ∧ dYr t ≤ 45965 := by
  have := isI_b h
  exact yof_range (by omega) (by omega)
/-- a stamp has the form, and tells the date of its instant -/
theorem stampL_read {t : Int} (h : isI t = true) : isSt (stampL t) = true ∧ stY (stampL t) = dYr t ∧ (nf (stampL t) 7 9 : Int) = dMo t ∧ (nf (stampL t) 10 12 : Int) = dDy t ∧ (nf (stampL t) 13 15 : Int) = dHr t ∧ (nf (stampL t) 16 18 : Int) = dMi t ∧ (nf (stampL t) 19 21 : Int) = dSe t ∧ (nf (stampL t) 22 26 : Int) = dTk t := by
  have r := dYr_range h
  have P := prn_of t
  obtain ⟨a0, a1, a2, a3, a4, a5, a6, a7⟩ := stD_read (y := dYr t) (mo := (dMo t).toNat) (dy := (dDy t).toNat) (hr := (dHr t).toNat) (mi := (dMi t).toNat) (se := (dSe t).toNat) (tk := (dTk t).toNat) (by omega) (by have := P.b1; omega) (by have := P.b2; omega) (by have := P.b3; omega) (by have := P.b4; omega) (by have := P.b5; omega) (by have := P.b6; omega)
  unfold stampL
  exact ⟨a0, a1, by rw [a2]; exact P.e1.symm, by rw [a3]; exact P.e2.symm, by rw [a4]; exact P.e3.symm, by rw [a5]; exact P.e4.symm, by rw [a6]; exact P.e5.symm, by rw [a7]; exact P.e6.symm⟩
/-- a text that tells a date with an instant is that instant's stamp -/
theorem stampL_write {L : List Int} (h : isSt L = true) (hd : isD (stY L) (nf L 7 9) (nf L 10 12) (nf L 13 15) (nf L 16 18) (nf L 19 21) (nf L 22 26) = true) :
    stampL (inst (stY L) (nf L 7 9) (nf L 10 12) (nf L 13 15) (nf L 16 18) (nf L 19 21) (nf L 22 26)) = L := by
  obtain ⟨e0, e1, e2, e3, e4, e5, e6⟩ := of_inst hd
  unfold stampL
  rw [e0, e1, e2, e3, e4, e5, e6]
  exact stD_write h
/-- stamps stand in the order of instants -/
theorem stampL_order {t u : Int} (ht : isI t = true) (hu : isI u = true) (h0 : 0 ≤ dYr t) (k0 : 0 ≤ dYr u) : lessL (stampL t) (stampL u) = decide (t < u) := by
  have r := dYr_range ht
  have r' := dYr_range hu
  have P := prn_of t
  have P' := prn_of u
  have d := lex_dates t u
  obtain ⟨y, hy⟩ : ∃ y : Nat, dYr t = y := ⟨(dYr t).toNat, by omega⟩
  obtain ⟨y', hy'⟩ : ∃ y : Nat, dYr u = y := ⟨(dYr u).toNat, by omega⟩
  unfold dL at d
  rw [P.e1, P.e2, P.e3, P.e4, P.e5, P.e6, P'.e1, P'.e2, P'.e3, P'.e4, P'.e5, P'.e6, hy, hy'] at d
  unfold stampL
  rw [hy, hy', lessL_stD _ _ _ _ _ _ _ _ _ _ _ _ _ _ (by omega) (by have := P.b1; omega) (by have := P.b2; omega) (by have := P.b3; omega) (by have := P.b4; omega) (by have := P.b5; omega) (by have := P.b6; omega) (by omega) (by have := P'.b1; omega) (by have := P'.b2; omega) (by have := P'.b3; omega) (by have := P'.b4; omega) (by have := P'.b5; omega) (by have := P'.b6; omega)]
  exact d
end Go.Proofs.YtpnncmdeidbemaaGreatDoor

namespace Go.Proofs.YtpnncmdeidbemaaGreatDoor
open Go.ChangeShapes Go.WideShapes Go.ChangeAt Go.RowKit

/-- a text's bytes as numbers -/
def byI (s : ByteArray) : List Int := s.data.toList.map fun c => ((c.toNat : Nat) : Int)
theorem byI_len (s : ByteArray) : (byI s).length = s.size := by simp [byI]
theorem byI_at (s : ByteArray) (i : Nat) (h : i < s.size) : (byI s).getD i 0 = ((s[i].toNat : Nat) : Int) := by
  have hl : i < s.data.toList.length := by simpa using h
  simp only [byI, List.getD, List.getElem?_map, List.getElem?_eq_getElem hl, Option.map_some, Option.getD_some]
  rfl
theorem digB_not {l : List Int} {i : Nat} (hi : i < l.length) (h : ¬ (48 ≤ l.getD i 0 ∧ l.getD i 0 ≤ 57)) : digB l = false := by
  rw [← Bool.not_eq_true]
  intro e
  refine h (digB_iff.1 e _ ?_)
  simp [List.getD, hi]
theorem take_next {l : List Int} {i : Nat} (h : i < l.length) : l.take (i + 1) = l.take i ++ [l.getD i 0] := by
  rw [List.take_succ_eq_append_getElem h]; simp [List.getD, h]
/-- the value of digits; -1 where others stand -/
def valI (l : List Int) : Int := if digB l = true then (numI l 0 : Int) else -1
theorem numI_range {l : List Int} (hd : ∀ x ∈ l, 48 ≤ x ∧ x ≤ 57) (h : l.length ≤ 17) : numI l 0 < 100000000000000000 := by
  have a := numI_lt l hd 0
  have b : 10 ^ l.length ≤ 10 ^ 17 := Nat.pow_le_pow_right (by decide) h
  have c : (10 : Nat) ^ 17 = 100000000000000000 := by decide
  omega
set_option maxRecDepth 100000 in
set_option maxHeartbeats 1000000 in
theorem rnumber_run (s : ByteArray) (hs : s.size ≤ 17) (u : World) : Calls Tryz.prog 27 #[.string s] u fun e u' => e = .returned (.int .i64 (valI (byI s))) ∧ u = u' := by
  obtain ⟨L, hL⟩ : ∃ L, L = byI s := ⟨_, rfl⟩
  have ll : L.length = s.size := by rw [hL]; exact byI_len s
  have at_ : Hid (∀ i (h : i < s.size), ((s[i].toNat : Nat) : Int) = L.getD i 0) := fun i h => by rw [hL]; exact (byI_at s i h).symm
  obtain ⟨V, hV⟩ : ∃ V, V = valI L := ⟨_, rfl⟩
  rw [← hL, ← hV]
  replace hV := Lib.hid hV
  replace hL := Lib.hid hL
  replace ll := Lib.hid ll
  go_enter Tryz.func27, Tryz.ntmps27
  go_wp2_with fail
  go_loop [3, 4] (fun nv iv => ∃ i : Nat, i ≤ s.size ∧ iv = .int .i64 i ∧ nv = .int .i64 (numI (L.take i) 0 : Nat) ∧ ∀ x ∈ L.take i, 48 ≤ x ∧ x ≤ 57) (fun _ iv => s.size - (intOf iv).toNat)
  case atStart => exact ⟨0, Nat.zero_le _, rfl, rfl, fun x hx => by simp at hx⟩
  case round =>
    obtain ⟨i, hi, rfl, rfl, hd⟩ := hrel
    have r := numI_range hd (by rw [List.length_take]; have := ll.out; omega)
    by_cases hlt : i < s.size
    · have hil : i < L.length := by have := ll.out; omega
      have hx := at_.out i hlt
      have tn := take_next hil
      have hb : s[i].toNat < 256 := s[i].toNat_lt
      by_cases h1 : s[i].toNat < 48
      · have hv : V = -1 := by
          rw [hV.out]; unfold valI
          rw [if_neg (by rw [digB_not hil (by omega)]; decide)]
        have t1 : decide ((s[i].toNat : Int) < 48) = true := decide_eq_true (by omega)
        replace hv := Lib.hid hv
        clear tn hx h1 hd
        go_wp2_with fail
        go_ret
        exact ⟨ret_i hv.out.symm, rfl⟩
      · by_cases h2 : 57 < s[i].toNat
        · have hv : V = -1 := by
            rw [hV.out]; unfold valI
            rw [if_neg (by rw [digB_not hil (by omega)]; decide)]
          have t1 : decide ((s[i].toNat : Int) < 48) = false := decide_eq_false (by omega)
          have t2 : decide (57 < (s[i].toNat : Int)) = true := decide_eq_true (by omega)
          replace hv := Lib.hid hv
          clear tn hx h1 h2 hd
          go_wp2_with fail
          go_ret
          exact ⟨ret_i hv.out.symm, rfl⟩
        · have hd2 : Hid (∀ x ∈ L.take (i + 1), 48 ≤ x ∧ x ≤ 57) := fun x hm => by
            rw [tn, List.mem_append] at hm
            rcases hm with hm | hm
            · exact hd x hm
            · simp only [List.mem_singleton] at hm
              omega
          have hn2 : Hid (numI (L.take (i + 1)) 0 = numI (L.take i) 0 * 10 + (s[i].toNat - 48)) := by
            show numI (L.take (i + 1)) 0 = _
            rw [tn, numI_app]
            simp only [numI]
            omega
          have t1 : decide ((s[i].toNat : Int) < 48) = false := decide_eq_false (by omega)
          have t2 : decide (57 < (s[i].toNat : Int)) = false := decide_eq_false (by omega)
          have g1 : 48 ≤ (s[i].toNat : Int) := by omega
          have g2 : (s[i].toNat : Int) ≤ 57 := by omega
          generalize numI (L.take i) 0 = q at *
          clear tn hx h1 h2 hd
          go_wp2_with fail
          go_round
          case rel => exact ⟨i + 1, hlt, by go_num, by rw [hn2.out]; exact congrArg (Value.int .i64) (by omega), hd2.out⟩
          case measure => simp [intOf]; omega
    · obtain rfl : i = s.size := by omega
      have hv : V = (numI (L.take s.size) 0 : Nat) := by
        rw [hV.out]; unfold valI
        rw [List.take_of_length_le (by have := ll.out; omega)] at hd ⊢
        rw [if_pos (digB_iff.2 hd)]
      replace hv := Lib.hid hv
      clear hd
      go_wp2_with fail
      go_ret
      exact ⟨ret_i hv.out.symm, rfl⟩
end Go.Proofs.YtpnncmdeidbemaaGreatDoor
