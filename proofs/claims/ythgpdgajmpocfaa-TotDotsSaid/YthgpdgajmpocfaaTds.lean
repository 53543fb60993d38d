/- Proved here: what the program's Dot and Sign answer, over the translated code. -/
import Derived.Test.YthgpdgajmpocfaaTdt
namespace Go.Proofs.Ythgpdgajmpocfaa
open Go.ChangeShapes Go.WideShapes Go.ChangeAt Go.RowKit Ieee.Own

/-! ### the sign of an expansion -/
theorem gt_zero (b : Nat) (hb : FinW b) : (FloatKind.f64.format.order b 0 == some Ordering.gt) = decide (0 < V b) := by
  rw [o_gtr b 0 hb.1 (by omega), decide_eq_decide]
  have h1 := hb.1
  have h2 := hb.2
  unfold V nn key64
  by_cases h : b < 9223372036854775808
  · have hz : val 52 b = 0 ↔ b = 0 := val_zero_iff 52 _
    rw [if_pos h, if_pos h, if_pos (by omega)]
    constructor
    · rintro ⟨-, -, h3⟩; omega
    · intro h3; exact ⟨by omega, by omega, by omega⟩
  · rw [if_neg h, if_neg h, if_pos (by omega)]
    constructor
    · rintro ⟨-, -, h3⟩; omega
    · intro h3; omega
theorem isnan_run (u : Nat) (h : FinW u) (w : World) : Calls Try.prog 70 #[.float .f64 u] w fun e w' => e = .returned (.bool false) ∧ w = w' := by
  have t : (FloatKind.f64.format.order u u != some Ordering.eq) = false := by
    show (!(FloatKind.f64.format.order u u == some Ordering.eq)) = false
    rw [eq_words h h]; simp
  clear h
  go_enter Try.func70, Try.ntmps70
  go_wp2_with fail
  go_ret
  exact ⟨rfl, rfl⟩
theorem compare_run (u : Nat) (h : FinW u) (w : World) : Calls Try.prog 63 #[.float .f64 u, .float .f64 0] w fun e w' => e = .returned (.int .i64 (signI (V u))) ∧ w = w' := by
  have N1 := fun w => isnan_run u h w
  have N2 := fun w => isnan_run 0 ⟨by omega, by omega⟩ w
  have t1 := lt_zero u h
  have t2 := gt_zero u h
  unfold signI
  by_cases c1 : V u < 0
  · rw [decide_eq_true c1] at t1
    rw [if_pos c1]
    clear c1 h t2
    go_enter Try.func63, Try.ntmps63
    go_wp2_with (first | (go_at_call 70; ((with_reducible refine (N1 _).mono ?_); rintro e w' ⟨rfl, rfl⟩)) | (go_at_call 70; ((with_reducible refine (N2 _).mono ?_); rintro e w' ⟨rfl, rfl⟩)))
    go_ret
    exact ⟨rfl, rfl⟩
  rw [decide_eq_false c1] at t1
  rw [if_neg c1]
  by_cases c2 : V u = 0
  · rw [decide_eq_false (by omega)] at t2
    rw [if_pos c2]
    clear c1 c2 h
    go_enter Try.func63, Try.ntmps63
    go_wp2_with (first | (go_at_call 70; ((with_reducible refine (N1 _).mono ?_); rintro e w' ⟨rfl, rfl⟩)) | (go_at_call 70; ((with_reducible refine (N2 _).mono ?_); rintro e w' ⟨rfl, rfl⟩)))
    go_ret
    exact ⟨rfl, rfl⟩
  · rw [decide_eq_true (by omega)] at t2
    rw [if_neg c2]
    clear c1 c2 h
    go_enter Try.func63, Try.ntmps63
    go_wp2_with (first | (go_at_call 70; ((with_reducible refine (N1 _).mono ?_); rintro e w' ⟨rfl, rfl⟩)) | (go_at_call 70; ((with_reducible refine (N2 _).mono ?_); rintro e w' ⟨rfl, rfl⟩)))
    go_ret
    exact ⟨rfl, rfl⟩

theorem esign_core (g cap n : Nat) (u : Nat) (h : FinW u) (hn : n + 1 ≤ 4611686018427387904) (w : World) (hc : w.cell? ⟨g, n, none⟩ = some (.float .f64 u)) :
    Calls Try.prog 46 #[.slice (some ⟨g, 0, none⟩) (n + 1) cap] w fun e w' => e = .returned (.int .i64 (signI (V u))) ∧ w = w' := by
  have C := fun w => compare_run u h w
  clear h
  go_enter Try.func46, Try.ntmps46
  go_wp2_with (go_at_call 63; ((with_reducible refine (C _).mono ?_); rintro e w' ⟨rfl, rfl⟩))
  go_ret
  exact ⟨rfl, rfl⟩
theorem esign_none (ao : Option Addr) (cap : Nat) (w : World) :
    Calls Try.prog 46 #[.slice ao 0 cap] w fun e w' => e = .returned (.int .i64 0) ∧ w = w' := by
  go_enter Try.func46, Try.ntmps46
  go_wp2_with fail
  go_ret
  exact ⟨rfl, rfl⟩
theorem esign_run (b K : Nat) (us : List Nat) (z : Int) (w : World) (E : Exp b w us) (P : Parts K z (vs us)) (hl : us.length ≤ 4096) {v : Value} (hv : w.heap[b]? = some (.cells #[v] 48 (0, 0))) :
    Calls Try.prog 46 #[v] w fun e w' => e = .returned (.int .i64 (signI z)) ∧ w = w' := by
  obtain ⟨v', hv', ho⟩ := E.own
  obtain rfl : v = v' := by rw [hv] at hv'; simpa using hv'
  by_cases hu : us = []
  · have hz : z = 0 := by rw [← P.sum, hu]; rfl
    obtain ⟨ao, m, c, rfl⟩ := owns_slice ho
    have hm : m = 0 := by
      rcases ho.2 with ⟨h, _⟩ | ⟨g, cap, cur, h, _⟩
      · simp at h; exact h.2.1
      · simp at h; rw [h.2.1, hu]; rfl
    subst hm hz
    exact esign_none ao c w
  · rcases ho.2 with ⟨_, h0⟩ | ⟨g, cap, cur, rfl, hg, hr, hn, hcm, hsz, ht⟩
    · exact absurd (List.eq_nil_of_length_eq_zero h0) hu
    · rw [Nat.mul_one] at hsz ht
      have hIn := InRow.of_take ht
      obtain ⟨n, hn'⟩ : ∃ n, us.length = n + 1 := ⟨us.length - 1, by have := List.length_pos_iff.2 hu; omega⟩
      have hcell := (RowAt.cell hr n).trans (hIn n (by omega) (by omega))
      have hs : signI z = signI (V (us.getD n 0)) := by
        have hsplit := take_last (ps := vs us) (k := n) (by rw [vs_len]; omega)
        rw [List.take_of_length_le (by rw [vs_len]; omega), vs_getD us (by omega)] at hsplit
        have hno := P.no
        rw [hsplit] at hno
        obtain ⟨a, b, c⟩ := sign_last hno
        rw [← hsplit, P.sum] at b c
        unfold signI
        by_cases c1 : z < 0
        · rw [if_pos c1, if_pos (b.1 c1)]
        · rw [if_neg c1, if_neg (fun h => c1 (b.2 h)), if_neg (by omega), if_neg a]
      rw [hs, hn']
      exact esign_core g cap n _ (E.fin.at (by omega)) (by omega) w hcell

/-! ### the checks of two lists -/
def errB (L M : List Nat) : Int := if errL L ≠ 0 then errL L else if errL M ≠ 0 then errL M else if L.length ≠ M.length then 1 else 0
theorem errB_zero {L M : List Nat} (h : errB L M = 0) : errL L = 0 ∧ errL M = 0 ∧ L.length = M.length := by
  unfold errB at h
  by_cases h1 : errL L = 0
  · rw [if_neg (by simpa using h1)] at h
    by_cases h2 : errL M = 0
    · rw [if_neg (by simpa using h2)] at h
      by_cases h3 : L.length = M.length
      · exact ⟨h1, h2, h3⟩
      · rw [if_pos h3] at h; omega
    · rw [if_pos h2] at h; exact absurd h h2
  · rw [if_pos h1] at h; exact absurd h h1

theorem checkboth_run (ao bo : Option Addr) (cap cap' n m : Nat) (L M : List Nat) (w : World) (hn : n = L.length) (hm : m = M.length) (hnm : n ≤ 4611686018427387904) (hmm : m ≤ 4611686018427387904) (hw : Words L) (hw' : Words M) (ha : At w ao L) (hb : At w bo M) :
    Calls Try.prog 43 #[.slice ao n cap, .slice bo m cap'] w fun e w' => e = .returned (.int .i64 (errB L M)) ∧ w = w' := by
  have K1 := check_run ao cap n L w hn hnm hw ha
  have K2 := check_run bo cap' m M w hm hmm hw' hb
  have hE : errB L M = if errL L ≠ 0 then errL L else if errL M ≠ 0 then errL M else if n ≠ m then 1 else 0 := by unfold errB; rw [hn, hm]
  rw [hE]
  clear hE hn hm hw hw' ha hb
  generalize errL L = e1 at *
  generalize errL M = e2 at *
  by_cases h1 : e1 = 0
  · subst h1
    rw [if_neg (by simp)]
    by_cases h2 : e2 = 0
    · subst h2
      rw [if_neg (by simp)]
      by_cases h3 : n = m
      · subst h3
        rw [if_neg (by simp)]
        go_enter Try.func43, Try.ntmps43
        go_wp2_with (first | (go_at_call 33; ((with_reducible refine K1.mono ?_); rintro e w' ⟨rfl, rfl⟩)) | (go_at_call 33; ((with_reducible refine K2.mono ?_); rintro e w' ⟨rfl, rfl⟩)))
        go_ret
        exact ⟨rfl, rfl⟩
      · rw [if_pos h3]
        have t : ((n : Int) != (m : Int)) = true := by simp; omega
        clear h3
        go_enter Try.func43, Try.ntmps43
        go_wp2_with (first | (go_at_call 33; ((with_reducible refine K1.mono ?_); rintro e w' ⟨rfl, rfl⟩)) | (go_at_call 33; ((with_reducible refine K2.mono ?_); rintro e w' ⟨rfl, rfl⟩)))
        go_ret
        exact ⟨rfl, rfl⟩
    · rw [if_pos h2]
      have t : (e2 != 0) = true := by simpa using h2
      clear h2
      go_enter Try.func43, Try.ntmps43
      go_wp2_with (first | (go_at_call 33; ((with_reducible refine K1.mono ?_); rintro e w' ⟨rfl, rfl⟩)) | (go_at_call 33; ((with_reducible refine K2.mono ?_); rintro e w' ⟨rfl, rfl⟩)))
      go_ret
      exact ⟨rfl, rfl⟩
  · rw [if_pos h1]
    have t : (e1 != 0) = true := by simpa using h1
    clear h1
    go_enter Try.func43, Try.ntmps43
    go_wp2_with (go_at_call 33; ((with_reducible refine K1.mono ?_); rintro e w' ⟨rfl, rfl⟩))
    go_ret
    exact ⟨rfl, rfl⟩

/-- what Dot, Sign are to answer -/
def DotIs (L M : List Nat) (r : Nat) : Prop := (errB L M = 0 → Near (prodL L M).sum r) ∧ (errB L M ≠ 0 → r = 0)
def signS (L M : List Nat) : Int := if errB L M = 0 then signI (prodL L M).sum else 0
/-- a whole number and an error's number -/
def ie (a : Int) (c : Int) : Value := .tuple #[.int .i64 a, .int .i64 c]

theorem dot_run (ao bo : Option Addr) (cap cap' n m : Nat) (L M : List Nat) (w : World) (hn : n = L.length) (hm : m = M.length) (hnm : n ≤ 4611686018427387904) (hmm : m ≤ 4611686018427387904) (hw : Words L) (hw' : Words M) (ha : At w ao L) (hb : At w bo M) :
    Calls Try.prog 24 #[.slice ao n cap, .slice bo m cap'] w fun e w' => (∃ r, e = .returned (fe r (errB L M)) ∧ DotIs L M r) ∧ Below w.heap.size w w' := by
  have K := checkboth_run ao bo cap cap' n m L M w hn hm hnm hmm hw hw' ha hb
  by_cases h0 : errB L M = 0
  · obtain ⟨e1, e2, e3⟩ := errB_zero h0
    obtain ⟨hl, hf⟩ := errL_zero e1
    obtain ⟨hl', hf'⟩ := errL_zero e2
    obtain rfl : m = n := by omega
    have P := products_run ao bo cap cap' m L M w hn e3.symm hl hw hw' hf hf' ha hb
    have hE : Hid (∀ r, Near (prodL L M).sum r → DotIs L M r) := fun r hr => ⟨fun _ => hr, fun h => absurd h0 h⟩
    rw [h0] at K ⊢
    clear e1 e2 e3 hl hf hl' hf' hn hm hw hw' ha hb h0
    go_enter Try.func24, Try.ntmps24
    go_wp2_with (go_at_call 43; ((with_reducible refine K.mono ?_); rintro e w' ⟨rfl, rfl⟩))
    refine P.mono ?_
    rintro _ w1 ⟨⟨v, rfl, hv⟩, G⟩
    obtain ⟨us, E, PP, hu⟩ := G.st
    have N := nearest_run _ 1490 us _ w1 E PP (by omega) (by omega) hv
    have hold := Lib.hid G.old
    clear G E PP hu hv K P
    go_wp2_with (go_at_call 40; ((with_reducible refine N.mono ?_); rintro en w2 ⟨⟨r, rfl, hr⟩, rfl⟩; replace hr := Lib.hid hr))
    go_ret2
    exact ⟨⟨r, rfl, hE.out r hr.out⟩, hold.out⟩
  · have hE : Hid (DotIs L M 0) := ⟨fun h => absurd h h0, fun _ => rfl⟩
    have t : (errB L M != 0) = true := by simpa using h0
    generalize errB L M = er at *
    clear h0 ha hb hw hw' hn hm
    go_enter Try.func24, Try.ntmps24
    go_wp2_with (go_at_call 43; ((with_reducible refine K.mono ?_); rintro e w' ⟨rfl, rfl⟩))
    go_ret2
    exact ⟨⟨0, rfl, hE.out⟩, Below.refl _ _⟩

theorem psign_run (ao bo : Option Addr) (cap cap' n m : Nat) (L M : List Nat) (w : World) (hn : n = L.length) (hm : m = M.length) (hnm : n ≤ 4611686018427387904) (hmm : m ≤ 4611686018427387904) (hw : Words L) (hw' : Words M) (ha : At w ao L) (hb : At w bo M) :
    Calls Try.prog 26 #[.slice ao n cap, .slice bo m cap'] w fun e w' => e = .returned (ie (signS L M) (errB L M)) ∧ Below w.heap.size w w' := by
  have K := checkboth_run ao bo cap cap' n m L M w hn hm hnm hmm hw hw' ha hb
  unfold signS
  by_cases h0 : errB L M = 0
  · obtain ⟨e1, e2, e3⟩ := errB_zero h0
    obtain ⟨hl, hf⟩ := errL_zero e1
    obtain ⟨hl', hf'⟩ := errL_zero e2
    obtain rfl : m = n := by omega
    have P := products_run ao bo cap cap' m L M w hn e3.symm hl hw hw' hf hf' ha hb
    rw [if_pos h0]
    rw [h0] at K ⊢
    obtain ⟨sg, hsg⟩ : ∃ s, s = signI (prodL L M).sum := ⟨_, rfl⟩
    rw [← hsg]
    replace hsg := Lib.hid hsg
    clear e1 e2 e3 hl hf hl' hf' hn hm hw hw' ha hb h0
    go_enter Try.func26, Try.ntmps26
    go_wp2_with (go_at_call 43; ((with_reducible refine K.mono ?_); rintro e w' ⟨rfl, rfl⟩))
    refine P.mono ?_
    rintro _ w1 ⟨⟨v, rfl, hv⟩, G⟩
    obtain ⟨us, E, PP, hu⟩ := G.st
    have N := esign_run _ 1490 us _ w1 E PP (by omega) hv
    have hold := Lib.hid G.old
    rw [← hsg.out] at N
    clear G E PP hu hv K P
    go_wp2_with (go_at_call 46; ((with_reducible refine N.mono ?_); rintro en w2 ⟨rfl, rfl⟩))
    go_ret2
    exact ⟨rfl, hold.out⟩
  · rw [if_neg h0]
    have t : (errB L M != 0) = true := by simpa using h0
    generalize errB L M = er at *
    clear h0 ha hb hw hw' hn hm
    go_enter Try.func26, Try.ntmps26
    go_wp2_with (go_at_call 43; ((with_reducible refine K.mono ?_); rintro e w' ⟨rfl, rfl⟩))
    go_ret2
    exact ⟨rfl, Below.refl _ _⟩
end Go.Proofs.Ythgpdgajmpocfaa
