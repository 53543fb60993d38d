/- Proved here: what the expansion's calls nearest and sign answer, over the translated code; each under the conditions of its theorem. -/
import Derived.Test.YthgpdgajmpocfaaTad
namespace Go.Proofs.Ythgpdgajmpocfaa
open Go.ChangeShapes Go.WideShapes Go.ChangeAt Go.RowKit Ieee.Own

theorem key_V {a b : Nat} (ha : FinW a) (hb : FinW b) (h : key64 a = key64 b) : V a = V b := by
  have a1 := ha.1
  have b1 := hb.1
  unfold key64 at h
  unfold V
  by_cases h1 : a < 9223372036854775808 <;> by_cases h2 : b < 9223372036854775808
  · rw [if_pos h1, if_pos h2] at h ⊢
    rw [show a = b by omega]
  · rw [if_pos h1, if_neg h2] at h
    rw [if_pos h1, if_neg h2, show a = 0 by omega, show b - 9223372036854775808 = 0 by omega, val_zero]; rfl
  · rw [if_neg h1, if_pos h2] at h
    rw [if_neg h1, if_pos h2, show b = 0 by omega, show a - 9223372036854775808 = 0 by omega, val_zero]; rfl
  · rw [if_neg h1, if_neg h2] at h ⊢
    rw [show a = b by omega]
theorem eq_words {a b : Nat} (ha : FinW a) (hb : FinW b) : (FloatKind.f64.format.order a b == some Ordering.eq) = decide (V a = V b) := by
  rw [o_eql a b ha.1 hb.1, decide_eq_decide]
  constructor
  · exact fun h => key_V ha hb h.2.2
  · exact fun h => ⟨by have := ha.2; unfold nn; omega, by have := hb.2; unfold nn; omega, V_key ha hb h⟩

/-- the numbers of a list stand at the head of a block -/
def Cells (w : World) (g : Nat) (us : List Nat) : Prop := ∀ j, j < us.length → w.cell? ⟨g, j, none⟩ = some (.float .f64 (us.getD j 0))
theorem vs_getD (us : List Nat) {j : Nat} (h : j < us.length) : (vs us).getD j 0 = V (us.getD j 0) := by
  simp [vs, List.getD, h]
theorem sum_ne {us : List Nat} (n : NoL 0 (vs us)) (h : us ≠ []) : (vs us).sum ≠ 0 := by
  obtain ⟨qs, q, hq⟩ : ∃ qs q, vs us = qs ++ [q] := by
    have : vs us ≠ [] := by simpa [vs] using h
    exact ⟨_, _, (List.dropLast_concat_getLast this).symm⟩
  rw [hq] at n ⊢
  obtain ⟨a, b, c⟩ := sign_last n
  omega

theorem sum_take_le (ps : List Int) (k : Nat) : (ps.take k).sum.natAbs ≤ absSum ps := by
  have h1 := sum_le_abs (ps.take k)
  have h2 : absSum (ps.take k) ≤ absSum ps := by
    have := absSum_app (ps.take k) (ps.drop k)
    rw [List.take_append_drop] at this; omega
  omega
theorem at_le {us : List Nat} {j : Nat} (h : j < us.length) : (V (us.getD j 0)).natAbs ≤ absSum (vs us) := by
  induction us generalizing j with
  | nil => simp at h
  | cons u us ih =>
    show _ ≤ absSum (V u :: vs us)
    rw [absSum_cons]
    cases j with
    | zero => simp [List.getD]
    | succ j =>
      have := ih (j := j) (by simpa using h)
      simp only [List.getD, List.getElem?_cons_succ] at this ⊢
      omega
theorem top_bound {z : Int} {us : List Nat} {k K : Nat} {s r : Int} (T : Top z (vs us) k s r) (hz : (vs us).sum = z) (hA : absSum (vs us) ≤ 2 ^ K) : s.natAbs ≤ 2 ^ (K + 1) ∧ r.natAbs ≤ 2 ^ (K + 2) := by
  have h1 := sum_take_le (vs us) k
  have h2 := sum_le_abs (vs us)
  have h3 := T.sum
  have e1 := two_succ K
  have e2 : 2 ^ (K + 2) = 2 * 2 ^ (K + 1) := two_succ (K + 1)
  by_cases hr : r = 0
  · subst hr; simp; omega
  · have h4 := (T.some hr).1
    have h5 : (RN (s + r)).natAbs ≤ 2 ^ (K + 1) := RN_bound (by omega)
    rw [← h4] at h5
    omega

theorem add_fin {a b k : Nat} (ha : FinW a) (hb : FinW b) (xa : (V a).natAbs ≤ 2 ^ k) (xb : (V b).natAbs ≤ 2 ^ k) (hk : k < 2000) :
    ∃ r, FinW r ∧ V r = RN (V a + V b) ∧ ∀ t w, (binOp .add t (.float .f64 a) (.float .f64 b)).run Try.prog w = .ok (.float .f64 r) w := by
  obtain ⟨r, h1, h2, h3, -⟩ := addW ha hb xa xb hk
  exact ⟨r, h2, h3, run_add _ _ _ h1⟩
theorem sub_fin {a b k : Nat} (ha : FinW a) (hb : FinW b) (xa : (V a).natAbs ≤ 2 ^ k) (xb : (V b).natAbs ≤ 2 ^ k) (hk : k < 2000) :
    ∃ r, FinW r ∧ V r = RN (V a - V b) ∧ ∀ t w, (binOp .sub t (.float .f64 a) (.float .f64 b)).run Try.prog w = .ok (.float .f64 r) w := by
  obtain ⟨r, h1, h2, h3, -⟩ := subW ha hb xa xb hk
  exact ⟨r, h2, h3, run_sub _ _ _ h1⟩

/-- a world that is another -/
def SameW (w wr : World) : Prop := wr = w
/-- a word that is the whole, rounded -/
def Round (z : Int) (e : Ending) : Prop := ∃ r, e = .returned (.float .f64 r) ∧ FinW r ∧ V r = RN z

set_option maxHeartbeats 2000000 in
theorem nearest_core (g cap n K : Nat) (us : List Nat) (w : World) (hn : us.length = n + 1) (hcap : n + 1 ≤ 4611686018427387904) (fu : Fins us) (hc : Cells w g us) (no : NoL 0 (vs us)) (hA : absSum (vs us) ≤ 2 ^ K) (hK : K < 1880) :
    Calls Try.prog 40 #[.slice (some ⟨g, 0, none⟩) (n + 1) cap] w fun e w' => Round (vs us).sum e ∧ w = w' := by
  obtain ⟨z, hz⟩ : ∃ z, (vs us).sum = z := ⟨_, rfl⟩
  have nos := NoS_start no
  have T0 := Top.start nos hz (k := n) (by rw [vs_len]; exact hn)
  rw [vs_getD us (by omega)] at T0
  have hc0 := hc n (by omega)
  have f0 := fu.at (i := n) (by omega)
  obtain ⟨u0, hu0⟩ : ∃ u, u = us.getD n 0 := ⟨_, rfl⟩
  rw [← hu0] at T0 hc0 f0
  clear hu0
  replace T0 := Lib.hid T0
  replace f0 := Lib.hid f0
  replace fu := Lib.hid fu
  replace hc := Lib.hid hc
  replace hA := Lib.hid hA
  replace nos := Lib.hid nos
  rw [hz]
  replace hz := Lib.hid hz
  replace hn := Lib.hid hn
  clear no
  go_enter Try.func40, Try.ntmps40
  go_wp2_with fail
  go_loopw [3, 4, 5] (fun nv sv rv wr => ∃ (k s r : Nat), k ≤ n ∧ nv = .int .i64 k ∧ sv = .float .f64 s ∧ rv = .float .f64 r ∧ FinW s ∧ FinW r ∧ Hid (Top z (vs us) k (V s) (V r)) ∧ SameW w wr) (fun nv _ _ _ => (intOf nv).toNat)
  case atStart => exact ⟨n, u0, 0, Nat.le_refl _, rfl, rfl, rfl, f0.out, ⟨by omega, by omega⟩, T0, rfl⟩
  case round =>
    obtain ⟨k, s, r, hk, rfl, rfl, rfl, fs, fr, T, hw⟩ := hrel
    obtain rfl : wr = w := hw
    obtain ⟨bs, br⟩ := top_bound T.out hz.out hA.out
    have t0 := eq_zero r fr
    by_cases hgo : 0 < k ∧ V r = 0
    · obtain ⟨j, rfl⟩ : ∃ j, k = j + 1 := ⟨k - 1, by omega⟩
      have hju : j < us.length := by have := hn.out; omega
      have hcell := hc.out j hju
      have hT := T.out
      rw [hgo.2] at hT
      have HT := Top.step nos.out hT
      rw [vs_getD us hju] at HT
      have bj := at_le hju
      have fj := fu.out.at hju
      obtain ⟨u, hu⟩ : ∃ u, u = us.getD j 0 := ⟨_, rfl⟩
      rw [← hu] at HT hcell bj fj
      clear hu
      obtain ⟨s', e', fs', fe', ev, ee, C⟩ := twosum_run fs fj (k := K + 1) bs (abs_up (Nat.le_trans bj hA.out) (by omega)) (by omega)
      rw [← ee, ← ev] at HT
      replace HT := Lib.hid HT
      rw [decide_eq_true hgo.2] at t0
      clear hgo T hT bs br fs fr ev ee bj fj hju
      go_wp2_with (go_at_call 53; ((with_reducible refine (C _).mono ?_); rintro en w' ⟨rfl, rfl⟩; unfold ff))
      go_roundw
      case rel => (repeat apply Exists.intro); exact ⟨⟨j, s', e', by omega, by go_num, rfl, rfl, fs', fe', HT, rfl⟩, rfl⟩
      case measure => simp [intOf]
    · by_cases hk0 : k = 0
      · subst hk0
        have HR : Hid (Round z (.returned (.float .f64 s))) := ⟨s, rfl, fs, (Top.plain nos.out T.out (Or.inl rfl)).symm⟩
        clear hgo T bs br fs fr t0
        go_wp2_with fail
        go_ret
        exact ⟨HR.out, rfl⟩
      · obtain ⟨j, rfl⟩ : ∃ j, k = j + 1 := ⟨k - 1, by omega⟩
        have hr0 : V r ≠ 0 := fun h => hgo ⟨by omega, h⟩
        rw [decide_eq_false hr0] at t0
        have hju : j < us.length := by have := hn.out; omega
        have hcell := hc.out j hju
        have fj := fu.out.at hju
        have t1 := lt_zero r fr
        have t2 := lt_zero _ fj
        have hpl := fun (h : ¬ ((V r < 0) ↔ ((vs us).getD j 0 < 0))) => Top.plain nos.out T.out (Or.inr ⟨j, rfl, hr0, h⟩)
        have hot := Top.other nos.out T.out hr0
        rw [vs_getD us hju] at hpl hot
        obtain ⟨u, hu⟩ : ∃ u, u = us.getD j 0 := ⟨_, rfl⟩
        rw [← hu] at hcell fj t2 hpl hot
        clear hu
        by_cases hsg : (V r < 0) ↔ (V u < 0)
        · have h2 := hot hsg
          obtain ⟨st, f1, v1, q1⟩ := add_fin fr fr (k := K + 2) br br (by omega)
          have v1' : V st = 2 * V r := by rw [v1, show V r + V r = 2 * V r by omega, RN_two, RN_exact (Rep_V r)]
          obtain ⟨ot, f2, v2, q2⟩ := add_fin fs f1 (k := K + 3) (abs_up bs (by omega)) (by have : 2 ^ (K + 3) = 2 * 2 ^ (K + 2) := two_succ (K + 2); omega) (by omega)
          have b2 : (V ot).natAbs ≤ 2 ^ (K + 4) := by
            rw [v2]; refine RN_bound ?_
            have : 2 ^ (K + 2) = 2 * 2 ^ (K + 1) := two_succ (K + 1)
            have : 2 ^ (K + 3) = 2 * 2 ^ (K + 2) := two_succ (K + 2)
            have : 2 ^ (K + 4) = 2 * 2 ^ (K + 3) := two_succ (K + 3)
            omega
          obtain ⟨d, f3, v3, q3⟩ := sub_fin f2 fs (k := K + 4) b2 (abs_up bs (by omega)) (by omega)
          have t3 := eq_words f3 f1
          rw [v3, v2, v1'] at t3
          have tt : (decide (V r < 0) == decide (V u < 0)) = true := by simp [hsg]
          rw [v1'] at v2
          by_cases he : RN (RN (V s + 2 * V r) - V s) = 2 * V r
          · rw [decide_eq_true he] at t3
            have HR : Hid (Round z (.returned (.float .f64 ot))) := ⟨ot, rfl, f2, by rw [v2]; exact (h2.1 he).symm⟩
            clear hgo T bs br fs fr hpl hot h2 v1 v1' v2 v3 b2 f1 f2 f3 he hsg hr0 fj hk0
            generalize decide (V r < 0) = c1 at *
            generalize decide (V u < 0) = c2 at *
            go_wp2_with fail
            go_ret
            exact ⟨HR.out, rfl⟩
          · rw [decide_eq_false he] at t3
            have HR : Hid (Round z (.returned (.float .f64 s))) := ⟨s, rfl, fs, (h2.2 he).symm⟩
            clear hgo T bs br fs fr hpl hot h2 v1 v1' v2 v3 b2 f1 f2 f3 he hsg hr0 fj hk0
            generalize decide (V r < 0) = c1 at *
            generalize decide (V u < 0) = c2 at *
            go_wp2_with fail
            go_ret
            exact ⟨HR.out, rfl⟩
        · have HR : Hid (Round z (.returned (.float .f64 s))) := ⟨s, rfl, fs, (hpl hsg).symm⟩
          have tt : (decide (V r < 0) == decide (V u < 0)) = false := by
            rw [Bool.eq_false_iff]; intro h; apply hsg; simpa using h
          clear hgo T bs br fs fr hpl hot hsg hr0 fj hk0
          generalize decide (V r < 0) = c1 at *
          generalize decide (V u < 0) = c2 at *
          go_wp2_with fail
          go_ret
          exact ⟨HR.out, rfl⟩

theorem nearest_none (ao : Option Addr) (cap : Nat) (w : World) :
    Calls Try.prog 40 #[.slice ao 0 cap] w fun e w' => e = .returned (.float .f64 0) ∧ w = w' := by
  go_enter Try.func40, Try.ntmps40
  go_wp2_with fail
  go_ret
  exact ⟨rfl, rfl⟩
end Go.Proofs.Ythgpdgajmpocfaa
