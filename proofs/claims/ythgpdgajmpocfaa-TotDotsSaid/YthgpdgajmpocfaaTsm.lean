/- Proved here: what the sums from the left and from the right answer, the program's and the reference's, over the translated code. -/
import Derived.Test.YthgpdgajmpocfaaTex
namespace Go.Proofs.Ythgpdgajmpocfaa
open Go.ChangeShapes Go.WideShapes Go.ChangeAt Go.RowKit Ieee.Own

/-- operations on words, where they give one -/
def addS (a b : Nat) : Nat := (Ieee.double.add a b).getD 0
def subS (a b : Nat) : Nat := (Ieee.double.sub a b).getD 0
/-- a word of a size -/
def Sized (k : Nat) (a : Nat) : Prop := FinW a ∧ (V a).natAbs ≤ 2 ^ k
theorem Sized.up {k l a : Nat} (h : Sized k a) (hl : k ≤ l) : Sized l a := ⟨h.1, abs_up h.2 hl⟩
theorem Sized.add {k a b : Nat} (ha : Sized k a) (hb : Sized k b) (hk : k < 2000) :
    Sized (k + 1) (addS a b) ∧ V (addS a b) = RN (V a + V b) ∧ ∀ t w, (binOp .add t (.float .f64 a) (.float .f64 b)).run Try.prog w = .ok (.float .f64 (addS a b)) w := by
  obtain ⟨r, h1, h2, h3, h4⟩ := addW ha.1 hb.1 ha.2 hb.2 hk
  have e : addS a b = r := by unfold addS; rw [h1]; rfl
  rw [e]
  exact ⟨⟨h2, h4⟩, h3, run_add _ _ _ h1⟩
theorem Sized.sub {k a b : Nat} (ha : Sized k a) (hb : Sized k b) (hk : k < 2000) :
    Sized (k + 1) (subS a b) ∧ V (subS a b) = RN (V a - V b) ∧ ∀ t w, (binOp .sub t (.float .f64 a) (.float .f64 b)).run Try.prog w = .ok (.float .f64 (subS a b)) w := by
  obtain ⟨r, h1, h2, h3, h4⟩ := subW ha.1 hb.1 ha.2 hb.2 hk
  have e : subS a b = r := by unfold subS; rw [h1]; rfl
  rw [e]
  exact ⟨⟨h2, h4⟩, h3, run_sub _ _ _ h1⟩
theorem Sized.zero (k : Nat) : Sized k 0 := ⟨⟨by omega, by omega⟩, by rw [show V 0 = 0 by decide +kernel]; simp⟩
theorem fit_sized {L : List Nat} (hw : Words L) (hf : allFit L = true) {j : Nat} (hj : j < L.length) : Sized 1275 (L.getD j 0) :=
  ⟨fit_fin (hw.at hj) (allFit_at.1 hf j hj), fit_abs (k := 1275) (hw.at hj) (allFit_at.1 hf j hj) (by decide)⟩

def leftS (L : List Nat) : Nat := L.foldl addS 0
theorem leftS_succ {L : List Nat} {k : Nat} (h : k < L.length) : leftS (L.take (k + 1)) = addS (leftS (L.take k)) (L.getD k 0) := by
  unfold leftS
  rw [List.take_add_one, List.foldl_append]
  simp [List.getD, h]
/-- from the right: the first k of the list turned about -/
theorem rev_getD {L : List Nat} {k : Nat} (h : k < L.length) : L.reverse.getD k 0 = L.getD (L.length - 1 - k) 0 := by
  have h1 : L.length - 1 - k < L.length := by omega
  simp [List.getD, List.getElem?_reverse h]
def outS (L : List Nat) (r : Nat) : Nat := if errL L = 0 then r else 0


theorem left_run (ao : Option Addr) (cap n : Nat) (L : List Nat) (w : World) (hn : n = L.length) (hm : n ≤ 4611686018427387904) (hw : Words L) (ha : At w ao L) :
    Calls Try.prog 12 #[.slice ao n cap] w fun e w' => e = .returned (fe (outS L (leftS L)) (errL L)) ∧ w = w' := by
  have K0 := check_run ao cap n L w hn hm hw ha
  unfold outS
  by_cases h0 : errL L = 0
  · obtain ⟨hl, hf⟩ := errL_zero h0
    rw [h0] at K0 ⊢
    rw [if_pos rfl]
    have hsz : ∀ j, j < L.length → Sized 1275 (L.getD j 0) := fun j hj => fit_sized hw hf hj
    replace ha := Lib.hid ha
    replace hsz := Lib.hid hsz
    replace hl := Lib.hid hl
    replace hn := Lib.hid hn
    clear hw hf h0
    go_enter Try.func12, Try.ntmps12
    go_wp2_with (go_at_call 33; ((with_reducible refine K0.mono ?_); rintro e w' ⟨rfl, rfl⟩))
    go_loop [5, 15] (fun sv iv => ∃ i : Nat, i ≤ n ∧ iv = .int .i64 i ∧ sv = .float .f64 (leftS (L.take i)) ∧ Hid (Sized (1275 + i) (leftS (L.take i)))) (fun _ iv => n - (intOf iv).toNat)
    case atStart => exact ⟨0, Nat.zero_le _, rfl, rfl, Lib.hid (Sized.zero _)⟩
    case round =>
      obtain ⟨i, hi, rfl, rfl, hs⟩ := hrel
      by_cases hlt : i < n
      · have hil : i < L.length := by have := hn.out; omega
        obtain ⟨b, o, rfl, hc⟩ := ha.out i (by omega)
        obtain ⟨S1, -, R1⟩ := hs.out.add ((hsz.out i (by omega)).up (show 1275 ≤ 1275 + i by omega)) (by have := hl.out; omega)
        have hsu := leftS_succ hil
        rw [← hsu] at S1 R1
        have S2 : Hid (Sized (1275 + (i + 1)) (leftS (L.take (i + 1)))) := S1
        obtain ⟨u, hu⟩ : ∃ u, u = L.getD i 0 := ⟨_, rfl⟩
        rw [← hu] at hc R1
        obtain ⟨s, hs'⟩ : ∃ s, s = leftS (L.take i) := ⟨_, rfl⟩
        rw [← hs'] at R1 ⊢
        obtain ⟨s2, hs2⟩ : ∃ s, s = leftS (L.take (i + 1)) := ⟨_, rfl⟩
        rw [← hs2] at R1 S2
        have hs2 := Lib.hid hs2
        clear hu hs' hs hsu S1 hil
        go_wp2_with fail
        go_round
        case rel => exact ⟨i + 1, hlt, by go_num, by rw [← hs2.out], by rw [← hs2.out]; exact S2⟩
        case measure => simp [intOf]; omega
      · obtain rfl : i = n := by omega
        have hE : Hid (leftS (L.take i) = leftS L) := by show _ = _; rw [List.take_of_length_le (by have := hn.out; simp; omega)]
        obtain ⟨s, hs'⟩ : ∃ s, s = leftS (L.take i) := ⟨_, rfl⟩
        rw [← hs'] at hE ⊢
        clear hs' hs
        go_wp2_with fail
        go_ret2
        exact ⟨by rw [← hE.out]; rfl, rfl⟩
  · rw [if_neg h0]
    have t : (errL L != 0) = true := by simpa using h0
    generalize errL L = er at *
    clear h0 ha hw hn hm
    go_enter Try.func12, Try.ntmps12
    go_wp2_with (go_at_call 33; ((with_reducible refine K0.mono ?_); rintro e w' ⟨rfl, rfl⟩))
    go_ret2
    exact ⟨rfl, rfl⟩

theorem rleft_run (ao : Option Addr) (cap n : Nat) (L : List Nat) (w : World) (hn : n = L.length) (hm : n ≤ 4611686018427387904) (hw : Words L) (ha : At w ao L) :
    Calls Try.prog 13 #[.slice ao n cap] w fun e w' => e = .returned (fe (outS L (leftS L)) (errL L)) ∧ w = w' := by
  have K0 := rcheck_run ao cap n L w hn hm hw ha
  unfold outS
  by_cases h0 : errL L = 0
  · obtain ⟨hl, hf⟩ := errL_zero h0
    rw [h0] at K0 ⊢
    rw [if_pos rfl]
    have hsz : ∀ j, j < L.length → Sized 1275 (L.getD j 0) := fun j hj => fit_sized hw hf hj
    replace ha := Lib.hid ha
    replace hsz := Lib.hid hsz
    replace hl := Lib.hid hl
    replace hn := Lib.hid hn
    clear hw hf h0
    go_enter Try.func13, Try.ntmps13
    go_wp2_with (go_at_call 34; ((with_reducible refine K0.mono ?_); rintro e w' ⟨rfl, rfl⟩))
    go_loop [5, 6] (fun sv iv => ∃ i : Nat, i ≤ n ∧ iv = .int .i64 i ∧ sv = .float .f64 (leftS (L.take i)) ∧ Hid (Sized (1275 + i) (leftS (L.take i)))) (fun _ iv => n - (intOf iv).toNat)
    case atStart => exact ⟨0, Nat.zero_le _, rfl, rfl, Lib.hid (Sized.zero _)⟩
    case round =>
      obtain ⟨i, hi, rfl, rfl, hs⟩ := hrel
      by_cases hlt : i < n
      · have hil : i < L.length := by have := hn.out; omega
        obtain ⟨b, o, rfl, hc⟩ := ha.out i (by omega)
        obtain ⟨S1, -, R1⟩ := hs.out.add ((hsz.out i (by omega)).up (show 1275 ≤ 1275 + i by omega)) (by have := hl.out; omega)
        have hsu := leftS_succ hil
        rw [← hsu] at S1 R1
        have S2 : Hid (Sized (1275 + (i + 1)) (leftS (L.take (i + 1)))) := S1
        obtain ⟨u, hu⟩ : ∃ u, u = L.getD i 0 := ⟨_, rfl⟩
        rw [← hu] at hc R1
        obtain ⟨s, hs'⟩ : ∃ s, s = leftS (L.take i) := ⟨_, rfl⟩
        rw [← hs'] at R1 ⊢
        obtain ⟨s2, hs2⟩ : ∃ s, s = leftS (L.take (i + 1)) := ⟨_, rfl⟩
        rw [← hs2] at R1 S2
        have hs2 := Lib.hid hs2
        clear hu hs' hs hsu S1 hil
        go_wp2_with fail
        go_round
        case rel => exact ⟨i + 1, hlt, by go_num, by rw [← hs2.out], by rw [← hs2.out]; exact S2⟩
        case measure => simp [intOf]; omega
      · obtain rfl : i = n := by omega
        have hE : Hid (leftS (L.take i) = leftS L) := by show _ = _; rw [List.take_of_length_le (by have := hn.out; simp; omega)]
        obtain ⟨s, hs'⟩ : ∃ s, s = leftS (L.take i) := ⟨_, rfl⟩
        rw [← hs'] at hE ⊢
        clear hs' hs
        go_wp2_with fail
        go_ret2
        exact ⟨by rw [← hE.out]; rfl, rfl⟩
  · rw [if_neg h0]
    have t : (errL L != 0) = true := by simpa using h0
    generalize errL L = er at *
    clear h0 ha hw hn hm
    go_enter Try.func13, Try.ntmps13
    go_wp2_with (go_at_call 34; ((with_reducible refine K0.mono ?_); rintro e w' ⟨rfl, rfl⟩))
    go_ret2
    exact ⟨rfl, rfl⟩

theorem right_run (ao : Option Addr) (cap n : Nat) (L : List Nat) (w : World) (hn : n = L.length) (hm : n ≤ 4611686018427387904) (hw : Words L) (ha : At w ao L) :
    Calls Try.prog 15 #[.slice ao n cap] w fun e w' => e = .returned (fe (outS L (leftS L.reverse)) (errL L)) ∧ w = w' := by
  have K0 := check_run ao cap n L w hn hm hw ha
  unfold outS
  by_cases h0 : errL L = 0
  · obtain ⟨hl, hf⟩ := errL_zero h0
    rw [h0] at K0 ⊢
    rw [if_pos rfl]
    have hsz : ∀ j, j < L.length → Sized 1275 (L.getD j 0) := fun j hj => fit_sized hw hf hj
    replace ha := Lib.hid ha
    replace hsz := Lib.hid hsz
    replace hl := Lib.hid hl
    replace hn := Lib.hid hn
    clear hw hf h0
    go_enter Try.func15, Try.ntmps15
    go_wp2_with (go_at_call 33; ((with_reducible refine K0.mono ?_); rintro e w' ⟨rfl, rfl⟩))
    go_loop [5, 16] (fun sv iv => ∃ i : Nat, i ≤ n ∧ iv = .int .i64 i ∧ sv = .float .f64 (leftS (L.reverse.take i)) ∧ Hid (Sized (1275 + i) (leftS (L.reverse.take i)))) (fun _ iv => n - (intOf iv).toNat)
    case atStart => exact ⟨0, Nat.zero_le _, rfl, rfl, Lib.hid (Sized.zero _)⟩
    case round =>
      obtain ⟨i, hi, rfl, rfl, hs⟩ := hrel
      by_cases hlt : i < n
      · have hil : i < L.length := by have := hn.out; omega
        obtain ⟨b, o, rfl, hc⟩ := ha.out (L.length - 1 - i) (by omega)
        obtain ⟨S1, -, R1⟩ := hs.out.add ((hsz.out (L.length - 1 - i) (by omega)).up (show 1275 ≤ 1275 + i by omega)) (by have := hl.out; omega)
        have hsu := (leftS_succ (L := L.reverse) (k := i) (by simpa using hil)).trans (by rw [rev_getD hil])
        rw [← hsu] at S1 R1
        have S2 : Hid (Sized (1275 + (i + 1)) (leftS (L.reverse.take (i + 1)))) := S1
        obtain ⟨u, hu⟩ : ∃ u, u = L.getD (L.length - 1 - i) 0 := ⟨_, rfl⟩
        rw [← hu] at hc R1
        rw [show L.length - 1 - i = n - 1 - i by have := hn.out; omega] at hc
        obtain ⟨s, hs'⟩ : ∃ s, s = leftS (L.reverse.take i) := ⟨_, rfl⟩
        rw [← hs'] at R1 ⊢
        obtain ⟨s2, hs2⟩ : ∃ s, s = leftS (L.reverse.take (i + 1)) := ⟨_, rfl⟩
        rw [← hs2] at R1 S2
        have hs2 := Lib.hid hs2
        clear hu hs' hs hsu S1 hil
        go_wp2_with fail
        go_round
        case rel => exact ⟨i + 1, hlt, by go_num, by rw [← hs2.out], by rw [← hs2.out]; exact S2⟩
        case measure => simp [intOf]; omega
      · obtain rfl : i = n := by omega
        have hE : Hid (leftS (L.reverse.take i) = leftS L.reverse) := by show _ = _; rw [List.take_of_length_le (by have := hn.out; simp; omega)]
        obtain ⟨s, hs'⟩ : ∃ s, s = leftS (L.reverse.take i) := ⟨_, rfl⟩
        rw [← hs'] at hE ⊢
        clear hs' hs
        go_wp2_with fail
        go_ret2
        exact ⟨by rw [← hE.out]; rfl, rfl⟩
  · rw [if_neg h0]
    have t : (errL L != 0) = true := by simpa using h0
    generalize errL L = er at *
    clear h0 ha hw hn hm
    go_enter Try.func15, Try.ntmps15
    go_wp2_with (go_at_call 33; ((with_reducible refine K0.mono ?_); rintro e w' ⟨rfl, rfl⟩))
    go_ret2
    exact ⟨rfl, rfl⟩

theorem rright_run (ao : Option Addr) (cap n : Nat) (L : List Nat) (w : World) (hn : n = L.length) (hm : n ≤ 4611686018427387904) (hw : Words L) (ha : At w ao L) :
    Calls Try.prog 16 #[.slice ao n cap] w fun e w' => e = .returned (fe (outS L (leftS L.reverse)) (errL L)) ∧ w = w' := by
  have K0 := rcheck_run ao cap n L w hn hm hw ha
  unfold outS
  by_cases h0 : errL L = 0
  · obtain ⟨hl, hf⟩ := errL_zero h0
    rw [h0] at K0 ⊢
    rw [if_pos rfl]
    have hsz : ∀ j, j < L.length → Sized 1275 (L.getD j 0) := fun j hj => fit_sized hw hf hj
    replace ha := Lib.hid ha
    replace hsz := Lib.hid hsz
    replace hl := Lib.hid hl
    replace hn := Lib.hid hn
    clear hw hf h0
    go_enter Try.func16, Try.ntmps16
    go_wp2_with (go_at_call 34; ((with_reducible refine K0.mono ?_); rintro e w' ⟨rfl, rfl⟩))
    go_loop [5, 6] (fun sv iv => ∃ i : Nat, i ≤ n ∧ iv = .int .i64 ((n : Int) - 1 - i) ∧ sv = .float .f64 (leftS (L.reverse.take i)) ∧ Hid (Sized (1275 + i) (leftS (L.reverse.take i)))) (fun _ iv => (intOf iv + 1).toNat)
    case atStart => exact ⟨0, Nat.zero_le _, by go_num, rfl, Lib.hid (Sized.zero _)⟩
    case round =>
      obtain ⟨i, hi, rfl, rfl, hs⟩ := hrel
      by_cases hlt : i < n
      · have hil : i < L.length := by have := hn.out; omega
        obtain ⟨b, o, rfl, hc⟩ := ha.out (L.length - 1 - i) (by omega)
        obtain ⟨S1, -, R1⟩ := hs.out.add ((hsz.out (L.length - 1 - i) (by omega)).up (show 1275 ≤ 1275 + i by omega)) (by have := hl.out; omega)
        have hsu := (leftS_succ (L := L.reverse) (k := i) (by simpa using hil)).trans (by rw [rev_getD hil])
        rw [← hsu] at S1 R1
        have S2 : Hid (Sized (1275 + (i + 1)) (leftS (L.reverse.take (i + 1)))) := S1
        obtain ⟨u, hu⟩ : ∃ u, u = L.getD (L.length - 1 - i) 0 := ⟨_, rfl⟩
        rw [← hu] at hc R1
        rw [show L.length - 1 - i = n - 1 - i by have := hn.out; omega] at hc
        obtain ⟨s, hs'⟩ : ∃ s, s = leftS (L.reverse.take i) := ⟨_, rfl⟩
        rw [← hs'] at R1 ⊢
        obtain ⟨s2, hs2⟩ : ∃ s, s = leftS (L.reverse.take (i + 1)) := ⟨_, rfl⟩
        rw [← hs2] at R1 S2
        have hs2 := Lib.hid hs2
        clear hu hs' hs hsu S1 hil
        go_wp2_with fail
        go_round
        case rel => exact ⟨i + 1, hlt, by go_num, by rw [← hs2.out], by rw [← hs2.out]; exact S2⟩
        case measure => simp [intOf]; omega
      · obtain rfl : i = n := by omega
        have hE : Hid (leftS (L.reverse.take i) = leftS L.reverse) := by show _ = _; rw [List.take_of_length_le (by have := hn.out; simp; omega)]
        obtain ⟨s, hs'⟩ : ∃ s, s = leftS (L.reverse.take i) := ⟨_, rfl⟩
        rw [← hs'] at hE ⊢
        clear hs' hs
        go_wp2_with fail
        go_ret2
        exact ⟨by rw [← hE.out]; rfl, rfl⟩
  · rw [if_neg h0]
    have t : (errL L != 0) = true := by simpa using h0
    generalize errL L = er at *
    clear h0 ha hw hn hm
    go_enter Try.func16, Try.ntmps16
    go_wp2_with (go_at_call 34; ((with_reducible refine K0.mono ?_); rintro e w' ⟨rfl, rfl⟩))
    go_ret2
    exact ⟨rfl, rfl⟩
end Go.Proofs.Ythgpdgajmpocfaa
