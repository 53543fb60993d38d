/- Proved here: what the program's and the reference's checks of lists answer, over the translated code. -/
import Derived.Test.YthgpdgajmpocfaaTne
namespace Go.Proofs.Ythgpdgajmpocfaa
open Go.ChangeShapes Go.WideShapes Go.ChangeAt Go.RowKit Ieee.Own

/-- a slice that holds a list of words -/
def At (w : World) (ao : Option Addr) (L : List Nat) : Prop := ∀ j, j < L.length → ∃ b o, ao = some ⟨b, o, none⟩ ∧ w.cell? ⟨b, o + j, none⟩ = some (.float .f64 (L.getD j 0))
def Words (L : List Nat) : Prop := ∀ x ∈ L, x < 18446744073709551616
def allFit (L : List Nat) : Bool := L.all fitB
/-- what is wrong with a list -/
def errL (L : List Nat) : Int := if 256 < L.length then 2 else if allFit L = true then 0 else 3
theorem Words.at {L : List Nat} (h : Words L) {j : Nat} (hj : j < L.length) : L.getD j 0 < 18446744073709551616 := h _ (by simp [List.getD, hj])
theorem allFit_at {L : List Nat} : allFit L = true ↔ ∀ j, j < L.length → fitB (L.getD j 0) = true := by
  unfold allFit
  rw [List.all_eq_true]
  constructor
  · intro h j hj; exact h _ (by simp [List.getD, hj])
  · intro h x hx
    obtain ⟨j, hj, rfl⟩ := List.mem_iff_getElem.1 hx
    have := h j hj
    simpa [List.getD, hj] using this

theorem check_run (ao : Option Addr) (cap n : Nat) (L : List Nat) (w : World) (hn : n = L.length) (hm : n ≤ 4611686018427387904) (hw : Words L) (ha : At w ao L) :
    Calls Try.prog 33 #[.slice ao n cap] w fun e w' => e = .returned (.int .i64 (errL L)) ∧ w = w' := by
  by_cases hbig : 256 < n
  · have hE : errL L = 2 := by unfold errL; rw [if_pos (by omega)]
    rw [hE]
    clear hE ha hw hn
    go_enter Try.func33, Try.ntmps33
    go_wp2_with fail
    go_ret
    exact ⟨rfl, rfl⟩
  have hE : errL L = if allFit L = true then 0 else 3 := by unfold errL; rw [if_neg (by omega)]
  have hF := allFit_at (L := L)
  replace hn := Lib.hid hn
  replace hw := Lib.hid hw
  replace ha := Lib.hid ha
  replace hE := Lib.hid hE
  replace hF := Lib.hid hF
  go_enter Try.func33, Try.ntmps33
  go_wp2_with fail
  go_loop [10] (fun iv => ∃ i : Nat, i ≤ n ∧ iv = .int .i64 i ∧ ∀ j, j < i → fitB (L.getD j 0) = true) (fun iv => n - (intOf iv).toNat)
  case atStart => exact ⟨0, Nat.zero_le _, rfl, fun j hj => by omega⟩
  case round =>
    obtain ⟨i, hi, rfl, hall⟩ := hrel
    replace hall := Lib.hid hall
    by_cases hlt : i < n
    · have hil : i < L.length := by have := hn.out; omega
      obtain ⟨b, o, rfl, hc⟩ := ha.out i hil
      have C := fun w => fit_any _ (hw.out.at hil) w
      by_cases hf : fitB (L.getD i 0) = true
      · have hall' : Hid (∀ j, j < i + 1 → fitB (L.getD j 0) = true) := by
          intro j hj
          by_cases e : j = i
          · rw [e]; exact hf
          · exact hall.out j (by omega)
        rw [hf] at C
        obtain ⟨u, hu⟩ : ∃ u, u = L.getD i 0 := ⟨_, rfl⟩
        rw [← hu] at hc C
        clear hu hf hil hall
        go_wp2_with (go_at_call 51; ((with_reducible refine (C _).mono ?_); rintro e w' ⟨rfl, rfl⟩))
        go_round
        case rel => exact ⟨i + 1, hlt, by go_num, hall'.out⟩
        case measure => simp [intOf]; omega
      · have hE2 : Hid (errL L = 3) := by
          show errL L = 3
          rw [hE.out, if_neg (fun h => hf (hF.out.1 h i hil))]
        rw [Bool.not_eq_true] at hf
        rw [hf] at C
        obtain ⟨u, hu⟩ : ∃ u, u = L.getD i 0 := ⟨_, rfl⟩
        rw [← hu] at hc C
        clear hu hf hil hall
        go_wp2_with (go_at_call 51; ((with_reducible refine (C _).mono ?_); rintro e w' ⟨rfl, rfl⟩))
        go_ret
        exact ⟨ret_i hE2.out.symm, rfl⟩
    · have hE2 : Hid (errL L = 0) := by
        show errL L = 0
        rw [hE.out, if_pos (hF.out.2 (fun j hj => hall.out j (by have := hn.out; omega)))]
      clear hall
      go_wp2_with fail
      go_ret
      exact ⟨ret_i hE2.out.symm, rfl⟩

theorem rcheck_run (ao : Option Addr) (cap n : Nat) (L : List Nat) (w : World) (hn : n = L.length) (hm : n ≤ 4611686018427387904) (hw : Words L) (ha : At w ao L) :
    Calls Try.prog 34 #[.slice ao n cap] w fun e w' => e = .returned (.int .i64 (errL L)) ∧ w = w' := by
  by_cases hbig : 256 < n
  · have hE : errL L = 2 := by unfold errL; rw [if_pos (by omega)]
    rw [hE]
    clear hE ha hw hn
    go_enter Try.func34, Try.ntmps34
    go_wp2_with fail
    go_ret
    exact ⟨rfl, rfl⟩
  have hE : errL L = if allFit L = true then 0 else 3 := by unfold errL; rw [if_neg (by omega)]
  have hF := allFit_at (L := L)
  replace hn := Lib.hid hn
  replace hw := Lib.hid hw
  replace ha := Lib.hid ha
  replace hE := Lib.hid hE
  replace hF := Lib.hid hF
  go_enter Try.func34, Try.ntmps34
  go_wp2_with fail
  go_loop [3] (fun iv => ∃ i : Nat, i ≤ n ∧ iv = .int .i64 i ∧ ∀ j, j < i → fitB (L.getD j 0) = true) (fun iv => n - (intOf iv).toNat)
  case atStart => exact ⟨0, Nat.zero_le _, rfl, fun j hj => by omega⟩
  case round =>
    obtain ⟨i, hi, rfl, hall⟩ := hrel
    replace hall := Lib.hid hall
    by_cases hlt : i < n
    · have hil : i < L.length := by have := hn.out; omega
      obtain ⟨b, o, rfl, hc⟩ := ha.out i hil
      have C := fun w => rfit_any _ (hw.out.at hil) w
      by_cases hf : fitB (L.getD i 0) = true
      · have hall' : Hid (∀ j, j < i + 1 → fitB (L.getD j 0) = true) := by
          intro j hj
          by_cases e : j = i
          · rw [e]; exact hf
          · exact hall.out j (by omega)
        rw [hf] at C
        obtain ⟨u, hu⟩ : ∃ u, u = L.getD i 0 := ⟨_, rfl⟩
        rw [← hu] at hc C
        clear hu hf hil hall
        go_wp2_with (go_at_call 31; ((with_reducible refine (C _).mono ?_); rintro e w' ⟨rfl, rfl⟩))
        go_round
        case rel => exact ⟨i + 1, hlt, by go_num, hall'.out⟩
        case measure => simp [intOf]; omega
      · have hE2 : Hid (errL L = 3) := by
          show errL L = 3
          rw [hE.out, if_neg (fun h => hf (hF.out.1 h i hil))]
        rw [Bool.not_eq_true] at hf
        rw [hf] at C
        obtain ⟨u, hu⟩ : ∃ u, u = L.getD i 0 := ⟨_, rfl⟩
        rw [← hu] at hc C
        clear hu hf hil hall
        go_wp2_with (go_at_call 31; ((with_reducible refine (C _).mono ?_); rintro e w' ⟨rfl, rfl⟩))
        go_ret
        exact ⟨ret_i hE2.out.symm, rfl⟩
    · have hE2 : Hid (errL L = 0) := by
        show errL L = 0
        rw [hE.out, if_pos (hF.out.2 (fun j hj => hall.out j (by have := hn.out; omega)))]
      clear hall
      go_wp2_with fail
      go_ret
      exact ⟨ret_i hE2.out.symm, rfl⟩
end Go.Proofs.Ythgpdgajmpocfaa
