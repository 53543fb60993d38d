/- Proved here: what the texts Fra, Frb prove, one behind the other. -/
import Derived.Test.YtkpdnhbifokhlaaJy1
import Derived.Test.YtkpdnhbifokhlaaJv11

namespace Go.Proofs.Ytkpdnhbifokhlaa
open Go.ChangeShapes Go.WideShapes Go.ChangeAt Go.RowKit Ieee.Own

/-- a frame -/
structure Fr where
  up : Int
  ax : Int
  ph : Nat
  rt : Nat
  o1 : Nat
  o2 : Nat
  o3 : Nat
def Fr.og (f : Fr) : V3 := (f.o1, f.o2, f.o3)
def frC (f : Fr) : List Value := [.int .i64 f.up, .int .i64 f.ax, .float .f64 f.ph, .float .f64 f.rt, .float .f64 f.o1, .float .f64 f.o2, .float .f64 f.o3]
structure FrW (f : Fr) : Prop where
  ph : f.ph < 18446744073709551616
  rt : f.rt < 18446744073709551616
  o1 : f.o1 < 18446744073709551616
  o2 : f.o2 < 18446744073709551616
  o3 : f.o3 < 18446744073709551616
/-- fit, and no greater than c -/
def witB (c x : Nat) : Bool := decide (fitB x = true ∧ x % 9223372036854775808 ≤ c)
def g10 : Nat := 4652218415073722368
def g40 : Nat := 4787326403894837248
def g24 : Nat := 4715268809856909312
set_option maxHeartbeats 4000000 in
set_option maxRecDepth 100000 in
theorem fwit_run (c x : Nat) (hc : c < 9218868437227405312) (hx : x < 18446744073709551616) (w : World) :
    Calls Try.prog 62 #[.float .f64 x, .float .f64 c] w fun e w' => e = .returned (.bool (witB c x)) ∧ w = w' := by
  have CF := fun w => fit_any x hx w
  have CA := fun w => abs_any x hx w
  have g := o_leq (x % 9223372036854775808) c (by omega) (by omega)
  by_cases h1 : fitB x = true
  · have fn := fit_fin hx h1
    have m := fn.2
    rw [key_low (by omega), key_low (by omega)] at g
    rw [h1] at CF
    by_cases h2 : x % 9223372036854775808 ≤ c
    · have e : witB c x = true := by unfold witB; rw [decide_eq_true_eq]; exact ⟨h1, h2⟩
      rw [e]
      rw [decide_eq_true (by unfold nn; omega)] at g
      clear hx h1 fn m h2 e hc
      generalize x % 9223372036854775808 = y at *
      go_enter Try.func62, Try.ntmps62
      go_wp2_with (first | (go_at_call 60; ((with_reducible refine (CF _).mono ?_); rintro e w' ⟨rfl, rfl⟩)) | (go_at_call 20; ((with_reducible refine (CA _).mono ?_); rintro e w' ⟨rfl, rfl⟩)))
      go_ret
      exact ⟨rfl, rfl⟩
    · have e : witB c x = false := by unfold witB; rw [decide_eq_false_iff_not]; exact fun h => h2 h.2
      rw [e]
      rw [decide_eq_false (by omega)] at g
      clear hx h1 fn m h2 e hc
      generalize x % 9223372036854775808 = y at *
      go_enter Try.func62, Try.ntmps62
      go_wp2_with (first | (go_at_call 60; ((with_reducible refine (CF _).mono ?_); rintro e w' ⟨rfl, rfl⟩)) | (go_at_call 20; ((with_reducible refine (CA _).mono ?_); rintro e w' ⟨rfl, rfl⟩)))
      go_ret
      exact ⟨rfl, rfl⟩
  · have e : witB c x = false := by unfold witB; rw [decide_eq_false_iff_not]; exact fun h => h1 h.1
    rw [Bool.not_eq_true] at h1
    rw [h1] at CF
    rw [e]
    clear hx h1 e g hc
    go_enter Try.func62, Try.ntmps62
    go_wp2_with (first | (go_at_call 60; ((with_reducible refine (CF _).mono ?_); rintro e w' ⟨rfl, rfl⟩)) | (go_at_call 20; ((with_reducible refine (CA _).mono ?_); rintro e w' ⟨rfl, rfl⟩)))
    go_ret
    exact ⟨rfl, rfl⟩
set_option maxHeartbeats 4000000 in
set_option maxRecDepth 100000 in
theorem ftime_run (x : Nat) (hx : x < 18446744073709551616) (w : World) :
    Calls Try.prog 33 #[.float .f64 x] w fun e w' => e = .returned (.bool (witB g24 x)) ∧ w = w' := by
  have C := fun w => fwit_run 4715268809856909312 x (by omega) hx w
  unfold g24
  generalize witB 4715268809856909312 x = b at *
  clear hx
  go_enter Try.func33, Try.ntmps33
  go_wp2_with (go_at_call 62; ((with_reducible refine (C _).mono ?_); rintro e w' ⟨rfl, rfl⟩))
  go_ret
  exact ⟨rfl, rfl⟩
end Go.Proofs.Ytkpdnhbifokhlaa

namespace Go.Proofs.Ytkpdnhbifokhlaa
open Go.ChangeShapes Go.WideShapes Go.ChangeAt Go.RowKit Ieee.Own

def frZ : Fr := ⟨0, 0, 0, 0, 0, 0, 0⟩
def frAt (L : List Fr) (j : Nat) : Fr := L.getD j frZ
def FAt (w : World) (ao : Option Addr) (L : List Fr) : Prop := RAt w ao 7 (L.map frC)
def FsW (L : List Fr) : Prop := ∀ f ∈ L, FrW f
theorem fr_get {L : List Fr} {j : Nat} (h : j < L.length) : (L.map frC)[j]? = some (frC (frAt L j)) := by
  unfold frAt; simp [List.getD, h]
theorem fr_mem {L : List Fr} {j : Nat} (h : j < L.length) : frAt L j ∈ L := by
  unfold frAt
  have : L.getD j frZ = L[j] := by simp [List.getD, h]
  rw [this]; exact List.getElem_mem h
theorem FAt.cells {w : World} {ao : Option Addr} {L : List Fr} (h : FAt w ao L) {j : Nat} (hj : j < L.length) :
    ∃ b o, ao = some ⟨b, o, none⟩ ∧ b < w.heap.size ∧ w.cell? ⟨b, o + j * 7, none⟩ = some (.int .i64 (frAt L j).up) ∧ w.cell? ⟨b, o + j * 7 + 1, none⟩ = some (.int .i64 (frAt L j).ax) ∧
      w.cell? ⟨b, o + j * 7 + 2, none⟩ = some (.float .f64 (frAt L j).ph) ∧ w.cell? ⟨b, o + j * 7 + 3, none⟩ = some (.float .f64 (frAt L j).rt) ∧ w.cell? ⟨b, o + j * 7 + 4, none⟩ = some (.float .f64 (frAt L j).o1) ∧
      w.cell? ⟨b, o + j * 7 + 5, none⟩ = some (.float .f64 (frAt L j).o2) ∧ w.cell? ⟨b, o + j * 7 + 6, none⟩ = some (.float .f64 (frAt L j).o3) := by
  obtain ⟨b, o, e, hb, hc⟩ := h j _ (fr_get hj)
  exact ⟨b, o, e, hb, hc 0 _ rfl, hc 1 _ rfl, hc 2 _ rfl, hc 3 _ rfl, hc 4 _ rfl, hc 5 _ rfl, hc 6 _ rfl⟩
end Go.Proofs.Ytkpdnhbifokhlaa
