/- Proved here: what the texts Fri, Frj prove, one behind the other. -/
import Derived.Test.YtkpdnhbifokhlaaJy7
import Derived.Test.YtkpdnhbifokhlaaJv4
import Derived.Test.YtkpdnhbifokhlaaJv2

namespace Go.Proofs.Ytkpdnhbifokhlaa
open Go.ChangeShapes Go.WideShapes Go.ChangeAt Go.RowKit Go.Deep Ieee.Own

/-! ### awake -/
end Go.Proofs.Ytkpdnhbifokhlaa

namespace Go.Proofs.Ytkpdnhbifokhlaa
open Go.ChangeShapes Go.WideShapes Go.ChangeAt Go.RowKit Go.Deep Ieee.Own

/-! ### rates made 0 -/
/-- a store into another block -/
theorem Kv.far {w0 w : World} {L : List (Option (Nat × List Value))} (C : Kv w0 L w) {g : Nat} (hg : w0.heap.size ≤ g) (hne : ∀ (j h : Nat) (us : List Value), L[j]? = some (some (h, us)) → h ≠ g) (k : Nat) (v : Value) : Kv w0 L (w.setCell ⟨g, k, none⟩ v) :=
  ⟨C.old.setCell hg _, fun j h us hj => ⟨(C.blk j h us hj).1, (C.at_ j hj).other1 (hne j h us hj) v⟩, C.inj⟩
set_option maxHeartbeats 4000000 in
set_option maxRecDepth 100000 in
theorem rwit_run (x : Nat) (hx : x < 18446744073709551616) (w : World) :
    Calls Try.prog 63 #[.float .f64 x, .float .f64 4715268809856909312] w fun e w' => e = .returned (.bool (witB g24 x)) ∧ w = w' := by
  have CF := fun w => rfit_any x hx w
  have g1 := o_leq x 4715268809856909312 hx (by omega)
  have g2 := o_geq x 13938640846711685120 hx (by omega)
  have hneg : ∀ w, (Op.unary .neg (.float .f64 4715268809856909312)).run Try.prog w = .ok (.float .f64 13938640846711685120) w := fun w => rfl
  by_cases h1 : fitB x = true
  · have fn := fit_fin hx h1
    have m := fn.2
    rw [h1] at CF
    have n1 : nn x := fin_nn fn
    have n2 : nn 4715268809856909312 := by unfold nn; omega
    have n3 : nn 13938640846711685120 := by unfold nn; omega
    have k2 : key64 4715268809856909312 = 4715268809856909312 := by decide
    have k3 : key64 13938640846711685120 = -4715268809856909312 := by decide
    rw [k2] at g1
    rw [k3] at g2
    have kx : key64 x = if x < 9223372036854775808 then (x : Int) else 9223372036854775808 - (x : Int) := rfl
    by_cases c1 : key64 x ≤ 4715268809856909312
    · rw [decide_eq_true ⟨n1, n2, c1⟩] at g1
      by_cases c2 : -4715268809856909312 ≤ key64 x
      · have e : witB g24 x = true := by unfold witB g24; rw [decide_eq_true_eq]; exact ⟨h1, by split at kx <;> omega⟩
        rw [e]
        rw [decide_eq_true ⟨n1, n3, c2⟩] at g2
        clear hx h1 fn m e n1 n2 n3 k2 k3 kx c1 c2
        go_enter Try.func63, Try.ntmps63
        go_wp2_with (go_at_call 61; ((with_reducible refine (CF _).mono ?_); rintro e w' ⟨rfl, rfl⟩))
        go_ret
        exact ⟨rfl, rfl⟩
      · have e : witB g24 x = false := by unfold witB g24; rw [decide_eq_false_iff_not]; exact fun h => by have := h.2; split at kx <;> omega
        rw [e]
        rw [decide_eq_false (fun h => c2 h.2.2)] at g2
        clear hx h1 fn m e n1 n2 n3 k2 k3 kx c1 c2
        go_enter Try.func63, Try.ntmps63
        go_wp2_with (go_at_call 61; ((with_reducible refine (CF _).mono ?_); rintro e w' ⟨rfl, rfl⟩))
        go_ret
        exact ⟨rfl, rfl⟩
    · have e : witB g24 x = false := by unfold witB g24; rw [decide_eq_false_iff_not]; exact fun h => by have := h.2; split at kx <;> omega
      rw [e]
      rw [decide_eq_false (fun h => c1 h.2.2)] at g1
      clear hx h1 fn m e n1 n2 n3 k2 k3 kx c1 g2
      go_enter Try.func63, Try.ntmps63
      go_wp2_with (go_at_call 61; ((with_reducible refine (CF _).mono ?_); rintro e w' ⟨rfl, rfl⟩))
      go_ret
      exact ⟨rfl, rfl⟩
  · have e : witB g24 x = false := by unfold witB; rw [decide_eq_false_iff_not]; exact fun h => h1 h.1
    rw [Bool.not_eq_true] at h1
    rw [h1] at CF
    rw [e]
    clear hx h1 e g1 g2
    go_enter Try.func63, Try.ntmps63
    go_wp2_with (go_at_call 61; ((with_reducible refine (CF _).mono ?_); rintro e w' ⟨rfl, rfl⟩))
    go_ret
    exact ⟨rfl, rfl⟩
set_option maxHeartbeats 4000000 in
set_option maxRecDepth 100000 in
theorem rtime_run (x : Nat) (hx : x < 18446744073709551616) (w : World) :
    Calls Try.prog 36 #[.float .f64 x] w fun e w' => e = .returned (.bool (witB g24 x)) ∧ w = w' := by
  have C := fun w => rwit_run x hx w
  generalize witB g24 x = b at *
  clear hx
  go_enter Try.func36, Try.ntmps36
  go_wp2_with (go_at_call 63; ((with_reducible refine (C _).mono ?_); rintro e w' ⟨rfl, rfl⟩))
  go_ret
  exact ⟨rfl, rfl⟩
end Go.Proofs.Ytkpdnhbifokhlaa
