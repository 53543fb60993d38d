/- Proved here: what the texts Frr, Frs, Frt prove, one behind the other. -/
import Derived.Test.YtkpdnhbifokhlaaJy11
import Derived.Test.YtkpdnhbifokhlaaJy6
import Derived.Test.YtkpdnhbifokhlaaJy9
import Derived.Test.YtkpdnhbifokhlaaJx9
import Derived.Test.YtkpdnhbifokhlaaJb8

namespace Go.Proofs.Ytkpdnhbifokhlaa
open Go.ChangeShapes Go.WideShapes Go.ChangeAt Go.RowKit Ieee.Own Pol Fma

end Go.Proofs.Ytkpdnhbifokhlaa

namespace Go.Proofs.Ytkpdnhbifokhlaa
open Go.ChangeShapes Go.WideShapes Go.ChangeAt Go.RowKit Ieee.Own Pol Fma

def leO (a b : Nat) : Bool := FloatKind.f64.format.order a b == some Ordering.lt || FloatKind.f64.format.order a b == some Ordering.eq
def rhB (a b x : Nat) : Bool := decide (errS a b = 0) && (leO a x && leO x b)
set_option maxHeartbeats 4000000 in
set_option maxRecDepth 100000 in
theorem rhas_any {a b : Nat} (ha : a < 18446744073709551616) (hb : b < 18446744073709551616) (x : Nat) (w : World) :
    Calls Try.prog 24 #[.agg #[.float .f64 a, .float .f64 b], .float .f64 x] w fun e w' => e = .returned (.bool (rhB a b x)) ∧ Below w.heap.size w w' := by
  have CK := Lib.hid (fun w => rscheck_run a b ha hb w)
  unfold spanV at CK
  unfold rhB leO
  generalize errS a b = k at *
  generalize hp : (FloatKind.f64.format.order a x == some Ordering.lt || FloatKind.f64.format.order a x == some Ordering.eq) = p at *
  generalize hq : (FloatKind.f64.format.order x b == some Ordering.lt || FloatKind.f64.format.order x b == some Ordering.eq) = q at *
  clear ha hb
  have K0 := kv1 w 45 [.float .f64 a, .float .f64 b]
  simp only [objV] at K0
  replace K0 := Lib.hid K0
  by_cases hk : k = 0
  · subst hk
    rw [decide_eq_true rfl]
    cases p <;> cases q <;> (
      go_enter Try.func24, Try.ntmps24
      go_wp2_with fail
      have K := K0.out
      clear K0
      generalize w.alloc _ = wr at *
      refine (CK.out wr).mono ?_
      rintro _ v1 ⟨rfl, hb⟩
      replace K := K.on hb
      clear hb
      have c0_0 := (K.at_ 0 rfl).at_ 0 _ rfl
      have c0_1 := (K.at_ 0 rfl).at_ 1 _ rfl
      replace K := Lib.hid K
      go_wp2_with fail
      replace K := K.out
      go_ret
      exact ⟨rfl, K.old⟩)
  · have t : (k == 0) = false := by simpa using hk
    rw [decide_eq_false hk]
    clear hk
    go_enter Try.func24, Try.ntmps24
    go_wp2_with fail
    have K := K0.out
    clear K0
    generalize w.alloc _ = wr at *
    refine (CK.out wr).mono ?_
    rintro _ v1 ⟨rfl, hb⟩
    replace K := K.on hb
    clear hb
    replace K := Lib.hid K
    go_wp2_with fail
    replace K := K.out
    go_ret
    exact ⟨rfl, K.old⟩
end Go.Proofs.Ytkpdnhbifokhlaa

namespace Go.Proofs.Ytkpdnhbifokhlaa
open Go.ChangeShapes Go.WideShapes Go.ChangeAt Go.RowKit Ieee.Own Pol Fma

end Go.Proofs.Ytkpdnhbifokhlaa
