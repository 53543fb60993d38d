/- Proved here: what the texts Frr, Frs, Frt prove, one behind the other. -/
import Derived.Test.YtgnofnjbmiepjaaJy11
import Derived.Test.YtgnofnjbmiepjaaJy6
import Derived.Test.YtgnofnjbmiepjaaJy9
import Derived.Test.YtgnofnjbmiepjaaJx9
import Derived.Test.YtgnofnjbmiepjaaJb8

namespace Go.Proofs.Ytgnofnjbmiepjaa
open Go.ChangeShapes Go.WideShapes Go.ChangeAt Go.RowKit Ieee.Own Pol Fma

end Go.Proofs.Ytgnofnjbmiepjaa

namespace Go.Proofs.Ytgnofnjbmiepjaa
open Go.ChangeShapes Go.WideShapes Go.ChangeAt Go.RowKit Ieee.Own Pol Fma

def leO (a b : Nat) : Bool := FloatKind.f64.format.order a b == some Ordering.lt || FloatKind.f64.format.order a b == some Ordering.eq
def rhB (a b x : Nat) : Bool := decide (errS a b = 0) && (leO a x && leO x b)
set_option maxHeartbeats 4000000 in
set_option maxRecDepth 100000 in
theorem rhas_any {a b : Nat} (ha : a < 18446744073709551616) (hb : b < 18446744073709551616) (x : Nat) (w : World) :
    Calls Try.prog 14 #[.agg #[.float .f64 a, .float .f64 b], .float .f64 x] w fun e w' => e = .returned (.bool (rhB a b x)) ∧ Below w.heap.size w w' := by
  have CK := Lib.hid (fun w => rscheck_run a b ha hb w)
  unfold spanV at CK
  unfold rhB leO
  generalize errS a b = k at *
  generalize hp : (FloatKind.f64.format.order a x == some Ordering.lt || FloatKind.f64.format.order a x == some Ordering.eq) = p at *
  generalize hq : (FloatKind.f64.format.order x b == some Ordering.lt || FloatKind.f64.format.order x b == some Ordering.eq) = q at *
  clear ha hb
  have K0 := kv1 w 38 [.float .f64 a, .float .f64 b]
  simp only [objV] at K0
  replace K0 := Lib.hid K0
  by_cases hk : k = 0
  · subst hk
    rw [decide_eq_true rfl]
    cases p <;> cases q <;> (
      go_enter Try.func14, Try.ntmps14
      go_wp2_with fail
      have K := K0.out
      clear K0
      generalize w.alloc _ = wr at *
      refine (CK.out wr).mono ?_
      rintro _ v1 ⟨rfl, hb⟩
      replace K := K.on hb
      clear hb
      have c0_0 := (K.at_ 0 rfl).at_ 0 _ rfl
      have c0_1 := (K.at_ 0 rfl).at_ 1 _ rfl
      replace K := Lib.hid K
      go_wp2_with fail
      replace K := K.out
      go_ret
      exact ⟨rfl, K.old⟩)
  · have t : (k == 0) = false := by simpa using hk
    rw [decide_eq_false hk]
    clear hk
    go_enter Try.func14, Try.ntmps14
    go_wp2_with fail
    have K := K0.out
    clear K0
    generalize w.alloc _ = wr at *
    refine (CK.out wr).mono ?_
    rintro _ v1 ⟨rfl, hb⟩
    replace K := K.on hb
    clear hb
    replace K := Lib.hid K
    go_wp2_with fail
    replace K := K.out
    go_ret
    exact ⟨rfl, K.old⟩
set_option maxHeartbeats 4000000 in
set_option maxRecDepth 100000 in
theorem rboxmeet_shape {x1 x2 x3 x4 x5 x6 y1 y2 y3 y4 y5 y6 m1 m2 m3 m4 m5 m6 : Nat} (C0 : Hid (∀ w, Calls Try.prog 34 #[.agg #[.float .f64 x1, .float .f64 x2], .agg #[.float .f64 y1, .float .f64 y2]] w fun e w' => e = .returned (.tuple #[.agg #[.float .f64 m1, .float .f64 m2], .bool true, .int .i64 0]) ∧ Below w.heap.size w w')) (C1 : Hid (∀ w, Calls Try.prog 34 #[.agg #[.float .f64 x3, .float .f64 x4], .agg #[.float .f64 y3, .float .f64 y4]] w fun e w' => e = .returned (.tuple #[.agg #[.float .f64 m3, .float .f64 m4], .bool true, .int .i64 0]) ∧ Below w.heap.size w w')) (C2 : Hid (∀ w, Calls Try.prog 34 #[.agg #[.float .f64 x5, .float .f64 x6], .agg #[.float .f64 y5, .float .f64 y6]] w fun e w' => e = .returned (.tuple #[.agg #[.float .f64 m5, .float .f64 m6], .bool true, .int .i64 0]) ∧ Below w.heap.size w w')) (w : World) : Calls Try.prog 16 #[.agg #[.float .f64 x1, .float .f64 x2, .float .f64 x3, .float .f64 x4, .float .f64 x5, .float .f64 x6], .agg #[.float .f64 y1, .float .f64 y2, .float .f64 y3, .float .f64 y4, .float .f64 y5, .float .f64 y6]] w fun e w' => e = .returned (.bool true) ∧ Below w.heap.size w w' := by
  have K0 := kv2 w 41 41 [.float .f64 x1, .float .f64 x2, .float .f64 x3, .float .f64 x4, .float .f64 x5, .float .f64 x6] [.float .f64 y1, .float .f64 y2, .float .f64 y3, .float .f64 y4, .float .f64 y5, .float .f64 y6]
  simp only [objV] at K0
  have hst := @fstore
  have c0_0 := (K0.at_ 0 rfl).at_ 0 _ rfl
  have c0_1 := (K0.at_ 0 rfl).at_ 1 _ rfl
  have c1_0 := (K0.at_ 1 rfl).at_ 0 _ rfl
  have c1_1 := (K0.at_ 1 rfl).at_ 1 _ rfl
  replace K0 := Lib.hid K0
  go_enter Try.func16, Try.ntmps16
  go_wp2_with fail
  have K := K0.out
  clear K0
  generalize (w.alloc _).alloc _ = wr at *
  refine (C0.out wr).mono ?_
  rintro _ v1 ⟨rfl, hb⟩
  clear c0_0 c0_1 c1_0 c1_1
  replace K := K.on hb
  clear hb
  replace K := K.new 38 [.float .f64 m1, .float .f64 m2]
  simp only [objV, List.cons_append, List.nil_append] at K
  have c0_2 := (K.at_ 0 rfl).at_ 2 _ rfl
  have c0_3 := (K.at_ 0 rfl).at_ 3 _ rfl
  have c1_2 := (K.at_ 1 rfl).at_ 2 _ rfl
  have c1_3 := (K.at_ 1 rfl).at_ 3 _ rfl
  replace K := Lib.hid K
  go_wp2_with fail
  replace K := K.out
  generalize v1.alloc _ = u1 at *
  generalize v1.heap.size = g1 at *
  refine (C1.out u1).mono ?_
  rintro _ v2 ⟨rfl, hb⟩
  clear c0_2 c0_3 c1_2 c1_3
  replace K := K.on hb
  clear hb
  replace K := K.new 38 [.float .f64 m3, .float .f64 m4]
  simp only [objV, List.cons_append, List.nil_append] at K
  have c0_4 := (K.at_ 0 rfl).at_ 4 _ rfl
  have c0_5 := (K.at_ 0 rfl).at_ 5 _ rfl
  have c1_4 := (K.at_ 1 rfl).at_ 4 _ rfl
  have c1_5 := (K.at_ 1 rfl).at_ 5 _ rfl
  replace K := Lib.hid K
  go_wp2_with fail
  replace K := K.out
  generalize v2.alloc _ = u2 at *
  generalize v2.heap.size = g2 at *
  refine (C2.out u2).mono ?_
  rintro _ v3 ⟨rfl, hb⟩
  clear c0_4 c0_5 c1_4 c1_5
  replace K := K.on hb
  clear hb
  replace K := K.new 38 [.float .f64 m5, .float .f64 m6]
  simp only [objV, List.cons_append, List.nil_append] at K
  replace K := Lib.hid K
  go_wp2_with fail
  replace K := K.out
  generalize v3.alloc _ = u3 at *
  generalize v3.heap.size = g3 at *
  go_ret
  exact ⟨rfl, K.old⟩
set_option maxHeartbeats 4000000 in
set_option maxRecDepth 100000 in
/-- boxes that hold one point meet -/
theorem rboxmeet_run {P P' : B6} {k l : Nat} {p : R3} (S : Sn3 P k) (S' : Sn3 P' l) (i : InB p P) (j : InB p P') (w : World) : Calls Try.prog 16 #[boxV P, boxV P'] w fun e w' => e = .returned (.bool true) ∧ Below w.heap.size w w' := by
  have key : ∀ {a b : Pr} {m n : Nat} {x : Rat}, Sn a m → Sn b n → In x (ps a) → In x (ps b) → ∀ w, Calls Try.prog 34 #[.agg #[.float .f64 a.1, .float .f64 a.2], .agg #[.float .f64 b.1, .float .f64 b.2]] w fun e w' => e = .returned (.tuple #[.agg #[.float .f64 (meetX a.1 a.2 b.1 b.2), .float .f64 (meetY a.1 a.2 b.1 b.2)], .bool true, .int .i64 0]) ∧ Below w.heap.size w w' := fun {a b m n x} sa sb ia ib w => by
    have T : Sets a.1 a.2 b.1 b.2 := ⟨sa.l1, sa.l2, sb.l1, sb.l2, sa.ok, sb.ok⟩
    have := rmeet_ok T w
    rw [meet_of T ia.1 ia.2 ib.1 ib.2] at this
    exact this
  exact rboxmeet_shape (Lib.hid (key S.x S'.x i.1 j.1)) (Lib.hid (key S.y S'.y i.2.1 j.2.1)) (Lib.hid (key S.z S'.z i.2.2 j.2.2)) w
end Go.Proofs.Ytgnofnjbmiepjaa

namespace Go.Proofs.Ytgnofnjbmiepjaa
open Go.ChangeShapes Go.WideShapes Go.ChangeAt Go.RowKit Ieee.Own Pol Fma

def pw : Nat → Rat
  | 0 => 1
  | n + 1 => 2 * pw n
end Go.Proofs.Ytgnofnjbmiepjaa
