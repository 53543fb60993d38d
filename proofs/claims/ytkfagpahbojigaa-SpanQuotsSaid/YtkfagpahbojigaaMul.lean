/- Proved here: math/bits.Mul64 over the translated code, by the library's contract. -/
import Derived.Test.YtkfagpahbojigaaAcc
import Derived.Shelf.Bits.Mul64
namespace Go.Proofs.Ytkfagpahbojigaa
open Go.Shelf Go.RowKit

def renMul : Ren := ⟨fun _ => 64, fun n => if n = 46 then 73 else 34, fun n => n⟩
theorem lays_mul : Lays.n264 Try.prog renMul :=
  ⟨by kernel_rfl, Try.func64.trans (congrArg some (by kernel_rfl)), Try.underlying73, fun _ => by kernel_rfl, fun _ => by kernel_rfl, fun _ => by kernel_rfl, Try.underlying34, fun _ => by kernel_rfl, fun _ => by kernel_rfl, fun _ => by kernel_rfl⟩
theorem mul64_any (x y : Nat) (hx : x < 18446744073709551616) (hy : y < 18446744073709551616) (w : World) :
    Calls Try.prog 64 #[.int .u64 x, .int .u64 y] w fun e w' => e = .returned (.tuple #[.int .u64 ((x * y / 18446744073709551616 : Nat) : Int), .int .u64 ((x * y % 18446744073709551616 : Nat) : Int)]) ∧ w = w' :=
  (Any.bits_Mul64 lays_mul x y hx hy w).mono fun _ _ ⟨he, hw⟩ => ⟨he, hw.symm⟩
end Go.Proofs.Ytkfagpahbojigaa
