/- Proved here: math/bits.LeadingZeros64 over the translated code, by the library's contract; how many digits a number has. -/
import Derived.Test.YthgpdgajmpocfaaAcc
import Derived.Shelf.Small.Bits
namespace Go.Proofs.Ythgpdgajmpocfaa
open Go.Shelf Go.RowKit

theorem bitLen_aux : ∀ (f x : Nat), x < 2 ^ f → (x = 0 → Lib.bitLenAux f x = 0) ∧ (x ≠ 0 → Lib.bitLenAux f x = x.log2 + 1) := by
  intro f
  induction f with
  | zero => intro x hx; exact ⟨fun _ => rfl, fun h => by omega⟩
  | succ f ih =>
    intro x hx
    refine ⟨fun h => by simp [Lib.bitLenAux, h], fun h => ?_⟩
    have h2 : x / 2 < 2 ^ f := by rw [Nat.pow_succ] at hx; omega
    obtain ⟨i1, i2⟩ := ih (x / 2) h2
    unfold Lib.bitLenAux
    rw [if_neg h]
    by_cases h1 : x / 2 = 0
    · rw [i1 h1]
      obtain rfl : x = 1 := by omega
      rfl
    · rw [i2 h1]
      have : x.log2 = (x / 2).log2 + 1 := by
        rw [Nat.log2_eq_iff h]
        have := (Nat.log2_eq_iff h1).1 rfl
        rw [Nat.pow_succ, Nat.pow_succ, Nat.pow_succ] at *
        omega
      omega
theorem bitLen_log (x : Nat) (h : x ≠ 0) (hx : x < 18446744073709551616) : Lib.bitLen x = x.log2 + 1 := (bitLen_aux 64 x hx).2 h

def renLz : Ren := ⟨fun n => if n = 129 then 65 else 57, fun n => if n = 3 then 3 else if n = 4 then 4 else if n = 5 then 5 else if n = 9 then 9 else if n = 46 then 70 else 35, fun n => n⟩
theorem lays_lz : Lays.n134 Try.prog renLz :=
  ⟨by kernel_rfl, Try.func65.trans (congrArg some (by kernel_rfl)), Try.func57.trans (congrArg some (by kernel_rfl)),
    Try.underlying3, fun _ => by kernel_rfl, fun _ => by kernel_rfl, fun _ => by kernel_rfl, Try.underlying4, fun _ => by kernel_rfl, fun _ => by kernel_rfl, fun _ => by kernel_rfl,
    Try.underlying5, fun _ => by kernel_rfl, fun _ => by kernel_rfl, fun _ => by kernel_rfl, Try.underlying9, fun _ => by kernel_rfl, fun _ => by kernel_rfl, fun _ => by kernel_rfl,
    Try.underlying70, fun _ => by kernel_rfl, fun _ => by kernel_rfl, fun _ => by kernel_rfl, Try.underlying35, fun _ => by kernel_rfl, fun _ => by kernel_rfl, fun _ => by kernel_rfl⟩
theorem lz_any (x : Nat) (h : x ≠ 0) (hx : x < 18446744073709551616) (w : World) :
    Calls Try.prog 57 #[.int .u64 x] w fun e w' => e = .returned (.int .i64 (63 - (x.log2 : Int))) ∧ w = w' :=
  (Any.bits_LeadingZeros64 lays_lz x w (by omega) (by omega)).mono fun _ _ ⟨he, hw⟩ => ⟨by rw [he]; congr 2; simp only [Int.toNat_natCast]; rw [bitLen_log x h hx]; omega, hw.symm⟩
end Go.Proofs.Ythgpdgajmpocfaa
