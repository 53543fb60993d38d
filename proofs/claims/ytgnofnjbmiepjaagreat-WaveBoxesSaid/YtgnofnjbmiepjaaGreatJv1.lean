/- Proved here: what the texts Vck, Vsc, Vop, Vnm, Vlw, Vei, Vun, Vma, Vmb, Vmc, Vmd, Vme, Vmf, Vmg prove, one behind the other. -/
import Derived.Test.YtgnofnjbmiepjaaGreatJb6
import Derived.Test.YtgnofnjbmiepjaaGreatJb3
import Derived.Test.YtgnofnjbmiepjaaGreatJr
import Derived.Test.YtgnofnjbmiepjaaGreatJp
import Derived.Test.YtgnofnjbmiepjaaGreatJb2
import Derived.Test.YtgnofnjbmiepjaaGreatJb5
import Derived.LoopN

namespace Go.Proofs.YtgnofnjbmiepjaaGreat
open Go.ChangeShapes Go.WideShapes Go.ChangeAt Go.RowKit Ieee.Own

abbrev V3 := Nat × Nat × Nat
def vecV (p : V3) : Value := .agg #[.float .f64 p.1, .float .f64 p.2.1, .float .f64 p.2.2]
structure W3 (p : V3) : Prop where
 l1 : p.1 < 18446744073709551616
 l2 : p.2.1 < 18446744073709551616
 l3 : p.2.2 < 18446744073709551616
theorem mul_ok {a b i k : Nat} (ha : FinW a) (hb : FinW b) (xa : (V a).natAbs ≤ 2 ^ i) (xb : (V b).natAbs ≤ 2 ^ i) (e : i + i = k + 1074) (h2 : k < 2000) :
 Ieee.double.mul a b = some (mX a b) ∧ FinW (mX a b) ∧ V (mX a b) = RZ (V a * V b) ∧ (V (mX a b)).natAbs ≤ 2 ^ k := by
 obtain ⟨r, q1, q2, q3, q4⟩ := mulB ha hb xa xb e (by omega)
 have er : mX a b = r := by unfold mX; rw [q1]; rfl
 rw [er]
 exact ⟨q1, q2, q3, q4⟩
theorem add_ok {a b i k : Nat} (ha : FinW a) (hb : FinW b) (xa : (V a).natAbs ≤ 2 ^ i) (xb : (V b).natAbs ≤ 2 ^ i) (e : k = i + 1) (h2 : i < 2000) :
 Ieee.double.add a b = some (aX a b) ∧ FinW (aX a b) ∧ V (aX a b) = RN (V a + V b) ∧ (V (aX a b)).natAbs ≤ 2 ^ k := by
 subst e
 obtain ⟨r, q1, q2, q3, q4⟩ := addW ha hb xa xb h2
 have er : aX a b = r := by unfold aX; rw [q1]; rfl
 rw [er]
 exact ⟨q1, q2, q3, q4⟩
end Go.Proofs.YtgnofnjbmiepjaaGreat

namespace Go.Proofs.YtgnofnjbmiepjaaGreat
open Go.ChangeShapes Go.WideShapes Go.ChangeAt Go.RowKit Ieee.Own

def vecE (p : V3) (k : Int) : Value := .tuple #[vecV p, .int .i64 k]
def z3 : V3 := (0, 0, 0)
end Go.Proofs.YtgnofnjbmiepjaaGreat

namespace Go.Proofs.YtgnofnjbmiepjaaGreat
open Go.ChangeShapes Go.WideShapes Go.ChangeAt Go.RowKit Ieee.Own

end Go.Proofs.YtgnofnjbmiepjaaGreat

namespace Go.Proofs.YtgnofnjbmiepjaaGreat
open Ieee.Own

def qX (a b : Nat) : Nat := (Ieee.double.div a b).getD 0

end Go.Proofs.YtgnofnjbmiepjaaGreat

namespace Go.Proofs.YtgnofnjbmiepjaaGreat
open Go.ChangeShapes Go.WideShapes Go.ChangeAt Go.RowKit Ieee.Own

end Go.Proofs.YtgnofnjbmiepjaaGreat

namespace Go.Proofs.YtgnofnjbmiepjaaGreat
open Ieee.Own

end Go.Proofs.YtgnofnjbmiepjaaGreat

namespace Go.Proofs.YtgnofnjbmiepjaaGreat
open Ieee.Own Pol

def sm : Rat := mkRat 1 (2^200)
end Go.Proofs.YtgnofnjbmiepjaaGreat

namespace Go.Proofs.YtgnofnjbmiepjaaGreat
open Go.ChangeShapes Go.WideShapes Go.ChangeAt Go.RowKit Ieee.Own

end Go.Proofs.YtgnofnjbmiepjaaGreat

namespace Go.Proofs.YtgnofnjbmiepjaaGreat
open Go.ChangeShapes Go.WideShapes Go.ChangeAt Go.RowKit Ieee.Own

end Go.Proofs.YtgnofnjbmiepjaaGreat

namespace Go.Proofs.YtgnofnjbmiepjaaGreat
open Go.ChangeShapes Go.WideShapes Go.ChangeAt Go.RowKit Ieee.Own

end Go.Proofs.YtgnofnjbmiepjaaGreat

namespace Go.Proofs.YtgnofnjbmiepjaaGreat
open Go.ChangeShapes Go.WideShapes Go.ChangeAt Go.RowKit Ieee.Own

end Go.Proofs.YtgnofnjbmiepjaaGreat

namespace Go.Proofs.YtgnofnjbmiepjaaGreat
open Go.ChangeShapes Go.WideShapes Go.ChangeAt Go.RowKit Ieee.Own

end Go.Proofs.YtgnofnjbmiepjaaGreat

namespace Go.Proofs.YtgnofnjbmiepjaaGreat
open Go.ChangeShapes Go.WideShapes Go.ChangeAt Go.RowKit Ieee.Own

end Go.Proofs.YtgnofnjbmiepjaaGreat

namespace Go.Proofs.YtgnofnjbmiepjaaGreat
open Go.ChangeShapes Go.WideShapes Go.ChangeAt Go.RowKit Ieee.Own

end Go.Proofs.YtgnofnjbmiepjaaGreat
