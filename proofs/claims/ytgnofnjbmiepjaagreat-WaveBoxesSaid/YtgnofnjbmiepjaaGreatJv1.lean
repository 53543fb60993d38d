/- Proved here: what the texts Vck, Vsc, Vop, Vnm, Vlw, Vei, Vun, Vma, Vmb, Vmc, Vmd, Vme, Vmf, Vmg prove, one behind the other. -/
import Derived.Test.YtgnofnjbmiepjaaGreatJb6
import Derived.Test.YtgnofnjbmiepjaaGreatJb3
import Derived.Test.YtgnofnjbmiepjaaGreatJr
import Derived.Test.YtgnofnjbmiepjaaGreatJp
import Derived.Test.YtgnofnjbmiepjaaGreatJb2
import Derived.Test.YtgnofnjbmiepjaaGreatJb5
import Derived.LoopN

namespace Go.Proofs.YtgnofnjbmiepjaaGreat
open Go.ChangeShapes Go.WideShapes Go.ChangeAt Go.RowKit Ieee.Own

abbrev V3 := Nat × Nat × Nat
def vecV (p : V3) : Value := .agg #[.float .f64 p.1, .float .f64 p.2.1, .float .f64 p.2.2]
theorem mul_ok {a b i k : Nat} (ha : FinW a) (hb : FinW b) (xa : (V a).natAbs ≤ 2 ^ i) (xb : (V b).natAbs ≤ 2 ^ i) (e : i + i = k + 1074) (h2 : k < 2000) :
 Ieee.double.mul a b = some (mX a b) ∧ FinW (mX a b) ∧ V (mX a b) = RZ (V a * V b) ∧ (V (mX a b)).natAbs ≤ 2 ^ k := by
 obtain ⟨r, q1, q2, q3, q4⟩ := mulB ha hb xa xb e (by omega)
 have er : mX a b = r := by unfold mX; rw [q1]; rfl
 rw [er]
 exact ⟨q1, q2, q3, q4⟩
theorem add_ok {a b i k : Nat} (ha : FinW a) (hb : FinW b) (xa : (V a).natAbs ≤ 2 ^ i) (xb : (V b).natAbs ≤ 2 ^ i) (e : k = i + 1) (h2 : i < 2000) :
 Ieee.double.add a b = some (aX a b) ∧ FinW (aX a b) ∧ V (aX a b) = RN (V a + V b) ∧ (V (aX a b)).natAbs ≤ 2 ^ k := by
 subst e
 obtain ⟨r, q1, q2, q3, q4⟩ := addW ha hb xa xb h2
 have er : aX a b = r := by unfold aX; rw [q1]; rfl
 rw [er]
 exact ⟨q1, q2, q3, q4⟩
end Go.Proofs.YtgnofnjbmiepjaaGreat

namespace Go.Proofs.YtgnofnjbmiepjaaGreat
open Go.ChangeShapes Go.WideShapes Go.ChangeAt Go.RowKit Ieee.Own

def vecE (p : V3) (k : Int) : Value := .tuple #[vecV p, .int .i64 k]
def z3 : V3 := (0, 0, 0)
theorem Bd.fin {p : V3} {k : Nat} (h : Bd p k) : F3 p := ⟨h.f1, h.f2, h.f3⟩
theorem F3.w {p : V3} (h : F3 p) : W3 p := ⟨h.f1.1, h.f2.1, h.f3.1⟩
theorem F3.b {p : V3} (h : F3 p) : F3 (bV p) := ⟨(bW_spec h.f1).1, (bW_spec h.f2).1, (bW_spec h.f3).1⟩
end Go.Proofs.YtgnofnjbmiepjaaGreat

namespace Go.Proofs.YtgnofnjbmiepjaaGreat
open Go.ChangeShapes Go.WideShapes Go.ChangeAt Go.RowKit Ieee.Own

end Go.Proofs.YtgnofnjbmiepjaaGreat

namespace Go.Proofs.YtgnofnjbmiepjaaGreat
open Ieee.Own

def qX (a b : Nat) : Nat := (Ieee.double.div a b).getD 0

end Go.Proofs.YtgnofnjbmiepjaaGreat

namespace Go.Proofs.YtgnofnjbmiepjaaGreat
open Go.ChangeShapes Go.WideShapes Go.ChangeAt Go.RowKit Ieee.Own

theorem D3.bd {p : V3} (h : D3 p) : Bd p 1134 := ⟨h.w1.fin, h.w2.fin, h.w3.fin, h.w1.abs, h.w2.abs, h.w3.abs⟩
end Go.Proofs.YtgnofnjbmiepjaaGreat

namespace Go.Proofs.YtgnofnjbmiepjaaGreat
open Ieee.Own

end Go.Proofs.YtgnofnjbmiepjaaGreat

namespace Go.Proofs.YtgnofnjbmiepjaaGreat
open Ieee.Own Pol

end Go.Proofs.YtgnofnjbmiepjaaGreat

namespace Go.Proofs.YtgnofnjbmiepjaaGreat
open Go.ChangeShapes Go.WideShapes Go.ChangeAt Go.RowKit Ieee.Own

end Go.Proofs.YtgnofnjbmiepjaaGreat

namespace Go.Proofs.YtgnofnjbmiepjaaGreat
open Go.ChangeShapes Go.WideShapes Go.ChangeAt Go.RowKit Ieee.Own

end Go.Proofs.YtgnofnjbmiepjaaGreat

namespace Go.Proofs.YtgnofnjbmiepjaaGreat
open Go.ChangeShapes Go.WideShapes Go.ChangeAt Go.RowKit Ieee.Own

end Go.Proofs.YtgnofnjbmiepjaaGreat

namespace Go.Proofs.YtgnofnjbmiepjaaGreat
open Go.ChangeShapes Go.WideShapes Go.ChangeAt Go.RowKit Ieee.Own

end Go.Proofs.YtgnofnjbmiepjaaGreat

namespace Go.Proofs.YtgnofnjbmiepjaaGreat
open Go.ChangeShapes Go.WideShapes Go.ChangeAt Go.RowKit Ieee.Own

theorem F9.w {m : M9} (h : F9 m) : W9 m := ⟨h.f1.w, h.f2.w, h.f3.w⟩
end Go.Proofs.YtgnofnjbmiepjaaGreat

namespace Go.Proofs.YtgnofnjbmiepjaaGreat
open Go.ChangeShapes Go.WideShapes Go.ChangeAt Go.RowKit Ieee.Own

theorem TurnR.of {a : Int} {x s c : Nat} (h : 0 ≤ a ∧ a ≤ 2) (e : errA x = 0) (T : Trig x s c) : TurnR a x (tM a (bW s) (bW c) (negN (bW s)), 0) := ⟨fun h => absurd rfl h, fun _ => ⟨h, e, s, c, T, rfl⟩⟩
end Go.Proofs.YtgnofnjbmiepjaaGreat

namespace Go.Proofs.YtgnofnjbmiepjaaGreat
open Go.ChangeShapes Go.WideShapes Go.ChangeAt Go.RowKit Ieee.Own

theorem D3.b {p : V3} (hw : W3 p) (f : fitV p = true) : D3 (bV p) ∧ V (bV p).1 = V p.1 ∧ V (bV p).2.1 = V p.2.1 ∧ V (bV p).2.2 = V p.2.2 := by
 have B := fitV_bd hw f
 have fb : fitV (bV p) = true := by unfold fitV bV; rw [vnB_bW B.f1 B.b1, vnB_bW B.f2 B.b2, vnB_bW B.f3 B.b3]; rfl
 unfold fitV at f
 simp only [Bool.and_eq_true] at f
 exact ⟨fitV_wd B.fin.b.w fb, bW_fit B.f1 (vnB_spec hw.l1 f.1.1).2.1, bW_fit B.f2 (vnB_spec hw.l2 f.1.2).2.1, bW_fit B.f3 (vnB_spec hw.l3 f.2).2.1⟩
end Go.Proofs.YtgnofnjbmiepjaaGreat
