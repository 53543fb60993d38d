/- Proved here: what the texts Sts, Usp, Upt, Ush, Uss, Usu prove, one behind the other. -/
import Derived.Test.YtnmadknpkhaolaaJz12
import Derived.Test.YtnmadknpkhaolaaJz9
import Derived.Test.YtnmadknpkhaolaaJz7
import Derived.Deep.CutRange
import Derived.BigQuiet

namespace Go.Proofs.Ytnmadknpkhaolaa
open Go.ChangeShapes Go.WideShapes Go.ChangeAt Go.RowKit Ieee.Own

structure Sets (a0 b0 a1 b1 : Nat) : Prop where
  la0 : a0 < 18446744073709551616
  lb0 : b0 < 18446744073709551616
  la1 : a1 < 18446744073709551616
  lb1 : b1 < 18446744073709551616
  e0 : errS a0 b0 = 0
  e1 : errS a1 b1 = 0
section
variable {a0 b0 a1 b1 : Nat} (T : Sets a0 b0 a1 b1)
include T
end
end Go.Proofs.Ytnmadknpkhaolaa

namespace Go.Proofs.Ytnmadknpkhaolaa
open Go.ChangeShapes Go.WideShapes Go.ChangeAt Go.RowKit Ieee.Own

/-- a span's words -/
abbrev Pr := Nat × Nat
def ps (p : Pr) : Sp := sp p.1 p.2
structure Sn (p : Pr) (m : Nat) : Prop where
  l1 : p.1 < 18446744073709551616
  l2 : p.2 < 18446744073709551616
  ok : errS p.1 p.2 = 0
  bd : Bnd p.1 p.2 m
theorem Sn.le {p : Pr} {m n : Nat} (h : Sn p m) (hm : m ≤ n) : Sn p n := ⟨h.l1, h.l2, h.ok, abs_up h.bd.1 (by omega), abs_up h.bd.2 (by omega)⟩
def AddR (p q u : Pr) : Prop := OpIs (errSS p.1 p.2 q.1 q.2) (fun v => V p.1 + V q.1 - v) (fun v => V p.2 + V q.2 - v) (.returned (spanE u.1 u.2 0))
def MulR (p q u : Pr) : Prop := OpAll (errSS p.1 p.2 q.1 q.2) [prodC p.1 q.1, prodC p.1 q.2, prodC p.2 q.1, prodC p.2 q.2] [prodC p.1 q.1, prodC p.1 q.2, prodC p.2 q.1, prodC p.2 q.2] (.returned (spanE u.1 u.2 0))
def SqR (p u : Pr) : Prop := OpAll (errS p.1 p.2) (sqLo p.1 p.2) (sqHi p.1 p.2) (.returned (spanE u.1 u.2 0))
def NegR (p u : Pr) : Prop := OpIs (errS p.1 p.2) (fun v => -V p.2 - v) (fun v => -V p.1 - v) (.returned (spanE u.1 u.2 0))

theorem pair_of {a b c d : Nat} {k l : Int} (h : Ending.returned (spanE a b k) = .returned (spanE c d l)) : ((a, b) : Pr) = (c, d) := by
  obtain ⟨rfl, rfl, -⟩ := spanE_inj (Ending.returned.inj h)
  rfl
theorem AddR.uniq {p q u v : Pr} (h : AddR p q u) (k : AddR p q v) : u = v := pair_of (h.all.uniq k.all)
theorem MulR.uniq {p q u v : Pr} (h : MulR p q u) (k : MulR p q v) : u = v := pair_of (OpAll.uniq h k)
theorem SqR.uniq {p u v : Pr} (h : SqR p u) (k : SqR p v) : u = v := pair_of (OpAll.uniq h k)
theorem NegR.uniq {p u v : Pr} (h : NegR p u) (k : NegR p v) : u = v := pair_of (h.all.uniq k.all)

/-! ### the series -/
def noneW : Nat := 13830554455654793216
def tauS : Pr := (tauW, nextW tauW)
def oneS : Pr := (oneW, oneW)
def epsS : Pr := (13546827679130451968, 4323455642275676160)
def epsC : Pr := (13569345677267304448, 4345973640412528640)
def facS (a : Nat) : Pr := (prevW a, nextW a)
def SerR (Z : Pr) : List Nat → Pr → Prop
  | [], P => P = (0, 0)
  | a :: al, P => ∃ P' M, SerR Z al P' ∧ MulR Z P' M ∧ AddR (facS a) M P
theorem SerR.uniq {Z : Pr} : ∀ {al : List Nat} {P R : Pr}, SerR Z al P → SerR Z al R → P = R
  | [], P, R, h, k => by
    have h : P = (0, 0) := h
    have k : R = (0, 0) := k
    rw [h, k]
  | _ :: _, _, _, ⟨_, _, h1, h2, h3⟩, ⟨_, _, k1, k2, k3⟩ => by
    obtain rfl := SerR.uniq h1 k1
    obtain rfl := h2.uniq k2
    exact h3.uniq k3
/-- the spans of a rest's sine and cosine, step by step -/
structure Sur (r : Nat) (Y Z P M N W S P2 M2 W2 C : Pr) : Prop where
  y : MulR (r, r) tauS Y
  z : SqR Y Z
  p : SerR Z sinW P
  m : MulR Z P M
  n : MulR Y M N
  w : AddR Y N W
  s : AddR W epsS S
  p2 : SerR Z cosW P2
  m2 : MulR Z P2 M2
  w2 : AddR oneS M2 W2
  c : AddR W2 epsC C
def SurR (r : Nat) (S C : Pr) : Prop := ∃ Y Z P M N W P2 M2 W2, Sur r Y Z P M N W S P2 M2 W2 C
theorem SurR.uniq {r : Nat} {S C S' C' : Pr} (h : SurR r S C) (k : SurR r S' C') : S = S' ∧ C = C' := by
  obtain ⟨Y, Z, P, M, N, W, P2, M2, W2, h⟩ := h
  obtain ⟨Y', Z', P', M', N', W', P2', M2', W2', k⟩ := k
  obtain rfl := h.y.uniq k.y
  obtain rfl := h.z.uniq k.z
  obtain rfl := h.p.uniq k.p
  obtain rfl := h.m.uniq k.m
  obtain rfl := h.n.uniq k.n
  obtain rfl := h.w.uniq k.w
  obtain rfl := h.p2.uniq k.p2
  obtain rfl := h.m2.uniq k.m2
  obtain rfl := h.w2.uniq k.w2
  exact ⟨h.s.uniq k.s, h.c.uniq k.c⟩

end Go.Proofs.Ytnmadknpkhaolaa

namespace Go.Proofs.Ytnmadknpkhaolaa
open Go.ChangeShapes Go.WideShapes Go.ChangeAt Go.RowKit Ieee.Own

/-! ### cut to -1 .. 1 -/
def cutP (p : Pr) : Pr := (meetX p.1 p.2 noneW oneW, meetY p.1 p.2 noneW oneW)
/-- a span among -1 .. 1 -/
structure Unit1 (u : Pr) : Prop where
  l1 : u.1 < 18446744073709551616
  l2 : u.2 < 18446744073709551616
  ok : errS u.1 u.2 = 0
  lo : V noneW ≤ V u.1
  hi : V u.2 ≤ V oneW
theorem Q_congr {a b : Nat} (h : V a = V b) : Q a = Q b := by unfold Q; rw [h]
/-! ### by quarters -/
def qsP (k : Int) (S C nS nC : Pr) : Pr := if k = 0 then S else if k = 1 then C else if k = 2 then nS else nC
def qcP (k : Int) (S C nS nC : Pr) : Pr := if k = 0 then C else if k = 1 then nS else if k = 2 then nC else S
structure PtR (x : Nat) (p q : Pr) : Prop where
  ex : ∃ r S C nS nC, Rst x r ∧ SurR r S C ∧ NegR S nS ∧ NegR C nC ∧ p = cutP (qsP (kq eig (V x) % 4) S C nS nC) ∧ q = cutP (qcP (kq eig (V x) % 4) S C nS nC)
theorem PtR.uniq {x : Nat} {p q p' q' : Pr} (h : PtR x p q) (k : PtR x p' q') : p = p' ∧ q = q' := by
  obtain ⟨r, S, C, nS, nC, R, U, n1, n2, e1, e2⟩ := h.ex
  obtain ⟨r', S', C', nS', nC', R', U', n1', n2', e1', e2'⟩ := k.ex
  obtain rfl := R.uniq R'
  obtain ⟨rfl, rfl⟩ := U.uniq U'
  obtain rfl := n1.uniq n1'
  obtain rfl := n2.uniq n2'
  rw [e1, e2, e1', e2']; exact ⟨rfl, rfl⟩

theorem Q_neg {a b : Nat} (h : V a = -V b) : Q a = -Q b := by
  unfold Q; rw [h, Rat.intCast_neg]; simp only [Rat.div_def]; grind
/-- what the spans at an angle hold -/
structure PtH (x : Nat) (p q : Pr) : Prop where
  rel : PtR x p q
  up : Unit1 p
  uq : Unit1 q
  rest : ∃ r, Rst x r ∧ Inc (Ply.sq (kq eig (V x)) (Ply.tau * Q r)) (ps p) ∧ Inc (Ply.sq (kq eig (V x) + 1) (Ply.tau * Q r)) (ps q)

end Go.Proofs.Ytnmadknpkhaolaa

namespace Go.Proofs.Ytnmadknpkhaolaa
open Go.ChangeShapes Go.WideShapes Go.ChangeAt Go.RowKit Ieee.Own

end Go.Proofs.Ytnmadknpkhaolaa

namespace Go.Proofs.Ytnmadknpkhaolaa
open Go.ChangeShapes Go.WideShapes Go.ChangeAt Go.RowKit Ieee.Own

theorem put2_cell {w : World} {g s t : Nat} (a : Addr) (h : a.block ≠ g) : (put2 w g s t).cell? a = w.cell? a := by
  unfold put2
  rw [World.cell?_setCell_other _ _ _ _ (by intro e; exact h (by rw [← e])), World.cell?_setCell_other _ _ _ _ (by intro e; exact h (by rw [← e]))]
/-- an array of floats in a block -/
structure Arr (w : World) (g : Nat) (L : List Nat) : Prop where
  lt : g < w.heap.size
  at_ : ∀ i, i < L.length → w.cell? ⟨g, i, none⟩ = some (.float .f64 (L.getD i 0))
theorem Arr.on {w w' : World} {g : Nat} {L : List Nat} (A : Arr w g L) (h : Below w.heap.size w w') : Arr w' g L := ⟨Nat.lt_of_lt_of_le A.lt h.size, fun i hi => (cell_on h _ A.lt).trans (A.at_ i hi)⟩
theorem Arr.put {w : World} {g h s t : Nat} {L : List Nat} (A : Arr w g L) (hg : g ≠ h) : Arr (put2 w h s t) g L := ⟨by rw [put2_size]; exact A.lt, fun i hi => by rw [put2_cell _ hg]; exact A.at_ i hi⟩
theorem Arr.drew {w : World} {g : Nat} {L : List Nat} (A : Arr w g L) : Arr w.drew g L := ⟨A.lt, A.at_⟩

end Go.Proofs.Ytnmadknpkhaolaa

namespace Go.Proofs.Ytnmadknpkhaolaa
open Go.ChangeShapes Go.WideShapes Go.ChangeAt Go.RowKit Ieee.Own

end Go.Proofs.Ytnmadknpkhaolaa
