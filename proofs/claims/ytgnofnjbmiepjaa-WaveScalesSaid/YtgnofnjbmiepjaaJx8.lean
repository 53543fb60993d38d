/- Proved here: what the texts Vbv prove, one behind the other. -/
import Derived.Test.YtgnofnjbmiepjaaJx7

namespace Go.Proofs.Ytgnofnjbmiepjaa
open Go.ChangeShapes Go.WideShapes Go.ChangeAt Go.RowKit Ieee.Own Pol

/-- one span in another -/
structure In7 (p q : Pr) : Prop where
  l1 : p.1 < 18446744073709551616
  l2 : p.2 < 18446744073709551616
  l3 : q.1 < 18446744073709551616
  l4 : q.2 < 18446744073709551616
  i : insB p.1 p.2 q.1 q.2 = true
theorem In7.two {p q r s : Pr} (h : In7 p q) (g : In7 r s) : Two p.1 p.2 r.1 r.2 q.1 q.2 s.1 s.2 := ⟨h.l1, h.l2, g.l1, g.l2, h.l3, h.l4, g.l3, g.l4, h.i, g.i⟩
theorem In7.one {p q : Pr} (h : In7 p q) : One p.1 p.2 q.1 q.2 := ⟨h.l1, h.l2, h.l3, h.l4, h.i⟩
theorem In7.add {p q r s u v : Pr} (h : In7 p q) (g : In7 r s) (a : AddR p r u) (b : AddR q s v) : In7 u v := by
  have x := OpAll.bd a.all
  have y := OpAll.bd b.all
  exact ⟨x.1, x.2.1, y.1, y.2.1, add_mono (h.two g) a b rfl rfl⟩
theorem In7.mul {p q r s u v : Pr} (h : In7 p q) (g : In7 r s) (a : MulR p r u) (b : MulR q s v) : In7 u v := by
  have x := OpAll.bd a
  have y := OpAll.bd b
  exact ⟨x.1, x.2.1, y.1, y.2.1, mul_mono (h.two g) a b rfl rfl⟩
theorem In7.sq {p q u v : Pr} (h : In7 p q) (a : SqR p u) (b : SqR q v) : In7 u v := by
  have x := OpAll.bd a
  have y := OpAll.bd b
  exact ⟨x.1, x.2.1, y.1, y.2.1, square_mono h.one a b rfl rfl⟩
/-! ### roots and quotients -/
def RootR (p u : Pr) (k : Int) : Prop := OpIs (errR p.1 p.2) (rootC p.1) (rootC p.2) (.returned (spanE u.1 u.2 k))
def DivR (p q u : Pr) (k : Int) : Prop := OpAll (errD p.1 p.2 q.1 q.2) [quotC p.1 q.1, quotC p.1 q.2, quotC p.2 q.1, quotC p.2 q.2] [quotC p.1 q.1, quotC p.1 q.2, quotC p.2 q.1, quotC p.2 q.2] (.returned (spanE u.1 u.2 k))
theorem In7.root {p q u v : Pr} (h : In7 p q) (a : RootR p u 0) (b : RootR q v 0) : In7 u v := by
  have x := OpAll.bd a.all
  have y := OpAll.bd b.all
  exact ⟨x.1, x.2.1, y.1, y.2.1, root_mono h.one a b rfl rfl⟩
theorem In7.div {p q r s u v : Pr} (h : In7 p q) (g : In7 r s) (a : DivR p r u 0) (b : DivR q s v 0) : In7 u v := by
  have x := OpAll.bd a
  have y := OpAll.bd b
  exact ⟨x.1, x.2.1, y.1, y.2.1, div_mono (h.two g) a b rfl rfl⟩
/-- a number's quotient by a length -/
structure QuoF (p n q : Pr) : Prop where
  r : DivR p n q 0
  w : W2 q
  e : errS q.1 q.2 = 0
  ends : ∃ lo hi, DnAll [quotC p.1 n.1, quotC p.1 n.2, quotC p.2 n.1, quotC p.2 n.2] lo ∧ UpAll [quotC p.1 n.1, quotC p.1 n.2, quotC p.2 n.1, quotC p.2 n.2] hi ∧ q.1 = lowW lo ∧ q.2 = highW hi
def shareP (q : Pr) : Pr := (meetX q.1 q.2 noneW oneW, meetY q.1 q.2 noneW oneW)
theorem one_words : noneW < 18446744073709551616 ∧ oneW < 18446744073709551616 ∧ errS noneW oneW = 0 := by decide +kernel
structure ShF (q s : Pr) : Prop where
  w : W2 s
  e : errS s.1 s.2 = 0
  v1 : V s.1 = V (mxW q.1 noneW)
  v2 : V s.2 = V (mnW q.2 oneW)
theorem share_facts {q : Pr} (w : W2 q) (e : errS q.1 q.2 = 0) (m : meetB q.1 q.2 noneW oneW = true) : ShF q (shareP q) := by
  obtain ⟨o1, o2, o3⟩ := one_words
  obtain ⟨f1, f2, -⟩ := errS_zero e
  obtain ⟨f3, f4, -⟩ := errS_zero o3
  have m1 := mx_fit w.l1 o1 f1 f3
  have m2 := mn_fit w.l2 o2 f2 f4
  have n1 := (mxW_fin (fit_fin w.l1 f1) (fit_fin o1 f3)).1
  have n2 := (mnW_fin (fit_fin w.l2 f2) (fit_fin o2 f4)).1
  have p1 := pos_fit n1 m1
  have p2 := pos_fit n2 m2
  have e1 : (shareP q).1 = posW (mxW q.1 noneW) := if_pos m
  have e2 : (shareP q).2 = posW (mnW q.2 oneW) := if_pos m
  have v1 : V (shareP q).1 = V (mxW q.1 noneW) := by rw [e1]; exact posW_V _
  have v2 : V (shareP q).2 = V (mnW q.2 oneW) := by rw [e2]; exact posW_V _
  have le := of_decide_eq_true m
  refine ⟨⟨by rw [e1]; exact p1.2, by rw [e2]; exact p2.2⟩, ?_, v1, v2⟩
  rw [e1, e2]
  exact errS_of ⟨p1.1, p2.1⟩ (by rw [posW_V, posW_V]; exact le)
theorem In7.share {q r : Pr} (h : In7 q r) (m : meetB q.1 q.2 noneW oneW = true) (m' : meetB r.1 r.2 noneW oneW = true) : In7 (shareP q) (shareP r) := by
  obtain ⟨e1, e2, a, b⟩ := insB_spec h.i
  have x := share_facts ⟨h.l1, h.l2⟩ e1 m
  have y := share_facts ⟨h.l3, h.l4⟩ e2 m'
  obtain ⟨o1, o2, o3⟩ := one_words
  obtain ⟨f1, f2, -⟩ := errS_zero e1
  obtain ⟨f3, f4, -⟩ := errS_zero e2
  obtain ⟨f5, f6, -⟩ := errS_zero o3
  have mx := mxW_spec (fit_fin h.l1 f1) (fit_fin o1 f5)
  have mn := mnW_spec (fit_fin h.l2 f2) (fit_fin o2 f6)
  have mx' := mxW_spec (fit_fin h.l3 f3) (fit_fin o1 f5)
  have mn' := mnW_spec (fit_fin h.l4 f4) (fit_fin o2 f6)
  refine ⟨x.w.l1, x.w.l2, y.w.l1, y.w.l2, ?_⟩
  unfold insB
  rw [decide_eq_true_eq, x.v1, x.v2, y.v1, y.v2]
  refine ⟨errSS_of' x.e y.e, ?_, ?_⟩
  · rcases mx'.1 with e | e <;> rw [e] <;> omega
  · rcases mn'.1 with e | e <;> rw [e] <;> omega

/-! ### boxes -/
structure In6 (a b : B6) : Prop where
  x : In7 a.1 b.1
  y : In7 a.2.1 b.2.1
  z : In7 a.2.2 b.2.2
structure Sn6 (a : B6) : Prop where
  x : Sn a.1 60
  y : Sn a.2.1 60
  z : Sn a.2.2 60
/-- the products -/
structure DotR (a b : B6) (m1 m2 m3 t u : Pr) : Prop where
  r1 : MulR a.1 b.1 m1
  r2 : MulR a.2.1 b.2.1 m2
  r3 : MulR a.2.2 b.2.2 m3
  r4 : AddR m1 m2 t
  r5 : AddR t m3 u
  w1 : W2 m1
  w2 : W2 m2
  w3 : W2 m3
  wt : W2 t
  wu : W2 u
theorem DotR.mono {a b c d : B6} {m1 m2 m3 t u m1' m2' m3' t' u' : Pr} (h : In6 a c) (g : In6 b d) (x : DotR a b m1 m2 m3 t u) (y : DotR c d m1' m2' m3' t' u') : In7 u u' :=
  (((h.x.mul g.x x.r1 y.r1).add (h.y.mul g.y x.r2 y.r2) x.r4 y.r4).add (h.z.mul g.z x.r3 y.r3) x.r5 y.r5)
/-- the squares' sum -/
structure LongR (a : B6) (m1 m2 m3 t u : Pr) : Prop where
  r1 : SqR a.1 m1
  r2 : SqR a.2.1 m2
  r3 : SqR a.2.2 m3
  r4 : AddR m1 m2 t
  r5 : AddR t m3 u
  w1 : W2 m1
  w2 : W2 m2
  w3 : W2 m3
  wt : W2 t
  wu : W2 u
  i : ∀ x y z, In x (ps a.1) → In y (ps a.2.1) → In z (ps a.2.2) → In (x * x + y * y + z * z) (ps u)
theorem LongR.mono {a c : B6} {m1 m2 m3 t u m1' m2' m3' t' u' : Pr} (h : In6 a c) (x : LongR a m1 m2 m3 t u) (y : LongR c m1' m2' m3' t' u') : In7 u u' :=
  (((h.x.sq x.r1 y.r1).add (h.y.sq x.r2 y.r2) x.r4 y.r4).add (h.z.sq x.r3 y.r3) x.r5 y.r5)
def NormR (a : B6) (n : Pr) : Prop := Sn6 a ∧ ∃ m1 m2 m3 t u, LongR a m1 m2 m3 t u ∧ RootR u n 0
theorem NormR.mono {a c : B6} {n m : Pr} (h : In6 a c) (x : NormR a n) (y : NormR c m) : In7 n m := by
  obtain ⟨-, _, _, _, _, _, l, r⟩ := x
  obtain ⟨-, _, _, _, _, _, l', r'⟩ := y
  exact (LongR.mono h l l').root r r'
/-- units -/
structure UnitR (a : B6) (n q1 q2 q3 : Pr) : Prop where
  nr : NormR a n
  pos : 0 < V n.1
  f1 : QuoF a.1 n q1
  f2 : QuoF a.2.1 n q2
  f3 : QuoF a.2.2 n q3
  m1 : meetB q1.1 q1.2 noneW oneW = true
  m2 : meetB q2.1 q2.2 noneW oneW = true
  m3 : meetB q3.1 q3.2 noneW oneW = true
theorem UnitR.mono {a c : B6} {n q1 q2 q3 n' q1' q2' q3' : Pr} (h : In6 a c) (x : UnitR a n q1 q2 q3) (y : UnitR c n' q1' q2' q3') : In6 (shareP q1, shareP q2, shareP q3) (shareP q1', shareP q2', shareP q3') := by
  have g := NormR.mono h x.nr y.nr
  exact ⟨(h.x.div g x.f1.r y.f1.r).share x.m1 y.m1, (h.y.div g x.f2.r y.f2.r).share x.m2 y.m2, (h.z.div g x.f3.r y.f3.r).share x.m3 y.m3⟩
end Go.Proofs.Ytgnofnjbmiepjaa
