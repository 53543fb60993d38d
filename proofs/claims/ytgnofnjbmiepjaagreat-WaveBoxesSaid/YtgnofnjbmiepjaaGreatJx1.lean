/- Proved here: what the texts Vbk, Vbl, Vbn, Vbo, Bg, Vbx, Vby, Vbya, Vbyb, Vbt, Vbv, Vbw, Vob prove, one behind the other. -/
import Derived.Test.YtgnofnjbmiepjaaGreatJv1
import Derived.Test.YtgnofnjbmiepjaaGreatJb9
import Derived.Test.YtgnofnjbmiepjaaGreatJb8
import Derived.Test.YtgnofnjbmiepjaaGreatJr

set_option maxHeartbeats 4000000
set_option maxRecDepth 100000
namespace Go.Proofs.YtgnofnjbmiepjaaGreat
open Ieee.Own Pol

theorem ends {u S σ p e1 e2 d P : Rat} (u0 : 0 ≤ u) (u1 : 1000 * u ≤ 1) (S0 : 0 ≤ S) (s0 : 0 ≤ σ) (hpS : p ≤ S) (hd : d = 33 * u) (he1 : e1 = 4 * (u * (2 * S)) + σ) (he2 : e2 = 4 * (u * (2 * (2 * (2 * S + e1)))) + σ)
 (h : P ≤ d * p + 4 * e1 + e2) : P ≤ 116 * (u * S) + 16 * σ := by
 subst hd he1 he2
 have a := Rat.mul_nonneg u0 S0
 have b := Rat.mul_nonneg a (show 0 ≤ 1 - 1000 * u by grind)
 have c := Rat.mul_nonneg u0 (show 0 ≤ S - p by grind)
 have e := Rat.mul_nonneg s0 (show 0 ≤ 1 - 1000 * u by grind)
 grind
end Go.Proofs.YtgnofnjbmiepjaaGreat

namespace Go.Proofs.YtgnofnjbmiepjaaGreat
open Go.ChangeShapes Go.WideShapes Go.ChangeAt Go.RowKit Ieee.Own Pol

end Go.Proofs.YtgnofnjbmiepjaaGreat

namespace Go.Proofs.YtgnofnjbmiepjaaGreat
open Go.ChangeShapes Go.WideShapes Go.ChangeAt Go.RowKit Ieee.Own Pol

end Go.Proofs.YtgnofnjbmiepjaaGreat

namespace Go.Proofs.YtgnofnjbmiepjaaGreat
open Go.ChangeShapes Go.WideShapes Go.ChangeAt Go.RowKit Ieee.Own

end Go.Proofs.YtgnofnjbmiepjaaGreat

namespace Go.Proofs.YtgnofnjbmiepjaaGreat
open Go.ChangeShapes Go.WideShapes Go.ChangeAt Go.RowKit Ieee.Own

theorem tw_all7 : ∀ m, m < 190 → V (tw m) = 2 ^ (1074 + m) ∧ V (ntw m) = -(2 ^ (1074 + m)) ∧
 (tw m < 18446744073709551616 ∧ tw m % 9223372036854775808 < 9218868437227405312) ∧ (ntw m < 18446744073709551616 ∧ ntw m % 9223372036854775808 < 9218868437227405312) ∧
 V (lowW (ntw m)) = -(2 ^ (1074 + m)) ∧ V (highW (tw m)) = 2 ^ (1074 + m) ∧ (2 : Int) ^ (1074 + m) ≤ mostV := by decide +kernel
theorem told_fit7 {er : Int} {cs ds : List (Int → Int)} {x y : Nat} {k : Int} {m : Nat} (h : OpAll er cs ds (.returned (spanE x y k))) (h0 : er = 0) (hm : m < 190)
 (hc : ∀ c ∈ cs, 0 ≤ c (-(2 ^ (1074 + m)))) (hd : ∀ d ∈ ds, d (2 ^ (1074 + m)) ≤ 0) : k = 0 ∧ -(2 ^ (1074 + m)) ≤ V x ∧ V y ≤ 2 ^ (1074 + m) := by
 obtain ⟨t1, t2, t3, t4, t5, t6, t7⟩ := tw_all7 m hm
 obtain ⟨lo, hi, e, d, u⟩ := h.1 h0
 have a := d.top (ntw m) t4 (fun c hcs => by rw [t2]; exact hc c hcs)
 have b := u.low (tw m) t3 (fun c hcs => by rw [t1]; exact hd c hcs)
 have a' := lowW_mono (x := ntw m) (y := lo) a
 have b' := highW_mono (x := hi) (y := tw m) b
 rw [t5] at a'
 rw [t6] at b'
 have e' : toldE lo hi = spanE x y k := (Ending.returned.inj e).symm
 have nb := most_aux a' b' t7
 unfold toldE at e'
 rw [if_neg nb] at e'
 obtain ⟨rfl, rfl, rfl⟩ := spanE_inj e'
 exact ⟨rfl, a', b'⟩
theorem sum_ok7 {a1 a2 b1 b2 x y m : Nat} {k : Int} (ea : errS a1 a2 = 0) (eb : errS b1 b2 = 0) (A : Bnd a1 a2 m) (B : Bnd b1 b2 m) (hm : m + 1 < 190)
 (h : OpIs (errSS a1 a2 b1 b2) (fun v => V a1 + V b1 - v) (fun v => V a2 + V b2 - v) (.returned (spanE x y k))) :
 k = 0 ∧ errS x y = 0 ∧ Bnd x y (m + 1) ∧ AddSp (sp a1 a2) (sp b1 b2) (sp x y) := by
 have h0 := errSS_of' ea eb
 obtain ⟨-, -, l1⟩ := errS_zero ea
 obtain ⟨-, -, l2⟩ := errS_zero eb
 obtain ⟨A1, A2⟩ := A
 obtain ⟨B1, B2⟩ := B
 have p1 := pw_cast A1
 have p2 := pw_cast A2
 have p3 := pw_cast B1
 have p4 := pw_cast B2
 have tw : (2 : Int) ^ (1074 + (m + 1)) = 2 * 2 ^ (1074 + m) := pow_next (1074 + m)
 obtain ⟨k0, b1', b2'⟩ := told_fit7 (m := m + 1) h.all h0 hm
  (by rw [tw]; intro c hc; rw [List.mem_singleton.1 hc]; exact sum_aux1 p1.1 p3.1)
  (by rw [tw]; intro c hc; rw [List.mem_singleton.1 hc]; exact sum_aux2 p2.2 p4.2)
 obtain ⟨f, S⟩ := sum_sp h k0 h0
 have q : Q x ≤ Q y := by
  obtain ⟨s1, s2⟩ := S
  exact q_chain s1 s2 ((Q_le (a := a1) (b := a2)).2 l1) ((Q_le (a := b1) (b := b2)).2 l2)
 have q' := Q_le.1 q
 have pa := pw_abs (1074 + (m + 1))
 have pn : (0 : Int) ≤ 2 ^ (1074 + (m + 1)) := Int.pow_nonneg (by omega)
 exact ⟨k0, errS_of f q', ⟨by omega, by omega⟩, S⟩
theorem prod_ok7 {a1 a2 b1 b2 x y i j : Nat} {k : Int} (ha1 : a1 < 18446744073709551616) (ha2 : a2 < 18446744073709551616) (hb1 : b1 < 18446744073709551616) (hb2 : b2 < 18446744073709551616)
 (ea : errS a1 a2 = 0) (eb : errS b1 b2 = 0) (A : Bnd a1 a2 i) (B : Bnd b1 b2 j) (hm : i + j < 190)
 (h : OpAll (errSS a1 a2 b1 b2) [prodC a1 b1, prodC a1 b2, prodC a2 b1, prodC a2 b2] [prodC a1 b1, prodC a1 b2, prodC a2 b1, prodC a2 b2] (.returned (spanE x y k))) :
 k = 0 ∧ errS x y = 0 ∧ Bnd x y (i + j) ∧ MulSp (sp a1 a2) (sp b1 b2) (sp x y) := by
 have h0 := errSS_of' ea eb
 obtain ⟨f1, f2, -⟩ := errS_zero ea
 obtain ⟨f3, f4, -⟩ := errS_zero eb
 have p1 := pw_cast (prod_bnd ha1 hb1 f1 f3 A.1 B.1)
 have p2 := pw_cast (prod_bnd ha1 hb2 f1 f4 A.1 B.2)
 have p3 := pw_cast (prod_bnd ha2 hb1 f2 f3 A.2 B.1)
 have p4 := pw_cast (prod_bnd ha2 hb2 f2 f4 A.2 B.2)
 obtain ⟨k0, b1', b2'⟩ := told_fit7 (m := i + j) h h0 hm
  (by
   intro c hc
   simp only [List.mem_cons, List.not_mem_nil, or_false] at hc
   rcases hc with rfl | rfl | rfl | rfl
   · exact prod_aux1 p1.1
   · exact prod_aux1 p2.1
   · exact prod_aux1 p3.1
   · exact prod_aux1 p4.1)
  (by
   intro c hc
   simp only [List.mem_cons, List.not_mem_nil, or_false] at hc
   rcases hc with rfl | rfl | rfl | rfl
   · exact prod_aux2 p1.2
   · exact prod_aux2 p2.2
   · exact prod_aux2 p3.2
   · exact prod_aux2 p4.2)
 obtain ⟨f, S⟩ := prod_sp ha1 ha2 hb1 hb2 h k0 h0
 have q := Q_le.1 (Rat.le_trans S.1.1 S.2.1)
 exact ⟨k0, errS_of f q, bnd_aux b1' b2' q (pw_abs _), S⟩
theorem square_ok7 {a b x y i : Nat} {k : Int} (ha : a < 18446744073709551616) (hb : b < 18446744073709551616) (ea : errS a b = 0) (A : Bnd a b i) (hm : i + i < 190)
 (h : OpAll (errS a b) (sqLo a b) (sqHi a b) (.returned (spanE x y k))) : k = 0 ∧ errS x y = 0 ∧ Bnd x y (i + i) ∧ SqSp (sp a b) (sp x y) := by
 obtain ⟨f1, f2, l⟩ := errS_zero ea
 have p1 := pw_cast (prod_bnd ha ha f1 f1 A.1 A.1)
 have p2 := pw_cast (prod_bnd hb hb f2 f2 A.2 A.2)
 have pn : (0 : Int) ≤ 2 ^ (1074 + (i + i)) := Int.pow_nonneg (by omega)
 have lo : ∀ c ∈ sqLo a b, 0 ≤ c (-(2 ^ (1074 + (i + i)))) := by
  intro c hc
  unfold sqLo at hc
  split at hc
  · rw [List.mem_singleton.1 hc]; exact prod_aux1 p1.1
  · split at hc
    · rw [List.mem_singleton.1 hc]; exact prod_aux1 p2.1
    · rw [List.mem_singleton.1 hc]; exact prod_aux1 (n := 0) (by omega)
 have hi : ∀ c ∈ sqHi a b, c (2 ^ (1074 + (i + i))) ≤ 0 := by
  intro c hc
  unfold sqHi at hc
  split at hc
  · rw [List.mem_singleton.1 hc]; exact prod_aux2 p2.2
  · split at hc
    · rw [List.mem_singleton.1 hc]; exact prod_aux2 p1.2
    · simp only [List.mem_cons, List.not_mem_nil, or_false] at hc
      rcases hc with rfl | rfl
      · exact prod_aux2 p1.2
      · exact prod_aux2 p2.2
 obtain ⟨k0, b1', b2'⟩ := told_fit7 (m := i + i) h ea hm lo hi
 obtain ⟨f, S⟩ := square_sp ha hb h k0 ea
 -- a point of the span tells that the ends are in order
 have qa : In (Q a) (sp a b) := ⟨by show Q a ≤ Q a; exact Rat.le_refl, Q_le.2 l⟩
 have m := qa.sq S
 have q := Q_le.1 (Rat.le_trans m.1 m.2)
 exact ⟨k0, errS_of f q, bnd_aux b1' b2' q (pw_abs _), S⟩
theorem add_step7 {p q : Pr} {m : Nat} (hp : Sn p m) (hq : Sn q m) (hm : m + 1 < 190) : ∃ u, Sn u (m + 1) ∧ AddR p q u ∧ AddSp (ps p) (ps q) (ps u) := by
 obtain ⟨f1, f2, -⟩ := hp.fits
 obtain ⟨g1, g2, -⟩ := hq.fits
 obtain ⟨s, e, R, ⟨-, -, K, hK, hs, -⟩, -⟩ := sum_fit p.1 q.1 hp.l1 hq.l1 f1 g1
 obtain ⟨t, d, R', ⟨-, -, K', hK', hs', -⟩, -⟩ := sum_fit p.2 q.2 hp.l2 hq.l2 f2 g2
 have A := sum_dn R (bd_of hs hK)
 have B := sum_up R' (bd_of hs' hK')
 have h0 := errSS_of' hp.ok hq.ok
 obtain ⟨x, y, c, ht⟩ := toldE_span (dnW (V e < 0) s) (upW (0 < V d) t)
 have O : OpIs (errSS p.1 p.2 q.1 q.2) (fun v => V p.1 + V q.1 - v) (fun v => V p.2 + V q.2 - v) (.returned (spanE x y c)) := ⟨fun _ => ⟨_, _, by rw [ht], A, B⟩, fun h => absurd h0 h⟩
 obtain ⟨rfl, e0, b, S⟩ := sum_ok7 hp.ok hq.ok hp.bd hq.bd hm O
 obtain ⟨lx, ly, -⟩ := O.all.bd
 exact ⟨(x, y), ⟨lx, ly, e0, b⟩, O, S⟩
theorem mul_step7 {p q : Pr} {i j : Nat} (hp : Sn p i) (hq : Sn q j) (hm : i + j < 190) : ∃ u, Sn u (i + j) ∧ MulR p q u ∧ MulSp (ps p) (ps q) (ps u) := by
 obtain ⟨f1, f2, -⟩ := hp.fits
 obtain ⟨g1, g2, -⟩ := hq.fits
 obtain ⟨_, _, d1, u1⟩ := corner_ex hp.l1 hq.l1 f1 g1
 obtain ⟨_, _, d2, u2⟩ := corner_ex hp.l1 hq.l2 f1 g2
 obtain ⟨_, _, d3, u3⟩ := corner_ex hp.l2 hq.l1 f2 g1
 obtain ⟨_, _, d4, u4⟩ := corner_ex hp.l2 hq.l2 f2 g2
 have F := four_of d1 d2 d3 d4 u1 u2 u3 u4 (falls_prod _ _) (falls_prod _ _) (falls_prod _ _) (falls_prod _ _)
 have h0 := errSS_of' hp.ok hq.ok
 obtain ⟨x, y, c, ht⟩ := toldE_span _ _
 have O : OpAll (errSS p.1 p.2 q.1 q.2) [prodC p.1 q.1, prodC p.1 q.2, prodC p.2 q.1, prodC p.2 q.2] [prodC p.1 q.1, prodC p.1 q.2, prodC p.2 q.1, prodC p.2 q.2] (.returned (spanE x y c)) := ⟨fun _ => ⟨_, _, by rw [ht], F.lo, F.hi⟩, fun h => absurd h0 h⟩
 obtain ⟨rfl, e0, b, S⟩ := prod_ok7 hp.l1 hp.l2 hq.l1 hq.l2 hp.ok hq.ok hp.bd hq.bd hm O
 obtain ⟨lx, ly, -⟩ := O.bd
 exact ⟨(x, y), ⟨lx, ly, e0, b⟩, O, S⟩
theorem sq_step7 {p : Pr} {i : Nat} (hp : Sn p i) (hm : i + i < 190) : ∃ u, Sn u (i + i) ∧ SqR p u ∧ SqSp (ps p) (ps u) := by
 obtain ⟨lo, A⟩ := sq_dn_ex hp
 obtain ⟨hi, B⟩ := sq_up_ex hp
 obtain ⟨x, y, c, ht⟩ := toldE_span lo hi
 have O : OpAll (errS p.1 p.2) (sqLo p.1 p.2) (sqHi p.1 p.2) (.returned (spanE x y c)) := ⟨fun _ => ⟨lo, hi, by rw [ht], A, B⟩, fun h => absurd hp.ok h⟩
 obtain ⟨rfl, e0, b, S⟩ := square_ok7 hp.l1 hp.l2 hp.ok hp.bd hm O
 obtain ⟨lx, ly, -⟩ := O.bd
 exact ⟨(x, y), ⟨lx, ly, e0, b⟩, O, S⟩
end Go.Proofs.YtgnofnjbmiepjaaGreat

namespace Go.Proofs.YtgnofnjbmiepjaaGreat
open Go.ChangeShapes Go.WideShapes Go.ChangeAt Go.RowKit Ieee.Own

abbrev B6 := Pr × Pr × Pr
def boxV (b : B6) : Value := .agg #[.float .f64 b.1.1, .float .f64 b.1.2, .float .f64 b.2.1.1, .float .f64 b.2.1.2, .float .f64 b.2.2.1, .float .f64 b.2.2.2]
def boxE (b : B6) (k : Int) : Value := .tuple #[boxV b, .int .i64 k]
structure W2 (p : Pr) : Prop where
 l1 : p.1 < 18446744073709551616
 l2 : p.2 < 18446744073709551616
structure W6 (b : B6) : Prop where
 x : W2 b.1
 y : W2 b.2.1
 z : W2 b.2.2
def z6 : B6 := ((0, 0), (0, 0), (0, 0))
end Go.Proofs.YtgnofnjbmiepjaaGreat

namespace Go.Proofs.YtgnofnjbmiepjaaGreat
open Go.ChangeShapes Go.WideShapes Go.ChangeAt Go.RowKit Ieee.Own

end Go.Proofs.YtgnofnjbmiepjaaGreat

namespace Go.Proofs.YtgnofnjbmiepjaaGreat
open Go.ChangeShapes Go.WideShapes Go.ChangeAt Go.RowKit Ieee.Own

end Go.Proofs.YtgnofnjbmiepjaaGreat

namespace Go.Proofs.YtgnofnjbmiepjaaGreat
open Go.ChangeShapes Go.WideShapes Go.ChangeAt Go.RowKit Ieee.Own

end Go.Proofs.YtgnofnjbmiepjaaGreat

namespace Go.Proofs.YtgnofnjbmiepjaaGreat
open Go.ChangeShapes Go.WideShapes Go.ChangeAt Go.RowKit Ieee.Own Pol

theorem errS_self7 {c : Nat} (f : fitB c = true) : errS c c = 0 := errS_of ⟨f, f⟩ (Int.le_refl _)
theorem sof7_run {c : Nat} (hc : c < 18446744073709551616) (f : fitB c = true) (w : World) : Calls Tryz.prog 65 #[.float .f64 c] w fun e w' => e = .returned (spanE (posW c) (posW c) 0) ∧ Below w.heap.size w w' := by
 have M := Lib.hid (fun w => (make_run c c hc hc w).mono fun e w' h => (⟨h.1.trans (congrArg Ending.returned (show makeE c c = spanE (posW c) (posW c) 0 by unfold makeE; rw [if_pos (errS_self7 f)])), h.2⟩ : e = .returned (spanE (posW c) (posW c) 0) ∧ Below w.heap.size w w'))
 unfold spanE at *
 have hst := @fstore
 clear f hc
 generalize posW c = u at *
 have C0 : Cls w [(w.heap.size, 0, 0)] (w.alloc (boxO 0 0)) := (Cls.nil w).new 0 0
 unfold boxO at C0
 replace C0 := Lib.hid C0
 go_enter Tryz.func65, Tryz.ntmps65
 go_wp2_with fail
 have C := C0.out
 clear C0
 generalize w.alloc _ = wr at *
 refine (M.out wr).mono ?_
 rintro _ w1 ⟨rfl, hb⟩
 have C1 := C.on hb
 have c0 := (C1.at_ 0 rfl).lo
 have c1 := (C1.at_ 0 rfl).hi
 have f0 := (C1.at_ 0 rfl).f0
 have f1 := (C1.at_ 0 rfl).f1
 have B := Lib.hid C1.old
 clear C C1 hb M
 go_wp2_with fail
 (try simp only [Exit.inBlock, Exit.then])
 refine bodyPost_ret (v := spanE u u 0) ?_ rfl ⟨rfl, ?_⟩
 · rw [results_cell_tmp rfl]; unfold spanE; go_simp
 · exact (B.out.setCell (by show _ ≤ w.heap.size; omega) _).setCell (by show _ ≤ w.heap.size; omega) _
def ptS7 (c : Nat) : Pr := (posW c, posW c)
theorem Sn.w2 {p : Pr} {m : Nat} (h : Sn p m) : W2 p := ⟨h.l1, h.l2⟩
end Go.Proofs.YtgnofnjbmiepjaaGreat

namespace Go.Proofs.YtgnofnjbmiepjaaGreat
open Go.ChangeShapes Go.WideShapes Go.ChangeAt Go.RowKit Ieee.Own Pol

def DivR (p q u : Pr) (k : Int) : Prop := OpAll (errD p.1 p.2 q.1 q.2) [quotC p.1 q.1, quotC p.1 q.2, quotC p.2 q.1, quotC p.2 q.2] [quotC p.1 q.1, quotC p.1 q.2, quotC p.2 q.1, quotC p.2 q.2] (.returned (spanE u.1 u.2 k))
theorem errD_errSS {a b c d : Nat} (h : errD a b c d = 0) : errSS a b c d = 0 := by
 by_cases e : errSS a b c d = 0
 · exact e
 · unfold errD at h; rw [if_pos e] at h; exact absurd h e
theorem div_ex {p q : Pr} (hp : W2 p) (hq : W2 q) : ∃ u k, DivR p q u k := by
 by_cases h0 : errD p.1 p.2 q.1 q.2 = 0
 · obtain ⟨e1, e2⟩ := errSS_zero (errD_errSS h0)
   obtain ⟨f1, f2, -⟩ := errS_zero e1
   obtain ⟨f3, f4, le⟩ := errS_zero e2
   have z := errD_zero h0 le
   have z1 : V q.1 ≠ 0 := by omega
   have z2 : V q.2 ≠ 0 := by omega
   obtain ⟨_, _, d1, u1, -⟩ := squot_run hp.l1 hq.l1 f1 f3 z1
   obtain ⟨_, _, d2, u2, -⟩ := squot_run hp.l1 hq.l2 f1 f4 z2
   obtain ⟨_, _, d3, u3, -⟩ := squot_run hp.l2 hq.l1 f2 f3 z1
   obtain ⟨_, _, d4, u4, -⟩ := squot_run hp.l2 hq.l2 f2 f4 z2
   have F := four_of d1 d2 d3 d4 u1 u2 u3 u4 (falls_quot _ _) (falls_quot _ _) (falls_quot _ _) (falls_quot _ _)
   obtain ⟨x, y, c, ht⟩ := toldE_span _ _
   have O : OpAll (errD p.1 p.2 q.1 q.2) [quotC p.1 q.1, quotC p.1 q.2, quotC p.2 q.1, quotC p.2 q.2] [quotC p.1 q.1, quotC p.1 q.2, quotC p.2 q.1, quotC p.2 q.2] (.returned (spanE x y c)) := ⟨fun _ => ⟨_, _, by rw [ht], F.lo, F.hi⟩, fun h => absurd h0 h⟩
   exact ⟨(x, y), c, O⟩
 · have O : OpAll (errD p.1 p.2 q.1 q.2) [quotC p.1 q.1, quotC p.1 q.2, quotC p.2 q.1, quotC p.2 q.2] [quotC p.1 q.1, quotC p.1 q.2, quotC p.2 q.1, quotC p.2 q.2] (.returned (spanE 0 0 (errD p.1 p.2 q.1 q.2))) := ⟨fun h => absurd h h0, fun _ => rfl⟩
   exact ⟨(0, 0), _, O⟩
end Go.Proofs.YtgnofnjbmiepjaaGreat

namespace Go.Proofs.YtgnofnjbmiepjaaGreat
open Go.ChangeShapes Go.WideShapes Go.ChangeAt Go.RowKit Ieee.Own

end Go.Proofs.YtgnofnjbmiepjaaGreat

namespace Go.Proofs.YtgnofnjbmiepjaaGreat
open Go.ChangeShapes Go.WideShapes Go.ChangeAt Go.RowKit Ieee.Own

end Go.Proofs.YtgnofnjbmiepjaaGreat
