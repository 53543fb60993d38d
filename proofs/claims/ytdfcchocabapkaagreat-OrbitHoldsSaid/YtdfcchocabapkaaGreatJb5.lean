/- Proved here: what the texts Acv, Win, Lab, Abf, Bri prove, one behind the other. -/
import Derived.Test.YtdfcchocabapkaaGreatJb4
import Derived.Test.YtdfcchocabapkaaGreatJb2
import Derived.Deep.MidRow
import Derived.Deep.WholeRow
import Derived.Laws.IdiomCopy
import Derived.BigQuiet
import Derived.Deep.CutRange
import Derived.Deep.RegionHeld3
import Derived.Test.YtdfcchocabapkaaGreatJm

namespace Ieee.Own
theorem two_succ' {a b : Nat} (h : a = b + 1) : 2 ^ a = 2 * 2 ^ b := by subst h; exact two_succ b
theorem told {ws : Nat → Nat} (hw : ∀ i, ws i < 18446744073709551616) {z : Int} (hz : z.natAbs < 2 ^ 1535) (h : ((2 ^ (64 * 24) : Nat) : Int) ∣ (sumW ws 24 : Int) - z) :
 (0 ≤ z → (sumW ws 24 : Int) = z) ∧ (z < 0 → (sumW ws 24 : Int) = z + ((2 ^ 1536 : Nat) : Int)) := by
 have hl := sumW_lt ws hw 24
 have e : (2 ^ 1536 : Nat) = 2 * 2 ^ 1535 := two_succ' (a := 1536) (b := 1535) rfl
 rw [show 64 * 24 = 1536 from rfl] at h hl
 obtain ⟨c, hc⟩ := h
 rw [e] at hc hl ⊢
 generalize (2 ^ 1535 : Nat) = K at *
 generalize sumW ws 24 = S at *
 have hK : ((2 * K : Nat) : Int) * c = 2 * ((K : Int) * c) := by rw [Int.natCast_mul, Int.mul_assoc]; rfl
 rw [hK] at hc
 have hKp : 0 < K := by omega
 have hc3 : c = 0 ∨ c = 1 ∨ c ≤ -1 ∨ 2 ≤ c := by omega
 rcases hc3 with rfl | rfl | h | h
 · simp at hc; constructor <;> intro h <;> omega
 · simp at hc; constructor <;> intro h <;> omega
 · have := Int.mul_le_mul_of_nonneg_left h (show (0 : Int) ≤ K by omega)
   rw [Int.mul_neg, Int.mul_one] at this
   constructor <;> intro h <;> omega
 · have := Int.mul_le_mul_of_nonneg_left h (show (0 : Int) ≤ K by omega)
   constructor <;> intro h <;> omega

end Ieee.Own
namespace Go.Proofs.YtdfcchocabapkaaGreat
open Go.ChangeShapes Go.WideShapes Go.ChangeAt Go.RowKit Ieee.Own

theorem Blk.heap {g x y : Nat} {w w' : World} (b : Blk w g x y) (h : w'.heap[g]? = w.heap[g]?) (hs : w.heap.size ≤ w'.heap.size) : Blk w' g x y :=
 ⟨Nat.lt_of_lt_of_le b.lt hs, by rw [← b.lo]; unfold World.cell?; rw [h], by rw [← b.hi]; unfold World.cell?; rw [h], by rw [← b.f0]; unfold World.frozen?; rw [h], by rw [← b.f1]; unfold World.frozen?; rw [h]⟩
section
variable {w0 w w' : World} {L : List (Nat × Nat × Nat)} {A : List (Nat × Int)}
end


section
variable {w : World} {LS : List (Nat × Nat × Nat)} {a0 : Nat} {z : Int} {ws : Nat → Nat} {L : List (Option Value)} {wx : World}
end

theorem Blk.setLo {w : World} {g x y : Nat} (b : Blk w g x y) (s : Nat) : Blk (w.setCell ⟨g, 0, none⟩ (.float .f64 s)) g s y :=
 ⟨by simp; exact b.lt, World.cell?_setCell_same _ _ _ b.lo, by rw [World.cell?_setCell_other _ _ _ _ (by simp)]; exact b.hi, by rw [World.frozen?_setCell]; exact b.f0, by rw [World.frozen?_setCell]; exact b.f1⟩
theorem Blk.setHi {w : World} {g x y : Nat} (b : Blk w g x y) (s : Nat) : Blk (w.setCell ⟨g, 1, none⟩ (.float .f64 s)) g x s :=
 ⟨by simp; exact b.lt, by rw [World.cell?_setCell_other _ _ _ _ (by simp)]; exact b.lo, World.cell?_setCell_same _ _ _ b.hi, by rw [World.frozen?_setCell]; exact b.f0, by rw [World.frozen?_setCell]; exact b.f1⟩
theorem Blk.setOther {w : World} {g x y h i : Nat} (b : Blk w g x y) (hg : g ≠ h) (v : Value) : Blk (w.setCell ⟨h, i, none⟩ v) g x y := by
 have e : (w.setCell ⟨h, i, none⟩ v).heap[g]? = w.heap[g]? := Below.heap_setCell _ _ _ _ hg
 exact ⟨by simp; exact b.lt, by rw [← b.lo]; unfold World.cell?; rw [e], by rw [← b.hi]; unfold World.cell?; rw [e], by rw [World.frozen?_setCell]; exact b.f0, by rw [World.frozen?_setCell]; exact b.f1⟩
theorem Cls.one {w0 w : World} {L : List (Nat × Nat × Nat)} (C : Cls w0 L w) (j : Nat) {g x y s t i : Nat} {v : Value} (hj : L[j]? = some (g, x, y)) (hb : Blk (w.setCell ⟨g, i, none⟩ v) g s t) : Cls w0 (L.set j (g, s, t)) (w.setCell ⟨g, i, none⟩ v) := by
 have hl := (List.getElem?_eq_some_iff.1 hj).1
 have hg := C.blk j g x y hj
 refine ⟨C.old.setCell hg.1 _, fun k h p q hk => ?_, fun i k h p q u v hi hk => ?_⟩
 · by_cases hjk : j = k
   · subst hjk
     rw [List.getElem?_set_self hl] at hk
     simp at hk
     obtain ⟨rfl, rfl, rfl⟩ := hk
     exact ⟨hg.1, hb⟩
   · rw [List.getElem?_set_ne hjk] at hk
     refine ⟨(C.blk k h p q hk).1, (C.blk k h p q hk).2.setOther (fun e => ?_) _⟩
     subst e
     exact hjk (C.inj j k _ _ _ _ _ hj hk)
 · have back : ∀ n p q, (L.set j (g, s, t))[n]? = some (h, p, q) → ∃ p' q', L[n]? = some (h, p', q') := fun n p q hn => by
    by_cases hjn : j = n
    · subst hjn
      rw [List.getElem?_set_self hl] at hn
      simp at hn
      rw [← hn.1]
      exact ⟨_, _, hj⟩
    · rw [List.getElem?_set_ne hjn] at hn; exact ⟨_, _, hn⟩
   obtain ⟨p1, q1, h1⟩ := back i p q hi
   obtain ⟨p2, q2, h2⟩ := back k u v hk
   exact C.inj i k h _ _ _ _ h1 h2
theorem Cls.lo {w0 w : World} {L : List (Nat × Nat × Nat)} (C : Cls w0 L w) (j : Nat) {g x y : Nat} (hj : L[j]? = some (g, x, y)) (s : Nat) : Cls w0 (L.set j (g, s, y)) (w.setCell ⟨g, 0, none⟩ (.float .f64 s)) :=
 C.one j hj ((C.at_ j hj).setLo s)
theorem Cls.hi {w0 w : World} {L : List (Nat × Nat × Nat)} (C : Cls w0 L w) (j : Nat) {g x y : Nat} (hj : L[j]? = some (g, x, y)) (s : Nat) : Cls w0 (L.set j (g, x, s)) (w.setCell ⟨g, 1, none⟩ (.float .f64 s)) :=
 C.one j hj ((C.at_ j hj).setHi s)


structure Abt (l u x : Nat) : Prop where
 ll : l < 18446744073709551616
 lu : u < 18446744073709551616
 ok : errS l u = 0
 lo : V l ≤ V x
 hi : V x ≤ V u
theorem Abt.fits {l u x : Nat} (T : Abt l u x) : fitB l = true ∧ fitB u = true ∧ V l ≤ V u := errS_zero T.ok
theorem OpAll.told {er : Int} {cs ds : List (Int → Int)} {x y : Nat} {k : Int} (h : OpAll er cs ds (.returned (spanE x y k))) (hk : k = 0) (le : er = 0 → ∀ lo hi, DnAll cs lo → UpAll ds hi → V lo ≤ V hi) :
 (fitB x = true ∧ fitB y = true) ∧ ∃ lo hi, DnAll cs lo ∧ UpAll ds hi ∧ V x ≤ V lo ∧ V hi ≤ V y := by
 obtain ⟨-, -, z, o⟩ := h.bd
 obtain ⟨lo, hi, d, u, rfl, rfl, e⟩ := o hk (le (z hk))
 obtain ⟨f1, f2, -⟩ := errS_zero e
 exact ⟨⟨f1, f2⟩, lo, hi, d, u, lowW_le lo, highW_ge hi⟩
section
variable {sl su tl tu x y : Nat} (S : Abt sl su x) (T : Abt tl tu y)
include S T
theorem Abt.both : errSS sl su tl tu = 0 := errSS_of S.ok T.ok
end
end Go.Proofs.YtdfcchocabapkaaGreat

namespace Go.Proofs.YtdfcchocabapkaaGreat
open Ieee.Own

def sp (a b : Nat) : Sp := (Q a, Q b)

theorem Q_sum (a b : Nat) : Q a + Q b = ((V a + V b : Int) : Rat) / unit := by
 unfold Q; rw [Rat.intCast_add]; simp only [Rat.div_def]; grind

theorem fit_822 {b : Nat} (h : b < 18446744073709551616) (hf : fitB b = true) : (2 : Int) ^ 822 ∣ V b := by
 rcases fit_norm h hf with h0 | ⟨s, m, p, N, p1, p2⟩
 · rw [h0]; exact Int.dvd_zero _
 · exact norm_dvd N p1

theorem prod_exact {a b : Nat} (ha : b < 18446744073709551616) (ha' : a < 18446744073709551616) (h1 : fitB a = true) (h2 : fitB b = true) : V a * V b = prodN a b * 2 ^ 1074 := by
  obtain ⟨c, hc⟩ := fit_822 ha' h1
  obtain ⟨d, hd⟩ := fit_822 ha h2
  have : (2 : Int) ^ 1074 ∣ V a * V b := by
    rw [hc, hd]
    refine ⟨2 ^ 570 * (c * d), ?_⟩
    have e : (2 : Int) ^ 822 * 2 ^ 822 = 2 ^ 1074 * 2 ^ 570 := by rw [← Int.pow_add, ← Int.pow_add]
    calc 2 ^ 822 * c * (2 ^ 822 * d) = (2 ^ 822 * 2 ^ 822) * (c * d) := by
          simp only [Int.mul_assoc, Int.mul_left_comm c]
      _ = 2 ^ 1074 * 2 ^ 570 * (c * d) := by rw [e]
      _ = 2 ^ 1074 * (2 ^ 570 * (c * d)) := by rw [Int.mul_assoc]
  unfold prodN
  exact (Int.ediv_mul_cancel this).symm

theorem Q_prod {a b : Nat} (ha : a < 18446744073709551616) (hb : b < 18446744073709551616) (h1 : fitB a = true) (h2 : fitB b = true) : Q a * Q b = ((prodN a b : Int) : Rat) / unit :=
 Q_mul (prod_exact hb ha h1 h2)

theorem sum_sp {a1 a2 b1 b2 x y : Nat} {k : Int} (h : OpIs (errSS a1 a2 b1 b2) (fun v => V a1 + V b1 - v) (fun v => V a2 + V b2 - v) (.returned (spanE x y k))) (hk : k = 0) (h0 : errSS a1 a2 b1 b2 = 0) :
 (fitB x = true ∧ fitB y = true) ∧ AddSp (sp a1 a2) (sp b1 b2) (sp x y) := by
 obtain ⟨e1, e2⟩ := errSS_zero h0
 obtain ⟨-, -, l1⟩ := errS_zero e1
 obtain ⟨-, -, l2⟩ := errS_zero e2
 obtain ⟨f, lo, hi, d, u, p, q⟩ := h.all.told hk (fun _ lo hi d u => by
  have p := d.le _ (List.mem_singleton.2 rfl)
  have q := u.ge _ (List.mem_singleton.2 rfl)
  replace p : 0 ≤ V a1 + V b1 - V lo := p
  replace q : V a2 + V b2 - V hi ≤ 0 := q
  omega)
 have r := d.le _ (List.mem_singleton.2 rfl)
 have s := u.ge _ (List.mem_singleton.2 rfl)
 replace r : 0 ≤ V a1 + V b1 - V lo := r
 replace s : V a2 + V b2 - V hi ≤ 0 := s
 refine ⟨f, ?_, ?_⟩
 · show Q x ≤ Q a1 + Q b1
   rw [Q_sum]; exact div_le (Rat.intCast_le_intCast.2 (by omega))
 · show Q a2 + Q b2 ≤ Q y
   rw [Q_sum]; exact div_le (Rat.intCast_le_intCast.2 (by omega))

theorem prod_sp {a1 a2 b1 b2 x y : Nat} {k : Int} (ha1 : a1 < 18446744073709551616) (ha2 : a2 < 18446744073709551616) (hb1 : b1 < 18446744073709551616) (hb2 : b2 < 18446744073709551616)
 (h : OpAll (errSS a1 a2 b1 b2) [prodC a1 b1, prodC a1 b2, prodC a2 b1, prodC a2 b2] [prodC a1 b1, prodC a1 b2, prodC a2 b1, prodC a2 b2] (.returned (spanE x y k))) (hk : k = 0) (h0 : errSS a1 a2 b1 b2 = 0) :
 (fitB x = true ∧ fitB y = true) ∧ MulSp (sp a1 a2) (sp b1 b2) (sp x y) := by
 obtain ⟨e1, e2⟩ := errSS_zero h0
 obtain ⟨f1, f2, l1⟩ := errS_zero e1
 obtain ⟨f3, f4, l2⟩ := errS_zero e2
 obtain ⟨f, lo, hi, d, u, p, q⟩ := h.told hk (fun _ lo hi d u => by
  have p := d.le (prodC a1 b1) (by simp)
  have q := u.ge (prodC a1 b1) (by simp)
  unfold prodC at p q
  omega)
 have c1 := d.le (prodC a1 b1) (by simp)
 have c2 := d.le (prodC a1 b2) (by simp)
 have c3 := d.le (prodC a2 b1) (by simp)
 have c4 := d.le (prodC a2 b2) (by simp)
 have g1 := u.ge (prodC a1 b1) (by simp)
 have g2 := u.ge (prodC a1 b2) (by simp)
 have g3 := u.ge (prodC a2 b1) (by simp)
 have g4 := u.ge (prodC a2 b2) (by simp)
 unfold prodC at c1 c2 c3 c4 g1 g2 g3 g4
 have q1 := Q_prod ha1 hb1 f1 f3
 have q2 := Q_prod ha1 hb2 f1 f4
 have q3 := Q_prod ha2 hb1 f2 f3
 have q4 := Q_prod ha2 hb2 f2 f4
 unfold MulSp sp
 dsimp only
 rw [q1, q2, q3, q4]
 exact ⟨f, ⟨div_le (Rat.intCast_le_intCast.2 (by omega)), div_le (Rat.intCast_le_intCast.2 (by omega)), div_le (Rat.intCast_le_intCast.2 (by omega)), div_le (Rat.intCast_le_intCast.2 (by omega))⟩,
  div_le (Rat.intCast_le_intCast.2 (by omega)), div_le (Rat.intCast_le_intCast.2 (by omega)), div_le (Rat.intCast_le_intCast.2 (by omega)), div_le (Rat.intCast_le_intCast.2 (by omega))⟩

theorem square_sp {a b x y : Nat} {k : Int} (ha : a < 18446744073709551616) (hb : b < 18446744073709551616)
 (h : OpAll (errS a b) (sqLo a b) (sqHi a b) (.returned (spanE x y k))) (hk : k = 0) (h0 : errS a b = 0) :
 (fitB x = true ∧ fitB y = true) ∧ SqSp (sp a b) (sp x y) := by
 obtain ⟨f1, f2, l1⟩ := errS_zero h0
 obtain ⟨f, lo, hi, d, u, p, q⟩ := h.told hk (fun _ lo hi d u => sq_le_of l1 lo hi d u)
 have qa := Q_prod ha ha f1 f1
 have qb := Q_prod hb hb f2 f2
 have zQ : ∀ w, V w = 0 → Q w = 0 := fun w hw => by unfold Q; rw [hw]; decide +kernel
 have z0 : V 0 = 0 := by decide +kernel
 have q00 := zQ 0 z0
 have ea := @Q_le 0 a
 have eb := @Q_le b 0
 have ea' := @Q_le a 0
 have eb' := @Q_le 0 b
 rw [z0, q00] at ea eb ea' eb'
 refine ⟨f, ?_⟩
 unfold SqSp sp
 dsimp only
 have mono : ∀ s t : Int, s ≤ t → (s : Rat) / unit ≤ (t : Rat) / unit := fun s t h => div_le (Rat.intCast_le_intCast.2 h)
 unfold sqLo at d
 unfold sqHi at u
 by_cases c1 : 0 ≤ V a
 · rw [if_pos c1] at d u
   have r := d.le _ (List.mem_singleton.2 rfl)
   have s := u.ge _ (List.mem_singleton.2 rfl)
   unfold prodC at r s
   have r' : Q x ≤ Q a * Q a := by rw [qa]; exact mono _ _ (by omega)
   have s' : Q b * Q b ≤ Q y := by rw [qb]; exact mono _ _ (by omega)
   have := Ply.sq_le (ea.2 c1) (Q_le.2 l1)
   exact ⟨.inr (.inl ⟨ea.2 c1, r'⟩), by grind, s'⟩
 · rw [if_neg c1] at d u
   by_cases c2 : V b ≤ 0
   · rw [if_pos c2] at d u
     have r := d.le _ (List.mem_singleton.2 rfl)
     have s := u.ge _ (List.mem_singleton.2 rfl)
     unfold prodC at r s
     have r' : Q x ≤ Q b * Q b := by rw [qb]; exact mono _ _ (by omega)
     have s' : Q a * Q a ≤ Q y := by rw [qa]; exact mono _ _ (by omega)
     have b0 := eb.2 c2
     have := Ply.sq_le (x := -Q b) (y := -Q a) (by grind) (by have := (Q_le (a := a) (b := b)).2 l1; grind)
     exact ⟨.inr (.inr ⟨b0, r'⟩), s', by grind⟩
   · rw [if_neg c2] at d u
     have r := d.le _ (List.mem_singleton.2 rfl)
     have s1 := u.ge (prodC a a) (by simp)
     have s2 := u.ge (prodC b b) (by simp)
     unfold prodC at s1 s2
     replace r : 0 ≤ 0 - V lo := r
     have x0 : Q x ≤ 0 := by have := (Q_le (a := x) (b := 0)).2 (by rw [z0]; omega); rwa [q00] at this
     exact ⟨.inl ⟨ea'.2 (by omega), eb'.2 (by omega), x0⟩, by rw [qa]; exact mono _ _ (by omega), by rw [qb]; exact mono _ _ (by omega)⟩

theorem sin_spans : AllIn ((Ply.sinZ 9).drop 1) (sinW.map fun w => sp (prevW w) (nextW w)) := by
 unfold sinW
 simp only [List.map]
 have e : (Ply.sinZ 9).drop 1 = [Ply.co 3, Ply.co 5, Ply.co 7, Ply.co 9, Ply.co 11, Ply.co 13, Ply.co 15, Ply.co 17] := by decide +kernel
 rw [e]
 simp only [AllIn, In, sp]
 decide +kernel
theorem cos_spans : AllIn ((Ply.cosZ 9).drop 1) (cosW.map fun w => sp (prevW w) (nextW w)) := by
 unfold cosW
 simp only [List.map]
 have e : (Ply.cosZ 9).drop 1 = [Ply.co 2, Ply.co 4, Ply.co 6, Ply.co 8, Ply.co 10, Ply.co 12, Ply.co 14, Ply.co 16] := by decide +kernel
 rw [e]
 simp only [AllIn, In, sp]
 decide +kernel
theorem tau_span : In Ply.tau (sp tauW (nextW tauW)) := by
 unfold In sp
 decide +kernel

def tw (m : Nat) : Nat := (1023 + m) * 4503599627370496
def ntw (m : Nat) : Nat := tw m + 9223372036854775808
theorem tw_all : ∀ m, m < 100 → V (tw m) = 2 ^ (1074 + m) ∧ V (ntw m) = -(2 ^ (1074 + m)) ∧
 (tw m < 18446744073709551616 ∧ tw m % 9223372036854775808 < 9218868437227405312) ∧ (ntw m < 18446744073709551616 ∧ ntw m % 9223372036854775808 < 9218868437227405312) ∧
 V (lowW (ntw m)) = -(2 ^ (1074 + m)) ∧ V (highW (tw m)) = 2 ^ (1074 + m) ∧ (2 : Int) ^ (1074 + m) ≤ mostV := by decide +kernel

theorem most_aux {L H T M : Int} (h1 : -T ≤ L) (h2 : H ≤ T) (h3 : T ≤ M) : ¬ (L < -M ∨ M < H) := by omega

theorem told_fit {er : Int} {cs ds : List (Int → Int)} {x y : Nat} {k : Int} {m : Nat} (h : OpAll er cs ds (.returned (spanE x y k))) (h0 : er = 0) (hm : m < 100)
 (hc : ∀ c ∈ cs, 0 ≤ c (-(2 ^ (1074 + m)))) (hd : ∀ d ∈ ds, d (2 ^ (1074 + m)) ≤ 0) : k = 0 ∧ -(2 ^ (1074 + m)) ≤ V x ∧ V y ≤ 2 ^ (1074 + m) := by
 obtain ⟨t1, t2, t3, t4, t5, t6, t7⟩ := tw_all m hm
 obtain ⟨lo, hi, e, d, u⟩ := h.1 h0
 have a := d.top (ntw m) t4 (fun c hcs => by rw [t2]; exact hc c hcs)
 have b := u.low (tw m) t3 (fun c hcs => by rw [t1]; exact hd c hcs)
 have a' := lowW_mono (x := ntw m) (y := lo) a
 have b' := highW_mono (x := hi) (y := tw m) b
 rw [t5] at a'
 rw [t6] at b'
 have e' : toldE lo hi = spanE x y k := (Ending.returned.inj e).symm
 have nb := most_aux a' b' t7
 unfold toldE at e'
 rw [if_neg nb] at e'
 obtain ⟨rfl, rfl, rfl⟩ := spanE_inj e'
 exact ⟨rfl, a', b'⟩

theorem pow_next (n : Nat) : (2 : Int) ^ (n + 1) = 2 * 2 ^ n := by rw [Int.pow_succ]; omega
def Bnd (a b m : Nat) : Prop := (V a).natAbs ≤ 2 ^ (1074 + m) ∧ (V b).natAbs ≤ 2 ^ (1074 + m)
theorem errS_of {a b : Nat} (f : fitB a = true ∧ fitB b = true) (h : V a ≤ V b) : errS a b = 0 := by
 unfold errS; rw [if_pos f, if_neg (by omega)]
theorem errSS_of' {a b c d : Nat} (h : errS a b = 0) (k : errS c d = 0) : errSS a b c d = 0 := by
 unfold errSS; rw [if_neg (by omega)]; exact k

theorem q_chain {x a b c d y : Rat} (h1 : x ≤ a + b) (h2 : c + d ≤ y) (h3 : a ≤ c) (h4 : b ≤ d) : x ≤ y := by grind
theorem sum_aux1 {a b T : Int} (h : -T ≤ a) (k : -T ≤ b) : 0 ≤ a + b - -(2 * T) := by omega
theorem sum_aux2 {a b T : Int} (h : a ≤ T) (k : b ≤ T) : a + b - 2 * T ≤ 0 := by omega
theorem sum_ok {a1 a2 b1 b2 x y m : Nat} {k : Int} (ea : errS a1 a2 = 0) (eb : errS b1 b2 = 0) (A : Bnd a1 a2 m) (B : Bnd b1 b2 m) (hm : m + 1 < 100)
 (h : OpIs (errSS a1 a2 b1 b2) (fun v => V a1 + V b1 - v) (fun v => V a2 + V b2 - v) (.returned (spanE x y k))) :
 k = 0 ∧ errS x y = 0 ∧ Bnd x y (m + 1) ∧ AddSp (sp a1 a2) (sp b1 b2) (sp x y) := by
 have h0 := errSS_of' ea eb
 obtain ⟨-, -, l1⟩ := errS_zero ea
 obtain ⟨-, -, l2⟩ := errS_zero eb
 obtain ⟨A1, A2⟩ := A
 obtain ⟨B1, B2⟩ := B
 have p1 := pw_cast A1
 have p2 := pw_cast A2
 have p3 := pw_cast B1
 have p4 := pw_cast B2
 have tw : (2 : Int) ^ (1074 + (m + 1)) = 2 * 2 ^ (1074 + m) := pow_next (1074 + m)
 obtain ⟨k0, b1', b2'⟩ := told_fit (m := m + 1) h.all h0 hm
  (by rw [tw]; intro c hc; rw [List.mem_singleton.1 hc]; exact sum_aux1 p1.1 p3.1)
  (by rw [tw]; intro c hc; rw [List.mem_singleton.1 hc]; exact sum_aux2 p2.2 p4.2)
 obtain ⟨f, S⟩ := sum_sp h k0 h0
 have q : Q x ≤ Q y := by
  obtain ⟨s1, s2⟩ := S
  exact q_chain s1 s2 ((Q_le (a := a1) (b := a2)).2 l1) ((Q_le (a := b1) (b := b2)).2 l2)
 have q' := Q_le.1 q
 have pa := pw_abs (1074 + (m + 1))
 have pn : (0 : Int) ≤ 2 ^ (1074 + (m + 1)) := Int.pow_nonneg (by omega)
 exact ⟨k0, errS_of f q', ⟨by omega, by omega⟩, S⟩

theorem prod_bnd {a b i j : Nat} (ha : a < 18446744073709551616) (hb : b < 18446744073709551616) (f : fitB a = true) (g : fitB b = true)
 (A : (V a).natAbs ≤ 2 ^ (1074 + i)) (B : (V b).natAbs ≤ 2 ^ (1074 + j)) : (prodN a b).natAbs ≤ 2 ^ (1074 + (i + j)) := by
 have e := abs_eq (prod_exact hb ha f g)
 have h := Nat.mul_le_mul A B
 rw [e, ← Nat.pow_add] at h
 have := pow_cap (by omega) h
 have q : 1074 + i + (1074 + j) - 1074 = 1074 + (i + j) := by omega
 rwa [q] at this
theorem prod_aux1 {n T : Int} (h : -T ≤ n) : 0 ≤ n - -T := by omega
theorem prod_aux2 {n T : Int} (h : n ≤ T) : n - T ≤ 0 := by omega
theorem bnd_aux {x y T : Int} {t : Nat} (h1 : -T ≤ x) (h2 : y ≤ T) (h3 : x ≤ y) (h4 : T.natAbs = t) : x.natAbs ≤ t ∧ y.natAbs ≤ t := by omega

theorem prod_ok {a1 a2 b1 b2 x y i j : Nat} {k : Int} (ha1 : a1 < 18446744073709551616) (ha2 : a2 < 18446744073709551616) (hb1 : b1 < 18446744073709551616) (hb2 : b2 < 18446744073709551616)
 (ea : errS a1 a2 = 0) (eb : errS b1 b2 = 0) (A : Bnd a1 a2 i) (B : Bnd b1 b2 j) (hm : i + j < 100)
 (h : OpAll (errSS a1 a2 b1 b2) [prodC a1 b1, prodC a1 b2, prodC a2 b1, prodC a2 b2] [prodC a1 b1, prodC a1 b2, prodC a2 b1, prodC a2 b2] (.returned (spanE x y k))) :
 k = 0 ∧ errS x y = 0 ∧ Bnd x y (i + j) ∧ MulSp (sp a1 a2) (sp b1 b2) (sp x y) := by
 have h0 := errSS_of' ea eb
 obtain ⟨f1, f2, -⟩ := errS_zero ea
 obtain ⟨f3, f4, -⟩ := errS_zero eb
 have p1 := pw_cast (prod_bnd ha1 hb1 f1 f3 A.1 B.1)
 have p2 := pw_cast (prod_bnd ha1 hb2 f1 f4 A.1 B.2)
 have p3 := pw_cast (prod_bnd ha2 hb1 f2 f3 A.2 B.1)
 have p4 := pw_cast (prod_bnd ha2 hb2 f2 f4 A.2 B.2)
 obtain ⟨k0, b1', b2'⟩ := told_fit (m := i + j) h h0 hm
  (by
   intro c hc
   simp only [List.mem_cons, List.not_mem_nil, or_false] at hc
   rcases hc with rfl | rfl | rfl | rfl
   · exact prod_aux1 p1.1
   · exact prod_aux1 p2.1
   · exact prod_aux1 p3.1
   · exact prod_aux1 p4.1)
  (by
   intro c hc
   simp only [List.mem_cons, List.not_mem_nil, or_false] at hc
   rcases hc with rfl | rfl | rfl | rfl
   · exact prod_aux2 p1.2
   · exact prod_aux2 p2.2
   · exact prod_aux2 p3.2
   · exact prod_aux2 p4.2)
 obtain ⟨f, S⟩ := prod_sp ha1 ha2 hb1 hb2 h k0 h0
 have q := Q_le.1 (Rat.le_trans S.1.1 S.2.1)
 exact ⟨k0, errS_of f q, bnd_aux b1' b2' q (pw_abs _), S⟩

theorem square_ok {a b x y i : Nat} {k : Int} (ha : a < 18446744073709551616) (hb : b < 18446744073709551616) (ea : errS a b = 0) (A : Bnd a b i) (hm : i + i < 100)
 (h : OpAll (errS a b) (sqLo a b) (sqHi a b) (.returned (spanE x y k))) : k = 0 ∧ errS x y = 0 ∧ Bnd x y (i + i) ∧ SqSp (sp a b) (sp x y) := by
 obtain ⟨f1, f2, l⟩ := errS_zero ea
 have p1 := pw_cast (prod_bnd ha ha f1 f1 A.1 A.1)
 have p2 := pw_cast (prod_bnd hb hb f2 f2 A.2 A.2)
 have pn : (0 : Int) ≤ 2 ^ (1074 + (i + i)) := Int.pow_nonneg (by omega)
 have lo : ∀ c ∈ sqLo a b, 0 ≤ c (-(2 ^ (1074 + (i + i)))) := by
  intro c hc
  unfold sqLo at hc
  split at hc
  · rw [List.mem_singleton.1 hc]; exact prod_aux1 p1.1
  · split at hc
    · rw [List.mem_singleton.1 hc]; exact prod_aux1 p2.1
    · rw [List.mem_singleton.1 hc]; exact prod_aux1 (n := 0) (by omega)
 have hi : ∀ c ∈ sqHi a b, c (2 ^ (1074 + (i + i))) ≤ 0 := by
  intro c hc
  unfold sqHi at hc
  split at hc
  · rw [List.mem_singleton.1 hc]; exact prod_aux2 p2.2
  · split at hc
    · rw [List.mem_singleton.1 hc]; exact prod_aux2 p1.2
    · simp only [List.mem_cons, List.not_mem_nil, or_false] at hc
      rcases hc with rfl | rfl
      · exact prod_aux2 p1.2
      · exact prod_aux2 p2.2
 obtain ⟨k0, b1', b2'⟩ := told_fit (m := i + i) h ea hm lo hi
 obtain ⟨f, S⟩ := square_sp ha hb h k0 ea
 -- a point of the span tells that the ends are in order
 have qa : In (Q a) (sp a b) := ⟨by show Q a ≤ Q a; exact Rat.le_refl, Q_le.2 l⟩
 have m := qa.sq S
 have q := Q_le.1 (Rat.le_trans m.1 m.2)
 exact ⟨k0, errS_of f q, bnd_aux b1' b2' q (pw_abs _), S⟩

end Go.Proofs.YtdfcchocabapkaaGreat
