/- Proved here: what the texts Oma, Omc, Omd, Ome, Omf, Omg, Omh, Omi, Omj, Omk, Oml prove, one behind the other. -/
import Derived.Test.YtdfcchocabapkaaGreatJm
import Derived.Test.YtdfcchocabapkaaGreatJb6
import Derived.Test.YtdfcchocabapkaaGreatJy9
import Derived.Test.YtdfcchocabapkaaGreatJy11
import Derived.Test.YtdfcchocabapkaaGreatJy3
import Derived.Test.YtdfcchocabapkaaGreatJy1
import Derived.Test.YtdfcchocabapkaaGreatJv1

namespace Ply

def Lip (f : Rat → Rat) (a b L : Rat) : Prop := ∀ x y, a ≤ x → x ≤ y → y ≤ b → -(L * (y - x)) ≤ f y - f x ∧ f y - f x ≤ L * (y - x)

theorem Lip.join {f : Rat → Rat} {a b d L : Rat} (h : Lip f a b L) (g : Lip f b d L) : Lip f a d L := by
 intro x y h1 h2 h3
 rcases Rat.le_total (a := y) (b := b) with c | c
 · exact h x y h1 h2 c
 rcases Rat.le_total (a := b) (b := x) with c' | c'
 · exact g x y c' h2 h3
 · have u := h x b h1 c' Rat.le_refl
   have v := g b y Rat.le_refl c h3
   constructor <;> grind
theorem lip_poly {p : P} {c B L : Rat} (hL : slope B (shift c 1 p) ≤ L) : Lip (ev p) (c - B) (c + B) L := by
 intro x y h1 h2 h3
 obtain ⟨d, hd, l, u⟩ := rise (B := B) (x := x - c) (y := y - c) (by grind) (by grind) (by grind) (by grind) (shift c 1 p)
 rw [ev_shift, ev_shift, show c + 1 * (y - c) = y by grind, show c + 1 * (x - c) = x by grind] at hd
 have a : 0 ≤ (y - x) * (L - d) := Rat.mul_nonneg (by grind) (by grind)
 have b : 0 ≤ (y - x) * (L + d) := Rat.mul_nonneg (by grind) (by grind)
 constructor <;> grind
theorem Lip.le {f : Rat → Rat} {a b L M : Rat} (h : Lip f a b L) (k : L ≤ M) : Lip f a b M := by
 intro x y h1 h2 h3
 have u := h x y h1 h2 h3
 have a : 0 ≤ (M - L) * (y - x) := Rat.mul_nonneg (by grind) (by grind)
 constructor <;> grind
theorem Lip.neg {f : Rat → Rat} {a b L : Rat} (h : Lip f a b L) : Lip (fun x => -f x) a b L := by
 intro x y h1 h2 h3
 have u := h x y h1 h2 h3
 constructor <;> grind
theorem Lip.cong {f : Rat → Rat} {a b L a' b' : Rat} (h : Lip f a b L) (ha : a = a') (hb : b = b') : Lip f a' b' L := by subst ha; subst hb; exact h

def fast : Rat := 27 / 25

theorem s_lip : Lip s (-top) top fast := by
 have h1 : Lip s (-top) (-(top / 2)) fast := (lip_poly (p := sinP 18) (c := -(3 * top / 4)) (B := top / 4) (by decide +kernel)).cong (by grind) (by grind)
 have h2 : Lip s (-(top / 2)) (top / 2) fast := (lip_poly (p := sinP 18) (c := 0) (B := top / 2) (by decide +kernel)).cong (by grind) (by grind)
 have h3 : Lip s (top / 2) top fast := (lip_poly (p := sinP 18) (c := 3 * top / 4) (B := top / 4) (by decide +kernel)).cong (by grind) (by grind)
 exact (h1.join h2).join h3
theorem c_lip : Lip c (-top) top fast :=
 ((lip_poly (p := cosP 18) (c := 0) (B := top) (by decide +kernel)).cong (by grind) (by grind) : Lip c (-top) top fast)
theorem sq_lip (k : Int) : Lip (sq k) (-top) top fast := by
 rcases (by omega : k % 4 = 0 ∨ k % 4 = 1 ∨ k % 4 = 2 ∨ k % 4 = 3) with h | h | h | h
 · rw [show sq k = s by funext y; simp [sq, h]]; exact s_lip
 · rw [show sq k = c by funext y; simp [sq, h]]; exact c_lip
 · rw [show sq k = fun y => -s y by funext y; simp [sq, h]]; exact s_lip.neg
 · rw [show sq k = fun y => -c y by funext y; simp [sq, h]]; exact c_lip.neg
theorem edge (j : Int) : sq (j + 1) (-top) - eps ≤ sq j top ∧ sq j top ≤ sq (j + 1) (-top) + eps := by
 have e := eighth
 rcases (by omega : j % 4 = 0 ∨ j % 4 = 1 ∨ j % 4 = 2 ∨ j % 4 = 3) with h | h | h | h
 · have h2 : (j + 1) % 4 = 1 := by omega
   simp only [sq, h, h2, c_neg, s_neg]; constructor <;> grind
 · have h2 : (j + 1) % 4 = 2 := by omega
   simp only [sq, h, h2, c_neg, s_neg]; constructor <;> grind
 · have h2 : (j + 1) % 4 = 3 := by omega
   simp only [sq, h, h2, c_neg, s_neg]; constructor <;> grind
 · have h2 : (j + 1) % 4 = 0 := by omega
   simp only [sq, h, h2, c_neg, s_neg]; constructor <;> grind
def quick : Rat := tau * fast
theorem eps_nn : 0 ≤ eps := by decide +kernel
theorem tau_nn : 0 ≤ tau := by decide +kernel
theorem quick_nn : 0 ≤ quick := by decide +kernel
theorem quick_lo : 6 ≤ quick := by decide +kernel
theorem sq_lip_in (k : Int) {r t : Rat} (r1 : -(1/8) ≤ r) (h : r ≤ t) (t2 : t ≤ 1/8) : -(quick * (t - r)) ≤ sq k (tau * t) - sq k (tau * r) ∧ sq k (tau * t) - sq k (tau * r) ≤ quick * (t - r) := by
 have b := top_mul r1 (by grind)
 have b' := top_mul (r := t) (by grind) t2
 have m : 0 ≤ tau * (t - r) := Rat.mul_nonneg tau_nn (by grind)
 have u := sq_lip k (tau * r) (tau * t) b.1 (by grind) b'.2
 have e : quick * (t - r) = fast * (tau * t - tau * r) := by unfold quick; grind
 rw [e]; exact u
theorem tau_top : tau * (1/8) = top := by rw [top_eq]; grind
theorem tau_top' : tau * (-(1/8)) = -top := by rw [top_eq]; grind
theorem sq_lip_one {j : Int} {r t : Rat} (r1 : -(1/8) ≤ r) (r2 : r ≤ 1/8) (t1 : -(1/8) ≤ t) (t2 : t ≤ 1/8) :
 -(quick * (1/4 + t - r) + eps) ≤ sq (j + 1) (tau * t) - sq j (tau * r) ∧ sq (j + 1) (tau * t) - sq j (tau * r) ≤ quick * (1/4 + t - r) + eps := by
 have a := sq_lip_in j r1 r2 Rat.le_refl
 have b := sq_lip_in (j + 1) Rat.le_refl t1 t2
 have e := edge j
 rw [tau_top] at a
 rw [tau_top'] at b
 constructor <;> grind
theorem sq_lip_two {j : Int} {r t : Rat} (r1 : -(1/8) ≤ r) (r2 : r ≤ 1/8) (t1 : -(1/8) ≤ t) (t2 : t ≤ 1/8) :
 -(quick * (1/2 + t - r) + 2 * eps) ≤ sq (j + 2) (tau * t) - sq j (tau * r) ∧ sq (j + 2) (tau * t) - sq j (tau * r) ≤ quick * (1/2 + t - r) + 2 * eps := by
 have a := sq_lip_one (j := j) (t := 1/8) r1 r2 (by grind) (by grind)
 have b := sq_lip_one (j := j + 1) (r := 1/8) (by grind) (by grind) t1 t2
 rw [show j + 1 + 1 = j + 2 by omega] at b
 constructor <;> grind
theorem sine_lip {x y r t : Rat} {j k : Int} (hx : Says x j r) (hy : Says y k t) (h : x ≤ y) :
 -(quick * (y - x) + 2 * eps) ≤ sq k (tau * t) - sq j (tau * r) ∧ sq k (tau * t) - sq j (tau * r) ≤ quick * (y - x) + 2 * eps := by
 have e0 := eps_nn
 obtain ⟨ex, r1, r2⟩ := hx
 obtain ⟨ey, t1, t2⟩ := hy
 have a1 := sq_le_one (top_mul r1 r2).1 (top_mul r1 r2).2 j
 have b1 := sq_le_one (top_mul t1 t2).1 (top_mul t1 t2).2 k
 by_cases far : 1/3 ≤ y - x
 · have q := quick_lo
   have m : 0 ≤ (quick - 6) * (y - x - 1/3) := Rat.mul_nonneg (by grind) (by grind)
   constructor <;> grind
 · obtain ⟨n, hn⟩ : ∃ n : Int, n = k - j := ⟨_, rfl⟩
   have en : (n : Rat) = (k : Rat) - (j : Rat) := by rw [hn, Rat.intCast_sub]
   have el : -2 < n := by
    have e : ((-2 : Int) : Rat) = -2 := by decide +kernel
    exact int_lt (by grind)
   have eu : n < 3 := by
    have e : ((3 : Int) : Rat) = 3 := by decide +kernel
    exact int_lt (by grind)
   rcases (by omega : n = -1 ∨ n = 0 ∨ n = 1 ∨ n = 2) with q | q | q | q
   · have e : ((-1 : Int) : Rat) = -1 := by decide +kernel
     rw [q, e] at en
     obtain rfl : t = 1/8 := by grind
     obtain rfl : r = -(1/8) := by grind
     obtain rfl : j = k + 1 := by omega
     have u := edge k
     have z : quick * (y - x) = 0 := by rw [show y - x = 0 by grind]; grind
     rw [tau_top, tau_top', z]
     constructor <;> grind
   · have e : ((0 : Int) : Rat) = 0 := by decide +kernel
     rw [q, e] at en
     obtain rfl : k = j := by omega
     have u := sq_lip_in k r1 (by grind) t2
     have z : y - x = t - r := by grind
     rw [z]
     constructor <;> grind
   · have e : ((1 : Int) : Rat) = 1 := by decide +kernel
     rw [q, e] at en
     obtain rfl : k = j + 1 := by omega
     have u := sq_lip_one (j := j) r1 r2 t1 t2
     have z : y - x = 1/4 + t - r := by grind
     rw [z]
     constructor <;> grind
   · have e : ((2 : Int) : Rat) = 2 := by decide +kernel
     rw [q, e] at en
     obtain rfl : k = j + 2 := by omega
     have u := sq_lip_two (j := j) r1 r2 t1 t2
     have z : y - x = 1/2 + t - r := by grind
     rw [z]
     exact u
theorem kep_rise {x y r t κ : Rat} {j k : Int} (hx : Says x j r) (hy : Says y k t) (h : x ≤ y) (k0 : 0 ≤ κ) (k1 : κ * quick ≤ 19/20) :
 (y - x) / 20 ≤ (y - κ * sq k (tau * t)) - (x - κ * sq j (tau * r)) + κ * (2 * eps) := by
 have u := (sine_lip hx hy h).2
 have a : 0 ≤ κ * (quick * (y - x) + 2 * eps - (sq k (tau * t) - sq j (tau * r))) := Rat.mul_nonneg k0 (by grind)
 have b : 0 ≤ (19/20 - κ * quick) * (y - x) := Rat.mul_nonneg (by grind) (by grind)
 clear u hx hy k1
 generalize sq k (tau * t) = Y at *
 generalize sq j (tau * r) = X at *
 generalize quick = q at *
 generalize eps = u at *
 have e1 : (19/20 - κ * q) * (y - x) = 19/20 * (y - x) - κ * q * (y - x) := by grind
 rw [e1] at b
 have e2 : κ * (q * (y - x) + 2 * u - (Y - X)) = κ * q * (y - x) + κ * (2 * u) - (κ * Y - κ * X) := by grind
 rw [e2] at a
 grind
theorem kep_lip {x y r t κ : Rat} {j k : Int} (hx : Says x j r) (hy : Says y k t) (h : x ≤ y) (k0 : 0 ≤ κ) (k1 : κ * quick ≤ 19/20) :
 (y - κ * sq k (tau * t)) - (x - κ * sq j (tau * r)) ≤ 2 * (y - x) + κ * (2 * eps) := by
 have u := (sine_lip hx hy h).1
 have a : 0 ≤ κ * (sq k (tau * t) - sq j (tau * r) + (quick * (y - x) + 2 * eps)) := Rat.mul_nonneg k0 (by grind)
 have b : 0 ≤ (19/20 - κ * quick) * (y - x) := Rat.mul_nonneg (by grind) (by grind)
 clear u hx hy k1
 generalize sq k (tau * t) = Y at *
 generalize sq j (tau * r) = X at *
 generalize quick = q at *
 generalize eps = u at *
 have e1 : (19/20 - κ * q) * (y - x) = 19/20 * (y - x) - κ * q * (y - x) := by grind
 rw [e1] at b
 have e2 : κ * (Y - X + (q * (y - x) + 2 * u)) = κ * q * (y - x) + κ * (2 * u) + (κ * Y - κ * X) := by grind
 rw [e2] at a
 grind
end Ply

namespace Go.Proofs.YtdfcchocabapkaaGreat
open Ieee Ieee.Own

def hlf : Int := 4 * eig
theorem hlf_pos : 0 < hlf := by have := eig_pos; unfold hlf; omega
theorem hlf_two : 2 * hlf = 2 ^ 1074 := by decide +kernel
theorem hlf_is : hlf = 2 ^ 1073 := by decide +kernel
theorem kq_hlf (w : Int) : kq hlf (4 * w) = kq eig w := kq_scale eig_pos
theorem rq_hlf (w : Int) : rq hlf (4 * w) = 4 * rq eig w := by unfold rq; rw [kq_hlf]; unfold hlf; grind
theorem rep_four {w : Int} (h : Rep (4 * w)) : Rep w := by
 obtain ⟨k, e, h1, h2⟩ := h
 rw [Int.natAbs_mul] at h2
 rcases e with _ | _ | e
 · refine ⟨w.natAbs, 0, ?_, by simp⟩
   rw [Nat.pow_zero, Nat.mul_one, show (4 : Int).natAbs = 4 from rfl] at h2
   omega
 · refine ⟨w.natAbs, 0, ?_, by simp⟩
   have : (4 : Int).natAbs = 4 := rfl
   rw [this] at h2
   omega
 · refine ⟨k, e, h1, ?_⟩
   have : (4 : Int).natAbs = 4 := rfl
   rw [this, Nat.pow_succ, Nat.pow_succ] at h2
   generalize hp : k * 2 ^ e = p
   have : k * (2 ^ e * 2 * 2) = 4 * p := by rw [← hp]; grind
   omega
theorem left_rep {v : Int} (h : Rep v) (d : (4 : Int) ∣ v) : Rep (rq hlf v) := by
 obtain ⟨w, rfl⟩ := d
 rw [rq_hlf]
 have := Rep_mul _ 2 (rq_rep (rep_four h))
 rwa [show rq eig w * 2 ^ 2 = 4 * rq eig w by omega] at this
theorem left_more {v N : Int} (h : rq hlf v ≠ hlf ∧ rq hlf v ≠ -hlf) : rq hlf (v + N * 2 ^ 1074) = rq hlf v ∧ kq hlf (v + N * 2 ^ 1074) = kq hlf v + N := by
 have b := rq_bd hlf_pos v
 have e : v = 2 * hlf * kq hlf v + rq hlf v := by unfold rq; omega
 have u := kq_uniq (H := hlf) (v := v + N * 2 ^ 1074) (k := kq hlf v + N) (r := rq hlf v) hlf_pos (by
  rw [← hlf_two]
  generalize kq hlf v = k at *
  generalize rq hlf v = r at *
  rw [e]; grind) b.1 b.2.1 (fun q => absurd q (by omega))
 exact ⟨u.2, u.1⟩
end Go.Proofs.YtdfcchocabapkaaGreat

namespace Ply

def bis (md : Nat → Nat → Nat) (T : Nat → Bool) : Nat → Nat → Nat → Nat × Nat
 | 0, a, b => (a, b)
 | n + 1, a, b => if T (md a b) then bis md T n a (md a b) else bis md T n (md a b) b
def stepB (md : Nat → Nat → Nat) (T : Nat → Bool) (p : Nat × Nat) : Nat × Nat := if T (md p.1 p.2) then (p.1, md p.1 p.2) else (md p.1 p.2, p.2)
theorem bis_step (md : Nat → Nat → Nat) (T : Nat → Bool) : ∀ (n a b : Nat), bis md T (n + 1) a b = stepB md T (bis md T n a b)
 | 0, a, b => by
   unfold bis stepB
   cases T (md a b) <;> rfl
 | n + 1, a, b => by
   rw [bis]
   cases c : T (md a b) with
   | true =>
     rw [if_pos rfl, bis_step md T n a (md a b)]
     conv => rhs; rw [bis, c, if_pos rfl]
   | false =>
     rw [if_neg (by decide), bis_step md T n (md a b) b]
     conv => rhs; rw [bis, c, if_neg (by decide)]
structure Bis (W : Nat → Prop) (q G : Nat → Rat) (u ε : Rat) (p : Rat) (r : Nat × Nat) (w : Rat) : Prop where
 w1 : W r.1
 w2 : W r.2
 le : q r.1 ≤ q r.2
 wide : (q r.2 - q r.1 - 2 * u) * p ≤ w - 2 * u
 lo : G r.1 ≤ ε
 hi : -ε ≤ G r.2
theorem bis_all {W : Nat → Nat → Prop} {q G : Nat → Rat} {md : Nat → Nat → Nat} {T : Nat → Bool} {u ε : Rat} (j : Nat) (mono : ∀ n x, W (n + 1) x → W n x)
 (hm : ∀ n a b, W (n + 1) a → W (n + 1) b → q a ≤ q b → W n (md a b) ∧ q a ≤ q (md a b) ∧ q (md a b) ≤ q b ∧ q (md a b) - q a ≤ (q b - q a) / 2 + u ∧ q b - q (md a b) ≤ (q b - q a) / 2 + u)
 (hT : ∀ n e, W (n + j) e → (T e = true → -ε ≤ G e) ∧ (T e = false → G e ≤ ε)) :
 ∀ (n a b : Nat), W (n + j) a → W (n + j) b → q a ≤ q b → G a ≤ ε → -ε ≤ G b → Bis (W j) q G u ε (2 ^ n) (bis md T n a b) (q b - q a)
 | 0, a, b, h1, h2, h3, h4, h5 => ⟨by rwa [Nat.zero_add] at h1, by rwa [Nat.zero_add] at h2, h3, by rw [Rat.pow_zero, Rat.mul_one]; exact Rat.le_refl, h4, h5⟩
 | n + 1, a, b, h1, h2, h3, h4, h5 => by
   rw [show n + 1 + j = n + j + 1 by omega] at h1 h2
   obtain ⟨m1, m2, m3, m4, m5⟩ := hm _ a b h1 h2 h3
   have t := hT n _ m1
   unfold bis
   cases c : T (md a b) with
   | true =>
     rw [if_pos rfl]
     have r := bis_all j mono hm hT n a (md a b) (mono _ _ h1) m1 m2 h4 (t.1 c)
     refine ⟨r.w1, r.w2, r.le, ?_, r.lo, r.hi⟩
     have := r.wide
     rw [Rat.pow_succ]
     generalize (2 : Rat) ^ n = P at *
     generalize (q (bis md T n a (md a b)).2 - q (bis md T n a (md a b)).1 - 2 * u) = D at *
     grind
   | false =>
     rw [if_neg (by decide)]
     have r := bis_all j mono hm hT n (md a b) b m1 (mono _ _ h2) m3 (t.2 c) h5
     refine ⟨r.w1, r.w2, r.le, ?_, r.lo, r.hi⟩
     have := r.wide
     rw [Rat.pow_succ]
     generalize (2 : Rat) ^ n = P at *
     generalize (q (bis md T n (md a b) b).2 - q (bis md T n (md a b) b).1 - 2 * u) = D at *
     grind
theorem ellipse {s c e b d : Rat} (d1 : d ≤ 1) (e0 : 0 ≤ e) (e1 : e ≤ 1) (h1 : -d ≤ c * c + s * s - 1) (h2 : c * c + s * s - 1 ≤ d) (b1 : -d ≤ b * b - (1 - e * e)) (b2 : b * b - (1 - e * e) ≤ d) :
 -(3 * d) ≤ (c - e) * (c - e) + (b * s) * (b * s) - (1 - e * c) * (1 - e * c) ∧ (c - e) * (c - e) + (b * s) * (b * s) - (1 - e * c) * (1 - e * c) ≤ 3 * d := by
 have k : (c - e) * (c - e) + (b * s) * (b * s) - (1 - e * c) * (1 - e * c) = (c * c + s * s - 1) * (1 - e * e) + (s * s) * (b * b - (1 - e * e)) := by grind
 rw [k]
 have c0 : 0 ≤ c * c := by
  rcases Rat.le_total (a := 0) (b := c) with q | q
  · exact Rat.mul_nonneg q q
  · have := Rat.mul_nonneg (by grind : 0 ≤ -c) (by grind : 0 ≤ -c); grind
 have s0 : 0 ≤ s * s := by
  rcases Rat.le_total (a := 0) (b := s) with q | q
  · exact Rat.mul_nonneg q q
  · have := Rat.mul_nonneg (by grind : 0 ≤ -s) (by grind : 0 ≤ -s); grind
 have ee : 0 ≤ e * e := Rat.mul_nonneg e0 e0
 have ee1 : e * e ≤ 1 := by have := sq_le e0 e1; grind
 generalize c * c = C at *
 generalize s * s = S at *
 generalize e * e = E at *
 generalize hB : b * b - (1 - E) = B at *
 have s2 : S ≤ 2 := by grind
 have p1 := abs_mul_le h1 h2 (show -1 ≤ 1 - E by grind) (show 1 - E ≤ 1 by grind)
 have p2 := abs_mul_le (show -2 ≤ S by grind) s2 b1 b2
 constructor <;> grind
end Ply

namespace Go.Proofs.YtdfcchocabapkaaGreat
open Go.ChangeShapes Go.WideShapes Go.ChangeAt Go.RowKit Ieee.Own Pol Fma

def two52 : Nat := 4611686018427387904
theorem norm_two : Norm two52 false 4503599627370496 1023 := by
 have f : FinW two52 := by unfold FinW two52; omega
 have N := norm_of f (by unfold two52; omega)
 rw [show decide (9223372036854775808 ≤ two52) = false by decide] at N
 exact N
theorem sv_two (s : Bool) (m p : Nat) : 2 * sv s m p = sv s m (p + 1) := by
 rw [← sv_up, Int.pow_succ, Int.pow_zero, Int.one_mul, Int.mul_comm]
theorem sv_twice (s : Bool) (m p : Nat) : sv s (2 * m) p = sv s m (p + 1) := by
 rw [← sv_scale, Nat.pow_one, Nat.mul_comm]
theorem half_any {a j k : Nat} (W : Wd a (j + 1) k) (hj : 400 ≤ j) (hk0 : 800 ≤ k) (hk : k ≤ 1200) :
 Ieee.double.div a two52 = some (qX a two52) ∧ Wd (qX a two52) j k ∧ 2 * V (qX a two52) = V a := by
 by_cases z : V a = 0
 · obtain ⟨r, q1, q2, q3⟩ := div_zero W.fin z norm_two.fin (by decide +kernel)
   have er : qX a two52 = r := by unfold qX; rw [q1]; rfl
   rw [er]
   exact ⟨q1, ⟨q2, by rw [q3]; exact Int.dvd_zero _, by rw [q3]; exact Nat.zero_le _⟩, by omega⟩
 · have lo := pow_abs_dvd W.dvd z
   obtain ⟨s, m, p, N⟩ := is_norm W.fin lo (by omega)
   obtain ⟨p1, p2⟩ := norm_pl N lo W.abs (by omega) (by omega)
   obtain ⟨r, Q, u, q1, q2, q3, u1, u2, Q1, Q2, i1, i2⟩ := div_spec N norm_two (by omega) (by omega)
   have er : qX a two52 = r := by unfold qX; rw [q1]; rfl
   rw [er]
   have v : 2 * V r = V a := by
    rw [q3, N.val]
    rcases (by omega : u = 52 ∨ u = 53) with rfl | rfl
    · have : Q = m := by omega
      subst this
      rw [show 1074 + p - 1023 - 52 = p - 1 by omega, sv_two, show p - 1 + 1 = p by omega, Bool.xor_false]
    · have : Q = 2 * m := by omega
      subst this
      rw [show 1074 + p - 1023 - 53 = p - 2 by omega, sv_two, sv_twice, show p - 2 + 1 + 1 = p by omega, Bool.xor_false]
   refine ⟨q1, ⟨q2, ?_, ?_⟩, v⟩
   · obtain ⟨c, hc⟩ := W.dvd
     refine ⟨c, ?_⟩
     rw [two_split, Int.mul_assoc] at hc
     omega
   · have := W.abs; omega
def mdW (a b : Nat) : Nat := qX (aX a b) two52
theorem mid_any {a b j k : Nat} (A : Wd a (j + 1) k) (B : Wd b (j + 1) k) (hj : 400 ≤ j) (hk0 : 800 ≤ k) (hk : k < 1200) (le : V a ≤ V b) :
 Ieee.double.add a b = some (aX a b) ∧ Ieee.double.div (aX a b) two52 = some (mdW a b) ∧ Wd (mdW a b) j k ∧ V a ≤ V (mdW a b) ∧ V (mdW a b) ≤ V b ∧ 2 * V (mdW a b) = RN (V a + V b) := by
 obtain ⟨h1, h2, -⟩ := A.add B (by omega)
 obtain ⟨r, g1, g2, g3, g4⟩ := addW A.fin B.fin A.abs B.abs (by omega)
 have er : aX a b = r := by unfold aX; rw [g1]; rfl
 obtain ⟨k1, k2, k3⟩ := half_any h2 hj (by omega) (by omega)
 have e : V (aX a b) = RN (V a + V b) := by rw [er]; exact g3
 rw [e] at k3
 have two : ∀ x : Nat, RN (2 * V x) = 2 * V x := fun x => by
  have := RN_exact (Rep_mul _ 1 (Rep_V x))
  rwa [show V x * 2 ^ 1 = 2 * V x by omega] at this
 have lo := RN_mono (show 2 * V a ≤ V a + V b by omega)
 have hi := RN_mono (show V a + V b ≤ 2 * V b by omega)
 rw [two] at lo hi
 have l : V a ≤ V (mdW a b) := by show V a ≤ V (qX (aX a b) two52); omega
 have u : V (mdW a b) ≤ V b := by show V (qX (aX a b) two52) ≤ V b; omega
 have := A.abs
 have := B.abs
 exact ⟨h1, k1, ⟨k2.fin, k2.dvd, by omega⟩, l, u, k3⟩
theorem Q_two {x y : Nat} (h : 2 * V x = V y) : 2 * Q x = Q y := by
 have a := Q_unit x
 have b := Q_unit y
 rw [← h, Rat.intCast_mul, show ((2 : Int) : Rat) = 2 by decide +kernel, ← a] at b
 have u := unit_pos
 have e : (Q y - 2 * Q x) * unit = 0 := by grind
 rcases Rat.mul_eq_zero.1 e with h | h <;> grind
theorem mid_near {a b j : Nat} (A : Wd a (j + 1) 1074) (B : Wd b (j + 1) 1074) (hj : 400 ≤ j) (le : Q a ≤ Q b) :
 Wd (mdW a b) j 1074 ∧ Q a ≤ Q (mdW a b) ∧ Q (mdW a b) ≤ Q b ∧ Q (mdW a b) - Q a ≤ (Q b - Q a) / 2 + uR ∧ Q b - Q (mdW a b) ≤ (Q b - Q a) / 2 + uR := by
 obtain ⟨-, -, w, l, u, e⟩ := mid_any A B hj (by omega) (by omega) (Q_le.1 le)
 obtain ⟨r, g1, g2, g3, g4⟩ := addW A.fin B.fin A.abs B.abs (by omega)
 have q := add_rel g3
 rw [← g3] at e
 have k := Q_two e
 have one : ∀ x : Nat, (V x).natAbs ≤ 2 ^ 1074 → -1 ≤ Q x ∧ Q x ≤ 1 := fun x h => by
  have h1 : V x ≤ 2 ^ 1074 := by
   have : ((2 ^ 1074 : Nat) : Int) = 2 ^ 1074 := Int.natCast_pow 2 1074
   omega
  have h2 : -(2 ^ 1074) ≤ V x := by
   have : ((2 ^ 1074 : Nat) : Int) = 2 ^ 1074 := Int.natCast_pow 2 1074
   omega
  have v1 : V 4607182418800017408 = 2 ^ 1074 := by decide +kernel
  have v2 : V 13830554455654793216 = -(2 ^ 1074) := by decide +kernel
  have q1 : Q 4607182418800017408 = 1 := by decide +kernel
  have q2 : Q 13830554455654793216 = -1 := by decide +kernel
  exact ⟨by rw [← q2]; exact Q_le.2 (by rw [v2]; exact h2), by rw [← q1]; exact Q_le.2 (by rw [v1]; exact h1)⟩
 have qa := one a A.abs
 have qb := one b B.abs
 have z := q 2 (by grind) (by grind)
 have e53 : (2 : Rat) * mkRat 1 (2 ^ 53) = 2 * uR := rfl
 rw [e53] at z
 refine ⟨w, Q_le.2 l, Q_le.2 u, ?_, ?_⟩
 · generalize uR = u at *; grind
 · generalize uR = u at *; grind

def fnW (x : Nat) : Nat := if fitB x = true then x else 0
def kepW (ecc : Nat) : Nat := qX ecc tauW
noncomputable def snW (e : Nat) : Nat := tS (fnW e)
noncomputable def rsdW (k m e : Nat) : Nat := lX (lX e (mX k (snW e))) m
noncomputable def kepG (k m e : Nat) : Rat := Q e - Q k * SQ e - Q m

theorem zero_ang : Ang 0 := ⟨by unfold FinW; omega, by rw [V_zero]; exact Int.dvd_zero _, by rw [V_zero]; exact Nat.zero_le _⟩
theorem fn_ang {x j : Nat} (W : Wd x j 1075) : Ang (fnW x) := by
 unfold fnW
 by_cases h : fitB x = true
 · rw [if_pos h]
   exact ⟨W.fin, fit_822 W.fin.1 h, Nat.le_trans W.abs (two_le (a := 1075) (b := 1114) (by omega))⟩
 · rw [if_neg h]; exact zero_ang
theorem ang_trig {x : Nat} (A : Ang x) : Trig x (tS x) (tC x) := by
 obtain ⟨r, R⟩ := rst_ex A
 exact trig_ex ⟨_, _, Trig.own A R⟩
theorem sn_wd {x j : Nat} (W : Wd x j 1075) : Wd (snW x) 768 1075 := by
 have A := fn_ang W
 obtain ⟨⟨r, R, e, -⟩, sz, -⟩ := ang_trig A
 have s := (R.rest A).sin_wd
 have c := (R.rest A).cos_wd
 refine ⟨sz.fin, ?_, ?_⟩
 · show _ ∣ V (tS (fnW x))
   rw [e]; unfold vq
   repeat' split
   · exact s.dvd
   · exact c.dvd
   · exact Int.dvd_neg.2 s.dvd
   · exact Int.dvd_neg.2 c.dvd
 · show (V (tS (fnW x))).natAbs ≤ _
   rw [e]; unfold vq
   have := s.abs
   have := c.abs
   repeat' split
   all_goals omega
theorem SQ_says (x : Nat) : ∃ k r, Ply.Says (Q x) k r ∧ SQ x = Ply.sq k (Ply.tau * r) ∧ CQ x = Ply.sq (k + 1) (Ply.tau * r) := ⟨_, _, says_of x, rfl, rfl⟩
theorem SQ_near {x y : Nat} (h : Q x ≤ Q y) : mag (SQ y - SQ x) ≤ Ply.quick * (Q y - Q x) + 2 * Ply.eps := by
 obtain ⟨j, r, a, e, -⟩ := SQ_says x
 obtain ⟨k, t, b, f, -⟩ := SQ_says y
 have u := Ply.sine_lip a b h
 rw [e, f]
 exact mag_of u.1 u.2
theorem fn_off {x j : Nat} (W : Wd x j 1075) : mag (Q (fnW x) - Q x) ≤ sm := by
 unfold fnW
 by_cases h : fitB x = true
 · rw [if_pos h, show Q x - Q x = 0 by grind]; exact sm0
 · rw [if_neg h]
   have s := unfit_small W.fin (Bool.eq_false_iff.2 h) (Nat.le_trans W.abs (two_le (a := 1075) (b := 1110) (by omega)))
   have c1 : V 3706462493325918208 = 2 ^ 874 := by decide +kernel
   have c2 : V 12929834530180694016 = -(2 ^ 874) := by decide +kernel
   have q1 : Q 3706462493325918208 = sm := by decide +kernel
   have q2 : Q 12929834530180694016 = -sm := by decide +kernel
   have e : ((2 ^ 874 : Nat) : Int) = 2 ^ 874 := Int.natCast_pow 2 874
   have h1 : Q x ≤ sm := by rw [← q1]; exact Q_le.2 (by rw [c1]; omega)
   have h2 : -sm ≤ Q x := by rw [← q2]; exact Q_le.2 (by rw [c2]; omega)
   rw [Q0]
   exact mag_of (by grind) (by grind)
theorem small_eps : Ply.quick * sm + 2 * Ply.eps ≤ uR / 100 := by decide +kernel
theorem fn_poly {q e s u d g : Rat} (q0 : 0 ≤ q) (hd : d ≤ s) (hg : g ≤ q * d + 2 * e) (h : q * s + 2 * e ≤ u / 100) : g ≤ u / 100 := by
 have m : 0 ≤ q * (s - d) := Rat.mul_nonneg q0 (by grind)
 grind
theorem mag_swap (a b : Rat) : mag (a - b) = mag (b - a) := by unfold mag; grind
theorem SQ_fn {x j : Nat} (W : Wd x j 1075) : mag (SQ (fnW x) - SQ x) ≤ uR / 100 := by
 have o := fn_off W
 rcases Rat.le_total (a := Q x) (b := Q (fnW x)) with h | h
 · have g := mag_le (Q (fnW x) - Q x)
   exact fn_poly Ply.quick_nn (Rat.le_trans g.2.1 o) (SQ_near h) small_eps
 · rw [mag_swap] at o ⊢
   have g := mag_le (Q x - Q (fnW x))
   exact fn_poly Ply.quick_nn (Rat.le_trans g.2.1 o) (SQ_near h) small_eps
theorem sn_near {x j : Nat} (W : Wd x j 1075) : mag (Q (snW x) - SQ x) ≤ 9 * uR := by
 have A := fn_ang W
 obtain ⟨r, R⟩ := rst_ex A
 have n := (trig_near A (ang_trig A) R).1
 rw [← (SQ_of R).1] at n
 have e : mkRat 1 (2 ^ 50) = 8 * uR := by decide +kernel
 rw [e] at n
 have b := mag_add (mag_of n.1 n.2) (SQ_fn W)
 have k : Q (tS (fnW x)) - SQ (fnW x) + (SQ (fnW x) - SQ x) = Q (snW x) - SQ x := by show _ = Q (tS (fnW x)) - SQ x; grind
 rw [k] at b
 have u0 := uR0
 grind
theorem SQ_one (x : Nat) : -1 ≤ SQ x ∧ SQ x ≤ 1 := by
 obtain ⟨k, r, ⟨-, h1, h2⟩, e, -⟩ := SQ_says x
 have t := Ply.top_mul h1 h2
 rw [e]
 exact Ply.sq_le_one t.1 t.2 k
theorem sn_lo {x j : Nat} (W : Wd x j 1075) : mag (Q (snW x)) ≤ 2 := by
 have n := sn_near W
 have o := SQ_one x
 have b := mag_add n (mag_of o.1 o.2)
 rw [show Q (snW x) - SQ x + SQ x = Q (snW x) by grind] at b
 have := uR1
 grind
theorem rsd_poly {u e k s m p d1 d2 : Rat} (u0 : 0 ≤ u) (u1 : 1000000 * u ≤ 1) (he : mag e ≤ 1) (hk0 : 0 ≤ k) (hk : 4 * k ≤ 1) (hm : mag m ≤ 1) {S : Rat} (hS : mag (s - S) ≤ 9 * u) (hs : mag s ≤ 2)
 (hp : mag (p - k * s) ≤ u * mag (k * s)) (h1 : mag (d1 - (e - p)) ≤ u * mag (e - p)) (h2 : mag (d2 - (d1 - m)) ≤ u * mag (d1 - m)) : mag (d2 - (e - k * S - m)) ≤ 8 * u := by
 have ks : mag (k * s) ≤ 1 / 2 := by
  have := mag_mul (x := k) (y := s) (B := 1 / 4) (M := 2) (by unfold mag; rw [if_pos hk0]; grind) hs
  grind
 have kS : mag (k * (s - S)) ≤ 9 / 4 * u := by
  have := mag_mul (x := k) (y := s - S) (B := 1 / 4) (M := 9 * u) (by unfold mag; rw [if_pos hk0]; grind) hS
  grind
 have p1 : mag (p - k * s) ≤ u / 2 := by
  have := Rat.mul_le_mul_of_nonneg_left ks u0
  grind
 have e1 : k * (s - S) = k * s - k * S := by grind
 rw [e1] at kS
 generalize k * s = X at *
 generalize k * S = Y at *
 clear hS hs e1 hk0 hk
 have pb := mag_add p1 ks
 rw [show p - X + X = p by grind] at pb
 have ep := mag_sub he pb
 have d1e : mag (d1 - (e - p)) ≤ 2 * u := by
  have := Rat.mul_le_mul_of_nonneg_left (show mag (e - p) ≤ 2 by grind) u0
  grind
 have d1b := mag_add d1e ep
 rw [show d1 - (e - p) + (e - p) = d1 by grind] at d1b
 have dm := mag_sub d1b hm
 have d2e : mag (d2 - (d1 - m)) ≤ 3 * u := by
  have := Rat.mul_le_mul_of_nonneg_left (show mag (d1 - m) ≤ 3 by grind) u0
  grind
 have t := mag_add d2e (mag_sub d1e (mag_add p1 kS))
 rw [show d2 - (d1 - m) + (d1 - (e - p) - (p - X + (X - Y))) = d2 - (e - Y - m) by grind] at t
 grind
structure Kp (k m : Nat) : Prop where
 kw : Wd k 800 1073
 k0 : 0 ≤ Q k
 k1 : 4 * Q k ≤ 1
 kq : Q k * Ply.quick ≤ 19 / 20
 mw : Wd m 800 1073
theorem abs_one {x : Nat} (h : (V x).natAbs ≤ 2 ^ 1074) : mag (Q x) ≤ 1 := by
 have h1 : V x ≤ 2 ^ 1074 := by
  have : ((2 ^ 1074 : Nat) : Int) = 2 ^ 1074 := Int.natCast_pow 2 1074
  omega
 have h2 : -(2 ^ 1074) ≤ V x := by
  have : ((2 ^ 1074 : Nat) : Int) = 2 ^ 1074 := Int.natCast_pow 2 1074
  omega
 have v1 : V 4607182418800017408 = 2 ^ 1074 := by decide +kernel
 have v2 : V 13830554455654793216 = -(2 ^ 1074) := by decide +kernel
 have q1 : Q 4607182418800017408 = 1 := by decide +kernel
 have q2 : Q 13830554455654793216 = -1 := by decide +kernel
 exact mag_of (by rw [← q2]; exact Q_le.2 (by rw [v2]; exact h2)) (by rw [← q1]; exact Q_le.2 (by rw [v1]; exact h1))
theorem rsd_near {k m e j : Nat} (K : Kp k m) (W : Wd e j 1074) :
 Ieee.double.mul k (snW e) = some (mX k (snW e)) ∧ Ieee.double.sub e (mX k (snW e)) = some (lX e (mX k (snW e))) ∧ Ieee.double.sub (lX e (mX k (snW e))) m = some (rsdW k m e) ∧ FinW (rsdW k m e) ∧ mag (Q (rsdW k m e) - kepG k m e) ≤ 8 * uR := by
 have W5 := W.le (q := j) (l := 1075) (Nat.le_refl _) (by omega)
 have S := sn_wd W5
 obtain ⟨a1, a2, a3⟩ := K.kw.mul S (by omega) (by omega) (by omega)
 obtain ⟨b1, b2, b3, b4⟩ := sub_ok (i := 1075) (k := 1076) W.fin a2.fin (Nat.le_trans W.abs (two_le (a := 1074) (b := 1075) (by omega))) (a2.le (q := 400) (l := 1075) (by omega) (by omega)).abs rfl (by omega)
 obtain ⟨c1, c2, c3, -⟩ := sub_ok (i := 1076) (k := 1077) b2 K.mw.fin b4 (Nat.le_trans K.mw.abs (two_le (a := 1073) (b := 1076) (by omega))) rfl (by omega)
 refine ⟨a1, b1, c1, c2, ?_⟩
 have r1 := rd_of a3 _ Rat.le_refl
 have r2 := rd_of (sub_rel b3) _ Rat.le_refl
 have r3 := rd_of (sub_rel c3) _ Rat.le_refl
 rw [Rat.add_zero] at r1 r2 r3
 exact rsd_poly uR0 uR1 (abs_one W.abs) K.k0 K.k1 (abs_one (Nat.le_trans K.mw.abs (two_le (a := 1073) (b := 1074) (by omega)))) (sn_near W5) (sn_lo W5) r1 r2 r3
theorem kepG_move {k m x y : Nat} (K : Kp k m) (h : Q x ≤ Q y) : kepG k m y - kepG k m x ≤ 2 * (Q y - Q x) + uR / 100 ∧ (Q y - Q x) / 20 ≤ kepG k m y - kepG k m x + Q k * (2 * Ply.eps) := by
 obtain ⟨j, r, a, e, -⟩ := SQ_says x
 obtain ⟨l, t, b, f, -⟩ := SQ_says y
 have u := Ply.kep_lip a b h K.k0 K.kq
 have v := Ply.kep_rise a b h K.k0 K.kq
 rw [← e, ← f] at u v
 have g : Q k * (2 * Ply.eps) ≤ uR / 100 := by
  have g0 : 2 * Ply.eps ≤ uR / 100 := by decide +kernel
  have e0 : 0 ≤ 2 * Ply.eps := by decide +kernel
  have k1 := K.k1
  have k0 := K.k0
  generalize 2 * Ply.eps = E at *
  have := Rat.mul_nonneg (show 0 ≤ 1 - Q k by grind) e0
  grind
 unfold kepG
 generalize Q k * (2 * Ply.eps) = E at *
 generalize Q k * SQ x = X at *
 generalize Q k * SQ y = Y at *
 constructor <;> grind
noncomputable def tst (k m : Nat) (e : Nat) : Bool := decide (0 < V (rsdW k m e))
theorem Q_nn {x : Nat} : 0 ≤ Q x ↔ 0 ≤ V x := by rw [← Q0, Q_le, V_zero]
noncomputable def bisR (k m n : Nat) : Nat × Nat := Ply.bis mdW (tst k m) n (lX m k) (aX m k)
noncomputable def plcW (k m : Nat) : Nat := mdW (bisR k m 64).1 (bisR k m 64).2
theorem ends_poly {u κ S lo M : Rat} (k0 : 0 ≤ κ) (s1 : -1 ≤ S) (s2 : S ≤ 1) (u0 : 0 ≤ u) (h : mag (lo - (M - κ)) ≤ u) (hi : Rat) (g : mag (hi - (M + κ)) ≤ u) : lo - κ * S - M ≤ 8 * u ∧ -(8 * u) ≤ hi - κ * S - M := by
 have a := mag_le (lo - (M - κ))
 have b := mag_le (hi - (M + κ))
 have c := Rat.mul_nonneg k0 (show 0 ≤ 1 + S by grind)
 have d := Rat.mul_nonneg k0 (show 0 ≤ 1 - S by grind)
 constructor <;> grind
theorem wide_poly {u w w0 P : Rat} (h : (w - 2 * u) * P ≤ w0 - 2 * u) (u0 : 0 ≤ u) (w1 : w0 ≤ 1) (hP : 2 ≤ u * P) (P0 : 0 ≤ P) : w ≤ 3 * u := by
 rcases Rat.le_total (a := w) (b := 3 * u) with q | q
 · exact q
 · have m := Rat.mul_nonneg (show 0 ≤ w - 3 * u by grind) P0
   have e : (w - 2 * u) * P = (w - 3 * u) * P + u * P := by grind
   rw [e] at h
   generalize (w - 3 * u) * P = A at *
   generalize u * P = B at *
   exfalso
   grind
theorem kepler_end {k m : Nat} (K : Kp k m) (hm : mag (Q m) ≤ 1 / 2) : Wd (plcW k m) 400 1074 ∧ mag (kepG k m (plcW k m)) ≤ 14 * uR := by
 have u0 := uR0
 have u1 := uR1
 have k0 := K.k0
 have k1 := K.k1
 have mw := K.mw
 have kw := K.kw
 have ad := Wd.add mw kw (by omega)
 obtain ⟨s1, s2, s3, s4⟩ := sub_ok (i := 1073) (k := 1074) mw.fin kw.fin mw.abs kw.abs rfl (by omega)
 have Wl : Wd (lX m k) 800 1074 := ⟨s2, by rw [s3]; exact RN_dvd (Int.dvd_sub mw.dvd kw.dvd), s4⟩
 have Wh : Wd (aX m k) 800 1074 := ad.2.1
 have r1 := rd_of (sub_rel s3) 1 (by
  have := mag_sub hm (show mag (Q k) ≤ 1 / 4 by unfold mag; rw [if_pos k0]; grind)
  grind)
 have r2 := rd_of ad.2.2 1 (by
  have := mag_add hm (show mag (Q k) ≤ 1 / 4 by unfold mag; rw [if_pos k0]; grind)
  grind)
 rw [Rat.add_zero, Rat.mul_one] at r1 r2
 have le : Q (lX m k) ≤ Q (aX m k) := by
  have a := mag_le (Q (lX m k) - (Q m - Q k))
  obtain ⟨r, g1, g2, g3, g4⟩ := addW mw.fin kw.fin mw.abs kw.abs (by omega)
  have er : aX m k = r := by unfold aX; rw [g1]; rfl
  rw [er, Q_le, g3, s3]
  have := Q_nn.1 k0
  exact RN_mono (by omega)
 have w0 : Q (aX m k) - Q (lX m k) ≤ 1 := by
  have a := mag_le (Q (lX m k) - (Q m - Q k))
  have b := mag_le (Q (aX m k) - (Q m + Q k))
  grind
 have el := (ends_poly k0 (SQ_one (lX m k)).1 (SQ_one (lX m k)).2 u0 r1 _ r2).1
 have eh := (ends_poly k0 (SQ_one (aX m k)).1 (SQ_one (aX m k)).2 u0 r1 _ r2).2
 have B := Ply.bis_all (W := fun n x => Wd x (400 + n) 1074) (q := Q) (G := kepG k m) (md := mdW) (T := tst k m) (u := uR) (ε := 8 * uR) 1
  (fun n x h => h.le (by omega) (Nat.le_refl _))
  (fun n a b ha hb h => mid_near (j := 400 + n) ha hb (by omega) h)
  (fun n e he => by
   obtain ⟨-, -, -, f, d⟩ := rsd_near K he
   have d := mag_le (Q (rsdW k m e) - kepG k m e)
   unfold tst
   constructor
   · intro t
     have t := of_decide_eq_true t
     have := Q_nn.2 (Int.le_of_lt t)
     grind
   · intro t
     have t := of_decide_eq_false t
     have : Q (rsdW k m e) ≤ 0 := by rw [← Q0, Q_le, V_zero]; omega
     grind)
  64 (lX m k) (aX m k) (Wl.le (by omega) (Nat.le_refl _)) (Wh.le (by omega) (Nat.le_refl _)) le el eh
 obtain ⟨b1, b2, b3, b4, b5, b6⟩ := B
 have w := wide_poly b4 u0 w0 (by decide +kernel) (by decide +kernel)
 obtain ⟨m1, m2, m3, m4, m5⟩ := mid_near (j := 400) b1 b2 (by omega) b3
 refine ⟨m1, ?_⟩
 have g1 := (kepG_move K m2).1
 have g2 := (kepG_move K m3).1
 show mag (kepG k m (mdW _ _)) ≤ _
 unfold bisR
 exact mag_of (by grind) (by grind)
theorem fac_pos {u e P : Rat} (u0 : 0 ≤ u) (u1 : 1000000 * u ≤ 1) (e0 : 0 ≤ e) (h : mag (P - e) ≤ u * mag P) : 0 ≤ P := by
 have a := mag_le (P - e)
 rcases Rat.le_total (a := 0) (b := P) with q | q
 · exact q
 · have m : mag P ≤ -P := mag_of (by grind) (by grind)
   have m2 := Rat.mul_le_mul_of_nonneg_left m u0
   have m3 : 0 ≤ (1 / 2 - u) * -P := Rat.mul_nonneg (by grind) (by grind)
   have e1 : (1 / 2 - u) * -P = u * P - P / 2 := by grind
   have e2 : u * -P = -(u * P) := by grind
   rw [e1] at m3
   rw [e2] at m2
   generalize u * P = X at *
   generalize u * mag P = Y at *
   grind
theorem fac_poly {u e K τ P : Rat} (u0 : 0 ≤ u) (u1 : 1000000 * u ≤ 1) (e0 : 0 ≤ e) (e1 : e ≤ 7 / 8) (t6 : 6 ≤ τ) (t7 : τ ≤ 7) (hP : P = K * τ) (h : mag (P - e) ≤ u * mag P) : 0 ≤ K ∧ 4 * K ≤ 1 ∧ P ≤ 8751 / 10000 ∧ (K = 0 ∨ e / 8 ≤ K) := by
 have a := mag_le (P - e)
 have P0 := fac_pos u0 u1 e0 h
 have m : mag P ≤ P := mag_of (by grind) (by grind)
 have m2 := Rat.mul_le_mul_of_nonneg_left m u0
 have m3 : 0 ≤ (1 / 1000000 - u) * P := Rat.mul_nonneg (by grind) P0
 have e2 : (1 / 1000000 - u) * P = P / 1000000 - u * P := by grind
 rw [e2] at m3
 generalize u * mag P = Y at *
 generalize u * P = X at *
 have hi : P ≤ 8751 / 10000 := by grind
 have lo : 999 / 1000 * e ≤ P := by grind
 have K0 : 0 ≤ K := by
  rcases Rat.le_total (a := 0) (b := K) with q | q
  · exact q
  · have d := Rat.mul_nonneg (show 0 ≤ -K by grind) (show 0 ≤ τ - 6 by grind)
    have d2 : -K * (τ - 6) = 6 * K - K * τ := by grind
    rw [d2, ← hP] at d
    grind
 have d := Rat.mul_nonneg K0 (show 0 ≤ τ - 6 by grind)
 have d1 : K * (τ - 6) = K * τ - 6 * K := by grind
 rw [d1, ← hP] at d
 have f := Rat.mul_nonneg K0 (show 0 ≤ 7 - τ by grind)
 have f1 : K * (7 - τ) = 7 * K - K * τ := by grind
 rw [f1, ← hP] at f
 exact ⟨K0, by grind, hi, .inr (by grind)⟩
theorem norm_tau : Norm tauW false 7074237752028440 1024 := by
 have f : FinW tauW := by unfold FinW tauW; omega
 have N := norm_of f (by unfold tauW; omega)
 rw [show decide (9223372036854775808 ≤ tauW) = false by decide] at N
 exact N
theorem kp_of {e m : Nat} (he : e < 18446744073709551616) (fe : fitB e = true) (e0 : 0 ≤ Q e) (e1 : Q e ≤ 7 / 8) (mw : Wd m 800 1073) :
 Ieee.double.div e tauW = some (kepW e) ∧ Kp (kepW e) m := by
 obtain ⟨a1, a2, a3⟩ := div_any he fe norm_tau (by omega) (by omega)
 have r := quo_rat a3
 have t6 : 6 ≤ Q tauW ∧ Q tauW ≤ 7 := by decide +kernel
 have tq : Ply.quick ≤ 108001 / 100000 * Q tauW := by decide +kernel
 obtain ⟨k0, k1, k2, k3⟩ := fac_poly uR0 uR1 e0 e1 t6.1 t6.2 rfl r
 refine ⟨a1, ⟨a2, ?_, ?_⟩, k0, k1, ?_, mw⟩
 · by_cases z : V e = 0
   · have : V (qX e tauW) = 0 := by
        obtain ⟨r', q1, q2, q3⟩ := div_zero (fit_fin he fe) z norm_tau.fin (by decide +kernel)
        have er : qX e tauW = r' := by unfold qX; rw [q1]; rfl
        rw [er]; exact q3
     show _ ∣ V (qX e tauW)
     rw [this]; exact Int.dvd_zero _
   · have big := fit_big (fit_fin he fe) fe
     have big : 2 ^ 874 ≤ (V e).natAbs := by rcases big with h | h; exact absurd h z; exact h
     have c1 : V 3706462493325918208 = 2 ^ 874 := by decide +kernel
     have q1 : Q 3706462493325918208 = sm := by decide +kernel
     have en : 0 ≤ V e := Q_nn.1 e0
     have ce : ((2 ^ 874 : Nat) : Int) = 2 ^ 874 := Int.natCast_pow 2 874
     have es : sm ≤ Q e := by rw [← q1]; exact Q_le.2 (by rw [c1]; omega)
     refine Q_dvd_big (x := sm / 8) (.inl ?_) (by decide +kernel)
     show _ ≤ Q (qX e tauW)
     rcases k3 with h | h
     · exfalso
       have h : Q (qX e tauW) = 0 := h
       rw [h, Rat.zero_mul] at r
       have a := mag_le (0 - Q e)
       have : mag (0 : Rat) = 0 := by decide +kernel
       rw [this, Rat.mul_zero] at r
       have s0 : 0 < sm := by decide +kernel
       grind
     · have h : Q e / 8 ≤ Q (qX e tauW) := h
       grind
 · show (V (qX e tauW)).natAbs ≤ _
   have k0 : 0 ≤ Q (qX e tauW) := k0
   have k1 : 4 * Q (qX e tauW) ≤ 1 := k1
   have v0 := Q_nn.1 k0
   have c1 : V 4602678819172646912 = 2 ^ 1073 := by decide +kernel
   have q1 : Q 4602678819172646912 = 1 / 2 := by decide +kernel
   have : V (qX e tauW) ≤ 2 ^ 1073 := by rw [← c1]; exact Q_le.1 (by rw [q1]; grind)
   have ce : ((2 ^ 1073 : Nat) : Int) = 2 ^ 1073 := Int.natCast_pow 2 1073
   omega
 · have m := Rat.mul_le_mul_of_nonneg_left tq k0
   generalize Ply.quick = q at *
   have e : Q (qX e tauW) * (108001 / 100000 * Q tauW) = 108001 / 100000 * (Q (qX e tauW) * Q tauW) := by grind
   rw [e] at m
   show Q (qX _ tauW) * q ≤ _
   grind
theorem kepler_ans {k m y : Nat} (K : Kp k m) (hm : mag (Q m) ≤ 1 / 2) (hy : FinW y) (vy : V y = V (fnW (plcW k m))) :
 Wd y 400 1074 ∧ mag (kepG k m y) ≤ 15 * uR ∧ mag (Q (rsdW k m y)) ≤ 23 * uR := by
 obtain ⟨w, g⟩ := kepler_end K hm
 have w5 : Wd (plcW k m) 400 1075 := w.le (Nat.le_refl _) (by omega)
 have A := fn_ang w5
 have o := fn_off w5
 have Wy : Wd y 400 1074 := by
  refine ⟨hy, ?_, ?_⟩
  · rw [vy]; exact Int.dvd_trans ⟨2 ^ 422, by rw [← Int.pow_add]⟩ A.dvd
  · rw [vy]
    unfold fnW
    split
    · exact w.abs
    · rw [V_zero]; exact Nat.zero_le _
 have qy : Q y = Q (fnW (plcW k m)) := by unfold Q; rw [vy]
 have u0 := uR0
 have s1 : 4 * sm ≤ uR / 2 := by decide +kernel
 have G : mag (kepG k m y) ≤ 15 * uR := by
  rw [← qy] at o
  have p := mag_le (kepG k m (plcW k m))
  have q := mag_le (Q y - Q (plcW k m))
  rcases Rat.le_total (a := Q (plcW k m)) (b := Q y) with h | h
  · have v := (kepG_move K h).1
    have v2 := (kepG_move K h).2
    have g0 : Q k * (2 * Ply.eps) ≤ uR / 100 := by
        have g0 : 2 * Ply.eps ≤ uR / 100 := by decide +kernel
        have e0 : 0 ≤ 2 * Ply.eps := by decide +kernel
        have k1 := K.k1
        have k0 := K.k0
        generalize 2 * Ply.eps = E at *
        have := Rat.mul_nonneg (show 0 ≤ 1 - Q k by grind) e0
        grind
    generalize Q k * (2 * Ply.eps) = E at *
    exact mag_of (by grind) (by grind)
  · have v := (kepG_move K h).1
    have v2 := (kepG_move K h).2
    have g0 : Q k * (2 * Ply.eps) ≤ uR / 100 := by
        have g0 : 2 * Ply.eps ≤ uR / 100 := by decide +kernel
        have e0 : 0 ≤ 2 * Ply.eps := by decide +kernel
        have k1 := K.k1
        have k0 := K.k0
        generalize 2 * Ply.eps = E at *
        have := Rat.mul_nonneg (show 0 ≤ 1 - Q k by grind) e0
        grind
    generalize Q k * (2 * Ply.eps) = E at *
    exact mag_of (by grind) (by grind)
 refine ⟨Wy, G, ?_⟩
 obtain ⟨-, -, -, -, d⟩ := rsd_near K Wy
 have b := mag_add d G
 rw [show Q (rsdW k m y) - kepG k m y + kepG k m y = Q (rsdW k m y) by grind] at b
 grind
end Go.Proofs.YtdfcchocabapkaaGreat

namespace Fma
open Go.Proofs.YtdfcchocabapkaaGreat Pol

def Far (p : R3) (B : Rat) : Prop := 0 ≤ B ∧ B * B ≤ nsq p
theorem Far.le {p : R3} {A B : Rat} (h : Far p A) (b0 : 0 ≤ B) (k : B ≤ A) : Far p B := ⟨b0, Rat.le_trans (sq_mono b0 k) h.2⟩
theorem amgm {l m x y : Rat} (h : l * m = 1) (l0 : 0 ≤ l) : -(l * (x * x) + m * (y * y)) ≤ 2 * (x * y) := by
 have a := Rat.mul_nonneg l0 (sq_nn (x + m * y))
 have e : l * ((x + m * y) * (x + m * y)) = l * (x * x) + 2 * ((l * m) * (x * y)) + (l * m) * (m * (y * y)) := by grind
 rw [e, h] at a
 grind
theorem Far.add {p q : R3} {B D : Rat} (hp : Far p B) (hq : Len q D) (h : D ≤ B) : Far (addQ p q) (B - D) := by
 refine ⟨by grind, ?_⟩
 obtain ⟨b0, hp⟩ := hp
 obtain ⟨d0, hq⟩ := hq
 by_cases z : D = 0
 · subst z
   have q0 : nsq q = 0 := by have := nsq_nn q; grind
   have q1 : q.1 * q.1 = 0 ∧ q.2.1 * q.2.1 = 0 ∧ q.2.2 * q.2.2 = 0 := by
    have a := sq_nn q.1
    have b := sq_nn q.2.1
    have c := sq_nn q.2.2
    unfold nsq at q0
    refine ⟨?_, ?_, ?_⟩ <;> grind
   have z1 : q.1 = 0 := by rcases Rat.mul_eq_zero.1 q1.1 with h | h <;> exact h
   have z2 : q.2.1 = 0 := by rcases Rat.mul_eq_zero.1 q1.2.1 with h | h <;> exact h
   have z3 : q.2.2 = 0 := by rcases Rat.mul_eq_zero.1 q1.2.2 with h | h <;> exact h
   unfold nsq addQ at *
   dsimp only
   rw [z1, z2, z3]
   grind
 · have dp : 0 < D := by grind
   have bp : 0 < B := by grind
   obtain ⟨l, hl⟩ : ∃ l, l = D / B := ⟨_, rfl⟩
   obtain ⟨m, hm⟩ : ∃ m, m = B / D := ⟨_, rfl⟩
   have lB : l * B = D := by rw [hl]; exact Rat.div_mul_cancel (by grind)
   have mD : m * D = B := by rw [hm]; exact Rat.div_mul_cancel (by grind)
   have l0 : 0 ≤ l := by
    rw [hl, Rat.div_def]; exact Rat.mul_nonneg d0 (Rat.le_of_lt (Rat.inv_pos.2 bp))
   have m0 : 0 ≤ m := by
    rw [hm, Rat.div_def]; exact Rat.mul_nonneg b0 (Rat.le_of_lt (Rat.inv_pos.2 dp))
   have lm : l * m = 1 := by
    have e : (l * m) * D = 1 * D := by rw [Rat.mul_assoc, mD, lB, Rat.one_mul]
    have := congrArg (· * D⁻¹) e
    simpa only [Rat.mul_assoc, Rat.mul_inv_cancel _ z, Rat.mul_one] using this
   have l1 : l ≤ 1 := Rat.le_of_mul_le_mul_right (by rw [lB, Rat.one_mul]; exact h) bp
   have a1 := amgm (x := p.1) (y := q.1) lm l0
   have a2 := amgm (x := p.2.1) (y := q.2.1) lm l0
   have a3 := amgm (x := p.2.2) (y := q.2.2) lm l0
   have m1 : 1 ≤ m := by
    have := Rat.mul_nonneg (show 0 ≤ 1 - l by grind) m0
    have e1 : (1 - l) * m = m - l * m := by grind
    rw [e1, lm] at this
    grind
   have k1 := Rat.mul_nonneg (show 0 ≤ 1 - l by grind) (show 0 ≤ nsq p - B * B by grind)
   have k2 := Rat.mul_nonneg (show 0 ≤ m - 1 by grind) (show 0 ≤ D * D - nsq q by grind)
   have key : nsq (addQ p q) = nsq p + nsq q + (2 * (p.1 * q.1) + 2 * (p.2.1 * q.2.1) + 2 * (p.2.2 * q.2.2)) := by unfold nsq addQ; grind
   have s1 : l * (p.1 * p.1) + m * (q.1 * q.1) + (l * (p.2.1 * p.2.1) + m * (q.2.1 * q.2.1)) + (l * (p.2.2 * p.2.2) + m * (q.2.2 * q.2.2)) = l * nsq p + m * nsq q := by unfold nsq; grind
   have t1 : (1 - l) * (nsq p - B * B) = nsq p - l * nsq p - B * B + D * B := by rw [← lB]; grind
   have t2 : (m - 1) * (D * D - nsq q) = B * D - D * D - m * nsq q + nsq q := by rw [← mD]; grind
   rw [t1] at k1
   rw [t2] at k2
   rw [key]
   generalize nsq p = np at *
   generalize nsq q = nq at *
   generalize l * np = X at *
   generalize m * nq = Y at *
   have e3 : (B - D) * (B - D) = B * B - 2 * (D * B) + D * D := by grind
   have e4 : B * D = D * B := by grind
   rw [e3]
   rw [e4] at k2
   generalize B * B = BB at *
   generalize D * D = DD at *
   generalize D * B = DB at *
   grind
theorem nsq_rot_lo (a : Int) (s c : Rat) (p : R3) {d : Rat} (hd : mag (c * c + s * s - 1) ≤ d) : (1 - d) * nsq p ≤ nsq (rotQ a s c p) := by
 have d0 : 0 ≤ d := Rat.le_trans (mag_le _).2.2 hd
 have m := (mag_le (c * c + s * s - 1)).1
 have x0 := sq_nn p.1
 have y0 := sq_nn p.2.1
 have z0 := sq_nn p.2.2
 unfold rotQ
 split
 · have k := Rat.mul_nonneg (show 0 ≤ d + (c * c + s * s - 1) by grind) (show 0 ≤ p.2.1 * p.2.1 + p.2.2 * p.2.2 by grind)
   have k2 := Rat.mul_nonneg d0 x0
   unfold nsq; dsimp only; grind
 · split
   · have k := Rat.mul_nonneg (show 0 ≤ d + (c * c + s * s - 1) by grind) (show 0 ≤ p.1 * p.1 + p.2.2 * p.2.2 by grind)
     have k2 := Rat.mul_nonneg d0 y0
     unfold nsq; dsimp only; grind
   · have k := Rat.mul_nonneg (show 0 ≤ d + (c * c + s * s - 1) by grind) (show 0 ≤ p.1 * p.1 + p.2.1 * p.2.1 by grind)
     have k2 := Rat.mul_nonneg d0 z0
     unfold nsq; dsimp only; grind
theorem Far.rot {p : R3} {B : Rat} (h : Far p B) (a : Int) {s c d : Rat} (hd : mag (c * c + s * s - 1) ≤ d) (d1 : d ≤ 1) : Far (rotQ a s c p) (B * (1 - d)) := by
 have d0 : 0 ≤ d := Rat.le_trans (mag_le _).2.2 hd
 obtain ⟨b0, h⟩ := h
 refine ⟨Rat.mul_nonneg b0 (by grind), Rat.le_trans ?_ (nsq_rot_lo a s c p hd)⟩
 have k := Rat.mul_le_mul_of_nonneg_left h (show 0 ≤ 1 - d by grind)
 have k2 := Rat.mul_nonneg (Rat.mul_nonneg d0 (show 0 ≤ 1 - d by grind)) (sq_nn B)
 grind
structure Ring (p : R3) (B A : Rat) : Prop where
 lo : Far p B
 hi : Len p A
theorem Ring.step {p w : R3} {B A D d : Rat} (h : Ring p B A) (a : Int) {s c : Rat} (hd : mag (c * c + s * s - 1) ≤ d) (d1 : d ≤ 1) (off : Len (subQ w (rotQ a s c p)) D) (k : D ≤ B * (1 - d)) : Ring w (B * (1 - d) - D) (A * (1 + d) + D) := by
 have e : addQ (rotQ a s c p) (subQ w (rotQ a s c p)) = w := by
  unfold addQ subQ
  refine Prod.ext ?_ (Prod.ext ?_ ?_)
  all_goals dsimp only; grind
 have l := (h.lo.rot a hd d1).add off k
 have u := (h.hi.rot a hd).add off
 rw [e] at l u
 exact ⟨l, u⟩
end Fma

namespace Go.Proofs.YtdfcchocabapkaaGreat
open Go.ChangeShapes Go.WideShapes Go.ChangeAt Go.RowKit Ieee.Own Pol Fma

def Sin_ (z S C : Rat) : Prop := ∃ (k : Int) (r : Rat), Ply.Says z k r ∧ S = Ply.sq k (Ply.tau * r) ∧ C = Ply.sq (k + 1) (Ply.tau * r)
theorem sin_word (x : Nat) : Sin_ (Q x) (SQ x) (CQ x) := ⟨_, _, says_of x, rfl, rfl⟩
theorem Sin_.turn {z S C : Rat} (h : Sin_ z S C) : Sin_ (z + 1) S C := by
 obtain ⟨k, r, ⟨a, b, c⟩, e, f⟩ := h
 refine ⟨k + 4, r, ⟨?_, b, c⟩, ?_, ?_⟩
 · rw [Rat.intCast_add, show ((4 : Int) : Rat) = 4 by decide +kernel]; grind
 · rw [Ply.sq_four]; exact e
 · rw [show k + 4 + 1 = k + 1 + 4 by omega, Ply.sq_four]; exact f
theorem Sin_.back {z S C : Rat} (h : Sin_ z S C) : Sin_ (z - 1) S C := by
 obtain ⟨k, r, ⟨a, b, c⟩, e, f⟩ := h
 refine ⟨k - 4, r, ⟨?_, b, c⟩, ?_, ?_⟩
 · rw [Rat.intCast_sub, show ((4 : Int) : Rat) = 4 by decide +kernel]; grind
 · rw [← Ply.sq_four (k - 4), show k - 4 + 4 = k by omega]; exact e
 · rw [← Ply.sq_four (k - 4 + 1), show k - 4 + 1 + 4 = k + 1 by omega]; exact f
theorem Sin_.one {z S C : Rat} (h : Sin_ z S C) : -1 ≤ S ∧ S ≤ 1 ∧ -1 ≤ C ∧ C ≤ 1 := by
 obtain ⟨k, r, ⟨a, b, c⟩, e, f⟩ := h
 have t := Ply.top_mul b c
 have u := Ply.sq_le_one t.1 t.2 k
 have v := Ply.sq_le_one t.1 t.2 (k + 1)
 rw [e, f]
 exact ⟨u.1, u.2, v.1, v.2⟩
theorem Sin_.circ {z S C : Rat} (h : Sin_ z S C) : mag (C * C + S * S - 1) ≤ Ply.eps := by
 obtain ⟨k, r, ⟨a, b, c⟩, e, f⟩ := h
 have t := Ply.top_mul b c
 have u := Ply.sq_circle t.1 t.2 k
 rw [e, f]
 exact mag_of (by grind) (by grind)
theorem Sin_.move {x y S C S' C' : Rat} (h : Sin_ x S C) (g : Sin_ y S' C') (le : x ≤ y) : mag (S' - S) ≤ Ply.quick * (y - x) + 2 * Ply.eps ∧ mag (C' - C) ≤ Ply.quick * (y - x) + 2 * Ply.eps := by
 obtain ⟨k, r, a, e, f⟩ := h
 obtain ⟨l, t, b, e', f'⟩ := g
 have u := Ply.sine_lip a b le
 have v := Ply.sine_lip (Ply.says_quarter a) (Ply.says_quarter b) (by grind)
 rw [show y + 1 / 4 - (x + 1 / 4) = y - x by grind] at v
 rw [e, f, e', f']
 exact ⟨mag_of u.1 u.2, mag_of v.1 v.2⟩
theorem Sin_.near {x y S C S' C' d : Rat} (h : Sin_ x S C) (g : Sin_ y S' C') (le : mag (x - y) ≤ d) : mag (S' - S) ≤ Ply.quick * d + 2 * Ply.eps ∧ mag (C' - C) ≤ Ply.quick * d + 2 * Ply.eps := by
 have m := mag_le (x - y)
 have q := Ply.quick_nn
 rcases Rat.le_total (a := x) (b := y) with c | c
 · have u := h.move g c
   have k := Rat.mul_le_mul_of_nonneg_left (show y - x ≤ d by grind) q
   generalize Ply.quick * d = A at *
   generalize Ply.quick * (y - x) = B at *
   generalize Ply.eps = e at *
   constructor <;> grind
 · have u := g.move h c
   rw [mag_swap S' S, mag_swap C' C]
   have k := Rat.mul_le_mul_of_nonneg_left (show x - y ≤ d by grind) q
   generalize Ply.quick * d = A at *
   generalize Ply.quick * (x - y) = B at *
   generalize Ply.eps = e at *
   constructor <;> grind
structure Fac (κ : Rat) : Prop where
 k0 : 0 ≤ κ
 k1 : κ * Ply.quick ≤ 19 / 20
theorem Sin_.climb {κ x y S C S' C' : Rat} (K : Fac κ) (h : Sin_ x S C) (g : Sin_ y S' C') (le : x ≤ y) : (y - κ * S') - (x - κ * S) ≤ 2 * (y - x) + κ * (2 * Ply.eps) ∧ (y - x) / 20 ≤ (y - κ * S') - (x - κ * S) + κ * (2 * Ply.eps) := by
 obtain ⟨k, r, a, e, f⟩ := h
 obtain ⟨l, t, b, e', f'⟩ := g
 have u := Ply.kep_lip a b le K.k0 K.k1
 have v := Ply.kep_rise a b le K.k0 K.k1
 rw [← e, ← e'] at u v
 exact ⟨u, v⟩
theorem eps_del : 2 * Ply.eps ≤ Ply.del := by decide +kernel
def Nigh (S v : Rat) : Prop := -1 ≤ v ∧ v ≤ 1 ∧ S - Ply.del ≤ v ∧ v ≤ S + Ply.del
theorem del_nn : 0 ≤ Ply.del := by decide +kernel
theorem nigh_self {S : Rat} (h1 : -1 ≤ S) (h2 : S ≤ 1) : Nigh S S := by
 have := del_nn
 exact ⟨h1, h2, by grind, by grind⟩
structure Lo_ (κ m x : Rat) : Prop where
 ex : ∃ S C, Sin_ x S C ∧ ∀ v, Nigh S v → x - κ * v < m
structure Hi_ (κ m x : Rat) : Prop where
 ex : ∃ S C, Sin_ x S C ∧ ∀ v, Nigh S v → m < x - κ * v
theorem edges_lt {κ m1 m2 lo hi : Rat} (K : Fac κ) (h1 : Lo_ κ m1 lo) (h : m1 ≤ m2) (h2 : Hi_ κ m2 hi) : lo < hi := by
 obtain ⟨S, C, a, h1⟩ := h1
 obtain ⟨S', C', b, h2⟩ := h2
 by_cases c : lo < hi
 · exact c
 · have c : hi ≤ lo := by grind
   exfalso
   have e := eps_del
   have d := del_nn
   have sa := a.one
   have sb := b.one
   have k := (b.climb K a c).2
   have p : 0 ≤ (lo - hi) / 20 := by grind
   -- the lowest that S's span holds, the highest that S''s holds
   obtain ⟨v, nv, vl, v1⟩ : ∃ v, Nigh S v ∧ v ≤ S ∧ (v = -1 ∨ v = S - Ply.del) := by
    rcases Rat.le_total (a := -1) (b := S - Ply.del) with q | q
    · exact ⟨S - Ply.del, ⟨by grind, by grind, by grind, by grind⟩, by grind, .inr rfl⟩
    · exact ⟨-1, ⟨by grind, by grind, by grind, by grind⟩, by grind, .inl rfl⟩
   obtain ⟨v', nv', vl', v1'⟩ : ∃ v, Nigh S' v ∧ S' ≤ v ∧ (v = 1 ∨ v = S' + Ply.del) := by
    rcases Rat.le_total (a := S' + Ply.del) (b := 1) with q | q
    · exact ⟨S' + Ply.del, ⟨by grind, by grind, by grind, by grind⟩, by grind, .inr rfl⟩
    · exact ⟨1, ⟨by grind, by grind, by grind, by grind⟩, by grind, .inl rfl⟩
   have g1 := h1 v nv
   have g2 := h2 v' nv'
   have k0 := K.k0
   rcases Rat.le_total (a := v) (b := v') with q | q
   · have m := Rat.mul_nonneg k0 (show 0 ≤ v' - v by grind)
     have e1 : κ * (v' - v) = κ * v' - κ * v := by grind
     rw [e1] at m
     grind
   · have hv : S' - S + 2 * Ply.eps ≤ v' - v := by
        rcases v1 with rfl | rfl
        · have : v' = -1 := by have := nv'.1; grind
          rcases v1' with rfl | rfl
          · exact absurd this (by decide +kernel)
          · grind
        · rcases v1' with rfl | rfl
          · grind
          · grind
     have m := Rat.mul_nonneg k0 (show 0 ≤ v' - v - (S' - S + 2 * Ply.eps) by grind)
     have e1 : κ * (v' - v - (S' - S + 2 * Ply.eps)) = κ * v' - κ * v - κ * S' + κ * S - κ * (2 * Ply.eps) := by grind
     rw [e1] at m
     generalize κ * (2 * Ply.eps) = E at *
     generalize κ * v' = X1 at *
     generalize κ * v = X2 at *
     generalize κ * S' = X3 at *
     generalize κ * S = X4 at *
     grind
theorem far_lo {κ m x : Rat} (K : Fac κ) (k : 4 * κ ≤ 1) {S C : Rat} (a : Sin_ x S C) (h : x ≤ m - 1 / 2) : Lo_ κ m x := by
 refine ⟨S, C, a, fun v n => ?_⟩
 have p := Rat.mul_nonneg K.k0 (show 0 ≤ 1 + v by have := n.1; grind)
 have e1 : κ * (1 + v) = κ + κ * v := by grind
 rw [e1] at p
 generalize κ * v = X at *
 grind
theorem far_hi {κ m x : Rat} (K : Fac κ) (k : 4 * κ ≤ 1) {S C : Rat} (a : Sin_ x S C) (h : m + 1 / 2 ≤ x) : Hi_ κ m x := by
 refine ⟨S, C, a, fun v n => ?_⟩
 have p := Rat.mul_nonneg K.k0 (show 0 ≤ 1 - v by have := n.2.1; grind)
 have e1 : κ * (1 - v) = κ - κ * v := by grind
 rw [e1] at p
 generalize κ * v = X at *
 grind
end Go.Proofs.YtdfcchocabapkaaGreat

namespace Fma
open Go.Proofs.YtdfcchocabapkaaGreat Pol

theorem c_top_ {c s u : Rat} (u0 : 0 ≤ u) (hc : mag (c * c + s * s - 1) ≤ 33 * u) : -(1 + 33 * u) ≤ c ∧ c ≤ 1 + 33 * u := by
 have m := mag_le (c * c + s * s - 1)
 have s0 := sq_nn s
 have k := Rat.mul_nonneg u0 u0
 have e : (1 + 33 * u) * (1 + 33 * u) = 1 + 66 * u + 1089 * (u * u) := by grind
 have h : c * c ≤ (1 + 33 * u) * (1 + 33 * u) := by rw [e]; grind
 refine ⟨?_, sq_le_of (by grind) h⟩
 have := sq_le_of (x := -c) (y := 1 + 33 * u) (by grind) (by rw [show -c * -c = c * c by grind]; exact h)
 grind
theorem plane_ring {u A e s c b X Y : Rat} (u0 : 0 ≤ u) (u1 : 1000000 * u ≤ 1) (A0 : 0 ≤ A) (e0 : 0 ≤ e) (e1 : e ≤ 7 / 8) (hc : mag (c * c + s * s - 1) ≤ 33 * u) (hb : mag (b * b - (1 - e * e)) ≤ 6 * u)
 (hX : mag (X - A * (c - e)) ≤ 6 * (u * A)) (hY : mag (Y - A * (b * s)) ≤ 6 * (u * A)) : Ring (X, Y, 0) (A * (1 - e - 2000 * u)) (A * (1 + e + 2000 * u)) := by
 have mc := mag_le (c * c + s * s - 1)
 have mb := mag_le (b * b - (1 - e * e))
 obtain ⟨l, h⟩ := Ply.ellipse (s := s) (c := c) (e := e) (b := b) (d := 33 * u) (by grind) e0 (by grind) (by grind) (by grind) (by grind) (by grind)
 obtain ⟨c1, c2⟩ := c_top_ u0 hc
 have uu := Rat.mul_nonneg u0 u0
 have R1 : 1 - e - 33 * u ≤ 1 - e * c := by
  have a := Rat.mul_nonneg e0 (show 0 ≤ 1 + 33 * u - c by grind)
  have b := Rat.mul_nonneg u0 (show 0 ≤ 1 - e by grind)
  have k1 : e * (1 + 33 * u - c) = e + 33 * (u * e) - e * c := by grind
  have k2 : u * (1 - e) = u - u * e := by grind
  rw [k1] at a
  rw [k2] at b
  generalize u * e = U at *
  grind
 have R2 : 1 - e * c ≤ 1 + e + 33 * u := by
  have a := Rat.mul_nonneg e0 (show 0 ≤ 1 + 33 * u + c by grind)
  have b := Rat.mul_nonneg u0 (show 0 ≤ 1 - e by grind)
  have k1 : e * (1 + 33 * u + c) = e + 33 * (u * e) + e * c := by grind
  have k2 : u * (1 - e) = u - u * e := by grind
  rw [k1] at a
  rw [k2] at b
  generalize u * e = U at *
  grind
 have q1 := sq_mono (show 0 ≤ 1 - e - 33 * u by grind) R1
 have q2 := sq_mono (show 0 ≤ 1 - e * c by grind) R2
 have ue := Rat.mul_nonneg u0 (show 0 ≤ 7 / 8 - e by grind)
 have ue0 := Rat.mul_nonneg u0 e0
 have uu1 := Rat.mul_nonneg u0 (show 0 ≤ 1 / 1000000 - u by grind)
 have N1 : (1 - e - 1900 * u) * (1 - e - 1900 * u) ≤ (c - e) * (c - e) + b * s * (b * s) := by
  have k : (1 - e - 33 * u) * (1 - e - 33 * u) - (1 - e - 1900 * u) * (1 - e - 1900 * u) = 3734 * u - 3734 * (u * e) - 3608911 * (u * u) := by grind
  have k2 : u * (7 / 8 - e) = 7 / 8 * u - u * e := by grind
  have k3 : u * (1 / 1000000 - u) = u / 1000000 - u * u := by grind
  rw [k2] at ue
  rw [k3] at uu1
  generalize (1 - e - 33 * u) * (1 - e - 33 * u) = P at *
  generalize (1 - e - 1900 * u) * (1 - e - 1900 * u) = P2 at *
  generalize (1 - e * c) * (1 - e * c) = P3 at *
  generalize (c - e) * (c - e) + b * s * (b * s) = P4 at *
  generalize u * e = U at *
  generalize u * u = UU at *
  grind
 have N2 : (c - e) * (c - e) + b * s * (b * s) ≤ (1 + e + 1900 * u) * (1 + e + 1900 * u) := by
  have k : (1 + e + 1900 * u) * (1 + e + 1900 * u) - (1 + e + 33 * u) * (1 + e + 33 * u) = 3734 * u + 3734 * (u * e) + 3608911 * (u * u) := by grind
  generalize (1 + e + 33 * u) * (1 + e + 33 * u) = P at *
  generalize (1 + e + 1900 * u) * (1 + e + 1900 * u) = P2 at *
  generalize (1 - e * c) * (1 - e * c) = P3 at *
  generalize (c - e) * (c - e) + b * s * (b * s) = P4 at *
  generalize u * e = U at *
  generalize u * u = UU at *
  grind
 have AA := sq_nn A
 have n0 : nsq (A * (c - e), A * (b * s), 0) = A * A * ((c - e) * (c - e) + b * s * (b * s)) := by unfold nsq; dsimp only; grind
 have F : Far (A * (c - e), A * (b * s), 0) (A * (1 - e - 1900 * u)) := by
  refine ⟨Rat.mul_nonneg A0 (by grind), ?_⟩
  rw [n0]
  have := Rat.mul_le_mul_of_nonneg_left N1 AA
  have k : A * (1 - e - 1900 * u) * (A * (1 - e - 1900 * u)) = A * A * ((1 - e - 1900 * u) * (1 - e - 1900 * u)) := by grind
  rw [k]; exact this
 have H : Len (A * (c - e), A * (b * s), 0) (A * (1 + e + 1900 * u)) := by
  refine ⟨Rat.mul_nonneg A0 (by grind), ?_⟩
  rw [n0]
  have := Rat.mul_le_mul_of_nonneg_left N2 AA
  have k : A * (1 + e + 1900 * u) * (A * (1 + e + 1900 * u)) = A * A * ((1 + e + 1900 * u) * (1 + e + 1900 * u)) := by grind
  rw [k]; exact this
 have O : Len (subQ (X, Y, 0) (A * (c - e), A * (b * s), 0)) (6 * (u * A) + 6 * (u * A) + 0) := len_of (p := subQ (X, Y, 0) (A * (c - e), A * (b * s), 0)) hX hY (by show mag ((0 : Rat) - 0) ≤ 0; decide +kernel)
 have ad : addQ (A * (c - e), A * (b * s), 0) (subQ (X, Y, 0) (A * (c - e), A * (b * s), 0)) = (X, Y, 0) := by
  unfold addQ subQ
  refine Prod.ext ?_ (Prod.ext ?_ ?_)
  all_goals dsimp only; grind
 have uA := Rat.mul_nonneg u0 A0
 have Aq := Rat.mul_nonneg A0 (show 0 ≤ 1 - e - 1 / 16 - 1900 * u by grind)
 have Au := Rat.mul_nonneg A0 (show 0 ≤ 1 / 1000000 - u by grind)
 have k1 : A * (1 - e - 1 / 16 - 1900 * u) = A * (1 - e - 1900 * u) - A / 16 := by grind
 have k2 : A * (1 / 1000000 - u) = A / 1000000 - u * A := by grind
 rw [k1] at Aq
 rw [k2] at Au
 have l1 := F.add O (by
  generalize A * (1 - e - 1900 * u) = B at *
  generalize u * A = U at *
  grind)
 have l2 := H.add O
 rw [ad] at l1 l2
 refine ⟨l1.le (Rat.mul_nonneg A0 (by grind)) ?_, l2.le ?_⟩
 · have k3 : A * (1 - e - 1900 * u) - A * (1 - e - 2000 * u) = 100 * (u * A) := by grind
   generalize A * (1 - e - 1900 * u) = B at *
   generalize A * (1 - e - 2000 * u) = B2 at *
   generalize u * A = U at *
   grind
 · have k3 : A * (1 + e + 2000 * u) - A * (1 + e + 1900 * u) = 100 * (u * A) := by grind
   generalize A * (1 + e + 1900 * u) = B at *
   generalize A * (1 + e + 2000 * u) = B2 at *
   generalize u * A = U at *
   grind
theorem turn_ring {u A e n S : Rat} {w p : R3} {s c : Rat} {sz : Rat} (a : Int) (u0 : 0 ≤ u) (u1 : 1000000 * u ≤ 1) (A0 : 0 ≤ A) (e0 : 0 ≤ e) (e1 : e ≤ 7 / 8) (n0 : 0 ≤ n) (n1 : n ≤ 5000) (h : Ring p (A * (1 - e - n * u)) (A * (1 + e + n * u)))
 (hc : mag (c * c + s * s - 1) ≤ 33 * u) (hz : sz ≤ 3 * (A * (1 + e + n * u))) (hS : S ≤ u * A) (off : Len (subQ w (rotQ a s c p)) (3 * (8 * (u * sz) + S))) :
 Ring w (A * (1 - e - (n + 300) * u)) (A * (1 + e + (n + 300) * u)) := by
 have uA := Rat.mul_nonneg u0 A0
 have nu : n * u ≤ 1 / 100 := by
  have a := Rat.mul_nonneg (show 0 ≤ 5000 - n by grind) u0
  have k : (5000 - n) * u = 5000 * u - n * u := by grind
  rw [k] at a
  generalize n * u = N at *
  grind
 have nu0 : 0 ≤ n * u := Rat.mul_nonneg n0 u0
 have A2 : A * (1 + e + n * u) ≤ 2 * A := by
  have := Rat.mul_nonneg A0 (show 0 ≤ 1 - e - n * u by grind)
  have k : A * (1 - e - n * u) = A - A * e - A * (n * u) := by grind
  have k2 : A * (1 + e + n * u) = A + A * e + A * (n * u) := by grind
  rw [k] at this
  rw [k2]
  grind
 have off2 : Len (subQ w (rotQ a s c p)) (150 * (u * A)) := by
  refine off.le ?_
  have := Rat.mul_le_mul_of_nonneg_left (show sz ≤ 6 * A by grind) u0
  have k : u * (6 * A) = 6 * (u * A) := by grind
  rw [k] at this
  generalize u * sz = X at *
  generalize u * A = Y at *
  grind
 have B16 : A / 16 ≤ A * (1 - e - n * u) := by
  have := Rat.mul_nonneg A0 (show 0 ≤ 1 - e - n * u - 1 / 16 by grind)
  have k : A * (1 - e - n * u - 1 / 16) = A * (1 - e - n * u) - A / 16 := by grind
  rw [k] at this
  grind
 have Au := Rat.mul_nonneg A0 (show 0 ≤ 1 / 1000000 - u by grind)
 have k2 : A * (1 / 1000000 - u) = A / 1000000 - u * A := by grind
 rw [k2] at Au
 have Bu : A * (1 - e - n * u) * (33 * u) ≤ 33 * (u * A) := by
  have a := Rat.mul_nonneg uA (show 0 ≤ e + n * u by grind)
  have k : A * (1 - e - n * u) * (33 * u) = 33 * (u * A) - 33 * (u * A * (e + n * u)) := by grind
  rw [k]
  generalize u * A * (e + n * u) = X at *
  grind
 have Hu : A * (1 + e + n * u) * (33 * u) ≤ 66 * (u * A) := by
  have := Rat.mul_le_mul_of_nonneg_right A2 (show 0 ≤ 33 * u by grind)
  have k : 2 * A * (33 * u) = 66 * (u * A) := by grind
  rw [k] at this
  exact this
 have lo : A * (1 - e - n * u) * (1 - 33 * u) = A * (1 - e - n * u) - A * (1 - e - n * u) * (33 * u) := by grind
 have hi : A * (1 + e + n * u) * (1 + 33 * u) = A * (1 + e + n * u) + A * (1 + e + n * u) * (33 * u) := by grind
 have R := h.step a hc (by grind) off2 (by
  rw [lo]
  generalize A * (1 - e - n * u) * (33 * u) = X at *
  generalize A * (1 - e - n * u) = Y at *
  generalize u * A = Z at *
  grind)
 rw [lo, hi] at R
 have f1 : A * (1 - e - (n + 300) * u) = A * (1 - e - n * u) - 300 * (u * A) := by grind
 have f2 : A * (1 + e + (n + 300) * u) = A * (1 + e + n * u) + 300 * (u * A) := by grind
 rw [f1, f2]
 generalize A * (1 - e - n * u) * (33 * u) = X at *
 generalize A * (1 + e + n * u) * (33 * u) = X2 at *
 generalize A * (1 - e - n * u) = Y at *
 generalize A * (1 + e + n * u) = Y2 at *
 generalize u * A = Z at *
 exact ⟨R.lo.le (by grind) (by grind), R.hi.le (by grind)⟩
end Fma

namespace Go.Proofs.YtdfcchocabapkaaGreat
open Go.ChangeShapes Go.WideShapes Go.ChangeAt Go.RowKit Ieee.Own Pol Fma

theorem trig_wd {x : Nat} (A : Ang x) : Wd (tS x) 768 1075 ∧ Wd (tC x) 768 1075 := by
 obtain ⟨⟨r, R, e, f⟩, sz, cz⟩ := ang_trig A
 have s := (R.rest A).sin_wd
 have c := (R.rest A).cos_wd
 have d : ∀ k : Int, (2 : Int) ^ 768 ∣ vq k (V (sinX r)) (V (cosX r)) ∧ (vq k (V (sinX r)) (V (cosX r))).natAbs ≤ 2 ^ 1075 := fun k => by
  have := s.abs
  have := c.abs
  unfold vq
  repeat' split
  · exact ⟨s.dvd, by omega⟩
  · exact ⟨c.dvd, by omega⟩
  · exact ⟨Int.dvd_neg.2 s.dvd, by omega⟩
  · exact ⟨Int.dvd_neg.2 c.dvd, by omega⟩
 exact ⟨⟨sz.fin, by rw [e]; exact (d _).1, by rw [e]; exact (d _).2⟩, ⟨cz.fin, by rw [f]; exact (d _).1, by rw [f]; exact (d _).2⟩⟩
structure Cir (x : Nat) : Prop where
 on : mag (Q (tC x) * Q (tC x) + Q (tS x) * Q (tS x) - 1) ≤ 33 * uR
 s2 : mag (Q (tS x)) ≤ 2
 c2 : mag (Q (tC x)) ≤ 2
 sn : mag (Q (tS x) - SQ x) ≤ 8 * uR
 cn : mag (Q (tC x) - CQ x) ≤ 8 * uR
theorem cir_of {x : Nat} (A : Ang x) : Cir x := by
 obtain ⟨r, R⟩ := rst_ex A
 obtain ⟨⟨n1, n2⟩, n3, n4⟩ := trig_near A (ang_trig A) R
 obtain ⟨q1, q2⟩ := SQ_of R
 rw [← q1] at n1 n2
 rw [← q2] at n3 n4
 have e0 : mkRat 1 (2^50) = 8 * uR := by decide +kernel
 rw [e0] at n1 n2 n3 n4
 obtain ⟨k, t, ⟨-, b, c⟩, e, f⟩ := SQ_says x
 have tp := Ply.top_mul b c
 have o1 := Ply.sq_le_one tp.1 tp.2 k
 have o2 := Ply.sq_le_one tp.1 tp.2 (k + 1)
 have ci := Ply.sq_circle tp.1 tp.2 k
 rw [← e] at o1 ci
 rw [← f] at o2 ci
 have z1 : 8 * uR ≤ 1 := by decide +kernel
 have z2 : (2 * (8 * uR) + (8 * uR) * (8 * uR)) + (2 * (8 * uR) + (8 * uR) * (8 * uR)) + Ply.eps ≤ 33 * uR := by decide +kernel
 have d1 := mag_of (M := 8 * uR) n1 n2
 have d2 := mag_of (M := 8 * uR) n3 n4
 obtain ⟨g1, h1⟩ := near_sq z1 d1 (mag_of (M := 1) o1.1 o1.2)
 obtain ⟨g2, h2⟩ := near_sq z1 d2 (mag_of (M := 1) o2.1 o2.2)
 refine ⟨?_, h1, h2, d1, d2⟩
 have k := mag_add (mag_add g2 g1) (mag_of (a := CQ x * CQ x + SQ x * SQ x - 1) (M := Ply.eps) (by grind) (by grind))
 have e1 : Q (tC x) * Q (tC x) - CQ x * CQ x + (Q (tS x) * Q (tS x) - SQ x * SQ x) + (CQ x * CQ x + SQ x * SQ x - 1) = Q (tC x) * Q (tC x) + Q (tS x) * Q (tS x) - 1 := by grind
 rw [e1] at k
 exact Rat.le_trans k z2
def rooW (e : Nat) : Nat := rX (lX oneW (mX e e))
structure Roo (e : Nat) : Prop where
 m : Ieee.double.mul e e = some (mX e e)
 s : Ieee.double.sub oneW (mX e e) = some (lX oneW (mX e e))
 r : Ieee.double.sqrt (lX oneW (mX e e)) = some (rooW e)
 wd : Wd (rooW e) 700 1075
 nn : 0 ≤ Q (rooW e)
 le : Q (rooW e) ≤ 2
 sq : mag (Q (rooW e) * Q (rooW e) - (1 - Q e * Q e)) ≤ 6 * uR
theorem roo_low {u E p w : Rat} (u0 : 0 ≤ u) (u1 : 1000000 * u ≤ 1) (e0 : 0 ≤ E) (e1 : E ≤ 49 / 64) (hp : mag (p - E) ≤ u * E) (hw : mag (w - (1 - p)) ≤ u * mag (1 - p)) : 1 / 8 ≤ w ∧ w ≤ 1 + 2 * u ∧ mag (w - (1 - E)) ≤ 3 * u := by
 have a := mag_le (p - E)
 have uE := Rat.mul_le_mul_of_nonneg_left e1 u0
 have m1 : mag (1 - p) ≤ 101 / 100 := mag_of (by grind) (by grind)
 have um := Rat.mul_le_mul_of_nonneg_left m1 u0
 have c := mag_le (w - (1 - p))
 generalize u * E = Y at *
 generalize u * mag (1 - p) = Z at *
 exact ⟨by grind, by grind, mag_of (by grind) (by grind)⟩
theorem roo_poly {u E w b : Rat} (u0 : 0 ≤ u) (u1 : 1000000 * u ≤ 1) (h0 : 1 / 8 ≤ w) (h1 : w ≤ 1 + 2 * u) (hw : mag (w - (1 - E)) ≤ 3 * u) (hb : mag (b * b - w) ≤ 2 * u * (b * b)) : mag (b * b - (1 - E)) ≤ 6 * u ∧ b * b ≤ 2 ∧ 1 / 16 ≤ b * b := by
 have c := mag_le (w - (1 - E))
 have d := mag_le (b * b - w)
 have bb := Pol.sq_nn b
 have ub := Rat.mul_nonneg (show 0 ≤ 1 / 1000000 - u by grind) bb
 have k : (1 / 1000000 - u) * (b * b) = b * b / 1000000 - u * (b * b) := by grind
 rw [k] at ub
 have k2 : 2 * u * (b * b) = 2 * (u * (b * b)) := by grind
 rw [k2] at hb
 have ub0 := Rat.mul_nonneg u0 bb
 have hi : b * b ≤ 11 / 10 := by
  generalize b * b = B at *
  generalize u * B = X at *
  grind
 have ub2 := Rat.mul_le_mul_of_nonneg_left hi u0
 generalize b * b = B at *
 generalize u * B = X at *
 exact ⟨mag_of (by grind) (by grind), by grind, by grind⟩
theorem roo_of {e : Nat} (he : e < 18446744073709551616) (fe : fitB e = true) (e0 : 0 ≤ Q e) (e1 : Q e ≤ 7 / 8) : Roo e := by
 have u0 := uR0
 have u1 := uR1
 have We : Wd e 822 1074 := ⟨fit_fin he fe, fit_822 he fe, by
  have v0 := Q_nn.1 e0
  have c1 : V oneW = 2 ^ 1074 := by decide +kernel
  have q1 : Q oneW = 1 := by decide +kernel
  have : V e ≤ 2 ^ 1074 := by rw [← c1]; exact Q_le.1 (by rw [q1]; grind)
  have ce : ((2 ^ 1074 : Nat) : Int) = 2 ^ 1074 := Int.natCast_pow 2 1074
  omega⟩
 obtain ⟨a1, a2, a3⟩ := We.mul We (by omega) (by omega) (by omega)
 obtain ⟨b1, b2, b3, b4⟩ := sub_ok (i := 1074) (k := 1075) one_wd.fin a2.fin one_wd.abs (a2.le (q := 500) (l := 1074) (by omega) (by omega)).abs rfl (by omega)
 have q1 : Q oneW = 1 := by decide +kernel
 have E1 : Q e * Q e ≤ 49 / 64 := by
  have := sq_mono e0 e1
  grind
 have E0 := Pol.sq_nn (Q e)
 have r1 := rd_of a3 _ (mag_self (Q e))
 have r2 := rd_of (sub_rel b3) _ Rat.le_refl
 rw [Rat.add_zero] at r1 r2
 rw [q1] at r2
 have Ww : Wd (lX oneW (mX e e)) 570 1196 := ⟨b2, by
  rw [b3]
  exact RN_dvd (Int.dvd_sub (one_wd.le (q := 570) (l := 1074) (by omega) (Nat.le_refl _)).dvd (a2.le (q := 570) (l := 1074) (by omega) (by omega)).dvd), Nat.le_trans b4 (two_le (a := 1075) (b := 1196) (by omega))⟩
 obtain ⟨wlo, whi, wn⟩ := roo_low u0 u1 E0 E1 r1 r2
 have wp : 0 < V (lX oneW (mX e e)) := by
  have h0 : 0 ≤ V (lX oneW (mX e e)) := Q_nn.1 (Rat.le_trans (by decide +kernel) wlo)
  have : V (lX oneW (mX e e)) ≠ 0 := fun z => by
   have : Q (lX oneW (mX e e)) = 0 := by unfold Q; rw [z]; decide +kernel
   grind
  omega
 have N := nrm_any Ww (by omega)
 obtain ⟨n0, n1⟩ := nrm_rat N (by omega)
 obtain ⟨p1, p2, p4⟩ := roo_poly u0 u1 wlo whi wn n1
 have b0 : 0 ≤ Q (rooW e) := Rat.le_of_lt n0
 have ble : Q (rooW e) ≤ 2 := by
  have : Q (rooW e) * Q (rooW e) ≤ 2 * 2 := by
   show Q (rX _) * Q (rX _) ≤ _
   grind
  exact Fma.sq_le_of (by decide +kernel) this
 have blo : 1 / 4 ≤ Q (rooW e) := by
  have : (1 / 4 : Rat) * (1 / 4) ≤ Q (rooW e) * Q (rooW e) := by
   show _ ≤ Q (rX _) * Q (rX _)
   grind
  exact Fma.sq_le_of b0 this
 refine ⟨a1, b1, N.run, ⟨N.fin, ?_, ?_⟩, b0, ble, p1⟩
 · exact Q_dvd_big (x := 1 / 4) (.inl blo) (by decide +kernel)
 · have v0 := Q_nn.1 b0
   have c1 : V 4611686018427387904 = 2 ^ 1075 := by decide +kernel
   have q2 : Q 4611686018427387904 = 2 := by decide +kernel
   have : V (rooW e) ≤ 2 ^ 1075 := by rw [← c1]; exact Q_le.1 (by rw [q2]; exact ble)
   have ce : ((2 ^ 1075 : Nat) : Int) = 2 ^ 1075 := Int.natCast_pow 2 1075
   show (V (rooW e)).natAbs ≤ _
   omega
theorem x_poly {u A c e x1 x : Rat} (u0 : 0 ≤ u) (u1 : 1000000 * u ≤ 1) (A0 : 0 ≤ A) (hc : mag c ≤ 101 / 100) (e0 : 0 ≤ e) (e1 : e ≤ 7 / 8) (h1 : mag (x1 - (c - e)) ≤ u * mag (c - e)) (h2 : mag (x - A * x1) ≤ u * mag (A * x1)) : mag (x - A * (c - e)) ≤ 5 * (u * A) ∧ mag x ≤ 3 * A := by
 have m := mag_le c
 have m1 : mag (c - e) ≤ 2 := mag_of (by grind) (by grind)
 have um := Rat.mul_le_mul_of_nonneg_left m1 u0
 have g1 : mag (x1 - (c - e)) ≤ 2 * u := by grind
 have k1 := mag_mul (show mag A ≤ A by unfold mag; rw [if_pos A0]; exact Rat.le_refl) g1
 have x1b := mag_add g1 m1
 rw [show x1 - (c - e) + (c - e) = x1 by grind] at x1b
 have k2 := mag_mul (show mag A ≤ A by unfold mag; rw [if_pos A0]; exact Rat.le_refl) (show mag x1 ≤ 21 / 10 by grind)
 have uk := Rat.mul_le_mul_of_nonneg_left k2 u0
 have b := mag_add (Rat.le_trans h2 uk) k1
 have e2 : x - A * x1 + A * (x1 - (c - e)) = x - A * (c - e) := by grind
 rw [e2] at b
 have uA := Rat.mul_nonneg u0 A0
 have Au := Rat.mul_nonneg (show 0 ≤ 1 / 1000000 - u by grind) A0
 have k3 : (1 / 1000000 - u) * A = A / 1000000 - u * A := by grind
 rw [k3] at Au
 have d := mag_add (Rat.le_trans h2 uk) k2
 rw [show x - A * x1 + A * x1 = x by grind] at d
 have f1 : u * (A * (21 / 10)) = 21 / 10 * (u * A) := by grind
 have f2 : A * (2 * u) = 2 * (u * A) := by grind
 rw [f1] at b d
 rw [f2] at b
 generalize u * A = Z at *
 constructor <;> grind
theorem y_poly {u A b s p y : Rat} (u0 : 0 ≤ u) (u1 : 1000000 * u ≤ 1) (A0 : 0 ≤ A) (hs : mag s ≤ 101 / 100) (b0 : 0 ≤ b) (b1 : b ≤ 2) (h1 : mag (p - A * b) ≤ u * mag (A * b)) (h2 : mag (y - p * s) ≤ u * mag (p * s)) : mag (y - A * (b * s)) ≤ 5 * (u * A) ∧ mag y ≤ 3 * A := by
 have mA : mag A ≤ A := by unfold mag; rw [if_pos A0]; exact Rat.le_refl
 have k0 := mag_mul mA (show mag b ≤ 2 by unfold mag; rw [if_pos b0]; exact b1)
 have uk := Rat.mul_le_mul_of_nonneg_left k0 u0
 have g1 := Rat.le_trans h1 uk
 have k1 := mag_mul g1 hs
 have pb := mag_add g1 k0
 rw [show p - A * b + A * b = p by grind] at pb
 have k2 := mag_mul pb hs
 have uk2 := Rat.mul_le_mul_of_nonneg_left k2 u0
 have d := mag_add (Rat.le_trans h2 uk2) k1
 have e2 : y - p * s + (p - A * b) * s = y - A * (b * s) := by grind
 rw [e2] at d
 have f := mag_add (Rat.le_trans h2 uk2) k2
 rw [show y - p * s + p * s = y by grind] at f
 have uA := Rat.mul_nonneg u0 A0
 have Au := Rat.mul_nonneg (show 0 ≤ 1 / 1000000 - u by grind) A0
 have k3 : (1 / 1000000 - u) * A = A / 1000000 - u * A := by grind
 rw [k3] at Au
 have uuA := Rat.mul_nonneg (show 0 ≤ 1 / 1000000 - u by grind) uA
 have k4 : (1 / 1000000 - u) * (u * A) = u * A / 1000000 - u * (u * A) := by grind
 rw [k4] at uuA
 have f1 : u * ((u * (A * 2) + A * 2) * (101 / 100)) = 202 / 100 * (u * (u * A)) + 202 / 100 * (u * A) := by grind
 have f2 : u * (A * 2) = 2 * (u * A) := by grind
 rw [f1] at d f
 rw [f2] at d f
 generalize u * (u * A) = Z2 at *
 generalize u * A = Z at *
 constructor <;> grind
theorem six {a s z : Rat} (h : a ≤ s + 5 * z) (k : s ≤ z) : a ≤ 6 * z := by grind
def plX (A e c : Nat) : Nat := mX A (lX c e)
def plY (A e s : Nat) : Nat := mX (mX A (rooW e)) s
structure Axi (A : Nat) : Prop where
 lt : A < 18446744073709551616
 fit : fitB A = true
 lo : 1 / 1048576 ≤ Q A
 hi : Q A ≤ 1099511627776
theorem Axi.wd {A : Nat} (h : Axi A) : Wd A 822 1114 := by
 refine ⟨fit_fin h.lt h.fit, fit_822 h.lt h.fit, ?_⟩
 have v0 := Q_nn.1 (Rat.le_trans (show (0 : Rat) ≤ 1 / 1048576 by decide +kernel) h.lo)
 have c1 : V 4787326403894837248 = 2 ^ 1114 := by decide +kernel
 have q2 : Q 4787326403894837248 = 1099511627776 := by decide +kernel
 have : V A ≤ 2 ^ 1114 := by rw [← c1]; exact Q_le.1 (by rw [q2]; exact h.hi)
 have ce : ((2 ^ 1114 : Nat) : Int) = 2 ^ 1114 := Int.natCast_pow 2 1114
 omega
structure Pla (A e s c : Nat) : Prop where
 x1 : Ieee.double.sub c e = some (lX c e)
 x2 : Ieee.double.mul A (lX c e) = some (plX A e c)
 y1 : Ieee.double.mul A (rooW e) = some (mX A (rooW e))
 y2 : Ieee.double.mul (mX A (rooW e)) s = some (plY A e s)
 fx : FinW (plX A e c)
 fy : FinW (plY A e s)
 dx : mag (Q (bW (plX A e c)) - Q A * (Q c - Q e)) ≤ 6 * (uR * Q A)
 dy : mag (Q (bW (plY A e s)) - Q A * (Q (rooW e) * Q s)) ≤ 6 * (uR * Q A)
 bx : mag (Q (plX A e c)) ≤ 3 * Q A
 by_ : mag (Q (plY A e s)) ≤ 3 * Q A
theorem pla_of {A e x : Nat} (hA : Axi A) (he : e < 18446744073709551616) (fe : fitB e = true) (e0 : 0 ≤ Q e) (e1 : Q e ≤ 7 / 8) (X : Ang x) : Pla A e (tS x) (tC x) := by
 have u0 := uR0
 have u1 := uR1
 have A0 := Rat.le_trans (show (0 : Rat) ≤ 1 / 1048576 by decide +kernel) hA.lo
 have R := roo_of he fe e0 e1
 have C := cir_of X
 obtain ⟨Ws, Wc⟩ := trig_wd X
 have WA := hA.wd
 have ct := c_top_ u0 C.on
 have st := c_top_ (c := Q (tS x)) (s := Q (tC x)) u0 (by rw [show Q (tS x) * Q (tS x) + Q (tC x) * Q (tC x) - 1 = Q (tC x) * Q (tC x) + Q (tS x) * Q (tS x) - 1 by grind]; exact C.on)
 have mc : mag (Q (tC x)) ≤ 101 / 100 := mag_of (by grind) (by grind)
 have ms : mag (Q (tS x)) ≤ 101 / 100 := mag_of (by grind) (by grind)
 have We : Wd e 768 1075 := ⟨fit_fin he fe, Int.dvd_trans ⟨2 ^ 54, by rw [← Int.pow_add]⟩ (fit_822 he fe), by
  have v0 := Q_nn.1 e0
  have c1 : V oneW = 2 ^ 1074 := by decide +kernel
  have q1 : Q oneW = 1 := by decide +kernel
  have : V e ≤ 2 ^ 1074 := by rw [← c1]; exact Q_le.1 (by rw [q1]; grind)
  have ce : ((2 ^ 1074 : Nat) : Int) = 2 ^ 1074 := Int.natCast_pow 2 1074
  have := two_le (a := 1074) (b := 1075) (by omega)
  omega⟩
 obtain ⟨a1, a2, a3, a4⟩ := sub_ok (i := 1075) (k := 1076) Wc.fin We.fin Wc.abs We.abs rfl (by omega)
 have W1 : Wd (lX (tC x) e) 768 1076 := ⟨a2, by rw [a3]; exact RN_dvd (Int.dvd_sub Wc.dvd We.dvd), a4⟩
 obtain ⟨b1, b2, b3⟩ := WA.mul W1 (by omega) (by omega) (by omega)
 obtain ⟨c1, c2, c3⟩ := WA.mul R.wd (by omega) (by omega) (by omega)
 obtain ⟨d1, d2, d3⟩ := c2.mul Ws (by omega) (by omega) (by omega)
 have ra := rd_of (sub_rel a3) _ Rat.le_refl
 have rb := rd_of b3 _ Rat.le_refl
 have rc := rd_of c3 _ Rat.le_refl
 have rd := rd_of d3 _ Rat.le_refl
 rw [Rat.add_zero] at ra rb rc rd
 have px := x_poly u0 u1 A0 mc e0 e1 ra rb
 have py := y_poly u0 u1 A0 ms R.nn R.le rc rd
 have sA : sm ≤ uR * Q A := by
  have := Rat.mul_le_mul_of_nonneg_left hA.lo u0
  have k : sm ≤ uR * (1 / 1048576) := by decide +kernel
  grind
 refine ⟨a1, b1, c1, d1, b2.fin, d2.fin, ?_, ?_, px.2, py.2⟩
 · have n := mag_add (bW_near b2.fin) px.1
   have k : Q (bW (mX A (lX (tC x) e))) - Q (mX A (lX (tC x) e)) + (Q (mX A (lX (tC x) e)) - Q A * (Q (tC x) - Q e)) = Q (bW (plX A e (tC x))) - Q A * (Q (tC x) - Q e) := by show _ = Q (bW (mX A (lX (tC x) e))) - _; grind
   rw [k] at n
   exact six n sA
 · have n := mag_add (bW_near d2.fin) py.1
   have k : Q (bW (mX (mX A (rooW e)) (tS x))) - Q (mX (mX A (rooW e)) (tS x)) + (Q (mX (mX A (rooW e)) (tS x)) - Q A * (Q (rooW e) * Q (tS x))) = Q (bW (plY A e (tS x))) - Q A * (Q (rooW e) * Q (tS x)) := by show _ = Q (bW (mX (mX A (rooW e)) (tS x))) - _; grind
   rw [k] at n
   exact six n sA
theorem pla_ring {A e x : Nat} (hA : Axi A) (he : e < 18446744073709551616) (fe : fitB e = true) (e0 : 0 ≤ Q e) (e1 : Q e ≤ 7 / 8) (X : Ang x) :
 Ring (Q (bW (plX A e (tC x))), Q (bW (plY A e (tS x))), 0) (Q A * (1 - Q e - 2000 * uR)) (Q A * (1 + Q e + 2000 * uR)) := by
 have P := pla_of hA he fe e0 e1 X
 exact plane_ring uR0 uR1 (Rat.le_trans (show (0 : Rat) ≤ 1 / 1048576 by decide +kernel) hA.lo) e0 e1 (cir_of X).on (roo_of he fe e0 e1).sq P.dx P.dy
end Go.Proofs.YtdfcchocabapkaaGreat

namespace Go.Proofs.YtdfcchocabapkaaGreat
open Go.ChangeShapes Go.WideShapes Go.ChangeAt Go.RowKit Ieee.Own Pol

structure Frc (x r : Nat) : Prop where
 nz : Nz r
 v : V r = rq hlf (V x)
theorem Frc.uniq {x r s : Nat} (h : Frc x r) (g : Frc x s) : r = s := h.nz.uniq g.nz (by rw [h.v, g.v])
structure Lft (x : Nat) : Prop where
 fin : FinW x
 dvd : (4 : Int) ∣ V x
 abs : (V x).natAbs ≤ 2 ^ 1124
theorem fdiv_le {v : Int} {k M : Nat} (hM : M = k + 1074) (h : v.natAbs ≤ 2 ^ M) : (v / 2 ^ 1074).natAbs ≤ 2 ^ k + 1 := by
 rw [hM] at h
 have hp : (0 : Int) < 2 ^ 1074 := Int.pow_pos (by omega)
 have a := Int.mul_ediv_add_emod v (2 ^ 1074)
 have b := Int.emod_nonneg v (show (2 : Int) ^ 1074 ≠ 0 by omega)
 have c := Int.emod_lt_of_pos v hp
 have e : ((2 ^ (k + 1074) : Nat) : Int) = 2 ^ k * 2 ^ 1074 := by rw [Int.natCast_pow, ← Int.pow_add]; rfl
 have ek : ((2 ^ k : Nat) : Int) = 2 ^ k := Int.natCast_pow 2 k
 have h1 : v ≤ 2 ^ k * 2 ^ 1074 := by omega
 have h2 : -(2 ^ k * 2 ^ 1074) ≤ v := by omega
 generalize (2 : Int) ^ 1074 = T at *
 generalize (2 : Int) ^ k = K at *
 generalize v / T = q at *
 generalize v % T = m at *
 have q1 : q ≤ K := by
  refine Int.not_lt.1 fun c' => ?_
  have := Int.mul_le_mul_of_nonneg_right (show K + 1 ≤ q by omega) (show 0 ≤ T by omega)
  rw [Int.add_mul, Int.one_mul] at this
  rw [Int.mul_comm q T] at this
  omega
 have q2 : -(K + 1) ≤ q := by
  refine Int.not_lt.1 fun c' => ?_
  have := Int.mul_le_mul_of_nonneg_right (show q ≤ -(K + 2) by omega) (show 0 ≤ T by omega)
  rw [Int.neg_mul, Int.add_mul] at this
  rw [Int.mul_comm q T] at this
  omega
 omega
theorem pow_as {n a b : Nat} (h : n ≤ 2 ^ a) (e : a = b) : n ≤ 2 ^ b := e ▸ h
theorem Frc.more {x y r : Nat} {N : Int} (h : Frc x r) (hn : V r ≠ hlf ∧ V r ≠ -hlf) (e : V y = V x + N * 2 ^ 1074) : Frc y r := by
 refine ⟨h.nz, ?_⟩
 rw [h.v] at hn
 rw [e, (left_more hn).1, h.v]
end Go.Proofs.YtdfcchocabapkaaGreat

namespace Fma
open Go.Proofs.YtdfcchocabapkaaGreat Pol

theorem rot_diff (a : Int) {s c S C e B : Rat} {v : R3} (hs : mag (s - S) ≤ e) (hc : mag (c - C) ≤ e) (hv : Len v B) : Len (subQ (rotQ a s c v) (rotQ a S C v)) (4 * (e * B)) := by
 obtain ⟨m1, m2, m3⟩ := hv.mags
 have e0 : 0 ≤ e := Rat.le_trans (mag_le _).2.2 hs
 have pm : ∀ {x y : Rat}, mag x ≤ B → mag y ≤ B → mag (c * x - s * y - (C * x - S * y)) ≤ 2 * (e * B) ∧ mag (s * x + c * y - (S * x + C * y)) ≤ 2 * (e * B) := fun {x y} hx hy => by
  have k1 := mag_sub (mag_mul hc hx) (mag_mul hs hy)
  have k2 := mag_add (mag_mul hs hx) (mag_mul hc hy)
  have e1 : (c - C) * x - (s - S) * y = c * x - s * y - (C * x - S * y) := by grind
  have e2 : (s - S) * x + (c - C) * y = s * x + c * y - (S * x + C * y) := by grind
  rw [e1] at k1
  rw [e2] at k2
  constructor <;> grind
 have z : mag (0 : Rat) ≤ 0 := by decide +kernel
 unfold rotQ
 split
 · have k := pm m2 m3
   have l := len_of (p := subQ (v.1, c * v.2.1 - s * v.2.2, s * v.2.1 + c * v.2.2) (v.1, C * v.2.1 - S * v.2.2, S * v.2.1 + C * v.2.2)) (a := 0) (b := 2 * (e * B)) (c := 2 * (e * B)) (by show mag (v.1 - v.1) ≤ 0; rw [show v.1 - v.1 = 0 by grind]; exact z) k.1 k.2
   exact l.le (by grind)
 · split
   · have k := pm m3 m1
     have l := len_of (p := subQ (s * v.2.2 + c * v.1, v.2.1, c * v.2.2 - s * v.1) (S * v.2.2 + C * v.1, v.2.1, C * v.2.2 - S * v.1)) (a := 2 * (e * B)) (b := 0) (c := 2 * (e * B)) k.2 (by show mag (v.2.1 - v.2.1) ≤ 0; rw [show v.2.1 - v.2.1 = 0 by grind]; exact z) k.1
     exact l.le (by grind)
   · have k := pm m1 m2
     have l := len_of (p := subQ (c * v.1 - s * v.2.1, s * v.1 + c * v.2.1, v.2.2) (C * v.1 - S * v.2.1, S * v.1 + C * v.2.1, v.2.2)) (a := 2 * (e * B)) (b := 2 * (e * B)) (c := 0) k.1 k.2 (by show mag (v.2.2 - v.2.2) ≤ 0; rw [show v.2.2 - v.2.2 = 0 by grind]; exact z)
     exact l.le (by grind)
theorem sub_add (p q r : R3) : addQ (subQ p q) (subQ q r) = subQ p r := by
 unfold addQ subQ
 refine Prod.ext ?_ (Prod.ext ?_ ?_)
 all_goals dsimp only; grind
theorem near_turn (a : Int) {s c S C e B D d E : Rat} {v p w : R3} (hs : mag (s - S) ≤ e) (hc : mag (c - C) ≤ e) (hv : Len v B) (hd : mag (C * C + S * S - 1) ≤ d) (hp : Len (subQ v p) D) (hw : Len (subQ w (rotQ a s c v)) E) :
 Len (subQ w (rotQ a S C p)) (E + 4 * (e * B) + D * (1 + d)) := by
 have l1 := rot_diff a hs hc hv
 have l2 := hp.rot a (s := S) (c := C) hd
 rw [← rot_sub] at l2
 have k := (hw.add l1).add l2
 rw [sub_add, sub_add] at k
 exact k
theorem plane_near {u A e s c b S C b' X Y g : Rat} (u0 : 0 ≤ u) (A0 : 0 ≤ A) (g0 : 0 ≤ g) (hs : mag (s - S) ≤ g) (hc : mag (c - C) ≤ g) (hS : mag S ≤ 1) (b0 : mag b ≤ 101 / 100) (hb : mag (b - b') ≤ 30 * u)
 (hX : mag (X - A * (c - e)) ≤ 6 * (u * A)) (hY : mag (Y - A * (b * s)) ≤ 6 * (u * A)) : Len (subQ (X, Y, 0) (A * (C - e), A * (b' * S), 0)) (A * (3 / 2 * g) + 42 * (u * A)) := by
 have mA : mag A ≤ A := by unfold mag; rw [if_pos A0]; exact Rat.le_refl
 have uA := Rat.mul_nonneg u0 A0
 have d1 := mag_mul mA hc
 have d2 := mag_mul mA (mag_mul b0 hs)
 have x1 : Len (A * (c - C), A * (b * (s - S)), 0) (A * (3 / 2 * g)) := by
  refine ⟨Rat.mul_nonneg A0 (by grind), ?_⟩
  have q1 := mag_mul d1 d1
  have q2 := mag_mul d2 d2
  have r1 := (mag_le (A * (c - C) * (A * (c - C)))).2.1
  have r2 := (mag_le (A * (b * (s - S)) * (A * (b * (s - S))))).2.1
  have k : A * (3 / 2 * g) * (A * (3 / 2 * g)) = 9 / 4 * (A * g * (A * g)) := by grind
  have k2 : A * (101 / 100 * g) * (A * (101 / 100 * g)) = 10201 / 10000 * (A * g * (A * g)) := by grind
  have p := sq_nn (A * g)
  rw [k2] at q2
  unfold nsq
  dsimp only
  rw [k]
  generalize A * g * (A * g) = G at *
  generalize A * (c - C) * (A * (c - C)) = G1 at *
  generalize A * (b * (s - S)) * (A * (b * (s - S))) = G2 at *
  grind
 have d3 := mag_mul mA (mag_mul hb hS)
 have y1 := mag_add hY d3
 have f : A * (30 * u * 1) = 30 * (u * A) := by grind
 rw [f] at y1
 have r := len_of (p := (X - A * (c - e), Y - A * (b * s) + A * ((b - b') * S), 0)) hX y1 (show mag (0 : Rat) ≤ 0 by decide +kernel)
 have k := r.add x1
 have e1 : addQ (X - A * (c - e), Y - A * (b * s) + A * ((b - b') * S), 0) (A * (c - C), A * (b * (s - S)), 0) = subQ (X, Y, 0) (A * (C - e), A * (b' * S), 0) := by
  unfold addQ subQ
  refine Prod.ext ?_ (Prod.ext ?_ ?_)
  all_goals dsimp only; grind
 rw [e1] at k
 refine k.le ?_
 generalize A * (3 / 2 * g) = G at *
 generalize u * A = Z at *
 grind
theorem root_near {b b' w p q : Rat} (b0 : 1 / 4 ≤ b) (c0 : 1 / 4 ≤ b') (p0 : mag (b * b - w) ≤ p) (q0 : mag (b' * b' - w) ≤ q) : mag (b - b') ≤ 2 * (p + q) := by
 have k := mag_sub p0 q0
 have e : b * b - w - (b' * b' - w) = (b - b') * (b + b') := by grind
 rw [e] at k
 have m := mag_le ((b - b') * (b + b'))
 rcases Rat.le_total (a := b) (b := b') with c | c
 · have h := Rat.mul_nonneg (show 0 ≤ b' - b by grind) (show 0 ≤ b + b' - 1 / 2 by grind)
   have e2 : (b' - b) * (b + b' - 1 / 2) = -((b - b') * (b + b')) - (b' - b) / 2 := by grind
   rw [e2] at h
   generalize (b - b') * (b + b') = X at *
   exact mag_of (by grind) (by grind)
 · have h := Rat.mul_nonneg (show 0 ≤ b - b' by grind) (show 0 ≤ b + b' - 1 / 2 by grind)
   have e2 : (b - b') * (b + b' - 1 / 2) = (b - b') * (b + b') - (b - b') / 2 := by grind
   rw [e2] at h
   generalize (b - b') * (b + b') = X at *
   exact mag_of (by grind) (by grind)
end Fma
