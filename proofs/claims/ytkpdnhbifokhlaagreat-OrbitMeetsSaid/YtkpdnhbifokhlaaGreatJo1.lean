/- Proved here: what the texts Oma, Omc, Omd prove, one behind the other. -/
import Derived.Test.YtkpdnhbifokhlaaGreatJm
import Derived.Test.YtkpdnhbifokhlaaGreatJb6

namespace Ply

def Lip (f : Rat → Rat) (a b L : Rat) : Prop := ∀ x y, a ≤ x → x ≤ y → y ≤ b → -(L * (y - x)) ≤ f y - f x ∧ f y - f x ≤ L * (y - x)

theorem Lip.join {f : Rat → Rat} {a b d L : Rat} (h : Lip f a b L) (g : Lip f b d L) : Lip f a d L := by
 intro x y h1 h2 h3
 rcases Rat.le_total (a := y) (b := b) with c | c
 · exact h x y h1 h2 c
 rcases Rat.le_total (a := b) (b := x) with c' | c'
 · exact g x y c' h2 h3
 · have u := h x b h1 c' Rat.le_refl
   have v := g b y Rat.le_refl c h3
   constructor <;> grind
theorem lip_poly {p : P} {c B L : Rat} (hL : slope B (shift c 1 p) ≤ L) : Lip (ev p) (c - B) (c + B) L := by
 intro x y h1 h2 h3
 obtain ⟨d, hd, l, u⟩ := rise (B := B) (x := x - c) (y := y - c) (by grind) (by grind) (by grind) (by grind) (shift c 1 p)
 rw [ev_shift, ev_shift, show c + 1 * (y - c) = y by grind, show c + 1 * (x - c) = x by grind] at hd
 have a : 0 ≤ (y - x) * (L - d) := Rat.mul_nonneg (by grind) (by grind)
 have b : 0 ≤ (y - x) * (L + d) := Rat.mul_nonneg (by grind) (by grind)
 constructor <;> grind
theorem Lip.le {f : Rat → Rat} {a b L M : Rat} (h : Lip f a b L) (k : L ≤ M) : Lip f a b M := by
 intro x y h1 h2 h3
 have u := h x y h1 h2 h3
 have a : 0 ≤ (M - L) * (y - x) := Rat.mul_nonneg (by grind) (by grind)
 constructor <;> grind
theorem Lip.neg {f : Rat → Rat} {a b L : Rat} (h : Lip f a b L) : Lip (fun x => -f x) a b L := by
 intro x y h1 h2 h3
 have u := h x y h1 h2 h3
 constructor <;> grind
theorem Lip.cong {f : Rat → Rat} {a b L a' b' : Rat} (h : Lip f a b L) (ha : a = a') (hb : b = b') : Lip f a' b' L := by subst ha; subst hb; exact h

def fast : Rat := 27 / 25

theorem s_lip : Lip s (-top) top fast := by
 have h1 : Lip s (-top) (-(top / 2)) fast := (lip_poly (p := sinP 18) (c := -(3 * top / 4)) (B := top / 4) (by decide +kernel)).cong (by grind) (by grind)
 have h2 : Lip s (-(top / 2)) (top / 2) fast := (lip_poly (p := sinP 18) (c := 0) (B := top / 2) (by decide +kernel)).cong (by grind) (by grind)
 have h3 : Lip s (top / 2) top fast := (lip_poly (p := sinP 18) (c := 3 * top / 4) (B := top / 4) (by decide +kernel)).cong (by grind) (by grind)
 exact (h1.join h2).join h3
theorem c_lip : Lip c (-top) top fast :=
 ((lip_poly (p := cosP 18) (c := 0) (B := top) (by decide +kernel)).cong (by grind) (by grind) : Lip c (-top) top fast)
theorem sq_lip (k : Int) : Lip (sq k) (-top) top fast := by
 rcases (by omega : k % 4 = 0 ∨ k % 4 = 1 ∨ k % 4 = 2 ∨ k % 4 = 3) with h | h | h | h
 · rw [show sq k = s by funext y; simp [sq, h]]; exact s_lip
 · rw [show sq k = c by funext y; simp [sq, h]]; exact c_lip
 · rw [show sq k = fun y => -s y by funext y; simp [sq, h]]; exact s_lip.neg
 · rw [show sq k = fun y => -c y by funext y; simp [sq, h]]; exact c_lip.neg
theorem edge (j : Int) : sq (j + 1) (-top) - eps ≤ sq j top ∧ sq j top ≤ sq (j + 1) (-top) + eps := by
 have e := eighth
 rcases (by omega : j % 4 = 0 ∨ j % 4 = 1 ∨ j % 4 = 2 ∨ j % 4 = 3) with h | h | h | h
 · have h2 : (j + 1) % 4 = 1 := by omega
   simp only [sq, h, h2, c_neg, s_neg]; constructor <;> grind
 · have h2 : (j + 1) % 4 = 2 := by omega
   simp only [sq, h, h2, c_neg, s_neg]; constructor <;> grind
 · have h2 : (j + 1) % 4 = 3 := by omega
   simp only [sq, h, h2, c_neg, s_neg]; constructor <;> grind
 · have h2 : (j + 1) % 4 = 0 := by omega
   simp only [sq, h, h2, c_neg, s_neg]; constructor <;> grind
def quick : Rat := tau * fast
theorem eps_nn : 0 ≤ eps := by decide +kernel
theorem tau_nn : 0 ≤ tau := by decide +kernel
theorem quick_nn : 0 ≤ quick := by decide +kernel
theorem quick_lo : 6 ≤ quick := by decide +kernel
theorem sq_lip_in (k : Int) {r t : Rat} (r1 : -(1/8) ≤ r) (h : r ≤ t) (t2 : t ≤ 1/8) : -(quick * (t - r)) ≤ sq k (tau * t) - sq k (tau * r) ∧ sq k (tau * t) - sq k (tau * r) ≤ quick * (t - r) := by
 have b := top_mul r1 (by grind)
 have b' := top_mul (r := t) (by grind) t2
 have m : 0 ≤ tau * (t - r) := Rat.mul_nonneg tau_nn (by grind)
 have u := sq_lip k (tau * r) (tau * t) b.1 (by grind) b'.2
 have e : quick * (t - r) = fast * (tau * t - tau * r) := by unfold quick; grind
 rw [e]; exact u
theorem tau_top : tau * (1/8) = top := by rw [top_eq]; grind
theorem tau_top' : tau * (-(1/8)) = -top := by rw [top_eq]; grind
theorem sq_lip_one {j : Int} {r t : Rat} (r1 : -(1/8) ≤ r) (r2 : r ≤ 1/8) (t1 : -(1/8) ≤ t) (t2 : t ≤ 1/8) :
   -(quick * (1/4 + t - r) + eps) ≤ sq (j + 1) (tau * t) - sq j (tau * r) ∧ sq (j + 1) (tau * t) - sq j (tau * r) ≤ quick * (1/4 + t - r) + eps := by
 have a := sq_lip_in j r1 r2 Rat.le_refl
 have b := sq_lip_in (j + 1) Rat.le_refl t1 t2
 have e := edge j
 rw [tau_top] at a
 rw [tau_top'] at b
 constructor <;> grind
theorem sq_lip_two {j : Int} {r t : Rat} (r1 : -(1/8) ≤ r) (r2 : r ≤ 1/8) (t1 : -(1/8) ≤ t) (t2 : t ≤ 1/8) :
   -(quick * (1/2 + t - r) + 2 * eps) ≤ sq (j + 2) (tau * t) - sq j (tau * r) ∧ sq (j + 2) (tau * t) - sq j (tau * r) ≤ quick * (1/2 + t - r) + 2 * eps := by
 have a := sq_lip_one (j := j) (t := 1/8) r1 r2 (by grind) (by grind)
 have b := sq_lip_one (j := j + 1) (r := 1/8) (by grind) (by grind) t1 t2
 rw [show j + 1 + 1 = j + 2 by omega] at b
 constructor <;> grind
theorem sine_lip {x y r t : Rat} {j k : Int} (hx : Says x j r) (hy : Says y k t) (h : x ≤ y) :
   -(quick * (y - x) + 2 * eps) ≤ sq k (tau * t) - sq j (tau * r) ∧ sq k (tau * t) - sq j (tau * r) ≤ quick * (y - x) + 2 * eps := by
 have e0 := eps_nn
 obtain ⟨ex, r1, r2⟩ := hx
 obtain ⟨ey, t1, t2⟩ := hy
 have a1 := sq_le_one (top_mul r1 r2).1 (top_mul r1 r2).2 j
 have b1 := sq_le_one (top_mul t1 t2).1 (top_mul t1 t2).2 k
 by_cases far : 1/3 ≤ y - x
 · have q := quick_lo
   have m : 0 ≤ (quick - 6) * (y - x - 1/3) := Rat.mul_nonneg (by grind) (by grind)
   constructor <;> grind
 · obtain ⟨n, hn⟩ : ∃ n : Int, n = k - j := ⟨_, rfl⟩
   have en : (n : Rat) = (k : Rat) - (j : Rat) := by rw [hn, Rat.intCast_sub]
   have el : -2 < n := by
     have e : ((-2 : Int) : Rat) = -2 := by decide +kernel
     exact int_lt (by grind)
   have eu : n < 3 := by
     have e : ((3 : Int) : Rat) = 3 := by decide +kernel
     exact int_lt (by grind)
   rcases (by omega : n = -1 ∨ n = 0 ∨ n = 1 ∨ n = 2) with q | q | q | q
   · have e : ((-1 : Int) : Rat) = -1 := by decide +kernel
     rw [q, e] at en
     obtain rfl : t = 1/8 := by grind
     obtain rfl : r = -(1/8) := by grind
     obtain rfl : j = k + 1 := by omega
     have u := edge k
     have z : quick * (y - x) = 0 := by rw [show y - x = 0 by grind]; grind
     rw [tau_top, tau_top', z]
     constructor <;> grind
   · have e : ((0 : Int) : Rat) = 0 := by decide +kernel
     rw [q, e] at en
     obtain rfl : k = j := by omega
     have u := sq_lip_in k r1 (by grind) t2
     have z : y - x = t - r := by grind
     rw [z]
     constructor <;> grind
   · have e : ((1 : Int) : Rat) = 1 := by decide +kernel
     rw [q, e] at en
     obtain rfl : k = j + 1 := by omega
     have u := sq_lip_one (j := j) r1 r2 t1 t2
     have z : y - x = 1/4 + t - r := by grind
     rw [z]
     constructor <;> grind
   · have e : ((2 : Int) : Rat) = 2 := by decide +kernel
     rw [q, e] at en
     obtain rfl : k = j + 2 := by omega
     have u := sq_lip_two (j := j) r1 r2 t1 t2
     have z : y - x = 1/2 + t - r := by grind
     rw [z]
     exact u
theorem kep_rise {x y r t κ : Rat} {j k : Int} (hx : Says x j r) (hy : Says y k t) (h : x ≤ y) (k0 : 0 ≤ κ) (k1 : κ * quick ≤ 19/20) :
   (y - x) / 20 ≤ (y - κ * sq k (tau * t)) - (x - κ * sq j (tau * r)) + κ * (2 * eps) := by
 have u := (sine_lip hx hy h).2
 have a : 0 ≤ κ * (quick * (y - x) + 2 * eps - (sq k (tau * t) - sq j (tau * r))) := Rat.mul_nonneg k0 (by grind)
 have b : 0 ≤ (19/20 - κ * quick) * (y - x) := Rat.mul_nonneg (by grind) (by grind)
 clear u hx hy k1
 generalize sq k (tau * t) = Y at *
 generalize sq j (tau * r) = X at *
 generalize quick = q at *
 generalize eps = u at *
 have e1 : (19/20 - κ * q) * (y - x) = 19/20 * (y - x) - κ * q * (y - x) := by grind
 rw [e1] at b
 have e2 : κ * (q * (y - x) + 2 * u - (Y - X)) = κ * q * (y - x) + κ * (2 * u) - (κ * Y - κ * X) := by grind
 rw [e2] at a
 grind
theorem kep_lip {x y r t κ : Rat} {j k : Int} (hx : Says x j r) (hy : Says y k t) (h : x ≤ y) (k0 : 0 ≤ κ) (k1 : κ * quick ≤ 19/20) :
   (y - κ * sq k (tau * t)) - (x - κ * sq j (tau * r)) ≤ 2 * (y - x) + κ * (2 * eps) := by
 have u := (sine_lip hx hy h).1
 have a : 0 ≤ κ * (sq k (tau * t) - sq j (tau * r) + (quick * (y - x) + 2 * eps)) := Rat.mul_nonneg k0 (by grind)
 have b : 0 ≤ (19/20 - κ * quick) * (y - x) := Rat.mul_nonneg (by grind) (by grind)
 clear u hx hy k1
 generalize sq k (tau * t) = Y at *
 generalize sq j (tau * r) = X at *
 generalize quick = q at *
 generalize eps = u at *
 have e1 : (19/20 - κ * q) * (y - x) = 19/20 * (y - x) - κ * q * (y - x) := by grind
 rw [e1] at b
 have e2 : κ * (Y - X + (q * (y - x) + 2 * u)) = κ * q * (y - x) + κ * (2 * u) + (κ * Y - κ * X) := by grind
 rw [e2] at a
 grind
end Ply

namespace Go.Proofs.YtkpdnhbifokhlaaGreat
open Ieee Ieee.Own

def hlf : Int := 4 * eig
theorem hlf_pos : 0 < hlf := by have := eig_pos; unfold hlf; omega
theorem hlf_two : 2 * hlf = 2 ^ 1074 := by decide +kernel
theorem hlf_is : hlf = 2 ^ 1073 := by decide +kernel
theorem kq_hlf (w : Int) : kq hlf (4 * w) = kq eig w := kq_scale eig_pos
theorem rq_hlf (w : Int) : rq hlf (4 * w) = 4 * rq eig w := by unfold rq; rw [kq_hlf]; unfold hlf; grind
theorem rep_four {w : Int} (h : Rep (4 * w)) : Rep w := by
 obtain ⟨k, e, h1, h2⟩ := h
 rw [Int.natAbs_mul] at h2
 rcases e with _ | _ | e
 · refine ⟨w.natAbs, 0, ?_, by simp⟩
   rw [Nat.pow_zero, Nat.mul_one, show (4 : Int).natAbs = 4 from rfl] at h2
   omega
 · refine ⟨w.natAbs, 0, ?_, by simp⟩
   have : (4 : Int).natAbs = 4 := rfl
   rw [this] at h2
   omega
 · refine ⟨k, e, h1, ?_⟩
   have : (4 : Int).natAbs = 4 := rfl
   rw [this, Nat.pow_succ, Nat.pow_succ] at h2
   generalize hp : k * 2 ^ e = p
   have : k * (2 ^ e * 2 * 2) = 4 * p := by rw [← hp]; grind
   omega
theorem left_rep {v : Int} (h : Rep v) (d : (4 : Int) ∣ v) : Rep (rq hlf v) := by
 obtain ⟨w, rfl⟩ := d
 rw [rq_hlf]
 have := Rep_mul _ 2 (rq_rep (rep_four h))
 rwa [show rq eig w * 2 ^ 2 = 4 * rq eig w by omega] at this
theorem left_more {v N : Int} (h : rq hlf v ≠ hlf ∧ rq hlf v ≠ -hlf) : rq hlf (v + N * 2 ^ 1074) = rq hlf v ∧ kq hlf (v + N * 2 ^ 1074) = kq hlf v + N := by
 have b := rq_bd hlf_pos v
 have e : v = 2 * hlf * kq hlf v + rq hlf v := by unfold rq; omega
 have u := kq_uniq (H := hlf) (v := v + N * 2 ^ 1074) (k := kq hlf v + N) (r := rq hlf v) hlf_pos (by
   rw [← hlf_two]
   generalize kq hlf v = k at *
   generalize rq hlf v = r at *
   rw [e]; grind) b.1 b.2.1 (fun q => absurd q (by omega))
 exact ⟨u.2, u.1⟩
end Go.Proofs.YtkpdnhbifokhlaaGreat

namespace Ply

def bis (md : Nat → Nat → Nat) (T : Nat → Bool) : Nat → Nat → Nat → Nat × Nat
 | 0, a, b => (a, b)
 | n + 1, a, b => if T (md a b) then bis md T n a (md a b) else bis md T n (md a b) b
def stepB (md : Nat → Nat → Nat) (T : Nat → Bool) (p : Nat × Nat) : Nat × Nat := if T (md p.1 p.2) then (p.1, md p.1 p.2) else (md p.1 p.2, p.2)
theorem bis_step (md : Nat → Nat → Nat) (T : Nat → Bool) : ∀ (n a b : Nat), bis md T (n + 1) a b = stepB md T (bis md T n a b)
 | 0, a, b => by
   unfold bis stepB
   cases T (md a b) <;> rfl
 | n + 1, a, b => by
   rw [bis]
   cases c : T (md a b) with
   | true =>
     rw [if_pos rfl, bis_step md T n a (md a b)]
     conv => rhs; rw [bis, c, if_pos rfl]
   | false =>
     rw [if_neg (by decide), bis_step md T n (md a b) b]
     conv => rhs; rw [bis, c, if_neg (by decide)]
structure Bis (W : Nat → Prop) (q G : Nat → Rat) (u ε : Rat) (p : Rat) (r : Nat × Nat) (w : Rat) : Prop where
 w1 : W r.1
 w2 : W r.2
 le : q r.1 ≤ q r.2
 wide : (q r.2 - q r.1 - 2 * u) * p ≤ w - 2 * u
 lo : G r.1 ≤ ε
 hi : -ε ≤ G r.2
theorem bis_all {W : Nat → Nat → Prop} {q G : Nat → Rat} {md : Nat → Nat → Nat} {T : Nat → Bool} {u ε : Rat} (j : Nat) (mono : ∀ n x, W (n + 1) x → W n x)
   (hm : ∀ n a b, W (n + 1) a → W (n + 1) b → q a ≤ q b → W n (md a b) ∧ q a ≤ q (md a b) ∧ q (md a b) ≤ q b ∧ q (md a b) - q a ≤ (q b - q a) / 2 + u ∧ q b - q (md a b) ≤ (q b - q a) / 2 + u)
   (hT : ∀ n e, W (n + j) e → (T e = true → -ε ≤ G e) ∧ (T e = false → G e ≤ ε)) :
   ∀ (n a b : Nat), W (n + j) a → W (n + j) b → q a ≤ q b → G a ≤ ε → -ε ≤ G b → Bis (W j) q G u ε (2 ^ n) (bis md T n a b) (q b - q a)
 | 0, a, b, h1, h2, h3, h4, h5 => ⟨by rwa [Nat.zero_add] at h1, by rwa [Nat.zero_add] at h2, h3, by rw [Rat.pow_zero, Rat.mul_one]; exact Rat.le_refl, h4, h5⟩
 | n + 1, a, b, h1, h2, h3, h4, h5 => by
   rw [show n + 1 + j = n + j + 1 by omega] at h1 h2
   obtain ⟨m1, m2, m3, m4, m5⟩ := hm _ a b h1 h2 h3
   have t := hT n _ m1
   unfold bis
   cases c : T (md a b) with
   | true =>
     rw [if_pos rfl]
     have r := bis_all j mono hm hT n a (md a b) (mono _ _ h1) m1 m2 h4 (t.1 c)
     refine ⟨r.w1, r.w2, r.le, ?_, r.lo, r.hi⟩
     have := r.wide
     rw [Rat.pow_succ]
     generalize (2 : Rat) ^ n = P at *
     generalize (q (bis md T n a (md a b)).2 - q (bis md T n a (md a b)).1 - 2 * u) = D at *
     grind
   | false =>
     rw [if_neg (by decide)]
     have r := bis_all j mono hm hT n (md a b) b m1 (mono _ _ h2) m3 (t.2 c) h5
     refine ⟨r.w1, r.w2, r.le, ?_, r.lo, r.hi⟩
     have := r.wide
     rw [Rat.pow_succ]
     generalize (2 : Rat) ^ n = P at *
     generalize (q (bis md T n (md a b) b).2 - q (bis md T n (md a b) b).1 - 2 * u) = D at *
     grind
end Ply
