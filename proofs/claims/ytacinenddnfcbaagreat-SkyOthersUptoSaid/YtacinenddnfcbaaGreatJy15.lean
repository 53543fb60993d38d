/- Proved here: what the texts Oma, Omd, Omf, Wva, Omg, Omi prove, one behind the other. -/
import Derived.Test.YtacinenddnfcbaaGreatJy1
import Derived.Test.YtacinenddnfcbaaGreatJy14

set_option maxHeartbeats 4000000
set_option maxRecDepth 100000
namespace Ply

def Lip (f : Rat → Rat) (a b L : Rat) : Prop := ∀ x y, a ≤ x → x ≤ y → y ≤ b → -(L * (y - x)) ≤ f y - f x ∧ f y - f x ≤ L * (y - x)

theorem Lip.join {f : Rat → Rat} {a b d L : Rat} (h : Lip f a b L) (g : Lip f b d L) : Lip f a d L := by
 intro x y h1 h2 h3
 rcases Rat.le_total (a := y) (b := b) with c | c
 · exact h x y h1 h2 c
 rcases Rat.le_total (a := b) (b := x) with c' | c'
 · exact g x y c' h2 h3
 · have u := h x b h1 c' Rat.le_refl
   have v := g b y Rat.le_refl c h3
   constructor <;> grind
theorem lip_poly {p : P} {c B L : Rat} (hL : slope B (shift c 1 p) ≤ L) : Lip (ev p) (c - B) (c + B) L := by
 intro x y h1 h2 h3
 obtain ⟨d, hd, l, u⟩ := rise (B := B) (x := x - c) (y := y - c) (by grind) (by grind) (by grind) (by grind) (shift c 1 p)
 rw [ev_shift, ev_shift, show c + 1 * (y - c) = y by grind, show c + 1 * (x - c) = x by grind] at hd
 have a : 0 ≤ (y - x) * (L - d) := Rat.mul_nonneg (by grind) (by grind)
 have b : 0 ≤ (y - x) * (L + d) := Rat.mul_nonneg (by grind) (by grind)
 constructor <;> grind
theorem Lip.le {f : Rat → Rat} {a b L M : Rat} (h : Lip f a b L) (k : L ≤ M) : Lip f a b M := by
 intro x y h1 h2 h3
 have u := h x y h1 h2 h3
 have a : 0 ≤ (M - L) * (y - x) := Rat.mul_nonneg (by grind) (by grind)
 constructor <;> grind
theorem Lip.neg {f : Rat → Rat} {a b L : Rat} (h : Lip f a b L) : Lip (fun x => -f x) a b L := by
 intro x y h1 h2 h3
 have u := h x y h1 h2 h3
 constructor <;> grind
theorem Lip.cong {f : Rat → Rat} {a b L a' b' : Rat} (h : Lip f a b L) (ha : a = a') (hb : b = b') : Lip f a' b' L := by subst ha; subst hb; exact h

def fast : Rat := 27 / 25

theorem s_lip : Lip s (-top) top fast := by
 have h1 : Lip s (-top) (-(top / 2)) fast := (lip_poly (p := sinP 18) (c := -(3 * top / 4)) (B := top / 4) (by decide +kernel)).cong (by grind) (by grind)
 have h2 : Lip s (-(top / 2)) (top / 2) fast := (lip_poly (p := sinP 18) (c := 0) (B := top / 2) (by decide +kernel)).cong (by grind) (by grind)
 have h3 : Lip s (top / 2) top fast := (lip_poly (p := sinP 18) (c := 3 * top / 4) (B := top / 4) (by decide +kernel)).cong (by grind) (by grind)
 exact (h1.join h2).join h3
theorem c_lip : Lip c (-top) top fast :=
 ((lip_poly (p := cosP 18) (c := 0) (B := top) (by decide +kernel)).cong (by grind) (by grind) : Lip c (-top) top fast)
theorem sq_lip (k : Int) : Lip (sq k) (-top) top fast := by
 rcases (by omega : k % 4 = 0 ∨ k % 4 = 1 ∨ k % 4 = 2 ∨ k % 4 = 3) with h | h | h | h
 · rw [show sq k = s by funext y; simp [sq, h]]; exact s_lip
 · rw [show sq k = c by funext y; simp [sq, h]]; exact c_lip
 · rw [show sq k = fun y => -s y by funext y; simp [sq, h]]; exact s_lip.neg
 · rw [show sq k = fun y => -c y by funext y; simp [sq, h]]; exact c_lip.neg
theorem edge (j : Int) : sq (j + 1) (-top) - eps ≤ sq j top ∧ sq j top ≤ sq (j + 1) (-top) + eps := by
 have e := eighth
 rcases (by omega : j % 4 = 0 ∨ j % 4 = 1 ∨ j % 4 = 2 ∨ j % 4 = 3) with h | h | h | h
 · have h2 : (j + 1) % 4 = 1 := by omega
   simp only [sq, h, h2, c_neg, s_neg]; constructor <;> grind
 · have h2 : (j + 1) % 4 = 2 := by omega
   simp only [sq, h, h2, c_neg, s_neg]; constructor <;> grind
 · have h2 : (j + 1) % 4 = 3 := by omega
   simp only [sq, h, h2, c_neg, s_neg]; constructor <;> grind
 · have h2 : (j + 1) % 4 = 0 := by omega
   simp only [sq, h, h2, c_neg, s_neg]; constructor <;> grind
def quick : Rat := tau * fast
theorem eps_nn : 0 ≤ eps := by decide +kernel
theorem tau_nn : 0 ≤ tau := by decide +kernel
theorem quick_nn : 0 ≤ quick := by decide +kernel
theorem quick_lo : 6 ≤ quick := by decide +kernel
theorem sq_lip_in (k : Int) {r t : Rat} (r1 : -(1/8) ≤ r) (h : r ≤ t) (t2 : t ≤ 1/8) : -(quick * (t - r)) ≤ sq k (tau * t) - sq k (tau * r) ∧ sq k (tau * t) - sq k (tau * r) ≤ quick * (t - r) := by
 have b := top_mul r1 (by grind)
 have b' := top_mul (r := t) (by grind) t2
 have m : 0 ≤ tau * (t - r) := Rat.mul_nonneg tau_nn (by grind)
 have u := sq_lip k (tau * r) (tau * t) b.1 (by grind) b'.2
 have e : quick * (t - r) = fast * (tau * t - tau * r) := by unfold quick; grind
 rw [e]; exact u
theorem tau_top : tau * (1/8) = top := by rw [top_eq]; grind
theorem tau_top' : tau * (-(1/8)) = -top := by rw [top_eq]; grind
theorem sq_lip_one {j : Int} {r t : Rat} (r1 : -(1/8) ≤ r) (r2 : r ≤ 1/8) (t1 : -(1/8) ≤ t) (t2 : t ≤ 1/8) :
 -(quick * (1/4 + t - r) + eps) ≤ sq (j + 1) (tau * t) - sq j (tau * r) ∧ sq (j + 1) (tau * t) - sq j (tau * r) ≤ quick * (1/4 + t - r) + eps := by
 have a := sq_lip_in j r1 r2 Rat.le_refl
 have b := sq_lip_in (j + 1) Rat.le_refl t1 t2
 have e := edge j
 rw [tau_top] at a
 rw [tau_top'] at b
 constructor <;> grind
theorem sq_lip_two {j : Int} {r t : Rat} (r1 : -(1/8) ≤ r) (r2 : r ≤ 1/8) (t1 : -(1/8) ≤ t) (t2 : t ≤ 1/8) :
 -(quick * (1/2 + t - r) + 2 * eps) ≤ sq (j + 2) (tau * t) - sq j (tau * r) ∧ sq (j + 2) (tau * t) - sq j (tau * r) ≤ quick * (1/2 + t - r) + 2 * eps := by
 have a := sq_lip_one (j := j) (t := 1/8) r1 r2 (by grind) (by grind)
 have b := sq_lip_one (j := j + 1) (r := 1/8) (by grind) (by grind) t1 t2
 rw [show j + 1 + 1 = j + 2 by omega] at b
 constructor <;> grind
theorem sine_lip {x y r t : Rat} {j k : Int} (hx : Says x j r) (hy : Says y k t) (h : x ≤ y) :
 -(quick * (y - x) + 2 * eps) ≤ sq k (tau * t) - sq j (tau * r) ∧ sq k (tau * t) - sq j (tau * r) ≤ quick * (y - x) + 2 * eps := by
 have e0 := eps_nn
 obtain ⟨ex, r1, r2⟩ := hx
 obtain ⟨ey, t1, t2⟩ := hy
 have a1 := sq_le_one (top_mul r1 r2).1 (top_mul r1 r2).2 j
 have b1 := sq_le_one (top_mul t1 t2).1 (top_mul t1 t2).2 k
 by_cases far : 1/3 ≤ y - x
 · have q := quick_lo
   have m : 0 ≤ (quick - 6) * (y - x - 1/3) := Rat.mul_nonneg (by grind) (by grind)
   constructor <;> grind
 · obtain ⟨n, hn⟩ : ∃ n : Int, n = k - j := ⟨_, rfl⟩
   have en : (n : Rat) = (k : Rat) - (j : Rat) := by rw [hn, Rat.intCast_sub]
   have el : -2 < n := by
    have e : ((-2 : Int) : Rat) = -2 := by decide +kernel
    exact int_lt (by grind)
   have eu : n < 3 := by
    have e : ((3 : Int) : Rat) = 3 := by decide +kernel
    exact int_lt (by grind)
   rcases (by omega : n = -1 ∨ n = 0 ∨ n = 1 ∨ n = 2) with q | q | q | q
   · have e : ((-1 : Int) : Rat) = -1 := by decide +kernel
     rw [q, e] at en
     obtain rfl : t = 1/8 := by grind
     obtain rfl : r = -(1/8) := by grind
     obtain rfl : j = k + 1 := by omega
     have u := edge k
     have z : quick * (y - x) = 0 := by rw [show y - x = 0 by grind]; grind
     rw [tau_top, tau_top', z]
     constructor <;> grind
   · have e : ((0 : Int) : Rat) = 0 := by decide +kernel
     rw [q, e] at en
     obtain rfl : k = j := by omega
     have u := sq_lip_in k r1 (by grind) t2
     have z : y - x = t - r := by grind
     rw [z]
     constructor <;> grind
   · have e : ((1 : Int) : Rat) = 1 := by decide +kernel
     rw [q, e] at en
     obtain rfl : k = j + 1 := by omega
     have u := sq_lip_one (j := j) r1 r2 t1 t2
     have z : y - x = 1/4 + t - r := by grind
     rw [z]
     constructor <;> grind
   · have e : ((2 : Int) : Rat) = 2 := by decide +kernel
     rw [q, e] at en
     obtain rfl : k = j + 2 := by omega
     have u := sq_lip_two (j := j) r1 r2 t1 t2
     have z : y - x = 1/2 + t - r := by grind
     rw [z]
     exact u
theorem kep_rise {x y r t κ : Rat} {j k : Int} (hx : Says x j r) (hy : Says y k t) (h : x ≤ y) (k0 : 0 ≤ κ) (k1 : κ * quick ≤ 19/20) :
 (y - x) / 20 ≤ (y - κ * sq k (tau * t)) - (x - κ * sq j (tau * r)) + κ * (2 * eps) := by
 have u := (sine_lip hx hy h).2
 have a : 0 ≤ κ * (quick * (y - x) + 2 * eps - (sq k (tau * t) - sq j (tau * r))) := Rat.mul_nonneg k0 (by grind)
 have b : 0 ≤ (19/20 - κ * quick) * (y - x) := Rat.mul_nonneg (by grind) (by grind)
 clear u hx hy k1
 generalize sq k (tau * t) = Y at *
 generalize sq j (tau * r) = X at *
 generalize quick = q at *
 generalize eps = u at *
 have e1 : (19/20 - κ * q) * (y - x) = 19/20 * (y - x) - κ * q * (y - x) := by grind
 rw [e1] at b
 have e2 : κ * (q * (y - x) + 2 * u - (Y - X)) = κ * q * (y - x) + κ * (2 * u) - (κ * Y - κ * X) := by grind
 rw [e2] at a
 grind
theorem kep_lip {x y r t κ : Rat} {j k : Int} (hx : Says x j r) (hy : Says y k t) (h : x ≤ y) (k0 : 0 ≤ κ) (k1 : κ * quick ≤ 19/20) :
 (y - κ * sq k (tau * t)) - (x - κ * sq j (tau * r)) ≤ 2 * (y - x) + κ * (2 * eps) := by
 have u := (sine_lip hx hy h).1
 have a : 0 ≤ κ * (sq k (tau * t) - sq j (tau * r) + (quick * (y - x) + 2 * eps)) := Rat.mul_nonneg k0 (by grind)
 have b : 0 ≤ (19/20 - κ * quick) * (y - x) := Rat.mul_nonneg (by grind) (by grind)
 clear u hx hy k1
 generalize sq k (tau * t) = Y at *
 generalize sq j (tau * r) = X at *
 generalize quick = q at *
 generalize eps = u at *
 have e1 : (19/20 - κ * q) * (y - x) = 19/20 * (y - x) - κ * q * (y - x) := by grind
 rw [e1] at b
 have e2 : κ * (Y - X + (q * (y - x) + 2 * u)) = κ * q * (y - x) + κ * (2 * u) + (κ * Y - κ * X) := by grind
 rw [e2] at a
 grind
end Ply

namespace Ply

def bis (md : Nat → Nat → Nat) (T : Nat → Bool) : Nat → Nat → Nat → Nat × Nat
 | 0, a, b => (a, b)
 | n + 1, a, b => if T (md a b) then bis md T n a (md a b) else bis md T n (md a b) b
def stepB (md : Nat → Nat → Nat) (T : Nat → Bool) (p : Nat × Nat) : Nat × Nat := if T (md p.1 p.2) then (p.1, md p.1 p.2) else (md p.1 p.2, p.2)
theorem bis_step (md : Nat → Nat → Nat) (T : Nat → Bool) : ∀ (n a b : Nat), bis md T (n + 1) a b = stepB md T (bis md T n a b)
 | 0, a, b => by
   unfold bis stepB
   cases T (md a b) <;> rfl
 | n + 1, a, b => by
   rw [bis]
   cases c : T (md a b) with
   | true =>
     rw [if_pos rfl, bis_step md T n a (md a b)]
     conv => rhs; rw [bis, c, if_pos rfl]
   | false =>
     rw [if_neg (by decide), bis_step md T n (md a b) b]
     conv => rhs; rw [bis, c, if_neg (by decide)]
structure Bis (W : Nat → Prop) (q G : Nat → Rat) (u ε : Rat) (p : Rat) (r : Nat × Nat) (w : Rat) : Prop where
 w1 : W r.1
 w2 : W r.2
 le : q r.1 ≤ q r.2
 wide : (q r.2 - q r.1 - 2 * u) * p ≤ w - 2 * u
 lo : G r.1 ≤ ε
 hi : -ε ≤ G r.2
theorem bis_all {W : Nat → Nat → Prop} {q G : Nat → Rat} {md : Nat → Nat → Nat} {T : Nat → Bool} {u ε : Rat} (j : Nat) (mono : ∀ n x, W (n + 1) x → W n x)
 (hm : ∀ n a b, W (n + 1) a → W (n + 1) b → q a ≤ q b → W n (md a b) ∧ q a ≤ q (md a b) ∧ q (md a b) ≤ q b ∧ q (md a b) - q a ≤ (q b - q a) / 2 + u ∧ q b - q (md a b) ≤ (q b - q a) / 2 + u)
 (hT : ∀ n e, W (n + j) e → (T e = true → -ε ≤ G e) ∧ (T e = false → G e ≤ ε)) :
 ∀ (n a b : Nat), W (n + j) a → W (n + j) b → q a ≤ q b → G a ≤ ε → -ε ≤ G b → Bis (W j) q G u ε (2 ^ n) (bis md T n a b) (q b - q a)
 | 0, a, b, h1, h2, h3, h4, h5 => ⟨by rwa [Nat.zero_add] at h1, by rwa [Nat.zero_add] at h2, h3, by rw [Rat.pow_zero, Rat.mul_one]; exact Rat.le_refl, h4, h5⟩
 | n + 1, a, b, h1, h2, h3, h4, h5 => by
   rw [show n + 1 + j = n + j + 1 by omega] at h1 h2
   obtain ⟨m1, m2, m3, m4, m5⟩ := hm _ a b h1 h2 h3
   have t := hT n _ m1
   unfold bis
   cases c : T (md a b) with
   | true =>
     rw [if_pos rfl]
     have r := bis_all j mono hm hT n a (md a b) (mono _ _ h1) m1 m2 h4 (t.1 c)
     refine ⟨r.w1, r.w2, r.le, ?_, r.lo, r.hi⟩
     have := r.wide
     rw [Rat.pow_succ]
     generalize (2 : Rat) ^ n = P at *
     generalize (q (bis md T n a (md a b)).2 - q (bis md T n a (md a b)).1 - 2 * u) = D at *
     grind
   | false =>
     rw [if_neg (by decide)]
     have r := bis_all j mono hm hT n (md a b) b m1 (mono _ _ h2) m3 (t.2 c) h5
     refine ⟨r.w1, r.w2, r.le, ?_, r.lo, r.hi⟩
     have := r.wide
     rw [Rat.pow_succ]
     generalize (2 : Rat) ^ n = P at *
     generalize (q (bis md T n (md a b) b).2 - q (bis md T n (md a b) b).1 - 2 * u) = D at *
     grind
end Ply

namespace Go.Proofs.YtacinenddnfcbaaGreat
open Go.ChangeShapes Go.WideShapes Go.ChangeAt Go.RowKit Ieee.Own Pol Fma

def fnW (x : Nat) : Nat := if fitB x = true then x else 0
def kepW (ecc : Nat) : Nat := qX ecc tauW
noncomputable def snW (e : Nat) : Nat := tS (fnW e)
noncomputable def rsdW (k m e : Nat) : Nat := lX (lX e (mX k (snW e))) m
noncomputable def kepG (k m e : Nat) : Rat := Q e - Q k * SQ e - Q m

theorem zero_ang : Ang 0 := ⟨by unfold FinW; omega, by rw [V_zero]; exact Int.dvd_zero _, by rw [V_zero]; exact Nat.zero_le _⟩
theorem fn_ang {x j : Nat} (W : Wd x j 1075) : Ang (fnW x) := by
 unfold fnW
 by_cases h : fitB x = true
 · rw [if_pos h]
   exact ⟨W.fin, fit_822 W.fin.1 h, Nat.le_trans W.abs (two_le (a := 1075) (b := 1114) (by omega))⟩
 · rw [if_neg h]; exact zero_ang
theorem ang_trig {x : Nat} (A : Ang x) : Trig x (tS x) (tC x) := by
 obtain ⟨r, R⟩ := rst_ex A
 exact trig_ex ⟨_, _, Trig.own A R⟩
theorem sn_wd {x j : Nat} (W : Wd x j 1075) : Wd (snW x) 768 1075 := by
 have A := fn_ang W
 obtain ⟨⟨r, R, e, -⟩, sz, -⟩ := ang_trig A
 have s := (R.rest A).sin_wd
 have c := (R.rest A).cos_wd
 refine ⟨sz.fin, ?_, ?_⟩
 · show _ ∣ V (tS (fnW x))
   rw [e]; unfold vq
   repeat' split
   · exact s.dvd
   · exact c.dvd
   · exact Int.dvd_neg.2 s.dvd
   · exact Int.dvd_neg.2 c.dvd
 · show (V (tS (fnW x))).natAbs ≤ _
   rw [e]; unfold vq
   have := s.abs
   have := c.abs
   repeat' split
   all_goals omega
theorem SQ_says (x : Nat) : ∃ k r, Ply.Says (Q x) k r ∧ SQ x = Ply.sq k (Ply.tau * r) ∧ CQ x = Ply.sq (k + 1) (Ply.tau * r) := ⟨_, _, says_of x, rfl, rfl⟩
theorem SQ_near {x y : Nat} (h : Q x ≤ Q y) : mag (SQ y - SQ x) ≤ Ply.quick * (Q y - Q x) + 2 * Ply.eps := by
 obtain ⟨j, r, a, e, -⟩ := SQ_says x
 obtain ⟨k, t, b, f, -⟩ := SQ_says y
 have u := Ply.sine_lip a b h
 rw [e, f]
 exact mag_of u.1 u.2
theorem fn_off {x j : Nat} (W : Wd x j 1075) : mag (Q (fnW x) - Q x) ≤ sm := by
 unfold fnW
 by_cases h : fitB x = true
 · rw [if_pos h, show Q x - Q x = 0 by grind]; exact sm0
 · rw [if_neg h]
   have s := unfit_small W.fin (Bool.eq_false_iff.2 h) (Nat.le_trans W.abs (two_le (a := 1075) (b := 1110) (by omega)))
   have c1 : V 3706462493325918208 = 2 ^ 874 := by decide +kernel
   have c2 : V 12929834530180694016 = -(2 ^ 874) := by decide +kernel
   have q1 : Q 3706462493325918208 = sm := by decide +kernel
   have q2 : Q 12929834530180694016 = -sm := by decide +kernel
   have e : ((2 ^ 874 : Nat) : Int) = 2 ^ 874 := Int.natCast_pow 2 874
   have h1 : Q x ≤ sm := by rw [← q1]; exact Q_le.2 (by rw [c1]; omega)
   have h2 : -sm ≤ Q x := by rw [← q2]; exact Q_le.2 (by rw [c2]; omega)
   rw [Q0]
   exact mag_of (by grind) (by grind)
theorem small_eps : Ply.quick * sm + 2 * Ply.eps ≤ uR / 100 := by decide +kernel
theorem fn_poly {q e s u d g : Rat} (q0 : 0 ≤ q) (hd : d ≤ s) (hg : g ≤ q * d + 2 * e) (h : q * s + 2 * e ≤ u / 100) : g ≤ u / 100 := by
 have m : 0 ≤ q * (s - d) := Rat.mul_nonneg q0 (by grind)
 grind
theorem mag_swap (a b : Rat) : mag (a - b) = mag (b - a) := by unfold mag; grind
theorem SQ_fn {x j : Nat} (W : Wd x j 1075) : mag (SQ (fnW x) - SQ x) ≤ uR / 100 := by
 have o := fn_off W
 rcases Rat.le_total (a := Q x) (b := Q (fnW x)) with h | h
 · have g := mag_le (Q (fnW x) - Q x)
   exact fn_poly Ply.quick_nn (Rat.le_trans g.2.1 o) (SQ_near h) small_eps
 · rw [mag_swap] at o ⊢
   have g := mag_le (Q x - Q (fnW x))
   exact fn_poly Ply.quick_nn (Rat.le_trans g.2.1 o) (SQ_near h) small_eps
theorem sn_near {x j : Nat} (W : Wd x j 1075) : mag (Q (snW x) - SQ x) ≤ 9 * uR := by
 have A := fn_ang W
 obtain ⟨r, R⟩ := rst_ex A
 have n := (trig_near A (ang_trig A) R).1
 rw [← (SQ_of R).1] at n
 have e : mkRat 1 (2 ^ 50) = 8 * uR := by decide +kernel
 rw [e] at n
 have b := mag_add (mag_of n.1 n.2) (SQ_fn W)
 have k : Q (tS (fnW x)) - SQ (fnW x) + (SQ (fnW x) - SQ x) = Q (snW x) - SQ x := by show _ = Q (tS (fnW x)) - SQ x; grind
 rw [k] at b
 have u0 := uR0
 grind
theorem SQ_one (x : Nat) : -1 ≤ SQ x ∧ SQ x ≤ 1 := by
 obtain ⟨k, r, ⟨-, h1, h2⟩, e, -⟩ := SQ_says x
 have t := Ply.top_mul h1 h2
 rw [e]
 exact Ply.sq_le_one t.1 t.2 k
theorem sn_lo {x j : Nat} (W : Wd x j 1075) : mag (Q (snW x)) ≤ 2 := by
 have n := sn_near W
 have o := SQ_one x
 have b := mag_add n (mag_of o.1 o.2)
 rw [show Q (snW x) - SQ x + SQ x = Q (snW x) by grind] at b
 have := uR1
 grind
theorem rsd_poly {u e k s m p d1 d2 : Rat} (u0 : 0 ≤ u) (u1 : 1000000 * u ≤ 1) (he : mag e ≤ 1) (hk0 : 0 ≤ k) (hk : 4 * k ≤ 1) (hm : mag m ≤ 1) {S : Rat} (hS : mag (s - S) ≤ 9 * u) (hs : mag s ≤ 2)
 (hp : mag (p - k * s) ≤ u * mag (k * s)) (h1 : mag (d1 - (e - p)) ≤ u * mag (e - p)) (h2 : mag (d2 - (d1 - m)) ≤ u * mag (d1 - m)) : mag (d2 - (e - k * S - m)) ≤ 8 * u := by
 have ks : mag (k * s) ≤ 1 / 2 := by
  have := mag_mul (x := k) (y := s) (B := 1 / 4) (M := 2) (by unfold mag; rw [if_pos hk0]; grind) hs
  grind
 have kS : mag (k * (s - S)) ≤ 9 / 4 * u := by
  have := mag_mul (x := k) (y := s - S) (B := 1 / 4) (M := 9 * u) (by unfold mag; rw [if_pos hk0]; grind) hS
  grind
 have p1 : mag (p - k * s) ≤ u / 2 := by
  have := Rat.mul_le_mul_of_nonneg_left ks u0
  grind
 have e1 : k * (s - S) = k * s - k * S := by grind
 rw [e1] at kS
 generalize k * s = X at *
 generalize k * S = Y at *
 clear hS hs e1 hk0 hk
 have pb := mag_add p1 ks
 rw [show p - X + X = p by grind] at pb
 have ep := mag_sub he pb
 have d1e : mag (d1 - (e - p)) ≤ 2 * u := by
  have := Rat.mul_le_mul_of_nonneg_left (show mag (e - p) ≤ 2 by grind) u0
  grind
 have d1b := mag_add d1e ep
 rw [show d1 - (e - p) + (e - p) = d1 by grind] at d1b
 have dm := mag_sub d1b hm
 have d2e : mag (d2 - (d1 - m)) ≤ 3 * u := by
  have := Rat.mul_le_mul_of_nonneg_left (show mag (d1 - m) ≤ 3 by grind) u0
  grind
 have t := mag_add d2e (mag_sub d1e (mag_add p1 kS))
 rw [show d2 - (d1 - m) + (d1 - (e - p) - (p - X + (X - Y))) = d2 - (e - Y - m) by grind] at t
 grind
structure Kp (k m : Nat) : Prop where
 kw : Wd k 800 1073
 k0 : 0 ≤ Q k
 k1 : 4 * Q k ≤ 1
 kq : Q k * Ply.quick ≤ 19 / 20
 mw : Wd m 800 1073
theorem abs_one {x : Nat} (h : (V x).natAbs ≤ 2 ^ 1074) : mag (Q x) ≤ 1 := by
 have h1 : V x ≤ 2 ^ 1074 := by
  have : ((2 ^ 1074 : Nat) : Int) = 2 ^ 1074 := Int.natCast_pow 2 1074
  omega
 have h2 : -(2 ^ 1074) ≤ V x := by
  have : ((2 ^ 1074 : Nat) : Int) = 2 ^ 1074 := Int.natCast_pow 2 1074
  omega
 have v1 : V 4607182418800017408 = 2 ^ 1074 := by decide +kernel
 have v2 : V 13830554455654793216 = -(2 ^ 1074) := by decide +kernel
 have q1 : Q 4607182418800017408 = 1 := by decide +kernel
 have q2 : Q 13830554455654793216 = -1 := by decide +kernel
 exact mag_of (by rw [← q2]; exact Q_le.2 (by rw [v2]; exact h2)) (by rw [← q1]; exact Q_le.2 (by rw [v1]; exact h1))
theorem rsd_near {k m e j : Nat} (K : Kp k m) (W : Wd e j 1074) :
 Ieee.double.mul k (snW e) = some (mX k (snW e)) ∧ Ieee.double.sub e (mX k (snW e)) = some (lX e (mX k (snW e))) ∧ Ieee.double.sub (lX e (mX k (snW e))) m = some (rsdW k m e) ∧ FinW (rsdW k m e) ∧ mag (Q (rsdW k m e) - kepG k m e) ≤ 8 * uR := by
 have W5 := W.le (q := j) (l := 1075) (Nat.le_refl _) (by omega)
 have S := sn_wd W5
 obtain ⟨a1, a2, a3⟩ := K.kw.mul S (by omega) (by omega) (by omega)
 obtain ⟨b1, b2, b3, b4⟩ := sub_ok (i := 1075) (k := 1076) W.fin a2.fin (Nat.le_trans W.abs (two_le (a := 1074) (b := 1075) (by omega))) (a2.le (q := 400) (l := 1075) (by omega) (by omega)).abs rfl (by omega)
 obtain ⟨c1, c2, c3, -⟩ := sub_ok (i := 1076) (k := 1077) b2 K.mw.fin b4 (Nat.le_trans K.mw.abs (two_le (a := 1073) (b := 1076) (by omega))) rfl (by omega)
 refine ⟨a1, b1, c1, c2, ?_⟩
 have r1 := rd_of a3 _ Rat.le_refl
 have r2 := rd_of (sub_rel b3) _ Rat.le_refl
 have r3 := rd_of (sub_rel c3) _ Rat.le_refl
 rw [Rat.add_zero] at r1 r2 r3
 exact rsd_poly uR0 uR1 (abs_one W.abs) K.k0 K.k1 (abs_one (Nat.le_trans K.mw.abs (two_le (a := 1073) (b := 1074) (by omega)))) (sn_near W5) (sn_lo W5) r1 r2 r3
theorem kepG_move {k m x y : Nat} (K : Kp k m) (h : Q x ≤ Q y) : kepG k m y - kepG k m x ≤ 2 * (Q y - Q x) + uR / 100 ∧ (Q y - Q x) / 20 ≤ kepG k m y - kepG k m x + Q k * (2 * Ply.eps) := by
 obtain ⟨j, r, a, e, -⟩ := SQ_says x
 obtain ⟨l, t, b, f, -⟩ := SQ_says y
 have u := Ply.kep_lip a b h K.k0 K.kq
 have v := Ply.kep_rise a b h K.k0 K.kq
 rw [← e, ← f] at u v
 have g : Q k * (2 * Ply.eps) ≤ uR / 100 := by
  have g0 : 2 * Ply.eps ≤ uR / 100 := by decide +kernel
  have e0 : 0 ≤ 2 * Ply.eps := by decide +kernel
  have k1 := K.k1
  have k0 := K.k0
  generalize 2 * Ply.eps = E at *
  have := Rat.mul_nonneg (show 0 ≤ 1 - Q k by grind) e0
  grind
 unfold kepG
 generalize Q k * (2 * Ply.eps) = E at *
 generalize Q k * SQ x = X at *
 generalize Q k * SQ y = Y at *
 constructor <;> grind
noncomputable def tst (k m : Nat) (e : Nat) : Bool := decide (0 < V (rsdW k m e))
theorem Q_nn {x : Nat} : 0 ≤ Q x ↔ 0 ≤ V x := by rw [← Q0, Q_le, V_zero]
noncomputable def bisR (k m n : Nat) : Nat × Nat := Ply.bis mdW (tst k m) n (lX m k) (aX m k)
noncomputable def plcW (k m : Nat) : Nat := mdW (bisR k m 64).1 (bisR k m 64).2
theorem ends_poly {u κ S lo M : Rat} (k0 : 0 ≤ κ) (s1 : -1 ≤ S) (s2 : S ≤ 1) (u0 : 0 ≤ u) (h : mag (lo - (M - κ)) ≤ u) (hi : Rat) (g : mag (hi - (M + κ)) ≤ u) : lo - κ * S - M ≤ 8 * u ∧ -(8 * u) ≤ hi - κ * S - M := by
 have a := mag_le (lo - (M - κ))
 have b := mag_le (hi - (M + κ))
 have c := Rat.mul_nonneg k0 (show 0 ≤ 1 + S by grind)
 have d := Rat.mul_nonneg k0 (show 0 ≤ 1 - S by grind)
 constructor <;> grind
theorem wide_poly {u w w0 P : Rat} (h : (w - 2 * u) * P ≤ w0 - 2 * u) (u0 : 0 ≤ u) (w1 : w0 ≤ 1) (hP : 2 ≤ u * P) (P0 : 0 ≤ P) : w ≤ 3 * u := by
 rcases Rat.le_total (a := w) (b := 3 * u) with q | q
 · exact q
 · have m := Rat.mul_nonneg (show 0 ≤ w - 3 * u by grind) P0
   have e : (w - 2 * u) * P = (w - 3 * u) * P + u * P := by grind
   rw [e] at h
   generalize (w - 3 * u) * P = A at *
   generalize u * P = B at *
   exfalso
   grind
theorem kepler_end {k m : Nat} (K : Kp k m) (hm : mag (Q m) ≤ 1 / 2) : Wd (plcW k m) 400 1074 ∧ mag (kepG k m (plcW k m)) ≤ 14 * uR := by
 have u0 := uR0
 have u1 := uR1
 have k0 := K.k0
 have k1 := K.k1
 have mw := K.mw
 have kw := K.kw
 have ad := Wd.add mw kw (by omega)
 obtain ⟨s1, s2, s3, s4⟩ := sub_ok (i := 1073) (k := 1074) mw.fin kw.fin mw.abs kw.abs rfl (by omega)
 have Wl : Wd (lX m k) 800 1074 := ⟨s2, by rw [s3]; exact RN_dvd (Int.dvd_sub mw.dvd kw.dvd), s4⟩
 have Wh : Wd (aX m k) 800 1074 := ad.2.1
 have r1 := rd_of (sub_rel s3) 1 (by
  have := mag_sub hm (show mag (Q k) ≤ 1 / 4 by unfold mag; rw [if_pos k0]; grind)
  grind)
 have r2 := rd_of ad.2.2 1 (by
  have := mag_add hm (show mag (Q k) ≤ 1 / 4 by unfold mag; rw [if_pos k0]; grind)
  grind)
 rw [Rat.add_zero, Rat.mul_one] at r1 r2
 have le : Q (lX m k) ≤ Q (aX m k) := by
  have a := mag_le (Q (lX m k) - (Q m - Q k))
  obtain ⟨r, g1, g2, g3, g4⟩ := addW mw.fin kw.fin mw.abs kw.abs (by omega)
  have er : aX m k = r := by unfold aX; rw [g1]; rfl
  rw [er, Q_le, g3, s3]
  have := Q_nn.1 k0
  exact RN_mono (by omega)
 have w0 : Q (aX m k) - Q (lX m k) ≤ 1 := by
  have a := mag_le (Q (lX m k) - (Q m - Q k))
  have b := mag_le (Q (aX m k) - (Q m + Q k))
  grind
 have el := (ends_poly k0 (SQ_one (lX m k)).1 (SQ_one (lX m k)).2 u0 r1 _ r2).1
 have eh := (ends_poly k0 (SQ_one (aX m k)).1 (SQ_one (aX m k)).2 u0 r1 _ r2).2
 have B := Ply.bis_all (W := fun n x => Wd x (400 + n) 1074) (q := Q) (G := kepG k m) (md := mdW) (T := tst k m) (u := uR) (ε := 8 * uR) 1
  (fun n x h => h.le (by omega) (Nat.le_refl _))
  (fun n a b ha hb h => mid_near (j := 400 + n) ha hb (by omega) h)
  (fun n e he => by
   obtain ⟨-, -, -, f, d⟩ := rsd_near K he
   have d := mag_le (Q (rsdW k m e) - kepG k m e)
   unfold tst
   constructor
   · intro t
     have t := of_decide_eq_true t
     have := Q_nn.2 (Int.le_of_lt t)
     grind
   · intro t
     have t := of_decide_eq_false t
     have : Q (rsdW k m e) ≤ 0 := by rw [← Q0, Q_le, V_zero]; omega
     grind)
  64 (lX m k) (aX m k) (Wl.le (by omega) (Nat.le_refl _)) (Wh.le (by omega) (Nat.le_refl _)) le el eh
 obtain ⟨b1, b2, b3, b4, b5, b6⟩ := B
 have w := wide_poly b4 u0 w0 (by decide +kernel) (by decide +kernel)
 obtain ⟨m1, m2, m3, m4, m5⟩ := mid_near (j := 400) b1 b2 (by omega) b3
 refine ⟨m1, ?_⟩
 have g1 := (kepG_move K m2).1
 have g2 := (kepG_move K m3).1
 show mag (kepG k m (mdW _ _)) ≤ _
 unfold bisR
 exact mag_of (by grind) (by grind)
theorem fac_pos {u e P : Rat} (u0 : 0 ≤ u) (u1 : 1000000 * u ≤ 1) (e0 : 0 ≤ e) (h : mag (P - e) ≤ u * mag P) : 0 ≤ P := by
 have a := mag_le (P - e)
 rcases Rat.le_total (a := 0) (b := P) with q | q
 · exact q
 · have m : mag P ≤ -P := mag_of (by grind) (by grind)
   have m2 := Rat.mul_le_mul_of_nonneg_left m u0
   have m3 : 0 ≤ (1 / 2 - u) * -P := Rat.mul_nonneg (by grind) (by grind)
   have e1 : (1 / 2 - u) * -P = u * P - P / 2 := by grind
   have e2 : u * -P = -(u * P) := by grind
   rw [e1] at m3
   rw [e2] at m2
   generalize u * P = X at *
   generalize u * mag P = Y at *
   grind
theorem fac_poly {u e K τ P : Rat} (u0 : 0 ≤ u) (u1 : 1000000 * u ≤ 1) (e0 : 0 ≤ e) (e1 : e ≤ 7 / 8) (t6 : 6 ≤ τ) (t7 : τ ≤ 7) (hP : P = K * τ) (h : mag (P - e) ≤ u * mag P) : 0 ≤ K ∧ 4 * K ≤ 1 ∧ P ≤ 8751 / 10000 ∧ (K = 0 ∨ e / 8 ≤ K) := by
 have a := mag_le (P - e)
 have P0 := fac_pos u0 u1 e0 h
 have m : mag P ≤ P := mag_of (by grind) (by grind)
 have m2 := Rat.mul_le_mul_of_nonneg_left m u0
 have m3 : 0 ≤ (1 / 1000000 - u) * P := Rat.mul_nonneg (by grind) P0
 have e2 : (1 / 1000000 - u) * P = P / 1000000 - u * P := by grind
 rw [e2] at m3
 generalize u * mag P = Y at *
 generalize u * P = X at *
 have hi : P ≤ 8751 / 10000 := by grind
 have lo : 999 / 1000 * e ≤ P := by grind
 have K0 : 0 ≤ K := by
  rcases Rat.le_total (a := 0) (b := K) with q | q
  · exact q
  · have d := Rat.mul_nonneg (show 0 ≤ -K by grind) (show 0 ≤ τ - 6 by grind)
    have d2 : -K * (τ - 6) = 6 * K - K * τ := by grind
    rw [d2, ← hP] at d
    grind
 have d := Rat.mul_nonneg K0 (show 0 ≤ τ - 6 by grind)
 have d1 : K * (τ - 6) = K * τ - 6 * K := by grind
 rw [d1, ← hP] at d
 have f := Rat.mul_nonneg K0 (show 0 ≤ 7 - τ by grind)
 have f1 : K * (7 - τ) = 7 * K - K * τ := by grind
 rw [f1, ← hP] at f
 exact ⟨K0, by grind, hi, .inr (by grind)⟩
theorem norm_tau : Norm tauW false 7074237752028440 1024 := by
 have f : FinW tauW := by unfold FinW tauW; omega
 have N := norm_of f (by unfold tauW; omega)
 rw [show decide (9223372036854775808 ≤ tauW) = false by decide] at N
 exact N
theorem kp_of {e m : Nat} (he : e < 18446744073709551616) (fe : fitB e = true) (e0 : 0 ≤ Q e) (e1 : Q e ≤ 7 / 8) (mw : Wd m 800 1073) :
 Ieee.double.div e tauW = some (kepW e) ∧ Kp (kepW e) m := by
 obtain ⟨a1, a2, a3⟩ := div_any he fe norm_tau (by omega) (by omega)
 have r := quo_rat a3
 have t6 : 6 ≤ Q tauW ∧ Q tauW ≤ 7 := by decide +kernel
 have tq : Ply.quick ≤ 108001 / 100000 * Q tauW := by decide +kernel
 obtain ⟨k0, k1, k2, k3⟩ := fac_poly uR0 uR1 e0 e1 t6.1 t6.2 rfl r
 refine ⟨a1, ⟨a2, ?_, ?_⟩, k0, k1, ?_, mw⟩
 · by_cases z : V e = 0
   · have : V (qX e tauW) = 0 := by
        obtain ⟨r', q1, q2, q3⟩ := div_zero (fit_fin he fe) z norm_tau.fin (by decide +kernel)
        have er : qX e tauW = r' := by unfold qX; rw [q1]; rfl
        rw [er]; exact q3
     show _ ∣ V (qX e tauW)
     rw [this]; exact Int.dvd_zero _
   · have big := fit_big (fit_fin he fe) fe
     have big : 2 ^ 874 ≤ (V e).natAbs := by rcases big with h | h; exact absurd h z; exact h
     have c1 : V 3706462493325918208 = 2 ^ 874 := by decide +kernel
     have q1 : Q 3706462493325918208 = sm := by decide +kernel
     have en : 0 ≤ V e := Q_nn.1 e0
     have ce : ((2 ^ 874 : Nat) : Int) = 2 ^ 874 := Int.natCast_pow 2 874
     have es : sm ≤ Q e := by rw [← q1]; exact Q_le.2 (by rw [c1]; omega)
     refine Q_dvd_big (x := sm / 8) (.inl ?_) (by decide +kernel)
     show _ ≤ Q (qX e tauW)
     rcases k3 with h | h
     · exfalso
       have h : Q (qX e tauW) = 0 := h
       rw [h, Rat.zero_mul] at r
       have a := mag_le (0 - Q e)
       have : mag (0 : Rat) = 0 := by decide +kernel
       rw [this, Rat.mul_zero] at r
       have s0 : 0 < sm := by decide +kernel
       grind
     · have h : Q e / 8 ≤ Q (qX e tauW) := h
       grind
 · show (V (qX e tauW)).natAbs ≤ _
   have k0 : 0 ≤ Q (qX e tauW) := k0
   have k1 : 4 * Q (qX e tauW) ≤ 1 := k1
   have v0 := Q_nn.1 k0
   have c1 : V 4602678819172646912 = 2 ^ 1073 := by decide +kernel
   have q1 : Q 4602678819172646912 = 1 / 2 := by decide +kernel
   have : V (qX e tauW) ≤ 2 ^ 1073 := by rw [← c1]; exact Q_le.1 (by rw [q1]; grind)
   have ce : ((2 ^ 1073 : Nat) : Int) = 2 ^ 1073 := Int.natCast_pow 2 1073
   omega
 · have m := Rat.mul_le_mul_of_nonneg_left tq k0
   generalize Ply.quick = q at *
   have e : Q (qX e tauW) * (108001 / 100000 * Q tauW) = 108001 / 100000 * (Q (qX e tauW) * Q tauW) := by grind
   rw [e] at m
   show Q (qX _ tauW) * q ≤ _
   grind
end Go.Proofs.YtacinenddnfcbaaGreat

namespace Go.Proofs.YtacinenddnfcbaaGreat
open Go.ChangeShapes Go.WideShapes Go.ChangeAt Go.RowKit Go.Deep Ieee.Own

structure Wv where
 ax : Int
 pw : Int
 am : Nat
 ph : Nat
 rt : Nat
def wvC (f : Wv) : List Value := [.int .i64 f.ax, .int .i64 f.pw, .float .f64 f.am, .float .f64 f.ph, .float .f64 f.rt]
def wvV (f : Wv) : Value := .agg #[.int .i64 f.ax, .int .i64 f.pw, .float .f64 f.am, .float .f64 f.ph, .float .f64 f.rt]
structure WvW (f : Wv) : Prop where
 am : f.am < 18446744073709551616
 ph : f.ph < 18446744073709551616
 rt : f.rt < 18446744073709551616
theorem wwit_run (c x : Nat) (hc : c < 9218868437227405312) (hx : x < 18446744073709551616) (w : World) :
 Calls Tryz.prog 256 #[.float .f64 x, .float .f64 c] w fun e w' => e = .returned (.bool (witB c x)) ∧ w = w' := by
 have CF := fun w => fit_any x hx w
 have CA := fun w => abs_any x hx w
 have g := o_leq (x % 9223372036854775808) c (by omega) (by omega)
 by_cases h1 : fitB x = true
 · have fn := fit_fin hx h1
   have m := fn.2
   rw [key_low (by omega), key_low (by omega)] at g
   rw [h1] at CF
   by_cases h2 : x % 9223372036854775808 ≤ c
   · have e : witB c x = true := by unfold witB; rw [decide_eq_true_eq]; exact ⟨h1, h2⟩
     rw [e]
     rw [decide_eq_true (by unfold nn; omega)] at g
     clear hx h1 fn m h2 e hc
     generalize x % 9223372036854775808 = y at *
     go_enter Tryz.func256, Tryz.ntmps256
     go_wp2_with (first | (go_at_call 72; ((with_reducible refine (CF _).mono ?_); rintro e w' ⟨rfl, rfl⟩)) | (go_at_call 37; ((with_reducible refine (CA _).mono ?_); rintro e w' ⟨rfl, rfl⟩)))
     go_ret
     exact ⟨rfl, rfl⟩
   · have e : witB c x = false := by unfold witB; rw [decide_eq_false_iff_not]; exact fun h => h2 h.2
     rw [e]
     rw [decide_eq_false (by omega)] at g
     clear hx h1 fn m h2 e hc
     generalize x % 9223372036854775808 = y at *
     go_enter Tryz.func256, Tryz.ntmps256
     go_wp2_with (first | (go_at_call 72; ((with_reducible refine (CF _).mono ?_); rintro e w' ⟨rfl, rfl⟩)) | (go_at_call 37; ((with_reducible refine (CA _).mono ?_); rintro e w' ⟨rfl, rfl⟩)))
     go_ret
     exact ⟨rfl, rfl⟩
 · have e : witB c x = false := by unfold witB; rw [decide_eq_false_iff_not]; exact fun h => h1 h.1
   rw [Bool.not_eq_true] at h1
   rw [h1] at CF
   rw [e]
   clear hx h1 e g hc
   go_enter Tryz.func256, Tryz.ntmps256
   go_wp2_with (first | (go_at_call 72; ((with_reducible refine (CF _).mono ?_); rintro e w' ⟨rfl, rfl⟩)) | (go_at_call 37; ((with_reducible refine (CA _).mono ?_); rintro e w' ⟨rfl, rfl⟩)))
   go_ret
   exact ⟨rfl, rfl⟩
def mayW (f : Wv) : Bool := decide (0 ≤ f.ax) && (decide (f.ax ≤ 2) && (decide (0 ≤ f.pw) && (decide (f.pw ≤ 2) && (witB g40 f.am && (witB g10 f.ph && witB g10 f.rt)))))
theorem wmay_run {f : Wv} (h : WvW f) (w : World) : Calls Tryz.prog 220 #[wvV f] w fun e w' => e = .returned (.bool (mayW f)) ∧ Below w.heap.size w w' := by
 have C0 := fun w => wwit_run 4787326403894837248 f.am (by omega) h.am w
 have C1 := fun w => wwit_run 4652218415073722368 f.ph (by omega) h.ph w
 have C2 := fun w => wwit_run 4652218415073722368 f.rt (by omega) h.rt w
 clear h
 unfold mayW wvV g10 g40
 generalize witB 4787326403894837248 f.am = b0 at *
 generalize witB 4652218415073722368 f.ph = b1 at *
 generalize witB 4652218415073722368 f.rt = b2 at *
 obtain ⟨ax, pw, am, ph, rt⟩ := f
 dsimp only at *
 have K := kv1 w 115 [.int .i64 ax, .int .i64 pw, .float .f64 am, .float .f64 ph, .float .f64 rt]
 simp only [objV] at K
 have c0 := (K.at_ 0 rfl).at_ 0 _ rfl
 have c1 := (K.at_ 0 rfl).at_ 1 _ rfl
 have c2 := (K.at_ 0 rfl).at_ 2 _ rfl
 have c3 := (K.at_ 0 rfl).at_ 3 _ rfl
 have c4 := (K.at_ 0 rfl).at_ 4 _ rfl
 replace K := Lib.hid K
 by_cases h0 : 0 ≤ ax
 · rw [decide_eq_true h0]
   by_cases h1 : ax ≤ 2
   · rw [decide_eq_true h1]
     by_cases h2 : 0 ≤ pw
     · rw [decide_eq_true h2]
       by_cases h3 : pw ≤ 2
       · rw [decide_eq_true h3]
         cases hb0 : b0 with
         | true =>
           subst hb0
           cases hb1 : b1 with
           | true =>
             subst hb1
             cases hb2 : b2 with
             | true =>
               subst hb2
               go_enter Tryz.func220, Tryz.ntmps220
               go_wp2_with (first | (go_at_call 256; ((with_reducible refine (C0 _).mono ?_); rintro e w' ⟨rfl, rfl⟩)) | (go_at_call 256; ((with_reducible refine (C1 _).mono ?_); rintro e w' ⟨rfl, rfl⟩)) | (go_at_call 256; ((with_reducible refine (C2 _).mono ?_); rintro e w' ⟨rfl, rfl⟩)))
               replace K := K.out
               go_ret
               exact ⟨rfl, K.old⟩
             | false =>
               subst hb2
               go_enter Tryz.func220, Tryz.ntmps220
               go_wp2_with (first | (go_at_call 256; ((with_reducible refine (C0 _).mono ?_); rintro e w' ⟨rfl, rfl⟩)) | (go_at_call 256; ((with_reducible refine (C1 _).mono ?_); rintro e w' ⟨rfl, rfl⟩)) | (go_at_call 256; ((with_reducible refine (C2 _).mono ?_); rintro e w' ⟨rfl, rfl⟩)))
               replace K := K.out
               go_ret
               exact ⟨rfl, K.old⟩
           | false =>
             subst hb1
             go_enter Tryz.func220, Tryz.ntmps220
             go_wp2_with (first | (go_at_call 256; ((with_reducible refine (C0 _).mono ?_); rintro e w' ⟨rfl, rfl⟩)) | (go_at_call 256; ((with_reducible refine (C1 _).mono ?_); rintro e w' ⟨rfl, rfl⟩)) | (go_at_call 256; ((with_reducible refine (C2 _).mono ?_); rintro e w' ⟨rfl, rfl⟩)))
             replace K := K.out
             go_ret
             exact ⟨rfl, K.old⟩
         | false =>
           subst hb0
           go_enter Tryz.func220, Tryz.ntmps220
           go_wp2_with (first | (go_at_call 256; ((with_reducible refine (C0 _).mono ?_); rintro e w' ⟨rfl, rfl⟩)) | (go_at_call 256; ((with_reducible refine (C1 _).mono ?_); rintro e w' ⟨rfl, rfl⟩)) | (go_at_call 256; ((with_reducible refine (C2 _).mono ?_); rintro e w' ⟨rfl, rfl⟩)))
           replace K := K.out
           go_ret
           exact ⟨rfl, K.old⟩
       · rw [decide_eq_false h3]
         go_enter Tryz.func220, Tryz.ntmps220
         go_wp2_with (first | (go_at_call 256; ((with_reducible refine (C0 _).mono ?_); rintro e w' ⟨rfl, rfl⟩)) | (go_at_call 256; ((with_reducible refine (C1 _).mono ?_); rintro e w' ⟨rfl, rfl⟩)) | (go_at_call 256; ((with_reducible refine (C2 _).mono ?_); rintro e w' ⟨rfl, rfl⟩)))
         replace K := K.out
         go_ret
         exact ⟨rfl, K.old⟩
     · rw [decide_eq_false h2]
       go_enter Tryz.func220, Tryz.ntmps220
       go_wp2_with (first | (go_at_call 256; ((with_reducible refine (C0 _).mono ?_); rintro e w' ⟨rfl, rfl⟩)) | (go_at_call 256; ((with_reducible refine (C1 _).mono ?_); rintro e w' ⟨rfl, rfl⟩)) | (go_at_call 256; ((with_reducible refine (C2 _).mono ?_); rintro e w' ⟨rfl, rfl⟩)))
       replace K := K.out
       go_ret
       exact ⟨rfl, K.old⟩
   · rw [decide_eq_false h1]
     go_enter Tryz.func220, Tryz.ntmps220
     go_wp2_with (first | (go_at_call 256; ((with_reducible refine (C0 _).mono ?_); rintro e w' ⟨rfl, rfl⟩)) | (go_at_call 256; ((with_reducible refine (C1 _).mono ?_); rintro e w' ⟨rfl, rfl⟩)) | (go_at_call 256; ((with_reducible refine (C2 _).mono ?_); rintro e w' ⟨rfl, rfl⟩)))
     replace K := K.out
     go_ret
     exact ⟨rfl, K.old⟩
 · rw [decide_eq_false h0]
   go_enter Tryz.func220, Tryz.ntmps220
   go_wp2_with (first | (go_at_call 256; ((with_reducible refine (C0 _).mono ?_); rintro e w' ⟨rfl, rfl⟩)) | (go_at_call 256; ((with_reducible refine (C1 _).mono ?_); rintro e w' ⟨rfl, rfl⟩)) | (go_at_call 256; ((with_reducible refine (C2 _).mono ?_); rintro e w' ⟨rfl, rfl⟩)))
   replace K := K.out
   go_ret
   exact ⟨rfl, K.old⟩
def wvZ : Wv := ⟨0, 0, 0, 0, 0⟩
def wvAt (L : List Wv) (j : Nat) : Wv := L.getD j wvZ
def VAt (w : World) (ao : Option Addr) (L : List Wv) : Prop := RAt w ao 5 (L.map wvC)
def WvsW (L : List Wv) : Prop := ∀ f ∈ L, WvW f
theorem rows_wv (L : List Wv) : RowsOk 5 (L.map wvC) := by
 refine ⟨fun r hr => ?_, fun r hr u hu => ?_⟩
 · obtain ⟨f, -, rfl⟩ := List.mem_map.1 hr; rfl
 · obtain ⟨f, -, rfl⟩ := List.mem_map.1 hr
   simp only [wvC, List.mem_cons, List.not_mem_nil, or_false] at hu
   rcases hu with rfl | rfl | rfl | rfl | rfl <;> rfl
theorem wv_get {L : List Wv} {j : Nat} (h : j < L.length) : (L.map wvC)[j]? = some (wvC (wvAt L j)) := by
 unfold wvAt; simp [List.getD, h]
theorem wv_mem {L : List Wv} {j : Nat} (h : j < L.length) : wvAt L j ∈ L := by
 unfold wvAt
 have : L.getD j wvZ = L[j] := by simp [List.getD, h]
 rw [this]; exact List.getElem_mem h
theorem wv_drop {L : List Wv} {j : Nat} (h : j < L.length) : L.drop j = wvAt L j :: L.drop (j + 1) := by
 unfold wvAt
 have : L.getD j wvZ = L[j] := by simp [List.getD, h]
 rw [this]; exact List.drop_eq_getElem_cons h
theorem VAt.cells {w : World} {ao : Option Addr} {L : List Wv} (h : VAt w ao L) {j : Nat} (hj : j < L.length) :
 ∃ b o, ao = some ⟨b, o, none⟩ ∧ b < w.heap.size ∧ w.cell? ⟨b, o + j * 5, none⟩ = some (.int .i64 (wvAt L j).ax) ∧ w.cell? ⟨b, o + j * 5 + 1, none⟩ = some (.int .i64 (wvAt L j).pw) ∧
   w.cell? ⟨b, o + j * 5 + 2, none⟩ = some (.float .f64 (wvAt L j).am) ∧ w.cell? ⟨b, o + j * 5 + 3, none⟩ = some (.float .f64 (wvAt L j).ph) ∧ w.cell? ⟨b, o + j * 5 + 4, none⟩ = some (.float .f64 (wvAt L j).rt) := by
 obtain ⟨b, o, e, hb, hc⟩ := h j _ (wv_get hj)
 exact ⟨b, o, e, hb, hc 0 _ rfl, hc 1 _ rfl, hc 2 _ rfl, hc 3 _ rfl, hc 4 _ rfl⟩
def goodV (L : List Wv) : Bool := (List.range L.length).all fun j => mayW (wvAt L j)
def chkV (L : List Wv) : Int := if 32 < L.length then 2 else if goodV L = true then 0 else 120
theorem goodV_iff {L : List Wv} : goodV L = true ↔ ∀ j, j < L.length → mayW (wvAt L j) = true := by
 unfold goodV; simp [List.all_eq_true]
theorem chkV_long {L : List Wv} (h : 32 < L.length) : chkV L = 2 := if_pos h
theorem chkV_bad {L : List Wv} (h : ¬ 32 < L.length) {j : Nat} (hj : j < L.length) (hg : mayW (wvAt L j) = false) : chkV L = 120 := by
 unfold chkV
 rw [if_neg h, if_neg (fun g => by rw [goodV_iff.1 g j hj] at hg; cases hg)]
theorem chkV_good {L : List Wv} (h : ¬ 32 < L.length) (hg : ∀ j, j < L.length → mayW (wvAt L j) = true) : chkV L = 0 := by
 unfold chkV
 rw [if_neg h, if_pos (goodV_iff.2 hg)]
theorem chkV_zero {L : List Wv} (h : chkV L = 0) : L.length ≤ 32 ∧ ∀ j, j < L.length → mayW (wvAt L j) = true := by
 unfold chkV at h
 by_cases h1 : 32 < L.length
 · rw [if_pos h1] at h; omega
 · rw [if_neg h1] at h
   by_cases h2 : goodV L = true
   · exact ⟨by omega, goodV_iff.1 h2⟩
   · rw [if_neg h2] at h; omega
theorem chkV_mem {L : List Wv} (h : chkV L = 0) : ∀ f ∈ L, mayW f = true := by
 intro f hf
 obtain ⟨j, hj, rfl⟩ := List.mem_iff_getElem.1 hf
 have := (chkV_zero h).2 j hj
 unfold wvAt at this
 rwa [show L.getD j wvZ = L[j] by simp [List.getD, hj]] at this
theorem ret_iV {a b : Int} (h : a = b) : Ending.returned (.int .i64 a) = .returned (.int .i64 b) := by rw [h]
theorem wcheck_run (ao : Option Addr) (cap n : Nat) (L : List Wv) (w : World) (hn : n = L.length) (hm : n ≤ 4611686018427387904) (hW : WvsW L) (ha : VAt w ao L) :
 Calls Tryz.prog 149 #[.slice ao n cap] w fun e w' => e = .returned (.int .i64 (chkV L)) ∧ Below w.heap.size w w' := by
 by_cases hl : 32 < n
 · have t1 : decide (32 < n) = true := decide_eq_true hl
   rw [chkV_long (by omega)]
   clear hn ha hW
   go_enter Tryz.func149, Tryz.ntmps149
   go_wp2_with fail
   go_ret
   exact ⟨rfl, Below.refl _ _⟩
 · have t1 : decide (32 < n) = false := decide_eq_false hl
   replace hn := Lib.hid hn
   replace ha := Lib.hid ha
   replace hW := Lib.hid hW
   obtain ⟨V, hV⟩ : ∃ V, V = chkV L := ⟨_, rfl⟩
   rw [← hV]
   replace hV := Lib.hid hV
   go_enter Tryz.func149, Tryz.ntmps149
   go_wp2_with fail
   go_loopw [10] (fun iv wr => ∃ i : Nat, i ≤ n ∧ iv = .int .i64 i ∧ (∀ j, j < i → mayW (wvAt L j) = true) ∧ Below w.heap.size w wr) (fun iv _ => n - (intOf iv).toNat)
   case atStart => exact ⟨0, Nat.zero_le _, rfl, fun j hj => by omega, Below.refl _ _⟩
   case round =>
    obtain ⟨i, hi, rfl, ho, hb⟩ := hrel
    by_cases hlt : i < n
    · have hil : i < L.length := by have := hn.out; omega
      obtain ⟨b, o, rfl, hbl, c0, c1, c2, c3, c4⟩ := VAt.cells (ha.out.below (fun b o e _ => ha.out.lt b o e (by simp; omega)) hb) hil
      have fw := hW.out _ (wv_mem hil)
      have M := fun w => wmay_run fw w
      have bad : Hid (mayW (wvAt L i) = false → V = 120) := fun h => by rw [hV.out]; exact chkV_bad (by have := hn.out; omega) hil h
      have good : Hid (mayW (wvAt L i) = true → ∀ j, j < i + 1 → mayW (wvAt L j) = true) := fun h j hj => by
       by_cases e : j < i
       · exact ho j e
       · have e : j = i := by omega
         rw [e]; exact h
      clear fw ho
      generalize hf : mayW (wvAt L i) = mb at *
      generalize wvAt L i = f at *
      obtain ⟨ax, pw, am, ph, rt⟩ := f
      unfold wvV at M
      dsimp only at *
      have B1 := Lib.hid (hb.alloc hb.size (.cells #[.int .i64 ax, .int .i64 pw, .float .f64 am, .float .f64 ph, .float .f64 rt] 115))
      have K := (Kv.nil wr).new 115 [.int .i64 ax, .int .i64 pw, .float .f64 am, .float .f64 ph, .float .f64 rt]
      simp only [objV, List.nil_append] at K
      have d0 := (K.at_ 0 rfl).at_ 0 _ rfl
      have d1 := (K.at_ 0 rfl).at_ 1 _ rfl
      have d2 := (K.at_ 0 rfl).at_ 2 _ rfl
      have d3 := (K.at_ 0 rfl).at_ 3 _ rfl
      have d4 := (K.at_ 0 rfl).at_ 4 _ rfl
      replace hb := Lib.hid hb
      clear K hf hbl
      have hst := @fstore
      cases mb with
      | true =>
        replace good := Lib.hid (good.out rfl)
        clear bad
        go_wp2_with fail
        refine (M _).mono ?_
        rintro _ w1 ⟨rfl, hb1⟩
        replace B1 := Lib.hid (B1.out.trans (hb1.mono B1.out.size))
        clear d0 d1 d2 d3 d4 c0 c1 c2 c3 c4 hb1
        go_wp2_with fail
        go_roundw
        case rel => exact ⟨i + 1, hlt, by go_num, good.out, B1.out⟩
        case measure => simp [intOf]; omega
      | false =>
        replace bad := Lib.hid (bad.out rfl)
        clear good
        go_wp2_with fail
        refine (M _).mono ?_
        rintro _ w1 ⟨rfl, hb1⟩
        replace B1 := Lib.hid (B1.out.trans (hb1.mono B1.out.size))
        clear d0 d1 d2 d3 d4 c0 c1 c2 c3 c4 hb1
        go_wp2_with fail
        go_ret
        exact ⟨ret_iV bad.out.symm, B1.out⟩
    · obtain rfl : i = n := by omega
      have hv : V = 0 := by
       rw [hV.out]
       exact chkV_good (by have := hn.out; omega) (fun j hj => ho j (by have := hn.out; omega))
      replace hv := Lib.hid hv
      replace hb := Lib.hid hb
      clear ho
      go_wp2_with fail
      go_ret
      exact ⟨ret_iV hv.out.symm, hb.out⟩
def readyV (L : List Wv) (t : Bool) : Int := if chkV L ≠ 0 then chkV L else if t = false then 80 else 0
theorem readyV_zero {L : List Wv} {t : Bool} (h : readyV L t = 0) : chkV L = 0 ∧ t = true := by
 unfold readyV at h
 by_cases h1 : chkV L ≠ 0
 · rw [if_pos h1] at h; exact absurd h h1
 · rw [if_neg h1] at h
   cases t with
   | true => exact ⟨by simpa using h1, rfl⟩
   | false => rw [if_pos rfl] at h; omega
theorem wready_run (ao : Option Addr) (cap n : Nat) (L : List Wv) (t : Bool) (w : World) (hn : n = L.length) (hm : n ≤ 4611686018427387904) (hW : WvsW L) (ha : VAt w ao L) :
 Calls Tryz.prog 82 #[.slice ao n cap, .bool t] w fun e w' => e = .returned (.int .i64 (readyV L t)) ∧ Below w.heap.size w w' := by
 have C := Lib.hid (wcheck_run ao cap n L w hn hm hW ha)
 unfold readyV
 generalize chkV L = k at *
 clear hn hm hW ha
 by_cases hk : k = 0
 · subst hk
   rw [if_neg (by simp)]
   cases t with
   | false =>
     rw [if_pos rfl]
     go_enter Tryz.func82, Tryz.ntmps82
     go_wp2_with fail
     refine C.out.mono ?_
     rintro _ w1 ⟨rfl, hb1⟩
     replace hb1 := Lib.hid hb1
     clear C
     go_wp2_with fail
     go_ret
     exact ⟨rfl, hb1.out⟩
   | true =>
     rw [if_neg (by simp)]
     go_enter Tryz.func82, Tryz.ntmps82
     go_wp2_with fail
     refine C.out.mono ?_
     rintro _ w1 ⟨rfl, hb1⟩
     replace hb1 := Lib.hid hb1
     clear C
     go_wp2_with fail
     go_ret
     exact ⟨rfl, hb1.out⟩
 · have tk : (k != 0) = true := by simpa using hk
   rw [if_pos hk]
   clear hk
   go_enter Tryz.func82, Tryz.ntmps82
   go_wp2_with fail
   refine C.out.mono ?_
   rintro _ w1 ⟨rfl, hb1⟩
   replace hb1 := Lib.hid hb1
   clear C
   go_wp2_with fail
   go_ret
   exact ⟨rfl, hb1.out⟩
theorem wbrought_run {x : Nat} (hx : x < 18446744073709551616) (w : World) : Calls Tryz.prog 109 #[.float .f64 x] w fun e w' => e = .returned (.float .f64 (fnW x)) ∧ w = w' := by
 have CF := fun w => fit_any x hx w
 by_cases h : fitB x = true
 · have e : fnW x = x := by unfold fnW; rw [if_pos h]
   rw [e]
   rw [h] at CF
   clear h e hx
   go_enter Tryz.func109, Tryz.ntmps109
   go_wp2_with (go_at_call 72; ((with_reducible refine (CF _).mono ?_); rintro e w' ⟨rfl, rfl⟩))
   go_ret
   exact ⟨rfl, rfl⟩
 · have e : fnW x = 0 := by unfold fnW; rw [if_neg h]
   rw [e]
   rw [Bool.not_eq_true] at h
   rw [h] at CF
   clear h e hx
   go_enter Tryz.func109, Tryz.ntmps109
   go_wp2_with (go_at_call 72; ((with_reducible refine (CF _).mono ?_); rintro e w' ⟨rfl, rfl⟩))
   go_ret
   exact ⟨rfl, rfl⟩
theorem wsuref_run (x : Nat) (k : Int) (w : World) : Calls Tryz.prog 183 #[.float .f64 x, .int .i64 k] w fun e w' => e = .returned (.float .f64 x) ∧ w = w' := by
 go_enter Tryz.func183, Tryz.ntmps183
 go_wp2_with fail
 go_ret
 exact ⟨rfl, rfl⟩
theorem wcos_run {x : Nat} (hx : x < 18446744073709551616) (h : errA x = 0) (w : World) : Calls Tryz.prog 184 #[.float .f64 x] w fun e w' => e = .returned (.tuple #[.float .f64 (tC x), .int .i64 0]) ∧ Below w.heap.size w w' := by
 obtain ⟨s, c, T, C⟩ := uboth_ok hx h
 rw [(tS_eq T).2]
 exact ucos_run (Lib.hid C) w
end Go.Proofs.YtacinenddnfcbaaGreat

namespace Fma
open Go.Proofs.YtacinenddnfcbaaGreat Pol

end Fma

namespace Fma
open Go.Proofs.YtacinenddnfcbaaGreat Pol

theorem c_top_ {c s u : Rat} (u0 : 0 ≤ u) (hc : mag (c * c + s * s - 1) ≤ 33 * u) : -(1 + 33 * u) ≤ c ∧ c ≤ 1 + 33 * u := by
 have m := mag_le (c * c + s * s - 1)
 have s0 := sq_nn s
 have k := Rat.mul_nonneg u0 u0
 have e : (1 + 33 * u) * (1 + 33 * u) = 1 + 66 * u + 1089 * (u * u) := by grind
 have h : c * c ≤ (1 + 33 * u) * (1 + 33 * u) := by rw [e]; grind
 refine ⟨?_, sq_le_of (by grind) h⟩
 have := sq_le_of (x := -c) (y := 1 + 33 * u) (by grind) (by rw [show -c * -c = c * c by grind]; exact h)
 grind
end Fma
