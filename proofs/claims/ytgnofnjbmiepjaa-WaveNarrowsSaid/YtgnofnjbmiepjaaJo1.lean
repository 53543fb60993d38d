/- Proved here: what the texts Oma, Omc, Omd prove, one behind the other. -/
import Derived.Test.YtgnofnjbmiepjaaJm
import Derived.Test.YtgnofnjbmiepjaaJb6

namespace Ply

/-- no faster than L -/
def Lip (f : Rat → Rat) (a b L : Rat) : Prop := ∀ x y, a ≤ x → x ≤ y → y ≤ b → -(L * (y - x)) ≤ f y - f x ∧ f y - f x ≤ L * (y - x)

theorem Lip.join {f : Rat → Rat} {a b d L : Rat} (h : Lip f a b L) (g : Lip f b d L) : Lip f a d L := by
  intro x y h1 h2 h3
  rcases Rat.le_total (a := y) (b := b) with c | c
  · exact h x y h1 h2 c
  rcases Rat.le_total (a := b) (b := x) with c' | c'
  · exact g x y c' h2 h3
  · have u := h x b h1 c' Rat.le_refl
    have v := g b y Rat.le_refl c h3
    constructor <;> grind
theorem lip_poly {p : P} {c B L : Rat} (hL : slope B (shift c 1 p) ≤ L) : Lip (ev p) (c - B) (c + B) L := by
  intro x y h1 h2 h3
  obtain ⟨d, hd, l, u⟩ := rise (B := B) (x := x - c) (y := y - c) (by grind) (by grind) (by grind) (by grind) (shift c 1 p)
  rw [ev_shift, ev_shift, show c + 1 * (y - c) = y by grind, show c + 1 * (x - c) = x by grind] at hd
  have a : 0 ≤ (y - x) * (L - d) := Rat.mul_nonneg (by grind) (by grind)
  have b : 0 ≤ (y - x) * (L + d) := Rat.mul_nonneg (by grind) (by grind)
  constructor <;> grind
theorem Lip.le {f : Rat → Rat} {a b L M : Rat} (h : Lip f a b L) (k : L ≤ M) : Lip f a b M := by
  intro x y h1 h2 h3
  have u := h x y h1 h2 h3
  have a : 0 ≤ (M - L) * (y - x) := Rat.mul_nonneg (by grind) (by grind)
  constructor <;> grind
theorem Lip.neg {f : Rat → Rat} {a b L : Rat} (h : Lip f a b L) : Lip (fun x => -f x) a b L := by
  intro x y h1 h2 h3
  have u := h x y h1 h2 h3
  constructor <;> grind
theorem Lip.cong {f : Rat → Rat} {a b L a' b' : Rat} (h : Lip f a b L) (ha : a = a') (hb : b = b') : Lip f a' b' L := by subst ha; subst hb; exact h

def fast : Rat := 27 / 25

theorem s_lip : Lip s (-top) top fast := by
  have h1 : Lip s (-top) (-(top / 2)) fast := (lip_poly (p := sinP 18) (c := -(3 * top / 4)) (B := top / 4) (by decide +kernel)).cong (by grind) (by grind)
  have h2 : Lip s (-(top / 2)) (top / 2) fast := (lip_poly (p := sinP 18) (c := 0) (B := top / 2) (by decide +kernel)).cong (by grind) (by grind)
  have h3 : Lip s (top / 2) top fast := (lip_poly (p := sinP 18) (c := 3 * top / 4) (B := top / 4) (by decide +kernel)).cong (by grind) (by grind)
  exact (h1.join h2).join h3
theorem c_lip : Lip c (-top) top fast :=
  ((lip_poly (p := cosP 18) (c := 0) (B := top) (by decide +kernel)).cong (by grind) (by grind) : Lip c (-top) top fast)
theorem sq_lip (k : Int) : Lip (sq k) (-top) top fast := by
  rcases (by omega : k % 4 = 0 ∨ k % 4 = 1 ∨ k % 4 = 2 ∨ k % 4 = 3) with h | h | h | h
  · rw [show sq k = s by funext y; simp [sq, h]]; exact s_lip
  · rw [show sq k = c by funext y; simp [sq, h]]; exact c_lip
  · rw [show sq k = fun y => -s y by funext y; simp [sq, h]]; exact s_lip.neg
  · rw [show sq k = fun y => -c y by funext y; simp [sq, h]]; exact c_lip.neg
/-- across a quarter's edge -/
theorem edge (j : Int) : sq (j + 1) (-top) - eps ≤ sq j top ∧ sq j top ≤ sq (j + 1) (-top) + eps := by
  have e := eighth
  rcases (by omega : j % 4 = 0 ∨ j % 4 = 1 ∨ j % 4 = 2 ∨ j % 4 = 3) with h | h | h | h
  · have h2 : (j + 1) % 4 = 1 := by omega
    simp only [sq, h, h2, c_neg, s_neg]; constructor <;> grind
  · have h2 : (j + 1) % 4 = 2 := by omega
    simp only [sq, h, h2, c_neg, s_neg]; constructor <;> grind
  · have h2 : (j + 1) % 4 = 3 := by omega
    simp only [sq, h, h2, c_neg, s_neg]; constructor <;> grind
  · have h2 : (j + 1) % 4 = 0 := by omega
    simp only [sq, h, h2, c_neg, s_neg]; constructor <;> grind
def quick : Rat := tau * fast
theorem eps_nn : 0 ≤ eps := by decide +kernel
theorem tau_nn : 0 ≤ tau := by decide +kernel
theorem quick_nn : 0 ≤ quick := by decide +kernel
theorem quick_lo : 6 ≤ quick := by decide +kernel
/-- within one quarter -/
theorem sq_lip_in (k : Int) {r t : Rat} (r1 : -(1/8) ≤ r) (h : r ≤ t) (t2 : t ≤ 1/8) : -(quick * (t - r)) ≤ sq k (tau * t) - sq k (tau * r) ∧ sq k (tau * t) - sq k (tau * r) ≤ quick * (t - r) := by
  have b := top_mul r1 (by grind)
  have b' := top_mul (r := t) (by grind) t2
  have m : 0 ≤ tau * (t - r) := Rat.mul_nonneg tau_nn (by grind)
  have u := sq_lip k (tau * r) (tau * t) b.1 (by grind) b'.2
  have e : quick * (t - r) = fast * (tau * t - tau * r) := by unfold quick; grind
  rw [e]; exact u
theorem tau_top : tau * (1/8) = top := by rw [top_eq]; grind
theorem tau_top' : tau * (-(1/8)) = -top := by rw [top_eq]; grind
/-- from one quarter into the next -/
theorem sq_lip_one {j : Int} {r t : Rat} (r1 : -(1/8) ≤ r) (r2 : r ≤ 1/8) (t1 : -(1/8) ≤ t) (t2 : t ≤ 1/8) :
    -(quick * (1/4 + t - r) + eps) ≤ sq (j + 1) (tau * t) - sq j (tau * r) ∧ sq (j + 1) (tau * t) - sq j (tau * r) ≤ quick * (1/4 + t - r) + eps := by
  have a := sq_lip_in j r1 r2 Rat.le_refl
  have b := sq_lip_in (j + 1) Rat.le_refl t1 t2
  have e := edge j
  rw [tau_top] at a
  rw [tau_top'] at b
  constructor <;> grind
theorem sq_lip_two {j : Int} {r t : Rat} (r1 : -(1/8) ≤ r) (r2 : r ≤ 1/8) (t1 : -(1/8) ≤ t) (t2 : t ≤ 1/8) :
    -(quick * (1/2 + t - r) + 2 * eps) ≤ sq (j + 2) (tau * t) - sq j (tau * r) ∧ sq (j + 2) (tau * t) - sq j (tau * r) ≤ quick * (1/2 + t - r) + 2 * eps := by
  have a := sq_lip_one (j := j) (t := 1/8) r1 r2 (by grind) (by grind)
  have b := sq_lip_one (j := j + 1) (r := 1/8) (by grind) (by grind) t1 t2
  rw [show j + 1 + 1 = j + 2 by omega] at b
  constructor <;> grind
/-- the sine moves no faster than 27/25 of the way -/
theorem sine_lip {x y r t : Rat} {j k : Int} (hx : Says x j r) (hy : Says y k t) (h : x ≤ y) :
    -(quick * (y - x) + 2 * eps) ≤ sq k (tau * t) - sq j (tau * r) ∧ sq k (tau * t) - sq j (tau * r) ≤ quick * (y - x) + 2 * eps := by
  have e0 := eps_nn
  obtain ⟨ex, r1, r2⟩ := hx
  obtain ⟨ey, t1, t2⟩ := hy
  have a1 := sq_le_one (top_mul r1 r2).1 (top_mul r1 r2).2 j
  have b1 := sq_le_one (top_mul t1 t2).1 (top_mul t1 t2).2 k
  by_cases far : 1/3 ≤ y - x
  · have q := quick_lo
    have m : 0 ≤ (quick - 6) * (y - x - 1/3) := Rat.mul_nonneg (by grind) (by grind)
    constructor <;> grind
  · obtain ⟨n, hn⟩ : ∃ n : Int, n = k - j := ⟨_, rfl⟩
    have en : (n : Rat) = (k : Rat) - (j : Rat) := by rw [hn, Rat.intCast_sub]
    have el : -2 < n := by
      have e : ((-2 : Int) : Rat) = -2 := by decide +kernel
      exact int_lt (by grind)
    have eu : n < 3 := by
      have e : ((3 : Int) : Rat) = 3 := by decide +kernel
      exact int_lt (by grind)
    rcases (by omega : n = -1 ∨ n = 0 ∨ n = 1 ∨ n = 2) with q | q | q | q
    · have e : ((-1 : Int) : Rat) = -1 := by decide +kernel
      rw [q, e] at en
      obtain rfl : t = 1/8 := by grind
      obtain rfl : r = -(1/8) := by grind
      obtain rfl : j = k + 1 := by omega
      have u := edge k
      have z : quick * (y - x) = 0 := by rw [show y - x = 0 by grind]; grind
      rw [tau_top, tau_top', z]
      constructor <;> grind
    · have e : ((0 : Int) : Rat) = 0 := by decide +kernel
      rw [q, e] at en
      obtain rfl : k = j := by omega
      have u := sq_lip_in k r1 (by grind) t2
      have z : y - x = t - r := by grind
      rw [z]
      constructor <;> grind
    · have e : ((1 : Int) : Rat) = 1 := by decide +kernel
      rw [q, e] at en
      obtain rfl : k = j + 1 := by omega
      have u := sq_lip_one (j := j) r1 r2 t1 t2
      have z : y - x = 1/4 + t - r := by grind
      rw [z]
      constructor <;> grind
    · have e : ((2 : Int) : Rat) = 2 := by decide +kernel
      rw [q, e] at en
      obtain rfl : k = j + 2 := by omega
      have u := sq_lip_two (j := j) r1 r2 t1 t2
      have z : y - x = 1/2 + t - r := by grind
      rw [z]
      exact u
end Ply

namespace Go.Proofs.Ytgnofnjbmiepjaa
open Ieee Ieee.Own

end Go.Proofs.Ytgnofnjbmiepjaa

namespace Ply

end Ply
