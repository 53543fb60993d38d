/- Proved here: what the texts Hta prove, one behind the other. -/
import Derived.Test.YtnmadknpkhaolaaJz18
import Derived.Test.YtnmadknpkhaolaaJz9
import Derived.Test.YtnmadknpkhaolaaJz16

namespace Ieee.Own
open Ieee Go.Proofs.Ytnmadknpkhaolaa
theorem add_zero_w {a b : Nat} (ha : FinW a) (hb : FinW b) (h : V a + V b = 0) (hz : a < 9223372036854775808 ∨ b < 9223372036854775808) : double.add a b = some 0 := by
  have hsign : ∀ {c : Nat}, FinW c → ∀ {s : Bool} {m : Nat} {p : Int}, double.read c = .number s m p → (s = true ↔ 9223372036854775808 ≤ c) := by
    intro c hc s m p hr
    rw [read_num double c (by rw [sw64, inf64]; exact hc.2)] at hr
    simp only [Datum.number.injEq] at hr
    have h1 := hc.1
    rw [sw64] at hr
    rw [← hr.1]
    simp; omega
  obtain ⟨s, m, p, hr, hV, -⟩ := read_sv ha
  obtain ⟨t, n, q, hr', hV', -⟩ := read_sv hb
  have s1 := hsign ha hr
  have s2 := hsign hb hr'
  have hst : (s && t) = false := by
    cases s
    · rfl
    · cases t
      · rfl
      · have := s1.1 rfl; have := s2.1 rfl; omega
  unfold Format.add
  rw [hr, hr']
  simp only [Datum.sum, Option.map]
  have hal : _ = sv s m p + sv t n q := signed_align s t m n p q
  rw [← hV, ← hV', h] at hal
  generalize signed s m (-1074 + (p : Int) - min (-1074 + (p : Int)) (-1074 + (q : Int))).toNat + signed t n (-1074 + (q : Int) - min (-1074 + (p : Int)) (-1074 + (q : Int))).toNat = T at *
  have hT : T = 0 := by
    have hp : (0 : Int) < 2 ^ (min p q) := Int.pow_pos (by omega)
    rcases Int.mul_eq_zero.1 hal with h | h
    · exact h
    · omega
  subst hT
  simp only [if_true, hst]
  simp only [Format.write, Format.nearest, Int.natAbs_zero, if_true]
  congr 1
end Ieee.Own
namespace Go.Proofs.Ytnmadknpkhaolaa
open Go.ChangeShapes Go.WideShapes Go.ChangeAt Go.RowKit Ieee.Own Pol

/-! ### angles -/
def nrN (n : Nat) : Nat := FloatKind.f64.nearest (n : Int)
def angW (m n : Nat) : Nat := qX (nrN m) (nrN (4 * n))
def angB (m n : Nat) : Bool := decide (Ieee.double.div (nrN m) (nrN (4 * n)) = some (angW m n)) && decide (angW m n < 18446744073709551616) && decide (errA (angW m n) = 0)
theorem ang_all : ((List.range 16).all fun n => (List.range 466).all fun m => angB m (n + 1)) = true := by decide +kernel
structure AgO (m n : Nat) : Prop where
  run : Ieee.double.div (nrN m) (nrN (4 * n)) = some (angW m n)
  lt : angW m n < 18446744073709551616
  er : errA (angW m n) = 0
theorem ago {m n : Nat} (hm : m ≤ 465) (h0 : 0 < n) (hn : n ≤ 16) : AgO m n := by
  have h := ang_all
  rw [List.all_eq_true] at h
  have h1 := h (n - 1) (List.mem_range.2 (by omega))
  rw [List.all_eq_true] at h1
  have h2 := h1 m (List.mem_range.2 (by omega))
  rw [show n - 1 + 1 = n by omega] at h2
  unfold angB at h2
  simp only [Bool.and_eq_true, decide_eq_true_eq] at h2
  exact ⟨h2.1.1, h2.1.2, h2.2⟩
/-! ### cosines -/
open Classical in
noncomputable def csN (x : Nat) : Nat := if h : ∃ c s k, BothR x s c k then h.choose else 0
theorem csN_eq {x s c : Nat} {k : Int} (B : BothR x s c k) : csN x = c := by
  have e : ∃ c s k, BothR x s c k := ⟨c, s, k, B⟩
  unfold csN
  rw [dif_pos e]
  obtain ⟨t, l, D⟩ := e.choose_spec
  exact (D.uniq B).2.1
theorem trig_c {x s c : Nat} (A : Ang x) (T : Trig x s c) : Wd c 768 1075 := by
  obtain ⟨⟨r, R, e, f⟩, sz, cz⟩ := T
  have s := (R.rest A).sin_wd
  have c := (R.rest A).cos_wd
  have d : ∀ k : Int, (2 : Int) ^ 768 ∣ vq k (V (sinX r)) (V (cosX r)) ∧ (vq k (V (sinX r)) (V (cosX r))).natAbs ≤ 2 ^ 1075 := fun k => by
    have := s.abs
    have := c.abs
    unfold vq
    repeat' split
    · exact ⟨s.dvd, by omega⟩
    · exact ⟨c.dvd, by omega⟩
    · exact ⟨Int.dvd_neg.2 s.dvd, by omega⟩
    · exact ⟨Int.dvd_neg.2 c.dvd, by omega⟩
  exact ⟨cz.fin, by rw [f]; exact (d _).1, by rw [f]; exact (d _).2⟩
theorem csN_wd {m n : Nat} (A : AgO m n) : Wd (csN (angW m n)) 768 1075 := by
  obtain ⟨s, c, k, B, -⟩ := uboth_run A.lt
  rw [csN_eq B]
  have k0 : k = 0 := by rw [B.err, A.er]
  exact trig_c (errA_ang A.lt A.er) (B.ok k0)
/-! ### products both ways round -/
theorem mul_comm64 (a b : Nat) : Ieee.double.mul a b = Ieee.double.mul b a := by
  unfold Ieee.Format.mul
  congr 1
  generalize Ieee.double.read a = x
  generalize Ieee.double.read b = y
  cases x with
  | nan => cases y <;> rfl
  | infinity s =>
    cases y with
    | nan => rfl
    | infinity t => cases s <;> cases t <;> rfl
    | number t n i => simp only [Ieee.Datum.product]
  | number s m i =>
    cases y with
    | nan => rfl
    | infinity t => simp only [Ieee.Datum.product]
    | number t n j => simp only [Ieee.Datum.product, Bool.xor_comm, Nat.mul_comm, Int.add_comm]
/-! ### sums -/
structure Fs (s i : Nat) : Prop where
  wd : Wd s 516 (1116 + i)
  nz : Nz s
theorem fs_zero : Fs 0 0 := ⟨⟨zero_fin, by rw [V_zero]; exact Int.dvd_zero _, by rw [V_zero]; exact Nat.zero_le _⟩, ⟨zero_fin, by omega⟩⟩
theorem fc_wd {v : Nat} (h : Fc v) : Wd v 822 1114 := ⟨fit_fin h.lt h.fit, fit_822 h.lt h.fit, h.bd⟩
theorem V_le_of {a : Nat} (h : 9223372036854775808 ≤ a) : V a ≤ 0 := by
  unfold V
  rw [if_neg (by omega)]
  omega
theorem wd_z {r a b : Nat} (h : Nz a) (fb : FinW b) (e : Ieee.double.add a b = some r) (f : FinW r) (v : V r = RN (V a + V b)) : Nz r := by
  by_cases z : V r = 0
  · have s := RN_zero_iff (v.symm.trans z)
    have key : a < 9223372036854775808 ∨ b < 9223372036854775808 := by
      by_cases c : a < 9223372036854775808
      · exact .inl c
      · by_cases d : b < 9223372036854775808
        · exact .inr d
        · exfalso
          have ga := V_le_of (a := a) (by omega)
          have gb := V_le_of (a := b) (by omega)
          have za : V a = 0 := by omega
          have := h.zero za
          omega
    rw [add_zero_w h.fin fb s key] at e
    have : r = 0 := (Option.some.inj e).symm
    rw [this]
    exact ⟨zero_fin, by omega⟩
  · exact Nz.of f z
structure FsR (s v c i : Nat) : Prop where
  m : Ieee.double.mul v c = some (mX v c)
  a : Ieee.double.add s (mX v c) = some (aX s (mX v c))
  f : Fs (aX s (mX v c)) (i + 1)
theorem fs_step {s v c i : Nat} (S : Fs s i) (hi : i ≤ 20) (hv : Fc v) (hc : Wd c 768 1075) : FsR s v c i := by
  obtain ⟨m1, m2, -⟩ := (fc_wd hv).mul hc (by omega) (by omega) (by omega)
  have m3 : Wd (mX v c) 516 (1116 + i) := m2.le (by omega) (by omega)
  obtain ⟨a1, a2, -⟩ := S.wd.add m3 (by omega)
  obtain ⟨r, h1, h2, h3, -⟩ := addW S.wd.fin m3.fin S.wd.abs m3.abs (by omega)
  have er : aX s (mX v c) = r := by unfold aX; rw [h1]; rfl
  exact ⟨m1, a1, ⟨a2, wd_z S.nz m3.fin a1 a2.fin (by rw [er]; exact h3)⟩⟩
/-- twice a sum -/
theorem two_wd : Wd twoW 1075 1075 := ⟨twoW_V.1, by decide +kernel, by decide +kernel⟩
structure FsD (s : Nat) : Prop where
  m : Ieee.double.mul s twoW = some (mX s twoW)
  m2 : Ieee.double.mul twoW s = some (mX s twoW)
  wd : Wd (mX s twoW) 516 1140
  nz : Nz s → Nz (mX s twoW)
theorem fs_two {s i : Nat} (S : Fs s i) (hi : i ≤ 20) : FsD s := by
  obtain ⟨m1, m2, -⟩ := S.wd.mul two_wd (by omega) (by omega) (by omega)
  refine ⟨m1, by rw [mul_comm64]; exact m1, m2.le (by omega) (by omega), fun N => ?_⟩
  obtain ⟨r, h1, h2, h3⟩ := mulW S.wd.fin twoW_V.1 (N := 2 * V s) (by rw [twoW_V.2, ← Int.mul_assoc, Int.mul_comm _ 2]) (dbl_le (k := 1136) (l := 1137) (by omega) (Nat.le_trans S.wd.abs (two_le (a := 1116 + i) (b := 1136) (by omega)))) (by omega)
  have er : mX s twoW = r := by unfold mX; rw [h1]; rfl
  by_cases z : V (mX s twoW) = 0
  · have zz : RN (2 * V s) = 0 := by rw [← h3, ← er]; exact z
    have := RN_zero_iff zz
    have zs : V s = 0 := by omega
    have := N.zero zs
    subst this
    have e0 : mX 0 twoW = 0 := by decide +kernel
    rw [e0]
    exact ⟨zero_fin, by omega⟩
  · exact Nz.of m2.fin z
theorem nat_sc {n k : Nat} : ((n : Int) * 2 ^ k).natAbs = n * 2 ^ k := by rw [Int.natAbs_mul, Int.natAbs_pow]; rfl
theorem scale_lo {n k : Nat} (h : 0 < n) : 2 ^ k ≤ n * 2 ^ k := Nat.le_mul_of_pos_left _ h
theorem scale_bd {n k l m : Nat} (e : m = k + l) (h : n ≤ 2 ^ l) : n * 2 ^ k ≤ 2 ^ m := by
  subst e
  rw [Nat.pow_add, Nat.mul_comm]
  exact Nat.mul_le_mul_left _ h
/-- a whole number's word, normal -/
theorem nr_norm {n : Nat} (h0 : 0 < n) (hn : n ≤ 16) : ∃ k q, Norm (nrN n) false k q ∧ 1000 ≤ q ∧ q ≤ 1046 := by
  obtain ⟨f, v⟩ := of_int (n : Int) (by omega)
  have hv : V (nrN n) = (n : Int) * 2 ^ 1074 := v
  have f' : FinW (nrN n) := f
  have lo : 2 ^ 1074 ≤ (V (nrN n)).natAbs := by
    rw [hv, nat_sc]
    exact scale_lo (k := 1074) h0
  have hi : (V (nrN n)).natAbs ≤ 2 ^ 1080 := by
    rw [hv, nat_sc]
    exact scale_bd (k := 1074) (l := 6) (m := 1080) (by omega) (by omega)
  obtain ⟨s, m, p, N⟩ := is_norm f' lo (by omega)
  obtain ⟨p1, p2⟩ := norm_pl N lo hi (by omega) (by omega)
  have et : s = false := by
    cases s
    · rfl
    · have w := N.val
      have g := (sv_sign true m p).1 rfl
      have p0 := pow1 1074
      have : 0 < V (nrN n) := by rw [hv]; exact Int.mul_pos (by omega) p0
      omega
  subst et
  exact ⟨m, p, N, by omega, by omega⟩
structure FsQ (s n : Nat) : Prop where
  q : Ieee.double.div s (nrN n) = some (qX s (nrN n))
  nz : Nz (qX s (nrN n))
theorem fs_quo {s n : Nat} (W : Wd s 516 1140) (N : Nz s) (h0 : 0 < n) (hn : n ≤ 16) : FsQ s n := by
  obtain ⟨k, q, D, d1, d2⟩ := nr_norm h0 hn
  by_cases z : V s = 0
  · have := N.zero z
    subst this
    have nz : V (nrN n) ≠ 0 := by
      have w := D.val
      rw [sv_f] at w
      rw [w]
      have := Nat.mul_pos (show 0 < k by have := D.lo; omega) (Nat.two_pow_pos q)
      omega
    obtain ⟨r, h1, h2, h3⟩ := div_zero zero_fin V_zero D.fin nz
    have er : qX 0 (nrN n) = r := by unfold qX; rw [h1]; rfl
    have all : ((List.range 16).all fun m => decide (qX 0 (nrN (m + 1)) = 0)) = true := by decide +kernel
    rw [List.all_eq_true] at all
    have e0 := all (n - 1) (List.mem_range.2 (by omega))
    rw [show n - 1 + 1 = n by omega, decide_eq_true_eq] at e0
    refine ⟨by rw [er]; exact h1, ?_⟩
    rw [e0]
    exact ⟨zero_fin, by omega⟩
  · have lo := pow_abs_dvd W.dvd z
    obtain ⟨t, m, p, M⟩ := is_norm W.fin lo (by omega)
    obtain ⟨p1, p2⟩ := norm_pl M lo W.abs (by omega) (by omega)
    obtain ⟨r, Q, u, q1, q2, q3, u1, u2, Q1, Q2, -, -⟩ := div_spec M D (by omega) (by omega)
    have er : qX s (nrN n) = r := by unfold qX; rw [q1]; rfl
    refine ⟨by rw [er]; exact q1, ?_⟩
    rw [er]
    refine Nz.of q2 ?_
    rw [q3]
    have c2 := Nat.mul_pos (show 0 < Q by omega) (Nat.two_pow_pos (1074 + p - q - u))
    cases (t ^^ false)
    · rw [sv_f]; omega
    · rw [sv_t]; omega
/-! ### what Fit answers -/
noncomputable def sumF (j n : Nat) : List Nat → Nat → Nat → Nat
  | [], _, s => s
  | v :: vs, k, s => sumF j n vs (k + 1) (aX s (mX v (csN (angW (j * (2 * k + 1)) n))))
noncomputable def ftS (j : Nat) (L : List Nat) : Nat := sumF j L.length L 0 0
noncomputable def ftW (j : Nat) (L : List Nat) : Nat := bgW (qX (if 0 < j then mX (ftS j L) twoW else ftS j L) (nrN L.length))
noncomputable def ftL (L : List Nat) : List Nat := (List.range L.length).map fun j => ftW j L
theorem sumF_fs {j n : Nat} (hj : j < n) (hn : n ≤ 16) : ∀ (L : List Nat) (k s : Nat), (∀ v ∈ L, Fc v) → k + L.length = n → Fs s k → Fs (sumF j n L k s) n
  | [], k, s, _, h, S => by
    have : k = n := by simpa using h
    rw [← this]; exact S
  | v :: L, k, s, hv, h, S => by
    have hk : k < n := by simp at h; omega
    have b : j * (2 * k + 1) ≤ 465 := Nat.le_trans (Nat.mul_le_mul (show j ≤ 15 by omega) (show 2 * k + 1 ≤ 31 by omega)) (by decide)
    exact sumF_fs hj hn L (k + 1) _ (fun u hu => hv u (List.mem_cons_of_mem _ hu)) (by simp at h; omega) (fs_step S (by omega) (hv v (List.mem_cons_self ..)) (csN_wd (ago b (by omega) hn))).f
structure FtO (j : Nat) (L : List Nat) : Prop where
  s : Fs (ftS j L) L.length
  d : FsD (ftS j L)
  q : FsQ (if 0 < j then mX (ftS j L) twoW else ftS j L) L.length
  q1 : Ieee.double.div (mX (ftS j L) twoW) (nrN L.length) = some (qX (mX (ftS j L) twoW) (nrN L.length))
  nz : Nz (ftW j L)
theorem ft_ok {j : Nat} {L : List Nat} (h : ∀ v ∈ L, Fc v) (hl : L.length ≤ 16) (hj : j < L.length) : FtO j L := by
  have S := sumF_fs hj hl L 0 0 h (by omega) fs_zero
  have D := fs_two S (by omega)
  have Q1 := fs_quo D.wd (D.nz S.nz) (show 0 < L.length by omega) hl
  have Q : FsQ (if 0 < j then mX (ftS j L) twoW else ftS j L) L.length := by
    by_cases c : 0 < j
    · rw [if_pos c]; exact Q1
    · rw [if_neg c]; exact fs_quo (S.wd.le (by omega) (by omega)) S.nz (by omega) hl
  exact ⟨S, D, Q, Q1.q, bg_nz Q.nz⟩
end Go.Proofs.Ytnmadknpkhaolaa
