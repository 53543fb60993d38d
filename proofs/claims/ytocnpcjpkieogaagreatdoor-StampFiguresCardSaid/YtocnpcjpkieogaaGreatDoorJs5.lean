/- Proved here: what the texts Sua, Sub, Suc, Sud, Sue, Suj, Suf, Suh, Slb prove, one behind the other. -/
import Derived.Test.YtocnpcjpkieogaaGreatDoorJs1
import Derived.BigQuiet
import Derived.Deep.QuietTactic
import Derived.Handy
import Derived.Test.YtocnpcjpkieogaaGreatDoorJs3
import Derived.Test.YtocnpcjpkieogaaGreatDoorJs4
import Derived.Shelf.Strconv.Itoa2
import Derived.ArgAppend
import Derived.Test.YtocnpcjpkieogaaGreatDoorCards
import Derived.Test.YtocnpcjpkieogaaGreatDoorTie
import Derived.Lib.LaidU8

namespace Go.Proofs.YtocnpcjpkieogaaGreatDoor
open Go.ChangeShapes Go.WideShapes Go.ChangeAt Go.RowKit

/-! ### mathematics -/
/-- a number with its lowest bit set where b is 1 -/
def or1 (a b : Nat) : Nat := if b = 1 ∧ a % 2 = 0 then a + 1 else a
/-- four times N / D, its lowest bit told -/
def unr (N D : Nat) : Nat := or1 (4 * N / D) (if 4 * N % D = 0 then 0 else 1)
def rneD (N D : Nat) : Nat := N / D + (if D < 2 * (N % D) ∨ (D = 2 * (N % D) ∧ N / D % 2 = 1) then 1 else 0)
theorem rneD_pow (N k : Nat) : rneD N (2 ^ k) = rneN N k := rfl
theorem or1_le (a b : Nat) : a ≤ or1 a b ∧ or1 a b ≤ a + 1 := by
  unfold or1; split <;> omega
theorem or1_z (a : Nat) : or1 a 0 = a := if_neg (fun h => by cases h.1)
theorem or1_o {a : Nat} (h : a % 2 = 1) (b : Nat) : or1 a b = a := if_neg (fun k => by omega)
theorem or1_e {a : Nat} (h : a % 2 = 0) : or1 a 1 = a + 1 := if_pos ⟨rfl, h⟩
theorem or1_11 (a b : Nat) : or1 (or1 a 1) b = or1 a 1 := by
  rcases Nat.mod_two_eq_zero_or_one a with h | h
  · rw [or1_e h, or1_o (by omega)]
  · rw [or1_o h, or1_o h]
theorem or1_ten0 (q : Nat) (h : q % 10 = 0) : or1 (or1 (or1 q 0 / 10) (or1 q 0 % 2)) (if or1 q 0 % 10 = 0 then 0 else 1) = or1 (q / 10) 0 := by
  rw [or1_z, or1_z, if_pos h, or1_z, show q % 2 = 0 by omega, or1_z]
theorem or1_ten1 (q : Nat) (h : ¬ q % 10 = 0) : or1 (or1 (or1 q 0 / 10) (or1 q 0 % 2)) (if or1 q 0 % 10 = 0 then 0 else 1) = or1 (q / 10) 1 := by
  rw [or1_z, if_neg h]
  rcases Nat.mod_two_eq_zero_or_one q with k | k
  · rw [k, or1_z]
  · rw [k, or1_11]
theorem or1_ten2 (q : Nat) : or1 (or1 (or1 q 1 / 10) (or1 q 1 % 2)) (if or1 q 1 % 10 = 0 then 0 else 1) = or1 (q / 10) 1 := by
  rcases Nat.mod_two_eq_zero_or_one q with k | k
  · rw [or1_e k, show (q + 1) % 2 = 1 by omega, or1_11, show (q + 1) / 10 = q / 10 by omega]
  · rw [or1_o k, k, or1_11]
/-- a tenth of it -/
theorem unr_div {N D : Nat} (hD : 0 < D) : or1 (or1 (unr N D / 10) (unr N D % 2)) (if unr N D % 10 = 0 then 0 else 1) = unr N (10 * D) := by
  unfold unr
  obtain ⟨q, hq⟩ : ∃ q, q = 4 * N / D := ⟨_, rfl⟩
  obtain ⟨r, hr⟩ : ∃ r, r = 4 * N % D := ⟨_, rfl⟩
  have e1 : 4 * N / (10 * D) = q / 10 := by rw [hq, Nat.mul_comm 10 D, Nat.div_div_eq_div_mul]
  have e2 : 4 * N % (10 * D) = D * (q % 10) + r := by rw [Nat.mul_comm 10 D, Nat.mod_mul, ← hq, ← hr, Nat.add_comm]
  rw [e1, e2, ← hq, ← hr]
  have e3 : D * (q % 10) + r = 0 ↔ q % 10 = 0 ∧ r = 0 := by
    constructor
    · intro h
      have h1 : D * (q % 10) = 0 := by omega
      have h2 : r = 0 := by omega
      rcases Nat.mul_eq_zero.1 h1 with h | h
      · omega
      · exact ⟨h, h2⟩
    · rintro ⟨h1, h2⟩; rw [h1, h2]; rfl
  clear e1 e2 hq hr
  by_cases h : r = 0
  · by_cases h2 : q % 10 = 0
    · rw [if_pos h, if_pos (e3.2 ⟨h2, h⟩)]
      exact or1_ten0 q h2
    · rw [if_pos h, if_neg (fun x => h2 (e3.1 x).1)]
      exact or1_ten1 q h2
  · rw [if_neg h, if_neg (fun x => h (e3.1 x).2)]
    exact or1_ten2 q
/-- rounded to the nearest -/
theorem unr_round {N D : Nat} (hD : 0 < D) : (unr N D + 1 + unr N D / 4 % 2) / 4 = rneD N D := by
  unfold unr rneD
  obtain ⟨q, hq⟩ : ∃ q, q = 4 * N / D := ⟨_, rfl⟩
  obtain ⟨r, hr⟩ : ∃ r, r = 4 * N % D := ⟨_, rfl⟩
  obtain ⟨f, hf⟩ : ∃ f, f = N / D := ⟨_, rfl⟩
  obtain ⟨p, hp⟩ : ∃ p, p = N % D := ⟨_, rfl⟩
  have h1 : D * q + r = 4 * N := by rw [hq, hr]; exact Nat.div_add_mod _ _
  have h2 : D * f + p = N := by rw [hf, hp]; exact Nat.div_add_mod _ _
  have h3 : r < D := by rw [hr]; exact Nat.mod_lt _ hD
  have h4 : p < D := by rw [hp]; exact Nat.mod_lt _ hD
  have h5 : q / 4 = f := by rw [hq, hf, Nat.div_div_eq_div_mul, Nat.mul_comm D 4, Nat.mul_div_mul_left _ _ (by decide)]
  rw [← hq, ← hr, ← hf, ← hp]
  clear hq hr hf hp
  obtain ⟨t, ht, ht4⟩ : ∃ t, q = 4 * f + t ∧ t < 4 := ⟨q % 4, by omega, by omega⟩
  subst ht
  clear h5
  have h6 : D * (4 * f + t) = 4 * (D * f) + D * t := by rw [Nat.mul_add, Nat.mul_left_comm]
  rw [h6] at h1
  generalize D * f = G at *
  have ht' : t = 0 ∨ t = 1 ∨ t = 2 ∨ t = 3 := by omega
  rcases ht' with rfl | rfl | rfl | rfl
  · by_cases h : r = 0
    · rw [if_pos h, or1_z]
      rw [if_neg (by omega)]; omega
    · rw [if_neg h, or1_e (by omega)]
      rw [if_neg (by omega)]; omega
  · have : or1 (4 * f + 1) (if r = 0 then 0 else 1) = 4 * f + 1 := or1_o (by omega) _
    rw [this, if_neg (by omega)]; omega
  · by_cases h : r = 0
    · rw [if_pos h, or1_z]
      by_cases k : f % 2 = 1
      · rw [if_pos (by omega)]; omega
      · rw [if_neg (by omega)]; omega
    · rw [if_neg h, or1_e (by omega)]
      rw [if_pos (by omega)]; omega
  · have : or1 (4 * f + 3) (if r = 0 then 0 else 1) = 4 * f + 3 := or1_o (by omega) _
    rw [this, if_pos (by omega)]; omega
/-! ### short calls -/
set_option maxRecDepth 100000 in
theorem b2i_run (b : Bool) (w : World) : Calls Tryz.prog 112 #[.bool b] w fun e w' => e = .returned (.int .i64 (if b = true then 1 else 0)) ∧ w = w' := by
  cases b
  · go_enter Tryz.func112, Tryz.ntmps112
    go_wp2_with fail
    go_ret
    exact ⟨rfl, rfl⟩
  · go_enter Tryz.func112, Tryz.ntmps112
    go_wp2_with fail
    go_ret
    exact ⟨rfl, rfl⟩
set_option maxRecDepth 100000 in
theorem b2u_run (b : Bool) (w : World) : Calls Tryz.prog 137 #[.bool b] w fun e w' => e = .returned (.int .u64 (if b = true then 1 else 0)) ∧ w = w' := by
  cases b
  · go_enter Tryz.func137, Tryz.ntmps137
    go_wp2_with fail
    go_ret
    exact ⟨rfl, rfl⟩
  · go_enter Tryz.func137, Tryz.ntmps137
    go_wp2_with fail
    go_ret
    exact ⟨rfl, rfl⟩
set_option maxRecDepth 100000 in
theorem b2r_run (b : Bool) (w : World) : Calls Tryz.prog 145 #[.bool b] w fun e w' => e = .returned (.int .u64 (if b = true then 1 else 0)) ∧ w = w' := by
  cases b
  · go_enter Tryz.func145, Tryz.ntmps145
    go_wp2_with fail
    go_ret
    exact ⟨rfl, rfl⟩
  · go_enter Tryz.func145, Tryz.ntmps145
    go_wp2_with fail
    go_ret
    exact ⟨rfl, rfl⟩
def lg10 (x : Int) : Int := x * 78913 / 262144
def lg2 (x : Int) : Int := x * 108853 / 32768
set_option maxRecDepth 100000 in
theorem lg10_run (x : Int) (h1 : -100000 ≤ x) (h2 : x ≤ 100000) (w : World) : Calls Tryz.prog 78 #[.int .i64 x] w fun e w' => e = .returned (.int .i64 (lg10 x)) ∧ w = w' := by
  unfold lg10
  go_enter Tryz.func78, Tryz.ntmps78
  go_wp2_with fail
  go_ret
  exact ⟨rfl, rfl⟩
set_option maxRecDepth 100000 in
theorem lg2_run (x : Int) (h1 : -100000 ≤ x) (h2 : x ≤ 100000) (w : World) : Calls Tryz.prog 105 #[.int .i64 x] w fun e w' => e = .returned (.int .i64 (lg2 x)) ∧ w = w' := by
  unfold lg2
  go_enter Tryz.func105, Tryz.ntmps105
  go_wp2_with fail
  go_ret
  exact ⟨rfl, rfl⟩
set_option maxRecDepth 100000 in
theorem unmin_run (x : Nat) (h1 : 1 ≤ x) (h2 : x < 4611686018427387904) (w : World) : Calls Tryz.prog 113 #[.int .u64 (x : Int)] w fun e w' => e = .returned (.int .u64 ((4 * x - 2 : Nat) : Int)) ∧ w = w' := by
  have e1 : Hid ((x : Int) * 4 - 2 = ((4 * x - 2 : Nat) : Int)) := by show _ = _; omega
  have g1 : 1 ≤ (x : Int) := by omega
  have g2 : (x : Int) ≤ 4611686018427387903 := by omega
  rw [← e1.out]
  clear h1 h2
  go_enter Tryz.func113, Tryz.ntmps113
  go_wp2_with fail
  go_ret
  exact ⟨rfl, rfl⟩
set_option maxRecDepth 100000 in
theorem uround_run (u : Nat) (h : u < 9223372036854775808) (w : World) : Calls Tryz.prog 110 #[.int .u64 (u : Int)] w fun e w' => e = .returned (.int .u64 (((u + 1 + u / 4 % 2) / 4 : Nat) : Int)) ∧ w = w' := by
  have a1 := sc_and1 (u / 4) (by omega)
  rw [show ((u / 4 : Nat) : Int) = (u : Int) / 4 by omega] at a1
  have g2 : (u : Int) ≤ 9223372036854775807 := by omega
  have e1 : Hid (((u : Int) + 1 + ((u / 4 % 2 : Nat) : Int)) / 4 = (((u + 1 + u / 4 % 2) / 4 : Nat) : Int)) := by show _ = _; omega
  rw [← e1.out]
  have g3 : 0 ≤ ((u / 4 % 2 : Nat) : Int) := by omega
  have g4 : ((u / 4 % 2 : Nat) : Int) ≤ 1 := by omega
  generalize ((u / 4 % 2 : Nat) : Int) = c at *
  clear h
  go_enter Tryz.func110, Tryz.ntmps110
  go_wp2_with fail
  go_ret
  exact ⟨rfl, rfl⟩
end Go.Proofs.YtocnpcjpkieogaaGreatDoor

namespace Go.Proofs.YtocnpcjpkieogaaGreatDoor
open Go.ChangeShapes Go.WideShapes Go.ChangeAt Go.RowKit

theorem nat_or1 (a b : Nat) (hb : b ≤ 1) : a ||| b = or1 a b := by
  have h : b = 0 ∨ b = 1 := by omega
  rcases h with rfl | rfl
  · rw [Nat.or_zero, or1_z]
  · have h0 := Nat.two_pow_add_eq_or_of_lt (i := 1) (b := 1) (by decide) (a / 2)
    rw [Nat.pow_one] at h0
    rcases Nat.mod_two_eq_zero_or_one a with k | k
    · have e : 2 * (a / 2) = a := by omega
      rw [e] at h0
      rw [← h0, or1_e k]
    · have e : 2 * (a / 2) + 1 = a := by omega
      rw [or1_o k]
      rw [e] at h0
      rw [h0, Nat.or_assoc, Nat.or_self]
theorem or1_u64 (a b : Nat) (ha : a < 18446744073709551616) (hb : b ≤ 1) : bits BinOp.or IntKind.u64 (a : Int) (b : Int) = ((or1 a b : Nat) : Int) := by
  rw [u64_or_nat a b ha (by omega), nat_or1 a b hb]
set_option maxRecDepth 100000 in
set_option maxHeartbeats 1000000 in
theorem udiv_run (u : Nat) (h : u < 9223372036854775808) (w : World) : Calls Tryz.prog 114 #[.int .u64 (u : Int), .int .u64 10] w fun e w' => e = .returned (.int .u64 ((or1 (or1 (u / 10) (u % 2)) (if u % 10 = 0 then 0 else 1) : Nat) : Int)) ∧ ∃ n, w' = w.drewN n := by
  have a1 := sc_and1 u (by omega)
  have a2 := or1_u64 (u / 10) (u % 2) (by omega) (by omega)
  have l1 := or1_le (u / 10) (u % 2)
  obtain ⟨c, hc⟩ : ∃ c, c = if u % 10 = 0 then 0 else 1 := ⟨_, rfl⟩
  have a3 := or1_u64 (or1 (u / 10) (u % 2)) c (by omega) (by rw [hc]; split <;> omega)
  rw [← hc]
  have C := Lib.hid (fun w => b2r_run ((u : Int) % 10 != 0) w)
  have hc2 : (if ((u : Int) % 10 != 0) = true then (1 : Int) else 0) = (c : Int) := by
    rw [hc]
    by_cases k : u % 10 = 0
    · rw [if_pos k, if_neg (by simp; omega)]; rfl
    · rw [if_neg k, if_pos (by simp; omega)]; rfl
  rw [hc2] at C
  rw [show ((u / 10 : Nat) : Int) = (u : Int) / 10 by omega] at a2
  generalize u % 2 = v at *
  generalize or1 (or1 (u / 10) v) c = r3 at *
  generalize or1 (u / 10) v = r2 at *
  have g2 : (u : Int) ≤ 9223372036854775807 := by omega
  clear h hc hc2 l1
  go_enter Tryz.func114, Tryz.ntmps114
  go_wp2_with fail
  go_quiet ((go_at_call 145; with_reducible refine quiet_as (C.out _)))
  go_wp2_with fail
  go_ret
  exact ⟨rfl, _, rfl⟩
/-- a number times a factor of two words, its lowest bit told -/
def usc (x a b s : Nat) : Nat :=
  if x * a / 18446744073709551616 % 2 ^ s = 0 then
    or1 ((if x * a % 18446744073709551616 < x * b / 18446744073709551616 then x * a / 18446744073709551616 - 1 else x * a / 18446744073709551616) / 2 ^ s) (if 1 < (x * a % 18446744073709551616 + 18446744073709551616 - x * b / 18446744073709551616) % 18446744073709551616 then 1 else 0)
  else or1 (x * a / 18446744073709551616 / 2 ^ s) 1
theorem u64_wrapN (n : Nat) : IntKind.u64.wrap (n : Int) = ((n % 18446744073709551616 : Nat) : Int) := by
  simp [IntKind.wrap, IntKind.bits, IntKind.signed]
theorem pow_div_mul (h s : Nat) : (h : Int) / 2 ^ s * 2 ^ s = ((h / 2 ^ s * 2 ^ s : Nat) : Int) := by simp
set_option maxHeartbeats 2000000 in
set_option maxRecDepth 100000 in
theorem uscale_run (x a b s c : Nat) (hx : x < 18446744073709551616) (ha : a < 18446744073709551616) (hb : b < 18446744073709551616) (hs : s ≤ 63) (hm : x * a % 18446744073709551616 < x * b / 18446744073709551616 → 1 ≤ x * a / 18446744073709551616) (w : World)
    (c0 : w.cell? ⟨c, 0, none⟩ = some (.int .u64 (a : Int))) (c1 : w.cell? ⟨c, 1, none⟩ = some (.int .u64 (b : Int))) (c2 : w.cell? ⟨c, 2, none⟩ = some (.int .i64 (s : Int))) :
    Calls Tryz.prog 106 #[.int .u64 (x : Int), .pointer (some ⟨c, 0, none⟩)] w fun e w' => e = .returned (.int .u64 (usc x a b s : Int)) ∧ ∃ n, w' = w.drewN n := by
  have M1 := Lib.hid (fun w => sc_mul x a hx ha w)
  have M2 := Lib.hid (fun w => sc_mul x b hx hb w)
  unfold usc
  have hh : x * a / 18446744073709551616 < 18446744073709551616 := by
    rw [Nat.div_lt_iff_lt_mul (by decide)]; exact Nat.mul_lt_mul'' hx ha
  have hm2 : x * b / 18446744073709551616 < 18446744073709551616 := by
    rw [Nat.div_lt_iff_lt_mul (by decide)]; exact Nat.mul_lt_mul'' hx hb
  have hml : x * a % 18446744073709551616 < 18446744073709551616 := Nat.mod_lt _ (by decide)
  generalize x * a / 18446744073709551616 = h at *
  generalize x * a % 18446744073709551616 = m at *
  generalize x * b / 18446744073709551616 = m2 at *
  generalize x * b % 18446744073709551616 = r at *
  have A63 : bits BinOp.and IntKind.i64 (s : Int) 63 = (s : Int) := by rw [i64_and63]; omega
  have hs' : (s : Int) ≤ 63 := by omega
  have dm := Nat.div_add_mod h (2 ^ s)
  have dl := Nat.div_le_self h (2 ^ s)
  have W1 : IntKind.u64.wrap ((h : Int) / 2 ^ s * 2 ^ s) = ((h / 2 ^ s * 2 ^ s : Nat) : Int) := by
    rw [pow_div_mul, u64_wrapN, Nat.mod_eq_of_lt]
    have := Nat.div_mul_le_self h (2 ^ s); omega
  by_cases k : h % 2 ^ s = 0
  · rw [if_pos k]
    have e1 : h / 2 ^ s * 2 ^ s = h := by rw [Nat.mul_comm]; omega
    rw [e1] at W1
    have C1 := Lib.hid (fun w => b2u_run (decide (m < m2)) w)
    obtain ⟨q, hq⟩ : ∃ q, q = if m < m2 then 1 else 0 := ⟨_, rfl⟩
    have hq2 : (if decide (m < m2) = true then (1 : Int) else 0) = (q : Int) := by
      rw [hq]
      by_cases k : m < m2
      · rw [if_pos k, if_pos (by simp; omega)]; rfl
      · rw [if_neg k, if_neg (by simp; omega)]; rfl
    rw [hq2] at C1
    obtain ⟨h', hh'⟩ : ∃ h', h' = if m < m2 then h - 1 else h := ⟨_, rfl⟩
    rw [← hh']
    have e2 : IntKind.u64.wrap ((h : Int) - (q : Int)) = (h' : Int) := by
      have : (h : Int) - (q : Int) = ((h' : Nat) : Int) := by
        rw [hq, hh']; split <;> omega
      rw [this, u64_wrapN, Nat.mod_eq_of_lt]
      rw [hh']; split <;> omega
    have e3 : IntKind.u64.wrap ((m : Int) - (m2 : Int)) = (((m + 18446744073709551616 - m2) % 18446744073709551616 : Nat) : Int) := by
      rw [← u64_wrapN]
      simp only [IntKind.wrap, IntKind.bits, IntKind.signed]
      simp
      omega
    generalize (m + 18446744073709551616 - m2) % 18446744073709551616 = d at *
    have C2 := Lib.hid (fun w => b2u_run (decide ((1 : Int) < (d : Int))) w)
    obtain ⟨f, hf⟩ : ∃ f, f = if 1 < d then 1 else 0 := ⟨_, rfl⟩
    rw [← hf]
    have hf2 : (if decide ((1 : Int) < (d : Int)) = true then (1 : Int) else 0) = (f : Int) := by
      rw [hf]
      by_cases k : 1 < d
      · rw [if_pos k, if_pos (by simp; omega)]; rfl
      · rw [if_neg k, if_neg (by simp; omega)]; rfl
    rw [hf2] at C2
    have dl2 := Nat.div_le_self h' (2 ^ s)
    have hl2 : h' ≤ h := by rw [hh']; split <;> omega
    have O := or1_u64 (h' / 2 ^ s) f (by omega) (by rw [hf]; split <;> omega)
    rw [← sc_div] at O
    generalize or1 (h' / 2 ^ s) f = R at *
    have t1 : ((h : Int) != (h : Int)) = false := by simp
    clear hx ha hb hm hh hm2 hml dm dl k e1 hq hq2 hh' hf hf2 dl2 hl2 hs
    go_enter Tryz.func106, Tryz.ntmps106
    go_wp2_with fail
    refine (M1.out _).mono ?_
    rintro _ v1 ⟨rfl, rfl⟩
    clear M1
    go_wp2_with fail
    refine (M2.out _).mono ?_
    rintro _ v1 ⟨rfl, rfl⟩
    clear M2
    go_wp2_with fail
    refine (C1.out _).mono ?_
    rintro _ v1 ⟨rfl, rfl⟩
    clear C1
    go_wp2_with fail
    go_quiet ((go_at_call 137; with_reducible refine quiet_as (C2.out _)))
    go_wp2_with fail
    go_ret
    exact ⟨rfl, _, rfl⟩
  · rw [if_neg k]
    have e1 : h / 2 ^ s * 2 ^ s ≠ h := by rw [Nat.mul_comm]; omega
    obtain ⟨g, hg⟩ : ∃ g, g = h / 2 ^ s * 2 ^ s := ⟨_, rfl⟩
    rw [← hg] at W1 e1
    have t1 : ((g : Int) != (h : Int)) = true := by simp; omega
    have O := or1_u64 (h / 2 ^ s) 1 (by omega) (by omega)
    rw [← sc_div] at O
    rw [show ((1 : Nat) : Int) = 1 from rfl] at O
    generalize or1 (h / 2 ^ s) 1 = R at *
    clear hx ha hb hm hh hm2 hml dm dl k e1 hg hs
    go_enter Tryz.func106, Tryz.ntmps106
    go_wp2_with fail
    refine (M1.out _).mono ?_
    rintro _ v1 ⟨rfl, rfl⟩
    clear M1
    go_wp2_with fail
    go_ret
    exact ⟨rfl, 0, rfl⟩
/-- a table of pairs, at one place -/
def TabAt (i a b : Nat) (w : World) : Prop := w.cell? ⟨10, i * 2, none⟩ = some (.int .u64 (a : Int)) ∧ w.cell? ⟨10, i * 2 + 1, none⟩ = some (.int .u64 (b : Int))
set_option maxRecDepth 100000 in
theorem prescale_run (c i a b : Nat) (e p l : Int) (hi : p + 348 = (i : Int)) (hi2 : i < 696) (h1 : -100000 ≤ e) (h2 : e ≤ 100000) (h3 : -100000 ≤ l) (h4 : l ≤ 100000) (w : World) (ht : TabAt i a b w) (_hne : ¬ (c = 10))
    (c0 : w.cell? ⟨c, 0, none⟩ = some (.int .u64 0)) (c1 : w.cell? ⟨c, 1, none⟩ = some (.int .u64 0)) (c2 : w.cell? ⟨c, 2, none⟩ = some (.int .i64 0)) (f : ∀ j, w.frozen? ⟨c, j, none⟩ = false) :
    Calls Tryz.prog 104 #[.pointer (some ⟨c, 0, none⟩), .int .i64 e, .int .i64 p, .int .i64 l] w fun e' w' => e' = .returned (.tuple #[]) ∧ w' = ((w.setCell ⟨c, 0, none⟩ (.int .u64 (a : Int))).setCell ⟨c, 1, none⟩ (.int .u64 (b : Int))).setCell ⟨c, 2, none⟩ (.int .i64 (-(e + l + 3))) := by
  obtain ⟨ta, tb⟩ := ht
  have f0 := f 0
  have f1 := f 1
  have f2 := f 2
  have hi2' : (i : Int) ≤ 695 := by omega
  have hp : p - (-348) = (i : Int) := by omega
  clear hi hi2 f
  go_enter Tryz.func104, Tryz.ntmps104
  go_wp2_with fail
  refine bodyPost_end (results_none rfl _ _ _) rfl ?_
  exact ⟨rfl, rfl⟩
end Go.Proofs.YtocnpcjpkieogaaGreatDoor

namespace Go.Proofs.YtocnpcjpkieogaaGreatDoor
open Go.ChangeShapes Go.WideShapes Go.ChangeAt Go.RowKit

/-- the library's variables, as start-up lays them -/
structure Lib9 (w : World) : Prop where
  opt : w.cell? ⟨3, 0, none⟩ = some (.bool true)
  ten : ∀ i, i < 20 → w.cell? ⟨6, i, none⟩ = some (.int .u64 ((tenN i : Nat) : Int))
  pow : ∀ i x, Go.Pinned.pow10Rows[i]? = some x → TabAt i x.1 x.2 w
  size : 18 + 1 ≤ w.heap.size
theorem Lib9.on {w w' : World} {B : Nat} (h : Lib9 w) (hb : Below B w w') (hB : 18 + 1 ≤ B) : Lib9 w' := by
  have c : ∀ g j, g < 18 + 1 → w'.cell? ⟨g, j, none⟩ = w.cell? ⟨g, j, none⟩ := fun g j hg => hb.cell (p := ⟨g, j, none⟩) (Nat.lt_of_lt_of_le hg hB)
  exact ⟨(c _ _ (by decide)).trans h.opt, fun i hi => (c _ _ (by decide)).trans (h.ten i hi), fun i x hx => ⟨(c _ _ (by decide)).trans (h.pow i x hx).1, (c _ _ (by decide)).trans (h.pow i x hx).2⟩, Nat.le_trans h.size hb.size⟩
theorem Lib9.drewN {w : World} (h : Lib9 w) (n : Nat) : Lib9 (w.drewN n) := ⟨h.opt, h.ten, h.pow, h.size⟩
/-- a tenth of an unrounded number -/
def tenth (u : Nat) : Nat := or1 (or1 (u / 10) (u % 2)) (if u % 10 = 0 then 0 else 1)
def rndU (u : Nat) : Nat := (u + 1 + u / 4 % 2) / 4
theorem tenth_le (u : Nat) : tenth u ≤ u / 10 + 2 := by
  unfold tenth
  have := or1_le (u / 10) (u % 2)
  have := or1_le (or1 (u / 10) (u % 2)) (if u % 10 = 0 then 0 else 1)
  omega
set_option maxHeartbeats 2000000 in
set_option maxRecDepth 100000 in
theorem fwf_run (m n prec s i a j : Nat) (e l : Int) (hm : m < 18446744073709551616) (hn1 : 1 ≤ n) (hn : n ≤ 18) (hp : prec ≤ 9) (hj : j ≤ 1) (h0 : (n : Int) - 1 - lg10 (e + 63) = ((prec + j : Nat) : Int)) (hl : lg2 ((prec + j : Nat) : Int) = l)
    (hs : -(e + l + 3) = (s : Int)) (hs2 : s ≤ 63) (he1 : -1000 ≤ e) (he2 : e ≤ 1000) (hl1 : -1000 ≤ l) (hl2 : l ≤ 1000) (ha : a < 18446744073709551616) (hi : i = prec + j + 348)
    (hu : usc m a 0 s < 9223372036854775808) (hc : j = 0 → usc m a 0 s < 4 * tenN n - 2) (w : World) (L : Lib9 w) (T : TabAt i a 0 w) :
    Calls Tryz.prog 79 #[.int .u64 (m : Int), .int .i64 e, .int .i64 (n : Int), .int .i64 (prec : Int), .int .u8 102] w fun e' w' => e' = .returned (.tuple #[.int .u64 ((rndU (if j = 0 then usc m a 0 s else tenth (usc m a 0 s)) : Nat) : Int), .int .i64 (-(prec : Int))]) ∧ Below w.heap.size w w' := by
  obtain ⟨u0, hu0⟩ : ∃ u0, u0 = usc m a 0 s := ⟨_, rfl⟩
  rw [← hu0] at hu hc
  rw [← hu0]
  have C1 := Lib.hid (fun w => lg10_run (e + 63) (by omega) (by omega) w)
  obtain ⟨g, hg⟩ : ∃ g, g = lg10 (e + 63) := ⟨_, rfl⟩
  rw [← hg] at C1 h0
  have C2 := Lib.hid (fun w => lg2_run ((prec + j : Nat) : Int) (by omega) (by omega) w)
  rw [hl] at C2
  have hne : ¬ (w.heap.size = 10) := by have := L.size; omega
  have hwl := L.size
  have w1b : Below w.heap.size w (w.alloc (.cells #[.int .u64 0, .int .u64 0, .int .i64 0] 135)) := (Below.refl _ _).alloc (Nat.le_refl _) _
  obtain ⟨w1, hw1⟩ : ∃ w1, w1 = w.alloc (.cells #[.int .u64 0, .int .u64 0, .int .i64 0] 135) := ⟨_, rfl⟩
  have T1 : TabAt i a 0 w1 := by
    rw [hw1]
    have c : ∀ j, (w.alloc (.cells #[.int .u64 0, .int .u64 0, .int .i64 0] 135)).cell? ⟨10, j, none⟩ = w.cell? ⟨10, j, none⟩ := fun j => w1b.cell (p := ⟨10, j, none⟩) (Nat.lt_of_lt_of_le (show 10 < 18 + 1 by decide) hwl)
    exact ⟨(c _).trans T.1, (c _).trans T.2⟩
  have k0 : w1.cell? ⟨w.heap.size, 0, none⟩ = some (.int .u64 0) := by rw [hw1]; exact World.cell?_alloc_at _ _ _ _ rfl
  have k1 : w1.cell? ⟨w.heap.size, 1, none⟩ = some (.int .u64 0) := by rw [hw1]; exact World.cell?_alloc_at _ _ _ _ rfl
  have k2 : w1.cell? ⟨w.heap.size, 2, none⟩ = some (.int .i64 0) := by rw [hw1]; exact World.cell?_alloc_at _ _ _ _ rfl
  have kf : ∀ j, w1.frozen? ⟨w.heap.size, j, none⟩ = false := fun j => by rw [hw1]; exact World.frozen?_alloc_at _ _ _ _ rfl
  have C3 := Lib.hid (prescale_run w.heap.size i a 0 e ((prec + j : Nat) : Int) l (by omega) (by omega) (by omega) (by omega) (by omega) (by omega) w1 T1 hne k0 k1 k2 kf)
  rw [hs] at C3
  obtain ⟨w2, hw2⟩ : ∃ w2, w2 = ((w1.setCell ⟨w.heap.size, 0, none⟩ (.int .u64 (a : Int))).setCell ⟨w.heap.size, 1, none⟩ (.int .u64 ((0 : Nat) : Int))).setCell ⟨w.heap.size, 2, none⟩ (.int .i64 (s : Int)) := ⟨_, rfl⟩
  rw [← hw2] at C3
  have q0 : w2.cell? ⟨w.heap.size, 0, none⟩ = some (.int .u64 (a : Int)) := by
    rw [hw2, World.cell?_setCell_other _ _ _ _ (by intro e; simp at e), World.cell?_setCell_other _ _ _ _ (by intro e; simp at e)]
    exact World.cell?_setCell_same _ _ _ k0
  have q1 : w2.cell? ⟨w.heap.size, 1, none⟩ = some (.int .u64 ((0 : Nat) : Int)) := by
    rw [hw2, World.cell?_setCell_other _ _ _ _ (by intro e; simp at e)]
    exact World.cell?_setCell_same _ _ _ ((World.cell?_setCell_other _ _ _ _ (by intro e; simp at e)).trans k1)
  have q2 : w2.cell? ⟨w.heap.size, 2, none⟩ = some (.int .i64 (s : Int)) := by
    rw [hw2]
    exact World.cell?_setCell_same _ _ _ ((World.cell?_setCell_other _ _ _ _ (by intro e; simp at e)).trans ((World.cell?_setCell_other _ _ _ _ (by intro e; simp at e)).trans k2))
  have B2 : Below w.heap.size w w2 := by
    rw [hw2, hw1]; exact ((w1b.setCell (Nat.le_refl _) _).setCell (Nat.le_refl _) _).setCell (Nat.le_refl _) _
  have C4 := Lib.hid (uscale_run m a 0 s w.heap.size hm ha (by decide) hs2 (by rw [Nat.mul_zero]; intro h; omega) w2 q0 q1 q2)
  rw [← hu0] at C4
  have tn := (L.on B2 hwl).ten n (by omega)
  have t1 := tenN_pos n
  have t2 : tenN n ≤ 1000000000000000000 := by have := tenN_le hn; rw [show tenN 18 = 1000000000000000000 by decide] at this; exact this
  generalize tenN n = tn0 at *
  have C5 := Lib.hid (fun w => unmin_run tn0 t1 (by omega) w)
  have C6 := Lib.hid (fun w => udiv_run u0 (by omega) w)
  change Hid (∀ w, Calls _ _ _ _ fun e w' => e = .returned (.int .u64 ((tenth u0 : Nat) : Int)) ∧ _) at C6
  obtain ⟨u1, hu1⟩ : ∃ u1, u1 = if j = 0 then u0 else tenth u0 := ⟨_, rfl⟩
  rw [← hu1]
  have bu1 : u1 < 9223372036854775808 := by
    have := tenth_le u0
    rw [hu1]; split <;> omega
  have C7 := Lib.hid (fun w => uround_run u1 (by omega) w)
  change Hid (∀ w, Calls _ _ _ _ fun e w' => e = .returned (.int .u64 ((rndU u1 : Nat) : Int)) ∧ _) at C7
  replace B2 := Lib.hid B2
  obtain ⟨mn, hmn⟩ : ∃ mn, mn = 4 * tn0 - 2 := ⟨_, rfl⟩
  rw [← hmn] at C5 hc
  generalize rndU u1 = RR at *
  generalize tenth u0 = u0t at *
  clear hm ha hs2 hu hu0 hg hl T T1 k0 k1 k2 kf q0 q1 q2 w1b L hs t1 t2 hne hmn
  rw [hw1] at C3
  clear hw1 hw2
  clear w1
  have g1 : (n : Int) ≤ 18 := by omega
  have g2 : 1 ≤ (n : Int) := by omega
  have g3 : (prec : Int) ≤ 9 := by omega
  have hj2 : j = 0 ∨ j = 1 := by omega
  clear hn1 hn hp hj hi
  rcases hj2 with rfl | rfl
  · rw [Nat.add_zero] at C2 C3 h0
    rw [if_pos rfl] at hu1
    subst hu1
    have hlt : decide (mn ≤ u1) = false := decide_eq_false (by have := hc rfl; omega)
    clear hc C6
    go_enter Tryz.func79, Tryz.ntmps79
    go_wp2_with fail
    refine (C1.out _).mono ?_
    rintro _ v1 ⟨rfl, rfl⟩
    clear C1
    go_wp2_with fail
    refine (C2.out _).mono ?_
    rintro _ v1 ⟨rfl, rfl⟩
    clear C2
    go_wp2_with fail
    refine C3.out.mono ?_
    rintro _ v1 ⟨rfl, rfl⟩
    clear C3
    go_wp2_with fail
    refine C4.out.mono ?_
    rintro _ v1 ⟨rfl, k, rfl⟩
    clear C4
    go_wp2_with fail
    refine (C5.out _).mono ?_
    rintro _ v1 ⟨rfl, rfl⟩
    clear C5
    go_wp2_with fail
    refine wp_loop_rounds 1 ?_
    rw [rounds_succ]
    go_wp2_with fail
    refine (C7.out _).mono ?_
    rintro _ v1 ⟨rfl, rfl⟩
    clear C7
    go_wp2_with fail
    go_ret2
    exact ⟨rfl, bl_drewN B2.out k⟩
  · rw [if_neg (by decide)] at hu1
    subst hu1
    rw [show ((prec + 1 : Nat) : Int) = (prec : Int) + 1 from rfl] at C2 C3 h0
    clear hc
    by_cases hlt : mn ≤ u0
    · have hlt : decide (mn ≤ u0) = true := decide_eq_true hlt
      go_enter Tryz.func79, Tryz.ntmps79
      go_wp2_with fail
      refine (C1.out _).mono ?_
      rintro _ v1 ⟨rfl, rfl⟩
      clear C1
      go_wp2_with fail
      refine (C2.out _).mono ?_
      rintro _ v1 ⟨rfl, rfl⟩
      clear C2
      go_wp2_with fail
      refine C3.out.mono ?_
      rintro _ v1 ⟨rfl, rfl⟩
      clear C3
      go_wp2_with fail
      refine C4.out.mono ?_
      rintro _ v1 ⟨rfl, k, rfl⟩
      clear C4
      go_wp2_with fail
      refine (C5.out _).mono ?_
      rintro _ v1 ⟨rfl, rfl⟩
      clear C5
      go_wp2_with fail
      refine (C6.out _).mono ?_
      rintro _ v2 ⟨rfl, k2, rfl⟩
      clear C6
      go_wp2_with fail
      refine wp_loop_rounds 1 ?_
      rw [rounds_succ]
      go_wp2_with fail
      refine (C7.out _).mono ?_
      rintro _ v2 ⟨rfl, rfl⟩
      clear C7
      go_wp2_with fail
      go_ret2
      exact ⟨rfl, bl_drewN B2.out (k + k2)⟩
    · have hlt : decide (mn ≤ u0) = false := decide_eq_false hlt
      go_enter Tryz.func79, Tryz.ntmps79
      go_wp2_with fail
      refine (C1.out _).mono ?_
      rintro _ v1 ⟨rfl, rfl⟩
      clear C1
      go_wp2_with fail
      refine (C2.out _).mono ?_
      rintro _ v1 ⟨rfl, rfl⟩
      clear C2
      go_wp2_with fail
      refine C3.out.mono ?_
      rintro _ v1 ⟨rfl, rfl⟩
      clear C3
      go_wp2_with fail
      refine C4.out.mono ?_
      rintro _ v1 ⟨rfl, k, rfl⟩
      clear C4
      go_wp2_with fail
      refine (C5.out _).mono ?_
      rintro _ v1 ⟨rfl, rfl⟩
      clear C5
      go_wp2_with fail
      refine wp_loop_rounds 2 ?_
      rw [rounds_succ]
      go_wp2_with fail
      refine (C6.out _).mono ?_
      rintro _ v2 ⟨rfl, k2, rfl⟩
      clear C6
      go_wp2_with fail
      rw [rounds_succ]
      go_wp2_with fail
      refine (C7.out _).mono ?_
      rintro _ v2 ⟨rfl, rfl⟩
      clear C7
      go_wp2_with fail
      go_ret2
      exact ⟨rfl, bl_drewN B2.out (k + k2)⟩
end Go.Proofs.YtocnpcjpkieogaaGreatDoor

namespace Go.Proofs.YtocnpcjpkieogaaGreatDoor
open Go.ChangeShapes Go.WideShapes Go.ChangeAt Go.RowKit Go.Shelf

theorem dgI_at : ∀ (w n k : Nat), k < w → (dgI w n).getD k 0 = 48 + ((n / 10 ^ (w - 1 - k) % 10 : Nat) : Int)
  | 0, _, _, h => by omega
  | w + 1, n, k, h => by
    rw [dgI_succ]
    by_cases e : k = w
    · subst e
      simp [List.getD, dgI_len]
    · have hk : k < w := by omega
      have ih := dgI_at w (n / 10) k hk
      have : (dgI w (n / 10) ++ [48 + ((n % 10 : Nat) : Int)]).getD k 0 = (dgI w (n / 10)).getD k 0 := by
        simp [List.getD, List.getElem?_append_left (show k < (dgI w (n / 10)).length by rw [dgI_len]; exact hk)]
      rw [this, ih, show w + 1 - 1 - k = (w - 1 - k) + 1 by omega, Nat.pow_succ, Nat.mul_comm, Nat.div_div_eq_div_mul]
theorem wdN_is : ∀ (k n : Nat), 10 ^ k ≤ n → n < 10 ^ (k + 1) → wdN n = k + 1
  | 0, n, _, h2 => wdN_low (by simpa using h2)
  | k + 1, n, h1, h2 => by
    have p : 10 ^ (k + 1) = 10 ^ k * 10 := Nat.pow_succ ..
    have p2 : 10 ^ (k + 1 + 1) = 10 ^ (k + 1) * 10 := Nat.pow_succ ..
    have p1 : 1 ≤ 10 ^ k := Nat.pow_pos (by decide)
    rw [wdN_high (by omega), wdN_is k (n / 10) (by omega) (by omega)]
theorem wdN_lt (n : Nat) : n < 10 ^ wdN n := by
  induction n using Nat.strongRecOn with
  | ind n ih =>
    by_cases h : n < 10
    · rw [wdN_low h]; simpa using h
    · rw [wdN_high h, Nat.pow_succ]
      have := ih (n / 10) (by omega)
      omega
/-! ### bits.Len64 -/
def renLn : Ren := ⟨fun _ => 74, fun n => if n = 3 then 3 else if n = 4 then 4 else if n = 5 then 5 else if n = 9 then 9 else if n = 46 then 55 else 37, fun n => n⟩
set_option maxRecDepth 100000 in
set_option maxHeartbeats 4000000 in
theorem laysLn : Lays.n129 Tryz.prog renLn := by
  constructor
  case f129 => exact Tryz.func74.trans (congrArg some (by kernel_rfl))
  all_goals first
    | kernel_rfl
    | (intro w; kernel_rfl)
set_option maxRecDepth 100000 in
theorem ln_run (x : Nat) (h : x ≠ 0) (hx : x < 18446744073709551616) (w : World) :
    Calls Tryz.prog 74 #[.int .u64 x] w fun e w' => e = .returned (.int .i64 ((x.log2 + 1 : Nat) : Int)) ∧ w = w' :=
  (Any.bits_Len64 laysLn x w (by omega) (by omega)).mono fun _ _ ⟨he, hw⟩ => ⟨by rw [he]; congr 2; simp only [Int.toNat_natCast]; rw [bitLen_log x h hx], hw.symm⟩
/-! ### numDigits -/
theorem nd_math : ∀ L, L < 62 → (decide (0 ≤ lg10 ((L + 1 : Nat) : Int)) && decide (lg10 ((L + 1 : Nat) : Int) ≤ 18) && decide (10 ^ ((lg10 ((L + 1 : Nat) : Int)).toNat - 1) ≤ 2 ^ L) && decide (2 ^ (L + 1) ≤ 10 ^ ((lg10 ((L + 1 : Nat) : Int)).toNat + 1))) = true := by
  decide +kernel
set_option maxRecDepth 100000 in
theorem nd_run (d : Nat) (h1 : d ≠ 0) (h2 : d < 4611686018427387904) (w : World) (L : Lib9 w) :
    Calls Tryz.prog 77 #[.int .u64 (d : Int)] w fun e w' => e = .returned (.int .i64 ((wdN d : Nat) : Int)) ∧ w = w' := by
  have C1 := Lib.hid (ln_run d h1 (by omega))
  have hl : d.log2 < 62 := (Nat.log2_lt h1).2 h2
  have hm := nd_math d.log2 hl
  have hlo : 2 ^ d.log2 ≤ d := Nat.log2_self_le h1
  have hhi : d < 2 ^ (d.log2 + 1) := Nat.lt_log2_self
  simp only [Bool.and_eq_true, decide_eq_true_eq] at hm
  obtain ⟨⟨⟨m1, m2⟩, m3⟩, m4⟩ := hm
  have C2 := Lib.hid (lg10_run ((d.log2 + 1 : Nat) : Int) (by omega) (by omega))
  obtain ⟨k, hk⟩ : ∃ k : Nat, lg10 ((d.log2 + 1 : Nat) : Int) = k := ⟨(lg10 ((d.log2 + 1 : Nat) : Int)).toNat, by omega⟩
  rw [hk] at C2 m1 m2 m3 m4
  simp only [Int.toNat_natCast] at m3 m4
  generalize d.log2 = ll at *
  have c := L.ten k (by omega)
  have C3 := Lib.hid (b2i_run (decide (tenN k ≤ d)))
  have hw : wdN d = k + (if tenN k ≤ d then 1 else 0) := by
    by_cases q : tenN k ≤ d
    · rw [if_pos q, wdN_is k d q (Nat.lt_of_lt_of_le hhi m4)]
    · rw [if_neg q]
      cases k with
      | zero => exact absurd (show tenN 0 ≤ d by rw [show tenN 0 = 1 by decide]; omega) q
      | succ k => rw [wdN_is k d (Nat.le_trans m3 hlo) (by unfold tenN at q; omega)]
  obtain ⟨z, hz⟩ : ∃ z, z = if tenN k ≤ d then 1 else 0 := ⟨_, rfl⟩
  have hz2 : (if decide (tenN k ≤ d) = true then (1 : Int) else 0) = (z : Int) := by
    rw [hz]; by_cases q : tenN k ≤ d
    · rw [if_pos q, if_pos (by simpa using q)]; rfl
    · rw [if_neg q, if_neg (by simpa using q)]; rfl
  rw [hz2] at C3
  rw [← hz] at hw
  have z1 : z ≤ 1 := by rw [hz]; split <;> omega
  have e1 : Hid (((wdN d : Nat) : Int) = (k : Int) + (z : Int)) := by show _ = _; rw [hw]; omega
  rw [e1.out]
  have k18 : (k : Int) ≤ 18 := by omega
  have z1' : (z : Int) ≤ 1 := by omega
  generalize tenN k = tk at *
  clear h1 h2 hl m1 m2 m3 m4 hlo hhi hw hz hz2 hk L z1
  go_enter Tryz.func77, Tryz.ntmps77
  go_wp2_with fail
  refine (C1.out _).mono ?_
  rintro _ v1 ⟨rfl, rfl⟩
  clear C1
  go_wp2_with fail
  refine (C2.out _).mono ?_
  rintro _ v1 ⟨rfl, rfl⟩
  clear C2
  go_wp2_with fail
  refine (C3.out _).mono ?_
  rintro _ v1 ⟨rfl, rfl⟩
  clear C3
  go_wp2_with fail
  go_ret
  exact ⟨rfl, rfl⟩
/-! ### formatBase10 -/
def renFb : Ren := ⟨fun _ => 111, fun n => if n = 0 then 0 else if n = 3 then 3 else if n = 4 then 4 else if n = 5 then 5 else if n = 9 then 9 else if n = 37 then 52 else if n = 51 then 93 else 37, fun n => n⟩
set_option maxRecDepth 100000 in
theorem lays_fb : Lays.n285 Tryz.prog renFb := by
  constructor
  case f285 => exact Tryz.func111.trans (congrArg some (by kernel_rfl))
  all_goals first
    | kernel_rfl
    | (intro w; kernel_rfl)
theorem Still.putRow {w : World} {g off : Nat} {d : Array UInt8} (n : Nat) : Still g w ((Sort.putRow (fun (b : UInt8) => Value.int .u8 (b.toNat : Int)) w g off d).drewN n) := by
  have hh : ∀ b, b ≠ g → ((Sort.putRow (fun (b : UInt8) => Value.int .u8 (b.toNat : Int)) w g off d).drewN n).heap[b]? = w.heap[b]? := fun b hb => by
    show (w.heap.modify g _)[b]? = _
    simp [Array.getElem?_modify, Ne.symm hb]
  refine ⟨⟨rfl, rfl, rfl, ?_, fun b hb => hh b (by omega)⟩, fun a => ?_, fun b _ hb => hh b hb⟩
  · show w.heap.size ≤ (w.heap.modify g _).size
    simp
  · exact Sort.frozen?_putRow _ _ _ _ _ _
set_option maxRecDepth 100000 in
theorem fb_run (g nd cap u : Nat) (hn : nd ≤ 24) (hu : u < 10 ^ nd) (hu2 : u < 18446744073709551616) (w : World) (hc : ∀ k, k < nd → w.cell? ⟨g, k, none⟩ = some (.int .u8 0)) (hf : ∀ k, w.frozen? ⟨g, k, none⟩ = false) :
    Calls Tryz.prog 111 #[.slice (some ⟨g, 0, none⟩) nd cap, .int .u64 (u : Int)] w fun e w' => e = .returned (.tuple #[]) ∧ Still g w w' ∧ ∀ k, k < nd → w'.cell? ⟨g, k, none⟩ = some (.int .u8 ((dgI nd u).getD k 0)) := by
  have H : Sort.Holds (fun (b : UInt8) => Value.int .u8 (b.toNat : Int)) w g 0 (Array.replicate nd 0) := fun j hj => by
    have hj' : j < nd := by simpa using hj
    refine ⟨?_, hf _⟩
    rw [Nat.zero_add, hc j hj', getElem!_pos _ j hj]
    simp
  have C := Any.internal_strconv_formatBase10 lays_fb g 0 cap u (Array.replicate nd 0) w H (by rw [Array.size_replicate]; exact hu) hu2 (by rw [Array.size_replicate]; omega)
  rw [Array.size_replicate] at C
  refine C.mono fun e w' ⟨he, n, v', dk, hw, hI⟩ => ⟨he, ?_, fun k hk => ?_⟩
  · rw [hw]; exact Still.putRow n
  · have hs := hI.size
    have := Sort.cell?_putRow (fun (b : UInt8) => Value.int .u8 (b.toNat : Int)) w g 0 _ dk H (by rw [hs, Array.size_replicate]) k (by rw [hs]; exact hk)
    rw [Nat.zero_add] at this
    rw [hw]
    refine Eq.trans this ?_
    rw [hI.done k (Nat.zero_le _) hk, dgI_at nd u k hk]
    unfold Lib.dg
    congr 2
    have : u / 10 ^ (nd - 1 - k) % 10 < 10 := Nat.mod_lt _ (by decide)
    rw [UInt8.toNat_ofNat_of_lt' (by show _ < 256; omega)]
    omega
end Go.Proofs.YtocnpcjpkieogaaGreatDoor

namespace Go.Proofs.YtocnpcjpkieogaaGreatDoor
open Go.ChangeShapes Go.WideShapes Go.ChangeAt Go.RowKit

set_option maxRecDepth 100000 in
set_option maxHeartbeats 1000000 in
theorem sd_run (g nd u prec : Nat) (hn : nd ≤ 24) (hu : u < 10 ^ nd) (hu2 : u < 18446744073709551616) (hp : prec ≤ 9) (w : World) (hc : ∀ k, k < nd → w.cell? ⟨g, k, none⟩ = some (.int .u8 0)) (hf : ∀ k, w.frozen? ⟨g, k, none⟩ = false) :
    Calls Tryz.prog 76 #[.slice (some ⟨g, 0, none⟩) 24 24, .int .u64 (u : Int), .int .i64 (-(prec : Int)), .int .i64 (nd : Int)] w fun e w' =>
      ∃ z : Nat, z ≤ nd ∧ e = .returned (.tuple #[.int .i64 ((nd : Int) + -(prec : Int)), .int .i64 (z : Int)]) ∧ (∀ k, z ≤ k → k < nd → (dgI nd u).getD k 0 = 48) ∧ Still g w w' ∧ ∀ k, k < nd → w'.cell? ⟨g, k, none⟩ = some (.int .u8 ((dgI nd u).getD k 0)) := by
  have C := Lib.hid (fun cap => fb_run g nd cap u hn hu hu2 w hc hf)
  have g1 : (nd : Int) ≤ 24 := by omega
  have g2 : (prec : Int) ≤ 9 := by omega
  generalize dgI nd u = D at *
  clear hu hu2 hp hc hf
  go_enter Tryz.func76, Tryz.ntmps76
  go_wp2_with fail
  refine (C.out _).mono ?_
  rintro _ w1 ⟨rfl, hS, hD⟩
  clear C
  replace hS := Lib.hid hS
  replace hD := Lib.hid hD
  go_wp2_with fail
  go_loop [3] (fun nv => ∃ z : Nat, z ≤ nd ∧ nv = .int .i64 (z : Int) ∧ ∀ k, z ≤ k → k < nd → D.getD k 0 = 48) (fun nv => (intOf nv).toNat)
  case atStart => exact ⟨nd, Nat.le_refl _, rfl, fun k h1 h2 => by omega⟩
  case round =>
    obtain ⟨z, hz, rfl, hk⟩ := hrel
    by_cases hz0 : 0 < z
    · obtain ⟨y, rfl⟩ : ∃ y, z = y + 1 := ⟨z - 1, by omega⟩
      have c := hD.out y (by omega)
      have hk2 := Lib.hid hk
      clear hk
      obtain ⟨x, hx⟩ : ∃ x, x = D.getD y 0 := ⟨_, rfl⟩
      rw [← hx] at c
      by_cases q : x = 48
      · subst q
        replace hx := Lib.hid hx
        go_wp2_with fail
        go_round
        case rel => exact ⟨y, by omega, by go_num, fun k h1 h2 => by
          by_cases e : k = y
          · rw [e]; exact hx.out.symm
          · exact hk2.out k (by omega) h2⟩
        case measure => simp [intOf]
      · have t : (x == 48) = false := by simpa using q
        clear q hx
        go_wp2_with fail
        go_ret2
        exact ⟨y + 1, hz, rfl, hk2.out, hS.out, hD.out⟩
    · obtain rfl : z = 0 := by omega
      replace hk := Lib.hid hk
      go_wp2_with fail
      go_ret2
      exact ⟨0, Nat.zero_le _, rfl, hk.out, hS.out, hD.out⟩
end Go.Proofs.YtocnpcjpkieogaaGreatDoor

namespace Go.Proofs.YtocnpcjpkieogaaGreatDoor
open Go.ChangeShapes Go.WideShapes Go.ChangeAt Go.RowKit

/-- how many digits are reckoned with -/
def fdig (E p : Nat) : Int := if 1023 ≤ E then 1 + lg10 (1 + ((E : Int) - 1023)) + p else 1 + p - lg10 (-((E : Int) - 1023))
/-- which power of ten is beyond the places asked for: none or one -/
def fjj (E p : Nat) : Nat := (fdig E p - 1 - lg10 ((E : Int) - 1023) - p).toNat
def fss (E j p : Nat) : Int := 1083 - E - lg2 ((p + j : Nat) : Int)
def p10 (P : Nat) : Nat := 10 ^ P * 2 ^ (63 - (lg2 (P : Int)).toNat)
def chkF (E p : Nat) : Bool :=
  if fdig E p ≤ 0 then decide (2 * (9007199254740992 * 10 ^ p) < 2 ^ (1075 - E))
  else if fdig E p ≤ 18 then
    decide (fjj E p ≤ 1) && decide (fdig E p - 1 - lg10 ((E : Int) - 1023) = ((p + fjj E p : Nat) : Int)) && decide (0 ≤ lg2 ((p + fjj E p : Nat) : Int)) && decide (lg2 ((p + fjj E p : Nat) : Int) ≤ 40) && decide (0 ≤ fss E (fjj E p) p) && decide (fss E (fjj E p) p ≤ 63) &&
    decide (4 * (9007199254740992 * 10 ^ (p + fjj E p)) / 2 ^ (1075 - E) + 1 < 9223372036854775808) && (decide (fjj E p ≠ 0) || decide (4 * (9007199254740992 * 10 ^ p) / 2 ^ (1075 - E) + 1 < 4 * 10 ^ (fdig E p).toNat - 2))
  else decide (p = 9) && (decide (E = 1052) || decide (E = 1053))
set_option maxRecDepth 100000 in
theorem chkF_all : ((List.range 231).all fun e => (List.range 10).all fun p => chkF (823 + e) p) = true := by decide +kernel
theorem chkF_at {E p : Nat} (h1 : 823 ≤ E) (h2 : E ≤ 1053) (hp : p ≤ 9) : chkF E p = true := by
  have := List.all_eq_true.1 chkF_all (E - 823) (List.mem_range.2 (by omega))
  have := List.all_eq_true.1 this p (List.mem_range.2 (by omega))
  rwa [show 823 + (E - 823) = E by omega] at this
set_option maxRecDepth 100000 in
theorem p10_all : ((List.range 11).all fun P => decide (Go.Pinned.pow10Rows[P + 348]? = some (p10 P, 0)) && decide ((lg2 (P : Int)) ≤ 63) && decide (p10 P < 18446744073709551616)) = true := by decide +kernel
theorem p10_at {P : Nat} (h : P ≤ 10) : Go.Pinned.pow10Rows[P + 348]? = some (p10 P, 0) ∧ lg2 (P : Int) ≤ 63 ∧ p10 P < 18446744073709551616 := by
  have := List.all_eq_true.1 p10_all P (List.mem_range.2 (by omega))
  simp only [Bool.and_eq_true, decide_eq_true_eq] at this
  exact ⟨this.1.1, this.1.2, this.2⟩
/-- exact scaling -/
theorem usc_exact (x a s : Nat) (h : x * a % 18446744073709551616 ≠ 1) : usc x a 0 s = or1 (x * a / 2 ^ (64 + s)) (if x * a % 2 ^ (64 + s) = 0 then 0 else 1) := by
  obtain ⟨H, hH⟩ : ∃ H, x * a / 18446744073709551616 = H := ⟨_, rfl⟩
  obtain ⟨M, hM⟩ : ∃ M, x * a % 18446744073709551616 = M := ⟨_, rfl⟩
  have hs := sc_split hH hM
  have hl : M < 18446744073709551616 := by rw [← hM]; exact Nat.mod_lt _ (by decide)
  obtain ⟨e1, e2⟩ := sc_hi (H := H) (L := M) (j := s) hl
  unfold usc
  rw [hM] at h
  rw [hH, hM, hs, e1, e2, Nat.mul_zero, Nat.zero_div, if_neg (Nat.not_lt_zero _), Nat.sub_zero]
  by_cases k : H % 2 ^ s = 0
  · rw [if_pos k, k, Nat.zero_mul, Nat.zero_add]
    have e : (M + 18446744073709551616) % 18446744073709551616 = M := by omega
    have e3 : (if 1 < M then 1 else 0) = if M = 0 then 0 else 1 := by
      by_cases z : M = 0
      · rw [if_neg (by omega), if_pos z]
      · rw [if_pos (by omega), if_neg z]
    rw [e, e3]
  · rw [if_neg k, if_neg (by omega)]
/-- the number as it is scaled -/
theorem usc_unr (m P k c : Nat) (s : Nat) (hc : 1 ≤ c) (hs : 64 + s = c + (k - 2)) (hk : 2 ≤ k) (x a : Nat) (hx : x * a = m * 10 ^ P * 2 ^ c) : usc x a 0 s = unr (m * 10 ^ P) (2 ^ k) := by
  have hp : 0 < 2 ^ c := Nat.two_pow_pos c
  have h1 : x * a % 18446744073709551616 ≠ 1 := by
    intro h
    have : x * a % 2 = 0 := by
      rw [hx]
      obtain ⟨d, rfl⟩ : ∃ d, c = d + 1 := ⟨c - 1, by omega⟩
      rw [Nat.pow_succ, ← Nat.mul_assoc, Nat.mul_mod_left]
    omega
  rw [usc_exact x a s h1, hx, hs, Nat.pow_add, Nat.mul_comm (2 ^ c) (2 ^ (k - 2)), Nat.mul_div_mul_right _ _ hp, Nat.mul_mod_mul_right]
  unfold unr
  obtain ⟨j, rfl⟩ : ∃ j, k = j + 2 := ⟨k - 2, by omega⟩
  rw [Nat.add_sub_cancel, show 2 ^ (j + 2) = 4 * 2 ^ j by rw [Nat.pow_add]; omega, Nat.mul_div_mul_left _ _ (by decide), Nat.mul_mod_mul_left]
  congr 1
  have : 2 ^ j > 0 := Nat.two_pow_pos j
  generalize m * 10 ^ P % 2 ^ j = r
  generalize (2 : Nat) ^ c = q at *
  by_cases h : r = 0
  · rw [h, Nat.zero_mul]
  · rw [if_neg (Nat.ne_of_gt (Nat.mul_pos (by omega) hp)), if_neg (by omega)]
theorem unr_ten (N D : Nat) : unr (10 * N) (10 * D) = unr N D := by
  unfold unr
  rw [Nat.mul_left_comm, Nat.mul_div_mul_left _ _ (by decide), Nat.mul_mod_mul_left]
  congr 1
  split <;> split <;> omega
theorem unr_le (N D : Nat) : unr N D ≤ 4 * N / D + 1 := (or1_le _ _).2
/-- all that fixedWidthFloat asks of its numbers -/
theorem fw_facts {E p m : Nat} (h1 : 823 ≤ E) (h2 : E ≤ 1053) (hp : p ≤ 9) (hd : 0 < fdig E p) (hd2 : fdig E p ≤ 18) (hm : m < 9007199254740992) :
    ∃ (j s : Nat) (l : Int), j ≤ 1 ∧ fdig E p - 1 - lg10 ((E : Int) - 1023) = ((p + j : Nat) : Int) ∧ lg2 ((p + j : Nat) : Int) = l ∧ 0 ≤ l ∧ l ≤ 40 ∧ (s : Int) = 1083 - E - l ∧ s ≤ 63 ∧ p + j ≤ 10 ∧
      usc (m * 2048) (p10 (p + j)) 0 s < 9223372036854775808 ∧ (j = 0 → usc (m * 2048) (p10 (p + j)) 0 s < 4 * tenN (fdig E p).toNat - 2) ∧
      rndU (if j = 0 then usc (m * 2048) (p10 (p + j)) 0 s else tenth (usc (m * 2048) (p10 (p + j)) 0 s)) = rneN (m * tenN p) (1075 - E) := by
  have ck := chkF_at h1 h2 hp
  unfold chkF at ck
  rw [if_neg (by omega), if_pos hd2] at ck
  simp only [Bool.and_eq_true, Bool.or_eq_true, decide_eq_true_eq] at ck
  obtain ⟨⟨⟨⟨⟨⟨⟨c1, c2⟩, c3⟩, c4⟩, c5⟩, c6⟩, c7⟩, c8⟩ := ck
  generalize fjj E p = j at *
  obtain ⟨l, hl⟩ : ∃ l, lg2 ((p + j : Nat) : Int) = l := ⟨_, rfl⟩
  unfold fss at c5 c6
  rw [hl] at c3 c4
  rw [hl] at c5 c6
  obtain ⟨ln, hln⟩ : ∃ ln : Nat, l = ln := ⟨l.toNat, by omega⟩
  have eP : p10 (p + j) = 10 ^ (p + j) * 2 ^ (63 - ln) := by unfold p10; rw [hl, hln, Int.toNat_natCast]
  have hu : usc (m * 2048) (p10 (p + j)) 0 (1083 - E - ln) = unr (m * 10 ^ (p + j)) (2 ^ (1075 - E)) := by
    refine usc_unr m (p + j) (1075 - E) (74 - ln) (1083 - E - ln) (by omega) (by omega) (by omega) _ _ ?_
    rw [eP, show (2 : Nat) ^ (74 - ln) = 2048 * 2 ^ (63 - ln) by rw [show 74 - ln = 11 + (63 - ln) by omega, Nat.pow_add]]
    simp only [Nat.mul_assoc, Nat.mul_left_comm, Nat.mul_comm]
  have hD : 0 < 2 ^ (1075 - E) := Nat.two_pow_pos _
  have ub : ∀ P, unr (m * 10 ^ P) (2 ^ (1075 - E)) ≤ 4 * (9007199254740992 * 10 ^ P) / 2 ^ (1075 - E) + 1 := fun P => by
    refine Nat.le_trans (unr_le _ _) (Nat.succ_le_succ (Nat.div_le_div_right ?_))
    exact Nat.mul_le_mul_left 4 (Nat.mul_le_mul_right _ (by omega))
  have b1 := ub (p + j)
  have b0 := ub p
  refine ⟨j, 1083 - E - ln, l, c1, c2, hl, c3, c4, by omega, by omega, by omega, by rw [hu]; omega, fun h => ?_, ?_⟩
  · rw [hu]
    subst h
    rcases c8 with h | h
    · exact absurd rfl h
    · unfold tenN; rw [Nat.add_zero]; omega
  · rw [hu]
    by_cases h : j = 0
    · rw [if_pos h, h, Nat.add_zero]
      exact (unr_round hD).trans (rneD_pow _ _)
    · obtain rfl : j = 1 := by omega
      rw [if_neg (by decide)]
      have e1 : tenth (unr (m * 10 ^ (p + 1)) (2 ^ (1075 - E))) = unr (m * 10 ^ p) (2 ^ (1075 - E)) := by
        have := unr_div (N := m * 10 ^ (p + 1)) hD
        refine Eq.trans this ?_
        rw [show m * 10 ^ (p + 1) = 10 * (m * 10 ^ p) by rw [Nat.pow_succ, ← Nat.mul_assoc, Nat.mul_comm]]
        exact unr_ten _ _
      rw [e1]
      exact (unr_round hD).trans (rneD_pow _ _)
end Go.Proofs.YtocnpcjpkieogaaGreatDoor

namespace Go.Proofs.YtocnpcjpkieogaaGreatDoor
open Go.ChangeShapes Go.WideShapes Go.ChangeAt Go.RowKit

/-- a text under way in block a, beside a text that stays in block g -/
structure Out (w0 : World) (a : Nat) (M : List Int) (g : Nat) (L : List Int) (u : World) : Prop where
  old : Below w0.heap.size w0 u
  base : w0.heap.size ≤ a
  gin : a < u.heap.size
  there : ∀ k, k < 24 → ∃ v, u.cell? ⟨a, k, none⟩ = some v
  told : ∀ k, k < M.length → u.cell? ⟨a, k, none⟩ = some (.int .u8 (M.getD k 0))
  warm : ∀ k, u.frozen? ⟨a, k, none⟩ = false
  ne : g ≠ a
  src : ∀ k, k < L.length → u.cell? ⟨g, k, none⟩ = some (.int .u8 (L.getD k 0))
theorem Out.push {w0 u : World} {a g : Nat} {M L : List Int} (h : Out w0 a M g L u) (hm : M.length < 24) (x : Int) (T : TypeId) :
    Out w0 a (M ++ [x]) g L ((u.alloc (.cells #[.int .u8 x] T)).setCell ⟨a, M.length, none⟩ (.int .u8 x)) := by
  have hs := h.old.size
  have gin := h.gin
  have ca : ∀ k, (u.alloc (.cells #[.int .u8 x] T)).cell? ⟨a, k, none⟩ = u.cell? ⟨a, k, none⟩ := fun k => World.cell?_alloc_past _ _ _ gin
  obtain ⟨v, hv⟩ := h.there M.length hm
  have same : ((u.alloc (.cells #[.int .u8 x] T)).setCell ⟨a, M.length, none⟩ (.int .u8 x)).cell? ⟨a, M.length, none⟩ = some (.int .u8 x) := World.cell?_setCell_same _ _ _ ((ca _).trans hv)
  have other : ∀ k, k ≠ M.length → ((u.alloc (.cells #[.int .u8 x] T)).setCell ⟨a, M.length, none⟩ (.int .u8 x)).cell? ⟨a, k, none⟩ = u.cell? ⟨a, k, none⟩ := fun k hk =>
    (World.cell?_setCell_other _ _ _ _ (by intro e; simp only [Addr.mk.injEq] at e; omega)).trans (ca k)
  refine ⟨(h.old.alloc hs _).setCell h.base _, h.base, by simp; omega, fun k hk => ?_, fun k hk => ?_, fun k => ?_, h.ne, fun k hk => ?_⟩
  · by_cases e : k = M.length
    · rw [e, same]; exact ⟨_, rfl⟩
    · rw [other k e]; exact h.there k hk
  · rw [List.length_append, List.length_cons, List.length_nil] at hk
    by_cases e : k = M.length
    · rw [e, same]; simp [List.getD]
    · rw [other k e, h.told k (by omega)]
      simp [List.getD, List.getElem?_append_left (show k < M.length by omega)]
  · rw [World.frozen?_setCell, World.frozen?_alloc_past _ _ _ gin]; exact h.warm k
  · have hg : g < u.heap.size := by
      have := h.src k hk
      rcases Nat.lt_or_ge g u.heap.size with h' | h'
      · exact h'
      · simp [World.cell?, Array.getElem?_eq_none h'] at this
    rw [World.cell?_setCell_other _ _ _ _ (by intro e; simp only [Addr.mk.injEq] at e; exact h.ne e.1.symm), World.cell?_alloc_past _ _ _ hg]
    exact h.src k hk
theorem alloc_set {u : World} {a k : Nat} (h : a < u.heap.size) (o : Obj) (v : Value) : (u.alloc o).setCell ⟨a, k, none⟩ v = (u.setCell ⟨a, k, none⟩ v).alloc o := World.setCell_alloc_past _ _ _ _ h
/-- the same, spelled as the walk does -/
theorem Out.push' {w0 u : World} {a g : Nat} {M L : List Int} (h : Out w0 a M g L u) (hm : M.length < 24) (x : Int) (T : TypeId) :
    Out w0 a (M ++ [x]) g L ((u.setCell ⟨a, M.length, none⟩ (.int .u8 x)).alloc (.cells #[.int .u8 x] T)) := by
  rw [← alloc_set h.gin]; exact h.push hm x T
end Go.Proofs.YtocnpcjpkieogaaGreatDoor

namespace Go.Proofs.YtocnpcjpkieogaaGreatDoor
open Go.ChangeShapes Go.WideShapes Go.ChangeAt Go.RowKit

theorem dgI_split : ∀ (b a n : Nat), dgI (a + b) n = dgI a (n / 10 ^ b) ++ dgI b n
  | 0, a, n => by simp [dgI]
  | b + 1, a, n => by
    rw [← Nat.add_assoc, dgI_succ, dgI_split b a (n / 10), dgI_succ, List.append_assoc]
    congr 2
    rw [Nat.div_div_eq_div_mul, ← Nat.pow_succ']
theorem dgI_low : ∀ (w n : Nat), dgI w (n % 10 ^ w) = dgI w n
  | 0, _ => rfl
  | w + 1, n => by
    have p : 10 ^ (w + 1) = 10 * 10 ^ w := by rw [Nat.pow_succ, Nat.mul_comm]
    rw [dgI_succ, dgI_succ, p, Nat.mod_mul]
    have e1 : (n % 10 + 10 * (n / 10 % 10 ^ w)) / 10 = n / 10 % 10 ^ w := by omega
    have e2 : (n % 10 + 10 * (n / 10 % 10 ^ w)) % 10 = n % 10 := by omega
    rw [e1, e2, dgI_low w (n / 10)]
def zer (n : Nat) : List Int := List.replicate n 48
theorem dgI_zero : ∀ w, dgI w 0 = zer w
  | 0 => rfl
  | w + 1 => by rw [dgI_succ, Nat.zero_div, dgI_zero w]; unfold zer; rw [List.replicate_succ']; rfl
theorem wdN_div (d p : Nat) : wdN (d / 10 ^ p) = if p < wdN d then wdN d - p else 1 := by
  induction p generalizing d with
  | zero =>
    have := wdN_pos d
    rw [Nat.pow_zero, Nat.div_one, if_pos (by omega)]; omega
  | succ p ih =>
    rw [Nat.pow_succ', ← Nat.div_div_eq_div_mul, ih (d / 10)]
    by_cases h : d < 10
    · rw [show d / 10 = 0 by omega, wdN_low (by decide : 0 < 10), wdN_low h]
      split <;> split <;> omega
    · rw [wdN_high h]
      split <;> split <;> omega
/-- digits with what ends in noughts struck, and noughts put behind again -/
theorem strip_eq {D : List Int} {z : Nat} (hz : z ≤ D.length) (h : ∀ k, z ≤ k → k < D.length → D.getD k 0 = 48) : D = D.take z ++ zer (D.length - z) := by
  apply List.ext_getElem?
  intro k
  by_cases hk : k < z
  · rw [List.getElem?_append_left (by rw [List.length_take]; omega), List.getElem?_take_of_lt hk]
  · by_cases hk2 : k < D.length
    · rw [List.getElem?_append_right (by rw [List.length_take]; omega), List.length_take, Nat.min_eq_left hz]
      have := h k (by omega) hk2
      unfold zer
      rw [List.getElem?_replicate, if_pos (by omega), List.getElem?_eq_getElem hk2]
      simp [List.getD, hk2] at this
      rw [this]
    · rw [List.getElem?_eq_none (by omega), List.getElem?_eq_none (by rw [List.length_append, List.length_take]; unfold zer; rw [List.length_replicate]; omega)]
theorem zer_take (n k : Nat) : (zer n).take k = zer (min k n) := by unfold zer; rw [List.take_replicate]
theorem zer_drop (n k : Nat) : (zer n).drop k = zer (n - k) := by unfold zer; rw [List.drop_replicate]
/-- the whole part -/
theorem lay_int (d p z : Nat) (hz : z ≤ wdN d) (h : ∀ k, z ≤ k → k < wdN d → (dgI (wdN d) d).getD k 0 = 48) (hp : p < wdN d) :
    ((dgI (wdN d) d).take z).take (min z (wdN d - p)) ++ zer (wdN d - p - min z (wdN d - p)) = dgI (wdN (d / 10 ^ p)) (d / 10 ^ p) := by
  have hs := strip_eq (D := dgI (wdN d) d) (by rw [dgI_len]; exact hz) (by rw [dgI_len]; exact h)
  rw [dgI_len] at hs
  rw [wdN_div, if_pos hp]
  have e : dgI (wdN d - p) (d / 10 ^ p) = (dgI (wdN d) d).take (wdN d - p) := by
    have := dgI_split p (wdN d - p) d
    rw [Nat.sub_add_cancel (Nat.le_of_lt hp)] at this
    rw [this, List.take_left' (dgI_len _ _)]
  rw [e]
  conv => rhs; rw [hs]
  rw [List.take_append, List.length_take, dgI_len, Nat.min_eq_left hz, zer_take]
  congr 1
  · rw [Nat.min_comm, ← List.take_take, List.take_of_length_le (l := (dgI (wdN d) d).take z) (i := z) (by rw [List.length_take]; omega)]
  · congr 1; omega
/-- the places -/
theorem lay_frac (d p z : Nat) (hz : z ≤ wdN d) (h : ∀ k, z ≤ k → k < wdN d → (dgI (wdN d) d).getD k 0 = 48) :
    zer (p - wdN d) ++ (((dgI (wdN d) d).take z).drop (wdN d - p)).take (min (p - (p - wdN d)) (z - (wdN d - p))) ++ zer (p - (p - wdN d) - min (p - (p - wdN d)) (z - (wdN d - p))) = dgI p (d % 10 ^ p) := by
  have hs := strip_eq (D := dgI (wdN d) d) (by rw [dgI_len]; exact hz) (by rw [dgI_len]; exact h)
  rw [dgI_len] at hs
  rw [dgI_low]
  have hl : ((dgI (wdN d) d).take z).length = z := by rw [List.length_take, dgI_len]; omega
  by_cases hp : p ≤ wdN d
  · have e : dgI p d = (dgI (wdN d) d).drop (wdN d - p) := by
      have := dgI_split p (wdN d - p) d
      rw [Nat.sub_add_cancel hp] at this
      rw [this, List.drop_left' (dgI_len _ _)]
    rw [e, show p - wdN d = 0 by omega]
    conv => rhs; rw [hs]
    rw [List.drop_append, hl, zer_drop, show zer 0 = [] from rfl, List.nil_append, List.take_of_length_le (by rw [List.length_drop, hl]; omega)]
    congr 1
    congr 1
    omega
  · rw [show wdN d - p = 0 by omega, List.drop_zero, show p - (p - wdN d) = wdN d by omega, Nat.sub_zero, Nat.min_eq_right hz, List.take_of_length_le (by omega)]
    have e : dgI p d = zer (p - wdN d) ++ dgI (wdN d) d := by
      have := dgI_split (wdN d) (p - wdN d) d
      rw [Nat.sub_add_cancel (by omega), Nat.div_eq_of_lt (wdN_lt d), dgI_zero] at this
      exact this
    rw [e, List.append_assoc, ← hs]
end Go.Proofs.YtocnpcjpkieogaaGreatDoor

namespace Go.Proofs.YtocnpcjpkieogaaGreatDoor
open Go.ChangeShapes Go.WideShapes Go.ChangeAt Go.RowKit Go.Lib

set_option maxRecDepth 100000 in
theorem opt_of {w : World} (h : VarReads Tryz.prog w "internal/strconv.optimize" (.lit (.bool true))) : w.cell? ⟨3, 0, none⟩ = some (.bool true) := by
  obtain ⟨g, t, cs, fuel, p, hg, hty, hvar, hd⟩ := h
  obtain rfl := Option.some.inj ((show Tryz.prog.globalNamed "internal/strconv.optimize" = some 3 by kernel_rfl).symm.trans hg)
  obtain rfl := Option.some.inj ((show (Tryz.prog.globals[3]?).map (·.type) = some 4 by kernel_rfl).symm.trans hty)
  obtain ⟨b, e1, e2⟩ := DataW.trod_bool Tryz.underlying4 hd
  rw [World.var?_cell hg hvar 0, ← Array.getElem?_toList, e1]
  simp only [Prod.mk.injEq, DataW.lit.injEq, Lit.bool.injEq] at e2
  rw [← e2.1]
  rfl
set_option maxRecDepth 100000 in
theorem ten_of {w : World} (h : VarReads Tryz.prog w "internal/strconv.uint64pow10" (tabData .u64 ((List.range 20).map fun i => ((10 ^ i : Nat) : Int)))) : ∀ i, i < 20 → w.cell? ⟨6, i, none⟩ = some (.int .u64 ((tenN i : Nat) : Int)) := by
  intro i hi
  obtain ⟨g, t, cs, fuel, p, hg, hty, hvar, hd⟩ := h
  obtain rfl := Option.some.inj ((show Tryz.prog.globalNamed "internal/strconv.uint64pow10" = some 6 by kernel_rfl).symm.trans hg)
  obtain rfl := Option.some.inj ((show (Tryz.prog.globals[6]?).map (·.type) = some 144 by kernel_rfl).symm.trans hty)
  have hcs := cells_of_tab Tryz.underlying144 Tryz.underlying37 (by kernel_rfl) (by kernel_rfl) hd
  rw [World.var?_cell hg hvar i, ← Array.getElem?_toList, hcs]
  simp [hi, tenN]
set_option maxRecDepth 100000 in
theorem pow_of {w : World} (h : VarReads Tryz.prog w "internal/strconv.pow10Tab" Go.Pinned.pow10Tab) : ∀ i x, Go.Pinned.pow10Rows[i]? = some x → TabAt i x.1 x.2 w := by
  intro i x hx
  obtain ⟨g, t, cs, fuel, p, hg, hty, hvar, hd⟩ := h
  obtain rfl := Option.some.inj ((show Tryz.prog.globalNamed "internal/strconv.pow10Tab" = some 10 by kernel_rfl).symm.trans hg)
  obtain rfl := Option.some.inj ((show (Tryz.prog.globals[10]?).map (·.type) = some 179 by kernel_rfl).symm.trans hty)
  have hl : Go.Pinned.pow10Rows.length = 696 := by kernel_rfl
  have hi : i < 696 := by
    have := (List.getElem?_eq_some_iff.1 hx).1
    omega
  have c1 : Tryz.prog.cellsOf 37 = 1 := by kernel_rfl
  have c2 : Tryz.prog.cellsOf 178 = 2 := by kernel_rfl
  unfold Go.Pinned.pow10Tab at hd
  obtain ⟨fuel', d, q, hdi, he⟩ := array_elem Tryz.underlying179 hd i hi
  rw [List.getElem?_map, hx, Option.map_some, Option.some.injEq] at hdi
  subst hdi
  rw [c2] at he
  have hcs := ints_of_struct (zs := [(x.1 : Int), (x.2 : Int)]) (k := .u64) Tryz.underlying178 (fun j f hj => by
    match j, hj with
    | 0, hj => simp at hj; subst hj; exact ⟨Tryz.underlying37, rfl, c1⟩
    | 1, hj => simp at hj; subst hj; exact ⟨Tryz.underlying37, rfl, c1⟩
    | j + 2, hj => simp at hj) (by rw [c2]; rfl) he
  have e0 := congrArg (·[0]?) hcs
  have e1 := congrArg (·[1]?) hcs
  simp only [List.getElem?_take, List.getElem?_drop] at e0 e1
  unfold TabAt
  constructor
  · rw [World.var?_cell hg hvar (i * 2), ← Array.getElem?_toList]
    simpa using e0
  · rw [World.var?_cell hg hvar (i * 2 + 1), ← Array.getElem?_toList]
    simpa using e1
set_option maxRecDepth 100000 in
theorem size_of {w : World} {d : DataW Unit} (h : VarReads Tryz.prog w "math/bits.deBruijn64tab" d) : 18 + 1 ≤ w.heap.size := by
  obtain ⟨g, t, cs, fuel, p, hg, hty, hvar, hd⟩ := h
  obtain rfl := Option.some.inj ((show Tryz.prog.globalNamed "math/bits.deBruijn64tab" = some 18 by kernel_rfl).symm.trans hg)
  unfold World.var? at hvar
  rw [hg, Option.bind_some] at hvar
  split at hvar
  · rename_i q
    have := (Array.getElem?_eq_some_iff.1 q).1
    exact this
  · cases hvar
set_option maxRecDepth 100000 in
theorem lib9_of {w : World} (h1 : VarReads Tryz.prog w "internal/strconv.optimize" Rows.laid_internal_strconv_optimize) (h2 : VarReads Tryz.prog w "internal/strconv.uint64pow10" Rows.laid_internal_strconv_uint64pow10)
    (h3 : VarReads Tryz.prog w "internal/strconv.pow10Tab" Rows.laid_internal_strconv_pow10Tab) (h4 : VarReads Tryz.prog w "math/bits.deBruijn64tab" Rows.laid_math_bits_deBruijn64tab) : Lib9 w :=
  ⟨opt_of h1, ten_of h2, pow_of h3, size_of h4⟩
end Go.Proofs.YtocnpcjpkieogaaGreatDoor
