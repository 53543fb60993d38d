/- Proved here: what the texts Sqe, Sqf prove, one behind the other. -/
import Derived.Test.YtocnpcjpkieogaaGreatDoorJs31
import Derived.Test.YtocnpcjpkieogaaGreatDoorJs20

namespace Go.Proofs.YtocnpcjpkieogaaGreatDoor
open Go.ChangeShapes Go.WideShapes Go.ChangeAt Go.RowKit

theorem u64_wrapN' (n : Nat) : IntKind.u64.wrap (n : Int) = ((n % 18446744073709551616 : Nat) : Int) := by
  simp [IntKind.wrap, IntKind.bits, IntKind.signed]
theorem wrap_le (n : Nat) (h : (n : Int) ≤ 18446744073709551615) : IntKind.u64.wrap (n : Int) = (n : Int) := by
  rw [u64_wrapN', Nat.mod_eq_of_lt (by omega)]
set_option maxRecDepth 100000 in
set_option maxHeartbeats 2000000 in
theorem div64_high (h d Q R : Nat) (hQ : h * 18446744073709551616 / d = Q) (hR : h * 18446744073709551616 % d = R) (hh : 0 < h) (hd : h < d) (hd2 : d < 4294967296) (u : World) :
    Calls Tryz.prog 39 #[.int .u64 (h : Int), .int .u64 0, .int .u64 (d : Int)] u fun e u' => e = .returned (.tuple #[.int .u64 (Q : Int), .int .u64 (R : Int)]) ∧ Below u.heap.size u u' := by
  obtain ⟨s, hs⟩ : ∃ s, s = 63 - d.log2 := ⟨_, rfl⟩
  obtain ⟨s1, s2, s3, y1, y2⟩ := qd_fact (by omega) hd2 hs
  have LZ := fun w => lz_any d (by omega) (by omega) w
  rw [s3] at LZ
  replace LZ := Lib.hid LZ
  obtain ⟨m1, m2⟩ := qd_math (h := h) (d := d) (s := s) (by omega) s1 rfl rfl
  rw [hQ] at m1
  rw [hR] at m2
  clear hQ hR
  have es : (2 : Nat) ^ s = 2 ^ (s - 32) * 4294967296 := by rw [show (4294967296 : Nat) = 2 ^ 32 by decide, ← Nat.pow_add]; congr 1; omega
  have W1 := sc_wrap d s
  have ed : d * 2 ^ s = d * 2 ^ (s - 32) * 4294967296 := by rw [es, Nat.mul_assoc]
  have hlt : h * 2 ^ s < d * 2 ^ s := Nat.mul_lt_mul_of_pos_right hd (Nat.two_pow_pos _)
  have W2 := sc_wrap h s
  rw [Nat.mod_eq_of_lt (by omega)] at W1 W2
  rw [ed] at W1 hlt
  generalize d * 2 ^ (s - 32) = Y at *
  generalize h * 2 ^ s = X at *
  have M := qd_mask Y y2
  rw [show ((Y * 4294967296 : Nat) : Int) = (Y : Int) * 4294967296 by omega] at M W1
  have M0 : bits BinOp.and IntKind.u64 0 4294967295 = 0 := by decide
  have O : bits BinOp.or IntKind.u64 (X : Int) 0 = (X : Int) := by
    rw [show (0 : Int) = ((0 : Nat) : Int) from rfl, u64_or_nat X 0 (by omega) (by omega), Nat.or_zero]
  have hY0 : 0 < Y := by omega
  obtain ⟨q1, hq1⟩ : ∃ q1, q1 = X / Y := ⟨_, rfl⟩
  obtain ⟨r1, hr1⟩ : ∃ r1, r1 = X % Y := ⟨_, rfl⟩
  obtain ⟨P1, hP1⟩ : ∃ P1, P1 = q1 * Y := ⟨_, rfl⟩
  have x1 : P1 + r1 = X := by rw [hP1, hq1, hr1, Nat.mul_comm]; exact Nat.div_add_mod X Y
  have x2 : r1 < Y := by rw [hr1]; exact Nat.mod_lt _ hY0
  have x3 : q1 < 4294967296 := by rw [hq1, Nat.div_lt_iff_lt_mul hY0, Nat.mul_comm]; exact hlt
  obtain ⟨V, hV⟩ : ∃ V, V = r1 * 4294967296 := ⟨_, rfl⟩
  obtain ⟨q0, hq0⟩ : ∃ q0, q0 = V / Y := ⟨_, rfl⟩
  obtain ⟨r0, hr0⟩ : ∃ r0, r0 = V % Y := ⟨_, rfl⟩
  obtain ⟨P0, hP0⟩ : ∃ P0, P0 = q0 * Y := ⟨_, rfl⟩
  have z1 : P0 + r0 = V := by rw [hP0, hq0, hr0, Nat.mul_comm]; exact Nat.div_add_mod V Y
  have z2 : r0 < Y := by rw [hr0]; exact Nat.mod_lt _ hY0
  have z3 : q0 < 4294967296 := by rw [hq0, Nat.div_lt_iff_lt_mul hY0, hV]; omega
  rw [← hq1, ← hr1, ← hV, ← hq0] at m1
  rw [← hr1, ← hV, ← hr0] at m2
  have T1 : (X : Int).tdiv (Y : Int) = (q1 : Int) := by rw [hq1]; rfl
  have T0 : (V : Int).tdiv (Y : Int) = (q0 : Int) := by rw [hq0]; rfl
  have N1 : (q1 : Int) * (Y : Int) = (P1 : Int) := by rw [hP1, Int.natCast_mul]
  have N0 : (q0 : Int) * (Y : Int) = (P0 : Int) := by rw [hP0, Int.natCast_mul]
  have N1' : (q1 : Int) * ((Y : Int) * 4294967296) = (P1 : Int) * 4294967296 := by rw [← N1, Int.mul_assoc]
  have N0' : (q0 : Int) * ((Y : Int) * 4294967296) = (P0 : Int) * 4294967296 := by rw [← N0, Int.mul_assoc]
  have S1 : (X : Int) - (P1 : Int) = (r1 : Int) := by omega
  have S0 : (V : Int) - (P0 : Int) = (r0 : Int) := by omega
  have U1 : IntKind.u64.wrap (IntKind.u64.wrap (IntKind.u64.wrap ((X : Int) * 4294967296)) - IntKind.u64.wrap ((P1 : Int) * 4294967296)) = (V : Int) := qd_wrap (by omega) (by omega) (by omega)
  obtain ⟨Z, hZ⟩ : ∃ Z, Z = r0 * 4294967296 := ⟨_, rfl⟩
  have U0 : IntKind.u64.wrap (IntKind.u64.wrap (IntKind.u64.wrap ((V : Int) * 4294967296)) - IntKind.u64.wrap ((P0 : Int) * 4294967296)) = (Z : Int) := qd_wrap (by omega) (by omega) (by omega)
  rw [← hZ] at m2
  have D : (Z : Int) / 2 ^ s = (R : Int) := by rw [sc_div, m2]
  have l1 : (X : Int) ≤ 18446744073709551615 := by omega
  have l2 : (P1 : Int) ≤ 18446744073709551615 := by omega
  have l3 : (r1 : Int) ≤ 4294967294 := by omega
  have l4 : (q1 : Int) ≤ 4294967295 := by omega
  have l5 : (V : Int) ≤ 18446744073709551615 := by omega
  have l6 : (P0 : Int) ≤ 18446744073709551615 := by omega
  have l7 : (r0 : Int) ≤ 4294967294 := by omega
  have l8 : (q0 : Int) ≤ 4294967295 := by omega
  have l9 : (Z : Int) ≤ 18446744073709551615 := by omega
  clear hq1 hr1 hP1 hV hq0 hr0 hP0 hZ x1 x2 x3 z1 z2 z3 hY0
  have b1 : 1 ≤ (d : Int) := by omega
  have b2 : (h : Int) + 1 ≤ (d : Int) := by omega
  have b3 : 1 ≤ (h : Int) := by omega
  have b4 : 32 ≤ (s : Int) := by omega
  have b5 : (s : Int) ≤ 63 := by omega
  have y3 : (Y : Int) ≤ 4294967295 := by omega
  have y4 : 2147483648 ≤ (Y : Int) := by omega
  have hX : Hid (X < Y * 4294967296) := hlt
  replace m1 := Lib.hid m1
  replace m2 := Lib.hid m2
  have s1h := Lib.hid s1
  have ms : Hid (min s 64 = s) := Nat.min_eq_left (by omega)
  replace D := Lib.hid D
  clear hs s3 hd2 ed es hlt hh hd y1 y2 s1 s2
  go_enter Tryz.func39, Tryz.ntmps39
  go_wp2_with (go_at_call 65; ((with_reducible refine (LZ.out _).mono ?_); rintro e w' ⟨rfl, rfl⟩))
  go_wp2_with fail
  have V0w : Hid (IntKind.u64.wrap ((V : Int) - IntKind.u64.wrap (P0 : Int)) = (r0 : Int)) := by show _ = _; rw [wrap_le P0 l6, S0, wrap_le r0 (Int.le_trans l7 (by decide))]
  clear LZ M W1 W2 b1 b2 b3 b4 b5
  go_loop [15, 16] (fun x y => x = .int .u64 (q1 : Int) ∧ y = .int .u64 (r1 : Int)) (fun _ _ => 0)
  case atStart => exact ⟨rfl, rfl⟩
  case round =>
    obtain ⟨rfl, rfl⟩ := hrel
    have k1 : decide (4294967296 ≤ (q1 : Int)) = false := decide_eq_false (by omega)
    have k0 : decide (4294967296 ≤ (q0 : Int)) = false := decide_eq_false (by omega)
    clear hX s1h l1 l2 l5 l6 l9
    go_wp2_with fail
    go_loop [16, 18] (fun x y => x = .int .u64 (r0 : Int) ∧ y = .int .u64 (q0 : Int)) (fun _ _ => 0)
    case atStart => exact ⟨congrArg (Value.int .u64) V0w.out, rfl⟩
    case round =>
      obtain ⟨rfl, rfl⟩ := hrel
      clear V0w
      go_wp2_with fail
      go_ret2
      refine ⟨?_, Below.refl _ _⟩
      show Ending.returned (.tuple #[.int .u64 ((q1 : Int) * 4294967296 + (q0 : Int)), .int .u64 ((Z : Int) / 2 ^ (min s 64))]) = _
      have e : (Q : Int) = (q1 : Int) * 4294967296 + (q0 : Int) := by have := m1.out; omega
      rw [ms.out, D.out, e]
end Go.Proofs.YtocnpcjpkieogaaGreatDoor

namespace Go.Proofs.YtocnpcjpkieogaaGreatDoor

/-- what is rounded: m of 53 digits, the next digit b, the rest -/
theorem quo_round {N d F R j m b low : Nat} (hd : 0 < d) (hF : N = F * d + R) (hR : R < d) (hj : 1 ≤ j) (e : F = (m * 2 + b) * 2 ^ (j - 1) + low) (hb : b ≤ 1) (hl : low < 2 ^ (j - 1)) :
    rneD N (d * 2 ^ j) = m + (if b = 1 ∧ ((low ≠ 0 ∨ R ≠ 0) ∨ m % 2 = 1) then 1 else 0) := by
  have pj : 2 ^ j = 2 * 2 ^ (j - 1) := by rw [← Nat.pow_succ', show (j - 1).succ = j by omega]
  have p0 := Nat.two_pow_pos (j - 1)
  obtain ⟨P, hP⟩ : ∃ P, P = 2 ^ (j - 1) := ⟨_, rfl⟩
  rw [← hP] at e hl pj p0
  obtain ⟨G, hG⟩ : ∃ G, G = d * P := ⟨_, rfl⟩
  have hD : d * 2 ^ j = 2 * G := by rw [pj, hG, Nat.mul_left_comm]
  obtain ⟨S, hS⟩ : ∃ S, S = low * d + R := ⟨_, rfl⟩
  have hSG : S < G := by
    have h1 : (low + 1) * d ≤ P * d := Nat.mul_le_mul_right d hl
    rw [Nat.add_mul, Nat.one_mul, Nat.mul_comm P d, ← hG] at h1
    omega
  have hN : N = (m * 2 + b) * G + S := by
    rw [hF, e, Nat.add_mul, hS, hG, Nat.mul_assoc, Nat.mul_comm P d, Nat.add_assoc]
  have hq : N = 2 * G * m + (b * G + S) := by
    rw [hN, Nat.add_mul, Nat.mul_assoc m, Nat.add_assoc, Nat.mul_comm m]
  have hr : b * G + S < 2 * G := by
    have : b * G ≤ 1 * G := Nat.mul_le_mul_right G hb
    omega
  have h0 : S = 0 ↔ low = 0 ∧ R = 0 := by
    rw [hS]
    constructor
    · intro h
      have h1 : low * d = 0 := by omega
      rcases Nat.mul_eq_zero.1 h1 with r | r
      · exact ⟨r, by omega⟩
      · omega
    · rintro ⟨h1, h2⟩; rw [h1, h2, Nat.zero_mul]
  unfold rneD
  rw [hD]
  have q1 : N / (2 * G) = m := by
    rw [hq, Nat.mul_add_div (by omega), Nat.div_eq_of_lt hr, Nat.add_zero]
  have q2 : N % (2 * G) = b * G + S := by
    rw [hq, Nat.mul_add_mod, Nat.mod_eq_of_lt hr]
  rw [q1, q2]
  congr 1
  have hb' : b = 0 ∨ b = 1 := by omega
  rcases hb' with rfl | rfl
  · rw [if_neg (by rw [Nat.zero_mul]; omega), if_neg (by omega)]
  · rw [Nat.one_mul]
    by_cases s0 : S = 0
    · obtain ⟨z1, z2⟩ := h0.1 s0
      by_cases mo : m % 2 = 1
      · rw [if_pos (by omega), if_pos (by omega)]
      · rw [if_neg (by omega), if_neg (by omega)]
    · have : low ≠ 0 ∨ R ≠ 0 := by
        by_cases z : low = 0
        · right; intro z2; exact s0 (h0.2 ⟨z, z2⟩)
        · exact Or.inl z
      rw [if_pos (by omega), if_pos ⟨rfl, Or.inl this⟩]
/-- three words of a quotient -/
theorem quo_words {n d q r q1 r1 q2 r2 : Nat} (a : d * q + r = n) (b : d * q1 + r1 = r * 18446744073709551616) (c : d * q2 + r2 = r1 * 18446744073709551616) : n * 340282366920938463463374607431768211456 = (q * 340282366920938463463374607431768211456 + q1 * 18446744073709551616 + q2) * d + r2 := by
  have k : n * 340282366920938463463374607431768211456 = d * q * 340282366920938463463374607431768211456 + (d * q1 * 18446744073709551616 + (d * q2 + r2)) := by
    rw [c, ← Nat.add_mul, b, ← a, Nat.add_mul, Nat.mul_assoc r]
  rw [k, Nat.add_mul, Nat.add_mul, Nat.mul_right_comm q, Nat.mul_right_comm q1, Nat.mul_comm q d, Nat.mul_comm q1 d, Nat.mul_comm q2 d, Nat.add_assoc, Nat.add_assoc]
/-- the word is the nearest -/
theorem quo_near {n p L x M : Nat} (h1 : 2 ^ L ≤ n * 340282366920938463463374607431768211456 / 10 ^ p) (h2 : n * 340282366920938463463374607431768211456 / 10 ^ p < 2 ^ (L + 1)) (hL : 53 ≤ L) (hL2 : L ≤ 170)
    (hM : M = rneD (n * 340282366920938463463374607431768211456) (10 ^ p * 2 ^ (L - 52))) (hx : x % 9223372036854775808 = M + (1074 - (180 - L)) * 4503599627370496) : NearK n p (180 - L) x := by
  have t0 := ten_pos p
  have e : n * 340282366920938463463374607431768211456 = n * 2 ^ (180 - L) * 2 ^ (L - 52) := by
    rw [Nat.mul_assoc, ← Nat.pow_add, show 180 - L + (L - 52) = 128 by omega]
  have pl : 2 ^ L = 4503599627370496 * 2 ^ (L - 52) := by
    rw [show (4503599627370496 : Nat) = 2 ^ 52 by decide, ← Nat.pow_add]; congr 1; omega
  have pl2 : 2 ^ (L + 1) = 9007199254740992 * 2 ^ (L - 52) := by
    rw [show (9007199254740992 : Nat) = 2 ^ 53 by decide, ← Nat.pow_add]; congr 1; omega
  have p0 := Nat.two_pow_pos (L - 52)
  rw [Nat.le_div_iff_mul_le t0, e, pl, Nat.mul_right_comm 4503599627370496] at h1
  rw [Nat.div_lt_iff_lt_mul t0, e, pl2, Nat.mul_right_comm 9007199254740992] at h2
  refine ⟨Nat.le_of_mul_le_mul_right h1 p0, Nat.lt_of_mul_lt_mul_right h2, ?_⟩
  rw [hx, hM, e, rneD_scale p0]
end Go.Proofs.YtocnpcjpkieogaaGreatDoor
