/- Proved here: what the reference's long sums answer when products are put to them, and their sign. -/
import Derived.Test.YtkfagpahbojigaaAdd
import Derived.Test.YtkfagpahbojigaaMul
namespace Go.Proofs.Ytkfagpahbojigaa
open Go.ChangeShapes Go.WideShapes Go.ChangeAt Go.RowKit Ieee.Own

theorem pow_split (e f g h : Nat) (he : e + f = g + h) : 2 ^ e * 2 ^ f = 2 ^ g * 2 ^ h := by rw [← Nat.pow_add, ← Nat.pow_add, he]

theorem mul_cast (x y c k : Nat) (h : x * y = c * 2 ^ k) : (x : Int) * (y : Int) = (c : Int) * 2 ^ k := by
  rw [← Int.natCast_mul, h, Int.natCast_mul, Int.natCast_pow]; rfl

theorem prod_parts (s t : Bool) (m n e f g : Nat) (X Y Z : Int) (hg : e + f = g + 1124)
    (hX : X = if s then -((m * 2 ^ e : Nat) : Int) else ((m * 2 ^ e : Nat) : Int)) (hY : Y = if t then -((n * 2 ^ f : Nat) : Int) else ((n * 2 ^ f : Nat) : Int)) (hZ : X * Y = Z * 2 ^ 1124) :
    (if (!(s == t)) = true then -((m * n % 18446744073709551616 * 2 ^ g : Nat) : Int) else ((m * n % 18446744073709551616 * 2 ^ g : Nat) : Int)) +
    (if (!(s == t)) = true then -((m * n / 18446744073709551616 * 2 ^ (g + 64) : Nat) : Int) else ((m * n / 18446744073709551616 * 2 ^ (g + 64) : Nat) : Int)) = Z := by
  have h1 : m * n % 18446744073709551616 * 2 ^ g + m * n / 18446744073709551616 * 2 ^ (g + 64) = m * n * 2 ^ g := by
    rw [Nat.pow_add, Nat.mul_comm (2 ^ g) (2 ^ 64), ← Nat.mul_assoc, ← Nat.add_mul]
    congr 1; omega
  have h2 : m * 2 ^ e * (n * 2 ^ f) = m * n * 2 ^ g * 2 ^ 1124 := by
    have hq := pow_split e f g 1124 hg
    rw [show m * 2 ^ e * (n * 2 ^ f) = m * n * (2 ^ e * 2 ^ f) from Nat.mul_mul_mul_comm m (2 ^ e) n (2 ^ f), hq, ← Nat.mul_assoc]
  generalize m * n % 18446744073709551616 * 2 ^ g = a at *
  generalize m * n / 18446744073709551616 * 2 ^ (g + 64) = b at *
  generalize m * n * 2 ^ g = c at *
  have h3 : ((m * 2 ^ e : Nat) : Int) * ((n * 2 ^ f : Nat) : Int) = (c : Int) * 2 ^ 1124 := mul_cast _ _ c 1124 h2
  have hp : (0 : Int) < 2 ^ 1124 := Int.pow_pos (by omega)
  generalize ((m * 2 ^ e : Nat) : Int) = x at *
  generalize ((n * 2 ^ f : Nat) : Int) = y at *
  have hc : Z = if (!(s == t)) = true then -(c : Int) else (c : Int) := by
    refine Int.eq_of_mul_eq_mul_right (Int.ne_of_gt hp) ?_
    rw [← hZ, hX, hY]
    generalize (2 : Int) ^ 1124 = M at *
    cases s <;> cases t <;> simp [h3, Int.neg_mul, Int.mul_neg]
  rw [hc]
  cases s <;> cases t <;> simp <;> omega

theorem prod_any (k b c g : Nat) (Z z : Int) (ws : Nat → Nat) (w : World) (hb : FinW b) (hc : FinW c) (hZ : V b * V c = Z * 2 ^ 1124)
    (hr : (mg 52 (b % 9223372036854775808) = 0 ∨ mg 52 (c % 9223372036854775808) = 0) ∨ ex 52 (b % 9223372036854775808) + ex 52 (c % 9223372036854775808) = g + 1124 ∧ g < 1408) (H : Holds k w z ws) :
    Calls Try.prog 30 #[.pointer (some ⟨k, 0, none⟩), .float .f64 b, .float .f64 c] w (PutPost k w (z + Z)) := by
  have M1 := fun w => mant_any b hb w
  have M2 := fun w => mant_any c hc w
  have hv1 := V_mg b hb
  have hv2 := V_mg c hc
  have hlt1 := below0 b hb
  have hlt2 := below0 c hc
  have hml1 : mg 52 (b % 9223372036854775808) < 18446744073709551616 := Nat.lt_trans (mg_lt 52 _) (by decide)
  have hml2 : mg 52 (c % 9223372036854775808) < 18446744073709551616 := Nat.lt_trans (mg_lt 52 _) (by decide)
  generalize mg 52 (b % 9223372036854775808) = m at *
  generalize ex 52 (b % 9223372036854775808) = e at *
  generalize mg 52 (c % 9223372036854775808) = n at *
  generalize ex 52 (c % 9223372036854775808) = f at *
  by_cases h0 : m = 0 ∨ n = 0
  · have hZ0 : Z = 0 := by
      have hp : (0 : Int) < 2 ^ 1124 := Int.pow_pos (by omega)
      have : Z * 2 ^ 1124 = 0 := by
        rw [← hZ, hv1, hv2]
        rcases h0 with h | h <;> subst h <;> simp
      generalize (2 : Int) ^ 1124 = M at *
      rcases Int.mul_eq_zero.1 this with h | h <;> omega
    have hPost : Hid (PutPost k w (z + Z) (.returned (.tuple #[])) w) := ⟨rfl, ⟨ws, by rw [hZ0, Int.add_zero]; exact H⟩, Still.refl _ _⟩
    clear hv1 hv2 hlt1 hlt2 hml1 hml2 hZ hr H hZ0 hb hc
    by_cases hm : m = 0
    · have t1 : ((m : Int) == 0) = true := ieq_t (by omega)
      clear hm h0
      go_enter Try.func30, Try.ntmps30
      go_wp2_with (first | (go_at_call 62; ((with_reducible refine (M1 _).mono ?_); rintro e w' ⟨rfl, rfl⟩)) | (go_at_call 62; ((with_reducible refine (M2 _).mono ?_); rintro e w' ⟨rfl, rfl⟩)))
      go_end0
      exact hPost.out
    · have t1 : ((m : Int) == 0) = false := ieq_f (by omega)
      have t2 : ((n : Int) == 0) = true := ieq_t (by omega)
      clear hm h0
      go_enter Try.func30, Try.ntmps30
      go_wp2_with (first | (go_at_call 62; ((with_reducible refine (M1 _).mono ?_); rintro e w' ⟨rfl, rfl⟩)) | (go_at_call 62; ((with_reducible refine (M2 _).mono ?_); rintro e w' ⟨rfl, rfl⟩)))
      go_end0
      exact hPost.out
  · have e1 := hlt1 (by omega)
    have e2 := hlt2 (by omega)
    have t1 : ((m : Int) == 0) = false := ieq_f (by omega)
    have t2 : ((n : Int) == 0) = false := ieq_f (by omega)
    obtain ⟨hg, hg2⟩ : e + f = g + 1124 ∧ g < 1408 := by
      rcases hr with h | h
      · omega
      · exact h
    have hsum := prod_parts (decide (9223372036854775808 ≤ b)) (decide (9223372036854775808 ≤ c)) m n e f g (V b) (V c) Z hg (by rw [hv1]; simp) (by rw [hv2]; simp) hZ
    have U := mul64_any m n hml1 hml2
    have hlo : m * n % 18446744073709551616 < 18446744073709551616 := Nat.mod_lt _ (by omega)
    have hhi : m * n / 18446744073709551616 < 18446744073709551616 := by
      rw [Nat.div_lt_iff_lt_mul (by omega)]; exact Nat.mul_lt_mul_of_lt_of_lt hml1 hml2
    generalize m * n % 18446744073709551616 = lo at *
    generalize m * n / 18446744073709551616 = hi at *
    generalize decide (9223372036854775808 ≤ b) = s at *
    generalize decide (9223372036854775808 ≤ c) = t at *
    have P1 := put_any k lo g (!(s == t)) w z ws H hlo (by omega)
    have t3 : (e : Int) - 1074 + ((f : Int) - 1074) + 1024 = (g : Int) := by omega
    have t4 : (e : Int) - 1074 + ((f : Int) - 1074) + 1088 = ((g + 64 : Nat) : Int) := by omega
    have t5 : (e : Int) ≤ 3000 := by omega
    have t6 : (f : Int) ≤ 3000 := by omega
    have t7 : 0 ≤ (e : Int) := by omega
    have t8 : 0 ≤ (f : Int) := by omega
    have P2 : ∀ w1 z1 ns, Holds k w1 z1 ns → Calls Try.prog 63 #[.pointer (some ⟨k, 0, none⟩), .int .u64 hi, .int .i64 ((g : Int) + 64), .bool (!(s == t))] w1 (PutPost k w1 (z1 + (if (!(s == t)) = true then -((hi * 2 ^ (g + 64) : Nat) : Int) else ((hi * 2 ^ (g + 64) : Nat) : Int)))) := by
      intro w1 z1 ns H1
      have := put_any k hi (g + 64) (!(s == t)) w1 z1 ns H1 hhi (by omega)
      rw [Int.natCast_add] at this
      exact this
    clear hv1 hv2 hlt1 hlt2 hml1 hml2 hZ hr hb hc hg hlo h0
    have H := Lib.hid H
    have hhi := Lib.hid (And.intro hhi hg2)
    have hsum := Lib.hid hsum
    clear hg2
    go_enter Try.func30, Try.ntmps30
    go_wp2_with (first | (go_at_call 62; ((with_reducible refine (M1 _).mono ?_); rintro e w' ⟨rfl, rfl⟩)) | (go_at_call 62; ((with_reducible refine (M2 _).mono ?_); rintro e w' ⟨rfl, rfl⟩)) | (go_at_call 64; ((with_reducible refine (U _).mono ?_); rintro e w' ⟨rfl, rfl⟩)) | (go_at_call 63; ((with_reducible refine P1.mono ?_); rintro e w1 ⟨rfl, ⟨ns, H1⟩, hb1⟩)))
    refine (P2 _ _ _ H1).mono ?_
    rintro e w2 ⟨rfl, ⟨ns2, H2⟩, hb2⟩
    rw [Int.add_assoc, hsum.out] at H2
    have H2 := Lib.hid H2
    clear H1 P1 P2 U
    go_wp2
    go_end0
    exact ⟨rfl, ⟨ns2, H2.out⟩, hb1.trans hb2⟩

/-! ### the sign -/
theorem sign_zero (k : Nat) (ws : Nat → Nat) (w : World) (H : Holds k w 0 ws) :
    Calls Try.prog 32 #[.pointer (some ⟨k, 0, none⟩)] w fun e w' => e = .returned (.int .i64 0) ∧ w = w' := by
  have hz : ∀ i, i < 24 → ws i = 0 := by
    apply sumW_zero
    have hv := H.val
    rw [Int.sub_zero] at hv
    have hl := sumW_lt ws H.lt 24
    exact Nat.eq_zero_of_dvd_of_lt (Int.natCast_dvd_natCast.1 hv) hl
  have hc : ∀ i, i < 24 → w.cell? ⟨k, i, none⟩ = some (.int .u64 0) := by
    intro i hi; rw [H.cell i hi, hz i hi]; rfl
  have c23 := hc 23 (by omega)
  have hc := Lib.hid hc
  clear hz H
  go_enter Try.func32, Try.ntmps32
  go_wp2
  go_loop [3] (fun i => ∃ j : Nat, j ≤ 24 ∧ i = .int .i64 j) (fun i => 24 - (intOf i).toNat)
  case atStart => exact ⟨0, by omega, rfl⟩
  case round =>
    obtain ⟨j, hj, rfl⟩ := hrel
    by_cases hlt : j < 24
    · have g1 := hc.out j hlt
      go_wp2
      go_round
      case rel => exact ⟨j + 1, hlt, by go_num⟩
      case measure => simp [intOf]; omega
    · obtain rfl : j = 24 := by omega
      go_wp2
      go_ret
      exact ⟨rfl, rfl⟩
end Go.Proofs.Ytkfagpahbojigaa
