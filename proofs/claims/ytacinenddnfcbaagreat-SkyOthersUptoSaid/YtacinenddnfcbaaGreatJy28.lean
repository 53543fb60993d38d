/- Proved here: what the texts Rwd, Hra, Hrb prove, one behind the other. -/
import Derived.Test.YtacinenddnfcbaaGreatJy9
import Derived.Laws.Externs
import Derived.Laws.BitsAllLaws
import Derived.Test.YtacinenddnfcbaaGreatJy20
import Derived.Test.YtacinenddnfcbaaGreatJy11
import Derived.Test.YtacinenddnfcbaaGreatJy10

set_option maxRecDepth 100000
set_option maxHeartbeats 4000000
namespace Go.Proofs.YtacinenddnfcbaaGreat
open Go.ChangeShapes Go.WideShapes Go.ChangeAt Go.RowKit Ieee.Own

theorem x56w (b : Nat) (w : World) : (callFunc 234 #[.float .f32 b]).run Tryz.prog w = .ok (.value (.int .u32 (b : Int))) w := by
 rw [run_callFunc_extern (e := Extern.MathFloatBits.float32bits) Tryz.func234 (by kernel_rfl) (by kernel_rfl) (by kernel_rfl) (by kernel_rfl)]; rfl
theorem x53w (n : Int) (w : World) : (callFunc 67 #[.int .u64 n]).run Tryz.prog w = .ok (.value (.float .f64 n.toNat)) w := by
 rw [run_callFunc_extern (e := Extern.MathFloatBits.float64frombits) Tryz.func67 (by kernel_rfl) (by kernel_rfl) (by kernel_rfl) (by kernel_rfl)]; rfl
theorem andn31w (b : Nat) (hb : b < 4294967296) : bits BinOp.andNot IntKind.u32 (b : Int) 2147483648 = ((b % 2147483648 : Nat) : Int) := by
 rw [show (2147483648 : Int) = ((2147483648 : Nat) : Int) from rfl, u32_andNot_nat b 2147483648 hb (by omega)]
 exact congrArg _ (Nat.and_two_pow_sub_one_eq_mod b 31)
theorem and23w (b : Nat) (hb : b < 4294967296) : bits BinOp.and IntKind.u64 (b : Int) 8388607 = ((b % 8388608 : Nat) : Int) := by
 rw [show (8388607 : Int) = ((8388607 : Nat) : Int) from rfl, u64_and_nat b 8388607 (by omega) (by omega)]
 exact congrArg _ (Nat.and_two_pow_sub_one_eq_mod b 23)
theorem and8w (b : Nat) (hb : b < 4294967296) : bits BinOp.and IntKind.u64 ((b : Int) / 8388608) 255 = ((b / 8388608 % 256 : Nat) : Int) := by
 rw [show (255 : Int) = ((255 : Nat) : Int) from rfl, show ((b : Int) / 8388608) = ((b / 8388608 : Nat) : Int) by omega, u64_and_nat _ 255 (by omega) (by omega)]
 exact congrArg _ (Nat.and_two_pow_sub_one_eq_mod _ 8)
def kls32 (b : Nat) : Int :=
 if b % 2147483648 = 0 then 1 else if b % 2147483648 < 8388608 then 2
 else if b % 2147483648 < 2139095040 then 3 else if b % 2147483648 = 2139095040 then 4 else 5
theorem iq_f {a b : Int} (h : ¬ a = b) : (a == b) = false := by simpa using h
theorem iq_t {a b : Int} (h : a = b) : (a == b) = true := by simpa using h
theorem rcls32 (b : Nat) (hb : b < 4294967296) (w : World) :
 Calls Tryz.prog 235 #[.float .f32 b] w fun e w' => e = .returned (.int .i64 (kls32 b)) ∧ w = w' := by
 have H := andn31w b hb
 unfold kls32
 clear hb
 generalize b % 2147483648 = m at *
 by_cases h1 : m = 0
 · subst h1
   go_enter Tryz.func235, Tryz.ntmps235
   go_wp2_with (simp only [x56w])
   go_ret
   exact ⟨rfl, rfl⟩
 have t1 : ((m : Int) == 0) = false := iq_f (by omega)
 by_cases h2 : m < 8388608
 · have t2 : decide ((m : Int) < 8388608) = true := decide_eq_true (by omega)
   rw [if_neg h1, if_pos h2]
   clear h1 h2
   go_enter Tryz.func235, Tryz.ntmps235
   go_wp2_with (simp only [x56w])
   go_ret
   exact ⟨rfl, rfl⟩
 have t2 : decide ((m : Int) < 8388608) = false := decide_eq_false (by omega)
 by_cases h3 : m < 2139095040
 · have t3 : decide ((m : Int) < 2139095040) = true := decide_eq_true (by omega)
   rw [if_neg h1, if_neg h2, if_pos h3]
   clear h1 h2 h3
   go_enter Tryz.func235, Tryz.ntmps235
   go_wp2_with (simp only [x56w])
   go_ret
   exact ⟨rfl, rfl⟩
 have t3 : decide ((m : Int) < 2139095040) = false := decide_eq_false (by omega)
 by_cases h4 : m = 2139095040
 · have t4 : ((m : Int) == 2139095040) = true := iq_t (by omega)
   rw [if_neg h1, if_neg h2, if_neg h3, if_pos h4]
   clear h1 h2 h3 h4
   go_enter Tryz.func235, Tryz.ntmps235
   go_wp2_with (simp only [x56w])
   go_ret
   exact ⟨rfl, rfl⟩
 · have t4 : ((m : Int) == 2139095040) = false := iq_f (by omega)
   rw [if_neg h1, if_neg h2, if_neg h3, if_neg h4]
   clear h1 h2 h3 h4
   go_enter Tryz.func235, Tryz.ntmps235
   go_wp2_with (simp only [x56w])
   go_ret
   exact ⟨rfl, rfl⟩
theorem ret_fl {k : FloatKind} {a b : Nat} (h : a = b) : Ending.returned (.float k a) = .returned (.float k b) := by rw [h]
theorem val_big {F q m : Nat} (hq : 1 ≤ q) (hm : m < 2 ^ F) : val F (q * 2 ^ F + m) = (2 ^ F + m) * 2 ^ (q - 1) := by
 have h1 : ¬ q * 2 ^ F + m < 2 ^ F := by
  have := Nat.mul_le_mul_right (2 ^ F) hq
  omega
 have h2 : (q * 2 ^ F + m) % 2 ^ F = m := by rw [Nat.mul_comm, Nat.mul_add_mod, Nat.mod_eq_of_lt hm]
 have h3 : (q * 2 ^ F + m) / 2 ^ F = q := by rw [Nat.mul_comm, Nat.mul_add_div (Nat.two_pow_pos F), Nat.div_eq_of_lt hm, Nat.add_zero]
 unfold val mg ex
 rw [if_neg h1, if_neg h1, h2, h3]
theorem val_low {F m : Nat} (hm : m < 2 ^ F) : val F m = m := by
 unfold val mg ex
 rw [if_pos hm, if_pos hm, Nat.pow_zero, Nat.mul_one]
theorem scale_up (a : Nat) {i j k l : Nat} (e : i + j = k + l) : a * 2 ^ i * 2 ^ j = a * 2 ^ k * 2 ^ l := by
 rw [Nat.mul_assoc, ← Nat.pow_add, e, Nat.pow_add, Nat.mul_assoc]
theorem scale_3 (m : Nat) {k i j l : Nat} (e : k + i + j = l) : m * 2 ^ k * 2 ^ i * 2 ^ j = m * 2 ^ l := by
 rw [← e, Nat.pow_add, Nat.pow_add, Nat.mul_assoc, Nat.mul_assoc, Nat.mul_assoc]
theorem zero_rank {F G k a b : Nat} (h : a = 0) (g : b = 0) : val F a = val G b * 2 ^ k := by rw [h, g, val_zero, val_zero, Nat.zero_mul]
theorem rank_norm {x m c : Nat} (hc : c = 925) (hx : 1 ≤ x) (hm : m < 8388608) : val 52 ((x + 896) * 4503599627370496 + m * 536870912) = val 23 (x * 8388608 + m) * 2 ^ c := by
 have a := val_big (F := 52) (q := x + 896) (m := m * 536870912) (by omega) (by omega)
 have b := val_big (F := 23) (q := x) (m := m) hx (by omega)
 rw [show (2 : Nat) ^ 52 = 4503599627370496 by rfl] at a
 rw [show (2 : Nat) ^ 23 = 8388608 by rfl] at b
 rw [a, b, show 4503599627370496 + m * 536870912 = (8388608 + m) * 2 ^ 29 by omega]
 exact scale_up _ (by omega)
theorem rank_sub {m k u c : Nat} (hc : c = 925) (hm : m < 8388608) (hu : u = m * 2 ^ k) (hk : k ≤ 23) (h1 : 8388608 ≤ u) (h2 : u < 16777216) : val 52 ((897 - k) * 4503599627370496 + (u - 8388608) * 536870912) = val 23 m * 2 ^ c := by
 have a := val_big (F := 52) (q := 897 - k) (m := (u - 8388608) * 536870912) (by omega) (by omega)
 rw [show (2 : Nat) ^ 52 = 4503599627370496 by rfl] at a
 rw [a, val_low (show m < 2 ^ 23 by omega), show 4503599627370496 + (u - 8388608) * 536870912 = u * 2 ^ 29 by omega, hu]
 exact scale_3 _ (by omega)
theorem wide_eq {f W c : Nat} (hc : c = 925) (hf : f < 4294967296) (hn : f % 2147483648 < 2139095040) (hW : W < 18446744073709551616) (hv : val 52 (W % 9223372036854775808) = val 23 (f % 2147483648) * 2 ^ c) (hs : W < 9223372036854775808 ↔ f < 2147483648) : wideW f = W := by
 obtain ⟨a, -, -, -, -, b, d⟩ := wide_spec f hf (by omega)
 rw [← hc] at d
 have e := (val_eq_iff 52 _ _).1 ((d hn).trans hv.symm)
 generalize wideW f = X at *
 omega
structure Pt32 (f s x m : Nat) : Prop where
 hf : f < 4294967296
 s2 : s < 2
 x8 : x < 256
 m23 : m < 8388608
 hr : f % 2147483648 = x * 8388608 + m
 hs : s = f / 2147483648
theorem wide_zero {f s x m : Nat} (P : Pt32 f s x m) (h : x * 8388608 + m = 0) : wideW f = s * 9223372036854775808 := by
 obtain ⟨hf, s2, x8, m23, hr, hs⟩ := P
 obtain ⟨c, hc⟩ : ∃ c, c = 925 := ⟨_, rfl⟩
 exact wide_eq hc hf (by omega) (by omega) (zero_rank (by omega) (by omega)) (by omega)
theorem wide_norm {f s x m : Nat} (P : Pt32 f s x m) (h1 : 1 ≤ x) (h2 : x < 255) : wideW f = s * 9223372036854775808 + (x + 896) * 4503599627370496 + m * 536870912 := by
 obtain ⟨hf, s2, x8, m23, hr, hs⟩ := P
 obtain ⟨c, hc⟩ : ∃ c, c = 925 := ⟨_, rfl⟩
 have e : (s * 9223372036854775808 + (x + 896) * 4503599627370496 + m * 536870912) % 9223372036854775808 = (x + 896) * 4503599627370496 + m * 536870912 := by omega
 exact wide_eq hc hf (by omega) (by omega) (by rw [e, hr]; exact rank_norm hc h1 m23) (by omega)
theorem wide_sub {f s x m k u : Nat} (P : Pt32 f s x m) (h : x = 0) (hu : u = m * 2 ^ k) (hk : k ≤ 23) (h1 : 8388608 ≤ u) (h2 : u < 16777216) : wideW f = s * 9223372036854775808 + (897 - k) * 4503599627370496 + (u - 8388608) * 536870912 := by
 obtain ⟨hf, s2, x8, m23, hr, hs⟩ := P
 obtain ⟨c, hc⟩ : ∃ c, c = 925 := ⟨_, rfl⟩
 have e : (s * 9223372036854775808 + (897 - k) * 4503599627370496 + (u - 8388608) * 536870912) % 9223372036854775808 = (897 - k) * 4503599627370496 + (u - 8388608) * 536870912 := by omega
 have er : f % 2147483648 = m := by omega
 exact wide_eq hc hf (by omega) (by omega) (by rw [e, er]; exact rank_sub hc m23 hu hk h1 h2) (by omega)
theorem wide_inf {f s x m : Nat} (P : Pt32 f s x m) (h : x * 8388608 + m = 2139095040) : wideW f = s * 9223372036854775808 + 9218868437227405312 := by
 obtain ⟨hf, s2, x8, m23, hr, hs⟩ := P
 have h2 : f = 2139095040 ∨ f = 4286578688 := by omega
 rcases h2 with rfl | rfl
 · have e : wideW 2139095040 = 9218868437227405312 := by unfold wideW; rw [if_neg (by decide), wide_up]; rfl
   rw [e]; omega
 · have e : wideW 4286578688 = 18442240474082181120 := by unfold wideW; rw [if_neg (by decide), wide_down]; rfl
   rw [e]; omega
theorem wide_non {f s x m : Nat} (P : Pt32 f s x m) (h : 2139095040 < x * 8388608 + m) : wideW f = 9221120237041090560 := by
 unfold wideW
 rw [if_pos (by rw [P.hr]; exact h)]
theorem or_top {s y : Nat} (hs : s < 2) (hy : y < 9223372036854775808) : bits BinOp.or IntKind.u64 ((s : Int) * 9223372036854775808) (y : Int) = ((s * 9223372036854775808 + y : Nat) : Int) := by
 rw [show (s : Int) * 9223372036854775808 = ((s * 9223372036854775808 : Nat) : Int) by omega, u64_or_nat _ _ (by omega) (by omega)]
 have := Nat.two_pow_add_eq_or_of_lt (i := 63) (b := y) hy s
 rw [show (2 : Nat) ^ 63 = 9223372036854775808 by rfl, Nat.mul_comm] at this
 rw [← this]
theorem or_low {q y : Nat} (hq : q < 4096) (hy : y < 4503599627370496) : bits BinOp.or IntKind.u64 ((q * 4503599627370496 : Nat) : Int) (y : Int) = ((q * 4503599627370496 + y : Nat) : Int) := by
 rw [u64_or_nat _ _ (by omega) (by omega)]
 have := Nat.two_pow_add_eq_or_of_lt (i := 52) (b := y) hy q
 rw [show (2 : Nat) ^ 52 = 4503599627370496 by rfl, Nat.mul_comm] at this
 rw [← this]
theorem or_all {s q y : Nat} (hs : s < 2) (hq : q < 2048) (hy : y < 4503599627370496) :
 bits BinOp.or IntKind.u64 (bits BinOp.or IntKind.u64 ((s : Int) * 9223372036854775808) ((q : Int) * 4503599627370496)) (y : Int) = ((s * 9223372036854775808 + q * 4503599627370496 + y : Nat) : Int) := by
 rw [show (q : Int) * 4503599627370496 = ((q * 4503599627370496 : Nat) : Int) by omega, or_top hs (by omega), show s * 9223372036854775808 + q * 4503599627370496 = (s * 2048 + q) * 4503599627370496 by omega, or_low (by omega) hy]
theorem top_bits (m : Nat) (h0 : 0 < m) (hm : m < 8388608) : ∃ k, k ≤ 23 ∧ 1 ≤ k ∧ 8388608 ≤ m * 2 ^ k ∧ m * 2 ^ k < 16777216 ∧ ∀ j, j < k → m * 2 ^ j < 8388608 := by
 obtain ⟨l1, l2⟩ := (Nat.log2_eq_iff (n := m) (by omega)).1 rfl
 generalize Nat.log2 m = l at *
 have hl : l < 23 := by
  by_cases c : l < 23
  · exact c
  · have := Nat.pow_le_pow_right (n := 2) (by omega) (show 23 ≤ l by omega)
    omega
 have k1 : 2 ^ l * 2 ^ (23 - l) ≤ m * 2 ^ (23 - l) := Nat.mul_le_mul_right _ l1
 have k2 : m * 2 ^ (23 - l) < 2 ^ (l + 1) * 2 ^ (23 - l) := Nat.mul_lt_mul_of_pos_right l2 (Nat.two_pow_pos _)
 rw [← Nat.pow_add, show l + (23 - l) = 23 by omega] at k1
 rw [← Nat.pow_add, show l + 1 + (23 - l) = 24 by omega] at k2
 refine ⟨23 - l, by omega, by omega, k1, k2, fun j hj => ?_⟩
 have a : m * 2 ^ j < 2 ^ (l + 1) * 2 ^ j := Nat.mul_lt_mul_of_pos_right l2 (Nat.two_pow_pos _)
 rw [← Nat.pow_add] at a
 have b := Nat.pow_le_pow_right (n := 2) (by omega) (show l + 1 + j ≤ 23 by omega)
 omega
theorem or_inf {s : Nat} (hs : s < 2) : (bits BinOp.or IntKind.u64 ((s : Int) * 9223372036854775808) 9218868437227405312).toNat = s * 9223372036854775808 + 9218868437227405312 := by
 have h : s = 0 ∨ s = 1 := by omega
 rcases h with rfl | rfl <;> decide +kernel
theorem or_nrm {s m : Nat} {q' : Int} {q : Nat} (hs : s < 2) (hq : q' = q) (h : q < 2048) (hm : m < 8388608) :
 (bits BinOp.or IntKind.u64 (bits BinOp.or IntKind.u64 ((s : Int) * 9223372036854775808) (q' * 4503599627370496)) ((m : Int) * 536870912)).toNat = s * 9223372036854775808 + q * 4503599627370496 + m * 536870912 := by
 have o := or_all (q := q) (y := m * 536870912) hs h (by omega)
 rw [hq, show (m : Int) * 536870912 = ((m * 536870912 : Nat) : Int) by omega, o, Int.toNat_natCast]
theorem rwide_run (f : Nat) (hf : f < 4294967296) (w : World) :
 Calls Tryz.prog 170 #[.float .f32 f] w fun e w' => e = .returned (.float .f64 (wideW f)) ∧ w = w' := by
 have CC := fun w => rcls32 f hf w
 have a1 := and23w f hf
 have a2 := and8w f hf
 obtain ⟨s, hs⟩ : ∃ s : Nat, s = f / 2147483648 := ⟨_, rfl⟩
 obtain ⟨x, hx⟩ : ∃ x : Nat, x = f / 8388608 % 256 := ⟨_, rfl⟩
 obtain ⟨m, hm⟩ : ∃ m : Nat, m = f % 8388608 := ⟨_, rfl⟩
 have hs' : (f : Int) / 2147483648 = (s : Int) := by omega
 have P : Pt32 f s x m := ⟨hf, by omega, by omega, by omega, by omega, hs⟩
 rw [← hx] at a2
 rw [← hm] at a1
 have ek : kls32 f = if x * 8388608 + m = 0 then 1 else if x * 8388608 + m < 8388608 then 2 else if x * 8388608 + m < 2139095040 then 3 else if x * 8388608 + m = 2139095040 then 4 else 5 := by unfold kls32; rw [P.hr]
 rw [ek] at CC
 clear ek hx hm hs
 have s2 := P.s2
 have x8 := P.x8
 have m23 := P.m23
 generalize hW : wideW f = W
 by_cases c1 : x * 8388608 + m = 0
 · rw [if_pos c1] at CC
   have e2 : ((s : Int) * 9223372036854775808).toNat = s * 9223372036854775808 := by omega
   have e := Lib.hid (hW.symm.trans (wide_zero P c1))
   clear hW P c1
   replace e2 := Lib.hid e2
   go_enter Tryz.func170, Tryz.ntmps170
   go_wp2_with (first | simp only [x56w] | simp only [x53w] | (go_at_call 235; ((with_reducible refine (CC _).mono ?_); rintro e w' ⟨rfl, rfl⟩)))
   go_ret
   exact ⟨ret_fl (e2.out.trans e.out.symm), rfl⟩
 rw [if_neg c1] at CC
 by_cases c2 : x * 8388608 + m < 8388608
 · rw [if_pos c2] at CC
   have x0 : x = 0 := by omega
   obtain ⟨k, k1, k2, t1, t2, tj⟩ := top_bits m (by omega) m23
   obtain ⟨u, hu⟩ : ∃ u, u = m * 2 ^ k := ⟨_, rfl⟩
   rw [← hu] at t1 t2
   have e3 := Lib.hid (or_nrm (q' := 1 - (k : Int) - 127 + 1023) (m := u - 8388608) s2 (show 1 - (k : Int) - 127 + 1023 = ((897 - k : Nat) : Int) by omega) (by omega) (by omega))
   have tm : (((u - 8388608 : Nat)) : Int) = (u : Int) - 8388608 := by omega
   have e := Lib.hid (hW.symm.trans (wide_sub P x0 hu k1 t1 t2))
   have tj' : Hid (∀ j, j < k → m * 2 ^ j < 8388608) := Lib.hid tj
   have hu' := Lib.hid hu
   clear hW P c1 c2 x0 tj hu
   go_enter Tryz.func170, Tryz.ntmps170
   go_wp2_with (first | simp only [x56w] | simp only [x53w] | (go_at_call 235; ((with_reducible refine (CC _).mono ?_); rintro e w' ⟨rfl, rfl⟩)))
   go_loop [5, 6] (fun ev mv => ∃ j v : Nat, j ≤ k ∧ v = m * 2 ^ j ∧ ev = .int .i64 (1 - (j : Int)) ∧ mv = .int .u64 v) (fun ev _ => (intOf ev + 23).toNat)
   case atStart => exact ⟨0, m, by omega, by simp, rfl, rfl⟩
   case round =>
    obtain ⟨j, v, hj, hv, rfl, rfl⟩ := hrel
    by_cases hlt : j < k
    · have b := tj'.out j hlt
      rw [← hv] at b
      have hv2 : v * 2 = m * 2 ^ (j + 1) := by rw [hv, Nat.pow_succ, Nat.mul_assoc]
      replace hv2 := Lib.hid hv2
      have td : decide ((v : Int) < 8388608) = true := decide_eq_true (by omega)
      have j23 : j < 23 := by omega
      have tw : IntKind.u64.wrap ((v : Int) * 2) = ((v * 2 : Nat) : Int) := by rw [IntKind.wrap_u64]; omega
      replace b := Lib.hid b
      clear hv t1 t2 hf x8 m23 s2 hj k1 k2
      go_wp2_with fail
      go_round
      case rel => exact ⟨j + 1, v * 2, by omega, hv2.out, by go_num, rfl⟩
      case measure => simp [intOf]; omega
    · have : j = k := by omega
      subst this
      have ev : v = u := by rw [hv, hu'.out]
      subst ev
      have td : decide ((v : Int) < 8388608) = false := decide_eq_false (by omega)
      have tw : IntKind.u64.wrap ((v : Int) - 8388608) = ((v - 8388608 : Nat) : Int) := by rw [IntKind.wrap_u64]; omega
      have tw2 : IntKind.u64.wrap (((v - 8388608 : Nat) : Int) * 536870912) = ((v - 8388608 : Nat) : Int) * 536870912 := by rw [IntKind.wrap_u64]; omega
      clear hv hu' t1 t2 hf x8 m23 s2 hj k2 tm
      go_wp2_with (simp only [x53w])
      go_ret
      exact ⟨ret_fl (e3.out.trans e.out.symm), rfl⟩
 rw [if_neg c2] at CC
 by_cases c3 : x * 8388608 + m < 2139095040
 · rw [if_pos c3] at CC
   have e3 := Lib.hid (or_nrm (q' := (x : Int) - 127 + 1023) s2 (show (x : Int) - 127 + 1023 = ((x + 896 : Nat) : Int) by omega) (by omega) m23)
   have e := Lib.hid (hW.symm.trans (wide_norm P (by omega) (by omega)))
   clear hW P c1 c2 c3
   go_enter Tryz.func170, Tryz.ntmps170
   go_wp2_with (first | simp only [x56w] | simp only [x53w] | (go_at_call 235; ((with_reducible refine (CC _).mono ?_); rintro e w' ⟨rfl, rfl⟩)))
   go_ret
   exact ⟨ret_fl (e3.out.trans e.out.symm), rfl⟩
 rw [if_neg c3] at CC
 by_cases c4 : x * 8388608 + m = 2139095040
 · rw [if_pos c4] at CC
   have e3 := Lib.hid (or_inf s2)
   have e := Lib.hid (hW.symm.trans (wide_inf P c4))
   clear hW P c1 c2 c3 c4
   go_enter Tryz.func170, Tryz.ntmps170
   go_wp2_with (first | simp only [x56w] | simp only [x53w] | (go_at_call 235; ((with_reducible refine (CC _).mono ?_); rintro e w' ⟨rfl, rfl⟩)))
   go_ret
   exact ⟨ret_fl (e3.out.trans e.out.symm), rfl⟩
 · rw [if_neg c4] at CC
   have e := Lib.hid (hW.symm.trans (wide_non P (by omega)))
   clear hW P c1 c2 c3 c4
   go_enter Tryz.func170, Tryz.ntmps170
   go_wp2_with (first | simp only [x56w] | simp only [x53w] | (go_at_call 235; ((with_reducible refine (CC _).mono ?_); rintro e w' ⟨rfl, rfl⟩)))
   go_ret
   exact ⟨ret_fl e.out.symm, rfl⟩
end Go.Proofs.YtacinenddnfcbaaGreat

namespace Go.Proofs.YtacinenddnfcbaaGreat
open Go.ChangeShapes Go.WideShapes Go.ChangeAt Go.RowKit Ieee.Own

theorem rec64 : RecT 125 22 1 8 (.float .f64 0) := ⟨Tryz.underlying125, by kernel_rfl, rfl, by omega⟩
def r64 (L : List Nat) : List (List Value) := L.map fun x => [.float .f64 x]
theorem r64_at {w : World} {ao : Option Addr} {L : List Nat} (h : RAt w ao 1 (r64 L)) : At w ao L := by
 intro j hj
 have e : (r64 L)[j]? = some [.float .f64 (L.getD j 0)] := by unfold r64; simp [hj, List.getD]
 obtain ⟨b, o, eo, -, hc⟩ := h j _ e
 have := hc 0 _ rfl
 rw [Nat.mul_one, Nat.add_zero] at this
 exact ⟨b, o, eo, this⟩
abbrev OwnW (base : Nat) (w : World) (L : List Nat) (v : Value) (w' : World) : Prop := OwnR 22 1 base w (r64 L) v w'
theorem ownW_empty (w : World) : OwnW w.heap.size w [] (.slice (some ⟨w.heap.size, 0, none⟩) 0 0) (w.alloc (.cells #[] 22)) :=
 ⟨(Below.refl _ _).alloc (Nat.le_refl _) _, ownsR_empty w _ _, by simp, ⟨by simp [r64], by simp [r64]⟩⟩
theorem ownW_any {base : Nat} {w w' : World} {L : List Nat} {v : Value} (h : OwnW base w L v w') : ∃ ao m c, v = .slice ao m c := own_any h
theorem ownW_at {base : Nat} {w w' : World} {L : List Nat} {v : Value} (h : OwnW base w L v w') : ∃ ao cap, v = .slice ao L.length cap ∧ L.length ≤ cap ∧ cap ≤ maxLen ∧ At w' ao L := by
 obtain ⟨ao, cap, h1, h2, h3, h4, -, h5⟩ := ownsR_at h.ok h.own
 have e : (r64 L).length = L.length := by unfold r64; simp
 rw [e] at h1 h2
 exact ⟨ao, cap, h1, h2, by first | exact h3 | exact h4, by first | exact r64_at h4 | exact r64_at h3⟩
theorem r64_app (L : List Nat) (x : Nat) : r64 L ++ [[.float .f64 x]] = r64 (L ++ [x]) := by simp [r64]
theorem take_wide {L : List Nat} {i : Nat} (h : i < L.length) : (L.take i).map wideW ++ [wideW (L.getD i 0)] = (L.take (i + 1)).map wideW := by
 have e : L.take (i + 1) = L.take i ++ [L[i]] := by rw [List.take_add_one]; simp [h]
 rw [e, List.map_append]
 simp [List.getD, h]
theorem rrow_run {v : Value} {L : List Nat} (w : World) (hl : L.length ≤ 1048576) (hw : Ws32 L) (h : FsAt w v L) :
 Calls Tryz.prog 101 #[v] w fun e w' => ∃ ao cap, e = .returned (.slice ao L.length cap) ∧ At w' ao (L.map wideW) ∧ Below w.heap.size w w' := by
 obtain ⟨ao, cap, rfl, -, -, -, ha⟩ := h
 obtain ⟨n, hn⟩ : ∃ n, n = L.length := ⟨_, rfl⟩
 rw [← hn] at hl ⊢
 have N0 := Lib.hid (ownW_empty w)
 replace hn := Lib.hid hn
 replace ha := Lib.hid ha
 replace hw := Lib.hid hw
 go_enter Tryz.func101, Tryz.ntmps101
 go_wp2_with fail
 go_loopw [4, 3] (fun iv sv wr => ∃ i : Nat, i ≤ n ∧ iv = .int .i64 i ∧ OwnW w.heap.size w ((L.take i).map wideW) sv wr) (fun iv _ _ => n - (intOf iv).toNat)
 case atStart => exact ⟨0, Nat.zero_le _, rfl, N0.out⟩
 case round =>
  obtain ⟨i, hi, rfl, N⟩ := hrel
  replace N := Lib.hid N
  by_cases hlt : i < n
  · have hil : i < L.length := by have := hn.out; omega
    obtain ⟨b, o, rfl, hb, hc0⟩ := fs_cell ha.out hil
    have hc : wr.cell? ⟨b, o + i, none⟩ = some (.float .f32 (L.getD i 0)) := by
        rw [← hc0]
        exact World.cell?_of_block (a := ⟨b, o + i, none⟩) (N.out.old.block b hb)
    have C := fun w => rwide_run _ (ws_at hw.out i) w
    have TW := Lib.hid (take_wide hil)
    have lt : ((L.take i).map wideW).length = i := by simp; omega
    have li : i ≤ 1048576 := by omega
    obtain ⟨u, hu⟩ : ∃ u, u = L.getD i 0 := ⟨_, rfl⟩
    obtain ⟨M, hM⟩ : ∃ M, M = (L.take i).map wideW := ⟨_, rfl⟩
    rw [← hu] at hc C TW
    rw [← hM] at N TW lt
    have lM : (r64 M).length ≤ 1048576 := by unfold r64; rw [List.length_map, lt]; exact li
    replace lM := Lib.hid lM
    obtain ⟨ao', m', c', rfl⟩ := ownW_any N.out
    clear hc0 hu hM lt li hil
    replace hb := Lib.hid hb
    go_wp2_with (first | (go_at_call 170; ((with_reducible refine (C _).mono ?_); rintro e w' ⟨rfl, rfl⟩)) | (at_builtin; go_loud (refine wpList_pushR rec64 rfl _ _ rfl (.slice ao' m' c') (r64 M) rfl N.out [.float .f64 (wideW u)] rfl ?pa rfl ?pc ?pd ?_)))
    case pa => intro u hu; rw [List.mem_singleton.1 hu]; rfl
    case pc => have := lM.out; omega
    case pd => have := lM.out; unfold maxLen; omega
    intro v' w' N'
    rw [r64_app, TW.out] at N'
    replace N' := Lib.hid N'
    clear N C hc
    go_wp2_with fail
    go_roundw
    case rel => exact ⟨i + 1, by omega, by go_num, N'.out⟩
    case measure => simp [intOf]; omega
  · have e : (L.take i).map wideW = L.map wideW := by rw [List.take_of_length_le (by have := hn.out; omega)]
    rw [e] at N
    obtain ⟨ao', cap', rfl, -, -, hA⟩ := ownW_at N.out
    rw [List.length_map, ← hn.out] at *
    replace hA := Lib.hid hA
    go_wp2_with fail
    go_ret
    exact ⟨_, ⟨_, rfl⟩, hA.out, N.out.old⟩
end Go.Proofs.YtacinenddnfcbaaGreat

namespace Go.Proofs.YtacinenddnfcbaaGreat
open Go.ChangeShapes Go.WideShapes Go.ChangeAt Go.RowKit Ieee.Own

theorem rtime13_run (x : Nat) (hx : x < 18446744073709551616) (w : World) :
 Calls Tryz.prog 99 #[.float .f64 x, .float .f64 4715268809856909312] w fun e w' => e = .returned (.bool (inM m24 x)) ∧ w = w' := by
 have CF := fun w => rfit_any x hx w
 have g1 := o_leq x 4715268809856909312 hx (by omega)
 have g2 := o_geq x 13938640846711685120 hx (by omega)
 have hneg : ∀ w, (Op.unary .neg (.float .f64 4715268809856909312)).run Tryz.prog w = .ok (.float .f64 13938640846711685120) w := fun w => rfl
 by_cases h1 : fitB x = true
 · have fn := fit_fin hx h1
   have m := fn.2
   rw [h1] at CF
   have n1 : nn x := fin_nn fn
   have n2 : nn 4715268809856909312 := by unfold nn; omega
   have n3 : nn 13938640846711685120 := by unfold nn; omega
   have k2 : key64 4715268809856909312 = 4715268809856909312 := by decide
   have k3 : key64 13938640846711685120 = -4715268809856909312 := by decide
   rw [k2] at g1
   rw [k3] at g2
   have kx : key64 x = if x < 9223372036854775808 then (x : Int) else 9223372036854775808 - (x : Int) := rfl
   by_cases c1 : key64 x ≤ 4715268809856909312
   · rw [decide_eq_true ⟨n1, n2, c1⟩] at g1
     by_cases c2 : -4715268809856909312 ≤ key64 x
     · have e : inM m24 x = true := by unfold inM m24; rw [decide_eq_true_eq]; exact ⟨h1, by split at kx <;> omega⟩
       rw [e]
       rw [decide_eq_true ⟨n1, n3, c2⟩] at g2
       clear hx h1 fn m e n1 n2 n3 k2 k3 kx c1 c2
       go_enter Tryz.func99, Tryz.ntmps99
       go_wp2_with (go_at_call 39; ((with_reducible refine (CF _).mono ?_); rintro e w' ⟨rfl, rfl⟩))
       go_ret
       exact ⟨rfl, rfl⟩
     · have e : inM m24 x = false := by unfold inM m24; rw [decide_eq_false_iff_not]; exact fun h => by have := h.2; split at kx <;> omega
       rw [e]
       rw [decide_eq_false (fun h => c2 h.2.2)] at g2
       clear hx h1 fn m e n1 n2 n3 k2 k3 kx c1 c2
       go_enter Tryz.func99, Tryz.ntmps99
       go_wp2_with (go_at_call 39; ((with_reducible refine (CF _).mono ?_); rintro e w' ⟨rfl, rfl⟩))
       go_ret
       exact ⟨rfl, rfl⟩
   · have e : inM m24 x = false := by unfold inM m24; rw [decide_eq_false_iff_not]; exact fun h => by have := h.2; split at kx <;> omega
     rw [e]
     rw [decide_eq_false (fun h => c1 h.2.2)] at g1
     clear hx h1 fn m e n1 n2 n3 k2 k3 kx c1 g2
     go_enter Tryz.func99, Tryz.ntmps99
     go_wp2_with (go_at_call 39; ((with_reducible refine (CF _).mono ?_); rintro e w' ⟨rfl, rfl⟩))
     go_ret
     exact ⟨rfl, rfl⟩
 · have e : inM m24 x = false := by unfold inM; rw [decide_eq_false_iff_not]; exact fun h => h1 h.1
   rw [Bool.not_eq_true] at h1
   rw [h1] at CF
   rw [e]
   clear hx h1 e g1 g2 hneg
   go_enter Tryz.func99, Tryz.ntmps99
   go_wp2_with (go_at_call 39; ((with_reducible refine (CF _).mono ?_); rintro e w' ⟨rfl, rfl⟩))
   go_ret
   exact ⟨rfl, rfl⟩
theorem st_ref {x : Nat} (hx : x < 18446744073709551616) : (lowB x && topB x) = (inM m24 x && !(FloatKind.f64.format.order x 4562146422526312448 == some Ordering.lt)) := by
 rw [o_lss x 4562146422526312448 hx (by omega)]
 have k1 : key64 4562146422526312448 = 4562146422526312448 := by decide
 have k2 : key64 4715268809856909312 = 4715268809856909312 := by decide
 have n1 : nn 4562146422526312448 := by unfold nn; omega
 have n2 : nn 4715268809856909312 := by unfold nn; omega
 have kx : key64 x = if x < 9223372036854775808 then (x : Int) else 9223372036854775808 - (x : Int) := rfl
 unfold lowB topB inM m24 s10
 rw [k1, k2, Bool.eq_iff_iff]
 simp only [Bool.and_eq_true, decide_eq_true_eq, Bool.not_eq_true', decide_eq_false_iff_not]
 constructor
 · rintro ⟨⟨-, a1, a2⟩, -, -, a3⟩
   have p : x < 9223372036854775808 := by split at kx <;> omega
   rw [if_pos p] at kx
   refine ⟨⟨?_, by omega⟩, fun h => by omega⟩
   unfold fitB
   rw [decide_eq_true_eq]
   right
   omega
 · rintro ⟨⟨a1, a2⟩, a3⟩
   have nx : nn x := by
    have := (fit_fin hx a1).2
    unfold nn; omega
   have a4 : ¬ key64 x < 4562146422526312448 := fun h => a3 ⟨nx, n1, h⟩
   exact ⟨⟨n1, nx, by omega⟩, nx, n2, by split at kx <;> omega⟩
structure TbUp (t : Tb) : Prop where
 l : ∀ i k, k < 3 → (cfT t.rows i k).length ≤ 1048576
theorem may_err {L : List Nat} : mayT L = true ↔ errC (L.map wideW) = 0 := by
 unfold mayT
 simp only [Bool.and_eq_true, decide_eq_true_eq]
 refine ⟨fun h => h.2, fun h => ⟨?_, h⟩⟩
 by_cases c : L.length ≤ 16
 · exact c
 · have : errC (L.map wideW) = 2 := by unfold errC; rw [if_pos (by rw [List.length_map]; omega)]
   rw [this] at h
   exact absurd h (by decide)
theorem row_all {T : List (List (List Nat))} {i : Nat} (h : ∀ k, k < 3 → mayT (cfT T i k) = true) : rowB T i = true := by
 unfold rowB
 rw [h 0 (by omega), h 1 (by omega), h 2 (by omega)]; rfl
theorem row_bad {T : List (List (List Nat))} {i k : Nat} (hk : k < 3) (h : mayT (cfT T i k) = false) : rowB T i = false := by
 unfold rowB
 have : k = 0 ∨ k = 1 ∨ k = 2 := by omega
 rcases this with rfl | rfl | rfl <;> rw [h] <;> simp
theorem rcheck13_run {t : Tb} (ao : Option Addr) (cap : Nat) (w : World) (hm : t.rows.length ≤ 4611686018427387904) (hW : TbW t) (hU : TbUp t) (ha : TbAt w ao t.rows) :
 Calls Tryz.prog 55 #[tbV t ao cap] w fun e w' => e = .returned (.int .i64 (chkT t)) ∧ Below w.heap.size w w' := by
 obtain ⟨V, hV⟩ : ∃ V, V = chkT t := ⟨_, rfl⟩
 rw [← hV]
 obtain ⟨n, hn⟩ : ∃ n, n = t.rows.length := ⟨_, rfl⟩
 unfold tbV
 rw [← hn] at hm ⊢
 have K := kv1 w 49 [.float .f64 t.fr, .float .f64 t.st, .slice ao n cap]
 simp only [objV] at K
 have k0 := (K.at_ 0 rfl).at_ 0 _ rfl
 have k1 := (K.at_ 0 rfl).at_ 1 _ rfl
 have k2 := (K.at_ 0 rfl).at_ 2 _ rfl
 have CT := fun w => rtime13_run t.fr hW.fr w
 have CS := fun w => rtime13_run t.st hW.st w
 have SR := st_ref hW.st
 obtain ⟨lt, hlt⟩ : ∃ lt, lt = (FloatKind.f64.format.order t.st 4562146422526312448 == some Ordering.lt) := ⟨_, rfl⟩
 rw [← hlt] at SR
 have g1 := hlt.symm
 clear hlt
 by_cases hl : 64 < n
 · replace hV := Lib.hid (hV.trans (chkT_long (by omega)))
   have t1 : decide (64 < n) = true := decide_eq_true hl
   replace K := Lib.hid K
   clear hn ha hW CT CS g1 SR hU
   go_enter Tryz.func55, Tryz.ntmps55
   go_wp2_with fail
   go_ret
   exact ⟨ret_iH hV.out.symm, K.out.old⟩
 · have t1 : decide (64 < n) = false := decide_eq_false hl
   have step : Hid ((inM m24 t.fr && (inM m24 t.st && !lt)) = false → V = 130) := fun h => hV.trans (chkT_step (by omega) (by rw [SR]; exact h))
   cases h0 : inM m24 t.fr with
   | false =>
     rw [h0] at CT step
     replace hV := Lib.hid (step.out rfl)
     replace K := Lib.hid K
     clear step h0 hn ha hW g1 SR CS hU
     go_enter Tryz.func55, Tryz.ntmps55
     go_wp2_with (go_at_call 99; ((with_reducible refine (CT _).mono ?_); rintro e w' ⟨rfl, rfl⟩))
     go_ret
     exact ⟨ret_iH hV.out.symm, K.out.old⟩
   | true =>
     rw [h0] at CT step
     cases h1 : inM m24 t.st with
     | false =>
       rw [h1] at CS step
       replace hV := Lib.hid (step.out rfl)
       replace K := Lib.hid K
       clear step h0 h1 hn ha hW g1 SR hU
       go_enter Tryz.func55, Tryz.ntmps55
       go_wp2_with (first | (go_at_call 99; ((with_reducible refine (CT _).mono ?_); rintro e w' ⟨rfl, rfl⟩)) | (go_at_call 99; ((with_reducible refine (CS _).mono ?_); rintro e w' ⟨rfl, rfl⟩)))
       go_ret
       exact ⟨ret_iH hV.out.symm, K.out.old⟩
     | true =>
       rw [h1] at CS step SR
       cases lt with
       | true =>
         replace hV := Lib.hid (step.out rfl)
         replace K := Lib.hid K
         clear step h0 h1 hn ha hW SR hU
         go_enter Tryz.func55, Tryz.ntmps55
         go_wp2_with (first | (go_at_call 99; ((with_reducible refine (CT _).mono ?_); rintro e w' ⟨rfl, rfl⟩)) | (go_at_call 99; ((with_reducible refine (CS _).mono ?_); rintro e w' ⟨rfl, rfl⟩)))
         go_ret
         exact ⟨ret_iH hV.out.symm, K.out.old⟩
       | false =>
         have lt2 : lowB t.st = true ∧ topB t.st = true := by
           have := SR
           simpa using this
         have good : Hid ((∀ j, j < n → rowB t.rows j = true) → V = 0) := fun h => hV.trans (chkT_good (by omega) h0 lt2.1 lt2.2 (by rw [← hn]; exact h))
         have bad : Hid (∀ i k, i < n → k < 3 → mayT (cfT t.rows i k) = false → V = 130) := fun i k hi hk h => hV.trans (chkT_bad (by omega) (by rw [← hn]; exact hi) (row_bad hk h))
         have hws : Hid (∀ i k, Ws32 (cfT t.rows i k)) := Lib.hid hW.w
         replace hU := Lib.hid hU.l
         replace K := Lib.hid K
         clear step h0 h1 hV hW SR lt2
         replace hn := Lib.hid hn
         replace ha := Lib.hid ha
         go_enter Tryz.func55, Tryz.ntmps55
         go_wp2_with (first | (go_at_call 99; ((with_reducible refine (CT _).mono ?_); rintro e w' ⟨rfl, rfl⟩)) | (go_at_call 99; ((with_reducible refine (CS _).mono ?_); rintro e w' ⟨rfl, rfl⟩)))
         clear k0 k1 k2 CT CS g1
         go_loopw [3] (fun iv wr => ∃ i : Nat, i ≤ n ∧ iv = .int .i64 i ∧ (∀ j, j < i → rowB t.rows j = true) ∧ Kv w [some (w.heap.size, [.float .f64 t.fr, .float .f64 t.st, .slice ao n cap])] wr) (fun iv _ => n - (intOf iv).toNat)
         case atStart => exact ⟨0, Nat.zero_le _, rfl, fun j hj => by omega, K.out⟩
         case round =>
           clear K
           obtain ⟨i, hi, rfl, ho, K⟩ := hrel
           have k2 := (K.at_ 0 rfl).at_ 2 _ rfl
           replace K := Lib.hid K
           replace ho := Lib.hid ho
           by_cases hlt : i < n
           · have hi2 : (i : Int) < (n : Int) := by omega
             go_wp2_with fail
             clear k2
             generalize wr = wq at *
             go_loopw [4] (fun kv wr2 => ∃ k : Nat, k ≤ 3 ∧ kv = .int .i64 k ∧ (∀ q, q < k → mayT (cfT t.rows i q) = true) ∧ Kv w [some (w.heap.size, [.float .f64 t.fr, .float .f64 t.st, .slice ao n cap])] wr2) (fun kv _ => 3 - (intOf kv).toNat)
             case atStart => exact ⟨0, by omega, rfl, fun q hq => by omega, K.out⟩
             case round =>
               clear K
               obtain ⟨k, hk, rfl, ho2, K⟩ := hrel
               by_cases hlk : k < 3
               · have hil : i < t.rows.length := by have := hn.out; omega
                 obtain ⟨b, o, v, rfl, hb, hc, F⟩ := (ha.out.on K.old).at3 hil hlk
                 have k2 := (K.at_ 0 rfl).at_ 2 _ rfl
                 have R := fun W hb => rrow_run W (hU.out i k hlk) (hws.out i k) (F.on (w' := W) hb)
                 have E : Hid (∀ W ao cap, At W ao ((cfT t.rows i k).map wideW) → Calls Tryz.prog 100 #[.slice ao (cfT t.rows i k).length cap] W fun e w' => e = .returned (.int .i64 (errC ((cfT t.rows i k).map wideW))) ∧ W = w') :=
                  Lib.hid fun W ao cap h => rpcheck_run ao cap _ _ W (by rw [List.length_map]) (by have := hU.out i k hlk; omega) (ws_wide (hws.out i k)) h
                 have M := may_err (L := cfT t.rows i k)
                 have B := Lib.hid (bad.out i k hlt hlk)
                 have G : Hid (mayT (cfT t.rows i k) = true → ∀ q, q < k + 1 → mayT (cfT t.rows i q) = true) := Lib.hid fun h q hq => by
                  by_cases e : q < k
                  · exact ho2 q e
                  · have e : q = k := by omega
                    rw [e]; exact h
                 generalize hLL : cfT t.rows i k = L at *
                 replace K := Lib.hid K
                 replace R := Lib.hid R
                 have hk2 : (k : Int) < 3 := by omega
                 clear F hb ho2 hLL hil
                 generalize L.length = l at *
                 generalize errC (L.map wideW) = ec at *
                 by_cases z : ec = 0
                 · subst z
                   have G2 := Lib.hid (G.out (M.2 rfl))
                   clear G B M
                   go_wp2_with fail
                   refine (R.out _ (Below.refl _ _)).mono ?_
                   rintro _ w4 ⟨ao4, cap4, rfl, hA, hb4⟩
                   have K4 := Lib.hid (K.out.on hb4)
                   have E4 := fun cap => E.out w4 ao4 cap hA
                   clear K hA hb4 R E hc k2
                   go_wp2_with (go_at_call 100; ((with_reducible refine (E4 _).mono ?_); rintro e w' ⟨rfl, rfl⟩))
                   go_roundw
                   case rel => exact ⟨k + 1, by omega, by go_num, G2.out, K4.out⟩
                   case measure => first | (simp [intOf]; done) | (simp [intOf]; omega)
                 · have B2 := Lib.hid (B.out (by
                     cases h : mayT L with
                     | false => rfl
                     | true => exact absurd (M.1 h) z))
                   have tz : (ec != 0) = true := by simpa using z
                   clear G B M z
                   go_wp2_with fail
                   refine (R.out _ (Below.refl _ _)).mono ?_
                   rintro _ w4 ⟨ao4, cap4, rfl, hA, hb4⟩
                   have K4 := Lib.hid (K.out.on hb4)
                   have E4 := fun cap => E.out w4 ao4 cap hA
                   clear K hA hb4 R E hc k2
                   go_wp2_with (go_at_call 100; ((with_reducible refine (E4 _).mono ?_); rintro e w' ⟨rfl, rfl⟩))
                   go_ret
                   exact ⟨ret_iH B2.out.symm, K4.out.old⟩
               · obtain rfl : k = 3 := by omega
                 have ho3 : Hid (∀ j, j < i + 1 → rowB t.rows j = true) := Lib.hid fun j hj => by
                  by_cases e : j < i
                  · exact ho.out j e
                  · have e : j = i := by omega
                    rw [e]; exact row_all ho2
                 replace K := Lib.hid K
                 clear ho2 ho
                 go_wp2_with fail
                 go_roundw
                 case rel => exact ⟨i + 1, hlt, by go_num, ho3.out, K.out⟩
                 case measure => simp [intOf]; omega
           · obtain rfl : i = n := by omega
             go_wp2_with fail
             go_ret
             exact ⟨ret_iH (good.out ho.out).symm, K.out.old⟩
end Go.Proofs.YtacinenddnfcbaaGreat
