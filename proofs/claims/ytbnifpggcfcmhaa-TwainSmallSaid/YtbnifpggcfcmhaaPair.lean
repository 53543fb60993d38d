/- Proved here: twain's calls and the reference's answer the same first numbers and errors, and rests of the same value. -/
import Derived.Test.YtbnifpggcfcmhaaTwf
import Derived.Test.YtbnifpggcfcmhaaLawb
namespace Go.Proofs.Ytbnifpggcfcmhaa
open Go.ChangeShapes Go.WideShapes Go.ChangeAt Go.RowKit Ieee.Own

theorem V_key {a b : Nat} (ha : FinW a) (hb : FinW b) (h : V a = V b) : key64 a = key64 b := by
  have a1 := ha.1
  have b1 := hb.1
  unfold V at h
  unfold key64
  by_cases h1 : a < 9223372036854775808 <;> by_cases h2 : b < 9223372036854775808
  · rw [if_pos h1, if_pos h2] at h
    have := (val_eq_iff 52 a b).1 (by omega)
    rw [this]
  · rw [if_pos h1, if_neg h2] at h
    have x := (val_zero_iff 52 a).1 (by omega)
    have y := (val_zero_iff 52 (b - 9223372036854775808)).1 (by omega)
    rw [if_pos h1, if_neg h2]; omega
  · rw [if_neg h1, if_pos h2] at h
    have x := (val_zero_iff 52 (a - 9223372036854775808)).1 (by omega)
    have y := (val_zero_iff 52 b).1 (by omega)
    rw [if_neg h1, if_pos h2]; omega
  · rw [if_neg h1, if_neg h2] at h
    have := (val_eq_iff 52 (a - 9223372036854775808) (b - 9223372036854775808)).1 (by omega)
    rw [if_neg h1, if_neg h2]; omega
theorem eq_val {a b : Nat} (ha : FinW a) (hb : FinW b) (h : V a = V b) : (FloatKind.f64.format.order a b == some Ordering.eq) = true := by
  rw [o_eql a b ha.1 hb.1]
  exact decide_eq_true ⟨by have := ha.2; unfold nn; omega, by have := hb.2; unfold nn; omega, V_key ha hb h⟩

/-- two calls' answers are alike -/
def Pair (k l : FuncId) (args args' : Array Value) : Prop :=
  ∃ x y y' c, (∀ w, Calls Try.prog k args w fun e w' => e = .returned (ffi x y c) ∧ w = w') ∧ (∀ w, Calls Try.prog l args' w fun e w' => e = .returned (ffi x y' c) ∧ w = w') ∧ (FloatKind.f64.format.order y y' == some Ordering.eq) = true
theorem zz : (FloatKind.f64.format.order 0 0 == some Ordering.eq) = true := by decide +kernel

theorem fit_or (a b : Nat) : (fitB a = true ∧ fitB b = true) ∨ (fitB a = false ∨ fitB b = false) := by
  cases fitB a <;> cases fitB b <;> simp

theorem sum_pair (a b : Nat) (ha : a < 18446744073709551616) (hb : b < 18446744073709551616) : Pair 11 12 #[.float .f64 a, .float .f64 b] #[.float .f64 a, .float .f64 b] := by
  rcases fit_or a b with ⟨h1, h2⟩ | h
  · obtain ⟨s, e, R, -, C⟩ := sum_fit a b ha hb h1 h2
    obtain ⟨s', e', R', -, C'⟩ := rsum_fit a b ha hb h1 h2
    obtain rfl : s = s' := Option.some.inj (R.op.symm.trans R'.op)
    exact ⟨s, e, e', 0, C, C', eq_val R.fe R'.fe (by rw [R.ve, R'.ve])⟩
  · exact ⟨0, 0, 0, 3, sum_unfit a b ha hb h, rsum_unfit a b ha hb h, zz⟩
theorem prod_val {a b p e p' e' : Nat} {N N' : Int} (R : ProdRes a b p e N) (R' : ProdRes a b p' e' N') : p = p' ∧ V e = V e' := by
  have hp : p = p' := Option.some.inj (R.op.symm.trans R'.op)
  have hn : N = N' := by
    have := R.ex.symm.trans R'.ex
    exact Int.eq_of_mul_eq_mul_right (Int.ne_of_gt (Int.pow_pos (by decide))) this
  exact ⟨hp, by rw [R.ve, R'.ve, hn, hp]⟩
theorem prod_pair (a b : Nat) (ha : a < 18446744073709551616) (hb : b < 18446744073709551616) : Pair 14 15 #[.float .f64 a, .float .f64 b] #[.float .f64 a, .float .f64 b] := by
  rcases fit_or a b with ⟨h1, h2⟩ | h
  · obtain ⟨p, e, N, Z, g, R, -, -, C⟩ := prod_fit a b ha hb h1 h2
    obtain ⟨p', e', N', Z', g', R', -, -, C'⟩ := rprod_fit a b ha hb h1 h2
    obtain ⟨rfl, hv⟩ := prod_val R R'
    exact ⟨p, e, e', 0, C, C', eq_val R.fe R'.fe hv⟩
  · exact ⟨0, 0, 0, 3, prod_unfit a b ha hb h, rprod_unfit a b ha hb h, zz⟩
theorem rem_val {a c d q r q' r' g g' : Nat} {N Z N' Z' : Int} (R : RemRes a c d q r N Z g) (R' : RemRes a c d q' r' N' Z' g') : V r = V r' := by
  have hz : Z = Z' := by
    have := R.exz.symm.trans R'.exz
    exact Int.eq_of_mul_eq_mul_right (Int.ne_of_gt (Int.pow_pos (by decide))) this
  rw [R.vr, R'.vr, R.exn, R'.exn, hz]
theorem quot_pair (a b : Nat) (ha : a < 18446744073709551616) (hb : b < 18446744073709551616) : Pair 16 17 #[.float .f64 a, .float .f64 b] #[.float .f64 a, .float .f64 b] := by
  rcases fit_or a b with ⟨h1, h2⟩ | h
  · by_cases h0 : V b = 0
    · exact ⟨0, 0, 0, 4, quot_zero a b ha hb h1 h2 h0, rquot_zero a b ha hb h1 h2 h0, zz⟩
    · obtain ⟨q, r, N, Z, g, o, R, C⟩ := quot_fit a b ha hb h1 h2 h0
      obtain ⟨q', r', N', Z', g', o', R', C'⟩ := rquot_fit a b ha hb h1 h2 h0
      obtain rfl : q = q' := Option.some.inj (o.symm.trans o')
      exact ⟨q, r, r', 0, C, C', eq_val R.fr R'.fr (rem_val R R')⟩
  · exact ⟨0, 0, 0, 3, quot_unfit a b ha hb h, rquot_unfit a b ha hb h, zz⟩
theorem root_pair (a : Nat) (ha : a < 18446744073709551616) : Pair 18 19 #[.float .f64 a] #[.float .f64 a] := by
  by_cases h1 : fitB a = true
  · by_cases h0 : V a < 0
    · exact ⟨0, 0, 0, 6, root_neg a ha h1 h0, rroot_neg a ha h1 h0, zz⟩
    · obtain ⟨q, r, N, Z, g, o, R, C⟩ := root_fit a ha h1 (by omega)
      obtain ⟨q', r', N', Z', g', o', R', C'⟩ := rroot_fit a ha h1 (by omega)
      obtain rfl : q = q' := Option.some.inj (o.symm.trans o')
      exact ⟨q, r, r', 0, C, C', eq_val R.fr R'.fr (rem_val R R')⟩
  · rw [Bool.not_eq_true] at h1
    exact ⟨0, 0, 0, 3, root_unfit a ha h1, rroot_unfit a ha h1, zz⟩

/-! ### either way -/
theorem add_comm_words {a b : Nat} (ha : FinW a) (hb : FinW b) : Ieee.double.add a b = Ieee.double.add b a := by
  obtain ⟨s, m, p, hr, -, -⟩ := read_sv ha
  obtain ⟨t, n, q, hr', -, -⟩ := read_sv hb
  unfold Ieee.Format.add
  rw [hr, hr']
  simp only [Ieee.Datum.sum, Option.map]
  rw [Int.min_comm (-1074 + (q : Int)), Int.add_comm (Ieee.signed t n _), Bool.and_comm t s]
theorem mul_comm_words {a b : Nat} (ha : FinW a) (hb : FinW b) : Ieee.double.mul a b = Ieee.double.mul b a := by
  obtain ⟨s, m, p, hr, -, -⟩ := read_sv ha
  obtain ⟨t, n, q, hr', -, -⟩ := read_sv hb
  unfold Ieee.Format.mul
  rw [hr, hr']
  simp only [Ieee.Datum.product, Option.map]
  rw [Nat.mul_comm n m, Int.add_comm (-1074 + (q : Int)), Bool.xor_comm t s]
theorem sum_either (a b : Nat) (ha : a < 18446744073709551616) (hb : b < 18446744073709551616) : Pair 11 11 #[.float .f64 a, .float .f64 b] #[.float .f64 b, .float .f64 a] := by
  rcases fit_or a b with ⟨h1, h2⟩ | h
  · obtain ⟨s, e, R, -, C⟩ := sum_fit a b ha hb h1 h2
    obtain ⟨s', e', R', -, C'⟩ := sum_fit b a hb ha h2 h1
    obtain rfl : s = s' := Option.some.inj (R.op.symm.trans ((add_comm_words (fit_fin ha h1) (fit_fin hb h2)).trans R'.op))
    exact ⟨s, e, e', 0, C, C', eq_val R.fe R'.fe (by rw [R.ve, R'.ve]; omega)⟩
  · exact ⟨0, 0, 0, 3, sum_unfit a b ha hb h, sum_unfit b a hb ha h.symm, zz⟩
theorem prod_either (a b : Nat) (ha : a < 18446744073709551616) (hb : b < 18446744073709551616) : Pair 14 14 #[.float .f64 a, .float .f64 b] #[.float .f64 b, .float .f64 a] := by
  rcases fit_or a b with ⟨h1, h2⟩ | h
  · obtain ⟨p, e, N, Z, g, R, -, -, C⟩ := prod_fit a b ha hb h1 h2
    obtain ⟨p', e', N', Z', g', R', -, -, C'⟩ := prod_fit b a hb ha h2 h1
    have R2 : ProdRes a b p' e' N' := ⟨(mul_comm_words (fit_fin ha h1) (fit_fin hb h2)).trans R'.op, R'.fp, R'.fe, by rw [Int.mul_comm]; exact R'.ex, R'.vp, R'.ve⟩
    obtain ⟨rfl, hv⟩ := prod_val R R2
    exact ⟨p, e, e', 0, C, C', eq_val R.fe R'.fe hv⟩
  · exact ⟨0, 0, 0, 3, prod_unfit a b ha hb h, prod_unfit b a hb ha h.symm, zz⟩

theorem same_self (a : Nat) (w : World) : Calls Try.prog 31 #[.float .f64 a, .float .f64 a] w fun e w' => e = .returned (.bool true) ∧ w = w' := by
  go_enter Try.func31, Try.ntmps31
  go_wp2_with (simp only [x34])
  go_ret
  exact ⟨ret_b (by simp), rfl⟩
theorem alike_true (a b d : Nat) (c : Int) (h : (FloatKind.f64.format.order b d == some Ordering.eq) = true) (w : World) :
    Calls Try.prog 13 #[.float .f64 a, .float .f64 b, .int .i64 c, .float .f64 a, .float .f64 d, .int .i64 c] w fun e w' => e = .returned (.bool true) ∧ w = w' := by
  go_enter Try.func13, Try.ntmps13
  go_wp2_with (go_at_call 31; ((with_reducible refine (same_self _ _).mono ?_); rintro e w' ⟨rfl, rfl⟩))
  go_ret
  exact ⟨rfl, rfl⟩
end Go.Proofs.Ytbnifpggcfcmhaa
