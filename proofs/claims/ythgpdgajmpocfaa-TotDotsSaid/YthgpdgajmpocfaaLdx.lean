/- Proved here: math.Ldexp of a number of 53 digits, where what comes out is a usual number, over the translated code. -/
import Derived.Test.YthgpdgajmpocfaaTne
namespace Go.Proofs.Ythgpdgajmpocfaa
open Go.ChangeShapes Go.WideShapes Go.ChangeAt Go.RowKit Ieee.Own

/-- the word with field f and mantissa m -/
def wf_ (f m : Nat) : Nat := f * 4503599627370496 + m
theorem wf_fin {f m : Nat} (hf : f ≤ 2046) (hm : m < 4503599627370496) : FinW (wf_ f m) := by unfold FinW wf_; omega
theorem wf_V {f m : Nat} (h1 : 1 ≤ f) (hf : f ≤ 2046) (hm : m < 4503599627370496) : V (wf_ f m) = ((4503599627370496 + m : Nat) : Int) * 2 ^ (f - 1) := by
  have h : wf_ f m < 9223372036854775808 := by unfold wf_; omega
  unfold V
  rw [if_pos h]
  have hv : val 52 (wf_ f m) = (4503599627370496 + m) * 2 ^ (f - 1) := by
    unfold val mg ex
    have e1 : ¬ wf_ f m < 2 ^ 52 := by unfold wf_; omega
    have e2 : wf_ f m / 2 ^ 52 = f := by unfold wf_; omega
    have e3 : wf_ f m % 2 ^ 52 = m := by unfold wf_; omega
    rw [if_neg e1, if_neg e1, e2, e3]
  rw [hv, Int.natCast_mul, Int.natCast_pow]; rfl
/-- 1 times a number -/
theorem one_mul_word {r : Nat} (hr : FinW r) (h0 : V r ≠ 0) : Ieee.double.mul 4607182418800017408 r = some r := by
  have f1 : FinW 4607182418800017408 := by unfold FinW; omega
  have v1 : V 4607182418800017408 = 2 ^ 1074 := by decide +kernel
  have hb : (RN (V r)).natAbs < 2 ^ 2098 := by
    rw [RN_exact (Rep_V r), V_abs' r hr]
    have := hr.2
    rw [← top64', val_lt_iff]; exact this
  obtain ⟨x, h1, h2, h3⟩ := mul_spec f1 hr (N := V r) (by rw [v1, Int.mul_comm]) hb
  rw [RN_exact (Rep_V r)] at h3
  rw [h1, V_inj h2 hr h3 (by rw [h3]; exact h0)]

theorem and_f : ∀ f : Nat, f ≤ 1100 → bits BinOp.and IntKind.i64 (f : Int) 2047 = (f : Int) := by
  intro f hf
  have h : ∀ i : Fin 1101, bits BinOp.and IntKind.i64 ((i.val : Nat) : Int) 2047 = ((i.val : Nat) : Int) := by decide +kernel
  exact h ⟨f, by omega⟩
theorem drop_f {f m : Nat} (hf : f ≤ 1100) (hm : m < 4503599627370496) : bits BinOp.andNot IntKind.u64 ((wf_ f m : Nat) : Int) 9218868437227405312 = (m : Int) := by
  have hw : wf_ f m < 2 ^ 63 := by unfold wf_; omega
  rw [show (9218868437227405312 : Int) = ((9218868437227405312 : Nat) : Int) from rfl, u64_andNot_nat _ 9218868437227405312 (by omega) (by omega)]
  have h0 : wf_ f m &&& 2 ^ 63 = 0 := by
    apply Nat.eq_of_testBit_eq
    intro i
    rw [Nat.testBit_and, Nat.zero_testBit, Nat.testBit_two_pow]
    by_cases h : 63 = i
    · subst h; rw [Nat.testBit_lt_two_pow hw]; rfl
    · simp [h]
  congr 1
  rw [show 18446744073709551615 - 9218868437227405312 = 2 ^ 63 ||| (2 ^ 52 - 1) by decide, Nat.and_or_distrib_left, h0, Nat.and_two_pow_sub_one_eq_mod, Nat.zero_or]
  unfold wf_; omega
theorem put_g {g m : Nat} (hg : g ≤ 1900) (hm : m < 4503599627370496) : bits BinOp.or IntKind.u64 (m : Int) ((g : Int) * 4503599627370496) = ((wf_ g m : Nat) : Int) := by
  rw [show (g : Int) * 4503599627370496 = ((g * 4503599627370496 : Nat) : Int) by simp, u64_or_nat m _ (by omega) (by omega), Nat.or_comm]
  have := Nat.two_pow_add_eq_or_of_lt (i := 52) (b := m) (by omega) g
  congr 1
  unfold wf_
  rw [Nat.mul_comm]
  rw [show (2 : Nat) ^ 52 = 4503599627370496 from rfl] at this
  exact this.symm

theorem ldexp_any (f m g : Nat) (E : Int) (h1 : 1000 ≤ f) (h2 : f ≤ 1100) (hm : m < 4503599627370496) (hg : (f : Int) + E = g) (g1 : 100 ≤ g) (g2 : g ≤ 1900) (w : World) :
    Calls Try.prog 60 #[.float .f64 (wf_ f m), .int .i64 E] w fun e w' => e = .returned (.float .f64 (wf_ g m)) ∧ w = w' := by
  have hw : wf_ f m < 9223372036854775808 := by unfold wf_; omega
  have A : ∀ w, Calls Try.prog 37 #[.float .f64 (wf_ f m)] w fun e w' => e = .returned (.float .f64 (wf_ f m)) ∧ w = w' := by
    intro w
    have := abs_any (wf_ f m) (by omega) w
    rwa [Nat.mod_eq_of_lt hw] at this
  have hfin := wf_fin (f := f) (m := m) (by omega) hm
  have e1 := o_eql (wf_ f m) 0 (by omega) (by omega)
  have e2 := o_gtr (wf_ f m) 9218868437227405311 (by omega) (by omega)
  have e3 := o_neq (wf_ f m) (wf_ f m) (by omega) (by omega)
  have e4 := o_lss (wf_ f m) 4503599627370496 (by omega) (by omega)
  rw [key_low hw, key_low (by omega)] at e1 e2 e4
  have hn : nn (wf_ f m) := by unfold nn; have := hfin.2; omega
  have hb : 4503599627370496 ≤ wf_ f m ∧ wf_ f m ≤ 9218868437227405311 := by unfold wf_; omega
  rw [decide_eq_false (by omega)] at e1 e2 e4
  rw [decide_eq_true ⟨hn, hn, rfl⟩] at e3
  have hgf := wf_fin (f := g) (m := m) (by omega) hm
  have hg0 : V (wf_ g m) ≠ 0 := by
    rw [wf_V (by omega) (by omega) hm]
    have := Int.pow_pos (n := 2) (m := g - 1) (by omega)
    exact Int.ne_of_gt (Int.mul_pos (by omega) this)
  have e5 := fun t w => run_float_arith (P := Try.prog) w .mul t .f64 _ _ _ (one_mul_word hgf hg0)
  have k1 := and_f f h2
  have k2 := drop_f h2 hm
  have k3 := put_g g2 hm
  have x1 : E + ((f : Int) - 1023) = (g : Int) - 1023 := by omega
  have x2 : (g : Int) - 1023 + 1023 = (g : Int) := by omega
  have x3 : (-1000 : Int) ≤ E := by omega
  have x4 : E ≤ 1000 := by omega
  have k0 : ((wf_ f m : Nat) : Int) / 4503599627370496 = (f : Int) := by unfold wf_; omega
  clear hg hfin hgf hg0 hn hb hw hm
  generalize wf_ f m = wa at *
  generalize wf_ g m = wb at *
  go_enter Try.func60, Try.ntmps60
  go_wp2_with (first | (go_at_call 37; ((with_reducible refine (A _).mono ?_); rintro e w' ⟨rfl, rfl⟩)) | simp only [x34, x40] | go_in)
  go_ret
  exact ⟨rfl, rfl⟩
end Go.Proofs.Ythgpdgajmpocfaa
