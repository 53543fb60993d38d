/- Proved here: what the texts Accm, AccRm, Put, Acc, Add, Mul, AccP, AccS, Flt, Nxs, Ftw, Adj, Adq, Spr, Spf, Spa prove, one behind the other. -/
import Derived.Test.YtgnofnjbmiepjaaRows
import Derived.WalkKit
import Derived.WalkLawsBesides
import Derived.ProofKit
import Derived.OpenShut
import Derived.Laws.Externs
import Derived.Lib.Hide
import Derived.IntWalk
import Derived.Laws.BitsAllLaws
import Derived.Shelf.Spec.BitsCarry
import Derived.Deep.RegionLaw
import Derived.Test.YtgnofnjbmiepjaaJb1
import Derived.Shelf.Bits.Mul64
import Derived.WalkSmall
import Derived.Laws.ResultCell
import Derived.SizedLaws
import Derived.Carry
import Derived.Lib.SmallJoins

namespace Ieee.Own

/-- the number that words tell -/
def sumW (ws : Nat → Nat) : Nat → Nat
  | 0 => 0
  | n + 1 => sumW ws n + ws n * 2 ^ (64 * n)

end Ieee.Own

namespace Ieee.Own

end Ieee.Own

namespace Go.Proofs.Ytgnofnjbmiepjaa
open Go.ChangeShapes Go.WideShapes Go.ChangeAt Go.RowKit Ieee.Own

/-- below block b the world is as it was, no mark has turned, and of the blocks that were there b alone may have turned -/
def Still (b : Nat) (w w' : World) : Prop := Below b w w' ∧ (∀ a, w'.frozen? a = w.frozen? a) ∧ ∀ g, g < w.heap.size → g ≠ b → w'.heap[g]? = w.heap[g]?
theorem Still.refl (b : Nat) (w : World) : Still b w w := ⟨Below.refl b w, fun _ => rfl, fun _ _ _ => rfl⟩
theorem Still.trans {b : Nat} {u v w : World} (h : Still b u v) (k : Still b v w) : Still b u w := ⟨h.1.trans k.1, fun a => (k.2.1 a).trans (h.2.1 a), fun g hg hb => (k.2.2 g (Nat.lt_of_lt_of_le hg h.1.size) hb).trans (h.2.2 g hg hb)⟩
theorem Still.setCell {b : Nat} {u w : World} (h : Still b u w) {p : Addr} (hp : p.block = b) (v : Value) : Still b u (w.setCell p v) :=
  ⟨h.1.setCell (Nat.le_of_eq hp.symm) v, fun a => (World.frozen?_setCell _ _ _ _).trans (h.2.1 a), fun g hg hb => (Below.heap_setCell _ _ _ _ (by omega)).trans (h.2.2 g hg hb)⟩
theorem Still.drew {b : Nat} {u w : World} (h : Still b u w) : Still b u w.drew := ⟨h.1.drew, h.2.1, h.2.2⟩
theorem Still.alloc {b : Nat} {u w : World} (h : Still b u w) (hb : b ≤ w.heap.size) (c : Array Value) (t : TypeId) : Still b u (w.alloc (.cells c t)) :=
  ⟨h.1.alloc hb _, fun a => (frozen?_alloc_cells _ _ _ a).trans (h.2.1 a), fun g hg hb => (heap_alloc_old w _ (Nat.lt_of_lt_of_le hg h.1.size)).trans (h.2.2 g hg hb)⟩
theorem Still.grown {w w' : World} (h : Still w.heap.size w w') : Grown w w' := ⟨h.1.frame _, h.2.1, h.1.size⟩

structure Rel (b B j : Nat) (w wr : World) (ws ns : Nat → Nat) (p0 p1 : Nat) : Prop where
  old : Still b w wr
  size : B < wr.heap.size
  done : ∀ t, t < j → wr.cell? ⟨b, t, none⟩ = some (.int .u64 (ns t))
  todo : ∀ t, j ≤ t → t < 24 → wr.cell? ⟨b, t, none⟩ = some (.int .u64 (ws t))
  free : ∀ t, t < 24 → wr.frozen? ⟨b, t, none⟩ = false
  c0 : wr.cell? ⟨B, 0, none⟩ = some (.int .u64 p0)
  c1 : wr.cell? ⟨B, 1, none⟩ = some (.int .u64 p1)

theorem Rel.step {b B j : Nat} {w wr : World} {ws ns : Nat → Nat} {p0 p1 : Nat} (R : Rel b B j w wr ws ns p0 p1) (hb : b < B) (hj : j < 24) :
    Rel b B (j + 1) w (wr.setCell ⟨b, j, none⟩ (.int .u64 (ns j))).drew ws ns p0 p1 := by
  have ne : ∀ t, t ≠ j → (⟨b, j, none⟩ : Addr) ≠ ⟨b, t, none⟩ := by intro t h e; cases e; exact h rfl
  have nB : ∀ t, (⟨b, j, none⟩ : Addr) ≠ ⟨B, t, none⟩ := by intro t e; cases e; omega
  refine ⟨(R.old.setCell (p := ⟨b, j, none⟩) rfl _).drew, ?_, ?_, ?_, ?_, ?_, ?_⟩
  · have := R.size; simp [World.setCell, World.drew]; exact this
  · intro t ht
    rw [World.cell?_drew]
    by_cases e : t = j
    · subst e; exact World.cell?_setCell_same _ _ _ (R.todo t (Nat.le_refl _) hj)
    · rw [World.cell?_setCell_other _ _ _ _ (ne t e)]; exact R.done t (by omega)
  · intro t ht ht2
    rw [World.cell?_drew, World.cell?_setCell_other _ _ _ _ (ne t (by omega))]; exact R.todo t (by omega) ht2
  · intro t ht
    show (wr.setCell _ _).frozen? _ = false
    rw [World.frozen?_setCell]; exact R.free t ht
  · rw [World.cell?_drew, World.cell?_setCell_other _ _ _ _ (nB 0)]; exact R.c0
  · rw [World.cell?_drew, World.cell?_setCell_other _ _ _ _ (nB 1)]; exact R.c1

end Go.Proofs.Ytgnofnjbmiepjaa

namespace Go.Proofs.Ytgnofnjbmiepjaa
open Go.ChangeShapes Go.WideShapes Go.ChangeAt Go.RowKit Ieee.Own

/-- the long sum at block b tells z, modulo 2^1536 -/
structure Holds (b : Nat) (w : World) (z : Int) (ws : Nat → Nat) : Prop where
  lt : ∀ i, ws i < 18446744073709551616
  size : b < w.heap.size
  cell : ∀ i, i < 24 → w.cell? ⟨b, i, none⟩ = some (.int .u64 (ws i))
  free : ∀ i, i < 24 → w.frozen? ⟨b, i, none⟩ = false
  val : ((2 ^ (64 * 24) : Nat) : Int) ∣ (sumW ws 24 : Int) - z

/-! ### single calls -/
set_option maxRecDepth 100000 in
theorem x34 (b : Nat) (w : World) : (callFunc 28 #[.float .f64 b]).run Try.prog w = .ok (.value (.int .u64 (b : Int))) w := by
  rw [run_callFunc_extern (e := Extern.MathFloatBits.float64bits) Try.func28 (by kernel_rfl) (by kernel_rfl) (by kernel_rfl) (by kernel_rfl)]; rfl
theorem andn63 (b : Nat) (hb : b < 18446744073709551616) : bits BinOp.andNot IntKind.u64 (b : Int) 9223372036854775808 = ((b % 9223372036854775808 : Nat) : Int) := by
  rw [show (9223372036854775808 : Int) = ((9223372036854775808 : Nat) : Int) from rfl, u64_andNot_nat b 9223372036854775808 hb (by omega)]
  exact congrArg _ (Nat.and_two_pow_sub_one_eq_mod b 63)
theorem ieq_f {a b : Int} (h : ¬ a = b) : (a == b) = false := by simpa using h
end Go.Proofs.Ytgnofnjbmiepjaa

namespace Go.Proofs.Ytgnofnjbmiepjaa
open Go.ChangeShapes Go.WideShapes Go.ChangeAt Go.RowKit Ieee.Own

end Go.Proofs.Ytgnofnjbmiepjaa

namespace Go.Proofs.Ytgnofnjbmiepjaa
open Go.Shelf Go.RowKit

end Go.Proofs.Ytgnofnjbmiepjaa

namespace Go.Proofs.Ytgnofnjbmiepjaa
open Go.ChangeShapes Go.WideShapes Go.ChangeAt Go.RowKit Ieee.Own

/-! ### the sign -/
end Go.Proofs.Ytgnofnjbmiepjaa

namespace Go.Proofs.Ytgnofnjbmiepjaa
open Go.ChangeShapes Go.WideShapes Go.ChangeAt Go.RowKit Ieee.Own

/-! ### the sign: of a number z that the words tell, of magnitude below 2^1535 -/
end Go.Proofs.Ytgnofnjbmiepjaa

namespace Go.Proofs.Ytgnofnjbmiepjaa
open Go.ChangeShapes Go.WideShapes Go.ChangeAt Go.RowKit Ieee.Own

theorem ret_f {k : FloatKind} {a b : Nat} (h : a = b) : Ending.returned (.float k a) = .returned (.float k b) := by rw [h]
set_option maxRecDepth 100000 in
theorem x40 (n : Int) (w : World) : (callFunc 27 #[.int .u64 n]).run Try.prog w = .ok (.value (.float .f64 n.toNat)) w := by
  rw [run_callFunc_extern (e := Extern.MathFloatBits.float64frombits) Try.func27 (by kernel_rfl) (by kernel_rfl) (by kernel_rfl) (by kernel_rfl)]; rfl

/-! ### comparisons in plain numbers -/
def nn (a : Nat) : Prop := a % 9223372036854775808 ≤ 9218868437227405312
instance (a : Nat) : Decidable (nn a) := inferInstanceAs (Decidable (_ ≤ _))
theorem o_lss (a b : Nat) (ha : a < 18446744073709551616) (hb : b < 18446744073709551616) :
    (FloatKind.f64.format.order a b == some Ordering.lt) = decide (nn a ∧ nn b ∧ key64 a < key64 b) := by
  show (Ieee.double.order a b == some Ordering.lt) = _
  by_cases h : nn a ∧ nn b
  · rw [order64 a b ha hb h.1 h.2, cmp_lt]; simp [h]
  · rw [order64_nan a b (by unfold nn at h; omega)]; symm; simp; intro h1 h2; exact absurd ⟨h1, h2⟩ h
theorem o_gtr (a b : Nat) (ha : a < 18446744073709551616) (hb : b < 18446744073709551616) :
    (FloatKind.f64.format.order a b == some Ordering.gt) = decide (nn a ∧ nn b ∧ key64 b < key64 a) := by
  show (Ieee.double.order a b == some Ordering.gt) = _
  by_cases h : nn a ∧ nn b
  · rw [order64 a b ha hb h.1 h.2, cmp_gt]; simp [h]
  · rw [order64_nan a b (by unfold nn at h; omega)]; symm; simp; intro h1 h2; exact absurd ⟨h1, h2⟩ h
theorem o_eql (a b : Nat) (ha : a < 18446744073709551616) (hb : b < 18446744073709551616) :
    (FloatKind.f64.format.order a b == some Ordering.eq) = decide (nn a ∧ nn b ∧ key64 a = key64 b) := by
  show (Ieee.double.order a b == some Ordering.eq) = _
  by_cases h : nn a ∧ nn b
  · rw [order64 a b ha hb h.1 h.2, cmp_eq]; simp [h]
  · rw [order64_nan a b (by unfold nn at h; omega)]; symm; simp; intro h1 h2; exact absurd ⟨h1, h2⟩ h
theorem o_leq (a b : Nat) (ha : a < 18446744073709551616) (hb : b < 18446744073709551616) :
    (FloatKind.f64.format.order a b == some Ordering.lt || FloatKind.f64.format.order a b == some Ordering.eq) = decide (nn a ∧ nn b ∧ key64 a ≤ key64 b) := by
  rw [o_lss a b ha hb, o_eql a b ha hb, Bool.eq_iff_iff]
  simp only [Bool.or_eq_true, decide_eq_true_eq]
  constructor
  · rintro (⟨h1, h2, h3⟩ | ⟨h1, h2, h3⟩)
    · exact ⟨h1, h2, by omega⟩
    · exact ⟨h1, h2, by omega⟩
  · rintro ⟨h1, h2, h3⟩
    by_cases h : key64 a < key64 b
    · exact Or.inl ⟨h1, h2, h⟩
    · exact Or.inr ⟨h1, h2, by omega⟩
theorem o_geq (a b : Nat) (ha : a < 18446744073709551616) (hb : b < 18446744073709551616) :
    (FloatKind.f64.format.order a b == some Ordering.gt || FloatKind.f64.format.order a b == some Ordering.eq) = decide (nn a ∧ nn b ∧ key64 b ≤ key64 a) := by
  rw [o_gtr a b ha hb, o_eql a b ha hb, Bool.eq_iff_iff]
  simp only [Bool.or_eq_true, decide_eq_true_eq]
  constructor
  · rintro (⟨h1, h2, h3⟩ | ⟨h1, h2, h3⟩)
    · exact ⟨h1, h2, by omega⟩
    · exact ⟨h1, h2, by omega⟩
  · rintro ⟨h1, h2, h3⟩
    by_cases h : key64 b < key64 a
    · exact Or.inl ⟨h1, h2, h⟩
    · exact Or.inr ⟨h1, h2, by omega⟩
theorem key_low {m : Nat} (h : m < 9223372036854775808) : key64 m = m := by unfold key64; simp [h]

set_option maxRecDepth 100000 in
theorem abs_any (b : Nat) (h : b < 18446744073709551616) (w : World) :
    Calls Try.prog 11 #[.float .f64 b] w fun e w' => e = .returned (.float .f64 (b % 9223372036854775808)) ∧ w = w' := by
  have H := Lib.hid (andn63 b h)
  go_enter Try.func11, Try.ntmps11
  go_wp2_with (simp only [x34, x40])
  go_ret
  exact ⟨ret_f (by rw [H.out]; rfl), rfl⟩

/-! ### fit -/
set_option maxRecDepth 100000 in
theorem fit_any (b : Nat) (hb : b < 18446744073709551616) (w : World) :
    Calls Try.prog 43 #[.float .f64 b] w fun e w' => e = .returned (.bool (fitB b)) ∧ w = w' := by
  have hm : b % 9223372036854775808 < 9223372036854775808 := by omega
  have e1 := o_eql (b % 9223372036854775808) 0 (by omega) (by omega)
  have e2 := o_leq 3706462493325918208 (b % 9223372036854775808) (by omega) (by omega)
  have e3 := o_leq (b % 9223372036854775808) 5507902344274116608 (by omega) (by omega)
  rw [key_low hm, key_low (by omega)] at e1 e2 e3
  have HA := fun w => abs_any b hb w
  unfold fitB
  clear hb
  generalize b % 9223372036854775808 = m at *
  by_cases c1 : m = 0
  · rw [decide_eq_true (by unfold nn; omega)] at e1
    rw [decide_eq_true (Or.inl c1)]
    clear hm e2 e3 c1
    go_enter Try.func43, Try.ntmps43
    go_wp2_with (go_at_call 11; ((with_reducible refine (HA _).mono ?_); rintro e w' ⟨rfl, rfl⟩))
    go_ret
    exact ⟨rfl, rfl⟩
  · rw [decide_eq_false (by omega)] at e1
    by_cases c2 : 3706462493325918208 ≤ m ∧ m ≤ 9218868437227405312
    · rw [decide_eq_true (by unfold nn; omega)] at e2
      by_cases c3 : m ≤ 5507902344274116608
      · rw [decide_eq_true (by unfold nn; omega)] at e3
        rw [decide_eq_true (by omega)]
        clear hm c1 c2 c3
        go_enter Try.func43, Try.ntmps43
        go_wp2_with (go_at_call 11; ((with_reducible refine (HA _).mono ?_); rintro e w' ⟨rfl, rfl⟩))
        go_ret
        exact ⟨rfl, rfl⟩
      · rw [decide_eq_false (by unfold nn; omega)] at e3
        rw [decide_eq_false (by omega)]
        clear hm c1 c2 c3
        go_enter Try.func43, Try.ntmps43
        go_wp2_with (go_at_call 11; ((with_reducible refine (HA _).mono ?_); rintro e w' ⟨rfl, rfl⟩))
        go_ret
        exact ⟨rfl, rfl⟩
    · rw [decide_eq_false (by unfold nn; omega)] at e2
      rw [decide_eq_false (by omega)]
      clear hm c1 c2 e3
      go_enter Try.func43, Try.ntmps43
      go_wp2_with (go_at_call 11; ((with_reducible refine (HA _).mono ?_); rintro e w' ⟨rfl, rfl⟩))
      go_ret
      exact ⟨rfl, rfl⟩

set_option maxRecDepth 100000 in
theorem rfit_any (b : Nat) (hb : b < 18446744073709551616) (w : World) :
    Calls Try.prog 39 #[.float .f64 b] w fun e w' => e = .returned (.bool (fitB b)) ∧ w = w' := by
  have H := andn63 b hb
  unfold fitB
  clear hb
  generalize b % 9223372036854775808 = m at *
  by_cases c1 : m = 0
  · rw [decide_eq_true (by omega)]
    subst c1
    go_enter Try.func39, Try.ntmps39
    go_wp2_with (simp only [x34])
    go_ret
    exact ⟨rfl, rfl⟩
  have t1 : ((m : Int) == 0) = false := ieq_f (by omega)
  by_cases c2 : 3706462493325918208 ≤ m
  · have t2 : decide ((m : Int) ≥ 3706462493325918208) = true := decide_eq_true (by omega)
    by_cases c3 : m ≤ 5507902344274116608
    · have t3 : decide ((m : Int) ≤ 5507902344274116608) = true := decide_eq_true (by omega)
      rw [decide_eq_true (by omega)]
      clear c1 c2 c3
      go_enter Try.func39, Try.ntmps39
      go_wp2_with (simp only [x34])
      go_ret
      exact ⟨rfl, rfl⟩
    · have t3 : decide ((m : Int) ≤ 5507902344274116608) = false := decide_eq_false (by omega)
      rw [decide_eq_false (by omega)]
      clear c1 c2 c3
      go_enter Try.func39, Try.ntmps39
      go_wp2_with (simp only [x34])
      go_ret
      exact ⟨rfl, rfl⟩
  · have t2 : decide ((m : Int) ≥ 3706462493325918208) = false := decide_eq_false (by omega)
    rw [decide_eq_false (by omega)]
    clear c1 c2
    go_enter Try.func39, Try.ntmps39
    go_wp2_with (simp only [x34])
    go_ret
    exact ⟨rfl, rfl⟩

/-! ### the operations, as the walk takes them -/
set_option maxRecDepth 100000 in
theorem run_add (x y r : Nat) (h : Ieee.double.add x y = some r) (t : TypeId) (w : World) : (binOp .add t (.float .f64 x) (.float .f64 y)).run Try.prog w = .ok (.float .f64 r) w :=
  run_float_arith w .add t .f64 x y r h
set_option maxRecDepth 100000 in
theorem run_sub (x y r : Nat) (h : Ieee.double.sub x y = some r) (t : TypeId) (w : World) : (binOp .sub t (.float .f64 x) (.float .f64 y)).run Try.prog w = .ok (.float .f64 r) w :=
  run_float_arith w .sub t .f64 x y r h
set_option maxRecDepth 100000 in
theorem run_mul (x y r : Nat) (h : Ieee.double.mul x y = some r) (t : TypeId) (w : World) : (binOp .mul t (.float .f64 x) (.float .f64 y)).run Try.prog w = .ok (.float .f64 r) w :=
  run_float_arith w .mul t .f64 x y r h
set_option maxRecDepth 100000 in
theorem run_div (x y r : Nat) (h : Ieee.double.div x y = some r) (t : TypeId) (w : World) : (binOp .quo t (.float .f64 x) (.float .f64 y)).run Try.prog w = .ok (.float .f64 r) w :=
  run_float_arith w .quo t .f64 x y r h
theorem nr_mul {a b p q k : Nat} {A B : Int} (ha : Nr a A p) (hb : Nr b B q) (hk : p + q = k + 1074) : V a * V b = (A * B * 2 ^ k) * 2 ^ 1074 := by
  have e : (2 : Int) ^ p * 2 ^ q = 2 ^ k * 2 ^ 1074 := by rw [← Int.pow_add, hk, Int.pow_add]
  rw [ha.val, hb.val, Int.mul_assoc (A * B), ← e]
  generalize (2 : Int) ^ p = u
  generalize (2 : Int) ^ q = v
  ac_rfl

theorem pow_split' {k : Nat} (h : 50 ≤ k) (x : Int) : x * 2 ^ k = x * 2 ^ (k - 50) * 2 ^ 50 := by
  rw [Int.mul_assoc, ← Int.pow_add, show k - 50 + 50 = k by omega]
theorem units_mul (x : Int) (i j : Nat) : x * 2 ^ i * 2 ^ j = x * 2 ^ (i + j) := by rw [Int.mul_assoc, ← Int.pow_add]
theorem unit_parts {a b p q k : Nat} {A B : Int} (ha : Nr a A p) (hb : Nr b B q) (hk : p + q = k + 1074) (h : 50 ≤ k) :
    A * B * 2 ^ k = A * B * 2 ^ (k - 50) * 2 ^ 50 ∧ V a * V b = A * B * 2 ^ (k - 50) * 2 ^ 1124 := by
  refine ⟨pow_split' h _, ?_⟩
  rw [nr_mul ha hb hk, units_mul, units_mul]
  rw [show k + 1074 = k - 50 + 1124 by omega]
theorem ex_parts {a b p q k : Nat} {A B : Int} (ha : Nr a A p) (hb : Nr b B q) (hp : 1 ≤ p) (hq : 1 ≤ q) (hk : p + q = k + 1074) (h : 50 ≤ k) (h2 : k < 1458) :
    (mg 52 (a % 9223372036854775808) = 0 ∨ mg 52 (b % 9223372036854775808) = 0) ∨ ex 52 (a % 9223372036854775808) + ex 52 (b % 9223372036854775808) = k - 50 + 1124 ∧ k - 50 < 1408 := by
  rcases nr_ex ha hp with h0 | h0
  · exact Or.inl (Or.inl h0)
  rcases nr_ex hb hq with h1 | h1
  · exact Or.inl (Or.inr h1)
  · right; omega

/-- a fit word by its digits and a place from 822 to 1222 -/
theorem fit_nr {b : Nat} (h : b < 18446744073709551616) (hf : fitB b = true) : ∃ A p, Nr b A p ∧ 822 ≤ p ∧ p ≤ 1222 := by
  rcases fit_norm h hf with h0 | ⟨s, m, p, hn, h1, h2⟩
  · exact ⟨0, 822, Nr.zero (fit_fin h hf) h0 822, by omega, by omega⟩
  · exact ⟨_, p, Nr.of hn, h1, h2⟩

theorem V_key {a b : Nat} (ha : FinW a) (hb : FinW b) (h : V a = V b) : key64 a = key64 b := by
  have a1 := ha.1
  have b1 := hb.1
  unfold V at h
  unfold key64
  by_cases h1 : a < 9223372036854775808 <;> by_cases h2 : b < 9223372036854775808
  · rw [if_pos h1, if_pos h2] at h
    have := (val_eq_iff 52 a b).1 (by omega)
    rw [this]
  · rw [if_pos h1, if_neg h2] at h
    have x := (val_zero_iff 52 a).1 (by omega)
    have y := (val_zero_iff 52 (b - 9223372036854775808)).1 (by omega)
    rw [if_pos h1, if_neg h2]; omega
  · rw [if_neg h1, if_pos h2] at h
    have x := (val_zero_iff 52 (a - 9223372036854775808)).1 (by omega)
    have y := (val_zero_iff 52 b).1 (by omega)
    rw [if_neg h1, if_pos h2]; omega
  · rw [if_neg h1, if_neg h2] at h
    have := (val_eq_iff 52 (a - 9223372036854775808) (b - 9223372036854775808)).1 (by omega)
    rw [if_neg h1, if_neg h2]; omega
def ff (a b : Nat) : Value := .tuple #[.float .f64 a, .float .f64 b]
/-- a number and an error's number -/
def fe (a : Nat) (c : Int) : Value := .tuple #[.float .f64 a, .int .i64 c]
/-- two words of one value that is no nought are one word -/
theorem V_inj {a b : Nat} (ha : FinW a) (hb : FinW b) (h : V a = V b) (h0 : V a ≠ 0) : a = b := by
  have k := V_key ha hb h
  have a1 := ha.1
  have b1 := hb.1
  have za : a % 9223372036854775808 ≠ 0 := by
    intro hz
    have := V_abs' a ha
    rw [hz, val_zero] at this; omega
  unfold key64 at k
  split at k <;> split at k <;> omega
end Go.Proofs.Ytgnofnjbmiepjaa

namespace Go.Proofs.Ytgnofnjbmiepjaa
open Go.ChangeShapes Go.WideShapes Go.ChangeAt Go.RowKit Ieee.Own

/-! ### the library's calls between words and numbers -/
set_option maxRecDepth 100000 in
theorem xneg (b : Nat) (hb : b < 18446744073709551616) (w : World) : (Op.unary .neg (.float .f64 b)).run Try.prog w = .ok (.float .f64 (if b < 9223372036854775808 then b + 9223372036854775808 else b - 9223372036854775808)) w := by
  rw [← Ieee.Own.xor_top64 b hb]; rfl
/-! ### Canon -/
/-! ### infinities -/
/-! ### neighbours -/
def nextW (b : Nat) : Nat :=
  if 9218868437227405312 < b % 9223372036854775808 then 9221120237041090560 else if b = 9218868437227405312 then b
  else if b % 9223372036854775808 = 0 then 1 else if b < 9223372036854775808 then b + 1 else b - 1
def prevW (b : Nat) : Nat :=
  if 9218868437227405312 < b % 9223372036854775808 then 9221120237041090560 else if b = 18442240474082181120 then b
  else if b % 9223372036854775808 = 0 then 9223372036854775809 else if b < 9223372036854775808 then b - 1 else b + 1
end Go.Proofs.Ytgnofnjbmiepjaa

namespace Go.Proofs.Ytgnofnjbmiepjaa
open Go.ChangeShapes Go.WideShapes Go.ChangeAt Go.RowKit Ieee.Own

/-- three results: two numbers and an error's number -/
def ffi (a b : Nat) (c : Int) : Value := .tuple #[.float .f64 a, .float .f64 b, .int .i64 c]
set_option maxRecDepth 100000 in
theorem halves_run {a c d h l : Nat} (o1 : Ieee.double.mul 4728779608772575232 a = some c) (o2 : Ieee.double.sub c a = some d) (o3 : Ieee.double.sub c d = some h) (o4 : Ieee.double.sub a h = some l) (w : World) :
    Calls Try.prog 120 #[.float .f64 a] w fun e w' => e = .returned (ff h l) ∧ w = w' := by
  have r1 := run_mul _ _ _ o1
  have r2 := run_sub _ _ _ o2
  have r3 := run_sub _ _ _ o3
  have r4 := run_sub _ _ _ o4
  clear o1 o2 o3 o4
  go_enter Try.func120, Try.ntmps120
  go_wp2
  go_ret2
  exact ⟨rfl, rfl⟩
/-- a product's results, in units: a b = N -/
structure ProdRes (a b p e : Nat) (N : Int) : Prop where
  op : Ieee.double.mul a b = some p
  fp : FinW p
  fe : FinW e
  ex : V a * V b = N * 2 ^ 1074
  vp : V p = RN N
  ve : V e = N - V p
set_option maxRecDepth 100000 in
theorem product_any {a b p q k : Nat} {A B : Int} (ha : Nr a A p) (hb : Nr b B q) (hp : p < 1900) (hq : q < 1900) (hk : p + q = k + 1074) (hk2 : k < 1700) :
    ∃ r e, ProdRes a b r e (A * B * 2 ^ k) ∧ V r = RN (A * B) * 2 ^ k ∧ V e = (A * B - RN (A * B)) * 2 ^ k ∧ (A * B - RN (A * B)).natAbs ≤ 2 ^ 53 ∧
      ∀ w, Calls Try.prog 113 #[.float .f64 a, .float .f64 b] w fun en w' => en = .returned (ff r e) ∧ w = w' := by
  obtain ⟨r, c, d, ah, al, c', d', bh, bl, m1, e1, m2, e2, m3, e3, m4, e4, o1, ⟨s1, s2, s3, s4⟩, ⟨z1, z2, z3, z4⟩, p1, p2, p3, p4, p5, p6, p7, p8, f1, f2, v1, v2, v3⟩ := times_words ha hb hp hq hk hk2
  refine ⟨r, e4, ⟨o1, f1, f2, nr_mul ha hb hk, by rw [v1, RN_scale], by rw [v2, v1, Int.sub_mul]⟩, v1, v2, v3, fun w => ?_⟩
  have H1 := fun w => halves_run s1 s2 s3 s4 w
  have H2 := fun w => halves_run z1 z2 z3 z4 w
  have q0 := run_mul _ _ _ o1
  have q1 := run_mul _ _ _ p1
  have q2 := run_sub _ _ _ p2
  have q3 := run_mul _ _ _ p3
  have q4 := run_add _ _ _ p4
  have q5 := run_mul _ _ _ p5
  have q6 := run_add _ _ _ p6
  have q7 := run_mul _ _ _ p7
  have q8 := run_add _ _ _ p8
  clear o1 s1 s2 s3 s4 z1 z2 z3 z4 p1 p2 p3 p4 p5 p6 p7 p8 f1 f2 v1 v2 v3 hp hq hk hk2 ha hb
  go_enter Try.func113, Try.ntmps113
  go_wp2_with (first | (go_at_call 120; ((with_reducible refine (H1 _).mono ?_); rintro e w' ⟨rfl, rfl⟩; unfold ff)) | (go_at_call 120; ((with_reducible refine (H2 _).mono ?_); rintro e w' ⟨rfl, rfl⟩; unfold ff)))
  go_ret2
  exact ⟨rfl, rfl⟩
set_option maxRecDepth 100000 in
theorem prod_fit (a b : Nat) (ha : a < 18446744073709551616) (hb : b < 18446744073709551616) (h1 : fitB a = true) (h2 : fitB b = true) :
    ∃ p e N Z g, ProdRes a b p e N ∧ (N = Z * 2 ^ 50 ∧ V a * V b = Z * 2 ^ 1124 ∧ ((mg 52 (a % 9223372036854775808) = 0 ∨ mg 52 (b % 9223372036854775808) = 0) ∨ ex 52 (a % 9223372036854775808) + ex 52 (b % 9223372036854775808) = g + 1124 ∧ g < 1408)) ∧ ((2 : Int) ^ 500 ∣ V p ∧ (2 : Int) ^ 500 ∣ V e ∧ ∃ K, K ≤ 1490 ∧ (V p).natAbs ≤ 2 ^ K ∧ (V e).natAbs ≤ 2 ^ K) ∧
      ∀ w, Calls Try.prog 100 #[.float .f64 a, .float .f64 b] w fun en w' => en = .returned (ffi p e 0) ∧ w = w' := by
  obtain ⟨A, i, na, i1, i2⟩ := fit_nr ha h1
  obtain ⟨B, j, nb, j1, j2⟩ := fit_nr hb h2
  obtain ⟨k, hk⟩ : ∃ k, i + j = k + 1074 := ⟨i + j - 1074, by omega⟩
  obtain ⟨p, e, R, v1, v2, v3, C⟩ := product_any na nb (by omega) (by omega) hk (by omega)
  have bAB : (RN (A * B)).natAbs ≤ 2 ^ 107 := RN_bound (Nat.le_trans (abs_mul_le (Nat.le_of_lt na.hi) (Nat.le_of_lt nb.hi)) (by decide))
  have hZ := unit_parts na nb hk (by omega)
  have hg := ex_parts na nb (by omega) (by omega) hk (by omega) (by omega)
  refine ⟨p, e, _, A * B * 2 ^ (k - 50), k - 50, R, ⟨hZ.1, hZ.2, hg⟩, ⟨?_, ?_, 107 + k, by omega, ?_, ?_⟩, fun w => ?_⟩
  clear hZ hg
  · rw [v1]; exact Int.dvd_trans (pow_dvd (show 500 ≤ k by omega)) (Int.dvd_mul_left _ _)
  · rw [v2]; exact Int.dvd_trans (pow_dvd (show 500 ≤ k by omega)) (Int.dvd_mul_left _ _)
  · rw [v1]; exact scale_le bAB
  · rw [v2]; exact scale_le (abs_up (l := 107) v3 (by decide))
  have C1 := fun w => fit_any a ha w
  have C2 := fun w => fit_any b hb w
  rw [h1] at C1
  rw [h2] at C2
  clear R v1 v2 v3 bAB na nb hk ha hb h1 h2 i1 i2 j1 j2
  go_enter Try.func100, Try.ntmps100
  go_wp2_with (first | (go_at_call 43; ((with_reducible refine (C1 _).mono ?_); rintro e w' ⟨rfl, rfl⟩)) | (go_at_call 43; ((with_reducible refine (C2 _).mono ?_); rintro e w' ⟨rfl, rfl⟩)) | (go_at_call 113; ((with_reducible refine (C _).mono ?_); rintro e w' ⟨rfl, rfl⟩; unfold ff)))
  go_ret3
  exact ⟨rfl, rfl⟩
/-! ### quotients -/
/-! ### roots -/
end Go.Proofs.Ytgnofnjbmiepjaa

namespace Go.Proofs.Ytgnofnjbmiepjaa
open Ieee.Own

/-! ### the order of words, and neighbours -/
theorem V_lt_key {a b : Nat} (ha : FinW a) (hb : FinW b) : V a < V b ↔ key64 a < key64 b := by
  have a1 := ha.1
  have b1 := hb.1
  unfold V key64
  by_cases h1 : a < 9223372036854775808 <;> by_cases h2 : b < 9223372036854775808
  · rw [if_pos h1, if_pos h1, if_pos h2, if_pos h2]
    have := val_lt_iff 52 a b
    omega
  · rw [if_pos h1, if_pos h1, if_neg h2, if_neg h2]; omega
  · rw [if_neg h1, if_neg h1, if_pos h2, if_pos h2]
    have x := val_zero_iff 52 (a - 9223372036854775808)
    have y := val_zero_iff 52 b
    omega
  · rw [if_neg h1, if_neg h1, if_neg h2, if_neg h2]
    have := val_lt_iff 52 (b - 9223372036854775808) (a - 9223372036854775808)
    omega

/-! ### an exact result, told by a sign: c v is above 0 for v below it, below 0 for v above it -/
/-- a word that lies next to the exact result: no other word between -/
structure Adj (c : Int → Int) (s : Nat) : Prop where
  fin : FinW s
  bd : (V s).natAbs ≤ 2 ^ 1500
  lo : ∀ u, FinW u → V u < V s → 0 < c (V u)
  hi : ∀ u, FinW u → V s < V u → c (V u) < 0
/-- the greatest word not above -/
structure Dn (c : Int → Int) (w : Nat) : Prop where
  fin : FinW w
  le : 0 ≤ c (V w)
  top : ∀ u, FinW u → 0 ≤ c (V u) → V u ≤ V w
/-- the least word not below -/
structure Up (c : Int → Int) (w : Nat) : Prop where
  fin : FinW w
  ge : c (V w) ≤ 0
  low : ∀ u, FinW u → c (V u) ≤ 0 → V w ≤ V u
theorem Dn.uniq {c : Int → Int} {w x : Nat} (h : Dn c w) (k : Dn c x) : V w = V x := by
  have := h.top x k.fin k.le
  have := k.top w h.fin h.le
  omega
theorem Up.uniq {c : Int → Int} {w x : Nat} (h : Up c w) (k : Up c x) : V w = V x := by
  have := h.low x k.fin k.ge
  have := k.low w h.fin h.ge
  omega

/-! ### the four: sums and products -/
end Go.Proofs.Ytgnofnjbmiepjaa

namespace Go.Proofs.Ytgnofnjbmiepjaa
open Ieee.Own

def quotC (a b : Nat) (v : Int) : Int := (V a * 2 ^ 1074 - v * V b) * (if V b < 0 then -1 else 1)
def rootC (a : Nat) (v : Int) : Int := if v < 0 then 1 else V a * 2 ^ 1074 - v * v
/-! ### ends next to the exact ones, by the rest -/
end Go.Proofs.Ytgnofnjbmiepjaa

namespace Go.Proofs.Ytgnofnjbmiepjaa
open Go.ChangeShapes Go.WideShapes Go.ChangeAt Go.RowKit Ieee.Own

/-! ### comparisons of words by their values -/
theorem fin_nn {a : Nat} (h : FinW a) : nn a := by have := h.2; unfold nn; omega
theorem lt_words {a b : Nat} (ha : FinW a) (hb : FinW b) : (FloatKind.f64.format.order a b == some Ordering.lt) = decide (V a < V b) := by
  rw [o_lss a b ha.1 hb.1, decide_eq_decide]
  have := V_lt_key ha hb
  exact ⟨fun h => this.2 h.2.2, fun h => ⟨fin_nn ha, fin_nn hb, this.1 h⟩⟩
theorem gt_words {a b : Nat} (ha : FinW a) (hb : FinW b) : (FloatKind.f64.format.order a b == some Ordering.gt) = decide (V b < V a) := by
  rw [o_gtr a b ha.1 hb.1, decide_eq_decide]
  have := V_lt_key hb ha
  exact ⟨fun h => this.2 h.2.2, fun h => ⟨fin_nn ha, fin_nn hb, this.1 h⟩⟩
theorem ge_words {a b : Nat} (ha : FinW a) (hb : FinW b) : (FloatKind.f64.format.order a b == some Ordering.gt || FloatKind.f64.format.order a b == some Ordering.eq) = decide (V b ≤ V a) := by
  rw [o_geq a b ha.1 hb.1, decide_eq_decide]
  have := V_lt_key ha hb
  exact ⟨fun h => Int.not_lt.1 fun h' => by have := this.1 h'; omega, fun h => ⟨fin_nn ha, fin_nn hb, Int.not_lt.1 fun h' => by have := this.2 h'; omega⟩⟩
theorem zero_fin : FinW 0 := ⟨by omega, by omega⟩
theorem V_zero : V 0 = 0 := by decide +kernel

/-! ### outwards -/
def leastV : Int := V 3706462493325918208
def mostV : Int := V 5507902344274116608
theorem leastV_pos : 0 < leastV := by decide +kernel
theorem least_fin : FinW 3706462493325918208 := ⟨by omega, by omega⟩
theorem nleast_fin : FinW 12929834530180694016 := ⟨by omega, by omega⟩
theorem nleast_V : V 12929834530180694016 = -leastV := by decide +kernel
def lowW (x : Nat) : Nat := if 0 ≤ V x ∧ V x < leastV then 0 else if V x < 0 ∧ -leastV < V x then 12929834530180694016 else x
def highW (x : Nat) : Nat := if V x ≤ 0 ∧ -leastV < V x then 0 else if 0 < V x ∧ V x < leastV then 3706462493325918208 else x
theorem lowW_fin {x : Nat} (h : FinW x) : FinW (lowW x) := by
  unfold lowW; split
  · exact zero_fin
  · split
    · exact nleast_fin
    · exact h
theorem highW_fin {x : Nat} (h : FinW x) : FinW (highW x) := by
  unfold highW; split
  · exact zero_fin
  · split
    · exact least_fin
    · exact h
/-- equal numbers, equal ends -/
theorem lowW_congr {x y : Nat} (hx : FinW x) (hy : FinW y) (h : V x = V y) : lowW x = lowW y := by
  unfold lowW
  rw [h]
  by_cases c1 : 0 ≤ V y ∧ V y < leastV
  · rw [if_pos c1, if_pos c1]
  · rw [if_neg c1, if_neg c1]
    by_cases c2 : V y < 0 ∧ -leastV < V y
    · rw [if_pos c2, if_pos c2]
    · rw [if_neg c2, if_neg c2]
      exact V_inj hx hy h (by have := leastV_pos; omega)
theorem highW_congr {x y : Nat} (hx : FinW x) (hy : FinW y) (h : V x = V y) : highW x = highW y := by
  unfold highW
  rw [h]
  by_cases c1 : V y ≤ 0 ∧ -leastV < V y
  · rw [if_pos c1, if_pos c1]
  · rw [if_neg c1, if_neg c1]
    by_cases c2 : 0 < V y ∧ V y < leastV
    · rw [if_pos c2, if_pos c2]
    · rw [if_neg c2, if_neg c2]
      exact V_inj hx hy h (by have := leastV_pos; omega)

theorem fin_top {b : Nat} (h : FinW b) : (V b).natAbs < 2 ^ 2098 := by
  rw [V_abs' b h, ← top64']
  exact (val_lt_iff 52 _ _).2 h.2
set_option maxRecDepth 100000 in
theorem xneg' (b : Nat) (hb : b < 18446744073709551616) (w : World) : (Op.unary .neg (.float .f64 b)).run Try.prog w = .ok (.float .f64 (negW b)) w := xneg b hb w
/-- a span and an error's number -/
def spanE (lo hi : Nat) (c : Int) : Value := .tuple #[.agg #[.float .f64 lo, .float .f64 hi], .int .i64 c]
def toldE (lo hi : Nat) : Value := if V (lowW lo) < -mostV ∨ mostV < V (highW hi) then spanE 0 0 3 else spanE (lowW lo) (highW hi) 0
theorem toldE_congr {a b c d : Nat} (ha : FinW a) (hb : FinW b) (hc : FinW c) (hd : FinW d) (h : V a = V b) (k : V c = V d) : toldE a c = toldE b d := by
  unfold toldE; rw [lowW_congr ha hb h, highW_congr hc hd k]

set_option maxRecDepth 100000 in
theorem fstore (a : Addr) (b : Nat) (m : Mode) (x : World) : (store a (.float .f64 b) m).run Try.prog x = stored Try.prog x a (.float .f64 b) m := run_store _ x a _ m rfl
/-! ### what is wrong with a span -/
def errS (a b : Nat) : Int := if fitB a = true ∧ fitB b = true then (if V b < V a then 5 else 0) else 3
def spanV (a b : Nat) : Value := .agg #[.float .f64 a, .float .f64 b]
end Go.Proofs.Ytgnofnjbmiepjaa

namespace Go.Proofs.Ytgnofnjbmiepjaa
open Go.ChangeShapes Go.WideShapes Go.ChangeAt Go.RowKit Ieee.Own

theorem float_cell {H : Type} {enc : TypeId × Value → H} {P : Program} {w : World} {base : Nat} {spare : Nat → Bool} {held : Bool} {n : Nat} {e : TypeId} {v : Value} {x : DataW H × List MemPlace}
    (he : P.underlying e = some (.float .f64)) (h : DataW.trod enc P w base spare held n e [v] = some x) : ∃ b, v = .float .f64 b ∧ b < 18446744073709551616 := by
  cases n with
  | zero => simp [DataW.trod] at h
  | succ n =>
    simp only [DataW.trod, he] at h
    cases v with
    | float k b =>
      cases k with
      | f64 => exact ⟨b, rfl, by
          by_cases hw : (Lit.float .f64 b).wf = true
          · simpa only [Lit.wf, decide_eq_true_eq] using hw
          · simp [hw] at h⟩
      | f32 => simp at h
    | _ => simp at h
end Go.Proofs.Ytgnofnjbmiepjaa

namespace Go.Proofs.Ytgnofnjbmiepjaa
open Go.ChangeShapes Go.WideShapes Go.ChangeAt Go.RowKit Ieee.Own

/-! ### blocks that the call made first, and what became of them -/
def boxO (a b : Nat) : Obj := .cells #[.float .f64 a, .float .f64 b] 38 (0, 0)
structure Blocks (w : World) (os : List Obj) (wr : World) : Prop where
  old : Below w.heap.size w wr
  more : w.heap.size + os.length ≤ wr.heap.size
  at_ : ∀ j o, os[j]? = some o → wr.heap[w.heap.size + j]? = some o
theorem Blocks.nil (w : World) : Blocks w [] w := ⟨Below.refl _ w, by simp, by intro j o h; simp at h⟩
theorem Blocks.alloc {w wr : World} {os : List Obj} (S : Blocks w os wr) (h : wr.heap.size = w.heap.size + os.length) (o : Obj) : Blocks w (os ++ [o]) (wr.alloc o) := by
  refine ⟨S.old.alloc (by omega) o, by simp; omega, fun j p hj => ?_⟩
  by_cases hl : j < os.length
  · rw [heap_alloc_old wr o (by omega)]
    rw [List.getElem?_append_left hl] at hj
    exact S.at_ j p hj
  · have hj' : j = os.length := by
      have := (List.getElem?_eq_some_iff.1 hj).1
      simp at this
      omega
    subst hj'
    rw [← h, heap_alloc_new]
    simpa using hj
theorem Blocks.on {w wr w' : World} {os : List Obj} (S : Blocks w os wr) (h : Below wr.heap.size wr w') : Blocks w os w' := by
  refine ⟨S.old.trans (h.mono S.old.size), Nat.le_trans S.more h.size, fun j o hj => ?_⟩
  have hl := (List.getElem?_eq_some_iff.1 hj).1
  have := S.more
  rw [h.block _ (by omega)]
  exact S.at_ j o hj
theorem Blocks.cell {w wr : World} {os : List Obj} (S : Blocks w os wr) (j : Nat) {cs : Array Value} {t : TypeId} {fr : Nat × Nat} (h : os[j]? = some (.cells cs t fr)) (i k : Nat) (hk : k = w.heap.size + j) : wr.cell? ⟨k, i, none⟩ = cs[i]? := by
  subst hk
  exact cell_of_row wr _ i cs t fr (S.at_ j _ h)
theorem Blocks.free {w wr : World} {os : List Obj} (S : Blocks w os wr) (j : Nat) {cs : Array Value} {t : TypeId} (h : os[j]? = some (.cells cs t (0, 0))) (i k : Nat) (hk : k = w.heap.size + j) : wr.frozen? ⟨k, i, none⟩ = false := by
  subst hk
  exact frozen_of_row wr _ i cs t (S.at_ j _ h)

def errSS (a1 a2 b1 b2 : Nat) : Int := if errS a1 a2 ≠ 0 then errS a1 a2 else errS b1 b2
end Go.Proofs.Ytgnofnjbmiepjaa
