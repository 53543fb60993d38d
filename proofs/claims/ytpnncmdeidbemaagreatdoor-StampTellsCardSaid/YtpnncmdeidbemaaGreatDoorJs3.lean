/- Proved here: what the texts Accm, Put, Acc, Lz, Add, Mul, AccP, AccRm, AccS, Wrd, Flt prove, one behind the other. -/
import Derived.Test.YtpnncmdeidbemaaGreatDoorRows
import Derived.WalkKit
import Derived.WalkLawsBesides
import Derived.ProofKit
import Derived.OpenShut
import Derived.Laws.Externs
import Derived.Lib.Hide
import Derived.IntWalk
import Derived.Laws.BitsAllLaws
import Derived.Shelf.Spec.BitsCarry
import Derived.Deep.RegionLaw
import Derived.Test.YtpnncmdeidbemaaGreatDoorJs2
import Derived.Shelf.Small.Bits
import Derived.Shelf.Bits.Mul64
import Derived.WalkSmall

namespace Ieee.Own

/-- the words that a step of a long sum (or difference) leaves, and its carry -/
def stepS (neg : Bool) (x y c : Nat) : Nat := if neg then (x + 18446744073709551616 - y - c) % 18446744073709551616 else (x + y + c) % 18446744073709551616
def stepC (neg : Bool) (x y c : Nat) : Nat := if neg then (if x < y + c then 1 else 0) else (x + y + c) / 18446744073709551616
def xw (q p0 p1 i : Nat) : Nat := if i = q then p0 else if i = q + 1 then p1 else 0
def cy (neg : Bool) (ws : Nat → Nat) (q p0 p1 : Nat) : Nat → Nat
  | 0 => 0
  | i + 1 => stepC neg (ws i) (xw q p0 p1 i) (cy neg ws q p0 p1 i)
def nw (neg : Bool) (ws : Nat → Nat) (q p0 p1 i : Nat) : Nat := stepS neg (ws i) (xw q p0 p1 i) (cy neg ws q p0 p1 i)

theorem stepC_le (neg : Bool) (x y c : Nat) (hx : x < 18446744073709551616) (hy : y < 18446744073709551616) (hc : c ≤ 1) : stepC neg x y c ≤ 1 := by
  unfold stepC; repeat' split
  all_goals omega
theorem xw_lt (q p0 p1 i : Nat) (h0 : p0 < 18446744073709551616) (h1 : p1 < 18446744073709551616) : xw q p0 p1 i < 18446744073709551616 := by
  unfold xw; repeat' split
  all_goals omega
theorem cy_le (neg : Bool) (ws : Nat → Nat) (q p0 p1 : Nat) (h : ∀ i, ws i < 18446744073709551616) (h0 : p0 < 18446744073709551616) (h1 : p1 < 18446744073709551616) : ∀ i, cy neg ws q p0 p1 i ≤ 1 := by
  intro i
  induction i with
  | zero => unfold cy; omega
  | succ i ih => unfold cy; exact stepC_le _ _ _ _ (h i) (xw_lt q p0 p1 i h0 h1) ih
theorem cy_succ (neg : Bool) (ws : Nat → Nat) (q p0 p1 i : Nat) : cy neg ws q p0 p1 (i + 1) = stepC neg (ws i) (xw q p0 p1 i) (cy neg ws q p0 p1 i) := rfl
theorem nw_lt (neg : Bool) (ws : Nat → Nat) (q p0 p1 i : Nat) : nw neg ws q p0 p1 i < 18446744073709551616 := by
  unfold nw stepS; split <;> exact Nat.mod_lt _ (by omega)

/-- the number that words tell -/
def sumW (ws : Nat → Nat) : Nat → Nat
  | 0 => 0
  | n + 1 => sumW ws n + ws n * 2 ^ (64 * n)

theorem step_add (x y c : Nat) : stepS false x y c + stepC false x y c * 18446744073709551616 = x + y + c := by
  unfold stepS stepC; simp only [Bool.false_eq_true, if_false]; omega
theorem step_sub (x y c : Nat) (hx : x < 18446744073709551616) (hy : y < 18446744073709551616) (hc : c ≤ 1) : stepS true x y c + y + c = x + stepC true x y c * 18446744073709551616 := by
  unfold stepS stepC; simp only [if_true]; split <;> omega

theorem pow64 (n : Nat) : 2 ^ (64 * (n + 1)) = 18446744073709551616 * 2 ^ (64 * n) := by
  rw [show 64 * (n + 1) = 64 + 64 * n by omega, Nat.pow_add]

theorem sum_add (ws : Nat → Nat) (q p0 p1 n : Nat) :
    sumW (nw false ws q p0 p1) n + cy false ws q p0 p1 n * 2 ^ (64 * n) = sumW ws n + sumW (xw q p0 p1) n := by
  induction n with
  | zero => simp [sumW, cy]
  | succ n ih =>
    simp only [sumW, cy_succ]
    have h := step_add (ws n) (xw q p0 p1 n) (cy false ws q p0 p1 n)
    rw [pow64]
    unfold nw
    generalize stepS false (ws n) (xw q p0 p1 n) (cy false ws q p0 p1 n) = s at *
    generalize stepC false (ws n) (xw q p0 p1 n) (cy false ws q p0 p1 n) = t at *
    have h2 : (s + t * 18446744073709551616) * 2 ^ (64 * n) = (ws n + xw q p0 p1 n + cy false ws q p0 p1 n) * 2 ^ (64 * n) := by rw [h]
    rw [Nat.add_mul, Nat.add_mul, Nat.add_mul, Nat.mul_assoc] at h2
    unfold nw at ih
    omega
theorem sum_sub (ws : Nat → Nat) (q p0 p1 : Nat) (hw : ∀ i, ws i < 18446744073709551616) (h0 : p0 < 18446744073709551616) (h1 : p1 < 18446744073709551616) (n : Nat) :
    sumW (nw true ws q p0 p1) n + sumW (xw q p0 p1) n = sumW ws n + cy true ws q p0 p1 n * 2 ^ (64 * n) := by
  induction n with
  | zero => simp [sumW, cy]
  | succ n ih =>
    simp only [sumW, cy_succ]
    have h := step_sub (ws n) (xw q p0 p1 n) (cy true ws q p0 p1 n) (hw n) (xw_lt q p0 p1 n h0 h1) (cy_le true ws q p0 p1 hw h0 h1 n)
    rw [pow64]
    unfold nw
    generalize stepS true (ws n) (xw q p0 p1 n) (cy true ws q p0 p1 n) = s at *
    generalize stepC true (ws n) (xw q p0 p1 n) (cy true ws q p0 p1 n) = t at *
    have h2 : (s + xw q p0 p1 n + cy true ws q p0 p1 n) * 2 ^ (64 * n) = (ws n + t * 18446744073709551616) * 2 ^ (64 * n) := by rw [h]
    rw [Nat.add_mul, Nat.add_mul, Nat.add_mul, Nat.mul_assoc] at h2
    unfold nw at ih
    omega

theorem sum_xw_lo (q p0 p1 n : Nat) (h : n ≤ q) : sumW (xw q p0 p1) n = 0 := by
  induction n with
  | zero => rfl
  | succ n ih =>
    simp only [sumW]
    rw [ih (by omega)]
    unfold xw; rw [if_neg (by omega), if_neg (by omega)]; simp
theorem sum_xw (q p0 p1 n : Nat) (h : q + 2 ≤ n) : sumW (xw q p0 p1) n = p0 * 2 ^ (64 * q) + p1 * 2 ^ (64 * (q + 1)) := by
  obtain ⟨k, rfl⟩ : ∃ k, n = q + 2 + k := ⟨n - (q + 2), by omega⟩
  clear h
  induction k with
  | zero =>
    simp only [sumW]
    rw [sum_xw_lo q p0 p1 q (Nat.le_refl q)]
    have e1 : xw q p0 p1 q = p0 := if_pos rfl
    have e2 : xw q p0 p1 (q + 1) = p1 := by unfold xw; rw [if_neg (by omega), if_pos rfl]
    rw [e1, e2]; omega
  | succ k ih =>
    rw [show q + 2 + (k + 1) = (q + 2 + k) + 1 from rfl]
    simp only [sumW]
    rw [ih]
    have e : xw q p0 p1 (q + 2 + k) = 0 := by unfold xw; rw [if_neg (by omega), if_neg (by omega)]
    rw [e]; simp

theorem sumW_lt (ws : Nat → Nat) (h : ∀ i, ws i < 18446744073709551616) (n : Nat) : sumW ws n < 2 ^ (64 * n) := by
  induction n with
  | zero => simp [sumW]
  | succ n ih =>
    simp only [sumW]
    rw [pow64]
    have : (ws n + 1) * 2 ^ (64 * n) ≤ 18446744073709551616 * 2 ^ (64 * n) := Nat.mul_le_mul_right _ (h n)
    rw [Nat.add_mul] at this
    omega
theorem sumW_of_zero (ws : Nat → Nat) (n : Nat) (h : ∀ i, i < n → ws i = 0) : sumW ws n = 0 := by
  induction n with
  | zero => rfl
  | succ n ih => simp only [sumW]; rw [ih (fun i hi => h i (by omega)), h n (by omega)]; simp
theorem sumW_zero (ws : Nat → Nat) (n : Nat) (h : sumW ws n = 0) : ∀ i, i < n → ws i = 0 := by
  induction n with
  | zero => intro i hi; omega
  | succ n ih =>
    simp only [sumW] at h
    intro i hi
    have h2 : ws n * 2 ^ (64 * n) = 0 := by omega
    have hp := Nat.two_pow_pos (64 * n)
    by_cases e : i = n
    · subst e
      rcases Nat.mul_eq_zero.1 h2 with h | h <;> omega
    · exact ih (by omega) i (by omega)

/-- a number's two words, shifted -/
theorem shifted (m k : Nat) : m * 2 ^ k % 18446744073709551616 + (m * 2 ^ k / 18446744073709551616) * 18446744073709551616 = m * 2 ^ k := by omega
theorem shifted_high (m k : Nat) (hk : k < 64) (hm : m < 18446744073709551616) : m * 2 ^ k / 18446744073709551616 = m / 2 ^ (64 - k) ∧ m / 2 ^ (64 - k) < 18446744073709551616 := by
  have e : 18446744073709551616 = 2 ^ (64 - k) * 2 ^ k := by rw [← Nat.pow_add, show 64 - k + k = 64 by omega]
  constructor
  · rw [e, Nat.mul_div_mul_right _ _ (Nat.two_pow_pos k)]
  · exact Nat.lt_of_le_of_lt (Nat.div_le_self _ _) hm
end Ieee.Own

namespace Go.Proofs.YtpnncmdeidbemaaGreatDoor
open Go.ChangeShapes Go.WideShapes Go.ChangeAt Go.RowKit Ieee.Own

/-- below block b the world is as it was, no mark has turned, and of the blocks that were there b alone may have turned -/
def Still (b : Nat) (w w' : World) : Prop := Below b w w' ∧ (∀ a, w'.frozen? a = w.frozen? a) ∧ ∀ g, g < w.heap.size → g ≠ b → w'.heap[g]? = w.heap[g]?
theorem Still.refl (b : Nat) (w : World) : Still b w w := ⟨Below.refl b w, fun _ => rfl, fun _ _ _ => rfl⟩
theorem Still.trans {b : Nat} {u v w : World} (h : Still b u v) (k : Still b v w) : Still b u w := ⟨h.1.trans k.1, fun a => (k.2.1 a).trans (h.2.1 a), fun g hg hb => (k.2.2 g (Nat.lt_of_lt_of_le hg h.1.size) hb).trans (h.2.2 g hg hb)⟩
theorem Still.setCell {b : Nat} {u w : World} (h : Still b u w) {p : Addr} (hp : p.block = b) (v : Value) : Still b u (w.setCell p v) :=
  ⟨h.1.setCell (Nat.le_of_eq hp.symm) v, fun a => (World.frozen?_setCell _ _ _ _).trans (h.2.1 a), fun g hg hb => (Below.heap_setCell _ _ _ _ (by omega)).trans (h.2.2 g hg hb)⟩
theorem Still.drew {b : Nat} {u w : World} (h : Still b u w) : Still b u w.drew := ⟨h.1.drew, h.2.1, h.2.2⟩
theorem Still.alloc {b : Nat} {u w : World} (h : Still b u w) (hb : b ≤ w.heap.size) (c : Array Value) (t : TypeId) : Still b u (w.alloc (.cells c t)) :=
  ⟨h.1.alloc hb _, fun a => (frozen?_alloc_cells _ _ _ a).trans (h.2.1 a), fun g hg hb => (heap_alloc_old w _ (Nat.lt_of_lt_of_le hg h.1.size)).trans (h.2.2 g hg hb)⟩
theorem Still.grown {w w' : World} (h : Still w.heap.size w w') : Grown w w' := ⟨h.1.frame _, h.2.1, h.1.size⟩

structure Rel (b B j : Nat) (w wr : World) (ws ns : Nat → Nat) (p0 p1 : Nat) : Prop where
  old : Still b w wr
  size : B < wr.heap.size
  done : ∀ t, t < j → wr.cell? ⟨b, t, none⟩ = some (.int .u64 (ns t))
  todo : ∀ t, j ≤ t → t < 24 → wr.cell? ⟨b, t, none⟩ = some (.int .u64 (ws t))
  free : ∀ t, t < 24 → wr.frozen? ⟨b, t, none⟩ = false
  c0 : wr.cell? ⟨B, 0, none⟩ = some (.int .u64 p0)
  c1 : wr.cell? ⟨B, 1, none⟩ = some (.int .u64 p1)

theorem Rel.step {b B j : Nat} {w wr : World} {ws ns : Nat → Nat} {p0 p1 : Nat} (R : Rel b B j w wr ws ns p0 p1) (hb : b < B) (hj : j < 24) :
    Rel b B (j + 1) w (wr.setCell ⟨b, j, none⟩ (.int .u64 (ns j))).drew ws ns p0 p1 := by
  have ne : ∀ t, t ≠ j → (⟨b, j, none⟩ : Addr) ≠ ⟨b, t, none⟩ := by intro t h e; cases e; exact h rfl
  have nB : ∀ t, (⟨b, j, none⟩ : Addr) ≠ ⟨B, t, none⟩ := by intro t e; cases e; omega
  refine ⟨(R.old.setCell (p := ⟨b, j, none⟩) rfl _).drew, ?_, ?_, ?_, ?_, ?_, ?_⟩
  · have := R.size; simp [World.setCell, World.drew]; exact this
  · intro t ht
    rw [World.cell?_drew]
    by_cases e : t = j
    · subst e; exact World.cell?_setCell_same _ _ _ (R.todo t (Nat.le_refl _) hj)
    · rw [World.cell?_setCell_other _ _ _ _ (ne t e)]; exact R.done t (by omega)
  · intro t ht ht2
    rw [World.cell?_drew, World.cell?_setCell_other _ _ _ _ (ne t (by omega))]; exact R.todo t (by omega) ht2
  · intro t ht
    show (wr.setCell _ _).frozen? _ = false
    rw [World.frozen?_setCell]; exact R.free t ht
  · rw [World.cell?_drew, World.cell?_setCell_other _ _ _ _ (nB 0)]; exact R.c0
  · rw [World.cell?_drew, World.cell?_setCell_other _ _ _ _ (nB 1)]; exact R.c1

end Go.Proofs.YtpnncmdeidbemaaGreatDoor

namespace Go.Proofs.YtpnncmdeidbemaaGreatDoor
open Go.ChangeShapes Go.WideShapes Go.ChangeAt Go.RowKit Ieee.Own

/-- the long sum at block b tells z, modulo 2^1536 -/
structure Holds (b : Nat) (w : World) (z : Int) (ws : Nat → Nat) : Prop where
  lt : ∀ i, ws i < 18446744073709551616
  size : b < w.heap.size
  cell : ∀ i, i < 24 → w.cell? ⟨b, i, none⟩ = some (.int .u64 (ws i))
  free : ∀ i, i < 24 → w.frozen? ⟨b, i, none⟩ = false
  val : ((2 ^ (64 * 24) : Nat) : Int) ∣ (sumW ws 24 : Int) - z

def PutPost (b : Nat) (w : World) (z : Int) (e : Ending) (w' : World) : Prop := e = .returned (.tuple #[]) ∧ (∃ ns, Holds b w' z ns) ∧ Still b w w'

/-! ### single calls -/
set_option maxRecDepth 100000 in
theorem x34 (b : Nat) (w : World) : (callFunc 40 #[.float .f64 b]).run Tryz.prog w = .ok (.value (.int .u64 (b : Int))) w := by
  rw [run_callFunc_extern (e := Extern.MathFloatBits.float64bits) Tryz.func40 (by kernel_rfl) (by kernel_rfl) (by kernel_rfl) (by kernel_rfl)]; rfl
theorem andn63 (b : Nat) (hb : b < 18446744073709551616) : bits BinOp.andNot IntKind.u64 (b : Int) 9223372036854775808 = ((b % 9223372036854775808 : Nat) : Int) := by
  rw [show (9223372036854775808 : Int) = ((9223372036854775808 : Nat) : Int) from rfl, u64_andNot_nat b 9223372036854775808 hb (by omega)]
  exact congrArg _ (Nat.and_two_pow_sub_one_eq_mod b 63)
theorem and52 (b : Nat) (hb : b < 18446744073709551616) : bits BinOp.and IntKind.u64 (b : Int) 4503599627370495 = ((b % 4503599627370496 : Nat) : Int) := by
  rw [show (4503599627370495 : Int) = ((4503599627370495 : Nat) : Int) from rfl, u64_and_nat b 4503599627370495 hb (by omega)]
  exact congrArg _ (Nat.and_two_pow_sub_one_eq_mod b 52)
theorem or52 (b : Nat) (hb : b < 4503599627370496) : bits BinOp.or IntKind.u64 (b : Int) 4503599627370496 = ((4503599627370496 + b : Nat) : Int) := by
  rw [show (4503599627370496 : Int) = ((4503599627370496 : Nat) : Int) from rfl, u64_or_nat b _ (by omega) (by omega), Nat.or_comm]
  have := Nat.two_pow_add_eq_or_of_lt (i := 52) (b := b) (by omega) 1
  rw [show (2 : Nat) ^ 52 * 1 = 4503599627370496 from rfl] at this
  rw [← this]
theorem ieq_f {a b : Int} (h : ¬ a = b) : (a == b) = false := by simpa using h
theorem ieq_t {a b : Int} (h : a = b) : (a == b) = true := by simpa using h

theorem ret_ii {k l : IntKind} {a b c d : Int} (h : a = c) (h2 : b = d) : Ending.returned (.tuple #[.int k a, .int l b]) = .returned (.tuple #[.int k c, .int l d]) := by rw [h, h2]
end Go.Proofs.YtpnncmdeidbemaaGreatDoor

namespace Go.Proofs.YtpnncmdeidbemaaGreatDoor
open Go.Shelf Go.RowKit

theorem bitLen_aux : ∀ (f x : Nat), x < 2 ^ f → (x = 0 → Lib.bitLenAux f x = 0) ∧ (x ≠ 0 → Lib.bitLenAux f x = x.log2 + 1) := by
  intro f
  induction f with
  | zero => intro x hx; exact ⟨fun _ => rfl, fun h => by omega⟩
  | succ f ih =>
    intro x hx
    refine ⟨fun h => by simp [Lib.bitLenAux, h], fun h => ?_⟩
    have h2 : x / 2 < 2 ^ f := by rw [Nat.pow_succ] at hx; omega
    obtain ⟨i1, i2⟩ := ih (x / 2) h2
    unfold Lib.bitLenAux
    rw [if_neg h]
    by_cases h1 : x / 2 = 0
    · rw [i1 h1]
      obtain rfl : x = 1 := by omega
      rfl
    · rw [i2 h1]
      have : x.log2 = (x / 2).log2 + 1 := by
        rw [Nat.log2_eq_iff h]
        have := (Nat.log2_eq_iff h1).1 rfl
        rw [Nat.pow_succ, Nat.pow_succ, Nat.pow_succ] at *
        omega
      omega
theorem bitLen_log (x : Nat) (h : x ≠ 0) (hx : x < 18446744073709551616) : Lib.bitLen x = x.log2 + 1 := (bitLen_aux 64 x hx).2 h

def renLz : Ren := ⟨fun n => if n = 129 then 93 else 84, fun n => if n = 3 then 3 else if n = 4 then 4 else if n = 5 then 5 else if n = 9 then 9 else if n = 46 then 68 else 37, fun n => n⟩
set_option maxRecDepth 100000 in
theorem lays_lz : Lays.n134 Tryz.prog renLz :=
  ⟨by kernel_rfl, Tryz.func93.trans (congrArg some (by kernel_rfl)), Tryz.func84.trans (congrArg some (by kernel_rfl)),
    Tryz.underlying3, fun _ => by kernel_rfl, fun _ => by kernel_rfl, fun _ => by kernel_rfl, Tryz.underlying4, fun _ => by kernel_rfl, fun _ => by kernel_rfl, fun _ => by kernel_rfl,
    Tryz.underlying5, fun _ => by kernel_rfl, fun _ => by kernel_rfl, fun _ => by kernel_rfl, Tryz.underlying9, fun _ => by kernel_rfl, fun _ => by kernel_rfl, fun _ => by kernel_rfl,
    Tryz.underlying68, fun _ => by kernel_rfl, fun _ => by kernel_rfl, fun _ => by kernel_rfl, Tryz.underlying37, fun _ => by kernel_rfl, fun _ => by kernel_rfl, fun _ => by kernel_rfl⟩
set_option maxRecDepth 100000 in
theorem lz_any (x : Nat) (h : x ≠ 0) (hx : x < 18446744073709551616) (w : World) :
    Calls Tryz.prog 84 #[.int .u64 x] w fun e w' => e = .returned (.int .i64 (63 - (x.log2 : Int))) ∧ w = w' :=
  (Any.bits_LeadingZeros64 lays_lz x w (by omega) (by omega)).mono fun _ _ ⟨he, hw⟩ => ⟨by rw [he]; congr 2; simp only [Int.toNat_natCast]; rw [bitLen_log x h hx]; omega, hw.symm⟩
end Go.Proofs.YtpnncmdeidbemaaGreatDoor

namespace Go.Proofs.YtpnncmdeidbemaaGreatDoor
open Go.ChangeShapes Go.WideShapes Go.ChangeAt Go.RowKit Ieee.Own

theorem mg_zero (r : Nat) : mg 52 r = 0 ↔ r = 0 := by unfold mg; split <;> omega

/-- is a word that is no nought below 0? -/
theorem below0 (b : Nat) (hb : FinW b) (h0 : mg 52 (b % 9223372036854775808) ≠ 0) : (FloatKind.f64.format.order b 0 == some Ordering.lt) = decide (9223372036854775808 ≤ b) := by
  have h1 : b % 9223372036854775808 ≠ 0 := fun h => h0 ((mg_zero _).2 h)
  have h2 := hb.2
  show (Ieee.double.order b 0 == some Ordering.lt) = _
  rw [order64 b 0 hb.1 (by omega) (by omega) (by omega), cmp_lt]
  simp only [decide_eq_decide]
  have hb1 := hb.1
  unfold key64
  split <;> split <;> omega

theorem V_mg (b : Nat) (hb : FinW b) : V b = if 9223372036854775808 ≤ b then -((mg 52 (b % 9223372036854775808) * 2 ^ ex 52 (b % 9223372036854775808) : Nat) : Int) else ((mg 52 (b % 9223372036854775808) * 2 ^ ex 52 (b % 9223372036854775808) : Nat) : Int) := by
  have h1 := hb.1
  unfold V
  by_cases h : b < 9223372036854775808
  · rw [if_pos h, if_neg (by omega), show b % 9223372036854775808 = b by omega]; rfl
  · rw [if_neg h, if_pos (by omega), show b % 9223372036854775808 = b - 9223372036854775808 by omega]; rfl

end Go.Proofs.YtpnncmdeidbemaaGreatDoor

namespace Go.Proofs.YtpnncmdeidbemaaGreatDoor
open Go.Shelf Go.RowKit

def renMul : Ren := ⟨fun _ => 55, fun n => if n = 46 then 68 else 37, fun n => n⟩
set_option maxRecDepth 100000 in
theorem lays_mul : Lays.n264 Tryz.prog renMul :=
  ⟨by kernel_rfl, Tryz.func55.trans (congrArg some (by kernel_rfl)), Tryz.underlying68, fun _ => by kernel_rfl, fun _ => by kernel_rfl, fun _ => by kernel_rfl, Tryz.underlying37, fun _ => by kernel_rfl, fun _ => by kernel_rfl, fun _ => by kernel_rfl⟩
set_option maxRecDepth 100000 in
theorem mul64_any (x y : Nat) (hx : x < 18446744073709551616) (hy : y < 18446744073709551616) (w : World) :
    Calls Tryz.prog 55 #[.int .u64 x, .int .u64 y] w fun e w' => e = .returned (.tuple #[.int .u64 ((x * y / 18446744073709551616 : Nat) : Int), .int .u64 ((x * y % 18446744073709551616 : Nat) : Int)]) ∧ w = w' :=
  (Any.bits_Mul64 lays_mul x y hx hy w).mono fun _ _ ⟨he, hw⟩ => ⟨he, hw.symm⟩
end Go.Proofs.YtpnncmdeidbemaaGreatDoor

namespace Go.Proofs.YtpnncmdeidbemaaGreatDoor
open Go.ChangeShapes Go.WideShapes Go.ChangeAt Go.RowKit Ieee.Own

theorem pow_split (e f g h : Nat) (he : e + f = g + h) : 2 ^ e * 2 ^ f = 2 ^ g * 2 ^ h := by rw [← Nat.pow_add, ← Nat.pow_add, he]

theorem mul_cast (x y c k : Nat) (h : x * y = c * 2 ^ k) : (x : Int) * (y : Int) = (c : Int) * 2 ^ k := by
  rw [← Int.natCast_mul, h, Int.natCast_mul, Int.natCast_pow]; rfl

theorem prod_parts (s t : Bool) (m n e f g : Nat) (X Y Z : Int) (hg : e + f = g + 1124)
    (hX : X = if s then -((m * 2 ^ e : Nat) : Int) else ((m * 2 ^ e : Nat) : Int)) (hY : Y = if t then -((n * 2 ^ f : Nat) : Int) else ((n * 2 ^ f : Nat) : Int)) (hZ : X * Y = Z * 2 ^ 1124) :
    (if (!(s == t)) = true then -((m * n % 18446744073709551616 * 2 ^ g : Nat) : Int) else ((m * n % 18446744073709551616 * 2 ^ g : Nat) : Int)) +
    (if (!(s == t)) = true then -((m * n / 18446744073709551616 * 2 ^ (g + 64) : Nat) : Int) else ((m * n / 18446744073709551616 * 2 ^ (g + 64) : Nat) : Int)) = Z := by
  have h1 : m * n % 18446744073709551616 * 2 ^ g + m * n / 18446744073709551616 * 2 ^ (g + 64) = m * n * 2 ^ g := by
    rw [Nat.pow_add, Nat.mul_comm (2 ^ g) (2 ^ 64), ← Nat.mul_assoc, ← Nat.add_mul]
    congr 1; omega
  have h2 : m * 2 ^ e * (n * 2 ^ f) = m * n * 2 ^ g * 2 ^ 1124 := by
    have hq := pow_split e f g 1124 hg
    rw [show m * 2 ^ e * (n * 2 ^ f) = m * n * (2 ^ e * 2 ^ f) from Nat.mul_mul_mul_comm m (2 ^ e) n (2 ^ f), hq, ← Nat.mul_assoc]
  generalize m * n % 18446744073709551616 * 2 ^ g = a at *
  generalize m * n / 18446744073709551616 * 2 ^ (g + 64) = b at *
  generalize m * n * 2 ^ g = c at *
  have h3 : ((m * 2 ^ e : Nat) : Int) * ((n * 2 ^ f : Nat) : Int) = (c : Int) * 2 ^ 1124 := mul_cast _ _ c 1124 h2
  have hp : (0 : Int) < 2 ^ 1124 := Int.pow_pos (by omega)
  generalize ((m * 2 ^ e : Nat) : Int) = x at *
  generalize ((n * 2 ^ f : Nat) : Int) = y at *
  have hc : Z = if (!(s == t)) = true then -(c : Int) else (c : Int) := by
    refine Int.eq_of_mul_eq_mul_right (Int.ne_of_gt hp) ?_
    rw [← hZ, hX, hY]
    generalize (2 : Int) ^ 1124 = M at *
    cases s <;> cases t <;> simp [h3, Int.neg_mul, Int.mul_neg]
  rw [hc]
  cases s <;> cases t <;> simp <;> omega

/-! ### the sign -/
end Go.Proofs.YtpnncmdeidbemaaGreatDoor

namespace Ieee.Own

theorem sumW_split (ws : Nat → Nat) (j n : Nat) (h : j < n) : ∃ c, sumW ws n = sumW ws j + ws j * 2 ^ (64 * j) + c * 2 ^ (64 * (j + 1)) := by
  induction n with
  | zero => omega
  | succ n ih =>
    simp only [sumW]
    by_cases e : j = n
    · subst e; exact ⟨0, by omega⟩
    · obtain ⟨c, hc⟩ := ih (by omega)
      refine ⟨c + ws n * 2 ^ (64 * (n - (j + 1))), ?_⟩
      have hp : 2 ^ (64 * n) = 2 ^ (64 * (n - (j + 1))) * 2 ^ (64 * (j + 1)) := by rw [← Nat.pow_add]; congr 1; omega
      rw [hc, hp, Nat.add_mul, Nat.mul_assoc]; omega

theorem word_bit (ws : Nat → Nat) (hw : ∀ i, ws i < 18446744073709551616) (j k n : Nat) (h : j < n) (hk : k < 64) :
    ws j / 2 ^ k % 2 = sumW ws n / 2 ^ (64 * j + k) % 2 := by
  obtain ⟨c, hc⟩ := sumW_split ws j n h
  have hs := sumW_lt ws hw j
  have hp := Nat.two_pow_pos (64 * j)
  have e1 : sumW ws n / 2 ^ (64 * j) = ws j + c * 18446744073709551616 := by
    rw [hc, pow64]
    have : sumW ws j + ws j * 2 ^ (64 * j) + c * (18446744073709551616 * 2 ^ (64 * j)) = sumW ws j + (ws j + c * 18446744073709551616) * 2 ^ (64 * j) := by
      rw [Nat.add_mul, Nat.mul_assoc c]; omega
    rw [this, Nat.add_mul_div_right _ _ hp, Nat.div_eq_of_lt hs, Nat.zero_add]
  have e2 : 18446744073709551616 = 2 * 2 ^ (63 - k) * 2 ^ k := by
    have : 2 ^ 64 = 2 ^ (1 + (63 - k) + k) := by congr 1; omega
    rw [Nat.pow_add, Nat.pow_add] at this
    exact this
  rw [Nat.pow_add, ← Nat.div_div_eq_div_mul, e1]
  have e3 : ws j + c * 18446744073709551616 = ws j + (c * (2 * 2 ^ (63 - k))) * 2 ^ k := by
    rw [Nat.mul_assoc c, ← e2]
  rw [e3, Nat.add_mul_div_right _ _ (Nat.two_pow_pos k)]
  have e4 : c * (2 * 2 ^ (63 - k)) = 2 * (c * 2 ^ (63 - k)) := Nat.mul_left_comm c 2 _
  rw [e4]
  omega

/-- are all digits below place i noughts? -/
theorem low_zero (A i : Nat) : A % 2 ^ i = 0 ↔ ∀ k, k < i → A / 2 ^ k % 2 = 0 := by
  induction i with
  | zero => simp [Nat.mod_one]
  | succ i ih =>
    rw [Nat.mod_pow_succ]
    constructor
    · intro h k hk
      have h1 : A % 2 ^ i = 0 := by omega
      have h2 : 2 ^ i * (A / 2 ^ i % 2) = 0 := by omega
      by_cases e : k = i
      · subst e
        have := Nat.two_pow_pos k
        rcases Nat.mul_eq_zero.1 h2 with h | h <;> omega
      · exact (ih.1 h1) k (by omega)
    · intro h
      rw [ih.2 (fun k hk => h k (by omega)), h i (by omega), Nat.mul_zero]

theorem top_word (ws : Nat → Nat) (hw : ∀ i, ws i < 18446744073709551616) (n : Nat) : ws n / 2 ^ 63 = 1 ↔ 2 ^ (64 * n + 63) ≤ sumW ws (n + 1) := by
  have hs := sumW_lt ws hw n
  have h := hw n
  simp only [sumW]
  rw [Nat.pow_add, Nat.mul_comm (2 ^ (64 * n))]
  have hp := Nat.two_pow_pos (64 * n)
  constructor
  · intro h1
    have : 2 ^ 63 * 2 ^ (64 * n) ≤ ws n * 2 ^ (64 * n) := Nat.mul_le_mul_right _ (by omega)
    omega
  · intro h1
    refine Nat.le_antisymm (by omega) ?_
    refine Nat.le_of_not_lt fun hlt => ?_
    have : (ws n + 1) * 2 ^ (64 * n) ≤ 2 ^ 63 * 2 ^ (64 * n) := Nat.mul_le_mul_right _ (by omega)
    rw [Nat.add_mul] at this
    omega
theorem top_word_0 (ws : Nat → Nat) (hw : ∀ i, ws i < 18446744073709551616) (n : Nat) : ws n / 2 ^ 63 = 0 ∨ ws n / 2 ^ 63 = 1 := by
  have := hw n; omega
theorem sumW_pos (ws : Nat → Nat) (n : Nat) : (∃ i, i < n ∧ ws i ≠ 0) ↔ sumW ws n ≠ 0 := by
  constructor
  · rintro ⟨i, hi, h⟩ h0
    exact h (sumW_zero ws n h0 i hi)
  · intro h
    refine Classical.byContradiction fun hn => h ?_
    exact sumW_of_zero ws n (fun i hi => Classical.byContradiction fun h2 => hn ⟨i, hi, h2⟩)
end Ieee.Own

namespace Go.Proofs.YtpnncmdeidbemaaGreatDoor
open Go.ChangeShapes Go.WideShapes Go.ChangeAt Go.RowKit Ieee.Own

theorem ret_i {k : IntKind} {a b : Int} (h : a = b) : Ending.returned (.int k a) = .returned (.int k b) := by rw [h]

theorem ret_b {a b : Bool} (h : a = b) : Ending.returned (.bool a) = .returned (.bool b) := by rw [h]

/-! ### the sign: of a number z that the words tell, of magnitude below 2^1535 -/
def signI (z : Int) : Int := if z < 0 then -1 else if z = 0 then 0 else 1
end Go.Proofs.YtpnncmdeidbemaaGreatDoor

namespace Ieee.Own

theorem Rep_pow (k : Nat) : Rep (((2 ^ k : Nat) : Int)) := ⟨1, k, by omega, by simp [Int.natAbs_pow]⟩
theorem RN_bound {z : Int} {k : Nat} (h : z.natAbs ≤ 2 ^ k) : (RN z).natAbs ≤ 2 ^ k := by
  have e := RN_exact (Rep_pow k)
  have e' : RN (-((2 ^ k : Nat) : Int)) = -((2 ^ k : Nat) : Int) := by rw [RN_neg, e]
  generalize (2 ^ k : Nat) = M at *
  have h1 := RN_mono (show z ≤ (M : Int) by omega)
  have h2 := RN_mono (show -(M : Int) ≤ z by omega)
  omega
theorem two_le {a b : Nat} (h : a ≤ b) : 2 ^ a ≤ 2 ^ b := Nat.pow_le_pow_right (by omega) h
theorem lt_top {z : Int} {k : Nat} (h : z.natAbs ≤ 2 ^ k) (hk : k < 2098) : (RN z).natAbs < 2 ^ 2098 :=
  Nat.lt_of_le_of_lt (RN_bound h) (two_lt (a := k) (b := 2098) hk)

theorem two_succ (k : Nat) : 2 ^ (k + 1) = 2 * 2 ^ k := by rw [Nat.pow_succ]; omega
theorem add_abs {x y : Int} {k : Nat} (hx : x.natAbs ≤ 2 ^ k) (hy : y.natAbs ≤ 2 ^ k) : (x + y).natAbs ≤ 2 ^ (k + 1) := by rw [two_succ]; omega
theorem sub_abs {x y : Int} {k : Nat} (hx : x.natAbs ≤ 2 ^ k) (hy : y.natAbs ≤ 2 ^ k) : (x - y).natAbs ≤ 2 ^ (k + 1) := by rw [two_succ]; omega
theorem abs_up {x : Int} {k l : Nat} (hx : x.natAbs ≤ 2 ^ k) (h : k ≤ l) : x.natAbs ≤ 2 ^ l := Nat.le_trans hx (two_le h)

/-- a sum of words, with its size -/
theorem addW {a b k : Nat} (ha : FinW a) (hb : FinW b) (xa : (V a).natAbs ≤ 2 ^ k) (xb : (V b).natAbs ≤ 2 ^ k) (hk : k < 2000) :
    ∃ r, double.add a b = some r ∧ FinW r ∧ V r = RN (V a + V b) ∧ (V r).natAbs ≤ 2 ^ (k + 1) := by
  have h := add_abs xa xb
  obtain ⟨r, h1, h2, h3⟩ := add_spec ha hb (lt_top h (by omega))
  exact ⟨r, h1, h2, h3, by rw [h3]; exact RN_bound h⟩
theorem subW {a b k : Nat} (ha : FinW a) (hb : FinW b) (xa : (V a).natAbs ≤ 2 ^ k) (xb : (V b).natAbs ≤ 2 ^ k) (hk : k < 2000) :
    ∃ r, double.sub a b = some r ∧ FinW r ∧ V r = RN (V a - V b) ∧ (V r).natAbs ≤ 2 ^ (k + 1) := by
  have h := sub_abs xa xb
  obtain ⟨r, h1, h2, h3⟩ := sub_spec ha hb (lt_top h (by omega))
  exact ⟨r, h1, h2, h3, by rw [h3]; exact RN_bound h⟩

/-- THE SUM AND ITS REST, word by word -/
theorem two_sum_words {a b k : Nat} (ha : FinW a) (hb : FinW b) (xa : (V a).natAbs ≤ 2 ^ k) (xb : (V b).natAbs ≤ 2 ^ k) (hk : k < 1900) :
    ∃ s c t1 t2 t3 e, double.add a b = some s ∧ double.sub s a = some c ∧ double.sub s c = some t1 ∧ double.sub a t1 = some t2 ∧ double.sub b c = some t3 ∧ double.add t2 t3 = some e ∧
      FinW s ∧ FinW e ∧ V s = RN (V a + V b) ∧ V e = V a + V b - V s := by
  obtain ⟨s, s1, s2, s3, s4⟩ := addW ha hb xa xb (by omega)
  obtain ⟨c, c1, c2, c3, c4⟩ := subW s2 ha s4 (abs_up xa (show k ≤ k + 1 by omega)) (by omega)
  obtain ⟨t1, t11, t12, t13, t14⟩ := subW s2 c2 (abs_up s4 (show k + 1 ≤ k + 1 + 1 by omega)) c4 (by omega)
  obtain ⟨t2, t21, t22, t23, t24⟩ := subW ha t12 (abs_up xa (show k ≤ k + 1 + 1 + 1 by omega)) t14 (by omega)
  obtain ⟨t3, t31, t32, t33, t34⟩ := subW hb c2 (abs_up xb (show k ≤ k + 1 + 1 by omega)) c4 (by omega)
  obtain ⟨e, e1, e2, e3, e4⟩ := addW t22 t32 t24 (abs_up t34 (show k + 1 + 1 + 1 ≤ k + 1 + 1 + 1 + 1 by omega)) (by omega)
  refine ⟨s, c, t1, t2, t3, e, s1, c1, t11, t21, t31, e1, s2, e2, s3, ?_⟩
  rw [e3, t23, t13, t33]
  exact two_sum (Rep_V a) (Rep_V b) s3 c3

theorem scale_abs (A : Int) (p : Nat) : (A * 2 ^ p).natAbs = A.natAbs * 2 ^ p := by rw [Int.natAbs_mul, Int.natAbs_pow]; rfl
theorem scale_le {A : Int} {p k : Nat} (h : A.natAbs ≤ 2 ^ k) : (A * 2 ^ p).natAbs ≤ 2 ^ (k + p) := by
  rw [scale_abs, Nat.pow_add]; exact Nat.mul_le_mul_right _ h

/-- a number told by 53 digits (or none) and a place -/
structure Nr (b : Nat) (A : Int) (p : Nat) : Prop where
  fin : FinW b
  val : V b = A * 2 ^ p
  lo : A = 0 ∨ 2 ^ 52 ≤ A.natAbs
  hi : A.natAbs < 2 ^ 53

theorem Nr.of {b : Nat} {s : Bool} {m p : Nat} (h : Norm b s m p) : Nr b (sv s m 0) p := by
  refine ⟨h.fin, ?_, Or.inr ?_, ?_⟩
  · rw [h.val]; unfold sv; cases s <;> simp [Int.neg_mul]
  · rw [sv_abs]; have := h.lo; omega
  · rw [sv_abs]; have := h.hi; omega
theorem Nr.zero {b : Nat} (h : FinW b) (h0 : V b = 0) (p : Nat) : Nr b 0 p := ⟨h, by rw [h0]; simp, Or.inl rfl, by decide⟩

/-- a product of words whose exact one is a whole number of units -/
theorem mulW {a b k : Nat} {N : Int} (ha : FinW a) (hb : FinW b) (hN : V a * V b = N * 2 ^ 1074) (h : N.natAbs ≤ 2 ^ k) (hk : k < 2098) :
    ∃ r, double.mul a b = some r ∧ FinW r ∧ V r = RN N := mul_spec ha hb hN (lt_top h hk)

theorem big_fin : FinW 4728779608772575232 := by unfold FinW; omega
theorem big_val : V 4728779608772575232 = 134217729 * 2 ^ 1074 := by decide +kernel

theorem RN_zero : RN 0 = 0 := RN_exact Rep_zero
theorem split_any {A g h : Int} (h1 : A = 0 ∨ 2 ^ 52 ≤ A.natAbs) (h2 : A.natAbs < 2 ^ 53) (hg : g = RN (134217729 * A)) (hh : h = RN (g - RN (g - A))) :
    (2 : Int) ^ 27 ∣ h ∧ (A - h).natAbs ≤ 2 ^ 26 ∧ RN (A - h) = A - h := by
  rcases h1 with rfl | h1
  · simp [RN_zero] at hg
    subst hg
    simp [RN_zero] at hh
    subst hh
    simp [RN_zero]
  · exact split_norm h1 h2 hg hh

theorem dekker_any {A B Ha Hb P : Int} (a1 : A = 0 ∨ 2 ^ 52 ≤ A.natAbs) (a2 : A.natAbs < 2 ^ 53) (b1 : B = 0 ∨ 2 ^ 52 ≤ B.natAbs) (b2 : B.natAbs < 2 ^ 53)
    (da : (2 : Int) ^ 27 ∣ Ha) (la : (A - Ha).natAbs ≤ 2 ^ 26) (db : (2 : Int) ^ 27 ∣ Hb) (lb : (B - Hb).natAbs ≤ 2 ^ 26) (hP : P = RN (A * B)) :
    RN (Ha * Hb) = Ha * Hb ∧ RN (Ha * (B - Hb)) = Ha * (B - Hb) ∧ RN ((A - Ha) * Hb) = (A - Ha) * Hb ∧ RN ((A - Ha) * (B - Hb)) = (A - Ha) * (B - Hb) ∧
    RN (Ha * Hb - P) = Ha * Hb - P ∧ RN (Ha * Hb - P + Ha * (B - Hb)) = Ha * Hb - P + Ha * (B - Hb) ∧
    RN (Ha * Hb - P + Ha * (B - Hb) + (A - Ha) * Hb) = Ha * Hb - P + Ha * (B - Hb) + (A - Ha) * Hb ∧
    RN (Ha * Hb - P + Ha * (B - Hb) + (A - Ha) * Hb + (A - Ha) * (B - Hb)) = A * B - P := by
  rcases a1 with rfl | a1
  · have : Ha = 0 := by omega
    subst this
    simp [RN_zero] at hP
    subst hP
    simp [RN_zero]
  rcases b1 with rfl | b1
  · have : Hb = 0 := by omega
    subst this
    simp [RN_zero] at hP
    subst hP
    simp [RN_zero]
  exact dekker a1 a2 b1 b2 da la db lb hP

/-- THE HALVES, word by word -/
theorem split_words {a p : Nat} {A : Int} (ha : Nr a A p) (hp : p < 1900) :
    ∃ c d h l H, double.mul 4728779608772575232 a = some c ∧ double.sub c a = some d ∧ double.sub c d = some h ∧ double.sub a h = some l ∧ FinW h ∧ FinW l ∧
      V h = H * 2 ^ p ∧ V l = (A - H) * 2 ^ p ∧ (2 : Int) ^ 27 ∣ H ∧ (A - H).natAbs ≤ 2 ^ 26 := by
  obtain ⟨g, hg⟩ : ∃ g, g = RN (134217729 * A) := ⟨_, rfl⟩
  obtain ⟨H, hH⟩ : ∃ H, H = RN (g - RN (g - A)) := ⟨_, rfl⟩
  obtain ⟨s1, s2, s3⟩ := split_any ha.lo ha.hi hg hH
  have hA := ha.hi
  have bA : (134217729 * A).natAbs ≤ 2 ^ 81 := by omega
  have bg : g.natAbs ≤ 2 ^ 81 := by rw [hg]; exact RN_bound bA
  have bd : (RN (g - A)).natAbs ≤ 2 ^ 82 := RN_bound (by omega)
  obtain ⟨c, c1, c2, c3⟩ := mulW (N := 134217729 * A * 2 ^ p) big_fin ha.fin (by rw [big_val, ha.val]; generalize (2 : Int) ^ 1074 = M; generalize (2 : Int) ^ p = K; ac_rfl) (scale_le bA) (by omega)
  rw [RN_scale, ← hg] at c3
  have bc : (V c).natAbs ≤ 2 ^ (82 + p) := by rw [c3]; exact scale_le (abs_up bg (by omega))
  have ba : (V a).natAbs ≤ 2 ^ (82 + p) := by rw [ha.val]; exact scale_le (abs_up (Nat.le_of_lt hA) (by omega))
  obtain ⟨d, d1, d2, d3, -⟩ := subW c2 ha.fin bc ba (by omega)
  rw [c3, ha.val, ← Int.sub_mul, RN_scale] at d3
  have bd' : (V d).natAbs ≤ 2 ^ (82 + p) := by rw [d3]; exact scale_le bd
  obtain ⟨h, h1, h2, h3, -⟩ := subW c2 d2 bc bd' (by omega)
  rw [c3, d3, ← Int.sub_mul, RN_scale, ← hH] at h3
  have bh : (V h).natAbs ≤ 2 ^ (82 + p) := by rw [h3]; exact scale_le (abs_up (k := 54) (by omega) (by omega))
  obtain ⟨l, l1, l2, l3, -⟩ := subW ha.fin h2 ba bh (by omega)
  rw [h3, ha.val, ← Int.sub_mul, RN_scale, s3] at l3
  exact ⟨c, d, h, l, H, c1, d1, h1, l1, h2, l2, h3, l3, s1, s2⟩

/-- a product of scaled words -/
theorem mul_scaled {a b p q k : Nat} {X Y : Int} (ha : FinW a) (hb : FinW b) (va : V a = X * 2 ^ p) (vb : V b = Y * 2 ^ q) (hk : p + q = k + 1074) (hx : (X * Y).natAbs ≤ 2 ^ 107) (hb2 : k < 1900) :
    ∃ r, double.mul a b = some r ∧ FinW r ∧ V r = RN (X * Y) * 2 ^ k := by
  have hN : V a * V b = (X * Y * 2 ^ k) * 2 ^ 1074 := by
    have e : (2 : Int) ^ p * 2 ^ q = 2 ^ k * 2 ^ 1074 := by rw [← Int.pow_add, hk, Int.pow_add]
    rw [va, vb, Int.mul_assoc (X * Y), ← e]
    generalize (2 : Int) ^ p = u
    generalize (2 : Int) ^ q = v
    ac_rfl
  obtain ⟨r, r1, r2, r3⟩ := mulW ha hb hN (scale_le hx) (by omega)
  exact ⟨r, r1, r2, by rw [r3, RN_scale]⟩

theorem chain_words {r m1 m2 m3 m4 k : Nat} {P u1 u2 u3 u4 E : Int} (fr : FinW r) (f1 : FinW m1) (f2 : FinW m2) (f3 : FinW m3) (f4 : FinW m4) (hk2 : k < 1700)
    (vr : V r = P * 2 ^ k) (v1 : V m1 = u1 * 2 ^ k) (v2 : V m2 = u2 * 2 ^ k) (v3 : V m3 = u3 * 2 ^ k) (v4 : V m4 = u4 * 2 ^ k)
    (bP : P.natAbs ≤ 2 ^ 107) (w1 : u1.natAbs ≤ 2 ^ 107) (w2 : u2.natAbs ≤ 2 ^ 107) (w3 : u3.natAbs ≤ 2 ^ 107) (w4 : u4.natAbs ≤ 2 ^ 107)
    (g5 : RN (u1 - P) = u1 - P) (g6 : RN (u1 - P + u2) = u1 - P + u2) (g7 : RN (u1 - P + u2 + u3) = u1 - P + u2 + u3) (g8 : RN (u1 - P + u2 + u3 + u4) = E) :
    ∃ e1 e2 e3 e4, double.sub m1 r = some e1 ∧ double.add e1 m2 = some e2 ∧ double.add e2 m3 = some e3 ∧ double.add e3 m4 = some e4 ∧ FinW e4 ∧ V e4 = E * 2 ^ k := by
  have z1 : (u1 - P).natAbs ≤ 2 ^ 108 := by clear g5 g6 g7 g8; omega
  have z2 : (u1 - P + u2).natAbs ≤ 2 ^ 109 := by clear g5 g6 g7 g8; omega
  have z3 : (u1 - P + u2 + u3).natAbs ≤ 2 ^ 110 := by clear g5 g6 g7 g8; omega
  have l : 110 + k < 2000 := by clear z1 z2 z3 bP w1 w2 w3 w4; omega
  have up : ∀ {x : Int} {j : Nat}, x.natAbs ≤ 2 ^ j → j ≤ 110 → (x * 2 ^ k).natAbs ≤ 2 ^ (110 + k) := fun hx hj => scale_le (abs_up hx hj)
  have b1 := up w1 (by decide)
  have b2 := up w2 (by decide)
  have b3 := up w3 (by decide)
  have b4 := up w4 (by decide)
  have bp := up bP (by decide)
  have y1 := up z1 (by decide)
  have y2 := up z2 (by decide)
  have y3 := up z3 (by decide)
  clear z1 z2 z3 w1 w2 w3 w4 bP up hk2
  rw [← v1] at b1
  rw [← v2] at b2
  rw [← v3] at b3
  rw [← v4] at b4
  rw [← vr] at bp
  obtain ⟨e1, e11, e12, e13, -⟩ := subW f1 fr b1 bp l
  rw [v1, vr, ← Int.sub_mul, RN_scale, g5] at e13
  rw [← e13] at y1
  obtain ⟨e2, e21, e22, e23, -⟩ := addW e12 f2 y1 b2 l
  rw [e13, v2, ← Int.add_mul, RN_scale, g6] at e23
  rw [← e23] at y2
  obtain ⟨e3, e31, e32, e33, -⟩ := addW e22 f3 y2 b3 l
  rw [e23, v3, ← Int.add_mul, RN_scale, g7] at e33
  rw [← e33] at y3
  obtain ⟨e4, e41, e42, e43, -⟩ := addW e32 f4 y3 b4 l
  rw [e33, v4, ← Int.add_mul, RN_scale, g8] at e43
  exact ⟨e1, e2, e3, e4, e11, e21, e31, e41, e42, e43⟩

theorem prod_err {A B : Int} (hA : A.natAbs < 2 ^ 53) (hB : B.natAbs < 2 ^ 53) : (A * B - RN (A * B)).natAbs ≤ 2 ^ 53 := by
  have h2 : (A * B).natAbs < 2 ^ (53 + 54) := by
    rw [Int.natAbs_mul]
    exact Nat.lt_of_le_of_lt (Nat.mul_le_mul (show A.natAbs ≤ 2 ^ 53 - 1 by omega) (show B.natAbs ≤ 2 ^ 53 - 1 by omega)) (by decide)
  have := RN_err h2
  generalize RN (A * B) = P at *
  generalize A * B = AB at *
  omega

/-- THE PRODUCT AND ITS REST, word by word -/
theorem times_words {a b p q k : Nat} {A B : Int} (ha : Nr a A p) (hb : Nr b B q) (hp : p < 1900) (hq : q < 1900) (hk : p + q = k + 1074) (hk2 : k < 1700) :
    ∃ r c d ah al c' d' bh bl m1 e1 m2 e2 m3 e3 m4 e4, double.mul a b = some r ∧
      (double.mul 4728779608772575232 a = some c ∧ double.sub c a = some d ∧ double.sub c d = some ah ∧ double.sub a ah = some al) ∧
      (double.mul 4728779608772575232 b = some c' ∧ double.sub c' b = some d' ∧ double.sub c' d' = some bh ∧ double.sub b bh = some bl) ∧
      double.mul ah bh = some m1 ∧ double.sub m1 r = some e1 ∧ double.mul ah bl = some m2 ∧ double.add e1 m2 = some e2 ∧ double.mul al bh = some m3 ∧ double.add e2 m3 = some e3 ∧ double.mul al bl = some m4 ∧ double.add e3 m4 = some e4 ∧
      FinW r ∧ FinW e4 ∧ V r = RN (A * B) * 2 ^ k ∧ V e4 = (A * B - RN (A * B)) * 2 ^ k ∧ (A * B - RN (A * B)).natAbs ≤ 2 ^ 53 := by
  obtain ⟨c, d, ah, al, Ha, c1, d1, h1, l1, fh, fl, vh, vl, dh, lh⟩ := split_words ha hp
  obtain ⟨c', d', bh, bl, Hb, c1', d1', h1', l1', fh', fl', vh', vl', dh', lh'⟩ := split_words hb hq
  have hA := ha.hi
  have hB := hb.hi
  obtain ⟨g1, g2, g3, g4, g5, g6, g7, g8⟩ := dekker_any ha.lo hA hb.lo hB dh lh dh' lh' rfl
  have bHa : Ha.natAbs ≤ 2 ^ 53 := by omega
  have bHb : Hb.natAbs ≤ 2 ^ 53 := by omega
  have bAB : (A * B).natAbs ≤ 2 ^ 107 := Nat.le_trans (abs_mul_le (Nat.le_of_lt hA) (Nat.le_of_lt hB)) (by decide)
  have w1 : (Ha * Hb).natAbs ≤ 2 ^ 107 := Nat.le_trans (abs_mul_le bHa bHb) (by decide)
  have w2 : (Ha * (B - Hb)).natAbs ≤ 2 ^ 107 := Nat.le_trans (abs_mul_le bHa lh') (by decide)
  have w3 : ((A - Ha) * Hb).natAbs ≤ 2 ^ 107 := Nat.le_trans (abs_mul_le lh bHb) (by decide)
  have w4 : ((A - Ha) * (B - Hb)).natAbs ≤ 2 ^ 107 := Nat.le_trans (abs_mul_le lh lh') (by decide)
  obtain ⟨r, r1, r2, r3⟩ := mul_scaled ha.fin hb.fin ha.val hb.val hk bAB (by omega)
  obtain ⟨m1, m11, m12, m13⟩ := mul_scaled fh fh' vh vh' hk w1 (by omega)
  obtain ⟨m2, m21, m22, m23⟩ := mul_scaled fh fl' vh vl' hk w2 (by omega)
  obtain ⟨m3, m31, m32, m33⟩ := mul_scaled fl fh' vl vh' hk w3 (by omega)
  obtain ⟨m4, m41, m42, m43⟩ := mul_scaled fl fl' vl vl' hk w4 (by omega)
  rw [g1] at m13
  rw [g2] at m23
  rw [g3] at m33
  rw [g4] at m43
  have bP := RN_bound bAB
  have bE := prod_err hA hB
  obtain ⟨e1, e2, e3, e4, e11, e21, e31, e41, e42, e43⟩ := chain_words r2 m12 m22 m32 m42 hk2 r3 m13 m23 m33 m43 bP w1 w2 w3 w4 g5 g6 g7 g8
  exact ⟨r, c, d, ah, al, c', d', bh, bl, m1, e1, m2, e2, m3, e3, m4, e4, r1, ⟨c1, d1, h1, l1⟩, ⟨c1', d1', h1', l1'⟩, m11, e11, m21, e21, m31, e31, m41, e41, r2, e42, r3, e43, bE⟩

/-- what is left of a less a product told by two words -/
theorem rem_words {a r e k : Nat} {T P M : Int} (fa : FinW a) (fr : FinW r) (fe : FinW e) (va : V a = T * 2 ^ k) (vr : V r = P * 2 ^ k) (ve : V e = (M - P) * 2 ^ k)
    (h1 : Rep (T - P)) (h2 : Rep (T - M)) (bT : T.natAbs ≤ 2 ^ 108) (bP : P.natAbs ≤ 2 ^ 108) (bM : M.natAbs ≤ 2 ^ 108) (hk : k < 1700) :
    ∃ x1 x2, double.sub a r = some x1 ∧ double.sub x1 e = some x2 ∧ FinW x2 ∧ V x2 = (T - M) * 2 ^ k := by
  have l : 110 + k < 2000 := by omega
  have up : ∀ {x : Int} {j : Nat}, x.natAbs ≤ 2 ^ j → j ≤ 110 → (x * 2 ^ k).natAbs ≤ 2 ^ (110 + k) := fun hx hj => scale_le (abs_up hx hj)
  have b1 := up bT (by decide)
  have b2 := up bP (by decide)
  have b3 := up (show (M - P).natAbs ≤ 2 ^ 109 by omega) (by decide)
  have b4 := up (show (T - P).natAbs ≤ 2 ^ 109 by omega) (by decide)
  rw [← va] at b1
  rw [← vr] at b2
  rw [← ve] at b3
  obtain ⟨x1, x11, x12, x13, -⟩ := subW fa fr b1 b2 l
  rw [va, vr, ← Int.sub_mul, RN_scale, RN_exact h1] at x13
  rw [← x13] at b4
  obtain ⟨x2, x21, x22, x23, -⟩ := subW x12 fe b4 b3 l
  rw [x13, ve, ← Int.sub_mul, RN_scale, show T - P - (M - P) = T - M by omega, RN_exact h2] at x23
  exact ⟨x1, x2, x11, x21, x22, x23⟩

/-- a sign, a whole number from 2^52 to 2^53 and a place: 53 digits -/
theorem norm53 (s : Bool) (Q E : Nat) (h1 : 2 ^ 52 ≤ Q) (h2 : Q ≤ 2 ^ 53) : ∃ (A : Int) (j : Nat), j ≤ 1 ∧ sv s Q 0 = A * 2 ^ j ∧ 2 ^ 52 ≤ A.natAbs ∧ A.natAbs < 2 ^ 53 ∧ sv s Q E = A * 2 ^ (E + j) := by
  have hE : ∀ (x j : Nat), sv s (x * 2 ^ j) E = sv s x 0 * 2 ^ (E + j) := by
    intro x j
    have : ((x * 2 ^ j * 2 ^ E : Nat) : Int) = (x : Int) * 2 ^ (E + j) := by
      rw [Nat.mul_assoc, ← Nat.pow_add, Nat.add_comm j E, Int.natCast_mul, Int.natCast_pow]; rfl
    unfold sv
    rw [this]
    cases s <;> simp [Int.neg_mul]
  have ha := sv_abs s (2 ^ 52) 0
  have hq := sv_abs s Q 0
  by_cases h : Q = 2 ^ 53
  · refine ⟨sv s (2 ^ 52) 0, 1, by omega, ?_, by omega, by omega, ?_⟩
    · rw [h]; cases s <;> decide
    · rw [← hE, h]
  · refine ⟨sv s Q 0, 0, by omega, by simp, by omega, by omega, ?_⟩
    have := hE Q 0
    simpa using this

/-- THE QUOTIENT AND ITS REMAINDER, word by word -/
theorem quot_words {a b : Nat} {s t : Bool} {m p n q : Nat} (ha : Norm a s m p) (hb : Norm b t n q) (p1 : 800 ≤ p) (p2 : p ≤ 1250) (q1 : 800 ≤ q) (q2 : q ≤ 1250) :
    ∃ (w : Nat) (A : Int) (E : Nat), double.div a b = some w ∧ Nr w A E ∧ 560 ≤ E ∧ E ≤ 1500 ∧ E + q ≤ p + 1023 ∧ p + 1020 ≤ E + q ∧
      ∀ r e, FinW r → FinW e → V r = RN (A * sv t n 0) * 2 ^ (E + q - 1074) → V e = (A * sv t n 0 - RN (A * sv t n 0)) * 2 ^ (E + q - 1074) →
        ∃ x1 x2, double.sub a r = some x1 ∧ double.sub x1 e = some x2 ∧ FinW x2 ∧ V x2 = V a - A * sv t n 0 * 2 ^ (E + q - 1074) ∧ (2 : Int) ^ 500 ∣ V x2 ∧ (V x2).natAbs ≤ 2 ^ 1400 := by
  obtain ⟨w, Q, u, d1, d2, d3, u1, u2, Q1, Q2, i1, i2⟩ := div_spec ha hb (by omega) (by omega)
  obtain ⟨A, j, j1, hA0, hA1, hA2, hA3⟩ := norm53 (s ^^ t) Q (1074 + p - q - u) Q1 Q2
  rw [hA3] at d3
  refine ⟨w, A, 1074 + p - q - u + j, d1, ⟨d2, d3, Or.inr hA1, hA2⟩, by omega, by omega, by omega, by omega, ?_⟩
  intro r e fr fe vr ve
  have hk : 1074 + p - q - u + j + q - 1074 = j + (p - u) := by omega
  rw [hk] at vr ve ⊢
  -- the product in units of 2^(p - u)
  obtain ⟨M, hM⟩ : ∃ M, M = sv s (Q * n) 0 := ⟨_, rfl⟩
  have hAB : A * sv t n 0 * 2 ^ j = M := by
    rw [hM, Int.mul_assoc, Int.mul_comm (sv t n 0), ← Int.mul_assoc, ← hA0, sv_mul]
    rw [show ((s ^^ t) ^^ t) = s by cases s <;> cases t <;> rfl]
  have hRN : RN (A * sv t n 0) * 2 ^ j = RN M := by rw [← hAB, RN_scale]
  have vr' : V r = RN M * 2 ^ (p - u) := by rw [vr, Int.pow_add, ← Int.mul_assoc, hRN]
  have ve' : V e = (M - RN M) * 2 ^ (p - u) := by rw [ve, Int.pow_add, ← Int.mul_assoc, Int.sub_mul _ _ ((2 : Int) ^ j), hAB, hRN]
  have va' : V a = sv s (m * 2 ^ u) 0 * 2 ^ (p - u) := by
    rw [ha.val, sv_scale]
    have : sv s m p = sv s m (0 + u) * 2 ^ (p - u) := by
      unfold sv
      have : ((m * 2 ^ p : Nat) : Int) = ((m * 2 ^ (0 + u) : Nat) : Int) * 2 ^ (p - u) := by
        rw [show p = (0 + u) + (p - u) by omega, Nat.pow_add, ← Nat.mul_assoc, Int.natCast_mul _ (2 ^ _), Int.natCast_pow]
        rw [show 0 + u + (p - u) - u = p - u by omega]; rfl
      rw [this]
      cases s <;> simp [Int.neg_mul]
    exact this
  have hTM : (sv s (m * 2 ^ u) 0 - M).natAbs ≤ 2 ^ 52 := by
    have hn := hb.hi
    rw [hM]; unfold sv; rw [Nat.pow_zero]
    generalize m * 2 ^ u = x at *
    generalize Q * n = y at *
    cases s <;> simp <;> omega
  have bM : M.natAbs < 2 ^ 106 := by
    rw [hM, sv_abs, Nat.pow_zero, Nat.mul_one]
    exact Nat.lt_of_le_of_lt (Nat.mul_le_mul Q2 (show n ≤ 2 ^ 53 - 1 by have := hb.hi; omega)) (by decide)
  have eM := RN_err (z := M) (d := 53) bM
  generalize hP : RN M = P at *
  generalize sv s (m * 2 ^ u) 0 = T at *
  obtain ⟨x1, x2, y1, y2, y3, y4⟩ := rem_words ha.fin fr fe va' vr' ve' (Rep_small (by clear vr ve vr' ve' va' d3; omega)) (Rep_small (by clear vr ve vr' ve' va' d3; omega)) (by clear vr ve vr' ve' va' d3; omega) (by clear vr ve vr' ve' va' d3; omega) (by clear vr ve vr' ve' va' d3; omega) (by omega)
  refine ⟨x1, x2, y1, y2, y3, ?_, ?_, ?_⟩
  · rw [y4, va', Int.pow_add 2 j, ← Int.mul_assoc, hAB, Int.sub_mul]
  · rw [y4]; exact Int.dvd_trans (pow_dvd (show 500 ≤ p - u by omega)) (Int.dvd_mul_left _ _)
  · rw [y4]
    have hle : 52 + (p - u) ≤ 1400 := by omega
    exact abs_up (k := 52 + (p - u)) (l := 1400) (scale_le hTM) hle

/-- a nought by a number -/
theorem div_zero {a b : Nat} (ha : FinW a) (h0 : V a = 0) (hb : FinW b) (hn : V b ≠ 0) : ∃ r, double.div a b = some r ∧ FinW r ∧ V r = 0 := by
  obtain ⟨s, m, p, hr, hV, -⟩ := read_sv ha
  obtain ⟨t, n, q, hr', hV', -⟩ := read_sv hb
  have hm : m = 0 := by
    have := sv_abs s m p
    rw [← hV, h0] at this
    have hp := Nat.two_pow_pos p
    rcases Nat.mul_eq_zero.1 this.symm with h | h <;> omega
  have hn0 : n ≠ 0 := by
    intro h; subst h; rw [hV'] at hn; apply hn; unfold sv; simp
  subst hm
  unfold Format.div
  rw [hr, hr']
  simp only [Datum.quotient]
  rw [if_neg hn0]
  have hX : 2 * (0 <<< (double.fractionBits + 2 + n.log2 - Nat.log2 0) / n) + (0 <<< (double.fractionBits + 2 + n.log2 - Nat.log2 0) % n != 0).toNat = 0 := by
    rw [Nat.zero_shiftLeft]; simp
  rw [hX]
  refine ⟨double.word (s ^^ t) 0, ?_, (V_word _ 0 (by omega)).1, ?_⟩
  · simp only [Option.map, Format.write, Format.nearest, if_true]
  · rw [(V_word _ 0 (by omega)).2, val_zero]; simp

/-- THE ROOT AND ITS REMAINDER, word by word -/
theorem root_words {a : Nat} {m p : Nat} (ha : Norm a false m p) (p1 : 800 ≤ p) (p2 : p ≤ 1250) :
    ∃ (w : Nat) (A : Int) (E : Nat), double.sqrt a = some w ∧ Nr w A E ∧ 560 ≤ E ∧ E ≤ 1500 ∧ E + E ≤ p + 1024 ∧ p + 1020 ≤ E + E ∧
      ∀ r e, FinW r → FinW e → V r = RN (A * A) * 2 ^ (E + E - 1074) → V e = (A * A - RN (A * A)) * 2 ^ (E + E - 1074) →
        ∃ x1 x2, double.sub a r = some x1 ∧ double.sub x1 e = some x2 ∧ FinW x2 ∧ V x2 = V a - A * A * 2 ^ (E + E - 1074) ∧ (2 : Int) ^ 500 ∣ V x2 ∧ (V x2).natAbs ≤ 2 ^ 1400 := by
  obtain ⟨w, Q, d1, d2, d3, Q1, Q2, i1, i2⟩ := sqrt_spec ha (by omega)
  obtain ⟨A, j, j1, hA0, hA1, hA2, hA3⟩ := norm53 false Q (511 + p / 2) Q1 Q2
  rw [hA3] at d3
  refine ⟨w, A, 511 + p / 2 + j, d1, ⟨d2, d3, Or.inr hA1, hA2⟩, by omega, by omega, by omega, by omega, ?_⟩
  intro r e fr fe vr ve
  have hk : 511 + p / 2 + j + (511 + p / 2 + j) - 1074 = (j + j) + (p - p % 2 - 52) := by omega
  rw [hk] at vr ve ⊢
  obtain ⟨M, hM⟩ : ∃ M, M = ((Q * Q : Nat) : Int) := ⟨_, rfl⟩
  have hQ : (Q : Int) = A * 2 ^ j := by rw [← hA0]; unfold sv; simp
  have hAB : A * A * 2 ^ (j + j) = M := by
    rw [hM, Int.natCast_mul, hQ, Int.pow_add]
    generalize (2 : Int) ^ j = z
    ac_rfl
  have hRN : RN (A * A) * 2 ^ (j + j) = RN M := by rw [← hAB, RN_scale]
  generalize hK : p - p % 2 - 52 = K at *
  have vr' : V r = RN M * 2 ^ K := by rw [vr, Int.pow_add 2 (j + j), ← Int.mul_assoc, hRN]
  have ve' : V e = (M - RN M) * 2 ^ K := by rw [ve, Int.pow_add 2 (j + j), ← Int.mul_assoc, Int.sub_mul _ _ ((2 : Int) ^ (j + j)), hAB, hRN]
  have va' : V a = ((m * 2 ^ (52 + p % 2) : Nat) : Int) * 2 ^ K := by
    rw [ha.val]; unfold sv
    simp only [Bool.false_eq_true, if_false]
    have : p = 52 + p % 2 + K := by omega
    have h2 : m * 2 ^ p = m * 2 ^ (52 + p % 2) * 2 ^ K := by rw [Nat.mul_assoc, ← Nat.pow_add, ← this]
    rw [h2, Int.natCast_mul _ (2 ^ K), Int.natCast_pow]; rfl
  have hTd : (2 : Int) ^ 52 ∣ ((m * 2 ^ (52 + p % 2) : Nat) : Int) := by
    rw [Int.natCast_mul, Int.natCast_pow]
    exact Int.dvd_trans (pow_dvd (show 52 ≤ 52 + p % 2 by omega)) (Int.dvd_mul_left _ _)
  have bQ : 2 ^ 104 ≤ Q * Q ∧ Q * Q ≤ 2 ^ 106 := ⟨Nat.le_trans (by decide) (Nat.mul_le_mul Q1 Q1), Nat.le_trans (Nat.mul_le_mul Q2 Q2) (by decide)⟩
  have hMd : (2 : Int) ^ 52 ∣ RN M := RN_big (by rw [hM]; omega)
  have eM := RN_err (z := M) (d := 54) (by rw [hM]; omega)
  generalize hP : RN M = P at *
  generalize m * 2 ^ (52 + p % 2) = T at *
  have hTM : ((T : Int) - M).natAbs ≤ 2 ^ 53 := by rw [hM]; clear vr ve vr' ve' va' d3 hTd hMd; omega
  have bT : (T : Int).natAbs ≤ 2 ^ 107 := by clear vr ve vr' ve' va' d3 hTd hMd; omega
  have bM : M.natAbs ≤ 2 ^ 107 := by rw [hM]; clear vr ve vr' ve' va' d3 hTd hMd; omega
  have r1 : Rep ((T : Int) - P) := Rep_of_dvd (Int.dvd_sub hTd hMd) (by clear vr ve vr' ve' va' d3 hTd hMd hM; omega)
  obtain ⟨x1, x2, y1, y2, y3, y4⟩ := rem_words ha.fin fr fe va' vr' ve' r1 (Rep_small (by clear vr ve vr' ve' va' d3 hTd hMd; omega)) (abs_up bT (by decide)) (by clear vr ve vr' ve' va' d3 hTd hMd hM; omega) (abs_up bM (by decide)) (by omega)
  refine ⟨x1, x2, y1, y2, y3, ?_, ?_, ?_⟩
  · rw [y4, va', Int.pow_add 2 (j + j), ← Int.mul_assoc, hAB, Int.sub_mul]
  · rw [y4]; exact Int.dvd_trans (pow_dvd (show 500 ≤ K by omega)) (Int.dvd_mul_left _ _)
  · rw [y4]
    have hle : 53 + K ≤ 1400 := by omega
    exact abs_up (k := 53 + K) (l := 1400) (scale_le hTM) hle

/-- the root of a nought -/
theorem sqrt_zero {a : Nat} (ha : FinW a) (h0 : V a = 0) : ∃ r, double.sqrt a = some r ∧ FinW r ∧ V r = 0 := by
  obtain ⟨s, m, p, hr, hV, -⟩ := read_sv ha
  have hm : m = 0 := by
    have := sv_abs s m p
    rw [← hV, h0] at this
    have hp := Nat.two_pow_pos p
    rcases Nat.mul_eq_zero.1 this.symm with h | h <;> omega
  subst hm
  unfold Format.sqrt
  rw [hr]
  simp only [Datum.root, if_true]
  refine ⟨double.word s 0, ?_, (V_word _ 0 (by omega)).1, ?_⟩
  · simp only [Option.map, Format.write, Format.nearest, if_true]
  · rw [(V_word _ 0 (by omega)).2, val_zero]; simp

/-! ### fit words -/
def fitB (b : Nat) : Bool := decide (b % 9223372036854775808 = 0 ∨ 3706462493325918208 ≤ b % 9223372036854775808 ∧ b % 9223372036854775808 ≤ 5507902344274116608)

theorem V_abs' (b : Nat) (hb : FinW b) : (V b).natAbs = val 52 (b % 9223372036854775808) := by
  have h1 := hb.1
  unfold V
  by_cases h : b < 9223372036854775808
  · rw [if_pos h, show b % 9223372036854775808 = b by omega]; rfl
  · rw [if_neg h, show b % 9223372036854775808 = b - 9223372036854775808 by omega]; omega

theorem fit_fin {b : Nat} (h : b < 18446744073709551616) (hf : fitB b = true) : FinW b := by
  unfold fitB at hf; rw [decide_eq_true_eq] at hf
  exact ⟨h, by omega⟩
theorem fit_norm {b : Nat} (h : b < 18446744073709551616) (hf : fitB b = true) : V b = 0 ∨ ∃ s m p, Norm b s m p ∧ 822 ≤ p ∧ p ≤ 1222 := by
  have hfin := fit_fin h hf
  unfold fitB at hf; rw [decide_eq_true_eq] at hf
  by_cases h0 : b % 9223372036854775808 = 0
  · left
    have := V_abs' b hfin
    rw [h0, val_zero] at this
    omega
  · right
    exact ⟨_, _, _, norm_of hfin (by omega), by omega, by omega⟩
theorem norm_dvd {b : Nat} {s : Bool} {m p : Nat} (h : Norm b s m p) {k : Nat} (hk : k ≤ p) : (2 : Int) ^ k ∣ V b := by
  rw [(Nr.of h).val]; exact Int.dvd_trans (pow_dvd hk) (Int.dvd_mul_left _ _)
theorem norm_abs {b : Nat} {s : Bool} {m p : Nat} (h : Norm b s m p) {k : Nat} (hk : 53 + p ≤ k) : (V b).natAbs ≤ 2 ^ k := by
  rw [(Nr.of h).val]; exact abs_up (scale_le (Nat.le_of_lt (Nr.of h).hi)) hk
theorem fit_dvd {b : Nat} (h : b < 18446744073709551616) (hf : fitB b = true) : (2 : Int) ^ 500 ∣ V b := by
  rcases fit_norm h hf with h0 | ⟨s, m, p, hn, h1, h2⟩
  · rw [h0]; exact Int.dvd_zero _
  · exact norm_dvd hn (by omega)
theorem fit_abs {b : Nat} (h : b < 18446744073709551616) (hf : fitB b = true) {k : Nat} (hk : 1275 ≤ k) : (V b).natAbs ≤ 2 ^ k := by
  rcases fit_norm h hf with h0 | ⟨s, m, p, hn, h1, h2⟩
  · rw [h0]; simp
  · exact norm_abs hn (by omega)

theorem pow_abs_dvd {z : Int} {k : Nat} (h : (2 : Int) ^ k ∣ z) (h0 : z ≠ 0) : 2 ^ k ≤ z.natAbs := by
  have h1 : 2 ^ k ∣ z.natAbs := by
    have := Int.natAbs_dvd_natAbs.2 h
    rwa [Int.natAbs_pow] at this
  exact Nat.le_of_dvd (by omega) h1

theorem dvd_ge {z : Int} {j k : Nat} (h : (2 : Int) ^ k ∣ z) (h0 : z ≠ 0) (hj : j ≤ k) : 2 ^ j ≤ z.natAbs := Nat.le_trans (two_le hj) (pow_abs_dvd h h0)
theorem val_ge (m e f : Nat) (h1 : 2 ^ 52 ≤ m) (h : f ≤ e) : 2 ^ (52 + f) ≤ m * 2 ^ e := by
  rw [Nat.pow_add]; exact Nat.mul_le_mul h1 (two_le h)

theorem not_big (m e f k : Nat) (h1 : 2 ^ 52 ≤ m) (h : f ≤ e) (hk : k < 52 + f) (hu : m * 2 ^ e ≤ 2 ^ k) : False :=
  absurd (Nat.le_trans (val_ge m e f h1 h) hu) (Nat.not_le.2 (two_lt hk))

/-- what the long sums and 'plain' ask of a word -/
theorem good {b k : Nat} (hb : FinW b) (hd : (2 : Int) ^ 500 ∣ V b) (hu : (V b).natAbs ≤ 2 ^ k) (hk : k ≤ 1490) :
    (∃ X, V b = X * 2 ^ 50) ∧ (mg 52 (b % 9223372036854775808) = 0 ∨ 50 ≤ ex 52 (b % 9223372036854775808) ∧ ex 52 (b % 9223372036854775808) < 1522) ∧
    (V b = 0 ∨ 2 ^ 174 ≤ (V b).natAbs ∧ (V b).natAbs ≤ 2 ^ 1494) := by
  refine ⟨?_, ?_, ?_⟩
  · obtain ⟨X, hX⟩ := Int.dvd_trans (pow_dvd (show 50 ≤ 500 by omega)) hd
    exact ⟨X, by rw [hX, Int.mul_comm]⟩
  · by_cases h0 : V b = 0
    · left
      have := V_abs' b hb
      rw [h0] at this
      have hz := (val_zero_iff 52 _).1 this.symm
      rw [hz]; unfold mg; simp
    · right
      have h1 := pow_abs_dvd hd h0
      rw [V_abs' b hb] at h1 hu
      generalize b % 9223372036854775808 = r at *
      have hm := mg_lt 52 r
      unfold val at h1 hu
      constructor
      · refine Nat.le_of_not_lt fun hlt => ?_
        have h2 : mg 52 r * 2 ^ ex 52 r < 2 ^ (52 + 1) * 2 ^ 50 :=
          Nat.lt_of_lt_of_le (Nat.mul_lt_mul_of_pos_right hm (Nat.two_pow_pos _)) (Nat.mul_le_mul_left _ (two_le (by omega)))
        rw [← Nat.pow_add] at h2
        have h3 := two_le (a := 52 + 1 + 50) (b := 500) (by decide)
        exact absurd h1 (Nat.not_le.2 (Nat.lt_of_lt_of_le h2 h3))
      · refine Nat.lt_of_not_le fun hle => ?_
        have hge : 2 ^ 52 ≤ mg 52 r := by
          unfold mg
          split
          · rename_i h; unfold ex at hle; rw [if_pos h] at hle; omega
          · omega
        exact not_big (mg 52 r) (ex 52 r) 1522 k hge hle (by clear h1 hu; omega) hu
  · by_cases h0 : V b = 0
    · exact Or.inl h0
    · right
      exact ⟨dvd_ge (j := 174) (k := 500) hd h0 (by decide), abs_up (k := k) (l := 1494) hu (Nat.le_trans hk (by decide))⟩

/-- the negated word -/
def negW (b : Nat) : Nat := if b < 9223372036854775808 then b + 9223372036854775808 else b - 9223372036854775808
theorem negW_fin {b : Nat} (h : FinW b) : FinW (negW b) := by
  obtain ⟨h1, h2⟩ := h; unfold FinW negW; split <;> omega
theorem negW_V {b : Nat} (h : FinW b) : V (negW b) = -V b := by
  have h1 := h.1
  unfold negW V
  by_cases hb : b < 9223372036854775808
  · rw [if_pos hb, if_pos hb, if_neg (by omega), show b + 9223372036854775808 - 9223372036854775808 = b by omega]
  · rw [if_neg hb, if_neg hb, if_pos (by omega)]; omega
theorem sum_facts {x y s e : Int} {d k : Nat} (hs : s = RN (x + y)) (he : e = x + y - s) (dx : (2 : Int) ^ d ∣ x) (dy : (2 : Int) ^ d ∣ y) (bx : x.natAbs ≤ 2 ^ k) (bY : y.natAbs ≤ 2 ^ k) :
    (2 : Int) ^ d ∣ s ∧ (2 : Int) ^ d ∣ e ∧ s.natAbs ≤ 2 ^ (k + 1 + 1) ∧ e.natAbs ≤ 2 ^ (k + 1 + 1) := by
  have dxy := Int.dvd_add dx dy
  have bxy := add_abs bx bY
  have ds : (2 : Int) ^ d ∣ s := by rw [hs]; exact RN_dvd dxy
  have bs : s.natAbs ≤ 2 ^ (k + 1) := by rw [hs]; exact RN_bound bxy
  exact ⟨ds, by rw [he]; exact Int.dvd_sub dxy ds, abs_up bs (by omega), by rw [he]; exact sub_abs bxy bs⟩
/-- the place of a word by its digits -/
theorem nr_ex {w E : Nat} {A : Int} (h : Nr w A E) (hE : 1 ≤ E) : mg 52 (w % 9223372036854775808) = 0 ∨ ex 52 (w % 9223372036854775808) = E := by
  have hv := V_abs' w h.fin
  rw [h.val, scale_abs] at hv
  rcases h.lo with h0 | hlo
  · left
    rw [h0] at hv
    have hz := (val_zero_iff 52 _).1 (by rw [← hv]; simp)
    rw [hz]; unfold mg; simp
  · right
    have hhi := h.hi
    generalize w % 9223372036854775808 = r at *
    unfold val at hv
    have hm := mg_lt 52 r
    have c1 : E ≤ ex 52 r := by
      refine Nat.le_of_not_lt fun hlt => ?_
      have a1 : 2 ^ 52 * 2 ^ E ≤ A.natAbs * 2 ^ E := Nat.mul_le_mul_right _ hlo
      have a2 : mg 52 r * 2 ^ ex 52 r < 2 ^ (52 + 1) * 2 ^ ex 52 r := Nat.mul_lt_mul_of_pos_right hm (Nat.two_pow_pos _)
      rw [← Nat.pow_add] at a1 a2
      have a3 : 2 ^ (52 + 1 + ex 52 r) ≤ 2 ^ (52 + E) := two_le (by omega)
      omega
    have hge : 2 ^ 52 ≤ mg 52 r := by
      unfold mg
      split
      · rename_i h; unfold ex at c1; rw [if_pos h] at c1; omega
      · omega
    refine Nat.le_antisymm (Nat.le_of_not_lt fun hlt => ?_) c1
    have a1 : 2 ^ 52 * 2 ^ ex 52 r ≤ mg 52 r * 2 ^ ex 52 r := Nat.mul_le_mul_right _ hge
    have a2 : A.natAbs * 2 ^ E < 2 ^ 53 * 2 ^ E := Nat.mul_lt_mul_of_pos_right hhi (Nat.two_pow_pos _)
    rw [← Nat.pow_add] at a1 a2
    have a3 : 2 ^ (53 + E) ≤ 2 ^ (52 + ex 52 r) := two_le (by omega)
    omega
end Ieee.Own

namespace Go.Proofs.YtpnncmdeidbemaaGreatDoor
open Go.ChangeShapes Go.WideShapes Go.ChangeAt Go.RowKit Ieee.Own

theorem ret_f {k : FloatKind} {a b : Nat} (h : a = b) : Ending.returned (.float k a) = .returned (.float k b) := by rw [h]
set_option maxRecDepth 100000 in
theorem x40 (n : Int) (w : World) : (callFunc 41 #[.int .u64 n]).run Tryz.prog w = .ok (.value (.float .f64 n.toNat)) w := by
  rw [run_callFunc_extern (e := Extern.MathFloatBits.float64frombits) Tryz.func41 (by kernel_rfl) (by kernel_rfl) (by kernel_rfl) (by kernel_rfl)]; rfl

/-! ### comparisons in plain numbers -/
def nn (a : Nat) : Prop := a % 9223372036854775808 ≤ 9218868437227405312
instance (a : Nat) : Decidable (nn a) := inferInstanceAs (Decidable (_ ≤ _))
theorem o_lss (a b : Nat) (ha : a < 18446744073709551616) (hb : b < 18446744073709551616) :
    (FloatKind.f64.format.order a b == some Ordering.lt) = decide (nn a ∧ nn b ∧ key64 a < key64 b) := by
  show (Ieee.double.order a b == some Ordering.lt) = _
  by_cases h : nn a ∧ nn b
  · rw [order64 a b ha hb h.1 h.2, cmp_lt]; simp [h]
  · rw [order64_nan a b (by unfold nn at h; omega)]; symm; simp; intro h1 h2; exact absurd ⟨h1, h2⟩ h
theorem o_gtr (a b : Nat) (ha : a < 18446744073709551616) (hb : b < 18446744073709551616) :
    (FloatKind.f64.format.order a b == some Ordering.gt) = decide (nn a ∧ nn b ∧ key64 b < key64 a) := by
  show (Ieee.double.order a b == some Ordering.gt) = _
  by_cases h : nn a ∧ nn b
  · rw [order64 a b ha hb h.1 h.2, cmp_gt]; simp [h]
  · rw [order64_nan a b (by unfold nn at h; omega)]; symm; simp; intro h1 h2; exact absurd ⟨h1, h2⟩ h
theorem o_eql (a b : Nat) (ha : a < 18446744073709551616) (hb : b < 18446744073709551616) :
    (FloatKind.f64.format.order a b == some Ordering.eq) = decide (nn a ∧ nn b ∧ key64 a = key64 b) := by
  show (Ieee.double.order a b == some Ordering.eq) = _
  by_cases h : nn a ∧ nn b
  · rw [order64 a b ha hb h.1 h.2, cmp_eq]; simp [h]
  · rw [order64_nan a b (by unfold nn at h; omega)]; symm; simp; intro h1 h2; exact absurd ⟨h1, h2⟩ h
theorem o_neq (a b : Nat) (ha : a < 18446744073709551616) (hb : b < 18446744073709551616) :
    (FloatKind.f64.format.order a b != some Ordering.eq) = !decide (nn a ∧ nn b ∧ key64 a = key64 b) := by
  rw [← o_eql a b ha hb]; rfl
theorem o_leq (a b : Nat) (ha : a < 18446744073709551616) (hb : b < 18446744073709551616) :
    (FloatKind.f64.format.order a b == some Ordering.lt || FloatKind.f64.format.order a b == some Ordering.eq) = decide (nn a ∧ nn b ∧ key64 a ≤ key64 b) := by
  rw [o_lss a b ha hb, o_eql a b ha hb, Bool.eq_iff_iff]
  simp only [Bool.or_eq_true, decide_eq_true_eq]
  constructor
  · rintro (⟨h1, h2, h3⟩ | ⟨h1, h2, h3⟩)
    · exact ⟨h1, h2, by omega⟩
    · exact ⟨h1, h2, by omega⟩
  · rintro ⟨h1, h2, h3⟩
    by_cases h : key64 a < key64 b
    · exact Or.inl ⟨h1, h2, h⟩
    · exact Or.inr ⟨h1, h2, by omega⟩
theorem o_geq (a b : Nat) (ha : a < 18446744073709551616) (hb : b < 18446744073709551616) :
    (FloatKind.f64.format.order a b == some Ordering.gt || FloatKind.f64.format.order a b == some Ordering.eq) = decide (nn a ∧ nn b ∧ key64 b ≤ key64 a) := by
  rw [o_gtr a b ha hb, o_eql a b ha hb, Bool.eq_iff_iff]
  simp only [Bool.or_eq_true, decide_eq_true_eq]
  constructor
  · rintro (⟨h1, h2, h3⟩ | ⟨h1, h2, h3⟩)
    · exact ⟨h1, h2, by omega⟩
    · exact ⟨h1, h2, by omega⟩
  · rintro ⟨h1, h2, h3⟩
    by_cases h : key64 b < key64 a
    · exact Or.inl ⟨h1, h2, h⟩
    · exact Or.inr ⟨h1, h2, by omega⟩
theorem key_low {m : Nat} (h : m < 9223372036854775808) : key64 m = m := by unfold key64; simp [h]

set_option maxRecDepth 100000 in
theorem abs_any (b : Nat) (h : b < 18446744073709551616) (w : World) :
    Calls Tryz.prog 18 #[.float .f64 b] w fun e w' => e = .returned (.float .f64 (b % 9223372036854775808)) ∧ w = w' := by
  have H := Lib.hid (andn63 b h)
  go_enter Tryz.func18, Tryz.ntmps18
  go_wp2_with (simp only [x34, x40])
  go_ret
  exact ⟨ret_f (by rw [H.out]; rfl), rfl⟩

/-! ### fit -/
set_option maxRecDepth 100000 in
theorem fit_any (b : Nat) (hb : b < 18446744073709551616) (w : World) :
    Calls Tryz.prog 29 #[.float .f64 b] w fun e w' => e = .returned (.bool (fitB b)) ∧ w = w' := by
  have hm : b % 9223372036854775808 < 9223372036854775808 := by omega
  have e1 := o_eql (b % 9223372036854775808) 0 (by omega) (by omega)
  have e2 := o_leq 3706462493325918208 (b % 9223372036854775808) (by omega) (by omega)
  have e3 := o_leq (b % 9223372036854775808) 5507902344274116608 (by omega) (by omega)
  rw [key_low hm, key_low (by omega)] at e1 e2 e3
  have HA := fun w => abs_any b hb w
  unfold fitB
  clear hb
  generalize b % 9223372036854775808 = m at *
  by_cases c1 : m = 0
  · rw [decide_eq_true (by unfold nn; omega)] at e1
    rw [decide_eq_true (Or.inl c1)]
    clear hm e2 e3 c1
    go_enter Tryz.func29, Tryz.ntmps29
    go_wp2_with (go_at_call 18; ((with_reducible refine (HA _).mono ?_); rintro e w' ⟨rfl, rfl⟩))
    go_ret
    exact ⟨rfl, rfl⟩
  · rw [decide_eq_false (by omega)] at e1
    by_cases c2 : 3706462493325918208 ≤ m ∧ m ≤ 9218868437227405312
    · rw [decide_eq_true (by unfold nn; omega)] at e2
      by_cases c3 : m ≤ 5507902344274116608
      · rw [decide_eq_true (by unfold nn; omega)] at e3
        rw [decide_eq_true (by omega)]
        clear hm c1 c2 c3
        go_enter Tryz.func29, Tryz.ntmps29
        go_wp2_with (go_at_call 18; ((with_reducible refine (HA _).mono ?_); rintro e w' ⟨rfl, rfl⟩))
        go_ret
        exact ⟨rfl, rfl⟩
      · rw [decide_eq_false (by unfold nn; omega)] at e3
        rw [decide_eq_false (by omega)]
        clear hm c1 c2 c3
        go_enter Tryz.func29, Tryz.ntmps29
        go_wp2_with (go_at_call 18; ((with_reducible refine (HA _).mono ?_); rintro e w' ⟨rfl, rfl⟩))
        go_ret
        exact ⟨rfl, rfl⟩
    · rw [decide_eq_false (by unfold nn; omega)] at e2
      rw [decide_eq_false (by omega)]
      clear hm c1 c2 e3
      go_enter Tryz.func29, Tryz.ntmps29
      go_wp2_with (go_at_call 18; ((with_reducible refine (HA _).mono ?_); rintro e w' ⟨rfl, rfl⟩))
      go_ret
      exact ⟨rfl, rfl⟩

set_option maxRecDepth 100000 in
theorem rfit_any (b : Nat) (hb : b < 18446744073709551616) (w : World) :
    Calls Tryz.prog 33 #[.float .f64 b] w fun e w' => e = .returned (.bool (fitB b)) ∧ w = w' := by
  have H := andn63 b hb
  unfold fitB
  clear hb
  generalize b % 9223372036854775808 = m at *
  by_cases c1 : m = 0
  · rw [decide_eq_true (by omega)]
    subst c1
    go_enter Tryz.func33, Tryz.ntmps33
    go_wp2_with (simp only [x34])
    go_ret
    exact ⟨rfl, rfl⟩
  have t1 : ((m : Int) == 0) = false := ieq_f (by omega)
  by_cases c2 : 3706462493325918208 ≤ m
  · have t2 : decide ((m : Int) ≥ 3706462493325918208) = true := decide_eq_true (by omega)
    by_cases c3 : m ≤ 5507902344274116608
    · have t3 : decide ((m : Int) ≤ 5507902344274116608) = true := decide_eq_true (by omega)
      rw [decide_eq_true (by omega)]
      clear c1 c2 c3
      go_enter Tryz.func33, Tryz.ntmps33
      go_wp2_with (simp only [x34])
      go_ret
      exact ⟨rfl, rfl⟩
    · have t3 : decide ((m : Int) ≤ 5507902344274116608) = false := decide_eq_false (by omega)
      rw [decide_eq_false (by omega)]
      clear c1 c2 c3
      go_enter Tryz.func33, Tryz.ntmps33
      go_wp2_with (simp only [x34])
      go_ret
      exact ⟨rfl, rfl⟩
  · have t2 : decide ((m : Int) ≥ 3706462493325918208) = false := decide_eq_false (by omega)
    rw [decide_eq_false (by omega)]
    clear c1 c2
    go_enter Tryz.func33, Tryz.ntmps33
    go_wp2_with (simp only [x34])
    go_ret
    exact ⟨rfl, rfl⟩

/-! ### the operations, as the walk takes them -/
set_option maxRecDepth 100000 in
theorem run_add (x y r : Nat) (h : Ieee.double.add x y = some r) (t : TypeId) (w : World) : (binOp .add t (.float .f64 x) (.float .f64 y)).run Tryz.prog w = .ok (.float .f64 r) w :=
  run_float_arith w .add t .f64 x y r h
set_option maxRecDepth 100000 in
theorem run_sub (x y r : Nat) (h : Ieee.double.sub x y = some r) (t : TypeId) (w : World) : (binOp .sub t (.float .f64 x) (.float .f64 y)).run Tryz.prog w = .ok (.float .f64 r) w :=
  run_float_arith w .sub t .f64 x y r h
set_option maxRecDepth 100000 in
theorem run_mul (x y r : Nat) (h : Ieee.double.mul x y = some r) (t : TypeId) (w : World) : (binOp .mul t (.float .f64 x) (.float .f64 y)).run Tryz.prog w = .ok (.float .f64 r) w :=
  run_float_arith w .mul t .f64 x y r h
set_option maxRecDepth 100000 in
theorem run_div (x y r : Nat) (h : Ieee.double.div x y = some r) (t : TypeId) (w : World) : (binOp .quo t (.float .f64 x) (.float .f64 y)).run Tryz.prog w = .ok (.float .f64 r) w :=
  run_float_arith w .quo t .f64 x y r h
theorem nr_mul {a b p q k : Nat} {A B : Int} (ha : Nr a A p) (hb : Nr b B q) (hk : p + q = k + 1074) : V a * V b = (A * B * 2 ^ k) * 2 ^ 1074 := by
  have e : (2 : Int) ^ p * 2 ^ q = 2 ^ k * 2 ^ 1074 := by rw [← Int.pow_add, hk, Int.pow_add]
  rw [ha.val, hb.val, Int.mul_assoc (A * B), ← e]
  generalize (2 : Int) ^ p = u
  generalize (2 : Int) ^ q = v
  ac_rfl

theorem pow_split' {k : Nat} (h : 50 ≤ k) (x : Int) : x * 2 ^ k = x * 2 ^ (k - 50) * 2 ^ 50 := by
  rw [Int.mul_assoc, ← Int.pow_add, show k - 50 + 50 = k by omega]
theorem units_mul (x : Int) (i j : Nat) : x * 2 ^ i * 2 ^ j = x * 2 ^ (i + j) := by rw [Int.mul_assoc, ← Int.pow_add]
theorem unit_parts {a b p q k : Nat} {A B : Int} (ha : Nr a A p) (hb : Nr b B q) (hk : p + q = k + 1074) (h : 50 ≤ k) :
    A * B * 2 ^ k = A * B * 2 ^ (k - 50) * 2 ^ 50 ∧ V a * V b = A * B * 2 ^ (k - 50) * 2 ^ 1124 := by
  refine ⟨pow_split' h _, ?_⟩
  rw [nr_mul ha hb hk, units_mul, units_mul]
  rw [show k + 1074 = k - 50 + 1124 by omega]
theorem ex_parts {a b p q k : Nat} {A B : Int} (ha : Nr a A p) (hb : Nr b B q) (hp : 1 ≤ p) (hq : 1 ≤ q) (hk : p + q = k + 1074) (h : 50 ≤ k) (h2 : k < 1458) :
    (mg 52 (a % 9223372036854775808) = 0 ∨ mg 52 (b % 9223372036854775808) = 0) ∨ ex 52 (a % 9223372036854775808) + ex 52 (b % 9223372036854775808) = k - 50 + 1124 ∧ k - 50 < 1408 := by
  rcases nr_ex ha hp with h0 | h0
  · exact Or.inl (Or.inl h0)
  rcases nr_ex hb hq with h1 | h1
  · exact Or.inl (Or.inr h1)
  · right; omega

/-- a fit word by its digits and a place from 822 to 1222 -/
theorem fit_nr {b : Nat} (h : b < 18446744073709551616) (hf : fitB b = true) : ∃ A p, Nr b A p ∧ 822 ≤ p ∧ p ≤ 1222 := by
  rcases fit_norm h hf with h0 | ⟨s, m, p, hn, h1, h2⟩
  · exact ⟨0, 822, Nr.zero (fit_fin h hf) h0 822, by omega, by omega⟩
  · exact ⟨_, p, Nr.of hn, h1, h2⟩

theorem eq_zero (b : Nat) (hb : FinW b) : (FloatKind.f64.format.order b 0 == some Ordering.eq) = decide (V b = 0) := by
  rw [o_eql b 0 hb.1 (by omega), decide_eq_decide]
  have h1 := hb.1
  have h2 := hb.2
  have hz : V b = 0 ↔ b % 9223372036854775808 = 0 := by
    have := V_abs' b hb
    constructor
    · intro h; rw [h] at this; exact (val_zero_iff 52 _).1 this.symm
    · intro h; rw [h, val_zero] at this; omega
  rw [hz]
  unfold nn key64
  split <;> split <;> omega

theorem lt_zero (b : Nat) (hb : FinW b) : (FloatKind.f64.format.order b 0 == some Ordering.lt) = decide (V b < 0) := by
  rw [o_lss b 0 hb.1 (by omega), decide_eq_decide]
  have h1 := hb.1
  have h2 := hb.2
  have hz : val 52 (b % 9223372036854775808) = 0 ↔ b % 9223372036854775808 = 0 := val_zero_iff 52 _
  unfold V nn key64
  by_cases h : b < 9223372036854775808
  · rw [if_pos h, if_pos h]
    constructor
    · rintro ⟨-, -, h3⟩; split at h3 <;> omega
    · intro h3; omega
  · rw [show b % 9223372036854775808 = b - 9223372036854775808 by omega] at hz
    rw [if_neg h, if_neg h, if_pos (by omega)]
    constructor
    · rintro ⟨-, -, h3⟩; omega
    · intro h3; exact ⟨by omega, by omega, by omega⟩

theorem V_key {a b : Nat} (ha : FinW a) (hb : FinW b) (h : V a = V b) : key64 a = key64 b := by
  have a1 := ha.1
  have b1 := hb.1
  unfold V at h
  unfold key64
  by_cases h1 : a < 9223372036854775808 <;> by_cases h2 : b < 9223372036854775808
  · rw [if_pos h1, if_pos h2] at h
    have := (val_eq_iff 52 a b).1 (by omega)
    rw [this]
  · rw [if_pos h1, if_neg h2] at h
    have x := (val_zero_iff 52 a).1 (by omega)
    have y := (val_zero_iff 52 (b - 9223372036854775808)).1 (by omega)
    rw [if_pos h1, if_neg h2]; omega
  · rw [if_neg h1, if_pos h2] at h
    have x := (val_zero_iff 52 (a - 9223372036854775808)).1 (by omega)
    have y := (val_zero_iff 52 b).1 (by omega)
    rw [if_neg h1, if_pos h2]; omega
  · rw [if_neg h1, if_neg h2] at h
    have := (val_eq_iff 52 (a - 9223372036854775808) (b - 9223372036854775808)).1 (by omega)
    rw [if_neg h1, if_neg h2]; omega
theorem eq_val {a b : Nat} (ha : FinW a) (hb : FinW b) (h : V a = V b) : (FloatKind.f64.format.order a b == some Ordering.eq) = true := by
  rw [o_eql a b ha.1 hb.1]
  exact decide_eq_true ⟨by have := ha.2; unfold nn; omega, by have := hb.2; unfold nn; omega, V_key ha hb h⟩

theorem RN_zero_iff {z : Int} (h : RN z = 0) : z = 0 := by
  have h1 := RN_abs z
  rw [h] at h1
  by_cases h0 : z = 0
  · exact h0
  · have := rn_mono (show 1 ≤ z.natAbs by omega)
    rw [rn_small 1 (by omega)] at this
    simp at h1
    omega

set_option maxRecDepth 100000 in
theorem same_self (a : Nat) (w : World) : Calls Tryz.prog 17 #[.float .f64 a, .float .f64 a] w fun e w' => e = .returned (.bool true) ∧ w = w' := by
  go_enter Tryz.func17, Tryz.ntmps17
  go_wp2_with (simp only [x34])
  go_ret
  exact ⟨ret_b (by simp), rfl⟩
def ff (a b : Nat) : Value := .tuple #[.float .f64 a, .float .f64 b]
/-- a number and an error's number -/
def fe (a : Nat) (c : Int) : Value := .tuple #[.float .f64 a, .int .i64 c]
theorem eq_neg (a b : Nat) : (FloatKind.f64.format.order a b != some Ordering.eq) = !(FloatKind.f64.format.order a b == some Ordering.eq) := rfl
/-- two words of one value that is no nought are one word -/
theorem V_inj {a b : Nat} (ha : FinW a) (hb : FinW b) (h : V a = V b) (h0 : V a ≠ 0) : a = b := by
  have k := V_key ha hb h
  have a1 := ha.1
  have b1 := hb.1
  have za : a % 9223372036854775808 ≠ 0 := by
    intro hz
    have := V_abs' a ha
    rw [hz, val_zero] at this; omega
  unfold key64 at k
  split at k <;> split at k <;> omega
end Go.Proofs.YtpnncmdeidbemaaGreatDoor
