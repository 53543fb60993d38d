/- Proved here: what the texts Accm, Put, Acc, Lz, Add, Mul, AccP, AccRm, AccS, Wrd, Flt prove, one behind the other. -/
import Derived.Test.YtocnpcjpkieogaaGreatDoorRows
import Derived.WalkKit
import Derived.WalkLawsBesides
import Derived.ProofKit
import Derived.OpenShut
import Derived.Laws.Externs
import Derived.Lib.Hide
import Derived.IntWalk
import Derived.Laws.BitsAllLaws
import Derived.Shelf.Spec.BitsCarry
import Derived.Deep.RegionLaw
import Derived.Test.YtocnpcjpkieogaaGreatDoorJs2
import Derived.Shelf.Small.Bits
import Derived.Shelf.Bits.Mul64
import Derived.WalkSmall

namespace Ieee.Own

def stepC (neg : Bool) (x y c : Nat) : Nat := if neg then (if x < y + c then 1 else 0) else (x + y + c) / 18446744073709551616
def xw (q p0 p1 i : Nat) : Nat := if i = q then p0 else if i = q + 1 then p1 else 0
def cy (neg : Bool) (ws : Nat → Nat) (q p0 p1 : Nat) : Nat → Nat
  | 0 => 0
  | i + 1 => stepC neg (ws i) (xw q p0 p1 i) (cy neg ws q p0 p1 i)
/-- the number that words tell -/
def sumW (ws : Nat → Nat) : Nat → Nat
  | 0 => 0
  | n + 1 => sumW ws n + ws n * 2 ^ (64 * n)

end Ieee.Own

namespace Go.Proofs.YtocnpcjpkieogaaGreatDoor
open Go.ChangeShapes Go.WideShapes Go.ChangeAt Go.RowKit Ieee.Own

/-- below block b the world is as it was, no mark has turned, and of the blocks that were there b alone may have turned -/
def Still (b : Nat) (w w' : World) : Prop := Below b w w' ∧ (∀ a, w'.frozen? a = w.frozen? a) ∧ ∀ g, g < w.heap.size → g ≠ b → w'.heap[g]? = w.heap[g]?
theorem Still.refl (b : Nat) (w : World) : Still b w w := ⟨Below.refl b w, fun _ => rfl, fun _ _ _ => rfl⟩
theorem Still.trans {b : Nat} {u v w : World} (h : Still b u v) (k : Still b v w) : Still b u w := ⟨h.1.trans k.1, fun a => (k.2.1 a).trans (h.2.1 a), fun g hg hb => (k.2.2 g (Nat.lt_of_lt_of_le hg h.1.size) hb).trans (h.2.2 g hg hb)⟩
theorem Still.setCell {b : Nat} {u w : World} (h : Still b u w) {p : Addr} (hp : p.block = b) (v : Value) : Still b u (w.setCell p v) :=
  ⟨h.1.setCell (Nat.le_of_eq hp.symm) v, fun a => (World.frozen?_setCell _ _ _ _).trans (h.2.1 a), fun g hg hb => (Below.heap_setCell _ _ _ _ (by omega)).trans (h.2.2 g hg hb)⟩
theorem Still.drew {b : Nat} {u w : World} (h : Still b u w) : Still b u w.drew := ⟨h.1.drew, h.2.1, h.2.2⟩
theorem Still.alloc {b : Nat} {u w : World} (h : Still b u w) (hb : b ≤ w.heap.size) (c : Array Value) (t : TypeId) : Still b u (w.alloc (.cells c t)) :=
  ⟨h.1.alloc hb _, fun a => (frozen?_alloc_cells _ _ _ a).trans (h.2.1 a), fun g hg hb => (heap_alloc_old w _ (Nat.lt_of_lt_of_le hg h.1.size)).trans (h.2.2 g hg hb)⟩
structure Rel (b B j : Nat) (w wr : World) (ws ns : Nat → Nat) (p0 p1 : Nat) : Prop where
  old : Still b w wr
  size : B < wr.heap.size
  done : ∀ t, t < j → wr.cell? ⟨b, t, none⟩ = some (.int .u64 (ns t))
  todo : ∀ t, j ≤ t → t < 24 → wr.cell? ⟨b, t, none⟩ = some (.int .u64 (ws t))
  free : ∀ t, t < 24 → wr.frozen? ⟨b, t, none⟩ = false
  c0 : wr.cell? ⟨B, 0, none⟩ = some (.int .u64 p0)
  c1 : wr.cell? ⟨B, 1, none⟩ = some (.int .u64 p1)

theorem Rel.step {b B j : Nat} {w wr : World} {ws ns : Nat → Nat} {p0 p1 : Nat} (R : Rel b B j w wr ws ns p0 p1) (hb : b < B) (hj : j < 24) :
    Rel b B (j + 1) w (wr.setCell ⟨b, j, none⟩ (.int .u64 (ns j))).drew ws ns p0 p1 := by
  have ne : ∀ t, t ≠ j → (⟨b, j, none⟩ : Addr) ≠ ⟨b, t, none⟩ := by intro t h e; cases e; exact h rfl
  have nB : ∀ t, (⟨b, j, none⟩ : Addr) ≠ ⟨B, t, none⟩ := by intro t e; cases e; omega
  refine ⟨(R.old.setCell (p := ⟨b, j, none⟩) rfl _).drew, ?_, ?_, ?_, ?_, ?_, ?_⟩
  · have := R.size; simp [World.setCell, World.drew]; exact this
  · intro t ht
    rw [World.cell?_drew]
    by_cases e : t = j
    · subst e; exact World.cell?_setCell_same _ _ _ (R.todo t (Nat.le_refl _) hj)
    · rw [World.cell?_setCell_other _ _ _ _ (ne t e)]; exact R.done t (by omega)
  · intro t ht ht2
    rw [World.cell?_drew, World.cell?_setCell_other _ _ _ _ (ne t (by omega))]; exact R.todo t (by omega) ht2
  · intro t ht
    show (wr.setCell _ _).frozen? _ = false
    rw [World.frozen?_setCell]; exact R.free t ht
  · rw [World.cell?_drew, World.cell?_setCell_other _ _ _ _ (nB 0)]; exact R.c0
  · rw [World.cell?_drew, World.cell?_setCell_other _ _ _ _ (nB 1)]; exact R.c1

end Go.Proofs.YtocnpcjpkieogaaGreatDoor

namespace Go.Proofs.YtocnpcjpkieogaaGreatDoor
open Go.ChangeShapes Go.WideShapes Go.ChangeAt Go.RowKit Ieee.Own

/-- the long sum at block b tells z, modulo 2^1536 -/
structure Holds (b : Nat) (w : World) (z : Int) (ws : Nat → Nat) : Prop where
  lt : ∀ i, ws i < 18446744073709551616
  size : b < w.heap.size
  cell : ∀ i, i < 24 → w.cell? ⟨b, i, none⟩ = some (.int .u64 (ws i))
  free : ∀ i, i < 24 → w.frozen? ⟨b, i, none⟩ = false
  val : ((2 ^ (64 * 24) : Nat) : Int) ∣ (sumW ws 24 : Int) - z

/-! ### single calls -/
set_option maxRecDepth 100000 in
theorem x34 (b : Nat) (w : World) : (callFunc 25 #[.float .f64 b]).run Tryz.prog w = .ok (.value (.int .u64 (b : Int))) w := by
  rw [run_callFunc_extern (e := Extern.MathFloatBits.float64bits) Tryz.func25 (by kernel_rfl) (by kernel_rfl) (by kernel_rfl) (by kernel_rfl)]; rfl
theorem andn63 (b : Nat) (hb : b < 18446744073709551616) : bits BinOp.andNot IntKind.u64 (b : Int) 9223372036854775808 = ((b % 9223372036854775808 : Nat) : Int) := by
  rw [show (9223372036854775808 : Int) = ((9223372036854775808 : Nat) : Int) from rfl, u64_andNot_nat b 9223372036854775808 hb (by omega)]
  exact congrArg _ (Nat.and_two_pow_sub_one_eq_mod b 63)
theorem ieq_f {a b : Int} (h : ¬ a = b) : (a == b) = false := by simpa using h
end Go.Proofs.YtocnpcjpkieogaaGreatDoor

namespace Go.Proofs.YtocnpcjpkieogaaGreatDoor
open Go.Shelf Go.RowKit

theorem bitLen_aux : ∀ (f x : Nat), x < 2 ^ f → (x = 0 → Lib.bitLenAux f x = 0) ∧ (x ≠ 0 → Lib.bitLenAux f x = x.log2 + 1) := by
  intro f
  induction f with
  | zero => intro x hx; exact ⟨fun _ => rfl, fun h => by omega⟩
  | succ f ih =>
    intro x hx
    refine ⟨fun h => by simp [Lib.bitLenAux, h], fun h => ?_⟩
    have h2 : x / 2 < 2 ^ f := by rw [Nat.pow_succ] at hx; omega
    obtain ⟨i1, i2⟩ := ih (x / 2) h2
    unfold Lib.bitLenAux
    rw [if_neg h]
    by_cases h1 : x / 2 = 0
    · rw [i1 h1]
      obtain rfl : x = 1 := by omega
      rfl
    · rw [i2 h1]
      have : x.log2 = (x / 2).log2 + 1 := by
        rw [Nat.log2_eq_iff h]
        have := (Nat.log2_eq_iff h1).1 rfl
        rw [Nat.pow_succ, Nat.pow_succ, Nat.pow_succ] at *
        omega
      omega
theorem bitLen_log (x : Nat) (h : x ≠ 0) (hx : x < 18446744073709551616) : Lib.bitLen x = x.log2 + 1 := (bitLen_aux 64 x hx).2 h

def renLz : Ren := ⟨fun n => if n = 129 then 74 else 65, fun n => if n = 3 then 3 else if n = 4 then 4 else if n = 5 then 5 else if n = 9 then 9 else if n = 46 then 55 else 37, fun n => n⟩
set_option maxRecDepth 100000 in
theorem lays_lz : Lays.n134 Tryz.prog renLz :=
  ⟨by kernel_rfl, Tryz.func74.trans (congrArg some (by kernel_rfl)), Tryz.func65.trans (congrArg some (by kernel_rfl)),
    Tryz.underlying3, fun _ => by kernel_rfl, fun _ => by kernel_rfl, fun _ => by kernel_rfl, Tryz.underlying4, fun _ => by kernel_rfl, fun _ => by kernel_rfl, fun _ => by kernel_rfl,
    Tryz.underlying5, fun _ => by kernel_rfl, fun _ => by kernel_rfl, fun _ => by kernel_rfl, Tryz.underlying9, fun _ => by kernel_rfl, fun _ => by kernel_rfl, fun _ => by kernel_rfl,
    Tryz.underlying55, fun _ => by kernel_rfl, fun _ => by kernel_rfl, fun _ => by kernel_rfl, Tryz.underlying37, fun _ => by kernel_rfl, fun _ => by kernel_rfl, fun _ => by kernel_rfl⟩
set_option maxRecDepth 100000 in
theorem lz_any (x : Nat) (h : x ≠ 0) (hx : x < 18446744073709551616) (w : World) :
    Calls Tryz.prog 65 #[.int .u64 x] w fun e w' => e = .returned (.int .i64 (63 - (x.log2 : Int))) ∧ w = w' :=
  (Any.bits_LeadingZeros64 lays_lz x w (by omega) (by omega)).mono fun _ _ ⟨he, hw⟩ => ⟨by rw [he]; congr 2; simp only [Int.toNat_natCast]; rw [bitLen_log x h hx]; omega, hw.symm⟩
end Go.Proofs.YtocnpcjpkieogaaGreatDoor

namespace Go.Proofs.YtocnpcjpkieogaaGreatDoor
open Go.ChangeShapes Go.WideShapes Go.ChangeAt Go.RowKit Ieee.Own

end Go.Proofs.YtocnpcjpkieogaaGreatDoor

namespace Go.Proofs.YtocnpcjpkieogaaGreatDoor
open Go.Shelf Go.RowKit

end Go.Proofs.YtocnpcjpkieogaaGreatDoor

namespace Go.Proofs.YtocnpcjpkieogaaGreatDoor
open Go.ChangeShapes Go.WideShapes Go.ChangeAt Go.RowKit Ieee.Own

/-! ### the sign -/
end Go.Proofs.YtocnpcjpkieogaaGreatDoor

namespace Ieee.Own

end Ieee.Own

namespace Go.Proofs.YtocnpcjpkieogaaGreatDoor
open Go.ChangeShapes Go.WideShapes Go.ChangeAt Go.RowKit Ieee.Own

theorem ret_i {k : IntKind} {a b : Int} (h : a = b) : Ending.returned (.int k a) = .returned (.int k b) := by rw [h]

/-! ### the sign: of a number z that the words tell, of magnitude below 2^1535 -/
end Go.Proofs.YtocnpcjpkieogaaGreatDoor

namespace Ieee.Own

theorem two_le {a b : Nat} (h : a ≤ b) : 2 ^ a ≤ 2 ^ b := Nat.pow_le_pow_right (by omega) h
/-- a number told by 53 digits (or none) and a place -/
structure Nr (b : Nat) (A : Int) (p : Nat) : Prop where
  fin : FinW b
  val : V b = A * 2 ^ p
  lo : A = 0 ∨ 2 ^ 52 ≤ A.natAbs
  hi : A.natAbs < 2 ^ 53

theorem Nr.of {b : Nat} {s : Bool} {m p : Nat} (h : Norm b s m p) : Nr b (sv s m 0) p := by
  refine ⟨h.fin, ?_, Or.inr ?_, ?_⟩
  · rw [h.val]; unfold sv; cases s <;> simp [Int.neg_mul]
  · rw [sv_abs]; have := h.lo; omega
  · rw [sv_abs]; have := h.hi; omega
theorem Nr.zero {b : Nat} (h : FinW b) (h0 : V b = 0) (p : Nat) : Nr b 0 p := ⟨h, by rw [h0]; simp, Or.inl rfl, by decide⟩

/-! ### fit words -/
def fitB (b : Nat) : Bool := decide (b % 9223372036854775808 = 0 ∨ 3706462493325918208 ≤ b % 9223372036854775808 ∧ b % 9223372036854775808 ≤ 5507902344274116608)

theorem V_abs' (b : Nat) (hb : FinW b) : (V b).natAbs = val 52 (b % 9223372036854775808) := by
  have h1 := hb.1
  unfold V
  by_cases h : b < 9223372036854775808
  · rw [if_pos h, show b % 9223372036854775808 = b by omega]; rfl
  · rw [if_neg h, show b % 9223372036854775808 = b - 9223372036854775808 by omega]; omega

/-- the negated word -/
def negW (b : Nat) : Nat := if b < 9223372036854775808 then b + 9223372036854775808 else b - 9223372036854775808
theorem negW_fin {b : Nat} (h : FinW b) : FinW (negW b) := by
  obtain ⟨h1, h2⟩ := h; unfold FinW negW; split <;> omega
theorem negW_V {b : Nat} (h : FinW b) : V (negW b) = -V b := by
  have h1 := h.1
  unfold negW V
  by_cases hb : b < 9223372036854775808
  · rw [if_pos hb, if_pos hb, if_neg (by omega), show b + 9223372036854775808 - 9223372036854775808 = b by omega]
  · rw [if_neg hb, if_neg hb, if_pos (by omega)]; omega
end Ieee.Own

namespace Go.Proofs.YtocnpcjpkieogaaGreatDoor
open Go.ChangeShapes Go.WideShapes Go.ChangeAt Go.RowKit Ieee.Own

theorem ret_f {k : FloatKind} {a b : Nat} (h : a = b) : Ending.returned (.float k a) = .returned (.float k b) := by rw [h]
set_option maxRecDepth 100000 in
theorem x40 (n : Int) (w : World) : (callFunc 28 #[.int .u64 n]).run Tryz.prog w = .ok (.value (.float .f64 n.toNat)) w := by
  rw [run_callFunc_extern (e := Extern.MathFloatBits.float64frombits) Tryz.func28 (by kernel_rfl) (by kernel_rfl) (by kernel_rfl) (by kernel_rfl)]; rfl

/-! ### comparisons in plain numbers -/
def nn (a : Nat) : Prop := a % 9223372036854775808 ≤ 9218868437227405312
instance (a : Nat) : Decidable (nn a) := inferInstanceAs (Decidable (_ ≤ _))
theorem o_lss (a b : Nat) (ha : a < 18446744073709551616) (hb : b < 18446744073709551616) :
    (FloatKind.f64.format.order a b == some Ordering.lt) = decide (nn a ∧ nn b ∧ key64 a < key64 b) := by
  show (Ieee.double.order a b == some Ordering.lt) = _
  by_cases h : nn a ∧ nn b
  · rw [order64 a b ha hb h.1 h.2, cmp_lt]; simp [h]
  · rw [order64_nan a b (by unfold nn at h; omega)]; symm; simp; intro h1 h2; exact absurd ⟨h1, h2⟩ h
theorem o_gtr (a b : Nat) (ha : a < 18446744073709551616) (hb : b < 18446744073709551616) :
    (FloatKind.f64.format.order a b == some Ordering.gt) = decide (nn a ∧ nn b ∧ key64 b < key64 a) := by
  show (Ieee.double.order a b == some Ordering.gt) = _
  by_cases h : nn a ∧ nn b
  · rw [order64 a b ha hb h.1 h.2, cmp_gt]; simp [h]
  · rw [order64_nan a b (by unfold nn at h; omega)]; symm; simp; intro h1 h2; exact absurd ⟨h1, h2⟩ h
theorem o_eql (a b : Nat) (ha : a < 18446744073709551616) (hb : b < 18446744073709551616) :
    (FloatKind.f64.format.order a b == some Ordering.eq) = decide (nn a ∧ nn b ∧ key64 a = key64 b) := by
  show (Ieee.double.order a b == some Ordering.eq) = _
  by_cases h : nn a ∧ nn b
  · rw [order64 a b ha hb h.1 h.2, cmp_eq]; simp [h]
  · rw [order64_nan a b (by unfold nn at h; omega)]; symm; simp; intro h1 h2; exact absurd ⟨h1, h2⟩ h
theorem o_neq (a b : Nat) (ha : a < 18446744073709551616) (hb : b < 18446744073709551616) :
    (FloatKind.f64.format.order a b != some Ordering.eq) = !decide (nn a ∧ nn b ∧ key64 a = key64 b) := by
  rw [← o_eql a b ha hb]; rfl
theorem o_leq (a b : Nat) (ha : a < 18446744073709551616) (hb : b < 18446744073709551616) :
    (FloatKind.f64.format.order a b == some Ordering.lt || FloatKind.f64.format.order a b == some Ordering.eq) = decide (nn a ∧ nn b ∧ key64 a ≤ key64 b) := by
  rw [o_lss a b ha hb, o_eql a b ha hb, Bool.eq_iff_iff]
  simp only [Bool.or_eq_true, decide_eq_true_eq]
  constructor
  · rintro (⟨h1, h2, h3⟩ | ⟨h1, h2, h3⟩)
    · exact ⟨h1, h2, by omega⟩
    · exact ⟨h1, h2, by omega⟩
  · rintro ⟨h1, h2, h3⟩
    by_cases h : key64 a < key64 b
    · exact Or.inl ⟨h1, h2, h⟩
    · exact Or.inr ⟨h1, h2, by omega⟩
theorem key_low {m : Nat} (h : m < 9223372036854775808) : key64 m = m := by unfold key64; simp [h]

set_option maxRecDepth 100000 in
theorem abs_any (b : Nat) (h : b < 18446744073709551616) (w : World) :
    Calls Tryz.prog 12 #[.float .f64 b] w fun e w' => e = .returned (.float .f64 (b % 9223372036854775808)) ∧ w = w' := by
  have H := Lib.hid (andn63 b h)
  go_enter Tryz.func12, Tryz.ntmps12
  go_wp2_with (simp only [x34, x40])
  go_ret
  exact ⟨ret_f (by rw [H.out]; rfl), rfl⟩

/-! ### fit -/
set_option maxRecDepth 100000 in
theorem fit_any (b : Nat) (hb : b < 18446744073709551616) (w : World) :
    Calls Tryz.prog 11 #[.float .f64 b] w fun e w' => e = .returned (.bool (fitB b)) ∧ w = w' := by
  have hm : b % 9223372036854775808 < 9223372036854775808 := by omega
  have e1 := o_eql (b % 9223372036854775808) 0 (by omega) (by omega)
  have e2 := o_leq 3706462493325918208 (b % 9223372036854775808) (by omega) (by omega)
  have e3 := o_leq (b % 9223372036854775808) 5507902344274116608 (by omega) (by omega)
  rw [key_low hm, key_low (by omega)] at e1 e2 e3
  have HA := fun w => abs_any b hb w
  unfold fitB
  clear hb
  generalize b % 9223372036854775808 = m at *
  by_cases c1 : m = 0
  · rw [decide_eq_true (by unfold nn; omega)] at e1
    rw [decide_eq_true (Or.inl c1)]
    clear hm e2 e3 c1
    go_enter Tryz.func11, Tryz.ntmps11
    go_wp2_with (go_at_call 12; ((with_reducible refine (HA _).mono ?_); rintro e w' ⟨rfl, rfl⟩))
    go_ret
    exact ⟨rfl, rfl⟩
  · rw [decide_eq_false (by omega)] at e1
    by_cases c2 : 3706462493325918208 ≤ m ∧ m ≤ 9218868437227405312
    · rw [decide_eq_true (by unfold nn; omega)] at e2
      by_cases c3 : m ≤ 5507902344274116608
      · rw [decide_eq_true (by unfold nn; omega)] at e3
        rw [decide_eq_true (by omega)]
        clear hm c1 c2 c3
        go_enter Tryz.func11, Tryz.ntmps11
        go_wp2_with (go_at_call 12; ((with_reducible refine (HA _).mono ?_); rintro e w' ⟨rfl, rfl⟩))
        go_ret
        exact ⟨rfl, rfl⟩
      · rw [decide_eq_false (by unfold nn; omega)] at e3
        rw [decide_eq_false (by omega)]
        clear hm c1 c2 c3
        go_enter Tryz.func11, Tryz.ntmps11
        go_wp2_with (go_at_call 12; ((with_reducible refine (HA _).mono ?_); rintro e w' ⟨rfl, rfl⟩))
        go_ret
        exact ⟨rfl, rfl⟩
    · rw [decide_eq_false (by unfold nn; omega)] at e2
      rw [decide_eq_false (by omega)]
      clear hm c1 c2 e3
      go_enter Tryz.func11, Tryz.ntmps11
      go_wp2_with (go_at_call 12; ((with_reducible refine (HA _).mono ?_); rintro e w' ⟨rfl, rfl⟩))
      go_ret
      exact ⟨rfl, rfl⟩

set_option maxRecDepth 100000 in
theorem rfit_any (b : Nat) (hb : b < 18446744073709551616) (w : World) :
    Calls Tryz.prog 16 #[.float .f64 b] w fun e w' => e = .returned (.bool (fitB b)) ∧ w = w' := by
  have H := andn63 b hb
  unfold fitB
  clear hb
  generalize b % 9223372036854775808 = m at *
  by_cases c1 : m = 0
  · rw [decide_eq_true (by omega)]
    subst c1
    go_enter Tryz.func16, Tryz.ntmps16
    go_wp2_with (simp only [x34])
    go_ret
    exact ⟨rfl, rfl⟩
  have t1 : ((m : Int) == 0) = false := ieq_f (by omega)
  by_cases c2 : 3706462493325918208 ≤ m
  · have t2 : decide ((m : Int) ≥ 3706462493325918208) = true := decide_eq_true (by omega)
    by_cases c3 : m ≤ 5507902344274116608
    · have t3 : decide ((m : Int) ≤ 5507902344274116608) = true := decide_eq_true (by omega)
      rw [decide_eq_true (by omega)]
      clear c1 c2 c3
      go_enter Tryz.func16, Tryz.ntmps16
      go_wp2_with (simp only [x34])
      go_ret
      exact ⟨rfl, rfl⟩
    · have t3 : decide ((m : Int) ≤ 5507902344274116608) = false := decide_eq_false (by omega)
      rw [decide_eq_false (by omega)]
      clear c1 c2 c3
      go_enter Tryz.func16, Tryz.ntmps16
      go_wp2_with (simp only [x34])
      go_ret
      exact ⟨rfl, rfl⟩
  · have t2 : decide ((m : Int) ≥ 3706462493325918208) = false := decide_eq_false (by omega)
    rw [decide_eq_false (by omega)]
    clear c1 c2
    go_enter Tryz.func16, Tryz.ntmps16
    go_wp2_with (simp only [x34])
    go_ret
    exact ⟨rfl, rfl⟩

/-! ### the operations, as the walk takes them -/
set_option maxRecDepth 100000 in
theorem run_sub (x y r : Nat) (h : Ieee.double.sub x y = some r) (t : TypeId) (w : World) : (binOp .sub t (.float .f64 x) (.float .f64 y)).run Tryz.prog w = .ok (.float .f64 r) w :=
  run_float_arith w .sub t .f64 x y r h
set_option maxRecDepth 100000 in
theorem run_div (x y r : Nat) (h : Ieee.double.div x y = some r) (t : TypeId) (w : World) : (binOp .quo t (.float .f64 x) (.float .f64 y)).run Tryz.prog w = .ok (.float .f64 r) w :=
  run_float_arith w .quo t .f64 x y r h
theorem V_key {a b : Nat} (ha : FinW a) (hb : FinW b) (h : V a = V b) : key64 a = key64 b := by
  have a1 := ha.1
  have b1 := hb.1
  unfold V at h
  unfold key64
  by_cases h1 : a < 9223372036854775808 <;> by_cases h2 : b < 9223372036854775808
  · rw [if_pos h1, if_pos h2] at h
    have := (val_eq_iff 52 a b).1 (by omega)
    rw [this]
  · rw [if_pos h1, if_neg h2] at h
    have x := (val_zero_iff 52 a).1 (by omega)
    have y := (val_zero_iff 52 (b - 9223372036854775808)).1 (by omega)
    rw [if_pos h1, if_neg h2]; omega
  · rw [if_neg h1, if_pos h2] at h
    have x := (val_zero_iff 52 (a - 9223372036854775808)).1 (by omega)
    have y := (val_zero_iff 52 b).1 (by omega)
    rw [if_neg h1, if_pos h2]; omega
  · rw [if_neg h1, if_neg h2] at h
    have := (val_eq_iff 52 (a - 9223372036854775808) (b - 9223372036854775808)).1 (by omega)
    rw [if_neg h1, if_neg h2]; omega
/-- a number and an error's number -/
def fe (a : Nat) (c : Int) : Value := .tuple #[.float .f64 a, .int .i64 c]
/-- two words of one value that is no nought are one word -/
theorem V_inj {a b : Nat} (ha : FinW a) (hb : FinW b) (h : V a = V b) (h0 : V a ≠ 0) : a = b := by
  have k := V_key ha hb h
  have a1 := ha.1
  have b1 := hb.1
  have za : a % 9223372036854775808 ≠ 0 := by
    intro hz
    have := V_abs' a ha
    rw [hz, val_zero] at this; omega
  unfold key64 at k
  split at k <;> split at k <;> omega
end Go.Proofs.YtocnpcjpkieogaaGreatDoor
