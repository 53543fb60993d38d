/- Proved here: what the texts Ftw, Adj, Spr, Spa, Sadd, Adq, Sun prove, one behind the other. -/
import Derived.Test.YtacinenddnfcbaaJz2
import Derived.Test.YtacinenddnfcbaaJz0
import Derived.Laws.ResultCell

namespace Go.Proofs.Ytacinenddnfcbaa
open Go.ChangeShapes Go.WideShapes Go.ChangeAt Go.RowKit Ieee.Own

/-! ### quotients -/
/-! ### roots -/
set_option maxRecDepth 100000 in
theorem xsqrt (a r : Nat) (h : Ieee.double.sqrt a = some r) (w : World) : (callFunc 22 #[.float .f64 a]).run Try.prog w = .ok (.value (.float .f64 r)) w := by
  rw [run_callFunc_extern (e := Extern.MathSqrt.sqrt) Try.func22 (by kernel_rfl) (by kernel_rfl) (by kernel_rfl) (by kernel_rfl)]
  have h' : FloatKind.f64.format.sqrt a = some r := h
  have e : Extern.MathSqrt.sqrt #[.float .f64 a] = (match FloatKind.f64.format.sqrt a with
    | some r => pure (.float .f64 r)
    | none => do pure (.float .f64 (← choose (.nanBits .f64 a a)))) := rfl
  rw [e, h']; rfl
set_option maxRecDepth 100000 in
theorem sqrt_any (a r : Nat) (h : Ieee.double.sqrt a = some r) (w : World) :
    Calls Try.prog 19 #[.float .f64 a] w fun e w' => e = .returned (.float .f64 r) ∧ w = w' := by
  have X := xsqrt a r h
  clear h
  go_enter Try.func19, Try.ntmps19
  go_wp2
  go_ret
  exact ⟨rfl, rfl⟩
end Go.Proofs.Ytacinenddnfcbaa

namespace Go.Proofs.Ytacinenddnfcbaa
open Ieee.Own

/-! ### the order of words, and neighbours -/
theorem V_lt_key {a b : Nat} (ha : FinW a) (hb : FinW b) : V a < V b ↔ key64 a < key64 b := by
  have a1 := ha.1
  have b1 := hb.1
  unfold V key64
  by_cases h1 : a < 9223372036854775808 <;> by_cases h2 : b < 9223372036854775808
  · rw [if_pos h1, if_pos h1, if_pos h2, if_pos h2]
    have := val_lt_iff 52 a b
    omega
  · rw [if_pos h1, if_pos h1, if_neg h2, if_neg h2]; omega
  · rw [if_neg h1, if_neg h1, if_pos h2, if_pos h2]
    have x := val_zero_iff 52 (a - 9223372036854775808)
    have y := val_zero_iff 52 b
    omega
  · rw [if_neg h1, if_neg h1, if_neg h2, if_neg h2]
    have := val_lt_iff 52 (b - 9223372036854775808) (a - 9223372036854775808)
    omega

/-! ### an exact result, told by a sign: c v is above 0 for v below it, below 0 for v above it -/
/-- a word that lies next to the exact result: no other word between -/
structure Adj (c : Int → Int) (s : Nat) : Prop where
  fin : FinW s
  bd : (V s).natAbs ≤ 2 ^ 1500
  lo : ∀ u, FinW u → V u < V s → 0 < c (V u)
  hi : ∀ u, FinW u → V s < V u → c (V u) < 0
/-- the greatest word not above -/
structure Dn (c : Int → Int) (w : Nat) : Prop where
  fin : FinW w
  le : 0 ≤ c (V w)
  top : ∀ u, FinW u → 0 ≤ c (V u) → V u ≤ V w
/-- the least word not below -/
structure Up (c : Int → Int) (w : Nat) : Prop where
  fin : FinW w
  ge : c (V w) ≤ 0
  low : ∀ u, FinW u → c (V u) ≤ 0 → V w ≤ V u
/-! ### the four: sums and products -/
end Go.Proofs.Ytacinenddnfcbaa

namespace Go.Proofs.Ytacinenddnfcbaa
open Go.ChangeShapes Go.WideShapes Go.ChangeAt Go.RowKit Ieee.Own

/-! ### comparisons of words by their values -/
theorem fin_nn {a : Nat} (h : FinW a) : nn a := by have := h.2; unfold nn; omega
theorem lt_words {a b : Nat} (ha : FinW a) (hb : FinW b) : (FloatKind.f64.format.order a b == some Ordering.lt) = decide (V a < V b) := by
  rw [o_lss a b ha.1 hb.1, decide_eq_decide]
  have := V_lt_key ha hb
  exact ⟨fun h => this.2 h.2.2, fun h => ⟨fin_nn ha, fin_nn hb, this.1 h⟩⟩
theorem gt_words {a b : Nat} (ha : FinW a) (hb : FinW b) : (FloatKind.f64.format.order a b == some Ordering.gt) = decide (V b < V a) := by
  rw [o_gtr a b ha.1 hb.1, decide_eq_decide]
  have := V_lt_key hb ha
  exact ⟨fun h => this.2 h.2.2, fun h => ⟨fin_nn ha, fin_nn hb, this.1 h⟩⟩
theorem le_words {a b : Nat} (ha : FinW a) (hb : FinW b) : (FloatKind.f64.format.order a b == some Ordering.lt || FloatKind.f64.format.order a b == some Ordering.eq) = decide (V a ≤ V b) := by
  rw [o_leq a b ha.1 hb.1, decide_eq_decide]
  have := V_lt_key hb ha
  exact ⟨fun h => Int.not_lt.1 fun h' => by have := this.1 h'; omega, fun h => ⟨fin_nn ha, fin_nn hb, Int.not_lt.1 fun h' => by have := this.2 h'; omega⟩⟩
theorem zero_fin : FinW 0 := ⟨by omega, by omega⟩
theorem V_zero : V 0 = 0 := by decide +kernel

/-! ### outwards -/
def leastV : Int := V 3706462493325918208
def mostV : Int := V 5507902344274116608
def lowW (x : Nat) : Nat := if 0 ≤ V x ∧ V x < leastV then 0 else if V x < 0 ∧ -leastV < V x then 12929834530180694016 else x
def highW (x : Nat) : Nat := if V x ≤ 0 ∧ -leastV < V x then 0 else if 0 < V x ∧ V x < leastV then 3706462493325918208 else x
set_option maxRecDepth 100000 in
theorem xneg' (b : Nat) (hb : b < 18446744073709551616) (w : World) : (Op.unary .neg (.float .f64 b)).run Try.prog w = .ok (.float .f64 (negW b)) w := xneg b hb w
/-- a span and an error's number -/
def spanE (lo hi : Nat) (c : Int) : Value := .tuple #[.agg #[.float .f64 lo, .float .f64 hi], .int .i64 c]
def toldE (lo hi : Nat) : Value := if V (lowW lo) < -mostV ∨ mostV < V (highW hi) then spanE 0 0 3 else spanE (lowW lo) (highW hi) 0
set_option maxRecDepth 100000 in
theorem fstore (a : Addr) (b : Nat) (m : Mode) (x : World) : (store a (.float .f64 b) m).run Try.prog x = stored Try.prog x a (.float .f64 b) m := run_store _ x a _ m rfl
/-! ### what is wrong with a span -/
def errS (a b : Nat) : Int := if fitB a = true ∧ fitB b = true then (if V b < V a then 5 else 0) else 3
def spanV (a b : Nat) : Value := .agg #[.float .f64 a, .float .f64 b]
end Go.Proofs.Ytacinenddnfcbaa

namespace Go.Proofs.Ytacinenddnfcbaa
open Go.ChangeShapes Go.WideShapes Go.ChangeAt Go.RowKit Ieee.Own

/-! ### blocks that the call made first, and what became of them -/
structure Blocks (w : World) (os : List Obj) (wr : World) : Prop where
  old : Below w.heap.size w wr
  more : w.heap.size + os.length ≤ wr.heap.size
  at_ : ∀ j o, os[j]? = some o → wr.heap[w.heap.size + j]? = some o
theorem Blocks.nil (w : World) : Blocks w [] w := ⟨Below.refl _ w, by simp, by intro j o h; simp at h⟩
theorem Blocks.alloc {w wr : World} {os : List Obj} (S : Blocks w os wr) (h : wr.heap.size = w.heap.size + os.length) (o : Obj) : Blocks w (os ++ [o]) (wr.alloc o) := by
  refine ⟨S.old.alloc (by omega) o, by simp; omega, fun j p hj => ?_⟩
  by_cases hl : j < os.length
  · rw [heap_alloc_old wr o (by omega)]
    rw [List.getElem?_append_left hl] at hj
    exact S.at_ j p hj
  · have hj' : j = os.length := by
      have := (List.getElem?_eq_some_iff.1 hj).1
      simp at this
      omega
    subst hj'
    rw [← h, heap_alloc_new]
    simpa using hj
theorem Blocks.on {w wr w' : World} {os : List Obj} (S : Blocks w os wr) (h : Below wr.heap.size wr w') : Blocks w os w' := by
  refine ⟨S.old.trans (h.mono S.old.size), Nat.le_trans S.more h.size, fun j o hj => ?_⟩
  have hl := (List.getElem?_eq_some_iff.1 hj).1
  have := S.more
  rw [h.block _ (by omega)]
  exact S.at_ j o hj
theorem Blocks.cell {w wr : World} {os : List Obj} (S : Blocks w os wr) (j : Nat) {cs : Array Value} {t : TypeId} {fr : Nat × Nat} (h : os[j]? = some (.cells cs t fr)) (i k : Nat) (hk : k = w.heap.size + j) : wr.cell? ⟨k, i, none⟩ = cs[i]? := by
  subst hk
  exact cell_of_row wr _ i cs t fr (S.at_ j _ h)
theorem Blocks.free {w wr : World} {os : List Obj} (S : Blocks w os wr) (j : Nat) {cs : Array Value} {t : TypeId} (h : os[j]? = some (.cells cs t (0, 0))) (i k : Nat) (hk : k = w.heap.size + j) : wr.frozen? ⟨k, i, none⟩ = false := by
  subst hk
  exact frozen_of_row wr _ i cs t (S.at_ j _ h)

def errSS (a1 a2 b1 b2 : Nat) : Int := if errS a1 a2 ≠ 0 then errS a1 a2 else errS b1 b2
end Go.Proofs.Ytacinenddnfcbaa

namespace Go.Proofs.Ytacinenddnfcbaa
open Go.ChangeShapes Go.WideShapes Go.ChangeAt Go.RowKit Ieee.Own

/-- what an operation on spans is to answer: an error, or the ends next to the exact ones, outwards -/
def OpIs (er : Int) (c d : Int → Int) (e : Ending) : Prop := (er = 0 → ∃ lo hi, e = .returned (toldE lo hi) ∧ Dn c lo ∧ Up d hi) ∧ (er ≠ 0 → e = .returned (spanE 0 0 er))
end Go.Proofs.Ytacinenddnfcbaa

namespace Go.Proofs.Ytacinenddnfcbaa
open Ieee.Own

/-! ### ends next to the exact ones, by the rest -/
end Go.Proofs.Ytacinenddnfcbaa

namespace Go.Proofs.Ytacinenddnfcbaa
open Go.ChangeShapes Go.WideShapes Go.ChangeAt Go.RowKit Ieee.Own

/-! ### Neg -/
/-! ### Root -/
/-! ### Sub -/
/-! ### Square -/
end Go.Proofs.Ytacinenddnfcbaa
