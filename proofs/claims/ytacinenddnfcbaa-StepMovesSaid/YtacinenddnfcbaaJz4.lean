/- Proved here: what the texts Ssq, Spm, Spo, Sps, Spn, Rop, Mm prove, one behind the other. -/
import Derived.Test.YtacinenddnfcbaaJz3
import Derived.Deep.RegionHeld3
import Derived.Test.YtacinenddnfcbaaJz2

namespace Go.Proofs.Ytacinenddnfcbaa
open Go.ChangeShapes Go.WideShapes Go.ChangeAt Go.RowKit Ieee.Own

/-! ### ends over several exact results -/
structure DnAll (cs : List (Int → Int)) (w : Nat) : Prop where
  fin : FinW w
  le : ∀ c ∈ cs, 0 ≤ c (V w)
  top : ∀ u, FinW u → (∀ c ∈ cs, 0 ≤ c (V u)) → V u ≤ V w
structure UpAll (cs : List (Int → Int)) (w : Nat) : Prop where
  fin : FinW w
  ge : ∀ c ∈ cs, c (V w) ≤ 0
  low : ∀ u, FinW u → (∀ c ∈ cs, c (V u) ≤ 0) → V w ≤ V u
def Falls (c : Int → Int) : Prop := ∀ u v, u ≤ v → c v ≤ c u
theorem Dn.all {c : Int → Int} {w : Nat} (h : Dn c w) : DnAll [c] w :=
  ⟨h.fin, fun d hd => by rw [List.mem_singleton.1 hd]; exact h.le, fun u hu hc => h.top u hu (hc c (List.mem_singleton.2 rfl))⟩
theorem Up.all {c : Int → Int} {w : Nat} (h : Up c w) : UpAll [c] w :=
  ⟨h.fin, fun d hd => by rw [List.mem_singleton.1 hd]; exact h.ge, fun u hu hc => h.low u hu (hc c (List.mem_singleton.2 rfl))⟩
def minW (y x : Nat) : Nat := if V y < V x then y else x
def maxW (y x : Nat) : Nat := if V x < V y then y else x
theorem minW_V (y x : Nat) : V (minW y x) ≤ V x ∧ V (minW y x) ≤ V y ∧ (V (minW y x) = V x ∨ V (minW y x) = V y) := by unfold minW; split <;> omega
theorem maxW_V (y x : Nat) : V x ≤ V (maxW y x) ∧ V y ≤ V (maxW y x) ∧ (V (maxW y x) = V x ∨ V (maxW y x) = V y) := by unfold maxW; split <;> omega
theorem DnAll.more {cs : List (Int → Int)} {c : Int → Int} {x y : Nat} (h : DnAll cs x) (k : Dn c y) (hcs : ∀ d ∈ cs, Falls d) (hc : Falls c) : DnAll (cs ++ [c]) (minW y x) := by
  obtain ⟨m1, m2, m3⟩ := minW_V y x
  refine ⟨by unfold minW; split; exact k.fin; exact h.fin, fun d hd => ?_, fun u hu hall => ?_⟩
  · rcases List.mem_append.1 hd with hd | hd
    · exact Int.le_trans (h.le d hd) (hcs d hd _ _ m1)
    · rw [List.mem_singleton.1 hd]; exact Int.le_trans k.le (hc _ _ m2)
  · have a := h.top u hu fun d hd => hall d (List.mem_append_left _ hd)
    have b := k.top u hu (hall c (List.mem_append_right _ (List.mem_singleton.2 rfl)))
    omega
theorem UpAll.more {cs : List (Int → Int)} {c : Int → Int} {x y : Nat} (h : UpAll cs x) (k : Up c y) (hcs : ∀ d ∈ cs, Falls d) (hc : Falls c) : UpAll (cs ++ [c]) (maxW y x) := by
  obtain ⟨m1, m2, m3⟩ := maxW_V y x
  refine ⟨by unfold maxW; split; exact k.fin; exact h.fin, fun d hd => ?_, fun u hu hall => ?_⟩
  · rcases List.mem_append.1 hd with hd | hd
    · exact Int.le_trans (hcs d hd _ _ m1) (h.ge d hd)
    · rw [List.mem_singleton.1 hd]; exact Int.le_trans (hc _ _ m2) k.ge
  · have a := h.low u hu fun d hd => hall d (List.mem_append_left _ hd)
    have b := k.low u hu (hall c (List.mem_append_right _ (List.mem_singleton.2 rfl)))
    omega
def OpAll (er : Int) (cs ds : List (Int → Int)) (e : Ending) : Prop := (er = 0 → ∃ lo hi, e = .returned (toldE lo hi) ∧ DnAll cs lo ∧ UpAll ds hi) ∧ (er ≠ 0 → e = .returned (spanE 0 0 er))

/-! ### products -/
def prodN (a b : Nat) : Int := V a * V b / 2 ^ 1074
def prodC (a b : Nat) (v : Int) : Int := prodN a b - v
/-! ### Square -/
end Go.Proofs.Ytacinenddnfcbaa

namespace Go.Proofs.Ytacinenddnfcbaa
open Go.ChangeShapes Go.WideShapes Go.ChangeAt Go.RowKit Ieee.Own

theorem OpIs.all {er : Int} {c d : Int → Int} {e : Ending} (h : OpIs er c d e) : OpAll er [c] [d] e :=
  ⟨fun h0 => by obtain ⟨a, b, e, h1, h2⟩ := h.1 h0; exact ⟨a, b, e, h1.all, h2.all⟩, h.2⟩
/-! ### outwards -/
/-- harder to lie below, lower ends -/
theorem DnAll.mono {cs ds : List (Int → Int)} {w x : Nat} (h : DnAll cs w) (k : DnAll ds x) (hcd : ∀ u, (∀ c ∈ cs, 0 ≤ c u) → ∀ d ∈ ds, 0 ≤ d u) : V w ≤ V x := k.top w h.fin (hcd _ h.le)
theorem UpAll.mono {cs ds : List (Int → Int)} {w x : Nat} (h : UpAll cs w) (k : UpAll ds x) (hcd : ∀ u, (∀ c ∈ cs, c u ≤ 0) → ∀ d ∈ ds, d u ≤ 0) : V x ≤ V w := k.low w h.fin (hcd _ h.ge)
end Go.Proofs.Ytacinenddnfcbaa

namespace Go.Proofs.Ytacinenddnfcbaa
open Go.ChangeShapes Go.WideShapes Go.ChangeAt Go.RowKit Ieee.Own

/-! ### results that lie in a block -/
theorem results_cell1 {fn : Func} {p : Tmp} {ty : TypeId} (h : fn.results = #[.cell p ty]) (tmps : Array Value) (P : Program) (w : World) :
    (results fn tmps).run P w = ((asAddr (tmps.getD p undef)).run P w).andThen fun a w₁ => (loadVar ty a).run P w₁ := by
  simp only [results, h]
  simp [Sem.run_bind, Result.andThen]
/-! ### Check -/
/-! ### ends, brought outwards -/
theorem V_zero_iff {x : Nat} (h : FinW x) : V x = 0 ↔ x % 9223372036854775808 = 0 := by
  have := V_abs' x h
  have := val_zero_iff 52 (x % 9223372036854775808)
  omega
/-! ### Make, outwards -/
/-! ### about -/
end Go.Proofs.Ytacinenddnfcbaa

namespace Go.Proofs.Ytacinenddnfcbaa
open Go.ChangeShapes Go.WideShapes Go.ChangeAt Go.RowKit Ieee.Own

end Go.Proofs.Ytacinenddnfcbaa

namespace Go.Proofs.Ytacinenddnfcbaa
open Go.ChangeShapes Go.WideShapes Go.ChangeAt Go.RowKit Ieee.Own

theorem Blocks.drew {w wr : World} {os : List Obj} (S : Blocks w os wr) : Blocks w os wr.drew := ⟨S.old.drew, S.more, S.at_⟩
/-! ### Neg -/
/-! ### Root -/
/-! ### Add, Sub -/
end Go.Proofs.Ytacinenddnfcbaa

namespace Go.Proofs.Ytacinenddnfcbaa
open Go.ChangeShapes Go.WideShapes Go.ChangeAt Go.RowKit Ieee.Own

end Go.Proofs.Ytacinenddnfcbaa

namespace Go.Proofs.Ytacinenddnfcbaa
open Go.ChangeShapes Go.WideShapes Go.ChangeAt Go.RowKit Ieee.Own

def mxW (x y : Nat) : Nat := match FloatKind.f64.format.order x y with
  | some .lt => y
  | some .gt => x
  | _ => if (FloatKind.f64.decode x).neg then y else x
def mnW (x y : Nat) : Nat := match FloatKind.f64.format.order x y with
  | some .lt => x
  | some .gt => y
  | _ => if (FloatKind.f64.decode x).neg then x else y
theorem order_some {x y : Nat} (hx : FinW x) (hy : FinW y) : ∃ o, FloatKind.f64.format.order x y = some o := ⟨_, order64 x y hx.1 hy.1 (fin_nn hx) (fin_nn hy)⟩
theorem max2_any {P : Program} {x y : Nat} (hx : FinW x) (hy : FinW y) (w : World) : (Builtin.max2 (.float .f64 x) (.float .f64 y)).run P w = .ok (.float .f64 (mxW x y)) w := by
  obtain ⟨o, h⟩ := order_some hx hy
  unfold Builtin.max2 mxW
  simp only [h]
  cases o <;> rfl
theorem min2_any {P : Program} {x y : Nat} (hx : FinW x) (hy : FinW y) (w : World) : (Builtin.min2 (.float .f64 x) (.float .f64 y)).run P w = .ok (.float .f64 (mnW x y)) w := by
  obtain ⟨o, h⟩ := order_some hx hy
  unfold Builtin.min2 mnW
  simp only [h]
  cases o <;> rfl
theorem order_V {x y : Nat} (hx : FinW x) (hy : FinW y) : (FloatKind.f64.format.order x y = some .lt ↔ V x < V y) ∧ (FloatKind.f64.format.order x y = some .gt ↔ V y < V x) := by
  have a := lt_words hx hy
  have b := gt_words hx hy
  constructor
  · constructor
    · intro h; rw [h] at a; exact of_decide_eq_true (a.symm.trans rfl)
    · intro h; rw [decide_eq_true h] at a; exact eq_of_beq a
  · constructor
    · intro h; rw [h] at b; exact of_decide_eq_true (b.symm.trans rfl)
    · intro h; rw [decide_eq_true h] at b; exact eq_of_beq b
theorem mxW_spec {x y : Nat} (hx : FinW x) (hy : FinW y) : (mxW x y = x ∨ mxW x y = y) ∧ V x ≤ V (mxW x y) ∧ V y ≤ V (mxW x y) := by
  obtain ⟨o, h⟩ := order_some hx hy
  obtain ⟨a, b⟩ := order_V hx hy
  unfold mxW
  rw [h] at a b ⊢
  cases o with
  | lt => have := a.1 rfl; exact ⟨Or.inr rfl, by show V x ≤ V y; omega, Int.le_refl _⟩
  | gt => have := b.1 rfl; exact ⟨Or.inl rfl, Int.le_refl _, by show V y ≤ V x; omega⟩
  | eq =>
    have n1 : ¬ V x < V y := fun h => by have := a.2 h; simp at this
    have n2 : ¬ V y < V x := fun h => by have := b.2 h; simp at this
    show ((if _ then y else x) = x ∨ (if _ then y else x) = y) ∧ V x ≤ V (if _ then y else x) ∧ V y ≤ V (if _ then y else x)
    split
    · exact ⟨Or.inr rfl, by omega, by omega⟩
    · exact ⟨Or.inl rfl, by omega, by omega⟩
theorem mnW_spec {x y : Nat} (hx : FinW x) (hy : FinW y) : (mnW x y = x ∨ mnW x y = y) ∧ V (mnW x y) ≤ V x ∧ V (mnW x y) ≤ V y := by
  obtain ⟨o, h⟩ := order_some hx hy
  obtain ⟨a, b⟩ := order_V hx hy
  unfold mnW
  rw [h] at a b ⊢
  cases o with
  | lt => have := a.1 rfl; exact ⟨Or.inl rfl, Int.le_refl _, by show V x ≤ V y; omega⟩
  | gt => have := b.1 rfl; exact ⟨Or.inr rfl, by show V y ≤ V x; omega, Int.le_refl _⟩
  | eq =>
    have n1 : ¬ V x < V y := fun h => by have := a.2 h; simp at this
    have n2 : ¬ V y < V x := fun h => by have := b.2 h; simp at this
    show ((if _ then x else y) = x ∨ (if _ then x else y) = y) ∧ V (if _ then x else y) ≤ V x ∧ V (if _ then x else y) ≤ V y
    split
    · exact ⟨Or.inl rfl, by omega, by omega⟩
    · exact ⟨Or.inr rfl, by omega, by omega⟩
theorem mxW_fin {x y : Nat} (hx : FinW x) (hy : FinW y) : FinW (mxW x y) := by
  rcases (mxW_spec hx hy).1 with h | h <;> rw [h] <;> assumption
theorem mnW_fin {x y : Nat} (hx : FinW x) (hy : FinW y) : FinW (mnW x y) := by
  rcases (mnW_spec hx hy).1 with h | h <;> rw [h] <;> assumption
section
variable {P : Program} {x y z u : Nat} (hx : FinW x) (hy : FinW y) (hz : FinW z) (hu : FinW u) (ts : Array TypeId) (t : TypeId) (w : World)
include hx hy
theorem run_maxf2 : (Builtin.max_ ts t #[.float .f64 x, .float .f64 y]).run P w = .ok (.float .f64 (mxW x y)) w := by
  simp [Builtin.max_, max2_any hx hy]
theorem run_minf2 : (Builtin.min_ ts t #[.float .f64 x, .float .f64 y]).run P w = .ok (.float .f64 (mnW x y)) w := by
  simp [Builtin.min_, min2_any hx hy]
include hz
include hu
end
end Go.Proofs.Ytacinenddnfcbaa
