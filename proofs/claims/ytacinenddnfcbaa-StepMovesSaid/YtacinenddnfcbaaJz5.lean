/- Proved here: what the texts Cor, Smu, Sdv, Sin prove, one behind the other. -/
import Derived.Test.YtacinenddnfcbaaJz4
import Derived.BigQuiet
import Derived.Deep.CutRange
import Derived.Deep.RegionHeld
import Derived.Test.YtacinenddnfcbaaJz3

namespace Go.Proofs.Ytacinenddnfcbaa
open Go.ChangeShapes Go.WideShapes Go.ChangeAt Go.RowKit Ieee.Own

/-- a block of the call's own that holds a span -/
structure Blk (w : World) (g x y : Nat) : Prop where
  lt : g < w.heap.size
  lo : w.cell? ⟨g, 0, none⟩ = some (.float .f64 x)
  hi : w.cell? ⟨g, 1, none⟩ = some (.float .f64 y)
  f0 : w.frozen? ⟨g, 0, none⟩ = false
  f1 : w.frozen? ⟨g, 1, none⟩ = false
theorem cell_on {B : Nat} {w w' : World} (h : Below B w w') (a : Addr) (hb : a.block < B) : w'.cell? a = w.cell? a := by
  unfold World.cell?; rw [h.block _ hb]
theorem frozen_on {B : Nat} {w w' : World} (h : Below B w w') (a : Addr) (hb : a.block < B) : w'.frozen? a = w.frozen? a := by
  unfold World.frozen?; rw [h.block _ hb]
theorem Blk.on {w w' : World} {g x y : Nat} (b : Blk w g x y) (h : Below w.heap.size w w') : Blk w' g x y :=
  ⟨Nat.lt_of_lt_of_le b.lt h.size, (cell_on h _ b.lt).trans b.lo, (cell_on h _ b.lt).trans b.hi, (frozen_on h _ b.lt).trans b.f0, (frozen_on h _ b.lt).trans b.f1⟩
theorem below_drewN {B : Nat} {u w : World} (h : Below B u w) (n : Nat) : Below B u (w.drewN n) := ⟨h.1, h.2, h.3, h.4, h.5⟩
def put2 (w : World) (g s t : Nat) : World := (w.setCell ⟨g, 0, none⟩ (.float .f64 s)).setCell ⟨g, 1, none⟩ (.float .f64 t)
theorem put2_size (w : World) (g s t : Nat) : (put2 w g s t).heap.size = w.heap.size := by unfold put2; simp
theorem Blk.put {w : World} {g x y : Nat} (b : Blk w g x y) (s t : Nat) : Blk (put2 w g s t) g s t := by
  obtain ⟨v0, h0⟩ := cell?_setCell_some (w := w) (p := ⟨g, 0, none⟩) (x := .float .f64 s) (q := ⟨g, 1, none⟩) (v := _) b.hi
  refine ⟨by rw [put2_size]; exact b.lt, ?_, ?_, ?_, ?_⟩
  · unfold put2
    rw [World.cell?_setCell_other _ _ _ _ (by simp)]
    exact World.cell?_setCell_same _ _ _ b.lo
  · unfold put2
    exact World.cell?_setCell_same _ _ _ h0
  · unfold put2; rw [World.frozen?_setCell, World.frozen?_setCell]; exact b.f0
  · unfold put2; rw [World.frozen?_setCell, World.frozen?_setCell]; exact b.f1
theorem Blk.other {w : World} {g h x y : Nat} (b : Blk w g x y) (hg : g ≠ h) (s t : Nat) : Blk (put2 w h s t) g x y := by
  refine ⟨by rw [put2_size]; exact b.lt, ?_, ?_, ?_, ?_⟩
  · unfold put2
    rw [World.cell?_setCell_other _ _ _ _ (by simp), World.cell?_setCell_other _ _ _ _ (by simp)]
    exact b.lo
  · unfold put2
    rw [World.cell?_setCell_other _ _ _ _ (by simp), World.cell?_setCell_other _ _ _ _ (by simp)]
    exact b.hi
  · unfold put2; rw [World.frozen?_setCell, World.frozen?_setCell]; exact b.f0
  · unfold put2; rw [World.frozen?_setCell, World.frozen?_setCell]; exact b.f1
theorem put2_below {B : Nat} {u w : World} (h : Below B u w) {g : Nat} (hg : B ≤ g) (s t : Nat) : Below B u (put2 w g s t) := (h.setCell hg _).setCell hg _

/-! ### the region: which of its values hang on nothing that is drawn -/
def corD (g : FuncId) (wz a1 a2 b1 b2 : Nat) (es : List (Nat × Nat)) : List (Option Value) := [some (.func (.func g) #[] #[]),
  some (.pointer (some ⟨wz, 0, none⟩)),
  some (.float .f64 a1),
  some (.pointer (some ⟨wz + 1, 0, none⟩)),
  some (.float .f64 b1),
  some (spanV (es.getD 0 (0, 0)).1 (es.getD 0 (0, 0)).2),
  some (.func (.func g) #[] #[]),
  some (.pointer (some ⟨wz, 0, none⟩)),
  some (.float .f64 a1),
  some (.pointer (some ⟨wz + 1, 1, none⟩)),
  some (.float .f64 b2),
  some (spanV (es.getD 1 (0, 0)).1 (es.getD 1 (0, 0)).2),
  some (.func (.func g) #[] #[]),
  some (.pointer (some ⟨wz, 1, none⟩)),
  some (.float .f64 a2),
  some (.pointer (some ⟨wz + 1, 0, none⟩)),
  some (.float .f64 b1),
  some (spanV (es.getD 2 (0, 0)).1 (es.getD 2 (0, 0)).2),
  some (.func (.func g) #[] #[]),
  some (.pointer (some ⟨wz, 1, none⟩)),
  some (.float .f64 a2),
  some (.pointer (some ⟨wz + 1, 1, none⟩)),
  some (.float .f64 b2),
  some (spanV (es.getD 3 (0, 0)).1 (es.getD 3 (0, 0)).2),
  none,
  none,
  none,
  none,
  none,
  none,
  none,
  none]
/-- what operation 24 + j's block holds: nothing yet, or corner j -/
def corE (es : List (Nat × Nat)) (L : List (Option Value)) (j : Nat) : Nat × Nat := if (L[28 + j]?.getD none).isSome then es.getD j (0, 0) else (0, 0)
structure CorW (g : FuncId) (wz a1 a2 b1 b2 : Nat) (es : List (Nat × Nat)) (w1 : World) (L : List (Option Value)) (w : World) : Prop where
  old : Below w1.heap.size w1 w
  det : ∀ (i : Nat) (v u : Value), L[i]? = some (some v) → (corD g wz a1 a2 b1 b2 es)[i]? = some (some u) → v = u
  blk : ∀ (j : Nat), j < 4 → ∀ v : Value, L[24 + j]? = some (some v) → ∃ h, v = .pointer (some ⟨h, 0, none⟩) ∧ w1.heap.size ≤ h ∧ Blk w h (corE es L j).1 (corE es L j).2
  apart : ∀ (j k : Nat), j < 4 → k < 4 → j ≠ k → ∀ v u : Value, L[24 + j]? = some (some v) → L[24 + k]? = some (some u) → v ≠ u
  ord : ∀ (j : Nat), j < 4 → L[24 + j]? = some none → ∀ o : Value, L[28 + j]? ≠ some (some o)
section
variable {g : FuncId} {wz a1 a2 b1 b2 : Nat} {es : List (Nat × Nat)} {w1 w w' : World} {L : List (Option Value)}
theorem CorW.on (H : CorW g wz a1 a2 b1 b2 es w1 L w) (h : Below w.heap.size w w') : CorW g wz a1 a2 b1 b2 es w1 L w' :=
  ⟨H.old.trans (h.mono H.old.size), H.det, fun j hj v hv => by obtain ⟨x, e, l, b⟩ := H.blk j hj v hv; exact ⟨x, e, l, b.on h⟩, H.apart, H.ord⟩
end

theorem nones_get (n i : Nat) (v : Value) : (nones n)[i]? ≠ some (some v) := by unfold nones; simp [List.getElem?_replicate]
end Go.Proofs.Ytacinenddnfcbaa

namespace Go.Proofs.Ytacinenddnfcbaa
open Go.ChangeShapes Go.WideShapes Go.ChangeAt Go.RowKit Ieee.Own

/-! ### the four corners -/
/-- a world that is another but for draws -/
def Drawn (w w' : World) : Prop := ∃ m, w' = w.drewN m
theorem Drawn.refl (w : World) : Drawn w w := ⟨0, rfl⟩
theorem Drawn.more {w w' : World} (h : Drawn w w') (n : Nat) : Drawn w (w'.drewN n) := by
  obtain ⟨m, rfl⟩ := h; exact ⟨m + n, by rw [World.drewN_drewN]⟩
theorem Drawn.below {w w' : World} (d : Drawn w w') (B : Nat) : Below B w w' := by
  obtain ⟨m, rfl⟩ := d; exact ⟨rfl, rfl, rfl, Nat.le_refl _, fun _ _ => rfl⟩
theorem Drawn.cell {w w' : World} (d : Drawn w w') (a : Addr) : w'.cell? a = w.cell? a := by obtain ⟨m, rfl⟩ := d; rfl
def cornersL (X Y : List Nat) : List (Int → Int) := List.zipWith prodC X Y
/-- what the loop over the corners has found behind i of them -/
def MulAt (cs : List (Int → Int)) (i lo hi : Nat) : Prop := 0 < i → DnAll (cs.take i) lo ∧ UpAll (cs.take i) hi
theorem corners_succ {X Y : List Nat} {i : Nat} (hX : i < X.length) (hY : i < Y.length) : (cornersL X Y).take (i + 1) = (cornersL X Y).take i ++ [prodC (X.getD i 0) (Y.getD i 0)] := by
  have h : i < (cornersL X Y).length := by unfold cornersL; simp; omega
  rw [List.take_add_one, List.getElem?_eq_getElem h]
  unfold cornersL
  simp [List.getD, hX, hY]
  exact List.getElem_zipWith
theorem MulAt.one {X Y : List Nat} {d u : Nat} (hX : 0 < X.length) (hY : 0 < Y.length) (hd : Dn (prodC (X.getD 0 0) (Y.getD 0 0)) d) (hu : Up (prodC (X.getD 0 0) (Y.getD 0 0)) u) : MulAt (cornersL X Y) (0 + 1) d u := by
  intro _
  rw [corners_succ hX hY]
  exact ⟨hd.all, hu.all⟩
end Go.Proofs.Ytacinenddnfcbaa

namespace Go.Proofs.Ytacinenddnfcbaa
open Go.ChangeShapes Go.WideShapes Go.ChangeAt Go.RowKit Ieee.Own

end Go.Proofs.Ytacinenddnfcbaa

namespace Go.Proofs.Ytacinenddnfcbaa
open Go.ChangeShapes Go.WideShapes Go.ChangeAt Go.RowKit Ieee.Own

/-- does all of the one span lie in the other? -/
def insB (a b c d : Nat) : Bool := decide (errSS a b c d = 0 ∧ V c ≤ V a ∧ V b ≤ V d)
end Go.Proofs.Ytacinenddnfcbaa
