/- Proved here: what the texts Fre, Frf prove, one behind the other. -/
import Derived.Test.YtkpdnhbifokhlaaJy5

namespace Go.Proofs.Ytkpdnhbifokhlaa
open Go.ChangeShapes Go.WideShapes Go.ChangeAt Go.RowKit Ieee.Own

/-- the frames from i up to the one that lies in the root -/
def wayF (L : List Fr) : Nat → Int → List Nat
  | 0, _ => []
  | n + 1, i => if i < 0 then [] else i.toNat :: wayF L n (frAt L i.toNat).up
def way (L : List Fr) (i : Int) : List Nat := wayF L 17 i
/-- frames that may be -/
structure FsOk (L : List Fr) : Prop where
  len : L.length ≤ 16
  w : FsW L
  ok : ∀ j, j < L.length → FrOk (frAt L j) j
theorem FsOk.fw {L : List Fr} (h : FsOk L) {j : Nat} (hj : j < L.length) : FrW (frAt L j) := h.w _ (fr_mem hj)
theorem way_root (L : List Fr) : way L (-1) = [] := rfl
noncomputable def rootF (L : List Fr) (d : Nat) : List Nat → V3 → V3 × Int
  | [], v => (v, 0)
  | j :: js, v => if (upR (frAt L j) d v).2 = 0 then rootF L d js (upR (frAt L j) d v).1 else upR (frAt L j) d v
/-- where a walk up stands: what is left -/
def RootAt (L : List Fr) (d : Nat) (A : V3 × Int) (i : Int) (p : V3) (k : Int) : Prop := (k = 0 → rootF L d (way L i) p = A) ∧ (k ≠ 0 → (p, k) = A)
theorem RootAt.fin {L : List Fr} {d : Nat} {A : V3 × Int} {i : Int} {p : V3} {k : Int} (h : RootAt L d A i p k) (e : k = 0 → i = -1) : (p, k) = A := by
  by_cases hk : k = 0
  · subst hk
    have := h.1 rfl
    rw [e rfl, way_root] at this
    exact this
  · exact h.2 hk
theorem ret_vF {A : V3 × Int} {p1 p2 p3 : Nat} {k : Int} (h : ((p1, p2, p3), k) = A) : Ending.returned (.tuple #[.agg #[.float .f64 p1, .float .f64 p2, .float .f64 p3], .int .i64 k]) = .returned (vecE A.1 A.2) := by rw [← h]; rfl
end Go.Proofs.Ytkpdnhbifokhlaa

namespace Go.Proofs.Ytkpdnhbifokhlaa
open Go.ChangeShapes Go.WideShapes Go.ChangeAt Go.RowKit Ieee.Own

/-- a list of ints as records of one cell -/
def inR (M : List Int) : List (List Value) := M.map fun x => [.int .i64 x]
theorem inR_len (M : List Int) : (inR M).length = M.length := by simp [inR]
def OwnN (base : Nat) (w : World) (M : List Int) (v : Value) (w' : World) : Prop := OwnR 3 1 base w (inR M) v w'
end Go.Proofs.Ytkpdnhbifokhlaa
