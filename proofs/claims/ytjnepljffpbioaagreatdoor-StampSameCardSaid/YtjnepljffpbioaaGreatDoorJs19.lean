/- Proved here: what the texts Sva, Svb, Svc, Svm prove, one behind the other. -/
import Derived.Test.YtjnepljffpbioaaGreatDoorJs5
import Derived.StillTailTactics

namespace Go.Proofs.YtjnepljffpbioaaGreatDoor
open Go.ChangeShapes Go.WideShapes Go.ChangeAt Go.RowKit

theorem bl_frozen' {B : Nat} {w w' : World} (h : Below B w w') {g : Nat} (hg : g < B) (k : Nat) : w'.frozen? ⟨g, k, none⟩ = w.frozen? ⟨g, k, none⟩ := by
  unfold World.frozen?
  rw [h.block g hg]
/-- a decimal: 800 digits, how many count, where the point is, two marks -/
structure Dc (w0 : World) (a : Nat) (L : List Int) (nd dp : Int) (u : World) : Prop where
  old : Below w0.heap.size w0 u
  base : w0.heap.size ≤ a
  gin : a < u.heap.size
  len : L.length = 800
  dig : ∀ k, k < 800 → u.cell? ⟨a, k, none⟩ = some (.int .u8 (L.getD k 0))
  ndc : u.cell? ⟨a, 800, none⟩ = some (.int .i64 nd)
  dpc : u.cell? ⟨a, 801, none⟩ = some (.int .i64 dp)
  trc : u.cell? ⟨a, 803, none⟩ = some (.bool false)
  warm : ∀ k, u.frozen? ⟨a, k, none⟩ = false
/-- a new block elsewhere, a write elsewhere: the decimal stays -/
theorem Dc.on {w0 u u' : World} {a : Nat} {L : List Int} {nd dp : Int} (h : Dc w0 a L nd dp u) (hb : Below u.heap.size u u') : Dc w0 a L nd dp u' := by
  have c : ∀ k, u'.cell? ⟨a, k, none⟩ = u.cell? ⟨a, k, none⟩ := fun k => hb.cell (p := ⟨a, k, none⟩) h.gin
  exact ⟨h.old.trans (hb.mono h.old.size), h.base, Nat.lt_of_lt_of_le h.gin hb.size, h.len, fun j hj => (c j).trans (h.dig j hj), (c _).trans h.ndc, (c _).trans h.dpc, (c _).trans h.trc, fun k => (bl_frozen' hb h.gin k).trans (h.warm k)⟩
end Go.Proofs.YtjnepljffpbioaaGreatDoor

namespace Go.Proofs.YtjnepljffpbioaaGreatDoor
open Go.ChangeShapes Go.WideShapes Go.ChangeAt Go.RowKit

end Go.Proofs.YtjnepljffpbioaaGreatDoor

namespace Go.Proofs.YtjnepljffpbioaaGreatDoor
open Go.ChangeShapes Go.WideShapes Go.ChangeAt Go.RowKit

end Go.Proofs.YtjnepljffpbioaaGreatDoor

namespace Go.Proofs.YtjnepljffpbioaaGreatDoor

theorem rneD_scale {N D c : Nat} (hc : 0 < c) : rneD (N * c) (D * c) = rneD N D := by
  unfold rneD
  rw [Nat.mul_div_mul_right _ _ hc, Nat.mul_mod_mul_right]
  have h1 : D * c < 2 * (N % D * c) ↔ D < 2 * (N % D) := by
    rw [show 2 * (N % D * c) = 2 * (N % D) * c by rw [Nat.mul_assoc]]
    exact Nat.mul_lt_mul_right hc
  have h2 : D * c = 2 * (N % D * c) ↔ D = 2 * (N % D) := by
    rw [show 2 * (N % D * c) = 2 * (N % D) * c by rw [Nat.mul_assoc]]
    exact Nat.mul_left_inj (by omega)
  simp only [h1, h2]
theorem rneD_cross {N D N' D' : Nat} (h0 : 0 < D) (h0' : 0 < D') (h : N * D' = N' * D) : rneD N D = rneD N' D' := by
  rw [← rneD_scale (N := N) (D := D) h0', ← rneD_scale (N := N') (D := D') h0, h, Nat.mul_comm D D']
theorem rneD_one (N : Nat) : rneD N 1 = N := by
  unfold rneD
  rw [Nat.div_one, Nat.mod_one, if_neg (by omega)]
  omega
end Go.Proofs.YtjnepljffpbioaaGreatDoor
