/- Proved here: what the texts Daf, Dar prove, one behind the other. -/
import Derived.Test.YtpnncmdeidbemaaDoorJs1

namespace Go.Proofs.YtpnncmdeidbemaaDoor
open Go.ChangeShapes Go.WideShapes Go.ChangeAt Go.RowKit

theorem bcell {W w1 : World} {B : Nat} (hb : Below B W w1) : (∀ b o, b < B → w1.cell? ⟨b, o, none⟩ = W.cell? ⟨b, o, none⟩) :=
  fun b o h => hb.cell (p := ⟨b, o, none⟩) h
/-- an instant and an error, whatever the date -/
def fromV (y m d h i s k : Int) : Value := if isD y m d h i s k = true ∧ isI (inst y m d h i s k) = true then .tuple #[.int .i64 (inst y m d h i s k), .int .i64 0] else .tuple #[.int .i64 0, .int .i64 80]
theorem fromV_t {y m d h i s k : Int} (H : isD y m d h i s k = true) (I : isI (inst y m d h i s k) = true) : fromV y m d h i s k = .tuple #[.int .i64 (inst y m d h i s k), .int .i64 0] := if_pos ⟨H, I⟩
theorem fromV_f {y m d h i s k : Int} (H : isD y m d h i s k = false) : fromV y m d h i s k = .tuple #[.int .i64 0, .int .i64 80] := if_neg fun h => by rw [H] at h; cases h.1
theorem fromV_i {y m d h i s k : Int} (I : isI (inst y m d h i s k) = false) : fromV y m d h i s k = .tuple #[.int .i64 0, .int .i64 80] := if_neg fun h => by rw [I] at h; cases h.2
theorem date_block (w : World) (y m d h i s k : Int) : Below w.heap.size w (w.alloc (.cells #[.int .i64 y, .int .i64 m, .int .i64 d, .int .i64 h, .int .i64 i, .int .i64 s, .int .i64 k] 24)) := (Below.refl _ _).alloc (Nat.le_refl _) _

end Go.Proofs.YtpnncmdeidbemaaDoor

namespace Go.Proofs.YtpnncmdeidbemaaDoor
open Go.ChangeShapes Go.WideShapes Go.ChangeAt Go.RowKit

/-- the last month's days do not refuse: the tests' facts -/
def DayOk (y m d : Int) : Prop := ((m == 14) = false) ∨ ((m == 14) = true ∧ ((lng y = true ∧ decide (2 < d) = false) ∨ (lng y = false ∧ decide (1 < d) = false)))
theorem dayOk_of {y m d : Int} (h : ¬ (m = 14 ∧ mLen y 14 < d)) : DayOk y m d := by
  by_cases hm : m = 14
  · right
    refine ⟨by rw [hm]; rfl, ?_⟩
    have hd : ¬ mLen y 14 < d := fun e => h ⟨hm, e⟩
    unfold mLen at hd
    rw [if_neg (by decide)] at hd
    cases hl : lng y with
    | true => rw [hl, if_pos rfl] at hd; exact .inl ⟨rfl, decide_eq_false hd⟩
    | false => rw [hl, if_neg (by decide)] at hd; exact .inr ⟨rfl, decide_eq_false hd⟩
  · left; simpa using hm
end Go.Proofs.YtpnncmdeidbemaaDoor
