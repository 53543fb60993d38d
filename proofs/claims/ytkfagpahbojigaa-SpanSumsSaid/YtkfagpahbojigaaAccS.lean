/- Proved here: what the reference's long sums answer when their sign is read, over the translated code. -/
import Derived.Test.YtkfagpahbojigaaAcc
import Derived.Test.YtkfagpahbojigaaAccRm
import Derived.WalkSmall
namespace Go.Proofs.Ytkfagpahbojigaa
open Go.ChangeShapes Go.WideShapes Go.ChangeAt Go.RowKit Ieee.Own

theorem ret_i {k : IntKind} {a b : Int} (h : a = b) : Ending.returned (.int k a) = .returned (.int k b) := by rw [h]

theorem ret_b {a b : Bool} (h : a = b) : Ending.returned (.bool a) = .returned (.bool b) := by rw [h]

/-! ### the sign: of a number z that the words tell, of magnitude below 2^1535 -/
def signI (z : Int) : Int := if z < 0 then -1 else if z = 0 then 0 else 1
theorem sign_any (k : Nat) (z : Int) (ws : Nat → Nat) (w : World) (H : Holds k w z ws) (hneg : z < 0 ↔ ws 23 / 9223372036854775808 = 1) (hz : z = 0 ↔ ∀ i, i < 24 → ws i = 0) :
    Calls Try.prog 32 #[.pointer (some ⟨k, 0, none⟩)] w fun e w' => e = .returned (.int .i64 (signI z)) ∧ w = w' := by
  have c23 := H.cell 23 (by omega)
  have hc := Lib.hid H.cell
  have hl := H.lt 23
  unfold signI
  by_cases h1 : z < 0
  · rw [if_pos h1]
    have t : ((ws 23 : Int) / 9223372036854775808 == 1) = true := by have := hneg.1 h1; simp; omega
    generalize ws 23 = x at *
    clear hneg hz h1 H hl
    go_enter Try.func32, Try.ntmps32
    go_wp2
    go_ret
    exact ⟨rfl, rfl⟩
  rw [if_neg h1]
  have t : ((ws 23 : Int) / 9223372036854775808 == 1) = false := by
    have : ¬ ws 23 / 9223372036854775808 = 1 := fun h => h1 (hneg.2 h)
    simp; omega
  replace hz := Lib.hid hz
  generalize hG : (if z = 0 then (0 : Int) else 1) = G
  replace hG := Lib.hid hG
  clear hneg h1 H hl
  go_enter Try.func32, Try.ntmps32
  go_wp2
  go_loop [3] (fun s => ∃ j : Nat, j ≤ 24 ∧ s = .int .i64 j ∧ ∀ t, t < j → ws t = 0) (fun s => 24 - (intOf s).toNat)
  case atStart => exact ⟨0, by omega, rfl, fun t ht => by omega⟩
  case round =>
    obtain ⟨j, hj, rfl, ha⟩ := hrel
    replace ha := Lib.hid ha
    by_cases hlt : j < 24
    · have g := hc.out j hlt
      by_cases hb : ws j = 0
      · have ha' : Hid (∀ t, t < j + 1 → ws t = 0) := by
          intro t ht
          by_cases e : t = j
          · rw [e]; exact hb
          · exact ha.out t (by omega)
        rw [hb] at g
        clear hb
        go_wp2
        go_round
        case rel => exact ⟨j + 1, hlt, by go_num, ha'.out⟩
        case measure => simp [intOf]; omega
      · have hF : Hid (1 = G) := (if_neg (fun h => hb (hz.out.1 h j hlt))).symm.trans hG.out
        have tb : ((ws j : Int) != 0) = true := by simp; omega
        clear hb
        go_wp2
        go_ret
        exact ⟨ret_i hF.out, rfl⟩
    · obtain rfl : j = 24 := by omega
      have hF : Hid (0 = G) := (if_pos (hz.out.2 ha.out)).symm.trans hG.out
      go_wp2
      go_ret
      exact ⟨ret_i hF.out, rfl⟩
end Go.Proofs.Ytkfagpahbojigaa
