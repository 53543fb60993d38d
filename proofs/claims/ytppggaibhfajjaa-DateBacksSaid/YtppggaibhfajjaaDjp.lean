/- Proved here: what passed and added answer to a list of jumps, over the translated code. -/
import Derived.Test.YtppggaibhfajjaaDjc
namespace Go.Proofs.Ytppggaibhfajjaa
open Go.ChangeShapes Go.WideShapes Go.ChangeAt Go.RowKit

set_option maxHeartbeats 1000000 in
theorem passed_run (ao : Option Addr) (cap n : Nat) (L : List (Int × Int)) (t : Int) (w : World) (hn : n = L.length) (hm : n ≤ 64) (ha : JAt w ao L) :
    Calls Try.prog 38 #[.slice ao n cap, .int .i64 t] w fun e w' => e = .returned (.int .i64 (pas L t : Int)) ∧ w = w' := by
  replace hn := Lib.hid hn
  replace ha := Lib.hid ha
  obtain ⟨V, hV⟩ : ∃ V, V = pas L t := ⟨_, rfl⟩
  rw [← hV]
  replace hV := Lib.hid hV
  go_enter Try.func38, Try.ntmps38
  go_wp2_with fail
  go_loop [5] (fun iv => ∃ i : Nat, i ≤ n ∧ iv = .int .i64 i ∧ ∀ j, j < i → jAt L j ≤ t) (fun iv => n - (intOf iv).toNat)
  case atStart => exact ⟨0, Nat.zero_le _, rfl, fun j hj => by omega⟩
  case round =>
    obtain ⟨i, hi, rfl, hp⟩ := hrel
    by_cases hlt : i < n
    · obtain ⟨b, o, rfl, c1, _⟩ := ha.out i (by have := hn.out; omega)
      by_cases hx : jAt L i ≤ t
      · have hp2 : Hid (∀ j, j < i + 1 → jAt L j ≤ t) := fun j hj => by
          by_cases e : j < i
          · exact hp j e
          · have e : j = i := by omega
            rw [e]; exact hx
        have tx : decide (jAt L i ≤ t) = true := decide_eq_true hx
        generalize jAt L i = x at *
        clear hp hx
        go_wp2_with fail
        go_round
        case rel => exact ⟨i + 1, hlt, by go_num, hp2.out⟩
        case measure => simp [intOf]; omega
      · have hv : V = i := by
          rw [hV.out]
          exact pas_eq ⟨by have := hn.out; omega, hp, fun _ => by omega⟩
        have tx : decide (jAt L i ≤ t) = false := decide_eq_false hx
        generalize jAt L i = x at *
        replace hv := Lib.hid hv
        clear hp hx
        go_wp2_with fail
        go_ret
        exact ⟨ret_i (congrArg Nat.cast hv.out.symm), rfl⟩
    · obtain rfl : i = n := by omega
      have hv : V = i := by
        rw [hV.out]
        exact pas_eq ⟨by have := hn.out; omega, hp, fun e => by have := hn.out; omega⟩
      replace hv := Lib.hid hv
      clear hp
      go_wp2_with fail
      go_ret
      exact ⟨ret_i (congrArg Nat.cast hv.out.symm), rfl⟩
theorem jAdd_take {L : List (Int × Int)} {k i : Nat} (h : i < k) : jAdd (L.take k) i = jAdd L i := by
  unfold jAdd
  simp [List.getD, h]
theorem jsum_take {L : List (Int × Int)} {k : Nat} : ∀ n : Nat, n ≤ k → jsum (L.take k) n = jsum L n
  | 0, _ => rfl
  | n + 1, h => by
    rw [jsum_succ, jsum_succ, jsum_take n (by omega), jAdd_take (by omega)]
/-- the sum of what the first k add, where they lie as a list of their own -/
theorem added_run (ao : Option Addr) (cap k : Nat) (L : List (Int × Int)) (w : World) (hk : k ≤ L.length) (hm : L.length ≤ 64) (hg : goodJ L = true) (ha : JAt w ao L) :
    Calls Try.prog 37 #[.slice ao k cap] w fun e w' => e = .returned (.int .i64 (jsum L k)) ∧ Below w.heap.size w w' := by
  have km : k ≤ 64 := by omega
  replace hk := Lib.hid hk
  replace hm := Lib.hid hm
  replace ha := Lib.hid ha
  replace hg := Lib.hid hg
  go_enter Try.func37, Try.ntmps37
  go_wp2_with fail
  go_loopw [3, 8] (fun sv iv wr => ∃ i : Nat, i ≤ k ∧ iv = .int .i64 i ∧ sv = .int .i64 (jsum L i) ∧ Below w.heap.size w wr) (fun _ iv _ => k - (intOf iv).toNat)
  case atStart => exact ⟨0, Nat.zero_le _, rfl, rfl, Below.refl _ _⟩
  case round =>
    obtain ⟨i, hi, rfl, rfl, hb⟩ := hrel
    obtain ⟨r1, r2⟩ := jsum_range hg.out i (by have := hk.out; omega)
    by_cases hlt : i < k
    · obtain ⟨b, o, rfl, c1, c2⟩ := (ha.out.below (fun b o e _ => ha.out.lt b o e (by have := hk.out; omega)) hb) i (by have := hk.out; omega)
      have hy := (goodJ_iff.1 hg.out i (by have := hk.out; omega)).2.1
      have hs : Hid (jsum L (i + 1) = jsum L i + jAdd L i) := jsum_succ L i
      have y1 : -1024 ≤ jAdd L i := by omega
      have y2 : jAdd L i ≤ 1024 := by omega
      generalize jAdd L i = y at *
      generalize jAt L i = x at *
      have B1 := Lib.hid (hb.alloc hb.size (.cells #[.int .i64 x, .int .i64 y] 59))
      clear hy hb
      go_wp2_with fail
      go_roundw
      case rel => exact ⟨i + 1, hlt, by go_num, by rw [hs.out], B1.out⟩
      case measure => simp [intOf]; omega
    · obtain rfl : i = k := by omega
      replace hb := Lib.hid hb
      clear r1 r2
      go_wp2_with fail
      go_ret
      exact ⟨rfl, hb.out⟩
end Go.Proofs.Ytppggaibhfajjaa
