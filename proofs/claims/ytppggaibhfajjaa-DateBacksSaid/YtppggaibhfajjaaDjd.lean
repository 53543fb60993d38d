/- Proved here: what the reference's Check answers to a list of jumps, over the translated code. -/
import Derived.Test.YtppggaibhfajjaaDjc
namespace Go.Proofs.Ytppggaibhfajjaa
open Go.ChangeShapes Go.WideShapes Go.ChangeAt Go.RowKit

theorem drewN_more (w : World) (m n : Nat) : (w.drewN m).drewN n = w.drewN (m + n) := by simp
set_option maxHeartbeats 1000000 in
theorem rcheck_run (ao : Option Addr) (cap n : Nat) (L : List (Int × Int)) (w : World) (hn : n = L.length) (hm : n ≤ 4611686018427387904) (ha : JAt w ao L) :
    Calls Try.prog 20 #[.slice ao n cap] w fun e w' => e = .returned (.int .i64 (chkJ L)) ∧ ∃ m, w' = w.drewN m := by
  by_cases hl : 64 < n
  · have t1 : decide (64 < n) = true := decide_eq_true hl
    rw [chkJ_long (by omega)]
    clear hn ha
    go_enter Try.func20, Try.ntmps20
    go_wp2_with fail
    go_ret
    exact ⟨rfl, 0, rfl⟩
  · have t1 : decide (64 < n) = false := decide_eq_false hl
    replace hn := Lib.hid hn
    replace ha := Lib.hid ha
    obtain ⟨V, hV⟩ : ∃ V, V = chkJ L := ⟨_, rfl⟩
    rw [← hV]
    replace hV := Lib.hid hV
    go_enter Try.func20, Try.ntmps20
    go_wp2_with fail
    go_loopw [3] (fun iv wr => ∃ (i m : Nat), i ≤ n ∧ iv = .int .i64 i ∧ OkTo L i ∧ wr = w.drewN m) (fun iv _ => n - (intOf iv).toNat)
    case atStart => exact ⟨0, 0, Nat.zero_le _, rfl, fun j hj => by omega, rfl⟩
    case round =>
      obtain ⟨i, m, hi, rfl, ho, rfl⟩ := hrel
      by_cases hlt : i < n
      · have hil : i < L.length := by have := hn.out; omega
        obtain ⟨b, o, rfl, c1, c2⟩ := ha.out i hil
        obtain ⟨x, hx⟩ : ∃ x, x = jAt L i := ⟨_, rfl⟩
        obtain ⟨y, hy⟩ : ∃ y, y = jAdd L i := ⟨_, rfl⟩
        rw [← hx] at c1
        rw [← hy] at c2
        have bad : Hid (¬ okJ L i → V = 81) := fun h => by rw [hV.out]; exact chkJ_bad (by have := hn.out; omega) (goodJ_not hil h)
        by_cases x1 : x < -1125899906842624
        · have hv : Hid (V = 81) := bad.out (fun h => by have := h.1; rw [← hx] at this; omega)
          have tx : decide (x < -1125899906842624) = true := decide_eq_true x1
          clear hx hy bad x1 ho
          go_wp2_with fail
          go_ret
          exact ⟨ret_i hv.out.symm, m, rfl⟩
        have tx1 : decide (x < -1125899906842624) = false := decide_eq_false x1
        by_cases x2 : 1125899906842624 < x
        · have hv : Hid (V = 81) := bad.out (fun h => by have := h.1; rw [← hx] at this; omega)
          have tx : decide (1125899906842624 < x) = true := decide_eq_true x2
          clear hx hy bad x1 x2 ho
          go_wp2_with fail
          go_ret
          exact ⟨ret_i hv.out.symm, m, rfl⟩
        have tx2 : decide (1125899906842624 < x) = false := decide_eq_false x2
        by_cases hy1 : y = 1024 ∨ y = -1024
        · have ty : (y != 1024) = false ∨ ((y != 1024) = true ∧ (y != -1024) = false) := by
            rcases hy1 with rfl | rfl
            · exact .inl rfl
            · exact .inr ⟨rfl, rfl⟩
          by_cases hz : i = 0
          · subst hz
            have hok : Hid (OkTo L (0 + 1)) := fun j hj => by
              have e : j = 0 := by omega
              rw [e]
              exact ⟨by rw [← hx]; omega, by rw [← hy]; exact hy1, fun h => by omega⟩
            rw [Nat.zero_mul, Nat.add_zero] at c1 c2
            clear hx hy bad hy1 ho x1 x2
            rcases ty with ty | ⟨ty, ty2⟩
            all_goals
              go_wp2_with fail
              go_quiet (fail)
              go_wp2_with fail
              go_roundw
              case rel => exact ⟨0 + 1, _, hlt, by go_num, hok.out, rfl⟩
              case measure => simp [intOf]; omega
          · obtain ⟨k, hk⟩ : ∃ k, i = k + 1 := ⟨i - 1, by omega⟩
            obtain ⟨b', o', eb, c3, _⟩ := ha.out k (by omega)
            simp only [Option.some.injEq, Addr.mk.injEq, and_true] at eb
            obtain ⟨rfl, rfl⟩ := eb
            have oz := (ho k (by omega)).1
            have kp : i - 1 = k := by omega
            obtain ⟨z, hzz⟩ : ∃ z, z = jAt L k := ⟨_, rfl⟩
            rw [← hzz] at c3 oz
            obtain ⟨z1, z2⟩ := oz
            have e1 : IntKind.i64.wrap ((i : Int) - 1) = (k : Int) := by rw [IntWalk.i64_in _ (by omega)]; omega
            have e2 : IntKind.i64.wrap (x - z) = x - z := IntWalk.i64_in _ (by omega)
            have kn : k < n := by omega
            have i0 : 0 < i := by omega
            by_cases hd : x - z < 67108864
            · have hv : Hid (V = 81) := bad.out (fun h => by
                have := h.2.2 i0
                rw [kp, ← hx, ← hzz] at this
                omega)
              have tz : decide (x ≤ z) = true ∨ (decide (x ≤ z) = false ∧ decide (x - z < 67108864) = true) := by
                by_cases q : x ≤ z
                · exact .inl (decide_eq_true q)
                · exact .inr ⟨decide_eq_false q, decide_eq_true hd⟩
              replace hk := Lib.hid hk
              clear hx hy bad hy1 ho hzz hd kp hz x1 x2
              rcases ty with ty | ⟨ty, ty2⟩
              all_goals
                rcases tz with tz | ⟨tz, tz2⟩
              all_goals
                go_wp2_with fail
                go_quiet (fail)
                clear e1 e2
                go_wp2_with fail
                go_ret
                exact ⟨ret_i hv.out.symm, _, drewN_more _ _ _⟩
            · have td : decide (x - z < 67108864) = false := decide_eq_false hd
              have tz : decide (x ≤ z) = false := decide_eq_false (by omega)
              have hok : Hid (OkTo L (i + 1)) := fun j hj => by
                by_cases e : j < i
                · exact ho j e
                · have e : j = i := by omega
                  rw [e]
                  exact ⟨by rw [← hx]; omega, by rw [← hy]; exact hy1, fun _ => by rw [kp, ← hx, ← hzz]; omega⟩
              replace hk := Lib.hid hk
              clear hx hy bad hy1 ho hzz hd kp hz x1 x2
              rcases ty with ty | ⟨ty, ty2⟩
              all_goals
                go_wp2_with fail
                go_quiet (fail)
                clear e1 e2
                go_wp2_with fail
                go_roundw
                case rel => exact ⟨i + 1, _, hlt, by go_num, hok.out, rfl⟩
                case measure => simp [intOf]; omega
        · have y1 : (y != 1024) = true := by simp; omega
          have y2 : (y != -1024) = true := by simp; omega
          have hv : Hid (V = 81) := bad.out (fun h => hy1 (by rw [hy]; exact h.2.1))
          clear hx hy bad hy1 x1 x2 ho
          go_wp2_with fail
          go_ret
          exact ⟨ret_i hv.out.symm, m, rfl⟩
      · obtain rfl : i = n := by omega
        have hv : V = 0 := by
          rw [hV.out]
          exact chkJ_good (by have := hn.out; omega) (goodJ_iff.2 fun j hj => ho j (by have := hn.out; omega))
        replace hv := Lib.hid hv
        clear ho
        go_wp2_with fail
        go_ret
        exact ⟨ret_i hv.out.symm, m, rfl⟩
end Go.Proofs.Ytppggaibhfajjaa
