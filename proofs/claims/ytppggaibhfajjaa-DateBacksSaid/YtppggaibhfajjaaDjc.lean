/- Proved here: what the program's Check answers to a list of jumps, over the translated code. -/
import Derived.Test.YtppggaibhfajjaaDjl
import Derived.Test.YtppggaibhfajjaaDat
namespace Go.Proofs.Ytppggaibhfajjaa
open Go.ChangeShapes Go.WideShapes Go.ChangeAt Go.RowKit

/-- the first so many jumps may be -/
def OkTo (L : List (Int × Int)) (i : Nat) : Prop := ∀ j, j < i → okJ L j
set_option maxHeartbeats 1000000 in
theorem check_run (ao : Option Addr) (cap n : Nat) (L : List (Int × Int)) (w : World) (hn : n = L.length) (hm : n ≤ 4611686018427387904) (ha : JAt w ao L) :
    Calls Try.prog 19 #[.slice ao n cap] w fun e w' => e = .returned (.int .i64 (chkJ L)) ∧ Below w.heap.size w w' := by
  by_cases hl : 64 < n
  · have t1 : decide (64 < n) = true := decide_eq_true hl
    rw [chkJ_long (by omega)]
    clear hn ha
    go_enter Try.func19, Try.ntmps19
    go_wp2_with fail
    go_ret
    exact ⟨rfl, Below.refl _ _⟩
  · have t1 : decide (64 < n) = false := decide_eq_false hl
    replace hn := Lib.hid hn
    replace ha := Lib.hid ha
    obtain ⟨V, hV⟩ : ∃ V, V = chkJ L := ⟨_, rfl⟩
    rw [← hV]
    replace hV := Lib.hid hV
    go_enter Try.func19, Try.ntmps19
    go_wp2_with fail
    go_loopw [10] (fun iv wr => ∃ i : Nat, i ≤ n ∧ iv = .int .i64 i ∧ OkTo L i ∧ Below w.heap.size w wr) (fun iv _ => n - (intOf iv).toNat)
    case atStart => exact ⟨0, Nat.zero_le _, rfl, fun j hj => by omega, Below.refl _ _⟩
    case round =>
      obtain ⟨i, hi, rfl, ho, hb⟩ := hrel
      by_cases hlt : i < n
      · have hil : i < L.length := by have := hn.out; omega
        obtain ⟨b, o, rfl, c1, c2⟩ := (ha.out.below (fun b o e _ => ha.out.lt b o e (by omega)) hb) i hil
        obtain ⟨x, hx⟩ : ∃ x, x = jAt L i := ⟨_, rfl⟩
        obtain ⟨y, hy⟩ : ∃ y, y = jAdd L i := ⟨_, rfl⟩
        rw [← hx] at c1
        rw [← hy] at c2
        have I := fun w => isinst_run x w
        have bad : Hid (¬ okJ L i → V = 81) := fun h => by rw [hV.out]; exact chkJ_bad (by have := hn.out; omega) (goodJ_not hil h)
        have B1 := Lib.hid (hb.alloc hb.size (.cells #[.int .i64 x, .int .i64 y] 59))
        have d0 : (wr.alloc (.cells #[.int .i64 x, .int .i64 y] 59)).cell? ⟨wr.heap.size, 0, none⟩ = some (.int .i64 x) := World.cell?_alloc_at _ _ _ _ rfl
        have d1 : (wr.alloc (.cells #[.int .i64 x, .int .i64 y] 59)).cell? ⟨wr.heap.size, 1, none⟩ = some (.int .i64 y) := World.cell?_alloc_at _ _ _ _ rfl
        have A1 := Lib.hid ((ha.out.below (fun b o e _ => ha.out.lt b o e (by omega)) hb).alloc (.cells #[.int .i64 x, .int .i64 y] 59))
        replace hb := Lib.hid hb
        cases hI : isI x with
        | false =>
          have hv : Hid (V = 81) := bad.out (fun h => by have := h.1; rw [← hx] at this; rw [isI_t this.1 this.2] at hI; cases hI)
          rw [hI] at I
          clear hI hx hy bad
          go_wp2_with (go_at_call 30; ((with_reducible refine (I _).mono ?_); rintro e w' ⟨rfl, rfl⟩))
          go_ret
          exact ⟨ret_i hv.out.symm, B1.out⟩
        | true =>
          rw [hI] at I
          by_cases hy1 : y = 1024 ∨ y = -1024
          · have ty : (y != 1024) = false ∨ ((y != 1024) = true ∧ (y != -1024) = false) := by
              rcases hy1 with rfl | rfl
              · exact .inl rfl
              · exact .inr ⟨rfl, rfl⟩
            obtain ⟨x1, x2⟩ := isI_b hI
            generalize hW : wr.alloc (.cells #[.int .i64 x, .int .i64 y] 59) = W1 at d0 d1 A1 B1
            by_cases hz : i = 0
            · subst hz
              have hok : Hid (OkTo L (0 + 1)) := fun j hj => by
                have e : j = 0 := by omega
                rw [e]
                exact ⟨by rw [← hx]; exact ⟨x1, x2⟩, by rw [← hy]; exact hy1, fun h => by omega⟩
              rw [Nat.zero_mul, Nat.add_zero] at c1 c2
              clear hI hx hy bad hy1 ho
              rcases ty with ty | ⟨ty, ty2⟩
              all_goals
                go_wp2_with (go_at_call 30; ((with_reducible refine (I _).mono ?_); rintro e w' ⟨rfl, rfl⟩))
                go_quiet (fail)
                go_wp2_with fail
                go_roundw
                case rel => exact ⟨0 + 1, hlt, by go_num, hok.out, bl_drewN B1.out _⟩
                case measure => simp [intOf]; omega
            · obtain ⟨k, hk⟩ : ∃ k, i = k + 1 := ⟨i - 1, by omega⟩
              obtain ⟨b', o', eb, c3, _⟩ := A1.out k (by omega)
              simp only [Option.some.injEq, Addr.mk.injEq, and_true] at eb
              obtain ⟨rfl, rfl⟩ := eb
              have oz := (ho k (by omega)).1
              have kp : i - 1 = k := by omega
              obtain ⟨z, hzz⟩ : ∃ z, z = jAt L k := ⟨_, rfl⟩
              rw [← hzz] at c3 oz
              obtain ⟨z1, z2⟩ := oz
              have e1 : IntKind.i64.wrap ((i : Int) - 1) = (k : Int) := by rw [IntWalk.i64_in _ (by omega)]; omega
              have e2 : IntKind.i64.wrap (x - z) = x - z := IntWalk.i64_in _ (by omega)
              have kn : k < n := by omega
              have i0 : 0 < i := by omega
              by_cases hd : x - z < 67108864
              · have td : decide (x - z < 67108864) = true := decide_eq_true hd
                have hv : Hid (V = 81) := bad.out (fun h => by
                  have := h.2.2 i0
                  rw [kp, ← hx, ← hzz] at this
                  omega)
                replace hk := Lib.hid hk
                clear hI hx hy bad hy1 ho hzz hd kp hz
                rcases ty with ty | ⟨ty, ty2⟩
                all_goals
                  go_wp2_with (go_at_call 30; ((with_reducible refine (I _).mono ?_); rintro e w' ⟨rfl, rfl⟩))
                  go_quiet (fail)
                  clear e1 e2
                  go_wp2_with fail
                  go_ret
                  exact ⟨ret_i hv.out.symm, bl_drewN B1.out _⟩
              · have td : decide (x - z < 67108864) = false := decide_eq_false hd
                have hok : Hid (OkTo L (i + 1)) := fun j hj => by
                  by_cases e : j < i
                  · exact ho j e
                  · have e : j = i := by omega
                    rw [e]
                    exact ⟨by rw [← hx]; exact ⟨x1, x2⟩, by rw [← hy]; exact hy1, fun _ => by rw [kp, ← hx, ← hzz]; omega⟩
                replace hk := Lib.hid hk
                clear hI hx hy bad hy1 ho hzz hd kp hz
                rcases ty with ty | ⟨ty, ty2⟩
                all_goals
                  go_wp2_with (go_at_call 30; ((with_reducible refine (I _).mono ?_); rintro e w' ⟨rfl, rfl⟩))
                  go_quiet (fail)
                  clear e1 e2
                  go_wp2_with fail
                  go_roundw
                  case rel => exact ⟨i + 1, hlt, by go_num, hok.out, bl_drewN B1.out _⟩
                  case measure => simp [intOf]; omega
          · have y1 : (y != 1024) = true := by simp; omega
            have y2 : (y != -1024) = true := by simp; omega
            have hv : Hid (V = 81) := bad.out (fun h => hy1 (by rw [hy]; exact h.2.1))
            clear hI hx hy bad hy1
            go_wp2_with (go_at_call 30; ((with_reducible refine (I _).mono ?_); rintro e w' ⟨rfl, rfl⟩))
            go_ret
            exact ⟨ret_i hv.out.symm, B1.out⟩
      · obtain rfl : i = n := by omega
        have hv : V = 0 := by
          rw [hV.out]
          exact chkJ_good (by have := hn.out; omega) (goodJ_iff.2 fun j hj => ho j (by have := hn.out; omega))
        replace hv := Lib.hid hv
        replace hb := Lib.hid hb
        clear ho
        go_wp2_with fail
        go_ret
        exact ⟨ret_i hv.out.symm, hb.out⟩
end Go.Proofs.Ytppggaibhfajjaa
