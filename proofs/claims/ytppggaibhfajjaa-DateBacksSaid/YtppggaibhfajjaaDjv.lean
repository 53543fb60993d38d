/- Proved here: what Civil answers, the program's and the reference's, over the translated code. -/
import Derived.Test.YtppggaibhfajjaaDjd
import Derived.Test.YtppggaibhfajjaaDjp
namespace Go.Proofs.Ytppggaibhfajjaa
open Go.ChangeShapes Go.WideShapes Go.ChangeAt Go.RowKit

/-- a civil instant and an error -/
def civV (L : List (Int × Int)) (t : Int) : Value := if chkJ L = 0 then (if isI t = true then .tuple #[.int .i64 (civJ L t), .int .i64 0] else .tuple #[.int .i64 0, .int .i64 80]) else .tuple #[.int .i64 0, .int .i64 (chkJ L)]
theorem civV_bad {L : List (Int × Int)} (t : Int) (h : chkJ L ≠ 0) : civV L t = .tuple #[.int .i64 0, .int .i64 (chkJ L)] := if_neg h
theorem civV_out {L : List (Int × Int)} {t : Int} (h : chkJ L = 0) (ht : isI t = false) : civV L t = .tuple #[.int .i64 0, .int .i64 80] := by
  unfold civV; rw [if_pos h, if_neg (by rw [ht]; decide)]
theorem civV_in {L : List (Int × Int)} {t : Int} (h : chkJ L = 0) (ht : isI t = true) : civV L t = .tuple #[.int .i64 (civJ L t), .int .i64 0] := by
  unfold civV; rw [if_pos h, if_pos ht]

set_option maxHeartbeats 1000000 in
theorem civil_run (ao : Option Addr) (cap n : Nat) (L : List (Int × Int)) (t : Int) (w : World) (hn : n = L.length) (hc : n ≤ cap) (hm : n ≤ 4611686018427387904) (hcm : cap ≤ 9223372036854775807) (hnone : ao = none → cap = 0) (ha : JAt w ao L) :
    Calls Try.prog 22 #[.slice ao n cap, .int .i64 t] w fun e w' => e = .returned (civV L t) ∧ Below w.heap.size w w' := by
  have C := Lib.hid (check_run ao cap n L w hn hm ha)
  by_cases h0 : chkJ L = 0
  · rw [h0] at C
    obtain ⟨hl, hg⟩ := chkJ_zero h0
    have I := fun w => isinst_run t w
    cases hI : isI t with
    | false =>
      rw [civV_out h0 hI]
      rw [hI] at I
      clear hI h0 ha hnone hn hc hcm hl hg hm
      go_enter Try.func22, Try.ntmps22
      go_wp2_with fail
      refine C.out.mono ?_
      rintro _ v1 ⟨rfl, hb⟩
      replace hb := Lib.hid hb
      clear C
      go_wp2_with (go_at_call 30; ((with_reducible refine (I _).mono ?_); rintro e w' ⟨rfl, rfl⟩))
      go_ret2
      exact ⟨rfl, hb.out⟩
    | true =>
      rw [civV_in h0 hI]
      rw [hI] at I
      obtain ⟨r1, r2⟩ := jsum_range hg (pas L t) (pas_is L t).1
      have pn : pas L t ≤ n := by rw [hn]; exact (pas_is L t).1
      have pc : pas L t ≤ cap := by omega
      have n64 : n ≤ 64 := by omega
      obtain ⟨g1, g2⟩ := isI_b hI
      have hX : Hid (t + jsum L (pas L t) = civJ L t) := rfl
      have Ad : Hid (∀ w', JAt w' ao L → Calls Try.prog 37 #[.slice ao (pas L t) cap] w' fun e w'' => e = .returned (.int .i64 (jsum L (pas L t))) ∧ Below w'.heap.size w' w'') := fun w' h => added_run ao cap (pas L t) L w' (by omega) hl hg h
      have Ps : Hid (∀ w', JAt w' ao L → Calls Try.prog 38 #[.slice ao n cap, .int .i64 t] w' fun e w'' => e = .returned (.int .i64 (pas L t : Int)) ∧ w' = w'') := fun w' h => passed_run ao cap n L t w' hn (by omega) h
      have p64 : pas L t ≤ 64 := by omega
      generalize jsum L (pas L t) = s at *
      generalize civJ L t = X at *
      generalize pas L t = p at *
      replace ha := Lib.hid ha
      have s1 : -65536 ≤ s := by omega
      have s2 : s ≤ 65536 := by omega
      clear hI h0 hn r1 r2 hl hg
      cases ao with
      | none =>
        obtain rfl := hnone rfl
        obtain rfl : n = 0 := by omega
        obtain rfl : p = 0 := by omega
        go_enter Try.func22, Try.ntmps22
        go_wp2_with fail
        refine C.out.mono ?_
        rintro _ v1 ⟨rfl, hb⟩
        replace ha := Lib.hid (ha.out.on hb)
        replace hb := Lib.hid hb
        clear C
        go_wp2_with (go_at_call 30; ((with_reducible refine (I _).mono ?_); rintro e w' ⟨rfl, rfl⟩))
        refine (Ps.out _ ha.out).mono ?_
        rintro _ v2 ⟨rfl, rfl⟩
        clear Ps
        go_wp2_with fail
        refine (Ad.out _ ha.out).mono ?_
        rintro _ v2 ⟨rfl, hb1⟩
        replace hb := Lib.hid (hb.out.trans (hb1.mono hb.out.size))
        clear Ad hb1
        go_wp2_with fail
        go_ret2
        exact ⟨by rw [← hX.out]; rfl, hb.out⟩
      | some ad =>
        obtain ⟨b, o, s'⟩ := ad
        clear hnone
        go_enter Try.func22, Try.ntmps22
        go_wp2_with fail
        refine C.out.mono ?_
        rintro _ v1 ⟨rfl, hb⟩
        replace ha := Lib.hid (ha.out.on hb)
        replace hb := Lib.hid hb
        clear C
        go_wp2_with (go_at_call 30; ((with_reducible refine (I _).mono ?_); rintro e w' ⟨rfl, rfl⟩))
        refine (Ps.out _ ha.out).mono ?_
        rintro _ v2 ⟨rfl, rfl⟩
        clear Ps
        go_wp2_with fail
        refine (Ad.out _ ha.out).mono ?_
        rintro _ v2 ⟨rfl, hb1⟩
        replace hb := Lib.hid (hb.out.trans (hb1.mono hb.out.size))
        clear Ad hb1
        go_wp2_with fail
        go_ret2
        exact ⟨by rw [← hX.out]; rfl, hb.out⟩
  · rw [civV_bad t h0]
    have t0 : (chkJ L != 0) = true := by simpa using h0
    generalize chkJ L = K at *
    clear ha hnone hn hc hcm h0 hm
    go_enter Try.func22, Try.ntmps22
    go_wp2_with fail
    refine C.out.mono ?_
    rintro _ v1 ⟨rfl, hb⟩
    replace hb := Lib.hid hb
    clear C
    go_wp2_with fail
    go_ret2
    exact ⟨rfl, hb.out⟩
set_option maxHeartbeats 1000000 in
theorem rcivil_run (ao : Option Addr) (cap n : Nat) (L : List (Int × Int)) (t : Int) (w : World) (hn : n = L.length) (hm : n ≤ 4611686018427387904) (ha : JAt w ao L) :
    Calls Try.prog 23 #[.slice ao n cap, .int .i64 t] w fun e w' => e = .returned (civV L t) ∧ ∃ m, w' = w.drewN m := by
  have C := Lib.hid (rcheck_run ao cap n L w hn hm ha)
  by_cases h0 : chkJ L = 0
  · rw [h0] at C
    obtain ⟨hl, hg⟩ := chkJ_zero h0
    cases hI : isI t with
    | false =>
      rw [civV_out h0 hI]
      have t12 : decide (t < -1125899906842624) = true ∨ (decide (t < -1125899906842624) = false ∧ decide (1125899906842624 < t) = true) := by
        rcases isI_n hI with h | h
        · exact .inl (decide_eq_true h)
        · exact .inr ⟨decide_eq_false (by omega), decide_eq_true h⟩
      clear hI h0 ha hn hm hl hg
      rcases t12 with t1 | ⟨t1, t2⟩
      all_goals
        go_enter Try.func23, Try.ntmps23
        go_wp2_with fail
        refine C.out.mono ?_
        rintro _ v1 ⟨rfl, ⟨m, rfl⟩⟩
        clear C
        go_wp2_with fail
        go_ret2
        exact ⟨rfl, _, rfl⟩
    | true =>
      rw [civV_in h0 hI]
      have cs := csum_all hg t
      have hX : Hid (t + csum L t L.length = civJ L t) := by unfold civJ; rw [cs]; exact rfl
      obtain ⟨g1, g2⟩ := isI_b hI
      have t1 : decide (t < -1125899906842624) = false := decide_eq_false (by omega)
      have t2 : decide (1125899906842624 < t) = false := decide_eq_false (by omega)
      generalize civJ L t = X at *
      have n64 : n ≤ 64 := by omega
      replace hg := Lib.hid hg
      replace hn := Lib.hid hn
      replace ha := Lib.hid ha
      clear cs hI h0 hl
      go_enter Try.func23, Try.ntmps23
      go_wp2_with fail
      refine C.out.mono ?_
      rintro _ v1 ⟨rfl, ⟨m, rfl⟩⟩
      clear C
      go_wp2_with fail
      go_loop [7, 8] (fun cv iv => ∃ i : Nat, i ≤ n ∧ iv = .int .i64 i ∧ cv = .int .i64 (t + csum L t i)) (fun _ iv => n - (intOf iv).toNat)
      case atStart => exact ⟨0, Nat.zero_le _, rfl, by rw [show csum L t 0 = 0 from rfl, Int.add_zero]⟩
      case round =>
        obtain ⟨i, hi, rfl, rfl⟩ := hrel
        obtain ⟨r1, r2⟩ := csum_range hg.out t i (by have := hn.out; omega)
        by_cases hlt : i < n
        · have hil : i < L.length := by have := hn.out; omega
          obtain ⟨b, o, rfl, c1, c2⟩ := ha.out i hil
          have hy := (goodJ_iff.1 hg.out i hil).2.1
          have y1 : -1024 ≤ jAdd L i := by omega
          have y2 : jAdd L i ≤ 1024 := by omega
          have hs := csum_succ L t i
          by_cases hx : jAt L i ≤ t
          · have tx : decide (jAt L i ≤ t) = true := decide_eq_true hx
            rw [if_pos hx] at hs
            replace hs := Lib.hid hs
            generalize jAdd L i = y at *
            generalize jAt L i = x at *
            generalize csum L t i = s at *
            clear hx hy
            go_wp2_with fail
            go_round
            case rel => exact ⟨i + 1, hlt, by go_num, by rw [hs.out]; go_num⟩
            case measure => simp [intOf]; omega
          · have tx : decide (jAt L i ≤ t) = false := decide_eq_false hx
            rw [if_neg hx, Int.add_zero] at hs
            replace hs := Lib.hid hs
            generalize jAdd L i = y at *
            generalize jAt L i = x at *
            clear hx hy
            go_wp2_with fail
            go_round
            case rel => exact ⟨i + 1, hlt, by go_num, by rw [hs.out]⟩
            case measure => simp [intOf]; omega
        · obtain rfl : i = n := by omega
          clear r1 r2
          go_wp2_with fail
          go_ret2
          exact ⟨by rw [← hX.out, ← hn.out]; rfl, _, rfl⟩
  · rw [civV_bad t h0]
    have t0 : (chkJ L != 0) = true := by simpa using h0
    generalize chkJ L = K at *
    clear ha hn hm h0
    go_enter Try.func23, Try.ntmps23
    go_wp2_with fail
    refine C.out.mono ?_
    rintro _ v1 ⟨rfl, ⟨m, rfl⟩⟩
    clear C
    go_wp2_with fail
    go_ret2
    exact ⟨rfl, _, rfl⟩
end Go.Proofs.Ytppggaibhfajjaa
