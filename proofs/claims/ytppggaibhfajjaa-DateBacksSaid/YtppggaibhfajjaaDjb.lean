/- Proved here: what the program's Back answers, over the translated code. -/
import Derived.Test.YtppggaibhfajjaaDji
import Derived.Test.YtppggaibhfajjaaDjv
namespace Go.Proofs.Ytppggaibhfajjaa
open Go.ChangeShapes Go.WideShapes Go.ChangeAt Go.RowKit Go.Deep

theorem within64_run (x a b : Int) (w : World) : Calls Try.prog 39 #[.int .i64 x, .int .i64 a, .int .i64 b] w fun e w' => e = .returned (.bool (decide (a ≤ x) && decide (x ≤ b))) ∧ w = w' := by
  by_cases h1 : a ≤ x
  · have t1 : decide (a ≤ x) = true := decide_eq_true h1
    by_cases h2 : x ≤ b
    · have t2 : decide (x ≤ b) = true := decide_eq_true h2
      rw [t1, t2]
      clear h1 h2
      go_enter Try.func39, Try.ntmps39
      go_wp2
      go_ret
      exact ⟨rfl, rfl⟩
    · have t2 : decide (x ≤ b) = false := decide_eq_false h2
      rw [t1, t2]
      clear h1 h2
      go_enter Try.func39, Try.ntmps39
      go_wp2
      go_ret
      exact ⟨rfl, rfl⟩
  · have t1 : decide (a ≤ x) = false := decide_eq_false h1
    rw [t1]
    clear h1
    go_enter Try.func39, Try.ntmps39
    go_wp2
    go_ret
    exact ⟨rfl, rfl⟩
theorem back_bad (ao : Option Addr) (cap n : Nat) (L : List (Int × Int)) (c : Int) (w : World) (hn : n = L.length) (hm : n ≤ 4611686018427387904) (ha : JAt w ao L) (h0 : chkJ L ≠ 0) :
    Calls Try.prog 24 #[.slice ao n cap, .int .i64 c] w (BackRes w (bakM L c) (bakE L c)) := by
  obtain ⟨e1, e2⟩ := bakE_bad c h0
  rw [e1, e2]
  have C := Lib.hid (check_run ao cap n L w hn hm ha)
  have t0 : (chkJ L != 0) = true := by simpa using h0
  generalize chkJ L = K at *
  clear ha hn hm h0 e1 e2
  go_enter Try.func24, Try.ntmps24
  go_wp2_with fail
  refine C.out.mono ?_
  rintro _ v1 ⟨rfl, hb⟩
  clear C
  replace hb := Lib.hid hb
  go_wp2_with fail
  go_ret2
  exact backRes_none rfl hb.out
theorem back_out (ao : Option Addr) (cap n : Nat) (L : List (Int × Int)) (c : Int) (w : World) (hn : n = L.length) (hm : n ≤ 4611686018427387904) (ha : JAt w ao L) (h0 : chkJ L = 0) (hc : ¬ (-2251799813685248 ≤ c ∧ c ≤ 2251799813685248)) :
    Calls Try.prog 24 #[.slice ao n cap, .int .i64 c] w (BackRes w (bakM L c) (bakE L c)) := by
  obtain ⟨e1, e2⟩ := bakE_out h0 hc
  rw [e1, e2]
  have C := Lib.hid (check_run ao cap n L w hn hm ha)
  rw [h0] at C
  have Wi := fun w => within64_run c (-2251799813685248) 2251799813685248 w
  have t0 : (decide (-2251799813685248 ≤ c) && decide (c ≤ 2251799813685248)) = false := by
    rw [← Bool.decide_and]; exact decide_eq_false hc
  rw [t0] at Wi
  clear ha hn hm h0 e1 e2 hc t0
  go_enter Try.func24, Try.ntmps24
  go_wp2_with fail
  refine C.out.mono ?_
  rintro _ v1 ⟨rfl, hb⟩
  clear C
  replace hb := Lib.hid hb
  go_wp2_with (go_at_call 39; ((with_reducible refine (Wi _).mono ?_); rintro e w' ⟨rfl, rfl⟩))
  go_ret2
  exact backRes_none rfl hb.out
set_option maxHeartbeats 2000000 in
theorem back_in (ao : Option Addr) (cap n : Nat) (L : List (Int × Int)) (c : Int) (w : World) (hn : n = L.length) (hc : n ≤ cap) (hm : n ≤ 4611686018427387904) (hcm : cap ≤ 9223372036854775807) (hnone : ao = none → cap = 0) (ha : JAt w ao L) (h0 : chkJ L = 0) (hc1 : -2251799813685248 ≤ c) (hc2 : c ≤ 2251799813685248) :
    Calls Try.prog 24 #[.slice ao n cap, .int .i64 c] w (BackRes w (bakM L c) (bakE L c)) := by
  obtain ⟨e1, e2⟩ := bakE_in h0 ⟨hc1, hc2⟩
  rw [e1, e2]
  have C := Lib.hid (check_run ao cap n L w hn hm ha)
  rw [h0] at C
  have Wi := fun w => within64_run c (-2251799813685248) 2251799813685248 w
  rw [decide_eq_true hc1, decide_eq_true hc2] at Wi
  rw [Bool.and_self] at Wi
  obtain ⟨hl, hg⟩ := chkJ_zero h0
  have n64 : n ≤ 64 := by omega
  replace hn := Lib.hid hn
  replace ha := Lib.hid ha
  replace hl := Lib.hid hl
  replace hg := Lib.hid hg
  clear h0 e1 e2
  cases ao with
  | none =>
    obtain rfl := hnone rfl
    obtain rfl : n = 0 := by omega
    go_enter Try.func24, Try.ntmps24
    go_wp2_with fail
    refine C.out.mono ?_
    rintro _ v1 ⟨rfl, hb⟩
    clear C
    have N0 : Hid (OwnI w.heap.size w [] (.slice none 0 0) v1) := (OwnI.nil w).grow hb
    clear hb
    go_wp2_with (go_at_call 39; ((with_reducible refine (Wi _).mono ?_); rintro e w' ⟨rfl, rfl⟩))
    clear Wi
    go_loopw [7, 21] (fun fv iv wr => ∃ i : Nat, i ≤ 0 + 1 ∧ iv = .int .i64 i ∧ OwnI w.heap.size w (bakK L c i) fv wr) (fun _ iv _ => 0 + 1 - (intOf iv).toNat)
    case atStart => exact ⟨0, Nat.zero_le _, rfl, N0.out⟩
    case round =>
      obtain ⟨i, hi, rfl, N⟩ := hrel
      clear N0
      by_cases hlt : i < 0 + 1
      · obtain rfl : i = 0 := by omega
        obtain ⟨j1, j2⟩ := jsum_range hg.out 0 (by have := hn.out; omega)
        have A1 := Lib.hid (ha.out.on N.old)
        have Ad := Lib.hid (added_run none 0 0 L wr (by have := hn.out; omega) hl.out hg.out A1.out)
        have hT : Hid (c - jsum L 0 = bT L c 0) := rfl
        have I := fun w => isinst_run (bT L c 0) w
        have Ps : Hid (∀ w', JAt w' none L → Calls Try.prog 38 #[.slice none 0 0, .int .i64 (bT L c 0)] w' fun e w'' => e = .returned (.int .i64 (pas L (bT L c 0) : Int)) ∧ w' = w'') := fun w' h => passed_run _ 0 0 L (bT L c 0) w' hn.out (by omega) h
        have ln := bakK_len L c 0
        have fy : Hid (fnd L c 0 = true → bakK L c (0 + 1) = bakK L c 0 ++ [bT L c 0]) := bakK_yes
        have fn : Hid (fnd L c 0 = false → bakK L c (0 + 1) = bakK L c 0) := bakK_no
        have fd : Hid (fnd L c 0 = (isI (bT L c 0) && decide (pas L (bT L c 0) = 0))) := rfl
        have Pb : Hid (pas L (bT L c 0) ≤ 9223372036854775807) := Nat.le_trans (pas_is L _).1 (by have := hl.out; omega)
        have hs1 : -65536 ≤ jsum L 0 := by omega
        have hs2 : jsum L 0 ≤ 65536 := by omega
        have eT : c - jsum L 0 = bT L c 0 := rfl
        have T1 : -2300000000000000 ≤ bT L c 0 := by omega
        have T2 : bT L c 0 ≤ 2300000000000000 := by omega
        generalize jsum L 0 = s at *
        generalize bT L c 0 = T at *
        generalize pas L T = p at *
        replace eT := Lib.hid eT
        have eT' := eT.out
        clear hT j1 j2
        cases hI : isI T with
        | false =>
          rw [hI] at I fd
          have e2 := Lib.hid (fn.out (by rw [fd.out]; rfl))
          clear fy fn fd hI Ps
          replace N := Lib.hid N
          go_wp2_with fail
          refine Ad.out.mono ?_
          rintro _ v2 ⟨rfl, hb1⟩
          replace N := Lib.hid (N.out.grow hb1)
          clear Ad hb1 A1
          go_wp2_with (go_at_call 30; ((with_reducible refine (I _).mono ?_); rintro e w' ⟨rfl, rfl⟩))
          go_roundw
          case rel => exact ⟨0 + 1, Nat.le_refl _, rfl, by rw [e2.out]; exact N.out⟩
          case measure => simp [intOf]
        | true =>
          rw [hI] at I fd
          by_cases hp : p = 0
          · subst hp
            have e2 := Lib.hid (fy.out (by rw [fd.out]; simp))
            clear fy fn fd hI
            obtain ⟨M, hM⟩ : ∃ M, M = bakK L c 0 := ⟨_, rfl⟩
            rw [← hM] at N ln e2
            replace hM := Lib.hid hM
            obtain ⟨ao', m', c', rfl⟩ := ownsI_slice N.own
            replace N := Lib.hid N
            go_wp2_with fail
            refine Ad.out.mono ?_
            rintro _ v2 ⟨rfl, hb1⟩
            replace N := Lib.hid (N.out.grow hb1)
            replace A1 := Lib.hid (A1.out.on hb1)
            clear Ad hb1
            go_wp2_with (go_at_call 30; ((with_reducible refine (I _).mono ?_); rintro e w' ⟨rfl, rfl⟩))
            refine (Ps.out _ A1.out).mono ?_
            rintro _ v3 ⟨rfl, rfl⟩
            clear Ps A1
            go_wp2_with (at_builtin; refine wpList_dupI rfl _ _ rfl _ M rfl N.out T rfl (by omega) ?_)
            intro v' w' N'
            rw [← e2.out] at N'
            replace N' := Lib.hid N'
            clear N
            go_wp2_with fail
            go_roundw
            case rel => exact ⟨0 + 1, Nat.le_refl _, rfl, N'.out⟩
            case measure => simp [intOf]
          · have e2 := Lib.hid (fn.out (by rw [fd.out, decide_eq_false hp]; rfl))
            have tp : ((p : Int) == 0) = false := by simp; omega
            have p64 : p ≤ 9223372036854775807 := Pb.out
            clear fy fn fd hI hp Pb
            replace N := Lib.hid N
            go_wp2_with fail
            refine Ad.out.mono ?_
            rintro _ v2 ⟨rfl, hb1⟩
            replace N := Lib.hid (N.out.grow hb1)
            replace A1 := Lib.hid (A1.out.on hb1)
            clear Ad hb1
            go_wp2_with (go_at_call 30; ((with_reducible refine (I _).mono ?_); rintro e w' ⟨rfl, rfl⟩))
            refine (Ps.out _ A1.out).mono ?_
            rintro _ v3 ⟨rfl, rfl⟩
            clear Ps A1
            go_wp2_with fail
            go_roundw
            case rel => exact ⟨0 + 1, Nat.le_refl _, rfl, by rw [e2.out]; exact N.out⟩
            case measure => simp [intOf]
      · obtain rfl : i = 0 + 1 := by omega
        have hbk : bakK L c (0 + 1) = bak L c := by unfold bak; rw [← hn.out]
        rw [hbk] at N
        replace N := Lib.hid N
        clear hbk
        go_wp2_with fail
        go_ret2
        exact ⟨_, rfl, N.out⟩
  | some ad =>
    obtain ⟨b, o, s'⟩ := ad
    clear hnone
    go_enter Try.func24, Try.ntmps24
    go_wp2_with fail
    refine C.out.mono ?_
    rintro _ v1 ⟨rfl, hb⟩
    clear C
    have N0 : Hid (OwnI w.heap.size w [] (.slice none 0 0) v1) := (OwnI.nil w).grow hb
    clear hb
    go_wp2_with (go_at_call 39; ((with_reducible refine (Wi _).mono ?_); rintro e w' ⟨rfl, rfl⟩))
    clear Wi
    go_loopw [7, 21] (fun fv iv wr => ∃ i : Nat, i ≤ n + 1 ∧ iv = .int .i64 i ∧ OwnI w.heap.size w (bakK L c i) fv wr) (fun _ iv _ => n + 1 - (intOf iv).toNat)
    case atStart => exact ⟨0, Nat.zero_le _, rfl, N0.out⟩
    case round =>
      obtain ⟨i, hi, rfl, N⟩ := hrel
      clear N0
      by_cases hlt : i < n + 1
      · skip
        obtain ⟨j1, j2⟩ := jsum_range hg.out i (by have := hn.out; omega)
        have A1 := Lib.hid (ha.out.on N.old)
        have Ad := Lib.hid (added_run (some ⟨b, o, s'⟩) cap i L wr (by have := hn.out; omega) hl.out hg.out A1.out)
        have hT : Hid (c - jsum L i = bT L c i) := rfl
        have I := fun w => isinst_run (bT L c i) w
        have Ps : Hid (∀ w', JAt w' (some ⟨b, o, s'⟩) L → Calls Try.prog 38 #[.slice (some ⟨b, o, s'⟩) n cap, .int .i64 (bT L c i)] w' fun e w'' => e = .returned (.int .i64 (pas L (bT L c i) : Int)) ∧ w' = w'') := fun w' h => passed_run _ cap n L (bT L c i) w' hn.out (by omega) h
        have ln := bakK_len L c i
        have fy : Hid (fnd L c i = true → bakK L c (i + 1) = bakK L c i ++ [bT L c i]) := bakK_yes
        have fn : Hid (fnd L c i = false → bakK L c (i + 1) = bakK L c i) := bakK_no
        have fd : Hid (fnd L c i = (isI (bT L c i) && decide (pas L (bT L c i) = i))) := rfl
        have Pb : Hid (pas L (bT L c i) ≤ 9223372036854775807) := Nat.le_trans (pas_is L _).1 (by have := hl.out; omega)
        have hs1 : -65536 ≤ jsum L i := by omega
        have hs2 : jsum L i ≤ 65536 := by omega
        have eT : c - jsum L i = bT L c i := rfl
        have T1 : -2300000000000000 ≤ bT L c i := by omega
        have T2 : bT L c i ≤ 2300000000000000 := by omega
        generalize jsum L i = s at *
        generalize bT L c i = T at *
        generalize pas L T = p at *
        replace eT := Lib.hid eT
        have eT' := eT.out
        clear hT j1 j2
        cases hI : isI T with
        | false =>
          rw [hI] at I fd
          have e2 := Lib.hid (fn.out (by rw [fd.out]; rfl))
          clear fy fn fd hI Ps
          replace N := Lib.hid N
          go_wp2_with fail
          refine Ad.out.mono ?_
          rintro _ v2 ⟨rfl, hb1⟩
          replace N := Lib.hid (N.out.grow hb1)
          clear Ad hb1 A1
          go_wp2_with (go_at_call 30; ((with_reducible refine (I _).mono ?_); rintro e w' ⟨rfl, rfl⟩))
          go_roundw
          case rel => exact ⟨i + 1, hlt, by go_num, by rw [e2.out]; exact N.out⟩
          case measure => simp [intOf]; omega
        | true =>
          rw [hI] at I fd
          by_cases hp : p = i
          · subst hp
            have e2 := Lib.hid (fy.out (by rw [fd.out]; simp))
            clear fy fn fd hI
            obtain ⟨M, hM⟩ : ∃ M, M = bakK L c p := ⟨_, rfl⟩
            rw [← hM] at N ln e2
            replace hM := Lib.hid hM
            obtain ⟨ao', m', c', rfl⟩ := ownsI_slice N.own
            replace N := Lib.hid N
            go_wp2_with fail
            refine Ad.out.mono ?_
            rintro _ v2 ⟨rfl, hb1⟩
            replace N := Lib.hid (N.out.grow hb1)
            replace A1 := Lib.hid (A1.out.on hb1)
            clear Ad hb1
            go_wp2_with (go_at_call 30; ((with_reducible refine (I _).mono ?_); rintro e w' ⟨rfl, rfl⟩))
            refine (Ps.out _ A1.out).mono ?_
            rintro _ v3 ⟨rfl, rfl⟩
            clear Ps A1
            go_wp2_with (at_builtin; refine wpList_dupI rfl _ _ rfl _ M rfl N.out T rfl (by omega) ?_)
            intro v' w' N'
            rw [← e2.out] at N'
            replace N' := Lib.hid N'
            clear N
            go_wp2_with fail
            go_roundw
            case rel => exact ⟨p + 1, hlt, by go_num, N'.out⟩
            case measure => simp [intOf]; omega
          · have e2 := Lib.hid (fn.out (by rw [fd.out, decide_eq_false hp]; rfl))
            have tp : ((p : Int) == (i : Int)) = false := by simp; omega
            have p64 : p ≤ 9223372036854775807 := Pb.out
            clear fy fn fd hI hp Pb
            replace N := Lib.hid N
            go_wp2_with fail
            refine Ad.out.mono ?_
            rintro _ v2 ⟨rfl, hb1⟩
            replace N := Lib.hid (N.out.grow hb1)
            replace A1 := Lib.hid (A1.out.on hb1)
            clear Ad hb1
            go_wp2_with (go_at_call 30; ((with_reducible refine (I _).mono ?_); rintro e w' ⟨rfl, rfl⟩))
            refine (Ps.out _ A1.out).mono ?_
            rintro _ v3 ⟨rfl, rfl⟩
            clear Ps A1
            go_wp2_with fail
            go_roundw
            case rel => exact ⟨i + 1, hlt, by go_num, by rw [e2.out]; exact N.out⟩
            case measure => simp [intOf]; omega
      · obtain rfl : i = n + 1 := by omega
        have hbk : bakK L c (n + 1) = bak L c := by unfold bak; rw [← hn.out]
        rw [hbk] at N
        replace N := Lib.hid N
        clear hbk
        go_wp2_with fail
        go_ret2
        exact ⟨_, rfl, N.out⟩
theorem back_run (ao : Option Addr) (cap n : Nat) (L : List (Int × Int)) (c : Int) (w : World) (hn : n = L.length) (hc : n ≤ cap) (hm : n ≤ 4611686018427387904) (hcm : cap ≤ 9223372036854775807) (hnone : ao = none → cap = 0) (ha : JAt w ao L) :
    Calls Try.prog 24 #[.slice ao n cap, .int .i64 c] w (BackRes w (bakM L c) (bakE L c)) := by
  by_cases h0 : chkJ L = 0
  · by_cases h1 : -2251799813685248 ≤ c ∧ c ≤ 2251799813685248
    · exact back_in ao cap n L c w hn hc hm hcm hnone ha h0 h1.1 h1.2
    · exact back_out ao cap n L c w hn hm ha h0 h1
  · exact back_bad ao cap n L c w hn hm ha h0
end Go.Proofs.Ytppggaibhfajjaa
