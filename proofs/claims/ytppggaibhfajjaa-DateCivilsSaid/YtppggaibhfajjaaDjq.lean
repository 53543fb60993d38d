/- Proved here: what the reference's Back answers, over the translated code. -/
import Derived.Test.YtppggaibhfajjaaDji
import Derived.Test.YtppggaibhfajjaaDjd
namespace Go.Proofs.Ytppggaibhfajjaa
open Go.ChangeShapes Go.WideShapes Go.ChangeAt Go.RowKit Go.Deep

theorem drew_belowJ {B : Nat} {u w w1 : World} (hb : Below B u w) (h : ∃ n, w1 = w.drewN n) : Below B u w1 := by
  obtain ⟨n, rfl⟩ := h; exact bl_drewN hb n
theorem rback_bad (ao : Option Addr) (cap n : Nat) (L : List (Int × Int)) (c : Int) (w : World) (hn : n = L.length) (hm : n ≤ 4611686018427387904) (ha : JAt w ao L) (h0 : chkJ L ≠ 0) :
    Calls Try.prog 25 #[.slice ao n cap, .int .i64 c] w (BackRes w (bakM L c) (bakE L c)) := by
  obtain ⟨e1, e2⟩ := bakE_bad c h0
  rw [e1, e2]
  have C := Lib.hid (rcheck_run ao cap n L w hn hm ha)
  have t0 : (chkJ L != 0) = true := by simpa using h0
  generalize chkJ L = K at *
  clear ha hn hm h0 e1 e2
  go_enter Try.func25, Try.ntmps25
  go_wp2_with fail
  refine C.out.mono ?_
  rintro _ v1 ⟨rfl, hd⟩
  have hb := drew_belowJ (Below.refl w.heap.size w) hd
  clear C
  replace hb := Lib.hid hb
  clear hd
  go_wp2_with fail
  go_ret2
  exact backRes_none rfl hb.out
theorem rback_out (ao : Option Addr) (cap n : Nat) (L : List (Int × Int)) (c : Int) (w : World) (hn : n = L.length) (hm : n ≤ 4611686018427387904) (ha : JAt w ao L) (h0 : chkJ L = 0) (hc : ¬ (-2251799813685248 ≤ c ∧ c ≤ 2251799813685248)) :
    Calls Try.prog 25 #[.slice ao n cap, .int .i64 c] w (BackRes w (bakM L c) (bakE L c)) := by
  obtain ⟨e1, e2⟩ := bakE_out h0 hc
  rw [e1, e2]
  have C := Lib.hid (rcheck_run ao cap n L w hn hm ha)
  rw [h0] at C
  have t12 : decide (c < -2251799813685248) = true ∨ (decide (c < -2251799813685248) = false ∧ decide (2251799813685248 < c) = true) := by
    by_cases q : c < -2251799813685248
    · exact .inl (decide_eq_true q)
    · exact .inr ⟨decide_eq_false q, decide_eq_true (by omega)⟩
  clear ha hn hm h0 e1 e2 hc
  rcases t12 with t1 | ⟨t1, t2⟩
  all_goals
    go_enter Try.func25, Try.ntmps25
    go_wp2_with fail
    refine C.out.mono ?_
    rintro _ v1 ⟨rfl, hd⟩
    have hb := drew_belowJ (Below.refl w.heap.size w) hd
    clear C
    replace hb := Lib.hid hb
    clear hd
    go_wp2_with fail
    go_ret2
    exact backRes_none rfl hb.out
set_option maxHeartbeats 4000000 in
theorem rback_in (ao : Option Addr) (cap n : Nat) (L : List (Int × Int)) (c : Int) (w : World) (hn : n = L.length) (ha : JAt w ao L) (h0 : chkJ L = 0) (hc1 : -2251799813685248 ≤ c) (hc2 : c ≤ 2251799813685248) :
    Calls Try.prog 25 #[.slice ao n cap, .int .i64 c] w (BackRes w (bakM L c) (bakE L c)) := by
  obtain ⟨e1, e2⟩ := bakE_in h0 ⟨hc1, hc2⟩
  rw [e1, e2]
  obtain ⟨hl, hg⟩ := chkJ_zero h0
  have n64 : n ≤ 64 := by omega
  have C := Lib.hid (rcheck_run ao cap n L w hn (by omega) ha)
  rw [h0] at C
  have t1 : decide (c < -2251799813685248) = false := decide_eq_false (by omega)
  have t2 : decide (2251799813685248 < c) = false := decide_eq_false (by omega)
  replace hn := Lib.hid hn
  replace ha := Lib.hid ha
  replace hl := Lib.hid hl
  replace hg := Lib.hid hg
  clear h0 e1 e2
  go_enter Try.func25, Try.ntmps25
  go_wp2_with fail
  refine C.out.mono ?_
  rintro _ v1 ⟨rfl, hd⟩
  have hb := drew_belowJ (Below.refl w.heap.size w) hd
  clear C
  have N0 : Hid (OwnI w.heap.size w [] (.slice none 0 0) v1) := (OwnI.nil w).grow hb
  clear hb hd
  go_wp2_with fail
  go_loopw [7, 8, 9] (fun fv sv iv wr => ∃ i : Nat, i ≤ n + 1 ∧ iv = .int .i64 i ∧ sv = .int .i64 (jsum L (min i n)) ∧ OwnI w.heap.size w (bakK L c i) fv wr) (fun _ _ iv _ => n + 1 - (intOf iv).toNat)
  case atStart => exact ⟨0, Nat.zero_le _, rfl, by rw [Nat.zero_min]; rfl, N0.out⟩
  case round =>
    obtain ⟨i, hi, rfl, rfl, N⟩ := hrel
    clear N0
    by_cases hlt : i < n + 1
    · have mi : min i n = i := by omega
      rw [mi]
      clear mi
      have ff := fnd_iff hg.out (c := c) (i := i) (by have := hn.out; omega)
      obtain ⟨j1, j2⟩ := jsum_range hg.out i (by have := hn.out; omega)
      have A1 := Lib.hid (ha.out.on N.old)
      have hT : Hid (bT L c i = bT L c i) := rfl
      have ln := bakK_len L c i
      have eT : c - jsum L i = bT L c i := rfl
      have hs1 : -65536 ≤ jsum L i := by omega
      have hs2 : jsum L i ≤ 65536 := by omega
      have T1 : -2300000000000000 ≤ bT L c i := by omega
      have T2 : bT L c i ≤ 2300000000000000 := by omega
      clear j1 j2
      by_cases hz : i = 0
      · by_cases hl0 : i < n
        · skip
          subst hz
          rw [if_neg (Nat.lt_irrefl 0)] at ff
          obtain ⟨b, o, rfl, c1, c2⟩ := A1.out 0 (by have := hn.out; omega)
          rw [Nat.zero_mul, Nat.add_zero] at c1 c2
          have rx := goodJ_iff.1 hg.out 0 (by have := hn.out; omega)
          have hs := jsum_succ L 0
          have m2 : min (0 + 1) n = 0 + 1 := by omega
          rw [if_pos (by have := hn.out; omega)] at ff
          have x1 := rx.1
          have y1 : -1024 ≤ jAdd L 0 ∧ jAdd L 0 ≤ 1024 := by have := rx.2.1; omega
          generalize jAt L 0 = x at *
          obtain ⟨y, hyy⟩ : ∃ y, jAdd L 0 = y := ⟨_, rfl⟩
          rw [hyy] at c2 hs y1
          replace hyy := Lib.hid hyy
          obtain ⟨x1, x2⟩ := x1
          obtain ⟨y1, y2⟩ := y1
          clear rx
          have fy : Hid (fnd L c 0 = true → bakK L c (0 + 1) = bakK L c 0 ++ [bT L c 0]) := bakK_yes
          have fn : Hid (fnd L c 0 = false → bakK L c (0 + 1) = bakK L c 0) := bakK_no
          generalize bT L c 0 = T at *
          replace m2 := Lib.hid m2
          replace hs := Lib.hid hs
          cases hf : fnd L c 0 with
          | true =>
            obtain ⟨f1, f2⟩ := ff.1 hf
            have e2 := Lib.hid (fy.out hf)
            have tl : decide (-1125899906842624 ≤ T) = true := decide_eq_true f1
            have th : decide (T ≤ x - 1) = true := decide_eq_true f2
            clear hT fy fn hf ff f1 f2
            obtain ⟨M, hM⟩ : ∃ M, M = bakK L c 0 := ⟨_, rfl⟩
            rw [← hM] at N ln e2
            replace hM := Lib.hid hM
            obtain ⟨ao', m', c', rfl⟩ := ownsI_slice N.own
            replace N := Lib.hid N
            go_wp2_with (at_builtin; refine wpList_dupI rfl _ _ rfl _ M rfl N.out T rfl (by omega) ?_)
            intro v' w' N'
            rw [← e2.out] at N'
            obtain ⟨b3, o3, eb, _, c2'⟩ := (ha.out.on N'.old) 0 (by have := hn.out; omega)
            simp only [Option.some.injEq, Addr.mk.injEq, and_true] at eb
            obtain ⟨rfl, rfl⟩ := eb
            rw [hyy.out, Nat.zero_mul, Nat.add_zero] at c2'
            replace N' := Lib.hid N'
            clear N
            go_wp2_with fail
            go_roundw
            case rel => exact ⟨0 + 1, by omega, by go_num, by rw [m2, hs.out], N'.out⟩
            case measure => first | (simp [intOf]; done) | (simp [intOf]; omega)
          | false =>
            have e2 := Lib.hid (fn.out hf)
            have tt : decide (-1125899906842624 ≤ T) = false ∨ (decide (-1125899906842624 ≤ T) = true ∧ decide (T ≤ x - 1) = false) := by
              by_cases q : -1125899906842624 ≤ T
              · exact .inr ⟨decide_eq_true q, decide_eq_false fun q2 => by rw [ff.2 ⟨q, q2⟩] at hf; cases hf⟩
              · exact .inl (decide_eq_false q)
            clear hT fy fn hf ff
            replace N := Lib.hid N
            rcases tt with tl | ⟨tl, th⟩
            all_goals
              go_wp2_with fail
              go_roundw
              case rel => exact ⟨0 + 1, by omega, by go_num, by rw [m2, hs.out], by rw [e2.out]; exact N.out⟩
              case measure => first | (simp [intOf]; done) | (simp [intOf]; omega)
        · skip
          subst hz
          rw [if_neg (Nat.lt_irrefl 0)] at ff
          have m2 : min (0 + 1) n = 0 := by omega
          rw [if_neg (by have := hn.out; omega)] at ff
          have fy : Hid (fnd L c 0 = true → bakK L c (0 + 1) = bakK L c 0 ++ [bT L c 0]) := bakK_yes
          have fn : Hid (fnd L c 0 = false → bakK L c (0 + 1) = bakK L c 0) := bakK_no
          generalize bT L c 0 = T at *
          replace m2 := Lib.hid m2
          cases hf : fnd L c 0 with
          | true =>
            obtain ⟨f1, f2⟩ := ff.1 hf
            have e2 := Lib.hid (fy.out hf)
            have tl : decide (-1125899906842624 ≤ T) = true := decide_eq_true f1
            have th : decide (T ≤ 1125899906842624) = true := decide_eq_true f2
            clear hT fy fn hf ff f1 f2
            obtain ⟨M, hM⟩ : ∃ M, M = bakK L c 0 := ⟨_, rfl⟩
            rw [← hM] at N ln e2
            replace hM := Lib.hid hM
            obtain ⟨ao', m', c', rfl⟩ := ownsI_slice N.own
            replace N := Lib.hid N
            go_wp2_with (at_builtin; refine wpList_dupI rfl _ _ rfl _ M rfl N.out T rfl (by omega) ?_)
            intro v' w' N'
            rw [← e2.out] at N'
            replace N' := Lib.hid N'
            clear N
            go_wp2_with fail
            go_roundw
            case rel => exact ⟨0 + 1, by omega, by go_num, by rw [m2], N'.out⟩
            case measure => first | (simp [intOf]; done) | (simp [intOf]; omega)
          | false =>
            have e2 := Lib.hid (fn.out hf)
            have tt : decide (-1125899906842624 ≤ T) = false ∨ (decide (-1125899906842624 ≤ T) = true ∧ decide (T ≤ 1125899906842624) = false) := by
              by_cases q : -1125899906842624 ≤ T
              · exact .inr ⟨decide_eq_true q, decide_eq_false fun q2 => by rw [ff.2 ⟨q, q2⟩] at hf; cases hf⟩
              · exact .inl (decide_eq_false q)
            clear hT fy fn hf ff
            replace N := Lib.hid N
            rcases tt with tl | ⟨tl, th⟩
            all_goals
              go_wp2_with fail
              go_roundw
              case rel => exact ⟨0 + 1, by omega, by go_num, by rw [m2], by rw [e2.out]; exact N.out⟩
              case measure => first | (simp [intOf]; done) | (simp [intOf]; omega)
      · by_cases hl0 : i < n
        · skip
          replace hz : 0 < i := by omega
          obtain ⟨k, hk⟩ : ∃ k, i = k + 1 := ⟨i - 1, by omega⟩
          have kn : k < n := by omega
          obtain ⟨b, o, rfl, c3, _⟩ := A1.out k (by have := hn.out; omega)
          have kp : i - 1 = k := by omega
          have rz := (goodJ_iff.1 hg.out k (by have := hn.out; omega)).1
          have e1 : (i : Int) - 1 = (k : Int) := by omega
          have i0 : 0 < i := by omega
          rw [if_pos i0, kp] at ff
          generalize jAt L k = z at *
          obtain ⟨b2, o2, eb, c1, c2⟩ := A1.out i (by have := hn.out; omega)
          simp only [Option.some.injEq, Addr.mk.injEq, and_true] at eb
          obtain ⟨rfl, rfl⟩ := eb
          have rx := goodJ_iff.1 hg.out i (by have := hn.out; omega)
          have hs := jsum_succ L i
          have m2 : min (i + 1) n = i + 1 := by omega
          rw [if_pos (by have := hn.out; omega)] at ff
          have x1 := rx.1
          have y1 : -1024 ≤ jAdd L i ∧ jAdd L i ≤ 1024 := by have := rx.2.1; omega
          generalize jAt L i = x at *
          obtain ⟨y, hyy⟩ : ∃ y, jAdd L i = y := ⟨_, rfl⟩
          rw [hyy] at c2 hs y1
          replace hyy := Lib.hid hyy
          obtain ⟨x1, x2⟩ := x1
          obtain ⟨y1, y2⟩ := y1
          clear rx
          have fy : Hid (fnd L c i = true → bakK L c (i + 1) = bakK L c i ++ [bT L c i]) := bakK_yes
          have fn : Hid (fnd L c i = false → bakK L c (i + 1) = bakK L c i) := bakK_no
          generalize bT L c i = T at *
          replace m2 := Lib.hid m2
          replace hs := Lib.hid hs
          replace hk := Lib.hid hk
          clear kp
          cases hf : fnd L c i with
          | true =>
            obtain ⟨f1, f2⟩ := ff.1 hf
            have e2 := Lib.hid (fy.out hf)
            have tl : decide (z ≤ T) = true := decide_eq_true f1
            have th : decide (T ≤ x - 1) = true := decide_eq_true f2
            clear hT fy fn hf ff rz f1 f2
            obtain ⟨M, hM⟩ : ∃ M, M = bakK L c i := ⟨_, rfl⟩
            rw [← hM] at N ln e2
            replace hM := Lib.hid hM
            obtain ⟨ao', m', c', rfl⟩ := ownsI_slice N.own
            replace N := Lib.hid N
            go_wp2_with (at_builtin; refine wpList_dupI rfl _ _ rfl _ M rfl N.out T rfl (by omega) ?_)
            intro v' w' N'
            rw [← e2.out] at N'
            obtain ⟨b3, o3, eb, _, c2'⟩ := (ha.out.on N'.old) i (by have := hn.out; omega)
            simp only [Option.some.injEq, Addr.mk.injEq, and_true] at eb
            obtain ⟨rfl, rfl⟩ := eb
            rw [hyy.out] at c2'
            replace N' := Lib.hid N'
            clear N
            go_wp2_with fail
            go_roundw
            case rel => exact ⟨i + 1, by omega, by go_num, by rw [m2, hs.out], N'.out⟩
            case measure => first | (simp [intOf]; done) | (simp [intOf]; omega)
          | false =>
            have e2 := Lib.hid (fn.out hf)
            have tt : decide (z ≤ T) = false ∨ (decide (z ≤ T) = true ∧ decide (T ≤ x - 1) = false) := by
              by_cases q : z ≤ T
              · exact .inr ⟨decide_eq_true q, decide_eq_false fun q2 => by rw [ff.2 ⟨q, q2⟩] at hf; cases hf⟩
              · exact .inl (decide_eq_false q)
            clear hT fy fn hf ff rz
            replace N := Lib.hid N
            rcases tt with tl | ⟨tl, th⟩
            all_goals
              go_wp2_with fail
              go_roundw
              case rel => exact ⟨i + 1, by omega, by go_num, by rw [m2, hs.out], by rw [e2.out]; exact N.out⟩
              case measure => first | (simp [intOf]; done) | (simp [intOf]; omega)
        · skip
          replace hz : 0 < i := by omega
          obtain ⟨k, hk⟩ : ∃ k, i = k + 1 := ⟨i - 1, by omega⟩
          have kn : k < n := by omega
          obtain ⟨b, o, rfl, c3, _⟩ := A1.out k (by have := hn.out; omega)
          have kp : i - 1 = k := by omega
          have rz := (goodJ_iff.1 hg.out k (by have := hn.out; omega)).1
          have e1 : (i : Int) - 1 = (k : Int) := by omega
          have i0 : 0 < i := by omega
          rw [if_pos i0, kp] at ff
          generalize jAt L k = z at *
          have m2 : min (i + 1) n = i := by omega
          rw [if_neg (by have := hn.out; omega)] at ff
          have fy : Hid (fnd L c i = true → bakK L c (i + 1) = bakK L c i ++ [bT L c i]) := bakK_yes
          have fn : Hid (fnd L c i = false → bakK L c (i + 1) = bakK L c i) := bakK_no
          generalize bT L c i = T at *
          replace m2 := Lib.hid m2
          replace hk := Lib.hid hk
          clear kp
          cases hf : fnd L c i with
          | true =>
            obtain ⟨f1, f2⟩ := ff.1 hf
            have e2 := Lib.hid (fy.out hf)
            have tl : decide (z ≤ T) = true := decide_eq_true f1
            have th : decide (T ≤ 1125899906842624) = true := decide_eq_true f2
            clear hT fy fn hf ff rz f1 f2
            obtain ⟨M, hM⟩ : ∃ M, M = bakK L c i := ⟨_, rfl⟩
            rw [← hM] at N ln e2
            replace hM := Lib.hid hM
            obtain ⟨ao', m', c', rfl⟩ := ownsI_slice N.own
            replace N := Lib.hid N
            go_wp2_with (at_builtin; refine wpList_dupI rfl _ _ rfl _ M rfl N.out T rfl (by omega) ?_)
            intro v' w' N'
            rw [← e2.out] at N'
            replace N' := Lib.hid N'
            clear N
            go_wp2_with fail
            go_roundw
            case rel => exact ⟨i + 1, by omega, by go_num, by rw [m2], N'.out⟩
            case measure => first | (simp [intOf]; done) | (simp [intOf]; omega)
          | false =>
            have e2 := Lib.hid (fn.out hf)
            have tt : decide (z ≤ T) = false ∨ (decide (z ≤ T) = true ∧ decide (T ≤ 1125899906842624) = false) := by
              by_cases q : z ≤ T
              · exact .inr ⟨decide_eq_true q, decide_eq_false fun q2 => by rw [ff.2 ⟨q, q2⟩] at hf; cases hf⟩
              · exact .inl (decide_eq_false q)
            clear hT fy fn hf ff rz
            replace N := Lib.hid N
            rcases tt with tl | ⟨tl, th⟩
            all_goals
              go_wp2_with fail
              go_roundw
              case rel => exact ⟨i + 1, by omega, by go_num, by rw [m2], by rw [e2.out]; exact N.out⟩
              case measure => first | (simp [intOf]; done) | (simp [intOf]; omega)
    · obtain rfl : i = n + 1 := by omega
      have hbk : bakK L c (n + 1) = bak L c := by unfold bak; rw [← hn.out]
      rw [hbk] at N
      replace N := Lib.hid N
      clear hbk
      go_wp2_with fail
      go_ret2
      exact ⟨_, rfl, N.out⟩
theorem rback_run (ao : Option Addr) (cap n : Nat) (L : List (Int × Int)) (c : Int) (w : World) (hn : n = L.length) (hm : n ≤ 4611686018427387904) (ha : JAt w ao L) :
    Calls Try.prog 25 #[.slice ao n cap, .int .i64 c] w (BackRes w (bakM L c) (bakE L c)) := by
  by_cases h0 : chkJ L = 0
  · by_cases h1 : -2251799813685248 ≤ c ∧ c ≤ 2251799813685248
    · exact rback_in ao cap n L c w hn ha h0 h1.1 h1.2
    · exact rback_out ao cap n L c w hn hm ha h0 h1
  · exact rback_bad ao cap n L c w hn hm ha h0
end Go.Proofs.Ytppggaibhfajjaa
