/- Proved here: what the texts Das prove, one behind the other. -/
import Derived.Test.YtpnncmdeidbemaaGreatDoorJs12

namespace Go.Proofs.YtpnncmdeidbemaaGreatDoor
open Go.ChangeShapes Go.WideShapes Go.ChangeAt Go.RowKit

theorem drew_cells {w w1 : World} (h : ∃ n, w1 = w.drewN n) : ∀ b o, w1.cell? ⟨b, o, none⟩ = w.cell? ⟨b, o, none⟩ := by
  obtain ⟨n, rfl⟩ := h; intro b o; rfl
theorem drew_below {B : Nat} {u w w1 : World} (hb : Below B u w) (h : ∃ n, w1 = w.drewN n) : Below B u w1 := by
  obtain ⟨n, rfl⟩ := h; exact bl_drewN hb n

set_option maxHeartbeats 2000000 in
set_option maxRecDepth 100000 in
theorem rfrom_in {y m d h i s k : Int} (H : isD y m d h i s k = true) (hI : isI (inst y m d h i s k) = true) (y1 : -50000 ≤ y) (y2 : y ≤ 50000) (w : World) :
    Calls Tryz.prog 28 #[dAgg y m d h i s k] w fun e w' => e = .returned (fromV y m d h i s k) ∧ Below w.heap.size w w' := by
  rw [fromV_t H hI]
  have B1 := Lib.hid (date_block w y m d h i s k)
  have L := fun w => rlong_run y w
  have C3 := fun w => before_run y (by omega) (by omega) w
  obtain ⟨n1, n2⟩ := inst_range H (by omega) (by omega)
  obtain ⟨⟨m1, m2⟩, ⟨d1, d2⟩, ⟨h1, h2⟩, ⟨i1, i2⟩, ⟨s1, s2⟩, ⟨k1, k2⟩⟩ := isD_parts H
  have d3 : d ≤ 28 := by have := mLen_le y m; omega
  have D : DayOk y m d := dayOk_of (fun ⟨a, b⟩ => by rw [a] at d2; omega)
  obtain ⟨f1, f2⟩ := fdy_range (y := y) (by omega) (by omega)
  have t0 : decide (y < -50000) = false := decide_eq_false (by omega)
  have t1 : decide (50000 < y) = false := decide_eq_false (by omega)
  have t2 : decide (m < 1) = false := decide_eq_false (by omega)
  have t3 : decide (14 < m) = false := decide_eq_false (by omega)
  have t4 : decide (d < 1) = false := decide_eq_false (by omega)
  have t5 : decide (28 < d) = false := decide_eq_false (by omega)
  have u0 : decide (h < 0) = false := decide_eq_false (by omega)
  have u1 : decide (15 < h) = false := decide_eq_false (by omega)
  have u2 : decide (i < 0) = false := decide_eq_false (by omega)
  have u3 : decide (63 < i) = false := decide_eq_false (by omega)
  have u4 : decide (s < 0) = false := decide_eq_false (by omega)
  have u5 : decide (63 < s) = false := decide_eq_false (by omega)
  have u6 : decide (k < 0) = false := decide_eq_false (by omega)
  have u7 : decide (1023 < k) = false := decide_eq_false (by omega)
  have eT : inst y m d h i s k = (fdy y + (m - 1) * 28 + (d - 1)) * 67108864 + h * 4194304 + i * 65536 + s * 1024 + k := by unfold inst; omega
  have e1 : IntKind.i64.wrap (m - 1) = m - 1 := IntWalk.i64_in _ (by omega)
  have e2 : IntKind.i64.wrap ((m - 1) * 28) = (m - 1) * 28 := IntWalk.i64_in _ (by omega)
  have e3 : IntKind.i64.wrap (fdy y + (m - 1) * 28) = fdy y + (m - 1) * 28 := IntWalk.i64_in _ (by omega)
  have e4 : IntKind.i64.wrap (d - 1) = d - 1 := IntWalk.i64_in _ (by omega)
  have e5 : IntKind.i64.wrap (fdy y + (m - 1) * 28 + (d - 1)) = fdy y + (m - 1) * 28 + (d - 1) := IntWalk.i64_in _ (by omega)
  have a1 : -20000000 ≤ fdy y + (m - 1) * 28 + (d - 1) := by omega
  have a2 : fdy y + (m - 1) * 28 + (d - 1) ≤ 20000000 := by omega
  rw [eT] at hI ⊢
  have g := isI_b hI
  have v1 : decide ((fdy y + (m - 1) * 28 + (d - 1)) * 67108864 + h * 4194304 + i * 65536 + s * 1024 + k < -1125899906842624) = false := decide_eq_false (by omega)
  have v2 : decide (1125899906842624 < (fdy y + (m - 1) * 28 + (d - 1)) * 67108864 + h * 4194304 + i * 65536 + s * 1024 + k) = false := decide_eq_false (by omega)
  clear eT n1 n2 H hI d2 y1 y2 m1 m2 d1 d3 f1 f2 g
  generalize hN : fdy y + (m - 1) * 28 + (d - 1) = N at *
  unfold dAgg at *
  rcases D with D1 | ⟨D1, ⟨hl, D2⟩ | ⟨hl, D2⟩⟩
  · cases hl : lng y with
    | true =>
      rw [hl] at L
      clear hl
      go_enter Tryz.func28, Tryz.ntmps28
      go_wp2_with fail
      refine (L _).mono ?_
      rintro _ w1 ⟨rfl, hn⟩
      have hc := drew_cells hn
      have hb := Lib.hid (drew_below B1.out hn)
      clear hn L B1
      go_wp2_with fail
      go_quiet ((go_at_call 47; with_reducible refine quiet_dr (C3 _)))
      clear e1 e2 e3 e4 e5 hN
      go_wp2_with fail
      go_ret2
      exact ⟨rfl, bl_drewN hb.out _⟩
    | false =>
      rw [hl] at L
      clear hl
      go_enter Tryz.func28, Tryz.ntmps28
      go_wp2_with fail
      refine (L _).mono ?_
      rintro _ w1 ⟨rfl, hn⟩
      have hc := drew_cells hn
      have hb := Lib.hid (drew_below B1.out hn)
      clear hn L B1
      go_wp2_with fail
      go_quiet ((go_at_call 47; with_reducible refine quiet_dr (C3 _)))
      clear e1 e2 e3 e4 e5 hN
      go_wp2_with fail
      go_ret2
      exact ⟨rfl, bl_drewN hb.out _⟩
  · rw [hl] at L
    clear hl
    go_enter Tryz.func28, Tryz.ntmps28
    go_wp2_with fail
    refine (L _).mono ?_
    rintro _ w1 ⟨rfl, hn⟩
    have hc := drew_cells hn
    have hb := Lib.hid (drew_below B1.out hn)
    clear hn L B1
    go_wp2_with fail
    go_quiet ((go_at_call 47; with_reducible refine quiet_dr (C3 _)))
    clear e1 e2 e3 e4 e5 hN
    go_wp2_with fail
    go_ret2
    exact ⟨rfl, bl_drewN hb.out _⟩
  · rw [hl] at L
    clear hl
    go_enter Tryz.func28, Tryz.ntmps28
    go_wp2_with fail
    refine (L _).mono ?_
    rintro _ w1 ⟨rfl, hn⟩
    have hc := drew_cells hn
    have hb := Lib.hid (drew_below B1.out hn)
    clear hn L B1
    go_wp2_with fail
    go_quiet ((go_at_call 47; with_reducible refine quiet_dr (C3 _)))
    clear e1 e2 e3 e4 e5 hN
    go_wp2_with fail
    go_ret2
    exact ⟨rfl, bl_drewN hb.out _⟩
set_option maxHeartbeats 2000000 in
set_option maxRecDepth 100000 in
theorem rfrom_out {y m d h i s k : Int} (H : isD y m d h i s k = true) (hI : isI (inst y m d h i s k) = false) (y1 : -50000 ≤ y) (y2 : y ≤ 50000) (w : World) :
    Calls Tryz.prog 28 #[dAgg y m d h i s k] w fun e w' => e = .returned (.tuple #[.int .i64 0, .int .i64 80]) ∧ Below w.heap.size w w' := by
  have B1 := Lib.hid (date_block w y m d h i s k)
  have L := fun w => rlong_run y w
  have C3 := fun w => before_run y (by omega) (by omega) w
  obtain ⟨n1, n2⟩ := inst_range H (by omega) (by omega)
  obtain ⟨⟨m1, m2⟩, ⟨d1, d2⟩, ⟨h1, h2⟩, ⟨i1, i2⟩, ⟨s1, s2⟩, ⟨k1, k2⟩⟩ := isD_parts H
  have d3 : d ≤ 28 := by have := mLen_le y m; omega
  have D : DayOk y m d := dayOk_of (fun ⟨a, b⟩ => by rw [a] at d2; omega)
  obtain ⟨f1, f2⟩ := fdy_range (y := y) (by omega) (by omega)
  have t0 : decide (y < -50000) = false := decide_eq_false (by omega)
  have t1 : decide (50000 < y) = false := decide_eq_false (by omega)
  have t2 : decide (m < 1) = false := decide_eq_false (by omega)
  have t3 : decide (14 < m) = false := decide_eq_false (by omega)
  have t4 : decide (d < 1) = false := decide_eq_false (by omega)
  have t5 : decide (28 < d) = false := decide_eq_false (by omega)
  have u0 : decide (h < 0) = false := decide_eq_false (by omega)
  have u1 : decide (15 < h) = false := decide_eq_false (by omega)
  have u2 : decide (i < 0) = false := decide_eq_false (by omega)
  have u3 : decide (63 < i) = false := decide_eq_false (by omega)
  have u4 : decide (s < 0) = false := decide_eq_false (by omega)
  have u5 : decide (63 < s) = false := decide_eq_false (by omega)
  have u6 : decide (k < 0) = false := decide_eq_false (by omega)
  have u7 : decide (1023 < k) = false := decide_eq_false (by omega)
  have eT : inst y m d h i s k = (fdy y + (m - 1) * 28 + (d - 1)) * 67108864 + h * 4194304 + i * 65536 + s * 1024 + k := by unfold inst; omega
  have e1 : IntKind.i64.wrap (m - 1) = m - 1 := IntWalk.i64_in _ (by omega)
  have e2 : IntKind.i64.wrap ((m - 1) * 28) = (m - 1) * 28 := IntWalk.i64_in _ (by omega)
  have e3 : IntKind.i64.wrap (fdy y + (m - 1) * 28) = fdy y + (m - 1) * 28 := IntWalk.i64_in _ (by omega)
  have e4 : IntKind.i64.wrap (d - 1) = d - 1 := IntWalk.i64_in _ (by omega)
  have e5 : IntKind.i64.wrap (fdy y + (m - 1) * 28 + (d - 1)) = fdy y + (m - 1) * 28 + (d - 1) := IntWalk.i64_in _ (by omega)
  have a1 : -20000000 ≤ fdy y + (m - 1) * 28 + (d - 1) := by omega
  have a2 : fdy y + (m - 1) * 28 + (d - 1) ≤ 20000000 := by omega
  rw [eT] at hI
  have g := isI_n hI
  clear eT n1 n2 H hI d2 y1 y2 m1 m2 d1 d3 f1 f2
  generalize hN : fdy y + (m - 1) * 28 + (d - 1) = N at *
  have gv : (decide (N * 67108864 + h * 4194304 + i * 65536 + s * 1024 + k < -1125899906842624) = true) ∨ (decide (N * 67108864 + h * 4194304 + i * 65536 + s * 1024 + k < -1125899906842624) = false ∧ decide (1125899906842624 < N * 67108864 + h * 4194304 + i * 65536 + s * 1024 + k) = true) := by
    rcases g with g | g
    · exact .inl (decide_eq_true g)
    · exact .inr ⟨decide_eq_false (by omega), decide_eq_true g⟩
  clear g
  unfold dAgg at *
  rcases gv with v1 | ⟨v1, v2⟩
  all_goals
      rcases D with D1 | ⟨D1, ⟨hl, D2⟩ | ⟨hl, D2⟩⟩
      · cases hl : lng y with
        | true =>
          rw [hl] at L
          clear hl
          go_enter Tryz.func28, Tryz.ntmps28
          go_wp2_with fail
          refine (L _).mono ?_
          rintro _ w1 ⟨rfl, hn⟩
          have hc := drew_cells hn
          have hb := Lib.hid (drew_below B1.out hn)
          clear hn L B1
          go_wp2_with fail
          go_quiet ((go_at_call 47; with_reducible refine quiet_dr (C3 _)))
          clear e1 e2 e3 e4 e5 hN
          go_wp2_with fail
          go_ret2
          exact ⟨rfl, bl_drewN hb.out _⟩
        | false =>
          rw [hl] at L
          clear hl
          go_enter Tryz.func28, Tryz.ntmps28
          go_wp2_with fail
          refine (L _).mono ?_
          rintro _ w1 ⟨rfl, hn⟩
          have hc := drew_cells hn
          have hb := Lib.hid (drew_below B1.out hn)
          clear hn L B1
          go_wp2_with fail
          go_quiet ((go_at_call 47; with_reducible refine quiet_dr (C3 _)))
          clear e1 e2 e3 e4 e5 hN
          go_wp2_with fail
          go_ret2
          exact ⟨rfl, bl_drewN hb.out _⟩
      · rw [hl] at L
        clear hl
        go_enter Tryz.func28, Tryz.ntmps28
        go_wp2_with fail
        refine (L _).mono ?_
        rintro _ w1 ⟨rfl, hn⟩
        have hc := drew_cells hn
        have hb := Lib.hid (drew_below B1.out hn)
        clear hn L B1
        go_wp2_with fail
        go_quiet ((go_at_call 47; with_reducible refine quiet_dr (C3 _)))
        clear e1 e2 e3 e4 e5 hN
        go_wp2_with fail
        go_ret2
        exact ⟨rfl, bl_drewN hb.out _⟩
      · rw [hl] at L
        clear hl
        go_enter Tryz.func28, Tryz.ntmps28
        go_wp2_with fail
        refine (L _).mono ?_
        rintro _ w1 ⟨rfl, hn⟩
        have hc := drew_cells hn
        have hb := Lib.hid (drew_below B1.out hn)
        clear hn L B1
        go_wp2_with fail
        go_quiet ((go_at_call 47; with_reducible refine quiet_dr (C3 _)))
        clear e1 e2 e3 e4 e5 hN
        go_wp2_with fail
        go_ret2
        exact ⟨rfl, bl_drewN hb.out _⟩
set_option maxRecDepth 100000 in
theorem rfrom_run (y m d h i s k : Int) (w : World) :
    Calls Tryz.prog 28 #[dAgg y m d h i s k] w fun e w' => e = .returned (fromV y m d h i s k) ∧ Below w.heap.size w w' := by
  have no : ¬ (isD y m d h i s k = true ∧ isI (inst y m d h i s k) = true) → fromV y m d h i s k = .tuple #[.int .i64 0, .int .i64 80] := fun e => if_neg e
  have f : ∀ {p : Prop} [Decidable p], ¬ p → decide p = false := fun h => decide_eq_false h
  have t : ∀ {p : Prop} [Decidable p], p → decide p = true := fun h => decide_eq_true h
  have P : isD y m d h i s k = true → (1 ≤ m ∧ m ≤ 14) ∧ (1 ≤ d ∧ d ≤ mLen y m) ∧ (0 ≤ h ∧ h ≤ 15) ∧ (0 ≤ i ∧ i ≤ 63) ∧ (0 ≤ s ∧ s ≤ 63) ∧ (0 ≤ k ∧ k ≤ 1023) := isD_parts
  have far : isD y m d h i s k = true → (y < -45965 ∨ 45965 < y) → ¬ (isI (inst y m d h i s k) = true) := fun H hy => by rw [inst_far H hy]; decide
  have ml := mLen_le y m
  by_cases p0 : y < -50000
  · rw [no (fun e => far e.1 (by omega) e.2)]; exact rfrom_a0 (t p0) w
  by_cases p1 : 50000 < y
  · rw [no (fun e => far e.1 (by omega) e.2)]; exact rfrom_a1 (f p0) (t p1) w
  by_cases p2 : m < 1
  · rw [no (fun e => by have := P e.1; omega)]; exact rfrom_a2 (f p0) (f p1) (t p2) w
  by_cases p3 : 14 < m
  · rw [no (fun e => by have := P e.1; omega)]; exact rfrom_a3 (f p0) (f p1) (f p2) (t p3) w
  by_cases p4 : d < 1
  · rw [no (fun e => by have := P e.1; omega)]; exact rfrom_a4 (f p0) (f p1) (f p2) (f p3) (t p4) w
  by_cases p5 : 28 < d
  · rw [no (fun e => by have := P e.1; omega)]; exact rfrom_a5 (f p0) (f p1) (f p2) (f p3) (f p4) (t p5) w
  by_cases pm : m = 14 ∧ mLen y 14 < d
  · rw [no (fun e => by have := (P e.1).2.1; rw [pm.1] at this; omega)]; exact rfrom_b (f p0) (f p1) (f p2) (f p3) (f p4) (f p5) pm.1 pm.2 w
  have D := dayOk_of pm
  by_cases q0 : h < 0
  · rw [no (fun e => by have := P e.1; omega)]; exact rfrom_c0 (f p0) (f p1) (f p2) (f p3) (f p4) (f p5) D  (t q0) w
  by_cases q1 : 15 < h
  · rw [no (fun e => by have := P e.1; omega)]; exact rfrom_c1 (f p0) (f p1) (f p2) (f p3) (f p4) (f p5) D (f q0) (t q1) w
  by_cases q2 : i < 0
  · rw [no (fun e => by have := P e.1; omega)]; exact rfrom_c2 (f p0) (f p1) (f p2) (f p3) (f p4) (f p5) D (f q0) (f q1) (t q2) w
  by_cases q3 : 63 < i
  · rw [no (fun e => by have := P e.1; omega)]; exact rfrom_c3 (f p0) (f p1) (f p2) (f p3) (f p4) (f p5) D (f q0) (f q1) (f q2) (t q3) w
  by_cases q4 : s < 0
  · rw [no (fun e => by have := P e.1; omega)]; exact rfrom_c4 (f p0) (f p1) (f p2) (f p3) (f p4) (f p5) D (f q0) (f q1) (f q2) (f q3) (t q4) w
  by_cases q5 : 63 < s
  · rw [no (fun e => by have := P e.1; omega)]; exact rfrom_c5 (f p0) (f p1) (f p2) (f p3) (f p4) (f p5) D (f q0) (f q1) (f q2) (f q3) (f q4) (t q5) w
  by_cases q6 : k < 0
  · rw [no (fun e => by have := P e.1; omega)]; exact rfrom_c6 (f p0) (f p1) (f p2) (f p3) (f p4) (f p5) D (f q0) (f q1) (f q2) (f q3) (f q4) (f q5) (t q6) w
  by_cases q7 : 1023 < k
  · rw [no (fun e => by have := P e.1; omega)]; exact rfrom_c7 (f p0) (f p1) (f p2) (f p3) (f p4) (f p5) D (f q0) (f q1) (f q2) (f q3) (f q4) (f q5) (f q6) (t q7) w
  have hd : d ≤ mLen y m := by
    by_cases hm : m = 14
    · have : ¬ mLen y 14 < d := fun e => pm ⟨hm, e⟩
      rw [hm]; omega
    · unfold mLen
      rw [if_pos (by omega)]; omega
  have H : isD y m d h i s k = true := decide_eq_true ⟨by omega, ⟨by omega, hd⟩, by omega, by omega, by omega, by omega⟩
  cases hI : isI (inst y m d h i s k) with
  | true => exact rfrom_in H hI (by omega) (by omega) w
  | false => rw [fromV_i hI]; exact rfrom_out H hI (by omega) (by omega) w
end Go.Proofs.YtpnncmdeidbemaaGreatDoor
