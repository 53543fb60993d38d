/- Proved here: what the texts Obc prove, one behind the other. -/
import Derived.Test.YtkpdnhbifokhlaaJp1
import Derived.Test.YtkpdnhbifokhlaaJy8

namespace Go.Proofs.Ytkpdnhbifokhlaa
open Go.ChangeShapes Go.WideShapes Go.ChangeAt Go.RowKit Ieee.Own

def readyO (o : Ob) (t : Bool) : Int := if mayO o = true then (if t = true then 0 else 80) else 110
theorem readyO_zero {o : Ob} {t : Bool} (h : readyO o t = 0) : mayO o = true ∧ t = true := by
  unfold readyO at h
  by_cases a : mayO o = true
  · rw [if_pos a] at h
    by_cases b : t = true
    · exact ⟨a, b⟩
    · rw [if_neg b] at h; omega
  · rw [if_neg a] at h; omega
/-- what an orbit's numbers are -/
structure ObOk (o : Ob) : Prop where
  ax : btwB axLo axHi o.ax = true
  ec : ecB o.ec = true
  ti : tuB o.ti = true
  no : tuB o.no = true
  pe : tuB o.pe = true
  ph : tuB o.ph = true
  ra : tuB o.ra = true
theorem mayO_of {o : Ob} (h : mayO o = true) : ObOk o := by
  unfold mayO at h
  simp only [Bool.and_eq_true] at h
  obtain ⟨a, b, c, d, e, f, g⟩ := h
  exact ⟨a, b, c, d, e, f, g⟩
set_option maxHeartbeats 4000000 in
set_option maxRecDepth 100000 in
theorem oready_run {o : Ob} (h : ObW o) (t : Bool) (w : World) : Calls Try.prog 32 #[obV o, .bool t] w fun e w' => e = .returned (.int .i64 (readyO o t)) ∧ Below w.heap.size w w' := by
  have C := Lib.hid (fun w => ocheck_run h w)
  unfold chkO at C
  unfold readyO
  clear h
  generalize mayO o = m at *
  obtain ⟨ax, ec, ti, no, pe, ph, ra⟩ := o
  unfold obV at *
  dsimp only at *
  cases m <;> cases t <;> (
    simp only [if_true, Bool.false_eq_true, if_false] at C ⊢
    have K0 := kv1 w 24 [.float .f64 ax, .float .f64 ec, .float .f64 ti, .float .f64 no, .float .f64 pe, .float .f64 ph, .float .f64 ra]
    simp only [objV] at K0
    have hst := @fstore
    replace K0 := Lib.hid K0
    go_enter Try.func32, Try.ntmps32
    go_wp2_with fail
    have K := K0.out
    clear K0
    generalize w.alloc _ = wr at *
    refine (C.out wr).mono ?_
    rintro _ v1 ⟨rfl, hb⟩
    replace K := K.on hb
    clear hb
    replace K := Lib.hid K
    go_wp2_with fail
    replace K := K.out
    go_ret
    exact ⟨rfl, K.old⟩)
set_option maxHeartbeats 4000000 in
set_option maxRecDepth 100000 in
theorem rwi_axis {x : Nat} (hx : x < 18446744073709551616) (w : World) : Calls Try.prog 31 #[.float .f64 x, .float .f64 4787326403894837248] w fun e w' => e = .returned (.bool (btwB 14010698440749613056 4787326403894837248 x)) ∧ w = w' := by
  have CF := fun w => rfit_any x hx w
  have hneg : ∀ w, (Op.unary .neg (.float .f64 4787326403894837248)).run Try.prog w = .ok (.float .f64 14010698440749613056) w := fun w => rfl
  unfold btwB
  by_cases h : fitB x = true
  · have fx := fit_fin hx h
    have g1 := ge_words fx (show FinW 14010698440749613056 by unfold FinW; omega)
    have g2 := le_words fx (show FinW 4787326403894837248 by unfold FinW; omega)
    rw [h] at CF ⊢
    generalize decide (V 14010698440749613056 ≤ V x) = p at *
    generalize decide (V x ≤ V 4787326403894837248) = q at *
    clear fx hx h
    cases p <;> cases q <;> (
      go_enter Try.func31, Try.ntmps31
      go_wp2_with (go_at_call 61; ((with_reducible refine (CF _).mono ?_); rintro e w' ⟨rfl, rfl⟩))
      go_ret
      exact ⟨rfl, rfl⟩)
  · rw [Bool.not_eq_true] at h
    rw [h] at CF ⊢
    clear hx h
    go_enter Try.func31, Try.ntmps31
    go_wp2_with (go_at_call 61; ((with_reducible refine (CF _).mono ?_); rintro e w' ⟨rfl, rfl⟩))
    go_ret
    exact ⟨rfl, rfl⟩
set_option maxHeartbeats 4000000 in
set_option maxRecDepth 100000 in
theorem rwi_ecc {x : Nat} (hx : x < 18446744073709551616) (w : World) : Calls Try.prog 31 #[.float .f64 x, .float .f64 4606056518893174784] w fun e w' => e = .returned (.bool (btwB 13829428555747950592 4606056518893174784 x)) ∧ w = w' := by
  have CF := fun w => rfit_any x hx w
  have hneg : ∀ w, (Op.unary .neg (.float .f64 4606056518893174784)).run Try.prog w = .ok (.float .f64 13829428555747950592) w := fun w => rfl
  unfold btwB
  by_cases h : fitB x = true
  · have fx := fit_fin hx h
    have g1 := ge_words fx (show FinW 13829428555747950592 by unfold FinW; omega)
    have g2 := le_words fx (show FinW 4606056518893174784 by unfold FinW; omega)
    rw [h] at CF ⊢
    generalize decide (V 13829428555747950592 ≤ V x) = p at *
    generalize decide (V x ≤ V 4606056518893174784) = q at *
    clear fx hx h
    cases p <;> cases q <;> (
      go_enter Try.func31, Try.ntmps31
      go_wp2_with (go_at_call 61; ((with_reducible refine (CF _).mono ?_); rintro e w' ⟨rfl, rfl⟩))
      go_ret
      exact ⟨rfl, rfl⟩)
  · rw [Bool.not_eq_true] at h
    rw [h] at CF ⊢
    clear hx h
    go_enter Try.func31, Try.ntmps31
    go_wp2_with (go_at_call 61; ((with_reducible refine (CF _).mono ?_); rintro e w' ⟨rfl, rfl⟩))
    go_ret
    exact ⟨rfl, rfl⟩
set_option maxHeartbeats 4000000 in
set_option maxRecDepth 100000 in
theorem rwi_turns {x : Nat} (hx : x < 18446744073709551616) (w : World) : Calls Try.prog 31 #[.float .f64 x, .float .f64 4652218415073722368] w fun e w' => e = .returned (.bool (btwB 13875590451928498176 4652218415073722368 x)) ∧ w = w' := by
  have CF := fun w => rfit_any x hx w
  have hneg : ∀ w, (Op.unary .neg (.float .f64 4652218415073722368)).run Try.prog w = .ok (.float .f64 13875590451928498176) w := fun w => rfl
  unfold btwB
  by_cases h : fitB x = true
  · have fx := fit_fin hx h
    have g1 := ge_words fx (show FinW 13875590451928498176 by unfold FinW; omega)
    have g2 := le_words fx (show FinW 4652218415073722368 by unfold FinW; omega)
    rw [h] at CF ⊢
    generalize decide (V 13875590451928498176 ≤ V x) = p at *
    generalize decide (V x ≤ V 4652218415073722368) = q at *
    clear fx hx h
    cases p <;> cases q <;> (
      go_enter Try.func31, Try.ntmps31
      go_wp2_with (go_at_call 61; ((with_reducible refine (CF _).mono ?_); rintro e w' ⟨rfl, rfl⟩))
      go_ret
      exact ⟨rfl, rfl⟩)
  · rw [Bool.not_eq_true] at h
    rw [h] at CF ⊢
    clear hx h
    go_enter Try.func31, Try.ntmps31
    go_wp2_with (go_at_call 61; ((with_reducible refine (CF _).mono ?_); rintro e w' ⟨rfl, rfl⟩))
    go_ret
    exact ⟨rfl, rfl⟩
set_option maxHeartbeats 4000000 in
set_option maxRecDepth 100000 in
theorem rwi_half {x : Nat} (hx : x < 18446744073709551616) (w : World) : Calls Try.prog 31 #[.float .f64 x, .float .f64 4602678819172646912] w fun e w' => e = .returned (.bool (btwB 13826050856027422720 4602678819172646912 x)) ∧ w = w' := by
  have CF := fun w => rfit_any x hx w
  have hneg : ∀ w, (Op.unary .neg (.float .f64 4602678819172646912)).run Try.prog w = .ok (.float .f64 13826050856027422720) w := fun w => rfl
  unfold btwB
  by_cases h : fitB x = true
  · have fx := fit_fin hx h
    have g1 := ge_words fx (show FinW 13826050856027422720 by unfold FinW; omega)
    have g2 := le_words fx (show FinW 4602678819172646912 by unfold FinW; omega)
    rw [h] at CF ⊢
    generalize decide (V 13826050856027422720 ≤ V x) = p at *
    generalize decide (V x ≤ V 4602678819172646912) = q at *
    clear fx hx h
    cases p <;> cases q <;> (
      go_enter Try.func31, Try.ntmps31
      go_wp2_with (go_at_call 61; ((with_reducible refine (CF _).mono ?_); rintro e w' ⟨rfl, rfl⟩))
      go_ret
      exact ⟨rfl, rfl⟩)
  · rw [Bool.not_eq_true] at h
    rw [h] at CF ⊢
    clear hx h
    go_enter Try.func31, Try.ntmps31
    go_wp2_with (go_at_call 61; ((with_reducible refine (CF _).mono ?_); rintro e w' ⟨rfl, rfl⟩))
    go_ret
    exact ⟨rfl, rfl⟩
theorem axis_two (x : Nat) : btwB axLo axHi x = (btwB 14010698440749613056 4787326403894837248 x && !decide (V x < V axLo)) := by
  have c : V 14010698440749613056 ≤ V axLo := by decide +kernel
  unfold btwB axHi
  rw [Bool.eq_iff_iff]
  simp only [Bool.and_eq_true, decide_eq_true_eq, Bool.not_eq_true', decide_eq_false_iff_not]
  constructor
  · rintro ⟨a, b, d⟩; exact ⟨⟨a, by omega, d⟩, by omega⟩
  · rintro ⟨⟨a, b, d⟩, e⟩; exact ⟨a, by omega, d⟩
theorem ecc_two (x : Nat) : ecB x = (btwB 13829428555747950592 4606056518893174784 x && !decide (V x < 0)) := by
  have c : V 13829428555747950592 ≤ 0 := by decide +kernel
  unfold ecB btwB ecHi
  rw [V_zero, Bool.eq_iff_iff]
  simp only [Bool.and_eq_true, decide_eq_true_eq, Bool.not_eq_true', decide_eq_false_iff_not]
  constructor
  · rintro ⟨a, b, d⟩; exact ⟨⟨a, by omega, d⟩, by omega⟩
  · rintro ⟨⟨a, b, d⟩, e⟩; exact ⟨a, by omega, d⟩
set_option maxHeartbeats 4000000 in
set_option maxRecDepth 100000 in
theorem rcheckO_run {o : Ob} (h : ObW o) (w : World) : Calls Try.prog 10 #[obV o] w fun e w' => e = .returned (.int .i64 (chkO o)) ∧ Below w.heap.size w w' := by
  have C0 := fun w => rwi_axis h.ax w
  have C1 := fun w => rwi_ecc h.ec w
  have C2 : ∀ w, Calls Try.prog 31 #[.float .f64 o.ti, .float .f64 4652218415073722368] w fun e w' => e = .returned (.bool (tuB o.ti)) ∧ w = w' := fun w => rwi_turns h.ti w
  have C3 : ∀ w, Calls Try.prog 31 #[.float .f64 o.no, .float .f64 4652218415073722368] w fun e w' => e = .returned (.bool (tuB o.no)) ∧ w = w' := fun w => rwi_turns h.no w
  have C4 : ∀ w, Calls Try.prog 31 #[.float .f64 o.pe, .float .f64 4652218415073722368] w fun e w' => e = .returned (.bool (tuB o.pe)) ∧ w = w' := fun w => rwi_turns h.pe w
  have C5 : ∀ w, Calls Try.prog 31 #[.float .f64 o.ph, .float .f64 4652218415073722368] w fun e w' => e = .returned (.bool (tuB o.ph)) ∧ w = w' := fun w => rwi_turns h.ph w
  have C6 : ∀ w, Calls Try.prog 31 #[.float .f64 o.ra, .float .f64 4652218415073722368] w fun e w' => e = .returned (.bool (tuB o.ra)) ∧ w = w' := fun w => rwi_turns h.ra w
  have L0 : btwB 14010698440749613056 4787326403894837248 o.ax = true → (FloatKind.f64.format.order o.ax 4517110426252607488 == some Ordering.lt) = decide (V o.ax < V axLo) := fun q => lt_words (btw_of h.ax q).1 (show FinW axLo by unfold FinW axLo; omega)
  have L1 : btwB 13829428555747950592 4606056518893174784 o.ec = true → (FloatKind.f64.format.order o.ec 0 == some Ordering.lt) = decide (V o.ec < 0) := fun q => lt_zero _ (btw_of h.ec q).1
  unfold chkO mayO
  rw [axis_two, ecc_two]
  clear h
  unfold obV
  generalize btwB 14010698440749613056 4787326403894837248 o.ax = b0 at *
  generalize btwB 13829428555747950592 4606056518893174784 o.ec = b1 at *
  generalize decide (V o.ax < V axLo) = d0 at *
  generalize decide (V o.ec < 0) = d1 at *
  generalize tuB o.ti = b2 at *
  generalize tuB o.no = b3 at *
  generalize tuB o.pe = b4 at *
  generalize tuB o.ph = b5 at *
  generalize tuB o.ra = b6 at *
  obtain ⟨ax, ec, ti, no, pe, ph, ra⟩ := o
  dsimp only at *
  have K := kv1 w 24 [.float .f64 ax, .float .f64 ec, .float .f64 ti, .float .f64 no, .float .f64 pe, .float .f64 ph, .float .f64 ra]
  simp only [objV] at K
  have c0 := (K.at_ 0 rfl).at_ 0 _ rfl
  have c1 := (K.at_ 0 rfl).at_ 1 _ rfl
  have c2 := (K.at_ 0 rfl).at_ 2 _ rfl
  have c3 := (K.at_ 0 rfl).at_ 3 _ rfl
  have c4 := (K.at_ 0 rfl).at_ 4 _ rfl
  have c5 := (K.at_ 0 rfl).at_ 5 _ rfl
  have c6 := (K.at_ 0 rfl).at_ 6 _ rfl
  replace K := Lib.hid K
  cases b0 with
  | false =>
    clear L0 L1
    go_enter Try.func10, Try.ntmps10
    go_wp2_with (first | (go_at_call 31; ((with_reducible refine (C0 _).mono ?_); rintro e w' ⟨rfl, rfl⟩)) | (go_at_call 31; ((with_reducible refine (C1 _).mono ?_); rintro e w' ⟨rfl, rfl⟩)) | (go_at_call 31; ((with_reducible refine (C2 _).mono ?_); rintro e w' ⟨rfl, rfl⟩)) | (go_at_call 31; ((with_reducible refine (C3 _).mono ?_); rintro e w' ⟨rfl, rfl⟩)) | (go_at_call 31; ((with_reducible refine (C4 _).mono ?_); rintro e w' ⟨rfl, rfl⟩)) | (go_at_call 31; ((with_reducible refine (C5 _).mono ?_); rintro e w' ⟨rfl, rfl⟩)) | (go_at_call 31; ((with_reducible refine (C6 _).mono ?_); rintro e w' ⟨rfl, rfl⟩)))
    replace K := K.out
    go_ret
    exact ⟨rfl, K.old⟩
  | true =>
    replace L0 := L0 rfl
    cases d0 with
    | true =>
      clear L1
      go_enter Try.func10, Try.ntmps10
      go_wp2_with (first | (go_at_call 31; ((with_reducible refine (C0 _).mono ?_); rintro e w' ⟨rfl, rfl⟩)) | (go_at_call 31; ((with_reducible refine (C1 _).mono ?_); rintro e w' ⟨rfl, rfl⟩)) | (go_at_call 31; ((with_reducible refine (C2 _).mono ?_); rintro e w' ⟨rfl, rfl⟩)) | (go_at_call 31; ((with_reducible refine (C3 _).mono ?_); rintro e w' ⟨rfl, rfl⟩)) | (go_at_call 31; ((with_reducible refine (C4 _).mono ?_); rintro e w' ⟨rfl, rfl⟩)) | (go_at_call 31; ((with_reducible refine (C5 _).mono ?_); rintro e w' ⟨rfl, rfl⟩)) | (go_at_call 31; ((with_reducible refine (C6 _).mono ?_); rintro e w' ⟨rfl, rfl⟩)))
      replace K := K.out
      go_ret
      exact ⟨rfl, K.old⟩
    | false =>
      cases b1 with
      | false =>
        clear L1
        go_enter Try.func10, Try.ntmps10
        go_wp2_with (first | (go_at_call 31; ((with_reducible refine (C0 _).mono ?_); rintro e w' ⟨rfl, rfl⟩)) | (go_at_call 31; ((with_reducible refine (C1 _).mono ?_); rintro e w' ⟨rfl, rfl⟩)) | (go_at_call 31; ((with_reducible refine (C2 _).mono ?_); rintro e w' ⟨rfl, rfl⟩)) | (go_at_call 31; ((with_reducible refine (C3 _).mono ?_); rintro e w' ⟨rfl, rfl⟩)) | (go_at_call 31; ((with_reducible refine (C4 _).mono ?_); rintro e w' ⟨rfl, rfl⟩)) | (go_at_call 31; ((with_reducible refine (C5 _).mono ?_); rintro e w' ⟨rfl, rfl⟩)) | (go_at_call 31; ((with_reducible refine (C6 _).mono ?_); rintro e w' ⟨rfl, rfl⟩)))
        replace K := K.out
        go_ret
        exact ⟨rfl, K.old⟩
      | true =>
        replace L1 := L1 rfl
        cases d1 with
        | true =>
          go_enter Try.func10, Try.ntmps10
          go_wp2_with (first | (go_at_call 31; ((with_reducible refine (C0 _).mono ?_); rintro e w' ⟨rfl, rfl⟩)) | (go_at_call 31; ((with_reducible refine (C1 _).mono ?_); rintro e w' ⟨rfl, rfl⟩)) | (go_at_call 31; ((with_reducible refine (C2 _).mono ?_); rintro e w' ⟨rfl, rfl⟩)) | (go_at_call 31; ((with_reducible refine (C3 _).mono ?_); rintro e w' ⟨rfl, rfl⟩)) | (go_at_call 31; ((with_reducible refine (C4 _).mono ?_); rintro e w' ⟨rfl, rfl⟩)) | (go_at_call 31; ((with_reducible refine (C5 _).mono ?_); rintro e w' ⟨rfl, rfl⟩)) | (go_at_call 31; ((with_reducible refine (C6 _).mono ?_); rintro e w' ⟨rfl, rfl⟩)))
          replace K := K.out
          go_ret
          exact ⟨rfl, K.old⟩
        | false =>
          cases b2 with
          | false =>
            go_enter Try.func10, Try.ntmps10
            go_wp2_with (first | (go_at_call 31; ((with_reducible refine (C0 _).mono ?_); rintro e w' ⟨rfl, rfl⟩)) | (go_at_call 31; ((with_reducible refine (C1 _).mono ?_); rintro e w' ⟨rfl, rfl⟩)) | (go_at_call 31; ((with_reducible refine (C2 _).mono ?_); rintro e w' ⟨rfl, rfl⟩)) | (go_at_call 31; ((with_reducible refine (C3 _).mono ?_); rintro e w' ⟨rfl, rfl⟩)) | (go_at_call 31; ((with_reducible refine (C4 _).mono ?_); rintro e w' ⟨rfl, rfl⟩)) | (go_at_call 31; ((with_reducible refine (C5 _).mono ?_); rintro e w' ⟨rfl, rfl⟩)) | (go_at_call 31; ((with_reducible refine (C6 _).mono ?_); rintro e w' ⟨rfl, rfl⟩)))
            replace K := K.out
            go_ret
            exact ⟨rfl, K.old⟩
          | true =>
            cases b3 with
            | false =>
              go_enter Try.func10, Try.ntmps10
              go_wp2_with (first | (go_at_call 31; ((with_reducible refine (C0 _).mono ?_); rintro e w' ⟨rfl, rfl⟩)) | (go_at_call 31; ((with_reducible refine (C1 _).mono ?_); rintro e w' ⟨rfl, rfl⟩)) | (go_at_call 31; ((with_reducible refine (C2 _).mono ?_); rintro e w' ⟨rfl, rfl⟩)) | (go_at_call 31; ((with_reducible refine (C3 _).mono ?_); rintro e w' ⟨rfl, rfl⟩)) | (go_at_call 31; ((with_reducible refine (C4 _).mono ?_); rintro e w' ⟨rfl, rfl⟩)) | (go_at_call 31; ((with_reducible refine (C5 _).mono ?_); rintro e w' ⟨rfl, rfl⟩)) | (go_at_call 31; ((with_reducible refine (C6 _).mono ?_); rintro e w' ⟨rfl, rfl⟩)))
              replace K := K.out
              go_ret
              exact ⟨rfl, K.old⟩
            | true =>
              cases b4 with
              | false =>
                go_enter Try.func10, Try.ntmps10
                go_wp2_with (first | (go_at_call 31; ((with_reducible refine (C0 _).mono ?_); rintro e w' ⟨rfl, rfl⟩)) | (go_at_call 31; ((with_reducible refine (C1 _).mono ?_); rintro e w' ⟨rfl, rfl⟩)) | (go_at_call 31; ((with_reducible refine (C2 _).mono ?_); rintro e w' ⟨rfl, rfl⟩)) | (go_at_call 31; ((with_reducible refine (C3 _).mono ?_); rintro e w' ⟨rfl, rfl⟩)) | (go_at_call 31; ((with_reducible refine (C4 _).mono ?_); rintro e w' ⟨rfl, rfl⟩)) | (go_at_call 31; ((with_reducible refine (C5 _).mono ?_); rintro e w' ⟨rfl, rfl⟩)) | (go_at_call 31; ((with_reducible refine (C6 _).mono ?_); rintro e w' ⟨rfl, rfl⟩)))
                replace K := K.out
                go_ret
                exact ⟨rfl, K.old⟩
              | true =>
                cases b5 with
                | false =>
                  go_enter Try.func10, Try.ntmps10
                  go_wp2_with (first | (go_at_call 31; ((with_reducible refine (C0 _).mono ?_); rintro e w' ⟨rfl, rfl⟩)) | (go_at_call 31; ((with_reducible refine (C1 _).mono ?_); rintro e w' ⟨rfl, rfl⟩)) | (go_at_call 31; ((with_reducible refine (C2 _).mono ?_); rintro e w' ⟨rfl, rfl⟩)) | (go_at_call 31; ((with_reducible refine (C3 _).mono ?_); rintro e w' ⟨rfl, rfl⟩)) | (go_at_call 31; ((with_reducible refine (C4 _).mono ?_); rintro e w' ⟨rfl, rfl⟩)) | (go_at_call 31; ((with_reducible refine (C5 _).mono ?_); rintro e w' ⟨rfl, rfl⟩)) | (go_at_call 31; ((with_reducible refine (C6 _).mono ?_); rintro e w' ⟨rfl, rfl⟩)))
                  replace K := K.out
                  go_ret
                  exact ⟨rfl, K.old⟩
                | true =>
                  cases b6 with
                  | false =>
                    go_enter Try.func10, Try.ntmps10
                    go_wp2_with (first | (go_at_call 31; ((with_reducible refine (C0 _).mono ?_); rintro e w' ⟨rfl, rfl⟩)) | (go_at_call 31; ((with_reducible refine (C1 _).mono ?_); rintro e w' ⟨rfl, rfl⟩)) | (go_at_call 31; ((with_reducible refine (C2 _).mono ?_); rintro e w' ⟨rfl, rfl⟩)) | (go_at_call 31; ((with_reducible refine (C3 _).mono ?_); rintro e w' ⟨rfl, rfl⟩)) | (go_at_call 31; ((with_reducible refine (C4 _).mono ?_); rintro e w' ⟨rfl, rfl⟩)) | (go_at_call 31; ((with_reducible refine (C5 _).mono ?_); rintro e w' ⟨rfl, rfl⟩)) | (go_at_call 31; ((with_reducible refine (C6 _).mono ?_); rintro e w' ⟨rfl, rfl⟩)))
                    replace K := K.out
                    go_ret
                    exact ⟨rfl, K.old⟩
                  | true =>
                    go_enter Try.func10, Try.ntmps10
                    go_wp2_with (first | (go_at_call 31; ((with_reducible refine (C0 _).mono ?_); rintro e w' ⟨rfl, rfl⟩)) | (go_at_call 31; ((with_reducible refine (C1 _).mono ?_); rintro e w' ⟨rfl, rfl⟩)) | (go_at_call 31; ((with_reducible refine (C2 _).mono ?_); rintro e w' ⟨rfl, rfl⟩)) | (go_at_call 31; ((with_reducible refine (C3 _).mono ?_); rintro e w' ⟨rfl, rfl⟩)) | (go_at_call 31; ((with_reducible refine (C4 _).mono ?_); rintro e w' ⟨rfl, rfl⟩)) | (go_at_call 31; ((with_reducible refine (C5 _).mono ?_); rintro e w' ⟨rfl, rfl⟩)) | (go_at_call 31; ((with_reducible refine (C6 _).mono ?_); rintro e w' ⟨rfl, rfl⟩)))
                    replace K := K.out
                    go_ret
                    exact ⟨rfl, K.old⟩
set_option maxHeartbeats 4000000 in
set_option maxRecDepth 100000 in
theorem rfine_run {x : Nat} (hx : x < 18446744073709551616) (w : World) : Calls Try.prog 37 #[.float .f64 x] w fun e w' => e = .returned (.float .f64 (fnW x)) ∧ w = w' := by
  have C := fun w => rfit_any x hx w
  unfold fnW
  clear hx
  generalize fitB x = b at *
  cases b <;> (
    simp only [if_true, Bool.false_eq_true, if_false]
    go_enter Try.func37, Try.ntmps37
    go_wp2_with (go_at_call 61; ((with_reducible refine (C _).mono ?_); rintro e w' ⟨rfl, rfl⟩))
    go_ret
    exact ⟨rfl, rfl⟩)
theorem halfO_V : V 4602678819172646912 = hlf := by decide +kernel
set_option maxHeartbeats 4000000 in
set_option maxRecDepth 100000 in
theorem rfrac_run {x : Nat} (h : Lft x) : ∃ r, Frc x r ∧ ∀ w, Calls Try.prog 38 #[.float .f64 x] w fun e w' => e = .returned (.float .f64 r) ∧ w = w' := by
  obtain ⟨F, hF, F51, L⟩ := flw_of h
  have CF := fun w => floor_run h.fin w
  have r1 := run_sub _ _ _ L.d
  have r2 := run_add _ _ _ L.u
  have r3 := run_sub _ _ _ L.e
  have r4 := run_add _ _ _ (plus0 L.df).1
  have r5 := run_add _ _ _ (plus0 L.ef).1
  have g1 := gt_words L.df (show FinW 4602678819172646912 by unfold FinW; omega)
  have g2 := eqW L.df (show FinW 4602678819172646912 by unfold FinW; omega)
  rw [halfO_V] at g1 g2
  have P51 : (2 : Nat) ^ 51 ≤ 2 ^ 62 := by decide
  have X := fun w => xconv (to_int64 L.fin L.v (by omega)) w
  have a1 := i64_and1 F
  have up := frc_up h hF L
  have dn := frc_down h hF L
  clear L hF h F51 P51
  unfold oneW at *
  generalize aX (lX x (aX (wholeW .down x) 4607182418800017408)) 0 = z1 at *
  generalize lX x (aX (wholeW .down x) 4607182418800017408) = z2 at *
  generalize aX (wholeW .down x) 4607182418800017408 = z3 at *
  generalize aX (lX x (wholeW .down x)) 0 = z4 at *
  generalize lX x (wholeW .down x) = z5 at *
  generalize wholeW .down x = z6 at *
  by_cases c1 : hlf < V z5
  · rw [decide_eq_true c1] at g1
    refine ⟨z1, up (.inl c1), fun w => ?_⟩
    clear up dn c1 g2 a1 X
    go_enter Try.func38, Try.ntmps38
    go_wp2_with (go_at_call 22; ((with_reducible refine (CF _).mono ?_); rintro e w' ⟨rfl, rfl⟩))
    go_ret
    exact ⟨rfl, rfl⟩
  · rw [decide_eq_false c1] at g1
    by_cases c2 : V z5 = hlf
    · rw [decide_eq_true c2] at g2
      by_cases c3 : F % 2 = 1
      · refine ⟨z1, up (.inr ⟨c2, c3⟩), fun w => ?_⟩
        rw [c3] at a1
        clear up dn c1 c2 c3
        go_enter Try.func38, Try.ntmps38
        go_wp2_with (go_at_call 22; ((with_reducible refine (CF _).mono ?_); rintro e w' ⟨rfl, rfl⟩))
        go_ret
        exact ⟨rfl, rfl⟩
      · refine ⟨z4, dn (fun q => q.elim c1 (fun q => c3 q.2)), fun w => ?_⟩
        have c0 : F % 2 = 0 := by omega
        rw [c0] at a1
        clear up dn c1 c2 c3 c0
        go_enter Try.func38, Try.ntmps38
        go_wp2_with (go_at_call 22; ((with_reducible refine (CF _).mono ?_); rintro e w' ⟨rfl, rfl⟩))
        go_ret
        exact ⟨rfl, rfl⟩
    · rw [decide_eq_false c2] at g2
      refine ⟨z4, dn (fun q => q.elim c1 (fun q => c2 q.1)), fun w => ?_⟩
      clear up dn c1 c2 a1 X
      go_enter Try.func38, Try.ntmps38
      go_wp2_with (go_at_call 22; ((with_reducible refine (CF _).mono ?_); rintro e w' ⟨rfl, rfl⟩))
      go_ret
      exact ⟨rfl, rfl⟩
set_option maxHeartbeats 4000000 in
set_option maxRecDepth 100000 in
theorem rsine_run {x j : Nat} (W : Wd x j 1075) (w : World) : Calls Try.prog 42 #[.float .f64 x] w fun e w' => e = .returned (.float .f64 (snW x)) ∧ Below w.heap.size w w' := by
  have C1 := fun w => rfine_run W.fin.1 w
  have C2 := Lib.hid (fun w => rsin5_run (fn_fin W.fin).1 (fnW_ang W) w)
  have e : tS (fnW x) = snW x := rfl
  rw [e] at C2
  clear W e
  generalize snW x = z at *
  generalize fnW x = y at *
  go_enter Try.func42, Try.ntmps42
  go_wp2_with (go_at_call 37; ((with_reducible refine (C1 _).mono ?_); rintro e w' ⟨rfl, rfl⟩))
  refine (C2.out w).mono ?_
  rintro _ w1 ⟨rfl, hb1⟩
  replace hb1 := Lib.hid hb1
  clear C2
  go_wp2_with fail
  go_ret
  exact ⟨rfl, hb1.out⟩
end Go.Proofs.Ytkpdnhbifokhlaa
