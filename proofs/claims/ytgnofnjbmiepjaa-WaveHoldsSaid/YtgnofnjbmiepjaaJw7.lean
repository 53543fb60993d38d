/- Proved here: what the texts Wvm, Wvn, Wvo prove, one behind the other. -/
import Derived.Test.YtgnofnjbmiepjaaJw2
import Derived.Test.YtgnofnjbmiepjaaJy6
import Derived.Test.YtgnofnjbmiepjaaJw5
import Derived.Test.YtgnofnjbmiepjaaJw6
import Derived.Test.YtgnofnjbmiepjaaJb4b
import Derived.Laws.MakeOwn

namespace Go.Proofs.Ytgnofnjbmiepjaa
open Go.ChangeShapes Go.WideShapes Go.ChangeAt Go.RowKit Ieee.Own Pol

set_option maxHeartbeats 4000000 in
set_option maxRecDepth 100000 in
theorem rwit12_40 (x : Nat) (hx : x < 18446744073709551616) (w : World) :
    Calls Try.prog 57 #[.float .f64 x, .float .f64 4787326403894837248] w fun e w' => e = .returned (.bool (witB g40 x)) ∧ w = w' := by
  have CF := fun w => rfit_any x hx w
  have g1 := o_leq x 4787326403894837248 hx (by omega)
  have g2 := o_geq x 14010698440749613056 hx (by omega)
  have hneg : ∀ w, (Op.unary .neg (.float .f64 4787326403894837248)).run Try.prog w = .ok (.float .f64 14010698440749613056) w := fun w => rfl
  by_cases h1 : fitB x = true
  · have fn := fit_fin hx h1
    have m := fn.2
    rw [h1] at CF
    have n1 : nn x := fin_nn fn
    have n2 : nn 4787326403894837248 := by unfold nn; omega
    have n3 : nn 14010698440749613056 := by unfold nn; omega
    have k2 : key64 4787326403894837248 = 4787326403894837248 := by decide
    have k3 : key64 14010698440749613056 = -4787326403894837248 := by decide
    rw [k2] at g1
    rw [k3] at g2
    have kx : key64 x = if x < 9223372036854775808 then (x : Int) else 9223372036854775808 - (x : Int) := rfl
    by_cases c1 : key64 x ≤ 4787326403894837248
    · rw [decide_eq_true ⟨n1, n2, c1⟩] at g1
      by_cases c2 : -4787326403894837248 ≤ key64 x
      · have e : witB g40 x = true := by unfold witB g40; rw [decide_eq_true_eq]; exact ⟨h1, by split at kx <;> omega⟩
        rw [e]
        rw [decide_eq_true ⟨n1, n3, c2⟩] at g2
        clear hx h1 fn m e n1 n2 n3 k2 k3 kx c1 c2
        go_enter Try.func57, Try.ntmps57
        go_wp2_with (go_at_call 39; ((with_reducible refine (CF _).mono ?_); rintro e w' ⟨rfl, rfl⟩))
        go_ret
        exact ⟨rfl, rfl⟩
      · have e : witB g40 x = false := by unfold witB g40; rw [decide_eq_false_iff_not]; exact fun h => by have := h.2; split at kx <;> omega
        rw [e]
        rw [decide_eq_false (fun h => c2 h.2.2)] at g2
        clear hx h1 fn m e n1 n2 n3 k2 k3 kx c1 c2
        go_enter Try.func57, Try.ntmps57
        go_wp2_with (go_at_call 39; ((with_reducible refine (CF _).mono ?_); rintro e w' ⟨rfl, rfl⟩))
        go_ret
        exact ⟨rfl, rfl⟩
    · have e : witB g40 x = false := by unfold witB g40; rw [decide_eq_false_iff_not]; exact fun h => by have := h.2; split at kx <;> omega
      rw [e]
      rw [decide_eq_false (fun h => c1 h.2.2)] at g1
      clear hx h1 fn m e n1 n2 n3 k2 k3 kx c1 g2
      go_enter Try.func57, Try.ntmps57
      go_wp2_with (go_at_call 39; ((with_reducible refine (CF _).mono ?_); rintro e w' ⟨rfl, rfl⟩))
      go_ret
      exact ⟨rfl, rfl⟩
  · have e : witB g40 x = false := by unfold witB; rw [decide_eq_false_iff_not]; exact fun h => h1 h.1
    rw [Bool.not_eq_true] at h1
    rw [h1] at CF
    rw [e]
    clear hx h1 e g1 g2 hneg
    go_enter Try.func57, Try.ntmps57
    go_wp2_with (go_at_call 39; ((with_reducible refine (CF _).mono ?_); rintro e w' ⟨rfl, rfl⟩))
    go_ret
    exact ⟨rfl, rfl⟩
set_option maxHeartbeats 4000000 in
set_option maxRecDepth 100000 in
theorem rwit12_10 (x : Nat) (hx : x < 18446744073709551616) (w : World) :
    Calls Try.prog 57 #[.float .f64 x, .float .f64 4652218415073722368] w fun e w' => e = .returned (.bool (witB g10 x)) ∧ w = w' := by
  have CF := fun w => rfit_any x hx w
  have g1 := o_leq x 4652218415073722368 hx (by omega)
  have g2 := o_geq x 13875590451928498176 hx (by omega)
  have hneg : ∀ w, (Op.unary .neg (.float .f64 4652218415073722368)).run Try.prog w = .ok (.float .f64 13875590451928498176) w := fun w => rfl
  by_cases h1 : fitB x = true
  · have fn := fit_fin hx h1
    have m := fn.2
    rw [h1] at CF
    have n1 : nn x := fin_nn fn
    have n2 : nn 4652218415073722368 := by unfold nn; omega
    have n3 : nn 13875590451928498176 := by unfold nn; omega
    have k2 : key64 4652218415073722368 = 4652218415073722368 := by decide
    have k3 : key64 13875590451928498176 = -4652218415073722368 := by decide
    rw [k2] at g1
    rw [k3] at g2
    have kx : key64 x = if x < 9223372036854775808 then (x : Int) else 9223372036854775808 - (x : Int) := rfl
    by_cases c1 : key64 x ≤ 4652218415073722368
    · rw [decide_eq_true ⟨n1, n2, c1⟩] at g1
      by_cases c2 : -4652218415073722368 ≤ key64 x
      · have e : witB g10 x = true := by unfold witB g10; rw [decide_eq_true_eq]; exact ⟨h1, by split at kx <;> omega⟩
        rw [e]
        rw [decide_eq_true ⟨n1, n3, c2⟩] at g2
        clear hx h1 fn m e n1 n2 n3 k2 k3 kx c1 c2
        go_enter Try.func57, Try.ntmps57
        go_wp2_with (go_at_call 39; ((with_reducible refine (CF _).mono ?_); rintro e w' ⟨rfl, rfl⟩))
        go_ret
        exact ⟨rfl, rfl⟩
      · have e : witB g10 x = false := by unfold witB g10; rw [decide_eq_false_iff_not]; exact fun h => by have := h.2; split at kx <;> omega
        rw [e]
        rw [decide_eq_false (fun h => c2 h.2.2)] at g2
        clear hx h1 fn m e n1 n2 n3 k2 k3 kx c1 c2
        go_enter Try.func57, Try.ntmps57
        go_wp2_with (go_at_call 39; ((with_reducible refine (CF _).mono ?_); rintro e w' ⟨rfl, rfl⟩))
        go_ret
        exact ⟨rfl, rfl⟩
    · have e : witB g10 x = false := by unfold witB g10; rw [decide_eq_false_iff_not]; exact fun h => by have := h.2; split at kx <;> omega
      rw [e]
      rw [decide_eq_false (fun h => c1 h.2.2)] at g1
      clear hx h1 fn m e n1 n2 n3 k2 k3 kx c1 g2
      go_enter Try.func57, Try.ntmps57
      go_wp2_with (go_at_call 39; ((with_reducible refine (CF _).mono ?_); rintro e w' ⟨rfl, rfl⟩))
      go_ret
      exact ⟨rfl, rfl⟩
  · have e : witB g10 x = false := by unfold witB; rw [decide_eq_false_iff_not]; exact fun h => h1 h.1
    rw [Bool.not_eq_true] at h1
    rw [h1] at CF
    rw [e]
    clear hx h1 e g1 g2 hneg
    go_enter Try.func57, Try.ntmps57
    go_wp2_with (go_at_call 39; ((with_reducible refine (CF _).mono ?_); rintro e w' ⟨rfl, rfl⟩))
    go_ret
    exact ⟨rfl, rfl⟩
set_option maxHeartbeats 4000000 in
set_option maxRecDepth 100000 in
theorem rcheck12_run (ao : Option Addr) (cap n : Nat) (L : List Wv) (w : World) (hn : n = L.length) (hm : n ≤ 4611686018427387904) (hW : WvsW L) (ha : VAt w ao L) :
    Calls Try.prog 35 #[.slice ao n cap] w fun e w' => e = .returned (.int .i64 (chkV L)) ∧ Below w.heap.size w w' := by
  by_cases hl : 32 < n
  · have t1 : decide (32 < n) = true := decide_eq_true hl
    rw [chkV_long (by omega)]
    clear hn ha hW
    go_enter Try.func35, Try.ntmps35
    go_wp2_with fail
    go_ret
    exact ⟨rfl, Below.refl _ _⟩
  · have t1 : decide (32 < n) = false := decide_eq_false hl
    replace hn := Lib.hid hn
    replace ha := Lib.hid ha
    replace hW := Lib.hid hW
    obtain ⟨V, hV⟩ : ∃ V, V = chkV L := ⟨_, rfl⟩
    rw [← hV]
    replace hV := Lib.hid hV
    go_enter Try.func35, Try.ntmps35
    go_wp2_with fail
    go_loopw [3] (fun iv wr => ∃ i : Nat, i ≤ n ∧ iv = .int .i64 i ∧ (∀ j, j < i → mayW (wvAt L j) = true) ∧ Below w.heap.size w wr) (fun iv _ => n - (intOf iv).toNat)
    case atStart => exact ⟨0, Nat.zero_le _, rfl, fun j hj => by omega, Below.refl _ _⟩
    case round =>
      obtain ⟨i, hi, rfl, ho, hb⟩ := hrel
      by_cases hlt : i < n
      · have hil : i < L.length := by have := hn.out; omega
        obtain ⟨b, o, rfl, hbl, c0, c1, c2, c3, c4⟩ := VAt.cells (ha.out.below (fun b o e _ => ha.out.lt b o e (by simp; omega)) hb) hil
        have fw := hW.out _ (wv_mem hil)
        have C0 := fun w => rwit12_40 (wvAt L i).am fw.am w
        have C1 := fun w => rwit12_10 (wvAt L i).ph fw.ph w
        have C2 := fun w => rwit12_10 (wvAt L i).rt fw.rt w
        have bad : Hid (mayW (wvAt L i) = false → V = 120) := fun h => by rw [hV.out]; exact chkV_bad (by have := hn.out; omega) hil h
        have good : Hid (mayW (wvAt L i) = true → ∀ j, j < i + 1 → mayW (wvAt L j) = true) := fun h j hj => by
          by_cases e : j < i
          · exact ho j e
          · have e : j = i := by omega
            rw [e]; exact h
        have em : mayW (wvAt L i) = (decide (0 ≤ (wvAt L i).ax) && (decide ((wvAt L i).ax ≤ 2) && (decide (0 ≤ (wvAt L i).pw) && (decide ((wvAt L i).pw ≤ 2) && (witB g40 (wvAt L i).am && (witB g10 (wvAt L i).ph && witB g10 (wvAt L i).rt)))))) := rfl
        clear fw ho
        generalize mayW (wvAt L i) = mb at *
        generalize witB g40 (wvAt L i).am = b0 at *
        generalize witB g10 (wvAt L i).ph = b1 at *
        generalize witB g10 (wvAt L i).rt = b2 at *
        generalize wvAt L i = f at *
        obtain ⟨ax, pw, am, ph, rt⟩ := f
        dsimp only at *
        have B1 := Lib.hid (hb.alloc hb.size (.cells #[.int .i64 ax, .int .i64 pw, .float .f64 am, .float .f64 ph, .float .f64 rt] 49))
        replace hb := Lib.hid hb
        clear hbl
        have hst := @fstore
        by_cases h0 : ax < 0
        · have e : mb = false := by rw [em, decide_eq_false (show ¬ 0 ≤ ax by omega)]; rfl
          have t0 := decide_eq_true h0
          replace bad := Lib.hid (bad.out e)
          clear good e em
          go_wp2_with (first | (go_at_call 57; ((with_reducible refine (C0 _).mono ?_); rintro e w' ⟨rfl, rfl⟩)) | (go_at_call 57; ((with_reducible refine (C1 _).mono ?_); rintro e w' ⟨rfl, rfl⟩)) | (go_at_call 57; ((with_reducible refine (C2 _).mono ?_); rintro e w' ⟨rfl, rfl⟩)))
          go_ret
          exact ⟨ret_iV bad.out.symm, B1.out⟩
        · have t0 := decide_eq_false h0
          by_cases h1 : 2 < ax
          · have e : mb = false := by rw [em, decide_eq_true (show 0 ≤ ax by omega), decide_eq_false (show ¬ ax ≤ 2 by omega)]; rfl
            have t1 := decide_eq_true h1
            replace bad := Lib.hid (bad.out e)
            clear good e em
            go_wp2_with (first | (go_at_call 57; ((with_reducible refine (C0 _).mono ?_); rintro e w' ⟨rfl, rfl⟩)) | (go_at_call 57; ((with_reducible refine (C1 _).mono ?_); rintro e w' ⟨rfl, rfl⟩)) | (go_at_call 57; ((with_reducible refine (C2 _).mono ?_); rintro e w' ⟨rfl, rfl⟩)))
            go_ret
            exact ⟨ret_iV bad.out.symm, B1.out⟩
          · have t1 := decide_eq_false h1
            by_cases h2 : pw < 0
            · have e : mb = false := by rw [em, decide_eq_true (show 0 ≤ ax by omega), decide_eq_true (show ax ≤ 2 by omega), decide_eq_false (show ¬ 0 ≤ pw by omega)]; rfl
              have t2 := decide_eq_true h2
              replace bad := Lib.hid (bad.out e)
              clear good e em
              go_wp2_with (first | (go_at_call 57; ((with_reducible refine (C0 _).mono ?_); rintro e w' ⟨rfl, rfl⟩)) | (go_at_call 57; ((with_reducible refine (C1 _).mono ?_); rintro e w' ⟨rfl, rfl⟩)) | (go_at_call 57; ((with_reducible refine (C2 _).mono ?_); rintro e w' ⟨rfl, rfl⟩)))
              go_ret
              exact ⟨ret_iV bad.out.symm, B1.out⟩
            · have t2 := decide_eq_false h2
              by_cases h3 : 2 < pw
              · have e : mb = false := by rw [em, decide_eq_true (show 0 ≤ ax by omega), decide_eq_true (show ax ≤ 2 by omega), decide_eq_true (show 0 ≤ pw by omega), decide_eq_false (show ¬ pw ≤ 2 by omega)]; rfl
                have t3 := decide_eq_true h3
                replace bad := Lib.hid (bad.out e)
                clear good e em
                go_wp2_with (first | (go_at_call 57; ((with_reducible refine (C0 _).mono ?_); rintro e w' ⟨rfl, rfl⟩)) | (go_at_call 57; ((with_reducible refine (C1 _).mono ?_); rintro e w' ⟨rfl, rfl⟩)) | (go_at_call 57; ((with_reducible refine (C2 _).mono ?_); rintro e w' ⟨rfl, rfl⟩)))
                go_ret
                exact ⟨ret_iV bad.out.symm, B1.out⟩
              · have t3 := decide_eq_false h3
                cases b0 with
                | false =>
                  have e : mb = false := by rw [em, decide_eq_true (show 0 ≤ ax by omega), decide_eq_true (show ax ≤ 2 by omega), decide_eq_true (show 0 ≤ pw by omega), decide_eq_true (show pw ≤ 2 by omega)]; rfl
                  replace bad := Lib.hid (bad.out e)
                  clear good e em
                  go_wp2_with (first | (go_at_call 57; ((with_reducible refine (C0 _).mono ?_); rintro e w' ⟨rfl, rfl⟩)) | (go_at_call 57; ((with_reducible refine (C1 _).mono ?_); rintro e w' ⟨rfl, rfl⟩)) | (go_at_call 57; ((with_reducible refine (C2 _).mono ?_); rintro e w' ⟨rfl, rfl⟩)))
                  go_ret
                  exact ⟨ret_iV bad.out.symm, B1.out⟩
                | true =>
                  cases b1 with
                  | false =>
                    have e : mb = false := by rw [em, decide_eq_true (show 0 ≤ ax by omega), decide_eq_true (show ax ≤ 2 by omega), decide_eq_true (show 0 ≤ pw by omega), decide_eq_true (show pw ≤ 2 by omega)]; rfl
                    replace bad := Lib.hid (bad.out e)
                    clear good e em
                    go_wp2_with (first | (go_at_call 57; ((with_reducible refine (C0 _).mono ?_); rintro e w' ⟨rfl, rfl⟩)) | (go_at_call 57; ((with_reducible refine (C1 _).mono ?_); rintro e w' ⟨rfl, rfl⟩)) | (go_at_call 57; ((with_reducible refine (C2 _).mono ?_); rintro e w' ⟨rfl, rfl⟩)))
                    go_ret
                    exact ⟨ret_iV bad.out.symm, B1.out⟩
                  | true =>
                    cases b2 with
                    | false =>
                      have e : mb = false := by rw [em, decide_eq_true (show 0 ≤ ax by omega), decide_eq_true (show ax ≤ 2 by omega), decide_eq_true (show 0 ≤ pw by omega), decide_eq_true (show pw ≤ 2 by omega)]; rfl
                      replace bad := Lib.hid (bad.out e)
                      clear good e em
                      go_wp2_with (first | (go_at_call 57; ((with_reducible refine (C0 _).mono ?_); rintro e w' ⟨rfl, rfl⟩)) | (go_at_call 57; ((with_reducible refine (C1 _).mono ?_); rintro e w' ⟨rfl, rfl⟩)) | (go_at_call 57; ((with_reducible refine (C2 _).mono ?_); rintro e w' ⟨rfl, rfl⟩)))
                      go_ret
                      exact ⟨ret_iV bad.out.symm, B1.out⟩
                    | true =>
                      have e : mb = true := by rw [em, decide_eq_true (show 0 ≤ ax by omega), decide_eq_true (show ax ≤ 2 by omega), decide_eq_true (show 0 ≤ pw by omega), decide_eq_true (show pw ≤ 2 by omega)]; rfl
                      replace good := Lib.hid (good.out e)
                      clear bad e em
                      go_wp2_with (first | (go_at_call 57; ((with_reducible refine (C0 _).mono ?_); rintro e w' ⟨rfl, rfl⟩)) | (go_at_call 57; ((with_reducible refine (C1 _).mono ?_); rintro e w' ⟨rfl, rfl⟩)) | (go_at_call 57; ((with_reducible refine (C2 _).mono ?_); rintro e w' ⟨rfl, rfl⟩)))
                      go_roundw
                      case rel => exact ⟨i + 1, hlt, by go_num, good.out, B1.out⟩
                      case measure => simp [intOf]; omega
      · obtain rfl : i = n := by omega
        have hv : V = 0 := by
          rw [hV.out]
          exact chkV_good (by have := hn.out; omega) (fun j hj => ho j (by have := hn.out; omega))
        replace hv := Lib.hid hv
        replace hb := Lib.hid hb
        clear ho
        go_wp2_with fail
        go_ret
        exact ⟨ret_iV hv.out.symm, hb.out⟩
set_option maxHeartbeats 4000000 in
set_option maxRecDepth 100000 in
theorem rreach12_run {L : List Wv} (ao : Option Addr) (cap n : Nat) (w : World) (hn : n = L.length) (hm : n ≤ 4611686018427387904) (hW : WvsW L) (ha : VAt w ao L) :
    Calls Try.prog 17 #[.slice ao n cap] w fun e w' => e = .returned (floE (rcR L).1 (rcR L).2) ∧ Below w.heap.size w w' := by
  have CR := Lib.hid (rcheck12_run ao cap n L w hn hm hW ha)
  unfold rcR floE
  by_cases hr : chkV L = 0
  · rw [if_pos hr]
    rw [hr] at CR
    have OK := Lib.hid (wvs_ok hW hr)
    have hl := (chkV_zero hr).1
    obtain ⟨A, hA⟩ : ∃ A, A = rcF L 0 := ⟨_, rfl⟩
    have rl := run_mul _ _ _ (rc_mul (wvs_ok hW hr) hl).1
    generalize rcW L = Z at *
    rw [← hA] at rl
    have R0 : rcF (L.drop 0) 0 = A := hA.symm
    have HF : Hid (∀ f ∈ L, (∀ w, Calls Try.prog 11 #[.float .f64 f.am] w fun e w' => e = .returned (.float .f64 (absW' f.am)) ∧ w = w') ∧ (∃ p : Nat, f.pw = (p : Int) ∧ p ≤ 2 ∧ rgt f = ag (absW' f.am) p) ∧ AgOk (absW' f.am) ∧ FinW (rgt f) ∧ 0 ≤ V (rgt f) ∧ (V (rgt f)).natAbs ≤ 2 ^ 1131) := Lib.hid fun f hf => by
      have O := OK.out f hf
      obtain ⟨g, a, b, c, -⟩ := rgt_ok O
      exact ⟨fun w => abs_any _ O.w.am w, ⟨_, O.pw.2, O.pw.1, rfl⟩, g, a, c, b⟩
    clear hA hr hW OK
    have hnl : n ≤ 32 := by omega
    clear hl
    unfold cRc at rl
    replace ha := Lib.hid ha
    replace hn := Lib.hid hn
    replace R0 := Lib.hid R0
    go_enter Try.func17, Try.ntmps17
    go_wp2_with fail
    refine CR.out.mono ?_
    rintro _ v1 ⟨rfl, hb⟩
    have ha1 := Lib.hid (ha.out.on hb)
    replace hb := Lib.hid hb
    clear CR
    go_wp2_with fail
    go_loopw [5, 6] (fun sv iv wr => ∃ i s : Nat, sv = .float .f64 s ∧ iv = .int .i64 i ∧ i ≤ n ∧ rcF (L.drop i) s = A ∧ Rm s i ∧ v1 = wr) (fun _ iv _ => n - (intOf iv).toNat)
    case atStart => exact ⟨0, 0, rfl, rfl, Nat.zero_le _, R0.out, rm_zero, rfl⟩
    case round =>
      obtain ⟨i, s, rfl, rfl, hi, hR, hS, rfl⟩ := hrel
      by_cases hlt : i < n
      · have hil : i < L.length := by have := hn.out; omega
        obtain ⟨b, o, rfl, hbl, c0, c1, c2, c3, c4⟩ := VAt.cells ha1.out hil
        obtain ⟨CA, ⟨p, hp, p2, rg⟩, AG, F1, F2, F3⟩ := HF.out _ (wv_mem hil)
        rw [wv_drop hil] at hR
        unfold rcF at hR
        obtain ⟨q1, q2, -⟩ := hS.put (by omega) F1 F2 F3
        have ra := run_add _ _ _ q1
        rw [rg] at hR q2 ra
        clear F1 F2 F3 q1 hS hbl rg c0 c3 c4
        have ST : Hid (∀ k, k < p → ∀ t w, (binOp .mul t (.float .f64 (ag (absW' (wvAt L i).am) k)) (.float .f64 4643211215818981376)).run Try.prog w = .ok (.float .f64 (ag (absW' (wvAt L i).am) (k + 1))) w) := Lib.hid fun k hk => run_mul _ _ _ (AG.st k (by omega))
        have A0 : Hid (ag (absW' (wvAt L i).am) 0 = absW' (wvAt L i).am) := Lib.hid rfl
        clear AG
        generalize absW' (wvAt L i).am = am' at *
        generalize wvAt L i = f at *
        obtain ⟨ax, pw, am, ph, rt⟩ := f
        dsimp only at *
        replace q2 := Lib.hid q2
        replace hR := Lib.hid hR
        replace hp := Lib.hid hp
        go_wp2_with (first | (go_at_call 11; ((with_reducible refine (CA _).mono ?_); rintro e w' ⟨rfl, rfl⟩)))
        go_loopw [7, 8] (fun xv kv wr => ∃ k : Nat, xv = .float .f64 (ag am' k) ∧ kv = .int .i64 k ∧ k ≤ p ∧ v1 = wr) (fun _ kv _ => p - (intOf kv).toNat)
        case atStart => exact ⟨0, by rw [A0.out], rfl, Nat.zero_le _, rfl⟩
        case round =>
          obtain ⟨k, rfl, rfl, hk, rfl⟩ := hrel
          have hPo := hp.out
          by_cases hkt : k < p
          · have r := ST.out k hkt
            have t1 : decide ((k : Int) < pw) = true := decide_eq_true (by omega)
            generalize hs1 : ag am' (k + 1) = s1 at *
            generalize ag am' k = s0 at *
            replace hs1 := Lib.hid hs1
            clear hPo ra
            go_wp2_with fail
            go_roundw
            case rel => exact ⟨k + 1, by rw [hs1.out], by go_num, hkt, by first | rfl | trivial⟩
            case measure => simp [intOf]; omega
          · obtain rfl : k = p := by omega
            have t1 : decide ((k : Int) < pw) = false := decide_eq_false (by omega)
            clear ST hPo A0
            generalize hx : ag am' k = x at *
            clear hx
            go_wp2_with fail
            go_roundw
            case rel => exact ⟨i + 1, aX s x, rfl, by go_num, hlt, hR.out, q2.out, by first | rfl | trivial⟩
            case measure => simp [intOf]; omega
      · obtain rfl : i = n := by omega
        have hv : s = A := by
          rw [hn.out, List.drop_length] at hR
          exact hR
        subst hv
        clear HF hS
        go_wp2_with fail
        go_ret2
        exact ⟨rfl, hb.out⟩
  · rw [if_neg hr]
    obtain ⟨k, hk⟩ : ∃ k, k = chkV L := ⟨_, rfl⟩
    rw [← hk] at CR hr ⊢
    have tk : (k != 0) = true := by simpa using hr
    clear hk hn hm hW ha hr
    go_enter Try.func17, Try.ntmps17
    go_wp2_with fail
    refine CR.out.mono ?_
    rintro _ v1 ⟨rfl, hb⟩
    replace hb := Lib.hid hb
    clear CR
    go_wp2_with fail
    go_ret2
    exact ⟨rfl, hb.out⟩
end Go.Proofs.Ytgnofnjbmiepjaa

namespace Go.Proofs.Ytgnofnjbmiepjaa
open Go.ChangeShapes Go.WideShapes Go.ChangeAt Go.RowKit Ieee.Own Pol

end Go.Proofs.Ytgnofnjbmiepjaa

namespace Go.Proofs.Ytgnofnjbmiepjaa
open Go.ChangeShapes Go.WideShapes Go.ChangeAt Go.RowKit Ieee.Own Pol Fma

/-! ### the angle stays -/
/-! ### how far the exact sums move -/
/-! ### magnitudes -/
/-! ### what is told -/
end Go.Proofs.Ytgnofnjbmiepjaa
