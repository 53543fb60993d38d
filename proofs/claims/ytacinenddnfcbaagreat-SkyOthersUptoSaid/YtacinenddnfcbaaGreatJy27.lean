/- Proved here: what the texts Kar, Wvm prove, one behind the other. -/
import Derived.Test.YtacinenddnfcbaaGreatJy26
import Derived.Test.YtacinenddnfcbaaGreatJy18
import Derived.Test.YtacinenddnfcbaaGreatJy17

set_option maxHeartbeats 16000000
set_option maxRecDepth 100000
namespace Go.Proofs.YtacinenddnfcbaaGreat
open Go.ChangeShapes Go.WideShapes Go.ChangeAt Go.RowKit Ieee.Own

def g60 : Nat := 4877398396442247168
theorem rwit10_10 (x : Nat) (hx : x < 18446744073709551616) (w : World) :
 Calls Tryz.prog 51 #[.float .f64 x, .float .f64 4652218415073722368] w fun e w' => e = .returned (.bool (witB g10 x)) ∧ w = w' := by
 have CF := fun w => rfit_any x hx w
 have g1 := o_leq x 4652218415073722368 hx (by omega)
 have g2 := o_geq x 13875590451928498176 hx (by omega)
 have hneg : ∀ w, (Op.unary .neg (.float .f64 4652218415073722368)).run Tryz.prog w = .ok (.float .f64 13875590451928498176) w := fun w => rfl
 by_cases h1 : fitB x = true
 · have fn := fit_fin hx h1
   have m := fn.2
   rw [h1] at CF
   have n1 : nn x := fin_nn fn
   have n2 : nn 4652218415073722368 := by unfold nn; omega
   have n3 : nn 13875590451928498176 := by unfold nn; omega
   have k2 : key64 4652218415073722368 = 4652218415073722368 := by decide
   have k3 : key64 13875590451928498176 = -4652218415073722368 := by decide
   rw [k2] at g1
   rw [k3] at g2
   have kx : key64 x = if x < 9223372036854775808 then (x : Int) else 9223372036854775808 - (x : Int) := rfl
   by_cases c1 : key64 x ≤ 4652218415073722368
   · rw [decide_eq_true ⟨n1, n2, c1⟩] at g1
     by_cases c2 : -4652218415073722368 ≤ key64 x
     · have e : witB g10 x = true := by unfold witB g10; rw [decide_eq_true_eq]; exact ⟨h1, by split at kx <;> omega⟩
       rw [e]
       rw [decide_eq_true ⟨n1, n3, c2⟩] at g2
       clear hx h1 fn m e n1 n2 n3 k2 k3 kx c1 c2
       go_enter Tryz.func51, Tryz.ntmps51
       go_wp2_with (go_at_call 39; ((with_reducible refine (CF _).mono ?_); rintro e w' ⟨rfl, rfl⟩))
       go_ret
       exact ⟨rfl, rfl⟩
     · have e : witB g10 x = false := by unfold witB g10; rw [decide_eq_false_iff_not]; exact fun h => by have := h.2; split at kx <;> omega
       rw [e]
       rw [decide_eq_false (fun h => c2 h.2.2)] at g2
       clear hx h1 fn m e n1 n2 n3 k2 k3 kx c1 c2
       go_enter Tryz.func51, Tryz.ntmps51
       go_wp2_with (go_at_call 39; ((with_reducible refine (CF _).mono ?_); rintro e w' ⟨rfl, rfl⟩))
       go_ret
       exact ⟨rfl, rfl⟩
   · have e : witB g10 x = false := by unfold witB g10; rw [decide_eq_false_iff_not]; exact fun h => by have := h.2; split at kx <;> omega
     rw [e]
     rw [decide_eq_false (fun h => c1 h.2.2)] at g1
     clear hx h1 fn m e n1 n2 n3 k2 k3 kx c1 g2
     go_enter Tryz.func51, Tryz.ntmps51
     go_wp2_with (go_at_call 39; ((with_reducible refine (CF _).mono ?_); rintro e w' ⟨rfl, rfl⟩))
     go_ret
     exact ⟨rfl, rfl⟩
 · have e : witB g10 x = false := by unfold witB; rw [decide_eq_false_iff_not]; exact fun h => h1 h.1
   rw [Bool.not_eq_true] at h1
   rw [h1] at CF
   rw [e]
   clear hx h1 e g1 g2 hneg
   go_enter Tryz.func51, Tryz.ntmps51
   go_wp2_with (go_at_call 39; ((with_reducible refine (CF _).mono ?_); rintro e w' ⟨rfl, rfl⟩))
   go_ret
   exact ⟨rfl, rfl⟩
theorem rwit10_40 (x : Nat) (hx : x < 18446744073709551616) (w : World) :
 Calls Tryz.prog 51 #[.float .f64 x, .float .f64 4787326403894837248] w fun e w' => e = .returned (.bool (witB g40 x)) ∧ w = w' := by
 have CF := fun w => rfit_any x hx w
 have g1 := o_leq x 4787326403894837248 hx (by omega)
 have g2 := o_geq x 14010698440749613056 hx (by omega)
 have hneg : ∀ w, (Op.unary .neg (.float .f64 4787326403894837248)).run Tryz.prog w = .ok (.float .f64 14010698440749613056) w := fun w => rfl
 by_cases h1 : fitB x = true
 · have fn := fit_fin hx h1
   have m := fn.2
   rw [h1] at CF
   have n1 : nn x := fin_nn fn
   have n2 : nn 4787326403894837248 := by unfold nn; omega
   have n3 : nn 14010698440749613056 := by unfold nn; omega
   have k2 : key64 4787326403894837248 = 4787326403894837248 := by decide
   have k3 : key64 14010698440749613056 = -4787326403894837248 := by decide
   rw [k2] at g1
   rw [k3] at g2
   have kx : key64 x = if x < 9223372036854775808 then (x : Int) else 9223372036854775808 - (x : Int) := rfl
   by_cases c1 : key64 x ≤ 4787326403894837248
   · rw [decide_eq_true ⟨n1, n2, c1⟩] at g1
     by_cases c2 : -4787326403894837248 ≤ key64 x
     · have e : witB g40 x = true := by unfold witB g40; rw [decide_eq_true_eq]; exact ⟨h1, by split at kx <;> omega⟩
       rw [e]
       rw [decide_eq_true ⟨n1, n3, c2⟩] at g2
       clear hx h1 fn m e n1 n2 n3 k2 k3 kx c1 c2
       go_enter Tryz.func51, Tryz.ntmps51
       go_wp2_with (go_at_call 39; ((with_reducible refine (CF _).mono ?_); rintro e w' ⟨rfl, rfl⟩))
       go_ret
       exact ⟨rfl, rfl⟩
     · have e : witB g40 x = false := by unfold witB g40; rw [decide_eq_false_iff_not]; exact fun h => by have := h.2; split at kx <;> omega
       rw [e]
       rw [decide_eq_false (fun h => c2 h.2.2)] at g2
       clear hx h1 fn m e n1 n2 n3 k2 k3 kx c1 c2
       go_enter Tryz.func51, Tryz.ntmps51
       go_wp2_with (go_at_call 39; ((with_reducible refine (CF _).mono ?_); rintro e w' ⟨rfl, rfl⟩))
       go_ret
       exact ⟨rfl, rfl⟩
   · have e : witB g40 x = false := by unfold witB g40; rw [decide_eq_false_iff_not]; exact fun h => by have := h.2; split at kx <;> omega
     rw [e]
     rw [decide_eq_false (fun h => c1 h.2.2)] at g1
     clear hx h1 fn m e n1 n2 n3 k2 k3 kx c1 g2
     go_enter Tryz.func51, Tryz.ntmps51
     go_wp2_with (go_at_call 39; ((with_reducible refine (CF _).mono ?_); rintro e w' ⟨rfl, rfl⟩))
     go_ret
     exact ⟨rfl, rfl⟩
 · have e : witB g40 x = false := by unfold witB; rw [decide_eq_false_iff_not]; exact fun h => h1 h.1
   rw [Bool.not_eq_true] at h1
   rw [h1] at CF
   rw [e]
   clear hx h1 e g1 g2 hneg
   go_enter Tryz.func51, Tryz.ntmps51
   go_wp2_with (go_at_call 39; ((with_reducible refine (CF _).mono ?_); rintro e w' ⟨rfl, rfl⟩))
   go_ret
   exact ⟨rfl, rfl⟩
theorem rwit15_40 (x : Nat) (hx : x < 18446744073709551616) (w : World) :
 Calls Tryz.prog 29 #[.float .f64 x, .float .f64 4787326403894837248] w fun e w' => e = .returned (.bool (witB g40 x)) ∧ w = w' := by
 have CF := fun w => rfit_any x hx w
 have g1 := o_leq x 4787326403894837248 hx (by omega)
 have g2 := o_geq x 14010698440749613056 hx (by omega)
 have hneg : ∀ w, (Op.unary .neg (.float .f64 4787326403894837248)).run Tryz.prog w = .ok (.float .f64 14010698440749613056) w := fun w => rfl
 by_cases h1 : fitB x = true
 · have fn := fit_fin hx h1
   have m := fn.2
   rw [h1] at CF
   have n1 : nn x := fin_nn fn
   have n2 : nn 4787326403894837248 := by unfold nn; omega
   have n3 : nn 14010698440749613056 := by unfold nn; omega
   have k2 : key64 4787326403894837248 = 4787326403894837248 := by decide
   have k3 : key64 14010698440749613056 = -4787326403894837248 := by decide
   rw [k2] at g1
   rw [k3] at g2
   have kx : key64 x = if x < 9223372036854775808 then (x : Int) else 9223372036854775808 - (x : Int) := rfl
   by_cases c1 : key64 x ≤ 4787326403894837248
   · rw [decide_eq_true ⟨n1, n2, c1⟩] at g1
     by_cases c2 : -4787326403894837248 ≤ key64 x
     · have e : witB g40 x = true := by unfold witB g40; rw [decide_eq_true_eq]; exact ⟨h1, by split at kx <;> omega⟩
       rw [e]
       rw [decide_eq_true ⟨n1, n3, c2⟩] at g2
       clear hx h1 fn m e n1 n2 n3 k2 k3 kx c1 c2
       go_enter Tryz.func29, Tryz.ntmps29
       go_wp2_with (go_at_call 39; ((with_reducible refine (CF _).mono ?_); rintro e w' ⟨rfl, rfl⟩))
       go_ret
       exact ⟨rfl, rfl⟩
     · have e : witB g40 x = false := by unfold witB g40; rw [decide_eq_false_iff_not]; exact fun h => by have := h.2; split at kx <;> omega
       rw [e]
       rw [decide_eq_false (fun h => c2 h.2.2)] at g2
       clear hx h1 fn m e n1 n2 n3 k2 k3 kx c1 c2
       go_enter Tryz.func29, Tryz.ntmps29
       go_wp2_with (go_at_call 39; ((with_reducible refine (CF _).mono ?_); rintro e w' ⟨rfl, rfl⟩))
       go_ret
       exact ⟨rfl, rfl⟩
   · have e : witB g40 x = false := by unfold witB g40; rw [decide_eq_false_iff_not]; exact fun h => by have := h.2; split at kx <;> omega
     rw [e]
     rw [decide_eq_false (fun h => c1 h.2.2)] at g1
     clear hx h1 fn m e n1 n2 n3 k2 k3 kx c1 g2
     go_enter Tryz.func29, Tryz.ntmps29
     go_wp2_with (go_at_call 39; ((with_reducible refine (CF _).mono ?_); rintro e w' ⟨rfl, rfl⟩))
     go_ret
     exact ⟨rfl, rfl⟩
 · have e : witB g40 x = false := by unfold witB; rw [decide_eq_false_iff_not]; exact fun h => h1 h.1
   rw [Bool.not_eq_true] at h1
   rw [h1] at CF
   rw [e]
   clear hx h1 e g1 g2 hneg
   go_enter Tryz.func29, Tryz.ntmps29
   go_wp2_with (go_at_call 39; ((with_reducible refine (CF _).mono ?_); rintro e w' ⟨rfl, rfl⟩))
   go_ret
   exact ⟨rfl, rfl⟩
theorem rwit15_60 (x : Nat) (hx : x < 18446744073709551616) (w : World) :
 Calls Tryz.prog 29 #[.float .f64 x, .float .f64 4877398396442247168] w fun e w' => e = .returned (.bool (witB g60 x)) ∧ w = w' := by
 have CF := fun w => rfit_any x hx w
 have g1 := o_leq x 4877398396442247168 hx (by omega)
 have g2 := o_geq x 14100770433297022976 hx (by omega)
 have hneg : ∀ w, (Op.unary .neg (.float .f64 4877398396442247168)).run Tryz.prog w = .ok (.float .f64 14100770433297022976) w := fun w => rfl
 by_cases h1 : fitB x = true
 · have fn := fit_fin hx h1
   have m := fn.2
   rw [h1] at CF
   have n1 : nn x := fin_nn fn
   have n2 : nn 4877398396442247168 := by unfold nn; omega
   have n3 : nn 14100770433297022976 := by unfold nn; omega
   have k2 : key64 4877398396442247168 = 4877398396442247168 := by decide
   have k3 : key64 14100770433297022976 = -4877398396442247168 := by decide
   rw [k2] at g1
   rw [k3] at g2
   have kx : key64 x = if x < 9223372036854775808 then (x : Int) else 9223372036854775808 - (x : Int) := rfl
   by_cases c1 : key64 x ≤ 4877398396442247168
   · rw [decide_eq_true ⟨n1, n2, c1⟩] at g1
     by_cases c2 : -4877398396442247168 ≤ key64 x
     · have e : witB g60 x = true := by unfold witB g60; rw [decide_eq_true_eq]; exact ⟨h1, by split at kx <;> omega⟩
       rw [e]
       rw [decide_eq_true ⟨n1, n3, c2⟩] at g2
       clear hx h1 fn m e n1 n2 n3 k2 k3 kx c1 c2
       go_enter Tryz.func29, Tryz.ntmps29
       go_wp2_with (go_at_call 39; ((with_reducible refine (CF _).mono ?_); rintro e w' ⟨rfl, rfl⟩))
       go_ret
       exact ⟨rfl, rfl⟩
     · have e : witB g60 x = false := by unfold witB g60; rw [decide_eq_false_iff_not]; exact fun h => by have := h.2; split at kx <;> omega
       rw [e]
       rw [decide_eq_false (fun h => c2 h.2.2)] at g2
       clear hx h1 fn m e n1 n2 n3 k2 k3 kx c1 c2
       go_enter Tryz.func29, Tryz.ntmps29
       go_wp2_with (go_at_call 39; ((with_reducible refine (CF _).mono ?_); rintro e w' ⟨rfl, rfl⟩))
       go_ret
       exact ⟨rfl, rfl⟩
   · have e : witB g60 x = false := by unfold witB g60; rw [decide_eq_false_iff_not]; exact fun h => by have := h.2; split at kx <;> omega
     rw [e]
     rw [decide_eq_false (fun h => c1 h.2.2)] at g1
     clear hx h1 fn m e n1 n2 n3 k2 k3 kx c1 g2
     go_enter Tryz.func29, Tryz.ntmps29
     go_wp2_with (go_at_call 39; ((with_reducible refine (CF _).mono ?_); rintro e w' ⟨rfl, rfl⟩))
     go_ret
     exact ⟨rfl, rfl⟩
 · have e : witB g60 x = false := by unfold witB; rw [decide_eq_false_iff_not]; exact fun h => h1 h.1
   rw [Bool.not_eq_true] at h1
   rw [h1] at CF
   rw [e]
   clear hx h1 e g1 g2 hneg
   go_enter Tryz.func29, Tryz.ntmps29
   go_wp2_with (go_at_call 39; ((with_reducible refine (CF _).mono ?_); rintro e w' ⟨rfl, rfl⟩))
   go_ret
   exact ⟨rfl, rfl⟩
theorem rfcheck_run (ao : Option Addr) (cap n : Nat) (L : List Fr) (w : World) (hn : n = L.length) (hm : n ≤ 4611686018427387904) (hW : FsW L) (ha : FAt w ao L) :
 Calls Tryz.prog 28 #[.slice ao n cap] w fun e w' => e = .returned (.int .i64 (chkF L)) ∧ Below w.heap.size w w' := by
 by_cases hl : 16 < n
 · have t1 : decide (16 < n) = true := decide_eq_true hl
   rw [chkF_long (by omega)]
   clear hn ha hW
   go_enter Tryz.func28, Tryz.ntmps28
   go_wp2_with fail
   go_ret
   exact ⟨rfl, Below.refl _ _⟩
 · have t1 : decide (16 < n) = false := decide_eq_false hl
   replace hn := Lib.hid hn
   replace ha := Lib.hid ha
   replace hW := Lib.hid hW
   obtain ⟨V, hV⟩ : ∃ V, V = chkF L := ⟨_, rfl⟩
   rw [← hV]
   replace hV := Lib.hid hV
   go_enter Tryz.func28, Tryz.ntmps28
   go_wp2_with fail
   go_loopw [3] (fun iv wr => ∃ i : Nat, i ≤ n ∧ iv = .int .i64 i ∧ (∀ j, j < i → mayB (frAt L j) j = true) ∧ Below w.heap.size w wr) (fun iv _ => n - (intOf iv).toNat)
   case atStart => exact ⟨0, Nat.zero_le _, rfl, fun j hj => by omega, Below.refl _ _⟩
   case round =>
    obtain ⟨i, hi, rfl, ho, hb⟩ := hrel
    by_cases hlt : i < n
    · have hin : (i : Int) < (n : Int) := by omega
      have hil : i < L.length := by have := hn.out; omega
      obtain ⟨b, o, rfl, hbl, c0, c1, c2, c3, c4, c5, c6⟩ := FAt.cells (ha.out.below (fun b o e _ => ha.out.lt b o e (by simp; omega)) hb) hil
      have fw := hW.out _ (fr_mem hil)
      have W1 := fun w => rwit10_10 (frAt L i).ph fw.ph w
      have W2 := fun w => rwit10_10 (frAt L i).rt fw.rt w
      have W3 := fun w => rwit10_40 (frAt L i).o1 fw.o1 w
      have W4 := fun w => rwit10_40 (frAt L i).o2 fw.o2 w
      have W5 := fun w => rwit10_40 (frAt L i).o3 fw.o3 w
      have bad : Hid (mayB (frAt L i) i = false → V = 100) := fun h => by rw [hV.out]; exact chkF_bad (by have := hn.out; omega) hil h
      have good : Hid (mayB (frAt L i) i = true → ∀ j, j < i + 1 → mayB (frAt L j) j = true) := fun h j hj => by
       by_cases e : j < i
       · exact ho j e
       · have e : j = i := by omega
         rw [e]; exact h
      clear fw ho
      generalize hf : mayB (frAt L i) i = mb at *
      unfold mayB at hf
      generalize witB g10 (frAt L i).ph = b1 at *
      generalize witB g10 (frAt L i).rt = b2 at *
      generalize witB g40 (frAt L i).o1 = b3 at *
      generalize witB g40 (frAt L i).o2 = b4 at *
      generalize witB g40 (frAt L i).o3 = b5 at *
      generalize frAt L i = f at *
      obtain ⟨up, ax, ph, rt, o1, o2, o3⟩ := f
      dsimp only at *
      have B1 := Lib.hid (hb.alloc hb.size (.cells #[.int .i64 up, .int .i64 ax, .float .f64 ph, .float .f64 rt, .float .f64 o1, .float .f64 o2, .float .f64 o3] 91))
      have K := (Kv.nil wr).new 91 [.int .i64 up, .int .i64 ax, .float .f64 ph, .float .f64 rt, .float .f64 o1, .float .f64 o2, .float .f64 o3]
      simp only [objV, List.nil_append] at K
      have d0 := (K.at_ 0 rfl).at_ 0 _ rfl
      have d1 := (K.at_ 0 rfl).at_ 1 _ rfl
      have d2 := (K.at_ 0 rfl).at_ 2 _ rfl
      have d3 := (K.at_ 0 rfl).at_ 3 _ rfl
      have d4 := (K.at_ 0 rfl).at_ 4 _ rfl
      have d5 := (K.at_ 0 rfl).at_ 5 _ rfl
      have d6 := (K.at_ 0 rfl).at_ 6 _ rfl
      replace hb := Lib.hid hb
      replace hf := Lib.hid hf
      clear K hbl
      have hst := @fstore
      by_cases h0 : -1 ≤ up
      · by_cases h1 : up < (i : Int)
        · by_cases h2 : 0 ≤ ax
          · by_cases h3 : ax ≤ 2
            · cases hb1 : b1 with
              | true =>
                subst hb1
                cases hb2 : b2 with
                | true =>
                  subst hb2
                  cases hb3 : b3 with
                  | true =>
                    subst hb3
                    cases hb4 : b4 with
                    | true =>
                      subst hb4
                      cases hb5 : b5 with
                      | true =>
                        subst hb5
                        have good := Lib.hid (good.out (by rw [← hf, decide_eq_true h0, decide_eq_true h1, decide_eq_true h2, decide_eq_true h3]; rfl))
                        clear bad hf
                        go_wp2_with (first | (go_at_call 51; ((with_reducible refine (W1 _).mono ?_); rintro e w' ⟨rfl, rfl⟩)) | (go_at_call 51; ((with_reducible refine (W2 _).mono ?_); rintro e w' ⟨rfl, rfl⟩)) | (go_at_call 51; ((with_reducible refine (W3 _).mono ?_); rintro e w' ⟨rfl, rfl⟩)) | (go_at_call 51; ((with_reducible refine (W4 _).mono ?_); rintro e w' ⟨rfl, rfl⟩)) | (go_at_call 51; ((with_reducible refine (W5 _).mono ?_); rintro e w' ⟨rfl, rfl⟩)))
                        go_roundw
                        case rel => exact ⟨i + 1, hlt, by go_num, good.out, B1.out⟩
                        case measure => simp [intOf]; omega
                      | false =>
                        subst hb5
                        obtain rfl := bad.out (by rw [← hf.out]; rw [decide_eq_true h0, decide_eq_true h1, decide_eq_true h2, decide_eq_true h3]; rfl)
                        clear bad good hf
                        go_wp2_with (first | (go_at_call 51; ((with_reducible refine (W1 _).mono ?_); rintro e w' ⟨rfl, rfl⟩)) | (go_at_call 51; ((with_reducible refine (W2 _).mono ?_); rintro e w' ⟨rfl, rfl⟩)) | (go_at_call 51; ((with_reducible refine (W3 _).mono ?_); rintro e w' ⟨rfl, rfl⟩)) | (go_at_call 51; ((with_reducible refine (W4 _).mono ?_); rintro e w' ⟨rfl, rfl⟩)) | (go_at_call 51; ((with_reducible refine (W5 _).mono ?_); rintro e w' ⟨rfl, rfl⟩)))
                        go_ret
                        exact ⟨by first | rfl | trivial, B1.out⟩
                    | false =>
                      subst hb4
                      obtain rfl := bad.out (by rw [← hf.out]; rw [decide_eq_true h0, decide_eq_true h1, decide_eq_true h2, decide_eq_true h3]; rfl)
                      clear bad good hf
                      go_wp2_with (first | (go_at_call 51; ((with_reducible refine (W1 _).mono ?_); rintro e w' ⟨rfl, rfl⟩)) | (go_at_call 51; ((with_reducible refine (W2 _).mono ?_); rintro e w' ⟨rfl, rfl⟩)) | (go_at_call 51; ((with_reducible refine (W3 _).mono ?_); rintro e w' ⟨rfl, rfl⟩)) | (go_at_call 51; ((with_reducible refine (W4 _).mono ?_); rintro e w' ⟨rfl, rfl⟩)) | (go_at_call 51; ((with_reducible refine (W5 _).mono ?_); rintro e w' ⟨rfl, rfl⟩)))
                      go_ret
                      exact ⟨by first | rfl | trivial, B1.out⟩
                  | false =>
                    subst hb3
                    obtain rfl := bad.out (by rw [← hf.out]; rw [decide_eq_true h0, decide_eq_true h1, decide_eq_true h2, decide_eq_true h3]; rfl)
                    clear bad good hf
                    go_wp2_with (first | (go_at_call 51; ((with_reducible refine (W1 _).mono ?_); rintro e w' ⟨rfl, rfl⟩)) | (go_at_call 51; ((with_reducible refine (W2 _).mono ?_); rintro e w' ⟨rfl, rfl⟩)) | (go_at_call 51; ((with_reducible refine (W3 _).mono ?_); rintro e w' ⟨rfl, rfl⟩)) | (go_at_call 51; ((with_reducible refine (W4 _).mono ?_); rintro e w' ⟨rfl, rfl⟩)) | (go_at_call 51; ((with_reducible refine (W5 _).mono ?_); rintro e w' ⟨rfl, rfl⟩)))
                    go_ret
                    exact ⟨by first | rfl | trivial, B1.out⟩
                | false =>
                  subst hb2
                  obtain rfl := bad.out (by rw [← hf.out]; rw [decide_eq_true h0, decide_eq_true h1, decide_eq_true h2, decide_eq_true h3]; rfl)
                  clear bad good hf
                  go_wp2_with (first | (go_at_call 51; ((with_reducible refine (W1 _).mono ?_); rintro e w' ⟨rfl, rfl⟩)) | (go_at_call 51; ((with_reducible refine (W2 _).mono ?_); rintro e w' ⟨rfl, rfl⟩)) | (go_at_call 51; ((with_reducible refine (W3 _).mono ?_); rintro e w' ⟨rfl, rfl⟩)) | (go_at_call 51; ((with_reducible refine (W4 _).mono ?_); rintro e w' ⟨rfl, rfl⟩)) | (go_at_call 51; ((with_reducible refine (W5 _).mono ?_); rintro e w' ⟨rfl, rfl⟩)))
                  go_ret
                  exact ⟨by first | rfl | trivial, B1.out⟩
              | false =>
                subst hb1
                obtain rfl := bad.out (by rw [← hf.out]; rw [decide_eq_true h0, decide_eq_true h1, decide_eq_true h2, decide_eq_true h3]; rfl)
                clear bad good hf
                go_wp2_with (first | (go_at_call 51; ((with_reducible refine (W1 _).mono ?_); rintro e w' ⟨rfl, rfl⟩)) | (go_at_call 51; ((with_reducible refine (W2 _).mono ?_); rintro e w' ⟨rfl, rfl⟩)) | (go_at_call 51; ((with_reducible refine (W3 _).mono ?_); rintro e w' ⟨rfl, rfl⟩)) | (go_at_call 51; ((with_reducible refine (W4 _).mono ?_); rintro e w' ⟨rfl, rfl⟩)) | (go_at_call 51; ((with_reducible refine (W5 _).mono ?_); rintro e w' ⟨rfl, rfl⟩)))
                go_ret
                exact ⟨by first | rfl | trivial, B1.out⟩
            · obtain rfl := bad.out (by rw [← hf.out]; rw [decide_eq_true h0, decide_eq_true h1, decide_eq_true h2, decide_eq_false h3]; rfl)
              clear bad good hf
              go_wp2_with (first | (go_at_call 51; ((with_reducible refine (W1 _).mono ?_); rintro e w' ⟨rfl, rfl⟩)) | (go_at_call 51; ((with_reducible refine (W2 _).mono ?_); rintro e w' ⟨rfl, rfl⟩)) | (go_at_call 51; ((with_reducible refine (W3 _).mono ?_); rintro e w' ⟨rfl, rfl⟩)) | (go_at_call 51; ((with_reducible refine (W4 _).mono ?_); rintro e w' ⟨rfl, rfl⟩)) | (go_at_call 51; ((with_reducible refine (W5 _).mono ?_); rintro e w' ⟨rfl, rfl⟩)))
              go_ret
              exact ⟨by first | rfl | trivial, B1.out⟩
          · obtain rfl := bad.out (by rw [← hf.out]; rw [decide_eq_true h0, decide_eq_true h1, decide_eq_false h2]; rfl)
            clear bad good hf
            go_wp2_with (first | (go_at_call 51; ((with_reducible refine (W1 _).mono ?_); rintro e w' ⟨rfl, rfl⟩)) | (go_at_call 51; ((with_reducible refine (W2 _).mono ?_); rintro e w' ⟨rfl, rfl⟩)) | (go_at_call 51; ((with_reducible refine (W3 _).mono ?_); rintro e w' ⟨rfl, rfl⟩)) | (go_at_call 51; ((with_reducible refine (W4 _).mono ?_); rintro e w' ⟨rfl, rfl⟩)) | (go_at_call 51; ((with_reducible refine (W5 _).mono ?_); rintro e w' ⟨rfl, rfl⟩)))
            go_ret
            exact ⟨by first | rfl | trivial, B1.out⟩
        · obtain rfl := bad.out (by rw [← hf.out]; rw [decide_eq_true h0, decide_eq_false h1]; rfl)
          clear bad good hf
          go_wp2_with (first | (go_at_call 51; ((with_reducible refine (W1 _).mono ?_); rintro e w' ⟨rfl, rfl⟩)) | (go_at_call 51; ((with_reducible refine (W2 _).mono ?_); rintro e w' ⟨rfl, rfl⟩)) | (go_at_call 51; ((with_reducible refine (W3 _).mono ?_); rintro e w' ⟨rfl, rfl⟩)) | (go_at_call 51; ((with_reducible refine (W4 _).mono ?_); rintro e w' ⟨rfl, rfl⟩)) | (go_at_call 51; ((with_reducible refine (W5 _).mono ?_); rintro e w' ⟨rfl, rfl⟩)))
          go_ret
          exact ⟨by first | rfl | trivial, B1.out⟩
      · obtain rfl := bad.out (by rw [← hf.out]; rw [decide_eq_false h0]; rfl)
        clear bad good hf
        go_wp2_with (first | (go_at_call 51; ((with_reducible refine (W1 _).mono ?_); rintro e w' ⟨rfl, rfl⟩)) | (go_at_call 51; ((with_reducible refine (W2 _).mono ?_); rintro e w' ⟨rfl, rfl⟩)) | (go_at_call 51; ((with_reducible refine (W3 _).mono ?_); rintro e w' ⟨rfl, rfl⟩)) | (go_at_call 51; ((with_reducible refine (W4 _).mono ?_); rintro e w' ⟨rfl, rfl⟩)) | (go_at_call 51; ((with_reducible refine (W5 _).mono ?_); rintro e w' ⟨rfl, rfl⟩)))
        go_ret
        exact ⟨by first | rfl | trivial, B1.out⟩
    · obtain rfl : n = i := by omega
      have e : V = 0 := by rw [hV.out]; exact chkF_good (by have := hn.out; omega) (fun j hj => ho j (by have := hn.out; omega))
      subst e
      replace hb := Lib.hid hb
      go_wp2_with fail
      go_ret
      exact ⟨by first | rfl | trivial, hb.out⟩
end Go.Proofs.YtacinenddnfcbaaGreat

namespace Go.Proofs.YtacinenddnfcbaaGreat
open Go.ChangeShapes Go.WideShapes Go.ChangeAt Go.RowKit Ieee.Own Pol

theorem rwit12_40 (x : Nat) (hx : x < 18446744073709551616) (w : World) :
 Calls Tryz.prog 98 #[.float .f64 x, .float .f64 4787326403894837248] w fun e w' => e = .returned (.bool (witB g40 x)) ∧ w = w' := by
 have CF := fun w => rfit_any x hx w
 have g1 := o_leq x 4787326403894837248 hx (by omega)
 have g2 := o_geq x 14010698440749613056 hx (by omega)
 have hneg : ∀ w, (Op.unary .neg (.float .f64 4787326403894837248)).run Tryz.prog w = .ok (.float .f64 14010698440749613056) w := fun w => rfl
 by_cases h1 : fitB x = true
 · have fn := fit_fin hx h1
   have m := fn.2
   rw [h1] at CF
   have n1 : nn x := fin_nn fn
   have n2 : nn 4787326403894837248 := by unfold nn; omega
   have n3 : nn 14010698440749613056 := by unfold nn; omega
   have k2 : key64 4787326403894837248 = 4787326403894837248 := by decide
   have k3 : key64 14010698440749613056 = -4787326403894837248 := by decide
   rw [k2] at g1
   rw [k3] at g2
   have kx : key64 x = if x < 9223372036854775808 then (x : Int) else 9223372036854775808 - (x : Int) := rfl
   by_cases c1 : key64 x ≤ 4787326403894837248
   · rw [decide_eq_true ⟨n1, n2, c1⟩] at g1
     by_cases c2 : -4787326403894837248 ≤ key64 x
     · have e : witB g40 x = true := by unfold witB g40; rw [decide_eq_true_eq]; exact ⟨h1, by split at kx <;> omega⟩
       rw [e]
       rw [decide_eq_true ⟨n1, n3, c2⟩] at g2
       clear hx h1 fn m e n1 n2 n3 k2 k3 kx c1 c2
       go_enter Tryz.func98, Tryz.ntmps98
       go_wp2_with (go_at_call 39; ((with_reducible refine (CF _).mono ?_); rintro e w' ⟨rfl, rfl⟩))
       go_ret
       exact ⟨rfl, rfl⟩
     · have e : witB g40 x = false := by unfold witB g40; rw [decide_eq_false_iff_not]; exact fun h => by have := h.2; split at kx <;> omega
       rw [e]
       rw [decide_eq_false (fun h => c2 h.2.2)] at g2
       clear hx h1 fn m e n1 n2 n3 k2 k3 kx c1 c2
       go_enter Tryz.func98, Tryz.ntmps98
       go_wp2_with (go_at_call 39; ((with_reducible refine (CF _).mono ?_); rintro e w' ⟨rfl, rfl⟩))
       go_ret
       exact ⟨rfl, rfl⟩
   · have e : witB g40 x = false := by unfold witB g40; rw [decide_eq_false_iff_not]; exact fun h => by have := h.2; split at kx <;> omega
     rw [e]
     rw [decide_eq_false (fun h => c1 h.2.2)] at g1
     clear hx h1 fn m e n1 n2 n3 k2 k3 kx c1 g2
     go_enter Tryz.func98, Tryz.ntmps98
     go_wp2_with (go_at_call 39; ((with_reducible refine (CF _).mono ?_); rintro e w' ⟨rfl, rfl⟩))
     go_ret
     exact ⟨rfl, rfl⟩
 · have e : witB g40 x = false := by unfold witB; rw [decide_eq_false_iff_not]; exact fun h => h1 h.1
   rw [Bool.not_eq_true] at h1
   rw [h1] at CF
   rw [e]
   clear hx h1 e g1 g2 hneg
   go_enter Tryz.func98, Tryz.ntmps98
   go_wp2_with (go_at_call 39; ((with_reducible refine (CF _).mono ?_); rintro e w' ⟨rfl, rfl⟩))
   go_ret
   exact ⟨rfl, rfl⟩
theorem rwit12_10 (x : Nat) (hx : x < 18446744073709551616) (w : World) :
 Calls Tryz.prog 98 #[.float .f64 x, .float .f64 4652218415073722368] w fun e w' => e = .returned (.bool (witB g10 x)) ∧ w = w' := by
 have CF := fun w => rfit_any x hx w
 have g1 := o_leq x 4652218415073722368 hx (by omega)
 have g2 := o_geq x 13875590451928498176 hx (by omega)
 have hneg : ∀ w, (Op.unary .neg (.float .f64 4652218415073722368)).run Tryz.prog w = .ok (.float .f64 13875590451928498176) w := fun w => rfl
 by_cases h1 : fitB x = true
 · have fn := fit_fin hx h1
   have m := fn.2
   rw [h1] at CF
   have n1 : nn x := fin_nn fn
   have n2 : nn 4652218415073722368 := by unfold nn; omega
   have n3 : nn 13875590451928498176 := by unfold nn; omega
   have k2 : key64 4652218415073722368 = 4652218415073722368 := by decide
   have k3 : key64 13875590451928498176 = -4652218415073722368 := by decide
   rw [k2] at g1
   rw [k3] at g2
   have kx : key64 x = if x < 9223372036854775808 then (x : Int) else 9223372036854775808 - (x : Int) := rfl
   by_cases c1 : key64 x ≤ 4652218415073722368
   · rw [decide_eq_true ⟨n1, n2, c1⟩] at g1
     by_cases c2 : -4652218415073722368 ≤ key64 x
     · have e : witB g10 x = true := by unfold witB g10; rw [decide_eq_true_eq]; exact ⟨h1, by split at kx <;> omega⟩
       rw [e]
       rw [decide_eq_true ⟨n1, n3, c2⟩] at g2
       clear hx h1 fn m e n1 n2 n3 k2 k3 kx c1 c2
       go_enter Tryz.func98, Tryz.ntmps98
       go_wp2_with (go_at_call 39; ((with_reducible refine (CF _).mono ?_); rintro e w' ⟨rfl, rfl⟩))
       go_ret
       exact ⟨rfl, rfl⟩
     · have e : witB g10 x = false := by unfold witB g10; rw [decide_eq_false_iff_not]; exact fun h => by have := h.2; split at kx <;> omega
       rw [e]
       rw [decide_eq_false (fun h => c2 h.2.2)] at g2
       clear hx h1 fn m e n1 n2 n3 k2 k3 kx c1 c2
       go_enter Tryz.func98, Tryz.ntmps98
       go_wp2_with (go_at_call 39; ((with_reducible refine (CF _).mono ?_); rintro e w' ⟨rfl, rfl⟩))
       go_ret
       exact ⟨rfl, rfl⟩
   · have e : witB g10 x = false := by unfold witB g10; rw [decide_eq_false_iff_not]; exact fun h => by have := h.2; split at kx <;> omega
     rw [e]
     rw [decide_eq_false (fun h => c1 h.2.2)] at g1
     clear hx h1 fn m e n1 n2 n3 k2 k3 kx c1 g2
     go_enter Tryz.func98, Tryz.ntmps98
     go_wp2_with (go_at_call 39; ((with_reducible refine (CF _).mono ?_); rintro e w' ⟨rfl, rfl⟩))
     go_ret
     exact ⟨rfl, rfl⟩
 · have e : witB g10 x = false := by unfold witB; rw [decide_eq_false_iff_not]; exact fun h => h1 h.1
   rw [Bool.not_eq_true] at h1
   rw [h1] at CF
   rw [e]
   clear hx h1 e g1 g2 hneg
   go_enter Tryz.func98, Tryz.ntmps98
   go_wp2_with (go_at_call 39; ((with_reducible refine (CF _).mono ?_); rintro e w' ⟨rfl, rfl⟩))
   go_ret
   exact ⟨rfl, rfl⟩
theorem rcheck12_run (ao : Option Addr) (cap n : Nat) (L : List Wv) (w : World) (hn : n = L.length) (hm : n ≤ 4611686018427387904) (hW : WvsW L) (ha : VAt w ao L) :
 Calls Tryz.prog 54 #[.slice ao n cap] w fun e w' => e = .returned (.int .i64 (chkV L)) ∧ Below w.heap.size w w' := by
 by_cases hl : 32 < n
 · have t1 : decide (32 < n) = true := decide_eq_true hl
   rw [chkV_long (by omega)]
   clear hn ha hW
   go_enter Tryz.func54, Tryz.ntmps54
   go_wp2_with fail
   go_ret
   exact ⟨rfl, Below.refl _ _⟩
 · have t1 : decide (32 < n) = false := decide_eq_false hl
   replace hn := Lib.hid hn
   replace ha := Lib.hid ha
   replace hW := Lib.hid hW
   obtain ⟨V, hV⟩ : ∃ V, V = chkV L := ⟨_, rfl⟩
   rw [← hV]
   replace hV := Lib.hid hV
   go_enter Tryz.func54, Tryz.ntmps54
   go_wp2_with fail
   go_loopw [3] (fun iv wr => ∃ i : Nat, i ≤ n ∧ iv = .int .i64 i ∧ (∀ j, j < i → mayW (wvAt L j) = true) ∧ Below w.heap.size w wr) (fun iv _ => n - (intOf iv).toNat)
   case atStart => exact ⟨0, Nat.zero_le _, rfl, fun j hj => by omega, Below.refl _ _⟩
   case round =>
    obtain ⟨i, hi, rfl, ho, hb⟩ := hrel
    by_cases hlt : i < n
    · have hil : i < L.length := by have := hn.out; omega
      obtain ⟨b, o, rfl, hbl, c0, c1, c2, c3, c4⟩ := VAt.cells (ha.out.below (fun b o e _ => ha.out.lt b o e (by simp; omega)) hb) hil
      have fw := hW.out _ (wv_mem hil)
      have C0 := fun w => rwit12_40 (wvAt L i).am fw.am w
      have C1 := fun w => rwit12_10 (wvAt L i).ph fw.ph w
      have C2 := fun w => rwit12_10 (wvAt L i).rt fw.rt w
      have bad : Hid (mayW (wvAt L i) = false → V = 120) := fun h => by rw [hV.out]; exact chkV_bad (by have := hn.out; omega) hil h
      have good : Hid (mayW (wvAt L i) = true → ∀ j, j < i + 1 → mayW (wvAt L j) = true) := fun h j hj => by
       by_cases e : j < i
       · exact ho j e
       · have e : j = i := by omega
         rw [e]; exact h
      have em : mayW (wvAt L i) = (decide (0 ≤ (wvAt L i).ax) && (decide ((wvAt L i).ax ≤ 2) && (decide (0 ≤ (wvAt L i).pw) && (decide ((wvAt L i).pw ≤ 2) && (witB g40 (wvAt L i).am && (witB g10 (wvAt L i).ph && witB g10 (wvAt L i).rt)))))) := rfl
      clear fw ho
      generalize mayW (wvAt L i) = mb at *
      generalize witB g40 (wvAt L i).am = b0 at *
      generalize witB g10 (wvAt L i).ph = b1 at *
      generalize witB g10 (wvAt L i).rt = b2 at *
      generalize wvAt L i = f at *
      obtain ⟨ax, pw, am, ph, rt⟩ := f
      dsimp only at *
      have B1 := Lib.hid (hb.alloc hb.size (.cells #[.int .i64 ax, .int .i64 pw, .float .f64 am, .float .f64 ph, .float .f64 rt] 115))
      replace hb := Lib.hid hb
      clear hbl
      have hst := @fstore
      by_cases h0 : ax < 0
      · have e : mb = false := by rw [em, decide_eq_false (show ¬ 0 ≤ ax by omega)]; rfl
        have t0 := decide_eq_true h0
        replace bad := Lib.hid (bad.out e)
        clear good e em
        go_wp2_with (first | (go_at_call 98; ((with_reducible refine (C0 _).mono ?_); rintro e w' ⟨rfl, rfl⟩)) | (go_at_call 98; ((with_reducible refine (C1 _).mono ?_); rintro e w' ⟨rfl, rfl⟩)) | (go_at_call 98; ((with_reducible refine (C2 _).mono ?_); rintro e w' ⟨rfl, rfl⟩)))
        go_ret
        exact ⟨ret_iV bad.out.symm, B1.out⟩
      · have t0 := decide_eq_false h0
        by_cases h1 : 2 < ax
        · have e : mb = false := by rw [em, decide_eq_true (show 0 ≤ ax by omega), decide_eq_false (show ¬ ax ≤ 2 by omega)]; rfl
          have t1 := decide_eq_true h1
          replace bad := Lib.hid (bad.out e)
          clear good e em
          go_wp2_with (first | (go_at_call 98; ((with_reducible refine (C0 _).mono ?_); rintro e w' ⟨rfl, rfl⟩)) | (go_at_call 98; ((with_reducible refine (C1 _).mono ?_); rintro e w' ⟨rfl, rfl⟩)) | (go_at_call 98; ((with_reducible refine (C2 _).mono ?_); rintro e w' ⟨rfl, rfl⟩)))
          go_ret
          exact ⟨ret_iV bad.out.symm, B1.out⟩
        · have t1 := decide_eq_false h1
          by_cases h2 : pw < 0
          · have e : mb = false := by rw [em, decide_eq_true (show 0 ≤ ax by omega), decide_eq_true (show ax ≤ 2 by omega), decide_eq_false (show ¬ 0 ≤ pw by omega)]; rfl
            have t2 := decide_eq_true h2
            replace bad := Lib.hid (bad.out e)
            clear good e em
            go_wp2_with (first | (go_at_call 98; ((with_reducible refine (C0 _).mono ?_); rintro e w' ⟨rfl, rfl⟩)) | (go_at_call 98; ((with_reducible refine (C1 _).mono ?_); rintro e w' ⟨rfl, rfl⟩)) | (go_at_call 98; ((with_reducible refine (C2 _).mono ?_); rintro e w' ⟨rfl, rfl⟩)))
            go_ret
            exact ⟨ret_iV bad.out.symm, B1.out⟩
          · have t2 := decide_eq_false h2
            by_cases h3 : 2 < pw
            · have e : mb = false := by rw [em, decide_eq_true (show 0 ≤ ax by omega), decide_eq_true (show ax ≤ 2 by omega), decide_eq_true (show 0 ≤ pw by omega), decide_eq_false (show ¬ pw ≤ 2 by omega)]; rfl
              have t3 := decide_eq_true h3
              replace bad := Lib.hid (bad.out e)
              clear good e em
              go_wp2_with (first | (go_at_call 98; ((with_reducible refine (C0 _).mono ?_); rintro e w' ⟨rfl, rfl⟩)) | (go_at_call 98; ((with_reducible refine (C1 _).mono ?_); rintro e w' ⟨rfl, rfl⟩)) | (go_at_call 98; ((with_reducible refine (C2 _).mono ?_); rintro e w' ⟨rfl, rfl⟩)))
              go_ret
              exact ⟨ret_iV bad.out.symm, B1.out⟩
            · have t3 := decide_eq_false h3
              cases b0 with
              | false =>
                have e : mb = false := by rw [em, decide_eq_true (show 0 ≤ ax by omega), decide_eq_true (show ax ≤ 2 by omega), decide_eq_true (show 0 ≤ pw by omega), decide_eq_true (show pw ≤ 2 by omega)]; rfl
                replace bad := Lib.hid (bad.out e)
                clear good e em
                go_wp2_with (first | (go_at_call 98; ((with_reducible refine (C0 _).mono ?_); rintro e w' ⟨rfl, rfl⟩)) | (go_at_call 98; ((with_reducible refine (C1 _).mono ?_); rintro e w' ⟨rfl, rfl⟩)) | (go_at_call 98; ((with_reducible refine (C2 _).mono ?_); rintro e w' ⟨rfl, rfl⟩)))
                go_ret
                exact ⟨ret_iV bad.out.symm, B1.out⟩
              | true =>
                cases b1 with
                | false =>
                  have e : mb = false := by rw [em, decide_eq_true (show 0 ≤ ax by omega), decide_eq_true (show ax ≤ 2 by omega), decide_eq_true (show 0 ≤ pw by omega), decide_eq_true (show pw ≤ 2 by omega)]; rfl
                  replace bad := Lib.hid (bad.out e)
                  clear good e em
                  go_wp2_with (first | (go_at_call 98; ((with_reducible refine (C0 _).mono ?_); rintro e w' ⟨rfl, rfl⟩)) | (go_at_call 98; ((with_reducible refine (C1 _).mono ?_); rintro e w' ⟨rfl, rfl⟩)) | (go_at_call 98; ((with_reducible refine (C2 _).mono ?_); rintro e w' ⟨rfl, rfl⟩)))
                  go_ret
                  exact ⟨ret_iV bad.out.symm, B1.out⟩
                | true =>
                  cases b2 with
                  | false =>
                    have e : mb = false := by rw [em, decide_eq_true (show 0 ≤ ax by omega), decide_eq_true (show ax ≤ 2 by omega), decide_eq_true (show 0 ≤ pw by omega), decide_eq_true (show pw ≤ 2 by omega)]; rfl
                    replace bad := Lib.hid (bad.out e)
                    clear good e em
                    go_wp2_with (first | (go_at_call 98; ((with_reducible refine (C0 _).mono ?_); rintro e w' ⟨rfl, rfl⟩)) | (go_at_call 98; ((with_reducible refine (C1 _).mono ?_); rintro e w' ⟨rfl, rfl⟩)) | (go_at_call 98; ((with_reducible refine (C2 _).mono ?_); rintro e w' ⟨rfl, rfl⟩)))
                    go_ret
                    exact ⟨ret_iV bad.out.symm, B1.out⟩
                  | true =>
                    have e : mb = true := by rw [em, decide_eq_true (show 0 ≤ ax by omega), decide_eq_true (show ax ≤ 2 by omega), decide_eq_true (show 0 ≤ pw by omega), decide_eq_true (show pw ≤ 2 by omega)]; rfl
                    replace good := Lib.hid (good.out e)
                    clear bad e em
                    go_wp2_with (first | (go_at_call 98; ((with_reducible refine (C0 _).mono ?_); rintro e w' ⟨rfl, rfl⟩)) | (go_at_call 98; ((with_reducible refine (C1 _).mono ?_); rintro e w' ⟨rfl, rfl⟩)) | (go_at_call 98; ((with_reducible refine (C2 _).mono ?_); rintro e w' ⟨rfl, rfl⟩)))
                    go_roundw
                    case rel => exact ⟨i + 1, hlt, by go_num, good.out, B1.out⟩
                    case measure => simp [intOf]; omega
    · obtain rfl : i = n := by omega
      have hv : V = 0 := by
       rw [hV.out]
       exact chkV_good (by have := hn.out; omega) (fun j hj => ho j (by have := hn.out; omega))
      replace hv := Lib.hid hv
      replace hb := Lib.hid hb
      clear ho
      go_wp2_with fail
      go_ret
      exact ⟨ret_iV hv.out.symm, hb.out⟩
end Go.Proofs.YtacinenddnfcbaaGreat
