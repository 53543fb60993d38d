/- Proved here: what the texts Wvd, Wve, Wvf, Oba, Obb, Obm, Frj, Obc, Obd prove, one behind the other. -/
import Derived.Test.YtacinenddnfcbaaGreatJy17
import Derived.Test.YtacinenddnfcbaaGreatJy14
import Derived.Test.YtacinenddnfcbaaGreatJy11
import Derived.Test.YtacinenddnfcbaaGreatJy8
import Derived.Test.YtacinenddnfcbaaGreatJy16
import Derived.Test.YtacinenddnfcbaaGreatJy15

set_option maxHeartbeats 4000000
set_option maxRecDepth 100000
namespace Go.Proofs.YtacinenddnfcbaaGreat
open Go.ChangeShapes Go.WideShapes Go.ChangeAt Go.RowKit Ieee.Own Pol

end Go.Proofs.YtacinenddnfcbaaGreat

namespace Go.Proofs.YtacinenddnfcbaaGreat
open Go.ChangeShapes Go.WideShapes Go.ChangeAt Go.RowKit Ieee.Own Pol

end Go.Proofs.YtacinenddnfcbaaGreat

namespace Go.Proofs.YtacinenddnfcbaaGreat
open Go.ChangeShapes Go.WideShapes Go.ChangeAt Go.RowKit Ieee.Own Pol Fma

def putQ (p : R3) (a : Int) (x : Rat) : R3 := if a = 0 then (p.1 + x, p.2.1, p.2.2) else if a = 1 then (p.1, p.2.1 + x, p.2.2) else (p.1, p.2.1, p.2.2 + x)
end Go.Proofs.YtacinenddnfcbaaGreat

namespace Go.Proofs.YtacinenddnfcbaaGreat
open Go.ChangeShapes Go.WideShapes Go.ChangeAt Go.RowKit Ieee.Own

structure Ob where
 ax : Nat
 ec : Nat
 ti : Nat
 no : Nat
 pe : Nat
 ph : Nat
 ra : Nat
def obV (o : Ob) : Value := .agg #[.float .f64 o.ax, .float .f64 o.ec, .float .f64 o.ti, .float .f64 o.no, .float .f64 o.pe, .float .f64 o.ph, .float .f64 o.ra]
structure ObW (o : Ob) : Prop where
 ax : o.ax < 18446744073709551616
 ec : o.ec < 18446744073709551616
 ti : o.ti < 18446744073709551616
 no : o.no < 18446744073709551616
 pe : o.pe < 18446744073709551616
 ph : o.ph < 18446744073709551616
 ra : o.ra < 18446744073709551616
def btwB (l g x : Nat) : Bool := fitB x && (decide (V l ≤ V x) && decide (V x ≤ V g))
def axLo : Nat := 4517110426252607488
def axHi : Nat := 4787326403894837248
def ecHi : Nat := 4606056518893174784
def tuHi : Nat := 4652218415073722368
def tuLo : Nat := 13875590451928498176
def haHi : Nat := 4602678819172646912
def haLo : Nat := 13826050856027422720
theorem btw_of {l g x : Nat} (hx : x < 18446744073709551616) (h : btwB l g x = true) : FinW x ∧ fitB x = true ∧ V l ≤ V x ∧ V x ≤ V g := by
 unfold btwB at h
 simp only [Bool.and_eq_true, decide_eq_true_eq] at h
 exact ⟨fit_fin hx h.1, h.1, h.2.1, h.2.2⟩
def ecB (x : Nat) : Bool := btwB 0 ecHi x
def tuB (x : Nat) : Bool := btwB tuLo tuHi x
def haB (x : Nat) : Bool := btwB haLo haHi x
def mayO (o : Ob) : Bool := btwB axLo axHi o.ax && (ecB o.ec && (tuB o.ti && (tuB o.no && (tuB o.pe && (tuB o.ph && tuB o.ra)))))
def chkO (o : Ob) : Int := if mayO o = true then 0 else 110
theorem owithin_run {l g x : Nat} (hx : x < 18446744073709551616) (hl : FinW l) (hg : FinW g) (w : World) :
 Calls Tryz.prog 203 #[.float .f64 x, .float .f64 l, .float .f64 g] w fun e w' => e = .returned (.bool (btwB l g x)) ∧ w = w' := by
 have CF := fun w => fit_any x hx w
 unfold btwB
 by_cases h : fitB x = true
 · have fx := fit_fin hx h
   have g1 := le_words hl fx
   have g2 := le_words fx hg
   rw [h] at CF ⊢
   generalize decide (V l ≤ V x) = p at *
   generalize decide (V x ≤ V g) = q at *
   clear fx hx hl hg h
   cases p <;> cases q <;> (
    go_enter Tryz.func203, Tryz.ntmps203
    go_wp2_with (go_at_call 72; ((with_reducible refine (CF _).mono ?_); rintro e w' ⟨rfl, rfl⟩))
    go_ret
    exact ⟨rfl, rfl⟩)
 · rw [Bool.not_eq_true] at h
   rw [h] at CF ⊢
   clear hx hl hg h
   go_enter Tryz.func203, Tryz.ntmps203
   go_wp2_with (go_at_call 72; ((with_reducible refine (CF _).mono ?_); rintro e w' ⟨rfl, rfl⟩))
   go_ret
   exact ⟨rfl, rfl⟩
theorem ofitEcc_run {x : Nat} (hx : x < 18446744073709551616) (w : World) : Calls Tryz.prog 172 #[.float .f64 x] w fun e w' => e = .returned (.bool (ecB x)) ∧ w = w' := by
 have C := fun w => owithin_run (l := 0) (g := 4606056518893174784) hx (by unfold FinW; omega) (by unfold FinW; omega) w
 have e : ecB x = btwB 0 4606056518893174784 x := rfl
 rw [e]
 generalize btwB 0 4606056518893174784 x = b at *
 clear hx
 go_enter Tryz.func172, Tryz.ntmps172
 go_wp2_with (go_at_call 203; ((with_reducible refine (C _).mono ?_); rintro e w' ⟨rfl, rfl⟩))
 go_ret
 exact ⟨rfl, rfl⟩
theorem ofitTurns_run {x : Nat} (hx : x < 18446744073709551616) (w : World) : Calls Tryz.prog 204 #[.float .f64 x] w fun e w' => e = .returned (.bool (tuB x)) ∧ w = w' := by
 have C := fun w => owithin_run (l := 13875590451928498176) (g := 4652218415073722368) hx (by unfold FinW; omega) (by unfold FinW; omega) w
 have e : tuB x = btwB 13875590451928498176 4652218415073722368 x := rfl
 rw [e]
 generalize btwB 13875590451928498176 4652218415073722368 x = b at *
 clear hx
 go_enter Tryz.func204, Tryz.ntmps204
 go_wp2_with (go_at_call 203; ((with_reducible refine (C _).mono ?_); rintro e w' ⟨rfl, rfl⟩))
 go_ret
 exact ⟨rfl, rfl⟩
theorem ofitMean_run {x : Nat} (hx : x < 18446744073709551616) (w : World) : Calls Tryz.prog 173 #[.float .f64 x] w fun e w' => e = .returned (.bool (haB x)) ∧ w = w' := by
 have C := fun w => owithin_run (l := 13826050856027422720) (g := 4602678819172646912) hx (by unfold FinW; omega) (by unfold FinW; omega) w
 have e : haB x = btwB 13826050856027422720 4602678819172646912 x := rfl
 rw [e]
 generalize btwB 13826050856027422720 4602678819172646912 x = b at *
 clear hx
 go_enter Tryz.func173, Tryz.ntmps173
 go_wp2_with (go_at_call 203; ((with_reducible refine (C _).mono ?_); rintro e w' ⟨rfl, rfl⟩))
 go_ret
 exact ⟨rfl, rfl⟩
theorem ocheck_run {o : Ob} (h : ObW o) (w : World) : Calls Tryz.prog 133 #[obV o] w fun e w' => e = .returned (.int .i64 (chkO o)) ∧ Below w.heap.size w w' := by
 have C0 := fun w => owithin_run (l := 4517110426252607488) (g := 4787326403894837248) h.ax (by unfold FinW; omega) (by unfold FinW; omega) w
 have C1 := fun w => ofitEcc_run h.ec w
 have C2 := fun w => ofitTurns_run h.ti w
 have C3 := fun w => ofitTurns_run h.no w
 have C4 := fun w => ofitTurns_run h.pe w
 have C5 := fun w => ofitTurns_run h.ph w
 have C6 := fun w => ofitTurns_run h.ra w
 clear h
 unfold chkO mayO obV
 have e0 : btwB axLo axHi o.ax = btwB 4517110426252607488 4787326403894837248 o.ax := rfl
 rw [e0]
 clear e0
 generalize btwB 4517110426252607488 4787326403894837248 o.ax = b0 at *
 generalize ecB o.ec = b1 at *
 generalize tuB o.ti = b2 at *
 generalize tuB o.no = b3 at *
 generalize tuB o.pe = b4 at *
 generalize tuB o.ph = b5 at *
 generalize tuB o.ra = b6 at *
 obtain ⟨ax, ec, ti, no, pe, ph, ra⟩ := o
 dsimp only at *
 have K := kv1 w 45 [.float .f64 ax, .float .f64 ec, .float .f64 ti, .float .f64 no, .float .f64 pe, .float .f64 ph, .float .f64 ra]
 simp only [objV] at K
 have c0 := (K.at_ 0 rfl).at_ 0 _ rfl
 have c1 := (K.at_ 0 rfl).at_ 1 _ rfl
 have c2 := (K.at_ 0 rfl).at_ 2 _ rfl
 have c3 := (K.at_ 0 rfl).at_ 3 _ rfl
 have c4 := (K.at_ 0 rfl).at_ 4 _ rfl
 have c5 := (K.at_ 0 rfl).at_ 5 _ rfl
 have c6 := (K.at_ 0 rfl).at_ 6 _ rfl
 replace K := Lib.hid K
 cases hb0 : b0 with
 | true =>
   subst hb0
   cases hb1 : b1 with
   | true =>
     subst hb1
     cases hb2 : b2 with
     | true =>
       subst hb2
       cases hb3 : b3 with
       | true =>
         subst hb3
         cases hb4 : b4 with
         | true =>
           subst hb4
           cases hb5 : b5 with
           | true =>
             subst hb5
             cases hb6 : b6 with
             | true =>
               subst hb6
               go_enter Tryz.func133, Tryz.ntmps133
               go_wp2_with (first | (go_at_call 203; ((with_reducible refine (C0 _).mono ?_); rintro e w' ⟨rfl, rfl⟩)) | (go_at_call 172; ((with_reducible refine (C1 _).mono ?_); rintro e w' ⟨rfl, rfl⟩)) | (go_at_call 204; ((with_reducible refine (C2 _).mono ?_); rintro e w' ⟨rfl, rfl⟩)) | (go_at_call 204; ((with_reducible refine (C3 _).mono ?_); rintro e w' ⟨rfl, rfl⟩)) | (go_at_call 204; ((with_reducible refine (C4 _).mono ?_); rintro e w' ⟨rfl, rfl⟩)) | (go_at_call 204; ((with_reducible refine (C5 _).mono ?_); rintro e w' ⟨rfl, rfl⟩)) | (go_at_call 204; ((with_reducible refine (C6 _).mono ?_); rintro e w' ⟨rfl, rfl⟩)))
               replace K := K.out
               go_ret
               exact ⟨rfl, K.old⟩
             | false =>
               subst hb6
               go_enter Tryz.func133, Tryz.ntmps133
               go_wp2_with (first | (go_at_call 203; ((with_reducible refine (C0 _).mono ?_); rintro e w' ⟨rfl, rfl⟩)) | (go_at_call 172; ((with_reducible refine (C1 _).mono ?_); rintro e w' ⟨rfl, rfl⟩)) | (go_at_call 204; ((with_reducible refine (C2 _).mono ?_); rintro e w' ⟨rfl, rfl⟩)) | (go_at_call 204; ((with_reducible refine (C3 _).mono ?_); rintro e w' ⟨rfl, rfl⟩)) | (go_at_call 204; ((with_reducible refine (C4 _).mono ?_); rintro e w' ⟨rfl, rfl⟩)) | (go_at_call 204; ((with_reducible refine (C5 _).mono ?_); rintro e w' ⟨rfl, rfl⟩)) | (go_at_call 204; ((with_reducible refine (C6 _).mono ?_); rintro e w' ⟨rfl, rfl⟩)))
               replace K := K.out
               go_ret
               exact ⟨rfl, K.old⟩
           | false =>
             subst hb5
             go_enter Tryz.func133, Tryz.ntmps133
             go_wp2_with (first | (go_at_call 203; ((with_reducible refine (C0 _).mono ?_); rintro e w' ⟨rfl, rfl⟩)) | (go_at_call 172; ((with_reducible refine (C1 _).mono ?_); rintro e w' ⟨rfl, rfl⟩)) | (go_at_call 204; ((with_reducible refine (C2 _).mono ?_); rintro e w' ⟨rfl, rfl⟩)) | (go_at_call 204; ((with_reducible refine (C3 _).mono ?_); rintro e w' ⟨rfl, rfl⟩)) | (go_at_call 204; ((with_reducible refine (C4 _).mono ?_); rintro e w' ⟨rfl, rfl⟩)) | (go_at_call 204; ((with_reducible refine (C5 _).mono ?_); rintro e w' ⟨rfl, rfl⟩)) | (go_at_call 204; ((with_reducible refine (C6 _).mono ?_); rintro e w' ⟨rfl, rfl⟩)))
             replace K := K.out
             go_ret
             exact ⟨rfl, K.old⟩
         | false =>
           subst hb4
           go_enter Tryz.func133, Tryz.ntmps133
           go_wp2_with (first | (go_at_call 203; ((with_reducible refine (C0 _).mono ?_); rintro e w' ⟨rfl, rfl⟩)) | (go_at_call 172; ((with_reducible refine (C1 _).mono ?_); rintro e w' ⟨rfl, rfl⟩)) | (go_at_call 204; ((with_reducible refine (C2 _).mono ?_); rintro e w' ⟨rfl, rfl⟩)) | (go_at_call 204; ((with_reducible refine (C3 _).mono ?_); rintro e w' ⟨rfl, rfl⟩)) | (go_at_call 204; ((with_reducible refine (C4 _).mono ?_); rintro e w' ⟨rfl, rfl⟩)) | (go_at_call 204; ((with_reducible refine (C5 _).mono ?_); rintro e w' ⟨rfl, rfl⟩)) | (go_at_call 204; ((with_reducible refine (C6 _).mono ?_); rintro e w' ⟨rfl, rfl⟩)))
           replace K := K.out
           go_ret
           exact ⟨rfl, K.old⟩
       | false =>
         subst hb3
         go_enter Tryz.func133, Tryz.ntmps133
         go_wp2_with (first | (go_at_call 203; ((with_reducible refine (C0 _).mono ?_); rintro e w' ⟨rfl, rfl⟩)) | (go_at_call 172; ((with_reducible refine (C1 _).mono ?_); rintro e w' ⟨rfl, rfl⟩)) | (go_at_call 204; ((with_reducible refine (C2 _).mono ?_); rintro e w' ⟨rfl, rfl⟩)) | (go_at_call 204; ((with_reducible refine (C3 _).mono ?_); rintro e w' ⟨rfl, rfl⟩)) | (go_at_call 204; ((with_reducible refine (C4 _).mono ?_); rintro e w' ⟨rfl, rfl⟩)) | (go_at_call 204; ((with_reducible refine (C5 _).mono ?_); rintro e w' ⟨rfl, rfl⟩)) | (go_at_call 204; ((with_reducible refine (C6 _).mono ?_); rintro e w' ⟨rfl, rfl⟩)))
         replace K := K.out
         go_ret
         exact ⟨rfl, K.old⟩
     | false =>
       subst hb2
       go_enter Tryz.func133, Tryz.ntmps133
       go_wp2_with (first | (go_at_call 203; ((with_reducible refine (C0 _).mono ?_); rintro e w' ⟨rfl, rfl⟩)) | (go_at_call 172; ((with_reducible refine (C1 _).mono ?_); rintro e w' ⟨rfl, rfl⟩)) | (go_at_call 204; ((with_reducible refine (C2 _).mono ?_); rintro e w' ⟨rfl, rfl⟩)) | (go_at_call 204; ((with_reducible refine (C3 _).mono ?_); rintro e w' ⟨rfl, rfl⟩)) | (go_at_call 204; ((with_reducible refine (C4 _).mono ?_); rintro e w' ⟨rfl, rfl⟩)) | (go_at_call 204; ((with_reducible refine (C5 _).mono ?_); rintro e w' ⟨rfl, rfl⟩)) | (go_at_call 204; ((with_reducible refine (C6 _).mono ?_); rintro e w' ⟨rfl, rfl⟩)))
       replace K := K.out
       go_ret
       exact ⟨rfl, K.old⟩
   | false =>
     subst hb1
     go_enter Tryz.func133, Tryz.ntmps133
     go_wp2_with (first | (go_at_call 203; ((with_reducible refine (C0 _).mono ?_); rintro e w' ⟨rfl, rfl⟩)) | (go_at_call 172; ((with_reducible refine (C1 _).mono ?_); rintro e w' ⟨rfl, rfl⟩)) | (go_at_call 204; ((with_reducible refine (C2 _).mono ?_); rintro e w' ⟨rfl, rfl⟩)) | (go_at_call 204; ((with_reducible refine (C3 _).mono ?_); rintro e w' ⟨rfl, rfl⟩)) | (go_at_call 204; ((with_reducible refine (C4 _).mono ?_); rintro e w' ⟨rfl, rfl⟩)) | (go_at_call 204; ((with_reducible refine (C5 _).mono ?_); rintro e w' ⟨rfl, rfl⟩)) | (go_at_call 204; ((with_reducible refine (C6 _).mono ?_); rintro e w' ⟨rfl, rfl⟩)))
     replace K := K.out
     go_ret
     exact ⟨rfl, K.old⟩
 | false =>
   subst hb0
   go_enter Tryz.func133, Tryz.ntmps133
   go_wp2_with (first | (go_at_call 203; ((with_reducible refine (C0 _).mono ?_); rintro e w' ⟨rfl, rfl⟩)) | (go_at_call 172; ((with_reducible refine (C1 _).mono ?_); rintro e w' ⟨rfl, rfl⟩)) | (go_at_call 204; ((with_reducible refine (C2 _).mono ?_); rintro e w' ⟨rfl, rfl⟩)) | (go_at_call 204; ((with_reducible refine (C3 _).mono ?_); rintro e w' ⟨rfl, rfl⟩)) | (go_at_call 204; ((with_reducible refine (C4 _).mono ?_); rintro e w' ⟨rfl, rfl⟩)) | (go_at_call 204; ((with_reducible refine (C5 _).mono ?_); rintro e w' ⟨rfl, rfl⟩)) | (go_at_call 204; ((with_reducible refine (C6 _).mono ?_); rintro e w' ⟨rfl, rfl⟩)))
   replace K := K.out
   go_ret
   exact ⟨rfl, K.old⟩
end Go.Proofs.YtacinenddnfcbaaGreat

namespace Go.Proofs.YtacinenddnfcbaaGreat
open Go.ChangeShapes Go.WideShapes Go.ChangeAt Go.RowKit Ieee.Own Pol

theorem fn_fin {x : Nat} (h : FinW x) : FinW (fnW x) := by unfold fnW; split; exact h; exact zero_fin
theorem fn_fit (x : Nat) : fitB (fnW x) = true := by
 unfold fnW
 by_cases h : fitB x = true
 · rw [if_pos h]; exact h
 · rw [if_neg h]; decide
def oW (x : Nat) : Nat := aX (fnW x) 0
theorem oW_nz {x : Nat} (h : FinW x) : Nz (oW x) := plus0_nz (fn_fin h)
theorem oW_V {x : Nat} (h : FinW x) : V (oW x) = V (fnW x) := (plus0 (fn_fin h)).2.2
theorem fit_V {x y : Nat} (hx : FinW x) (hy : FinW y) (h : V x = V y) : fitB x = fitB y := by
 rw [Bool.eq_iff_iff, fit_iff hx, fit_iff hy, h]
theorem oW_fit {x : Nat} (h : FinW x) : fitB (oW x) = true := by
 rw [fit_V (oW_nz h).fin (fn_fin h) (oW_V h)]; exact fn_fit x
theorem fn_le {x k : Nat} (h : (V x).natAbs ≤ 2 ^ k) : (V (fnW x)).natAbs ≤ 2 ^ k := by
 unfold fnW
 split
 · exact h
 · rw [V_zero]; exact Nat.zero_le _
theorem oW_ang {x j : Nat} (W : Wd x j 1075) : Ang (oW x) ∧ errA (oW x) = 0 := by
 have A := fn_ang W
 have v := oW_V W.fin
 have f := (oW_nz W.fin).fin
 have a : (V (oW x)).natAbs ≤ 2 ^ 1114 := by rw [v]; exact A.abs
 exact ⟨⟨f, by rw [v]; exact A.dvd, a⟩, err_small f (oW_fit W.fin) a⟩
theorem sn_oW {x : Nat} (h : FinW x) : tS (oW x) = snW x := (t_congr (oW_V h)).1
theorem obrought_run {x : Nat} (hx : FinW x) (w : World) : Calls Tryz.prog 106 #[.float .f64 x] w fun e w' => e = .returned (.float .f64 (oW x)) ∧ w = w' := by
 have CF := fun w => fit_any x hx.1 w
 have P := run_add _ _ _ (plus0 hx).1
 by_cases h : fitB x = true
 · have e : oW x = aX x 0 := by unfold oW fnW; rw [if_pos h]
   rw [e]
   rw [h] at CF
   clear h e hx
   generalize aX x 0 = z at *
   go_enter Tryz.func106, Tryz.ntmps106
   go_wp2_with (go_at_call 72; ((with_reducible refine (CF _).mono ?_); rintro e w' ⟨rfl, rfl⟩))
   go_ret
   exact ⟨rfl, rfl⟩
 · have e : oW x = 0 := by unfold oW fnW; rw [if_neg h]; decide +kernel
   rw [e]
   rw [Bool.not_eq_true] at h
   rw [h] at CF
   clear h e hx P
   go_enter Tryz.func106, Tryz.ntmps106
   go_wp2_with (go_at_call 72; ((with_reducible refine (CF _).mono ?_); rintro e w' ⟨rfl, rfl⟩))
   go_ret
   exact ⟨rfl, rfl⟩
theorem osin_run {x : Nat} (hx : x < 18446744073709551616) (h : errA x = 0) (w : World) : Calls Tryz.prog 174 #[.float .f64 x] w fun e w' => e = .returned (.tuple #[.float .f64 (tS x), .int .i64 0]) ∧ Below w.heap.size w w' := by
 obtain ⟨s, c, T, C⟩ := uboth_ok hx h
 rw [(tS_eq T).1]
 exact usin_run (Lib.hid C) w
end Go.Proofs.YtacinenddnfcbaaGreat

namespace Go.Proofs.YtacinenddnfcbaaGreat
open Ieee.Own Pol

def posX (o : Ob) (d : Nat) : Nat := aX o.ph (mX o.ra d)
def lefX (x : Nat) : Nat := lX x (wholeW .even x)
def meanW (o : Ob) (d : Nat) : Nat := oW (lefX (posX o d))
theorem tu_wd {x : Nat} (hx : x < 18446744073709551616) (h : tuB x = true) : Wd x 822 1084 := by
 obtain ⟨f, g, a, b⟩ := btw_of hx h
 have c1 : V tuLo = -(2 ^ 1084) := by decide +kernel
 have c2 : V tuHi = 2 ^ 1084 := by decide +kernel
 rw [c1] at a
 rw [c2] at b
 have ce : ((2 ^ 1084 : Nat) : Int) = 2 ^ 1084 := Int.natCast_pow 2 1084
 exact ⟨f, fit_822 hx g, by omega⟩
theorem ha_wd {x : Nat} (hx : x < 18446744073709551616) (h : haB x = true) : Wd x 822 1073 := by
 obtain ⟨f, g, a, b⟩ := btw_of hx h
 have c1 : V haLo = -(2 ^ 1073) := by decide +kernel
 have c2 : V haHi = 2 ^ 1073 := by decide +kernel
 rw [c1] at a
 rw [c2] at b
 have ce : ((2 ^ 1073 : Nat) : Int) = 2 ^ 1073 := Int.natCast_pow 2 1073
 exact ⟨f, fit_822 hx g, by omega⟩
structure PosX (o : Ob) (d : Nat) : Prop where
 mul : Ieee.double.mul o.ra d = some (mX o.ra d)
 add : Ieee.double.add o.ph (mX o.ra d) = some (posX o d)
 fm : FinW (mX o.ra d)
 vm : V (mX o.ra d) = RZ (V o.ra * V d)
 va : V (posX o d) = RN (V o.ph + V (mX o.ra d))
 left : Lft (posX o d)
 wx : Wd (posX o d) 570 1110
theorem pos_of {o : Ob} {d : Nat} (wf : ObW o) (hd : d < 18446744073709551616) (h1 : tuB o.ph = true) (h2 : tuB o.ra = true) (h3 : witB g24 d = true) : PosX o d := by
 have W1 := tu_wd wf.ph h1
 have W2 := tu_wd wf.ra h2
 have W3 := wit_wd hd v24 h3
 obtain ⟨q1, M, -⟩ := W2.mul W3 (by omega) (by omega) (by omega)
 obtain ⟨q2, A, -⟩ := Wd.add (p := 570) (k := 1109) (W1.le (by omega) (by omega)) (M.le (by omega) (by omega)) (by omega)
 obtain ⟨-, -, v1, -⟩ := mul_ok (i := 1098) (k := 1122) W2.fin W3.fin (abs_up (k := 1084) (l := 1098) W2.abs (by omega)) W3.abs rfl (by omega)
 obtain ⟨-, -, v2, -⟩ := add_ok (i := 1109) (k := 1110) W1.fin M.fin (abs_up (k := 1084) (l := 1109) W1.abs (by omega)) (M.le (q := 0) (l := 1109) (by omega) (by omega)).abs rfl (by omega)
 have A' := A.le (q := 570) (l := 1110) (Nat.le_refl _) (by omega)
 refine ⟨q1, q2, M.fin, v1, v2, ⟨A.fin, ?_, ?_⟩, A'⟩
 · exact Int.dvd_trans ⟨2 ^ 568, by rw [show (4 : Int) = 2 ^ 2 from rfl, ← Int.pow_add]⟩ A.dvd
 · exact abs_up (k := 1110) (l := 1124) A'.abs (by omega)
structure LefX (x : Nat) : Prop where
 fw : FinW (wholeW .even x)
 sub : Ieee.double.sub x (wholeW .even x) = some (lefX x)
 fin : FinW (lefX x)
 v : V (lefX x) = rq hlf (V x)
theorem lef_of {x : Nat} (h : Lft x) : LefX x := by
 obtain ⟨f1, f2⟩ := even_spec h.fin (abs_up (k := 1124) (l := 1126) h.abs (by omega))
 rw [← hlf_is] at f2
 have k := rq_bd hlf_pos (V x)
 have e : V x - kq hlf (V x) * 2 ^ 1074 = rq hlf (V x) := by
  unfold rq
  rw [hlf_two, Int.mul_comm]
 have bd : (V (wholeW .even x)).natAbs ≤ 2 ^ 1125 := by
  have a : (rq hlf (V x)).natAbs ≤ 2 ^ 1073 := by
   have ce : ((2 ^ 1073 : Nat) : Int) = 2 ^ 1073 := Int.natCast_pow 2 1073
   have eh := hlf_is
   omega
  have a2 := Nat.le_trans a (two_le (a := 1073) (b := 1124) (by omega))
  have e2 : V (wholeW .even x) = V x - rq hlf (V x) := by rw [f2]; omega
  rw [e2]
  have b := h.abs
  have d := two_dbl (m := 1124) (n := 1125) (by omega)
  omega
 obtain ⟨a1, a2, a3, -⟩ := sub_ok (i := 1125) (k := 1126) h.fin f1 (abs_up (k := 1124) (l := 1125) h.abs (by omega)) bd rfl (by omega)
 refine ⟨f1, a1, a2, ?_⟩
 have a3 : V (lefX x) = RN (V x - V (wholeW .even x)) := a3
 rw [a3, f2, e]
 exact RN_exact (left_rep (Rep_V x) h.dvd)
theorem mean_ha {x : Nat} (L : LefX x) : haB (oW (lefX x)) = true := by
 have v := oW_V L.fin
 have f := (oW_nz L.fin).fin
 have k := rq_bd hlf_pos (V x)
 have a : (V (lefX x)).natAbs ≤ 2 ^ 1073 := by
  rw [L.v]
  have ce : ((2 ^ 1073 : Nat) : Int) = 2 ^ 1073 := Int.natCast_pow 2 1073
  have eh := hlf_is
  omega
 have b := fn_le a
 rw [← v] at b
 have c1 : V haLo = -(2 ^ 1073) := by decide +kernel
 have c2 : V haHi = 2 ^ 1073 := by decide +kernel
 have ce : ((2 ^ 1073 : Nat) : Int) = 2 ^ 1073 := Int.natCast_pow 2 1073
 unfold haB btwB
 rw [oW_fit L.fin, c1, c2]
 simp only [Bool.true_and, Bool.and_eq_true, decide_eq_true_eq]
 omega
end Go.Proofs.YtacinenddnfcbaaGreat

namespace Go.Proofs.YtacinenddnfcbaaGreat
open Go.ChangeShapes Go.WideShapes Go.ChangeAt Go.RowKit Go.Deep Ieee.Own

theorem Kv.far {w0 w : World} {L : List (Option (Nat × List Value))} (C : Kv w0 L w) {g : Nat} (hg : w0.heap.size ≤ g) (hne : ∀ (j h : Nat) (us : List Value), L[j]? = some (some (h, us)) → h ≠ g) (k : Nat) (v : Value) : Kv w0 L (w.setCell ⟨g, k, none⟩ v) :=
 ⟨C.old.setCell hg _, fun j h us hj => ⟨(C.blk j h us hj).1, (C.at_ j hj).other1 (hne j h us hj) v⟩, C.inj⟩
end Go.Proofs.YtacinenddnfcbaaGreat

namespace Go.Proofs.YtacinenddnfcbaaGreat
open Go.ChangeShapes Go.WideShapes Go.ChangeAt Go.RowKit Ieee.Own

def readyO (o : Ob) (t : Bool) : Int := if mayO o = true then (if t = true then 0 else 80) else 110
theorem readyO_zero {o : Ob} {t : Bool} (h : readyO o t = 0) : mayO o = true ∧ t = true := by
 unfold readyO at h
 by_cases a : mayO o = true
 · rw [if_pos a] at h
   by_cases b : t = true
   · exact ⟨a, b⟩
   · rw [if_neg b] at h; omega
 · rw [if_neg a] at h; omega
structure ObOk (o : Ob) : Prop where
 ax : btwB axLo axHi o.ax = true
 ec : ecB o.ec = true
 ti : tuB o.ti = true
 no : tuB o.no = true
 pe : tuB o.pe = true
 ph : tuB o.ph = true
 ra : tuB o.ra = true
theorem mayO_of {o : Ob} (h : mayO o = true) : ObOk o := by
 unfold mayO at h
 simp only [Bool.and_eq_true] at h
 obtain ⟨a, b, c, d, e, f, g⟩ := h
 exact ⟨a, b, c, d, e, f, g⟩
theorem oready_run {o : Ob} (h : ObW o) (t : Bool) (w : World) : Calls Tryz.prog 73 #[obV o, .bool t] w fun e w' => e = .returned (.int .i64 (readyO o t)) ∧ Below w.heap.size w w' := by
 have C := Lib.hid (fun w => ocheck_run h w)
 unfold chkO at C
 unfold readyO
 clear h
 generalize mayO o = m at *
 obtain ⟨ax, ec, ti, no, pe, ph, ra⟩ := o
 unfold obV at *
 dsimp only at *
 cases m <;> cases t <;> (
  simp only [if_true, Bool.false_eq_true, if_false] at C ⊢
  have K0 := kv1 w 45 [.float .f64 ax, .float .f64 ec, .float .f64 ti, .float .f64 no, .float .f64 pe, .float .f64 ph, .float .f64 ra]
  simp only [objV] at K0
  have hst := @fstore
  replace K0 := Lib.hid K0
  go_enter Tryz.func73, Tryz.ntmps73
  go_wp2_with fail
  have K := K0.out
  clear K0
  generalize w.alloc _ = wr at *
  refine (C.out wr).mono ?_
  rintro _ v1 ⟨rfl, hb⟩
  replace K := K.on hb
  clear hb
  replace K := Lib.hid K
  go_wp2_with fail
  replace K := K.out
  go_ret
  exact ⟨rfl, K.old⟩)
end Go.Proofs.YtacinenddnfcbaaGreat

namespace Go.Proofs.YtacinenddnfcbaaGreat
open Go.ChangeShapes Go.WideShapes Go.ChangeAt Go.RowKit Ieee.Own Pol

def floE2 (x : Nat) (k : Int) : Value := .tuple #[.float .f64 x, .int .i64 k]
def meanR (o : Ob) (d : Nat) : Nat × Int := if readyO o (witB g24 d) = 0 then (meanW o d, 0) else (0, readyO o (witB g24 d))
noncomputable def solV (e m : Nat) : Nat := oW (plcW (kepW e) m)
noncomputable def solR (e m : Nat) : Nat × Int := if ecB e = true then (if haB m = true then (solV e m, 0) else (0, 3)) else (0, 110)
theorem timeB (d : Nat) (hd : d < 18446744073709551616) (w : World) : Calls Tryz.prog 31 #[.float .f64 d] w fun e w' => e = .returned (.bool (witB g24 d)) ∧ Below w.heap.size w w' :=
 (ftime_run d hd w).mono fun e w' h => ⟨h.1, by rw [← h.2]; exact Below.refl _ _⟩
theorem omean_ok {ax ec ti no pe ph ra d p x y z u : Nat} {tb : Bool} (CT : Hid (∀ w, Calls Tryz.prog 31 #[.float .f64 d] w fun e w' => e = .returned (.bool tb) ∧ Below w.heap.size w w')) (CR : Hid (∀ w, Calls Tryz.prog 73 #[.agg #[.float .f64 ax, .float .f64 ec, .float .f64 ti, .float .f64 no, .float .f64 pe, .float .f64 ph, .float .f64 ra], .bool tb] w fun e w' => e = .returned (.int .i64 0) ∧ Below w.heap.size w w')) (r1 : ∀ t w, (binOp .mul t (.float .f64 ra) (.float .f64 d)).run Tryz.prog w = .ok (.float .f64 p) w) (r2 : ∀ t w, (binOp .add t (.float .f64 ph) (.float .f64 p)).run Tryz.prog w = .ok (.float .f64 x) w) (X : ∀ w, (callFunc 171 #[.float .f64 x]).run Tryz.prog w = .ok (.value (.float .f64 y)) w) (r3 : ∀ t w, (binOp .sub t (.float .f64 x) (.float .f64 y)).run Tryz.prog w = .ok (.float .f64 z) w) (CB : ∀ w, Calls Tryz.prog 106 #[.float .f64 z] w fun e w' => e = .returned (.float .f64 u) ∧ w = w') (w : World) : Calls Tryz.prog 102 #[.agg #[.float .f64 ax, .float .f64 ec, .float .f64 ti, .float .f64 no, .float .f64 pe, .float .f64 ph, .float .f64 ra], .float .f64 d] w fun e w' => e = .returned (.tuple #[.float .f64 u, .int .i64 0]) ∧ Below w.heap.size w w' := by
 have K0 := kv1 w 45 [.float .f64 ax, .float .f64 ec, .float .f64 ti, .float .f64 no, .float .f64 pe, .float .f64 ph, .float .f64 ra]
 simp only [objV] at K0
 have hst := @fstore
 replace K0 := Lib.hid K0
 go_enter Tryz.func102, Tryz.ntmps102
 go_upto_region 1 with fail
 have K := K0.out
 clear K0
 generalize w.alloc _ = wr at *
 generalize hds : ([some 8, some 9, some 10, some 11, some 6] : List (Option Tmp)) = ds
 have hap : apartL ds = true := by rw [← hds]; decide
 replace hds := hds.symm
 refine wp_region_kv (fun hf => [some (w.heap.size, [.float .f64 ax, .float .f64 ec, .float .f64 ti, .float .f64 no, .float .f64 pe, .float .f64 ph, .float .f64 ra])]) (fun hf => [some (.agg #[.float .f64 ax, .float .f64 ec, .float .f64 ti, .float .f64 no, .float .f64 pe, .float .f64 ph, .float .f64 ra]), some (.float .f64 d), some (.bool tb), some (.int .i64 0), some (.int .i64 0)]) [] [] [.agg #[.float .f64 ax, .float .f64 ec, .float .f64 ti, .float .f64 no, .float .f64 pe, .float .f64 ph, .float .f64 ra], .float .f64 d, .bool tb, .int .i64 0, .int .i64 0] ds (by kernel_rfl) (by rw [hds]; rfl) hap (by decide +kernel) (by decide +kernel) K ?ha ?haj ?hai ?hsi ?hss ?hsa ?hsw ?htg ?hE2 ?hE3 ?hE4 ?hL1 ?hL2 ?hL3 ?alloc ?step ?store ?fin
 case ha => intro al hal; cases hal
 case haj => intro al hal al' hal' e; cases hal
 case hai => intro al hal; cases hal
 case hsi => intro st hst st' hst' e; cases hst
 case hss =>
  intro st hst
  cases hst
 case hsa =>
  intro st hst al hal
  cases hst
 case hsw =>
  intro st hst al hal e
  cases hst
 case htg =>
  intro st hst
  cases hst
 case hE2 =>
  intro hf j h1 h2
  rcases j with _ | j
  · rfl
  · rfl
 case hE3 =>
  intro hf st hst g us e
  cases hst
 case hE4 =>
  intro hf al hal
  cases hal
 case hL1 => intro hf; rfl
 case hL2 =>
  intro hf i hi hna
  have hi : i < 5 := hi
  have : i = 0 ∨ i = 1 ∨ i = 2 ∨ i = 3 ∨ i = 4 := by omega
  rcases this with rfl | rfl | rfl | rfl | rfl
  · rfl
  · rfl
  · rfl
  · rfl
  · rfl
 case hL3 => intro hf al hal; cases hal
 case alloc =>
  intro al hal o ρ W ho
  cases hal
 case step =>
  intro L W i o ho hs ha hd hB hO
  have hi : i < 5 := (Array.getElem?_eq_some_iff.1 ho).1
  have : i = 0 ∨ i = 1 ∨ i = 2 ∨ i = 3 ∨ i = 4 := by omega
  rcases this with rfl | rfl | rfl | rfl | rfl
  · obtain rfl := Option.some.inj ho
    have b := hB 0 _ _ rfl (by
        intro st hst e
        cases hst)
    have c0 := b.at_ 0 _ rfl
    have c1 := b.at_ 1 _ rfl
    have c2 := b.at_ 2 _ rfl
    have c3 := b.at_ 3 _ rfl
    have c4 := b.at_ 4 _ rfl
    have c5 := b.at_ 5 _ rfl
    have c6 := b.at_ 6 _ rfl
    clear b
    refine .value W ?_ (Below.refl _ _)
    generalize hA : (puts ds L _).eval = ρ
    have h0 : ρ (.tmp 2) = .pointer (some ⟨w.heap.size, 0, none⟩) := (po hA (by rw [hds]; decide)).trans rfl
    clear hA hd hB ho hs ha hO
    unfold execOp
    go_simp
  · obtain rfl := Option.some.inj ho
    refine .value W ?_ (Below.refl _ _)
    generalize hA : (puts ds L _).eval = ρ
    have hc : ∀ v, ρ (.const v) = v := fun v => by rw [← hA]; rfl
    have h0 : ρ (.tmp 1) = .float .f64 d := (po hA (by rw [hds]; decide)).trans rfl
    clear hA hd hB ho hs ha hO
    unfold execOp
    go_simp
  · obtain rfl := Option.some.inj ho
    refine .call 31 #[.float .f64 d] ?_ (CT.out W)
    generalize hA : (puts ds L _).eval = ρ
    have hg : ∀ g, ρ (.func g) = .func (.func g) #[] #[] := fun v => by rw [← hA]; rfl
    have h0 : ρ (.tmp 9) = .float .f64 d := pg 1 hA hap (by rw [hds]; rfl) (hd 1 (by decide +kernel) (alne rfl)) (show 9 < 27 by decide)
    have hf := Tryz.func31
    unfold execOp
    go_simp
  · obtain rfl := Option.some.inj ho
    refine .call 73 #[.agg #[.float .f64 ax, .float .f64 ec, .float .f64 ti, .float .f64 no, .float .f64 pe, .float .f64 ph, .float .f64 ra], .bool tb] ?_ (CR.out W)
    generalize hA : (puts ds L _).eval = ρ
    have hg : ∀ g, ρ (.func g) = .func (.func g) #[] #[] := fun v => by rw [← hA]; rfl
    have h0 : ρ (.tmp 8) = .agg #[.float .f64 ax, .float .f64 ec, .float .f64 ti, .float .f64 no, .float .f64 pe, .float .f64 ph, .float .f64 ra] := pg 0 hA hap (by rw [hds]; rfl) (hd 0 (by decide +kernel) (alne rfl)) (show 8 < 27 by decide)
    have h1 : ρ (.tmp 10) = .bool tb := pg 2 hA hap (by rw [hds]; rfl) (hd 2 (by decide +kernel) (alne rfl)) (show 10 < 27 by decide)
    have hf := Tryz.func73
    unfold execOp
    go_simp
  · obtain rfl := Option.some.inj ho
    refine .value W ?_ (Below.refl _ _)
    generalize hA : (puts ds L _).eval = ρ
    have hc : ∀ v, ρ (.const v) = v := fun v => by rw [← hA]; rfl
    have h0 : ρ (.tmp 11) = .int .i64 0 := pg 3 hA hap (by rw [hds]; rfl) (hd 3 (by decide +kernel) (alne rfl)) (show 11 < 27 by decide)
    clear hA hd hB ho hs ha hO
    unfold execOp
    go_simp
 case store =>
  intro st hst L W o h us ho hd hal hC b
  cases hst
 case fin =>
  intro hf W0 K
  rw [hds]
  clear hds hap ds CT CR
  (try dsimp only at K)
  simp only [List.set_cons_zero, List.set_cons_succ, puts, Act.put, List.setIfInBounds_toArray]
  have c0_5 := (K.at_ 0 rfl).at_ 5 _ rfl
  have c0_6 := (K.at_ 0 rfl).at_ 6 _ rfl
  replace K := Lib.hid K
  go_wp2_with (go_at_call 106; ((with_reducible refine (CB _).mono ?_); rintro e w' ⟨rfl, rfl⟩))
  go_ret2
  exact ⟨rfl, K.out.old⟩
theorem omean_no {ax ec ti no pe ph ra d  : Nat} {tb : Bool} {k : Int} (t : (k != 0) = true) (CT : Hid (∀ w, Calls Tryz.prog 31 #[.float .f64 d] w fun e w' => e = .returned (.bool tb) ∧ Below w.heap.size w w')) (CR : Hid (∀ w, Calls Tryz.prog 73 #[.agg #[.float .f64 ax, .float .f64 ec, .float .f64 ti, .float .f64 no, .float .f64 pe, .float .f64 ph, .float .f64 ra], .bool tb] w fun e w' => e = .returned (.int .i64 k) ∧ Below w.heap.size w w')) (w : World) : Calls Tryz.prog 102 #[.agg #[.float .f64 ax, .float .f64 ec, .float .f64 ti, .float .f64 no, .float .f64 pe, .float .f64 ph, .float .f64 ra], .float .f64 d] w fun e w' => e = .returned (.tuple #[.float .f64 0, .int .i64 k]) ∧ Below w.heap.size w w' := by
 have K0 := kv1 w 45 [.float .f64 ax, .float .f64 ec, .float .f64 ti, .float .f64 no, .float .f64 pe, .float .f64 ph, .float .f64 ra]
 simp only [objV] at K0
 have hst := @fstore
 replace K0 := Lib.hid K0
 go_enter Tryz.func102, Tryz.ntmps102
 go_upto_region 1 with fail
 have K := K0.out
 clear K0
 generalize w.alloc _ = wr at *
 generalize hds : ([some 8, some 9, some 10, some 11, some 6] : List (Option Tmp)) = ds
 have hap : apartL ds = true := by rw [← hds]; decide
 replace hds := hds.symm
 refine wp_region_kv (fun hf => [some (w.heap.size, [.float .f64 ax, .float .f64 ec, .float .f64 ti, .float .f64 no, .float .f64 pe, .float .f64 ph, .float .f64 ra])]) (fun hf => [some (.agg #[.float .f64 ax, .float .f64 ec, .float .f64 ti, .float .f64 no, .float .f64 pe, .float .f64 ph, .float .f64 ra]), some (.float .f64 d), some (.bool tb), some (.int .i64 k), some (.int .i64 k)]) [] [] [.agg #[.float .f64 ax, .float .f64 ec, .float .f64 ti, .float .f64 no, .float .f64 pe, .float .f64 ph, .float .f64 ra], .float .f64 d, .bool tb, .int .i64 k, .int .i64 k] ds (by kernel_rfl) (by rw [hds]; rfl) hap (by decide +kernel) (by decide +kernel) K ?ha ?haj ?hai ?hsi ?hss ?hsa ?hsw ?htg ?hE2 ?hE3 ?hE4 ?hL1 ?hL2 ?hL3 ?alloc ?step ?store ?fin
 case ha => intro al hal; cases hal
 case haj => intro al hal al' hal' e; cases hal
 case hai => intro al hal; cases hal
 case hsi => intro st hst st' hst' e; cases hst
 case hss =>
  intro st hst
  cases hst
 case hsa =>
  intro st hst al hal
  cases hst
 case hsw =>
  intro st hst al hal e
  cases hst
 case htg =>
  intro st hst
  cases hst
 case hE2 =>
  intro hf j h1 h2
  rcases j with _ | j
  · rfl
  · rfl
 case hE3 =>
  intro hf st hst g us e
  cases hst
 case hE4 =>
  intro hf al hal
  cases hal
 case hL1 => intro hf; rfl
 case hL2 =>
  intro hf i hi hna
  have hi : i < 5 := hi
  have : i = 0 ∨ i = 1 ∨ i = 2 ∨ i = 3 ∨ i = 4 := by omega
  rcases this with rfl | rfl | rfl | rfl | rfl
  · rfl
  · rfl
  · rfl
  · rfl
  · rfl
 case hL3 => intro hf al hal; cases hal
 case alloc =>
  intro al hal o ρ W ho
  cases hal
 case step =>
  intro L W i o ho hs ha hd hB hO
  have hi : i < 5 := (Array.getElem?_eq_some_iff.1 ho).1
  have : i = 0 ∨ i = 1 ∨ i = 2 ∨ i = 3 ∨ i = 4 := by omega
  rcases this with rfl | rfl | rfl | rfl | rfl
  · obtain rfl := Option.some.inj ho
    have b := hB 0 _ _ rfl (by
        intro st hst e
        cases hst)
    have c0 := b.at_ 0 _ rfl
    have c1 := b.at_ 1 _ rfl
    have c2 := b.at_ 2 _ rfl
    have c3 := b.at_ 3 _ rfl
    have c4 := b.at_ 4 _ rfl
    have c5 := b.at_ 5 _ rfl
    have c6 := b.at_ 6 _ rfl
    clear b
    refine .value W ?_ (Below.refl _ _)
    generalize hA : (puts ds L _).eval = ρ
    have h0 : ρ (.tmp 2) = .pointer (some ⟨w.heap.size, 0, none⟩) := (po hA (by rw [hds]; decide)).trans rfl
    clear hA hd hB ho hs ha hO
    unfold execOp
    go_simp
  · obtain rfl := Option.some.inj ho
    refine .value W ?_ (Below.refl _ _)
    generalize hA : (puts ds L _).eval = ρ
    have hc : ∀ v, ρ (.const v) = v := fun v => by rw [← hA]; rfl
    have h0 : ρ (.tmp 1) = .float .f64 d := (po hA (by rw [hds]; decide)).trans rfl
    clear hA hd hB ho hs ha hO
    unfold execOp
    go_simp
  · obtain rfl := Option.some.inj ho
    refine .call 31 #[.float .f64 d] ?_ (CT.out W)
    generalize hA : (puts ds L _).eval = ρ
    have hg : ∀ g, ρ (.func g) = .func (.func g) #[] #[] := fun v => by rw [← hA]; rfl
    have h0 : ρ (.tmp 9) = .float .f64 d := pg 1 hA hap (by rw [hds]; rfl) (hd 1 (by decide +kernel) (alne rfl)) (show 9 < 27 by decide)
    have hf := Tryz.func31
    unfold execOp
    go_simp
  · obtain rfl := Option.some.inj ho
    refine .call 73 #[.agg #[.float .f64 ax, .float .f64 ec, .float .f64 ti, .float .f64 no, .float .f64 pe, .float .f64 ph, .float .f64 ra], .bool tb] ?_ (CR.out W)
    generalize hA : (puts ds L _).eval = ρ
    have hg : ∀ g, ρ (.func g) = .func (.func g) #[] #[] := fun v => by rw [← hA]; rfl
    have h0 : ρ (.tmp 8) = .agg #[.float .f64 ax, .float .f64 ec, .float .f64 ti, .float .f64 no, .float .f64 pe, .float .f64 ph, .float .f64 ra] := pg 0 hA hap (by rw [hds]; rfl) (hd 0 (by decide +kernel) (alne rfl)) (show 8 < 27 by decide)
    have h1 : ρ (.tmp 10) = .bool tb := pg 2 hA hap (by rw [hds]; rfl) (hd 2 (by decide +kernel) (alne rfl)) (show 10 < 27 by decide)
    have hf := Tryz.func73
    unfold execOp
    go_simp
  · obtain rfl := Option.some.inj ho
    refine .value W ?_ (Below.refl _ _)
    generalize hA : (puts ds L _).eval = ρ
    have hc : ∀ v, ρ (.const v) = v := fun v => by rw [← hA]; rfl
    have h0 : ρ (.tmp 11) = .int .i64 k := pg 3 hA hap (by rw [hds]; rfl) (hd 3 (by decide +kernel) (alne rfl)) (show 11 < 27 by decide)
    clear hA hd hB ho hs ha hO
    unfold execOp
    go_simp
 case store =>
  intro st hst L W o h us ho hd hal hC b
  cases hst
 case fin =>
  intro hf W0 K
  rw [hds]
  clear hds hap ds CT CR
  (try dsimp only at K)
  simp only [List.set_cons_zero, List.set_cons_succ, puts, Act.put, List.setIfInBounds_toArray]
  replace K := Lib.hid K
  go_wp2_with fail
  go_ret2
  exact ⟨rfl, K.out.old⟩
theorem omean_run {o : Ob} {d : Nat} (h : ObW o) (hd : d < 18446744073709551616) (w : World) : Calls Tryz.prog 102 #[obV o, .float .f64 d] w fun e w' => e = .returned (floE2 (meanR o d).1 (meanR o d).2) ∧ Below w.heap.size w w' := by
 have CT := Lib.hid (fun w => timeB d hd w)
 have CR := Lib.hid (fun w => oready_run h (witB g24 d) w)
 unfold meanR
 by_cases c : readyO o (witB g24 d) = 0
 · rw [if_pos c]
   rw [c] at CR
   obtain ⟨m, t⟩ := readyO_zero c
   have M := mayO_of m
   have P := pos_of h hd M.ph M.ra t
   have L := lef_of P.left
   exact omean_ok CT CR (run_mul _ _ _ P.mul) (run_add _ _ _ P.add) (fun w => xeven P.left.fin w) (run_sub _ _ _ L.sub) (fun w => obrought_run L.fin w) w
 · rw [if_neg c]
   exact omean_no (by simpa using c) CT CR w
theorem bis_on {k m : Nat} (K : Kp k m) (hm : mag (Q m) ≤ 1 / 2) : ∀ n, n ≤ 64 → Wd (bisR k m n).1 (400 + (64 - n) + 1) 1074 ∧ Wd (bisR k m n).2 (400 + (64 - n) + 1) 1074 ∧ Q (bisR k m n).1 ≤ Q (bisR k m n).2
 | 0, _ => by
   have k0 := K.k0
   have mw := K.mw
   have kw := K.kw
   have ad := Wd.add mw kw (by omega)
   obtain ⟨s1, s2, s3, s4⟩ := sub_ok (i := 1073) (k := 1074) mw.fin kw.fin mw.abs kw.abs rfl (by omega)
   have Wl : Wd (lX m k) 800 1074 := ⟨s2, by rw [s3]; exact RN_dvd (Int.dvd_sub mw.dvd kw.dvd), s4⟩
   have Wh : Wd (aX m k) 800 1074 := ad.2.1
   refine ⟨Wl.le (by omega) (Nat.le_refl _), Wh.le (by omega) (Nat.le_refl _), ?_⟩
   obtain ⟨r, g1, g2, g3, g4⟩ := addW mw.fin kw.fin mw.abs kw.abs (by omega)
   have er : aX m k = r := by unfold aX; rw [g1]; rfl
   show Q (lX m k) ≤ Q (aX m k)
   rw [er, Q_le, g3, s3]
   have := Q_nn.1 k0
   exact RN_mono (by omega)
 | n + 1, hn => by
   obtain ⟨a, b, c⟩ := bis_on K hm n (by omega)
   have e : bisR k m (n + 1) = Ply.stepB mdW (tst k m) (bisR k m n) := Ply.bis_step _ _ _ _ _
   rw [show 400 + (64 - n) + 1 = 400 + (64 - (n + 1)) + 1 + 1 by omega] at a b
   obtain ⟨w, l, u, -, -⟩ := mid_near a b (by omega) c
   rw [e]
   unfold Ply.stepB
   by_cases t : tst k m (mdW (bisR k m n).1 (bisR k m n).2) = true
   · rw [if_pos t]; exact ⟨a.le (by omega) (Nat.le_refl _), w, l⟩
   · rw [if_neg t]; exact ⟨w, b.le (by omega) (Nat.le_refl _), u⟩
structure BisN (k m lo hi e : Nat) : Prop where
 add : Ieee.double.add lo hi = some (aX lo hi)
 div : Ieee.double.div (aX lo hi) two52 = some e
 wd : ∃ j, Wd e j 1074
 mul : Ieee.double.mul k (snW e) = some (mX k (snW e))
 s1 : Ieee.double.sub e (mX k (snW e)) = some (lX e (mX k (snW e)))
 s2 : Ieee.double.sub (lX e (mX k (snW e))) m = some (rsdW k m e)
 t : (FloatKind.f64.format.order (rsdW k m e) 0 == some Ordering.gt) = tst k m e
theorem bis_n {k m : Nat} (K : Kp k m) (hm : mag (Q m) ≤ 1 / 2) {n : Nat} (hn : n ≤ 64) : BisN k m (bisR k m n).1 (bisR k m n).2 (mdW (bisR k m n).1 (bisR k m n).2) := by
 obtain ⟨a, b, c⟩ := bis_on K hm n hn
 obtain ⟨a1, a2, a3, -⟩ := mid_any a b (by omega) (by omega) (by omega) (Q_le.1 c)
 obtain ⟨b1, b2, b3, b4, -⟩ := rsd_near K a3
 have g := gt_words b4 zero_fin
 rw [V_zero] at g
 exact ⟨a1, a2, ⟨_, a3⟩, b1, b2, b3, g⟩
theorem kp_ec {e m : Nat} (he : e < 18446744073709551616) (hm : m < 18446744073709551616) (e1 : ecB e = true) (m1 : haB m = true) : Ieee.double.div e tauW = some (kepW e) ∧ Kp (kepW e) m ∧ mag (Q m) ≤ 1 / 2 := by
 obtain ⟨f, g, a, b⟩ := btw_of he e1
 have M := ha_wd hm m1
 have q : Q ecHi = 7 / 8 := by decide +kernel
 rw [V_zero] at a
 obtain ⟨k1, k2⟩ := kp_of (m := m) he g (Q_nn.2 a) (by rw [← q]; exact Q_le.2 b) (M.le (by omega) (Nat.le_refl _))
 obtain ⟨-, -, c, d⟩ := btw_of hm m1
 have q1 : Q haLo = -(1 / 2) := by decide +kernel
 have q2 : Q haHi = 1 / 2 := by decide +kernel
 exact ⟨k1, k2, mag_of (by rw [← q1]; exact Q_le.2 c) (by rw [← q2]; exact Q_le.2 d)⟩
theorem start_some {k m : Nat} (K : Kp k m) : Ieee.double.sub m k = some (lX m k) ∧ Ieee.double.add m k = some (aX m k) := by
 have ad := Wd.add K.mw K.kw (by omega)
 obtain ⟨s1, -, -, -⟩ := sub_ok (i := 1073) (k := 1074) K.mw.fin K.kw.fin K.mw.abs K.kw.abs rfl (by omega)
 exact ⟨s1, ad.1⟩
theorem tst_step (k m n : Nat) : (tst k m (mdW (bisR k m n).1 (bisR k m n).2) = true → bisR k m (n + 1) = ((bisR k m n).1, mdW (bisR k m n).1 (bisR k m n).2)) ∧ (tst k m (mdW (bisR k m n).1 (bisR k m n).2) = false → bisR k m (n + 1) = (mdW (bisR k m n).1 (bisR k m n).2, (bisR k m n).2)) := by
 have e : bisR k m (n + 1) = Ply.stepB mdW (tst k m) (bisR k m n) := Ply.bis_step _ _ _ _ _
 rw [e]
 unfold Ply.stepB
 exact ⟨fun h => if_pos h, fun h => if_neg (by rw [h]; decide)⟩
theorem osolve_no {e m : Nat} (he : e < 18446744073709551616) (w : World) (h : ecB e = false) : Calls Tryz.prog 103 #[.float .f64 e, .float .f64 m] w fun en w' => en = .returned (floE2 0 110) ∧ Below w.heap.size w w' := by
 have C := fun w => ofitEcc_run he w
 rw [h] at C
 clear h he
 go_enter Tryz.func103, Tryz.ntmps103
 go_wp2_with (go_at_call 172; ((with_reducible refine (C _).mono ?_); rintro e w' ⟨rfl, rfl⟩))
 go_ret2
 exact ⟨rfl, Below.refl _ _⟩
theorem osolve_nm {e m : Nat} (he : e < 18446744073709551616) (hm : m < 18446744073709551616) (w : World) (h : ecB e = true) (h2 : haB m = false) : Calls Tryz.prog 103 #[.float .f64 e, .float .f64 m] w fun en w' => en = .returned (floE2 0 3) ∧ Below w.heap.size w w' := by
 have C := fun w => ofitEcc_run he w
 have C2 := fun w => ofitMean_run hm w
 rw [h] at C
 rw [h2] at C2
 clear h he h2 hm
 go_enter Tryz.func103, Tryz.ntmps103
 go_wp2_with (first | (go_at_call 172; ((with_reducible refine (C _).mono ?_); rintro e w' ⟨rfl, rfl⟩)) | (go_at_call 173; ((with_reducible refine (C2 _).mono ?_); rintro e w' ⟨rfl, rfl⟩)))
 go_ret2
 exact ⟨rfl, Below.refl _ _⟩
theorem osolve_ok {e m : Nat} (he : e < 18446744073709551616) (hm : m < 18446744073709551616) (w : World) (h : ecB e = true) (h2 : haB m = true) : Calls Tryz.prog 103 #[.float .f64 e, .float .f64 m] w fun en w' => en = .returned (floE2 (solV e m) 0) ∧ Below w.heap.size w w' := by
 have C := fun w => ofitEcc_run he w
 have C2 := fun w => ofitMean_run hm w
 rw [h] at C
 rw [h2] at C2
 obtain ⟨k1, K, hq⟩ := kp_ec he hm h h2
 obtain ⟨q1, q2⟩ := start_some K
 have rk := run_div _ _ _ k1
 have rl := run_sub _ _ _ q1
 have rh := run_add _ _ _ q2
 have B : Hid (∀ n, n ≤ 64 → BisN (kepW e) m (bisR (kepW e) m n).1 (bisR (kepW e) m n).2 (mdW (bisR (kepW e) m n).1 (bisR (kepW e) m n).2)) := Lib.hid fun n hn => bis_n K hq hn
 have TS : Hid (∀ n, (tst (kepW e) m (mdW (bisR (kepW e) m n).1 (bisR (kepW e) m n).2) = true → bisR (kepW e) m (n + 1) = ((bisR (kepW e) m n).1, mdW (bisR (kepW e) m n).1 (bisR (kepW e) m n).2)) ∧ (tst (kepW e) m (mdW (bisR (kepW e) m n).1 (bisR (kepW e) m n).2) = false → bisR (kepW e) m (n + 1) = (mdW (bisR (kepW e) m n).1 (bisR (kepW e) m n).2, (bisR (kepW e) m n).2))) := Lib.hid (tst_step (kepW e) m)
 have B0 : bisR (kepW e) m 0 = (lX m (kepW e), aX m (kepW e)) := rfl
 have fin : Hid (solV e m = oW (mdW (bisR (kepW e) m 64).1 (bisR (kepW e) m 64).2)) := Lib.hid rfl
 generalize hA : solV e m = A at *
 unfold tauW at rk
 clear hA k1 K hq q1 q2 h h2 he hm
 replace B0 := Lib.hid B0
 generalize hk : kepW e = k at *
 clear hk
 generalize lX m k = l0 at *
 generalize aX m k = h0 at *
 go_enter Tryz.func103, Tryz.ntmps103
 go_wp2_with (first | (go_at_call 172; ((with_reducible refine (C _).mono ?_); rintro e w' ⟨rfl, rfl⟩)) | (go_at_call 173; ((with_reducible refine (C2 _).mono ?_); rintro e w' ⟨rfl, rfl⟩)))
 go_loopw [7, 8, 26] (fun lv hv iv wr => ∃ (i l h : Nat), lv = .float .f64 l ∧ hv = .float .f64 h ∧ iv = .int .i64 i ∧ i ≤ 64 ∧ bisR k m i = (l, h) ∧ Below w.heap.size w wr) (fun _ _ iv _ => 64 - (intOf iv).toNat)
 case atStart => exact ⟨0, l0, h0, rfl, rfl, rfl, by omega, B0.out, Below.refl _ _⟩
 case round =>
  obtain ⟨i, l, h, rfl, rfl, rfl, hi, hb, ho⟩ := hrel
  have R := B.out i hi
  rw [hb] at R
  dsimp only at R
  have TS := TS.out i
  rw [hb] at TS
  dsimp only at TS
  have ra := run_add _ _ _ R.add
  have rd := run_div _ _ _ R.div
  unfold two52 at rd
  by_cases hlt : i < 64
  · obtain ⟨j, wd⟩ := R.wd
    have rm := run_mul _ _ _ R.mul
    have r1 := run_sub _ _ _ R.s1
    have r2 := run_sub _ _ _ R.s2
    have rt := R.t
    have wd5 := wd.le (q := j) (l := 1075) (Nat.le_refl _) (by omega)
    obtain ⟨-, ea⟩ := oW_ang wd5
    have CB := fun w => obrought_run wd.fin w
    have CS := Lib.hid (fun w => osin_run (oW_nz wd.fin).fin.1 ea w)
    rw [sn_oW wd.fin] at CS
    clear R wd wd5 ea B
    generalize hx : mdW l h = x at *
    clear hx
    generalize snW x = sx at *
    generalize oW x = ox at *
    generalize rsdW k m x = z at *
    generalize lX x (mX k sx) = z1 at *
    generalize mX k sx = z2 at *
    generalize aX l h = z3 at *
    replace ho := Lib.hid ho
    replace TS := Lib.hid TS
    generalize tst k m x = tb at *
    have hlt2 := hlt
    go_wp2_with (go_at_call 106; ((with_reducible refine (CB _).mono ?_); rintro e w' ⟨rfl, rfl⟩))
    refine (CS.out _).mono ?_
    rintro _ v1 ⟨rfl, hb1⟩
    replace ho := Lib.hid (ho.out.trans (hb1.mono ho.out.size))
    clear hb1 CS
    cases tb with
    | true =>
      replace TS := Lib.hid (TS.out.1 rfl)
      go_wp2_with fail
      go_roundw
      case rel => exact ⟨i + 1, l, x, rfl, rfl, by go_num, hlt, TS.out, ho.out⟩
      case measure => simp [intOf]; omega
    | false =>
      replace TS := Lib.hid (TS.out.2 rfl)
      go_wp2_with fail
      go_roundw
      case rel => exact ⟨i + 1, x, h, rfl, rfl, by go_num, hlt, TS.out, ho.out⟩
      case measure => simp [intOf]; omega
  · obtain rfl : i = 64 := by omega
    obtain ⟨j, wd⟩ := R.wd
    have CB := fun w => obrought_run wd.fin w
    have fin := fin.out
    rw [hb] at fin
    dsimp only at fin
    clear R wd TS B
    generalize hx : mdW l h = x at *
    clear hx
    generalize aX l h = z3 at *
    generalize oW x = ox at *
    replace ho := Lib.hid ho
    clear hb
    go_wp2_with (go_at_call 106; ((with_reducible refine (CB _).mono ?_); rintro e w' ⟨rfl, rfl⟩))
    go_ret2
    exact ⟨by rw [fin]; rfl, ho.out⟩
theorem osolve_run {e m : Nat} (he : e < 18446744073709551616) (hm : m < 18446744073709551616) (w : World) : Calls Tryz.prog 103 #[.float .f64 e, .float .f64 m] w fun en w' => en = .returned (floE2 (solR e m).1 (solR e m).2) ∧ Below w.heap.size w w' := by
 unfold solR
 by_cases h : ecB e = true
 · rw [if_pos h]
   by_cases h2 : haB m = true
   · rw [if_pos h2]; exact osolve_ok he hm w h h2
   · rw [if_neg h2]; exact osolve_nm he hm w h (by simpa using h2)
 · rw [if_neg h]; exact osolve_no he w (by simpa using h)
end Go.Proofs.YtacinenddnfcbaaGreat
