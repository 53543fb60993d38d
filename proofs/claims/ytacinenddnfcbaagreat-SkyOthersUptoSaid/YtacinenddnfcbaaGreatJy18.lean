/- Proved here: what the texts Wvd, Wve, Wvf, Oba, Obb, Obm, Frj, Obc prove, one behind the other. -/
import Derived.Test.YtacinenddnfcbaaGreatJy17
import Derived.Test.YtacinenddnfcbaaGreatJy14
import Derived.Test.YtacinenddnfcbaaGreatJy11
import Derived.Test.YtacinenddnfcbaaGreatJy8
import Derived.Test.YtacinenddnfcbaaGreatJy16
import Derived.Test.YtacinenddnfcbaaGreatJy15

set_option maxHeartbeats 4000000
set_option maxRecDepth 100000
namespace Go.Proofs.YtacinenddnfcbaaGreat
open Go.ChangeShapes Go.WideShapes Go.ChangeAt Go.RowKit Ieee.Own Pol

end Go.Proofs.YtacinenddnfcbaaGreat

namespace Go.Proofs.YtacinenddnfcbaaGreat
open Go.ChangeShapes Go.WideShapes Go.ChangeAt Go.RowKit Ieee.Own Pol

end Go.Proofs.YtacinenddnfcbaaGreat

namespace Go.Proofs.YtacinenddnfcbaaGreat
open Go.ChangeShapes Go.WideShapes Go.ChangeAt Go.RowKit Ieee.Own Pol Fma

def putQ (p : R3) (a : Int) (x : Rat) : R3 := if a = 0 then (p.1 + x, p.2.1, p.2.2) else if a = 1 then (p.1, p.2.1 + x, p.2.2) else (p.1, p.2.1, p.2.2 + x)
end Go.Proofs.YtacinenddnfcbaaGreat

namespace Go.Proofs.YtacinenddnfcbaaGreat
open Go.ChangeShapes Go.WideShapes Go.ChangeAt Go.RowKit Ieee.Own

structure Ob where
 ax : Nat
 ec : Nat
 ti : Nat
 no : Nat
 pe : Nat
 ph : Nat
 ra : Nat
def obV (o : Ob) : Value := .agg #[.float .f64 o.ax, .float .f64 o.ec, .float .f64 o.ti, .float .f64 o.no, .float .f64 o.pe, .float .f64 o.ph, .float .f64 o.ra]
structure ObW (o : Ob) : Prop where
 ax : o.ax < 18446744073709551616
 ec : o.ec < 18446744073709551616
 ti : o.ti < 18446744073709551616
 no : o.no < 18446744073709551616
 pe : o.pe < 18446744073709551616
 ph : o.ph < 18446744073709551616
 ra : o.ra < 18446744073709551616
def btwB (l g x : Nat) : Bool := fitB x && (decide (V l ≤ V x) && decide (V x ≤ V g))
def axLo : Nat := 4517110426252607488
def axHi : Nat := 4787326403894837248
def ecHi : Nat := 4606056518893174784
def tuHi : Nat := 4652218415073722368
def tuLo : Nat := 13875590451928498176
def haHi : Nat := 4602678819172646912
def haLo : Nat := 13826050856027422720
theorem btw_of {l g x : Nat} (hx : x < 18446744073709551616) (h : btwB l g x = true) : FinW x ∧ fitB x = true ∧ V l ≤ V x ∧ V x ≤ V g := by
 unfold btwB at h
 simp only [Bool.and_eq_true, decide_eq_true_eq] at h
 exact ⟨fit_fin hx h.1, h.1, h.2.1, h.2.2⟩
def ecB (x : Nat) : Bool := btwB 0 ecHi x
def tuB (x : Nat) : Bool := btwB tuLo tuHi x
def haB (x : Nat) : Bool := btwB haLo haHi x
def mayO (o : Ob) : Bool := btwB axLo axHi o.ax && (ecB o.ec && (tuB o.ti && (tuB o.no && (tuB o.pe && (tuB o.ph && tuB o.ra)))))
def chkO (o : Ob) : Int := if mayO o = true then 0 else 110
theorem owithin_run {l g x : Nat} (hx : x < 18446744073709551616) (hl : FinW l) (hg : FinW g) (w : World) :
 Calls Tryz.prog 203 #[.float .f64 x, .float .f64 l, .float .f64 g] w fun e w' => e = .returned (.bool (btwB l g x)) ∧ w = w' := by
 have CF := fun w => fit_any x hx w
 unfold btwB
 by_cases h : fitB x = true
 · have fx := fit_fin hx h
   have g1 := le_words hl fx
   have g2 := le_words fx hg
   rw [h] at CF ⊢
   generalize decide (V l ≤ V x) = p at *
   generalize decide (V x ≤ V g) = q at *
   clear fx hx hl hg h
   cases p <;> cases q <;> (
    go_enter Tryz.func203, Tryz.ntmps203
    go_wp2_with (go_at_call 72; ((with_reducible refine (CF _).mono ?_); rintro e w' ⟨rfl, rfl⟩))
    go_ret
    exact ⟨rfl, rfl⟩)
 · rw [Bool.not_eq_true] at h
   rw [h] at CF ⊢
   clear hx hl hg h
   go_enter Tryz.func203, Tryz.ntmps203
   go_wp2_with (go_at_call 72; ((with_reducible refine (CF _).mono ?_); rintro e w' ⟨rfl, rfl⟩))
   go_ret
   exact ⟨rfl, rfl⟩
theorem ofitEcc_run {x : Nat} (hx : x < 18446744073709551616) (w : World) : Calls Tryz.prog 172 #[.float .f64 x] w fun e w' => e = .returned (.bool (ecB x)) ∧ w = w' := by
 have C := fun w => owithin_run (l := 0) (g := 4606056518893174784) hx (by unfold FinW; omega) (by unfold FinW; omega) w
 have e : ecB x = btwB 0 4606056518893174784 x := rfl
 rw [e]
 generalize btwB 0 4606056518893174784 x = b at *
 clear hx
 go_enter Tryz.func172, Tryz.ntmps172
 go_wp2_with (go_at_call 203; ((with_reducible refine (C _).mono ?_); rintro e w' ⟨rfl, rfl⟩))
 go_ret
 exact ⟨rfl, rfl⟩
theorem ofitTurns_run {x : Nat} (hx : x < 18446744073709551616) (w : World) : Calls Tryz.prog 204 #[.float .f64 x] w fun e w' => e = .returned (.bool (tuB x)) ∧ w = w' := by
 have C := fun w => owithin_run (l := 13875590451928498176) (g := 4652218415073722368) hx (by unfold FinW; omega) (by unfold FinW; omega) w
 have e : tuB x = btwB 13875590451928498176 4652218415073722368 x := rfl
 rw [e]
 generalize btwB 13875590451928498176 4652218415073722368 x = b at *
 clear hx
 go_enter Tryz.func204, Tryz.ntmps204
 go_wp2_with (go_at_call 203; ((with_reducible refine (C _).mono ?_); rintro e w' ⟨rfl, rfl⟩))
 go_ret
 exact ⟨rfl, rfl⟩
theorem ofitMean_run {x : Nat} (hx : x < 18446744073709551616) (w : World) : Calls Tryz.prog 173 #[.float .f64 x] w fun e w' => e = .returned (.bool (haB x)) ∧ w = w' := by
 have C := fun w => owithin_run (l := 13826050856027422720) (g := 4602678819172646912) hx (by unfold FinW; omega) (by unfold FinW; omega) w
 have e : haB x = btwB 13826050856027422720 4602678819172646912 x := rfl
 rw [e]
 generalize btwB 13826050856027422720 4602678819172646912 x = b at *
 clear hx
 go_enter Tryz.func173, Tryz.ntmps173
 go_wp2_with (go_at_call 203; ((with_reducible refine (C _).mono ?_); rintro e w' ⟨rfl, rfl⟩))
 go_ret
 exact ⟨rfl, rfl⟩
theorem ocheck_run {o : Ob} (h : ObW o) (w : World) : Calls Tryz.prog 133 #[obV o] w fun e w' => e = .returned (.int .i64 (chkO o)) ∧ Below w.heap.size w w' := by
 have C0 := fun w => owithin_run (l := 4517110426252607488) (g := 4787326403894837248) h.ax (by unfold FinW; omega) (by unfold FinW; omega) w
 have C1 := fun w => ofitEcc_run h.ec w
 have C2 := fun w => ofitTurns_run h.ti w
 have C3 := fun w => ofitTurns_run h.no w
 have C4 := fun w => ofitTurns_run h.pe w
 have C5 := fun w => ofitTurns_run h.ph w
 have C6 := fun w => ofitTurns_run h.ra w
 clear h
 unfold chkO mayO obV
 have e0 : btwB axLo axHi o.ax = btwB 4517110426252607488 4787326403894837248 o.ax := rfl
 rw [e0]
 clear e0
 generalize btwB 4517110426252607488 4787326403894837248 o.ax = b0 at *
 generalize ecB o.ec = b1 at *
 generalize tuB o.ti = b2 at *
 generalize tuB o.no = b3 at *
 generalize tuB o.pe = b4 at *
 generalize tuB o.ph = b5 at *
 generalize tuB o.ra = b6 at *
 obtain ⟨ax, ec, ti, no, pe, ph, ra⟩ := o
 dsimp only at *
 have K := kv1 w 45 [.float .f64 ax, .float .f64 ec, .float .f64 ti, .float .f64 no, .float .f64 pe, .float .f64 ph, .float .f64 ra]
 simp only [objV] at K
 have c0 := (K.at_ 0 rfl).at_ 0 _ rfl
 have c1 := (K.at_ 0 rfl).at_ 1 _ rfl
 have c2 := (K.at_ 0 rfl).at_ 2 _ rfl
 have c3 := (K.at_ 0 rfl).at_ 3 _ rfl
 have c4 := (K.at_ 0 rfl).at_ 4 _ rfl
 have c5 := (K.at_ 0 rfl).at_ 5 _ rfl
 have c6 := (K.at_ 0 rfl).at_ 6 _ rfl
 replace K := Lib.hid K
 cases hb0 : b0 with
 | true =>
   subst hb0
   cases hb1 : b1 with
   | true =>
     subst hb1
     cases hb2 : b2 with
     | true =>
       subst hb2
       cases hb3 : b3 with
       | true =>
         subst hb3
         cases hb4 : b4 with
         | true =>
           subst hb4
           cases hb5 : b5 with
           | true =>
             subst hb5
             cases hb6 : b6 with
             | true =>
               subst hb6
               go_enter Tryz.func133, Tryz.ntmps133
               go_wp2_with (first | (go_at_call 203; ((with_reducible refine (C0 _).mono ?_); rintro e w' ⟨rfl, rfl⟩)) | (go_at_call 172; ((with_reducible refine (C1 _).mono ?_); rintro e w' ⟨rfl, rfl⟩)) | (go_at_call 204; ((with_reducible refine (C2 _).mono ?_); rintro e w' ⟨rfl, rfl⟩)) | (go_at_call 204; ((with_reducible refine (C3 _).mono ?_); rintro e w' ⟨rfl, rfl⟩)) | (go_at_call 204; ((with_reducible refine (C4 _).mono ?_); rintro e w' ⟨rfl, rfl⟩)) | (go_at_call 204; ((with_reducible refine (C5 _).mono ?_); rintro e w' ⟨rfl, rfl⟩)) | (go_at_call 204; ((with_reducible refine (C6 _).mono ?_); rintro e w' ⟨rfl, rfl⟩)))
               replace K := K.out
               go_ret
               exact ⟨rfl, K.old⟩
             | false =>
               subst hb6
               go_enter Tryz.func133, Tryz.ntmps133
               go_wp2_with (first | (go_at_call 203; ((with_reducible refine (C0 _).mono ?_); rintro e w' ⟨rfl, rfl⟩)) | (go_at_call 172; ((with_reducible refine (C1 _).mono ?_); rintro e w' ⟨rfl, rfl⟩)) | (go_at_call 204; ((with_reducible refine (C2 _).mono ?_); rintro e w' ⟨rfl, rfl⟩)) | (go_at_call 204; ((with_reducible refine (C3 _).mono ?_); rintro e w' ⟨rfl, rfl⟩)) | (go_at_call 204; ((with_reducible refine (C4 _).mono ?_); rintro e w' ⟨rfl, rfl⟩)) | (go_at_call 204; ((with_reducible refine (C5 _).mono ?_); rintro e w' ⟨rfl, rfl⟩)) | (go_at_call 204; ((with_reducible refine (C6 _).mono ?_); rintro e w' ⟨rfl, rfl⟩)))
               replace K := K.out
               go_ret
               exact ⟨rfl, K.old⟩
           | false =>
             subst hb5
             go_enter Tryz.func133, Tryz.ntmps133
             go_wp2_with (first | (go_at_call 203; ((with_reducible refine (C0 _).mono ?_); rintro e w' ⟨rfl, rfl⟩)) | (go_at_call 172; ((with_reducible refine (C1 _).mono ?_); rintro e w' ⟨rfl, rfl⟩)) | (go_at_call 204; ((with_reducible refine (C2 _).mono ?_); rintro e w' ⟨rfl, rfl⟩)) | (go_at_call 204; ((with_reducible refine (C3 _).mono ?_); rintro e w' ⟨rfl, rfl⟩)) | (go_at_call 204; ((with_reducible refine (C4 _).mono ?_); rintro e w' ⟨rfl, rfl⟩)) | (go_at_call 204; ((with_reducible refine (C5 _).mono ?_); rintro e w' ⟨rfl, rfl⟩)) | (go_at_call 204; ((with_reducible refine (C6 _).mono ?_); rintro e w' ⟨rfl, rfl⟩)))
             replace K := K.out
             go_ret
             exact ⟨rfl, K.old⟩
         | false =>
           subst hb4
           go_enter Tryz.func133, Tryz.ntmps133
           go_wp2_with (first | (go_at_call 203; ((with_reducible refine (C0 _).mono ?_); rintro e w' ⟨rfl, rfl⟩)) | (go_at_call 172; ((with_reducible refine (C1 _).mono ?_); rintro e w' ⟨rfl, rfl⟩)) | (go_at_call 204; ((with_reducible refine (C2 _).mono ?_); rintro e w' ⟨rfl, rfl⟩)) | (go_at_call 204; ((with_reducible refine (C3 _).mono ?_); rintro e w' ⟨rfl, rfl⟩)) | (go_at_call 204; ((with_reducible refine (C4 _).mono ?_); rintro e w' ⟨rfl, rfl⟩)) | (go_at_call 204; ((with_reducible refine (C5 _).mono ?_); rintro e w' ⟨rfl, rfl⟩)) | (go_at_call 204; ((with_reducible refine (C6 _).mono ?_); rintro e w' ⟨rfl, rfl⟩)))
           replace K := K.out
           go_ret
           exact ⟨rfl, K.old⟩
       | false =>
         subst hb3
         go_enter Tryz.func133, Tryz.ntmps133
         go_wp2_with (first | (go_at_call 203; ((with_reducible refine (C0 _).mono ?_); rintro e w' ⟨rfl, rfl⟩)) | (go_at_call 172; ((with_reducible refine (C1 _).mono ?_); rintro e w' ⟨rfl, rfl⟩)) | (go_at_call 204; ((with_reducible refine (C2 _).mono ?_); rintro e w' ⟨rfl, rfl⟩)) | (go_at_call 204; ((with_reducible refine (C3 _).mono ?_); rintro e w' ⟨rfl, rfl⟩)) | (go_at_call 204; ((with_reducible refine (C4 _).mono ?_); rintro e w' ⟨rfl, rfl⟩)) | (go_at_call 204; ((with_reducible refine (C5 _).mono ?_); rintro e w' ⟨rfl, rfl⟩)) | (go_at_call 204; ((with_reducible refine (C6 _).mono ?_); rintro e w' ⟨rfl, rfl⟩)))
         replace K := K.out
         go_ret
         exact ⟨rfl, K.old⟩
     | false =>
       subst hb2
       go_enter Tryz.func133, Tryz.ntmps133
       go_wp2_with (first | (go_at_call 203; ((with_reducible refine (C0 _).mono ?_); rintro e w' ⟨rfl, rfl⟩)) | (go_at_call 172; ((with_reducible refine (C1 _).mono ?_); rintro e w' ⟨rfl, rfl⟩)) | (go_at_call 204; ((with_reducible refine (C2 _).mono ?_); rintro e w' ⟨rfl, rfl⟩)) | (go_at_call 204; ((with_reducible refine (C3 _).mono ?_); rintro e w' ⟨rfl, rfl⟩)) | (go_at_call 204; ((with_reducible refine (C4 _).mono ?_); rintro e w' ⟨rfl, rfl⟩)) | (go_at_call 204; ((with_reducible refine (C5 _).mono ?_); rintro e w' ⟨rfl, rfl⟩)) | (go_at_call 204; ((with_reducible refine (C6 _).mono ?_); rintro e w' ⟨rfl, rfl⟩)))
       replace K := K.out
       go_ret
       exact ⟨rfl, K.old⟩
   | false =>
     subst hb1
     go_enter Tryz.func133, Tryz.ntmps133
     go_wp2_with (first | (go_at_call 203; ((with_reducible refine (C0 _).mono ?_); rintro e w' ⟨rfl, rfl⟩)) | (go_at_call 172; ((with_reducible refine (C1 _).mono ?_); rintro e w' ⟨rfl, rfl⟩)) | (go_at_call 204; ((with_reducible refine (C2 _).mono ?_); rintro e w' ⟨rfl, rfl⟩)) | (go_at_call 204; ((with_reducible refine (C3 _).mono ?_); rintro e w' ⟨rfl, rfl⟩)) | (go_at_call 204; ((with_reducible refine (C4 _).mono ?_); rintro e w' ⟨rfl, rfl⟩)) | (go_at_call 204; ((with_reducible refine (C5 _).mono ?_); rintro e w' ⟨rfl, rfl⟩)) | (go_at_call 204; ((with_reducible refine (C6 _).mono ?_); rintro e w' ⟨rfl, rfl⟩)))
     replace K := K.out
     go_ret
     exact ⟨rfl, K.old⟩
 | false =>
   subst hb0
   go_enter Tryz.func133, Tryz.ntmps133
   go_wp2_with (first | (go_at_call 203; ((with_reducible refine (C0 _).mono ?_); rintro e w' ⟨rfl, rfl⟩)) | (go_at_call 172; ((with_reducible refine (C1 _).mono ?_); rintro e w' ⟨rfl, rfl⟩)) | (go_at_call 204; ((with_reducible refine (C2 _).mono ?_); rintro e w' ⟨rfl, rfl⟩)) | (go_at_call 204; ((with_reducible refine (C3 _).mono ?_); rintro e w' ⟨rfl, rfl⟩)) | (go_at_call 204; ((with_reducible refine (C4 _).mono ?_); rintro e w' ⟨rfl, rfl⟩)) | (go_at_call 204; ((with_reducible refine (C5 _).mono ?_); rintro e w' ⟨rfl, rfl⟩)) | (go_at_call 204; ((with_reducible refine (C6 _).mono ?_); rintro e w' ⟨rfl, rfl⟩)))
   replace K := K.out
   go_ret
   exact ⟨rfl, K.old⟩
end Go.Proofs.YtacinenddnfcbaaGreat

namespace Go.Proofs.YtacinenddnfcbaaGreat
open Go.ChangeShapes Go.WideShapes Go.ChangeAt Go.RowKit Ieee.Own Pol

theorem fn_fin {x : Nat} (h : FinW x) : FinW (fnW x) := by unfold fnW; split; exact h; exact zero_fin
theorem fn_fit (x : Nat) : fitB (fnW x) = true := by
 unfold fnW
 by_cases h : fitB x = true
 · rw [if_pos h]; exact h
 · rw [if_neg h]; decide
def oW (x : Nat) : Nat := aX (fnW x) 0
theorem oW_nz {x : Nat} (h : FinW x) : Nz (oW x) := plus0_nz (fn_fin h)
theorem oW_V {x : Nat} (h : FinW x) : V (oW x) = V (fnW x) := (plus0 (fn_fin h)).2.2
theorem fit_V {x y : Nat} (hx : FinW x) (hy : FinW y) (h : V x = V y) : fitB x = fitB y := by
 rw [Bool.eq_iff_iff, fit_iff hx, fit_iff hy, h]
theorem oW_fit {x : Nat} (h : FinW x) : fitB (oW x) = true := by
 rw [fit_V (oW_nz h).fin (fn_fin h) (oW_V h)]; exact fn_fit x
theorem fn_le {x k : Nat} (h : (V x).natAbs ≤ 2 ^ k) : (V (fnW x)).natAbs ≤ 2 ^ k := by
 unfold fnW
 split
 · exact h
 · rw [V_zero]; exact Nat.zero_le _
theorem oW_ang {x j : Nat} (W : Wd x j 1075) : Ang (oW x) ∧ errA (oW x) = 0 := by
 have A := fn_ang W
 have v := oW_V W.fin
 have f := (oW_nz W.fin).fin
 have a : (V (oW x)).natAbs ≤ 2 ^ 1114 := by rw [v]; exact A.abs
 exact ⟨⟨f, by rw [v]; exact A.dvd, a⟩, err_small f (oW_fit W.fin) a⟩
theorem sn_oW {x : Nat} (h : FinW x) : tS (oW x) = snW x := (t_congr (oW_V h)).1
theorem obrought_run {x : Nat} (hx : FinW x) (w : World) : Calls Tryz.prog 106 #[.float .f64 x] w fun e w' => e = .returned (.float .f64 (oW x)) ∧ w = w' := by
 have CF := fun w => fit_any x hx.1 w
 have P := run_add _ _ _ (plus0 hx).1
 by_cases h : fitB x = true
 · have e : oW x = aX x 0 := by unfold oW fnW; rw [if_pos h]
   rw [e]
   rw [h] at CF
   clear h e hx
   generalize aX x 0 = z at *
   go_enter Tryz.func106, Tryz.ntmps106
   go_wp2_with (go_at_call 72; ((with_reducible refine (CF _).mono ?_); rintro e w' ⟨rfl, rfl⟩))
   go_ret
   exact ⟨rfl, rfl⟩
 · have e : oW x = 0 := by unfold oW fnW; rw [if_neg h]; decide +kernel
   rw [e]
   rw [Bool.not_eq_true] at h
   rw [h] at CF
   clear h e hx P
   go_enter Tryz.func106, Tryz.ntmps106
   go_wp2_with (go_at_call 72; ((with_reducible refine (CF _).mono ?_); rintro e w' ⟨rfl, rfl⟩))
   go_ret
   exact ⟨rfl, rfl⟩
theorem osin_run {x : Nat} (hx : x < 18446744073709551616) (h : errA x = 0) (w : World) : Calls Tryz.prog 174 #[.float .f64 x] w fun e w' => e = .returned (.tuple #[.float .f64 (tS x), .int .i64 0]) ∧ Below w.heap.size w w' := by
 obtain ⟨s, c, T, C⟩ := uboth_ok hx h
 rw [(tS_eq T).1]
 exact usin_run (Lib.hid C) w
end Go.Proofs.YtacinenddnfcbaaGreat

namespace Go.Proofs.YtacinenddnfcbaaGreat
open Ieee.Own Pol

def posX (o : Ob) (d : Nat) : Nat := aX o.ph (mX o.ra d)
def lefX (x : Nat) : Nat := lX x (wholeW .even x)
def meanW (o : Ob) (d : Nat) : Nat := oW (lefX (posX o d))
theorem tu_wd {x : Nat} (hx : x < 18446744073709551616) (h : tuB x = true) : Wd x 822 1084 := by
 obtain ⟨f, g, a, b⟩ := btw_of hx h
 have c1 : V tuLo = -(2 ^ 1084) := by decide +kernel
 have c2 : V tuHi = 2 ^ 1084 := by decide +kernel
 rw [c1] at a
 rw [c2] at b
 have ce : ((2 ^ 1084 : Nat) : Int) = 2 ^ 1084 := Int.natCast_pow 2 1084
 exact ⟨f, fit_822 hx g, by omega⟩
theorem ha_wd {x : Nat} (hx : x < 18446744073709551616) (h : haB x = true) : Wd x 822 1073 := by
 obtain ⟨f, g, a, b⟩ := btw_of hx h
 have c1 : V haLo = -(2 ^ 1073) := by decide +kernel
 have c2 : V haHi = 2 ^ 1073 := by decide +kernel
 rw [c1] at a
 rw [c2] at b
 have ce : ((2 ^ 1073 : Nat) : Int) = 2 ^ 1073 := Int.natCast_pow 2 1073
 exact ⟨f, fit_822 hx g, by omega⟩
structure PosX (o : Ob) (d : Nat) : Prop where
 mul : Ieee.double.mul o.ra d = some (mX o.ra d)
 add : Ieee.double.add o.ph (mX o.ra d) = some (posX o d)
 fm : FinW (mX o.ra d)
 vm : V (mX o.ra d) = RZ (V o.ra * V d)
 va : V (posX o d) = RN (V o.ph + V (mX o.ra d))
 left : Lft (posX o d)
 wx : Wd (posX o d) 570 1110
theorem pos_of {o : Ob} {d : Nat} (wf : ObW o) (hd : d < 18446744073709551616) (h1 : tuB o.ph = true) (h2 : tuB o.ra = true) (h3 : witB g24 d = true) : PosX o d := by
 have W1 := tu_wd wf.ph h1
 have W2 := tu_wd wf.ra h2
 have W3 := wit_wd hd v24 h3
 obtain ⟨q1, M, -⟩ := W2.mul W3 (by omega) (by omega) (by omega)
 obtain ⟨q2, A, -⟩ := Wd.add (p := 570) (k := 1109) (W1.le (by omega) (by omega)) (M.le (by omega) (by omega)) (by omega)
 obtain ⟨-, -, v1, -⟩ := mul_ok (i := 1098) (k := 1122) W2.fin W3.fin (abs_up (k := 1084) (l := 1098) W2.abs (by omega)) W3.abs rfl (by omega)
 obtain ⟨-, -, v2, -⟩ := add_ok (i := 1109) (k := 1110) W1.fin M.fin (abs_up (k := 1084) (l := 1109) W1.abs (by omega)) (M.le (q := 0) (l := 1109) (by omega) (by omega)).abs rfl (by omega)
 have A' := A.le (q := 570) (l := 1110) (Nat.le_refl _) (by omega)
 refine ⟨q1, q2, M.fin, v1, v2, ⟨A.fin, ?_, ?_⟩, A'⟩
 · exact Int.dvd_trans ⟨2 ^ 568, by rw [show (4 : Int) = 2 ^ 2 from rfl, ← Int.pow_add]⟩ A.dvd
 · exact abs_up (k := 1110) (l := 1124) A'.abs (by omega)
structure LefX (x : Nat) : Prop where
 fw : FinW (wholeW .even x)
 sub : Ieee.double.sub x (wholeW .even x) = some (lefX x)
 fin : FinW (lefX x)
 v : V (lefX x) = rq hlf (V x)
theorem lef_of {x : Nat} (h : Lft x) : LefX x := by
 obtain ⟨f1, f2⟩ := even_spec h.fin (abs_up (k := 1124) (l := 1126) h.abs (by omega))
 rw [← hlf_is] at f2
 have k := rq_bd hlf_pos (V x)
 have e : V x - kq hlf (V x) * 2 ^ 1074 = rq hlf (V x) := by
  unfold rq
  rw [hlf_two, Int.mul_comm]
 have bd : (V (wholeW .even x)).natAbs ≤ 2 ^ 1125 := by
  have a : (rq hlf (V x)).natAbs ≤ 2 ^ 1073 := by
   have ce : ((2 ^ 1073 : Nat) : Int) = 2 ^ 1073 := Int.natCast_pow 2 1073
   have eh := hlf_is
   omega
  have a2 := Nat.le_trans a (two_le (a := 1073) (b := 1124) (by omega))
  have e2 : V (wholeW .even x) = V x - rq hlf (V x) := by rw [f2]; omega
  rw [e2]
  have b := h.abs
  have d := two_dbl (m := 1124) (n := 1125) (by omega)
  omega
 obtain ⟨a1, a2, a3, -⟩ := sub_ok (i := 1125) (k := 1126) h.fin f1 (abs_up (k := 1124) (l := 1125) h.abs (by omega)) bd rfl (by omega)
 refine ⟨f1, a1, a2, ?_⟩
 have a3 : V (lefX x) = RN (V x - V (wholeW .even x)) := a3
 rw [a3, f2, e]
 exact RN_exact (left_rep (Rep_V x) h.dvd)
theorem mean_ha {x : Nat} (L : LefX x) : haB (oW (lefX x)) = true := by
 have v := oW_V L.fin
 have f := (oW_nz L.fin).fin
 have k := rq_bd hlf_pos (V x)
 have a : (V (lefX x)).natAbs ≤ 2 ^ 1073 := by
  rw [L.v]
  have ce : ((2 ^ 1073 : Nat) : Int) = 2 ^ 1073 := Int.natCast_pow 2 1073
  have eh := hlf_is
  omega
 have b := fn_le a
 rw [← v] at b
 have c1 : V haLo = -(2 ^ 1073) := by decide +kernel
 have c2 : V haHi = 2 ^ 1073 := by decide +kernel
 have ce : ((2 ^ 1073 : Nat) : Int) = 2 ^ 1073 := Int.natCast_pow 2 1073
 unfold haB btwB
 rw [oW_fit L.fin, c1, c2]
 simp only [Bool.true_and, Bool.and_eq_true, decide_eq_true_eq]
 omega
end Go.Proofs.YtacinenddnfcbaaGreat

namespace Go.Proofs.YtacinenddnfcbaaGreat
open Go.ChangeShapes Go.WideShapes Go.ChangeAt Go.RowKit Go.Deep Ieee.Own

theorem Kv.far {w0 w : World} {L : List (Option (Nat × List Value))} (C : Kv w0 L w) {g : Nat} (hg : w0.heap.size ≤ g) (hne : ∀ (j h : Nat) (us : List Value), L[j]? = some (some (h, us)) → h ≠ g) (k : Nat) (v : Value) : Kv w0 L (w.setCell ⟨g, k, none⟩ v) :=
 ⟨C.old.setCell hg _, fun j h us hj => ⟨(C.blk j h us hj).1, (C.at_ j hj).other1 (hne j h us hj) v⟩, C.inj⟩
end Go.Proofs.YtacinenddnfcbaaGreat

namespace Go.Proofs.YtacinenddnfcbaaGreat
open Go.ChangeShapes Go.WideShapes Go.ChangeAt Go.RowKit Ieee.Own

def readyO (o : Ob) (t : Bool) : Int := if mayO o = true then (if t = true then 0 else 80) else 110
theorem readyO_zero {o : Ob} {t : Bool} (h : readyO o t = 0) : mayO o = true ∧ t = true := by
 unfold readyO at h
 by_cases a : mayO o = true
 · rw [if_pos a] at h
   by_cases b : t = true
   · exact ⟨a, b⟩
   · rw [if_neg b] at h; omega
 · rw [if_neg a] at h; omega
structure ObOk (o : Ob) : Prop where
 ax : btwB axLo axHi o.ax = true
 ec : ecB o.ec = true
 ti : tuB o.ti = true
 no : tuB o.no = true
 pe : tuB o.pe = true
 ph : tuB o.ph = true
 ra : tuB o.ra = true
theorem mayO_of {o : Ob} (h : mayO o = true) : ObOk o := by
 unfold mayO at h
 simp only [Bool.and_eq_true] at h
 obtain ⟨a, b, c, d, e, f, g⟩ := h
 exact ⟨a, b, c, d, e, f, g⟩
theorem oready_run {o : Ob} (h : ObW o) (t : Bool) (w : World) : Calls Tryz.prog 73 #[obV o, .bool t] w fun e w' => e = .returned (.int .i64 (readyO o t)) ∧ Below w.heap.size w w' := by
 have C := Lib.hid (fun w => ocheck_run h w)
 unfold chkO at C
 unfold readyO
 clear h
 generalize mayO o = m at *
 obtain ⟨ax, ec, ti, no, pe, ph, ra⟩ := o
 unfold obV at *
 dsimp only at *
 cases m <;> cases t <;> (
  simp only [if_true, Bool.false_eq_true, if_false] at C ⊢
  have K0 := kv1 w 45 [.float .f64 ax, .float .f64 ec, .float .f64 ti, .float .f64 no, .float .f64 pe, .float .f64 ph, .float .f64 ra]
  simp only [objV] at K0
  have hst := @fstore
  replace K0 := Lib.hid K0
  go_enter Tryz.func73, Tryz.ntmps73
  go_wp2_with fail
  have K := K0.out
  clear K0
  generalize w.alloc _ = wr at *
  refine (C.out wr).mono ?_
  rintro _ v1 ⟨rfl, hb⟩
  replace K := K.on hb
  clear hb
  replace K := Lib.hid K
  go_wp2_with fail
  replace K := K.out
  go_ret
  exact ⟨rfl, K.old⟩)
theorem rwi_axis {x : Nat} (hx : x < 18446744073709551616) (w : World) : Calls Tryz.prog 97 #[.float .f64 x, .float .f64 4787326403894837248] w fun e w' => e = .returned (.bool (btwB 14010698440749613056 4787326403894837248 x)) ∧ w = w' := by
 have CF := fun w => rfit_any x hx w
 have hneg : ∀ w, (Op.unary .neg (.float .f64 4787326403894837248)).run Tryz.prog w = .ok (.float .f64 14010698440749613056) w := fun w => rfl
 unfold btwB
 by_cases h : fitB x = true
 · have fx := fit_fin hx h
   have g1 := ge_words fx (show FinW 14010698440749613056 by unfold FinW; omega)
   have g2 := le_words fx (show FinW 4787326403894837248 by unfold FinW; omega)
   rw [h] at CF ⊢
   generalize decide (V 14010698440749613056 ≤ V x) = p at *
   generalize decide (V x ≤ V 4787326403894837248) = q at *
   clear fx hx h
   cases p <;> cases q <;> (
    go_enter Tryz.func97, Tryz.ntmps97
    go_wp2_with (go_at_call 39; ((with_reducible refine (CF _).mono ?_); rintro e w' ⟨rfl, rfl⟩))
    go_ret
    exact ⟨rfl, rfl⟩)
 · rw [Bool.not_eq_true] at h
   rw [h] at CF ⊢
   clear hx h
   go_enter Tryz.func97, Tryz.ntmps97
   go_wp2_with (go_at_call 39; ((with_reducible refine (CF _).mono ?_); rintro e w' ⟨rfl, rfl⟩))
   go_ret
   exact ⟨rfl, rfl⟩
theorem rwi_ecc {x : Nat} (hx : x < 18446744073709551616) (w : World) : Calls Tryz.prog 97 #[.float .f64 x, .float .f64 4606056518893174784] w fun e w' => e = .returned (.bool (btwB 13829428555747950592 4606056518893174784 x)) ∧ w = w' := by
 have CF := fun w => rfit_any x hx w
 have hneg : ∀ w, (Op.unary .neg (.float .f64 4606056518893174784)).run Tryz.prog w = .ok (.float .f64 13829428555747950592) w := fun w => rfl
 unfold btwB
 by_cases h : fitB x = true
 · have fx := fit_fin hx h
   have g1 := ge_words fx (show FinW 13829428555747950592 by unfold FinW; omega)
   have g2 := le_words fx (show FinW 4606056518893174784 by unfold FinW; omega)
   rw [h] at CF ⊢
   generalize decide (V 13829428555747950592 ≤ V x) = p at *
   generalize decide (V x ≤ V 4606056518893174784) = q at *
   clear fx hx h
   cases p <;> cases q <;> (
    go_enter Tryz.func97, Tryz.ntmps97
    go_wp2_with (go_at_call 39; ((with_reducible refine (CF _).mono ?_); rintro e w' ⟨rfl, rfl⟩))
    go_ret
    exact ⟨rfl, rfl⟩)
 · rw [Bool.not_eq_true] at h
   rw [h] at CF ⊢
   clear hx h
   go_enter Tryz.func97, Tryz.ntmps97
   go_wp2_with (go_at_call 39; ((with_reducible refine (CF _).mono ?_); rintro e w' ⟨rfl, rfl⟩))
   go_ret
   exact ⟨rfl, rfl⟩
theorem rwi_turns {x : Nat} (hx : x < 18446744073709551616) (w : World) : Calls Tryz.prog 97 #[.float .f64 x, .float .f64 4652218415073722368] w fun e w' => e = .returned (.bool (btwB 13875590451928498176 4652218415073722368 x)) ∧ w = w' := by
 have CF := fun w => rfit_any x hx w
 have hneg : ∀ w, (Op.unary .neg (.float .f64 4652218415073722368)).run Tryz.prog w = .ok (.float .f64 13875590451928498176) w := fun w => rfl
 unfold btwB
 by_cases h : fitB x = true
 · have fx := fit_fin hx h
   have g1 := ge_words fx (show FinW 13875590451928498176 by unfold FinW; omega)
   have g2 := le_words fx (show FinW 4652218415073722368 by unfold FinW; omega)
   rw [h] at CF ⊢
   generalize decide (V 13875590451928498176 ≤ V x) = p at *
   generalize decide (V x ≤ V 4652218415073722368) = q at *
   clear fx hx h
   cases p <;> cases q <;> (
    go_enter Tryz.func97, Tryz.ntmps97
    go_wp2_with (go_at_call 39; ((with_reducible refine (CF _).mono ?_); rintro e w' ⟨rfl, rfl⟩))
    go_ret
    exact ⟨rfl, rfl⟩)
 · rw [Bool.not_eq_true] at h
   rw [h] at CF ⊢
   clear hx h
   go_enter Tryz.func97, Tryz.ntmps97
   go_wp2_with (go_at_call 39; ((with_reducible refine (CF _).mono ?_); rintro e w' ⟨rfl, rfl⟩))
   go_ret
   exact ⟨rfl, rfl⟩
theorem axis_two (x : Nat) : btwB axLo axHi x = (btwB 14010698440749613056 4787326403894837248 x && !decide (V x < V axLo)) := by
 have c : V 14010698440749613056 ≤ V axLo := by decide +kernel
 unfold btwB axHi
 rw [Bool.eq_iff_iff]
 simp only [Bool.and_eq_true, decide_eq_true_eq, Bool.not_eq_true', decide_eq_false_iff_not]
 constructor
 · rintro ⟨a, b, d⟩; exact ⟨⟨a, by omega, d⟩, by omega⟩
 · rintro ⟨⟨a, b, d⟩, e⟩; exact ⟨a, by omega, d⟩
theorem ecc_two (x : Nat) : ecB x = (btwB 13829428555747950592 4606056518893174784 x && !decide (V x < 0)) := by
 have c : V 13829428555747950592 ≤ 0 := by decide +kernel
 unfold ecB btwB ecHi
 rw [V_zero, Bool.eq_iff_iff]
 simp only [Bool.and_eq_true, decide_eq_true_eq, Bool.not_eq_true', decide_eq_false_iff_not]
 constructor
 · rintro ⟨a, b, d⟩; exact ⟨⟨a, by omega, d⟩, by omega⟩
 · rintro ⟨⟨a, b, d⟩, e⟩; exact ⟨a, by omega, d⟩
theorem rcheckO_run {o : Ob} (h : ObW o) (w : World) : Calls Tryz.prog 53 #[obV o] w fun e w' => e = .returned (.int .i64 (chkO o)) ∧ Below w.heap.size w w' := by
 have C0 := fun w => rwi_axis h.ax w
 have C1 := fun w => rwi_ecc h.ec w
 have C2 : ∀ w, Calls Tryz.prog 97 #[.float .f64 o.ti, .float .f64 4652218415073722368] w fun e w' => e = .returned (.bool (tuB o.ti)) ∧ w = w' := fun w => rwi_turns h.ti w
 have C3 : ∀ w, Calls Tryz.prog 97 #[.float .f64 o.no, .float .f64 4652218415073722368] w fun e w' => e = .returned (.bool (tuB o.no)) ∧ w = w' := fun w => rwi_turns h.no w
 have C4 : ∀ w, Calls Tryz.prog 97 #[.float .f64 o.pe, .float .f64 4652218415073722368] w fun e w' => e = .returned (.bool (tuB o.pe)) ∧ w = w' := fun w => rwi_turns h.pe w
 have C5 : ∀ w, Calls Tryz.prog 97 #[.float .f64 o.ph, .float .f64 4652218415073722368] w fun e w' => e = .returned (.bool (tuB o.ph)) ∧ w = w' := fun w => rwi_turns h.ph w
 have C6 : ∀ w, Calls Tryz.prog 97 #[.float .f64 o.ra, .float .f64 4652218415073722368] w fun e w' => e = .returned (.bool (tuB o.ra)) ∧ w = w' := fun w => rwi_turns h.ra w
 have L0 : btwB 14010698440749613056 4787326403894837248 o.ax = true → (FloatKind.f64.format.order o.ax 4517110426252607488 == some Ordering.lt) = decide (V o.ax < V axLo) := fun q => lt_words (btw_of h.ax q).1 (show FinW axLo by unfold FinW axLo; omega)
 have L1 : btwB 13829428555747950592 4606056518893174784 o.ec = true → (FloatKind.f64.format.order o.ec 0 == some Ordering.lt) = decide (V o.ec < 0) := fun q => lt_zero _ (btw_of h.ec q).1
 unfold chkO mayO
 rw [axis_two, ecc_two]
 clear h
 unfold obV
 generalize btwB 14010698440749613056 4787326403894837248 o.ax = b0 at *
 generalize btwB 13829428555747950592 4606056518893174784 o.ec = b1 at *
 generalize decide (V o.ax < V axLo) = d0 at *
 generalize decide (V o.ec < 0) = d1 at *
 generalize tuB o.ti = b2 at *
 generalize tuB o.no = b3 at *
 generalize tuB o.pe = b4 at *
 generalize tuB o.ph = b5 at *
 generalize tuB o.ra = b6 at *
 obtain ⟨ax, ec, ti, no, pe, ph, ra⟩ := o
 dsimp only at *
 have K := kv1 w 45 [.float .f64 ax, .float .f64 ec, .float .f64 ti, .float .f64 no, .float .f64 pe, .float .f64 ph, .float .f64 ra]
 simp only [objV] at K
 have c0 := (K.at_ 0 rfl).at_ 0 _ rfl
 have c1 := (K.at_ 0 rfl).at_ 1 _ rfl
 have c2 := (K.at_ 0 rfl).at_ 2 _ rfl
 have c3 := (K.at_ 0 rfl).at_ 3 _ rfl
 have c4 := (K.at_ 0 rfl).at_ 4 _ rfl
 have c5 := (K.at_ 0 rfl).at_ 5 _ rfl
 have c6 := (K.at_ 0 rfl).at_ 6 _ rfl
 replace K := Lib.hid K
 cases b0 with
 | false =>
   clear L0 L1
   go_enter Tryz.func53, Tryz.ntmps53
   go_wp2_with (first | (go_at_call 97; ((with_reducible refine (C0 _).mono ?_); rintro e w' ⟨rfl, rfl⟩)) | (go_at_call 97; ((with_reducible refine (C1 _).mono ?_); rintro e w' ⟨rfl, rfl⟩)) | (go_at_call 97; ((with_reducible refine (C2 _).mono ?_); rintro e w' ⟨rfl, rfl⟩)) | (go_at_call 97; ((with_reducible refine (C3 _).mono ?_); rintro e w' ⟨rfl, rfl⟩)) | (go_at_call 97; ((with_reducible refine (C4 _).mono ?_); rintro e w' ⟨rfl, rfl⟩)) | (go_at_call 97; ((with_reducible refine (C5 _).mono ?_); rintro e w' ⟨rfl, rfl⟩)) | (go_at_call 97; ((with_reducible refine (C6 _).mono ?_); rintro e w' ⟨rfl, rfl⟩)))
   replace K := K.out
   go_ret
   exact ⟨rfl, K.old⟩
 | true =>
   replace L0 := L0 rfl
   cases d0 with
   | true =>
     clear L1
     go_enter Tryz.func53, Tryz.ntmps53
     go_wp2_with (first | (go_at_call 97; ((with_reducible refine (C0 _).mono ?_); rintro e w' ⟨rfl, rfl⟩)) | (go_at_call 97; ((with_reducible refine (C1 _).mono ?_); rintro e w' ⟨rfl, rfl⟩)) | (go_at_call 97; ((with_reducible refine (C2 _).mono ?_); rintro e w' ⟨rfl, rfl⟩)) | (go_at_call 97; ((with_reducible refine (C3 _).mono ?_); rintro e w' ⟨rfl, rfl⟩)) | (go_at_call 97; ((with_reducible refine (C4 _).mono ?_); rintro e w' ⟨rfl, rfl⟩)) | (go_at_call 97; ((with_reducible refine (C5 _).mono ?_); rintro e w' ⟨rfl, rfl⟩)) | (go_at_call 97; ((with_reducible refine (C6 _).mono ?_); rintro e w' ⟨rfl, rfl⟩)))
     replace K := K.out
     go_ret
     exact ⟨rfl, K.old⟩
   | false =>
     cases b1 with
     | false =>
       clear L1
       go_enter Tryz.func53, Tryz.ntmps53
       go_wp2_with (first | (go_at_call 97; ((with_reducible refine (C0 _).mono ?_); rintro e w' ⟨rfl, rfl⟩)) | (go_at_call 97; ((with_reducible refine (C1 _).mono ?_); rintro e w' ⟨rfl, rfl⟩)) | (go_at_call 97; ((with_reducible refine (C2 _).mono ?_); rintro e w' ⟨rfl, rfl⟩)) | (go_at_call 97; ((with_reducible refine (C3 _).mono ?_); rintro e w' ⟨rfl, rfl⟩)) | (go_at_call 97; ((with_reducible refine (C4 _).mono ?_); rintro e w' ⟨rfl, rfl⟩)) | (go_at_call 97; ((with_reducible refine (C5 _).mono ?_); rintro e w' ⟨rfl, rfl⟩)) | (go_at_call 97; ((with_reducible refine (C6 _).mono ?_); rintro e w' ⟨rfl, rfl⟩)))
       replace K := K.out
       go_ret
       exact ⟨rfl, K.old⟩
     | true =>
       replace L1 := L1 rfl
       cases d1 with
       | true =>
         go_enter Tryz.func53, Tryz.ntmps53
         go_wp2_with (first | (go_at_call 97; ((with_reducible refine (C0 _).mono ?_); rintro e w' ⟨rfl, rfl⟩)) | (go_at_call 97; ((with_reducible refine (C1 _).mono ?_); rintro e w' ⟨rfl, rfl⟩)) | (go_at_call 97; ((with_reducible refine (C2 _).mono ?_); rintro e w' ⟨rfl, rfl⟩)) | (go_at_call 97; ((with_reducible refine (C3 _).mono ?_); rintro e w' ⟨rfl, rfl⟩)) | (go_at_call 97; ((with_reducible refine (C4 _).mono ?_); rintro e w' ⟨rfl, rfl⟩)) | (go_at_call 97; ((with_reducible refine (C5 _).mono ?_); rintro e w' ⟨rfl, rfl⟩)) | (go_at_call 97; ((with_reducible refine (C6 _).mono ?_); rintro e w' ⟨rfl, rfl⟩)))
         replace K := K.out
         go_ret
         exact ⟨rfl, K.old⟩
       | false =>
         cases b2 with
         | false =>
           go_enter Tryz.func53, Tryz.ntmps53
           go_wp2_with (first | (go_at_call 97; ((with_reducible refine (C0 _).mono ?_); rintro e w' ⟨rfl, rfl⟩)) | (go_at_call 97; ((with_reducible refine (C1 _).mono ?_); rintro e w' ⟨rfl, rfl⟩)) | (go_at_call 97; ((with_reducible refine (C2 _).mono ?_); rintro e w' ⟨rfl, rfl⟩)) | (go_at_call 97; ((with_reducible refine (C3 _).mono ?_); rintro e w' ⟨rfl, rfl⟩)) | (go_at_call 97; ((with_reducible refine (C4 _).mono ?_); rintro e w' ⟨rfl, rfl⟩)) | (go_at_call 97; ((with_reducible refine (C5 _).mono ?_); rintro e w' ⟨rfl, rfl⟩)) | (go_at_call 97; ((with_reducible refine (C6 _).mono ?_); rintro e w' ⟨rfl, rfl⟩)))
           replace K := K.out
           go_ret
           exact ⟨rfl, K.old⟩
         | true =>
           cases b3 with
           | false =>
             go_enter Tryz.func53, Tryz.ntmps53
             go_wp2_with (first | (go_at_call 97; ((with_reducible refine (C0 _).mono ?_); rintro e w' ⟨rfl, rfl⟩)) | (go_at_call 97; ((with_reducible refine (C1 _).mono ?_); rintro e w' ⟨rfl, rfl⟩)) | (go_at_call 97; ((with_reducible refine (C2 _).mono ?_); rintro e w' ⟨rfl, rfl⟩)) | (go_at_call 97; ((with_reducible refine (C3 _).mono ?_); rintro e w' ⟨rfl, rfl⟩)) | (go_at_call 97; ((with_reducible refine (C4 _).mono ?_); rintro e w' ⟨rfl, rfl⟩)) | (go_at_call 97; ((with_reducible refine (C5 _).mono ?_); rintro e w' ⟨rfl, rfl⟩)) | (go_at_call 97; ((with_reducible refine (C6 _).mono ?_); rintro e w' ⟨rfl, rfl⟩)))
             replace K := K.out
             go_ret
             exact ⟨rfl, K.old⟩
           | true =>
             cases b4 with
             | false =>
               go_enter Tryz.func53, Tryz.ntmps53
               go_wp2_with (first | (go_at_call 97; ((with_reducible refine (C0 _).mono ?_); rintro e w' ⟨rfl, rfl⟩)) | (go_at_call 97; ((with_reducible refine (C1 _).mono ?_); rintro e w' ⟨rfl, rfl⟩)) | (go_at_call 97; ((with_reducible refine (C2 _).mono ?_); rintro e w' ⟨rfl, rfl⟩)) | (go_at_call 97; ((with_reducible refine (C3 _).mono ?_); rintro e w' ⟨rfl, rfl⟩)) | (go_at_call 97; ((with_reducible refine (C4 _).mono ?_); rintro e w' ⟨rfl, rfl⟩)) | (go_at_call 97; ((with_reducible refine (C5 _).mono ?_); rintro e w' ⟨rfl, rfl⟩)) | (go_at_call 97; ((with_reducible refine (C6 _).mono ?_); rintro e w' ⟨rfl, rfl⟩)))
               replace K := K.out
               go_ret
               exact ⟨rfl, K.old⟩
             | true =>
               cases b5 with
               | false =>
                 go_enter Tryz.func53, Tryz.ntmps53
                 go_wp2_with (first | (go_at_call 97; ((with_reducible refine (C0 _).mono ?_); rintro e w' ⟨rfl, rfl⟩)) | (go_at_call 97; ((with_reducible refine (C1 _).mono ?_); rintro e w' ⟨rfl, rfl⟩)) | (go_at_call 97; ((with_reducible refine (C2 _).mono ?_); rintro e w' ⟨rfl, rfl⟩)) | (go_at_call 97; ((with_reducible refine (C3 _).mono ?_); rintro e w' ⟨rfl, rfl⟩)) | (go_at_call 97; ((with_reducible refine (C4 _).mono ?_); rintro e w' ⟨rfl, rfl⟩)) | (go_at_call 97; ((with_reducible refine (C5 _).mono ?_); rintro e w' ⟨rfl, rfl⟩)) | (go_at_call 97; ((with_reducible refine (C6 _).mono ?_); rintro e w' ⟨rfl, rfl⟩)))
                 replace K := K.out
                 go_ret
                 exact ⟨rfl, K.old⟩
               | true =>
                 cases b6 with
                 | false =>
                   go_enter Tryz.func53, Tryz.ntmps53
                   go_wp2_with (first | (go_at_call 97; ((with_reducible refine (C0 _).mono ?_); rintro e w' ⟨rfl, rfl⟩)) | (go_at_call 97; ((with_reducible refine (C1 _).mono ?_); rintro e w' ⟨rfl, rfl⟩)) | (go_at_call 97; ((with_reducible refine (C2 _).mono ?_); rintro e w' ⟨rfl, rfl⟩)) | (go_at_call 97; ((with_reducible refine (C3 _).mono ?_); rintro e w' ⟨rfl, rfl⟩)) | (go_at_call 97; ((with_reducible refine (C4 _).mono ?_); rintro e w' ⟨rfl, rfl⟩)) | (go_at_call 97; ((with_reducible refine (C5 _).mono ?_); rintro e w' ⟨rfl, rfl⟩)) | (go_at_call 97; ((with_reducible refine (C6 _).mono ?_); rintro e w' ⟨rfl, rfl⟩)))
                   replace K := K.out
                   go_ret
                   exact ⟨rfl, K.old⟩
                 | true =>
                   go_enter Tryz.func53, Tryz.ntmps53
                   go_wp2_with (first | (go_at_call 97; ((with_reducible refine (C0 _).mono ?_); rintro e w' ⟨rfl, rfl⟩)) | (go_at_call 97; ((with_reducible refine (C1 _).mono ?_); rintro e w' ⟨rfl, rfl⟩)) | (go_at_call 97; ((with_reducible refine (C2 _).mono ?_); rintro e w' ⟨rfl, rfl⟩)) | (go_at_call 97; ((with_reducible refine (C3 _).mono ?_); rintro e w' ⟨rfl, rfl⟩)) | (go_at_call 97; ((with_reducible refine (C4 _).mono ?_); rintro e w' ⟨rfl, rfl⟩)) | (go_at_call 97; ((with_reducible refine (C5 _).mono ?_); rintro e w' ⟨rfl, rfl⟩)) | (go_at_call 97; ((with_reducible refine (C6 _).mono ?_); rintro e w' ⟨rfl, rfl⟩)))
                   replace K := K.out
                   go_ret
                   exact ⟨rfl, K.old⟩
end Go.Proofs.YtacinenddnfcbaaGreat
