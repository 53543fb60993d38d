/- Proved here: what the texts Wva, Wvb prove, one behind the other. -/
import Derived.Test.YtgnofnjbmiepjaaGreatJy6
import Derived.Test.YtgnofnjbmiepjaaGreatJo1
import Derived.Test.YtgnofnjbmiepjaaGreatJy11
import Derived.Test.YtgnofnjbmiepjaaGreatJs2

set_option maxHeartbeats 4000000
set_option maxRecDepth 100000
namespace Go.Proofs.YtgnofnjbmiepjaaGreat
open Go.ChangeShapes Go.WideShapes Go.ChangeAt Go.RowKit Go.Deep Ieee.Own

structure Wv where
 ax : Int
 pw : Int
 am : Nat
 ph : Nat
 rt : Nat
def wvC (f : Wv) : List Value := [.int .i64 f.ax, .int .i64 f.pw, .float .f64 f.am, .float .f64 f.ph, .float .f64 f.rt]
def wvV (f : Wv) : Value := .agg #[.int .i64 f.ax, .int .i64 f.pw, .float .f64 f.am, .float .f64 f.ph, .float .f64 f.rt]
structure WvW (f : Wv) : Prop where
 am : f.am < 18446744073709551616
 ph : f.ph < 18446744073709551616
 rt : f.rt < 18446744073709551616
theorem wwit_run (c x : Nat) (hc : c < 9218868437227405312) (hx : x < 18446744073709551616) (w : World) :
 Calls Tryz.prog 91 #[.float .f64 x, .float .f64 c] w fun e w' => e = .returned (.bool (witB c x)) ∧ w = w' := by
 have CF := fun w => fit_any x hx w
 have CA := fun w => abs_any x hx w
 have g := o_leq (x % 9223372036854775808) c (by omega) (by omega)
 by_cases h1 : fitB x = true
 · have fn := fit_fin hx h1
   have m := fn.2
   rw [key_low (by omega), key_low (by omega)] at g
   rw [h1] at CF
   by_cases h2 : x % 9223372036854775808 ≤ c
   · have e : witB c x = true := by unfold witB; rw [decide_eq_true_eq]; exact ⟨h1, h2⟩
     rw [e]
     rw [decide_eq_true (by unfold nn; omega)] at g
     clear hx h1 fn m h2 e hc
     generalize x % 9223372036854775808 = y at *
     go_enter Tryz.func91, Tryz.ntmps91
     go_wp2_with (first | (go_at_call 54; ((with_reducible refine (CF _).mono ?_); rintro e w' ⟨rfl, rfl⟩)) | (go_at_call 89; ((with_reducible refine (CA _).mono ?_); rintro e w' ⟨rfl, rfl⟩)))
     go_ret
     exact ⟨rfl, rfl⟩
   · have e : witB c x = false := by unfold witB; rw [decide_eq_false_iff_not]; exact fun h => h2 h.2
     rw [e]
     rw [decide_eq_false (by omega)] at g
     clear hx h1 fn m h2 e hc
     generalize x % 9223372036854775808 = y at *
     go_enter Tryz.func91, Tryz.ntmps91
     go_wp2_with (first | (go_at_call 54; ((with_reducible refine (CF _).mono ?_); rintro e w' ⟨rfl, rfl⟩)) | (go_at_call 89; ((with_reducible refine (CA _).mono ?_); rintro e w' ⟨rfl, rfl⟩)))
     go_ret
     exact ⟨rfl, rfl⟩
 · have e : witB c x = false := by unfold witB; rw [decide_eq_false_iff_not]; exact fun h => h1 h.1
   rw [Bool.not_eq_true] at h1
   rw [h1] at CF
   rw [e]
   clear hx h1 e g hc
   go_enter Tryz.func91, Tryz.ntmps91
   go_wp2_with (first | (go_at_call 54; ((with_reducible refine (CF _).mono ?_); rintro e w' ⟨rfl, rfl⟩)) | (go_at_call 89; ((with_reducible refine (CA _).mono ?_); rintro e w' ⟨rfl, rfl⟩)))
   go_ret
   exact ⟨rfl, rfl⟩
def mayW (f : Wv) : Bool := decide (0 ≤ f.ax) && (decide (f.ax ≤ 2) && (decide (0 ≤ f.pw) && (decide (f.pw ≤ 2) && (witB g40 f.am && (witB g10 f.ph && witB g10 f.rt)))))
theorem wmay_run {f : Wv} (h : WvW f) (w : World) : Calls Tryz.prog 55 #[wvV f] w fun e w' => e = .returned (.bool (mayW f)) ∧ Below w.heap.size w w' := by
 have C0 := fun w => wwit_run 4787326403894837248 f.am (by omega) h.am w
 have C1 := fun w => wwit_run 4652218415073722368 f.ph (by omega) h.ph w
 have C2 := fun w => wwit_run 4652218415073722368 f.rt (by omega) h.rt w
 clear h
 unfold mayW wvV g10 g40
 generalize witB 4787326403894837248 f.am = b0 at *
 generalize witB 4652218415073722368 f.ph = b1 at *
 generalize witB 4652218415073722368 f.rt = b2 at *
 obtain ⟨ax, pw, am, ph, rt⟩ := f
 dsimp only at *
 have K := kv1 w 41 [.int .i64 ax, .int .i64 pw, .float .f64 am, .float .f64 ph, .float .f64 rt]
 simp only [objV] at K
 have c0 := (K.at_ 0 rfl).at_ 0 _ rfl
 have c1 := (K.at_ 0 rfl).at_ 1 _ rfl
 have c2 := (K.at_ 0 rfl).at_ 2 _ rfl
 have c3 := (K.at_ 0 rfl).at_ 3 _ rfl
 have c4 := (K.at_ 0 rfl).at_ 4 _ rfl
 replace K := Lib.hid K
 by_cases h0 : 0 ≤ ax
 · rw [decide_eq_true h0]
   by_cases h1 : ax ≤ 2
   · rw [decide_eq_true h1]
     by_cases h2 : 0 ≤ pw
     · rw [decide_eq_true h2]
       by_cases h3 : pw ≤ 2
       · rw [decide_eq_true h3]
         cases hb0 : b0 with
         | true =>
           subst hb0
           cases hb1 : b1 with
           | true =>
             subst hb1
             cases hb2 : b2 with
             | true =>
               subst hb2
               go_enter Tryz.func55, Tryz.ntmps55
               go_wp2_with (first | (go_at_call 91; ((with_reducible refine (C0 _).mono ?_); rintro e w' ⟨rfl, rfl⟩)) | (go_at_call 91; ((with_reducible refine (C1 _).mono ?_); rintro e w' ⟨rfl, rfl⟩)) | (go_at_call 91; ((with_reducible refine (C2 _).mono ?_); rintro e w' ⟨rfl, rfl⟩)))
               replace K := K.out
               go_ret
               exact ⟨rfl, K.old⟩
             | false =>
               subst hb2
               go_enter Tryz.func55, Tryz.ntmps55
               go_wp2_with (first | (go_at_call 91; ((with_reducible refine (C0 _).mono ?_); rintro e w' ⟨rfl, rfl⟩)) | (go_at_call 91; ((with_reducible refine (C1 _).mono ?_); rintro e w' ⟨rfl, rfl⟩)) | (go_at_call 91; ((with_reducible refine (C2 _).mono ?_); rintro e w' ⟨rfl, rfl⟩)))
               replace K := K.out
               go_ret
               exact ⟨rfl, K.old⟩
           | false =>
             subst hb1
             go_enter Tryz.func55, Tryz.ntmps55
             go_wp2_with (first | (go_at_call 91; ((with_reducible refine (C0 _).mono ?_); rintro e w' ⟨rfl, rfl⟩)) | (go_at_call 91; ((with_reducible refine (C1 _).mono ?_); rintro e w' ⟨rfl, rfl⟩)) | (go_at_call 91; ((with_reducible refine (C2 _).mono ?_); rintro e w' ⟨rfl, rfl⟩)))
             replace K := K.out
             go_ret
             exact ⟨rfl, K.old⟩
         | false =>
           subst hb0
           go_enter Tryz.func55, Tryz.ntmps55
           go_wp2_with (first | (go_at_call 91; ((with_reducible refine (C0 _).mono ?_); rintro e w' ⟨rfl, rfl⟩)) | (go_at_call 91; ((with_reducible refine (C1 _).mono ?_); rintro e w' ⟨rfl, rfl⟩)) | (go_at_call 91; ((with_reducible refine (C2 _).mono ?_); rintro e w' ⟨rfl, rfl⟩)))
           replace K := K.out
           go_ret
           exact ⟨rfl, K.old⟩
       · rw [decide_eq_false h3]
         go_enter Tryz.func55, Tryz.ntmps55
         go_wp2_with (first | (go_at_call 91; ((with_reducible refine (C0 _).mono ?_); rintro e w' ⟨rfl, rfl⟩)) | (go_at_call 91; ((with_reducible refine (C1 _).mono ?_); rintro e w' ⟨rfl, rfl⟩)) | (go_at_call 91; ((with_reducible refine (C2 _).mono ?_); rintro e w' ⟨rfl, rfl⟩)))
         replace K := K.out
         go_ret
         exact ⟨rfl, K.old⟩
     · rw [decide_eq_false h2]
       go_enter Tryz.func55, Tryz.ntmps55
       go_wp2_with (first | (go_at_call 91; ((with_reducible refine (C0 _).mono ?_); rintro e w' ⟨rfl, rfl⟩)) | (go_at_call 91; ((with_reducible refine (C1 _).mono ?_); rintro e w' ⟨rfl, rfl⟩)) | (go_at_call 91; ((with_reducible refine (C2 _).mono ?_); rintro e w' ⟨rfl, rfl⟩)))
       replace K := K.out
       go_ret
       exact ⟨rfl, K.old⟩
   · rw [decide_eq_false h1]
     go_enter Tryz.func55, Tryz.ntmps55
     go_wp2_with (first | (go_at_call 91; ((with_reducible refine (C0 _).mono ?_); rintro e w' ⟨rfl, rfl⟩)) | (go_at_call 91; ((with_reducible refine (C1 _).mono ?_); rintro e w' ⟨rfl, rfl⟩)) | (go_at_call 91; ((with_reducible refine (C2 _).mono ?_); rintro e w' ⟨rfl, rfl⟩)))
     replace K := K.out
     go_ret
     exact ⟨rfl, K.old⟩
 · rw [decide_eq_false h0]
   go_enter Tryz.func55, Tryz.ntmps55
   go_wp2_with (first | (go_at_call 91; ((with_reducible refine (C0 _).mono ?_); rintro e w' ⟨rfl, rfl⟩)) | (go_at_call 91; ((with_reducible refine (C1 _).mono ?_); rintro e w' ⟨rfl, rfl⟩)) | (go_at_call 91; ((with_reducible refine (C2 _).mono ?_); rintro e w' ⟨rfl, rfl⟩)))
   replace K := K.out
   go_ret
   exact ⟨rfl, K.old⟩
def wvZ : Wv := ⟨0, 0, 0, 0, 0⟩
def wvAt (L : List Wv) (j : Nat) : Wv := L.getD j wvZ
def VAt (w : World) (ao : Option Addr) (L : List Wv) : Prop := RAt w ao 5 (L.map wvC)
def WvsW (L : List Wv) : Prop := ∀ f ∈ L, WvW f
theorem rows_wv (L : List Wv) : RowsOk 5 (L.map wvC) := by
 refine ⟨fun r hr => ?_, fun r hr u hu => ?_⟩
 · obtain ⟨f, -, rfl⟩ := List.mem_map.1 hr; rfl
 · obtain ⟨f, -, rfl⟩ := List.mem_map.1 hr
   simp only [wvC, List.mem_cons, List.not_mem_nil, or_false] at hu
   rcases hu with rfl | rfl | rfl | rfl | rfl <;> rfl
theorem wv_get {L : List Wv} {j : Nat} (h : j < L.length) : (L.map wvC)[j]? = some (wvC (wvAt L j)) := by
 unfold wvAt; simp [List.getD, h]
theorem wv_mem {L : List Wv} {j : Nat} (h : j < L.length) : wvAt L j ∈ L := by
 unfold wvAt
 have : L.getD j wvZ = L[j] := by simp [List.getD, h]
 rw [this]; exact List.getElem_mem h
theorem wv_drop {L : List Wv} {j : Nat} (h : j < L.length) : L.drop j = wvAt L j :: L.drop (j + 1) := by
 unfold wvAt
 have : L.getD j wvZ = L[j] := by simp [List.getD, h]
 rw [this]; exact List.drop_eq_getElem_cons h
theorem VAt.cells {w : World} {ao : Option Addr} {L : List Wv} (h : VAt w ao L) {j : Nat} (hj : j < L.length) :
 ∃ b o, ao = some ⟨b, o, none⟩ ∧ b < w.heap.size ∧ w.cell? ⟨b, o + j * 5, none⟩ = some (.int .i64 (wvAt L j).ax) ∧ w.cell? ⟨b, o + j * 5 + 1, none⟩ = some (.int .i64 (wvAt L j).pw) ∧
   w.cell? ⟨b, o + j * 5 + 2, none⟩ = some (.float .f64 (wvAt L j).am) ∧ w.cell? ⟨b, o + j * 5 + 3, none⟩ = some (.float .f64 (wvAt L j).ph) ∧ w.cell? ⟨b, o + j * 5 + 4, none⟩ = some (.float .f64 (wvAt L j).rt) := by
 obtain ⟨b, o, e, hb, hc⟩ := h j _ (wv_get hj)
 exact ⟨b, o, e, hb, hc 0 _ rfl, hc 1 _ rfl, hc 2 _ rfl, hc 3 _ rfl, hc 4 _ rfl⟩
def goodV (L : List Wv) : Bool := (List.range L.length).all fun j => mayW (wvAt L j)
def chkV (L : List Wv) : Int := if 32 < L.length then 2 else if goodV L = true then 0 else 120
theorem goodV_iff {L : List Wv} : goodV L = true ↔ ∀ j, j < L.length → mayW (wvAt L j) = true := by
 unfold goodV; simp [List.all_eq_true]
theorem chkV_long {L : List Wv} (h : 32 < L.length) : chkV L = 2 := if_pos h
theorem chkV_bad {L : List Wv} (h : ¬ 32 < L.length) {j : Nat} (hj : j < L.length) (hg : mayW (wvAt L j) = false) : chkV L = 120 := by
 unfold chkV
 rw [if_neg h, if_neg (fun g => by rw [goodV_iff.1 g j hj] at hg; cases hg)]
theorem chkV_good {L : List Wv} (h : ¬ 32 < L.length) (hg : ∀ j, j < L.length → mayW (wvAt L j) = true) : chkV L = 0 := by
 unfold chkV
 rw [if_neg h, if_pos (goodV_iff.2 hg)]
theorem chkV_zero {L : List Wv} (h : chkV L = 0) : L.length ≤ 32 ∧ ∀ j, j < L.length → mayW (wvAt L j) = true := by
 unfold chkV at h
 by_cases h1 : 32 < L.length
 · rw [if_pos h1] at h; omega
 · rw [if_neg h1] at h
   by_cases h2 : goodV L = true
   · exact ⟨by omega, goodV_iff.1 h2⟩
   · rw [if_neg h2] at h; omega
theorem chkV_mem {L : List Wv} (h : chkV L = 0) : ∀ f ∈ L, mayW f = true := by
 intro f hf
 obtain ⟨j, hj, rfl⟩ := List.mem_iff_getElem.1 hf
 have := (chkV_zero h).2 j hj
 unfold wvAt at this
 rwa [show L.getD j wvZ = L[j] by simp [List.getD, hj]] at this
theorem ret_iV {a b : Int} (h : a = b) : Ending.returned (.int .i64 a) = .returned (.int .i64 b) := by rw [h]
theorem wcheck_run (ao : Option Addr) (cap n : Nat) (L : List Wv) (w : World) (hn : n = L.length) (hm : n ≤ 4611686018427387904) (hW : WvsW L) (ha : VAt w ao L) :
 Calls Tryz.prog 29 #[.slice ao n cap] w fun e w' => e = .returned (.int .i64 (chkV L)) ∧ Below w.heap.size w w' := by
 by_cases hl : 32 < n
 · have t1 : decide (32 < n) = true := decide_eq_true hl
   rw [chkV_long (by omega)]
   clear hn ha hW
   go_enter Tryz.func29, Tryz.ntmps29
   go_wp2_with fail
   go_ret
   exact ⟨rfl, Below.refl _ _⟩
 · have t1 : decide (32 < n) = false := decide_eq_false hl
   replace hn := Lib.hid hn
   replace ha := Lib.hid ha
   replace hW := Lib.hid hW
   obtain ⟨V, hV⟩ : ∃ V, V = chkV L := ⟨_, rfl⟩
   rw [← hV]
   replace hV := Lib.hid hV
   go_enter Tryz.func29, Tryz.ntmps29
   go_wp2_with fail
   go_loopw [10] (fun iv wr => ∃ i : Nat, i ≤ n ∧ iv = .int .i64 i ∧ (∀ j, j < i → mayW (wvAt L j) = true) ∧ Below w.heap.size w wr) (fun iv _ => n - (intOf iv).toNat)
   case atStart => exact ⟨0, Nat.zero_le _, rfl, fun j hj => by omega, Below.refl _ _⟩
   case round =>
    obtain ⟨i, hi, rfl, ho, hb⟩ := hrel
    by_cases hlt : i < n
    · have hil : i < L.length := by have := hn.out; omega
      obtain ⟨b, o, rfl, hbl, c0, c1, c2, c3, c4⟩ := VAt.cells (ha.out.below (fun b o e _ => ha.out.lt b o e (by simp; omega)) hb) hil
      have fw := hW.out _ (wv_mem hil)
      have M := fun w => wmay_run fw w
      have bad : Hid (mayW (wvAt L i) = false → V = 120) := fun h => by rw [hV.out]; exact chkV_bad (by have := hn.out; omega) hil h
      have good : Hid (mayW (wvAt L i) = true → ∀ j, j < i + 1 → mayW (wvAt L j) = true) := fun h j hj => by
       by_cases e : j < i
       · exact ho j e
       · have e : j = i := by omega
         rw [e]; exact h
      clear fw ho
      generalize hf : mayW (wvAt L i) = mb at *
      generalize wvAt L i = f at *
      obtain ⟨ax, pw, am, ph, rt⟩ := f
      unfold wvV at M
      dsimp only at *
      have B1 := Lib.hid (hb.alloc hb.size (.cells #[.int .i64 ax, .int .i64 pw, .float .f64 am, .float .f64 ph, .float .f64 rt] 41))
      have K := (Kv.nil wr).new 41 [.int .i64 ax, .int .i64 pw, .float .f64 am, .float .f64 ph, .float .f64 rt]
      simp only [objV, List.nil_append] at K
      have d0 := (K.at_ 0 rfl).at_ 0 _ rfl
      have d1 := (K.at_ 0 rfl).at_ 1 _ rfl
      have d2 := (K.at_ 0 rfl).at_ 2 _ rfl
      have d3 := (K.at_ 0 rfl).at_ 3 _ rfl
      have d4 := (K.at_ 0 rfl).at_ 4 _ rfl
      replace hb := Lib.hid hb
      clear K hf hbl
      have hst := @fstore
      cases mb with
      | true =>
        replace good := Lib.hid (good.out rfl)
        clear bad
        go_wp2_with fail
        refine (M _).mono ?_
        rintro _ w1 ⟨rfl, hb1⟩
        replace B1 := Lib.hid (B1.out.trans (hb1.mono B1.out.size))
        clear d0 d1 d2 d3 d4 c0 c1 c2 c3 c4 hb1
        go_wp2_with fail
        go_roundw
        case rel => exact ⟨i + 1, hlt, by go_num, good.out, B1.out⟩
        case measure => simp [intOf]; omega
      | false =>
        replace bad := Lib.hid (bad.out rfl)
        clear good
        go_wp2_with fail
        refine (M _).mono ?_
        rintro _ w1 ⟨rfl, hb1⟩
        replace B1 := Lib.hid (B1.out.trans (hb1.mono B1.out.size))
        clear d0 d1 d2 d3 d4 c0 c1 c2 c3 c4 hb1
        go_wp2_with fail
        go_ret
        exact ⟨ret_iV bad.out.symm, B1.out⟩
    · obtain rfl : i = n := by omega
      have hv : V = 0 := by
       rw [hV.out]
       exact chkV_good (by have := hn.out; omega) (fun j hj => ho j (by have := hn.out; omega))
      replace hv := Lib.hid hv
      replace hb := Lib.hid hb
      clear ho
      go_wp2_with fail
      go_ret
      exact ⟨ret_iV hv.out.symm, hb.out⟩
def readyV (L : List Wv) (t : Bool) : Int := if chkV L ≠ 0 then chkV L else if t = false then 80 else 0
theorem readyV_zero {L : List Wv} {t : Bool} (h : readyV L t = 0) : chkV L = 0 ∧ t = true := by
 unfold readyV at h
 by_cases h1 : chkV L ≠ 0
 · rw [if_pos h1] at h; exact absurd h h1
 · rw [if_neg h1] at h
   cases t with
   | true => exact ⟨by simpa using h1, rfl⟩
   | false => rw [if_pos rfl] at h; omega
theorem wready_run (ao : Option Addr) (cap n : Nat) (L : List Wv) (t : Bool) (w : World) (hn : n = L.length) (hm : n ≤ 4611686018427387904) (hW : WvsW L) (ha : VAt w ao L) :
 Calls Tryz.prog 12 #[.slice ao n cap, .bool t] w fun e w' => e = .returned (.int .i64 (readyV L t)) ∧ Below w.heap.size w w' := by
 have C := Lib.hid (wcheck_run ao cap n L w hn hm hW ha)
 unfold readyV
 generalize chkV L = k at *
 clear hn hm hW ha
 by_cases hk : k = 0
 · subst hk
   rw [if_neg (by simp)]
   cases t with
   | false =>
     rw [if_pos rfl]
     go_enter Tryz.func12, Tryz.ntmps12
     go_wp2_with fail
     refine C.out.mono ?_
     rintro _ w1 ⟨rfl, hb1⟩
     replace hb1 := Lib.hid hb1
     clear C
     go_wp2_with fail
     go_ret
     exact ⟨rfl, hb1.out⟩
   | true =>
     rw [if_neg (by simp)]
     go_enter Tryz.func12, Tryz.ntmps12
     go_wp2_with fail
     refine C.out.mono ?_
     rintro _ w1 ⟨rfl, hb1⟩
     replace hb1 := Lib.hid hb1
     clear C
     go_wp2_with fail
     go_ret
     exact ⟨rfl, hb1.out⟩
 · have tk : (k != 0) = true := by simpa using hk
   rw [if_pos hk]
   clear hk
   go_enter Tryz.func12, Tryz.ntmps12
   go_wp2_with fail
   refine C.out.mono ?_
   rintro _ w1 ⟨rfl, hb1⟩
   replace hb1 := Lib.hid hb1
   clear C
   go_wp2_with fail
   go_ret
   exact ⟨rfl, hb1.out⟩
theorem wbrought_run {x : Nat} (hx : x < 18446744073709551616) (w : World) : Calls Tryz.prog 28 #[.float .f64 x] w fun e w' => e = .returned (.float .f64 (fnW x)) ∧ w = w' := by
 have CF := fun w => fit_any x hx w
 by_cases h : fitB x = true
 · have e : fnW x = x := by unfold fnW; rw [if_pos h]
   rw [e]
   rw [h] at CF
   clear h e hx
   go_enter Tryz.func28, Tryz.ntmps28
   go_wp2_with (go_at_call 54; ((with_reducible refine (CF _).mono ?_); rintro e w' ⟨rfl, rfl⟩))
   go_ret
   exact ⟨rfl, rfl⟩
 · have e : fnW x = 0 := by unfold fnW; rw [if_neg h]
   rw [e]
   rw [Bool.not_eq_true] at h
   rw [h] at CF
   clear h e hx
   go_enter Tryz.func28, Tryz.ntmps28
   go_wp2_with (go_at_call 54; ((with_reducible refine (CF _).mono ?_); rintro e w' ⟨rfl, rfl⟩))
   go_ret
   exact ⟨rfl, rfl⟩
theorem wsuref_run (x : Nat) (k : Int) (w : World) : Calls Tryz.prog 52 #[.float .f64 x, .int .i64 k] w fun e w' => e = .returned (.float .f64 x) ∧ w = w' := by
 go_enter Tryz.func52, Tryz.ntmps52
 go_wp2_with fail
 go_ret
 exact ⟨rfl, rfl⟩
theorem wcos_run {x : Nat} (hx : x < 18446744073709551616) (h : errA x = 0) (w : World) : Calls Tryz.prog 53 #[.float .f64 x] w fun e w' => e = .returned (.tuple #[.float .f64 (tC x), .int .i64 0]) ∧ Below w.heap.size w w' := by
 obtain ⟨s, c, T, C⟩ := uboth_ok hx h
 rw [(tS_eq T).2]
 exact ucos_run (Lib.hid C) w
end Go.Proofs.YtgnofnjbmiepjaaGreat

namespace Go.Proofs.YtgnofnjbmiepjaaGreat
open Go.ChangeShapes Go.WideShapes Go.ChangeAt Go.RowKit Ieee.Own Pol

theorem mulA {a b i j k : Nat} (ha : FinW a) (hb : FinW b) (xa : (V a).natAbs ≤ 2 ^ i) (xb : (V b).natAbs ≤ 2 ^ j) (e : i + j = k + 1074) (hk : k < 2098) :
 Ieee.double.mul a b = some (mX a b) ∧ FinW (mX a b) ∧ V (mX a b) = RZ (V a * V b) ∧ (V (mX a b)).natAbs ≤ 2 ^ k := by
 obtain ⟨r, h1, h2, h3, h4⟩ := mulB ha hb xa xb e hk
 have e : mX a b = r := by unfold mX; rw [h1]; rfl
 rw [e]; exact ⟨h1, h2, h3, h4⟩
theorem addA {a b k : Nat} (ha : FinW a) (hb : FinW b) (xa : (V a).natAbs ≤ 2 ^ k) (xb : (V b).natAbs ≤ 2 ^ k) (hk : k < 2000) :
 Ieee.double.add a b = some (aX a b) ∧ FinW (aX a b) ∧ V (aX a b) = RN (V a + V b) ∧ (V (aX a b)).natAbs ≤ 2 ^ (k + 1) := by
 obtain ⟨r, h1, h2, h3, h4⟩ := addW ha hb xa xb hk
 have e : aX a b = r := by unfold aX; rw [h1]; rfl
 rw [e]; exact ⟨h1, h2, h3, h4⟩
def p16 : Nat := 4679240012837945344
def ageW (d : Nat) : Nat := qX d p16
structure AgeOk (d : Nat) : Prop where
 run : Ieee.double.div d p16 = some (ageW d)
 fin : FinW (ageW d)
 v : V (ageW d) * 2 ^ 16 = V d
 abs : (V (ageW d)).natAbs ≤ 2 ^ 1082
theorem cap16 {x z : Int} {n m : Nat} (e : n = m + 16) (h : x * 2 ^ 16 = z) (hz : z.natAbs ≤ 2 ^ n) : x.natAbs ≤ 2 ^ m := by
 subst e
 rw [← h, Int.natAbs_mul, Int.natAbs_pow, show (2 : Int).natAbs = 2 from rfl, Nat.pow_add] at hz
 exact Nat.le_of_mul_le_mul_right hz (Nat.two_pow_pos 16)
theorem age_of {d : Nat} (hd : d < 18446744073709551616) (h : witB g24 d = true) : AgeOk d := by
 obtain ⟨f, g, a⟩ := wit_spec hd v24 h
 by_cases z : V d = 0
 · obtain ⟨r, h1, h2, h3⟩ := div_zero (b := p16) f z (by unfold FinW p16; omega) (by decide +kernel)
   have e : ageW d = r := by unfold ageW qX; rw [h1]; rfl
   refine ⟨by rw [e]; exact h1, by rw [e]; exact h2, by rw [e, h3, z]; decide, by rw [e, h3]; exact Nat.zero_le _⟩
 · have lo := (fit_big f g).resolve_left z
   obtain ⟨r, h1, h2, h3⟩ := div_pow (j := 16) (D := p16) (by decide) f lo (abs_up (k := 1098) (l := 1500) a (by omega)) (by omega)
   have e : ageW d = r := by unfold ageW qX; rw [h1]; rfl
   rw [← e] at h1 h2 h3
   exact ⟨h1, h2, h3, cap16 (n := 1098) (m := 1082) (by omega) h3 a⟩
def Wv.fr (f : Wv) : Fr := ⟨0, 0, f.ph, f.rt, 0, 0, 0⟩
theorem fr_w {f : Wv} (h : WvW f) : FrW f.fr := ⟨h.ph, h.rt, show (0 : Nat) < 18446744073709551616 by decide, show (0 : Nat) < 18446744073709551616 by decide, show (0 : Nat) < 18446744073709551616 by decide⟩
structure WvOk (f : Wv) : Prop where
 w : WvW f
 ax0 : 0 ≤ f.ax
 ax1 : f.ax ≤ 2
 pw0 : 0 ≤ f.pw
 pw1 : f.pw ≤ 2
 am : witB g40 f.am = true
 ph : witB g10 f.ph = true
 rt : witB g10 f.rt = true
theorem wv_ok {f : Wv} (w : WvW f) (h : mayW f = true) : WvOk f := by
 unfold mayW at h
 simp only [Bool.and_eq_true, decide_eq_true_eq] at h
 obtain ⟨a, b, c, d, e, g, k⟩ := h
 exact ⟨w, a, b, c, d, e, g, k⟩
theorem wvs_ok {L : List Wv} (hW : WvsW L) (h : chkV L = 0) : ∀ f ∈ L, WvOk f := fun f hf => wv_ok (hW f hf) (chkV_mem h f hf)
theorem WvOk.ang {f : Wv} {d : Nat} (h : WvOk f) (hd : d < 18446744073709551616) (t : witB g24 d = true) : AngA f.fr d := ang_a (fr_w h.w) hd h.ph h.rt t
theorem ang_ang {f : Fr} {d : Nat} (A : AngA f d) : Ang (angW f d) := by
 unfold angW
 by_cases h : fitB (angA f d) = true
 · rw [if_pos h]; exact ⟨A.fin, fit_822 A.fin.1 h, abs_up (k := 1110) (l := 1114) A.abs (by omega)⟩
 · rw [if_neg h]; exact zero_ang
noncomputable def cosW' (f : Wv) (d : Nat) : Nat := tC (angW f.fr d)
theorem cos_wd' {f : Wv} {d : Nat} (A : AngA f.fr d) : Wd (cosW' f d) 768 1075 := (trig_wd (ang_ang A)).2
def hg (u x : Nat) : Nat → Nat
 | 0 => x
 | k + 1 => mX (hg u x k) u
noncomputable def amc (f : Wv) (d : Nat) : Nat := mX f.am (cosW' f d)
noncomputable def hgt (f : Wv) (d : Nat) : Nat := hg (ageW d) (amc f d) f.pw.toNat
structure HgOk (f : Wv) (d : Nat) : Prop where
 run : Ieee.double.mul f.am (cosW' f d) = some (amc f d)
 v : V (amc f d) = RZ (V f.am * V (cosW' f d))
 st : ∀ k, k < 2 → Ieee.double.mul (hg (ageW d) (amc f d) k) (ageW d) = some (hg (ageW d) (amc f d) (k + 1)) ∧ V (hg (ageW d) (amc f d) (k + 1)) = RZ (V (hg (ageW d) (amc f d) k) * V (ageW d))
 fin : ∀ k, k ≤ 2 → FinW (hg (ageW d) (amc f d) k) ∧ (V (hg (ageW d) (amc f d) k)).natAbs ≤ 2 ^ 1131
theorem WvOk.amw {f : Wv} (h : WvOk f) : Wd f.am 822 1114 := wit_wd h.w.am v40 h.am
theorem hg_ok {f : Wv} {d : Nat} (h : WvOk f) (hd : d < 18446744073709551616) (t : witB g24 d = true) : HgOk f d := by
 have U := age_of hd t
 have A := h.amw
 have C := cos_wd' (h.ang hd t)
 obtain ⟨m1, m2, m3, m4⟩ := mulA (i := 1114) (j := 1075) (k := 1115) A.fin C.fin A.abs C.abs (by omega) (by omega)
 obtain ⟨n1, n2, n3, n4⟩ := mulA (i := 1115) (j := 1082) (k := 1123) m2 U.fin m4 U.abs (by omega) (by omega)
 obtain ⟨q1, q2, q3, q4⟩ := mulA (i := 1123) (j := 1082) (k := 1131) n2 U.fin n4 U.abs (by omega) (by omega)
 refine ⟨m1, m3, fun k hk => ?_, fun k hk => ?_⟩
 · have : k = 0 ∨ k = 1 := by omega
   rcases this with rfl | rfl
   · exact ⟨n1, n3⟩
   · exact ⟨q1, q3⟩
 · have : k = 0 ∨ k = 1 ∨ k = 2 := by omega
   rcases this with rfl | rfl | rfl
   · exact ⟨m2, abs_up (k := 1115) (l := 1131) m4 (by omega)⟩
   · exact ⟨n2, abs_up (k := 1123) (l := 1131) n4 (by omega)⟩
   · exact ⟨q2, q4⟩
theorem WvOk.pw {f : Wv} (h : WvOk f) : f.pw.toNat ≤ 2 ∧ f.pw = (f.pw.toNat : Int) := by
 have a := h.pw0
 have b := h.pw1
 omega
theorem hgt_fin {f : Wv} {d : Nat} (h : WvOk f) (H : HgOk f d) : FinW (hgt f d) ∧ (V (hgt f d)).natAbs ≤ 2 ^ 1131 := by
 have p := h.pw.1
 exact H.fin _ p
def putA (p : V3) (a : Int) (x : Nat) : V3 := if a = 0 then (aX p.1 x, p.2.1, p.2.2) else if a = 1 then (p.1, aX p.2.1 x, p.2.2) else (p.1, p.2.1, aX p.2.2 x)
noncomputable def sumW (d : Nat) : List Wv → V3 → V3
 | [], p => p
 | f :: L, p => sumW d L (putA p f.ax (hgt f d))
structure Sm (p : V3) (i : Nat) : Prop where
 f1 : FinW p.1
 f2 : FinW p.2.1
 f3 : FinW p.2.2
 b1 : (V p.1).natAbs ≤ 2 ^ (1131 + i)
 b2 : (V p.2.1).natAbs ≤ 2 ^ (1131 + i)
 b3 : (V p.2.2).natAbs ≤ 2 ^ (1131 + i)
theorem sm_zero : Sm z3 0 := ⟨zero_fin, zero_fin, zero_fin, by show (V 0).natAbs ≤ _; rw [V_zero]; exact Nat.zero_le _, by show (V 0).natAbs ≤ _; rw [V_zero]; exact Nat.zero_le _, by show (V 0).natAbs ≤ _; rw [V_zero]; exact Nat.zero_le _⟩
theorem up1 {x : Int} {i : Nat} (h : x.natAbs ≤ 2 ^ (1131 + i)) : x.natAbs ≤ 2 ^ (1131 + (i + 1)) := abs_up h (by omega)
theorem add_sm {s x i : Nat} (hi : i < 64) (fs : FinW s) (bs : (V s).natAbs ≤ 2 ^ (1131 + i)) (fx : FinW x) (bx : (V x).natAbs ≤ 2 ^ 1131) :
 Ieee.double.add s x = some (aX s x) ∧ FinW (aX s x) ∧ V (aX s x) = RN (V s + V x) ∧ (V (aX s x)).natAbs ≤ 2 ^ (1131 + (i + 1)) := by
 obtain ⟨h1, h2, h3, h4⟩ := addA (k := 1131 + i) fs fx bs (abs_up (k := 1131) (l := 1131 + i) bx (by omega)) (by omega)
 exact ⟨h1, h2, h3, abs_up h4 (by omega)⟩
theorem Sm.put {p : V3} {i : Nat} (h : Sm p i) (hi : i < 64) (a : Int) {x : Nat} (fx : FinW x) (bx : (V x).natAbs ≤ 2 ^ 1131) : Sm (putA p a x) (i + 1) := by
 unfold putA
 by_cases h0 : a = 0
 · rw [if_pos h0]
   obtain ⟨-, q2, -, q4⟩ := add_sm hi h.f1 h.b1 fx bx
   exact ⟨q2, h.f2, h.f3, q4, up1 h.b2, up1 h.b3⟩
 · rw [if_neg h0]
   by_cases h1 : a = 1
   · rw [if_pos h1]
     obtain ⟨-, q2, -, q4⟩ := add_sm hi h.f2 h.b2 fx bx
     exact ⟨h.f1, q2, h.f3, up1 h.b1, q4, up1 h.b3⟩
   · rw [if_neg h1]
     obtain ⟨-, q2, -, q4⟩ := add_sm hi h.f3 h.b3 fx bx
     exact ⟨h.f1, h.f2, q2, up1 h.b1, up1 h.b2, q4⟩
theorem sum_sm {d : Nat} (hd : d < 18446744073709551616) (t : witB g24 d = true) : ∀ (L : List Wv) (p : V3) (i : Nat), (∀ f ∈ L, WvOk f) → i + L.length ≤ 64 → Sm p i → Sm (sumW d L p) (i + L.length)
 | [], p, i, _, _, h => h
 | f :: L, p, i, hL, hl, h => by
   have hf := hL f (List.mem_cons_self ..)
   obtain ⟨a, b⟩ := hgt_fin hf (hg_ok hf hd t)
   have hl' : i + 1 + L.length ≤ 64 := by rw [List.length_cons] at hl; omega
   have := sum_sm hd t L _ (i + 1) (fun g hg => hL g (List.mem_cons_of_mem _ hg)) hl' (h.put (by omega) f.ax a b)
   rw [List.length_cons, show i + (L.length + 1) = i + 1 + L.length by omega]
   exact this
end Go.Proofs.YtgnofnjbmiepjaaGreat
