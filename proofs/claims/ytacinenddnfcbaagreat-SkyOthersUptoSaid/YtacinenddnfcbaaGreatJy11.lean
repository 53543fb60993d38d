/- Proved here: what the texts Hce, Hcf, Pwt, Pfn, Psm, Pho, Pnm, Hcg, Rwh prove, one behind the other. -/
import Derived.Test.YtacinenddnfcbaaGreatJy10
import Derived.Test.YtacinenddnfcbaaGreatJy8
import Derived.Test.YtacinenddnfcbaaGreatJy5
import Derived.Test.YtacinenddnfcbaaGreatJy9

set_option maxRecDepth 100000
set_option maxHeartbeats 8000000
namespace Go.Proofs.YtacinenddnfcbaaGreat
open Go.ChangeShapes Go.WideShapes Go.ChangeAt Go.RowKit Ieee.Own

theorem ih0 (a0 a1 a2 : Option Addr) (l0 l1 l2 p0 p1 p2 : Nat) (w : World) : (Instr.index 68 (.agg #[.slice a0 l0 p0, .slice a1 l1 p1, .slice a2 l2 p2]) (.int .i64 0)).run Tryz.prog w = .ok (.slice a0 l0 p0) w := by rfl
theorem ih1 (a0 a1 a2 : Option Addr) (l0 l1 l2 p0 p1 p2 : Nat) (w : World) : (Instr.index 68 (.agg #[.slice a0 l0 p0, .slice a1 l1 p1, .slice a2 l2 p2]) (.int .i64 1)).run Tryz.prog w = .ok (.slice a1 l1 p1) w := by rfl
theorem ih2 (a0 a1 a2 : Option Addr) (l0 l1 l2 p0 p1 p2 : Nat) (w : World) : (Instr.index 68 (.agg #[.slice a0 l0 p0, .slice a1 l1 p1, .slice a2 l2 p2]) (.int .i64 2)).run Tryz.prog w = .ok (.slice a2 l2 p2) w := by rfl
def mayT (L : List Nat) : Bool := decide (L.length ≤ 16) && decide (errC (L.map wideW) = 0)
theorem mayB_true {L : List Nat} (h : mayT L = true) : L.length ≤ 16 ∧ errC (L.map wideW) = 0 := by
 unfold mayT at h
 simpa using h
theorem cmay_run {v : Value} {L : List Nat} (w : World) (hw : Ws32 L) (h : FsAt w v L) :
 Calls Tryz.prog 223 #[v] w fun e w' => e = .returned (.bool (mayT L)) ∧ Below w.heap.size w w' := by
 by_cases hl : L.length ≤ 16
 · have CW := Lib.hid (cwide_run w hl hw h)
   have KC := Lib.hid (fun g w1 hA => pcheck_run (some ⟨g, 0, none⟩) L.length L.length (L.map wideW) w1 (by simp) (by omega) (ws_wide hw) hA)
   have e : mayT L = (errC (L.map wideW) == 0) := by
    unfold mayT
    rw [decide_eq_true hl, Bool.true_and]
    by_cases c : errC (L.map wideW) = 0
    · rw [c]; rfl
    · rw [decide_eq_false c]; exact (by simpa using c)
   rw [e]
   obtain ⟨ao, cap, rfl, hc, hm, hn0, ha⟩ := h
   generalize errC (L.map wideW) = k at *
   generalize L.map wideW = M at *
   generalize hn : L.length = n at *
   clear hc hm hn0 ha hw e hn
   go_enter Tryz.func223, Tryz.ntmps223
   go_wp2_with fail
   refine CW.out.mono ?_
   rintro _ w1 ⟨g, rfl, hg, hA, hb⟩
   have K := KC.out g w1 hA
   replace hb := Lib.hid hb
   clear hA hg CW KC
   go_wp2_with (go_at_call 258; ((with_reducible refine K.mono ?_); rintro e w' ⟨rfl, rfl⟩))
   go_ret
   exact ⟨rfl, hb.out⟩
 · have e : mayT L = false := by unfold mayT; rw [decide_eq_false hl]; rfl
   rw [e]
   obtain ⟨ao, cap, rfl, hc, hm, hn0, ha⟩ := h
   generalize hn : L.length = n at *
   clear hc hm hn0 ha hw e hn
   go_enter Tryz.func223, Tryz.ntmps223
   go_wp2_with fail
   go_ret
   exact ⟨rfl, Below.refl _ _⟩
def rowB (T : List (List (List Nat))) (j : Nat) : Bool := mayT (cfT T j 0) && (mayT (cfT T j 1) && mayT (cfT T j 2))
def goodT (T : List (List (List Nat))) : Bool := (List.range T.length).all fun j => rowB T j
def lowB (x : Nat) : Bool := decide (nn s10 ∧ nn x ∧ key64 s10 ≤ key64 x)
def topB (x : Nat) : Bool := decide (nn x ∧ nn m24 ∧ key64 x ≤ key64 m24)
def chkT (t : Tb) : Int := if 64 < t.rows.length then 2 else if (inM m24 t.fr && (lowB t.st && (topB t.st && goodT t.rows))) = true then 0 else 130
theorem goodT_iff {T : List (List (List Nat))} : goodT T = true ↔ ∀ j, j < T.length → rowB T j = true := by
 unfold goodT; simp [List.all_eq_true]
theorem chkT_long {t : Tb} (h : 64 < t.rows.length) : chkT t = 2 := if_pos h
theorem chkT_bad {t : Tb} (h : ¬ 64 < t.rows.length) {j : Nat} (hj : j < t.rows.length) (hg : rowB t.rows j = false) : chkT t = 130 := by
 unfold chkT
 rw [if_neg h, if_neg (fun g => by
  simp only [Bool.and_eq_true] at g
  rw [goodT_iff.1 g.2.2.2 j hj] at hg; cases hg)]
theorem chkT_step {t : Tb} (h : ¬ 64 < t.rows.length) (hg : (inM m24 t.fr && (lowB t.st && topB t.st)) = false) : chkT t = 130 := by
 unfold chkT
 rw [if_neg h, if_neg (fun g => by
  simp only [Bool.and_eq_true] at g
  rw [g.1, g.2.1, g.2.2.1] at hg; cases hg)]
theorem chkT_good {t : Tb} (h : ¬ 64 < t.rows.length) (h0 : inM m24 t.fr = true) (h1 : lowB t.st = true) (h2 : topB t.st = true) (hg : ∀ j, j < t.rows.length → rowB t.rows j = true) : chkT t = 0 := by
 unfold chkT
 rw [if_neg h, if_pos (by rw [h0, h1, h2, goodT_iff.2 hg]; rfl)]
structure TbOk (t : Tb) : Prop where
 len : t.rows.length ≤ 64
 fr : inM m24 t.fr = true
 lo : lowB t.st = true
 hi : topB t.st = true
 row : ∀ j, j < t.rows.length → rowB t.rows j = true
theorem chkT_zero {t : Tb} (h : chkT t = 0) : TbOk t := by
 unfold chkT at h
 by_cases h1 : 64 < t.rows.length
 · rw [if_pos h1] at h; omega
 · rw [if_neg h1] at h
   by_cases h2 : (inM m24 t.fr && (lowB t.st && (topB t.st && goodT t.rows))) = true
   · simp only [Bool.and_eq_true] at h2
     exact ⟨by omega, h2.1, h2.2.1, h2.2.2.1, goodT_iff.1 h2.2.2.2⟩
   · rw [if_neg h2] at h; omega
theorem ret_iH {a b : Int} (h : a = b) : Ending.returned (.int .i64 a) = .returned (.int .i64 b) := by rw [h]

theorem ccheck_run {t : Tb} (ao : Option Addr) (cap : Nat) (w : World) (hm : t.rows.length ≤ 4611686018427387904) (hW : TbW t) (ha : TbAt w ao t.rows) :
 Calls Tryz.prog 154 #[tbV t ao cap] w fun e w' => e = .returned (.int .i64 (chkT t)) ∧ Below w.heap.size w w' := by
 obtain ⟨V, hV⟩ : ∃ V, V = chkT t := ⟨_, rfl⟩
 rw [← hV]
 obtain ⟨n, hn⟩ : ∃ n, n = t.rows.length := ⟨_, rfl⟩
 unfold tbV
 rw [← hn] at hm ⊢
 have K := kv1 w 49 [.float .f64 t.fr, .float .f64 t.st, .slice ao n cap]
 simp only [objV] at K
 have k0 := (K.at_ 0 rfl).at_ 0 _ rfl
 have k1 := (K.at_ 0 rfl).at_ 1 _ rfl
 have k2 := (K.at_ 0 rfl).at_ 2 _ rfl
 replace K := Lib.hid K
 have CT := fun w => ctime_run t.fr hW.fr w
 have g1 := o_leq s10 t.st (by decide) hW.st
 have g2 := o_leq t.st m24 hW.st (by decide)
 have e1 : decide (nn s10 ∧ nn t.st ∧ key64 s10 ≤ key64 t.st) = lowB t.st := rfl
 have e2 : decide (nn t.st ∧ nn m24 ∧ key64 t.st ≤ key64 m24) = topB t.st := rfl
 rw [e1] at g1
 rw [e2] at g2
 unfold s10 at g1
 unfold m24 at g2
 by_cases hl : 64 < n
 · replace hV := Lib.hid (hV.trans (chkT_long (by omega)))
   have t1 : decide (64 < n) = true := decide_eq_true hl
   clear hn ha hW CT g1 g2 e1 e2
   go_enter Tryz.func154, Tryz.ntmps154
   go_wp2_with (go_at_call 155; ((with_reducible refine (CT _).mono ?_); rintro e w' ⟨rfl, rfl⟩))
   go_ret
   exact ⟨ret_iH hV.out.symm, K.out.old⟩
 · have t1 : decide (64 < n) = false := decide_eq_false hl
   have step : Hid ((inM m24 t.fr && (lowB t.st && topB t.st)) = false → V = 130) := fun h => hV.trans (chkT_step (by omega) h)
   clear e1 e2
   cases h0 : inM m24 t.fr with
   | false =>
     rw [h0] at CT step
     replace hV := Lib.hid (step.out rfl)
     clear step h0 hn ha hW g1 g2
     go_enter Tryz.func154, Tryz.ntmps154
     go_wp2_with (go_at_call 155; ((with_reducible refine (CT _).mono ?_); rintro e w' ⟨rfl, rfl⟩))
     go_ret
     exact ⟨ret_iH hV.out.symm, K.out.old⟩
   | true =>
     cases h1 : lowB t.st with
     | false =>
       rw [h0, h1] at step
       rw [h0] at CT
       rw [h1] at g1
       replace hV := Lib.hid (step.out rfl)
       clear step h0 h1 hn ha hW g2
       go_enter Tryz.func154, Tryz.ntmps154
       go_wp2_with (go_at_call 155; ((with_reducible refine (CT _).mono ?_); rintro e w' ⟨rfl, rfl⟩))
       go_ret
       exact ⟨ret_iH hV.out.symm, K.out.old⟩
     | true =>
       cases h2 : topB t.st with
       | false =>
         rw [h0, h1, h2] at step
         rw [h0] at CT
         rw [h1] at g1
         rw [h2] at g2
         replace hV := Lib.hid (step.out rfl)
         clear step h0 h1 h2 hn ha hW
         go_enter Tryz.func154, Tryz.ntmps154
         go_wp2_with (go_at_call 155; ((with_reducible refine (CT _).mono ?_); rintro e w' ⟨rfl, rfl⟩))
         go_ret
         exact ⟨ret_iH hV.out.symm, K.out.old⟩
       | true =>
         rw [h0] at CT
         rw [h1] at g1
         rw [h2] at g2
         have HV : Hid (V = chkT t) := Lib.hid hV
         have H3 : Hid (inM m24 t.fr = true ∧ lowB t.st = true ∧ topB t.st = true) := Lib.hid ⟨h0, h1, h2⟩
         have hws : Hid (∀ i k, Ws32 (cfT t.rows i k)) := Lib.hid hW.w
         have b1 := Lib.hid K.out.old
         clear step h0 h1 h2 hV hW
         replace hn := Lib.hid hn
         replace ha := Lib.hid ha
         go_enter Tryz.func154, Tryz.ntmps154
         go_wp2_with (go_at_call 155; ((with_reducible refine (CT _).mono ?_); rintro e w' ⟨rfl, rfl⟩))
         clear k0 k1 k2 K CT g1 g2
         go_loopw [29] (fun iv wr => ∃ i : Nat, i ≤ n ∧ iv = .int .i64 i ∧ (∀ j, j < i → rowB t.rows j = true) ∧ Below w.heap.size w wr) (fun iv _ => n - (intOf iv).toNat)
         case atStart => exact ⟨0, Nat.zero_le _, rfl, fun j hj => by omega, b1.out⟩
         case round =>
           obtain ⟨i, hi, rfl, ho, hb⟩ := hrel
           by_cases hlt : i < n
           · have hil : i < t.rows.length := by have := hn.out; omega
             obtain ⟨b, o, v0, v1, v2, rfl, hbl, c0, c1, c2, f0, f1, f2⟩ := (ha.out.on hb) i hil
             have F0 := Lib.hid f0
             have F1 := Lib.hid f1
             have F2 := Lib.hid f2
             obtain ⟨a0, p0, rfl, -⟩ := f0
             obtain ⟨a1, p1, rfl, -⟩ := f1
             obtain ⟨a2, p2, rfl, -⟩ := f2
             generalize (cfT t.rows i 0).length = l0 at *
             generalize (cfT t.rows i 1).length = l1 at *
             generalize (cfT t.rows i 2).length = l2 at *
             replace hws : Hid (∀ k, Ws32 (cfT t.rows i k)) := Lib.hid (hws.out i)
             have bad0 : Hid (∀ k, k < 3 → mayT (cfT t.rows i k) = false → V = 130) := Lib.hid fun k hk h => by
              rw [HV.out]
              refine chkT_bad (by have := hn.out; omega) hil ?_
              unfold rowB
              have : k = 0 ∨ k = 1 ∨ k = 2 := by omega
              rcases this with rfl | rfl | rfl <;> rw [h] <;> simp
             have good0 : Hid ((∀ q, q < 3 → mayT (cfT t.rows i q) = true) → ∀ j, j < i + 1 → rowB t.rows j = true) := Lib.hid fun h j hj => by
              by_cases e : j < i
              · exact ho j e
              · have e : j = i := by omega
                rw [e]
                unfold rowB
                rw [h 0 (by omega), h 1 (by omega), h 2 (by omega)]
                rfl
             have hi2 : (i : Int) < (n : Int) := by omega
             have K := (Kv.nil wr).new 68 [.slice a0 l0 p0, .slice a1 l1 p1, .slice a2 l2 p2]
             simp only [objV, List.nil_append] at K
             have d0 := (K.at_ 0 rfl).at_ 0 _ rfl
             have d1 := (K.at_ 0 rfl).at_ 1 _ rfl
             have d2 := (K.at_ 0 rfl).at_ 2 _ rfl
             have hK := Lib.hid K.old
             have hst := @fstore
             replace hb := Lib.hid hb
             clear ho hbl K
             go_wp2_with fail
             clear c0 c1 c2 d0 d1 d2
             go_loopw [34] (fun kv wr2 => ∃ k : Nat, k ≤ 3 ∧ kv = .int .i64 k ∧ (∀ q, q < k → mayT (cfT t.rows i q) = true) ∧ Below wr.heap.size wr wr2) (fun kv _ => 3 - (intOf kv).toNat)
             case atStart => exact ⟨0, by omega, rfl, fun q hq => by omega, hK.out⟩
             case round =>
             obtain ⟨k, hk, rfl, ho2, h2⟩ := hrel
             have hk' : k = 0 ∨ k = 1 ∨ k = 2 ∨ k = 3 := by omega
             rcases hk' with hk' | hk' | hk' | hk'
             · obtain rfl : k = 0 := by omega
               have ix := fun w => ih0 a0 a1 a2 l0 l1 l2 p0 p1 p2 w
               have M := cmay_run wr (hws.out 0) (F0.out.on h2)
               have h2' := Lib.hid h2
               have bad : Hid (mayT (cfT t.rows i 0) = false → V = 130) := fun h => bad0.out 0 (by omega) h
               have good : Hid (mayT (cfT t.rows i 0) = true → ∀ q, q < 0 + 1 → mayT (cfT t.rows i q) = true) := fun h q hq => by
                by_cases e : q < 0
                · exact ho2 q e
                · have e : q = 0 := by omega
                  rw [e]; exact h
               generalize mayT (cfT t.rows i 0) = mb at *
               replace M := Lib.hid M
               clear h2 ho2
               cases mb with
               | true =>
                 replace good := Lib.hid (good.out rfl)
                 clear bad
                 go_wp2_with fail
                 refine M.out.mono ?_
                 rintro _ w4 ⟨rfl, hb4⟩
                 have hN := Lib.hid (h2'.out.trans (hb4.mono h2'.out.size))
                 clear M hb4 h2'
                 go_wp2_with fail
                 go_roundw
                 case rel => exact ⟨0 + 1, by omega, by go_num, good.out, hN.out⟩
                 case measure => first | (simp [intOf]; done) | (simp [intOf]; omega)
               | false =>
                 replace bad := Lib.hid (bad.out rfl)
                 clear good
                 go_wp2_with fail
                 refine M.out.mono ?_
                 rintro _ w4 ⟨rfl, hb4⟩
                 have hN := Lib.hid (h2'.out.trans (hb4.mono h2'.out.size))
                 clear M hb4 h2'
                 go_wp2_with fail
                 go_ret
                 exact ⟨ret_iH bad.out.symm, hb.out.trans (hN.out.mono hb.out.size)⟩
             · obtain rfl : k = 1 := by omega
               have ix := fun w => ih1 a0 a1 a2 l0 l1 l2 p0 p1 p2 w
               have M := cmay_run wr (hws.out 1) (F1.out.on h2)
               have h2' := Lib.hid h2
               have bad : Hid (mayT (cfT t.rows i 1) = false → V = 130) := fun h => bad0.out 1 (by omega) h
               have good : Hid (mayT (cfT t.rows i 1) = true → ∀ q, q < 1 + 1 → mayT (cfT t.rows i q) = true) := fun h q hq => by
                by_cases e : q < 1
                · exact ho2 q e
                · have e : q = 1 := by omega
                  rw [e]; exact h
               generalize mayT (cfT t.rows i 1) = mb at *
               replace M := Lib.hid M
               clear h2 ho2
               cases mb with
               | true =>
                 replace good := Lib.hid (good.out rfl)
                 clear bad
                 go_wp2_with fail
                 refine M.out.mono ?_
                 rintro _ w4 ⟨rfl, hb4⟩
                 have hN := Lib.hid (h2'.out.trans (hb4.mono h2'.out.size))
                 clear M hb4 h2'
                 go_wp2_with fail
                 go_roundw
                 case rel => exact ⟨1 + 1, by omega, by go_num, good.out, hN.out⟩
                 case measure => first | (simp [intOf]; done) | (simp [intOf]; omega)
               | false =>
                 replace bad := Lib.hid (bad.out rfl)
                 clear good
                 go_wp2_with fail
                 refine M.out.mono ?_
                 rintro _ w4 ⟨rfl, hb4⟩
                 have hN := Lib.hid (h2'.out.trans (hb4.mono h2'.out.size))
                 clear M hb4 h2'
                 go_wp2_with fail
                 go_ret
                 exact ⟨ret_iH bad.out.symm, hb.out.trans (hN.out.mono hb.out.size)⟩
             · obtain rfl : k = 2 := by omega
               have ix := fun w => ih2 a0 a1 a2 l0 l1 l2 p0 p1 p2 w
               have M := cmay_run wr (hws.out 2) (F2.out.on h2)
               have h2' := Lib.hid h2
               have bad : Hid (mayT (cfT t.rows i 2) = false → V = 130) := fun h => bad0.out 2 (by omega) h
               have good : Hid (mayT (cfT t.rows i 2) = true → ∀ q, q < 2 + 1 → mayT (cfT t.rows i q) = true) := fun h q hq => by
                by_cases e : q < 2
                · exact ho2 q e
                · have e : q = 2 := by omega
                  rw [e]; exact h
               generalize mayT (cfT t.rows i 2) = mb at *
               replace M := Lib.hid M
               clear h2 ho2
               cases mb with
               | true =>
                 replace good := Lib.hid (good.out rfl)
                 clear bad
                 go_wp2_with fail
                 refine M.out.mono ?_
                 rintro _ w4 ⟨rfl, hb4⟩
                 have hN := Lib.hid (h2'.out.trans (hb4.mono h2'.out.size))
                 clear M hb4 h2'
                 go_wp2_with fail
                 go_roundw
                 case rel => exact ⟨2 + 1, by omega, by go_num, good.out, hN.out⟩
                 case measure => first | (simp [intOf]; done) | (simp [intOf]; omega)
               | false =>
                 replace bad := Lib.hid (bad.out rfl)
                 clear good
                 go_wp2_with fail
                 refine M.out.mono ?_
                 rintro _ w4 ⟨rfl, hb4⟩
                 have hN := Lib.hid (h2'.out.trans (hb4.mono h2'.out.size))
                 clear M hb4 h2'
                 go_wp2_with fail
                 go_ret
                 exact ⟨ret_iH bad.out.symm, hb.out.trans (hN.out.mono hb.out.size)⟩
             · obtain rfl : k = 3 := by omega
               have G := Lib.hid (good0.out ho2)
               have hN := Lib.hid (hb.out.trans (h2.mono hb.out.size))
               clear ho2 h2
               go_wp2_with fail
               go_roundw
               case rel => exact ⟨i + 1, hlt, by go_num, G.out, hN.out⟩
               case measure => simp [intOf]; omega
           · obtain rfl : i = n := by omega
             have hv : Hid (V = 0) := Lib.hid (by
              rw [HV.out]
              exact chkT_good (by have := hn.out; omega) H3.out.1 H3.out.2.1 H3.out.2.2 (fun j hj => ho j (by have := hn.out; omega)))
             replace hb := Lib.hid hb
             clear ho
             go_wp2_with fail
             go_ret
             exact ⟨ret_iH hv.out.symm, hb.out⟩
end Go.Proofs.YtacinenddnfcbaaGreat

namespace Go.Proofs.YtacinenddnfcbaaGreat
open Go.ChangeShapes Go.WideShapes Go.ChangeAt Go.RowKit Ieee.Own

def twoW : Nat := 4611686018427387904
def moneW : Nat := 13830554455654793216
theorem twoW_V : FinW twoW ∧ V twoW = 2 * 2 ^ 1074 := ⟨by unfold FinW twoW; omega, by decide +kernel⟩
theorem oneW_V : FinW oneW ∧ V oneW = 2 ^ 1074 := ⟨by unfold FinW oneW; omega, by decide +kernel⟩
theorem moneW_V : FinW moneW ∧ V moneW = -2 ^ 1074 := ⟨by unfold FinW moneW; omega, by decide +kernel⟩
theorem oneW_ne : V oneW ≠ 0 := by decide +kernel
theorem m24_V : val 52 m24 = 2 ^ 1098 := by decide +kernel
theorem le_key {a b : Nat} (fa : FinW a) (fb : FinW b) (h : key64 a ≤ key64 b) : V a ≤ V b := by
 have g := o_leq a b fa.1 fb.1
 have l := le_words fa fb
 have e : decide (nn a ∧ nn b ∧ key64 a ≤ key64 b) = decide (V a ≤ V b) := g.symm.trans l
 rw [decide_eq_true (⟨fin_nn fa, fin_nn fb, h⟩ : nn a ∧ nn b ∧ key64 a ≤ key64 b)] at e
 exact of_decide_eq_true e.symm
structure StOk (x : Nat) : Prop where
 fin : FinW x
 lo : 2 ^ 1064 ≤ V x
 hi : V x ≤ 2 ^ 1098
theorem st_ok {x : Nat} (hx : x < 18446744073709551616) (h1 : lowB x = true) (h2 : topB x = true) : StOk x := by
 have a := of_decide_eq_true h1
 have b := of_decide_eq_true h2
 have ks : key64 s10 = 4562146422526312448 := by decide
 have km : key64 m24 = 4715268809856909312 := by decide
 have kx : key64 x = if x < 9223372036854775808 then (x : Int) else 9223372036854775808 - (x : Int) := rfl
 have fin : FinW x := by
  unfold FinW
  rw [ks] at a
  rw [km] at b
  split at kx <;> omega
 have f1 : FinW s10 := by unfold FinW s10; omega
 have f2 : FinW m24 := by unfold FinW m24; omega
 have v1 : V s10 = 2 ^ 1064 := by decide +kernel
 have v2 : V m24 = 2 ^ 1098 := by decide +kernel
 have l := le_key f1 fin a.2.2
 have u := le_key fin f2 b.2.2
 rw [v1] at l
 rw [v2] at u
 exact ⟨fin, l, u⟩
theorem nat_pow {z : Int} {k : Nat} (h : 2 ^ k ≤ z) : 2 ^ k ≤ z.natAbs := by
 have := two_cast k
 omega
theorem nat_cap {z : Int} {k : Nat} (h0 : 0 ≤ z) (h : z ≤ 2 ^ k) : z.natAbs ≤ 2 ^ k := by
 have := two_cast k
 omega
theorem pow1 (k : Nat) : (0 : Int) < 2 ^ k := Int.pow_pos (by decide)
theorem st_norm {x : Nat} (S : StOk x) : ∃ m q, Norm x false m q ∧ 1011 ≤ q ∧ q ≤ 1046 := by
 have p0 := pow1 1064
 have l := nat_pow S.lo
 have u := nat_cap (z := V x) (by have := S.lo; omega) S.hi
 obtain ⟨s, m, p, N⟩ := is_norm S.fin l (by omega)
 obtain ⟨p1, p2⟩ := norm_pl N l u (by omega) (by omega)
 have et : s = false := by
  cases s
  · rfl
  · have v := N.val
    have g := (sv_sign true m p).1 rfl
    have := S.lo
    omega
 subst et
 exact ⟨m, p, N, by omega, by omega⟩
def yH (t : Tb) (d : Nat) : Nat := qX (lX d t.fr) t.st
structure TmOk (d : Nat) : Prop where
 fin : FinW d
 dvd : (2 : Int) ^ 822 ∣ V d
 abs : (V d).natAbs ≤ 2 ^ 1098
theorem tm_ok {d : Nat} (hd : d < 18446744073709551616) (h : inM m24 d = true) : TmOk d := by
 obtain ⟨a, b, c⟩ := inM_bd hd h
 rw [m24_V] at c
 exact ⟨a, fit_822 hd b, c⟩
structure YOk (t : Tb) (d : Nat) : Prop where
 s : Ieee.double.sub d t.fr = some (lX d t.fr)
 v : V (lX d t.fr) = RN (V d - V t.fr)
 nm : NmOk (lX d t.fr)
 q : Ieee.double.div (lX d t.fr) t.st = some (yH t d)
 fin : FinW (yH t d)
 abs : (V (yH t d)).natAbs ≤ 2 ^ 1126
theorem abs_shift {a : Int} {j k : Nat} (ha : a.natAbs ≤ 2 ^ j) : (a * 2 ^ k).natAbs ≤ 2 ^ (j + k) := by
 rw [Int.natAbs_mul, Int.natAbs_pow, Nat.pow_add]
 exact Nat.mul_le_mul_right _ ha
theorem abs_quo {a y n : Int} {i j : Nat} (hn : 2 ^ i ≤ n) (ha : a.natAbs ≤ 2 ^ j) (h : 2 ^ 53 * (y * n - a * 2 ^ 1074).natAbs ≤ (y * n).natAbs) {k : Nat} (hk : j + 1075 ≤ i + k) : y.natAbs ≤ 2 ^ k := by
 have hn' := nat_pow hn
 rw [Int.natAbs_mul] at h
 have e : (a * 2 ^ 1074).natAbs ≤ 2 ^ (j + 1074) := abs_shift ha
 have b : y.natAbs * n.natAbs ≤ 2 * 2 ^ (j + 1074) := by
  have k1 : (y * n).natAbs ≤ (y * n - a * 2 ^ 1074).natAbs + (a * 2 ^ 1074).natAbs := by omega
  rw [Int.natAbs_mul] at k1
  generalize y.natAbs * n.natAbs = A at *
  generalize (y * n - a * 2 ^ 1074).natAbs = B at *
  generalize (a * 2 ^ 1074).natAbs = C at *
  omega
 have c : y.natAbs * 2 ^ i ≤ 2 ^ (j + 1075) := by
  have := Nat.mul_le_mul_left y.natAbs hn'
  rw [show j + 1075 = j + 1074 + 1 by omega, Nat.pow_succ]
  omega
 have d : 2 ^ (j + 1075) ≤ 2 ^ (i + k) := two_le hk
 rw [Nat.pow_add 2 i k, Nat.mul_comm (2 ^ i)] at d
 exact Nat.le_of_mul_le_mul_right (Nat.le_trans c d) (Nat.two_pow_pos i)
theorem y_ok {t : Tb} {d : Nat} (K : TbOk t) (hW : TbW t) (hd : d < 18446744073709551616) (hm : inM m24 d = true) : YOk t d := by
 have D := tm_ok hd hm
 have F := tm_ok hW.fr K.fr
 have S := st_ok hW.st K.lo K.hi
 obtain ⟨s1, s2, s3, s4⟩ := sub_ok (i := 1098) (k := 1099) D.fin F.fin D.abs F.abs (by omega) (by omega)
 have W : Wd (lX d t.fr) 822 1140 := ⟨s2, by rw [s3]; exact RN_dvd (Int.dvd_sub D.dvd F.dvd), abs_up (k := 1099) (l := 1140) s4 (by omega)⟩
 have nm : NmOk (lX d t.fr) := ⟨s2, wd_norm W⟩
 obtain ⟨m, q, N, n1, n2⟩ := st_norm S
 obtain ⟨q1, q2, q3⟩ := div_norm s2 (wd_norm W) N (by omega) (by omega)
 exact ⟨s1, s3, nm, q1, q2, abs_quo (i := 1064) (j := 1099) (k := 1126) S.lo s4 q3 (by omega)⟩
def fH (y : Nat) : Nat := lX (mX (lX y (wholeW .down y)) twoW) oneW
structure FOk (y : Nat) : Prop where
 wf : FinW (wholeW .down y)
 wv : V (wholeW .down y) = V y / 2 ^ 1074 * 2 ^ 1074
 s : Ieee.double.sub y (wholeW .down y) = some (lX y (wholeW .down y))
 sf : FinW (lX y (wholeW .down y))
 sv : V (lX y (wholeW .down y)) = RN (V y - V y / 2 ^ 1074 * 2 ^ 1074)
 m : Ieee.double.mul (lX y (wholeW .down y)) twoW = some (mX (lX y (wholeW .down y)) twoW)
 mv : V (mX (lX y (wholeW .down y)) twoW) = RN (2 * V (lX y (wholeW .down y)))
 l : Ieee.double.sub (mX (lX y (wholeW .down y)) twoW) oneW = some (fH y)
 v : V (fH y) = RN (V (mX (lX y (wholeW .down y)) twoW) - 2 ^ 1074)
 nz : Nz (fH y)
 lo : -2 ^ 1074 ≤ V (fH y)
 hi : V (fH y) ≤ 2 ^ 1074
theorem rep_one : Rep (2 ^ 1074 : Int) := by have := Rep_V oneW; rwa [oneW_V.2] at this
theorem rep_two : Rep (2 * 2 ^ 1074 : Int) := by have := Rep_V twoW; rwa [twoW_V.2] at this
theorem f_step {U y r s m v : Int} (hU : 0 < U) (r1 : Rep U) (r2 : Rep (2 * U)) (r3 : Rep (-U)) (hr : r = y - y / U * U) (hs : s = RN r) (hm : m = RN (2 * s)) (hv : v = RN (m - U)) :
 0 ≤ s ∧ s ≤ U ∧ 0 ≤ m ∧ m ≤ 2 * U ∧ -U ≤ v ∧ v ≤ U := by
 have h1 := Int.emod_nonneg y (show U ≠ 0 by omega)
 have h2 := Int.emod_lt_of_pos y hU
 have h3 := Int.mul_ediv_add_emod y U
 have e : r = y % U := by rw [hr, Int.mul_comm]; omega
 have s0 : 0 ≤ s := by rw [hs]; exact (RN_sign _).1 (by omega)
 have s1 : s ≤ U := by
  have := RN_mono (x := r) (y := U) (by omega)
  rw [RN_exact r1] at this
  omega
 have m0 : 0 ≤ m := by rw [hm]; exact (RN_sign _).1 (by omega)
 have m1 : m ≤ 2 * U := by
  have := RN_mono (x := 2 * s) (y := 2 * U) (by omega)
  rw [RN_exact r2] at this
  omega
 have v0 : -U ≤ v := by
  have := RN_mono (x := -U) (y := m - U) (by omega)
  rw [RN_exact r3] at this
  omega
 have v1 : v ≤ U := by
  have := RN_mono (x := m - U) (y := U) (by omega)
  rw [RN_exact r1] at this
  omega
 exact ⟨s0, s1, m0, m1, v0, v1⟩
theorem floor_abs {y U : Int} {B : Nat} (hU : 0 < U) (h0 : 0 ≤ y) (h : y.natAbs ≤ B) : (y / U * U).natAbs ≤ B := by
 have h1 := Int.emod_nonneg y (show U ≠ 0 by omega)
 have h3 := Int.mul_ediv_add_emod y U
 rw [Int.mul_comm] at h3
 have h4 : 0 ≤ y / U * U := Int.mul_nonneg (Int.ediv_nonneg h0 (by omega)) (by omega)
 omega
theorem one_self : Ieee.double.sub oneW oneW = some 0 := sub_self oneW_V.1
theorem dbl_le {z : Int} {k l : Nat} (e : l = k + 1) (h : z.natAbs ≤ 2 ^ k) : (2 * z).natAbs ≤ 2 ^ l := by
 subst e
 rw [Int.natAbs_mul, Nat.pow_succ]
 have e : (2 : Int).natAbs = 2 := rfl
 rw [e]
 omega
theorem cap_dbl {x : Int} {k l : Nat} (e : l = k + 1) (h0 : 0 ≤ x) (h : x ≤ 2 * 2 ^ k) : x.natAbs ≤ 2 ^ l := by
 subst e
 have := two_cast k
 rw [Nat.pow_succ]
 omega
theorem f_ok {y : Nat} (fy : FinW y) (by_ : (V y).natAbs ≤ 2 ^ 1126) (h0 : 0 ≤ V y) : FOk y := by
 obtain ⟨wf, wv⟩ := floor_spec fy by_
 have U0 := pow1 1074
 have r3 : Rep (-2 ^ 1074 : Int) := by have := Rep_V moneW; rwa [moneW_V.2] at this
 have fl := f_step U0 rep_one rep_two r3 (y := V y) rfl rfl rfl rfl
 have wb : (V (wholeW .down y)).natAbs ≤ 2 ^ 1126 := by
  rw [wv]
  exact floor_abs U0 h0 by_
 obtain ⟨s1, s2, s3, -⟩ := sub_ok (i := 1126) (k := 1127) fy wf by_ wb (by omega) (by omega)
 rw [wv] at s3
 have sb : (V (lX y (wholeW .down y))).natAbs ≤ 2 ^ 1074 := nat_cap (k := 1074) (by rw [s3]; exact fl.1) (by rw [s3]; exact fl.2.1)
 have hN : V (lX y (wholeW .down y)) * V twoW = (2 * V (lX y (wholeW .down y))) * 2 ^ 1074 := by
  rw [twoW_V.2, ← Int.mul_assoc, Int.mul_comm _ 2]
 have hb : (2 * V (lX y (wholeW .down y))).natAbs ≤ 2 ^ 1075 := dbl_le (k := 1074) (l := 1075) (by omega) sb
 obtain ⟨r, m1, m2, m3⟩ := mulW s2 twoW_V.1 hN hb (by omega)
 have er : mX (lX y (wholeW .down y)) twoW = r := by unfold mX; rw [m1]; rfl
 rw [← er] at m1 m2 m3
 rw [← s3, ← m3] at fl
 have mb : (V (mX (lX y (wholeW .down y)) twoW)).natAbs ≤ 2 ^ 1075 := cap_dbl (k := 1074) (l := 1075) (by omega) fl.2.2.1 fl.2.2.2.1
 have ob : (V oneW).natAbs ≤ 2 ^ 1075 := by decide +kernel
 obtain ⟨l1, l2, l3, -⟩ := sub_ok (i := 1075) (k := 1076) m2 oneW_V.1 mb ob (by omega) (by omega)
 rw [oneW_V.2] at l3
 have nz : Nz (fH y) := by
  by_cases z : V (fH y) = 0
  · have e : V (mX (lX y (wholeW .down y)) twoW) = V oneW := by
        have k : RN (V (mX (lX y (wholeW .down y)) twoW) - 2 ^ 1074) = 0 := l3.symm.trans z
        have := RN_zero_iff k
        rw [oneW_V.2]; omega
    have e2 := V_pos_eq m2 oneW_V.1 e (by rw [e]; exact oneW_ne)
    have e3 : fH y = 0 := by
        show lX (mX (lX y (wholeW .down y)) twoW) oneW = 0
        rw [e2]
        unfold lX
        rw [one_self]; rfl
    rw [e3]
    exact ⟨zero_fin, by omega⟩
  · exact Nz.of l2 z
 have e4 : V (fH y) = RN (V (mX (lX y (wholeW .down y)) twoW) - 2 ^ 1074) := l3
 exact ⟨wf, wv, s1, s2, s3, m1, m3, l1, e4, nz, by rw [e4]; exact fl.2.2.2.2.1, by rw [e4]; exact fl.2.2.2.2.2⟩
theorem bg_fin {x : Nat} (h : FinW x) : FinW (bgW x) := by unfold bgW; split; exact h; exact zero_fin
theorem bg_fit (x : Nat) : fitB (bgW x) = true := by
 unfold bgW
 by_cases h : fitB x = true
 · rw [if_pos h]; exact h
 · rw [if_neg h]; decide
theorem bg_nz {x : Nat} (h : Nz x) : Nz (bgW x) := by
 unfold bgW
 by_cases c : fitB x = true
 · rw [if_pos c]; exact h
 · rw [if_neg c]; exact ⟨zero_fin, by omega⟩
theorem most1200 : ((2 ^ 1200 : Nat) : Int) ≤ mostV := by decide +kernel
theorem bg_cases {x : Nat} (h : FinW x) (b : (V x).natAbs ≤ 2 ^ 1200) : V (bgW x) = V x ∨ (V (bgW x) = 0 ∧ ((V x).natAbs : Int) < leastV) := by
 unfold bgW
 by_cases c : fitB x = true
 · rw [if_pos c]; exact .inl rfl
 · rw [if_neg c]
   rw [fit_iff h] at c
   have := most1200
   by_cases z : V x = 0
   · left; rw [z]; exact V_zero
   · right
     exact ⟨V_zero, by
       by_cases q : leastV ≤ ((V x).natAbs : Int)
       · exact absurd (.inr ⟨q, by omega⟩) c
       · omega⟩
def plc (t : Tb) (d : Nat) : Nat × Nat :=
 if V (yH t d) ≤ 0 then (0, moneW) else if (t.rows.length : Int) * 2 ^ 1074 ≤ V (yH t d) then (t.rows.length - 1, oneW) else ((V (yH t d) / 2 ^ 1074).toNat, bgW (fH (yH t d)))
theorem plc_one {t : Tb} {d : Nat} (h : V (yH t d) ≤ 0) : plc t d = (0, moneW) := if_pos h
theorem plc_two {t : Tb} {d : Nat} (h : ¬ V (yH t d) ≤ 0) (h2 : (t.rows.length : Int) * 2 ^ 1074 ≤ V (yH t d)) : plc t d = (t.rows.length - 1, oneW) := by unfold plc; rw [if_neg h, if_pos h2]
theorem plc_three {t : Tb} {d : Nat} (h : ¬ V (yH t d) ≤ 0) (h2 : ¬ (t.rows.length : Int) * 2 ^ 1074 ≤ V (yH t d)) : plc t d = ((V (yH t d) / 2 ^ 1074).toNat, bgW (fH (yH t d))) := by unfold plc; rw [if_neg h, if_neg h2]
theorem one_fit : fitB oneW = true := by decide +kernel
structure PlOk (t : Tb) (p : Nat × Nat) : Prop where
 row : p.1 < t.rows.length
 nz : Nz p.2
 fit : fitB p.2 = true
 lo : -2 ^ 1074 ≤ V p.2
 hi : V p.2 ≤ 2 ^ 1074
theorem floor_lt {y U n : Int} (hU : 0 < U) (h0 : 0 ≤ y) (h : ¬ n * U ≤ y) : 0 ≤ y / U ∧ y / U < n := by
 refine ⟨Int.ediv_nonneg h0 (by omega), Int.ediv_lt_of_lt_mul hU (by omega)⟩
theorem toNat_lt {q : Int} {n : Nat} (h : 0 ≤ q) (g : q < n) : q.toNat < n := by omega
theorem bound_up {k : Nat} {z : Int} (h1 : -2 ^ k ≤ z) (h2 : z ≤ 2 ^ k) : z.natAbs ≤ 2 ^ k := by
 have := two_cast k
 omega
theorem pl_ok {t : Tb} {d : Nat} (Y : YOk t d) (hn : 0 < t.rows.length) : PlOk t (plc t d) := by
 have U0 := pow1 1074
 by_cases h : V (yH t d) ≤ 0
 · rw [plc_one h]
   refine ⟨hn, Nz.of moneW_V.1 (by decide +kernel), by decide +kernel, ?_, ?_⟩
   · show -2 ^ 1074 ≤ V moneW; rw [moneW_V.2]; exact Int.le_refl _
   · show V moneW ≤ 2 ^ 1074; rw [moneW_V.2]; omega
 · by_cases h2 : (t.rows.length : Int) * 2 ^ 1074 ≤ V (yH t d)
   · rw [plc_two h h2]
     refine ⟨by show t.rows.length - 1 < _; omega, Nz.of oneW_V.1 oneW_ne, one_fit, ?_, ?_⟩
     · show -2 ^ 1074 ≤ V oneW; rw [oneW_V.2]; omega
     · show V oneW ≤ 2 ^ 1074; rw [oneW_V.2]; exact Int.le_refl _
   · rw [plc_three h h2]
     have F := f_ok Y.fin Y.abs (by omega)
     have fl := floor_lt U0 (show 0 ≤ V (yH t d) by omega) h2
     have b := bound_up F.lo F.hi
     have c := bg_cases F.nz.fin (abs_up (k := 1074) (l := 1200) b (by omega))
     refine ⟨by show (V (yH t d) / 2 ^ 1074).toNat < _; exact toNat_lt fl.1 fl.2, bg_nz F.nz, bg_fit _, ?_, ?_⟩
     · show -2 ^ 1074 ≤ V (bgW _)
       have := F.lo
       rcases c with c | ⟨c, -⟩ <;> rw [c] <;> omega
     · show V (bgW _) ≤ 2 ^ 1074
       have := F.hi
       rcases c with c | ⟨c, -⟩ <;> rw [c] <;> omega
end Go.Proofs.YtacinenddnfcbaaGreat

namespace Pol
open Go.Proofs.YtacinenddnfcbaaGreat
end Pol
namespace Go.Proofs.YtacinenddnfcbaaGreat
open Go.ChangeShapes Go.WideShapes Go.ChangeAt Go.RowKit Ieee.Own Pol

end Go.Proofs.YtacinenddnfcbaaGreat

namespace Ieee.Own
end Ieee.Own
namespace Go.Proofs.YtacinenddnfcbaaGreat
open Go.ChangeShapes Go.WideShapes Go.ChangeAt Go.RowKit Ieee.Own Pol

theorem exact_q {Q m u : Nat} (hu : u = 52 ∨ u = 53) (h1 : 2 * (Q * 2 ^ 52) ≤ 2 * (m * 2 ^ u) + 2 ^ 52) (h2 : 2 * (m * 2 ^ u) ≤ 2 * (Q * 2 ^ 52) + 2 ^ 52) : Q = m * 2 ^ (u - 52) := by
 rcases hu with rfl | rfl
 · simp at *; omega
 · have : 2 ^ 53 = 2 * 2 ^ 52 := by omega
   simp at *; omega
theorem shift_down {Q m u p j : Nat} (hu : 52 ≤ u) (e : Q = m * 2 ^ (u - 52)) (h : u + j ≤ 52 + p) : Q * 2 ^ (52 + p - j - u) * 2 ^ j = m * 2 ^ p := by
 rw [e, Nat.mul_assoc, Nat.mul_assoc, ← Nat.pow_add, ← Nat.pow_add]
 congr 2; omega
theorem div_pow {b j D : Nat} (hD : D = (1023 + j) * 4503599627370496) (h : FinW b) (lo : 2 ^ 874 ≤ (V b).natAbs) (hi : (V b).natAbs ≤ 2 ^ 1500) (hj : j ≤ 60) : ∃ r, Ieee.double.div b D = some r ∧ FinW r ∧ V r * 2 ^ j = V b := by
 have N := norm_of h (norm_big h (Nat.le_trans (two_le (a := 52) (b := 874) (by omega)) lo))
 have fd : FinW D := by rw [hD]; unfold FinW; omega
 have F : Norm D false (2 ^ 52) (1022 + j) := by
  have := norm_of fd (by rw [hD]; omega)
  rwa [show decide (9223372036854775808 ≤ D) = false by rw [hD]; exact decide_eq_false (by omega), show 4503599627370496 + D % 4503599627370496 = 2 ^ 52 by rw [hD]; omega, show D % 9223372036854775808 / 4503599627370496 - 1 = 1022 + j by rw [hD]; omega] at this
 generalize decide (9223372036854775808 ≤ b) = s at N
 generalize 4503599627370496 + b % 4503599627370496 = m at N
 generalize b % 9223372036854775808 / 4503599627370496 - 1 = p at N
 have v : (V b).natAbs = m * 2 ^ p := by rw [N.val, sv_abs]
 have hp : 822 ≤ p := by
  by_cases q : 822 ≤ p
  · exact q
  · exfalso
    rw [v] at lo
    have a1 : m * 2 ^ p < 2 ^ 53 * 2 ^ p := Nat.mul_lt_mul_of_pos_right N.hi (Nat.two_pow_pos p)
    rw [← Nat.pow_add] at a1
    have := two_le (a := 53 + p) (b := 874) (by omega)
    omega
 have hp2 : p ≤ 1448 := by
  by_cases q : p ≤ 1448
  · exact q
  · exfalso
    rw [v] at hi
    have a1 : 2 ^ 52 * 2 ^ p ≤ m * 2 ^ p := Nat.mul_le_mul_right _ N.lo
    rw [← Nat.pow_add] at a1
    have := two_dbl (m := 1500) (n := 52 + p) (by omega)
    have := Nat.two_pow_pos 1500
    omega
 obtain ⟨r, Q, u, h1, h2, h3, u1, u2, q1, q2, q3, q4⟩ := div_spec N F (by omega) (by omega)
 refine ⟨r, h1, h2, ?_⟩
 have e := exact_q (by omega) q3 q4
 have k := shift_down (p := p) (j := j) u1 e (by omega)
 have e2 : 1074 + p - (1022 + j) - u = 52 + p - j - u := by omega
 rw [h3, e2, N.val]
 have sx : (s ^^ false) = s := by cases s <;> rfl
 rw [sx]
 unfold sv
 cases s
 · simp only [Bool.false_eq_true, if_false]
   rw [← k, Int.natCast_mul, Int.natCast_pow]; rfl
 · simp only [if_true]
   rw [← k, Int.natCast_mul, Int.natCast_pow, Int.neg_mul]; rfl
end Go.Proofs.YtacinenddnfcbaaGreat

namespace Go.Proofs.YtacinenddnfcbaaGreat
open Go.ChangeShapes Go.WideShapes Go.ChangeAt Go.RowKit Ieee.Own Pol

end Go.Proofs.YtacinenddnfcbaaGreat

namespace Go.Proofs.YtacinenddnfcbaaGreat
open Go.ChangeShapes Go.WideShapes Go.ChangeAt Go.RowKit Ieee.Own Pol

theorem least_pow : leastV = ((2 ^ (820 + 53 + 1) : Nat) : Int) := by decide +kernel
theorem Fc.fw {c : Nat} (h : Fc c) : Fw c := by
 have f := fit_fin h.lt h.fit
 refine ⟨⟨f, h.bd⟩, ?_⟩
 rcases (fit_iff f).1 h.fit with z | z
 · exact .inl z
 · right
   have := z.1
   rw [least_pow] at this
   exact Int.ofNat_le.1 this
end Go.Proofs.YtacinenddnfcbaaGreat

namespace Go.Proofs.YtacinenddnfcbaaGreat
open Go.ChangeShapes Go.WideShapes Go.ChangeAt Go.RowKit Ieee.Own

theorem drop_cons {L : List Nat} {k : Nat} (h : k < L.length) : L.drop k = L.getD k 0 :: L.drop (k + 1) := by
 rw [List.drop_eq_getElem_cons h]
 simp [List.getD, h]
theorem fc_cw {L : List Nat} (h : ∀ c ∈ L, Fc c) : ∀ c ∈ L, Cw c := fun c hc => (h c hc).fw.toCw
theorem mem_drop {P : Nat → Prop} {L : List Nat} (h : ∀ c ∈ L, P c) (k : Nat) : ∀ c ∈ L.drop k, P c := fun c hc => h c (List.mem_of_mem_drop hc)
theorem inM_x00 {x : Nat} (hx : x < 18446744073709551616) (h : inM m00 x = true) : FinW x ∧ (V x).natAbs ≤ 2 ^ 1074 := by
 have := inM_bd hx h
 rw [m00_V] at this
 exact ⟨this.1, this.2.2⟩
structure ClS (x : Nat) (L : List Nat) (n : Nat) : Prop where
 dbl : Ieee.double.add x x = some (aX x x)
 step : ∀ i, i < n - 1 → Cl2 x (L.getD (n - 1 - i) 0) (clW x (L.tail.drop (n - 1 - i))).1 (clW x (L.tail.drop (n - 1 - i))).2 ∧ clW x (L.tail.drop (n - 1 - (i + 1))) = (aX (lX (mX (aX x x) (clW x (L.tail.drop (n - 1 - i))).1) (clW x (L.tail.drop (n - 1 - i))).2) (L.getD (n - 1 - i) 0), (clW x (L.tail.drop (n - 1 - i))).1)
 a8 : clW x (L.tail.drop (n - 1)) = (0, 0)
 m : Ieee.double.mul x (clW x L.tail).1 = some (mX x (clW x L.tail).1)
 l : Ieee.double.sub (mX x (clW x L.tail).1) (clW x L.tail).2 = some (lX (mX x (clW x L.tail).1) (clW x L.tail).2)
 s : Ieee.double.add (lX (mX x (clW x L.tail).1) (clW x L.tail).2) (L.getD 0 0) = some (chW x L)
 p : Ieee.double.add (chW x L) 0 = some (posW (chW x L))
theorem cl_parts {x n : Nat} {L : List Nat} (fx : FinW x) (bx : (V x).natAbs ≤ 2 ^ 1074) (hc : ∀ c ∈ L, Fc c) (hn : n = L.length) (hl : n ≤ 16) (hp : 0 < n) : ClS x L n := by
 cases L with
 | nil => simp at hn; omega
 | cons c cs =>
   have e : n - 1 = cs.length := by simp at hn; omega
   obtain ⟨fa, -, -, st⟩ := ch_wd fx bx (c :: cs) (fc_cw hc) (by omega)
   obtain ⟨s1, s2, s3⟩ := st c cs rfl
   refine ⟨(dbl_wd fx bx).1, fun i hi => ?_, ?_, s1, s2, s3, pos_add fa⟩
   · rw [e] at hi ⊢
     have hc' : ∀ c ∈ cs, Cw c := fun a h => fc_cw hc a (List.mem_cons_of_mem _ h)
     obtain ⟨-, -, -, st⟩ := cl_wd fx bx (cs.drop (cs.length - 1 - i)) (mem_drop hc' _) (by simp; omega)
     have d := drop_cons (L := cs) (k := cs.length - 1 - i) (by omega)
     have g := st _ _ d
     have e1 : cs.length - 1 - i + 1 = cs.length - i := by omega
     have e2 : cs.length - (i + 1) = cs.length - 1 - i := by omega
     have e3 : (c :: cs).getD (cs.length - i) 0 = cs.getD (cs.length - 1 - i) 0 := by rw [← e1, List.getD_cons_succ]
     rw [e1] at g d
     rw [e3, e2]
     refine ⟨g, ?_⟩
     show clW x (cs.drop (cs.length - 1 - i)) = _
     rw [d]; rfl
   · rw [e]
     show clW x (cs.drop cs.length) = _
     rw [List.drop_length]; rfl

theorem pcheb_nil (ao : Option Addr) (cap n : Nat) (L : List Nat) (x : Nat) (w : World) (hn : n = L.length) (hz : n = 0) (hw : Words L) (ha : At w ao L) (hx : x < 18446744073709551616) (h0 : errX m00 L x = 0) :
 Calls Tryz.prog 186 #[.slice ao n cap, .float .f64 x] w fun e w' => e = .returned (fe 0 0) ∧ w = w' := by
 have K := checkAt_run m00 (by decide) ao cap n L x w hn (by omega) hw ha hx
 rw [h0] at K
 subst hz
 clear h0 hn hw ha hx
 unfold m00 at K
 go_enter Tryz.func186, Tryz.ntmps186
 go_wp2_with (go_at_call 240; ((with_reducible refine K.mono ?_); rintro e w' ⟨rfl, rfl⟩))
 go_ret2
 exact ⟨rfl, rfl⟩

theorem pcheb_some (ao : Option Addr) (cap n : Nat) (L : List Nat) (x : Nat) (w : World) (hn : n = L.length) (hp : 0 < n) (hw : Words L) (ha : At w ao L) (hx : x < 18446744073709551616) (hm : n ≤ 4611686018427387904) (h0 : errX m00 L x = 0) :
 Calls Tryz.prog 186 #[.slice ao n cap, .float .f64 x] w fun e w' => e = .returned (fe (posW (chW x L)) 0) ∧ w = w' := by
 have K := checkAt_run m00 (by decide) ao cap n L x w hn hm hw ha hx
 rw [h0] at K
 unfold m00 at K
 obtain ⟨hC, hX⟩ := errX_zero h0
 obtain ⟨hl16, hfc⟩ := errC_zero hw hC
 obtain ⟨fx, bx⟩ := inM_x00 hx hX
 have CS := cl_parts fx bx hfc hn (by omega) hp
 have rd := run_add _ _ _ CS.dbl
 have CS := Lib.hid CS
 replace hn := Lib.hid hn
 replace ha := Lib.hid ha
 have n16 : n ≤ 16 := by have := hn.out; omega
 have tw : IntKind.i64.wrap ((n : Int) - 1) = (n : Int) - 1 := by rw [IntKind.wrap_i64]; omega
 have tn : ((n : Int) == 0) = false := by simp; omega
 clear hw hx h0 hC hX hl16 hfc fx bx hm
 go_enter Tryz.func186, Tryz.ntmps186
 go_wp2_with (go_at_call 240; ((with_reducible refine K.mono ?_); rintro e w' ⟨rfl, rfl⟩))
 clear K
 go_loop [7, 8, 24] (fun bv dv iv => ∃ i : Nat, i ≤ n - 1 ∧ iv = .int .i64 i ∧ bv = .float .f64 (clW x (L.tail.drop (n - 1 - i))).1 ∧ dv = .float .f64 (clW x (L.tail.drop (n - 1 - i))).2) (fun _ _ iv => n - 1 - (intOf iv).toNat)
 case atStart => exact ⟨0, Nat.zero_le _, rfl, by rw [Nat.sub_zero, CS.out.a8], by rw [Nat.sub_zero, CS.out.a8]⟩
 case round =>
  obtain ⟨i, hi, rfl, rfl, rfl⟩ := hrel
  by_cases hlt : i < n - 1
  · obtain ⟨⟨r1, r2, r3⟩, nx⟩ := CS.out.step i hlt
    obtain ⟨b, o, rfl, hc⟩ := ha.out (n - 1 - i) (by have := hn.out; omega)
    have r1 := run_mul _ _ _ r1
    have r2 := run_sub _ _ _ r2
    have r3 := run_add _ _ _ r3
    have hlt' : (i : Int) < (n : Int) - 1 := by omega
    obtain ⟨u, hu⟩ : ∃ u, u = L.getD (n - 1 - i) 0 := ⟨_, rfl⟩
    rw [← hu] at hc r3 nx
    generalize (clW x (L.tail.drop (n - 1 - i))).1 = s at *
    generalize (clW x (L.tail.drop (n - 1 - i))).2 = d at *
    replace nx := Lib.hid nx
    generalize lX (mX (aX x x) s) d = l at *
    generalize mX (aX x x) s = m at *
    obtain ⟨y, hy⟩ : ∃ y, y = aX l u := ⟨_, rfl⟩
    rw [← hy] at r3 nx
    have e : IntKind.i64.wrap ((n : Int) - 1 - (i : Int)) = (n : Int) - 1 - (i : Int) := by rw [IntKind.wrap_i64]; omega
    have e0 : (i : Int) ≤ (n : Int) - 1 := by omega
    have e2 : (n : Int) - 1 - (i : Int) < (n : Int) := by omega
    have e3 : ((n : Int) - 1 - (i : Int)).toNat = n - 1 - i := by omega
    clear hu hy CS
    generalize aX x x = xx at *
    go_wp2_with fail
    go_round
    case rel => exact ⟨i + 1, by omega, by go_num, by rw [nx.out], by rw [nx.out]⟩
    case measure => simp [intOf]; omega
  · obtain rfl : i = n - 1 := by omega
    obtain ⟨b, o, rfl, hc⟩ := ha.out 0 (by have := hn.out; omega)
    have r1 := run_mul _ _ _ CS.out.m
    have r2 := run_sub _ _ _ CS.out.l
    have r3 := run_add _ _ _ CS.out.s
    have r4 := run_add _ _ _ CS.out.p
    have ei : ((n - 1 : Nat) : Int) = (n : Int) - 1 := by omega
    rw [Nat.sub_self, List.drop_zero, ei]
    rw [Nat.add_zero] at hc
    have hpi : (0 : Int) < (n : Int) := by omega
    obtain ⟨u, hu⟩ : ∃ u, u = L.getD 0 0 := ⟨_, rfl⟩
    rw [← hu] at hc r3
    generalize (clW x L.tail).1 = s at *
    generalize (clW x L.tail).2 = d at *
    generalize lX (mX x s) d = l at *
    generalize mX x s = m at *
    obtain ⟨y, hy⟩ : ∃ y, y = chW x L := ⟨_, rfl⟩
    rw [← hy] at r3 r4
    replace hy := Lib.hid hy
    clear hu CS rd
    go_wp2_with fail
    go_ret2
    exact ⟨by rw [← hy.out]; rfl, rfl⟩
theorem pcheb_ok (ao : Option Addr) (cap n : Nat) (L : List Nat) (x : Nat) (w : World) (hn : n = L.length) (hm : n ≤ 4611686018427387904) (hw : Words L) (ha : At w ao L) (hx : x < 18446744073709551616) (h0 : errX m00 L x = 0) :
 Calls Tryz.prog 186 #[.slice ao n cap, .float .f64 x] w fun e w' => e = .returned (fe (posW (chW x L)) 0) ∧ w = w' := by
 by_cases hz : n = 0
 · have := pcheb_nil ao cap n L x w hn hz hw ha hx h0
   have e : L = [] := List.eq_nil_of_length_eq_zero (by omega)
   rw [e]
   exact this
 · exact pcheb_some ao cap n L x w hn (by omega) hw ha hx hm h0

end Go.Proofs.YtacinenddnfcbaaGreat

namespace Go.Proofs.YtacinenddnfcbaaGreat
open Go.ChangeShapes Go.WideShapes Go.ChangeAt Go.RowKit Ieee.Own Pol

def rdyT (t : Tb) (b : Bool) : Int := if chkT t ≠ 0 then chkT t else if b = false ∨ t.rows.length = 0 then 80 else 0
theorem rdyT_zero {t : Tb} {b : Bool} (h : rdyT t b = 0) : chkT t = 0 ∧ b = true ∧ 0 < t.rows.length := by
 unfold rdyT at h
 by_cases c : chkT t ≠ 0
 · rw [if_pos c] at h; exact absurd h c
 · rw [if_neg c] at h
   by_cases d : b = false ∨ t.rows.length = 0
   · rw [if_pos d] at h; omega
   · refine ⟨by omega, ?_, by omega⟩
     cases b
     · exact absurd (.inl rfl) d
     · rfl
theorem cready_run {t : Tb} (b : Bool) (ao : Option Addr) (cap : Nat) (w : World) (hm : t.rows.length ≤ 4611686018427387904) (hW : TbW t) (ha : TbAt w ao t.rows) :
 Calls Tryz.prog 85 #[tbV t ao cap, .bool b] w fun e w' => e = .returned (.int .i64 (rdyT t b)) ∧ Below w.heap.size w w' := by
 have CC : Hid (∀ W, Below w.heap.size w W → Calls Tryz.prog 154 #[tbV t ao cap] W fun e w' => e = .returned (.int .i64 (chkT t)) ∧ Below W.heap.size W w') := Lib.hid fun W hb => ccheck_run ao cap W hm hW (ha.on hb)
 unfold rdyT
 unfold tbV at CC ⊢
 generalize chkT t = k at *
 clear ha hW
 obtain ⟨fr, st, R⟩ := t
 dsimp only at *
 generalize R.length = n at *
 have hst := @fstore
 have K := kv1 w 49 [.float .f64 fr, .float .f64 st, .slice ao n cap]
 simp only [objV] at K
 have k0 := (K.at_ 0 rfl).at_ 0 _ rfl
 have k1 := (K.at_ 0 rfl).at_ 1 _ rfl
 have k2 := (K.at_ 0 rfl).at_ 2 _ rfl
 replace K := Lib.hid K
 by_cases hk : k = 0
 · subst hk
   rw [if_neg (by simp)]
   cases b with
   | false =>
     rw [if_pos (.inl rfl)]
     go_enter Tryz.func85, Tryz.ntmps85
     go_wp2_with fail
     have K := K.out
     clear k0 k1 k2
     generalize w.alloc _ = wr at *
     refine (CC.out wr K.old).mono ?_
     rintro _ w1 ⟨rfl, hb⟩
     replace K := K.on hb
     clear hb CC
     have k2 := (K.at_ 0 rfl).at_ 2 _ rfl
     replace K := Lib.hid K
     go_wp2_with fail
     go_ret
     exact ⟨rfl, K.out.old⟩
   | true =>
     by_cases hn : n = 0
     · subst hn
       rw [if_pos (.inr rfl)]
       go_enter Tryz.func85, Tryz.ntmps85
       go_wp2_with fail
       have K := K.out
       clear k0 k1 k2
       generalize w.alloc _ = wr at *
       refine (CC.out wr K.old).mono ?_
       rintro _ w1 ⟨rfl, hb⟩
       replace K := K.on hb
       clear hb CC
       have k2 := (K.at_ 0 rfl).at_ 2 _ rfl
       replace K := Lib.hid K
       go_wp2_with fail
       go_ret
       exact ⟨rfl, K.out.old⟩
     · rw [if_neg (by simp [hn])]
       have t0 : ((n : Int) == 0) = false := by simp; omega
       go_enter Tryz.func85, Tryz.ntmps85
       go_wp2_with fail
       have K := K.out
       clear k0 k1 k2
       generalize w.alloc _ = wr at *
       refine (CC.out wr K.old).mono ?_
       rintro _ w1 ⟨rfl, hb⟩
       replace K := K.on hb
       clear hb CC
       have k2 := (K.at_ 0 rfl).at_ 2 _ rfl
       replace K := Lib.hid K
       go_wp2_with fail
       go_ret
       exact ⟨rfl, K.out.old⟩
 · rw [if_pos hk]
   have t0 : (k != 0) = true := by simpa using hk
   go_enter Tryz.func85, Tryz.ntmps85
   go_wp2_with fail
   have K := K.out
   clear k0 k1 k2
   generalize w.alloc _ = wr at *
   refine (CC.out wr K.old).mono ?_
   rintro _ w1 ⟨rfl, hb⟩
   replace K := K.on hb
   clear hb CC
   have k2 := (K.at_ 0 rfl).at_ 2 _ rfl
   replace K := Lib.hid K
   go_wp2_with fail
   go_ret
   exact ⟨rfl, K.out.old⟩
def plcE (p : Nat × Nat) : Value := .tuple #[.int .i64 (p.1 : Int), .float .f64 p.2]
theorem small_k {q : Int} {k n : Nat} (hk : k = q.toNat) (_h : 0 ≤ q) (g : q < n) (hn : n ≤ 64) : (k : Int).natAbs ≤ 2 ^ 62 := by omega
theorem to_nat_of {q : Int} (h : 0 ≤ q) : ((q.toNat : Nat) : Int) = q := Int.toNat_of_nonneg h
theorem conv_fl {b : Nat} {K : Int} (h : floatToIntVal .f64 b .i64 = some K) (w : World) : (convert 22 3 (.float .f64 b)).run Tryz.prog w = .ok (.int .i64 K) w :=
 run_convert_float_int w 22 3 .f64 .i64 b K (by rw [Tryz.underlying22]; rfl) Tryz.underlying3 h
theorem conv_if (n : Nat) (w : World) : (convert 3 22 (.int .i64 (n : Int))).run Tryz.prog w = .ok (.float .f64 (FloatKind.f64.nearest (n : Int))) w :=
 run_convert_int_float w 3 22 .i64 .f64 (n : Int) (by rw [Tryz.underlying3]; rfl) Tryz.underlying22
theorem cplace_run {t : Tb} {d : Nat} (ao : Option Addr) (cap : Nat) (w : World) (hn : t.rows.length ≤ 64) (h0 : 0 < t.rows.length) (Y : YOk t d) :
 Calls Tryz.prog 87 #[tbV t ao cap, .float .f64 d] w fun e w' => e = .returned (plcE (plc t d)) ∧ Below w.heap.size w w' := by
 have r1 := run_sub _ _ _ Y.s
 have r2 := run_div _ _ _ Y.q
 have l1 := le_words Y.fin zero_fin
 have U0 := pow1 1074
 obtain ⟨nf, nv⟩ := of_int (t.rows.length : Int) (by omega)
 have l2 := ge_words Y.fin nf
 rw [nv] at l2
 rw [V_zero] at l1
 have cv := fun w => conv_if t.rows.length w
 have ec : (((t.rows.length - 1 : Nat)) : Int) = (t.rows.length : Int) - 1 := by omega
 unfold tbV plcE
 by_cases c1 : V (yH t d) ≤ 0
 · rw [plc_one c1]
   rw [decide_eq_true c1] at l1
   clear l2 nf nv cv ec Y c1 hn h0
   generalize yH t d = y at *
   generalize lX d t.fr = x at *
   unfold moneW
   obtain ⟨fr, st, R⟩ := t
   dsimp only at *
   generalize R.length = n at *
   have hst := @fstore
   have K := kv1 w 49 [.float .f64 fr, .float .f64 st, .slice ao n cap]
   simp only [objV] at K
   have k0 := (K.at_ 0 rfl).at_ 0 _ rfl
   have k1 := (K.at_ 0 rfl).at_ 1 _ rfl
   have k2 := (K.at_ 0 rfl).at_ 2 _ rfl
   replace K := Lib.hid K
   go_enter Tryz.func87, Tryz.ntmps87
   go_wp2_with fail
   go_ret2
   exact ⟨rfl, K.out.old⟩
 · rw [decide_eq_false c1] at l1
   by_cases c2 : (t.rows.length : Int) * 2 ^ 1074 ≤ V (yH t d)
   · rw [plc_two c1 c2]
     rw [decide_eq_true c2] at l2
     dsimp only
     rw [ec]
     have w1 : IntKind.i64.wrap ((t.rows.length : Int) - 1) = (t.rows.length : Int) - 1 := by rw [IntKind.wrap_i64]; omega
     clear nf nv ec Y c1 c2
     generalize yH t d = y at *
     generalize lX d t.fr = x at *
     unfold oneW
     obtain ⟨fr, st, R⟩ := t
     dsimp only at *
     generalize R.length = n at *
     generalize FloatKind.f64.nearest (n : Int) = fn at *
     have hst := @fstore
     have K := kv1 w 49 [.float .f64 fr, .float .f64 st, .slice ao n cap]
     simp only [objV] at K
     have k0 := (K.at_ 0 rfl).at_ 0 _ rfl
     have k1 := (K.at_ 0 rfl).at_ 1 _ rfl
     have k2 := (K.at_ 0 rfl).at_ 2 _ rfl
     replace K := Lib.hid K
     go_enter Tryz.func87, Tryz.ntmps87
     go_wp2_with fail
     go_ret2
     exact ⟨rfl, K.out.old⟩
   · rw [plc_three c1 c2]
     rw [decide_eq_false c2] at l2
     have F := f_ok Y.fin Y.abs (by omega)
     have FL := fun w => floor_run Y.fin w
     have fl := floor_lt U0 (show 0 ≤ V (yH t d) by omega) c2
     obtain ⟨k, hk⟩ : ∃ k : Nat, k = (V (yH t d) / 2 ^ 1074).toNat := ⟨_, rfl⟩
     have ck := fun w => conv_fl (K := (k : Int)) (to_int64 F.wf (by rw [F.wv, hk, to_nat_of fl.1]) (small_k hk fl.1 fl.2 hn)) w
     have r3 := run_sub _ _ _ F.s
     have r4 := run_mul _ _ _ F.m
     have r5 := run_sub _ _ _ F.l
     have CB := fun w => cbrought_run (fH (yH t d)) F.nz.fin.1 w
     rw [← hk]
     unfold twoW at r4 r5
     unfold oneW at r5
     clear nf nv ec Y c1 c2 F fl hk
     generalize bgW (fH (yH t d)) = z at *
     generalize fH (yH t d) = z0 at *
     generalize yH t d = y at *
     generalize lX d t.fr = x at *
     generalize wholeW .down y = wy at *
     generalize lX y wy = q1 at *
     generalize mX q1 4611686018427387904 = q2 at *
     obtain ⟨fr, st, R⟩ := t
     dsimp only at *
     generalize R.length = n at *
     generalize FloatKind.f64.nearest (n : Int) = fn at *
     have hst := @fstore
     have K := kv1 w 49 [.float .f64 fr, .float .f64 st, .slice ao n cap]
     simp only [objV] at K
     have k0 := (K.at_ 0 rfl).at_ 0 _ rfl
     have k1 := (K.at_ 0 rfl).at_ 1 _ rfl
     have k2 := (K.at_ 0 rfl).at_ 2 _ rfl
     replace K := Lib.hid K
     go_enter Tryz.func87, Tryz.ntmps87
     go_wp2_with (first | (go_at_call 141; ((with_reducible refine (FL _).mono ?_); rintro e w' ⟨rfl, rfl⟩)) | (go_at_call 156; ((with_reducible refine (CB _).mono ?_); rintro e w' ⟨rfl, rfl⟩)))
     go_ret2
     exact ⟨rfl, K.out.old⟩
end Go.Proofs.YtacinenddnfcbaaGreat

namespace Go.Proofs.YtacinenddnfcbaaGreat
open Go.ChangeShapes Go.WideShapes Go.ChangeAt Go.RowKit

theorem alne {als : List Av} {k : Nat} (h : als.all (fun al => !(al.i == k)) = true) : ∀ al ∈ als, al.i ≠ k := fun al hal e => by
 have := List.all_eq_true.1 h al hal
 rw [e] at this
 simp at this
theorem pg {ds : List (Option Tmp)} {L : List (Option Value)} {a : Act} {ρ : Operand → Value} {t : Tmp} {v : Value} (k : Nat) (hA : (puts ds L a).eval = ρ) (hap : apartL ds = true) (h : ds[k]? = some (some t)) (hl : L[k]? = some (some v)) (hs : t < a.tmps.size) : ρ (.tmp t) = v := by rw [← hA]; exact puts_get k ds L a hap h hl hs
theorem po {ds : List (Option Tmp)} {L : List (Option Value)} {a : Act} {ρ : Operand → Value} {t : Tmp} (hA : (puts ds L a).eval = ρ) (h : some t ∉ ds) : ρ (.tmp t) = a.eval (.tmp t) := by rw [← hA]; exact puts_old ds L a h
theorem Kv.take {w0 w : World} {L : List (Option (Nat × List Value))} (C : Kv w0 L w) (n : Nat) : Kv w0 (L.take n) w := by
 have key : ∀ i (x : Option (Nat × List Value)), (L.take n)[i]? = some x → L[i]? = some x := fun i x h => by
  have hi := (List.getElem?_eq_some_iff.1 h).1
  rw [List.length_take] at hi
  rw [List.getElem?_take_of_lt (by omega)] at h
  exact h
 exact ⟨C.old, fun j g us h => C.blk j g us (key _ _ h), fun i j g us vs h k => C.inj i j g us vs (key _ _ h) (key _ _ k)⟩
end Go.Proofs.YtacinenddnfcbaaGreat
