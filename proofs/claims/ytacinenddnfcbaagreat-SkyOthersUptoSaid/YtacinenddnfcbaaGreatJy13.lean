/- Proved here: what the texts Frb, Frc prove, one behind the other. -/
import Derived.Test.YtacinenddnfcbaaGreatJy12

set_option maxHeartbeats 4000000
set_option maxRecDepth 100000
namespace Go.Proofs.YtacinenddnfcbaaGreat
open Go.ChangeShapes Go.WideShapes Go.ChangeAt Go.RowKit Ieee.Own

def frZ : Fr := ⟨0, 0, 0, 0, 0, 0, 0⟩
def frAt (L : List Fr) (j : Nat) : Fr := L.getD j frZ
def FAt (w : World) (ao : Option Addr) (L : List Fr) : Prop := RAt w ao 7 (L.map frC)
def FsW (L : List Fr) : Prop := ∀ f ∈ L, FrW f
theorem rows_fr (L : List Fr) : RowsOk 7 (L.map frC) := by
 refine ⟨fun r hr => ?_, fun r hr u hu => ?_⟩
 · obtain ⟨f, -, rfl⟩ := List.mem_map.1 hr; rfl
 · obtain ⟨f, -, rfl⟩ := List.mem_map.1 hr
   simp only [frC, List.mem_cons, List.not_mem_nil, or_false] at hu
   rcases hu with rfl | rfl | rfl | rfl | rfl | rfl | rfl <;> rfl
theorem fr_get {L : List Fr} {j : Nat} (h : j < L.length) : (L.map frC)[j]? = some (frC (frAt L j)) := by
 unfold frAt; simp [List.getD, h]
theorem fr_mem {L : List Fr} {j : Nat} (h : j < L.length) : frAt L j ∈ L := by
 unfold frAt
 have : L.getD j frZ = L[j] := by simp [List.getD, h]
 rw [this]; exact List.getElem_mem h
theorem FAt.cells {w : World} {ao : Option Addr} {L : List Fr} (h : FAt w ao L) {j : Nat} (hj : j < L.length) :
 ∃ b o, ao = some ⟨b, o, none⟩ ∧ b < w.heap.size ∧ w.cell? ⟨b, o + j * 7, none⟩ = some (.int .i64 (frAt L j).up) ∧ w.cell? ⟨b, o + j * 7 + 1, none⟩ = some (.int .i64 (frAt L j).ax) ∧
   w.cell? ⟨b, o + j * 7 + 2, none⟩ = some (.float .f64 (frAt L j).ph) ∧ w.cell? ⟨b, o + j * 7 + 3, none⟩ = some (.float .f64 (frAt L j).rt) ∧ w.cell? ⟨b, o + j * 7 + 4, none⟩ = some (.float .f64 (frAt L j).o1) ∧
   w.cell? ⟨b, o + j * 7 + 5, none⟩ = some (.float .f64 (frAt L j).o2) ∧ w.cell? ⟨b, o + j * 7 + 6, none⟩ = some (.float .f64 (frAt L j).o3) := by
 obtain ⟨b, o, e, hb, hc⟩ := h j _ (fr_get hj)
 exact ⟨b, o, e, hb, hc 0 _ rfl, hc 1 _ rfl, hc 2 _ rfl, hc 3 _ rfl, hc 4 _ rfl, hc 5 _ rfl, hc 6 _ rfl⟩
def goodF (L : List Fr) : Bool := (List.range L.length).all fun j => mayB (frAt L j) j
def chkF (L : List Fr) : Int := if 16 < L.length then 2 else if goodF L = true then 0 else 100
theorem goodF_iff {L : List Fr} : goodF L = true ↔ ∀ j, j < L.length → mayB (frAt L j) j = true := by
 unfold goodF; simp [List.all_eq_true]
theorem chkF_long {L : List Fr} (h : 16 < L.length) : chkF L = 2 := if_pos h
theorem chkF_bad {L : List Fr} (h : ¬ 16 < L.length) {j : Nat} (hj : j < L.length) (hg : mayB (frAt L j) j = false) : chkF L = 100 := by
 unfold chkF
 rw [if_neg h, if_neg (fun g => by rw [goodF_iff.1 g j hj] at hg; cases hg)]
theorem chkF_good {L : List Fr} (h : ¬ 16 < L.length) (hg : ∀ j, j < L.length → mayB (frAt L j) j = true) : chkF L = 0 := by
 unfold chkF
 rw [if_neg h, if_pos (goodF_iff.2 hg)]
theorem chkF_zero {L : List Fr} (h : chkF L = 0) : L.length ≤ 16 ∧ ∀ j, j < L.length → mayB (frAt L j) j = true := by
 unfold chkF at h
 by_cases h1 : 16 < L.length
 · rw [if_pos h1] at h; omega
 · rw [if_neg h1] at h
   by_cases h2 : goodF L = true
   · exact ⟨by omega, goodF_iff.1 h2⟩
   · rw [if_neg h2] at h; omega
theorem ret_iF {a b : Int} (h : a = b) : Ending.returned (.int .i64 a) = .returned (.int .i64 b) := by rw [h]
theorem fcheck_run (ao : Option Addr) (cap n : Nat) (L : List Fr) (w : World) (hn : n = L.length) (hm : n ≤ 4611686018427387904) (hW : FsW L) (ha : FAt w ao L) :
 Calls Tryz.prog 69 #[.slice ao n cap] w fun e w' => e = .returned (.int .i64 (chkF L)) ∧ Below w.heap.size w w' := by
 by_cases hl : 16 < n
 · have t1 : decide (16 < n) = true := decide_eq_true hl
   rw [chkF_long (by omega)]
   clear hn ha hW
   go_enter Tryz.func69, Tryz.ntmps69
   go_wp2_with fail
   go_ret
   exact ⟨rfl, Below.refl _ _⟩
 · have t1 : decide (16 < n) = false := decide_eq_false hl
   replace hn := Lib.hid hn
   replace ha := Lib.hid ha
   replace hW := Lib.hid hW
   obtain ⟨V, hV⟩ : ∃ V, V = chkF L := ⟨_, rfl⟩
   rw [← hV]
   replace hV := Lib.hid hV
   go_enter Tryz.func69, Tryz.ntmps69
   go_wp2_with fail
   go_loopw [10] (fun iv wr => ∃ i : Nat, i ≤ n ∧ iv = .int .i64 i ∧ (∀ j, j < i → mayB (frAt L j) j = true) ∧ Below w.heap.size w wr) (fun iv _ => n - (intOf iv).toNat)
   case atStart => exact ⟨0, Nat.zero_le _, rfl, fun j hj => by omega, Below.refl _ _⟩
   case round =>
    obtain ⟨i, hi, rfl, ho, hb⟩ := hrel
    by_cases hlt : i < n
    · have hil : i < L.length := by have := hn.out; omega
      obtain ⟨b, o, rfl, hbl, c0, c1, c2, c3, c4, c5, c6⟩ := FAt.cells (ha.out.below (fun b o e _ => ha.out.lt b o e (by simp; omega)) hb) hil
      have fw := hW.out _ (fr_mem hil)
      have M := fun w => may_run fw i w
      have bad : Hid (mayB (frAt L i) i = false → V = 100) := fun h => by rw [hV.out]; exact chkF_bad (by have := hn.out; omega) hil h
      have good : Hid (mayB (frAt L i) i = true → ∀ j, j < i + 1 → mayB (frAt L j) j = true) := fun h j hj => by
       by_cases e : j < i
       · exact ho j e
       · have e : j = i := by omega
         rw [e]; exact h
      clear fw ho
      generalize hf : mayB (frAt L i) i = mb at *
      generalize frAt L i = f at *
      obtain ⟨up, ax, ph, rt, o1, o2, o3⟩ := f
      unfold frV at M
      dsimp only at *
      have B1 := Lib.hid (hb.alloc hb.size (.cells #[.int .i64 up, .int .i64 ax, .float .f64 ph, .float .f64 rt, .float .f64 o1, .float .f64 o2, .float .f64 o3] 91))
      have K := (Kv.nil wr).new 91 [.int .i64 up, .int .i64 ax, .float .f64 ph, .float .f64 rt, .float .f64 o1, .float .f64 o2, .float .f64 o3]
      simp only [objV, List.nil_append] at K
      have d0 := (K.at_ 0 rfl).at_ 0 _ rfl
      have d1 := (K.at_ 0 rfl).at_ 1 _ rfl
      have d2 := (K.at_ 0 rfl).at_ 2 _ rfl
      have d3 := (K.at_ 0 rfl).at_ 3 _ rfl
      have d4 := (K.at_ 0 rfl).at_ 4 _ rfl
      have d5 := (K.at_ 0 rfl).at_ 5 _ rfl
      have d6 := (K.at_ 0 rfl).at_ 6 _ rfl
      replace hb := Lib.hid hb
      clear K hf hbl
      have hst := @fstore
      cases mb with
      | true =>
        replace good := Lib.hid (good.out rfl)
        clear bad
        go_wp2_with fail
        refine (M _).mono ?_
        rintro _ w1 ⟨rfl, hb1⟩
        replace B1 := Lib.hid (B1.out.trans (hb1.mono B1.out.size))
        clear d0 d1 d2 d3 d4 d5 d6 c0 c1 c2 c3 c4 c5 c6 hb1
        go_wp2_with fail
        go_roundw
        case rel => exact ⟨i + 1, hlt, by go_num, good.out, B1.out⟩
        case measure => simp [intOf]; omega
      | false =>
        replace bad := Lib.hid (bad.out rfl)
        clear good
        go_wp2_with fail
        refine (M _).mono ?_
        rintro _ w1 ⟨rfl, hb1⟩
        replace B1 := Lib.hid (B1.out.trans (hb1.mono B1.out.size))
        clear d0 d1 d2 d3 d4 d5 d6 c0 c1 c2 c3 c4 c5 c6 hb1
        go_wp2_with fail
        go_ret
        exact ⟨ret_iF bad.out.symm, B1.out⟩
    · obtain rfl : i = n := by omega
      have hv : V = 0 := by
       rw [hV.out]
       exact chkF_good (by have := hn.out; omega) (fun j hj => ho j (by have := hn.out; omega))
      replace hv := Lib.hid hv
      replace hb := Lib.hid hb
      clear ho
      go_wp2_with fail
      go_ret
      exact ⟨ret_iF hv.out.symm, hb.out⟩
def readyF (L : List Fr) (i : Int) (t : Bool) : Int := if chkF L ≠ 0 then chkF L else if (decide (-1 ≤ i) && decide (i < (L.length : Int))) = false then 1 else if t = false then 80 else 0
theorem readyF_zero {L : List Fr} {i : Int} {t : Bool} (h : readyF L i t = 0) : chkF L = 0 ∧ -1 ≤ i ∧ i < (L.length : Int) ∧ t = true := by
 unfold readyF at h
 by_cases h1 : chkF L ≠ 0
 · rw [if_pos h1] at h; exact absurd h h1
 · rw [if_neg h1] at h
   by_cases h2 : (decide (-1 ≤ i) && decide (i < (L.length : Int))) = false
   · rw [if_pos h2] at h; omega
   · rw [if_neg h2] at h
     rw [Bool.not_eq_false] at h2
     simp only [Bool.and_eq_true, decide_eq_true_eq] at h2
     cases t with
     | true => exact ⟨by simpa using h1, h2.1, h2.2, rfl⟩
     | false => rw [if_pos rfl] at h; omega
theorem ready_run (ao : Option Addr) (cap n : Nat) (L : List Fr) (i : Int) (t : Bool) (w : World) (hn : n = L.length) (hm : n ≤ 4611686018427387904) (hW : FsW L) (ha : FAt w ao L) :
 Calls Tryz.prog 91 #[.slice ao n cap, .int .i64 i, .bool t] w fun e w' => e = .returned (.int .i64 (readyF L i t)) ∧ Below w.heap.size w w' := by
 have C := Lib.hid (fcheck_run ao cap n L w hn hm hW ha)
 have H := fun w => has_run ao n cap i w
 unfold readyF
 rw [← hn]
 generalize chkF L = k at *
 generalize (decide (-1 ≤ i) && decide (i < (n : Int))) = b at *
 clear hn hm hW ha
 by_cases hk : k = 0
 · subst hk
   rw [if_neg (by simp)]
   cases b with
   | false =>
     rw [if_pos rfl]
     go_enter Tryz.func91, Tryz.ntmps91
     go_wp2_with fail
     refine C.out.mono ?_
     rintro _ w1 ⟨rfl, hb1⟩
     replace hb1 := Lib.hid hb1
     clear C
     go_wp2_with (go_at_call 164; ((with_reducible refine (H _).mono ?_); rintro e w' ⟨rfl, rfl⟩))
     go_ret
     exact ⟨rfl, hb1.out⟩
   | true =>
     rw [if_neg (by simp)]
     cases t with
     | false =>
       rw [if_pos rfl]
       go_enter Tryz.func91, Tryz.ntmps91
       go_wp2_with fail
       refine C.out.mono ?_
       rintro _ w1 ⟨rfl, hb1⟩
       replace hb1 := Lib.hid hb1
       clear C
       go_wp2_with (go_at_call 164; ((with_reducible refine (H _).mono ?_); rintro e w' ⟨rfl, rfl⟩))
       go_ret
       exact ⟨rfl, hb1.out⟩
     | true =>
       rw [if_neg (by simp)]
       go_enter Tryz.func91, Tryz.ntmps91
       go_wp2_with fail
       refine C.out.mono ?_
       rintro _ w1 ⟨rfl, hb1⟩
       replace hb1 := Lib.hid hb1
       clear C
       go_wp2_with (go_at_call 164; ((with_reducible refine (H _).mono ?_); rintro e w' ⟨rfl, rfl⟩))
       go_ret
       exact ⟨rfl, hb1.out⟩
 · have tk : (k != 0) = true := by simpa using hk
   rw [if_pos hk]
   clear hk H
   go_enter Tryz.func91, Tryz.ntmps91
   go_wp2_with fail
   refine C.out.mono ?_
   rintro _ w1 ⟨rfl, hb1⟩
   replace hb1 := Lib.hid hb1
   clear C
   go_wp2_with fail
   go_ret
   exact ⟨rfl, hb1.out⟩
end Go.Proofs.YtacinenddnfcbaaGreat

namespace Go.Proofs.YtacinenddnfcbaaGreat
open Go.ChangeShapes Go.WideShapes Go.ChangeAt Go.RowKit Ieee.Own

theorem fang_shape {up ax : Int} {ph rt o1 o2 o3 d p a : Nat} {b : Bool} (r1 : ∀ t w, (binOp .mul t (.float .f64 rt) (.float .f64 d)).run Tryz.prog w = .ok (.float .f64 p) w) (r2 : ∀ t w, (binOp .add t (.float .f64 ph) (.float .f64 p)).run Tryz.prog w = .ok (.float .f64 a) w) (C : ∀ w, Calls Tryz.prog 72 #[.float .f64 a] w fun e w' => e = .returned (.bool b) ∧ w = w') (w : World) : Calls Tryz.prog 187 #[.agg #[.int .i64 up, .int .i64 ax, .float .f64 ph, .float .f64 rt, .float .f64 o1, .float .f64 o2, .float .f64 o3], .float .f64 d] w fun e w' => e = .returned (.float .f64 (if b = true then a else 0)) ∧ Below w.heap.size w w' := by
 have K := kv1 w 91 [.int .i64 up, .int .i64 ax, .float .f64 ph, .float .f64 rt, .float .f64 o1, .float .f64 o2, .float .f64 o3]
 simp only [objV] at K
 have c2 := (K.at_ 0 rfl).at_ 2 _ rfl
 have c3 := (K.at_ 0 rfl).at_ 3 _ rfl
 replace K := Lib.hid K
 cases b
 · show Calls _ _ _ _ fun e w' => e = .returned (.float .f64 0) ∧ _
   go_enter Tryz.func187, Tryz.ntmps187
   go_wp2_with (go_at_call 72; ((with_reducible refine (C _).mono ?_); rintro e w' ⟨rfl, rfl⟩))
   go_ret
   exact ⟨rfl, K.out.old⟩
 · show Calls _ _ _ _ fun e w' => e = .returned (.float .f64 a) ∧ _
   go_enter Tryz.func187, Tryz.ntmps187
   go_wp2_with (go_at_call 72; ((with_reducible refine (C _).mono ?_); rintro e w' ⟨rfl, rfl⟩))
   go_ret
   exact ⟨rfl, K.out.old⟩
theorem fstill_shape {x1 x2 x3 q1 q2 q3 : Nat} {k : Int} (C : Hid (∀ w, Calls Tryz.prog 35 #[.agg #[.float .f64 x1, .float .f64 x2, .float .f64 x3], .agg #[.float .f64 0, .float .f64 0, .float .f64 0]] w fun e w' => e = .returned (.tuple #[.agg #[.float .f64 q1, .float .f64 q2, .float .f64 q3], .int .i64 k]) ∧ Below w.heap.size w w')) (w : World) : Calls Tryz.prog 112 #[.agg #[.float .f64 x1, .float .f64 x2, .float .f64 x3]] w fun e w' => e = .returned (.tuple #[.agg #[.float .f64 q1, .float .f64 q2, .float .f64 q3], .int .i64 k]) ∧ Below w.heap.size w w' := by
 have K0 := kv2 w 41 41 [.float .f64 x1, .float .f64 x2, .float .f64 x3] [.float .f64 0, .float .f64 0, .float .f64 0]
 simp only [objV] at K0
 have hst := @fstore
 replace K0 := Lib.hid K0
 go_enter Tryz.func112, Tryz.ntmps112
 go_wp2_with fail
 have K := K0.out
 clear K0
 generalize (w.alloc _).alloc _ = wr at *
 refine (C.out wr).mono ?_
 rintro _ v1 ⟨rfl, hb⟩
 replace K := K.on hb
 clear hb
 have c1_0 := (K.at_ 1 rfl).at_ 0 _ rfl
 have f1_0 := (K.at_ 1 rfl).fr 0 _ rfl
 have c1_1 := (K.at_ 1 rfl).at_ 1 _ rfl
 have f1_1 := (K.at_ 1 rfl).fr 1 _ rfl
 have c1_2 := (K.at_ 1 rfl).at_ 2 _ rfl
 have f1_2 := (K.at_ 1 rfl).fr 2 _ rfl
 replace K := Lib.hid K
 go_wp2_with fail
 replace K := K.out
 (try simp only [Exit.inBlock, Exit.then])
 refine bodyPost_ret (v := .tuple #[.agg #[.float .f64 q1, .float .f64 q2, .float .f64 q3], .int .i64 k]) ?_ rfl ⟨rfl, ?_⟩
 · rw [results_cell_tmp rfl]; go_simp
 · exact (((K.old).setCell (by first | exact Nat.le_refl _ | (dsimp only; omega)) _).setCell (by first | exact Nat.le_refl _ | (dsimp only; omega)) _).setCell (by first | exact Nat.le_refl _ | (dsimp only; omega)) _
theorem fup_ok {up ax : Int} {ph rt o1 o2 o3 d x1 x2 x3 : Nat} {x m0 m1 m2 m3 m4 m5 m6 m7 m8 y1 y2 y3 q1 q2 q3 : Nat} {k : Int} (CA : Hid (∀ w, Calls Tryz.prog 187 #[.agg #[.int .i64 up, .int .i64 ax, .float .f64 ph, .float .f64 rt, .float .f64 o1, .float .f64 o2, .float .f64 o3], .float .f64 d] w fun e w' => e = .returned (.float .f64 x) ∧ Below w.heap.size w w')) (CT : Hid (∀ w, Calls Tryz.prog 181 #[.int .i64 ax, .float .f64 x] w fun e w' => e = .returned (.tuple #[.agg #[.float .f64 m0, .float .f64 m1, .float .f64 m2, .float .f64 m3, .float .f64 m4, .float .f64 m5, .float .f64 m6, .float .f64 m7, .float .f64 m8], .int .i64 0]) ∧ Below w.heap.size w w')) (CP : Hid (∀ w, Calls Tryz.prog 182 #[.agg #[.float .f64 m0, .float .f64 m1, .float .f64 m2, .float .f64 m3, .float .f64 m4, .float .f64 m5, .float .f64 m6, .float .f64 m7, .float .f64 m8], .agg #[.float .f64 x1, .float .f64 x2, .float .f64 x3]] w fun e w' => e = .returned (.tuple #[.agg #[.float .f64 y1, .float .f64 y2, .float .f64 y3], .int .i64 0]) ∧ Below w.heap.size w w')) (CD : Hid (∀ w, Calls Tryz.prog 35 #[.agg #[.float .f64 o1, .float .f64 o2, .float .f64 o3], .agg #[.float .f64 y1, .float .f64 y2, .float .f64 y3]] w fun e w' => e = .returned (.tuple #[.agg #[.float .f64 q1, .float .f64 q2, .float .f64 q3], .int .i64 k]) ∧ Below w.heap.size w w')) (w : World) : Calls Tryz.prog 113 #[.agg #[.int .i64 up, .int .i64 ax, .float .f64 ph, .float .f64 rt, .float .f64 o1, .float .f64 o2, .float .f64 o3], .float .f64 d, .agg #[.float .f64 x1, .float .f64 x2, .float .f64 x3]] w fun e w' => e = .returned (.tuple #[.agg #[.float .f64 q1, .float .f64 q2, .float .f64 q3], .int .i64 k]) ∧ Below w.heap.size w w' := by
 have K0 := kv3 w 91 41 41 [.int .i64 up, .int .i64 ax, .float .f64 ph, .float .f64 rt, .float .f64 o1, .float .f64 o2, .float .f64 o3] [.float .f64 x1, .float .f64 x2, .float .f64 x3] [.float .f64 0, .float .f64 0, .float .f64 0]
 simp only [objV] at K0
 have hst := @fstore
 replace K0 := Lib.hid K0
 go_enter Tryz.func113, Tryz.ntmps113
 go_upto_region 1 with fail
 have K := K0.out
 clear K0
 generalize ((w.alloc _).alloc _).alloc _ = wr at *
 replace K := K.more
 simp only [List.cons_append, List.nil_append] at K
 generalize hds : ([some 12, some 13, some 14, some 15, some 16, some 17, some 11, some 18, some 19, some 8, none, some 9] : List (Option Tmp)) = ds
 have hap : apartL ds = true := by rw [← hds]; decide
 replace hds := hds.symm
 refine wp_region_kv (fun hf => [some (w.heap.size, [.int .i64 up, .int .i64 ax, .float .f64 ph, .float .f64 rt, .float .f64 o1, .float .f64 o2, .float .f64 o3]), some (w.heap.size + 1, [.float .f64 x1, .float .f64 x2, .float .f64 x3]), some (w.heap.size + 1 + 1, [.float .f64 0, .float .f64 0, .float .f64 0]), some (hf 9, [.float .f64 m0, .float .f64 m1, .float .f64 m2, .float .f64 m3, .float .f64 m4, .float .f64 m5, .float .f64 m6, .float .f64 m7, .float .f64 m8])]) (fun hf => [some (.pointer (some ⟨w.heap.size, 1, none⟩)), some (.int .i64 ax), some (.agg #[.int .i64 up, .int .i64 ax, .float .f64 ph, .float .f64 rt, .float .f64 o1, .float .f64 o2, .float .f64 o3]), some (.float .f64 d), some (.float .f64 x), some (.tuple #[.agg #[.float .f64 m0, .float .f64 m1, .float .f64 m2, .float .f64 m3, .float .f64 m4, .float .f64 m5, .float .f64 m6, .float .f64 m7, .float .f64 m8], .int .i64 0]), some (.tuple #[.agg #[.float .f64 m0, .float .f64 m1, .float .f64 m2, .float .f64 m3, .float .f64 m4, .float .f64 m5, .float .f64 m6, .float .f64 m7, .float .f64 m8], .int .i64 0]), some (.agg #[.float .f64 m0, .float .f64 m1, .float .f64 m2, .float .f64 m3, .float .f64 m4, .float .f64 m5, .float .f64 m6, .float .f64 m7, .float .f64 m8]), some (.int .i64 0), some (ptrV (hf 9)), some (undef), some (.int .i64 0)]) [⟨9, 3, 144, [.float .f64 0, .float .f64 0, .float .f64 0, .float .f64 0, .float .f64 0, .float .f64 0, .float .f64 0, .float .f64 0, .float .f64 0]⟩] [⟨10, 3, 0, [.float .f64 m0, .float .f64 m1, .float .f64 m2, .float .f64 m3, .float .f64 m4, .float .f64 m5, .float .f64 m6, .float .f64 m7, .float .f64 m8]⟩] [.pointer (some ⟨w.heap.size, 1, none⟩), .int .i64 ax, .agg #[.int .i64 up, .int .i64 ax, .float .f64 ph, .float .f64 rt, .float .f64 o1, .float .f64 o2, .float .f64 o3], .float .f64 d, .float .f64 x, .tuple #[.agg #[.float .f64 m0, .float .f64 m1, .float .f64 m2, .float .f64 m3, .float .f64 m4, .float .f64 m5, .float .f64 m6, .float .f64 m7, .float .f64 m8], .int .i64 0], .tuple #[.agg #[.float .f64 m0, .float .f64 m1, .float .f64 m2, .float .f64 m3, .float .f64 m4, .float .f64 m5, .float .f64 m6, .float .f64 m7, .float .f64 m8], .int .i64 0], .agg #[.float .f64 m0, .float .f64 m1, .float .f64 m2, .float .f64 m3, .float .f64 m4, .float .f64 m5, .float .f64 m6, .float .f64 m7, .float .f64 m8], .int .i64 0, undef, undef, .int .i64 0] ds (by kernel_rfl) (by rw [hds]; rfl) hap (by decide +kernel) (by decide +kernel) K ?ha ?haj ?hai ?hsi ?hss ?hsa ?hsw ?htg ?hE2 ?hE3 ?hE4 ?hL1 ?hL2 ?hL3 ?alloc ?step ?store ?fin
 case ha => intro al hal; rcases List.mem_singleton.1 hal with rfl <;> rfl
 case haj => intro al hal al' hal' e; rcases List.mem_singleton.1 hal with rfl <;> (rcases List.mem_singleton.1 hal' with rfl) <;> first | rfl | (exfalso; revert e; simp)
 case hai => intro al hal; rcases List.mem_singleton.1 hal with rfl <;> decide
 case hsi => intro st hst st' hst' e; rcases List.mem_singleton.1 hst with rfl <;> (rcases List.mem_singleton.1 hst' with rfl) <;> first | rfl | (exfalso; revert e; simp)
 case hss =>
  intro st hst
  rcases List.mem_singleton.1 hst with rfl
  · show 10 < 12; decide
 case hsa =>
  intro st hst al hal
  rcases List.mem_singleton.1 hst with rfl
  · rcases List.mem_singleton.1 hal with rfl
    · exact (show ¬ (10 = 9) by decide)
 case hsw =>
  intro st hst al hal e
  rcases List.mem_singleton.1 hst with rfl
  · rcases List.mem_singleton.1 hal with rfl
    · change waitsAt _ 10 9 = true; decide +kernel
 case htg =>
  intro st hst
  rcases List.mem_singleton.1 hst with rfl
  · exact .inr ⟨_, List.mem_cons_self .., rfl, show 0 + 9 ≤ 9 by decide⟩
 case hE2 =>
  intro hf j h1 h2
  have n3 : 3 ≠ j := h1 _ (List.mem_cons_self ..)
  rcases j with _ | _ | _ | _ | j
  · rfl
  · rfl
  · rfl
  · exact absurd rfl n3
  · rfl
 case hE3 =>
  intro hf st hst g us e
  rcases List.mem_singleton.1 hst with rfl
  · simp at e
 case hE4 =>
  intro hf al hal
  rcases List.mem_singleton.1 hal with rfl
  · refine ⟨fun st hst e => ?_, fun h => absurd rfl (h _ (List.mem_cons_self ..))⟩
    rcases List.mem_singleton.1 hst with rfl
    · rfl
 case hL1 => intro hf; rfl
 case hL2 =>
  intro hf i hi hna
  have hi : i < 12 := hi
  have : i = 0 ∨ i = 1 ∨ i = 2 ∨ i = 3 ∨ i = 4 ∨ i = 5 ∨ i = 6 ∨ i = 7 ∨ i = 8 ∨ i = 9 ∨ i = 10 ∨ i = 11 := by omega
  rcases this with rfl | rfl | rfl | rfl | rfl | rfl | rfl | rfl | rfl | rfl | rfl | rfl
  · rfl
  · rfl
  · rfl
  · rfl
  · rfl
  · rfl
  · rfl
  · rfl
  · rfl
  · exact absurd rfl (hna _ (List.mem_cons_self ..))
  · rfl
  · rfl
 case hL3 => intro hf al hal; rcases List.mem_singleton.1 hal with rfl <;> rfl
 case alloc =>
  intro al hal o ρ W ho
  rcases List.mem_singleton.1 hal with rfl
  · obtain rfl := Option.some.inj ho; unfold execOp ptrV objV; go_simp
 case step =>
  intro L W i o ho hs ha hd hB hO
  have hi : i < 12 := (Array.getElem?_eq_some_iff.1 ho).1
  have : i = 0 ∨ i = 1 ∨ i = 2 ∨ i = 3 ∨ i = 4 ∨ i = 5 ∨ i = 6 ∨ i = 7 ∨ i = 8 ∨ i = 9 ∨ i = 10 ∨ i = 11 := by omega
  rcases this with rfl | rfl | rfl | rfl | rfl | rfl | rfl | rfl | rfl | rfl | rfl | rfl
  · obtain rfl := Option.some.inj ho
    refine .value W ?_ (Below.refl _ _)
    generalize hA : (puts ds L _).eval = ρ
    have hc : ∀ v, ρ (.const v) = v := fun v => by rw [← hA]; rfl
    have h0 : ρ (.tmp 3) = .pointer (some ⟨w.heap.size, 0, none⟩) := by rw [← hA]; exact (puts_old ds L _ (by rw [hds]; decide)).trans rfl
    clear hA hd hB ho hs ha hO
    unfold execOp
    go_simp
  · obtain rfl := Option.some.inj ho
    have b := hB 0 _ _ rfl (by
        intro st hst e
        rcases List.mem_singleton.1 hst with rfl
        · exact absurd e (show ¬ 3 = 0 by decide))
    have c1 := b.at_ 1 _ rfl
    clear b
    refine .value W ?_ (Below.refl _ _)
    generalize hA : (puts ds L _).eval = ρ
    have hc : ∀ v, ρ (.const v) = v := fun v => by rw [← hA]; rfl
    have h0 : ρ (.tmp 12) = .pointer (some ⟨w.heap.size, 1, none⟩) := by rw [← hA]; exact puts_get 0 ds L _ hap (by rw [hds]; rfl) (hd 0 (by decide +kernel) (by intro al hal; rcases List.mem_singleton.1 hal with rfl <;> decide)) (show 12 < 40 by decide)
    clear hA hd hB ho hs ha hO
    unfold execOp
    go_simp
  · obtain rfl := Option.some.inj ho
    have b := hB 0 _ _ rfl (by
        intro st hst e
        rcases List.mem_singleton.1 hst with rfl
        · exact absurd e (show ¬ 3 = 0 by decide))
    have c0 := b.at_ 0 _ rfl
    have c1 := b.at_ 1 _ rfl
    have c2 := b.at_ 2 _ rfl
    have c3 := b.at_ 3 _ rfl
    have c4 := b.at_ 4 _ rfl
    have c5 := b.at_ 5 _ rfl
    have c6 := b.at_ 6 _ rfl
    clear b
    refine .value W ?_ (Below.refl _ _)
    generalize hA : (puts ds L _).eval = ρ
    have hc : ∀ v, ρ (.const v) = v := fun v => by rw [← hA]; rfl
    have h0 : ρ (.tmp 3) = .pointer (some ⟨w.heap.size, 0, none⟩) := by rw [← hA]; exact (puts_old ds L _ (by rw [hds]; decide)).trans rfl
    clear hA hd hB ho hs ha hO
    unfold execOp
    go_simp
  · obtain rfl := Option.some.inj ho
    refine .value W ?_ (Below.refl _ _)
    generalize hA : (puts ds L _).eval = ρ
    have hc : ∀ v, ρ (.const v) = v := fun v => by rw [← hA]; rfl
    have h0 : ρ (.tmp 1) = .float .f64 d := by rw [← hA]; exact (puts_old ds L _ (by rw [hds]; decide)).trans rfl
    clear hA hd hB ho hs ha hO
    unfold execOp
    go_simp
  · obtain rfl := Option.some.inj ho
    refine .call 187 #[.agg #[.int .i64 up, .int .i64 ax, .float .f64 ph, .float .f64 rt, .float .f64 o1, .float .f64 o2, .float .f64 o3], .float .f64 d] ?_ (CA.out W)
    generalize hA : (puts ds L _).eval = ρ
    have hc : ∀ v, ρ (.const v) = v := fun v => by rw [← hA]; rfl
    have hg : ∀ g, ρ (.func g) = .func (.func g) #[] #[] := fun v => by rw [← hA]; rfl
    have h0 : ρ (.tmp 14) = .agg #[.int .i64 up, .int .i64 ax, .float .f64 ph, .float .f64 rt, .float .f64 o1, .float .f64 o2, .float .f64 o3] := by rw [← hA]; exact puts_get 2 ds L _ hap (by rw [hds]; rfl) (hd 2 (by decide +kernel) (by intro al hal; rcases List.mem_singleton.1 hal with rfl <;> decide)) (show 14 < 40 by decide)
    have h1 : ρ (.tmp 15) = .float .f64 d := by rw [← hA]; exact puts_get 3 ds L _ hap (by rw [hds]; rfl) (hd 3 (by decide +kernel) (by intro al hal; rcases List.mem_singleton.1 hal with rfl <;> decide)) (show 15 < 40 by decide)
    have hf := Tryz.func187
    unfold execOp
    go_simp
  · obtain rfl := Option.some.inj ho
    refine .call 181 #[.int .i64 ax, .float .f64 x] ?_ (CT.out W)
    generalize hA : (puts ds L _).eval = ρ
    have hc : ∀ v, ρ (.const v) = v := fun v => by rw [← hA]; rfl
    have hg : ∀ g, ρ (.func g) = .func (.func g) #[] #[] := fun v => by rw [← hA]; rfl
    have h0 : ρ (.tmp 13) = .int .i64 ax := by rw [← hA]; exact puts_get 1 ds L _ hap (by rw [hds]; rfl) (hd 1 (by decide +kernel) (by intro al hal; rcases List.mem_singleton.1 hal with rfl <;> decide)) (show 13 < 40 by decide)
    have h1 : ρ (.tmp 16) = .float .f64 x := by rw [← hA]; exact puts_get 4 ds L _ hap (by rw [hds]; rfl) (hd 4 (by decide +kernel) (by intro al hal; rcases List.mem_singleton.1 hal with rfl <;> decide)) (show 16 < 40 by decide)
    have hf := Tryz.func181
    unfold execOp
    go_simp
  · obtain rfl := Option.some.inj ho
    refine .value W ?_ (Below.refl _ _)
    generalize hA : (puts ds L _).eval = ρ
    have hc : ∀ v, ρ (.const v) = v := fun v => by rw [← hA]; rfl
    have h0 : ρ (.tmp 17) = .tuple #[.agg #[.float .f64 m0, .float .f64 m1, .float .f64 m2, .float .f64 m3, .float .f64 m4, .float .f64 m5, .float .f64 m6, .float .f64 m7, .float .f64 m8], .int .i64 0] := by rw [← hA]; exact puts_get 5 ds L _ hap (by rw [hds]; rfl) (hd 5 (by decide +kernel) (by intro al hal; rcases List.mem_singleton.1 hal with rfl <;> decide)) (show 17 < 40 by decide)
    clear hA hd hB ho hs ha hO
    unfold execOp
    go_simp
  · obtain rfl := Option.some.inj ho
    refine .value W ?_ (Below.refl _ _)
    generalize hA : (puts ds L _).eval = ρ
    have hc : ∀ v, ρ (.const v) = v := fun v => by rw [← hA]; rfl
    have h0 : ρ (.tmp 11) = .tuple #[.agg #[.float .f64 m0, .float .f64 m1, .float .f64 m2, .float .f64 m3, .float .f64 m4, .float .f64 m5, .float .f64 m6, .float .f64 m7, .float .f64 m8], .int .i64 0] := by rw [← hA]; exact puts_get 6 ds L _ hap (by rw [hds]; rfl) (hd 6 (by decide +kernel) (by intro al hal; rcases List.mem_singleton.1 hal with rfl <;> decide)) (show 11 < 40 by decide)
    clear hA hd hB ho hs ha hO
    unfold execOp
    go_simp
  · obtain rfl := Option.some.inj ho
    refine .value W ?_ (Below.refl _ _)
    generalize hA : (puts ds L _).eval = ρ
    have hc : ∀ v, ρ (.const v) = v := fun v => by rw [← hA]; rfl
    have h0 : ρ (.tmp 11) = .tuple #[.agg #[.float .f64 m0, .float .f64 m1, .float .f64 m2, .float .f64 m3, .float .f64 m4, .float .f64 m5, .float .f64 m6, .float .f64 m7, .float .f64 m8], .int .i64 0] := by rw [← hA]; exact puts_get 6 ds L _ hap (by rw [hds]; rfl) (hd 6 (by decide +kernel) (by intro al hal; rcases List.mem_singleton.1 hal with rfl <;> decide)) (show 11 < 40 by decide)
    clear hA hd hB ho hs ha hO
    unfold execOp
    go_simp
  · exact absurd rfl (ha _ (List.mem_cons_self ..))
  · exact absurd rfl (hs _ (List.mem_cons_self ..))
  · obtain rfl := Option.some.inj ho
    refine .value W ?_ (Below.refl _ _)
    generalize hA : (puts ds L _).eval = ρ
    have hc : ∀ v, ρ (.const v) = v := fun v => by rw [← hA]; rfl
    have h0 : ρ (.tmp 19) = .int .i64 0 := by rw [← hA]; exact puts_get 8 ds L _ hap (by rw [hds]; rfl) (hd 8 (by decide +kernel) (by intro al hal; rcases List.mem_singleton.1 hal with rfl <;> decide)) (show 19 < 40 by decide)
    clear hA hd hB ho hs ha hO
    unfold execOp
    go_simp
 case store =>
  intro st hst L W o h us ho hd hal hC b
  rcases List.mem_singleton.1 hst with rfl
  · dsimp only at ho hd hal hC b ⊢
    obtain rfl := Option.some.inj ho
    obtain ⟨hl, rfl⟩ := hal _ (List.mem_cons_self ..) rfl
    have c0 := b.at_ 0 _ rfl
    have f0 := b.fr 0 _ rfl
    have c1 := b.at_ 1 _ rfl
    have f1 := b.fr 1 _ rfl
    have c2 := b.at_ 2 _ rfl
    have f2 := b.fr 2 _ rfl
    have c3 := b.at_ 3 _ rfl
    have f3 := b.fr 3 _ rfl
    have c4 := b.at_ 4 _ rfl
    have f4 := b.fr 4 _ rfl
    have c5 := b.at_ 5 _ rfl
    have f5 := b.fr 5 _ rfl
    have c6 := b.at_ 6 _ rfl
    have f6 := b.fr 6 _ rfl
    have c7 := b.at_ 7 _ rfl
    have f7 := b.fr 7 _ rfl
    have c8 := b.at_ 8 _ rfl
    have f8 := b.fr 8 _ rfl
    refine ⟨?_, rfl⟩
    generalize hA : (puts ds L _).eval = ρ
    have h0 : ρ (.tmp 8) = .pointer (some ⟨h, 0, none⟩) := by rw [← hA]; exact puts_get 9 ds L _ hap (by rw [hds]; rfl) hl (show 8 < 40 by decide)
    have h1 : ρ (.tmp 18) = .agg #[.float .f64 m0, .float .f64 m1, .float .f64 m2, .float .f64 m3, .float .f64 m4, .float .f64 m5, .float .f64 m6, .float .f64 m7, .float .f64 m8] := by rw [← hA]; exact puts_get 7 ds L _ hap (by rw [hds]; rfl) (hd 7 (by decide +kernel) (by intro al hal; rcases List.mem_singleton.1 hal with rfl <;> decide)) (show 18 < 40 by decide)
    have hst' := @fstore
    clear hA hd b ho hal hC
    simp only [putV]
    unfold execOp
    go_simp
 case fin =>
  intro hf W0 K
  rw [hds]
  clear hds hap ds CA CT
  (try dsimp only at K)
  generalize hf 9 = gm at *
  (try unfold ptrV)
  simp only [List.set_cons_zero, List.set_cons_succ, puts, Act.put, List.setIfInBounds_toArray]
  have c3_0 := (K.at_ 3 rfl).at_ 0 _ rfl
  have c3_1 := (K.at_ 3 rfl).at_ 1 _ rfl
  have c3_2 := (K.at_ 3 rfl).at_ 2 _ rfl
  have c3_3 := (K.at_ 3 rfl).at_ 3 _ rfl
  have c3_4 := (K.at_ 3 rfl).at_ 4 _ rfl
  have c3_5 := (K.at_ 3 rfl).at_ 5 _ rfl
  have c3_6 := (K.at_ 3 rfl).at_ 6 _ rfl
  have c3_7 := (K.at_ 3 rfl).at_ 7 _ rfl
  have c3_8 := (K.at_ 3 rfl).at_ 8 _ rfl
  have c1_0 := (K.at_ 1 rfl).at_ 0 _ rfl
  have c1_1 := (K.at_ 1 rfl).at_ 1 _ rfl
  have c1_2 := (K.at_ 1 rfl).at_ 2 _ rfl
  replace K := Lib.hid K
  go_wp2_with fail
  replace K := K.out
  refine (CP.out W0).mono ?_
  rintro _ v1 ⟨rfl, hb⟩
  clear c3_0 c3_1 c3_2 c3_3 c3_4 c3_5 c3_6 c3_7 c3_8 c1_0 c1_1 c1_2
  replace K := K.on hb
  clear hb
  replace K := K.new 41 [.float .f64 y1, .float .f64 y2, .float .f64 y3]
  simp only [objV, List.cons_append, List.nil_append] at K
  have c0_4 := (K.at_ 0 rfl).at_ 4 _ rfl
  have c0_5 := (K.at_ 0 rfl).at_ 5 _ rfl
  have c0_6 := (K.at_ 0 rfl).at_ 6 _ rfl
  have c4_0 := (K.at_ 4 rfl).at_ 0 _ rfl
  have c4_1 := (K.at_ 4 rfl).at_ 1 _ rfl
  have c4_2 := (K.at_ 4 rfl).at_ 2 _ rfl
  replace K := Lib.hid K
  go_wp2_with fail
  replace K := K.out
  generalize v1.alloc _ = u1 at *
  generalize v1.heap.size = g1 at *
  refine (CD.out u1).mono ?_
  rintro _ v2 ⟨rfl, hb⟩
  clear c0_4 c0_5 c0_6 c4_0 c4_1 c4_2
  replace K := K.on hb
  clear hb
  have c2_0 := (K.at_ 2 rfl).at_ 0 _ rfl
  have f2_0 := (K.at_ 2 rfl).fr 0 _ rfl
  have c2_1 := (K.at_ 2 rfl).at_ 1 _ rfl
  have f2_1 := (K.at_ 2 rfl).fr 1 _ rfl
  have c2_2 := (K.at_ 2 rfl).at_ 2 _ rfl
  have f2_2 := (K.at_ 2 rfl).fr 2 _ rfl
  replace K := Lib.hid K
  go_wp2_with fail
  replace K := K.out
  (try simp only [Exit.inBlock, Exit.then])
  refine bodyPost_ret (v := .tuple #[.agg #[.float .f64 q1, .float .f64 q2, .float .f64 q3], .int .i64 k]) ?_ rfl ⟨rfl, ?_⟩
  · rw [results_cell_tmp rfl]; go_simp
  · exact (((K.old).setCell (by first | exact Nat.le_refl _ | (dsimp only; omega)) _).setCell (by first | exact Nat.le_refl _ | (dsimp only; omega)) _).setCell (by first | exact Nat.le_refl _ | (dsimp only; omega)) _
theorem fup_no {up ax : Int} {ph rt o1 o2 o3 d x1 x2 x3 : Nat} {x m0 m1 m2 m3 m4 m5 m6 m7 m8 y1 y2 y3  : Nat} {k : Int} (t : (k != 0) = true) (CA : Hid (∀ w, Calls Tryz.prog 187 #[.agg #[.int .i64 up, .int .i64 ax, .float .f64 ph, .float .f64 rt, .float .f64 o1, .float .f64 o2, .float .f64 o3], .float .f64 d] w fun e w' => e = .returned (.float .f64 x) ∧ Below w.heap.size w w')) (CT : Hid (∀ w, Calls Tryz.prog 181 #[.int .i64 ax, .float .f64 x] w fun e w' => e = .returned (.tuple #[.agg #[.float .f64 m0, .float .f64 m1, .float .f64 m2, .float .f64 m3, .float .f64 m4, .float .f64 m5, .float .f64 m6, .float .f64 m7, .float .f64 m8], .int .i64 0]) ∧ Below w.heap.size w w')) (CP : Hid (∀ w, Calls Tryz.prog 182 #[.agg #[.float .f64 m0, .float .f64 m1, .float .f64 m2, .float .f64 m3, .float .f64 m4, .float .f64 m5, .float .f64 m6, .float .f64 m7, .float .f64 m8], .agg #[.float .f64 x1, .float .f64 x2, .float .f64 x3]] w fun e w' => e = .returned (.tuple #[.agg #[.float .f64 y1, .float .f64 y2, .float .f64 y3], .int .i64 k]) ∧ Below w.heap.size w w')) (w : World) : Calls Tryz.prog 113 #[.agg #[.int .i64 up, .int .i64 ax, .float .f64 ph, .float .f64 rt, .float .f64 o1, .float .f64 o2, .float .f64 o3], .float .f64 d, .agg #[.float .f64 x1, .float .f64 x2, .float .f64 x3]] w fun e w' => e = .returned (.tuple #[.agg #[.float .f64 0, .float .f64 0, .float .f64 0], .int .i64 k]) ∧ Below w.heap.size w w' := by
 have K0 := kv3 w 91 41 41 [.int .i64 up, .int .i64 ax, .float .f64 ph, .float .f64 rt, .float .f64 o1, .float .f64 o2, .float .f64 o3] [.float .f64 x1, .float .f64 x2, .float .f64 x3] [.float .f64 0, .float .f64 0, .float .f64 0]
 simp only [objV] at K0
 have hst := @fstore
 replace K0 := Lib.hid K0
 go_enter Tryz.func113, Tryz.ntmps113
 go_upto_region 1 with fail
 have K := K0.out
 clear K0
 generalize ((w.alloc _).alloc _).alloc _ = wr at *
 replace K := K.more
 simp only [List.cons_append, List.nil_append] at K
 generalize hds : ([some 12, some 13, some 14, some 15, some 16, some 17, some 11, some 18, some 19, some 8, none, some 9] : List (Option Tmp)) = ds
 have hap : apartL ds = true := by rw [← hds]; decide
 replace hds := hds.symm
 refine wp_region_kv (fun hf => [some (w.heap.size, [.int .i64 up, .int .i64 ax, .float .f64 ph, .float .f64 rt, .float .f64 o1, .float .f64 o2, .float .f64 o3]), some (w.heap.size + 1, [.float .f64 x1, .float .f64 x2, .float .f64 x3]), some (w.heap.size + 1 + 1, [.float .f64 0, .float .f64 0, .float .f64 0]), some (hf 9, [.float .f64 m0, .float .f64 m1, .float .f64 m2, .float .f64 m3, .float .f64 m4, .float .f64 m5, .float .f64 m6, .float .f64 m7, .float .f64 m8])]) (fun hf => [some (.pointer (some ⟨w.heap.size, 1, none⟩)), some (.int .i64 ax), some (.agg #[.int .i64 up, .int .i64 ax, .float .f64 ph, .float .f64 rt, .float .f64 o1, .float .f64 o2, .float .f64 o3]), some (.float .f64 d), some (.float .f64 x), some (.tuple #[.agg #[.float .f64 m0, .float .f64 m1, .float .f64 m2, .float .f64 m3, .float .f64 m4, .float .f64 m5, .float .f64 m6, .float .f64 m7, .float .f64 m8], .int .i64 0]), some (.tuple #[.agg #[.float .f64 m0, .float .f64 m1, .float .f64 m2, .float .f64 m3, .float .f64 m4, .float .f64 m5, .float .f64 m6, .float .f64 m7, .float .f64 m8], .int .i64 0]), some (.agg #[.float .f64 m0, .float .f64 m1, .float .f64 m2, .float .f64 m3, .float .f64 m4, .float .f64 m5, .float .f64 m6, .float .f64 m7, .float .f64 m8]), some (.int .i64 0), some (ptrV (hf 9)), some (undef), some (.int .i64 0)]) [⟨9, 3, 144, [.float .f64 0, .float .f64 0, .float .f64 0, .float .f64 0, .float .f64 0, .float .f64 0, .float .f64 0, .float .f64 0, .float .f64 0]⟩] [⟨10, 3, 0, [.float .f64 m0, .float .f64 m1, .float .f64 m2, .float .f64 m3, .float .f64 m4, .float .f64 m5, .float .f64 m6, .float .f64 m7, .float .f64 m8]⟩] [.pointer (some ⟨w.heap.size, 1, none⟩), .int .i64 ax, .agg #[.int .i64 up, .int .i64 ax, .float .f64 ph, .float .f64 rt, .float .f64 o1, .float .f64 o2, .float .f64 o3], .float .f64 d, .float .f64 x, .tuple #[.agg #[.float .f64 m0, .float .f64 m1, .float .f64 m2, .float .f64 m3, .float .f64 m4, .float .f64 m5, .float .f64 m6, .float .f64 m7, .float .f64 m8], .int .i64 0], .tuple #[.agg #[.float .f64 m0, .float .f64 m1, .float .f64 m2, .float .f64 m3, .float .f64 m4, .float .f64 m5, .float .f64 m6, .float .f64 m7, .float .f64 m8], .int .i64 0], .agg #[.float .f64 m0, .float .f64 m1, .float .f64 m2, .float .f64 m3, .float .f64 m4, .float .f64 m5, .float .f64 m6, .float .f64 m7, .float .f64 m8], .int .i64 0, undef, undef, .int .i64 0] ds (by kernel_rfl) (by rw [hds]; rfl) hap (by decide +kernel) (by decide +kernel) K ?ha ?haj ?hai ?hsi ?hss ?hsa ?hsw ?htg ?hE2 ?hE3 ?hE4 ?hL1 ?hL2 ?hL3 ?alloc ?step ?store ?fin
 case ha => intro al hal; rcases List.mem_singleton.1 hal with rfl <;> rfl
 case haj => intro al hal al' hal' e; rcases List.mem_singleton.1 hal with rfl <;> (rcases List.mem_singleton.1 hal' with rfl) <;> first | rfl | (exfalso; revert e; simp)
 case hai => intro al hal; rcases List.mem_singleton.1 hal with rfl <;> decide
 case hsi => intro st hst st' hst' e; rcases List.mem_singleton.1 hst with rfl <;> (rcases List.mem_singleton.1 hst' with rfl) <;> first | rfl | (exfalso; revert e; simp)
 case hss =>
  intro st hst
  rcases List.mem_singleton.1 hst with rfl
  · show 10 < 12; decide
 case hsa =>
  intro st hst al hal
  rcases List.mem_singleton.1 hst with rfl
  · rcases List.mem_singleton.1 hal with rfl
    · exact (show ¬ (10 = 9) by decide)
 case hsw =>
  intro st hst al hal e
  rcases List.mem_singleton.1 hst with rfl
  · rcases List.mem_singleton.1 hal with rfl
    · change waitsAt _ 10 9 = true; decide +kernel
 case htg =>
  intro st hst
  rcases List.mem_singleton.1 hst with rfl
  · exact .inr ⟨_, List.mem_cons_self .., rfl, show 0 + 9 ≤ 9 by decide⟩
 case hE2 =>
  intro hf j h1 h2
  have n3 : 3 ≠ j := h1 _ (List.mem_cons_self ..)
  rcases j with _ | _ | _ | _ | j
  · rfl
  · rfl
  · rfl
  · exact absurd rfl n3
  · rfl
 case hE3 =>
  intro hf st hst g us e
  rcases List.mem_singleton.1 hst with rfl
  · simp at e
 case hE4 =>
  intro hf al hal
  rcases List.mem_singleton.1 hal with rfl
  · refine ⟨fun st hst e => ?_, fun h => absurd rfl (h _ (List.mem_cons_self ..))⟩
    rcases List.mem_singleton.1 hst with rfl
    · rfl
 case hL1 => intro hf; rfl
 case hL2 =>
  intro hf i hi hna
  have hi : i < 12 := hi
  have : i = 0 ∨ i = 1 ∨ i = 2 ∨ i = 3 ∨ i = 4 ∨ i = 5 ∨ i = 6 ∨ i = 7 ∨ i = 8 ∨ i = 9 ∨ i = 10 ∨ i = 11 := by omega
  rcases this with rfl | rfl | rfl | rfl | rfl | rfl | rfl | rfl | rfl | rfl | rfl | rfl
  · rfl
  · rfl
  · rfl
  · rfl
  · rfl
  · rfl
  · rfl
  · rfl
  · rfl
  · exact absurd rfl (hna _ (List.mem_cons_self ..))
  · rfl
  · rfl
 case hL3 => intro hf al hal; rcases List.mem_singleton.1 hal with rfl <;> rfl
 case alloc =>
  intro al hal o ρ W ho
  rcases List.mem_singleton.1 hal with rfl
  · obtain rfl := Option.some.inj ho; unfold execOp ptrV objV; go_simp
 case step =>
  intro L W i o ho hs ha hd hB hO
  have hi : i < 12 := (Array.getElem?_eq_some_iff.1 ho).1
  have : i = 0 ∨ i = 1 ∨ i = 2 ∨ i = 3 ∨ i = 4 ∨ i = 5 ∨ i = 6 ∨ i = 7 ∨ i = 8 ∨ i = 9 ∨ i = 10 ∨ i = 11 := by omega
  rcases this with rfl | rfl | rfl | rfl | rfl | rfl | rfl | rfl | rfl | rfl | rfl | rfl
  · obtain rfl := Option.some.inj ho
    refine .value W ?_ (Below.refl _ _)
    generalize hA : (puts ds L _).eval = ρ
    have hc : ∀ v, ρ (.const v) = v := fun v => by rw [← hA]; rfl
    have h0 : ρ (.tmp 3) = .pointer (some ⟨w.heap.size, 0, none⟩) := by rw [← hA]; exact (puts_old ds L _ (by rw [hds]; decide)).trans rfl
    clear hA hd hB ho hs ha hO
    unfold execOp
    go_simp
  · obtain rfl := Option.some.inj ho
    have b := hB 0 _ _ rfl (by
        intro st hst e
        rcases List.mem_singleton.1 hst with rfl
        · exact absurd e (show ¬ 3 = 0 by decide))
    have c1 := b.at_ 1 _ rfl
    clear b
    refine .value W ?_ (Below.refl _ _)
    generalize hA : (puts ds L _).eval = ρ
    have hc : ∀ v, ρ (.const v) = v := fun v => by rw [← hA]; rfl
    have h0 : ρ (.tmp 12) = .pointer (some ⟨w.heap.size, 1, none⟩) := by rw [← hA]; exact puts_get 0 ds L _ hap (by rw [hds]; rfl) (hd 0 (by decide +kernel) (by intro al hal; rcases List.mem_singleton.1 hal with rfl <;> decide)) (show 12 < 40 by decide)
    clear hA hd hB ho hs ha hO
    unfold execOp
    go_simp
  · obtain rfl := Option.some.inj ho
    have b := hB 0 _ _ rfl (by
        intro st hst e
        rcases List.mem_singleton.1 hst with rfl
        · exact absurd e (show ¬ 3 = 0 by decide))
    have c0 := b.at_ 0 _ rfl
    have c1 := b.at_ 1 _ rfl
    have c2 := b.at_ 2 _ rfl
    have c3 := b.at_ 3 _ rfl
    have c4 := b.at_ 4 _ rfl
    have c5 := b.at_ 5 _ rfl
    have c6 := b.at_ 6 _ rfl
    clear b
    refine .value W ?_ (Below.refl _ _)
    generalize hA : (puts ds L _).eval = ρ
    have hc : ∀ v, ρ (.const v) = v := fun v => by rw [← hA]; rfl
    have h0 : ρ (.tmp 3) = .pointer (some ⟨w.heap.size, 0, none⟩) := by rw [← hA]; exact (puts_old ds L _ (by rw [hds]; decide)).trans rfl
    clear hA hd hB ho hs ha hO
    unfold execOp
    go_simp
  · obtain rfl := Option.some.inj ho
    refine .value W ?_ (Below.refl _ _)
    generalize hA : (puts ds L _).eval = ρ
    have hc : ∀ v, ρ (.const v) = v := fun v => by rw [← hA]; rfl
    have h0 : ρ (.tmp 1) = .float .f64 d := by rw [← hA]; exact (puts_old ds L _ (by rw [hds]; decide)).trans rfl
    clear hA hd hB ho hs ha hO
    unfold execOp
    go_simp
  · obtain rfl := Option.some.inj ho
    refine .call 187 #[.agg #[.int .i64 up, .int .i64 ax, .float .f64 ph, .float .f64 rt, .float .f64 o1, .float .f64 o2, .float .f64 o3], .float .f64 d] ?_ (CA.out W)
    generalize hA : (puts ds L _).eval = ρ
    have hc : ∀ v, ρ (.const v) = v := fun v => by rw [← hA]; rfl
    have hg : ∀ g, ρ (.func g) = .func (.func g) #[] #[] := fun v => by rw [← hA]; rfl
    have h0 : ρ (.tmp 14) = .agg #[.int .i64 up, .int .i64 ax, .float .f64 ph, .float .f64 rt, .float .f64 o1, .float .f64 o2, .float .f64 o3] := by rw [← hA]; exact puts_get 2 ds L _ hap (by rw [hds]; rfl) (hd 2 (by decide +kernel) (by intro al hal; rcases List.mem_singleton.1 hal with rfl <;> decide)) (show 14 < 40 by decide)
    have h1 : ρ (.tmp 15) = .float .f64 d := by rw [← hA]; exact puts_get 3 ds L _ hap (by rw [hds]; rfl) (hd 3 (by decide +kernel) (by intro al hal; rcases List.mem_singleton.1 hal with rfl <;> decide)) (show 15 < 40 by decide)
    have hf := Tryz.func187
    unfold execOp
    go_simp
  · obtain rfl := Option.some.inj ho
    refine .call 181 #[.int .i64 ax, .float .f64 x] ?_ (CT.out W)
    generalize hA : (puts ds L _).eval = ρ
    have hc : ∀ v, ρ (.const v) = v := fun v => by rw [← hA]; rfl
    have hg : ∀ g, ρ (.func g) = .func (.func g) #[] #[] := fun v => by rw [← hA]; rfl
    have h0 : ρ (.tmp 13) = .int .i64 ax := by rw [← hA]; exact puts_get 1 ds L _ hap (by rw [hds]; rfl) (hd 1 (by decide +kernel) (by intro al hal; rcases List.mem_singleton.1 hal with rfl <;> decide)) (show 13 < 40 by decide)
    have h1 : ρ (.tmp 16) = .float .f64 x := by rw [← hA]; exact puts_get 4 ds L _ hap (by rw [hds]; rfl) (hd 4 (by decide +kernel) (by intro al hal; rcases List.mem_singleton.1 hal with rfl <;> decide)) (show 16 < 40 by decide)
    have hf := Tryz.func181
    unfold execOp
    go_simp
  · obtain rfl := Option.some.inj ho
    refine .value W ?_ (Below.refl _ _)
    generalize hA : (puts ds L _).eval = ρ
    have hc : ∀ v, ρ (.const v) = v := fun v => by rw [← hA]; rfl
    have h0 : ρ (.tmp 17) = .tuple #[.agg #[.float .f64 m0, .float .f64 m1, .float .f64 m2, .float .f64 m3, .float .f64 m4, .float .f64 m5, .float .f64 m6, .float .f64 m7, .float .f64 m8], .int .i64 0] := by rw [← hA]; exact puts_get 5 ds L _ hap (by rw [hds]; rfl) (hd 5 (by decide +kernel) (by intro al hal; rcases List.mem_singleton.1 hal with rfl <;> decide)) (show 17 < 40 by decide)
    clear hA hd hB ho hs ha hO
    unfold execOp
    go_simp
  · obtain rfl := Option.some.inj ho
    refine .value W ?_ (Below.refl _ _)
    generalize hA : (puts ds L _).eval = ρ
    have hc : ∀ v, ρ (.const v) = v := fun v => by rw [← hA]; rfl
    have h0 : ρ (.tmp 11) = .tuple #[.agg #[.float .f64 m0, .float .f64 m1, .float .f64 m2, .float .f64 m3, .float .f64 m4, .float .f64 m5, .float .f64 m6, .float .f64 m7, .float .f64 m8], .int .i64 0] := by rw [← hA]; exact puts_get 6 ds L _ hap (by rw [hds]; rfl) (hd 6 (by decide +kernel) (by intro al hal; rcases List.mem_singleton.1 hal with rfl <;> decide)) (show 11 < 40 by decide)
    clear hA hd hB ho hs ha hO
    unfold execOp
    go_simp
  · obtain rfl := Option.some.inj ho
    refine .value W ?_ (Below.refl _ _)
    generalize hA : (puts ds L _).eval = ρ
    have hc : ∀ v, ρ (.const v) = v := fun v => by rw [← hA]; rfl
    have h0 : ρ (.tmp 11) = .tuple #[.agg #[.float .f64 m0, .float .f64 m1, .float .f64 m2, .float .f64 m3, .float .f64 m4, .float .f64 m5, .float .f64 m6, .float .f64 m7, .float .f64 m8], .int .i64 0] := by rw [← hA]; exact puts_get 6 ds L _ hap (by rw [hds]; rfl) (hd 6 (by decide +kernel) (by intro al hal; rcases List.mem_singleton.1 hal with rfl <;> decide)) (show 11 < 40 by decide)
    clear hA hd hB ho hs ha hO
    unfold execOp
    go_simp
  · exact absurd rfl (ha _ (List.mem_cons_self ..))
  · exact absurd rfl (hs _ (List.mem_cons_self ..))
  · obtain rfl := Option.some.inj ho
    refine .value W ?_ (Below.refl _ _)
    generalize hA : (puts ds L _).eval = ρ
    have hc : ∀ v, ρ (.const v) = v := fun v => by rw [← hA]; rfl
    have h0 : ρ (.tmp 19) = .int .i64 0 := by rw [← hA]; exact puts_get 8 ds L _ hap (by rw [hds]; rfl) (hd 8 (by decide +kernel) (by intro al hal; rcases List.mem_singleton.1 hal with rfl <;> decide)) (show 19 < 40 by decide)
    clear hA hd hB ho hs ha hO
    unfold execOp
    go_simp
 case store =>
  intro st hst L W o h us ho hd hal hC b
  rcases List.mem_singleton.1 hst with rfl
  · dsimp only at ho hd hal hC b ⊢
    obtain rfl := Option.some.inj ho
    obtain ⟨hl, rfl⟩ := hal _ (List.mem_cons_self ..) rfl
    have c0 := b.at_ 0 _ rfl
    have f0 := b.fr 0 _ rfl
    have c1 := b.at_ 1 _ rfl
    have f1 := b.fr 1 _ rfl
    have c2 := b.at_ 2 _ rfl
    have f2 := b.fr 2 _ rfl
    have c3 := b.at_ 3 _ rfl
    have f3 := b.fr 3 _ rfl
    have c4 := b.at_ 4 _ rfl
    have f4 := b.fr 4 _ rfl
    have c5 := b.at_ 5 _ rfl
    have f5 := b.fr 5 _ rfl
    have c6 := b.at_ 6 _ rfl
    have f6 := b.fr 6 _ rfl
    have c7 := b.at_ 7 _ rfl
    have f7 := b.fr 7 _ rfl
    have c8 := b.at_ 8 _ rfl
    have f8 := b.fr 8 _ rfl
    refine ⟨?_, rfl⟩
    generalize hA : (puts ds L _).eval = ρ
    have h0 : ρ (.tmp 8) = .pointer (some ⟨h, 0, none⟩) := by rw [← hA]; exact puts_get 9 ds L _ hap (by rw [hds]; rfl) hl (show 8 < 40 by decide)
    have h1 : ρ (.tmp 18) = .agg #[.float .f64 m0, .float .f64 m1, .float .f64 m2, .float .f64 m3, .float .f64 m4, .float .f64 m5, .float .f64 m6, .float .f64 m7, .float .f64 m8] := by rw [← hA]; exact puts_get 7 ds L _ hap (by rw [hds]; rfl) (hd 7 (by decide +kernel) (by intro al hal; rcases List.mem_singleton.1 hal with rfl <;> decide)) (show 18 < 40 by decide)
    have hst' := @fstore
    clear hA hd b ho hal hC
    simp only [putV]
    unfold execOp
    go_simp
 case fin =>
  intro hf W0 K
  rw [hds]
  clear hds hap ds CA CT
  (try dsimp only at K)
  generalize hf 9 = gm at *
  (try unfold ptrV)
  simp only [List.set_cons_zero, List.set_cons_succ, puts, Act.put, List.setIfInBounds_toArray]
  have c3_0 := (K.at_ 3 rfl).at_ 0 _ rfl
  have c3_1 := (K.at_ 3 rfl).at_ 1 _ rfl
  have c3_2 := (K.at_ 3 rfl).at_ 2 _ rfl
  have c3_3 := (K.at_ 3 rfl).at_ 3 _ rfl
  have c3_4 := (K.at_ 3 rfl).at_ 4 _ rfl
  have c3_5 := (K.at_ 3 rfl).at_ 5 _ rfl
  have c3_6 := (K.at_ 3 rfl).at_ 6 _ rfl
  have c3_7 := (K.at_ 3 rfl).at_ 7 _ rfl
  have c3_8 := (K.at_ 3 rfl).at_ 8 _ rfl
  have c1_0 := (K.at_ 1 rfl).at_ 0 _ rfl
  have c1_1 := (K.at_ 1 rfl).at_ 1 _ rfl
  have c1_2 := (K.at_ 1 rfl).at_ 2 _ rfl
  replace K := Lib.hid K
  go_wp2_with fail
  replace K := K.out
  refine (CP.out W0).mono ?_
  rintro _ v1 ⟨rfl, hb⟩
  clear c3_0 c3_1 c3_2 c3_3 c3_4 c3_5 c3_6 c3_7 c3_8 c1_0 c1_1 c1_2
  replace K := K.on hb
  clear hb
  replace K := K.new 41 [.float .f64 y1, .float .f64 y2, .float .f64 y3]
  simp only [objV, List.cons_append, List.nil_append] at K
  have c2_0 := (K.at_ 2 rfl).at_ 0 _ rfl
  have f2_0 := (K.at_ 2 rfl).fr 0 _ rfl
  have c2_1 := (K.at_ 2 rfl).at_ 1 _ rfl
  have f2_1 := (K.at_ 2 rfl).fr 1 _ rfl
  have c2_2 := (K.at_ 2 rfl).at_ 2 _ rfl
  have f2_2 := (K.at_ 2 rfl).fr 2 _ rfl
  replace K := Lib.hid K
  go_wp2_with fail
  replace K := K.out
  (try simp only [Exit.inBlock, Exit.then])
  refine bodyPost_ret (v := .tuple #[.agg #[.float .f64 0, .float .f64 0, .float .f64 0], .int .i64 k]) ?_ rfl ⟨rfl, ?_⟩
  · rw [results_cell_tmp rfl]; go_simp
  · exact (((K.old).setCell (by first | exact Nat.le_refl _ | (dsimp only; omega)) _).setCell (by first | exact Nat.le_refl _ | (dsimp only; omega)) _).setCell (by first | exact Nat.le_refl _ | (dsimp only; omega)) _
end Go.Proofs.YtacinenddnfcbaaGreat
