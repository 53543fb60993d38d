/- Proved here: what the texts Fra, Frb prove, one behind the other. -/
import Derived.Test.YtgblpibanagcgaaGreatJy1
import Derived.Test.YtgblpibanagcgaaGreatJv11

namespace Go.Proofs.YtgblpibanagcgaaGreat
open Go.ChangeShapes Go.WideShapes Go.ChangeAt Go.RowKit Ieee.Own

/-- a frame -/
structure Fr where
  up : Int
  ax : Int
  ph : Nat
  rt : Nat
  o1 : Nat
  o2 : Nat
  o3 : Nat
def Fr.og (f : Fr) : V3 := (f.o1, f.o2, f.o3)
def frC (f : Fr) : List Value := [.int .i64 f.up, .int .i64 f.ax, .float .f64 f.ph, .float .f64 f.rt, .float .f64 f.o1, .float .f64 f.o2, .float .f64 f.o3]
def frV (f : Fr) : Value := .agg #[.int .i64 f.up, .int .i64 f.ax, .float .f64 f.ph, .float .f64 f.rt, .float .f64 f.o1, .float .f64 f.o2, .float .f64 f.o3]
structure FrW (f : Fr) : Prop where
  ph : f.ph < 18446744073709551616
  rt : f.rt < 18446744073709551616
  o1 : f.o1 < 18446744073709551616
  o2 : f.o2 < 18446744073709551616
  o3 : f.o3 < 18446744073709551616
/-- fit, and no greater than c -/
def witB (c x : Nat) : Bool := decide (fitB x = true ∧ x % 9223372036854775808 ≤ c)
def g10 : Nat := 4652218415073722368
def g40 : Nat := 4787326403894837248
def g24 : Nat := 4715268809856909312
set_option maxHeartbeats 4000000 in
set_option maxRecDepth 100000 in
theorem fwit_run (c x : Nat) (hc : c < 9218868437227405312) (hx : x < 18446744073709551616) (w : World) :
    Calls Tryz.prog 30 #[.float .f64 x, .float .f64 c] w fun e w' => e = .returned (.bool (witB c x)) ∧ w = w' := by
  have CF := fun w => fit_any x hx w
  have CA := fun w => abs_any x hx w
  have g := o_leq (x % 9223372036854775808) c (by omega) (by omega)
  by_cases h1 : fitB x = true
  · have fn := fit_fin hx h1
    have m := fn.2
    rw [key_low (by omega), key_low (by omega)] at g
    rw [h1] at CF
    by_cases h2 : x % 9223372036854775808 ≤ c
    · have e : witB c x = true := by unfold witB; rw [decide_eq_true_eq]; exact ⟨h1, h2⟩
      rw [e]
      rw [decide_eq_true (by unfold nn; omega)] at g
      clear hx h1 fn m h2 e hc
      generalize x % 9223372036854775808 = y at *
      go_enter Tryz.func30, Tryz.ntmps30
      go_wp2_with (first | (go_at_call 50; ((with_reducible refine (CF _).mono ?_); rintro e w' ⟨rfl, rfl⟩)) | (go_at_call 45; ((with_reducible refine (CA _).mono ?_); rintro e w' ⟨rfl, rfl⟩)))
      go_ret
      exact ⟨rfl, rfl⟩
    · have e : witB c x = false := by unfold witB; rw [decide_eq_false_iff_not]; exact fun h => h2 h.2
      rw [e]
      rw [decide_eq_false (by omega)] at g
      clear hx h1 fn m h2 e hc
      generalize x % 9223372036854775808 = y at *
      go_enter Tryz.func30, Tryz.ntmps30
      go_wp2_with (first | (go_at_call 50; ((with_reducible refine (CF _).mono ?_); rintro e w' ⟨rfl, rfl⟩)) | (go_at_call 45; ((with_reducible refine (CA _).mono ?_); rintro e w' ⟨rfl, rfl⟩)))
      go_ret
      exact ⟨rfl, rfl⟩
  · have e : witB c x = false := by unfold witB; rw [decide_eq_false_iff_not]; exact fun h => h1 h.1
    rw [Bool.not_eq_true] at h1
    rw [h1] at CF
    rw [e]
    clear hx h1 e g hc
    go_enter Tryz.func30, Tryz.ntmps30
    go_wp2_with (first | (go_at_call 50; ((with_reducible refine (CF _).mono ?_); rintro e w' ⟨rfl, rfl⟩)) | (go_at_call 45; ((with_reducible refine (CA _).mono ?_); rintro e w' ⟨rfl, rfl⟩)))
    go_ret
    exact ⟨rfl, rfl⟩
set_option maxHeartbeats 4000000 in
set_option maxRecDepth 100000 in
theorem ftime_run (x : Nat) (hx : x < 18446744073709551616) (w : World) :
    Calls Tryz.prog 15 #[.float .f64 x] w fun e w' => e = .returned (.bool (witB g24 x)) ∧ w = w' := by
  have C := fun w => fwit_run 4715268809856909312 x (by omega) hx w
  unfold g24
  generalize witB 4715268809856909312 x = b at *
  clear hx
  go_enter Tryz.func15, Tryz.ntmps15
  go_wp2_with (go_at_call 30; ((with_reducible refine (C _).mono ?_); rintro e w' ⟨rfl, rfl⟩))
  go_ret
  exact ⟨rfl, rfl⟩
def mayB (f : Fr) (i : Int) : Bool := decide (-1 ≤ f.up) && (decide (f.up < i) && (decide (0 ≤ f.ax) && (decide (f.ax ≤ 2) && (witB g10 f.ph && (witB g10 f.rt && (witB g40 f.o1 && (witB g40 f.o2 && witB g40 f.o3)))))))
set_option maxHeartbeats 4000000 in
set_option maxRecDepth 100000 in
theorem may_run {f : Fr} (h : FrW f) (i : Int) (w : World) : Calls Tryz.prog 49 #[frV f, .int .i64 i] w fun e w' => e = .returned (.bool (mayB f i)) ∧ Below w.heap.size w w' := by
  have C0 := fun w => fwit_run 4652218415073722368 f.ph (by omega) h.ph w
  have C1 := fun w => fwit_run 4652218415073722368 f.rt (by omega) h.rt w
  have C2 := fun w => fwit_run 4787326403894837248 f.o1 (by omega) h.o1 w
  have C3 := fun w => fwit_run 4787326403894837248 f.o2 (by omega) h.o2 w
  have C4 := fun w => fwit_run 4787326403894837248 f.o3 (by omega) h.o3 w
  clear h
  unfold mayB frV g10 g40
  generalize witB 4652218415073722368 f.ph = b0 at *
  generalize witB 4652218415073722368 f.rt = b1 at *
  generalize witB 4787326403894837248 f.o1 = b2 at *
  generalize witB 4787326403894837248 f.o2 = b3 at *
  generalize witB 4787326403894837248 f.o3 = b4 at *
  obtain ⟨up, ax, ph, rt, o1, o2, o3⟩ := f
  dsimp only at *
  have K := kv1 w 49 [.int .i64 up, .int .i64 ax, .float .f64 ph, .float .f64 rt, .float .f64 o1, .float .f64 o2, .float .f64 o3]
  simp only [objV] at K
  have c0 := (K.at_ 0 rfl).at_ 0 _ rfl
  have c1 := (K.at_ 0 rfl).at_ 1 _ rfl
  have c2 := (K.at_ 0 rfl).at_ 2 _ rfl
  have c3 := (K.at_ 0 rfl).at_ 3 _ rfl
  have c4 := (K.at_ 0 rfl).at_ 4 _ rfl
  have c5 := (K.at_ 0 rfl).at_ 5 _ rfl
  have c6 := (K.at_ 0 rfl).at_ 6 _ rfl
  replace K := Lib.hid K
  by_cases h0 : -1 ≤ up
  · rw [decide_eq_true h0]
    by_cases h1 : up < i
    · rw [decide_eq_true h1]
      by_cases h2 : 0 ≤ ax
      · rw [decide_eq_true h2]
        by_cases h3 : ax ≤ 2
        · rw [decide_eq_true h3]
          cases hb0 : b0 with
          | true =>
            subst hb0
            cases hb1 : b1 with
            | true =>
              subst hb1
              cases hb2 : b2 with
              | true =>
                subst hb2
                cases hb3 : b3 with
                | true =>
                  subst hb3
                  cases hb4 : b4 with
                  | true =>
                    subst hb4
                    go_enter Tryz.func49, Tryz.ntmps49
                    go_wp2_with (first | (go_at_call 30; ((with_reducible refine (C0 _).mono ?_); rintro e w' ⟨rfl, rfl⟩)) | (go_at_call 30; ((with_reducible refine (C1 _).mono ?_); rintro e w' ⟨rfl, rfl⟩)) | (go_at_call 30; ((with_reducible refine (C2 _).mono ?_); rintro e w' ⟨rfl, rfl⟩)) | (go_at_call 30; ((with_reducible refine (C3 _).mono ?_); rintro e w' ⟨rfl, rfl⟩)) | (go_at_call 30; ((with_reducible refine (C4 _).mono ?_); rintro e w' ⟨rfl, rfl⟩)))
                    replace K := K.out
                    go_ret
                    exact ⟨rfl, K.old⟩
                  | false =>
                    subst hb4
                    go_enter Tryz.func49, Tryz.ntmps49
                    go_wp2_with (first | (go_at_call 30; ((with_reducible refine (C0 _).mono ?_); rintro e w' ⟨rfl, rfl⟩)) | (go_at_call 30; ((with_reducible refine (C1 _).mono ?_); rintro e w' ⟨rfl, rfl⟩)) | (go_at_call 30; ((with_reducible refine (C2 _).mono ?_); rintro e w' ⟨rfl, rfl⟩)) | (go_at_call 30; ((with_reducible refine (C3 _).mono ?_); rintro e w' ⟨rfl, rfl⟩)) | (go_at_call 30; ((with_reducible refine (C4 _).mono ?_); rintro e w' ⟨rfl, rfl⟩)))
                    replace K := K.out
                    go_ret
                    exact ⟨rfl, K.old⟩
                | false =>
                  subst hb3
                  go_enter Tryz.func49, Tryz.ntmps49
                  go_wp2_with (first | (go_at_call 30; ((with_reducible refine (C0 _).mono ?_); rintro e w' ⟨rfl, rfl⟩)) | (go_at_call 30; ((with_reducible refine (C1 _).mono ?_); rintro e w' ⟨rfl, rfl⟩)) | (go_at_call 30; ((with_reducible refine (C2 _).mono ?_); rintro e w' ⟨rfl, rfl⟩)) | (go_at_call 30; ((with_reducible refine (C3 _).mono ?_); rintro e w' ⟨rfl, rfl⟩)) | (go_at_call 30; ((with_reducible refine (C4 _).mono ?_); rintro e w' ⟨rfl, rfl⟩)))
                  replace K := K.out
                  go_ret
                  exact ⟨rfl, K.old⟩
              | false =>
                subst hb2
                go_enter Tryz.func49, Tryz.ntmps49
                go_wp2_with (first | (go_at_call 30; ((with_reducible refine (C0 _).mono ?_); rintro e w' ⟨rfl, rfl⟩)) | (go_at_call 30; ((with_reducible refine (C1 _).mono ?_); rintro e w' ⟨rfl, rfl⟩)) | (go_at_call 30; ((with_reducible refine (C2 _).mono ?_); rintro e w' ⟨rfl, rfl⟩)) | (go_at_call 30; ((with_reducible refine (C3 _).mono ?_); rintro e w' ⟨rfl, rfl⟩)) | (go_at_call 30; ((with_reducible refine (C4 _).mono ?_); rintro e w' ⟨rfl, rfl⟩)))
                replace K := K.out
                go_ret
                exact ⟨rfl, K.old⟩
            | false =>
              subst hb1
              go_enter Tryz.func49, Tryz.ntmps49
              go_wp2_with (first | (go_at_call 30; ((with_reducible refine (C0 _).mono ?_); rintro e w' ⟨rfl, rfl⟩)) | (go_at_call 30; ((with_reducible refine (C1 _).mono ?_); rintro e w' ⟨rfl, rfl⟩)) | (go_at_call 30; ((with_reducible refine (C2 _).mono ?_); rintro e w' ⟨rfl, rfl⟩)) | (go_at_call 30; ((with_reducible refine (C3 _).mono ?_); rintro e w' ⟨rfl, rfl⟩)) | (go_at_call 30; ((with_reducible refine (C4 _).mono ?_); rintro e w' ⟨rfl, rfl⟩)))
              replace K := K.out
              go_ret
              exact ⟨rfl, K.old⟩
          | false =>
            subst hb0
            go_enter Tryz.func49, Tryz.ntmps49
            go_wp2_with (first | (go_at_call 30; ((with_reducible refine (C0 _).mono ?_); rintro e w' ⟨rfl, rfl⟩)) | (go_at_call 30; ((with_reducible refine (C1 _).mono ?_); rintro e w' ⟨rfl, rfl⟩)) | (go_at_call 30; ((with_reducible refine (C2 _).mono ?_); rintro e w' ⟨rfl, rfl⟩)) | (go_at_call 30; ((with_reducible refine (C3 _).mono ?_); rintro e w' ⟨rfl, rfl⟩)) | (go_at_call 30; ((with_reducible refine (C4 _).mono ?_); rintro e w' ⟨rfl, rfl⟩)))
            replace K := K.out
            go_ret
            exact ⟨rfl, K.old⟩
        · rw [decide_eq_false h3]
          go_enter Tryz.func49, Tryz.ntmps49
          go_wp2_with (first | (go_at_call 30; ((with_reducible refine (C0 _).mono ?_); rintro e w' ⟨rfl, rfl⟩)) | (go_at_call 30; ((with_reducible refine (C1 _).mono ?_); rintro e w' ⟨rfl, rfl⟩)) | (go_at_call 30; ((with_reducible refine (C2 _).mono ?_); rintro e w' ⟨rfl, rfl⟩)) | (go_at_call 30; ((with_reducible refine (C3 _).mono ?_); rintro e w' ⟨rfl, rfl⟩)) | (go_at_call 30; ((with_reducible refine (C4 _).mono ?_); rintro e w' ⟨rfl, rfl⟩)))
          replace K := K.out
          go_ret
          exact ⟨rfl, K.old⟩
      · rw [decide_eq_false h2]
        go_enter Tryz.func49, Tryz.ntmps49
        go_wp2_with (first | (go_at_call 30; ((with_reducible refine (C0 _).mono ?_); rintro e w' ⟨rfl, rfl⟩)) | (go_at_call 30; ((with_reducible refine (C1 _).mono ?_); rintro e w' ⟨rfl, rfl⟩)) | (go_at_call 30; ((with_reducible refine (C2 _).mono ?_); rintro e w' ⟨rfl, rfl⟩)) | (go_at_call 30; ((with_reducible refine (C3 _).mono ?_); rintro e w' ⟨rfl, rfl⟩)) | (go_at_call 30; ((with_reducible refine (C4 _).mono ?_); rintro e w' ⟨rfl, rfl⟩)))
        replace K := K.out
        go_ret
        exact ⟨rfl, K.old⟩
    · rw [decide_eq_false h1]
      go_enter Tryz.func49, Tryz.ntmps49
      go_wp2_with (first | (go_at_call 30; ((with_reducible refine (C0 _).mono ?_); rintro e w' ⟨rfl, rfl⟩)) | (go_at_call 30; ((with_reducible refine (C1 _).mono ?_); rintro e w' ⟨rfl, rfl⟩)) | (go_at_call 30; ((with_reducible refine (C2 _).mono ?_); rintro e w' ⟨rfl, rfl⟩)) | (go_at_call 30; ((with_reducible refine (C3 _).mono ?_); rintro e w' ⟨rfl, rfl⟩)) | (go_at_call 30; ((with_reducible refine (C4 _).mono ?_); rintro e w' ⟨rfl, rfl⟩)))
      replace K := K.out
      go_ret
      exact ⟨rfl, K.old⟩
  · rw [decide_eq_false h0]
    go_enter Tryz.func49, Tryz.ntmps49
    go_wp2_with (first | (go_at_call 30; ((with_reducible refine (C0 _).mono ?_); rintro e w' ⟨rfl, rfl⟩)) | (go_at_call 30; ((with_reducible refine (C1 _).mono ?_); rintro e w' ⟨rfl, rfl⟩)) | (go_at_call 30; ((with_reducible refine (C2 _).mono ?_); rintro e w' ⟨rfl, rfl⟩)) | (go_at_call 30; ((with_reducible refine (C3 _).mono ?_); rintro e w' ⟨rfl, rfl⟩)) | (go_at_call 30; ((with_reducible refine (C4 _).mono ?_); rintro e w' ⟨rfl, rfl⟩)))
    replace K := K.out
    go_ret
    exact ⟨rfl, K.old⟩
set_option maxHeartbeats 4000000 in
set_option maxRecDepth 100000 in
theorem has_run (ao : Option Addr) (n cap : Nat) (i : Int) (w : World) : Calls Tryz.prog 29 #[.slice ao n cap, .int .i64 i] w fun e w' => e = .returned (.bool (decide (-1 ≤ i) && decide (i < (n : Int)))) ∧ w = w' := by
  by_cases h0 : -1 ≤ i
  · rw [decide_eq_true h0]
    by_cases h1 : i < (n : Int)
    · rw [decide_eq_true h1]
      go_enter Tryz.func29, Tryz.ntmps29
      go_wp2_with fail
      go_ret
      exact ⟨rfl, rfl⟩
    · rw [decide_eq_false h1]
      go_enter Tryz.func29, Tryz.ntmps29
      go_wp2_with fail
      go_ret
      exact ⟨rfl, rfl⟩
  · rw [decide_eq_false h0]
    go_enter Tryz.func29, Tryz.ntmps29
    go_wp2_with fail
    go_ret
    exact ⟨rfl, rfl⟩
end Go.Proofs.YtgblpibanagcgaaGreat

namespace Go.Proofs.YtgblpibanagcgaaGreat
open Go.ChangeShapes Go.WideShapes Go.ChangeAt Go.RowKit Ieee.Own

def frZ : Fr := ⟨0, 0, 0, 0, 0, 0, 0⟩
def frAt (L : List Fr) (j : Nat) : Fr := L.getD j frZ
def FAt (w : World) (ao : Option Addr) (L : List Fr) : Prop := RAt w ao 7 (L.map frC)
def FsW (L : List Fr) : Prop := ∀ f ∈ L, FrW f
theorem rows_fr (L : List Fr) : RowsOk 7 (L.map frC) := by
  refine ⟨fun r hr => ?_, fun r hr u hu => ?_⟩
  · obtain ⟨f, -, rfl⟩ := List.mem_map.1 hr; rfl
  · obtain ⟨f, -, rfl⟩ := List.mem_map.1 hr
    simp only [frC, List.mem_cons, List.not_mem_nil, or_false] at hu
    rcases hu with rfl | rfl | rfl | rfl | rfl | rfl | rfl <;> rfl
theorem fr_get {L : List Fr} {j : Nat} (h : j < L.length) : (L.map frC)[j]? = some (frC (frAt L j)) := by
  unfold frAt; simp [List.getD, h]
theorem fr_mem {L : List Fr} {j : Nat} (h : j < L.length) : frAt L j ∈ L := by
  unfold frAt
  have : L.getD j frZ = L[j] := by simp [List.getD, h]
  rw [this]; exact List.getElem_mem h
theorem FAt.cells {w : World} {ao : Option Addr} {L : List Fr} (h : FAt w ao L) {j : Nat} (hj : j < L.length) :
    ∃ b o, ao = some ⟨b, o, none⟩ ∧ b < w.heap.size ∧ w.cell? ⟨b, o + j * 7, none⟩ = some (.int .i64 (frAt L j).up) ∧ w.cell? ⟨b, o + j * 7 + 1, none⟩ = some (.int .i64 (frAt L j).ax) ∧
      w.cell? ⟨b, o + j * 7 + 2, none⟩ = some (.float .f64 (frAt L j).ph) ∧ w.cell? ⟨b, o + j * 7 + 3, none⟩ = some (.float .f64 (frAt L j).rt) ∧ w.cell? ⟨b, o + j * 7 + 4, none⟩ = some (.float .f64 (frAt L j).o1) ∧
      w.cell? ⟨b, o + j * 7 + 5, none⟩ = some (.float .f64 (frAt L j).o2) ∧ w.cell? ⟨b, o + j * 7 + 6, none⟩ = some (.float .f64 (frAt L j).o3) := by
  obtain ⟨b, o, e, hb, hc⟩ := h j _ (fr_get hj)
  exact ⟨b, o, e, hb, hc 0 _ rfl, hc 1 _ rfl, hc 2 _ rfl, hc 3 _ rfl, hc 4 _ rfl, hc 5 _ rfl, hc 6 _ rfl⟩
def goodF (L : List Fr) : Bool := (List.range L.length).all fun j => mayB (frAt L j) j
def chkF (L : List Fr) : Int := if 16 < L.length then 2 else if goodF L = true then 0 else 100
theorem goodF_iff {L : List Fr} : goodF L = true ↔ ∀ j, j < L.length → mayB (frAt L j) j = true := by
  unfold goodF; simp [List.all_eq_true]
theorem chkF_long {L : List Fr} (h : 16 < L.length) : chkF L = 2 := if_pos h
theorem chkF_bad {L : List Fr} (h : ¬ 16 < L.length) {j : Nat} (hj : j < L.length) (hg : mayB (frAt L j) j = false) : chkF L = 100 := by
  unfold chkF
  rw [if_neg h, if_neg (fun g => by rw [goodF_iff.1 g j hj] at hg; cases hg)]
theorem chkF_good {L : List Fr} (h : ¬ 16 < L.length) (hg : ∀ j, j < L.length → mayB (frAt L j) j = true) : chkF L = 0 := by
  unfold chkF
  rw [if_neg h, if_pos (goodF_iff.2 hg)]
theorem chkF_zero {L : List Fr} (h : chkF L = 0) : L.length ≤ 16 ∧ ∀ j, j < L.length → mayB (frAt L j) j = true := by
  unfold chkF at h
  by_cases h1 : 16 < L.length
  · rw [if_pos h1] at h; omega
  · rw [if_neg h1] at h
    by_cases h2 : goodF L = true
    · exact ⟨by omega, goodF_iff.1 h2⟩
    · rw [if_neg h2] at h; omega
theorem ret_iF {a b : Int} (h : a = b) : Ending.returned (.int .i64 a) = .returned (.int .i64 b) := by rw [h]
set_option maxHeartbeats 4000000 in
set_option maxRecDepth 100000 in
theorem fcheck_run (ao : Option Addr) (cap n : Nat) (L : List Fr) (w : World) (hn : n = L.length) (hm : n ≤ 4611686018427387904) (hW : FsW L) (ha : FAt w ao L) :
    Calls Tryz.prog 28 #[.slice ao n cap] w fun e w' => e = .returned (.int .i64 (chkF L)) ∧ Below w.heap.size w w' := by
  by_cases hl : 16 < n
  · have t1 : decide (16 < n) = true := decide_eq_true hl
    rw [chkF_long (by omega)]
    clear hn ha hW
    go_enter Tryz.func28, Tryz.ntmps28
    go_wp2_with fail
    go_ret
    exact ⟨rfl, Below.refl _ _⟩
  · have t1 : decide (16 < n) = false := decide_eq_false hl
    replace hn := Lib.hid hn
    replace ha := Lib.hid ha
    replace hW := Lib.hid hW
    obtain ⟨V, hV⟩ : ∃ V, V = chkF L := ⟨_, rfl⟩
    rw [← hV]
    replace hV := Lib.hid hV
    go_enter Tryz.func28, Tryz.ntmps28
    go_wp2_with fail
    go_loopw [10] (fun iv wr => ∃ i : Nat, i ≤ n ∧ iv = .int .i64 i ∧ (∀ j, j < i → mayB (frAt L j) j = true) ∧ Below w.heap.size w wr) (fun iv _ => n - (intOf iv).toNat)
    case atStart => exact ⟨0, Nat.zero_le _, rfl, fun j hj => by omega, Below.refl _ _⟩
    case round =>
      obtain ⟨i, hi, rfl, ho, hb⟩ := hrel
      by_cases hlt : i < n
      · have hil : i < L.length := by have := hn.out; omega
        obtain ⟨b, o, rfl, hbl, c0, c1, c2, c3, c4, c5, c6⟩ := FAt.cells (ha.out.below (fun b o e _ => ha.out.lt b o e (by simp; omega)) hb) hil
        have fw := hW.out _ (fr_mem hil)
        have M := fun w => may_run fw i w
        have bad : Hid (mayB (frAt L i) i = false → V = 100) := fun h => by rw [hV.out]; exact chkF_bad (by have := hn.out; omega) hil h
        have good : Hid (mayB (frAt L i) i = true → ∀ j, j < i + 1 → mayB (frAt L j) j = true) := fun h j hj => by
          by_cases e : j < i
          · exact ho j e
          · have e : j = i := by omega
            rw [e]; exact h
        clear fw ho
        generalize hf : mayB (frAt L i) i = mb at *
        generalize frAt L i = f at *
        obtain ⟨up, ax, ph, rt, o1, o2, o3⟩ := f
        unfold frV at M
        dsimp only at *
        have B1 := Lib.hid (hb.alloc hb.size (.cells #[.int .i64 up, .int .i64 ax, .float .f64 ph, .float .f64 rt, .float .f64 o1, .float .f64 o2, .float .f64 o3] 49))
        have K := (Kv.nil wr).new 49 [.int .i64 up, .int .i64 ax, .float .f64 ph, .float .f64 rt, .float .f64 o1, .float .f64 o2, .float .f64 o3]
        simp only [objV, List.nil_append] at K
        have d0 := (K.at_ 0 rfl).at_ 0 _ rfl
        have d1 := (K.at_ 0 rfl).at_ 1 _ rfl
        have d2 := (K.at_ 0 rfl).at_ 2 _ rfl
        have d3 := (K.at_ 0 rfl).at_ 3 _ rfl
        have d4 := (K.at_ 0 rfl).at_ 4 _ rfl
        have d5 := (K.at_ 0 rfl).at_ 5 _ rfl
        have d6 := (K.at_ 0 rfl).at_ 6 _ rfl
        replace hb := Lib.hid hb
        clear K hf hbl
        have hst := @fstore
        cases mb with
        | true =>
          replace good := Lib.hid (good.out rfl)
          clear bad
          go_wp2_with fail
          refine (M _).mono ?_
          rintro _ w1 ⟨rfl, hb1⟩
          replace B1 := Lib.hid (B1.out.trans (hb1.mono B1.out.size))
          clear d0 d1 d2 d3 d4 d5 d6 c0 c1 c2 c3 c4 c5 c6 hb1
          go_wp2_with fail
          go_roundw
          case rel => exact ⟨i + 1, hlt, by go_num, good.out, B1.out⟩
          case measure => simp [intOf]; omega
        | false =>
          replace bad := Lib.hid (bad.out rfl)
          clear good
          go_wp2_with fail
          refine (M _).mono ?_
          rintro _ w1 ⟨rfl, hb1⟩
          replace B1 := Lib.hid (B1.out.trans (hb1.mono B1.out.size))
          clear d0 d1 d2 d3 d4 d5 d6 c0 c1 c2 c3 c4 c5 c6 hb1
          go_wp2_with fail
          go_ret
          exact ⟨ret_iF bad.out.symm, B1.out⟩
      · obtain rfl : i = n := by omega
        have hv : V = 0 := by
          rw [hV.out]
          exact chkF_good (by have := hn.out; omega) (fun j hj => ho j (by have := hn.out; omega))
        replace hv := Lib.hid hv
        replace hb := Lib.hid hb
        clear ho
        go_wp2_with fail
        go_ret
        exact ⟨ret_iF hv.out.symm, hb.out⟩
def readyF (L : List Fr) (i : Int) (t : Bool) : Int := if chkF L ≠ 0 then chkF L else if (decide (-1 ≤ i) && decide (i < (L.length : Int))) = false then 1 else if t = false then 80 else 0
theorem readyF_zero {L : List Fr} {i : Int} {t : Bool} (h : readyF L i t = 0) : chkF L = 0 ∧ -1 ≤ i ∧ i < (L.length : Int) ∧ t = true := by
  unfold readyF at h
  by_cases h1 : chkF L ≠ 0
  · rw [if_pos h1] at h; exact absurd h h1
  · rw [if_neg h1] at h
    by_cases h2 : (decide (-1 ≤ i) && decide (i < (L.length : Int))) = false
    · rw [if_pos h2] at h; omega
    · rw [if_neg h2] at h
      rw [Bool.not_eq_false] at h2
      simp only [Bool.and_eq_true, decide_eq_true_eq] at h2
      cases t with
      | true => exact ⟨by simpa using h1, h2.1, h2.2, rfl⟩
      | false => rw [if_pos rfl] at h; omega
set_option maxHeartbeats 4000000 in
set_option maxRecDepth 100000 in
theorem ready_run (ao : Option Addr) (cap n : Nat) (L : List Fr) (i : Int) (t : Bool) (w : World) (hn : n = L.length) (hm : n ≤ 4611686018427387904) (hW : FsW L) (ha : FAt w ao L) :
    Calls Tryz.prog 14 #[.slice ao n cap, .int .i64 i, .bool t] w fun e w' => e = .returned (.int .i64 (readyF L i t)) ∧ Below w.heap.size w w' := by
  have C := Lib.hid (fcheck_run ao cap n L w hn hm hW ha)
  have H := fun w => has_run ao n cap i w
  unfold readyF
  rw [← hn]
  generalize chkF L = k at *
  generalize (decide (-1 ≤ i) && decide (i < (n : Int))) = b at *
  clear hn hm hW ha
  by_cases hk : k = 0
  · subst hk
    rw [if_neg (by simp)]
    cases b with
    | false =>
      rw [if_pos rfl]
      go_enter Tryz.func14, Tryz.ntmps14
      go_wp2_with fail
      refine C.out.mono ?_
      rintro _ w1 ⟨rfl, hb1⟩
      replace hb1 := Lib.hid hb1
      clear C
      go_wp2_with (go_at_call 29; ((with_reducible refine (H _).mono ?_); rintro e w' ⟨rfl, rfl⟩))
      go_ret
      exact ⟨rfl, hb1.out⟩
    | true =>
      rw [if_neg (by simp)]
      cases t with
      | false =>
        rw [if_pos rfl]
        go_enter Tryz.func14, Tryz.ntmps14
        go_wp2_with fail
        refine C.out.mono ?_
        rintro _ w1 ⟨rfl, hb1⟩
        replace hb1 := Lib.hid hb1
        clear C
        go_wp2_with (go_at_call 29; ((with_reducible refine (H _).mono ?_); rintro e w' ⟨rfl, rfl⟩))
        go_ret
        exact ⟨rfl, hb1.out⟩
      | true =>
        rw [if_neg (by simp)]
        go_enter Tryz.func14, Tryz.ntmps14
        go_wp2_with fail
        refine C.out.mono ?_
        rintro _ w1 ⟨rfl, hb1⟩
        replace hb1 := Lib.hid hb1
        clear C
        go_wp2_with (go_at_call 29; ((with_reducible refine (H _).mono ?_); rintro e w' ⟨rfl, rfl⟩))
        go_ret
        exact ⟨rfl, hb1.out⟩
  · have tk : (k != 0) = true := by simpa using hk
    rw [if_pos hk]
    clear hk H
    go_enter Tryz.func14, Tryz.ntmps14
    go_wp2_with fail
    refine C.out.mono ?_
    rintro _ w1 ⟨rfl, hb1⟩
    replace hb1 := Lib.hid hb1
    clear C
    go_wp2_with fail
    go_ret
    exact ⟨rfl, hb1.out⟩
end Go.Proofs.YtgblpibanagcgaaGreat
