/- Proved here: what the texts Pck, Pcb, Psc, Phn, Hcc, Hcd, Hce prove, one behind the other. -/
import Derived.Test.YtnmadknpkhaolaaJz16
import Derived.Test.YtnmadknpkhaolaaJz4
import Derived.Test.YtnmadknpkhaolaaJz6
import Derived.Test.YtnmadknpkhaolaaJz7
import Derived.Test.YtnmadknpkhaolaaJz13
import Derived.Deep.CutRange
import Derived.Test.YtnmadknpkhaolaaJz15
import Derived.Laws.MakeOwn
import Derived.Laws.OwnMore

namespace Go.Proofs.Ytnmadknpkhaolaa
open Go.ChangeShapes Go.WideShapes Go.ChangeAt Go.RowKit Ieee.Own

/-- is the word fit and of a magnitude of at most m? -/
def inM (m x : Nat) : Bool := decide (fitB x = true ∧ x % 9223372036854775808 ≤ m)
def m40 : Nat := 4787326403894837248
def m00 : Nat := 4607182418800017408
/-- what is wrong with coefficients -/
def errC (L : List Nat) : Int := if 16 < L.length then 2 else if L.all (inM m40) = true then 0 else 3
def errX (m : Nat) (L : List Nat) (x : Nat) : Int := if errC L = 0 then (if inM m x = true then 0 else 3) else errC L
theorem all_at {f : Nat → Bool} {L : List Nat} : L.all f = true ↔ ∀ j, j < L.length → f (L.getD j 0) = true := by
  rw [List.all_eq_true]
  constructor
  · intro h j hj; exact h _ (by simp [List.getD, hj])
  · intro h x hx
    obtain ⟨j, hj, rfl⟩ := List.mem_iff_getElem.1 hx
    have := h j hj
    simpa [List.getD, hj] using this
theorem inM_bd {m x : Nat} (hx : x < 18446744073709551616) (h : inM m x = true) : FinW x ∧ fitB x = true ∧ (V x).natAbs ≤ val 52 m := by
  unfold inM at h
  rw [decide_eq_true_eq] at h
  have f := fit_fin hx h.1
  refine ⟨f, h.1, ?_⟩
  rw [V_abs' x f]
  by_cases q : x % 9223372036854775808 = m
  · rw [q]; exact Nat.le_refl _
  · exact Nat.le_of_lt (val_lt (by omega))
theorem m40_V : val 52 m40 = 2 ^ 1114 := by decide +kernel
theorem m00_V : val 52 m00 = 2 ^ 1074 := by decide +kernel
theorem inM_fc {x : Nat} (hx : x < 18446744073709551616) (h : inM m40 x = true) : Fc x := by
  have := inM_bd hx h
  rw [m40_V] at this
  exact ⟨hx, this.2.1, this.2.2⟩
theorem errC_zero {L : List Nat} (hw : Words L) (h : errC L = 0) : L.length ≤ 16 ∧ ∀ c ∈ L, Fc c := by
  unfold errC at h
  split at h
  · omega
  · rename_i h1
    split at h
    · rename_i h2
      rw [List.all_eq_true] at h2
      exact ⟨by omega, fun c hc => inM_fc (hw c hc) (h2 c hc)⟩
    · omega
theorem errX_zero {m x : Nat} {L : List Nat} (h : errX m L x = 0) : errC L = 0 ∧ inM m x = true := by
  unfold errX at h
  split at h
  · rename_i c
    split at h
    · rename_i d; exact ⟨c, d⟩
    · omega
  · rename_i c; exact absurd h c
set_option maxRecDepth 100000 in
theorem pwithin_run (m x : Nat) (hm : m < 9218868437227405312) (hx : x < 18446744073709551616) (w : World) :
    Calls Try.prog 64 #[.float .f64 x, .float .f64 m] w fun e w' => e = .returned (.bool (inM m x)) ∧ w = w' := by
  have CF := fun w => fit_any x hx w
  have CA := fun w => abs_any x hx w
  have g := o_leq (x % 9223372036854775808) m (by omega) (by omega)
  rw [key_low (by omega), key_low (by omega)] at g
  by_cases h1 : fitB x = true
  · have fn := fit_fin hx h1
    have m' := fn.2
    rw [h1] at CF
    have n1 : nn (x % 9223372036854775808) := by unfold nn; omega
    have n2 : nn m := by unfold nn; omega
    have e : inM m x = decide (x % 9223372036854775808 ≤ m) := by unfold inM; rw [h1]; simp
    by_cases h2 : x % 9223372036854775808 ≤ m
    · rw [decide_eq_true ⟨n1, n2, by omega⟩] at g
      rw [e, decide_eq_true h2]
      clear hx h1 fn m' h2 e hm n1 n2
      generalize x % 9223372036854775808 = y at *
      go_enter Try.func64, Try.ntmps64
      go_wp2_with (first | (go_at_call 66; ((with_reducible refine (CF _).mono ?_); rintro e w' ⟨rfl, rfl⟩)) | (go_at_call 29; ((with_reducible refine (CA _).mono ?_); rintro e w' ⟨rfl, rfl⟩)))
      go_ret
      exact ⟨rfl, rfl⟩
    · rw [decide_eq_false (fun h => h2 (by have := h.2.2; omega))] at g
      rw [e, decide_eq_false h2]
      clear hx h1 fn m' h2 e hm n1 n2
      generalize x % 9223372036854775808 = y at *
      go_enter Try.func64, Try.ntmps64
      go_wp2_with (first | (go_at_call 66; ((with_reducible refine (CF _).mono ?_); rintro e w' ⟨rfl, rfl⟩)) | (go_at_call 29; ((with_reducible refine (CA _).mono ?_); rintro e w' ⟨rfl, rfl⟩)))
      go_ret
      exact ⟨rfl, rfl⟩
  · have e : inM m x = false := decide_eq_false (fun h => h1 h.1)
    rw [Bool.not_eq_true] at h1
    rw [h1] at CF
    rw [e]
    clear hx h1 e g hm
    go_enter Try.func64, Try.ntmps64
    go_wp2_with (first | (go_at_call 66; ((with_reducible refine (CF _).mono ?_); rintro e w' ⟨rfl, rfl⟩)) | (go_at_call 29; ((with_reducible refine (CA _).mono ?_); rintro e w' ⟨rfl, rfl⟩)))
    go_ret
    exact ⟨rfl, rfl⟩

set_option maxRecDepth 100000 in
theorem pcheck_run (ao : Option Addr) (cap n : Nat) (L : List Nat) (w : World) (hn : n = L.length) (hm : n ≤ 4611686018427387904) (hw : Words L) (ha : At w ao L) :
    Calls Try.prog 38 #[.slice ao n cap] w fun e w' => e = .returned (.int .i64 (errC L)) ∧ w = w' := by
  by_cases hbig : 16 < n
  · have hE : errC L = 2 := by unfold errC; rw [if_pos (by omega)]
    rw [hE]
    clear hE ha hw hn
    go_enter Try.func38, Try.ntmps38
    go_wp2_with fail
    go_ret
    exact ⟨rfl, rfl⟩
  have hE : errC L = if L.all (inM m40) = true then 0 else 3 := by unfold errC; rw [if_neg (by omega)]
  have hF := all_at (f := inM m40) (L := L)
  replace hn := Lib.hid hn
  replace hw := Lib.hid hw
  replace ha := Lib.hid ha
  replace hE := Lib.hid hE
  replace hF := Lib.hid hF
  go_enter Try.func38, Try.ntmps38
  go_wp2_with fail
  go_loop [10] (fun iv => ∃ i : Nat, i ≤ n ∧ iv = .int .i64 i ∧ ∀ j, j < i → inM m40 (L.getD j 0) = true) (fun iv => n - (intOf iv).toNat)
  case atStart => exact ⟨0, Nat.zero_le _, rfl, fun j hj => by omega⟩
  case round =>
    obtain ⟨i, hi, rfl, hall⟩ := hrel
    replace hall := Lib.hid hall
    by_cases hlt : i < n
    · have hil : i < L.length := by have := hn.out; omega
      obtain ⟨b, o, rfl, hc⟩ := ha.out i hil
      have C := fun w => pwithin_run m40 _ (by decide) (hw.out.at hil) w
      by_cases hf : inM m40 (L.getD i 0) = true
      · have hall' : Hid (∀ j, j < i + 1 → inM m40 (L.getD j 0) = true) := by
          intro j hj
          by_cases e : j = i
          · rw [e]; exact hf
          · exact hall.out j (by omega)
        rw [hf] at C
        obtain ⟨u, hu⟩ : ∃ u, u = L.getD i 0 := ⟨_, rfl⟩
        rw [← hu] at hc C
        unfold m40 at C
        clear hu hf hil hall
        go_wp2_with (go_at_call 64; ((with_reducible refine (C _).mono ?_); rintro e w' ⟨rfl, rfl⟩))
        go_round
        case rel => exact ⟨i + 1, hlt, by go_num, hall'.out⟩
        case measure => simp [intOf]; omega
      · have hE2 : Hid (errC L = 3) := by
          show errC L = 3
          rw [hE.out, if_neg (fun h => hf (hF.out.1 h i hil))]
        rw [Bool.not_eq_true] at hf
        rw [hf] at C
        obtain ⟨u, hu⟩ : ∃ u, u = L.getD i 0 := ⟨_, rfl⟩
        rw [← hu] at hc C
        unfold m40 at C
        clear hu hf hil hall
        go_wp2_with (go_at_call 64; ((with_reducible refine (C _).mono ?_); rintro e w' ⟨rfl, rfl⟩))
        go_ret
        exact ⟨ret_i hE2.out.symm, rfl⟩
    · have hE2 : Hid (errC L = 0) := by
        show errC L = 0
        rw [hE.out, if_pos (hF.out.2 (fun j hj => hall.out j (by have := hn.out; omega)))]
      clear hall
      go_wp2_with fail
      go_ret
      exact ⟨ret_i hE2.out.symm, rfl⟩

set_option maxRecDepth 100000 in
theorem checkAt_run (m : Nat) (hm' : m < 9218868437227405312) (ao : Option Addr) (cap n : Nat) (L : List Nat) (x : Nat) (w : World) (hn : n = L.length) (hm : n ≤ 4611686018427387904) (hw : Words L) (ha : At w ao L) (hx : x < 18446744073709551616) :
    Calls Try.prog 87 #[.slice ao n cap, .float .f64 x, .float .f64 m] w fun e w' => e = .returned (.int .i64 (errX m L x)) ∧ w = w' := by
  have K := pcheck_run ao cap n L w hn hm hw ha
  have C := fun w => pwithin_run m x hm' hx w
  clear ha hw hn hm hx
  by_cases h0 : errC L = 0
  · have e : errX m L x = if inM m x = true then 0 else 3 := if_pos h0
    rw [h0] at K
    rw [e]
    clear e h0
    generalize inM m x = q at *
    cases q
    · go_enter Try.func87, Try.ntmps87
      go_wp2_with (first | (go_at_call 38; ((with_reducible refine K.mono ?_); rintro e w' ⟨rfl, rfl⟩)) | (go_at_call 64; ((with_reducible refine (C _).mono ?_); rintro e w' ⟨rfl, rfl⟩)))
      go_ret
      exact ⟨rfl, rfl⟩
    · go_enter Try.func87, Try.ntmps87
      go_wp2_with (first | (go_at_call 38; ((with_reducible refine K.mono ?_); rintro e w' ⟨rfl, rfl⟩)) | (go_at_call 64; ((with_reducible refine (C _).mono ?_); rintro e w' ⟨rfl, rfl⟩)))
      go_ret
      exact ⟨rfl, rfl⟩
  · have e : errX m L x = errC L := if_neg h0
    have t0 : (errC L == 0) = false := by simpa using h0
    have t1 : (errC L != 0) = true := by simpa using h0
    rw [e]
    clear e C
    generalize errC L = k at *
    go_enter Try.func87, Try.ntmps87
    go_wp2_with (first | (go_at_call 38; ((with_reducible refine K.mono ?_); rintro e w' ⟨rfl, rfl⟩)))
    go_ret
    exact ⟨rfl, rfl⟩
end Go.Proofs.Ytnmadknpkhaolaa

namespace Go.Proofs.Ytnmadknpkhaolaa
open Go.ChangeShapes Go.WideShapes Go.ChangeAt Go.RowKit Ieee.Own

theorem inM_iff {m x : Nat} (hm : m < 9218868437227405312) (hx : x < 18446744073709551616) (f : fitB x = true) : inM m x = true ↔ -V m ≤ V x ∧ V x ≤ V m := by
  have fx := fit_fin hx f
  have fm : FinW m := ⟨by omega, by omega⟩
  have a := V_abs' x fx
  have b : V m = val 52 m := by
    unfold V
    rw [if_pos (by omega)]
  unfold inM
  rw [decide_eq_true_eq, b]
  have l := val_lt_iff 52 m (x % 9223372036854775808)
  constructor
  · intro h
    have : ¬ val 52 m < val 52 (x % 9223372036854775808) := fun c => by have := l.1 c; omega
    omega
  · intro h
    refine ⟨f, Nat.not_lt.1 fun c => ?_⟩
    have := l.2 c
    omega
set_option maxRecDepth 100000 in
theorem rpcheck_run (ao : Option Addr) (cap n : Nat) (L : List Nat) (w : World) (hn : n = L.length) (hm : n ≤ 4611686018427387904) (hw : Words L) (ha : At w ao L) :
    Calls Try.prog 27 #[.slice ao n cap] w fun e w' => e = .returned (.int .i64 (errC L)) ∧ w = w' := by
  by_cases hbig : 16 < n
  · have hE : errC L = 2 := by unfold errC; rw [if_pos (by omega)]
    rw [hE]
    clear hE ha hw hn
    go_enter Try.func27, Try.ntmps27
    go_wp2_with fail
    go_ret
    exact ⟨rfl, rfl⟩
  have hE : errC L = if L.all (inM m40) = true then 0 else 3 := by unfold errC; rw [if_neg (by omega)]
  have hF := all_at (f := inM m40) (L := L)
  replace hn := Lib.hid hn
  replace hw := Lib.hid hw
  replace ha := Lib.hid ha
  replace hE := Lib.hid hE
  replace hF := Lib.hid hF
  have hV : Hid (V 4787326403894837248 = V m40 ∧ V 14010698440749613056 = -V m40) := by show _ ∧ _; decide +kernel
  go_enter Try.func27, Try.ntmps27
  go_wp2_with fail
  go_loop [3] (fun iv => ∃ i : Nat, i ≤ n ∧ iv = .int .i64 i ∧ ∀ j, j < i → inM m40 (L.getD j 0) = true) (fun iv => n - (intOf iv).toNat)
  case atStart => exact ⟨0, Nat.zero_le _, rfl, fun j hj => by omega⟩
  case round =>
    obtain ⟨i, hi, rfl, hall⟩ := hrel
    replace hall := Lib.hid hall
    by_cases hlt : i < n
    · have hil : i < L.length := by have := hn.out; omega
      obtain ⟨b, o, rfl, hc⟩ := ha.out i hil
      have hx := hw.out.at hil
      have C := fun w => rfit_any _ hx w
      by_cases hf : inM m40 (L.getD i 0) = true
      · have hall' : Hid (∀ j, j < i + 1 → inM m40 (L.getD j 0) = true) := by
          intro j hj
          by_cases e : j = i
          · rw [e]; exact hf
          · exact hall.out j (by omega)
        have f := (inM_bd hx hf).2.1
        have hi2 := (inM_iff (m := m40) (by decide) hx f).1 hf
        have fx := fit_fin hx f
        have g1 := gt_words fx (show FinW 4787326403894837248 from ⟨by omega, by omega⟩)
        have g2 := lt_words fx (show FinW 14010698440749613056 from ⟨by omega, by omega⟩)
        rw [hV.out.1, decide_eq_false (by omega)] at g1
        rw [hV.out.2, decide_eq_false (by omega)] at g2
        rw [f] at C
        obtain ⟨u, hu⟩ : ∃ u, u = L.getD i 0 := ⟨_, rfl⟩
        rw [← hu] at hc C g1 g2
        clear hu hf hil hall f hi2 fx hx hV
        go_wp2_with (go_at_call 51; ((with_reducible refine (C _).mono ?_); rintro e w' ⟨rfl, rfl⟩))
        go_round
        case rel => exact ⟨i + 1, hlt, by go_num, hall'.out⟩
        case measure => simp [intOf]; omega
      · have hE2 : Hid (errC L = 3) := by
          show errC L = 3
          rw [hE.out, if_neg (fun h => hf (hF.out.1 h i hil))]
        by_cases f : fitB (L.getD i 0) = true
        · have hi2 : ¬ (-V m40 ≤ V (L.getD i 0) ∧ V (L.getD i 0) ≤ V m40) := fun h => hf ((inM_iff (m := m40) (by decide) hx f).2 h)
          have fx := fit_fin hx f
          have g1 := gt_words fx (show FinW 4787326403894837248 from ⟨by omega, by omega⟩)
          have g2 := lt_words fx (show FinW 14010698440749613056 from ⟨by omega, by omega⟩)
          rw [hV.out.1] at g1
          rw [hV.out.2] at g2
          rw [f] at C
          by_cases d : V m40 < V (L.getD i 0)
          · rw [decide_eq_true d] at g1
            obtain ⟨u, hu⟩ : ∃ u, u = L.getD i 0 := ⟨_, rfl⟩
            rw [← hu] at hc C g1
            clear hu hf hil hall f hi2 fx hx hV d g2
            go_wp2_with (go_at_call 51; ((with_reducible refine (C _).mono ?_); rintro e w' ⟨rfl, rfl⟩))
            go_ret
            exact ⟨ret_i hE2.out.symm, rfl⟩
          · rw [decide_eq_false d] at g1
            rw [decide_eq_true (by omega)] at g2
            obtain ⟨u, hu⟩ : ∃ u, u = L.getD i 0 := ⟨_, rfl⟩
            rw [← hu] at hc C g1 g2
            clear hu hf hil hall f hi2 fx hx hV d
            go_wp2_with (go_at_call 51; ((with_reducible refine (C _).mono ?_); rintro e w' ⟨rfl, rfl⟩))
            go_ret
            exact ⟨ret_i hE2.out.symm, rfl⟩
        · rw [Bool.not_eq_true] at f
          rw [f] at C
          obtain ⟨u, hu⟩ : ∃ u, u = L.getD i 0 := ⟨_, rfl⟩
          rw [← hu] at hc C
          clear hu hf hil hall hx hV f
          go_wp2_with (go_at_call 51; ((with_reducible refine (C _).mono ?_); rintro e w' ⟨rfl, rfl⟩))
          go_ret
          exact ⟨ret_i hE2.out.symm, rfl⟩
    · have hE2 : Hid (errC L = 0) := by
        show errC L = 0
        rw [hE.out, if_pos (hF.out.2 (fun j hj => hall.out j (by have := hn.out; omega)))]
      clear hall
      go_wp2_with fail
      go_ret
      exact ⟨ret_i hE2.out.symm, rfl⟩

end Go.Proofs.Ytnmadknpkhaolaa

namespace Go.Proofs.Ytnmadknpkhaolaa
open Go.ChangeShapes Go.WideShapes Go.ChangeAt Go.RowKit Ieee.Own

end Go.Proofs.Ytnmadknpkhaolaa

namespace Go.Proofs.Ytnmadknpkhaolaa
open Go.ChangeShapes Go.WideShapes Go.ChangeAt Go.RowKit Ieee.Own

/-- a list that came in, below all that the call makes -/
structure Lin (B : Nat) (ao : Option Addr) (L : List Nat) (w : World) : Prop where
  at_ : At w ao L
  lt : ∀ b o, ao = some ⟨b, o, none⟩ → 0 < L.length → b < B
  size : B ≤ w.heap.size
theorem Lin.on {B : Nat} {ao : Option Addr} {L : List Nat} {w w' : World} (h : Lin B ao L w) (hb : Below w.heap.size w w') : Lin B ao L w' :=
  ⟨h.at_.later hb (fun b o e p => Nat.lt_of_lt_of_le (h.lt b o e p) h.size), h.lt, Nat.le_trans h.size hb.size⟩
theorem Lin.alloc {B : Nat} {ao : Option Addr} {L : List Nat} {w : World} (h : Lin B ao L w) (o : Obj) : Lin B ao L (w.alloc o) := h.on ((Below.refl _ w).alloc (Nat.le_refl _) o)
theorem Lin.drew {B : Nat} {ao : Option Addr} {L : List Nat} {w : World} (h : Lin B ao L w) : Lin B ao L w.drew := ⟨h.at_, h.lt, h.size⟩
theorem Lin.put {B : Nat} {ao : Option Addr} {L : List Nat} {w : World} (h : Lin B ao L w) {g : Nat} (hg : B ≤ g) (s t : Nat) : Lin B ao L (put2 w g s t) := by
  refine ⟨fun j hj => ?_, h.lt, by rw [put2_size]; exact h.size⟩
  obtain ⟨b, o, e, hc⟩ := h.at_ j hj
  refine ⟨b, o, e, ?_⟩
  have := h.lt b o e (by omega)
  rw [put2_cell _ (by show b ≠ g; omega)]; exact hc
theorem Lin.cell {B b o : Nat} {L : List Nat} {w : World} (h : Lin B (some ⟨b, o, none⟩) L w) {k : Nat} (hk : k < L.length) : w.cell? ⟨b, o + k, none⟩ = some (.float .f64 (L.getD k 0)) := by
  obtain ⟨b', o', e, hc⟩ := h.at_ k hk
  simp only [Option.some.injEq, Addr.mk.injEq, and_true] at e
  obtain ⟨rfl, rfl⟩ := e
  exact hc

end Go.Proofs.Ytnmadknpkhaolaa

namespace Go.Proofs.Ytnmadknpkhaolaa
open Go.ChangeShapes Go.WideShapes Go.ChangeAt Go.RowKit Ieee.Own

/-! ### a list of binary32 -/
def fsC (x : Nat) : List Value := [.float .f32 x]
/-- a slice that holds these -/
def FsAt (w : World) (v : Value) (L : List Nat) : Prop := ∃ ao cap, v = .slice ao L.length cap ∧ L.length ≤ cap ∧ cap ≤ maxLen ∧ (ao = none → cap = 0) ∧ RAt w ao 1 (L.map fsC)
theorem FsAt.on {w w' : World} {v : Value} {L : List Nat} (h : FsAt w v L) (hb : Below w.heap.size w w') : FsAt w' v L := by
  obtain ⟨ao, cap, h1, h2, h3, h4, h5⟩ := h
  exact ⟨ao, cap, h1, h2, h3, h4, h5.on hb⟩
theorem fs_cell {w : World} {ao : Option Addr} {L : List Nat} (h : RAt w ao 1 (L.map fsC)) {j : Nat} (hj : j < L.length) : ∃ b o, ao = some ⟨b, o, none⟩ ∧ b < w.heap.size ∧ w.cell? ⟨b, o + j, none⟩ = some (.float .f32 (L.getD j 0)) := by
  obtain ⟨b, o, e, hb, hc⟩ := h j (fsC (L.getD j 0)) (by simp [List.getD, hj])
  have := hc 0 _ rfl
  rw [Nat.mul_one, Nat.add_zero] at this
  exact ⟨b, o, e, hb, this⟩
/-! ### rows of three lists -/
def cfT (T : List (List (List Nat))) (i k : Nat) : List Nat := (T.getD i []).getD k []
def TbAt (w : World) (ao : Option Addr) (T : List (List (List Nat))) : Prop :=
  ∀ i, i < T.length → ∃ b o v0 v1 v2, ao = some ⟨b, o, none⟩ ∧ b < w.heap.size ∧ w.cell? ⟨b, o + i * 3, none⟩ = some v0 ∧ w.cell? ⟨b, o + i * 3 + 1, none⟩ = some v1 ∧ w.cell? ⟨b, o + i * 3 + 2, none⟩ = some v2 ∧
    FsAt w v0 (cfT T i 0) ∧ FsAt w v1 (cfT T i 1) ∧ FsAt w v2 (cfT T i 2)
theorem TbAt.on {w w' : World} {ao : Option Addr} {T : List (List (List Nat))} (h : TbAt w ao T) (hb : Below w.heap.size w w') : TbAt w' ao T := by
  intro i hi
  obtain ⟨b, o, v0, v1, v2, e, hl, c0, c1, c2, f0, f1, f2⟩ := h i hi
  exact ⟨b, o, v0, v1, v2, e, Nat.lt_of_lt_of_le hl hb.size, (hb.cell (p := ⟨b, _, none⟩) hl).trans c0, (hb.cell (p := ⟨b, _, none⟩) hl).trans c1, (hb.cell (p := ⟨b, _, none⟩) hl).trans c2, f0.on hb, f1.on hb, f2.on hb⟩
theorem TbAt.alloc {w : World} {ao : Option Addr} {T : List (List (List Nat))} (h : TbAt w ao T) (o : Obj) : TbAt (w.alloc o) ao T := h.on ((Below.refl _ _).alloc (Nat.le_refl _) o)
theorem FsAt.alloc {w : World} {v : Value} {L : List Nat} (h : FsAt w v L) (o : Obj) : FsAt (w.alloc o) v L := h.on ((Below.refl _ _).alloc (Nat.le_refl _) o)
/-- a table -/
structure Tb where
  fr : Nat
  st : Nat
  rows : List (List (List Nat))
def tbV (t : Tb) (ao : Option Addr) (cap : Nat) : Value := .agg #[.float .f64 t.fr, .float .f64 t.st, .slice ao t.rows.length cap]
def Ws32 (L : List Nat) : Prop := ∀ x ∈ L, x < 4294967296
structure TbW (t : Tb) : Prop where
  fr : t.fr < 18446744073709551616
  st : t.st < 18446744073709551616
  w : ∀ i k, Ws32 (cfT t.rows i k)
theorem ws_at {L : List Nat} (h : Ws32 L) (j : Nat) : L.getD j 0 < 4294967296 := by
  by_cases hj : j < L.length
  · exact h _ (by simp [List.getD, hj])
  · have : L.getD j 0 = 0 := by simp [List.getD, hj]
    rw [this]; omega
theorem ws_wide {L : List Nat} (h : Ws32 L) : Words (L.map wideW) := by
  intro x hx
  obtain ⟨y, hy, rfl⟩ := List.mem_map.1 hx
  exact wideW_lt y (h y hy)
/-! ### a block made full of noughts, written from the front on -/
theorem madeB (w : World) (z : Value) (n : Nat) (t : TypeId) : BV (w.alloc (.cells (madeCells #[z] n) t)) w.heap.size (List.replicate n z) := by
  have e : (madeCells #[z] n) = (List.replicate n z).toArray := by
    apply Array.toList_inj.1
    rw [toList_madeCells_one]
  rw [e]
  exact BV.box w t _
/-- the words so far, noughts behind -/
def lay (L : List Nat) (i n : Nat) : List Value := (L.take i).map (Value.float .f64) ++ List.replicate (n - i) (.float .f64 0)
theorem lay_zero (L : List Nat) (n : Nat) : lay L 0 n = List.replicate n (.float .f64 0) := by unfold lay; simp
theorem lay_at {L : List Nat} {i n : Nat} (hn : n = L.length) (hi : i < n) : (lay L i n)[i]? = some (.float .f64 0) := by
  unfold lay
  rw [List.getElem?_append_right (by simp; omega)]
  rw [List.getElem?_replicate, if_pos (by simp; omega)]
theorem lay_set {L : List Nat} {i n : Nat} (hn : n = L.length) (hi : i < n) : (lay L i n).set i (.float .f64 (L.getD i 0)) = lay L (i + 1) n := by
  have hl : ((L.take i).map (Value.float .f64)).length = i := by simp; omega
  unfold lay
  rw [List.set_append_right _ _ (by rw [hl]; exact Nat.le_refl _), hl, Nat.sub_self, show n - i = (n - (i + 1)) + 1 by omega, List.replicate_succ, List.set_cons_zero]
  have e : L.take (i + 1) = L.take i ++ [L.getD i 0] := by
    rw [List.take_add_one]
    congr 1
    have : i < L.length := by omega
    simp [List.getD, this]
  rw [e, List.map_append, List.append_assoc]
  rfl
theorem lay_full {w : World} {g n : Nat} {L : List Nat} (hn : n = L.length) (h : BV w g (lay L n n)) : At w (some ⟨g, 0, none⟩) L := by
  intro j hj
  refine ⟨g, 0, rfl, ?_⟩
  rw [Nat.zero_add]
  refine h.at_ j _ ?_
  unfold lay
  rw [Nat.sub_self, List.replicate_zero, List.append_nil, hn, List.take_length]
  simp [List.getD, hj]
set_option maxRecDepth 100000 in
theorem make64 (n : Nat) (hn : n ≤ 16) (w : World) : (Instr.makeSlice 22 (.int .i64 (n : Int)) (.int .i64 (n : Int))).run Try.prog w = .ok (.slice (some ⟨w.heap.size, 0, none⟩) n n) (w.alloc (.cells (madeCells #[.float .f64 0] n) 30)) := by
  obtain ⟨i0, hi0, hz0, hz1, hz2⟩ := info_parts infoF
  have := run_make (P := Try.prog) w 22 30 i0 _ Try.underlying22 hi0 hz0 .i64 .i64 n n (by omega) (by omega) (by rw [hz2]; omega) (by omega)
  rw [hz1, Nat.mul_one] at this
  exact this
end Go.Proofs.Ytnmadknpkhaolaa

namespace Go.Proofs.Ytnmadknpkhaolaa
open Go.ChangeShapes Go.WideShapes Go.ChangeAt Go.RowKit Ieee.Own

def m24 : Nat := 4715268809856909312
def s10 : Nat := 4562146422526312448

set_option maxRecDepth 100000 in
theorem ctime_run (x : Nat) (hx : x < 18446744073709551616) (w : World) :
    Calls Try.prog 41 #[.float .f64 x] w fun e w' => e = .returned (.bool (inM m24 x)) ∧ w = w' := by
  have CF := fun w => fit_any x hx w
  have CA := fun w => abs_any x hx w
  have g := o_leq (x % 9223372036854775808) 4715268809856909312 (by omega) (by omega)
  rw [key_low (by omega), key_low (by omega)] at g
  by_cases h1 : fitB x = true
  · have fn := fit_fin hx h1
    have m' := fn.2
    rw [h1] at CF
    have n1 : nn (x % 9223372036854775808) := by unfold nn; omega
    have n2 : nn 4715268809856909312 := by unfold nn; omega
    have e : inM m24 x = decide (x % 9223372036854775808 ≤ 4715268809856909312) := by unfold inM m24; rw [h1]; simp
    by_cases h2 : x % 9223372036854775808 ≤ 4715268809856909312
    · rw [decide_eq_true ⟨n1, n2, by omega⟩] at g
      rw [e, decide_eq_true h2]
      clear hx h1 fn m' h2 e n1 n2
      generalize x % 9223372036854775808 = y at *
      go_enter Try.func41, Try.ntmps41
      go_wp2_with (first | (go_at_call 66; ((with_reducible refine (CF _).mono ?_); rintro e w' ⟨rfl, rfl⟩)) | (go_at_call 29; ((with_reducible refine (CA _).mono ?_); rintro e w' ⟨rfl, rfl⟩)))
      go_ret
      exact ⟨rfl, rfl⟩
    · rw [decide_eq_false (fun h => h2 (by have := h.2.2; omega))] at g
      rw [e, decide_eq_false h2]
      clear hx h1 fn m' h2 e n1 n2
      generalize x % 9223372036854775808 = y at *
      go_enter Try.func41, Try.ntmps41
      go_wp2_with (first | (go_at_call 66; ((with_reducible refine (CF _).mono ?_); rintro e w' ⟨rfl, rfl⟩)) | (go_at_call 29; ((with_reducible refine (CA _).mono ?_); rintro e w' ⟨rfl, rfl⟩)))
      go_ret
      exact ⟨rfl, rfl⟩
  · have e : inM m24 x = false := decide_eq_false (fun h => h1 h.1)
    rw [Bool.not_eq_true] at h1
    rw [h1] at CF
    rw [e]
    clear hx h1 e g
    go_enter Try.func41, Try.ntmps41
    go_wp2_with (first | (go_at_call 66; ((with_reducible refine (CF _).mono ?_); rintro e w' ⟨rfl, rfl⟩)) | (go_at_call 29; ((with_reducible refine (CA _).mono ?_); rintro e w' ⟨rfl, rfl⟩)))
    go_ret
    exact ⟨rfl, rfl⟩

/-- brought to a fit one -/
def bgW (x : Nat) : Nat := if fitB x = true then x else 0
set_option maxRecDepth 100000 in
theorem cbrought_run (x : Nat) (hx : x < 18446744073709551616) (w : World) : Calls Try.prog 65 #[.float .f64 x] w fun e w' => e = .returned (.float .f64 (bgW x)) ∧ w = w' := by
  have CF := fun w => fit_any x hx w
  by_cases h1 : fitB x = true
  · have e : bgW x = x := if_pos h1
    rw [e]
    rw [h1] at CF
    clear hx h1 e
    go_enter Try.func65, Try.ntmps65
    go_wp2_with (first | (go_at_call 66; ((with_reducible refine (CF _).mono ?_); rintro e w' ⟨rfl, rfl⟩)))
    go_ret
    exact ⟨rfl, rfl⟩
  · have e : bgW x = 0 := if_neg h1
    rw [e]
    rw [Bool.not_eq_true] at h1
    rw [h1] at CF
    clear hx h1 e
    go_enter Try.func65, Try.ntmps65
    go_wp2_with (first | (go_at_call 66; ((with_reducible refine (CF _).mono ?_); rintro e w' ⟨rfl, rfl⟩)))
    go_ret
    exact ⟨rfl, rfl⟩
set_option maxRecDepth 100000 in
theorem csure_run (x : Nat) (k : Int) (w : World) : Calls Try.prog 61 #[.float .f64 x, .int .i64 k] w fun e w' => e = .returned (.float .f64 x) ∧ w = w' := by
  go_enter Try.func61, Try.ntmps61
  go_wp2_with fail
  go_ret
  exact ⟨rfl, rfl⟩

set_option maxHeartbeats 4000000 in
set_option maxRecDepth 100000 in
theorem cwide_run {v : Value} {L : List Nat} (w : World) (hl : L.length ≤ 16) (hw : Ws32 L) (h : FsAt w v L) :
    Calls Try.prog 67 #[v] w fun e w' => ∃ g, e = .returned (.slice (some ⟨g, 0, none⟩) L.length L.length) ∧ w.heap.size ≤ g ∧ At w' (some ⟨g, 0, none⟩) (L.map wideW) ∧ Below w.heap.size w w' := by
  obtain ⟨ao, cap, rfl, hc, hm, hn0, ha⟩ := h
  obtain ⟨n, hn⟩ : ∃ n, n = L.length := ⟨_, rfl⟩
  rw [← hn] at hl hc ⊢
  have mk := make64 n hl
  have hst := @fstore
  obtain ⟨M, hM⟩ : ∃ M, M = L.map wideW := ⟨_, rfl⟩
  have hnM : Hid (n = M.length) := Lib.hid (by rw [hM, List.length_map]; exact hn)
  rw [← hM]
  have B0 : Hid (BV (w.alloc (.cells (madeCells #[.float .f64 0] n) 30)) w.heap.size (lay M 0 n)) := Lib.hid (by rw [lay_zero]; exact madeB _ _ _ _)
  have b0 : Hid (Below w.heap.size w (w.alloc (.cells (madeCells #[.float .f64 0] n) 30))) := Lib.hid ((Below.refl _ w).alloc (Nat.le_refl _) _)
  replace hn := Lib.hid hn
  replace hM := Lib.hid hM
  replace hw := Lib.hid hw
  replace ha := Lib.hid ha
  clear hc hm hn0
  go_enter Try.func67, Try.ntmps67
  go_wp2_with fail
  go_loopw [10] (fun iv wr => ∃ i : Nat, i ≤ n ∧ iv = .int .i64 i ∧ BV wr w.heap.size (lay M i n) ∧ Below w.heap.size w wr) (fun iv _ => n - (intOf iv).toNat)
  case atStart => exact ⟨0, Nat.zero_le _, rfl, B0.out, b0.out⟩
  case round =>
    obtain ⟨i, hi, rfl, B, hb⟩ := hrel
    by_cases hlt : i < n
    · have hil : i < L.length := by have := hn.out; omega
      obtain ⟨b, o, rfl, hbl, c0⟩ := fs_cell (ha.out.below (fun b o e _ => ha.out.lt b o e (by simp; omega)) hb) hil
      have C := fun w => wide_all (L.getD i 0) (ws_at hw.out i) w
      have eM : Hid (M.getD i 0 = wideW (L.getD i 0)) := Lib.hid (by rw [hM.out]; simp [List.getD, hil])
      generalize wideW (L.getD i 0) = u at *
      generalize L.getD i 0 = x at *
      have hi2 : (i : Int) < (n : Int) := by omega
      replace B := Lib.hid B
      replace hb := Lib.hid hb
      clear hbl hil
      go_wp2_with fail
      refine (C _).mono ?_
      rintro _ w2 ⟨rfl, hd⟩
      have B2 := B.out.on (hd.below _)
      have b2 := Lib.hid (hb.out.trans (hd.below _))
      have c1 := B2.at_ i _ (lay_at hnM.out hlt)
      have f1 := B2.fr i _ (lay_at hnM.out hlt)
      have B3 := B2.set1 (lay_at hnM.out hlt) (.float .f64 u)
      rw [← eM.out, lay_set hnM.out hlt, eM.out] at B3
      replace B3 := Lib.hid B3
      have b3 := Lib.hid (b2.out.setCell (p := ⟨w.heap.size, i, none⟩) (Nat.le_refl _) (.float .f64 u))
      clear B B2 hb c0 C hd b2
      go_wp2_with fail
      go_roundw
      case rel => exact ⟨i + 1, hlt, by go_num, B3.out, b3.out⟩
      case measure => simp [intOf]; omega
    · obtain rfl : i = n := by omega
      replace B := Lib.hid B
      replace hb := Lib.hid hb
      go_wp2_with fail
      go_ret
      exact ⟨_, rfl, Nat.le_refl _, lay_full hnM.out B.out, hb.out⟩
end Go.Proofs.Ytnmadknpkhaolaa

namespace Go.Proofs.Ytnmadknpkhaolaa
open Go.ChangeShapes Go.WideShapes Go.ChangeAt Go.RowKit Ieee.Own

set_option maxRecDepth 100000 in
theorem ih0 (a0 a1 a2 : Option Addr) (l0 l1 l2 p0 p1 p2 : Nat) (w : World) : (Instr.index 69 (.agg #[.slice a0 l0 p0, .slice a1 l1 p1, .slice a2 l2 p2]) (.int .i64 0)).run Try.prog w = .ok (.slice a0 l0 p0) w := by rfl
set_option maxRecDepth 100000 in
theorem ih1 (a0 a1 a2 : Option Addr) (l0 l1 l2 p0 p1 p2 : Nat) (w : World) : (Instr.index 69 (.agg #[.slice a0 l0 p0, .slice a1 l1 p1, .slice a2 l2 p2]) (.int .i64 1)).run Try.prog w = .ok (.slice a1 l1 p1) w := by rfl
set_option maxRecDepth 100000 in
theorem ih2 (a0 a1 a2 : Option Addr) (l0 l1 l2 p0 p1 p2 : Nat) (w : World) : (Instr.index 69 (.agg #[.slice a0 l0 p0, .slice a1 l1 p1, .slice a2 l2 p2]) (.int .i64 2)).run Try.prog w = .ok (.slice a2 l2 p2) w := by rfl
def mayB (L : List Nat) : Bool := decide (L.length ≤ 16) && decide (errC (L.map wideW) = 0)
theorem mayB_true {L : List Nat} (h : mayB L = true) : L.length ≤ 16 ∧ errC (L.map wideW) = 0 := by
  unfold mayB at h
  simpa using h
set_option maxHeartbeats 4000000 in
set_option maxRecDepth 100000 in
theorem cmay_run {v : Value} {L : List Nat} (w : World) (hw : Ws32 L) (h : FsAt w v L) :
    Calls Try.prog 42 #[v] w fun e w' => e = .returned (.bool (mayB L)) ∧ Below w.heap.size w w' := by
  by_cases hl : L.length ≤ 16
  · have CW := Lib.hid (cwide_run w hl hw h)
    have KC := Lib.hid (fun g w1 hA => pcheck_run (some ⟨g, 0, none⟩) L.length L.length (L.map wideW) w1 (by simp) (by omega) (ws_wide hw) hA)
    have e : mayB L = (errC (L.map wideW) == 0) := by
      unfold mayB
      rw [decide_eq_true hl, Bool.true_and]
      by_cases c : errC (L.map wideW) = 0
      · rw [c]; rfl
      · rw [decide_eq_false c]; exact (by simpa using c)
    rw [e]
    obtain ⟨ao, cap, rfl, hc, hm, hn0, ha⟩ := h
    generalize errC (L.map wideW) = k at *
    generalize L.map wideW = M at *
    generalize hn : L.length = n at *
    clear hc hm hn0 ha hw e hn
    go_enter Try.func42, Try.ntmps42
    go_wp2_with fail
    refine CW.out.mono ?_
    rintro _ w1 ⟨g, rfl, hg, hA, hb⟩
    have K := KC.out g w1 hA
    replace hb := Lib.hid hb
    clear hA hg CW KC
    go_wp2_with (go_at_call 38; ((with_reducible refine K.mono ?_); rintro e w' ⟨rfl, rfl⟩))
    go_ret
    exact ⟨rfl, hb.out⟩
  · have e : mayB L = false := by unfold mayB; rw [decide_eq_false hl]; rfl
    rw [e]
    obtain ⟨ao, cap, rfl, hc, hm, hn0, ha⟩ := h
    generalize hn : L.length = n at *
    clear hc hm hn0 ha hw e hn
    go_enter Try.func42, Try.ntmps42
    go_wp2_with fail
    go_ret
    exact ⟨rfl, Below.refl _ _⟩
def rowB (T : List (List (List Nat))) (j : Nat) : Bool := mayB (cfT T j 0) && (mayB (cfT T j 1) && mayB (cfT T j 2))
def goodT (T : List (List (List Nat))) : Bool := (List.range T.length).all fun j => rowB T j
def lowB (x : Nat) : Bool := decide (nn s10 ∧ nn x ∧ key64 s10 ≤ key64 x)
def topB (x : Nat) : Bool := decide (nn x ∧ nn m24 ∧ key64 x ≤ key64 m24)
def chkT (t : Tb) : Int := if 64 < t.rows.length then 2 else if (inM m24 t.fr && (lowB t.st && (topB t.st && goodT t.rows))) = true then 0 else 130
theorem goodT_iff {T : List (List (List Nat))} : goodT T = true ↔ ∀ j, j < T.length → rowB T j = true := by
  unfold goodT; simp [List.all_eq_true]
theorem chkT_long {t : Tb} (h : 64 < t.rows.length) : chkT t = 2 := if_pos h
theorem chkT_bad {t : Tb} (h : ¬ 64 < t.rows.length) {j : Nat} (hj : j < t.rows.length) (hg : rowB t.rows j = false) : chkT t = 130 := by
  unfold chkT
  rw [if_neg h, if_neg (fun g => by
    simp only [Bool.and_eq_true] at g
    rw [goodT_iff.1 g.2.2.2 j hj] at hg; cases hg)]
theorem chkT_step {t : Tb} (h : ¬ 64 < t.rows.length) (hg : (inM m24 t.fr && (lowB t.st && topB t.st)) = false) : chkT t = 130 := by
  unfold chkT
  rw [if_neg h, if_neg (fun g => by
    simp only [Bool.and_eq_true] at g
    rw [g.1, g.2.1, g.2.2.1] at hg; cases hg)]
theorem chkT_good {t : Tb} (h : ¬ 64 < t.rows.length) (h0 : inM m24 t.fr = true) (h1 : lowB t.st = true) (h2 : topB t.st = true) (hg : ∀ j, j < t.rows.length → rowB t.rows j = true) : chkT t = 0 := by
  unfold chkT
  rw [if_neg h, if_pos (by rw [h0, h1, h2, goodT_iff.2 hg]; rfl)]
structure TbOk (t : Tb) : Prop where
  len : t.rows.length ≤ 64
  fr : inM m24 t.fr = true
  lo : lowB t.st = true
  hi : topB t.st = true
  row : ∀ j, j < t.rows.length → rowB t.rows j = true
theorem chkT_zero {t : Tb} (h : chkT t = 0) : TbOk t := by
  unfold chkT at h
  by_cases h1 : 64 < t.rows.length
  · rw [if_pos h1] at h; omega
  · rw [if_neg h1] at h
    by_cases h2 : (inM m24 t.fr && (lowB t.st && (topB t.st && goodT t.rows))) = true
    · simp only [Bool.and_eq_true] at h2
      exact ⟨by omega, h2.1, h2.2.1, h2.2.2.1, goodT_iff.1 h2.2.2.2⟩
    · rw [if_neg h2] at h; omega
theorem ret_iH {a b : Int} (h : a = b) : Ending.returned (.int .i64 a) = .returned (.int .i64 b) := by rw [h]

set_option maxHeartbeats 8000000 in
set_option maxRecDepth 100000 in
theorem ccheck_run {t : Tb} (ao : Option Addr) (cap : Nat) (w : World) (hm : t.rows.length ≤ 4611686018427387904) (hW : TbW t) (ha : TbAt w ao t.rows) :
    Calls Try.prog 17 #[tbV t ao cap] w fun e w' => e = .returned (.int .i64 (chkT t)) ∧ Below w.heap.size w w' := by
  obtain ⟨V, hV⟩ : ∃ V, V = chkT t := ⟨_, rfl⟩
  rw [← hV]
  obtain ⟨n, hn⟩ : ∃ n, n = t.rows.length := ⟨_, rfl⟩
  unfold tbV
  rw [← hn] at hm ⊢
  have K := kv1 w 34 [.float .f64 t.fr, .float .f64 t.st, .slice ao n cap]
  simp only [objV] at K
  have k0 := (K.at_ 0 rfl).at_ 0 _ rfl
  have k1 := (K.at_ 0 rfl).at_ 1 _ rfl
  have k2 := (K.at_ 0 rfl).at_ 2 _ rfl
  replace K := Lib.hid K
  have CT := fun w => ctime_run t.fr hW.fr w
  have g1 := o_leq s10 t.st (by decide) hW.st
  have g2 := o_leq t.st m24 hW.st (by decide)
  have e1 : decide (nn s10 ∧ nn t.st ∧ key64 s10 ≤ key64 t.st) = lowB t.st := rfl
  have e2 : decide (nn t.st ∧ nn m24 ∧ key64 t.st ≤ key64 m24) = topB t.st := rfl
  rw [e1] at g1
  rw [e2] at g2
  unfold s10 at g1
  unfold m24 at g2
  by_cases hl : 64 < n
  · replace hV := Lib.hid (hV.trans (chkT_long (by omega)))
    have t1 : decide (64 < n) = true := decide_eq_true hl
    clear hn ha hW CT g1 g2 e1 e2
    go_enter Try.func17, Try.ntmps17
    go_wp2_with (go_at_call 41; ((with_reducible refine (CT _).mono ?_); rintro e w' ⟨rfl, rfl⟩))
    go_ret
    exact ⟨ret_iH hV.out.symm, K.out.old⟩
  · have t1 : decide (64 < n) = false := decide_eq_false hl
    have step : Hid ((inM m24 t.fr && (lowB t.st && topB t.st)) = false → V = 130) := fun h => hV.trans (chkT_step (by omega) h)
    clear e1 e2
    cases h0 : inM m24 t.fr with
    | false =>
      rw [h0] at CT step
      replace hV := Lib.hid (step.out rfl)
      clear step h0 hn ha hW g1 g2
      go_enter Try.func17, Try.ntmps17
      go_wp2_with (go_at_call 41; ((with_reducible refine (CT _).mono ?_); rintro e w' ⟨rfl, rfl⟩))
      go_ret
      exact ⟨ret_iH hV.out.symm, K.out.old⟩
    | true =>
      cases h1 : lowB t.st with
      | false =>
        rw [h0, h1] at step
        rw [h0] at CT
        rw [h1] at g1
        replace hV := Lib.hid (step.out rfl)
        clear step h0 h1 hn ha hW g2
        go_enter Try.func17, Try.ntmps17
        go_wp2_with (go_at_call 41; ((with_reducible refine (CT _).mono ?_); rintro e w' ⟨rfl, rfl⟩))
        go_ret
        exact ⟨ret_iH hV.out.symm, K.out.old⟩
      | true =>
        cases h2 : topB t.st with
        | false =>
          rw [h0, h1, h2] at step
          rw [h0] at CT
          rw [h1] at g1
          rw [h2] at g2
          replace hV := Lib.hid (step.out rfl)
          clear step h0 h1 h2 hn ha hW
          go_enter Try.func17, Try.ntmps17
          go_wp2_with (go_at_call 41; ((with_reducible refine (CT _).mono ?_); rintro e w' ⟨rfl, rfl⟩))
          go_ret
          exact ⟨ret_iH hV.out.symm, K.out.old⟩
        | true =>
          rw [h0] at CT
          rw [h1] at g1
          rw [h2] at g2
          have HV : Hid (V = chkT t) := Lib.hid hV
          have H3 : Hid (inM m24 t.fr = true ∧ lowB t.st = true ∧ topB t.st = true) := Lib.hid ⟨h0, h1, h2⟩
          have hws : Hid (∀ i k, Ws32 (cfT t.rows i k)) := Lib.hid hW.w
          have b1 := Lib.hid K.out.old
          clear step h0 h1 h2 hV hW
          replace hn := Lib.hid hn
          replace ha := Lib.hid ha
          go_enter Try.func17, Try.ntmps17
          go_wp2_with (go_at_call 41; ((with_reducible refine (CT _).mono ?_); rintro e w' ⟨rfl, rfl⟩))
          clear k0 k1 k2 K CT g1 g2
          go_loopw [29] (fun iv wr => ∃ i : Nat, i ≤ n ∧ iv = .int .i64 i ∧ (∀ j, j < i → rowB t.rows j = true) ∧ Below w.heap.size w wr) (fun iv _ => n - (intOf iv).toNat)
          case atStart => exact ⟨0, Nat.zero_le _, rfl, fun j hj => by omega, b1.out⟩
          case round =>
            obtain ⟨i, hi, rfl, ho, hb⟩ := hrel
            by_cases hlt : i < n
            · have hil : i < t.rows.length := by have := hn.out; omega
              obtain ⟨b, o, v0, v1, v2, rfl, hbl, c0, c1, c2, f0, f1, f2⟩ := (ha.out.on hb) i hil
              have F0 := Lib.hid f0
              have F1 := Lib.hid f1
              have F2 := Lib.hid f2
              obtain ⟨a0, p0, rfl, -⟩ := f0
              obtain ⟨a1, p1, rfl, -⟩ := f1
              obtain ⟨a2, p2, rfl, -⟩ := f2
              generalize (cfT t.rows i 0).length = l0 at *
              generalize (cfT t.rows i 1).length = l1 at *
              generalize (cfT t.rows i 2).length = l2 at *
              replace hws : Hid (∀ k, Ws32 (cfT t.rows i k)) := Lib.hid (hws.out i)
              have bad0 : Hid (∀ k, k < 3 → mayB (cfT t.rows i k) = false → V = 130) := Lib.hid fun k hk h => by
                rw [HV.out]
                refine chkT_bad (by have := hn.out; omega) hil ?_
                unfold rowB
                have : k = 0 ∨ k = 1 ∨ k = 2 := by omega
                rcases this with rfl | rfl | rfl <;> rw [h] <;> simp
              have good0 : Hid ((∀ q, q < 3 → mayB (cfT t.rows i q) = true) → ∀ j, j < i + 1 → rowB t.rows j = true) := Lib.hid fun h j hj => by
                by_cases e : j < i
                · exact ho j e
                · have e : j = i := by omega
                  rw [e]
                  unfold rowB
                  rw [h 0 (by omega), h 1 (by omega), h 2 (by omega)]
                  rfl
              have hi2 : (i : Int) < (n : Int) := by omega
              have K := (Kv.nil wr).new 69 [.slice a0 l0 p0, .slice a1 l1 p1, .slice a2 l2 p2]
              simp only [objV, List.nil_append] at K
              have d0 := (K.at_ 0 rfl).at_ 0 _ rfl
              have d1 := (K.at_ 0 rfl).at_ 1 _ rfl
              have d2 := (K.at_ 0 rfl).at_ 2 _ rfl
              have hK := Lib.hid K.old
              have hst := @fstore
              replace hb := Lib.hid hb
              clear ho hbl K
              go_wp2_with fail
              clear c0 c1 c2 d0 d1 d2
              go_loopw [34] (fun kv wr2 => ∃ k : Nat, k ≤ 3 ∧ kv = .int .i64 k ∧ (∀ q, q < k → mayB (cfT t.rows i q) = true) ∧ Below wr.heap.size wr wr2) (fun kv _ => 3 - (intOf kv).toNat)
              case atStart => exact ⟨0, by omega, rfl, fun q hq => by omega, hK.out⟩
              case round =>
              obtain ⟨k, hk, rfl, ho2, h2⟩ := hrel
              have hk' : k = 0 ∨ k = 1 ∨ k = 2 ∨ k = 3 := by omega
              rcases hk' with hk' | hk' | hk' | hk'
              · obtain rfl : k = 0 := by omega
                have ix := fun w => ih0 a0 a1 a2 l0 l1 l2 p0 p1 p2 w
                have M := cmay_run wr (hws.out 0) (F0.out.on h2)
                have h2' := Lib.hid h2
                have bad : Hid (mayB (cfT t.rows i 0) = false → V = 130) := fun h => bad0.out 0 (by omega) h
                have good : Hid (mayB (cfT t.rows i 0) = true → ∀ q, q < 0 + 1 → mayB (cfT t.rows i q) = true) := fun h q hq => by
                  by_cases e : q < 0
                  · exact ho2 q e
                  · have e : q = 0 := by omega
                    rw [e]; exact h
                generalize mayB (cfT t.rows i 0) = mb at *
                replace M := Lib.hid M
                clear h2 ho2
                cases mb with
                | true =>
                  replace good := Lib.hid (good.out rfl)
                  clear bad
                  go_wp2_with fail
                  refine M.out.mono ?_
                  rintro _ w4 ⟨rfl, hb4⟩
                  have hN := Lib.hid (h2'.out.trans (hb4.mono h2'.out.size))
                  clear M hb4 h2'
                  go_wp2_with fail
                  go_roundw
                  case rel => exact ⟨0 + 1, by omega, by go_num, good.out, hN.out⟩
                  case measure => first | (simp [intOf]; done) | (simp [intOf]; omega)
                | false =>
                  replace bad := Lib.hid (bad.out rfl)
                  clear good
                  go_wp2_with fail
                  refine M.out.mono ?_
                  rintro _ w4 ⟨rfl, hb4⟩
                  have hN := Lib.hid (h2'.out.trans (hb4.mono h2'.out.size))
                  clear M hb4 h2'
                  go_wp2_with fail
                  go_ret
                  exact ⟨ret_iH bad.out.symm, hb.out.trans (hN.out.mono hb.out.size)⟩
              · obtain rfl : k = 1 := by omega
                have ix := fun w => ih1 a0 a1 a2 l0 l1 l2 p0 p1 p2 w
                have M := cmay_run wr (hws.out 1) (F1.out.on h2)
                have h2' := Lib.hid h2
                have bad : Hid (mayB (cfT t.rows i 1) = false → V = 130) := fun h => bad0.out 1 (by omega) h
                have good : Hid (mayB (cfT t.rows i 1) = true → ∀ q, q < 1 + 1 → mayB (cfT t.rows i q) = true) := fun h q hq => by
                  by_cases e : q < 1
                  · exact ho2 q e
                  · have e : q = 1 := by omega
                    rw [e]; exact h
                generalize mayB (cfT t.rows i 1) = mb at *
                replace M := Lib.hid M
                clear h2 ho2
                cases mb with
                | true =>
                  replace good := Lib.hid (good.out rfl)
                  clear bad
                  go_wp2_with fail
                  refine M.out.mono ?_
                  rintro _ w4 ⟨rfl, hb4⟩
                  have hN := Lib.hid (h2'.out.trans (hb4.mono h2'.out.size))
                  clear M hb4 h2'
                  go_wp2_with fail
                  go_roundw
                  case rel => exact ⟨1 + 1, by omega, by go_num, good.out, hN.out⟩
                  case measure => first | (simp [intOf]; done) | (simp [intOf]; omega)
                | false =>
                  replace bad := Lib.hid (bad.out rfl)
                  clear good
                  go_wp2_with fail
                  refine M.out.mono ?_
                  rintro _ w4 ⟨rfl, hb4⟩
                  have hN := Lib.hid (h2'.out.trans (hb4.mono h2'.out.size))
                  clear M hb4 h2'
                  go_wp2_with fail
                  go_ret
                  exact ⟨ret_iH bad.out.symm, hb.out.trans (hN.out.mono hb.out.size)⟩
              · obtain rfl : k = 2 := by omega
                have ix := fun w => ih2 a0 a1 a2 l0 l1 l2 p0 p1 p2 w
                have M := cmay_run wr (hws.out 2) (F2.out.on h2)
                have h2' := Lib.hid h2
                have bad : Hid (mayB (cfT t.rows i 2) = false → V = 130) := fun h => bad0.out 2 (by omega) h
                have good : Hid (mayB (cfT t.rows i 2) = true → ∀ q, q < 2 + 1 → mayB (cfT t.rows i q) = true) := fun h q hq => by
                  by_cases e : q < 2
                  · exact ho2 q e
                  · have e : q = 2 := by omega
                    rw [e]; exact h
                generalize mayB (cfT t.rows i 2) = mb at *
                replace M := Lib.hid M
                clear h2 ho2
                cases mb with
                | true =>
                  replace good := Lib.hid (good.out rfl)
                  clear bad
                  go_wp2_with fail
                  refine M.out.mono ?_
                  rintro _ w4 ⟨rfl, hb4⟩
                  have hN := Lib.hid (h2'.out.trans (hb4.mono h2'.out.size))
                  clear M hb4 h2'
                  go_wp2_with fail
                  go_roundw
                  case rel => exact ⟨2 + 1, by omega, by go_num, good.out, hN.out⟩
                  case measure => first | (simp [intOf]; done) | (simp [intOf]; omega)
                | false =>
                  replace bad := Lib.hid (bad.out rfl)
                  clear good
                  go_wp2_with fail
                  refine M.out.mono ?_
                  rintro _ w4 ⟨rfl, hb4⟩
                  have hN := Lib.hid (h2'.out.trans (hb4.mono h2'.out.size))
                  clear M hb4 h2'
                  go_wp2_with fail
                  go_ret
                  exact ⟨ret_iH bad.out.symm, hb.out.trans (hN.out.mono hb.out.size)⟩
              · obtain rfl : k = 3 := by omega
                have G := Lib.hid (good0.out ho2)
                have hN := Lib.hid (hb.out.trans (h2.mono hb.out.size))
                clear ho2 h2
                go_wp2_with fail
                go_roundw
                case rel => exact ⟨i + 1, hlt, by go_num, G.out, hN.out⟩
                case measure => simp [intOf]; omega
            · obtain rfl : i = n := by omega
              have hv : Hid (V = 0) := Lib.hid (by
                rw [HV.out]
                exact chkT_good (by have := hn.out; omega) H3.out.1 H3.out.2.1 H3.out.2.2 (fun j hj => ho j (by have := hn.out; omega)))
              replace hb := Lib.hid hb
              clear ho
              go_wp2_with fail
              go_ret
              exact ⟨ret_iH hv.out.symm, hb.out⟩
end Go.Proofs.Ytnmadknpkhaolaa
