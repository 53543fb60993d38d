/- Proved here: what the texts Grt prove, one behind the other. -/
import Derived.Test.YtgfedhlnaipngaaJz11
import Derived.Test.YtgfedhlnaipngaaJz10

namespace Go.Proofs.Ytgfedhlnaipngaa
open Go.ChangeShapes Go.WideShapes Go.ChangeAt Go.RowKit Go.Deep Ieee.Own

def RunQ (l : List Ma) (g : Nat) (n : Int) (w : World) (e : Ending) (w' : World) : Prop :=
  Below w.heap.size w w' ∧ ((RunR l g n).2 = none → e = .returned (.tuple #[.slice none 0 0, .int .i64 (RunR l g n).1])) ∧
    ∀ r, (RunR l g n).2 = some r → ∃ ao cap, e = .returned (.tuple #[.slice ao r.length cap, .int .i64 0]) ∧ MAt w' ao r
theorem RunQ.err {l : List Ma} {g : Nat} {n : Int} {w w' : World} {k : Int} (h : RunR l g n = (k, none)) (hb : Below w.heap.size w w') : RunQ l g n w (.returned (.tuple #[.slice none 0 0, .int .i64 k])) w' := by
  refine ⟨hb, fun _ => by rw [h], fun r e => ?_⟩
  rw [h] at e
  cases e
theorem RunQ.ok {l r : List Ma} {g cap : Nat} {ao : Option Addr} {n k : Int} {w w' : World} (h : RunR l g n = (k, some r)) (hb : Below w.heap.size w w') (O : MAt w' ao r) : RunQ l g n w (.returned (.tuple #[.slice ao r.length cap, .int .i64 0])) w' := by
  refine ⟨hb, fun e => ?_, fun q e => ?_⟩
  · rw [h] at e; cases e
  · rw [h] at e
    obtain rfl := Option.some.inj e
    exact ⟨ao, cap, rfl, O⟩
theorem nil_run (g : Nat) (h : Int) : ∀ n, runN g h n [] = some []
  | 0 => rfl
  | n + 1 => by
    unfold runN
    have : stp g h [] = some [] := by unfold stp; rfl
    rw [this]
    exact nil_run g h n
theorem nil_at (w : World) (ao : Option Addr) : MAt w ao [] := fun j r h => by simp at h
theorem ow_copied {w w' : World} {g n cap : Nat} {L : List Ma} (C : CopiedR w w' (some ⟨g, 0, none⟩) n cap 7 (L.map maC)) (hn : n = L.length) (h0 : 0 < L.length) : OwM g L w' := by
  refine ⟨?_, fun i u hi => ?_, fun i u hi => ?_⟩
  · obtain ⟨b, o, e, hb, -⟩ := C.at_ 0 _ (ma_get h0)
    obtain ⟨rfl, rfl⟩ : g = b ∧ 0 = o := by simpa using e
    exact hb
  · obtain ⟨j, c, r, h1, h2, rfl⟩ := flat_place (rows_ma L) hi
    obtain ⟨b, o, e, -, h3⟩ := C.at_ j r h1
    obtain ⟨rfl, rfl⟩ : g = b ∧ 0 = o := by simpa using e
    have := h3 c u h2
    rwa [Nat.zero_add] at this
  · have hl := (List.getElem?_eq_some_iff.1 hi).1
    have hf : (flatM L).length = L.length * 7 := by unfold flatM; rw [flat_len (rows_ma L), List.length_map]
    exact (C.own g 0 rfl).2.2 i (by rw [hn]; omega)
theorem gee_swap {g : Nat} (hg : g < 18446744073709551616) : (FloatKind.f64.format.order g 0 == some Ordering.gt || FloatKind.f64.format.order g 0 == some Ordering.eq) = geB0 g := by
  unfold geB0
  rw [o_geq g 0 hg (by omega), o_leq 0 g (by omega) hg, decide_eq_decide]
  constructor
  · rintro ⟨a, b, c⟩; exact ⟨b, a, c⟩
  · rintro ⟨a, b, c⟩; exact ⟨b, a, c⟩
set_option maxHeartbeats 16000000 in
set_option maxRecDepth 100000 in
theorem rgdrift_nil (ao : Option Addr) (cap _gw : Nat) (h : Int) (w : World) : Calls Try.prog 27 #[.slice ao 0 cap, .int .i64 h] w fun e w' => e = .returned (.tuple #[]) ∧ w' = w := by
  go_enter Try.func27, Try.ntmps27
  go_wp2_with fail
  go_loopw [4] (fun iv wr => iv = .int .i64 0 ∧ wr = w) (fun _ _ => 0)
  case atStart => exact ⟨rfl, rfl⟩
  case round =>
    obtain ⟨rfl, rfl⟩ := hrel
    go_wp2_with fail
    refine bodyPost_end (results_none rfl _ _ _) rfl ?_
    exact ⟨rfl, rfl⟩
set_option maxHeartbeats 16000000 in
set_option maxRecDepth 100000 in
theorem rgkick_nil (ao : Option Addr) (cap _gw : Nat) (h : Int) (w : World) : Calls Try.prog 28 #[.slice ao 0 cap, .float .f64 _gw, .int .i64 h] w fun e w' => e = .returned (.tuple #[]) ∧ w' = w := by
  go_enter Try.func28, Try.ntmps28
  go_wp2_with fail
  go_loopw [6] (fun iv wr => iv = .int .i64 0 ∧ wr = w) (fun _ _ => 0)
  case atStart => exact ⟨rfl, rfl⟩
  case round =>
    obtain ⟨rfl, rfl⟩ := hrel
    go_wp2_with fail
    refine bodyPost_end (results_none rfl _ _ _) rfl ?_
    exact ⟨rfl, rfl⟩
set_option maxHeartbeats 16000000 in
set_option maxRecDepth 100000 in
theorem rgRun_bad (ao : Option Addr) (cap n : Nat) (L : List Ma) (gw : Nat) (w : World) (hn : n = L.length) (hm : n ≤ 4611686018427387904) (ha : MAt w ao L) {nn : Int} (hr : readyM L gw ≠ 0) (hg : gw < 18446744073709551616) (hx : ¬ (nn < -4096 ∨ 4096 < nn)) :
    Calls Try.prog 16 #[.slice ao n cap, .float .f64 gw, .int .i64 nn] w fun e w' => RunQ L gw nn w e w' := by
  have C := Lib.hid (rgcheck_run ao cap n L w hn hm ha)
  have fin := Lib.hid (fun w' (hb : Below w.heap.size w w') => RunQ.err (RunR_err (n := nn) hr) hb)
  have q1 : decide (nn < -4096) = false := decide_eq_false (by omega)
  have q2 : decide (4096 < nn) = false := decide_eq_false (by omega)
  clear hn hm ha hx
  by_cases hc : chkM L = 0
  · have e0 := gee_swap hg
    have e1 : (FloatKind.f64.format.order gw 4787326403894837248 == some Ordering.lt || FloatKind.f64.format.order gw 4787326403894837248 == some Ordering.eq) = geB1 gw := rfl
    have hge : geeB gw = false := by
      cases h : geeB gw with
      | false => rfl
      | true => exact absurd (by unfold readyM; rw [if_neg (by rw [hc]; decide), if_pos h]) hr
    have hk : readyM L gw = 1 := by unfold readyM; rw [if_neg (by rw [hc]; decide), if_neg (by rw [hge]; decide)]
    rw [hk] at fin
    rw [hc] at C
    unfold geeB at hge
    clear hr hk hc hg
    generalize geB0 gw = b0 at *
    generalize geB1 gw = b1 at *
    cases b0 with
    | false =>
      clear hge
      go_enter Try.func16, Try.ntmps16
      go_wp2_with fail
      refine C.out.mono ?_
      rintro _ w1 ⟨rfl, hb1⟩
      replace hb1 := Lib.hid hb1
      clear C
      go_wp2_with fail
      go_ret2
      exact fin.out _ hb1.out
    | true =>
      cases b1 with
      | true => cases hge
      | false =>
        clear hge
        go_enter Try.func16, Try.ntmps16
        go_wp2_with fail
        refine C.out.mono ?_
        rintro _ w1 ⟨rfl, hb1⟩
        replace hb1 := Lib.hid hb1
        clear C
        go_wp2_with fail
        go_ret2
        exact fin.out _ hb1.out
  · have hk : readyM L gw = chkM L := by unfold readyM; rw [if_pos hc]
    rw [hk] at fin
    have t : (chkM L != 0) = true := by simpa using hc
    clear hr hk hc
    generalize chkM L = k at *
    go_enter Try.func16, Try.ntmps16
    go_wp2_with fail
    refine C.out.mono ?_
    rintro _ w1 ⟨rfl, hb1⟩
    replace hb1 := Lib.hid hb1
    clear C
    go_wp2_with fail
    go_ret2
    exact fin.out _ hb1.out
set_option maxHeartbeats 16000000 in
set_option maxRecDepth 100000 in
theorem rgRun_arg (ao : Option Addr) (cap n : Nat) (L : List Ma) (gw : Nat) (w : World) (hn : n = L.length) (hm : n ≤ 4611686018427387904) (ha : MAt w ao L) {nn : Int} (hx : nn < -4096 ∨ 4096 < nn) :
    Calls Try.prog 16 #[.slice ao n cap, .float .f64 gw, .int .i64 nn] w fun e w' => RunQ L gw nn w e w' := by
  have C := Lib.hid (rgcheck_run ao cap n L w hn hm ha)
  clear hn hm ha
  by_cases hc : chkM L = 0
  · have hR : RunR L gw nn = (1, none) := by
      by_cases hr : readyM L gw = 0
      · exact RunR_arg hr hx
      · rw [RunR_err hr]
        unfold readyM at hr ⊢
        rw [if_neg (by rw [hc]; decide)] at hr ⊢
        split at hr
        · exact absurd rfl hr
        · rename_i h; rw [if_neg h]
    have fin := Lib.hid (fun w' (hb : Below w.heap.size w w') => RunQ.err hR hb)
    rw [hc] at C
    clear hc hR
    by_cases h1 : nn < -4096
    · clear hx
      have q1 : decide (nn < -4096) = true := decide_eq_true h1
      go_enter Try.func16, Try.ntmps16
      go_wp2_with fail
      refine C.out.mono ?_
      rintro _ w1 ⟨rfl, hb1⟩
      replace hb1 := Lib.hid hb1
      clear C
      go_wp2_with fail
      go_ret2
      exact fin.out _ hb1.out
    · have h2 : 4096 < nn := by omega
      have q1 : decide (nn < -4096) = false := decide_eq_false h1
      have q2 : decide (4096 < nn) = true := decide_eq_true h2
      clear hx
      go_enter Try.func16, Try.ntmps16
      go_wp2_with fail
      refine C.out.mono ?_
      rintro _ w1 ⟨rfl, hb1⟩
      replace hb1 := Lib.hid hb1
      clear C
      go_wp2_with fail
      go_ret2
      exact fin.out _ hb1.out
  · have hk : readyM L gw = chkM L := by unfold readyM; rw [if_pos hc]
    have fin := Lib.hid (fun w' (hb : Below w.heap.size w w') => RunQ.err (RunR_err (n := nn) (show readyM L gw ≠ 0 by rw [hk]; exact hc)) hb)
    rw [hk] at fin
    have t : (chkM L != 0) = true := by simpa using hc
    clear hk hc hx
    generalize chkM L = k at *
    go_enter Try.func16, Try.ntmps16
    go_wp2_with fail
    refine C.out.mono ?_
    rintro _ w1 ⟨rfl, hb1⟩
    replace hb1 := Lib.hid hb1
    clear C
    go_wp2_with fail
    go_ret2
    exact fin.out _ hb1.out
set_option maxHeartbeats 16000000 in
set_option maxRecDepth 100000 in
theorem rgRun_neg0 (ao : Option Addr) (cap n : Nat) (L : List Ma) (gw : Nat) (w : World) (hn : n = L.length) (hm : n ≤ 4611686018427387904) (ha : MAt w ao L) {N : Nat} (hg : gw < 18446744073709551616) (hr : readyM L gw = 0) (h0 : 0 < N) (hN : N ≤ 4096) (hrn : n * 56 ≤ 140737488351232) (hcz : ao = none → cap = 0) (hz : L = []) :
    Calls Try.prog 16 #[.slice ao n cap, .float .f64 gw, .int .i64 (-(N : Int))] w fun e w' => RunQ L gw (-(N : Int)) w e w' := by
  have C := Lib.hid (rgcheck_run ao cap n L w hn hm ha)
  obtain ⟨hc0, hge⟩ := readyM_zero hr
  obtain ⟨hL8, hal⟩ := chkM_zero hc0
  have G := gee_of hg hge
  have h8 : n ≤ 8 := by omega
  have hx : ¬ ((-(N : Int)) < -4096 ∨ 4096 < (-(N : Int))) := by omega
  have es : sgH (-(N : Int)) = (-1) := by unfold sgH; rw [if_pos (by omega)]
  have en : ((-(N : Int))).natAbs = N := by omega
  have fS := Lib.hid (fun r a c w' (e : runN gw (-1) N L = some r) (hb : Below w.heap.size w w') O => RunQ.ok (ao := a) (cap := c) (RunR_some hr hx (by rw [es, en]; exact e)) hb O)
  have fN := Lib.hid (fun w' (e : runN gw (-1) N L = none) (hb : Below w.heap.size w w') => RunQ.err (RunR_none hr hx (by rw [es, en]; exact e)) hb)
  have e0 := gee_swap hg
  have e1 : (FloatKind.f64.format.order gw 4787326403894837248 == some Ordering.lt || FloatKind.f64.format.order gw 4787326403894837248 == some Ordering.eq) = geB1 gw := rfl
  have hb0 : geB0 gw = true ∧ geB1 gw = true := by unfold geeB at hge; simpa using hge
  rw [hb0.1] at e0
  rw [hb0.2] at e1
  have D1 := Lib.hid (fun g c M w (hM : allB M = true) (hl : n = M.length) (O : OwM g M w) => rgdrift_run (cap := c) (h := (-1)) (by decide) hl h8 (all_dok hM) O)
  have D2 := Lib.hid (fun g c M w (hM : ∀ a ∈ M, Mid a) (hl : n = M.length) (O : OwM g M w) => rgkick_run (cap := c) (h := (-1)) (by decide) G hl h8 hM O)
  have D3 := Lib.hid (fun g c M w (hl : n = M.length) (O : OwM g M w) => rgcheck_run (some ⟨g, 0, none⟩) c n M w hl (by omega) O.at_)
  have ok := Lib.hid (fun k M (e : runN gw (-1) k L = some M) => grun_ok hal e)
  rw [hc0] at C
  have lt0 := Lib.hid (ha.lt)
  clear hr hge hg hc0 hx es en G hL8 hb0
  have t1 : decide ((-(N : Int)) < 0) = true := decide_eq_true (by omega)
  have wn : IntKind.i64.wrap (-(-(N : Int))) = (N : Int) := by rw [Int.neg_neg]; exact IntWalk.i64_in _ (by omega)
  have t2 : decide (4096 < (N : Int)) = false := decide_eq_false (by omega)
  have t3 : decide (4096 < -(N : Int)) = false := decide_eq_false (by omega)
  subst hz
  simp only [List.length_nil] at hn
  subst hn
  clear D1 D2 D3 ok
  have N1 := Lib.hid (fun ao cap w => rgdrift_nil ao cap gw (-1) w)
  have N2 := Lib.hid (fun ao cap w => rgkick_nil ao cap gw (-1) w)
  have N3 : Hid (∀ ao cap w, Calls Try.prog 12 #[.slice ao 0 cap] w fun e w' => e = .returned (.int .i64 0) ∧ Below w.heap.size w w') := Lib.hid fun ao cap w => rgcheck_run ao cap 0 [] w rfl (by omega) (nil_at w ao)
  have hmx : 0 ≤ maxLen := by unfold maxLen; omega
  replace ha := Lib.hid ha
  go_enter Try.func16, Try.ntmps16
  go_wp2_with fail
  refine C.out.mono ?_
  rintro _ w1 ⟨rfl, hb1⟩
  replace hb1 := Lib.hid hb1
  clear C
  have A1 := Lib.hid (ha.out.below lt0.out hb1.out)
  clear ha
  go_wp2_with (first | (at_builtin; refine wpList_copyR recM rfl _ _ rfl rfl ao 0 cap ([]) rfl rfl hcz A1.out (rows_ma []) hmx hrn ?_))
  intro ac cc v2 CP
  have hb3 := Lib.hid (hb1.out.trans (CP.old.mono hb1.out.size))
  clear A1 hb1 CP
  go_wp2_with fail
  go_loopw [11] (fun kv wr => ∃ k : Nat, k ≤ N ∧ kv = .int .i64 k ∧ Below w.heap.size w wr) (fun kv _ => N - (intOf kv).toNat)
  case atStart => exact ⟨0, Nat.zero_le _, rfl, hb3.out⟩
  case round =>
    obtain ⟨k, hk, rfl, hb⟩ := hrel
    clear hb3
    by_cases hlt : k < N
    · have hkN : (k : Int) < (N : Int) := by omega
      replace hb := Lib.hid hb
      go_wp2_with fail
      refine (N1.out _ _ _).mono ?_
      rintro _ u1 ⟨rfl, rfl⟩
      go_wp2_with fail
      refine (N3.out _ _ _).mono ?_
      rintro _ u2 ⟨rfl, b2⟩
      replace hb := Lib.hid (hb.out.trans (b2.mono hb.out.size))
      clear b2
      go_wp2_with fail
      refine (N2.out _ _ _).mono ?_
      rintro _ u3 ⟨rfl, rfl⟩
      go_wp2_with fail
      refine (N3.out _ _ _).mono ?_
      rintro _ u4 ⟨rfl, b2⟩
      replace hb := Lib.hid (hb.out.trans (b2.mono hb.out.size))
      clear b2
      go_wp2_with fail
      refine (N1.out _ _ _).mono ?_
      rintro _ u5 ⟨rfl, rfl⟩
      go_wp2_with fail
      refine (N3.out _ _ _).mono ?_
      rintro _ u6 ⟨rfl, b2⟩
      replace hb := Lib.hid (hb.out.trans (b2.mono hb.out.size))
      clear b2
      go_wp2_with fail
      go_roundw
      case rel => exact ⟨k + 1, hlt, by go_num, hb.out⟩
      case measure => simp [intOf]; omega
    · obtain rfl : k = N := by omega
      have F := Lib.hid (fS.out [] ac cc wr (nil_run _ _ _) hb (nil_at _ _))
      clear hb fS fN
      go_wp2_with fail
      go_ret2
      exact F.out
set_option maxHeartbeats 16000000 in
set_option maxRecDepth 100000 in
theorem rgRun_pos0 (ao : Option Addr) (cap n : Nat) (L : List Ma) (gw : Nat) (w : World) (hn : n = L.length) (hm : n ≤ 4611686018427387904) (ha : MAt w ao L) {N : Nat} (hg : gw < 18446744073709551616) (hr : readyM L gw = 0) (hN : N ≤ 4096) (hrn : n * 56 ≤ 140737488351232) (hcz : ao = none → cap = 0) (hz : L = []) :
    Calls Try.prog 16 #[.slice ao n cap, .float .f64 gw, .int .i64 (N : Int)] w fun e w' => RunQ L gw (N : Int) w e w' := by
  have C := Lib.hid (rgcheck_run ao cap n L w hn hm ha)
  obtain ⟨hc0, hge⟩ := readyM_zero hr
  obtain ⟨hL8, hal⟩ := chkM_zero hc0
  have G := gee_of hg hge
  have h8 : n ≤ 8 := by omega
  have hx : ¬ ((N : Int) < -4096 ∨ 4096 < (N : Int)) := by omega
  have es : sgH (N : Int) = 1 := by unfold sgH; rw [if_neg (by omega)]
  have en : ((N : Int)).natAbs = N := by omega
  have fS := Lib.hid (fun r a c w' (e : runN gw 1 N L = some r) (hb : Below w.heap.size w w') O => RunQ.ok (ao := a) (cap := c) (RunR_some hr hx (by rw [es, en]; exact e)) hb O)
  have fN := Lib.hid (fun w' (e : runN gw 1 N L = none) (hb : Below w.heap.size w w') => RunQ.err (RunR_none hr hx (by rw [es, en]; exact e)) hb)
  have e0 := gee_swap hg
  have e1 : (FloatKind.f64.format.order gw 4787326403894837248 == some Ordering.lt || FloatKind.f64.format.order gw 4787326403894837248 == some Ordering.eq) = geB1 gw := rfl
  have hb0 : geB0 gw = true ∧ geB1 gw = true := by unfold geeB at hge; simpa using hge
  rw [hb0.1] at e0
  rw [hb0.2] at e1
  have D1 := Lib.hid (fun g c M w (hM : allB M = true) (hl : n = M.length) (O : OwM g M w) => rgdrift_run (cap := c) (h := 1) (by decide) hl h8 (all_dok hM) O)
  have D2 := Lib.hid (fun g c M w (hM : ∀ a ∈ M, Mid a) (hl : n = M.length) (O : OwM g M w) => rgkick_run (cap := c) (h := 1) (by decide) G hl h8 hM O)
  have D3 := Lib.hid (fun g c M w (hl : n = M.length) (O : OwM g M w) => rgcheck_run (some ⟨g, 0, none⟩) c n M w hl (by omega) O.at_)
  have ok := Lib.hid (fun k M (e : runN gw 1 k L = some M) => grun_ok hal e)
  rw [hc0] at C
  have lt0 := Lib.hid (ha.lt)
  clear hr hge hg hc0 hx es en G hL8 hb0
  have t1 : decide ((N : Int) < 0) = false := decide_eq_false (by omega)
  have t2 : decide ((N : Int) < -4096) = false := decide_eq_false (by omega)
  have t3 : decide (4096 < (N : Int)) = false := decide_eq_false (by omega)
  subst hz
  simp only [List.length_nil] at hn
  subst hn
  clear D1 D2 D3 ok
  have N1 := Lib.hid (fun ao cap w => rgdrift_nil ao cap gw 1 w)
  have N2 := Lib.hid (fun ao cap w => rgkick_nil ao cap gw 1 w)
  have N3 : Hid (∀ ao cap w, Calls Try.prog 12 #[.slice ao 0 cap] w fun e w' => e = .returned (.int .i64 0) ∧ Below w.heap.size w w') := Lib.hid fun ao cap w => rgcheck_run ao cap 0 [] w rfl (by omega) (nil_at w ao)
  have hmx : 0 ≤ maxLen := by unfold maxLen; omega
  replace ha := Lib.hid ha
  go_enter Try.func16, Try.ntmps16
  go_wp2_with fail
  refine C.out.mono ?_
  rintro _ w1 ⟨rfl, hb1⟩
  replace hb1 := Lib.hid hb1
  clear C
  have A1 := Lib.hid (ha.out.below lt0.out hb1.out)
  clear ha
  go_wp2_with (first | (at_builtin; refine wpList_copyR recM rfl _ _ rfl rfl ao 0 cap ([]) rfl rfl hcz A1.out (rows_ma []) hmx hrn ?_))
  intro ac cc v2 CP
  have hb3 := Lib.hid (hb1.out.trans (CP.old.mono hb1.out.size))
  clear A1 hb1 CP
  go_wp2_with fail
  go_loopw [11] (fun kv wr => ∃ k : Nat, k ≤ N ∧ kv = .int .i64 k ∧ Below w.heap.size w wr) (fun kv _ => N - (intOf kv).toNat)
  case atStart => exact ⟨0, Nat.zero_le _, rfl, hb3.out⟩
  case round =>
    obtain ⟨k, hk, rfl, hb⟩ := hrel
    clear hb3
    by_cases hlt : k < N
    · have hkN : (k : Int) < (N : Int) := by omega
      replace hb := Lib.hid hb
      go_wp2_with fail
      refine (N1.out _ _ _).mono ?_
      rintro _ u1 ⟨rfl, rfl⟩
      go_wp2_with fail
      refine (N3.out _ _ _).mono ?_
      rintro _ u2 ⟨rfl, b2⟩
      replace hb := Lib.hid (hb.out.trans (b2.mono hb.out.size))
      clear b2
      go_wp2_with fail
      refine (N2.out _ _ _).mono ?_
      rintro _ u3 ⟨rfl, rfl⟩
      go_wp2_with fail
      refine (N3.out _ _ _).mono ?_
      rintro _ u4 ⟨rfl, b2⟩
      replace hb := Lib.hid (hb.out.trans (b2.mono hb.out.size))
      clear b2
      go_wp2_with fail
      refine (N1.out _ _ _).mono ?_
      rintro _ u5 ⟨rfl, rfl⟩
      go_wp2_with fail
      refine (N3.out _ _ _).mono ?_
      rintro _ u6 ⟨rfl, b2⟩
      replace hb := Lib.hid (hb.out.trans (b2.mono hb.out.size))
      clear b2
      go_wp2_with fail
      go_roundw
      case rel => exact ⟨k + 1, hlt, by go_num, hb.out⟩
      case measure => simp [intOf]; omega
    · obtain rfl : k = N := by omega
      have F := Lib.hid (fS.out [] ac cc wr (nil_run _ _ _) hb (nil_at _ _))
      clear hb fS fN
      go_wp2_with fail
      go_ret2
      exact F.out
set_option maxHeartbeats 16000000 in
set_option maxRecDepth 100000 in
theorem rgRun_neg (ao : Option Addr) (cap n : Nat) (L : List Ma) (gw : Nat) (w : World) (hn : n = L.length) (hm : n ≤ 4611686018427387904) (ha : MAt w ao L) {N : Nat} (hg : gw < 18446744073709551616) (hr : readyM L gw = 0) (h0 : 0 < N) (hN : N ≤ 4096) (hrn : n * 56 ≤ 140737488351232) (hcz : ao = none → cap = 0) (hz : 0 < L.length) :
    Calls Try.prog 16 #[.slice ao n cap, .float .f64 gw, .int .i64 (-(N : Int))] w fun e w' => RunQ L gw (-(N : Int)) w e w' := by
  have C := Lib.hid (rgcheck_run ao cap n L w hn hm ha)
  obtain ⟨hc0, hge⟩ := readyM_zero hr
  obtain ⟨hL8, hal⟩ := chkM_zero hc0
  have G := gee_of hg hge
  have h8 : n ≤ 8 := by omega
  have hx : ¬ ((-(N : Int)) < -4096 ∨ 4096 < (-(N : Int))) := by omega
  have es : sgH (-(N : Int)) = (-1) := by unfold sgH; rw [if_pos (by omega)]
  have en : ((-(N : Int))).natAbs = N := by omega
  have fS := Lib.hid (fun r a c w' (e : runN gw (-1) N L = some r) (hb : Below w.heap.size w w') O => RunQ.ok (ao := a) (cap := c) (RunR_some hr hx (by rw [es, en]; exact e)) hb O)
  have fN := Lib.hid (fun w' (e : runN gw (-1) N L = none) (hb : Below w.heap.size w w') => RunQ.err (RunR_none hr hx (by rw [es, en]; exact e)) hb)
  have e0 := gee_swap hg
  have e1 : (FloatKind.f64.format.order gw 4787326403894837248 == some Ordering.lt || FloatKind.f64.format.order gw 4787326403894837248 == some Ordering.eq) = geB1 gw := rfl
  have hb0 : geB0 gw = true ∧ geB1 gw = true := by unfold geeB at hge; simpa using hge
  rw [hb0.1] at e0
  rw [hb0.2] at e1
  have D1 := Lib.hid (fun g c M w (hM : allB M = true) (hl : n = M.length) (O : OwM g M w) => rgdrift_run (cap := c) (h := (-1)) (by decide) hl h8 (all_dok hM) O)
  have D2 := Lib.hid (fun g c M w (hM : ∀ a ∈ M, Mid a) (hl : n = M.length) (O : OwM g M w) => rgkick_run (cap := c) (h := (-1)) (by decide) G hl h8 hM O)
  have D3 := Lib.hid (fun g c M w (hl : n = M.length) (O : OwM g M w) => rgcheck_run (some ⟨g, 0, none⟩) c n M w hl (by omega) O.at_)
  have ok := Lib.hid (fun k M (e : runN gw (-1) k L = some M) => grun_ok hal e)
  rw [hc0] at C
  have lt0 := Lib.hid (ha.lt)
  clear hr hge hg hc0 hx es en G hL8 hb0
  have t1 : decide ((-(N : Int)) < 0) = true := decide_eq_true (by omega)
  have wn : IntKind.i64.wrap (-(-(N : Int))) = (N : Int) := by rw [Int.neg_neg]; exact IntWalk.i64_in _ (by omega)
  have t2 : decide (4096 < (N : Int)) = false := decide_eq_false (by omega)
  have t3 : decide (4096 < -(N : Int)) = false := decide_eq_false (by omega)
  have hmx : n ≤ maxLen := by unfold maxLen; omega
  replace hn := Lib.hid hn
  replace ha := Lib.hid ha
  replace h8 := Lib.hid h8
  replace hz := Lib.hid hz
  go_enter Try.func16, Try.ntmps16
  go_wp2_with fail
  refine C.out.mono ?_
  rintro _ w1 ⟨rfl, hb1⟩
  replace hb1 := Lib.hid hb1
  clear C
  have A1 := Lib.hid (ha.out.below lt0.out hb1.out)
  clear ha
  go_wp2_with (first | (at_builtin; refine wpList_copyR recM rfl _ _ rfl rfl ao n cap (L.map maC) rfl (by rw [List.length_map]; exact hn.out) hcz A1.out (rows_ma L) hmx hrn ?_))
  intro ac cc v2 CP
  have hb3 := Lib.hid (hb1.out.trans (CP.old.mono hb1.out.size))
  obtain ⟨b0, o0, e0c, -, -⟩ := CP.at_ 0 _ (ma_get hz.out)
  obtain ⟨rfl, hgs0, -⟩ := CP.own b0 o0 e0c
  subst e0c
  have O1 := Lib.hid (ow_copied CP hn.out hz.out)
  have hgs : Hid (w.heap.size ≤ b0) := by
    have := hb1.out.size
    show _ ≤ _
    omega
  clear A1 hb1 CP hgs0
  go_wp2_with fail
  go_loopw [11] (fun kv wr => ∃ (k : Nat) (M : List Ma), k ≤ N ∧ kv = .int .i64 k ∧ runN gw (-1) k L = some M ∧ OwM b0 M wr ∧ Below w.heap.size w wr) (fun kv _ => N - (intOf kv).toNat)
  case atStart => exact ⟨0, L, Nat.zero_le _, rfl, rfl, O1.out, hb3.out⟩
  case round =>
    obtain ⟨k, M, hk, rfl, hR, O, hb⟩ := hrel
    clear O1 hb3
    have q := ok.out k M hR
    by_cases hlt : k < N
    · have hkN : (k : Int) < (N : Int) := by omega
      have lM : n = M.length := by rw [q.2]; exact hn.out
      have l8 : M.length ≤ 8 := by rw [← lM]; exact h8.out
      have X1 := Lib.hid (D1.out b0 cc M wr q.1 lM O)
      have X2 := Lib.hid (fun W O => D3.out b0 cc (dft (-1) M) W (by rw [dft_len]; exact lM) O)
      have X3 := Lib.hid (fun W O => D2.out b0 cc (dft (-1) M) W (dft_mid (by decide) q.1) (by rw [dft_len]; exact lM) O)
      have X4 := Lib.hid (fun W O => D3.out b0 cc (kck gw (-1) (dft (-1) M)) W (by rw [kck_len, dft_len]; exact lM) O)
      have X6 := Lib.hid (fun W O => D3.out b0 cc (dft (-1) (kck gw (-1) (dft (-1) M))) W (by rw [dft_len, kck_len, dft_len]; exact lM) O)
      have no : stp gw (-1) M = none → Hid (runN gw (-1) N L = none) := fun hs => by
        have := run_on_none (m := N - k - 1) hR hs
        rwa [show k + (N - k - 1 + 1) = N by omega] at this
      have yes : ∀ r, stp gw (-1) M = some r → Hid (runN gw (-1) (k + 1) L = some r) := fun r hs => run_on_some hR hs
      have gl := Lib.hid (Nat.le_of_lt O.lt)
      replace hb := Lib.hid hb
      cases a1 : allB (dft (-1) M) with
      | false =>
        have en := no (dft_bad q.1 a1)
        have c1 := chkM_no (L := dft (-1) M) (by rw [dft_len]; exact l8) a1
        rw [c1] at X2
        clear no yes a1 c1 q lM l8 hR O X3 X4 X6 D1 D2 D3
        go_wp2_with fail
        refine X1.out.mono ?_
        rintro _ u1 ⟨rfl, bb, OO⟩
        replace hb := Lib.hid (hb.out.trans (bb.mono hgs.out))
        have Y1 := Lib.hid OO
        clear bb OO
        go_wp2_with fail
        refine (X2.out _ Y1.out).mono ?_
        rintro _ u2 ⟨rfl, bb⟩
        replace hb := Lib.hid (hb.out.trans (bb.mono hb.out.size))
        replace Y1 := Lib.hid (Y1.out.on bb)
        clear bb
        go_wp2_with fail
        go_ret2
        exact fN.out _ en.out hb.out
      | true =>
        have c1 := chkM_ok (L := dft (-1) M) (by rw [dft_len]; exact l8) a1
        rw [c1] at X2
        cases a2 : allB (kck gw (-1) (dft (-1) M)) with
        | false =>
          have en := no (stp_no1 a2)
          have c2 := chkM_no (L := kck gw (-1) (dft (-1) M)) (by rw [kck_len, dft_len]; exact l8) a2
          rw [c2] at X4
          clear no yes a1 c1 a2 c2 q lM l8 hR O X6 D1 D2 D3
          go_wp2_with fail
          refine X1.out.mono ?_
          rintro _ u1 ⟨rfl, bb, OO⟩
          replace hb := Lib.hid (hb.out.trans (bb.mono hgs.out))
          have Y1 := Lib.hid OO
          clear bb OO
          go_wp2_with fail
          refine (X2.out _ Y1.out).mono ?_
          rintro _ u2 ⟨rfl, bb⟩
          replace hb := Lib.hid (hb.out.trans (bb.mono hb.out.size))
          replace Y1 := Lib.hid (Y1.out.on bb)
          clear bb
          go_wp2_with fail
          refine (X3.out _ Y1.out).mono ?_
          rintro _ u3 ⟨rfl, bb, OO⟩
          replace hb := Lib.hid (hb.out.trans (bb.mono hgs.out))
          have Y3 := Lib.hid OO
          clear bb OO
          go_wp2_with fail
          refine (X4.out _ Y3.out).mono ?_
          rintro _ u4 ⟨rfl, bb⟩
          replace hb := Lib.hid (hb.out.trans (bb.mono hb.out.size))
          replace Y3 := Lib.hid (Y3.out.on bb)
          clear bb
          go_wp2_with fail
          go_ret2
          exact fN.out _ en.out hb.out
        | true =>
          have c2 := chkM_ok (L := kck gw (-1) (dft (-1) M)) (by rw [kck_len, dft_len]; exact l8) a2
          rw [c2] at X4
          have X5 := Lib.hid (fun W O => D1.out b0 cc (kck gw (-1) (dft (-1) M)) W a2 (by rw [kck_len, dft_len]; exact lM) O)
          cases a3 : allB (dft (-1) (kck gw (-1) (dft (-1) M))) with
          | false =>
            have en := no (stp_no2 a3)
            have c3 := chkM_no (L := dft (-1) (kck gw (-1) (dft (-1) M))) (by rw [dft_len, kck_len, dft_len]; exact l8) a3
            rw [c3] at X6
            clear no yes a1 c1 a2 c2 a3 c3 q lM l8 hR O D1 D2 D3
            go_wp2_with fail
            refine X1.out.mono ?_
            rintro _ u1 ⟨rfl, bb, OO⟩
            replace hb := Lib.hid (hb.out.trans (bb.mono hgs.out))
            have Y1 := Lib.hid OO
            clear bb OO
            go_wp2_with fail
            refine (X2.out _ Y1.out).mono ?_
            rintro _ u2 ⟨rfl, bb⟩
            replace hb := Lib.hid (hb.out.trans (bb.mono hb.out.size))
            replace Y1 := Lib.hid (Y1.out.on bb)
            clear bb
            go_wp2_with fail
            refine (X3.out _ Y1.out).mono ?_
            rintro _ u3 ⟨rfl, bb, OO⟩
            replace hb := Lib.hid (hb.out.trans (bb.mono hgs.out))
            have Y3 := Lib.hid OO
            clear bb OO
            go_wp2_with fail
            refine (X4.out _ Y3.out).mono ?_
            rintro _ u4 ⟨rfl, bb⟩
            replace hb := Lib.hid (hb.out.trans (bb.mono hb.out.size))
            replace Y3 := Lib.hid (Y3.out.on bb)
            clear bb
            go_wp2_with fail
            refine (X5.out _ Y3.out).mono ?_
            rintro _ u5 ⟨rfl, bb, OO⟩
            replace hb := Lib.hid (hb.out.trans (bb.mono hgs.out))
            have Y5 := Lib.hid OO
            clear bb OO
            go_wp2_with fail
            refine (X6.out _ Y5.out).mono ?_
            rintro _ u6 ⟨rfl, bb⟩
            replace hb := Lib.hid (hb.out.trans (bb.mono hb.out.size))
            replace Y5 := Lib.hid (Y5.out.on bb)
            clear bb
            go_wp2_with fail
            go_ret2
            exact fN.out _ en.out hb.out
          | true =>
            have en := yes _ (stp_yes a2 a3)
            have c3 := chkM_ok (L := dft (-1) (kck gw (-1) (dft (-1) M))) (by rw [dft_len, kck_len, dft_len]; exact l8) a3
            rw [c3] at X6
            clear no yes a1 c1 a2 c2 a3 c3 q lM l8 hR O
            go_wp2_with fail
            refine X1.out.mono ?_
            rintro _ u1 ⟨rfl, bb, OO⟩
            replace hb := Lib.hid (hb.out.trans (bb.mono hgs.out))
            have Y1 := Lib.hid OO
            clear bb OO
            go_wp2_with fail
            refine (X2.out _ Y1.out).mono ?_
            rintro _ u2 ⟨rfl, bb⟩
            replace hb := Lib.hid (hb.out.trans (bb.mono hb.out.size))
            replace Y1 := Lib.hid (Y1.out.on bb)
            clear bb
            go_wp2_with fail
            refine (X3.out _ Y1.out).mono ?_
            rintro _ u3 ⟨rfl, bb, OO⟩
            replace hb := Lib.hid (hb.out.trans (bb.mono hgs.out))
            have Y3 := Lib.hid OO
            clear bb OO
            go_wp2_with fail
            refine (X4.out _ Y3.out).mono ?_
            rintro _ u4 ⟨rfl, bb⟩
            replace hb := Lib.hid (hb.out.trans (bb.mono hb.out.size))
            replace Y3 := Lib.hid (Y3.out.on bb)
            clear bb
            go_wp2_with fail
            refine (X5.out _ Y3.out).mono ?_
            rintro _ u5 ⟨rfl, bb, OO⟩
            replace hb := Lib.hid (hb.out.trans (bb.mono hgs.out))
            have Y5 := Lib.hid OO
            clear bb OO
            go_wp2_with fail
            refine (X6.out _ Y5.out).mono ?_
            rintro _ u6 ⟨rfl, bb⟩
            replace hb := Lib.hid (hb.out.trans (bb.mono hb.out.size))
            replace Y5 := Lib.hid (Y5.out.on bb)
            clear bb
            go_wp2_with fail
            go_roundw
            case rel => exact ⟨k + 1, _, hlt, by go_num, en.out, Y5.out, hb.out⟩
            case measure => simp [intOf]; omega
    · obtain rfl : k = N := by omega
      have el : n = M.length := by rw [q.2]; exact hn.out
      have F := Lib.hid (fS.out M (some ⟨b0, 0, none⟩) cc wr hR hb O.at_)
      rw [← el] at F
      clear q hR O hb el fS fN
      go_wp2_with fail
      go_ret2
      exact F.out
set_option maxHeartbeats 16000000 in
set_option maxRecDepth 100000 in
theorem rgRun_pos (ao : Option Addr) (cap n : Nat) (L : List Ma) (gw : Nat) (w : World) (hn : n = L.length) (hm : n ≤ 4611686018427387904) (ha : MAt w ao L) {N : Nat} (hg : gw < 18446744073709551616) (hr : readyM L gw = 0) (hN : N ≤ 4096) (hrn : n * 56 ≤ 140737488351232) (hcz : ao = none → cap = 0) (hz : 0 < L.length) :
    Calls Try.prog 16 #[.slice ao n cap, .float .f64 gw, .int .i64 (N : Int)] w fun e w' => RunQ L gw (N : Int) w e w' := by
  have C := Lib.hid (rgcheck_run ao cap n L w hn hm ha)
  obtain ⟨hc0, hge⟩ := readyM_zero hr
  obtain ⟨hL8, hal⟩ := chkM_zero hc0
  have G := gee_of hg hge
  have h8 : n ≤ 8 := by omega
  have hx : ¬ ((N : Int) < -4096 ∨ 4096 < (N : Int)) := by omega
  have es : sgH (N : Int) = 1 := by unfold sgH; rw [if_neg (by omega)]
  have en : ((N : Int)).natAbs = N := by omega
  have fS := Lib.hid (fun r a c w' (e : runN gw 1 N L = some r) (hb : Below w.heap.size w w') O => RunQ.ok (ao := a) (cap := c) (RunR_some hr hx (by rw [es, en]; exact e)) hb O)
  have fN := Lib.hid (fun w' (e : runN gw 1 N L = none) (hb : Below w.heap.size w w') => RunQ.err (RunR_none hr hx (by rw [es, en]; exact e)) hb)
  have e0 := gee_swap hg
  have e1 : (FloatKind.f64.format.order gw 4787326403894837248 == some Ordering.lt || FloatKind.f64.format.order gw 4787326403894837248 == some Ordering.eq) = geB1 gw := rfl
  have hb0 : geB0 gw = true ∧ geB1 gw = true := by unfold geeB at hge; simpa using hge
  rw [hb0.1] at e0
  rw [hb0.2] at e1
  have D1 := Lib.hid (fun g c M w (hM : allB M = true) (hl : n = M.length) (O : OwM g M w) => rgdrift_run (cap := c) (h := 1) (by decide) hl h8 (all_dok hM) O)
  have D2 := Lib.hid (fun g c M w (hM : ∀ a ∈ M, Mid a) (hl : n = M.length) (O : OwM g M w) => rgkick_run (cap := c) (h := 1) (by decide) G hl h8 hM O)
  have D3 := Lib.hid (fun g c M w (hl : n = M.length) (O : OwM g M w) => rgcheck_run (some ⟨g, 0, none⟩) c n M w hl (by omega) O.at_)
  have ok := Lib.hid (fun k M (e : runN gw 1 k L = some M) => grun_ok hal e)
  rw [hc0] at C
  have lt0 := Lib.hid (ha.lt)
  clear hr hge hg hc0 hx es en G hL8 hb0
  have t1 : decide ((N : Int) < 0) = false := decide_eq_false (by omega)
  have t2 : decide ((N : Int) < -4096) = false := decide_eq_false (by omega)
  have t3 : decide (4096 < (N : Int)) = false := decide_eq_false (by omega)
  have hmx : n ≤ maxLen := by unfold maxLen; omega
  replace hn := Lib.hid hn
  replace ha := Lib.hid ha
  replace h8 := Lib.hid h8
  replace hz := Lib.hid hz
  go_enter Try.func16, Try.ntmps16
  go_wp2_with fail
  refine C.out.mono ?_
  rintro _ w1 ⟨rfl, hb1⟩
  replace hb1 := Lib.hid hb1
  clear C
  have A1 := Lib.hid (ha.out.below lt0.out hb1.out)
  clear ha
  go_wp2_with (first | (at_builtin; refine wpList_copyR recM rfl _ _ rfl rfl ao n cap (L.map maC) rfl (by rw [List.length_map]; exact hn.out) hcz A1.out (rows_ma L) hmx hrn ?_))
  intro ac cc v2 CP
  have hb3 := Lib.hid (hb1.out.trans (CP.old.mono hb1.out.size))
  obtain ⟨b0, o0, e0c, -, -⟩ := CP.at_ 0 _ (ma_get hz.out)
  obtain ⟨rfl, hgs0, -⟩ := CP.own b0 o0 e0c
  subst e0c
  have O1 := Lib.hid (ow_copied CP hn.out hz.out)
  have hgs : Hid (w.heap.size ≤ b0) := by
    have := hb1.out.size
    show _ ≤ _
    omega
  clear A1 hb1 CP hgs0
  go_wp2_with fail
  go_loopw [11] (fun kv wr => ∃ (k : Nat) (M : List Ma), k ≤ N ∧ kv = .int .i64 k ∧ runN gw 1 k L = some M ∧ OwM b0 M wr ∧ Below w.heap.size w wr) (fun kv _ => N - (intOf kv).toNat)
  case atStart => exact ⟨0, L, Nat.zero_le _, rfl, rfl, O1.out, hb3.out⟩
  case round =>
    obtain ⟨k, M, hk, rfl, hR, O, hb⟩ := hrel
    clear O1 hb3
    have q := ok.out k M hR
    by_cases hlt : k < N
    · have hkN : (k : Int) < (N : Int) := by omega
      have lM : n = M.length := by rw [q.2]; exact hn.out
      have l8 : M.length ≤ 8 := by rw [← lM]; exact h8.out
      have X1 := Lib.hid (D1.out b0 cc M wr q.1 lM O)
      have X2 := Lib.hid (fun W O => D3.out b0 cc (dft 1 M) W (by rw [dft_len]; exact lM) O)
      have X3 := Lib.hid (fun W O => D2.out b0 cc (dft 1 M) W (dft_mid (by decide) q.1) (by rw [dft_len]; exact lM) O)
      have X4 := Lib.hid (fun W O => D3.out b0 cc (kck gw 1 (dft 1 M)) W (by rw [kck_len, dft_len]; exact lM) O)
      have X6 := Lib.hid (fun W O => D3.out b0 cc (dft 1 (kck gw 1 (dft 1 M))) W (by rw [dft_len, kck_len, dft_len]; exact lM) O)
      have no : stp gw 1 M = none → Hid (runN gw 1 N L = none) := fun hs => by
        have := run_on_none (m := N - k - 1) hR hs
        rwa [show k + (N - k - 1 + 1) = N by omega] at this
      have yes : ∀ r, stp gw 1 M = some r → Hid (runN gw 1 (k + 1) L = some r) := fun r hs => run_on_some hR hs
      have gl := Lib.hid (Nat.le_of_lt O.lt)
      replace hb := Lib.hid hb
      cases a1 : allB (dft 1 M) with
      | false =>
        have en := no (dft_bad q.1 a1)
        have c1 := chkM_no (L := dft 1 M) (by rw [dft_len]; exact l8) a1
        rw [c1] at X2
        clear no yes a1 c1 q lM l8 hR O X3 X4 X6 D1 D2 D3
        go_wp2_with fail
        refine X1.out.mono ?_
        rintro _ u1 ⟨rfl, bb, OO⟩
        replace hb := Lib.hid (hb.out.trans (bb.mono hgs.out))
        have Y1 := Lib.hid OO
        clear bb OO
        go_wp2_with fail
        refine (X2.out _ Y1.out).mono ?_
        rintro _ u2 ⟨rfl, bb⟩
        replace hb := Lib.hid (hb.out.trans (bb.mono hb.out.size))
        replace Y1 := Lib.hid (Y1.out.on bb)
        clear bb
        go_wp2_with fail
        go_ret2
        exact fN.out _ en.out hb.out
      | true =>
        have c1 := chkM_ok (L := dft 1 M) (by rw [dft_len]; exact l8) a1
        rw [c1] at X2
        cases a2 : allB (kck gw 1 (dft 1 M)) with
        | false =>
          have en := no (stp_no1 a2)
          have c2 := chkM_no (L := kck gw 1 (dft 1 M)) (by rw [kck_len, dft_len]; exact l8) a2
          rw [c2] at X4
          clear no yes a1 c1 a2 c2 q lM l8 hR O X6 D1 D2 D3
          go_wp2_with fail
          refine X1.out.mono ?_
          rintro _ u1 ⟨rfl, bb, OO⟩
          replace hb := Lib.hid (hb.out.trans (bb.mono hgs.out))
          have Y1 := Lib.hid OO
          clear bb OO
          go_wp2_with fail
          refine (X2.out _ Y1.out).mono ?_
          rintro _ u2 ⟨rfl, bb⟩
          replace hb := Lib.hid (hb.out.trans (bb.mono hb.out.size))
          replace Y1 := Lib.hid (Y1.out.on bb)
          clear bb
          go_wp2_with fail
          refine (X3.out _ Y1.out).mono ?_
          rintro _ u3 ⟨rfl, bb, OO⟩
          replace hb := Lib.hid (hb.out.trans (bb.mono hgs.out))
          have Y3 := Lib.hid OO
          clear bb OO
          go_wp2_with fail
          refine (X4.out _ Y3.out).mono ?_
          rintro _ u4 ⟨rfl, bb⟩
          replace hb := Lib.hid (hb.out.trans (bb.mono hb.out.size))
          replace Y3 := Lib.hid (Y3.out.on bb)
          clear bb
          go_wp2_with fail
          go_ret2
          exact fN.out _ en.out hb.out
        | true =>
          have c2 := chkM_ok (L := kck gw 1 (dft 1 M)) (by rw [kck_len, dft_len]; exact l8) a2
          rw [c2] at X4
          have X5 := Lib.hid (fun W O => D1.out b0 cc (kck gw 1 (dft 1 M)) W a2 (by rw [kck_len, dft_len]; exact lM) O)
          cases a3 : allB (dft 1 (kck gw 1 (dft 1 M))) with
          | false =>
            have en := no (stp_no2 a3)
            have c3 := chkM_no (L := dft 1 (kck gw 1 (dft 1 M))) (by rw [dft_len, kck_len, dft_len]; exact l8) a3
            rw [c3] at X6
            clear no yes a1 c1 a2 c2 a3 c3 q lM l8 hR O D1 D2 D3
            go_wp2_with fail
            refine X1.out.mono ?_
            rintro _ u1 ⟨rfl, bb, OO⟩
            replace hb := Lib.hid (hb.out.trans (bb.mono hgs.out))
            have Y1 := Lib.hid OO
            clear bb OO
            go_wp2_with fail
            refine (X2.out _ Y1.out).mono ?_
            rintro _ u2 ⟨rfl, bb⟩
            replace hb := Lib.hid (hb.out.trans (bb.mono hb.out.size))
            replace Y1 := Lib.hid (Y1.out.on bb)
            clear bb
            go_wp2_with fail
            refine (X3.out _ Y1.out).mono ?_
            rintro _ u3 ⟨rfl, bb, OO⟩
            replace hb := Lib.hid (hb.out.trans (bb.mono hgs.out))
            have Y3 := Lib.hid OO
            clear bb OO
            go_wp2_with fail
            refine (X4.out _ Y3.out).mono ?_
            rintro _ u4 ⟨rfl, bb⟩
            replace hb := Lib.hid (hb.out.trans (bb.mono hb.out.size))
            replace Y3 := Lib.hid (Y3.out.on bb)
            clear bb
            go_wp2_with fail
            refine (X5.out _ Y3.out).mono ?_
            rintro _ u5 ⟨rfl, bb, OO⟩
            replace hb := Lib.hid (hb.out.trans (bb.mono hgs.out))
            have Y5 := Lib.hid OO
            clear bb OO
            go_wp2_with fail
            refine (X6.out _ Y5.out).mono ?_
            rintro _ u6 ⟨rfl, bb⟩
            replace hb := Lib.hid (hb.out.trans (bb.mono hb.out.size))
            replace Y5 := Lib.hid (Y5.out.on bb)
            clear bb
            go_wp2_with fail
            go_ret2
            exact fN.out _ en.out hb.out
          | true =>
            have en := yes _ (stp_yes a2 a3)
            have c3 := chkM_ok (L := dft 1 (kck gw 1 (dft 1 M))) (by rw [dft_len, kck_len, dft_len]; exact l8) a3
            rw [c3] at X6
            clear no yes a1 c1 a2 c2 a3 c3 q lM l8 hR O
            go_wp2_with fail
            refine X1.out.mono ?_
            rintro _ u1 ⟨rfl, bb, OO⟩
            replace hb := Lib.hid (hb.out.trans (bb.mono hgs.out))
            have Y1 := Lib.hid OO
            clear bb OO
            go_wp2_with fail
            refine (X2.out _ Y1.out).mono ?_
            rintro _ u2 ⟨rfl, bb⟩
            replace hb := Lib.hid (hb.out.trans (bb.mono hb.out.size))
            replace Y1 := Lib.hid (Y1.out.on bb)
            clear bb
            go_wp2_with fail
            refine (X3.out _ Y1.out).mono ?_
            rintro _ u3 ⟨rfl, bb, OO⟩
            replace hb := Lib.hid (hb.out.trans (bb.mono hgs.out))
            have Y3 := Lib.hid OO
            clear bb OO
            go_wp2_with fail
            refine (X4.out _ Y3.out).mono ?_
            rintro _ u4 ⟨rfl, bb⟩
            replace hb := Lib.hid (hb.out.trans (bb.mono hb.out.size))
            replace Y3 := Lib.hid (Y3.out.on bb)
            clear bb
            go_wp2_with fail
            refine (X5.out _ Y3.out).mono ?_
            rintro _ u5 ⟨rfl, bb, OO⟩
            replace hb := Lib.hid (hb.out.trans (bb.mono hgs.out))
            have Y5 := Lib.hid OO
            clear bb OO
            go_wp2_with fail
            refine (X6.out _ Y5.out).mono ?_
            rintro _ u6 ⟨rfl, bb⟩
            replace hb := Lib.hid (hb.out.trans (bb.mono hb.out.size))
            replace Y5 := Lib.hid (Y5.out.on bb)
            clear bb
            go_wp2_with fail
            go_roundw
            case rel => exact ⟨k + 1, _, hlt, by go_num, en.out, Y5.out, hb.out⟩
            case measure => simp [intOf]; omega
    · obtain rfl : k = N := by omega
      have el : n = M.length := by rw [q.2]; exact hn.out
      have F := Lib.hid (fS.out M (some ⟨b0, 0, none⟩) cc wr hR hb O.at_)
      rw [← el] at F
      clear q hR O hb el fS fN
      go_wp2_with fail
      go_ret2
      exact F.out
set_option maxHeartbeats 16000000 in
set_option maxRecDepth 100000 in
theorem rgRun_run (ao : Option Addr) (cap n : Nat) (L : List Ma) (gw : Nat) (w : World) (hn : n = L.length) (hm : n ≤ 4611686018427387904) (ha : MAt w ao L) {nn : Int} (hg : gw < 18446744073709551616) (hrn : n * 56 ≤ 140737488351232) (hcz : ao = none → cap = 0) :
    Calls Try.prog 16 #[.slice ao n cap, .float .f64 gw, .int .i64 nn] w fun e w' => RunQ L gw nn w e w' := by
  by_cases hx : nn < -4096 ∨ 4096 < nn
  · exact rgRun_arg ao cap n L gw w hn hm ha hx
  · by_cases hr : readyM L gw = 0
    · by_cases hz : L = []
      · by_cases h0 : nn < 0
        · obtain ⟨N, rfl⟩ : ∃ N : Nat, nn = -(N : Int) := ⟨nn.natAbs, by omega⟩
          exact rgRun_neg0 ao cap n L gw w hn hm ha hg hr (by omega) (by omega) hrn hcz hz
        · obtain ⟨N, rfl⟩ : ∃ N : Nat, nn = (N : Int) := ⟨nn.natAbs, by omega⟩
          exact rgRun_pos0 ao cap n L gw w hn hm ha hg hr (by omega) hrn hcz hz
      · have hz : 0 < L.length := List.length_pos_iff.2 hz
        by_cases h0 : nn < 0
        · obtain ⟨N, rfl⟩ : ∃ N : Nat, nn = -(N : Int) := ⟨nn.natAbs, by omega⟩
          exact rgRun_neg ao cap n L gw w hn hm ha hg hr (by omega) (by omega) hrn hcz hz
        · obtain ⟨N, rfl⟩ : ∃ N : Nat, nn = (N : Int) := ⟨nn.natAbs, by omega⟩
          exact rgRun_pos ao cap n L gw w hn hm ha hg hr (by omega) hrn hcz hz
    · exact rgRun_bad ao cap n L gw w hn hm ha hr hg hx
end Go.Proofs.Ytgfedhlnaipngaa
