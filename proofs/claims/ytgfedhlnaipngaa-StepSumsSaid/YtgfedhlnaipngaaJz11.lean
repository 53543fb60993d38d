/- Proved here: what the texts Grk, Grl, Grs, Gru, Grv prove, one behind the other. -/
import Derived.Test.YtgfedhlnaipngaaJz10

namespace Go.Proofs.Ytgfedhlnaipngaa
open Go.ChangeShapes Go.WideShapes Go.ChangeAt Go.RowKit Go.Deep Ieee.Own

end Go.Proofs.Ytgfedhlnaipngaa

namespace Go.Proofs.Ytgfedhlnaipngaa
open Go.ChangeShapes Go.WideShapes Go.ChangeAt Go.RowKit Go.Deep Ieee.Own

end Go.Proofs.Ytgfedhlnaipngaa

namespace Go.Proofs.Ytgfedhlnaipngaa
open Go.ChangeShapes Go.WideShapes Go.ChangeAt Go.RowKit Go.Deep Ieee.Own

theorem okB_m {a : Ma} (h : ¬ (1 ≤ a.m ∧ a.m ≤ 1048576)) : okB a = false := by
  cases e : okB a with
  | false => rfl
  | true => exact absurd ⟨(okB_iff.1 e).m1, (okB_iff.1 e).m2⟩ h
theorem okB_all {a : Ma} (h1 : 1 ≤ a.m) (h2 : a.m ≤ 1048576) (h : ∀ k, k < 3 → preB a k = true) : okB a = true := by
  rw [okB_yes h, decide_eq_true h1, decide_eq_true h2]; rfl
theorem preB_bad {a : Ma} {k : Nat} (h : ¬ (-1099511627776 ≤ a.x.get k ∧ a.x.get k ≤ 1099511627776 ∧ -1125899906842624 ≤ a.p.get k ∧ a.p.get k ≤ 1125899906842624)) : preB a k = false := by
  unfold preB wth
  simp only [Bool.and_eq_false_iff, decide_eq_false_iff_not]
  omega
theorem preB_good {a : Ma} {k : Nat} (h : -1099511627776 ≤ a.x.get k ∧ a.x.get k ≤ 1099511627776 ∧ -1125899906842624 ≤ a.p.get k ∧ a.p.get k ≤ 1125899906842624) : preB a k = true := by
  unfold preB wth
  simp only [Bool.and_eq_true, decide_eq_true_eq]
  omega
theorem MAt.row {w : World} {ao : Option Addr} {L : List Ma} (h : MAt w ao L) {j : Nat} (hj : j < L.length) :
    ∃ b o, ao = some ⟨b, o, none⟩ ∧ b < w.heap.size ∧ w.cell? ⟨b, o + j * 7, none⟩ = some (.int .i64 (mAt L j).m) ∧ (∀ k, k < 3 → w.cell? ⟨b, o + j * 7 + 1 + k, none⟩ = some (.int .i64 ((mAt L j).x.get k))) ∧ ∀ k, k < 3 → w.cell? ⟨b, o + j * 7 + 4 + k, none⟩ = some (.int .i64 ((mAt L j).p.get k)) := by
  obtain ⟨b, o, e, hb, hc⟩ := h j _ (ma_get hj)
  exact ⟨b, o, e, hb, hc 0 _ rfl, fun k hk => by rw [Nat.add_assoc]; exact hc (1 + k) _ (maC_x _ hk), fun k hk => by rw [Nat.add_assoc]; exact hc (4 + k) _ (maC_p _ hk)⟩
set_option maxHeartbeats 16000000 in
set_option maxRecDepth 100000 in
theorem rgcheck_run (ao : Option Addr) (cap n : Nat) (L : List Ma) (w : World) (hn : n = L.length) (hm : n ≤ 4611686018427387904) (ha : MAt w ao L) :
    Calls Try.prog 12 #[.slice ao n cap] w fun e w' => e = .returned (.int .i64 (chkM L)) ∧ Below w.heap.size w w' := by
  by_cases hl : 8 < n
  · have t1 : decide (8 < n) = true := decide_eq_true hl
    rw [chkM_long (by omega)]
    clear hn ha
    go_enter Try.func12, Try.ntmps12
    go_wp2_with fail
    go_ret
    exact ⟨rfl, Below.refl _ _⟩
  · have t1 : decide (8 < n) = false := decide_eq_false hl
    replace hn := Lib.hid hn
    replace ha := Lib.hid ha
    obtain ⟨V, hV⟩ : ∃ V, V = chkM L := ⟨_, rfl⟩
    rw [← hV]
    replace hV := Lib.hid hV
    go_enter Try.func12, Try.ntmps12
    go_wp2_with fail
    go_loopw [3] (fun iv wr => ∃ i : Nat, i ≤ n ∧ iv = .int .i64 i ∧ (∀ j, j < i → okB (mAt L j) = true) ∧ Below w.heap.size w wr) (fun iv _ => n - (intOf iv).toNat)
    case atStart => exact ⟨0, Nat.zero_le _, rfl, fun j hj => by omega, Below.refl _ _⟩
    case round =>
      obtain ⟨i, hi, rfl, ho, hb⟩ := hrel
      by_cases hlt : i < n
      · have hil : i < L.length := by have := hn.out; omega
        have hin : (i : Int) < (n : Int) := by omega
        obtain ⟨b, o, rfl, hbl, c0, cx, cp⟩ := MAt.row (ha.out.below (fun b o e _ => ha.out.lt b o e (by simp; omega)) hb) hil
        have bad : Hid (okB (mAt L i) = false → V = 140) := fun h => by rw [hV.out]; exact chkM_bad (by have := hn.out; omega) hil h
        have good : Hid (okB (mAt L i) = true → ∀ j, j < i + 1 → okB (mAt L j) = true) := fun h j hj => by
          by_cases e : j < i
          · exact ho j e
          · have e : j = i := by omega
            rw [e]; exact h
        clear ho
        generalize mAt L i = f at *
        replace hb := Lib.hid hb
        clear hbl
        by_cases m1 : f.m < 1
        · have v := Lib.hid (bad.out (okB_m (by omega)))
          have q1 : decide (f.m < 1) = true := decide_eq_true m1
          clear bad good cx cp
          generalize f.m = m at *
          go_wp2_with fail
          go_ret
          exact ⟨ret_iG v.out.symm, hb.out⟩
        · have q1 : decide (f.m < 1) = false := decide_eq_false m1
          by_cases m2 : 1048576 < f.m
          · have v := Lib.hid (bad.out (okB_m (by omega)))
            have q2 : decide (1048576 < f.m) = true := decide_eq_true m2
            clear bad good cx cp
            generalize f.m = m at *
            go_wp2_with fail
            go_ret
            exact ⟨ret_iG v.out.symm, hb.out⟩
          · have q2 : decide (1048576 < f.m) = false := decide_eq_false m2
            have good2 : Hid ((∀ k, k < 3 → preB f k = true) → ∀ j, j < i + 1 → okB (mAt L j) = true) := fun h => good.out (okB_all (by omega) (by omega) h)
            have bad2 : Hid (∀ k, k < 3 → preB f k = false → V = 140) := fun k hk h => bad.out (okB_no hk h)
            replace cx := Lib.hid cx
            replace cp := Lib.hid cp
            clear bad good
            generalize f.m = m at *
            go_wp2_with fail
            go_loopw [4] (fun kv wx => ∃ k : Nat, k ≤ 3 ∧ kv = .int .i64 k ∧ (∀ j, j < k → preB f j = true) ∧ wx = wr) (fun kv _ => 3 - (intOf kv).toNat)
            case atStart => exact ⟨0, by omega, rfl, fun j hj => by omega, rfl⟩
            case round =>
              obtain ⟨k, hk, rfl, hp, rfl⟩ := hrel
              by_cases hkt : k < 3
              · have hk3 : (k : Int) < 3 := by omega
                have x1 := cx.out k hkt
                have p1 := cp.out k hkt
                have nx : Hid (preB f k = true → ∀ j, j < k + 1 → preB f j = true) := fun h j hj => by
                  by_cases e : j < k
                  · exact hp j e
                  · have e : j = k := by omega
                    rw [e]; exact h
                have bd := Lib.hid (bad2.out k hkt)
                clear hp cx cp good2 bad2 c0
                have yes : Hid (-1099511627776 ≤ f.x.get k ∧ f.x.get k ≤ 1099511627776 ∧ -1125899906842624 ≤ f.p.get k ∧ f.p.get k ≤ 1125899906842624 → preB f k = true) := preB_good
                have no : Hid (¬ (-1099511627776 ≤ f.x.get k ∧ f.x.get k ≤ 1099511627776 ∧ -1125899906842624 ≤ f.p.get k ∧ f.p.get k ≤ 1125899906842624) → preB f k = false) := preB_bad
                generalize f.x.get k = x at *
                generalize f.p.get k = p at *
                by_cases a1 : x < -1099511627776
                · have v := Lib.hid (bd.out (no.out (by omega)))
                  have q1 : decide (x < -1099511627776) = true := decide_eq_true a1
                  clear bd no yes nx
                  go_wp2_with fail
                  go_ret
                  exact ⟨ret_iG v.out.symm, hb.out⟩
                · have q3 : decide (x < -1099511627776) = false := decide_eq_false a1
                  by_cases a2 : 1099511627776 < x
                  · have v := Lib.hid (bd.out (no.out (by omega)))
                    have q4 : decide (1099511627776 < x) = true := decide_eq_true a2
                    clear bd no yes nx
                    go_wp2_with fail
                    go_ret
                    exact ⟨ret_iG v.out.symm, hb.out⟩
                  · have q4 : decide (1099511627776 < x) = false := decide_eq_false a2
                    by_cases a3 : p < -1125899906842624
                    · have v := Lib.hid (bd.out (no.out (by omega)))
                      have q5 : decide (p < -1125899906842624) = true := decide_eq_true a3
                      clear bd no yes nx
                      go_wp2_with fail
                      go_ret
                      exact ⟨ret_iG v.out.symm, hb.out⟩
                    · have q5 : decide (p < -1125899906842624) = false := decide_eq_false a3
                      by_cases a4 : 1125899906842624 < p
                      · have v := Lib.hid (bd.out (no.out (by omega)))
                        have q6 : decide (1125899906842624 < p) = true := decide_eq_true a4
                        clear bd no yes nx
                        go_wp2_with fail
                        go_ret
                        exact ⟨ret_iG v.out.symm, hb.out⟩
                      · have q6 : decide (1125899906842624 < p) = false := decide_eq_false a4
                        have v := Lib.hid (nx.out (yes.out (by omega)))
                        clear bd no yes nx
                        go_wp2_with fail
                        go_roundw
                        case rel => exact ⟨k + 1, hkt, by go_num, v.out, by first | rfl | trivial⟩
                        case measure => simp [intOf]; omega
              · obtain rfl : k = 3 := by omega
                have v := Lib.hid (good2.out hp)
                clear hp cx cp good2 bad2 c0
                go_wp2_with fail
                go_roundw
                case rel => exact ⟨i + 1, hlt, by go_num, v.out, hb.out⟩
                case measure => simp [intOf]; omega
      · obtain rfl : i = n := by omega
        have hv : V = 0 := by
          rw [hV.out]
          exact chkM_good (by have := hn.out; omega) (fun j hj => ho j (by have := hn.out; omega))
        replace hv := Lib.hid hv
        replace hb := Lib.hid hb
        clear ho
        go_wp2_with fail
        go_ret
        exact ⟨ret_iG hv.out.symm, hb.out⟩
end Go.Proofs.Ytgfedhlnaipngaa

namespace Go.Proofs.Ytgfedhlnaipngaa
open Go.ChangeShapes Go.WideShapes Go.ChangeAt Go.RowKit Go.Deep Ieee.Own

def spI (L : List Ma) (k : Nat) : Int := sm L fun a => a.p.get k
def SumR (L : List Ma) : T3 × Int := if chkM L = 0 then (T3.of (spI L), 0) else (⟨0, 0, 0⟩, chkM L)
theorem SumR_ok {L : List Ma} (h : chkM L = 0) : SumR L = (T3.of (spI L), 0) := if_pos h
theorem SumR_no {L : List Ma} (h : chkM L ≠ 0) : SumR L = (⟨0, 0, 0⟩, chkM L) := if_neg h
def sumE (r : T3 × Int) : Ending := .returned (.tuple #[i3V r.1, .int .i64 r.2])
theorem sp_cap {L : List Ma} (h : allB L = true) (h8 : L.length ≤ 8) (i k : Nat) : (spI (L.take i) k).natAbs ≤ 2 ^ 53 := by
  have := sm_cap (f := fun a => a.p.get k) (c := 2 ^ 50) (L := L.take i) fun b hb => (allB_iff.1 h b (List.mem_of_mem_take hb)).p k
  have l : (L.take i).length ≤ 8 := by rw [List.length_take]; omega
  have q := Nat.mul_le_mul_right (2 ^ 50) l
  unfold spI
  omega
theorem sp_next {L : List Ma} {i : Nat} (hi : i < L.length) (k : Nat) : spI (L.take (i + 1)) k = spI (L.take i) k + (mAt L i).p.get k := take_next hi _
theorem Kv.init {w0 w : World} {L : List (Option (Nat × List Value))} {e : Option (Nat × List Value)} (C : Kv w0 (L ++ [e]) w) : Kv w0 L w := by
  have key : ∀ {j : Nat} {x}, L[j]? = some x → (L ++ [e])[j]? = some x := fun {j x} h => by
    have := (List.getElem?_eq_some_iff.1 h).1
    rw [List.getElem?_append_left this]; exact h
  exact ⟨C.old, fun j g us h => C.blk j g us (key h), fun i j g us vs h k => C.inj i j g us vs (key h) (key k)⟩
set_option maxHeartbeats 8000000 in
set_option maxRecDepth 100000 in
theorem rgsum_run (ao : Option Addr) (cap n : Nat) (L : List Ma) (w : World) (hn : n = L.length) (hm : n ≤ 4611686018427387904) (ha : MAt w ao L) :
    Calls Try.prog 20 #[.slice ao n cap] w fun e w' => e = sumE (SumR L) ∧ Below w.heap.size w w' := by
  have C := Lib.hid (fun W (h : MAt W ao L) => rgcheck_run ao cap n L W hn hm h)
  have lt0 := Lib.hid (ha.lt)
  have hst := @fstore
  have hsi := @istore
  replace ha := Lib.hid ha
  by_cases hc : chkM L = 0
  · obtain ⟨h8, hal⟩ := chkM_zero hc
    rw [SumR_ok hc]
    rw [hc] at C
    have n8 : n ≤ 8 := by omega
    have n8i : (n : Int) ≤ 8 := by omega
    have cap := Lib.hid (sp_cap hal h8)
    have pc : Hid (∀ i, i < L.length → ∀ k, ((mAt L i).p.get k).natAbs ≤ 2 ^ 50) := Lib.hid fun i hi k => (allB_iff.1 hal _ (mAt_mem hi)).p k
    replace hn := Lib.hid hn
    clear hc h8 hal
    have eS : sumE (T3.of (spI L), 0) = .returned (.tuple #[.agg #[.int .i64 (spI L 0), .int .i64 (spI L 1), .int .i64 (spI L 2)], .int .i64 0]) := rfl
    rw [eS]
    clear eS
    have K := kv2 w 32 32 (in3 ⟨0, 0, 0⟩) (in3 ⟨0, 0, 0⟩)
    simp only [objV] at K
    have A1 := Lib.hid (ha.out.below lt0.out K.old)
    replace K := Lib.hid K
    have ez : (in3 ⟨0, 0, 0⟩).toArray = #[.int .i64 0, .int .i64 0, .int .i64 0] := rfl
    rw [ez] at A1 K
    clear ez
    go_enter Try.func20, Try.ntmps20
    go_wp2_with fail
    refine (C.out _ A1.out).mono ?_
    rintro _ w1 ⟨rfl, hb1⟩
    replace K := Lib.hid (K.out.on hb1)
    clear C A1 hb1
    go_wp2_with fail
    go_loopw [6] (fun iv wr => ∃ i : Nat, i ≤ n ∧ iv = .int .i64 i ∧ Kv w [some (w.heap.size, in3 ⟨0, 0, 0⟩), some (w.heap.size + 1, in3 (T3.of (spI (L.take i))))] wr) (fun iv _ => n - (intOf iv).toNat)
    case atStart => exact ⟨0, Nat.zero_le _, rfl, K.out⟩
    case round =>
      obtain ⟨i, hi, rfl, C⟩ := hrel
      clear K
      by_cases hlt : i < n
      · have hil : i < L.length := by have := hn.out; omega
        have hin : (i : Int) < (n : Int) := by omega
        have A2 := ha.out.below lt0.out C.old
        have nx := Lib.hid (sp_next hil)
        have pcI := Lib.hid (pc.out i hil)
        have c1 := Lib.hid (cap.out i)
        have c2 := Lib.hid (cap.out (i + 1))
        obtain ⟨b, o, rfl, hbl, -, -, cp⟩ := MAt.row A2 hil
        clear A2
        have far : Hid (∀ W, Below w.heap.size w W → ∀ k, k < 3 → W.cell? ⟨b, o + i * 7 + 4 + k, none⟩ = some (.int .i64 ((mAt L i).p.get k))) := Lib.hid fun W h k hk => by
          obtain ⟨b', o', e, -, -, -, q⟩ := MAt.row (ha.out.below lt0.out h) hil
          obtain ⟨rfl, rfl⟩ : b = b' ∧ o = o' := by simpa using e
          exact q k hk
        clear hbl
        generalize mAt L i = f at *
        replace C := Lib.hid C
        go_wp2_with fail
        go_loopw [7] (fun kv wx => ∃ k : Nat, k ≤ 3 ∧ kv = .int .i64 k ∧ Kv w [some (w.heap.size, in3 ⟨0, 0, 0⟩), some (w.heap.size + 1, in3 ((T3.of (spI (L.take i))).mix (spI (L.take (i + 1))) k))] wx) (fun kv _ => 3 - (intOf kv).toNat)
        case atStart => exact ⟨0, by omega, rfl, C.out⟩
        case round =>
          obtain ⟨k, hk, rfl, X⟩ := hrel
          clear C
          by_cases hkt : k < 3
          · have hk3 : (k : Int) < 3 := by omega
            have e1 := (X.at_ 1 rfl).at_ k _ (in3_get _ hkt)
            have f1 := (X.at_ 1 rfl).fr k _ (in3_get _ hkt)
            rw [mix_get _ _ hkt, get_of _ hkt] at e1
            have e2 := far.out wr X.old k hkt
            have w1 : IntKind.i64.wrap (spI (L.take i) k + f.p.get k) = spI (L.take i) k + f.p.get k := IntWalk.i64_in _ (by have := c1.out k; have := pcI.out k; omega)
            have P := (X.put 1 rfl k [.int .i64 (spI (L.take i) k + f.p.get k)] (by simp [in3]; omega)).draws
            have nk := nx.out k
            rw [← nk] at P
            simp only [setV, in3_put _ hkt, mix_put _ _ hkt, putV] at P
            rw [nk] at P
            replace P := Lib.hid P
            clear X
            generalize spI (L.take i) k = s at *
            generalize f.p.get k = p at *
            go_wp2_with fail
            go_still_tail 12, (by kernel_rfl)
            change wpList _ _ _ _ _ wr.drew
            go_wp2_with fail
            go_roundw
            case rel => exact ⟨k + 1, hkt, by go_num, P.out⟩
            case measure => simp [intOf]; omega
          · obtain rfl : k = 3 := by omega
            rw [mix_three] at X
            have P := Lib.hid (X)
            clear X
            go_wp2_with fail
            go_roundw
            case rel => exact ⟨i + 1, hlt, by go_num, P.out⟩
            case measure => simp [intOf]; omega
      · obtain rfl : i = n := by omega
        rw [show L.take i = L by rw [hn.out]; exact List.take_length ..] at C
        have c0 := (C.at_ 1 rfl).at_ 0 _ rfl
        have c1 := (C.at_ 1 rfl).at_ 1 _ rfl
        have c2 := (C.at_ 1 rfl).at_ 2 _ rfl
        have g0 := (C.at_ 0 rfl).at_ 0 _ rfl
        have g1' := (C.at_ 0 rfl).at_ 1 _ rfl
        have g2 := (C.at_ 0 rfl).at_ 2 _ rfl
        have f0 := (C.at_ 0 rfl).fr 0 _ rfl
        have f1 := (C.at_ 0 rfl).fr 1 _ rfl
        have f2 := (C.at_ 0 rfl).fr 2 _ rfl
        have P := C.put 0 rfl 0 [.int .i64 (spI L 0), .int .i64 (spI L 1), .int .i64 (spI L 2)] (by simp [in3])
        simp only [putV, Nat.zero_add, Nat.reduceAdd] at P
        replace P := Lib.hid P
        unfold T3.of at c0 c1 c2
        dsimp only at c0 c1 c2
        clear C
        go_wp2_with fail
        replace P := P.out
        (try simp only [Exit.inBlock, Exit.then])
        refine bodyPost_ret (v := .tuple #[.agg #[.int .i64 (spI L 0), .int .i64 (spI L 1), .int .i64 (spI L 2)], .int .i64 0]) ?_ rfl ⟨rfl, P.old⟩
        have q0 := (P.at_ 0 rfl).at_ 0 _ rfl
        have q1 := (P.at_ 0 rfl).at_ 1 _ rfl
        have q2 := (P.at_ 0 rfl).at_ 2 _ rfl
        rw [results_cell_tmp rfl]; go_simp
  · rw [SumR_no hc]
    have t : (chkM L != 0) = true := by simpa using hc
    have eS : sumE (⟨0, 0, 0⟩, chkM L) = .returned (.tuple #[.agg #[.int .i64 0, .int .i64 0, .int .i64 0], .int .i64 (chkM L)]) := rfl
    rw [eS]
    clear eS hc
    generalize chkM L = k at *
    replace hn := Lib.hid hn
    have K := kv2 w 32 32 (in3 ⟨0, 0, 0⟩) (in3 ⟨0, 0, 0⟩)
    simp only [objV] at K
    have A1 := Lib.hid (ha.out.below lt0.out K.old)
    replace K := Lib.hid K
    have ez : (in3 ⟨0, 0, 0⟩).toArray = #[.int .i64 0, .int .i64 0, .int .i64 0] := rfl
    rw [ez] at A1 K
    clear ez
    go_enter Try.func20, Try.ntmps20
    go_wp2_with fail
    refine (C.out _ A1.out).mono ?_
    rintro _ w1 ⟨rfl, hb1⟩
    have K1 := K.out.on hb1
    have g0 := (K1.at_ 0 rfl).at_ 0 _ rfl
    have g1 := (K1.at_ 0 rfl).at_ 1 _ rfl
    have g2 := (K1.at_ 0 rfl).at_ 2 _ rfl
    have f0 := (K1.at_ 0 rfl).fr 0 _ rfl
    have f1 := (K1.at_ 0 rfl).fr 1 _ rfl
    have f2 := (K1.at_ 0 rfl).fr 2 _ rfl
    have c0 := (K1.at_ 1 rfl).at_ 0 _ rfl
    have c1 := (K1.at_ 1 rfl).at_ 1 _ rfl
    have c2 := (K1.at_ 1 rfl).at_ 2 _ rfl
    have P := K1.put 0 rfl 0 [.int .i64 0, .int .i64 0, .int .i64 0] (by simp [in3])
    simp only [putV, Nat.zero_add, Nat.reduceAdd] at P
    replace P := Lib.hid P
    clear C A1 hb1 K K1
    go_wp2_with fail
    replace P := P.out
    (try simp only [Exit.inBlock, Exit.then])
    refine bodyPost_ret (v := .tuple #[.agg #[.int .i64 0, .int .i64 0, .int .i64 0], .int .i64 k]) ?_ rfl ⟨rfl, P.old⟩
    have q0 := (P.at_ 0 rfl).at_ 0 _ rfl
    have q1 := (P.at_ 0 rfl).at_ 1 _ rfl
    have q2 := (P.at_ 0 rfl).at_ 2 _ rfl
    rw [results_cell_tmp rfl]; go_simp
set_option maxHeartbeats 8000000 in
set_option maxRecDepth 100000 in
theorem gsum_run (ao : Option Addr) (cap n : Nat) (L : List Ma) (w : World) (hn : n = L.length) (hm : n ≤ 4611686018427387904) (ha : MAt w ao L) :
    Calls Try.prog 19 #[.slice ao n cap] w fun e w' => e = sumE (SumR L) ∧ Below w.heap.size w w' := by
  have C := Lib.hid (fun W (h : MAt W ao L) => gcheck_run ao cap n L W hn hm h)
  have lt0 := Lib.hid (ha.lt)
  have hst := @fstore
  have hsi := @istore
  replace ha := Lib.hid ha
  by_cases hc : chkM L = 0
  · obtain ⟨h8, hal⟩ := chkM_zero hc
    rw [SumR_ok hc]
    rw [hc] at C
    have n8 : n ≤ 8 := by omega
    have n8i : (n : Int) ≤ 8 := by omega
    have cap := Lib.hid (sp_cap hal h8)
    have pc : Hid (∀ i, i < L.length → ∀ k, ((mAt L i).p.get k).natAbs ≤ 2 ^ 50) := Lib.hid fun i hi k => (allB_iff.1 hal _ (mAt_mem hi)).p k
    replace hn := Lib.hid hn
    clear hc h8 hal
    have eS : sumE (T3.of (spI L), 0) = .returned (.tuple #[.agg #[.int .i64 (spI L 0), .int .i64 (spI L 1), .int .i64 (spI L 2)], .int .i64 0]) := rfl
    rw [eS]
    clear eS
    have K := kv1 w 32 (in3 ⟨0, 0, 0⟩)
    simp only [objV] at K
    have A1 := Lib.hid (ha.out.below lt0.out K.old)
    replace K := Lib.hid K
    have ez : (in3 ⟨0, 0, 0⟩).toArray = #[.int .i64 0, .int .i64 0, .int .i64 0] := rfl
    rw [ez] at A1 K
    clear ez
    go_enter Try.func19, Try.ntmps19
    go_wp2_with fail
    refine (C.out _ A1.out).mono ?_
    rintro _ w1 ⟨rfl, hb1⟩
    replace K := Lib.hid (K.out.on hb1)
    clear C A1 hb1
    generalize hg1 : w1.heap.size = g1 at *
    have K2 := K.out.new 32 (in3 ⟨0, 0, 0⟩)
    rw [hg1] at K2
    simp only [objV, List.cons_append, List.nil_append] at K2
    replace K := Lib.hid K2
    clear K2
    go_wp2_with fail
    go_loopw [17] (fun iv wr => ∃ i : Nat, i ≤ n ∧ iv = .int .i64 i ∧ Kv w [some (w.heap.size, in3 ⟨0, 0, 0⟩), some (g1, in3 (T3.of (spI (L.take i))))] wr) (fun iv _ => n - (intOf iv).toNat)
    case atStart => exact ⟨0, Nat.zero_le _, rfl, K.out⟩
    case round =>
      obtain ⟨i, hi, rfl, C⟩ := hrel
      clear K
      by_cases hlt : i < n
      · have hil : i < L.length := by have := hn.out; omega
        have hin : (i : Int) < (n : Int) := by omega
        have A2 := ha.out.below lt0.out C.old
        have nx := Lib.hid (sp_next hil)
        have pcI := Lib.hid (pc.out i hil)
        have c1 := Lib.hid (cap.out i)
        have c2 := Lib.hid (cap.out (i + 1))
        obtain ⟨b, o, rfl, hbl, d0, d1, d2, d3, d4, d5, d6⟩ := MAt.cells A2 hil
        clear A2
        generalize mAt L i = f at *
        generalize hg2 : wr.heap.size = g2 at *
        have K2 := C.new 34 (maC f)
        rw [hg2] at K2
        simp only [objV, List.cons_append, List.nil_append] at K2
        replace K2 := Lib.hid K2
        clear C hbl
        unfold maC at K2
        go_wp2_with fail
        go_loopw [21] (fun kv wx => ∃ k : Nat, k ≤ 3 ∧ kv = .int .i64 k ∧ Kv w [some (w.heap.size, in3 ⟨0, 0, 0⟩), some (g1, in3 ((T3.of (spI (L.take i))).mix (spI (L.take (i + 1))) k)), some (g2, maC f)] wx) (fun kv _ => 3 - (intOf kv).toNat)
        case atStart => exact ⟨0, by omega, rfl, K2.out⟩
        case round =>
          obtain ⟨k, hk, rfl, X⟩ := hrel
          clear K2
          by_cases hkt : k < 3
          · have hk3 : (k : Int) < 3 := by omega
            have e1 := (X.at_ 1 rfl).at_ k _ (in3_get _ hkt)
            have f1 := (X.at_ 1 rfl).fr k _ (in3_get _ hkt)
            rw [mix_get _ _ hkt, get_of _ hkt] at e1
            have e2 := (X.at_ 2 rfl).at_ (4 + k) _ (maC_p f hkt)
            have w1 : IntKind.i64.wrap (spI (L.take i) k + f.p.get k) = spI (L.take i) k + f.p.get k := IntWalk.i64_in _ (by have := c1.out k; have := pcI.out k; omega)
            have P := (X.put 1 rfl k [.int .i64 (spI (L.take i) k + f.p.get k)] (by simp [in3]; omega)).draws
            have nk := nx.out k
            rw [← nk] at P
            simp only [setV, in3_put _ hkt, mix_put _ _ hkt, putV] at P
            rw [nk] at P
            replace P := Lib.hid P
            clear X
            generalize spI (L.take i) k = s at *
            generalize f.p.get k = p at *
            go_wp2_with fail
            go_still_tail 9, (by kernel_rfl)
            change wpList _ _ _ _ _ wr.drew
            go_wp2_with fail
            go_roundw
            case rel => exact ⟨k + 1, hkt, by go_num, P.out⟩
            case measure => simp [intOf]; omega
          · obtain rfl : k = 3 := by omega
            rw [mix_three] at X
            have P := Lib.hid (Kv.init (L := [_, _]) X)
            clear X
            go_wp2_with fail
            go_roundw
            case rel => exact ⟨i + 1, hlt, by go_num, P.out⟩
            case measure => simp [intOf]; omega
      · obtain rfl : i = n := by omega
        rw [show L.take i = L by rw [hn.out]; exact List.take_length ..] at C
        have c0 := (C.at_ 1 rfl).at_ 0 _ rfl
        have c1 := (C.at_ 1 rfl).at_ 1 _ rfl
        have c2 := (C.at_ 1 rfl).at_ 2 _ rfl
        have g0 := (C.at_ 0 rfl).at_ 0 _ rfl
        have g1' := (C.at_ 0 rfl).at_ 1 _ rfl
        have g2 := (C.at_ 0 rfl).at_ 2 _ rfl
        have f0 := (C.at_ 0 rfl).fr 0 _ rfl
        have f1 := (C.at_ 0 rfl).fr 1 _ rfl
        have f2 := (C.at_ 0 rfl).fr 2 _ rfl
        have P := C.put 0 rfl 0 [.int .i64 (spI L 0), .int .i64 (spI L 1), .int .i64 (spI L 2)] (by simp [in3])
        simp only [putV, Nat.zero_add, Nat.reduceAdd] at P
        replace P := Lib.hid P
        unfold T3.of at c0 c1 c2
        dsimp only at c0 c1 c2
        clear C
        go_wp2_with fail
        replace P := P.out
        (try simp only [Exit.inBlock, Exit.then])
        refine bodyPost_ret (v := .tuple #[.agg #[.int .i64 (spI L 0), .int .i64 (spI L 1), .int .i64 (spI L 2)], .int .i64 0]) ?_ rfl ⟨rfl, P.old⟩
        have q0 := (P.at_ 0 rfl).at_ 0 _ rfl
        have q1 := (P.at_ 0 rfl).at_ 1 _ rfl
        have q2 := (P.at_ 0 rfl).at_ 2 _ rfl
        rw [results_cell_tmp rfl]; go_simp
  · rw [SumR_no hc]
    have t : (chkM L != 0) = true := by simpa using hc
    have eS : sumE (⟨0, 0, 0⟩, chkM L) = .returned (.tuple #[.agg #[.int .i64 0, .int .i64 0, .int .i64 0], .int .i64 (chkM L)]) := rfl
    rw [eS]
    clear eS hc
    generalize chkM L = k at *
    replace hn := Lib.hid hn
    have K := kv1 w 32 (in3 ⟨0, 0, 0⟩)
    simp only [objV] at K
    have A1 := Lib.hid (ha.out.below lt0.out K.old)
    replace K := Lib.hid K
    have ez : (in3 ⟨0, 0, 0⟩).toArray = #[.int .i64 0, .int .i64 0, .int .i64 0] := rfl
    rw [ez] at A1 K
    clear ez
    go_enter Try.func19, Try.ntmps19
    go_wp2_with fail
    refine (C.out _ A1.out).mono ?_
    rintro _ w1 ⟨rfl, hb1⟩
    have K1 := K.out.on hb1
    have g0 := (K1.at_ 0 rfl).at_ 0 _ rfl
    have g1 := (K1.at_ 0 rfl).at_ 1 _ rfl
    have g2 := (K1.at_ 0 rfl).at_ 2 _ rfl
    have f0 := (K1.at_ 0 rfl).fr 0 _ rfl
    have f1 := (K1.at_ 0 rfl).fr 1 _ rfl
    have f2 := (K1.at_ 0 rfl).fr 2 _ rfl
    have P := K1.put 0 rfl 0 [.int .i64 0, .int .i64 0, .int .i64 0] (by simp [in3])
    simp only [putV, Nat.zero_add, Nat.reduceAdd] at P
    replace P := Lib.hid P
    clear C A1 hb1 K K1
    go_wp2_with fail
    replace P := P.out
    (try simp only [Exit.inBlock, Exit.then])
    refine bodyPost_ret (v := .tuple #[.agg #[.int .i64 0, .int .i64 0, .int .i64 0], .int .i64 k]) ?_ rfl ⟨rfl, P.old⟩
    have q0 := (P.at_ 0 rfl).at_ 0 _ rfl
    have q1 := (P.at_ 0 rfl).at_ 1 _ rfl
    have q2 := (P.at_ 0 rfl).at_ 2 _ rfl
    rw [results_cell_tmp rfl]; go_simp
end Go.Proofs.Ytgfedhlnaipngaa

namespace Go.Proofs.Ytgfedhlnaipngaa
open Go.ChangeShapes Go.WideShapes Go.ChangeAt Go.RowKit Go.Deep Ieee.Own

def mk7 : Ma := ⟨77, ⟨0, 0, 0⟩, ⟨0, 0, 0⟩⟩
def mk8 : Ma := ⟨78, ⟨0, 0, 0⟩, ⟨0, 0, 0⟩⟩
set_option maxRecDepth 100000 in
theorem wpList_dupM {w : World} {ops : Array Oper} {rest : List Oper} {o : Oper} {a : Act} {Q : Exit → Act → World → Prop} {t e : TypeId} {m bytes : Nat} {z : Value} (T : RecT t e m bytes z) (hgd : o.guard = none) (s x : Operand)
    (ho : o.op = .call { callee := .builtin .append, args := #[s, x], argTypes := #[t, t] }) (base : Nat) (v : Value) (us : List (List Value)) (hs : a.eval s = v)
    (hown : w.ownsRow base e m v us.length us.flatten) (ao : Option Addr) (n cap : Nat) (R : List (List Value)) (hx : a.eval x = .slice ao n cap) (hn : n = R.length) (hnone : ao = none → cap = 0) (ha : RAt w ao m R) (hR : RowsOk m R)
    (hmax : us.length + R.length ≤ maxLen) (hby : (us.length + R.length) * bytes ≤ 140737488355328) (hbase : base ≤ w.heap.size)
    (h : ∀ v' w', w'.ownsRow base e m v' (us ++ R).length (us ++ R).flatten → w.grownBy w' v.ownBlock → wpList Try.prog ops Q rest (a.put o.dst v') w') :
    wpList Try.prog ops Q (o :: rest) a w :=
  wpList_plain hgd fun _ hK => wp_dupR T s x ho base v us hs hown ao n cap R hx hn hnone ha hR hmax hby hbase fun v' w' h2 h3 => hK _ _ (h v' w' h2 h3)
def mkC : Array Value := #[.int .i64 77, .int .i64 0, .int .i64 0, .int .i64 0, .int .i64 0, .int .i64 0, .int .i64 0, .int .i64 78, .int .i64 0, .int .i64 0, .int .i64 0, .int .i64 0, .int .i64 0, .int .i64 0]
theorem marks_at14 (w : World) : RAt (w.alloc (.cells mkC 34)) (some ⟨w.heap.size, 0, none⟩) 7 ([mk7, mk8].map maC) := by
  have B := BV.box w 34 mkC.toList
  intro j r hj
  have j2 : j = 0 ∨ j = 1 := by
    have := (List.getElem?_eq_some_iff.1 hj).1
    simp at this
    omega
  rcases j2 with rfl | rfl
  · simp at hj
    subst hj
    refine ⟨_, _, rfl, B.lt, fun k u hu => B.at_ _ u ?_⟩
    have hk := (List.getElem?_eq_some_iff.1 hu).1
    have : k = 0 ∨ k = 1 ∨ k = 2 ∨ k = 3 ∨ k = 4 ∨ k = 5 ∨ k = 6 := by simp [maC] at hk; omega
    rcases this with rfl | rfl | rfl | rfl | rfl | rfl | rfl <;> exact hu
  · simp at hj
    subst hj
    refine ⟨_, _, rfl, B.lt, fun k u hu => B.at_ _ u ?_⟩
    have hk := (List.getElem?_eq_some_iff.1 hu).1
    have : k = 0 ∨ k = 1 ∨ k = 2 ∨ k = 3 ∨ k = 4 ∨ k = 5 ∨ k = 6 := by simp [maC] at hk; omega
    rcases this with rfl | rfl | rfl | rfl | rfl | rfl | rfl <;> exact hu
set_option maxHeartbeats 4000000 in
set_option maxRecDepth 100000 in
theorem groomy_run (ao : Option Addr) (cap n : Nat) (L : List Ma) (w : World) (hn : n = L.length) (hm : n + 2 ≤ maxLen) (hr : (n + 2) * 56 ≤ 140737488355328) (hnone : ao = none → cap = 0) (ha : MAt w ao L) :
    Calls Try.prog 14 #[.slice ao n cap] w fun e w' => ∃ g cap', e = .returned (.slice (some ⟨g, 0, none⟩) n cap') ∧ n + 2 ≤ cap' ∧ cap' ≤ maxLen ∧ MAt w' (some ⟨g, 0, none⟩) (L ++ [mk7, mk8]) ∧ w.heap.size ≤ g ∧ Below w.heap.size w w' := by
  have ho := ownsR_empty w 34 7
  have ha1 := RAt.alloc ha (.cells #[] 34)
  have hb1 : w.heap.size ≤ (w.alloc (.cells #[] 34)).heap.size := by simp
  have B1 := Lib.hid ((Below.refl w.heap.size w).alloc (Nat.le_refl _) (.cells #[] 34))
  have hn0 := Lib.hid hn
  have hmx : ([] : List (List Value)).length + (L.map maC).length ≤ maxLen := by simp; omega
  have hby : (([] : List (List Value)).length + (L.map maC).length) * 56 ≤ 140737488355328 := by simp; omega
  clear ha hn
  go_enter Try.func14, Try.ntmps14
  go_wp2_with (at_builtin; refine wpList_dupM recM rfl _ _ rfl w.heap.size _ [] rfl ho ao n cap (L.map maC) rfl (by rw [List.length_map]; exact hn0.out) hnone ha1 (rows_ma L) hmx hby hb1 ?_)
  intro v' w' ho' hg'
  replace ho' : w'.ownsRow w.heap.size 34 7 v' (L.map maC).length (L.map maC).flatten := by simpa using ho'
  have B2 : Hid (Below w.heap.size w w') := B1.out.grown hg' hb1 (by intro k hk; simp [Value.ownBlock] at hk; omega)
  obtain ⟨ao', m', c', rfl⟩ : ∃ ao m c, v' = .slice ao m c := by
    obtain ⟨ao, cap, hv, -⟩ := ownsR_at (rows_ma L) ho'
    exact ⟨_, _, _, hv⟩
  have O5 := ho'.alloc (.cells mkC 34)
  have hlt := Lib.hid ho'.lt
  have hb5 : w.heap.size ≤ (w'.alloc (.cells mkC 34)).heap.size := by have := B2.out.size; simp; omega
  have B5 := Lib.hid (B2.out.alloc B2.out.size (.cells mkC 34))
  have MA := marks_at14 w'
  have hmx2 : (L.map maC).length + ([mk7, mk8].map maC).length ≤ maxLen := by have := hn0.out; simp; omega
  have hby2 : ((L.map maC).length + ([mk7, mk8].map maC).length) * 56 ≤ 140737488355328 := by have := hn0.out; simp; omega
  clear ho' hg' ho ha1 hb1 hby hmx B1 B2
  unfold mkC at O5 hb5 B5 MA
  go_wp2_with (at_builtin; refine wpList_dupM recM rfl _ _ rfl w.heap.size _ (L.map maC) rfl O5 (some ⟨w'.heap.size, 0, none⟩) 2 2 ([mk7, mk8].map maC) rfl rfl (by intro h; cases h) MA (rows_ma _) hmx2 hby2 hb5 ?_)
  intro v2 w3 ho3 hg3
  replace ho3 : w3.ownsRow w.heap.size 34 7 v2 ((L ++ [mk7, mk8]).map maC).length ((L ++ [mk7, mk8]).map maC).flatten := by
    first
    | (rw [List.map_append]; exact ho3)
    | simpa [Nat.add_assoc] using ho3
  obtain ⟨ao3, cap3, e3, h1, h2, h3, h4, h5⟩ := ownsR_at (rows_ma (L ++ [mk7, mk8])) ho3
  obtain ⟨g, rfl, hgb⟩ : ∃ g, ao3 = some ⟨g, 0, none⟩ ∧ w.heap.size ≤ g := by
    obtain ⟨b, o, e, -⟩ := h3 0 _ (by rw [List.getElem?_map, List.getElem?_eq_getElem (by simp : 0 < (L ++ [mk7, mk8]).length)]; rfl)
    obtain ⟨rfl, hg0, -⟩ := h5 b o e
    exact ⟨b, e, hg0⟩
  have B6 : Hid (Below w.heap.size w w3) := B5.out.grown hg3 hb5 (by intro k hk; exact (hlt.out k hk).1)
  have hlen : ((L ++ [mk7, mk8]).map maC).length = n + 2 := by rw [List.length_map, List.length_append, hn0.out]; rfl
  rw [hlen] at h1 e3
  have hF := Lib.hid (show MAt w3 (some ⟨g, 0, none⟩) (L ++ [mk7, mk8]) from h3)
  subst e3
  replace hgb := Lib.hid hgb
  clear ho3 hg3 O5 MA hmx2 hby2 hb5 B5 hlt h3 h4 h5 hlen
  have hnc : n ≤ cap3 := by omega
  go_wp2_with fail
  go_ret
  exact ⟨g, cap3, rfl, h1, h2, hF.out, hgb.out, B6.out⟩
theorem MAt.left {w : World} {ao : Option Addr} {L M : List Ma} (h : MAt w ao (L ++ M)) : MAt w ao L := fun j r hj => h j r (by
  have hl := (List.getElem?_eq_some_iff.1 hj).1
  rw [List.map_append, List.getElem?_append_left hl]
  exact hj)
set_option maxHeartbeats 4000000 in
set_option maxRecDepth 100000 in
theorem gkept_run (g : Nat) (ao : Option Addr) (cap cap' n : Nat) (L : List Ma) (w : World) (hn : n = L.length) (hm : n ≤ 4611686018427387904) (hcap : n + 2 ≤ cap') (hcm : cap' ≤ maxLen) (ha : MAt w (some ⟨g, 0, none⟩) (L ++ [mk7, mk8])) (hb : MAt w ao L) :
    Calls Try.prog 18 #[.slice (some ⟨g, 0, none⟩) n cap', .slice ao n cap] w fun e w' => e = .returned (.bool true) ∧ Below w.heap.size w w' := by
  have CL := Lib.hid (gsame_run (some ⟨g, 0, none⟩) ao cap' cap n L w hn hm ha.left hb)
  have at7 : mAt (L ++ [mk7, mk8]) n = mk7 := by rw [hn]; exact mAt_of (by simp)
  have at8 : mAt (L ++ [mk7, mk8]) (n + 1) = mk8 := by rw [hn]; exact mAt_of (by simp)
  have F7 := Lib.hid (fun W (h : Below w.heap.size w W) => MAt.cells (j := n) (ha.below (fun b o e k => ha.lt b o e k) h) (by rw [hn]; simp))
  have F8 := Lib.hid (fun W (h : Below w.heap.size w W) => MAt.cells (j := n + 1) (ha.below (fun b o e k => ha.lt b o e k) h) (by rw [hn]; simp))
  rw [at7] at F7
  rw [at8] at F8
  have e7 := meq_run mk7
  have e8 := meq_run mk8
  have hcm' : cap' ≤ 9223372036854775807 := by unfold maxLen at hcm; omega
  have hn2 : ¬ ((n : Int) + 1 < 0) := by omega
  have hn4 : IntKind.i64.wrap ((n : Int) + 1) = (n : Int) + 1 := IntWalk.i64_in _ (by omega)
  have hn7 : IntKind.i64.wrap ((n : Int) + 2) = (n : Int) + 2 := IntWalk.i64_in _ (by omega)
  have hn5 : ¬ ((n : Int) + 2 ≤ (n : Int) + 1) := by omega
  have hn1 : ¬ ((n : Int) + 2 ≤ (n : Int)) := by omega
  have hn6 : (((n : Int) + 1).toNat) = n + 1 := by omega
  have hn8 : (((n : Int) + 2).toNat) = n + 2 := by omega
  have hn3 : n ≤ cap' := by omega
  have hm' : (n : Int) ≤ 4611686018427387904 := by omega
  clear ha hb hcm hn at7 at8
  (try unfold mk7 at F7)
  (try unfold mk8 at F8)
  unfold mk7 maV at e7
  unfold mk8 maV at e8
  (try dsimp only at F7)
  (try dsimp only at F8)
  dsimp only at e7 e8
  go_enter Try.func18, Try.ntmps18
  go_wp2_with fail
  refine CL.out.mono ?_
  rintro _ w1 ⟨rfl, hb1⟩
  obtain ⟨b7, o7, q7, -, z0, z1, z2, z3, z4, z5, z6⟩ := F7.out w1 hb1
  obtain ⟨b8, o8, q8, -, y0, y1, y2, y3, y4, y5, y6⟩ := F8.out w1 hb1
  obtain ⟨rfl, rfl⟩ : g = b7 ∧ 0 = o7 := by simpa using q7
  obtain ⟨rfl, rfl⟩ : g = b8 ∧ 0 = o8 := by simpa using q8
  simp only [Nat.zero_add] at z0 z1 z2 z3 z4 z5 z6 y0 y1 y2 y3 y4 y5 y6
  replace hb1 := Lib.hid hb1
  clear F7 F8 CL q7 q8
  go_wp2_with fail
  go_ret
  exact ⟨by first | rfl | trivial, hb1.out⟩
end Go.Proofs.Ytgfedhlnaipngaa
