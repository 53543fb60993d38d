/- Proved here: what the texts Hrb, Hrc, Htd, Hte prove, one behind the other. -/
import Derived.Test.YtnmadknpkhaolaaJz19
import Derived.Test.YtnmadknpkhaolaaJz17
import Derived.Test.YtnmadknpkhaolaaJz18

namespace Go.Proofs.Ytnmadknpkhaolaa
open Go.ChangeShapes Go.WideShapes Go.ChangeAt Go.RowKit Ieee.Own

set_option maxRecDepth 100000 in
theorem rfine_run (x : Nat) (hx : x < 18446744073709551616) (w : World) : Calls Try.prog 40 #[.float .f64 x] w fun e w' => e = .returned (.float .f64 (bgW x)) ∧ w = w' := by
  have CF := fun w => rfit_any x hx w
  unfold bgW
  generalize fitB x = b at *
  clear hx
  cases b
  · go_enter Try.func40, Try.ntmps40
    go_wp2_with (go_at_call 51; ((with_reducible refine (CF _).mono ?_); rintro e w' ⟨rfl, rfl⟩))
    go_ret
    exact ⟨rfl, rfl⟩
  · go_enter Try.func40, Try.ntmps40
    go_wp2_with (go_at_call 51; ((with_reducible refine (CF _).mono ?_); rintro e w' ⟨rfl, rfl⟩))
    go_ret
    exact ⟨rfl, rfl⟩
end Go.Proofs.Ytnmadknpkhaolaa

namespace Go.Proofs.Ytnmadknpkhaolaa
open Go.ChangeShapes Go.WideShapes Go.ChangeAt Go.RowKit Ieee.Own Pol

end Go.Proofs.Ytnmadknpkhaolaa

namespace Go.Proofs.Ytnmadknpkhaolaa
open Go.ChangeShapes Go.WideShapes Go.ChangeAt Go.RowKit Ieee.Own Pol

set_option maxRecDepth 100000 in
theorem rcos_run {x s c : Nat} {k : Int} (C : Hid (∀ w, Calls Try.prog 63 #[.float .f64 x] w fun e w' => e = .returned (ffi' s c k) ∧ Below w.heap.size w w')) (w : World) :
    Calls Try.prog 37 #[.float .f64 x] w fun e w' => e = .returned (.tuple #[.float .f64 c, .int .i64 k]) ∧ Below w.heap.size w w' := by
  unfold ffi' at C
  go_enter Try.func37, Try.ntmps37
  go_wp2_with fail
  refine (C.out w).mono ?_
  rintro _ w1 ⟨rfl, hb1⟩
  replace hb1 := Lib.hid hb1
  clear C
  go_wp2_with fail
  go_ret2
  exact ⟨rfl, hb1.out⟩
set_option maxRecDepth 100000 in
theorem rcosN_run {m n : Nat} (A : AgO m n) (w : World) : Calls Try.prog 37 #[.float .f64 (angW m n)] w fun e w' => e = .returned (.tuple #[.float .f64 (csN (angW m n)), .int .i64 0]) ∧ Below w.heap.size w w' := by
  obtain ⟨s, c, e, B, C⟩ := ruboth_run A.lt
  have e0 : e = 0 := by rw [B.err, A.er]
  subst e0
  rw [csN_eq B]
  exact rcos_run (Lib.hid C) w
theorem take_next {L : List Nat} {i : Nat} (h : i < L.length) : L.take i ++ [L.getD i 0] = L.take (i + 1) := by
  rw [List.take_add_one]
  congr 1
  simp [List.getD, h]
theorem ownW_nil (w : World) : OwnW w.heap.size w [] (.slice none 0 0) w := ⟨Below.refl _ _, World.ownsRow_nil _ _ _ _, Nat.le_refl _, ⟨by simp [r64], by simp [r64]⟩⟩
set_option maxHeartbeats 1000000 in
set_option maxRecDepth 100000 in
theorem rnodes_no {n : Int} (w : World) (h : n < 1 ∨ 16 < n) :
    Calls Try.prog 12 #[.int .i64 n] w fun e w' => e = .returned (.tuple #[.slice none 0 0, .int .i64 1]) ∧ w = w' := by
  by_cases c : n < 1
  · go_enter Try.func12, Try.ntmps12
    go_wp2_with fail
    go_ret2
    exact ⟨rfl, rfl⟩
  · have d : 16 < n := by omega
    go_enter Try.func12, Try.ntmps12
    go_wp2_with fail
    go_ret2
    exact ⟨rfl, rfl⟩
set_option maxHeartbeats 1000000 in
set_option maxRecDepth 100000 in
theorem rnodes_ok {n : Nat} (w : World) (h0 : 0 < n) (n16 : n ≤ 16) :
    Calls Try.prog 12 #[.int .i64 (n : Int)] w fun e w' => ∃ ao cap, e = .returned (.tuple #[.slice ao n cap, .int .i64 0]) ∧ At w' ao (ndL n) ∧ Below w.heap.size w w' := by
  have N0 := Lib.hid (ownW_nil w)
  have t1 : decide ((n : Int) < 1) = false := decide_eq_false (by omega)
  have t2 : decide ((16 : Int) < (n : Int)) = false := decide_eq_false (by omega)
  have w4 : IntKind.i64.wrap (4 * (n : Int)) = 4 * (n : Int) := by rw [IntKind.wrap_i64]; omega
  have cv2 : ∀ w, (convert 3 30 (.int .i64 (4 * (n : Int)))).run Try.prog w = .ok (.float .f64 (nrN (4 * n))) w := fun w => conv_if (4 * n) w
  go_enter Try.func12, Try.ntmps12
  go_wp2_with fail
  go_loopw [4, 5] (fun sv iv wr => ∃ i : Nat, i ≤ n ∧ iv = .int .i64 i ∧ OwnW w.heap.size w ((ndL n).take i) sv wr) (fun _ iv _ => n - (intOf iv).toNat)
  case atStart => exact ⟨0, Nat.zero_le _, rfl, N0.out⟩
  case round =>
    obtain ⟨i, hi, rfl, N⟩ := hrel
    replace N := Lib.hid N
    by_cases hlt : i < n
    · have A := ago (node_cap (show 1 ≤ 15 by omega) (show i ≤ 15 by omega)) h0 n16
      have C := Lib.hid (rcosN_run A wr)
      have r1 := run_div _ _ _ A.run
      have cv1 : ∀ w, (convert 3 30 (.int .i64 (2 * (i : Int) + 1))).run Try.prog w = .ok (.float .f64 (nrN (1 * (2 * i + 1)))) w := fun w => by
        have e : 2 * (i : Int) + 1 = ((1 * (2 * i + 1) : Nat) : Int) := by omega
        rw [e]
        exact conv_if _ w
      have TW := Lib.hid (take_next (L := ndL n) (i := i) (by rw [nd_len]; exact hlt))
      rw [nd_get hlt] at TW
      have lt : ((ndL n).take i).length = i := by simp [nd_len]; omega
      generalize csN (angW (1 * (2 * i + 1)) n) = u at *
      generalize angW (1 * (2 * i + 1)) n = x at *
      generalize nrN (1 * (2 * i + 1)) = y1 at *
      generalize nrN (4 * n) = y2 at *
      generalize (ndL n).take i = M at *
      have lM : (r64 M).length ≤ 1048576 := by unfold r64; rw [List.length_map, lt]; omega
      replace lM := Lib.hid lM
      have hi2 : (i : Int) < (n : Int) := by omega
      clear lt A
      go_wp2_with fail
      refine C.out.mono ?_
      rintro _ w2 ⟨rfl, hb⟩
      have N2 := Lib.hid (N.out.grow hb)
      obtain ⟨ao2, m2, c2, rfl⟩ := ownW_any N.out
      clear C hb N
      go_wp2_with (at_builtin; go_loud (refine wpList_pushR rec64 rfl _ _ rfl (.slice ao2 m2 c2) (r64 M) rfl N2.out [.float .f64 u] rfl ?pa rfl ?pc ?pd ?_))
      case pa => intro u hu; rw [List.mem_singleton.1 hu]; rfl
      case pc => have := lM.out; omega
      case pd => have := lM.out; unfold maxLen; omega
      intro v' w' N'
      rw [r64_app, TW.out] at N'
      replace N' := Lib.hid N'
      clear N2
      go_wp2_with fail
      go_roundw
      case rel => exact ⟨i + 1, by omega, by go_num, N'.out⟩
      case measure => simp [intOf]; omega
    · obtain rfl : i = n := by omega
      have e : (ndL i).take i = ndL i := List.take_of_length_le (by rw [nd_len]; exact Nat.le_refl _)
      rw [e] at N
      obtain ⟨ao', cap', e2, -, -, hA⟩ := ownW_at N.out
      rw [nd_len] at e2
      subst e2
      replace hA := Lib.hid hA
      go_wp2_with fail
      go_ret2
      first | exact ⟨_, ⟨_, rfl⟩, hA.out, N.out.old⟩ | exact ⟨_, _, rfl, hA.out, N.out.old⟩
set_option maxHeartbeats 1000000 in
set_option maxRecDepth 100000 in
theorem rfit_no {L : List Nat} (ao : Option Addr) (cap n : Nat) (w : World) (hn : n = L.length) (hm : n ≤ 4611686018427387904) (hw : Words L) (ha : At w ao L) (h0 : errC L ≠ 0) :
    Calls Try.prog 15 #[.slice ao n cap] w fun e w' => e = .returned (.tuple #[.slice none 0 0, .int .i64 (errC L)]) ∧ w = w' := by
  have K := rpcheck_run ao cap n L w hn hm hw ha
  have t : (errC L != 0) = true := by simpa using h0
  clear h0 hn hm hw ha
  generalize errC L = er at *
  go_enter Try.func15, Try.ntmps15
  go_wp2_with (go_at_call 27; ((with_reducible refine K.mono ?_); rintro e w' ⟨rfl, rfl⟩))
  go_ret2
  exact ⟨rfl, rfl⟩
set_option maxHeartbeats 2000000 in
set_option maxRecDepth 100000 in
theorem rfit_ok {L : List Nat} (ao : Option Addr) (cap n : Nat) (w : World) (hn : n = L.length) (hw : Words L) (ha : At w ao L) (h0 : errC L = 0) :
    Calls Try.prog 15 #[.slice ao n cap] w fun e w' => ∃ ao' cap', e = .returned (.tuple #[.slice ao' n cap', .int .i64 0]) ∧ At w' ao' (ftL L) ∧ Below w.heap.size w w' := by
  obtain ⟨hl16, hfc⟩ := errC_zero hw h0
  have n16 : n ≤ 16 := by omega
  have K := rpcheck_run ao cap n L w hn (by omega) hw ha
  rw [h0] at K
  have N0 := Lib.hid (ownW_nil w)
  have w4 : IntKind.i64.wrap (4 * (n : Int)) = 4 * (n : Int) := by rw [IntKind.wrap_i64]; omega
  have cv2 : ∀ w, (convert 3 30 (.int .i64 (4 * (n : Int)))).run Try.prog w = .ok (.float .f64 (nrN (4 * n))) w := fun w => conv_if (4 * n) w
  have cvn : ∀ w, (convert 3 30 (.int .i64 (n : Int))).run Try.prog w = .ok (.float .f64 (nrN n)) w := fun w => conv_if n w
  have lt0 : Hid (∀ b o, ao = some ⟨b, o, none⟩ → 0 < L.length → b < w.heap.size) := Lib.hid ha.lt
  replace hn := Lib.hid hn
  replace ha := Lib.hid ha
  replace hfc := Lib.hid hfc
  clear hw h0
  go_enter Try.func15, Try.ntmps15
  go_wp2_with (go_at_call 27; ((with_reducible refine K.mono ?_); rintro e w' ⟨rfl, rfl⟩))
  clear K
  go_loopw [6, 7] (fun sv iv wr => ∃ j : Nat, j ≤ n ∧ iv = .int .i64 j ∧ OwnW w.heap.size w ((ftL L).take j) sv wr) (fun _ iv _ => n - (intOf iv).toNat)
  case atStart => exact ⟨0, Nat.zero_le _, rfl, N0.out⟩
  case round =>
    obtain ⟨j, hj, rfl, N⟩ := hrel
    replace N := Lib.hid N
    by_cases hlt : j < n
    · have hjl : j < L.length := by have := hn.out; omega
      have O := Lib.hid (ft_ok hfc.out (by have := hn.out; omega) hjl)
      obtain ⟨A, hA⟩ : ∃ A, A = ftS j L := ⟨_, rfl⟩
      have A0 : Hid (sumF j n L 0 0 = A) := Lib.hid (by rw [hA, hn.out]; rfl)
      replace hA := Lib.hid hA
      have hj2 : (j : Int) < (n : Int) := by omega
      obtain ⟨ao2, m2, c2, rfl⟩ := ownW_any N.out
      go_wp2_with fail
      generalize wr = wq at *
      go_loopw [8, 9] (fun sv iv wr => ∃ k s : Nat, k ≤ n ∧ iv = .int .i64 k ∧ sv = .float .f64 s ∧ sumF j n (L.drop k) k s = A ∧ Fs s k ∧ OwnW w.heap.size w ((ftL L).take j) (.slice ao2 m2 c2) wr) (fun _ iv _ => n - (intOf iv).toNat)
      case atStart => exact ⟨0, 0, Nat.zero_le _, rfl, rfl, A0.out, fs_zero, N.out⟩
      case round =>
        clear N
        obtain ⟨k, s, hk, rfl, rfl, hS, F, N⟩ := hrel
        by_cases hltk : k < n
        · have hkl : k < L.length := by have := hn.out; omega
          obtain ⟨b, o, rfl, hc0⟩ := ha.out k hkl
          have hbl := lt0.out b o rfl (by omega)
          have hd : L.drop k = L.getD k 0 :: L.drop (k + 1) := by
            rw [List.drop_eq_getElem_cons hkl]; simp [List.getD, hkl]
          rw [hd] at hS
          unfold sumF at hS
          have Fv : Fc (L.getD k 0) := hfc.out _ (by simp [List.getD, hkl])
          have AG := ago (node_cap (show j ≤ 15 by omega) (show k ≤ 15 by omega)) (show 0 < n by omega) n16
          have R := fs_step F (by omega) Fv (csN_wd AG)
          have r0 := run_div _ _ _ AG.run
          have r1 := run_mul _ _ _ R.m
          have r2 := run_add _ _ _ R.a
          have C := Lib.hid (rcosN_run AG wr)
          have F2 := Lib.hid R.f
          have cap' := node_cap (show j ≤ 15 by omega) (show k ≤ 15 by omega)
          obtain ⟨m, hm⟩ : ∃ m, m = j * (2 * k + 1) := ⟨_, rfl⟩
          rw [← hm] at r0 r1 r2 C F2 hS cap'
          have em : (j : Int) * (2 * (k : Int) + 1) = (m : Int) := by rw [hm]; simp
          have cv1 : ∀ w, (convert 3 30 (.int .i64 (m : Int))).run Try.prog w = .ok (.float .f64 (nrN m)) w := fun w => conv_if m w
          have w1 : IntKind.i64.wrap (2 * (k : Int)) = 2 * (k : Int) := by rw [IntKind.wrap_i64]; omega
          have w2 : IntKind.i64.wrap (2 * (k : Int) + 1) = 2 * (k : Int) + 1 := by rw [IntKind.wrap_i64]; omega
          have w3 : IntKind.i64.wrap (m : Int) = (m : Int) := by rw [IntKind.wrap_i64]; omega
          have hi2 : (k : Int) < (n : Int) := by omega
          clear R F Fv hd hkl AG hm
          generalize csN (angW m n) = c at *
          generalize angW m n = x at *
          generalize nrN m = y1 at *
          generalize L.getD k 0 = v at *
          generalize mX v c = p at *
          generalize aX s p = s2 at *
          replace hS := Lib.hid hS
          replace N := Lib.hid N
          go_wp2_with fail
          refine C.out.mono ?_
          rintro _ w5 ⟨rfl, hb⟩
          have N2 := N.out.grow hb
          have hc : w5.cell? ⟨b, o + k, none⟩ = some (.float .f64 v) := (World.cell?_of_block (a := ⟨b, o + k, none⟩) (N2.old.block b hbl)).trans hc0
          replace N2 := Lib.hid N2
          clear C hb N hc0 hbl
          go_wp2_with fail
          go_roundw
          case rel => exact ⟨k + 1, s2, by omega, by go_num, rfl, hS.out, F2.out, N2.out⟩
          case measure => simp [intOf]; omega
        · obtain rfl : k = n := by omega
          have eS : s = A := by
            rw [List.drop_eq_nil_of_le (by have := hn.out; omega)] at hS
            exact hS
          subst eS
          have O' := O.out
          have e1 := hA.out
          have rm := run_mul _ _ _ O'.d.m2
          have rq1 := run_div _ _ _ O'.q1
          have rq2 := run_div _ _ _ O'.q.q
          have CB := fun w => rfine_run (qX (if 0 < j then mX (ftS j L) twoW else ftS j L) (nrN L.length)) O'.q.nz.fin.1 w
          have ez : bgW (qX (if 0 < j then mX (ftS j L) twoW else ftS j L) (nrN L.length)) = ftW j L := rfl
          have ra := run_add _ _ _ (pos_add O'.nz.fin)
          rw [show posW (ftW j L) = ftW j L from by unfold posW; rw [if_neg O'.nz.nz]] at ra
          rw [ez] at CB
          rw [← e1] at rm rq1 rq2 CB
          rw [← hn.out] at rq1 rq2 CB
          unfold twoW at rm rq1 rq2 CB
          have TW := Lib.hid (take_next (L := ftL L) (i := j) (by rw [ft_len]; exact hjl))
          rw [ft_get hjl] at TW
          have lt : ((ftL L).take j).length = j := by simp [ft_len]; omega
          generalize ftW j L = z at *
          generalize (ftL L).take j = M at *
          have lM : (r64 M).length ≤ 1048576 := by unfold r64; rw [List.length_map, lt]; omega
          replace lM := Lib.hid lM
          replace N := Lib.hid N
          clear O O' hS F lt hltk hA e1
          by_cases c : 0 < j
          · have tj : ((j : Int) == 0) = false := by simp; omega
            rw [if_pos c] at CB rq2
            generalize nrN k = y at *
            go_wp2_with (first | (go_at_call 40; ((with_reducible refine (CB _).mono ?_); rintro e w' ⟨rfl, rfl⟩)) | (at_builtin; go_loud (refine wpList_pushR rec64 rfl _ _ rfl (.slice ao2 m2 c2) (r64 M) rfl N.out [.float .f64 z] rfl ?pa rfl ?pc ?pd ?_)))
            case pa => intro u hu; rw [List.mem_singleton.1 hu]; rfl
            case pc => have := lM.out; omega
            case pd => have := lM.out; unfold maxLen; omega
            intro v' w' N'
            rw [r64_app, TW.out] at N'
            replace N' := Lib.hid N'
            clear N
            go_wp2_with fail
            go_roundw
            case rel => exact ⟨j + 1, by omega, by go_num, N'.out⟩
            case measure => simp [intOf]; omega
          · have j0 : j = 0 := by omega
            subst j0
            rw [if_neg c] at CB rq2
            generalize nrN k = y at *
            go_wp2_with (first | (go_at_call 40; ((with_reducible refine (CB _).mono ?_); rintro e w' ⟨rfl, rfl⟩)) | (at_builtin; go_loud (refine wpList_pushR rec64 rfl _ _ rfl (.slice ao2 m2 c2) (r64 M) rfl N.out [.float .f64 z] rfl ?pa rfl ?pc ?pd ?_)))
            case pa => intro u hu; rw [List.mem_singleton.1 hu]; rfl
            case pc => have := lM.out; omega
            case pd => have := lM.out; unfold maxLen; omega
            intro v' w' N'
            rw [r64_app, TW.out] at N'
            replace N' := Lib.hid N'
            clear N
            go_wp2_with fail
            go_roundw
            case rel => exact ⟨0 + 1, by omega, by go_num, N'.out⟩
            case measure => simp [intOf]; omega
    · obtain rfl : j = n := by omega
      have e : (ftL L).take j = ftL L := List.take_of_length_le (by rw [ft_len]; have := hn.out; omega)
      rw [e] at N
      obtain ⟨ao', cap', e2, -, -, hA⟩ := ownW_at N.out
      rw [show (ftL L).length = j by rw [ft_len]; exact hn.out.symm] at e2
      subst e2
      replace hA := Lib.hid hA
      go_wp2_with fail
      go_ret2
      first | exact ⟨_, ⟨_, rfl⟩, hA.out, N.out.old⟩ | exact ⟨_, _, rfl, hA.out, N.out.old⟩
end Go.Proofs.Ytnmadknpkhaolaa

namespace Go.Proofs.Ytnmadknpkhaolaa
open Go.ChangeShapes Go.WideShapes Go.ChangeAt Go.RowKit Ieee.Own Pol

/-- a list in a block that the call made, or none -/
def OwnB (W : World) (fo : Option Addr) (N : List Nat) (w' : World) : Prop := (fo = none ∧ N = []) ∨ (fo = some ⟨W.heap.size, 0, none⟩ ∧ BV w' W.heap.size (N.map (Value.float .f64)))
theorem bv_at {w : World} {g : Nat} {N : List Nat} (h : BV w g (N.map (Value.float .f64))) : At w (some ⟨g, 0, none⟩) N := by
  intro j hj
  refine ⟨g, 0, rfl, ?_⟩
  rw [Nat.zero_add]
  exact h.at_ j _ (by simp [List.getD, hj])
theorem at_nil (w : World) (ao : Option Addr) : At w ao [] := fun j hj => by simp at hj
theorem OwnB.at_ {W w' : World} {fo : Option Addr} {N : List Nat} (h : OwnB W fo N w') : At w' fo N := by
  rcases h with ⟨rfl, rfl⟩ | ⟨rfl, b⟩
  · exact at_nil _ _
  · exact bv_at b
theorem OwnB.on {W w1 w2 : World} {fo : Option Addr} {N : List Nat} (h : OwnB W fo N w1) (hb : Below w1.heap.size w1 w2) : OwnB W fo N w2 := by
  rcases h with h | ⟨e, b⟩
  · exact .inl h
  · exact .inr ⟨e, b.on hb⟩
set_option maxRecDepth 100000 in
theorem two_nodes (a : Int) : ∃ (N : List Nat) (k : Int), N.length ≤ 16 ∧
    (∀ w, Calls Try.prog 11 #[.int .i64 a] w fun e w' => ∃ ao cap, e = .returned (.tuple #[.slice ao N.length cap, .int .i64 k]) ∧ At w' ao N ∧ Below w.heap.size w w') ∧
    (∀ w, Calls Try.prog 12 #[.int .i64 a] w fun e w' => ∃ ao cap, e = .returned (.tuple #[.slice ao N.length cap, .int .i64 k]) ∧ At w' ao N ∧ Below w.heap.size w w') := by
  by_cases c : a < 1 ∨ 16 < a
  · refine ⟨[], 1, by decide, fun w => (cnodes_no w c).mono fun e w' h => ⟨none, 0, h.1, at_nil _ _, h.2 ▸ Below.refl _ _⟩, fun w => (rnodes_no w c).mono fun e w' h => ⟨none, 0, h.1, at_nil _ _, h.2 ▸ Below.refl _ _⟩⟩
  · obtain ⟨n, rfl⟩ : ∃ n : Nat, a = n := ⟨a.toNat, by omega⟩
    refine ⟨ndL n, 0, by rw [nd_len]; omega, fun w => (cnodes_ok w (by omega) (by omega)).mono fun e w' h => ⟨_, n, by rw [nd_len]; exact h.1, bv_at h.2.1, h.2.2⟩, fun w => (rnodes_ok w (by omega) (by omega)).mono fun e w' h => ?_⟩
    obtain ⟨ao, cap, e1, e2, e3⟩ := h
    exact ⟨ao, cap, by rw [nd_len]; exact e1, e2, e3⟩
set_option maxRecDepth 100000 in
theorem two_fits {n : Nat} {L : List Nat} (hn : n = L.length) (hm : n ≤ 4611686018427387904) (hw : Words L) : ∃ (N : List Nat) (k : Int), N.length ≤ 16 ∧
    (∀ W ao cap, At W ao L → Calls Try.prog 14 #[.slice ao n cap] W fun e w' => ∃ fo, e = .returned (.tuple #[.slice fo N.length N.length, .int .i64 k]) ∧ OwnB W fo N w' ∧ Below W.heap.size W w') ∧
    (∀ W ao cap, At W ao L → Calls Try.prog 15 #[.slice ao n cap] W fun e w' => ∃ ao' cap', e = .returned (.tuple #[.slice ao' N.length cap', .int .i64 k]) ∧ At w' ao' N ∧ Below W.heap.size W w') := by
  by_cases c : errC L = 0
  · have l16 := (errC_zero hw c).1
    have el : (ftL L).length = n := by rw [ft_len]; exact hn.symm
    refine ⟨ftL L, 0, by rw [ft_len]; exact l16, fun W ao cap h => (cfit_ok ao cap n W hn hw h c).mono fun e w' h => ⟨_, by rw [el]; exact h.1, .inr ⟨rfl, h.2.1⟩, h.2.2⟩, fun W ao cap h => (rfit_ok ao cap n W hn hw h c).mono fun e w' h => ?_⟩
    obtain ⟨ao, cap, e1, e2, e3⟩ := h
    exact ⟨ao, cap, by rw [el]; exact e1, e2, e3⟩
  · exact ⟨[], errC L, by decide, fun W ao cap h => (cfit_no ao cap n W hn hm hw h c).mono fun e w' h => ⟨none, h.1, .inl ⟨rfl, rfl⟩, h.2 ▸ Below.refl _ _⟩, fun W ao cap h => (rfit_no ao cap n W hn hm hw h c).mono fun e w' h => ⟨none, 0, h.1, at_nil _ _, h.2 ▸ Below.refl _ _⟩⟩
end Go.Proofs.Ytnmadknpkhaolaa
