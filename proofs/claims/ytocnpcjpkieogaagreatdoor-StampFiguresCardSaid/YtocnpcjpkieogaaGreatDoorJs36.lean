/- Proved here: what the texts Sqia prove, one behind the other. -/
import Derived.Test.YtocnpcjpkieogaaGreatDoorJs35

namespace Go.Proofs.YtocnpcjpkieogaaGreatDoor
open Go.Shelf Go.ChangeShapes Go.WideShapes Go.ChangeAt Go.RowKit Ieee.Own

set_option maxRecDepth 100000 in
set_option maxHeartbeats 8000000 in
theorem rval_tt (s : ByteArray) (hs : s.size ≤ 9223372036854775807) (hg : true = ngP (byI s)) (hP0 : ptP (rsP (byI s)) = true) (w : World) : Calls Tryz.prog 8 #[.string s] w fun e w' => RvA (byI s) e ∧ Below w.heap.size w w' := by
  have ls := byI_len s
  obtain ⟨Q, hQ⟩ : ∃ Q, Q = rsP (byI s) := ⟨_, rfl⟩
  rw [← hQ] at hP0
  have hgd : true = decide ((byI s).headD 0 = 45) := hg
  have ng0 := Lib.hid (fun h : 0 < s.size => byI_at s 0 h)
  obtain ⟨h1, h2⟩ : 1 ≤ s.size ∧ byI (s.extract 1 s.size) = Q := by rw [hQ]; exact rs_parts s hg.symm
  replace hQ := Lib.hid hQ
  have h3 : (byI s).getD 0 0 = 45 := by
    have := of_decide_eq_true hgd.symm
    generalize byI s = L at *
    cases L with
    | nil => simp at this
    | cons x L => simpa using this
  rw [ng0.out h1] at h3
  have t1 : decide (0 < s.size) = true := decide_eq_true h1
  have t2 : (((s[0].toNat : Nat) : Int) == 45) = true := by simp; omega
  have h4 : (s.extract 1 s.size).size ≤ s.size := by rw [ByteArray.size_extract]; omega
  have g1 : (1 : Int) ≤ (s.size : Int) := by omega
  have sb : ∀ W, (Instr.slice 9 (.string s) (some (.int .i64 1)) none none).run Tryz.prog W = .ok (.string (s.extract 1 s.size)) W := fun W => by
    rw [run_slice_string_from_if W 9 s .i64 _ Tryz.underlying9, if_pos (by omega)]; rfl
  replace hg := Lib.hid hg
  replace hP0 := Lib.hid hP0
  clear hgd ls h3 ng0
  replace h2 := Lib.hid h2
  generalize s.extract 1 s.size = r at *
  have hs2 : r.size ≤ 9223372036854775807 := by omega
  go_enter Tryz.func8, Tryz.ntmps8
  go_wp2_with fail
  have hr : Hid (byI r = Q) := by show _ = _; exact h2.out
  have lr : Q.length = r.size := by rw [← hr.out]; exact byI_len _
  have at_ : Hid (∀ i (h : i < r.size), ((r[i].toNat : Nat) : Int) = Q.getD i 0) := fun i h => by rw [← hr.out]; exact (byI_at _ i h).symm
  have tw := Lib.hid (tw_at Q)
  have te := Lib.hid (tw_end Q)
  have tn := Lib.hid (fun h => (hd_nil Q h).1)
  generalize hW : hdP Q = W at *
  replace lr := Lib.hid lr
  replace hW := Lib.hid hW
  have hP := hP0
  go_loop [5] (fun iv => ∃ i : Nat, i ≤ W.length ∧ iv = .int .i64 i) (fun iv => r.size - (intOf iv).toNat)
  case atStart => exact ⟨0, Nat.zero_le _, rfl⟩
  case round =>
    obtain ⟨i, hi, rfl⟩ := hrel
    by_cases hlt : i < W.length
    · have q := tw.out i hlt
      have hir : i < r.size := by have := lr.out; omega
      have hx := at_.out i hir
      have t2 : (((r[i].toNat : Nat) : Int) != 46) = true := by simp; omega
      have t1 : decide (i < r.size) = true := decide_eq_true hir
      clear q hx
      go_wp2_with fail
      go_round
      case rel => exact ⟨i + 1, hlt, by go_num⟩
      case measure => simp [intOf]; omega
    · obtain rfl : i = W.length := by omega
      obtain ⟨q1, q2⟩ := te.out hP.out
      have hir : W.length < r.size := by have := lr.out; omega
      have hx := at_.out _ hir
      have t1 : decide (W.length < r.size) = true := decide_eq_true hir
      have t2 : (((r[W.length].toNat : Nat) : Int) != 46) = false := by simp; omega
      have cp := cut_parts r (by rw [hr.out]; exact hP.out)
      rw [hr.out, hW.out] at cp
      obtain ⟨c1, c2, c3⟩ := cp
      have g1 : (W.length : Int) + 1 ≤ (r.size : Int) := by omega
      have sa : ∀ W', (Instr.slice 9 (.string r) none (some (.int .i64 (W.length : Int))) none).run Tryz.prog W' = .ok (.string (r.extract 0 W.length)) W' := fun W' => by
        rw [run_slice_string_to_if W' 9 r .i64 _ Tryz.underlying9, if_pos (by omega)]; rfl
      have sc : ∀ W', (Instr.slice 9 (.string r) (some (.int .i64 ((W.length : Int) + 1))) none none).run Tryz.prog W' = .ok (.string (r.extract (W.length + 1) r.size)) W' := fun W' => by
        rw [run_slice_string_from_if W' 9 r .i64 _ Tryz.underlying9, if_pos (by omega)]; rfl
      generalize r.extract 0 W.length = a at *
      generalize r.extract (W.length + 1) r.size = b at *
      generalize hPP : tlP Q = P at *
      replace hPP := Lib.hid hPP
      replace c2 := Lib.hid c2
      replace c3 := Lib.hid c3
      clear q1 q2 hx tw te tn c1
      by_cases z : P = []
      · have t3 : b.toList.isEmpty = true := empty_is c3.out z
        go_wp2_with fail
        go_ret2
        exact ⟨rv_text hQ.out hW.out hPP.out hP.out hg.out (fg3 (ad_nil z)), Below.refl _ _⟩
      · have t3 : b.toList.isEmpty = false := empty_not c3.out z
        have plen : Hid (1 ≤ P.length) := by show _ ≤ _; rcases P with _ | ⟨x, P⟩; exact absurd rfl z; simp
        replace z := Lib.hid z
        have lb : Hid (P.length = b.size) := by show _ = _; rw [← c3.out]; exact byI_len _
        have la : Hid (W.length = a.size) := by show _ = _; rw [← c2.out]; exact byI_len _
        by_cases m1 : a.size < 1
        · have u1 : decide ((a.size : Int) < 1) = true := decide_eq_true (by omega)
          go_wp2_with fail
          go_ret2
          exact ⟨rv_text hQ.out hW.out hPP.out hP.out hg.out (fg1 (ad_len (by have := la.out; omega))), Below.refl _ _⟩
        have u1 : decide ((a.size : Int) < 1) = false := decide_eq_false (by omega)
        by_cases m2 : 10 < a.size
        · have u2 : decide (10 < (a.size : Int)) = true := decide_eq_true (by omega)
          go_wp2_with fail
          go_ret2
          exact ⟨rv_text hQ.out hW.out hPP.out hP.out hg.out (fg1 (ad_len (by have := la.out; omega))), Below.refl _ _⟩
        have u2 : decide (10 < (a.size : Int)) = false := decide_eq_false (by omega)
        by_cases m3 : 9 < b.size
        · have u3 : decide (9 < (b.size : Int)) = true := decide_eq_true (by omega)
          go_wp2_with fail
          go_ret2
          exact ⟨rv_text hQ.out hW.out hPP.out hP.out hg.out (fg3 (ad_len (by have := lb.out; omega))), Below.refl _ _⟩
        have u3 : decide (9 < (b.size : Int)) = false := decide_eq_false (by omega)
        by_cases m4 : 1 < a.size
        · have u4 : decide (1 < (a.size : Int)) = true := decide_eq_true (by omega)
          have a0 : Hid (((a[0].toNat : Nat) : Int) = W.getD 0 0) := by show _ = _; rw [← c2.out]; exact (byI_at a 0 (by omega)).symm
          by_cases m5 : a[0].toNat = 48
          · have u5 : (((a[0].toNat : Nat) : Int) == 48) = true := by simp; omega
            go_wp2_with fail
            go_ret2
            exact ⟨rv_text hQ.out hW.out hPP.out hP.out hg.out (fg2 (lz_yes (by have := la.out; omega) (by rw [← a0.out]; omega))), Below.refl _ _⟩
          · have u5 : (((a[0].toNat : Nat) : Int) == 48) = false := by simp; omega
            have lz : Hid (lzP W = false) := lz_no (.inr (by rw [← a0.out]; omega))
            have N1 := Lib.hid (fun u => rnumber_run a (by omega) u)
            have N2 := Lib.hid (fun u => rnumber_run b (by omega) u)
            rw [c2.out] at N1
            rw [c3.out] at N2
            by_cases n1 : digB W = false
            · have e1 : valI W = -1 := by unfold valI; rw [n1]; rfl
              rw [e1] at N1
              generalize valI P = y at *
              clear e1
              go_wp2_with fail
              refine (N1.out _).mono ?_
              rintro _ v ⟨rfl, rfl⟩
              clear N1
              go_wp2_with fail
              refine (N2.out _).mono ?_
              rintro _ v ⟨rfl, rfl⟩
              clear N2
              go_wp2_with fail
              go_ret2
              exact ⟨rv_text hQ.out hW.out hPP.out hP.out hg.out (fg1 (ad_nd n1)), Below.refl _ _⟩
            have n1' : digB W = true := by simpa using n1
            have e1 : valI W = (numI W 0 : Int) := by unfold valI; rw [n1']; rfl
            rw [e1] at N1
            have hm : Hid (numI W 0 < 10000000000) := num_ten n1' (by have := la.out; omega)
            generalize hmm : numI W 0 = m at *
            replace hmm := Lib.hid hmm
            have u6 : decide ((m : Int) < 0) = false := decide_eq_false (by omega)
            clear e1 n1
            by_cases n2 : digB P = false
            · have e2 : valI P = -1 := by unfold valI; rw [n2]; rfl
              rw [e2] at N2
              clear e2
              try (replace c1 := Lib.hid c1)
              try (replace c4 := Lib.hid c4)
              try (replace c5 := Lib.hid c5)
              go_wp2_with fail
              refine (N1.out _).mono ?_
              rintro _ v ⟨rfl, rfl⟩
              clear N1
              go_wp2_with fail
              refine (N2.out _).mono ?_
              rintro _ v ⟨rfl, rfl⟩
              clear N2
              go_wp2_with fail
              go_ret2
              exact ⟨rv_text hQ.out hW.out hPP.out hP.out hg.out (fg3 (ad_nd n2)), Below.refl _ _⟩
            have n2' : digB P = true := by simpa using n2
            have e2 : valI P = (numI P 0 : Int) := by unfold valI; rw [n2']; rfl
            rw [e2] at N2
            have hf : Hid (numI P 0 < 10 ^ b.size) := by show _ < _; rw [← lb.out]; exact num_len n2'
            generalize hff : numI P 0 = f at *
            replace hff := Lib.hid hff
            have u7 : decide ((f : Int) < 0) = false := decide_eq_false (by omega)
            clear e2 n2
            replace n1' := Lib.hid n1'
            replace n2' := Lib.hid n2'
            have hfg : Hid (fgB (byI s) W P true true = (!true || !ngtL (byI s))) := by
              show _ = _
              unfold fgB
              rw [ad_yes n1'.out (by have := la.out; omega), lz.out, ad_yes n2'.out (by have := lb.out; have := plen.out; omega)]
              simp
            have F9 : f < 1000000000 := by
              have := hf.out
              have k : 10 ^ b.size ≤ 10 ^ 9 := Nat.pow_le_pow_right (by decide) (by omega)
              rw [show (10 : Nat) ^ 9 = 1000000000 by decide] at k
              omega
            clear u1 u2 u3
            by_cases c1 : m = 0
            · by_cases c2 : f = 0
              · have v0 : ((m : Int) == 0) = true := beq_iff_eq.2 (by omega)
                have v1 : ((f : Int) == 0) = true := beq_iff_eq.2 (by omega)
                try (replace c1 := Lib.hid c1)
                try (replace c4 := Lib.hid c4)
                try (replace c5 := Lib.hid c5)
                go_wp2_with fail
                refine (N1.out _).mono ?_
                rintro _ v ⟨rfl, rfl⟩
                clear N1
                go_wp2_with fail
                refine (N2.out _).mono ?_
                rintro _ v ⟨rfl, rfl⟩
                clear N2
                go_wp2_with fail
                go_ret2
                try (replace c1 := c1.out)
                try (replace c4 := c4.out)
                try (replace c5 := c5.out)
                exact ⟨rv_text hQ.out hW.out hPP.out hP.out hg.out (fg4 (ngt_yes hQ.out hW.out hPP.out hP.out n1'.out n2'.out (by rw [hmm.out]; omega) (by rw [hff.out]; omega))), Below.refl _ _⟩
              have v0 : ((m : Int) == 0) = true := beq_iff_eq.2 (by omega)
              have v1 : ((f : Int) == 0) = false := beq_eq_false_iff_ne.2 (by omega)
              have v2 : decide (1073741824 < (m : Int)) = false := decide_eq_false (by omega)
              have v3 : ((m : Int) == 1073741824) = false := beq_eq_false_iff_ne.2 (by omega)
              try (replace c1 := Lib.hid c1)
              try (replace c4 := Lib.hid c4)
              try (replace c5 := Lib.hid c5)
              go_wp2_with fail
              refine (N1.out _).mono ?_
              rintro _ v ⟨rfl, rfl⟩
              clear N1
              go_wp2_with fail
              refine (N2.out _).mono ?_
              rintro _ v ⟨rfl, rfl⟩
              clear N2
              try (replace c1 := c1.out)
              try (replace c4 := c4.out)
              try (replace c5 := c5.out)
              have hD : m * 10 ^ b.size + f ≤ 1073741824 * 10 ^ b.size := dm_le hf.out (by omega)
              obtain ⟨z, z1, z2, QR⟩ := rquot_all (m * 10 ^ b.size + f) b.size (by omega) hD
              have S0 : Ieee.double.sub 0 z = some (z + 9223372036854775808) := by
                rcases z2 with ⟨q, _⟩ | ⟨_, k, n⟩
                · exact absurd q (dm_ne (ten_pos _) (by omega))
                · exact sub_zero_pos (by omega) hD n z1
              have S := fun t w => run_sub 0 z _ S0 t w
              clear S0
              have D0 : Hid (m * 10 ^ b.size + f ≠ 0) := dm_ne (ten_pos _) (by omega)
              replace QR := Lib.hid QR
              have T := Lib.hid (fun u => rten_run b.size (by omega) u)
              unfold tenN at T
              have hf' := hf.out
              have t9 : 10 ^ b.size ≤ 10 ^ 9 := Nat.pow_le_pow_right (by decide) (by omega)
              rw [show (10 : Nat) ^ 9 = 1000000000 by decide] at t9
              have hdd : Hid (m * 10 ^ b.size + f = figD W P) := by show _ = _; rw [figD_is, hmm.out, hff.out, lb.out]
              replace lb := lb.out
              generalize 10 ^ b.size = t at *
              rw [show ((m * t + f : Nat) : Int) = (m : Int) * (t : Int) + (f : Int) by rw [Int.natCast_add, Int.natCast_mul]] at QR
              have gm : (m : Int) ≤ 1073741824 := by omega
              have gt : (t : Int) ≤ 1000000000 := by omega
              have gf : (f : Int) ≤ 1000000000 := by omega
              have gx : (m : Int) * (t : Int) ≤ 1073741824000000000 := by rw [← Int.natCast_mul]; have := Nat.mul_le_mul (show m ≤ 1073741824 by omega) (show t ≤ 1000000000 by omega); omega
              have gy : 0 ≤ (m : Int) * (t : Int) := by rw [← Int.natCast_mul]; omega
              replace lb := Lib.hid lb
              try (replace c1 := Lib.hid c1)
              try (replace c4 := Lib.hid c4)
              try (replace c5 := Lib.hid c5)
              go_wp2_with fail
              refine (T.out _).mono ?_
              rintro _ v ⟨rfl, rfl⟩
              clear T
              go_wp2_with fail
              refine (QR.out _).mono ?_
              rintro _ v2 ⟨rfl, B⟩
              replace B := Lib.hid B
              clear QR
              go_wp2_with fail
              go_ret2
              try (replace c1 := c1.out)
              try (replace c4 := c4.out)
              try (replace c5 := c5.out)
              exact ⟨rv_ok hQ.out hW.out hPP.out hP.out hg.out (by rw [hfg.out, ngt_no hQ.out hW.out hPP.out hP.out n1'.out n2'.out (by rw [hmm.out, hff.out]; omega)]; rfl) hmm.out hff.out n2'.out (by omega) (got_neg (D := figD W P) (by rw [← hdd.out]; exact D0.out) (by rw [← hdd.out, lb.out]; exact z2) z1), B.out⟩
            by_cases c3 : 1073741824 < m
            · have v0 : ((m : Int) == 0) = false := beq_eq_false_iff_ne.2 (by omega)
              have v1 : decide (1073741824 < (m : Int)) = true := decide_eq_true (by omega)
              try (replace c1 := Lib.hid c1)
              try (replace c4 := Lib.hid c4)
              try (replace c5 := Lib.hid c5)
              go_wp2_with fail
              refine (N1.out _).mono ?_
              rintro _ v ⟨rfl, rfl⟩
              clear N1
              go_wp2_with fail
              refine (N2.out _).mono ?_
              rintro _ v ⟨rfl, rfl⟩
              clear N2
              go_wp2_with fail
              go_ret2
              try (replace c1 := c1.out)
              try (replace c4 := c4.out)
              try (replace c5 := c5.out)
              exact ⟨rv_fit hQ.out hW.out hPP.out hP.out hg.out hmm.out hff.out n2'.out (by omega) (by rw [hfg.out, ngt_no hQ.out hW.out hPP.out hP.out n1'.out n2'.out (by rw [hmm.out, hff.out]; omega)]; rfl), Below.refl _ _⟩
            by_cases c4 : m = 1073741824
            · by_cases c5 : f = 0
              · have v0 : ((m : Int) == 0) = false := beq_eq_false_iff_ne.2 (by omega)
                have v1 : decide (1073741824 < (m : Int)) = false := decide_eq_false (by omega)
                have v2 : ((m : Int) == 1073741824) = true := beq_iff_eq.2 (by omega)
                have v3 : decide (0 < f) = false := decide_eq_false (by omega)
                try (replace c1 := Lib.hid c1)
                try (replace c4 := Lib.hid c4)
                try (replace c5 := Lib.hid c5)
                go_wp2_with fail
                refine (N1.out _).mono ?_
                rintro _ v ⟨rfl, rfl⟩
                clear N1
                go_wp2_with fail
                refine (N2.out _).mono ?_
                rintro _ v ⟨rfl, rfl⟩
                clear N2
                try (replace c1 := c1.out)
                try (replace c4 := c4.out)
                try (replace c5 := c5.out)
                have hD : m * 10 ^ b.size + f ≤ 1073741824 * 10 ^ b.size := dm_le hf.out (by omega)
                obtain ⟨z, z1, z2, QR⟩ := rquot_all (m * 10 ^ b.size + f) b.size (by omega) hD
                have S0 : Ieee.double.sub 0 z = some (z + 9223372036854775808) := by
                  rcases z2 with ⟨q, _⟩ | ⟨_, k, n⟩
                  · exact absurd q (dm_ne (ten_pos _) (by omega))
                  · exact sub_zero_pos (by omega) hD n z1
                have S := fun t w => run_sub 0 z _ S0 t w
                clear S0
                have D0 : Hid (m * 10 ^ b.size + f ≠ 0) := dm_ne (ten_pos _) (by omega)
                replace QR := Lib.hid QR
                have T := Lib.hid (fun u => rten_run b.size (by omega) u)
                unfold tenN at T
                have hf' := hf.out
                have t9 : 10 ^ b.size ≤ 10 ^ 9 := Nat.pow_le_pow_right (by decide) (by omega)
                rw [show (10 : Nat) ^ 9 = 1000000000 by decide] at t9
                have hdd : Hid (m * 10 ^ b.size + f = figD W P) := by show _ = _; rw [figD_is, hmm.out, hff.out, lb.out]
                replace lb := lb.out
                generalize 10 ^ b.size = t at *
                rw [show ((m * t + f : Nat) : Int) = (m : Int) * (t : Int) + (f : Int) by rw [Int.natCast_add, Int.natCast_mul]] at QR
                have gm : (m : Int) ≤ 1073741824 := by omega
                have gt : (t : Int) ≤ 1000000000 := by omega
                have gf : (f : Int) ≤ 1000000000 := by omega
                have gx : (m : Int) * (t : Int) ≤ 1073741824000000000 := by rw [← Int.natCast_mul]; have := Nat.mul_le_mul (show m ≤ 1073741824 by omega) (show t ≤ 1000000000 by omega); omega
                have gy : 0 ≤ (m : Int) * (t : Int) := by rw [← Int.natCast_mul]; omega
                replace lb := Lib.hid lb
                try (replace c1 := Lib.hid c1)
                try (replace c4 := Lib.hid c4)
                try (replace c5 := Lib.hid c5)
                go_wp2_with fail
                refine (T.out _).mono ?_
                rintro _ v ⟨rfl, rfl⟩
                clear T
                go_wp2_with fail
                refine (QR.out _).mono ?_
                rintro _ v2 ⟨rfl, B⟩
                replace B := Lib.hid B
                clear QR
                go_wp2_with fail
                go_ret2
                try (replace c1 := c1.out)
                try (replace c4 := c4.out)
                try (replace c5 := c5.out)
                exact ⟨rv_ok hQ.out hW.out hPP.out hP.out hg.out (by rw [hfg.out, ngt_no hQ.out hW.out hPP.out hP.out n1'.out n2'.out (by rw [hmm.out, hff.out]; omega)]; rfl) hmm.out hff.out n2'.out (by omega) (got_neg (D := figD W P) (by rw [← hdd.out]; exact D0.out) (by rw [← hdd.out, lb.out]; exact z2) z1), B.out⟩
              have v0 : ((m : Int) == 0) = false := beq_eq_false_iff_ne.2 (by omega)
              have v1 : decide (1073741824 < (m : Int)) = false := decide_eq_false (by omega)
              have v2 : ((m : Int) == 1073741824) = true := beq_iff_eq.2 (by omega)
              have v3 : decide (0 < f) = true := decide_eq_true (by omega)
              try (replace c1 := Lib.hid c1)
              try (replace c4 := Lib.hid c4)
              try (replace c5 := Lib.hid c5)
              go_wp2_with fail
              refine (N1.out _).mono ?_
              rintro _ v ⟨rfl, rfl⟩
              clear N1
              go_wp2_with fail
              refine (N2.out _).mono ?_
              rintro _ v ⟨rfl, rfl⟩
              clear N2
              go_wp2_with fail
              go_ret2
              try (replace c1 := c1.out)
              try (replace c4 := c4.out)
              try (replace c5 := c5.out)
              exact ⟨rv_fit hQ.out hW.out hPP.out hP.out hg.out hmm.out hff.out n2'.out (by omega) (by rw [hfg.out, ngt_no hQ.out hW.out hPP.out hP.out n1'.out n2'.out (by rw [hmm.out, hff.out]; omega)]; rfl), Below.refl _ _⟩
            have v0 : ((m : Int) == 0) = false := beq_eq_false_iff_ne.2 (by omega)
            have v1 : decide (1073741824 < (m : Int)) = false := decide_eq_false (by omega)
            have v2 : ((m : Int) == 1073741824) = false := beq_eq_false_iff_ne.2 (by omega)
            try (replace c1 := Lib.hid c1)
            try (replace c4 := Lib.hid c4)
            try (replace c5 := Lib.hid c5)
            go_wp2_with fail
            refine (N1.out _).mono ?_
            rintro _ v ⟨rfl, rfl⟩
            clear N1
            go_wp2_with fail
            refine (N2.out _).mono ?_
            rintro _ v ⟨rfl, rfl⟩
            clear N2
            try (replace c1 := c1.out)
            try (replace c4 := c4.out)
            try (replace c5 := c5.out)
            have hD : m * 10 ^ b.size + f ≤ 1073741824 * 10 ^ b.size := dm_le hf.out (by omega)
            obtain ⟨z, z1, z2, QR⟩ := rquot_all (m * 10 ^ b.size + f) b.size (by omega) hD
            have S0 : Ieee.double.sub 0 z = some (z + 9223372036854775808) := by
              rcases z2 with ⟨q, _⟩ | ⟨_, k, n⟩
              · exact absurd q (dm_ne (ten_pos _) (by omega))
              · exact sub_zero_pos (by omega) hD n z1
            have S := fun t w => run_sub 0 z _ S0 t w
            clear S0
            have D0 : Hid (m * 10 ^ b.size + f ≠ 0) := dm_ne (ten_pos _) (by omega)
            replace QR := Lib.hid QR
            have T := Lib.hid (fun u => rten_run b.size (by omega) u)
            unfold tenN at T
            have hf' := hf.out
            have t9 : 10 ^ b.size ≤ 10 ^ 9 := Nat.pow_le_pow_right (by decide) (by omega)
            rw [show (10 : Nat) ^ 9 = 1000000000 by decide] at t9
            have hdd : Hid (m * 10 ^ b.size + f = figD W P) := by show _ = _; rw [figD_is, hmm.out, hff.out, lb.out]
            replace lb := lb.out
            generalize 10 ^ b.size = t at *
            rw [show ((m * t + f : Nat) : Int) = (m : Int) * (t : Int) + (f : Int) by rw [Int.natCast_add, Int.natCast_mul]] at QR
            have gm : (m : Int) ≤ 1073741824 := by omega
            have gt : (t : Int) ≤ 1000000000 := by omega
            have gf : (f : Int) ≤ 1000000000 := by omega
            have gx : (m : Int) * (t : Int) ≤ 1073741824000000000 := by rw [← Int.natCast_mul]; have := Nat.mul_le_mul (show m ≤ 1073741824 by omega) (show t ≤ 1000000000 by omega); omega
            have gy : 0 ≤ (m : Int) * (t : Int) := by rw [← Int.natCast_mul]; omega
            replace lb := Lib.hid lb
            try (replace c1 := Lib.hid c1)
            try (replace c4 := Lib.hid c4)
            try (replace c5 := Lib.hid c5)
            go_wp2_with fail
            refine (T.out _).mono ?_
            rintro _ v ⟨rfl, rfl⟩
            clear T
            go_wp2_with fail
            refine (QR.out _).mono ?_
            rintro _ v2 ⟨rfl, B⟩
            replace B := Lib.hid B
            clear QR
            go_wp2_with fail
            go_ret2
            try (replace c1 := c1.out)
            try (replace c4 := c4.out)
            try (replace c5 := c5.out)
            exact ⟨rv_ok hQ.out hW.out hPP.out hP.out hg.out (by rw [hfg.out, ngt_no hQ.out hW.out hPP.out hP.out n1'.out n2'.out (by rw [hmm.out, hff.out]; omega)]; rfl) hmm.out hff.out n2'.out (by omega) (got_neg (D := figD W P) (by rw [← hdd.out]; exact D0.out) (by rw [← hdd.out, lb.out]; exact z2) z1), B.out⟩
        · have u4 : decide (1 < (a.size : Int)) = false := decide_eq_false (by omega)
          have lz : Hid (lzP W = false) := lz_no (.inl (by have := la.out; omega))
          have N1 := Lib.hid (fun u => rnumber_run a (by omega) u)
          have N2 := Lib.hid (fun u => rnumber_run b (by omega) u)
          rw [c2.out] at N1
          rw [c3.out] at N2
          by_cases n1 : digB W = false
          · have e1 : valI W = -1 := by unfold valI; rw [n1]; rfl
            rw [e1] at N1
            generalize valI P = y at *
            clear e1
            go_wp2_with fail
            refine (N1.out _).mono ?_
            rintro _ v ⟨rfl, rfl⟩
            clear N1
            go_wp2_with fail
            refine (N2.out _).mono ?_
            rintro _ v ⟨rfl, rfl⟩
            clear N2
            go_wp2_with fail
            go_ret2
            exact ⟨rv_text hQ.out hW.out hPP.out hP.out hg.out (fg1 (ad_nd n1)), Below.refl _ _⟩
          have n1' : digB W = true := by simpa using n1
          have e1 : valI W = (numI W 0 : Int) := by unfold valI; rw [n1']; rfl
          rw [e1] at N1
          have hm : Hid (numI W 0 < 10000000000) := num_ten n1' (by have := la.out; omega)
          generalize hmm : numI W 0 = m at *
          replace hmm := Lib.hid hmm
          have u6 : decide ((m : Int) < 0) = false := decide_eq_false (by omega)
          clear e1 n1
          by_cases n2 : digB P = false
          · have e2 : valI P = -1 := by unfold valI; rw [n2]; rfl
            rw [e2] at N2
            clear e2
            try (replace c1 := Lib.hid c1)
            try (replace c4 := Lib.hid c4)
            try (replace c5 := Lib.hid c5)
            go_wp2_with fail
            refine (N1.out _).mono ?_
            rintro _ v ⟨rfl, rfl⟩
            clear N1
            go_wp2_with fail
            refine (N2.out _).mono ?_
            rintro _ v ⟨rfl, rfl⟩
            clear N2
            go_wp2_with fail
            go_ret2
            exact ⟨rv_text hQ.out hW.out hPP.out hP.out hg.out (fg3 (ad_nd n2)), Below.refl _ _⟩
          have n2' : digB P = true := by simpa using n2
          have e2 : valI P = (numI P 0 : Int) := by unfold valI; rw [n2']; rfl
          rw [e2] at N2
          have hf : Hid (numI P 0 < 10 ^ b.size) := by show _ < _; rw [← lb.out]; exact num_len n2'
          generalize hff : numI P 0 = f at *
          replace hff := Lib.hid hff
          have u7 : decide ((f : Int) < 0) = false := decide_eq_false (by omega)
          clear e2 n2
          replace n1' := Lib.hid n1'
          replace n2' := Lib.hid n2'
          have hfg : Hid (fgB (byI s) W P true true = (!true || !ngtL (byI s))) := by
            show _ = _
            unfold fgB
            rw [ad_yes n1'.out (by have := la.out; omega), lz.out, ad_yes n2'.out (by have := lb.out; have := plen.out; omega)]
            simp
          have F9 : f < 1000000000 := by
            have := hf.out
            have k : 10 ^ b.size ≤ 10 ^ 9 := Nat.pow_le_pow_right (by decide) (by omega)
            rw [show (10 : Nat) ^ 9 = 1000000000 by decide] at k
            omega
          clear u1 u2 u3
          by_cases c1 : m = 0
          · by_cases c2 : f = 0
            · have v0 : ((m : Int) == 0) = true := beq_iff_eq.2 (by omega)
              have v1 : ((f : Int) == 0) = true := beq_iff_eq.2 (by omega)
              try (replace c1 := Lib.hid c1)
              try (replace c4 := Lib.hid c4)
              try (replace c5 := Lib.hid c5)
              go_wp2_with fail
              refine (N1.out _).mono ?_
              rintro _ v ⟨rfl, rfl⟩
              clear N1
              go_wp2_with fail
              refine (N2.out _).mono ?_
              rintro _ v ⟨rfl, rfl⟩
              clear N2
              go_wp2_with fail
              go_ret2
              try (replace c1 := c1.out)
              try (replace c4 := c4.out)
              try (replace c5 := c5.out)
              exact ⟨rv_text hQ.out hW.out hPP.out hP.out hg.out (fg4 (ngt_yes hQ.out hW.out hPP.out hP.out n1'.out n2'.out (by rw [hmm.out]; omega) (by rw [hff.out]; omega))), Below.refl _ _⟩
            have v0 : ((m : Int) == 0) = true := beq_iff_eq.2 (by omega)
            have v1 : ((f : Int) == 0) = false := beq_eq_false_iff_ne.2 (by omega)
            have v2 : decide (1073741824 < (m : Int)) = false := decide_eq_false (by omega)
            have v3 : ((m : Int) == 1073741824) = false := beq_eq_false_iff_ne.2 (by omega)
            try (replace c1 := Lib.hid c1)
            try (replace c4 := Lib.hid c4)
            try (replace c5 := Lib.hid c5)
            go_wp2_with fail
            refine (N1.out _).mono ?_
            rintro _ v ⟨rfl, rfl⟩
            clear N1
            go_wp2_with fail
            refine (N2.out _).mono ?_
            rintro _ v ⟨rfl, rfl⟩
            clear N2
            try (replace c1 := c1.out)
            try (replace c4 := c4.out)
            try (replace c5 := c5.out)
            have hD : m * 10 ^ b.size + f ≤ 1073741824 * 10 ^ b.size := dm_le hf.out (by omega)
            obtain ⟨z, z1, z2, QR⟩ := rquot_all (m * 10 ^ b.size + f) b.size (by omega) hD
            have S0 : Ieee.double.sub 0 z = some (z + 9223372036854775808) := by
              rcases z2 with ⟨q, _⟩ | ⟨_, k, n⟩
              · exact absurd q (dm_ne (ten_pos _) (by omega))
              · exact sub_zero_pos (by omega) hD n z1
            have S := fun t w => run_sub 0 z _ S0 t w
            clear S0
            have D0 : Hid (m * 10 ^ b.size + f ≠ 0) := dm_ne (ten_pos _) (by omega)
            replace QR := Lib.hid QR
            have T := Lib.hid (fun u => rten_run b.size (by omega) u)
            unfold tenN at T
            have hf' := hf.out
            have t9 : 10 ^ b.size ≤ 10 ^ 9 := Nat.pow_le_pow_right (by decide) (by omega)
            rw [show (10 : Nat) ^ 9 = 1000000000 by decide] at t9
            have hdd : Hid (m * 10 ^ b.size + f = figD W P) := by show _ = _; rw [figD_is, hmm.out, hff.out, lb.out]
            replace lb := lb.out
            generalize 10 ^ b.size = t at *
            rw [show ((m * t + f : Nat) : Int) = (m : Int) * (t : Int) + (f : Int) by rw [Int.natCast_add, Int.natCast_mul]] at QR
            have gm : (m : Int) ≤ 1073741824 := by omega
            have gt : (t : Int) ≤ 1000000000 := by omega
            have gf : (f : Int) ≤ 1000000000 := by omega
            have gx : (m : Int) * (t : Int) ≤ 1073741824000000000 := by rw [← Int.natCast_mul]; have := Nat.mul_le_mul (show m ≤ 1073741824 by omega) (show t ≤ 1000000000 by omega); omega
            have gy : 0 ≤ (m : Int) * (t : Int) := by rw [← Int.natCast_mul]; omega
            replace lb := Lib.hid lb
            try (replace c1 := Lib.hid c1)
            try (replace c4 := Lib.hid c4)
            try (replace c5 := Lib.hid c5)
            go_wp2_with fail
            refine (T.out _).mono ?_
            rintro _ v ⟨rfl, rfl⟩
            clear T
            go_wp2_with fail
            refine (QR.out _).mono ?_
            rintro _ v2 ⟨rfl, B⟩
            replace B := Lib.hid B
            clear QR
            go_wp2_with fail
            go_ret2
            try (replace c1 := c1.out)
            try (replace c4 := c4.out)
            try (replace c5 := c5.out)
            exact ⟨rv_ok hQ.out hW.out hPP.out hP.out hg.out (by rw [hfg.out, ngt_no hQ.out hW.out hPP.out hP.out n1'.out n2'.out (by rw [hmm.out, hff.out]; omega)]; rfl) hmm.out hff.out n2'.out (by omega) (got_neg (D := figD W P) (by rw [← hdd.out]; exact D0.out) (by rw [← hdd.out, lb.out]; exact z2) z1), B.out⟩
          by_cases c3 : 1073741824 < m
          · have v0 : ((m : Int) == 0) = false := beq_eq_false_iff_ne.2 (by omega)
            have v1 : decide (1073741824 < (m : Int)) = true := decide_eq_true (by omega)
            try (replace c1 := Lib.hid c1)
            try (replace c4 := Lib.hid c4)
            try (replace c5 := Lib.hid c5)
            go_wp2_with fail
            refine (N1.out _).mono ?_
            rintro _ v ⟨rfl, rfl⟩
            clear N1
            go_wp2_with fail
            refine (N2.out _).mono ?_
            rintro _ v ⟨rfl, rfl⟩
            clear N2
            go_wp2_with fail
            go_ret2
            try (replace c1 := c1.out)
            try (replace c4 := c4.out)
            try (replace c5 := c5.out)
            exact ⟨rv_fit hQ.out hW.out hPP.out hP.out hg.out hmm.out hff.out n2'.out (by omega) (by rw [hfg.out, ngt_no hQ.out hW.out hPP.out hP.out n1'.out n2'.out (by rw [hmm.out, hff.out]; omega)]; rfl), Below.refl _ _⟩
          by_cases c4 : m = 1073741824
          · by_cases c5 : f = 0
            · have v0 : ((m : Int) == 0) = false := beq_eq_false_iff_ne.2 (by omega)
              have v1 : decide (1073741824 < (m : Int)) = false := decide_eq_false (by omega)
              have v2 : ((m : Int) == 1073741824) = true := beq_iff_eq.2 (by omega)
              have v3 : decide (0 < f) = false := decide_eq_false (by omega)
              try (replace c1 := Lib.hid c1)
              try (replace c4 := Lib.hid c4)
              try (replace c5 := Lib.hid c5)
              go_wp2_with fail
              refine (N1.out _).mono ?_
              rintro _ v ⟨rfl, rfl⟩
              clear N1
              go_wp2_with fail
              refine (N2.out _).mono ?_
              rintro _ v ⟨rfl, rfl⟩
              clear N2
              try (replace c1 := c1.out)
              try (replace c4 := c4.out)
              try (replace c5 := c5.out)
              have hD : m * 10 ^ b.size + f ≤ 1073741824 * 10 ^ b.size := dm_le hf.out (by omega)
              obtain ⟨z, z1, z2, QR⟩ := rquot_all (m * 10 ^ b.size + f) b.size (by omega) hD
              have S0 : Ieee.double.sub 0 z = some (z + 9223372036854775808) := by
                rcases z2 with ⟨q, _⟩ | ⟨_, k, n⟩
                · exact absurd q (dm_ne (ten_pos _) (by omega))
                · exact sub_zero_pos (by omega) hD n z1
              have S := fun t w => run_sub 0 z _ S0 t w
              clear S0
              have D0 : Hid (m * 10 ^ b.size + f ≠ 0) := dm_ne (ten_pos _) (by omega)
              replace QR := Lib.hid QR
              have T := Lib.hid (fun u => rten_run b.size (by omega) u)
              unfold tenN at T
              have hf' := hf.out
              have t9 : 10 ^ b.size ≤ 10 ^ 9 := Nat.pow_le_pow_right (by decide) (by omega)
              rw [show (10 : Nat) ^ 9 = 1000000000 by decide] at t9
              have hdd : Hid (m * 10 ^ b.size + f = figD W P) := by show _ = _; rw [figD_is, hmm.out, hff.out, lb.out]
              replace lb := lb.out
              generalize 10 ^ b.size = t at *
              rw [show ((m * t + f : Nat) : Int) = (m : Int) * (t : Int) + (f : Int) by rw [Int.natCast_add, Int.natCast_mul]] at QR
              have gm : (m : Int) ≤ 1073741824 := by omega
              have gt : (t : Int) ≤ 1000000000 := by omega
              have gf : (f : Int) ≤ 1000000000 := by omega
              have gx : (m : Int) * (t : Int) ≤ 1073741824000000000 := by rw [← Int.natCast_mul]; have := Nat.mul_le_mul (show m ≤ 1073741824 by omega) (show t ≤ 1000000000 by omega); omega
              have gy : 0 ≤ (m : Int) * (t : Int) := by rw [← Int.natCast_mul]; omega
              replace lb := Lib.hid lb
              try (replace c1 := Lib.hid c1)
              try (replace c4 := Lib.hid c4)
              try (replace c5 := Lib.hid c5)
              go_wp2_with fail
              refine (T.out _).mono ?_
              rintro _ v ⟨rfl, rfl⟩
              clear T
              go_wp2_with fail
              refine (QR.out _).mono ?_
              rintro _ v2 ⟨rfl, B⟩
              replace B := Lib.hid B
              clear QR
              go_wp2_with fail
              go_ret2
              try (replace c1 := c1.out)
              try (replace c4 := c4.out)
              try (replace c5 := c5.out)
              exact ⟨rv_ok hQ.out hW.out hPP.out hP.out hg.out (by rw [hfg.out, ngt_no hQ.out hW.out hPP.out hP.out n1'.out n2'.out (by rw [hmm.out, hff.out]; omega)]; rfl) hmm.out hff.out n2'.out (by omega) (got_neg (D := figD W P) (by rw [← hdd.out]; exact D0.out) (by rw [← hdd.out, lb.out]; exact z2) z1), B.out⟩
            have v0 : ((m : Int) == 0) = false := beq_eq_false_iff_ne.2 (by omega)
            have v1 : decide (1073741824 < (m : Int)) = false := decide_eq_false (by omega)
            have v2 : ((m : Int) == 1073741824) = true := beq_iff_eq.2 (by omega)
            have v3 : decide (0 < f) = true := decide_eq_true (by omega)
            try (replace c1 := Lib.hid c1)
            try (replace c4 := Lib.hid c4)
            try (replace c5 := Lib.hid c5)
            go_wp2_with fail
            refine (N1.out _).mono ?_
            rintro _ v ⟨rfl, rfl⟩
            clear N1
            go_wp2_with fail
            refine (N2.out _).mono ?_
            rintro _ v ⟨rfl, rfl⟩
            clear N2
            go_wp2_with fail
            go_ret2
            try (replace c1 := c1.out)
            try (replace c4 := c4.out)
            try (replace c5 := c5.out)
            exact ⟨rv_fit hQ.out hW.out hPP.out hP.out hg.out hmm.out hff.out n2'.out (by omega) (by rw [hfg.out, ngt_no hQ.out hW.out hPP.out hP.out n1'.out n2'.out (by rw [hmm.out, hff.out]; omega)]; rfl), Below.refl _ _⟩
          have v0 : ((m : Int) == 0) = false := beq_eq_false_iff_ne.2 (by omega)
          have v1 : decide (1073741824 < (m : Int)) = false := decide_eq_false (by omega)
          have v2 : ((m : Int) == 1073741824) = false := beq_eq_false_iff_ne.2 (by omega)
          try (replace c1 := Lib.hid c1)
          try (replace c4 := Lib.hid c4)
          try (replace c5 := Lib.hid c5)
          go_wp2_with fail
          refine (N1.out _).mono ?_
          rintro _ v ⟨rfl, rfl⟩
          clear N1
          go_wp2_with fail
          refine (N2.out _).mono ?_
          rintro _ v ⟨rfl, rfl⟩
          clear N2
          try (replace c1 := c1.out)
          try (replace c4 := c4.out)
          try (replace c5 := c5.out)
          have hD : m * 10 ^ b.size + f ≤ 1073741824 * 10 ^ b.size := dm_le hf.out (by omega)
          obtain ⟨z, z1, z2, QR⟩ := rquot_all (m * 10 ^ b.size + f) b.size (by omega) hD
          have S0 : Ieee.double.sub 0 z = some (z + 9223372036854775808) := by
            rcases z2 with ⟨q, _⟩ | ⟨_, k, n⟩
            · exact absurd q (dm_ne (ten_pos _) (by omega))
            · exact sub_zero_pos (by omega) hD n z1
          have S := fun t w => run_sub 0 z _ S0 t w
          clear S0
          have D0 : Hid (m * 10 ^ b.size + f ≠ 0) := dm_ne (ten_pos _) (by omega)
          replace QR := Lib.hid QR
          have T := Lib.hid (fun u => rten_run b.size (by omega) u)
          unfold tenN at T
          have hf' := hf.out
          have t9 : 10 ^ b.size ≤ 10 ^ 9 := Nat.pow_le_pow_right (by decide) (by omega)
          rw [show (10 : Nat) ^ 9 = 1000000000 by decide] at t9
          have hdd : Hid (m * 10 ^ b.size + f = figD W P) := by show _ = _; rw [figD_is, hmm.out, hff.out, lb.out]
          replace lb := lb.out
          generalize 10 ^ b.size = t at *
          rw [show ((m * t + f : Nat) : Int) = (m : Int) * (t : Int) + (f : Int) by rw [Int.natCast_add, Int.natCast_mul]] at QR
          have gm : (m : Int) ≤ 1073741824 := by omega
          have gt : (t : Int) ≤ 1000000000 := by omega
          have gf : (f : Int) ≤ 1000000000 := by omega
          have gx : (m : Int) * (t : Int) ≤ 1073741824000000000 := by rw [← Int.natCast_mul]; have := Nat.mul_le_mul (show m ≤ 1073741824 by omega) (show t ≤ 1000000000 by omega); omega
          have gy : 0 ≤ (m : Int) * (t : Int) := by rw [← Int.natCast_mul]; omega
          replace lb := Lib.hid lb
          try (replace c1 := Lib.hid c1)
          try (replace c4 := Lib.hid c4)
          try (replace c5 := Lib.hid c5)
          go_wp2_with fail
          refine (T.out _).mono ?_
          rintro _ v ⟨rfl, rfl⟩
          clear T
          go_wp2_with fail
          refine (QR.out _).mono ?_
          rintro _ v2 ⟨rfl, B⟩
          replace B := Lib.hid B
          clear QR
          go_wp2_with fail
          go_ret2
          try (replace c1 := c1.out)
          try (replace c4 := c4.out)
          try (replace c5 := c5.out)
          exact ⟨rv_ok hQ.out hW.out hPP.out hP.out hg.out (by rw [hfg.out, ngt_no hQ.out hW.out hPP.out hP.out n1'.out n2'.out (by rw [hmm.out, hff.out]; omega)]; rfl) hmm.out hff.out n2'.out (by omega) (got_neg (D := figD W P) (by rw [← hdd.out]; exact D0.out) (by rw [← hdd.out, lb.out]; exact z2) z1), B.out⟩
end Go.Proofs.YtocnpcjpkieogaaGreatDoor
