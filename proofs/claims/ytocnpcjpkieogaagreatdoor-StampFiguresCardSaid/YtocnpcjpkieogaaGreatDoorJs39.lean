/- Proved here: what the texts Sqid prove, one behind the other. -/
import Derived.Test.YtocnpcjpkieogaaGreatDoorJs35

namespace Go.Proofs.YtocnpcjpkieogaaGreatDoor
open Go.Shelf Go.ChangeShapes Go.WideShapes Go.ChangeAt Go.RowKit Ieee.Own

set_option maxRecDepth 100000 in
set_option maxHeartbeats 8000000 in
theorem rval_ff (s : ByteArray) (hs : s.size ≤ 9223372036854775807) (hg : false = ngP (byI s)) (hP0 : ptP (rsP (byI s)) = false) (h1 : 0 < s.size) (w : World) : Calls Tryz.prog 8 #[.string s] w fun e w' => RvA (byI s) e ∧ Below w.heap.size w w' := by
  have ls := byI_len s
  obtain ⟨Q, hQ⟩ : ∃ Q, Q = rsP (byI s) := ⟨_, rfl⟩
  rw [← hQ] at hP0
  have hgd : false = decide ((byI s).headD 0 = 45) := hg
  have hQ' : byI s = Q := by rw [hQ]; unfold rsP; rw [← hg]; exact (if_neg (by decide)).symm
  replace hQ := Lib.hid hQ
  have ng0 := byI_at s 0 h1
  have h3 : (byI s).getD 0 0 ≠ 45 := by
    have := of_decide_eq_false hgd.symm
    generalize byI s = L at *
    cases L with
    | nil => simp
    | cons x L => simpa using this
  rw [ng0] at h3
  have t1 : decide (0 < s.size) = true := decide_eq_true h1
  have t2 : (((s[0].toNat : Nat) : Int) == 45) = false := by simp; omega
  clear h3 ng0
  replace hg := Lib.hid hg
  replace hP0 := Lib.hid hP0
  clear hgd ls
  replace hQ' := Lib.hid hQ'
  go_enter Tryz.func8, Tryz.ntmps8
  go_wp2_with fail
  have hr : Hid (byI s = Q) := by show _ = _; exact hQ'.out
  have lr : Q.length = s.size := by rw [← hr.out]; exact byI_len _
  have at_ : Hid (∀ i (h : i < s.size), ((s[i].toNat : Nat) : Int) = Q.getD i 0) := fun i h => by rw [← hr.out]; exact (byI_at _ i h).symm
  have tw := Lib.hid (tw_at Q)
  have te := Lib.hid (tw_end Q)
  have tn := Lib.hid (fun h => (hd_nil Q h).1)
  generalize hW : hdP Q = W at *
  replace lr := Lib.hid lr
  replace hW := Lib.hid hW
  have hP := hP0
  go_loop [5] (fun iv => ∃ i : Nat, i ≤ W.length ∧ iv = .int .i64 i) (fun iv => s.size - (intOf iv).toNat)
  case atStart => exact ⟨0, Nat.zero_le _, rfl⟩
  case round =>
    obtain ⟨i, hi, rfl⟩ := hrel
    by_cases hlt : i < W.length
    · have q := tw.out i hlt
      have hir : i < s.size := by have := lr.out; omega
      have hx := at_.out i hir
      have t2 : (((s[i].toNat : Nat) : Int) != 46) = true := by simp; omega
      have t1 : decide (i < s.size) = true := decide_eq_true hir
      clear q hx
      go_wp2_with fail
      go_round
      case rel => exact ⟨i + 1, hlt, by go_num⟩
      case measure => simp [intOf]; omega
    · obtain rfl : i = W.length := by omega
      have eW : Hid (W = Q) := Lib.hid (tn.out hP.out)
      have lw : W.length = s.size := by rw [eW.out]; exact lr.out
      have t1 : decide (W.length < s.size) = false := decide_eq_false (by omega)
      have c2 : Hid (byI s = W) := by show _ = _; rw [eW.out]; exact hr.out
      have hPP : Hid (tlP Q = []) := by show _ = _; exact (hd_nil Q hP.out).2
      have ex : s.extract 0 W.length = s := by rw [lw]; exact ext_all s
      have sa : ∀ W', (Instr.slice 9 (.string s) none (some (.int .i64 (W.length : Int))) none).run Tryz.prog W' = .ok (.string s) W' := fun W' => by
        rw [run_slice_string_to_if W' 9 s .i64 _ Tryz.underlying9, if_pos (by omega)]
        exact congrArg (fun x => Result.ok (Value.string x) W') ex
      replace lw := Lib.hid lw
      clear tw te tn ex eW
      obtain ⟨P, hPn⟩ : ∃ P : List Int, P = [] := ⟨_, rfl⟩
      rw [← hPn] at hPP
      have NOP : Hid (digB P = true) := by show _ = _; rw [hPn]; rfl
      have lb : Hid (P.length = 0) := by show _ = _; rw [hPn]; rfl
      have vP : valI ([] : List Int) = valI P := by rw [hPn]
      replace hPn := Lib.hid hPn
      have c3 : Hid (valI (byI ⟨#[]⟩) = valI P) := by show _ = _; rw [← vP]; rfl
      clear vP
      have la : Hid (W.length = s.size) := by show _ = _; rw [← c2.out]; exact byI_len _
      by_cases m1 : s.size < 1
      · have u1 : decide ((s.size : Int) < 1) = true := decide_eq_true (by omega)
        go_wp2_with fail
        go_ret2
        exact ⟨rv_text hQ.out hW.out hPP.out hP.out hg.out (fg1 (ad_len (by have := la.out; omega))), Below.refl _ _⟩
      have u1 : decide ((s.size : Int) < 1) = false := decide_eq_false (by omega)
      by_cases m2 : 10 < s.size
      · have u2 : decide (10 < (s.size : Int)) = true := decide_eq_true (by omega)
        go_wp2_with fail
        go_ret2
        exact ⟨rv_text hQ.out hW.out hPP.out hP.out hg.out (fg1 (ad_len (by have := la.out; omega))), Below.refl _ _⟩
      have u2 : decide (10 < (s.size : Int)) = false := decide_eq_false (by omega)
      by_cases m4 : 1 < s.size
      · have u4 : decide (1 < (s.size : Int)) = true := decide_eq_true (by omega)
        have a0 : Hid (((s[0].toNat : Nat) : Int) = W.getD 0 0) := by show _ = _; rw [← c2.out]; exact (byI_at s 0 (by omega)).symm
        by_cases m5 : s[0].toNat = 48
        · have u5 : (((s[0].toNat : Nat) : Int) == 48) = true := by simp; omega
          go_wp2_with fail
          go_ret2
          exact ⟨rv_text hQ.out hW.out hPP.out hP.out hg.out (fg2 (lz_yes (by have := la.out; omega) (by rw [← a0.out]; omega))), Below.refl _ _⟩
        · have u5 : (((s[0].toNat : Nat) : Int) == 48) = false := by simp; omega
          have lz : Hid (lzP W = false) := lz_no (.inr (by rw [← a0.out]; omega))
          have N1 := Lib.hid (fun u => rnumber_run s (by omega) u)
          have N2 := Lib.hid (fun u => rnumber_run ⟨#[]⟩ (by decide) u)
          rw [c2.out] at N1
          rw [c3.out] at N2
          by_cases n1 : digB W = false
          · have e1 : valI W = -1 := by unfold valI; rw [n1]; rfl
            rw [e1] at N1
            generalize valI P = y at *
            clear e1
            go_wp2_with fail
            refine (N1.out _).mono ?_
            rintro _ v ⟨rfl, rfl⟩
            clear N1
            go_wp2_with fail
            refine (N2.out _).mono ?_
            rintro _ v ⟨rfl, rfl⟩
            clear N2
            go_wp2_with fail
            go_ret2
            exact ⟨rv_text hQ.out hW.out hPP.out hP.out hg.out (fg1 (ad_nd n1)), Below.refl _ _⟩
          have n1' : digB W = true := by simpa using n1
          have e1 : valI W = (numI W 0 : Int) := by unfold valI; rw [n1']; rfl
          rw [e1] at N1
          have hm : Hid (numI W 0 < 10000000000) := num_ten n1' (by have := la.out; omega)
          generalize hmm : numI W 0 = m at *
          replace hmm := Lib.hid hmm
          have u6 : decide ((m : Int) < 0) = false := decide_eq_false (by omega)
          clear e1 n1
          by_cases n2 : digB P = false
          · exact absurd n2 (by rw [NOP.out]; decide)
          have n2' : digB P = true := by simpa using n2
          have e2 : valI P = (numI P 0 : Int) := by unfold valI; rw [n2']; rfl
          rw [e2] at N2
          have hf : Hid (numI P 0 < 10 ^ 0) := by have q := num_len n2'; rw [lb.out] at q; exact q
          generalize hff : numI P 0 = f at *
          replace hff := Lib.hid hff
          have u7 : decide ((f : Int) < 0) = false := decide_eq_false (by omega)
          clear e2 n2
          replace n1' := Lib.hid n1'
          replace n2' := Lib.hid n2'
          have hfg : Hid (fgB (byI s) W P false false = (!false || !ngtL (byI s))) := by
            show _ = _
            unfold fgB
            rw [ad_yes n1'.out (by have := la.out; omega), lz.out]
            simp
          have F9 : f < 1000000000 := by
            have := hf.out
            have k : 10 ^ 0 ≤ 10 ^ 9 := Nat.pow_le_pow_right (by decide) (by omega)
            rw [show (10 : Nat) ^ 9 = 1000000000 by decide] at k
            omega
          clear u1 u2
          by_cases c1 : m = 0
          · have v0 : decide (1073741824 < (m : Int)) = false := decide_eq_false (by omega)
            have v1 : ((m : Int) == 1073741824) = false := beq_eq_false_iff_ne.2 (by omega)
            try (replace c1 := Lib.hid c1)
            try (replace c4 := Lib.hid c4)
            try (replace c5 := Lib.hid c5)
            go_wp2_with fail
            refine (N1.out _).mono ?_
            rintro _ v ⟨rfl, rfl⟩
            clear N1
            go_wp2_with fail
            refine (N2.out _).mono ?_
            rintro _ v ⟨rfl, rfl⟩
            clear N2
            try (replace c1 := c1.out)
            try (replace c4 := c4.out)
            try (replace c5 := c5.out)
            have hD : m * 10 ^ 0 + f ≤ 1073741824 * 10 ^ 0 := dm_le hf.out (by omega)
            obtain ⟨z, z1, z2, QR⟩ := rquot_all (m * 10 ^ 0 + f) 0 (by omega) hD
            replace QR := Lib.hid QR
            have T := Lib.hid (fun u => rten_run 0 (by omega) u)
            unfold tenN at T
            have hf' := hf.out
            have t9 : 10 ^ 0 ≤ 10 ^ 9 := Nat.pow_le_pow_right (by decide) (by omega)
            rw [show (10 : Nat) ^ 9 = 1000000000 by decide] at t9
            have hdd : Hid (m * 10 ^ 0 + f = figD W P) := by show _ = _; rw [figD_is, hmm.out, hff.out, lb.out]
            replace lb := lb.out
            generalize 10 ^ 0 = t at *
            rw [show ((m * t + f : Nat) : Int) = (m : Int) * (t : Int) + (f : Int) by rw [Int.natCast_add, Int.natCast_mul]] at QR
            have gm : (m : Int) ≤ 1073741824 := by omega
            have gt : (t : Int) ≤ 1000000000 := by omega
            have gf : (f : Int) ≤ 1000000000 := by omega
            have gx : (m : Int) * (t : Int) ≤ 1073741824000000000 := by rw [← Int.natCast_mul]; have := Nat.mul_le_mul (show m ≤ 1073741824 by omega) (show t ≤ 1000000000 by omega); omega
            have gy : 0 ≤ (m : Int) * (t : Int) := by rw [← Int.natCast_mul]; omega
            replace lb := Lib.hid lb
            try (replace c1 := Lib.hid c1)
            try (replace c4 := Lib.hid c4)
            try (replace c5 := Lib.hid c5)
            go_wp2_with fail
            refine (T.out _).mono ?_
            rintro _ v ⟨rfl, rfl⟩
            clear T
            go_wp2_with fail
            refine (QR.out _).mono ?_
            rintro _ v2 ⟨rfl, B⟩
            replace B := Lib.hid B
            clear QR
            go_wp2_with fail
            go_ret2
            try (replace c1 := c1.out)
            try (replace c4 := c4.out)
            try (replace c5 := c5.out)
            exact ⟨rv_ok hQ.out hW.out hPP.out hP.out hg.out (by rw [hfg.out]; rfl) hmm.out hff.out n2'.out (by omega) (got_pos (D := figD W P) (by rw [← hdd.out, lb.out]; exact z2) z1), B.out⟩
          by_cases c3 : 1073741824 < m
          · have v0 : decide (1073741824 < (m : Int)) = true := decide_eq_true (by omega)
            try (replace c1 := Lib.hid c1)
            try (replace c4 := Lib.hid c4)
            try (replace c5 := Lib.hid c5)
            go_wp2_with fail
            refine (N1.out _).mono ?_
            rintro _ v ⟨rfl, rfl⟩
            clear N1
            go_wp2_with fail
            refine (N2.out _).mono ?_
            rintro _ v ⟨rfl, rfl⟩
            clear N2
            go_wp2_with fail
            go_ret2
            try (replace c1 := c1.out)
            try (replace c4 := c4.out)
            try (replace c5 := c5.out)
            exact ⟨rv_fit hQ.out hW.out hPP.out hP.out hg.out hmm.out hff.out n2'.out (by omega) (by rw [hfg.out]; rfl), Below.refl _ _⟩
          by_cases c4 : m = 1073741824
          · by_cases c5 : f = 0
            · have v0 : decide (1073741824 < (m : Int)) = false := decide_eq_false (by omega)
              have v1 : ((m : Int) == 1073741824) = true := beq_iff_eq.2 (by omega)
              have v2 : decide (0 < f) = false := decide_eq_false (by omega)
              try (replace c1 := Lib.hid c1)
              try (replace c4 := Lib.hid c4)
              try (replace c5 := Lib.hid c5)
              go_wp2_with fail
              refine (N1.out _).mono ?_
              rintro _ v ⟨rfl, rfl⟩
              clear N1
              go_wp2_with fail
              refine (N2.out _).mono ?_
              rintro _ v ⟨rfl, rfl⟩
              clear N2
              try (replace c1 := c1.out)
              try (replace c4 := c4.out)
              try (replace c5 := c5.out)
              have hD : m * 10 ^ 0 + f ≤ 1073741824 * 10 ^ 0 := dm_le hf.out (by omega)
              obtain ⟨z, z1, z2, QR⟩ := rquot_all (m * 10 ^ 0 + f) 0 (by omega) hD
              replace QR := Lib.hid QR
              have T := Lib.hid (fun u => rten_run 0 (by omega) u)
              unfold tenN at T
              have hf' := hf.out
              have t9 : 10 ^ 0 ≤ 10 ^ 9 := Nat.pow_le_pow_right (by decide) (by omega)
              rw [show (10 : Nat) ^ 9 = 1000000000 by decide] at t9
              have hdd : Hid (m * 10 ^ 0 + f = figD W P) := by show _ = _; rw [figD_is, hmm.out, hff.out, lb.out]
              replace lb := lb.out
              generalize 10 ^ 0 = t at *
              rw [show ((m * t + f : Nat) : Int) = (m : Int) * (t : Int) + (f : Int) by rw [Int.natCast_add, Int.natCast_mul]] at QR
              have gm : (m : Int) ≤ 1073741824 := by omega
              have gt : (t : Int) ≤ 1000000000 := by omega
              have gf : (f : Int) ≤ 1000000000 := by omega
              have gx : (m : Int) * (t : Int) ≤ 1073741824000000000 := by rw [← Int.natCast_mul]; have := Nat.mul_le_mul (show m ≤ 1073741824 by omega) (show t ≤ 1000000000 by omega); omega
              have gy : 0 ≤ (m : Int) * (t : Int) := by rw [← Int.natCast_mul]; omega
              replace lb := Lib.hid lb
              try (replace c1 := Lib.hid c1)
              try (replace c4 := Lib.hid c4)
              try (replace c5 := Lib.hid c5)
              go_wp2_with fail
              refine (T.out _).mono ?_
              rintro _ v ⟨rfl, rfl⟩
              clear T
              go_wp2_with fail
              refine (QR.out _).mono ?_
              rintro _ v2 ⟨rfl, B⟩
              replace B := Lib.hid B
              clear QR
              go_wp2_with fail
              go_ret2
              try (replace c1 := c1.out)
              try (replace c4 := c4.out)
              try (replace c5 := c5.out)
              exact ⟨rv_ok hQ.out hW.out hPP.out hP.out hg.out (by rw [hfg.out]; rfl) hmm.out hff.out n2'.out (by omega) (got_pos (D := figD W P) (by rw [← hdd.out, lb.out]; exact z2) z1), B.out⟩
            have v0 : decide (1073741824 < (m : Int)) = false := decide_eq_false (by omega)
            have v1 : ((m : Int) == 1073741824) = true := beq_iff_eq.2 (by omega)
            have v2 : decide (0 < f) = true := decide_eq_true (by omega)
            try (replace c1 := Lib.hid c1)
            try (replace c4 := Lib.hid c4)
            try (replace c5 := Lib.hid c5)
            go_wp2_with fail
            refine (N1.out _).mono ?_
            rintro _ v ⟨rfl, rfl⟩
            clear N1
            go_wp2_with fail
            refine (N2.out _).mono ?_
            rintro _ v ⟨rfl, rfl⟩
            clear N2
            go_wp2_with fail
            go_ret2
            try (replace c1 := c1.out)
            try (replace c4 := c4.out)
            try (replace c5 := c5.out)
            exact ⟨rv_fit hQ.out hW.out hPP.out hP.out hg.out hmm.out hff.out n2'.out (by omega) (by rw [hfg.out]; rfl), Below.refl _ _⟩
          have v0 : decide (1073741824 < (m : Int)) = false := decide_eq_false (by omega)
          have v1 : ((m : Int) == 1073741824) = false := beq_eq_false_iff_ne.2 (by omega)
          try (replace c1 := Lib.hid c1)
          try (replace c4 := Lib.hid c4)
          try (replace c5 := Lib.hid c5)
          go_wp2_with fail
          refine (N1.out _).mono ?_
          rintro _ v ⟨rfl, rfl⟩
          clear N1
          go_wp2_with fail
          refine (N2.out _).mono ?_
          rintro _ v ⟨rfl, rfl⟩
          clear N2
          try (replace c1 := c1.out)
          try (replace c4 := c4.out)
          try (replace c5 := c5.out)
          have hD : m * 10 ^ 0 + f ≤ 1073741824 * 10 ^ 0 := dm_le hf.out (by omega)
          obtain ⟨z, z1, z2, QR⟩ := rquot_all (m * 10 ^ 0 + f) 0 (by omega) hD
          replace QR := Lib.hid QR
          have T := Lib.hid (fun u => rten_run 0 (by omega) u)
          unfold tenN at T
          have hf' := hf.out
          have t9 : 10 ^ 0 ≤ 10 ^ 9 := Nat.pow_le_pow_right (by decide) (by omega)
          rw [show (10 : Nat) ^ 9 = 1000000000 by decide] at t9
          have hdd : Hid (m * 10 ^ 0 + f = figD W P) := by show _ = _; rw [figD_is, hmm.out, hff.out, lb.out]
          replace lb := lb.out
          generalize 10 ^ 0 = t at *
          rw [show ((m * t + f : Nat) : Int) = (m : Int) * (t : Int) + (f : Int) by rw [Int.natCast_add, Int.natCast_mul]] at QR
          have gm : (m : Int) ≤ 1073741824 := by omega
          have gt : (t : Int) ≤ 1000000000 := by omega
          have gf : (f : Int) ≤ 1000000000 := by omega
          have gx : (m : Int) * (t : Int) ≤ 1073741824000000000 := by rw [← Int.natCast_mul]; have := Nat.mul_le_mul (show m ≤ 1073741824 by omega) (show t ≤ 1000000000 by omega); omega
          have gy : 0 ≤ (m : Int) * (t : Int) := by rw [← Int.natCast_mul]; omega
          replace lb := Lib.hid lb
          try (replace c1 := Lib.hid c1)
          try (replace c4 := Lib.hid c4)
          try (replace c5 := Lib.hid c5)
          go_wp2_with fail
          refine (T.out _).mono ?_
          rintro _ v ⟨rfl, rfl⟩
          clear T
          go_wp2_with fail
          refine (QR.out _).mono ?_
          rintro _ v2 ⟨rfl, B⟩
          replace B := Lib.hid B
          clear QR
          go_wp2_with fail
          go_ret2
          try (replace c1 := c1.out)
          try (replace c4 := c4.out)
          try (replace c5 := c5.out)
          exact ⟨rv_ok hQ.out hW.out hPP.out hP.out hg.out (by rw [hfg.out]; rfl) hmm.out hff.out n2'.out (by omega) (got_pos (D := figD W P) (by rw [← hdd.out, lb.out]; exact z2) z1), B.out⟩
      · have u4 : decide (1 < (s.size : Int)) = false := decide_eq_false (by omega)
        have lz : Hid (lzP W = false) := lz_no (.inl (by have := la.out; omega))
        have N1 := Lib.hid (fun u => rnumber_run s (by omega) u)
        have N2 := Lib.hid (fun u => rnumber_run ⟨#[]⟩ (by decide) u)
        rw [c2.out] at N1
        rw [c3.out] at N2
        by_cases n1 : digB W = false
        · have e1 : valI W = -1 := by unfold valI; rw [n1]; rfl
          rw [e1] at N1
          generalize valI P = y at *
          clear e1
          go_wp2_with fail
          refine (N1.out _).mono ?_
          rintro _ v ⟨rfl, rfl⟩
          clear N1
          go_wp2_with fail
          refine (N2.out _).mono ?_
          rintro _ v ⟨rfl, rfl⟩
          clear N2
          go_wp2_with fail
          go_ret2
          exact ⟨rv_text hQ.out hW.out hPP.out hP.out hg.out (fg1 (ad_nd n1)), Below.refl _ _⟩
        have n1' : digB W = true := by simpa using n1
        have e1 : valI W = (numI W 0 : Int) := by unfold valI; rw [n1']; rfl
        rw [e1] at N1
        have hm : Hid (numI W 0 < 10000000000) := num_ten n1' (by have := la.out; omega)
        generalize hmm : numI W 0 = m at *
        replace hmm := Lib.hid hmm
        have u6 : decide ((m : Int) < 0) = false := decide_eq_false (by omega)
        clear e1 n1
        by_cases n2 : digB P = false
        · exact absurd n2 (by rw [NOP.out]; decide)
        have n2' : digB P = true := by simpa using n2
        have e2 : valI P = (numI P 0 : Int) := by unfold valI; rw [n2']; rfl
        rw [e2] at N2
        have hf : Hid (numI P 0 < 10 ^ 0) := by have q := num_len n2'; rw [lb.out] at q; exact q
        generalize hff : numI P 0 = f at *
        replace hff := Lib.hid hff
        have u7 : decide ((f : Int) < 0) = false := decide_eq_false (by omega)
        clear e2 n2
        replace n1' := Lib.hid n1'
        replace n2' := Lib.hid n2'
        have hfg : Hid (fgB (byI s) W P false false = (!false || !ngtL (byI s))) := by
          show _ = _
          unfold fgB
          rw [ad_yes n1'.out (by have := la.out; omega), lz.out]
          simp
        have F9 : f < 1000000000 := by
          have := hf.out
          have k : 10 ^ 0 ≤ 10 ^ 9 := Nat.pow_le_pow_right (by decide) (by omega)
          rw [show (10 : Nat) ^ 9 = 1000000000 by decide] at k
          omega
        clear u1 u2
        by_cases c1 : m = 0
        · have v0 : decide (1073741824 < (m : Int)) = false := decide_eq_false (by omega)
          have v1 : ((m : Int) == 1073741824) = false := beq_eq_false_iff_ne.2 (by omega)
          try (replace c1 := Lib.hid c1)
          try (replace c4 := Lib.hid c4)
          try (replace c5 := Lib.hid c5)
          go_wp2_with fail
          refine (N1.out _).mono ?_
          rintro _ v ⟨rfl, rfl⟩
          clear N1
          go_wp2_with fail
          refine (N2.out _).mono ?_
          rintro _ v ⟨rfl, rfl⟩
          clear N2
          try (replace c1 := c1.out)
          try (replace c4 := c4.out)
          try (replace c5 := c5.out)
          have hD : m * 10 ^ 0 + f ≤ 1073741824 * 10 ^ 0 := dm_le hf.out (by omega)
          obtain ⟨z, z1, z2, QR⟩ := rquot_all (m * 10 ^ 0 + f) 0 (by omega) hD
          replace QR := Lib.hid QR
          have T := Lib.hid (fun u => rten_run 0 (by omega) u)
          unfold tenN at T
          have hf' := hf.out
          have t9 : 10 ^ 0 ≤ 10 ^ 9 := Nat.pow_le_pow_right (by decide) (by omega)
          rw [show (10 : Nat) ^ 9 = 1000000000 by decide] at t9
          have hdd : Hid (m * 10 ^ 0 + f = figD W P) := by show _ = _; rw [figD_is, hmm.out, hff.out, lb.out]
          replace lb := lb.out
          generalize 10 ^ 0 = t at *
          rw [show ((m * t + f : Nat) : Int) = (m : Int) * (t : Int) + (f : Int) by rw [Int.natCast_add, Int.natCast_mul]] at QR
          have gm : (m : Int) ≤ 1073741824 := by omega
          have gt : (t : Int) ≤ 1000000000 := by omega
          have gf : (f : Int) ≤ 1000000000 := by omega
          have gx : (m : Int) * (t : Int) ≤ 1073741824000000000 := by rw [← Int.natCast_mul]; have := Nat.mul_le_mul (show m ≤ 1073741824 by omega) (show t ≤ 1000000000 by omega); omega
          have gy : 0 ≤ (m : Int) * (t : Int) := by rw [← Int.natCast_mul]; omega
          replace lb := Lib.hid lb
          try (replace c1 := Lib.hid c1)
          try (replace c4 := Lib.hid c4)
          try (replace c5 := Lib.hid c5)
          go_wp2_with fail
          refine (T.out _).mono ?_
          rintro _ v ⟨rfl, rfl⟩
          clear T
          go_wp2_with fail
          refine (QR.out _).mono ?_
          rintro _ v2 ⟨rfl, B⟩
          replace B := Lib.hid B
          clear QR
          go_wp2_with fail
          go_ret2
          try (replace c1 := c1.out)
          try (replace c4 := c4.out)
          try (replace c5 := c5.out)
          exact ⟨rv_ok hQ.out hW.out hPP.out hP.out hg.out (by rw [hfg.out]; rfl) hmm.out hff.out n2'.out (by omega) (got_pos (D := figD W P) (by rw [← hdd.out, lb.out]; exact z2) z1), B.out⟩
        by_cases c3 : 1073741824 < m
        · have v0 : decide (1073741824 < (m : Int)) = true := decide_eq_true (by omega)
          try (replace c1 := Lib.hid c1)
          try (replace c4 := Lib.hid c4)
          try (replace c5 := Lib.hid c5)
          go_wp2_with fail
          refine (N1.out _).mono ?_
          rintro _ v ⟨rfl, rfl⟩
          clear N1
          go_wp2_with fail
          refine (N2.out _).mono ?_
          rintro _ v ⟨rfl, rfl⟩
          clear N2
          go_wp2_with fail
          go_ret2
          try (replace c1 := c1.out)
          try (replace c4 := c4.out)
          try (replace c5 := c5.out)
          exact ⟨rv_fit hQ.out hW.out hPP.out hP.out hg.out hmm.out hff.out n2'.out (by omega) (by rw [hfg.out]; rfl), Below.refl _ _⟩
        by_cases c4 : m = 1073741824
        · by_cases c5 : f = 0
          · have v0 : decide (1073741824 < (m : Int)) = false := decide_eq_false (by omega)
            have v1 : ((m : Int) == 1073741824) = true := beq_iff_eq.2 (by omega)
            have v2 : decide (0 < f) = false := decide_eq_false (by omega)
            try (replace c1 := Lib.hid c1)
            try (replace c4 := Lib.hid c4)
            try (replace c5 := Lib.hid c5)
            go_wp2_with fail
            refine (N1.out _).mono ?_
            rintro _ v ⟨rfl, rfl⟩
            clear N1
            go_wp2_with fail
            refine (N2.out _).mono ?_
            rintro _ v ⟨rfl, rfl⟩
            clear N2
            try (replace c1 := c1.out)
            try (replace c4 := c4.out)
            try (replace c5 := c5.out)
            have hD : m * 10 ^ 0 + f ≤ 1073741824 * 10 ^ 0 := dm_le hf.out (by omega)
            obtain ⟨z, z1, z2, QR⟩ := rquot_all (m * 10 ^ 0 + f) 0 (by omega) hD
            replace QR := Lib.hid QR
            have T := Lib.hid (fun u => rten_run 0 (by omega) u)
            unfold tenN at T
            have hf' := hf.out
            have t9 : 10 ^ 0 ≤ 10 ^ 9 := Nat.pow_le_pow_right (by decide) (by omega)
            rw [show (10 : Nat) ^ 9 = 1000000000 by decide] at t9
            have hdd : Hid (m * 10 ^ 0 + f = figD W P) := by show _ = _; rw [figD_is, hmm.out, hff.out, lb.out]
            replace lb := lb.out
            generalize 10 ^ 0 = t at *
            rw [show ((m * t + f : Nat) : Int) = (m : Int) * (t : Int) + (f : Int) by rw [Int.natCast_add, Int.natCast_mul]] at QR
            have gm : (m : Int) ≤ 1073741824 := by omega
            have gt : (t : Int) ≤ 1000000000 := by omega
            have gf : (f : Int) ≤ 1000000000 := by omega
            have gx : (m : Int) * (t : Int) ≤ 1073741824000000000 := by rw [← Int.natCast_mul]; have := Nat.mul_le_mul (show m ≤ 1073741824 by omega) (show t ≤ 1000000000 by omega); omega
            have gy : 0 ≤ (m : Int) * (t : Int) := by rw [← Int.natCast_mul]; omega
            replace lb := Lib.hid lb
            try (replace c1 := Lib.hid c1)
            try (replace c4 := Lib.hid c4)
            try (replace c5 := Lib.hid c5)
            go_wp2_with fail
            refine (T.out _).mono ?_
            rintro _ v ⟨rfl, rfl⟩
            clear T
            go_wp2_with fail
            refine (QR.out _).mono ?_
            rintro _ v2 ⟨rfl, B⟩
            replace B := Lib.hid B
            clear QR
            go_wp2_with fail
            go_ret2
            try (replace c1 := c1.out)
            try (replace c4 := c4.out)
            try (replace c5 := c5.out)
            exact ⟨rv_ok hQ.out hW.out hPP.out hP.out hg.out (by rw [hfg.out]; rfl) hmm.out hff.out n2'.out (by omega) (got_pos (D := figD W P) (by rw [← hdd.out, lb.out]; exact z2) z1), B.out⟩
          have v0 : decide (1073741824 < (m : Int)) = false := decide_eq_false (by omega)
          have v1 : ((m : Int) == 1073741824) = true := beq_iff_eq.2 (by omega)
          have v2 : decide (0 < f) = true := decide_eq_true (by omega)
          try (replace c1 := Lib.hid c1)
          try (replace c4 := Lib.hid c4)
          try (replace c5 := Lib.hid c5)
          go_wp2_with fail
          refine (N1.out _).mono ?_
          rintro _ v ⟨rfl, rfl⟩
          clear N1
          go_wp2_with fail
          refine (N2.out _).mono ?_
          rintro _ v ⟨rfl, rfl⟩
          clear N2
          go_wp2_with fail
          go_ret2
          try (replace c1 := c1.out)
          try (replace c4 := c4.out)
          try (replace c5 := c5.out)
          exact ⟨rv_fit hQ.out hW.out hPP.out hP.out hg.out hmm.out hff.out n2'.out (by omega) (by rw [hfg.out]; rfl), Below.refl _ _⟩
        have v0 : decide (1073741824 < (m : Int)) = false := decide_eq_false (by omega)
        have v1 : ((m : Int) == 1073741824) = false := beq_eq_false_iff_ne.2 (by omega)
        try (replace c1 := Lib.hid c1)
        try (replace c4 := Lib.hid c4)
        try (replace c5 := Lib.hid c5)
        go_wp2_with fail
        refine (N1.out _).mono ?_
        rintro _ v ⟨rfl, rfl⟩
        clear N1
        go_wp2_with fail
        refine (N2.out _).mono ?_
        rintro _ v ⟨rfl, rfl⟩
        clear N2
        try (replace c1 := c1.out)
        try (replace c4 := c4.out)
        try (replace c5 := c5.out)
        have hD : m * 10 ^ 0 + f ≤ 1073741824 * 10 ^ 0 := dm_le hf.out (by omega)
        obtain ⟨z, z1, z2, QR⟩ := rquot_all (m * 10 ^ 0 + f) 0 (by omega) hD
        replace QR := Lib.hid QR
        have T := Lib.hid (fun u => rten_run 0 (by omega) u)
        unfold tenN at T
        have hf' := hf.out
        have t9 : 10 ^ 0 ≤ 10 ^ 9 := Nat.pow_le_pow_right (by decide) (by omega)
        rw [show (10 : Nat) ^ 9 = 1000000000 by decide] at t9
        have hdd : Hid (m * 10 ^ 0 + f = figD W P) := by show _ = _; rw [figD_is, hmm.out, hff.out, lb.out]
        replace lb := lb.out
        generalize 10 ^ 0 = t at *
        rw [show ((m * t + f : Nat) : Int) = (m : Int) * (t : Int) + (f : Int) by rw [Int.natCast_add, Int.natCast_mul]] at QR
        have gm : (m : Int) ≤ 1073741824 := by omega
        have gt : (t : Int) ≤ 1000000000 := by omega
        have gf : (f : Int) ≤ 1000000000 := by omega
        have gx : (m : Int) * (t : Int) ≤ 1073741824000000000 := by rw [← Int.natCast_mul]; have := Nat.mul_le_mul (show m ≤ 1073741824 by omega) (show t ≤ 1000000000 by omega); omega
        have gy : 0 ≤ (m : Int) * (t : Int) := by rw [← Int.natCast_mul]; omega
        replace lb := Lib.hid lb
        try (replace c1 := Lib.hid c1)
        try (replace c4 := Lib.hid c4)
        try (replace c5 := Lib.hid c5)
        go_wp2_with fail
        refine (T.out _).mono ?_
        rintro _ v ⟨rfl, rfl⟩
        clear T
        go_wp2_with fail
        refine (QR.out _).mono ?_
        rintro _ v2 ⟨rfl, B⟩
        replace B := Lib.hid B
        clear QR
        go_wp2_with fail
        go_ret2
        try (replace c1 := c1.out)
        try (replace c4 := c4.out)
        try (replace c5 := c5.out)
        exact ⟨rv_ok hQ.out hW.out hPP.out hP.out hg.out (by rw [hfg.out]; rfl) hmm.out hff.out n2'.out (by omega) (got_pos (D := figD W P) (by rw [← hdd.out, lb.out]; exact z2) z1), B.out⟩
end Go.Proofs.YtocnpcjpkieogaaGreatDoor
