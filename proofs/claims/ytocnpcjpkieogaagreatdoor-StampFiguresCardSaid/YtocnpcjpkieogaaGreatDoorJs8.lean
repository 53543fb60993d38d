/- Proved here: what the texts Sug prove, one behind the other. -/
import Derived.Test.YtocnpcjpkieogaaGreatDoorJs5
import Derived.Test.YtocnpcjpkieogaaGreatDoorJs7
import Derived.Deep.CutRange

namespace Go.Proofs.YtocnpcjpkieogaaGreatDoor
open Go.ChangeShapes Go.WideShapes Go.ChangeAt Go.RowKit


/-- the sign, the whole part -/
def sgL (neg : Bool) : List Int := if neg = true then [45] else []
def intL (S : List Int) (dp : Int) : List Int := if 0 < dp then S.take (min S.length dp.toNat) ++ zer (dp.toNat - min S.length dp.toNat) else [48]
def fracL (S : List Int) (dp : Int) (prec : Nat) : List Int :=
  if 0 < prec then [46] ++ zer (min prec (-dp).toNat) ++ (S.drop (dp + (min prec (-dp).toNat : Nat)).toNat).take (min (prec - min prec (-dp).toNat) (S.length - (dp + (min prec (-dp).toNat : Nat)).toNat)) ++ zer (prec - min prec (-dp).toNat - min (prec - min prec (-dp).toNat) (S.length - (dp + (min prec (-dp).toNat : Nat)).toNat)) else []
theorem intL_len (S : List Int) (dp : Int) (h : dp ≤ 12) : (intL S dp).length ≤ 12 := by
  unfold intL
  split
  · rw [List.length_append, List.length_take]; unfold zer; rw [List.length_replicate]; omega
  · decide
theorem sgL_len (b : Bool) : (sgL b).length ≤ 1 := by cases b <;> decide
set_option maxHeartbeats 4000000 in
set_option maxRecDepth 100000 in
theorem efg_run (w0 w : World) (a g c nd prec : Nat) (dp : Int) (neg : Bool) (S : List Int) (sv : Value) (hS : S.length = nd) (hp : prec ≤ 9) (hd1 : -9 ≤ dp) (hd2 : dp ≤ 12) (hc : nd ≤ c) (hc2 : c ≤ 800) (hsv : (dp ≤ 0 ∧ nd = 0) ∨ sv = .slice (some ⟨g, 0, none⟩) c c) (O : Out w0 a [] g S w) :
    Calls Tryz.prog 73 #[.slice (some ⟨a, 0, none⟩) 0 24, .bool neg, sv, .int .i64 dp, .int .i64 (nd : Int), .int .i64 (prec : Int), .int .u8 102, .bool false] w fun e w' =>
      ∃ M : List Int, e = .returned (.slice (some ⟨a, 0, none⟩) M.length 24) ∧ Out w0 a M g S w' ∧ M = sgL neg ++ intL S dp ++ fracL S dp prec := by
  have L0 : ([] : List Int).length = 0 := rfl
  replace O := Lib.hid O
  have g1 : (nd : Int) ≤ (c : Int) := by omega
  have g2 : (c : Int) ≤ 800 := by omega
  have g3 : (prec : Int) ≤ 9 := by omega
  replace hsv := Lib.hid hsv
  replace hS := Lib.hid hS
  go_enter Tryz.func73, Tryz.ntmps73
  go_upto_if 178 with fail
  go_cut [0] from 31 (fun s u => ∃ M : List Int, s = .slice (some ⟨a, 0, none⟩) M.length 24 ∧ Out w0 a M g S u ∧ M = sgL neg)
  case first =>
    obtain ⟨v0, cv⟩ := O.out.there 0 (by decide)
    have fw := O.out.warm 0
    have gin := O.out.gin
    have P1 := Lib.hid (O.out.push' (by decide) 45 5)
    have h1 : Hid (neg = true → [] ++ [45] = sgL neg) := fun h => by rw [h]; rfl
    have h2 : Hid (neg = false → [] = sgL neg) := fun h => by rw [h]; rfl
    go_wp2_with fail
    all_goals go_meet
    all_goals first | exact ⟨_, rfl, P1.out, h1.out (by assumption)⟩ | exact ⟨_, rfl, O.out, h2.out (by assumption)⟩
  case rest =>
    clear O L0
    obtain ⟨M, rfl, O, hM⟩ := hcut
    replace O := Lib.hid O
    have lm : M.length ≤ 1 := by rw [hM]; exact sgL_len neg
    replace hM := Lib.hid hM
    go_upto_if 183 with fail
    go_cut [0] from 31 (fun s u => ∃ M' : List Int, s = .slice (some ⟨a, 0, none⟩) M'.length 24 ∧ Out w0 a M' g S u ∧ M' = M ++ intL S dp)
    case first =>
      by_cases hd : 0 < dp
      · obtain ⟨d, rfl⟩ : ∃ d : Nat, dp = d := ⟨dp.toNat, by omega⟩
        have hsv2 : sv = .slice (some ⟨g, 0, none⟩) c c := by
          rcases hsv.out with h | h
          · omega
          · exact h
        subst hsv2
        have eM : Hid (M ++ intL S (d : Int) = M ++ S.take (min nd d) ++ zer (d - min nd d)) := by
          show _ = _
          unfold intL
          rw [if_pos hd, hS.out, Int.toNat_natCast, List.append_assoc]
        have hk0 : 0 < d := by omega
        obtain ⟨m, hm⟩ : ∃ m, m = min nd d := ⟨_, rfl⟩
        have em : min (nd : Int) (d : Int) = (m : Int) := by rw [hm]; omega
        rw [← hm] at eM
        have m1 : m ≤ nd := by omega
        have m2 : m ≤ d := by omega
        replace hm := Lib.hid hm
        have m3 : (m : Int) ≤ (c : Int) := by omega
        have d3 : (d : Int) ≤ 12 := by omega
        have l24 : M.length + d ≤ 23 := by omega
        go_wp2_with fail
        go_loopw [0, 191] (fun s iv wr => ∃ (k : Nat) (M' : List Int), k ≤ m ∧ iv = .int .i64 (k : Int) ∧ s = .slice (some ⟨a, 0, none⟩) M'.length 24 ∧ M' = M ++ S.take k ∧ Out w0 a M' g S wr) (fun _ iv _ => m - (intOf iv).toNat)
        case atStart => exact ⟨0, M, Nat.zero_le _, rfl, rfl, (List.append_nil _).symm, O.out⟩
        case round =>
          obtain ⟨k, M', hk, rfl, rfl, hM', O2⟩ := hrel
          have lM : M'.length = M.length + k := by rw [hM', List.length_append, List.length_take, hS.out]; omega
          replace hM' := Lib.hid hM'
          by_cases hlt : k < m
          · obtain ⟨v0, cv⟩ := O2.there M'.length (by omega)
            have fw := O2.warm M'.length
            have gin := O2.gin
            have cs := O2.src k (by rw [hS.out]; omega)
            have P1 := Lib.hid (O2.push' (by omega) (S.getD k 0) 5)
            have eM2 : Hid (M' ++ [S.getD k 0] = M ++ S.take (k + 1)) := by
              show _ = _
              rw [hM'.out, take_next (by rw [hS.out]; omega), List.append_assoc]
            generalize S.getD k 0 = x at *
            have l1 : M'.length + 1 ≤ 24 := by omega
            replace lM := Lib.hid lM
            clear O2
            go_wp2_with fail
            go_roundw
            case rel => exact ⟨k + 1, _, hlt, by go_num, by simp, eM2.out, P1.out⟩
            case measure => simp [intOf]; omega
          · obtain rfl : k = m := by omega
            replace O2 := Lib.hid O2
            replace lM := Lib.hid lM
            go_wp2_with fail
            obtain ⟨z, hz⟩ : ∃ z : Nat, z = d - k := ⟨_, rfl⟩
            have ez : (d : Int) - (k : Int) = (z : Int) := by omega
            try rw [ez]
            go_loopw [0, 203] (fun s iv wr => ∃ (j : Nat) (N : List Int), j ≤ z ∧ iv = .int .i64 (j : Int) ∧ s = .slice (some ⟨a, 0, none⟩) N.length 24 ∧ N = M' ++ zer j ∧ Out w0 a N g S wr) (fun _ iv _ => z - (intOf iv).toNat)
            case atStart => exact ⟨0, M', Nat.zero_le _, rfl, rfl, (List.append_nil _).symm, O2.out⟩
            case round =>
              obtain ⟨j, N, hj, rfl, rfl, hN, O3⟩ := hrel
              have lN : N.length = M'.length + j := by rw [hN, List.length_append]; simp [zer]
              replace hN := Lib.hid hN
              by_cases hlj : j < z
              · have := lM.out
                obtain ⟨v0, cv⟩ := O3.there N.length (by omega)
                have fw := O3.warm N.length
                have gin := O3.gin
                have P1 := Lib.hid (O3.push' (by omega) 48 5)
                have eM2 : Hid (N ++ [48] = M' ++ zer (j + 1)) := by
                  show _ = _
                  rw [hN.out, List.append_assoc]; unfold zer; rw [List.replicate_succ']
                have l1 : N.length + 1 ≤ 24 := by omega
                replace lN := Lib.hid lN
                clear O3 this
                go_wp2_with fail
                go_roundw
                case rel => exact ⟨j + 1, _, hlj, by go_num, by simp, eM2.out, P1.out⟩
                case measure => simp [intOf]; omega
              · obtain rfl : j = z := by omega
                replace O3 := Lib.hid O3
                replace lN := Lib.hid lN
                go_wp2_with fail
                go_meet
                case rel => exact ⟨N, rfl, O3.out, by rw [eM.out, hN.out, hM'.out, hz, List.append_assoc]⟩
      · obtain ⟨v0, cv⟩ := O.out.there M.length (by omega)
        have fw := O.out.warm M.length
        have gin := O.out.gin
        have P1 := Lib.hid (O.out.push' (by omega) 48 5)
        have eM : Hid (M ++ [48] = M ++ intL S dp) := by
          show _ = _
          unfold intL; rw [if_neg hd]
        have hd' : decide (0 < dp) = false := decide_eq_false hd
        go_wp2_with fail
        all_goals go_meet
        case rel => exact ⟨_, by simp, P1.out, eM.out⟩
    case rest =>
      clear O
      obtain ⟨M1, rfl, O, hM1⟩ := hcut
      have l1 : M1.length ≤ 13 := by
        have := intL_len S dp hd2
        rw [hM1, List.length_append]; omega
      replace O := Lib.hid O
      replace hM1 := Lib.hid hM1
      clear lm
      by_cases hp0 : prec = 0
      · subst hp0
        have e1 : Hid (M1 = sgL neg ++ intL S dp ++ fracL S dp 0) := by
          show _ = _
          rw [hM1.out, hM.out]; simp [fracL]
        go_wp2_with fail
        go_ret
        exact ⟨M1, rfl, O.out, e1.out⟩
      · obtain ⟨lz, hlz⟩ : ∃ lz : Nat, lz = min prec (-dp).toNat := ⟨_, rfl⟩
        obtain ⟨OV, hOV⟩ : ∃ OV : Int, dp + (lz : Int) = OV := ⟨_, rfl⟩
        obtain ⟨m, hm⟩ : ∃ m : Nat, m = min (prec - lz) (nd - OV.toNat) := ⟨_, rfl⟩
        obtain ⟨tz, htz⟩ : ∃ tz : Nat, tz = prec - lz - m := ⟨_, rfl⟩
        have eF : Hid (fracL S dp prec = [46] ++ zer lz ++ (S.drop OV.toNat).take m ++ zer tz) := by
          show _ = _
          unfold fracL
          rw [if_pos (by omega), ← hlz, hOV, hS.out, ← hm, ← htz]
        have q1 : min (prec : Int) (max 0 (-dp)) = (lz : Int) := by omega
        have q2 : min ((prec : Int) - (lz : Int)) (max 0 ((nd : Int) - OV)) = (m : Int) := by omega
        have q3 : max 0 ((prec : Int) - (lz : Int) - (m : Int)) = (tz : Int) := by omega
        have oo : Hid (0 < m → ∃ off : Nat, OV = off ∧ off + m ≤ nd) := fun h => ⟨OV.toNat, by omega, by omega⟩
        have b1 : (lz : Int) ≤ 9 := by omega
        have b2 : (m : Int) ≤ 9 := by omega
        have b3 : (tz : Int) ≤ 9 := by omega
        have b4 : -9 ≤ OV := by omega
        have b5 : OV ≤ 21 := by omega
        have b6 : 0 < (prec : Int) := by omega
        have b7 : Hid (lz + m + tz ≤ 9) := by show _ ≤ _; omega
        replace hlz := Lib.hid hlz
        replace hm := Lib.hid hm
        replace htz := Lib.hid htz
        obtain ⟨v0, cv⟩ := O.out.there M1.length (by omega)
        have fw := O.out.warm M1.length
        have gin := O.out.gin
        have P1 := O.out.push' (by omega) 46 5
        have l2 : M1.length + 1 ≤ 24 := by omega
        replace P1 := Lib.hid P1
        go_wp2_with fail
        go_loopw [0, 240] (fun s iv wr => ∃ (j : Nat) (N : List Int), j ≤ lz ∧ iv = .int .i64 (j : Int) ∧ s = .slice (some ⟨a, 0, none⟩) N.length 24 ∧ N = M1 ++ [46] ++ zer j ∧ Out w0 a N g S wr) (fun _ iv _ => lz - (intOf iv).toNat)
        case atStart => exact ⟨0, M1 ++ [46], Nat.zero_le _, rfl, by simp, (List.append_nil _).symm, P1.out⟩
        case round =>
          clear cv fw gin P1 O
          obtain ⟨j, N, hj, rfl, rfl, hN, O⟩ := hrel
          have lN : N.length = M1.length + 1 + j := by rw [hN]; simp only [zer, List.length_append, List.length_replicate, List.length_cons, List.length_nil]
          replace hN := Lib.hid hN
          by_cases hlj : j < lz
          · have := b7.out
            obtain ⟨v0, cv⟩ := O.there N.length (by omega)
            have fw := O.warm N.length
            have gin := O.gin
            have P1 := Lib.hid (O.push' (by omega) 48 5)
            have eM2 : Hid (N ++ [48] = M1 ++ [46] ++ zer (j + 1)) := by
              show _ = _
              rw [hN.out, List.append_assoc]; unfold zer; rw [List.replicate_succ']
            have l1 : N.length + 1 ≤ 24 := by omega
            replace lN := Lib.hid lN
            clear O this
            go_wp2_with fail
            go_roundw
            case rel => exact ⟨j + 1, _, hlj, by go_num, by simp, eM2.out, P1.out⟩
            case measure => simp [intOf]; omega
          · obtain rfl : j = lz := by omega
            replace O := Lib.hid O
            go_wp2_with fail
            go_loopw [0, 247] (fun s iv wr => ∃ (k : Nat) (N' : List Int), k ≤ m ∧ iv = .int .i64 (k : Int) ∧ s = .slice (some ⟨a, 0, none⟩) N'.length 24 ∧ N' = N ++ (S.drop OV.toNat).take k ∧ (S.drop OV.toNat).length ≥ m ∧ Out w0 a N' g S wr) (fun _ iv _ => m - (intOf iv).toNat)
            case atStart => exact ⟨0, N, Nat.zero_le _, rfl, rfl, (List.append_nil _).symm, by
              rw [List.length_drop, hS.out, hm.out]; omega, O.out⟩
            case round =>
              clear O
              obtain ⟨k, N', hk, rfl, rfl, hN', hdl, O⟩ := hrel
              have lN' : N'.length = N.length + k := by rw [hN', List.length_append, List.length_take]; omega
              by_cases hlk : k < m
              · obtain ⟨off, rfl, ho2⟩ := oo.out (by omega)
                rw [Int.toNat_natCast] at hN' hdl
                have := b7.out
                obtain ⟨v0, cv⟩ := O.there N'.length (by omega)
                have fw := O.warm N'.length
                have gin := O.gin
                have cs := O.src (off + k) (by rw [hS.out]; omega)
                have P1 := Lib.hid (O.push' (by omega) (S.getD (off + k) 0) 5)
                have eM2 : Hid (N' ++ [S.getD (off + k) 0] = N ++ (S.drop off).take (k + 1)) := by
                  show _ = _
                  rw [hN', take_next (by omega), List.append_assoc]
                  simp [List.getD]
                have o3 : (off : Int) + (k : Int) ≤ (c : Int) - 1 := by omega
                have hdl2 := Lib.hid hdl
                have hsv2 : sv = .slice (some ⟨g, 0, none⟩) c c := by
                  rcases hsv.out with h | h
                  · omega
                  · exact h
                subst hsv2
                generalize S.getD (off + k) 0 = x at *
                have l1 : N'.length + 1 ≤ 24 := by omega
                replace lN' := Lib.hid lN'
                replace hN' := Lib.hid hN'
                clear O this hdl
                go_wp2_with fail
                go_roundw
                case rel => exact ⟨k + 1, _, hlk, by go_num, by simp, by rw [Int.toNat_natCast]; exact eM2.out, by rw [Int.toNat_natCast]; exact hdl2.out, P1.out⟩
                case measure => simp [intOf]; omega
              · obtain rfl : k = m := by omega
                replace O := Lib.hid O
                replace hN' := Lib.hid hN'
                clear hdl
                go_wp2_with fail
                go_loopw [0, 261] (fun s iv wr => ∃ (j : Nat) (N2 : List Int), j ≤ tz ∧ iv = .int .i64 (j : Int) ∧ s = .slice (some ⟨a, 0, none⟩) N2.length 24 ∧ N2 = N' ++ zer j ∧ Out w0 a N2 g S wr) (fun _ iv _ => tz - (intOf iv).toNat)
                case atStart => exact ⟨0, N', Nat.zero_le _, rfl, rfl, (List.append_nil _).symm, O.out⟩
                case round =>
                  clear O
                  obtain ⟨i, N2, hi, rfl, rfl, hN2, O⟩ := hrel
                  have lN2 : N2.length = N'.length + i := by rw [hN2]; simp [zer]
                  replace hN2 := Lib.hid hN2
                  by_cases hlj : i < tz
                  · have := b7.out
                    obtain ⟨v0, cv⟩ := O.there N2.length (by omega)
                    have fw := O.warm N2.length
                    have gin := O.gin
                    have P1 := Lib.hid (O.push' (by omega) 48 5)
                    have eM2 : Hid (N2 ++ [48] = N' ++ zer (i + 1)) := by
                      show _ = _
                      rw [hN2.out, List.append_assoc]; unfold zer; rw [List.replicate_succ']
                    have l1 : N2.length + 1 ≤ 24 := by omega
                    replace lN2 := Lib.hid lN2
                    clear O this
                    go_wp2_with fail
                    go_roundw
                    case rel => exact ⟨i + 1, _, hlj, by go_num, by simp, eM2.out, P1.out⟩
                    case measure => simp [intOf]; omega
                  · obtain rfl : i = tz := by omega
                    replace O := Lib.hid O
                    replace lN2 := Lib.hid lN2
                    go_wp2_with fail
                    go_ret
                    exact ⟨N2, rfl, O.out, by rw [hN2.out, hN'.out, hN.out, eF.out, hM1.out, hM.out]; simp only [List.append_assoc]⟩
end Go.Proofs.YtocnpcjpkieogaaGreatDoor
