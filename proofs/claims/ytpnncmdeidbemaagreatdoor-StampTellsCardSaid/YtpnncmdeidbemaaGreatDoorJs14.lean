/- Proved here: what the texts Sqp prove, one behind the other. -/
import Derived.Test.YtpnncmdeidbemaaGreatDoorJs7
import Derived.Test.YtpnncmdeidbemaaGreatDoorJs9
import Derived.Test.YtpnncmdeidbemaaGreatDoorJs13

namespace Go.Proofs.YtpnncmdeidbemaaGreatDoor
open Go.ChangeShapes Go.WideShapes Go.ChangeAt Go.RowKit

theorem exK_move {P : Program} {ρ : Operand → Value} {o : Oper} {x : Operand} {v : Value} (w : World) (ho : o.op = .move x) (h : ρ x = v) : (execOp ρ o).run P w = .ok (.value v) w := by
  unfold execOp; rw [ho]; simp [h]
/-- the instant of a text and an error -/
def parV (L : List Int) : Value := if isSt L = true then fromV (stY L) (nf L 7 9) (nf L 10 12) (nf L 13 15) (nf L 16 18) (nf L 19 21) (nf L 22 26) else .tuple #[.int .i64 0, .int .i64 90]
theorem parV_no {L : List Int} (h : isSt L = false) : parV L = .tuple #[.int .i64 0, .int .i64 90] := if_neg (by rw [h]; decide)
theorem parV_yes {L : List Int} (h : isSt L = true) : parV L = fromV (stY L) (nf L 7 9) (nf L 10 12) (nf L 13 15) (nf L 16 18) (nf L 19 21) (nf L 22 26) := if_pos h
theorem byI_extract (s : ByteArray) (a b : Nat) : byI (s.extract a b) = pc (byI s) a b := by
  unfold byI pc
  rw [ByteArray.data_extract]
  simp [List.map_drop, List.map_take]
set_option maxRecDepth 100000 in
theorem rparse_len (s : ByteArray) (hs : s.size ≠ 26) (u : World) : Calls Tryz.prog 12 #[.string s] u fun e u' => e = .returned (parV (byI s)) ∧ Below u.heap.size u u' := by
  have h : isSt (byI s) = false := by
    rw [← Bool.not_eq_true]
    intro e
    have := (isSt_parts e).1
    rw [byI_len] at this
    exact hs this
  rw [parV_no h]
  have t : ((s.size : Int) != 26) = true := by simp; omega
  clear h hs
  go_enter Tryz.func12, Tryz.ntmps12
  go_wp2_with fail
  go_ret2
  exact ⟨rfl, Below.refl _ _⟩
theorem isSt_nod {L : List Int} (h : ¬ (digB (pc L 1 6) = true ∧ digB (pc L 7 9) = true ∧ digB (pc L 10 12) = true ∧ digB (pc L 13 15) = true ∧ digB (pc L 16 18) = true ∧ digB (pc L 19 21) = true ∧ digB (pc L 22 26) = true)) : isSt L = false := by
  rw [← Bool.not_eq_true]
  intro e
  obtain ⟨_, _, _, _, _, _, _, _, a, b, c, d, e, f, g, _⟩ := isSt_parts e
  exact h ⟨a, b, c, d, e, f, g⟩
theorem isSt_minus {L : List Int} (h : at_ L 0 = 45) (k : numI (pc L 1 6) 0 = 0) : isSt L = false := by
  rw [← Bool.not_eq_true]
  intro e
  obtain ⟨_, _, _, _, _, _, _, _, _, _, _, _, _, _, _, q⟩ := isSt_parts e
  exact q ⟨h, k⟩
theorem fromV_anyP (y m d h i s k : Int) : ∃ x e : Int, fromV y m d h i s k = .tuple #[.int .i64 x, .int .i64 e] := by
  unfold fromV
  split
  · exact ⟨_, _, rfl⟩
  · exact ⟨_, _, rfl⟩
theorem extract_size (s : ByteArray) (a b : Nat) (h : b ≤ s.size) : (s.extract a b).size = b - a := by
  rw [ByteArray.size_extract]; omega
theorem isSt_no {L : List Int} {i : Nat} {c : Int} (hc : (i = 6 ∧ c = 45) ∨ (i = 9 ∧ c = 45) ∨ (i = 12 ∧ c = 32) ∨ (i = 15 ∧ c = 58) ∨ (i = 18 ∧ c = 58) ∨ (i = 21 ∧ c = 46)) (h : at_ L i ≠ c) : isSt L = false := by
  rw [← Bool.not_eq_true]
  intro e
  obtain ⟨_, _, h6, h9, h12, h15, h18, h21, _⟩ := isSt_parts e
  rcases hc with ⟨rfl, rfl⟩ | ⟨rfl, rfl⟩ | ⟨rfl, rfl⟩ | ⟨rfl, rfl⟩ | ⟨rfl, rfl⟩ | ⟨rfl, rfl⟩
  · exact h h6
  · exact h h9
  · exact h h12
  · exact h h15
  · exact h h18
  · exact h h21
set_option maxHeartbeats 4000000 in
set_option maxRecDepth 100000 in
theorem rparse_t (s : ByteArray) (hs : s.size = 26) (u : World) : Calls Tryz.prog 12 #[.string s] u fun e u' => e = .returned (parV (byI s)) ∧ Below u.heap.size u u' := by
  have t : ((s.size : Int) != 26) = false := by simp; omega
  have l : 26 ≤ s.size := by omega
  replace hs := Lib.hid hs
  have bt : ∀ i (h : i < s.size), ((s[i].toNat : Nat) : Int) = at_ (byI s) i := fun i h => (byI_at s i h).symm
  obtain ⟨V, hV⟩ : ∃ V, V = parV (byI s) := ⟨_, rfl⟩
  rw [← hV]
  have bad : Hid (isSt (byI s) = false → V = .tuple #[.int .i64 0, .int .i64 90]) := fun h => by rw [hV]; exact parV_no h
  have b6 := bt 6 (by omega)
  have b9 := bt 9 (by omega)
  have b12 := bt 12 (by omega)
  have b15 := bt 15 (by omega)
  have b18 := bt 18 (by omega)
  have b21 := bt 21 (by omega)
  have b0 := bt 0 (by omega)
  have sg : ((s[0].toNat : Int) != 43) = false ∨ ((s[0].toNat : Int) != 43) = true ∧ ((s[0].toNat : Int) != 45) = false ∨ (((s[0].toNat : Int) != 43) = true ∧ ((s[0].toNat : Int) != 45) = true) := by
    cases h1 : ((s[0].toNat : Int) != 43)
    · exact .inl rfl
    · cases h2 : ((s[0].toNat : Int) != 45)
      · exact .inr (.inl ⟨rfl, rfl⟩)
      · exact .inr (.inr ⟨rfl, rfl⟩)
  by_cases hsg : at_ (byI s) 0 = 43 ∨ at_ (byI s) 0 = 45
  case neg =>
    have hv := Lib.hid (bad.out (by rw [← Bool.not_eq_true]; exact fun e => hsg (isSt_parts e).2.1))
    have s1 : ((s[0].toNat : Int) != 43) = true := by simp; omega
    have s2 : ((s[0].toNat : Int) != 45) = true := by simp; omega
    clear sg hsg bad bt b0 b6 b9 b12 b15 b18 b21 hV
    go_enter Tryz.func12, Tryz.ntmps12
    go_wp2_with fail
    go_ret2
    exact ⟨by rw [hv.out]; rfl, Below.refl _ _⟩
  by_cases q6 : at_ (byI s) 6 = 45
  case neg =>
    have hv := Lib.hid (bad.out (isSt_no (i := 6) (c := 45) (by decide) q6))
    have n6 : ((s[6].toNat : Int) != 45) = true := by simp; omega
    have sg2 : ((s[0].toNat : Int) != 43) = false ∨ (((s[0].toNat : Int) != 43) = true ∧ ((s[0].toNat : Int) != 45) = false) := by
      rcases sg with h | h | h
      · exact .inl h
      · exact .inr h
      · simp at h; omega
    clear sg hsg bad bt b0 b6 b9 b12 b15 b18 b21 hV q6
    rcases sg2 with s1 | ⟨s1, s2⟩
    all_goals
      go_enter Tryz.func12, Tryz.ntmps12
      go_wp2_with fail
      go_ret2
      exact ⟨by rw [hv.out]; rfl, Below.refl _ _⟩
  by_cases q9 : at_ (byI s) 9 = 45
  case neg =>
    have hv := Lib.hid (bad.out (isSt_no (i := 9) (c := 45) (by decide) q9))
    have n9 : ((s[9].toNat : Int) != 45) = true := by simp; omega
    have n6 : ((s[6].toNat : Int) != 45) = false := by simp; omega
    have sg2 : ((s[0].toNat : Int) != 43) = false ∨ (((s[0].toNat : Int) != 43) = true ∧ ((s[0].toNat : Int) != 45) = false) := by
      rcases sg with h | h | h
      · exact .inl h
      · exact .inr h
      · simp at h; omega
    clear sg hsg bad bt b0 b6 b9 b12 b15 b18 b21 hV q6 q9
    rcases sg2 with s1 | ⟨s1, s2⟩
    all_goals
      go_enter Tryz.func12, Tryz.ntmps12
      go_wp2_with fail
      go_ret2
      exact ⟨by rw [hv.out]; rfl, Below.refl _ _⟩
  by_cases q12 : at_ (byI s) 12 = 32
  case neg =>
    have hv := Lib.hid (bad.out (isSt_no (i := 12) (c := 32) (by decide) q12))
    have n12 : ((s[12].toNat : Int) != 32) = true := by simp; omega
    have n6 : ((s[6].toNat : Int) != 45) = false := by simp; omega
    have n9 : ((s[9].toNat : Int) != 45) = false := by simp; omega
    have sg2 : ((s[0].toNat : Int) != 43) = false ∨ (((s[0].toNat : Int) != 43) = true ∧ ((s[0].toNat : Int) != 45) = false) := by
      rcases sg with h | h | h
      · exact .inl h
      · exact .inr h
      · simp at h; omega
    clear sg hsg bad bt b0 b6 b9 b12 b15 b18 b21 hV q6 q9 q12
    rcases sg2 with s1 | ⟨s1, s2⟩
    all_goals
      go_enter Tryz.func12, Tryz.ntmps12
      go_wp2_with fail
      go_ret2
      exact ⟨by rw [hv.out]; rfl, Below.refl _ _⟩
  by_cases q15 : at_ (byI s) 15 = 58
  case neg =>
    have hv := Lib.hid (bad.out (isSt_no (i := 15) (c := 58) (by decide) q15))
    have n15 : ((s[15].toNat : Int) != 58) = true := by simp; omega
    have n6 : ((s[6].toNat : Int) != 45) = false := by simp; omega
    have n9 : ((s[9].toNat : Int) != 45) = false := by simp; omega
    have n12 : ((s[12].toNat : Int) != 32) = false := by simp; omega
    have sg2 : ((s[0].toNat : Int) != 43) = false ∨ (((s[0].toNat : Int) != 43) = true ∧ ((s[0].toNat : Int) != 45) = false) := by
      rcases sg with h | h | h
      · exact .inl h
      · exact .inr h
      · simp at h; omega
    clear sg hsg bad bt b0 b6 b9 b12 b15 b18 b21 hV q6 q9 q12 q15
    rcases sg2 with s1 | ⟨s1, s2⟩
    all_goals
      go_enter Tryz.func12, Tryz.ntmps12
      go_wp2_with fail
      go_ret2
      exact ⟨by rw [hv.out]; rfl, Below.refl _ _⟩
  by_cases q18 : at_ (byI s) 18 = 58
  case neg =>
    have hv := Lib.hid (bad.out (isSt_no (i := 18) (c := 58) (by decide) q18))
    have n18 : ((s[18].toNat : Int) != 58) = true := by simp; omega
    have n6 : ((s[6].toNat : Int) != 45) = false := by simp; omega
    have n9 : ((s[9].toNat : Int) != 45) = false := by simp; omega
    have n12 : ((s[12].toNat : Int) != 32) = false := by simp; omega
    have n15 : ((s[15].toNat : Int) != 58) = false := by simp; omega
    have sg2 : ((s[0].toNat : Int) != 43) = false ∨ (((s[0].toNat : Int) != 43) = true ∧ ((s[0].toNat : Int) != 45) = false) := by
      rcases sg with h | h | h
      · exact .inl h
      · exact .inr h
      · simp at h; omega
    clear sg hsg bad bt b0 b6 b9 b12 b15 b18 b21 hV q6 q9 q12 q15 q18
    rcases sg2 with s1 | ⟨s1, s2⟩
    all_goals
      go_enter Tryz.func12, Tryz.ntmps12
      go_wp2_with fail
      go_ret2
      exact ⟨by rw [hv.out]; rfl, Below.refl _ _⟩
  by_cases q21 : at_ (byI s) 21 = 46
  case neg =>
    have hv := Lib.hid (bad.out (isSt_no (i := 21) (c := 46) (by decide) q21))
    have n21 : ((s[21].toNat : Int) != 46) = true := by simp; omega
    have n6 : ((s[6].toNat : Int) != 45) = false := by simp; omega
    have n9 : ((s[9].toNat : Int) != 45) = false := by simp; omega
    have n12 : ((s[12].toNat : Int) != 32) = false := by simp; omega
    have n15 : ((s[15].toNat : Int) != 58) = false := by simp; omega
    have n18 : ((s[18].toNat : Int) != 58) = false := by simp; omega
    have sg2 : ((s[0].toNat : Int) != 43) = false ∨ (((s[0].toNat : Int) != 43) = true ∧ ((s[0].toNat : Int) != 45) = false) := by
      rcases sg with h | h | h
      · exact .inl h
      · exact .inr h
      · simp at h; omega
    clear sg hsg bad bt b0 b6 b9 b12 b15 b18 b21 hV q6 q9 q12 q15 q18 q21
    rcases sg2 with s1 | ⟨s1, s2⟩
    all_goals
      go_enter Tryz.func12, Tryz.ntmps12
      go_wp2_with fail
      go_ret2
      exact ⟨by rw [hv.out]; rfl, Below.refl _ _⟩
  have L26 : (byI s).length = 26 := by rw [byI_len]; exact hs.out
  obtain ⟨e1, he1⟩ : ∃ e, s.extract 1 6 = e := ⟨_, rfl⟩
  have p1 : byI e1 = pc (byI s) 1 6 := by rw [← he1, byI_extract]
  have z1 : e1.size ≤ 17 := by rw [← he1, ByteArray.size_extract]; have := hs.out; omega
  have N1 := Lib.hid (fun w => rnumber_run e1 z1 w)
  rw [p1] at N1
  obtain ⟨v1, hv1⟩ : ∃ v, v = valI (pc (byI s) 1 6) := ⟨_, rfl⟩
  rw [← hv1] at N1
  have SL1 : Hid (∀ W, (Instr.slice 9 (.string s) (some (.int .i64 1)) (some (.int .i64 6)) none).run Tryz.prog W = .ok (.string e1) W) := fun W => by rw [run_slice_string W 9 s .i64 .i64 1 6 Tryz.underlying9 (by omega) (by omega) (by omega)]; exact congrArg (fun x => Result.ok (Value.string x) W) he1
  replace he1 := Lib.hid he1
  replace hv1 := Lib.hid hv1
  clear p1 z1
  obtain ⟨e2, he2⟩ : ∃ e, s.extract 7 9 = e := ⟨_, rfl⟩
  have p2 : byI e2 = pc (byI s) 7 9 := by rw [← he2, byI_extract]
  have z2 : e2.size ≤ 17 := by rw [← he2, ByteArray.size_extract]; have := hs.out; omega
  have N2 := Lib.hid (fun w => rnumber_run e2 z2 w)
  rw [p2] at N2
  obtain ⟨v2, hv2⟩ : ∃ v, v = valI (pc (byI s) 7 9) := ⟨_, rfl⟩
  rw [← hv2] at N2
  have SL2 : Hid (∀ W, (Instr.slice 9 (.string s) (some (.int .i64 7)) (some (.int .i64 9)) none).run Tryz.prog W = .ok (.string e2) W) := fun W => by rw [run_slice_string W 9 s .i64 .i64 7 9 Tryz.underlying9 (by omega) (by omega) (by omega)]; exact congrArg (fun x => Result.ok (Value.string x) W) he2
  replace he2 := Lib.hid he2
  replace hv2 := Lib.hid hv2
  clear p2 z2
  obtain ⟨e3, he3⟩ : ∃ e, s.extract 10 12 = e := ⟨_, rfl⟩
  have p3 : byI e3 = pc (byI s) 10 12 := by rw [← he3, byI_extract]
  have z3 : e3.size ≤ 17 := by rw [← he3, ByteArray.size_extract]; have := hs.out; omega
  have N3 := Lib.hid (fun w => rnumber_run e3 z3 w)
  rw [p3] at N3
  obtain ⟨v3, hv3⟩ : ∃ v, v = valI (pc (byI s) 10 12) := ⟨_, rfl⟩
  rw [← hv3] at N3
  have SL3 : Hid (∀ W, (Instr.slice 9 (.string s) (some (.int .i64 10)) (some (.int .i64 12)) none).run Tryz.prog W = .ok (.string e3) W) := fun W => by rw [run_slice_string W 9 s .i64 .i64 10 12 Tryz.underlying9 (by omega) (by omega) (by omega)]; exact congrArg (fun x => Result.ok (Value.string x) W) he3
  replace he3 := Lib.hid he3
  replace hv3 := Lib.hid hv3
  clear p3 z3
  obtain ⟨e4, he4⟩ : ∃ e, s.extract 13 15 = e := ⟨_, rfl⟩
  have p4 : byI e4 = pc (byI s) 13 15 := by rw [← he4, byI_extract]
  have z4 : e4.size ≤ 17 := by rw [← he4, ByteArray.size_extract]; have := hs.out; omega
  have N4 := Lib.hid (fun w => rnumber_run e4 z4 w)
  rw [p4] at N4
  obtain ⟨v4, hv4⟩ : ∃ v, v = valI (pc (byI s) 13 15) := ⟨_, rfl⟩
  rw [← hv4] at N4
  have SL4 : Hid (∀ W, (Instr.slice 9 (.string s) (some (.int .i64 13)) (some (.int .i64 15)) none).run Tryz.prog W = .ok (.string e4) W) := fun W => by rw [run_slice_string W 9 s .i64 .i64 13 15 Tryz.underlying9 (by omega) (by omega) (by omega)]; exact congrArg (fun x => Result.ok (Value.string x) W) he4
  replace he4 := Lib.hid he4
  replace hv4 := Lib.hid hv4
  clear p4 z4
  obtain ⟨e5, he5⟩ : ∃ e, s.extract 16 18 = e := ⟨_, rfl⟩
  have p5 : byI e5 = pc (byI s) 16 18 := by rw [← he5, byI_extract]
  have z5 : e5.size ≤ 17 := by rw [← he5, ByteArray.size_extract]; have := hs.out; omega
  have N5 := Lib.hid (fun w => rnumber_run e5 z5 w)
  rw [p5] at N5
  obtain ⟨v5, hv5⟩ : ∃ v, v = valI (pc (byI s) 16 18) := ⟨_, rfl⟩
  rw [← hv5] at N5
  have SL5 : Hid (∀ W, (Instr.slice 9 (.string s) (some (.int .i64 16)) (some (.int .i64 18)) none).run Tryz.prog W = .ok (.string e5) W) := fun W => by rw [run_slice_string W 9 s .i64 .i64 16 18 Tryz.underlying9 (by omega) (by omega) (by omega)]; exact congrArg (fun x => Result.ok (Value.string x) W) he5
  replace he5 := Lib.hid he5
  replace hv5 := Lib.hid hv5
  clear p5 z5
  obtain ⟨e6, he6⟩ : ∃ e, s.extract 19 21 = e := ⟨_, rfl⟩
  have p6 : byI e6 = pc (byI s) 19 21 := by rw [← he6, byI_extract]
  have z6 : e6.size ≤ 17 := by rw [← he6, ByteArray.size_extract]; have := hs.out; omega
  have N6 := Lib.hid (fun w => rnumber_run e6 z6 w)
  rw [p6] at N6
  obtain ⟨v6, hv6⟩ : ∃ v, v = valI (pc (byI s) 19 21) := ⟨_, rfl⟩
  rw [← hv6] at N6
  have SL6 : Hid (∀ W, (Instr.slice 9 (.string s) (some (.int .i64 19)) (some (.int .i64 21)) none).run Tryz.prog W = .ok (.string e6) W) := fun W => by rw [run_slice_string W 9 s .i64 .i64 19 21 Tryz.underlying9 (by omega) (by omega) (by omega)]; exact congrArg (fun x => Result.ok (Value.string x) W) he6
  replace he6 := Lib.hid he6
  replace hv6 := Lib.hid hv6
  clear p6 z6
  obtain ⟨e7, he7⟩ : ∃ e, s.extract 22 s.size = e := ⟨_, rfl⟩
  have p7 : byI e7 = pc (byI s) 22 26 := by rw [← he7, byI_extract]; rw [hs.out]
  have z7 : e7.size ≤ 17 := by rw [← he7, ByteArray.size_extract]; have := hs.out; omega
  have N7 := Lib.hid (fun w => rnumber_run e7 z7 w)
  rw [p7] at N7
  obtain ⟨v7, hv7⟩ : ∃ v, v = valI (pc (byI s) 22 26) := ⟨_, rfl⟩
  rw [← hv7] at N7
  have SL7 : Hid (∀ W, (Instr.slice 9 (.string s) (some (.int .i64 22)) none none).run Tryz.prog W = .ok (.string e7) W) := fun W => by rw [run_slice_string_from_if W 9 s .i64 22 Tryz.underlying9, if_pos (by omega)]; exact congrArg (fun x => Result.ok (Value.string x) W) he7
  replace he7 := Lib.hid he7
  replace hv7 := Lib.hid hv7
  clear p7 z7
  have n6 : ((s[6].toNat : Int) != 45) = false := by simp; omega
  have n9 : ((s[9].toNat : Int) != 45) = false := by simp; omega
  have n12 : ((s[12].toNat : Int) != 32) = false := by simp; omega
  have n15 : ((s[15].toNat : Int) != 58) = false := by simp; omega
  have n18 : ((s[18].toNat : Int) != 58) = false := by simp; omega
  have n21 : ((s[21].toNat : Int) != 46) = false := by simp; omega
  have good : Hid (isSt (byI s) = true → V = fromV (stY (byI s)) (nf (byI s) 7 9) (nf (byI s) 10 12) (nf (byI s) 13 15) (nf (byI s) 16 18) (nf (byI s) 19 21) (nf (byI s) 22 26)) := fun h => by rw [hV]; exact parV_yes h
  have sg2 : (at_ (byI s) 0 = 43 ∧ ((s[0].toNat : Int) != 43) = false ∧ ((s[0].toNat : Int) == 45) = false) ∨ (at_ (byI s) 0 = 45 ∧ ((s[0].toNat : Int) != 43) = true ∧ ((s[0].toNat : Int) != 45) = false ∧ ((s[0].toNat : Int) == 45) = true) := by
    rcases hsg with h | h
    · exact .inl ⟨h, by simp; omega, by simp; omega⟩
    · exact .inr ⟨h, by simp; omega, by simp; omega, by simp; omega⟩
  have q0 : Hid (at_ (byI s) 6 = 45 ∧ at_ (byI s) 9 = 45 ∧ at_ (byI s) 12 = 32 ∧ at_ (byI s) 15 = 58 ∧ at_ (byI s) 18 = 58 ∧ at_ (byI s) 21 = 46) := ⟨q6, q9, q12, q15, q18, q21⟩
  clear sg hsg bt b0 b6 b9 b12 b15 b18 b21 hV q6 q9 q12 q15 q18 q21
  replace L26 := Lib.hid L26
  rcases sg2 with ⟨sa, s1, s3⟩ | ⟨sa, s1, s2, s3⟩
  · replace sa := Lib.hid sa
    go_enter Tryz.func12, Tryz.ntmps12
    go_wp2_with fail
    generalize hds : ([some 48, some 49, some 50, some 51, some 52, some 53, some 54, some 55, some 56, some 57, some 58, some 59, some 60, some 61, some 62, some 63, some 64, some 65, some 66, some 67, some 68, some 69, some 4, none] : List (Option Tmp)) = ds
    have hap : apartL ds = true := by rw [← hds]; decide
    replace hds := hds.symm
    refine wp_region_mk 22 23 (.cells #[.int .i64 0, .int .i64 0, .int .i64 0, .int .i64 0, .int .i64 0, .int .i64 0, .int .i64 0] 42) ((((((((u.drew.alloc (.cells #[.int .i64 0, .int .i64 0, .int .i64 0, .int .i64 0, .int .i64 0, .int .i64 0, .int .i64 0] 42)).setCell ⟨u.heap.size, 0, none⟩ (.int .i64 v1)).setCell ⟨u.heap.size, 1, none⟩ (.int .i64 v2)).setCell ⟨u.heap.size, 2, none⟩ (.int .i64 v3)).setCell ⟨u.heap.size, 3, none⟩ (.int .i64 v4)).setCell ⟨u.heap.size, 4, none⟩ (.int .i64 v5)).setCell ⟨u.heap.size, 5, none⟩ (.int .i64 v6)).setCell ⟨u.heap.size, 6, none⟩ (.int .i64 v7)) [.string s, .string e1, .int .i64 v1, .string s, .string e2, .int .i64 v2, .string s, .string e3, .int .i64 v3, .string s, .string e4, .int .i64 v4, .string s, .string e5, .int .i64 v5, .string s, .string e6, .int .i64 v6, .string s, .string e7, .int .i64 v7, .agg #[.int .i64 v1, .int .i64 v2, .int .i64 v3, .int .i64 v4, .int .i64 v5, .int .i64 v6, .int .i64 v7], undef, undef]
      ds (by kernel_rfl) (by rw [hds]; rfl) hap (by decide +kernel) (by decide +kernel) rfl (by decide) (by decide) (by decide +kernel) (by decide +kernel) (by decide) ?alloc ?step ?store ?fin
    case alloc =>
      intro L o w ho
      obtain rfl := Option.some.inj ho
      unfold execOp
      go_simp
    case step =>
      intro L W i o ho hia his hd
      have hi : i < 24 := (Array.getElem?_eq_some_iff.1 ho).1
      have : i = 0 ∨ i = 1 ∨ i = 2 ∨ i = 3 ∨ i = 4 ∨ i = 5 ∨ i = 6 ∨ i = 7 ∨ i = 8 ∨ i = 9 ∨ i = 10 ∨ i = 11 ∨ i = 12 ∨ i = 13 ∨ i = 14 ∨ i = 15 ∨ i = 16 ∨ i = 17 ∨ i = 18 ∨ i = 19 ∨ i = 20 ∨ i = 21 ∨ i = 22 ∨ i = 23 := by omega
      rcases this with rfl | rfl | rfl | rfl | rfl | rfl | rfl | rfl | rfl | rfl | rfl | rfl | rfl | rfl | rfl | rfl | rfl | rfl | rfl | rfl | rfl | rfl | rfl | rfl
      · -- 0
        obtain rfl := Option.some.inj ho
        exact .value (exK_move W rfl ((puts_old ds L _ (by rw [hds]; decide)).trans rfl))
      · -- 1
        obtain rfl := Option.some.inj ho
        refine .value ?_
        generalize hA : (puts ds L _).eval = ρ
        have hc : ∀ v, ρ (.const v) = v := fun v => by rw [← hA]; rfl
        have h0 : ρ (.tmp 48) = .string s := by rw [← hA]; exact (puts_get 0 ds L _ hap (by rw [hds]; rfl) (hd 0 (by decide +kernel) (by decide)) (show 48 < 124 by decide))
        have hsl := SL1.out W
        unfold execOp
        go_simp
      · -- 2
        obtain rfl := Option.some.inj ho
        refine .call 27 #[.string e1] ?_ (N1.out W)
        generalize hA : (puts ds L _).eval = ρ
        have hc : ∀ v, ρ (.const v) = v := fun v => by rw [← hA]; rfl
        have hg : ∀ g, ρ (.func g) = .func (.func g) #[] #[] := fun v => by rw [← hA]; rfl
        have h0 : ρ (.tmp 49) = .string e1 := by rw [← hA]; exact (puts_get 1 ds L _ hap (by rw [hds]; rfl) (hd 1 (by decide +kernel) (by decide)) (show 49 < 124 by decide))
        have hf := Tryz.func27
        unfold execOp
        go_simp
      · -- 3
        obtain rfl := Option.some.inj ho
        exact .value (exK_move W rfl ((puts_old ds L _ (by rw [hds]; decide)).trans rfl))
      · -- 4
        obtain rfl := Option.some.inj ho
        refine .value ?_
        generalize hA : (puts ds L _).eval = ρ
        have hc : ∀ v, ρ (.const v) = v := fun v => by rw [← hA]; rfl
        have h0 : ρ (.tmp 51) = .string s := by rw [← hA]; exact (puts_get 3 ds L _ hap (by rw [hds]; rfl) (hd 3 (by decide +kernel) (by decide)) (show 51 < 124 by decide))
        have hsl := SL2.out W
        unfold execOp
        go_simp
      · -- 5
        obtain rfl := Option.some.inj ho
        refine .call 27 #[.string e2] ?_ (N2.out W)
        generalize hA : (puts ds L _).eval = ρ
        have hc : ∀ v, ρ (.const v) = v := fun v => by rw [← hA]; rfl
        have hg : ∀ g, ρ (.func g) = .func (.func g) #[] #[] := fun v => by rw [← hA]; rfl
        have h0 : ρ (.tmp 52) = .string e2 := by rw [← hA]; exact (puts_get 4 ds L _ hap (by rw [hds]; rfl) (hd 4 (by decide +kernel) (by decide)) (show 52 < 124 by decide))
        have hf := Tryz.func27
        unfold execOp
        go_simp
      · -- 6
        obtain rfl := Option.some.inj ho
        exact .value (exK_move W rfl ((puts_old ds L _ (by rw [hds]; decide)).trans rfl))
      · -- 7
        obtain rfl := Option.some.inj ho
        refine .value ?_
        generalize hA : (puts ds L _).eval = ρ
        have hc : ∀ v, ρ (.const v) = v := fun v => by rw [← hA]; rfl
        have h0 : ρ (.tmp 54) = .string s := by rw [← hA]; exact (puts_get 6 ds L _ hap (by rw [hds]; rfl) (hd 6 (by decide +kernel) (by decide)) (show 54 < 124 by decide))
        have hsl := SL3.out W
        unfold execOp
        go_simp
      · -- 8
        obtain rfl := Option.some.inj ho
        refine .call 27 #[.string e3] ?_ (N3.out W)
        generalize hA : (puts ds L _).eval = ρ
        have hc : ∀ v, ρ (.const v) = v := fun v => by rw [← hA]; rfl
        have hg : ∀ g, ρ (.func g) = .func (.func g) #[] #[] := fun v => by rw [← hA]; rfl
        have h0 : ρ (.tmp 55) = .string e3 := by rw [← hA]; exact (puts_get 7 ds L _ hap (by rw [hds]; rfl) (hd 7 (by decide +kernel) (by decide)) (show 55 < 124 by decide))
        have hf := Tryz.func27
        unfold execOp
        go_simp
      · -- 9
        obtain rfl := Option.some.inj ho
        exact .value (exK_move W rfl ((puts_old ds L _ (by rw [hds]; decide)).trans rfl))
      · -- 10
        obtain rfl := Option.some.inj ho
        refine .value ?_
        generalize hA : (puts ds L _).eval = ρ
        have hc : ∀ v, ρ (.const v) = v := fun v => by rw [← hA]; rfl
        have h0 : ρ (.tmp 57) = .string s := by rw [← hA]; exact (puts_get 9 ds L _ hap (by rw [hds]; rfl) (hd 9 (by decide +kernel) (by decide)) (show 57 < 124 by decide))
        have hsl := SL4.out W
        unfold execOp
        go_simp
      · -- 11
        obtain rfl := Option.some.inj ho
        refine .call 27 #[.string e4] ?_ (N4.out W)
        generalize hA : (puts ds L _).eval = ρ
        have hc : ∀ v, ρ (.const v) = v := fun v => by rw [← hA]; rfl
        have hg : ∀ g, ρ (.func g) = .func (.func g) #[] #[] := fun v => by rw [← hA]; rfl
        have h0 : ρ (.tmp 58) = .string e4 := by rw [← hA]; exact (puts_get 10 ds L _ hap (by rw [hds]; rfl) (hd 10 (by decide +kernel) (by decide)) (show 58 < 124 by decide))
        have hf := Tryz.func27
        unfold execOp
        go_simp
      · -- 12
        obtain rfl := Option.some.inj ho
        exact .value (exK_move W rfl ((puts_old ds L _ (by rw [hds]; decide)).trans rfl))
      · -- 13
        obtain rfl := Option.some.inj ho
        refine .value ?_
        generalize hA : (puts ds L _).eval = ρ
        have hc : ∀ v, ρ (.const v) = v := fun v => by rw [← hA]; rfl
        have h0 : ρ (.tmp 60) = .string s := by rw [← hA]; exact (puts_get 12 ds L _ hap (by rw [hds]; rfl) (hd 12 (by decide +kernel) (by decide)) (show 60 < 124 by decide))
        have hsl := SL5.out W
        unfold execOp
        go_simp
      · -- 14
        obtain rfl := Option.some.inj ho
        refine .call 27 #[.string e5] ?_ (N5.out W)
        generalize hA : (puts ds L _).eval = ρ
        have hc : ∀ v, ρ (.const v) = v := fun v => by rw [← hA]; rfl
        have hg : ∀ g, ρ (.func g) = .func (.func g) #[] #[] := fun v => by rw [← hA]; rfl
        have h0 : ρ (.tmp 61) = .string e5 := by rw [← hA]; exact (puts_get 13 ds L _ hap (by rw [hds]; rfl) (hd 13 (by decide +kernel) (by decide)) (show 61 < 124 by decide))
        have hf := Tryz.func27
        unfold execOp
        go_simp
      · -- 15
        obtain rfl := Option.some.inj ho
        exact .value (exK_move W rfl ((puts_old ds L _ (by rw [hds]; decide)).trans rfl))
      · -- 16
        obtain rfl := Option.some.inj ho
        refine .value ?_
        generalize hA : (puts ds L _).eval = ρ
        have hc : ∀ v, ρ (.const v) = v := fun v => by rw [← hA]; rfl
        have h0 : ρ (.tmp 63) = .string s := by rw [← hA]; exact (puts_get 15 ds L _ hap (by rw [hds]; rfl) (hd 15 (by decide +kernel) (by decide)) (show 63 < 124 by decide))
        have hsl := SL6.out W
        unfold execOp
        go_simp
      · -- 17
        obtain rfl := Option.some.inj ho
        refine .call 27 #[.string e6] ?_ (N6.out W)
        generalize hA : (puts ds L _).eval = ρ
        have hc : ∀ v, ρ (.const v) = v := fun v => by rw [← hA]; rfl
        have hg : ∀ g, ρ (.func g) = .func (.func g) #[] #[] := fun v => by rw [← hA]; rfl
        have h0 : ρ (.tmp 64) = .string e6 := by rw [← hA]; exact (puts_get 16 ds L _ hap (by rw [hds]; rfl) (hd 16 (by decide +kernel) (by decide)) (show 64 < 124 by decide))
        have hf := Tryz.func27
        unfold execOp
        go_simp
      · -- 18
        obtain rfl := Option.some.inj ho
        exact .value (exK_move W rfl ((puts_old ds L _ (by rw [hds]; decide)).trans rfl))
      · -- 19
        obtain rfl := Option.some.inj ho
        refine .value ?_
        generalize hA : (puts ds L _).eval = ρ
        have hc : ∀ v, ρ (.const v) = v := fun v => by rw [← hA]; rfl
        have h0 : ρ (.tmp 66) = .string s := by rw [← hA]; exact (puts_get 18 ds L _ hap (by rw [hds]; rfl) (hd 18 (by decide +kernel) (by decide)) (show 66 < 124 by decide))
        have hsl := SL7.out W
        unfold execOp
        go_simp
      · -- 20
        obtain rfl := Option.some.inj ho
        refine .call 27 #[.string e7] ?_ (N7.out W)
        generalize hA : (puts ds L _).eval = ρ
        have hc : ∀ v, ρ (.const v) = v := fun v => by rw [← hA]; rfl
        have hg : ∀ g, ρ (.func g) = .func (.func g) #[] #[] := fun v => by rw [← hA]; rfl
        have h0 : ρ (.tmp 67) = .string e7 := by rw [← hA]; exact (puts_get 19 ds L _ hap (by rw [hds]; rfl) (hd 19 (by decide +kernel) (by decide)) (show 67 < 124 by decide))
        have hf := Tryz.func27
        unfold execOp
        go_simp
      · -- 21
        obtain rfl := Option.some.inj ho
        refine .value ?_
        generalize hA : (puts ds L _).eval = ρ
        have hc : ∀ v, ρ (.const v) = v := fun v => by rw [← hA]; rfl
        have h0 : ρ (.tmp 50) = .int .i64 v1 := by rw [← hA]; exact (puts_get 2 ds L _ hap (by rw [hds]; rfl) (hd 2 (by decide +kernel) (by decide)) (show 50 < 124 by decide))
        have h1 : ρ (.tmp 53) = .int .i64 v2 := by rw [← hA]; exact (puts_get 5 ds L _ hap (by rw [hds]; rfl) (hd 5 (by decide +kernel) (by decide)) (show 53 < 124 by decide))
        have h2 : ρ (.tmp 56) = .int .i64 v3 := by rw [← hA]; exact (puts_get 8 ds L _ hap (by rw [hds]; rfl) (hd 8 (by decide +kernel) (by decide)) (show 56 < 124 by decide))
        have h3 : ρ (.tmp 59) = .int .i64 v4 := by rw [← hA]; exact (puts_get 11 ds L _ hap (by rw [hds]; rfl) (hd 11 (by decide +kernel) (by decide)) (show 59 < 124 by decide))
        have h4 : ρ (.tmp 62) = .int .i64 v5 := by rw [← hA]; exact (puts_get 14 ds L _ hap (by rw [hds]; rfl) (hd 14 (by decide +kernel) (by decide)) (show 62 < 124 by decide))
        have h5 : ρ (.tmp 65) = .int .i64 v6 := by rw [← hA]; exact (puts_get 17 ds L _ hap (by rw [hds]; rfl) (hd 17 (by decide +kernel) (by decide)) (show 65 < 124 by decide))
        have h6 : ρ (.tmp 68) = .int .i64 v7 := by rw [← hA]; exact (puts_get 20 ds L _ hap (by rw [hds]; rfl) (hd 20 (by decide +kernel) (by decide)) (show 68 < 124 by decide))
        unfold execOp
        go_simp
      · -- 22
        exact absurd rfl hia
      · -- 23
        exact absurd rfl his
    case store =>
      intro L o ho hd hp
      obtain rfl := Option.some.inj ho
      refine ⟨?_, rfl⟩
      generalize hA : (puts ds L _).eval = ρ
      have h0 : ρ (.tmp 4) = .pointer (some ⟨u.heap.size, 0, none⟩) := by rw [← hA]; exact (puts_get 22 ds L _ hap (by rw [hds]; rfl) hp (show 4 < 124 by decide))
      have h1 : ρ (.tmp 69) = .agg #[.int .i64 v1, .int .i64 v2, .int .i64 v3, .int .i64 v4, .int .i64 v5, .int .i64 v6, .int .i64 v7] := by rw [← hA]; exact (puts_get 21 ds L _ hap (by rw [hds]; rfl) (hd 21 (by decide +kernel) (by decide)) (show 69 < 124 by decide))
      unfold execOp
      go_simp
    case fin =>
      rw [hds]
      clear hds hap
      simp only [List.map_cons, List.map_nil, List.set_cons_zero, List.set_cons_succ, puts, Act.put, List.setIfInBounds_toArray]
      generalize hW : (((((((u.drew.alloc (.cells #[.int .i64 0, .int .i64 0, .int .i64 0, .int .i64 0, .int .i64 0, .int .i64 0, .int .i64 0] 42)).setCell ⟨u.heap.size, 0, none⟩ (.int .i64 v1)).setCell ⟨u.heap.size, 1, none⟩ (.int .i64 v2)).setCell ⟨u.heap.size, 2, none⟩ (.int .i64 v3)).setCell ⟨u.heap.size, 3, none⟩ (.int .i64 v4)).setCell ⟨u.heap.size, 4, none⟩ (.int .i64 v5)).setCell ⟨u.heap.size, 5, none⟩ (.int .i64 v6)).setCell ⟨u.heap.size, 6, none⟩ (.int .i64 v7) = W2
      have k1 : W2.cell? ⟨u.heap.size, 0, none⟩ = some (.int .i64 v1) := by rw [← hW]; go_simp
      have k2 : W2.cell? ⟨u.heap.size, 1, none⟩ = some (.int .i64 v2) := by rw [← hW]; go_simp
      have k3 : W2.cell? ⟨u.heap.size, 2, none⟩ = some (.int .i64 v3) := by rw [← hW]; go_simp
      have k4 : W2.cell? ⟨u.heap.size, 3, none⟩ = some (.int .i64 v4) := by rw [← hW]; go_simp
      have k5 : W2.cell? ⟨u.heap.size, 4, none⟩ = some (.int .i64 v5) := by rw [← hW]; go_simp
      have k6 : W2.cell? ⟨u.heap.size, 5, none⟩ = some (.int .i64 v6) := by rw [← hW]; go_simp
      have k7 : W2.cell? ⟨u.heap.size, 6, none⟩ = some (.int .i64 v7) := by rw [← hW]; go_simp
      have kf : W2.frozen? ⟨u.heap.size, 0, none⟩ = false := by rw [← hW]; go_simp
      have B : Hid (Below u.heap.size u W2) := by
        show Below u.heap.size u W2
        rw [← hW]
        exact (((((((bl_drewN ((Below.refl u.heap.size u)) 1).alloc (Nat.le_refl _) _).setCell (Nat.le_refl _) _).setCell (Nat.le_refl _) _).setCell (Nat.le_refl _) _).setCell (Nat.le_refl _) _).setCell (Nat.le_refl _) _).setCell (Nat.le_refl _) _ |>.setCell (Nat.le_refl _) _
      clear hW N1 N2 N3 N4 N5 N6 N7
      by_cases c1 : digB (pc (byI s) 1 6) = true
      case neg =>
        have hv := Lib.hid (bad.out (isSt_nod (fun e => c1 e.1)))
        have w1 : decide (v1 < 0) = true := decide_eq_true (by rw [hv1.out]; unfold valI; rw [if_neg c1]; decide)
        clear c1
        go_wp2_with fail
        go_ret2
        exact ⟨by rw [hv.out]; rfl, B.out⟩
      have f1 : v1 = (nf (byI s) 1 6 : Int) := by rw [hv1.out]; unfold valI; rw [if_pos c1]; rfl
      have w1 : decide (v1 < 0) = false := decide_eq_false (by rw [f1]; omega)
      by_cases c2 : digB (pc (byI s) 7 9) = true
      case neg =>
        have hv := Lib.hid (bad.out (isSt_nod (fun e => c2 e.2.1)))
        have w2 : decide (v2 < 0) = true := decide_eq_true (by rw [hv2.out]; unfold valI; rw [if_neg c2]; decide)
        clear c1 c2 f1
        go_wp2_with fail
        go_ret2
        exact ⟨by rw [hv.out]; rfl, B.out⟩
      have f2 : v2 = (nf (byI s) 7 9 : Int) := by rw [hv2.out]; unfold valI; rw [if_pos c2]; rfl
      have w2 : decide (v2 < 0) = false := decide_eq_false (by rw [f2]; omega)
      by_cases c3 : digB (pc (byI s) 10 12) = true
      case neg =>
        have hv := Lib.hid (bad.out (isSt_nod (fun e => c3 e.2.2.1)))
        have w3 : decide (v3 < 0) = true := decide_eq_true (by rw [hv3.out]; unfold valI; rw [if_neg c3]; decide)
        clear c1 c2 f1 c3 f2
        go_wp2_with fail
        go_ret2
        exact ⟨by rw [hv.out]; rfl, B.out⟩
      have f3 : v3 = (nf (byI s) 10 12 : Int) := by rw [hv3.out]; unfold valI; rw [if_pos c3]; rfl
      have w3 : decide (v3 < 0) = false := decide_eq_false (by rw [f3]; omega)
      by_cases c4 : digB (pc (byI s) 13 15) = true
      case neg =>
        have hv := Lib.hid (bad.out (isSt_nod (fun e => c4 e.2.2.2.1)))
        have w4 : decide (v4 < 0) = true := decide_eq_true (by rw [hv4.out]; unfold valI; rw [if_neg c4]; decide)
        clear c1 c2 f1 c3 f2 c4 f3
        go_wp2_with fail
        go_ret2
        exact ⟨by rw [hv.out]; rfl, B.out⟩
      have f4 : v4 = (nf (byI s) 13 15 : Int) := by rw [hv4.out]; unfold valI; rw [if_pos c4]; rfl
      have w4 : decide (v4 < 0) = false := decide_eq_false (by rw [f4]; omega)
      by_cases c5 : digB (pc (byI s) 16 18) = true
      case neg =>
        have hv := Lib.hid (bad.out (isSt_nod (fun e => c5 e.2.2.2.2.1)))
        have w5 : decide (v5 < 0) = true := decide_eq_true (by rw [hv5.out]; unfold valI; rw [if_neg c5]; decide)
        clear c1 c2 f1 c3 f2 c4 f3 c5 f4
        go_wp2_with fail
        go_ret2
        exact ⟨by rw [hv.out]; rfl, B.out⟩
      have f5 : v5 = (nf (byI s) 16 18 : Int) := by rw [hv5.out]; unfold valI; rw [if_pos c5]; rfl
      have w5 : decide (v5 < 0) = false := decide_eq_false (by rw [f5]; omega)
      by_cases c6 : digB (pc (byI s) 19 21) = true
      case neg =>
        have hv := Lib.hid (bad.out (isSt_nod (fun e => c6 e.2.2.2.2.2.1)))
        have w6 : decide (v6 < 0) = true := decide_eq_true (by rw [hv6.out]; unfold valI; rw [if_neg c6]; decide)
        clear c1 c2 f1 c3 f2 c4 f3 c5 f4 c6 f5
        go_wp2_with fail
        go_ret2
        exact ⟨by rw [hv.out]; rfl, B.out⟩
      have f6 : v6 = (nf (byI s) 19 21 : Int) := by rw [hv6.out]; unfold valI; rw [if_pos c6]; rfl
      have w6 : decide (v6 < 0) = false := decide_eq_false (by rw [f6]; omega)
      by_cases c7 : digB (pc (byI s) 22 26) = true
      case neg =>
        have hv := Lib.hid (bad.out (isSt_nod (fun e => c7 e.2.2.2.2.2.2)))
        have w7 : decide (v7 < 0) = true := decide_eq_true (by rw [hv7.out]; unfold valI; rw [if_neg c7]; decide)
        clear c1 c2 f1 c3 f2 c4 f3 c5 f4 c6 f5 c7 f6
        go_wp2_with fail
        go_ret2
        exact ⟨by rw [hv.out]; rfl, B.out⟩
      have f7 : v7 = (nf (byI s) 22 26 : Int) := by rw [hv7.out]; unfold valI; rw [if_pos c7]; rfl
      have w7 : decide (v7 < 0) = false := decide_eq_false (by rw [f7]; omega)
      have hv : V = fromV v1 v2 v3 v4 v5 v6 v7 := by
        rw [good.out (isSt_mk L26.out (.inl sa.out) q0.out.1 q0.out.2.1 q0.out.2.2.1 q0.out.2.2.2.1 q0.out.2.2.2.2.1 q0.out.2.2.2.2.2 c1 c2 c3 c4 c5 c6 c7 (fun e => by have := sa.out; have := e.1; omega)), f1, f2, f3, f4, f5, f6, f7]
        have : stY (byI s) = (nf (byI s) 1 6 : Int) := by unfold stY; rw [if_neg (by have := sa.out; omega)]; rfl
        rw [this]
      obtain ⟨x, k, hx⟩ := fromV_anyP v1 v2 v3 v4 v5 v6 v7
      have R := Lib.hid (fun w => rfrom_run v1 v2 v3 v4 v5 v6 v7 w)
      rw [hx] at hv R
      unfold dAgg at R
      replace hv := Lib.hid hv
      clear c1 c2 c3 c4 c5 c6 c7 f1 f2 f3 f4 f5 f6 f7 hx
      go_wp2_with fail
      refine (R.out _).mono ?_
      rintro _ v9 ⟨rfl, hb⟩
      replace B := Lib.hid (B.out.trans (hb.mono B.out.size))
      clear R hb
      go_wp2_with fail
      go_ret2
      exact ⟨by rw [hv.out]; rfl, B.out⟩
  · replace sa := Lib.hid sa
    go_enter Tryz.func12, Tryz.ntmps12
    go_wp2_with fail
    generalize hds : ([some 48, some 49, some 50, some 51, some 52, some 53, some 54, some 55, some 56, some 57, some 58, some 59, some 60, some 61, some 62, some 63, some 64, some 65, some 66, some 67, some 68, some 69, some 4, none] : List (Option Tmp)) = ds
    have hap : apartL ds = true := by rw [← hds]; decide
    replace hds := hds.symm
    refine wp_region_mk 22 23 (.cells #[.int .i64 0, .int .i64 0, .int .i64 0, .int .i64 0, .int .i64 0, .int .i64 0, .int .i64 0] 42) ((((((((u.drew.alloc (.cells #[.int .i64 0, .int .i64 0, .int .i64 0, .int .i64 0, .int .i64 0, .int .i64 0, .int .i64 0] 42)).setCell ⟨u.heap.size, 0, none⟩ (.int .i64 v1)).setCell ⟨u.heap.size, 1, none⟩ (.int .i64 v2)).setCell ⟨u.heap.size, 2, none⟩ (.int .i64 v3)).setCell ⟨u.heap.size, 3, none⟩ (.int .i64 v4)).setCell ⟨u.heap.size, 4, none⟩ (.int .i64 v5)).setCell ⟨u.heap.size, 5, none⟩ (.int .i64 v6)).setCell ⟨u.heap.size, 6, none⟩ (.int .i64 v7)) [.string s, .string e1, .int .i64 v1, .string s, .string e2, .int .i64 v2, .string s, .string e3, .int .i64 v3, .string s, .string e4, .int .i64 v4, .string s, .string e5, .int .i64 v5, .string s, .string e6, .int .i64 v6, .string s, .string e7, .int .i64 v7, .agg #[.int .i64 v1, .int .i64 v2, .int .i64 v3, .int .i64 v4, .int .i64 v5, .int .i64 v6, .int .i64 v7], undef, undef]
      ds (by kernel_rfl) (by rw [hds]; rfl) hap (by decide +kernel) (by decide +kernel) rfl (by decide) (by decide) (by decide +kernel) (by decide +kernel) (by decide) ?alloc ?step ?store ?fin
    case alloc =>
      intro L o w ho
      obtain rfl := Option.some.inj ho
      unfold execOp
      go_simp
    case step =>
      intro L W i o ho hia his hd
      have hi : i < 24 := (Array.getElem?_eq_some_iff.1 ho).1
      have : i = 0 ∨ i = 1 ∨ i = 2 ∨ i = 3 ∨ i = 4 ∨ i = 5 ∨ i = 6 ∨ i = 7 ∨ i = 8 ∨ i = 9 ∨ i = 10 ∨ i = 11 ∨ i = 12 ∨ i = 13 ∨ i = 14 ∨ i = 15 ∨ i = 16 ∨ i = 17 ∨ i = 18 ∨ i = 19 ∨ i = 20 ∨ i = 21 ∨ i = 22 ∨ i = 23 := by omega
      rcases this with rfl | rfl | rfl | rfl | rfl | rfl | rfl | rfl | rfl | rfl | rfl | rfl | rfl | rfl | rfl | rfl | rfl | rfl | rfl | rfl | rfl | rfl | rfl | rfl
      · -- 0
        obtain rfl := Option.some.inj ho
        exact .value (exK_move W rfl ((puts_old ds L _ (by rw [hds]; decide)).trans rfl))
      · -- 1
        obtain rfl := Option.some.inj ho
        refine .value ?_
        generalize hA : (puts ds L _).eval = ρ
        have hc : ∀ v, ρ (.const v) = v := fun v => by rw [← hA]; rfl
        have h0 : ρ (.tmp 48) = .string s := by rw [← hA]; exact (puts_get 0 ds L _ hap (by rw [hds]; rfl) (hd 0 (by decide +kernel) (by decide)) (show 48 < 124 by decide))
        have hsl := SL1.out W
        unfold execOp
        go_simp
      · -- 2
        obtain rfl := Option.some.inj ho
        refine .call 27 #[.string e1] ?_ (N1.out W)
        generalize hA : (puts ds L _).eval = ρ
        have hc : ∀ v, ρ (.const v) = v := fun v => by rw [← hA]; rfl
        have hg : ∀ g, ρ (.func g) = .func (.func g) #[] #[] := fun v => by rw [← hA]; rfl
        have h0 : ρ (.tmp 49) = .string e1 := by rw [← hA]; exact (puts_get 1 ds L _ hap (by rw [hds]; rfl) (hd 1 (by decide +kernel) (by decide)) (show 49 < 124 by decide))
        have hf := Tryz.func27
        unfold execOp
        go_simp
      · -- 3
        obtain rfl := Option.some.inj ho
        exact .value (exK_move W rfl ((puts_old ds L _ (by rw [hds]; decide)).trans rfl))
      · -- 4
        obtain rfl := Option.some.inj ho
        refine .value ?_
        generalize hA : (puts ds L _).eval = ρ
        have hc : ∀ v, ρ (.const v) = v := fun v => by rw [← hA]; rfl
        have h0 : ρ (.tmp 51) = .string s := by rw [← hA]; exact (puts_get 3 ds L _ hap (by rw [hds]; rfl) (hd 3 (by decide +kernel) (by decide)) (show 51 < 124 by decide))
        have hsl := SL2.out W
        unfold execOp
        go_simp
      · -- 5
        obtain rfl := Option.some.inj ho
        refine .call 27 #[.string e2] ?_ (N2.out W)
        generalize hA : (puts ds L _).eval = ρ
        have hc : ∀ v, ρ (.const v) = v := fun v => by rw [← hA]; rfl
        have hg : ∀ g, ρ (.func g) = .func (.func g) #[] #[] := fun v => by rw [← hA]; rfl
        have h0 : ρ (.tmp 52) = .string e2 := by rw [← hA]; exact (puts_get 4 ds L _ hap (by rw [hds]; rfl) (hd 4 (by decide +kernel) (by decide)) (show 52 < 124 by decide))
        have hf := Tryz.func27
        unfold execOp
        go_simp
      · -- 6
        obtain rfl := Option.some.inj ho
        exact .value (exK_move W rfl ((puts_old ds L _ (by rw [hds]; decide)).trans rfl))
      · -- 7
        obtain rfl := Option.some.inj ho
        refine .value ?_
        generalize hA : (puts ds L _).eval = ρ
        have hc : ∀ v, ρ (.const v) = v := fun v => by rw [← hA]; rfl
        have h0 : ρ (.tmp 54) = .string s := by rw [← hA]; exact (puts_get 6 ds L _ hap (by rw [hds]; rfl) (hd 6 (by decide +kernel) (by decide)) (show 54 < 124 by decide))
        have hsl := SL3.out W
        unfold execOp
        go_simp
      · -- 8
        obtain rfl := Option.some.inj ho
        refine .call 27 #[.string e3] ?_ (N3.out W)
        generalize hA : (puts ds L _).eval = ρ
        have hc : ∀ v, ρ (.const v) = v := fun v => by rw [← hA]; rfl
        have hg : ∀ g, ρ (.func g) = .func (.func g) #[] #[] := fun v => by rw [← hA]; rfl
        have h0 : ρ (.tmp 55) = .string e3 := by rw [← hA]; exact (puts_get 7 ds L _ hap (by rw [hds]; rfl) (hd 7 (by decide +kernel) (by decide)) (show 55 < 124 by decide))
        have hf := Tryz.func27
        unfold execOp
        go_simp
      · -- 9
        obtain rfl := Option.some.inj ho
        exact .value (exK_move W rfl ((puts_old ds L _ (by rw [hds]; decide)).trans rfl))
      · -- 10
        obtain rfl := Option.some.inj ho
        refine .value ?_
        generalize hA : (puts ds L _).eval = ρ
        have hc : ∀ v, ρ (.const v) = v := fun v => by rw [← hA]; rfl
        have h0 : ρ (.tmp 57) = .string s := by rw [← hA]; exact (puts_get 9 ds L _ hap (by rw [hds]; rfl) (hd 9 (by decide +kernel) (by decide)) (show 57 < 124 by decide))
        have hsl := SL4.out W
        unfold execOp
        go_simp
      · -- 11
        obtain rfl := Option.some.inj ho
        refine .call 27 #[.string e4] ?_ (N4.out W)
        generalize hA : (puts ds L _).eval = ρ
        have hc : ∀ v, ρ (.const v) = v := fun v => by rw [← hA]; rfl
        have hg : ∀ g, ρ (.func g) = .func (.func g) #[] #[] := fun v => by rw [← hA]; rfl
        have h0 : ρ (.tmp 58) = .string e4 := by rw [← hA]; exact (puts_get 10 ds L _ hap (by rw [hds]; rfl) (hd 10 (by decide +kernel) (by decide)) (show 58 < 124 by decide))
        have hf := Tryz.func27
        unfold execOp
        go_simp
      · -- 12
        obtain rfl := Option.some.inj ho
        exact .value (exK_move W rfl ((puts_old ds L _ (by rw [hds]; decide)).trans rfl))
      · -- 13
        obtain rfl := Option.some.inj ho
        refine .value ?_
        generalize hA : (puts ds L _).eval = ρ
        have hc : ∀ v, ρ (.const v) = v := fun v => by rw [← hA]; rfl
        have h0 : ρ (.tmp 60) = .string s := by rw [← hA]; exact (puts_get 12 ds L _ hap (by rw [hds]; rfl) (hd 12 (by decide +kernel) (by decide)) (show 60 < 124 by decide))
        have hsl := SL5.out W
        unfold execOp
        go_simp
      · -- 14
        obtain rfl := Option.some.inj ho
        refine .call 27 #[.string e5] ?_ (N5.out W)
        generalize hA : (puts ds L _).eval = ρ
        have hc : ∀ v, ρ (.const v) = v := fun v => by rw [← hA]; rfl
        have hg : ∀ g, ρ (.func g) = .func (.func g) #[] #[] := fun v => by rw [← hA]; rfl
        have h0 : ρ (.tmp 61) = .string e5 := by rw [← hA]; exact (puts_get 13 ds L _ hap (by rw [hds]; rfl) (hd 13 (by decide +kernel) (by decide)) (show 61 < 124 by decide))
        have hf := Tryz.func27
        unfold execOp
        go_simp
      · -- 15
        obtain rfl := Option.some.inj ho
        exact .value (exK_move W rfl ((puts_old ds L _ (by rw [hds]; decide)).trans rfl))
      · -- 16
        obtain rfl := Option.some.inj ho
        refine .value ?_
        generalize hA : (puts ds L _).eval = ρ
        have hc : ∀ v, ρ (.const v) = v := fun v => by rw [← hA]; rfl
        have h0 : ρ (.tmp 63) = .string s := by rw [← hA]; exact (puts_get 15 ds L _ hap (by rw [hds]; rfl) (hd 15 (by decide +kernel) (by decide)) (show 63 < 124 by decide))
        have hsl := SL6.out W
        unfold execOp
        go_simp
      · -- 17
        obtain rfl := Option.some.inj ho
        refine .call 27 #[.string e6] ?_ (N6.out W)
        generalize hA : (puts ds L _).eval = ρ
        have hc : ∀ v, ρ (.const v) = v := fun v => by rw [← hA]; rfl
        have hg : ∀ g, ρ (.func g) = .func (.func g) #[] #[] := fun v => by rw [← hA]; rfl
        have h0 : ρ (.tmp 64) = .string e6 := by rw [← hA]; exact (puts_get 16 ds L _ hap (by rw [hds]; rfl) (hd 16 (by decide +kernel) (by decide)) (show 64 < 124 by decide))
        have hf := Tryz.func27
        unfold execOp
        go_simp
      · -- 18
        obtain rfl := Option.some.inj ho
        exact .value (exK_move W rfl ((puts_old ds L _ (by rw [hds]; decide)).trans rfl))
      · -- 19
        obtain rfl := Option.some.inj ho
        refine .value ?_
        generalize hA : (puts ds L _).eval = ρ
        have hc : ∀ v, ρ (.const v) = v := fun v => by rw [← hA]; rfl
        have h0 : ρ (.tmp 66) = .string s := by rw [← hA]; exact (puts_get 18 ds L _ hap (by rw [hds]; rfl) (hd 18 (by decide +kernel) (by decide)) (show 66 < 124 by decide))
        have hsl := SL7.out W
        unfold execOp
        go_simp
      · -- 20
        obtain rfl := Option.some.inj ho
        refine .call 27 #[.string e7] ?_ (N7.out W)
        generalize hA : (puts ds L _).eval = ρ
        have hc : ∀ v, ρ (.const v) = v := fun v => by rw [← hA]; rfl
        have hg : ∀ g, ρ (.func g) = .func (.func g) #[] #[] := fun v => by rw [← hA]; rfl
        have h0 : ρ (.tmp 67) = .string e7 := by rw [← hA]; exact (puts_get 19 ds L _ hap (by rw [hds]; rfl) (hd 19 (by decide +kernel) (by decide)) (show 67 < 124 by decide))
        have hf := Tryz.func27
        unfold execOp
        go_simp
      · -- 21
        obtain rfl := Option.some.inj ho
        refine .value ?_
        generalize hA : (puts ds L _).eval = ρ
        have hc : ∀ v, ρ (.const v) = v := fun v => by rw [← hA]; rfl
        have h0 : ρ (.tmp 50) = .int .i64 v1 := by rw [← hA]; exact (puts_get 2 ds L _ hap (by rw [hds]; rfl) (hd 2 (by decide +kernel) (by decide)) (show 50 < 124 by decide))
        have h1 : ρ (.tmp 53) = .int .i64 v2 := by rw [← hA]; exact (puts_get 5 ds L _ hap (by rw [hds]; rfl) (hd 5 (by decide +kernel) (by decide)) (show 53 < 124 by decide))
        have h2 : ρ (.tmp 56) = .int .i64 v3 := by rw [← hA]; exact (puts_get 8 ds L _ hap (by rw [hds]; rfl) (hd 8 (by decide +kernel) (by decide)) (show 56 < 124 by decide))
        have h3 : ρ (.tmp 59) = .int .i64 v4 := by rw [← hA]; exact (puts_get 11 ds L _ hap (by rw [hds]; rfl) (hd 11 (by decide +kernel) (by decide)) (show 59 < 124 by decide))
        have h4 : ρ (.tmp 62) = .int .i64 v5 := by rw [← hA]; exact (puts_get 14 ds L _ hap (by rw [hds]; rfl) (hd 14 (by decide +kernel) (by decide)) (show 62 < 124 by decide))
        have h5 : ρ (.tmp 65) = .int .i64 v6 := by rw [← hA]; exact (puts_get 17 ds L _ hap (by rw [hds]; rfl) (hd 17 (by decide +kernel) (by decide)) (show 65 < 124 by decide))
        have h6 : ρ (.tmp 68) = .int .i64 v7 := by rw [← hA]; exact (puts_get 20 ds L _ hap (by rw [hds]; rfl) (hd 20 (by decide +kernel) (by decide)) (show 68 < 124 by decide))
        unfold execOp
        go_simp
      · -- 22
        exact absurd rfl hia
      · -- 23
        exact absurd rfl his
    case store =>
      intro L o ho hd hp
      obtain rfl := Option.some.inj ho
      refine ⟨?_, rfl⟩
      generalize hA : (puts ds L _).eval = ρ
      have h0 : ρ (.tmp 4) = .pointer (some ⟨u.heap.size, 0, none⟩) := by rw [← hA]; exact (puts_get 22 ds L _ hap (by rw [hds]; rfl) hp (show 4 < 124 by decide))
      have h1 : ρ (.tmp 69) = .agg #[.int .i64 v1, .int .i64 v2, .int .i64 v3, .int .i64 v4, .int .i64 v5, .int .i64 v6, .int .i64 v7] := by rw [← hA]; exact (puts_get 21 ds L _ hap (by rw [hds]; rfl) (hd 21 (by decide +kernel) (by decide)) (show 69 < 124 by decide))
      unfold execOp
      go_simp
    case fin =>
      rw [hds]
      clear hds hap
      simp only [List.map_cons, List.map_nil, List.set_cons_zero, List.set_cons_succ, puts, Act.put, List.setIfInBounds_toArray]
      generalize hW : (((((((u.drew.alloc (.cells #[.int .i64 0, .int .i64 0, .int .i64 0, .int .i64 0, .int .i64 0, .int .i64 0, .int .i64 0] 42)).setCell ⟨u.heap.size, 0, none⟩ (.int .i64 v1)).setCell ⟨u.heap.size, 1, none⟩ (.int .i64 v2)).setCell ⟨u.heap.size, 2, none⟩ (.int .i64 v3)).setCell ⟨u.heap.size, 3, none⟩ (.int .i64 v4)).setCell ⟨u.heap.size, 4, none⟩ (.int .i64 v5)).setCell ⟨u.heap.size, 5, none⟩ (.int .i64 v6)).setCell ⟨u.heap.size, 6, none⟩ (.int .i64 v7) = W2
      have k1 : W2.cell? ⟨u.heap.size, 0, none⟩ = some (.int .i64 v1) := by rw [← hW]; go_simp
      have k2 : W2.cell? ⟨u.heap.size, 1, none⟩ = some (.int .i64 v2) := by rw [← hW]; go_simp
      have k3 : W2.cell? ⟨u.heap.size, 2, none⟩ = some (.int .i64 v3) := by rw [← hW]; go_simp
      have k4 : W2.cell? ⟨u.heap.size, 3, none⟩ = some (.int .i64 v4) := by rw [← hW]; go_simp
      have k5 : W2.cell? ⟨u.heap.size, 4, none⟩ = some (.int .i64 v5) := by rw [← hW]; go_simp
      have k6 : W2.cell? ⟨u.heap.size, 5, none⟩ = some (.int .i64 v6) := by rw [← hW]; go_simp
      have k7 : W2.cell? ⟨u.heap.size, 6, none⟩ = some (.int .i64 v7) := by rw [← hW]; go_simp
      have kf : W2.frozen? ⟨u.heap.size, 0, none⟩ = false := by rw [← hW]; go_simp
      have B : Hid (Below u.heap.size u W2) := by
        show Below u.heap.size u W2
        rw [← hW]
        exact (((((((bl_drewN ((Below.refl u.heap.size u)) 1).alloc (Nat.le_refl _) _).setCell (Nat.le_refl _) _).setCell (Nat.le_refl _) _).setCell (Nat.le_refl _) _).setCell (Nat.le_refl _) _).setCell (Nat.le_refl _) _).setCell (Nat.le_refl _) _ |>.setCell (Nat.le_refl _) _
      clear hW N1 N2 N3 N4 N5 N6 N7
      by_cases c1 : digB (pc (byI s) 1 6) = true
      case neg =>
        have hv := Lib.hid (bad.out (isSt_nod (fun e => c1 e.1)))
        have w1 : decide (v1 < 0) = true := decide_eq_true (by rw [hv1.out]; unfold valI; rw [if_neg c1]; decide)
        clear c1
        go_wp2_with fail
        go_ret2
        exact ⟨by rw [hv.out]; rfl, B.out⟩
      have f1 : v1 = (nf (byI s) 1 6 : Int) := by rw [hv1.out]; unfold valI; rw [if_pos c1]; rfl
      have w1 : decide (v1 < 0) = false := decide_eq_false (by rw [f1]; omega)
      by_cases c2 : digB (pc (byI s) 7 9) = true
      case neg =>
        have hv := Lib.hid (bad.out (isSt_nod (fun e => c2 e.2.1)))
        have w2 : decide (v2 < 0) = true := decide_eq_true (by rw [hv2.out]; unfold valI; rw [if_neg c2]; decide)
        clear c1 c2 f1
        go_wp2_with fail
        go_ret2
        exact ⟨by rw [hv.out]; rfl, B.out⟩
      have f2 : v2 = (nf (byI s) 7 9 : Int) := by rw [hv2.out]; unfold valI; rw [if_pos c2]; rfl
      have w2 : decide (v2 < 0) = false := decide_eq_false (by rw [f2]; omega)
      by_cases c3 : digB (pc (byI s) 10 12) = true
      case neg =>
        have hv := Lib.hid (bad.out (isSt_nod (fun e => c3 e.2.2.1)))
        have w3 : decide (v3 < 0) = true := decide_eq_true (by rw [hv3.out]; unfold valI; rw [if_neg c3]; decide)
        clear c1 c2 f1 c3 f2
        go_wp2_with fail
        go_ret2
        exact ⟨by rw [hv.out]; rfl, B.out⟩
      have f3 : v3 = (nf (byI s) 10 12 : Int) := by rw [hv3.out]; unfold valI; rw [if_pos c3]; rfl
      have w3 : decide (v3 < 0) = false := decide_eq_false (by rw [f3]; omega)
      by_cases c4 : digB (pc (byI s) 13 15) = true
      case neg =>
        have hv := Lib.hid (bad.out (isSt_nod (fun e => c4 e.2.2.2.1)))
        have w4 : decide (v4 < 0) = true := decide_eq_true (by rw [hv4.out]; unfold valI; rw [if_neg c4]; decide)
        clear c1 c2 f1 c3 f2 c4 f3
        go_wp2_with fail
        go_ret2
        exact ⟨by rw [hv.out]; rfl, B.out⟩
      have f4 : v4 = (nf (byI s) 13 15 : Int) := by rw [hv4.out]; unfold valI; rw [if_pos c4]; rfl
      have w4 : decide (v4 < 0) = false := decide_eq_false (by rw [f4]; omega)
      by_cases c5 : digB (pc (byI s) 16 18) = true
      case neg =>
        have hv := Lib.hid (bad.out (isSt_nod (fun e => c5 e.2.2.2.2.1)))
        have w5 : decide (v5 < 0) = true := decide_eq_true (by rw [hv5.out]; unfold valI; rw [if_neg c5]; decide)
        clear c1 c2 f1 c3 f2 c4 f3 c5 f4
        go_wp2_with fail
        go_ret2
        exact ⟨by rw [hv.out]; rfl, B.out⟩
      have f5 : v5 = (nf (byI s) 16 18 : Int) := by rw [hv5.out]; unfold valI; rw [if_pos c5]; rfl
      have w5 : decide (v5 < 0) = false := decide_eq_false (by rw [f5]; omega)
      by_cases c6 : digB (pc (byI s) 19 21) = true
      case neg =>
        have hv := Lib.hid (bad.out (isSt_nod (fun e => c6 e.2.2.2.2.2.1)))
        have w6 : decide (v6 < 0) = true := decide_eq_true (by rw [hv6.out]; unfold valI; rw [if_neg c6]; decide)
        clear c1 c2 f1 c3 f2 c4 f3 c5 f4 c6 f5
        go_wp2_with fail
        go_ret2
        exact ⟨by rw [hv.out]; rfl, B.out⟩
      have f6 : v6 = (nf (byI s) 19 21 : Int) := by rw [hv6.out]; unfold valI; rw [if_pos c6]; rfl
      have w6 : decide (v6 < 0) = false := decide_eq_false (by rw [f6]; omega)
      by_cases c7 : digB (pc (byI s) 22 26) = true
      case neg =>
        have hv := Lib.hid (bad.out (isSt_nod (fun e => c7 e.2.2.2.2.2.2)))
        have w7 : decide (v7 < 0) = true := decide_eq_true (by rw [hv7.out]; unfold valI; rw [if_neg c7]; decide)
        clear c1 c2 f1 c3 f2 c4 f3 c5 f4 c6 f5 c7 f6
        go_wp2_with fail
        go_ret2
        exact ⟨by rw [hv.out]; rfl, B.out⟩
      have f7 : v7 = (nf (byI s) 22 26 : Int) := by rw [hv7.out]; unfold valI; rw [if_pos c7]; rfl
      have w7 : decide (v7 < 0) = false := decide_eq_false (by rw [f7]; omega)
      have n1 : 0 ≤ v1 ∧ v1 < 100000000000000000 := by
        have := numI_range (digB_iff.1 c1) (by unfold pc; rw [List.length_take]; omega)
        rw [f1]; unfold nf; omega
      obtain ⟨n1, n1'⟩ := n1
      by_cases y0 : v1 = 0
      · have hv := Lib.hid (bad.out (isSt_minus sa.out (by have := f1; unfold nf at this; omega)))
        have t0 : (v1 == 0) = true := by simpa using y0
        clear y0 c1 c2 c3 c4 c5 c6 c7 f1 f2 f3 f4 f5 f6 f7
        go_wp2_with fail
        go_ret2
        exact ⟨by rw [hv.out]; rfl, B.out⟩
      · have hv : V = fromV (-v1) v2 v3 v4 v5 v6 v7 := by
          rw [good.out (isSt_mk L26.out (.inr sa.out) q0.out.1 q0.out.2.1 q0.out.2.2.1 q0.out.2.2.2.1 q0.out.2.2.2.2.1 q0.out.2.2.2.2.2 c1 c2 c3 c4 c5 c6 c7 (fun e => by have := f1; have := e.2; unfold nf at *; omega)), f1, f2, f3, f4, f5, f6, f7]
          have : stY (byI s) = -(nf (byI s) 1 6 : Int) := by unfold stY; rw [if_pos sa.out]; rfl
          rw [this]
        have t0 : (v1 == 0) = false := by simpa using y0
        obtain ⟨x, k, hx⟩ := fromV_anyP (-v1) v2 v3 v4 v5 v6 v7
        have R := Lib.hid (fun w => rfrom_run (-v1) v2 v3 v4 v5 v6 v7 w)
        rw [hx] at hv R
        unfold dAgg at R
        replace hv := Lib.hid hv
        replace B := Lib.hid (B.out.setCell (p := ⟨u.heap.size, 0, none⟩) (Nat.le_refl _) (.int .i64 (-v1)))
        clear y0 c1 c2 c3 c4 c5 c6 c7 f1 f2 f3 f4 f5 f6 f7 hx
        go_wp2_with fail
        refine (R.out _).mono ?_
        rintro _ v9 ⟨rfl, hb⟩
        replace B := Lib.hid (B.out.trans (hb.mono B.out.size))
        clear R hb
        go_wp2_with fail
        go_ret2
        exact ⟨by rw [hv.out]; rfl, B.out⟩
set_option maxRecDepth 100000 in
theorem rparse_run (s : ByteArray) (u : World) : Calls Tryz.prog 12 #[.string s] u fun e u' => e = .returned (parV (byI s)) ∧ Below u.heap.size u u' := by
  by_cases h : s.size = 26
  · exact rparse_t s h u
  · exact rparse_len s h u
end Go.Proofs.YtpnncmdeidbemaaGreatDoor
