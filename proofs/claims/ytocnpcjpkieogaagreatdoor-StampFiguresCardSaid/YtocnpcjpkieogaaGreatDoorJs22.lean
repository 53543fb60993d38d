/- Proved here: what the texts Yca, Ycb, Ycc prove, one behind the other. -/
import Derived.Test.YtocnpcjpkieogaaGreatDoorJs20
import Derived.Test.YtocnpcjpkieogaaGreatDoorJs17
import Derived.Shelf.Strings.Search1

namespace Go.Proofs.YtocnpcjpkieogaaGreatDoor
open Go.Shelf Go.ChangeShapes Go.WideShapes Go.ChangeAt Go.RowKit

def renIxb : Ren := ⟨fun n => if n = 217 then 124 else 149, fun n => if n = 3 then 3 else if n = 5 then 5 else 9, fun n => n⟩
set_option maxRecDepth 100000 in
set_option maxHeartbeats 4000000 in
theorem laysIxb : Lays.n217 Tryz.prog renIxb := by
  constructor
  case f217 => exact Tryz.func124.trans (congrArg some (by kernel_rfl))
  case f266 => exact Tryz.func149.trans (congrArg some (by kernel_rfl))
  all_goals first
    | kernel_rfl
    | (intro w; kernel_rfl)

set_option maxRecDepth 100000 in
theorem ixb_run (s : ByteArray) (w : World) : Calls Tryz.prog 124 #[.string s, .int .u8 46] w fun e w' => e = .returned (.int .i64 (Lib.indexByte s.data.toList 46)) ∧ w = w' :=
  (Any.stringslite_IndexByte laysIxb s 46 w).mono fun _ _ h => ⟨h.1, h.2.symm⟩
/-- where the first point stands -/
def ixI (L : List Int) : Int := if ptP L = true then ((hdP L).length : Int) else -1
theorem u8_eq (b k : UInt8) : (b = k) ↔ ((b.toNat : Nat) : Int) = ((k.toNat : Nat) : Int) := ⟨fun h => by rw [h], fun h => UInt8.toNat_inj.1 (by omega)⟩
theorem ixb_is : ∀ l : List UInt8, Lib.indexByte l 46 = ixI (l.map fun c => ((c.toNat : Nat) : Int))
  | [] => rfl
  | b :: l => by
    have ih := ixb_is l
    generalize hM : l.map (fun c => ((c.toNat : Nat) : Int)) = M at ih
    rw [List.map_cons, hM]
    unfold Lib.indexByte
    rw [ih]
    unfold ixI ptP hdP
    have hb := u8_eq b 46
    rw [show (((46 : UInt8).toNat : Nat) : Int) = 46 by rfl] at hb
    by_cases q : b = 46
    · have q2 := hb.1 q
      rw [if_pos (by simpa using q), q2, if_pos (by simp), List.takeWhile_cons_of_neg (by simp)]
      rfl
    · have q2 : ((b.toNat : Nat) : Int) ≠ 46 := fun h => q (hb.2 h)
      rw [if_neg (show ¬ (b == 46) = true by simpa using q), List.takeWhile_cons_of_pos (by simpa using q2)]
      by_cases m : 46 ∈ M
      · rw [decide_eq_true m, decide_eq_true (List.mem_cons_of_mem _ m), if_pos rfl, if_pos rfl, if_neg (by simp), List.length_cons]
        omega
      · rw [decide_eq_false m, decide_eq_false (by simp only [List.mem_cons, not_or]; exact ⟨fun h => q2 h.symm, m⟩)]
        rfl
set_option maxRecDepth 100000 in
theorem idx_run (s : ByteArray) (w : World) : Calls Tryz.prog 88 #[.string s, .string ⟨#[46]⟩] w fun e w' => e = .returned (.int .i64 (ixI (byI s))) ∧ w = w' := by
  have C := Lib.hid (fun w => ixb_run s w)
  rw [ixb_is] at C
  have z : Hid (([46] == s.toList) = true → ixI (byI s) = 0) := fun h => by
    have h' : ([46] : List UInt8) = s.toList := by simpa using h
    have e : s.toList = s.data.toList := ByteArray.toList_eq _
    unfold byI
    rw [← e, ← h']; rfl
  change Hid (∀ w, Calls _ _ _ _ fun e w' => e = .returned (.int .i64 (ixI (byI s))) ∧ _) at C
  generalize ixI (byI s) = k at *
  go_enter Tryz.func88, Tryz.ntmps88
  go_wp2_with fail
  · go_ret
    rename_i h
    exact ⟨ret_i (z.out h).symm, rfl⟩
  · refine (C.out _).mono ?_
    rintro _ v ⟨rfl, rfl⟩
    go_wp2_with fail
    go_ret
    exact ⟨rfl, rfl⟩
theorem cut_parts (s : ByteArray) (h : ptP (byI s) = true) : (hdP (byI s)).length + 1 ≤ s.size ∧ byI (s.extract 0 (hdP (byI s)).length) = hdP (byI s) ∧ byI (s.extract ((hdP (byI s)).length + 1) s.size) = tlP (byI s) := by
  have e := hd_split _ h
  have l := byI_len s
  have l2 : (byI s).length = (hdP (byI s)).length + ((tlP (byI s)).length + 1) := by
    conv => lhs; rw [e]
    rw [List.length_append, List.length_cons]
  refine ⟨by omega, ?_, ?_⟩
  · rw [byI_extract]
    generalize byI s = L at *
    generalize hdP L = H at *
    generalize tlP L = T at *
    subst e
    unfold pc
    simp
  · rw [byI_extract, ← l]
    generalize byI s = L at *
    generalize hdP L = H at *
    generalize tlP L = T at *
    subst e
    unfold pc
    rw [List.length_append, List.length_cons, List.drop_append, List.drop_of_length_le (by omega)]
    simp
    rw [List.take_of_length_le (by omega)]
set_option maxRecDepth 100000 in
/-- what is ahead of the point, what behind it -/
theorem icut_run (s : ByteArray) (hs : s.size ≤ 9223372036854775807) (w : World) : Calls Tryz.prog 57 #[.string s, .string ⟨#[46]⟩] w fun e w' => ∃ a b, e = .returned (.tuple #[.string a, .string b, .bool (ptP (byI s))]) ∧ byI a = hdP (byI s) ∧ byI b = tlP (byI s) ∧ Below w.heap.size w w' := by
  have C := Lib.hid (fun w => idx_run s w)
  unfold ixI at C
  by_cases h : ptP (byI s) = true
  · obtain ⟨h1, h2, h3⟩ := cut_parts s h
    rw [if_pos h] at C
    rw [h]
    generalize hdP (byI s) = H at *
    generalize tlP (byI s) = T at *
    have g1 : (H.length : Int) + 1 ≤ (s.size : Int) := by omega
    have SLa : Hid (∀ W, (Instr.slice 9 (.string s) none (some (.int .i64 (H.length : Int))) none).run Tryz.prog W = .ok (.string (s.extract 0 H.length)) W) := fun W => by
      rw [run_slice_string_to_if W 9 s .i64 _ Tryz.underlying9, if_pos (by omega)]; rfl
    have SLb : Hid (∀ W, (Instr.slice 9 (.string s) (some (.int .i64 ((H.length : Int) + 1))) none none).run Tryz.prog W = .ok (.string (s.extract (H.length + 1) s.size)) W) := fun W => by
      rw [run_slice_string_from_if W 9 s .i64 _ Tryz.underlying9, if_pos (by omega)]; rfl
    have sa := SLa.out
    have sb := SLb.out
    clear SLa SLb
    generalize s.extract 0 H.length = a at *
    generalize s.extract (H.length + 1) s.size = b at *
    generalize H.length = k at *
    clear h h1
    go_enter Tryz.func57, Tryz.ntmps57
    go_wp2_with fail
    refine (C.out _).mono ?_
    rintro _ v ⟨rfl, rfl⟩
    clear C
    go_wp2_with fail
    go_quiet (fail)
    go_wp2_with fail
    go_ret3
    exact ⟨_, _, rfl, h2, h3, bl_drewN (Below.refl _ _) _⟩
  · rw [Bool.not_eq_true] at h
    rw [h, if_neg (by decide)] at C
    rw [h]
    obtain ⟨h1, h2⟩ := hd_nil _ h
    clear h
    go_enter Tryz.func57, Tryz.ntmps57
    go_wp2_with fail
    refine (C.out _).mono ?_
    rintro _ v ⟨rfl, rfl⟩
    clear C
    go_wp2_with fail
    go_ret3
    exact ⟨_, _, rfl, h1.symm, h2.symm, Below.refl _ _⟩
set_option maxRecDepth 100000 in
theorem cut_run (s : ByteArray) (hs : s.size ≤ 9223372036854775807) (w : World) : Calls Tryz.prog 34 #[.string s, .string ⟨#[46]⟩] w fun e w' => ∃ a b, e = .returned (.tuple #[.string a, .string b, .bool (ptP (byI s))]) ∧ byI a = hdP (byI s) ∧ byI b = tlP (byI s) ∧ Below w.heap.size w w' := by
  have C := Lib.hid (icut_run s hs w)
  go_enter Tryz.func34, Tryz.ntmps34
  go_wp2_with fail
  refine C.out.mono ?_
  rintro _ v ⟨a, b, rfl, h1, h2, B⟩
  replace B := Lib.hid B
  clear C
  go_wp2_with fail
  go_ret3
  exact ⟨_, _, rfl, h1, h2, B.out⟩
/-! ### a minus sign ahead -/
theorem hpf_is (s : ByteArray) : Lib.hasPrefix s.data.toList [45] = ngP (byI s) := by
  unfold ngP byI
  cases s.data.toList with
  | nil => rfl
  | cons c l =>
    have hb := u8_eq 45 c
    rw [show (((45 : UInt8).toNat : Nat) : Int) = 45 by rfl] at hb
    by_cases q : 45 = c
    · have q2 := hb.1 q
      subst q
      rfl
    · have q2 : ¬ (45 : Int) = ((c.toNat : Nat) : Int) := fun h => q (hb.2 h)
      rw [List.map_cons, List.headD_cons, decide_eq_false (fun h => q2 h.symm)]
      show (List.isPrefixOf [45] (c :: l)) = false
      simp only [List.isPrefixOf, beq_eq_false_iff_ne.2 q, Bool.false_and]
theorem rs_parts (s : ByteArray) (h : ngP (byI s) = true) : 1 ≤ s.size ∧ byI (s.extract 1 s.size) = rsP (byI s) := by
  have l := byI_len s
  have e := sg_rest (byI s)
  rw [h] at e
  have l2 := congrArg List.length e
  unfold sgL at l2
  rw [if_pos rfl, List.length_append] at l2
  refine ⟨by simp at l2; omega, ?_⟩
  rw [byI_extract, ← l]
  unfold rsP pc
  rw [if_pos h, List.take_of_length_le (by rw [List.length_drop]; omega)]
set_option maxRecDepth 100000 in
theorem cutp_run (s : ByteArray) (hs : s.size ≤ 9223372036854775807) (w : World) : Calls Tryz.prog 56 #[.string s, .string ⟨#[45]⟩] w fun e w' => ∃ a, e = .returned (.tuple #[.string a, .bool (ngP (byI s))]) ∧ byI a = rsP (byI s) ∧ a.size ≤ s.size ∧ w = w' := by
  have C := Lib.hid (fun w => (Any.stringslite_HasPrefix { laysTpf with } s ⟨#[45]⟩ w))
  change Hid (∀ w, Calls _ 55 #[.string s, .string ⟨#[45]⟩] w fun e w' => e = .returned (.bool (Lib.hasPrefix s.data.toList [45])) ∧ _) at C
  rw [hpf_is] at C
  by_cases h : ngP (byI s) = true
  · obtain ⟨h1, h2⟩ := rs_parts s h
    rw [h] at C
    rw [h]
    have g1 : (1 : Int) ≤ (s.size : Int) := by omega
    have h3 : (s.extract 1 s.size).size ≤ s.size := by rw [ByteArray.size_extract]; omega
    have sb : ∀ W, (Instr.slice 9 (.string s) (some (.int .i64 1)) none none).run Tryz.prog W = .ok (.string (s.extract 1 s.size)) W := fun W => by
      rw [run_slice_string_from_if W 9 s .i64 _ Tryz.underlying9, if_pos (by omega)]; rfl
    generalize s.extract 1 s.size = b at *
    clear h h1
    go_enter Tryz.func56, Tryz.ntmps56
    go_wp2_with fail
    refine (C.out _).mono ?_
    rintro _ v ⟨rfl, rfl⟩
    clear C
    go_wp2_with fail
    go_ret2
    exact ⟨_, rfl, h2, h3, rfl⟩
  · rw [Bool.not_eq_true] at h
    rw [h] at C
    rw [h]
    have h2 : byI s = rsP (byI s) := by unfold rsP; rw [h]; rfl
    clear h
    go_enter Tryz.func56, Tryz.ntmps56
    go_wp2_with fail
    refine (C.out _).mono ?_
    rintro _ v ⟨rfl, rfl⟩
    clear C
    go_wp2_with fail
    go_ret2
    exact ⟨_, rfl, h2, Nat.le_refl _, rfl⟩
set_option maxRecDepth 100000 in
theorem scutp_run (s : ByteArray) (hs : s.size ≤ 9223372036854775807) (w : World) : Calls Tryz.prog 33 #[.string s, .string ⟨#[45]⟩] w fun e w' => ∃ a, e = .returned (.tuple #[.string a, .bool (ngP (byI s))]) ∧ byI a = rsP (byI s) ∧ a.size ≤ s.size ∧ w = w' := by
  have C := Lib.hid (cutp_run s hs w)
  go_enter Tryz.func33, Tryz.ntmps33
  go_wp2_with fail
  refine C.out.mono ?_
  rintro _ v ⟨a, rfl, h1, h2, rfl⟩
  clear C
  go_wp2_with fail
  go_ret2
  exact ⟨_, rfl, h1, h2, rfl⟩
end Go.Proofs.YtocnpcjpkieogaaGreatDoor

namespace Go.Proofs.YtocnpcjpkieogaaGreatDoor
open Go.ChangeShapes Go.WideShapes Go.ChangeAt Go.RowKit

set_option maxRecDepth 100000 in
set_option maxHeartbeats 1000000 in
theorem adig_run (s : ByteArray) (n : Nat) (hn : n ≤ 100) (hs : s.size ≤ 9223372036854775807) (u : World) : Calls Tryz.prog 35 #[.string s, .int .i64 (n : Int)] u fun e u' => e = .returned (.bool (adL (byI s) n)) ∧ u = u' := by
  obtain ⟨L, hL⟩ : ∃ L, L = byI s := ⟨_, rfl⟩
  have ll : L.length = s.size := by rw [hL]; exact byI_len s
  have at_ : Hid (∀ i (h : i < s.size), ((s[i].toNat : Nat) : Int) = L.getD i 0) := fun i h => by rw [hL]; exact (byI_at s i h).symm
  obtain ⟨V, hV⟩ : ∃ V, V = adL L n := ⟨_, rfl⟩
  rw [← hL, ← hV]
  unfold adL at hV
  rw [ll] at hV
  replace hL := Lib.hid hL
  replace ll := Lib.hid ll
  have gn : (n : Int) ≤ 100 := by omega
  by_cases h0 : s.size = 0
  · have hv : Hid (V = false) := by show _ = _; rw [hV, decide_eq_false (p := 1 ≤ s.size ∧ s.size ≤ n) (fun h => by omega)]; rfl
    have t1 : ((s.size : Int) == 0) = true := by rw [h0]; rfl
    clear h0 hV
    go_enter Tryz.func35, Tryz.ntmps35
    go_wp2_with fail
    go_ret
    exact ⟨ret_bo hv.out.symm, rfl⟩
  · have t1 : ((s.size : Int) == 0) = false := beq_eq_false_iff_ne.2 (by omega)
    by_cases h1 : n < s.size
    · have hv : Hid (V = false) := by show _ = _; rw [hV, decide_eq_false (p := 1 ≤ s.size ∧ s.size ≤ n) (fun h => by omega)]; rfl
      have t2 : decide (n < s.size) = true := decide_eq_true (by omega)
      clear h0 hV h1
      go_enter Tryz.func35, Tryz.ntmps35
      go_wp2_with fail
      go_ret
      exact ⟨ret_bo hv.out.symm, rfl⟩
    · have t2 : decide (n < s.size) = false := decide_eq_false (by omega)
      rw [decide_eq_true (show 1 ≤ s.size ∧ s.size ≤ n by omega), Bool.true_and] at hV
      replace hV := Lib.hid hV
      have hs2 : (s.size : Int) ≤ 100 := by omega
      clear h0 hs
      go_enter Tryz.func35, Tryz.ntmps35
      go_wp2_with fail
      go_loop [17] (fun iv => ∃ i : Nat, i ≤ s.size ∧ iv = .int .i64 i ∧ ∀ x ∈ L.take i, 48 ≤ x ∧ x ≤ 57) (fun iv => s.size - (intOf iv).toNat)
      case atStart => exact ⟨0, Nat.zero_le _, rfl, fun x hx => by simp at hx⟩
      case round =>
        obtain ⟨i, hi, rfl, hd⟩ := hrel
        replace hd := Lib.hid hd
        by_cases hlt : i < s.size
        · have hil : i < L.length := by have := ll.out; omega
          have hx := at_.out i hlt
          have C := Lib.hid (fun w => isdg_run ((s[i].toNat : Nat) : Int) w)
          by_cases q : 48 ≤ L.getD i 0 ∧ L.getD i 0 ≤ 57
          · have hd2 : Hid (∀ x ∈ L.take (i + 1), 48 ≤ x ∧ x ≤ 57) := fun x hm => by
              rw [take_next hil, List.mem_append] at hm
              rcases hm with hm | hm
              · exact hd.out x hm
              · simp only [List.mem_singleton] at hm
                rw [hm]; exact q
            have e : isDgB ((s[i].toNat : Nat) : Int) = true := by unfold isDgB; rw [hx]; exact decide_eq_true q
            rw [e] at C
            clear hx q e hd
            go_wp2_with fail
            refine (C.out _).mono ?_
            rintro _ v ⟨rfl, rfl⟩
            clear C
            go_wp2_with fail
            go_round
            case rel => exact ⟨i + 1, hlt, by go_num, hd2.out⟩
            case measure => simp [intOf]; omega
          · have hv : Hid (V = false) := by
              show _ = _
              rw [hV.out]; exact digB_not hil q
            have e : isDgB ((s[i].toNat : Nat) : Int) = false := by unfold isDgB; rw [hx]; exact decide_eq_false q
            rw [e] at C
            clear hx q e hd
            go_wp2_with fail
            refine (C.out _).mono ?_
            rintro _ v ⟨rfl, rfl⟩
            clear C
            go_wp2_with fail
            go_ret
            exact ⟨ret_bo hv.out.symm, rfl⟩
        · obtain rfl : i = s.size := by omega
          have hv : Hid (V = true) := by
            show _ = _
            have g := hd.out
            rw [List.take_of_length_le (by have := ll.out; omega)] at g
            rw [hV.out]; exact digB_iff.2 g
          clear hd
          go_wp2_with fail
          go_ret
          exact ⟨ret_bo hv.out.symm, rfl⟩
end Go.Proofs.YtocnpcjpkieogaaGreatDoor

namespace Go.Proofs.YtocnpcjpkieogaaGreatDoor
open Go.ChangeShapes Go.WideShapes Go.ChangeAt Go.RowKit

theorem fig_len {L : List Int} (h1 : adL (hdP (rsP L)) 10 = true) (h2 : ptP (rsP L) = false ∨ adL (tlP (rsP L)) 9 = true) : L.length ≤ 21 := by
  have e := congrArg List.length (sg_rest L)
  rw [List.length_append] at e
  have s : (sgL (ngP L)).length ≤ 1 := by unfold sgL; split <;> decide
  unfold adL at h1 h2
  rw [Bool.and_eq_true, decide_eq_true_eq] at h1
  by_cases q : ptP (rsP L) = true
  · have k := congrArg List.length (hd_split _ q)
    rw [List.length_append, List.length_cons] at k
    rcases h2 with h2 | h2
    · rw [q] at h2; cases h2
    · rw [Bool.and_eq_true, decide_eq_true_eq] at h2
      omega
  · have := (hd_nil _ (by simpa using q : ptP (rsP L) = false)).1
    rw [this] at h1
    omega
set_option maxRecDepth 100000 in
set_option maxHeartbeats 8000000 in
theorem isfig_run (s : ByteArray) (hs : s.size ≤ 9223372036854775807) (w : World) : Calls Tryz.prog 20 #[.string s] w fun e w' => e = .returned (.bool (figT (byI s))) ∧ Below w.heap.size w w' := by
  have P := Lib.hid (scutp_run s hs w)
  have Cc := Lib.hid (fun d (h : d.size ≤ 9223372036854775807) v => cut_run d h v)
  have Ca := Lib.hid (fun a n (h : n ≤ 100) (k : a.size ≤ 9223372036854775807) v => adig_run a n h k v)
  have Cn := Lib.hid (fun (h : s.size ≤ 1000) v => ngt_run s h v)
  have lL := byI_len s
  obtain ⟨V, hV⟩ : ∃ V, V = figT (byI s) := ⟨_, rfl⟩
  rw [← hV]
  have fl := Lib.hid (@fig_len (byI s))
  unfold figT at hV
  generalize byI s = L at *
  replace hV := Lib.hid hV
  replace lL := Lib.hid lL
  go_enter Tryz.func20, Tryz.ntmps20
  go_wp2_with fail
  refine P.out.mono ?_
  rintro _ v1 ⟨d, rfl, hd, hds, rfl⟩
  clear P
  have Cd := Lib.hid (fun v => Cc.out d (by omega) v)
  rw [hd] at Cd
  clear Cc
  replace hd := Lib.hid hd
  go_wp2_with fail
  refine (Cd.out _).mono ?_
  rintro _ v2 ⟨a, b, rfl, ha, hb, B⟩
  clear Cd
  replace B := Lib.hid B
  have la := byI_len a
  have lb := byI_len b
  have ld := byI_len d
  rw [ha] at la
  rw [hb] at lb
  rw [hd.out] at ld
  have sp : (hdP (rsP L)).length ≤ (rsP L).length ∧ (tlP (rsP L)).length ≤ (rsP L).length := by
    unfold hdP tlP
    exact ⟨(List.takeWhile_sublist _).length_le, by rw [List.length_drop]; exact Nat.le_trans (Nat.sub_le _ _) (List.dropWhile_sublist _).length_le⟩
  have C1 := Lib.hid (fun v => Ca.out a 10 (by omega) (by omega) v)
  have C2 := Lib.hid (fun v => Ca.out b 9 (by omega) (by omega) v)
  rw [ha] at C1
  rw [hb] at C2
  clear Ca lb ld sp hds
  have a0 : Hid (∀ h : 0 < a.size, ((a[0].toNat : Nat) : Int) = (hdP (rsP L)).getD 0 0) := fun h => by rw [← ha]; exact (byI_at a 0 h).symm
  clear hb
  generalize hT : adL (tlP (rsP L)) 9 = c3 at *
  generalize hp : ptP (rsP L) = c4 at *
  generalize hg : ngP L = c5 at *
  generalize hz : ngtL L = c6 at *
  replace ha := Lib.hid ha
  replace la := Lib.hid la
  replace hT := Lib.hid hT
  replace hg := Lib.hid hg
  replace hp := Lib.hid hp
  replace hz := Lib.hid hz
  go_wp2_with fail
  refine (C1.out _).mono ?_
  rintro _ v3 ⟨rfl, rfl⟩
  clear C1
  generalize h1 : adL (hdP (rsP L)) 10 = c1 at *
  cases c1 with
  | false =>
    have hv : Hid (V = false) := by show _ = _; rw [hV.out]; rfl
    clear hV fl Cn C2 a0
    go_wp2_with fail
    go_ret
    exact ⟨ret_bo hv.out.symm, B.out⟩
  | true =>
    have gl : a.size ≤ 10 := by
      unfold adL at h1
      rw [Bool.and_eq_true, decide_eq_true_eq] at h1
      have := la.out; omega
    rw [Bool.true_and] at hV
    by_cases k1 : 1 < a.size
    · have t1 : decide (1 < a.size) = true := decide_eq_true k1
      have e0 := a0.out (by omega)
      have hi : 0 < a.size := by omega
      by_cases k2 : a[0].toNat = 48
      · have z : lzP (hdP (rsP L)) = true := by
          unfold lzP
          rw [decide_eq_true (p := 1 < (hdP (rsP L)).length) (by have := la.out; omega), decide_eq_true (p := (hdP (rsP L)).getD 0 0 = 48) (by omega)]
          rfl
        have hv : Hid (V = false) := by show _ = _; rw [hV.out, z]; rfl
        have t2 : ((a[0].toNat : Int) == 48) = true := by rw [k2]; rfl
        clear hV fl Cn C2 a0 e0 z
        go_wp2_with fail
        go_ret
        exact ⟨ret_bo hv.out.symm, B.out⟩
      · have z : lzP (hdP (rsP L)) = false := by
          unfold lzP
          rw [decide_eq_false (p := (hdP (rsP L)).getD 0 0 = 48) (by omega), Bool.and_false]
        rw [z, Bool.not_false, Bool.true_and] at hV
        have t2 : ((a[0].toNat : Int) == 48) = false := beq_eq_false_iff_ne.2 (by omega)
        clear a0 e0 z
        cases c4 with
        | false =>
          rw [Bool.not_false, Bool.true_or, Bool.true_and] at hV
          clear C2
          cases c5 with
          | false =>
            have hv : Hid (V = true) := by show _ = _; rw [hV.out]; try rfl
            clear hV fl Cn
            go_wp2_with fail
            go_ret
            exact ⟨ret_bo hv.out.symm, B.out⟩
          | true =>
            have sz : s.size ≤ 1000 := by
              have := fl.out (by simp) (by simp)
              have := lL.out; omega
            have Cn2 := Lib.hid (fun v => Cn.out sz v)
            clear Cn
            have hv : Hid (V = !c6) := by show _ = _; rw [hV.out]; try rfl
            clear hV fl
            go_wp2_with fail
            refine (Cn2.out _).mono ?_
            rintro _ v4 ⟨rfl, B4⟩
            replace B := Lib.hid (B.out.trans (B4.mono B.out.size))
            clear B4 Cn2
            go_wp2_with fail
            go_ret
            exact ⟨ret_bo hv.out.symm, B.out⟩
        | true =>
          rw [Bool.not_true, Bool.false_or] at hV
          cases c3 with
          | false =>
            have hv : Hid (V = false) := by show _ = _; rw [hV.out]; rfl
            clear hV fl Cn
            go_wp2_with fail
            refine (C2.out _).mono ?_
            rintro _ v5 ⟨rfl, rfl⟩
            clear C2
            go_wp2_with fail
            go_ret
            exact ⟨ret_bo hv.out.symm, B.out⟩
          | true =>
            rw [Bool.true_and] at hV
            go_wp2_with fail
            refine (C2.out _).mono ?_
            rintro _ v5 ⟨rfl, rfl⟩
            clear C2
            cases c5 with
            | false =>
              have hv : Hid (V = true) := by show _ = _; rw [hV.out]; try rfl
              clear hV fl Cn
              go_wp2_with fail
              go_ret
              exact ⟨ret_bo hv.out.symm, B.out⟩
            | true =>
              have sz : s.size ≤ 1000 := by
                have := fl.out (by simp) (by simp)
                have := lL.out; omega
              have Cn2 := Lib.hid (fun v => Cn.out sz v)
              clear Cn
              have hv : Hid (V = !c6) := by show _ = _; rw [hV.out]; try rfl
              clear hV fl
              go_wp2_with fail
              refine (Cn2.out _).mono ?_
              rintro _ v4 ⟨rfl, B4⟩
              replace B := Lib.hid (B.out.trans (B4.mono B.out.size))
              clear B4 Cn2
              go_wp2_with fail
              go_ret
              exact ⟨ret_bo hv.out.symm, B.out⟩
    · have t1 : decide (1 < a.size) = false := decide_eq_false k1
      have z : lzP (hdP (rsP L)) = false := by
        unfold lzP
        rw [decide_eq_false (p := 1 < (hdP (rsP L)).length) (by have := la.out; omega)]
        rfl
      rw [z, Bool.not_false, Bool.true_and] at hV
      clear a0 z
      cases c4 with
      | false =>
        rw [Bool.not_false, Bool.true_or, Bool.true_and] at hV
        clear C2
        cases c5 with
        | false =>
          have hv : Hid (V = true) := by show _ = _; rw [hV.out]; try rfl
          clear hV fl Cn
          go_wp2_with fail
          go_ret
          exact ⟨ret_bo hv.out.symm, B.out⟩
        | true =>
          have sz : s.size ≤ 1000 := by
            have := fl.out (by simp) (by simp)
            have := lL.out; omega
          have Cn2 := Lib.hid (fun v => Cn.out sz v)
          clear Cn
          have hv : Hid (V = !c6) := by show _ = _; rw [hV.out]; try rfl
          clear hV fl
          go_wp2_with fail
          refine (Cn2.out _).mono ?_
          rintro _ v4 ⟨rfl, B4⟩
          replace B := Lib.hid (B.out.trans (B4.mono B.out.size))
          clear B4 Cn2
          go_wp2_with fail
          go_ret
          exact ⟨ret_bo hv.out.symm, B.out⟩
      | true =>
        rw [Bool.not_true, Bool.false_or] at hV
        cases c3 with
        | false =>
          have hv : Hid (V = false) := by show _ = _; rw [hV.out]; rfl
          clear hV fl Cn
          go_wp2_with fail
          refine (C2.out _).mono ?_
          rintro _ v5 ⟨rfl, rfl⟩
          clear C2
          go_wp2_with fail
          go_ret
          exact ⟨ret_bo hv.out.symm, B.out⟩
        | true =>
          rw [Bool.true_and] at hV
          go_wp2_with fail
          refine (C2.out _).mono ?_
          rintro _ v5 ⟨rfl, rfl⟩
          clear C2
          cases c5 with
          | false =>
            have hv : Hid (V = true) := by show _ = _; rw [hV.out]; try rfl
            clear hV fl Cn
            go_wp2_with fail
            go_ret
            exact ⟨ret_bo hv.out.symm, B.out⟩
          | true =>
            have sz : s.size ≤ 1000 := by
              have := fl.out (by simp) (by simp)
              have := lL.out; omega
            have Cn2 := Lib.hid (fun v => Cn.out sz v)
            clear Cn
            have hv : Hid (V = !c6) := by show _ = _; rw [hV.out]; try rfl
            clear hV fl
            go_wp2_with fail
            refine (Cn2.out _).mono ?_
            rintro _ v4 ⟨rfl, B4⟩
            replace B := Lib.hid (B.out.trans (B4.mono B.out.size))
            clear B4 Cn2
            go_wp2_with fail
            go_ret
            exact ⟨ret_bo hv.out.symm, B.out⟩
end Go.Proofs.YtocnpcjpkieogaaGreatDoor
