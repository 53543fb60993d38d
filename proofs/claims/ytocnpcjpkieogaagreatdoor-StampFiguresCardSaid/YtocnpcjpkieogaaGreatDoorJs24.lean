/- Proved here: what the texts Ycr, Ycs, Yct prove, one behind the other. -/
import Derived.Test.YtocnpcjpkieogaaGreatDoorJs22
import Derived.WalkMore
import Derived.Deep.CutRange

namespace Go.Proofs.YtocnpcjpkieogaaGreatDoor
open Go.ChangeShapes Go.WideShapes Go.ChangeAt Go.RowKit

set_option maxRecDepth 100000 in
theorem lower_run (c : Int) (h1 : 46 ≤ c) (h2 : c ≤ 57) (w : World) : Calls Tryz.prog 102 #[.int .u8 c] w fun e w' => e = .returned (.int .u8 c) ∧ w = w' := by
  have e : bits BinOp.or IntKind.u8 c 32 = c := by
    have : c = 46 ∨ c = 47 ∨ c = 48 ∨ c = 49 ∨ c = 50 ∨ c = 51 ∨ c = 52 ∨ c = 53 ∨ c = 54 ∨ c = 55 ∨ c = 56 ∨ c = 57 := by omega
    rcases this with rfl | rfl | rfl | rfl | rfl | rfl | rfl | rfl | rfl | rfl | rfl | rfl <;> rfl
  clear h1 h2
  go_enter Tryz.func102, Tryz.ntmps102
  go_wp2_with fail
  go_ret
  exact ⟨rfl, rfl⟩
set_option maxRecDepth 100000 in
theorem cpl_run (s : ByteArray) (h : 1 ≤ s.size) (hd : s[0].toNat ≤ 57) (h2 : s.size ≤ 1000) (w : World) : Calls Tryz.prog 151 #[.string s, .string ⟨#[105, 110, 102, 105, 110, 105, 116, 121]⟩] w fun e w' => e = .returned (.int .i64 0) ∧ w = w' := by
  have hs : 0 < s.size := h
  have t1 : decide ((65 : Int) ≤ ((s[0].toNat : Nat) : Int)) = false := decide_eq_false (by omega)
  have t2 : (((s[0].toNat : Nat) : Int) != (((ByteArray.mk #[105, 110, 102, 105, 110, 105, 116, 121])[0].toNat : Nat) : Int)) = true := by
    rw [show (((ByteArray.mk #[105, 110, 102, 105, 110, 105, 116, 121])[0].toNat : Nat) : Int) = 105 by rfl, bne_iff_ne]; omega
  have t3 : decide ((0 : Int) < min 8 (s.size : Int)) = true := decide_eq_true (by omega)
  clear h hd
  go_enter Tryz.func151, Tryz.ntmps151
  go_wp2_with fail
  refine wp_loop_rounds 1 ?_
  rw [rounds_succ]
  go_wp2_with fail
  go_ret
  exact ⟨rfl, rfl⟩
set_option maxRecDepth 100000 in
theorem special_run (s : ByteArray) (neg : Bool) (h2 : s.size ≤ 1000) (h1 : 1 ≤ s.size) (hn : neg = true → s[0].toNat = 45 ∧ ∃ k : 1 < s.size, s[1].toNat ≤ 57) (hp : neg = false → 48 ≤ s[0].toNat ∧ s[0].toNat ≤ 57) (w : World) :
    Calls Tryz.prog 128 #[.string s] w fun e w' => e = .returned (.tuple #[.float .f64 0, .int .i64 0, .bool false]) ∧ w = w' := by
  have hs : 0 < s.size := h1
  have t0 : ((s.size : Int) == 0) = false := beq_eq_false_iff_ne.2 (by omega)
  cases neg with
  | false =>
    obtain ⟨k1, k2⟩ := hp rfl
    have a1 : ((s[0].toNat : Int) == 43) = false := beq_eq_false_iff_ne.2 (by omega)
    have a2 : ((s[0].toNat : Int) == 45) = false := beq_eq_false_iff_ne.2 (by omega)
    have a3 : ((s[0].toNat : Int) == 105) = false := beq_eq_false_iff_ne.2 (by omega)
    have a4 : ((s[0].toNat : Int) == 73) = false := beq_eq_false_iff_ne.2 (by omega)
    have a5 : ((s[0].toNat : Int) == 110) = false := beq_eq_false_iff_ne.2 (by omega)
    have a6 : ((s[0].toNat : Int) == 78) = false := beq_eq_false_iff_ne.2 (by omega)
    clear hn hp k1 k2 h1 h2
    go_enter Tryz.func128, Tryz.ntmps128
    go_wp2_with fail
    go_ret3
    exact ⟨rfl, rfl⟩
  | true =>
    obtain ⟨k1, k2, k3⟩ := hn rfl
    have a1 : ((s[0].toNat : Int) == 43) = false := beq_eq_false_iff_ne.2 (by omega)
    have a2 : ((s[0].toNat : Int) == 45) = true := by rw [k1]; rfl
    have sb : ∀ W, (Instr.slice 9 (.string s) (some (.int .i64 1)) none none).run Tryz.prog W = .ok (.string (s.extract 1 s.size)) W := fun W => by
      rw [run_slice_string_from_if W 9 s .i64 _ Tryz.underlying9, if_pos (by omega)]; rfl
    have z1 : 1 ≤ (s.extract 1 s.size).size := by rw [ByteArray.size_extract]; omega
    have z2 : (s.extract 1 s.size).size ≤ 1000 := by rw [ByteArray.size_extract]; omega
    have e0 : (s.extract 1 s.size)[0] = s[1] := by
      rw [ByteArray.getElem_extract]
    have C := Lib.hid (fun v => cpl_run (s.extract 1 s.size) z1 (by rw [e0]; exact k3) z2 v)
    generalize s.extract 1 s.size = b at *
    clear hn hp k1 k3 h1 h2 z1 z2 e0
    go_enter Tryz.func128, Tryz.ntmps128
    go_wp2_with fail
    refine (C.out _).mono ?_
    rintro _ v ⟨rfl, rfl⟩
    clear C
    go_wp2_with fail
    go_ret3
    exact ⟨rfl, rfl⟩
end Go.Proofs.YtocnpcjpkieogaaGreatDoor

namespace Go.Proofs.YtocnpcjpkieogaaGreatDoor
open Go.ChangeShapes Go.WideShapes Go.ChangeAt Go.RowKit

theorem results_tmp7 {fn : Func} {a b c d e f g : Tmp} (h : fn.results = #[.tmp a, .tmp b, .tmp c, .tmp d, .tmp e, .tmp f, .tmp g]) (tmps : Array Value) (P : Program) (w : World) :
    (results fn tmps).run P w = .ok (.tuple #[tmps.getD a undef, tmps.getD b undef, tmps.getD c undef, tmps.getD d undef, tmps.getD e undef, tmps.getD f undef, tmps.getD g undef]) w := by
  simp [results, h]
/-- what reading leaves of the exponent -/
def rdE (s : Nat × Nat × Nat × Bool) : Int := if s.1 = 0 then 0 else if s.2.2.2 = true then -(s.2.2.1 : Int) else 0
set_option maxHeartbeats 8000000 in
set_option maxRecDepth 100000 in
theorem rdf_pos (s : ByteArray) (hR : RdOk (byI s)) (h1 : 1 ≤ s.size) (h2 : s.size ≤ 30) (hp : 48 ≤ (byI s).getD 0 0) (hc : ∀ x ∈ byI s, 46 ≤ x ∧ x ≤ 57) (u : World) :
    Calls Tryz.prog 129 #[.string s] u fun e u' => e = .returned (.tuple #[.int .u64 ((rdS (byI s)).1 : Int), .int .i64 (rdE (rdS (byI s))), .bool false, .bool false, .bool false, .int .i64 (s.size : Int), .bool true]) ∧ u = u' := by
  obtain ⟨L, hL⟩ : ∃ L, L = byI s := ⟨_, rfl⟩
  have ll : L.length = s.size := by rw [hL]; exact byI_len s
  have at_ : Hid (∀ i (h : i < s.size), ((s[i].toNat : Nat) : Int) = L.getD i 0) := fun i h => by rw [hL]; exact (byI_at s i h).symm
  rw [← hL] at hR hp hc ⊢
  obtain ⟨E, hE⟩ : ∃ E, E = rdE (rdS L) := ⟨_, rfl⟩
  rw [← hE]
  obtain ⟨m0, hm0⟩ : ∃ m0, m0 = (rdS L).1 := ⟨_, rfl⟩
  rw [← hm0]
  replace hE := Lib.hid hE
  replace hm0 := Lib.hid hm0
  have hs : 0 < s.size := h1
  have e0 := at_.out 0 hs
  have rng : ∀ i (h : i < s.size), 46 ≤ s[i].toNat ∧ s[i].toNat ≤ 57 := fun i h => by
    have m : L.getD i 0 ∈ L := by simp [List.getD, ll, h]
    have := hc _ m
    have := at_.out i h
    omega
  have r0 := rng 0 hs
  have a1 : ((s[0].toNat : Int) == 43) = false := beq_eq_false_iff_ne.2 (by omega)
  have a2 : ((s[0].toNat : Int) == 45) = false := beq_eq_false_iff_ne.2 (by omega)
  have t0 : decide (s = ByteArray.empty) = false := decide_eq_false (fun e => by rw [e] at hs; exact absurd hs (by decide))
  have lo : Hid (∀ i (h : i < s.size) v, Calls Tryz.prog 102 #[.int .u8 ((s[i].toNat : Nat) : Int)] v fun e w' => e = .returned (.int .u8 ((s[i].toNat : Nat) : Int)) ∧ v = w') := fun i h v => lower_run _ (by have := rng i h; omega) (by have := rng i h; omega) v
  have x1 : ∀ h : 1 < s.size, ((s[1].toNat : Int) == 120) = false := fun h => beq_eq_false_iff_ne.2 (by have := rng 1 h; omega)
  replace hL := Lib.hid hL
  replace ll := Lib.hid ll
  replace hR := Lib.hid hR
  replace hc := Lib.hid hc
  replace rng := Lib.hid rng
  replace x1 := Lib.hid x1
  replace hp := Lib.hid hp
  clear e0 r0
  have gs : (s.size : Int) ≤ 30 := by omega
  have lo1 : ∀ (h : 1 < s.size) v, Calls Tryz.prog 102 #[.int .u8 ((s[1].toNat : Nat) : Int)] v fun e w' => e = .returned (.int .u8 ((s[1].toNat : Nat) : Int)) ∧ v = w' := lo.out 1
  go_enter Tryz.func129, Tryz.ntmps129
  go_wp2
  go_step3
  go_upto_region 12 with fail
  go_cut [54] from 21 to 53 (fun c wx => c = .bool false ∧ wx = u)
  case first =>
    go_wp2_with (go_at_call 102; ((with_reducible refine (lo1 (by omega) _).mono ?_); rintro e w' ⟨rfl, rfl⟩))
    all_goals (go_meet; exact ⟨congrArg Value.bool (by first | rfl | exact x1.out (by omega)), rfl⟩)
  case rest =>
    obtain ⟨rfl, rfl⟩ := hcut
    clear lo1 lo x1 a1 a2 t0
    go_wp2_with fail
    go_step3
    go_wp2_with fail
    go_loop [2, 5, 7, 9, 13, 14, 15, 16, 17] (fun mv tv iv nv dv gv kv lv pv => ∃ i : Nat, i ≤ s.size ∧ mv = .int .u64 ((rdS (L.take i)).1 : Int) ∧ tv = .bool false ∧ iv = .int .i64 i ∧ nv = .bool false ∧ dv = .bool (rdS (L.take i)).2.2.2 ∧ gv = .bool (decide (0 < i)) ∧ kv = .int .i64 ((rdS (L.take i)).2.1 : Int) ∧ lv = .int .i64 ((rdS (L.take i)).2.1 : Int) ∧ pv = .int .i64 (((rdS (L.take i)).2.1 : Int) - ((rdS (L.take i)).2.2.1 : Int))) (fun _ _ iv _ _ _ _ _ _ => s.size - (intOf iv).toNat)
    case atStart => exact ⟨0, Nat.zero_le _, rfl, rfl, rfl, rfl, rfl, rfl, rfl, rfl, rfl⟩
    case round =>
      obtain ⟨i, hi, rfl, rfl, rfl, rfl, rfl, rfl, rfl, rfl, rfl⟩ := hrel
      by_cases hlt : i < s.size
      · have hil : i < L.length := by have := ll.out; omega
        have hx := at_.out i hlt
        have ok := hR.out i hil
        have hn : Hid (rdS (L.take (i + 1)) = rdStep (rdS (L.take i)) (L.getD i 0)) := by show _ = _; rw [take_next hil, rdS_app]
        have hz := rdS_zero (L.take i)
        generalize rdS (L.take i) = st at *
        obtain ⟨m, d, k, b⟩ := st
        simp only at ok
        obtain ⟨ok, gk, gd⟩ := ok
        have hg : Hid (decide (0 < i + 1) = true) := decide_eq_true (Nat.succ_pos i)
        rcases ok with ⟨o1, o2⟩ | ⟨o1, o2, o3, o4⟩
        · subst o2
          have hi0 : Hid (decide (0 < i) = true) := decide_eq_true (by
            rcases Nat.eq_zero_or_pos i with r | r
            · have := hp.out; rw [r] at o1; omega
            · exact r)
          have t1 : ((s[i].toNat : Int) == 95) = false := beq_eq_false_iff_ne.2 (by omega)
          have t2 : ((s[i].toNat : Int) == 46) = true := by rw [hx, o1]; rfl
          have hn2 : Hid (rdS (L.take (i + 1)) = (m, d, 0, true)) := by
            show _ = _
            rw [hn.out]; exact if_pos o1
          clear hn hx o1
          go_wp2_with fail
          go_round
          case rel => exact ⟨i + 1, hlt, by rw [hn2.out], rfl, by go_num, rfl, by rw [hn2.out], by rw [hi0.out, hg.out], by rw [hn2.out], by rw [hn2.out], by rw [hn2.out]; exact congrArg (Value.int .i64) (show (d : Int) = (d : Int) - ((0 : Nat) : Int) by omega)⟩
          case measure => simp [intOf]; omega
        · have t1 : ((s[i].toNat : Int) == 95) = false := beq_eq_false_iff_ne.2 (by omega)
          have t2 : ((s[i].toNat : Int) == 46) = false := beq_eq_false_iff_ne.2 (by omega)
          have t3 : decide ((48 : Int) ≤ ((s[i].toNat : Nat) : Int)) = true := decide_eq_true (by omega)
          have t4 : decide (((s[i].toNat : Nat) : Int) ≤ (57 : Int)) = true := decide_eq_true (by omega)
          by_cases z : d = 0 ∧ s[i].toNat = 48
          · obtain ⟨z1, z2⟩ := z
            subst z1
            obtain rfl : m = 0 := hz rfl
            have hn2 : Hid (rdS (L.take (i + 1)) = (0, 0, k + 1, b)) := by
              show _ = _
              rw [hn.out]
              unfold rdStep
              rw [if_neg (by omega), if_pos ⟨rfl, by omega⟩, show (L.getD i 0 - 48).toNat = 0 by omega]
              rfl
            have t5 : ((s[i].toNat : Int) == 48) = true := by rw [z2]; rfl
            have gk2 : (k : Int) ≤ 20 := by omega
            clear hn hx o1 o2 o3 o4 z2 gk gd hz
            go_wp2_with fail
            go_round
            case rel => exact ⟨i + 1, hlt, by rw [hn2.out], rfl, by go_num, rfl, by rw [hn2.out], by rw [hg.out], by rw [hn2.out], by rw [hn2.out], by rw [hn2.out]; refine congrArg (Value.int .i64) ?_; show (_ : Int) = ((0 : Nat) : Int) - ((k + 1 : Nat) : Int); omega⟩
            case measure => simp [intOf]; omega
          · have hn2 : Hid (rdS (L.take (i + 1)) = (m * 10 + (s[i].toNat - 48), d + 1, k + 1, b)) := by
              show _ = _
              rw [hn.out]
              unfold rdStep
              rw [if_neg (by omega), if_neg (fun h => z ⟨h.1, by have := h.2; omega⟩), show (L.getD i 0 - 48).toNat = s[i].toNat - 48 by omega]
            have t6 : decide ((d : Int) < 19) = true := decide_eq_true (by omega)
            have gk2 : (k : Int) ≤ 20 := by omega
            have gd2 : (d : Int) ≤ 18 := by omega
            have gm : (m : Int) ≤ 1000000000000000000 := by omega
            have g1 : 48 ≤ (s[i].toNat : Int) := by omega
            have g2 : (s[i].toNat : Int) ≤ 57 := by omega
            by_cases c : s[i].toNat = 48
            · have t5 : ((s[i].toNat : Int) == 48) = true := by rw [c]; rfl
              have t7 : ((d : Int) == 0) = false := beq_eq_false_iff_ne.2 (by omega)
              clear hn hx o1 o2 o3 o4 gk gd hz z
              go_wp2_with fail
              go_round
              case rel => exact ⟨i + 1, hlt, by rw [hn2.out]; exact congrArg (Value.int .u64) (by omega), rfl, by go_num, rfl, by rw [hn2.out], by rw [hg.out], by rw [hn2.out]; go_num, by rw [hn2.out]; go_num, by rw [hn2.out]; exact congrArg (Value.int .i64) (show (d : Int) - (k : Int) = ((d + 1 : Nat) : Int) - ((k + 1 : Nat) : Int) by omega)⟩
              case measure => simp [intOf]; omega
            · have t5 : ((s[i].toNat : Int) == 48) = false := beq_eq_false_iff_ne.2 (by omega)
              clear hn hx o1 o2 o3 o4 gk gd hz z
              go_wp2_with fail
              go_round
              case rel => exact ⟨i + 1, hlt, by rw [hn2.out]; exact congrArg (Value.int .u64) (by omega), rfl, by go_num, rfl, by rw [hn2.out], by rw [hg.out], by rw [hn2.out]; go_num, by rw [hn2.out]; go_num, by rw [hn2.out]; exact congrArg (Value.int .i64) (show (d : Int) - (k : Int) = ((d + 1 : Nat) : Int) - ((k + 1 : Nat) : Int) by omega)⟩
              case measure => simp [intOf]; omega
      · obtain rfl : i = s.size := by omega
        have hv : Hid (L.take s.size = L) := by
          show _ = _
          exact List.take_of_length_le (by have := ll.out; omega)
        rw [hv.out]
        have gs0 : decide (0 < s.size) = true := decide_eq_true (by omega)
        rw [gs0]
        have lim : (rdS L).2.1 ≤ 30 ∧ (rdS L).2.2.1 ≤ 30 := by have := rdS_len L; have := ll.out; omega
        replace hE := hE.out
        replace hm0 := hm0.out
        generalize rdS L = st at *
        obtain ⟨m, d, k, b⟩ := st
        have gk2 : (k : Int) ≤ 30 := by have := lim.2; simp only at this; omega
        have gd2 : (d : Int) ≤ 30 := by have := lim.1; simp only at this; omega
        change m0 = m at hm0
        subst hm0
        unfold rdE at hE
        simp only at hE
        clear lim hv hR hi
        by_cases z : m0 = 0
        · subst z
          rw [if_pos rfl] at hE
          subst hE
          cases b with
          | true =>
            go_wp2_with fail
            refine bodyPost_ret (results_tmp7 rfl _ _ _) rfl ?_
            exact ⟨rfl, rfl⟩
          | false =>
            go_wp2_with fail
            refine bodyPost_ret (results_tmp7 rfl _ _ _) rfl ?_
            exact ⟨rfl, rfl⟩
        · rw [if_neg z] at hE
          have t8 : ((m0 : Int) != 0) = true := by rw [bne_iff_ne]; omega
          cases b with
          | true =>
            rw [if_pos rfl] at hE
            subst hE
            go_wp2_with fail
            refine bodyPost_ret (results_tmp7 rfl _ _ _) rfl ?_
            refine ⟨?_, rfl⟩
            have e : (d : Int) - (k : Int) - (d : Int) = -(k : Int) := by omega
            rw [e]; rfl
          | false =>
            rw [if_neg (by decide)] at hE
            subst hE
            go_wp2_with fail
            refine bodyPost_ret (results_tmp7 rfl _ _ _) rfl ?_
            exact ⟨rfl, rfl⟩
end Go.Proofs.YtocnpcjpkieogaaGreatDoor

namespace Go.Proofs.YtocnpcjpkieogaaGreatDoor
open Go.ChangeShapes Go.WideShapes Go.ChangeAt Go.RowKit

set_option maxHeartbeats 8000000 in
set_option maxRecDepth 100000 in
theorem rdf_neg (s : ByteArray) (L : List Int) (hL : byI s = 45 :: L) (hR : RdOk L) (h1 : 2 ≤ s.size) (h2 : s.size ≤ 30) (hp : 48 ≤ L.getD 0 0) (hc : ∀ x ∈ L, 46 ≤ x ∧ x ≤ 57) (u : World) :
    Calls Tryz.prog 129 #[.string s] u fun e u' => e = .returned (.tuple #[.int .u64 ((rdS L).1 : Int), .int .i64 (rdE (rdS L)), .bool true, .bool false, .bool false, .int .i64 (s.size : Int), .bool true]) ∧ u = u' := by
  have ll : L.length + 1 = s.size := by have := byI_len s; rw [hL, List.length_cons] at this; exact this
  have at_ : Hid (∀ i (h : i + 1 < s.size), ((s[i + 1].toNat : Nat) : Int) = L.getD i 0) := fun i h => by have := byI_at s (i + 1) h; rw [hL, List.getD_cons_succ] at this; exact this.symm
  obtain ⟨E, hE⟩ : ∃ E, E = rdE (rdS L) := ⟨_, rfl⟩
  rw [← hE]
  obtain ⟨m0, hm0⟩ : ∃ m0, m0 = (rdS L).1 := ⟨_, rfl⟩
  rw [← hm0]
  replace hE := Lib.hid hE
  replace hm0 := Lib.hid hm0
  have hs : 1 < s.size := h1
  have hs0 : 0 < s.size := by omega
  have e0 : ((s[0].toNat : Nat) : Int) = 45 := by have := byI_at s 0 hs0; rw [hL, List.getD_cons_zero] at this; exact this.symm
  have rng : ∀ i (h : i + 1 < s.size), 46 ≤ s[i + 1].toNat ∧ s[i + 1].toNat ≤ 57 := fun i h => by
    have m : L.getD i 0 ∈ L := by
      have : i < L.length := by omega
      simp [List.getD, this]
    have := hc _ m
    have := at_.out i h
    omega
  have a1 : ((s[0].toNat : Int) == 43) = false := beq_eq_false_iff_ne.2 (by omega)
  have a2 : ((s[0].toNat : Int) == 45) = true := by rw [e0]; rfl
  have t0 : decide (s = ByteArray.empty) = false := decide_eq_false (fun e => by rw [e] at hs0; exact absurd hs0 (by decide))
  have x1 : ∀ h : 2 < s.size, ((s[2].toNat : Int) == 120) = false := fun h => beq_eq_false_iff_ne.2 (by have := (show 46 ≤ s[2].toNat ∧ s[2].toNat ≤ 57 from rng 1 h); omega)
  have lo1 : ∀ (h : 2 < s.size) v, Calls Tryz.prog 102 #[.int .u8 ((s[2].toNat : Nat) : Int)] v fun e w' => e = .returned (.int .u8 ((s[2].toNat : Nat) : Int)) ∧ v = w' := fun h v => lower_run _ (by have := (show 46 ≤ s[2].toNat ∧ s[2].toNat ≤ 57 from rng 1 h); omega) (by have := (show 46 ≤ s[2].toNat ∧ s[2].toNat ≤ 57 from rng 1 h); omega) v
  replace hL := Lib.hid hL
  replace ll := Lib.hid ll
  replace hR := Lib.hid hR
  replace hc := Lib.hid hc
  replace rng := Lib.hid rng
  replace x1 := Lib.hid x1
  replace hp := Lib.hid hp
  clear e0
  have gs : (s.size : Int) ≤ 30 := by omega
  have h1' : 0 + 1 ≤ s.size := by omega
  go_enter Tryz.func129, Tryz.ntmps129
  go_wp2
  go_step3
  go_upto_region 12 with fail
  go_cut [54] from 21 to 53 (fun c wx => c = .bool false ∧ wx = u)
  case first =>
    go_wp2_with (go_at_call 102; ((with_reducible refine (lo1 (by omega) _).mono ?_); rintro e w' ⟨rfl, rfl⟩))
    all_goals (go_meet; exact ⟨congrArg Value.bool (by first | rfl | exact x1.out (by omega)), rfl⟩)
  case rest =>
    obtain ⟨rfl, rfl⟩ := hcut
    clear lo1 x1 a1 a2 t0
    go_wp2_with fail
    go_step3
    go_wp2_with fail
    go_loop [2, 5, 7, 9, 13, 14, 15, 16, 17] (fun mv tv iv nv dv gv kv lv pv => ∃ i : Nat, i + 1 ≤ s.size ∧ mv = .int .u64 ((rdS (L.take i)).1 : Int) ∧ tv = .bool false ∧ iv = .int .i64 ((i + 1 : Nat) : Int) ∧ nv = .bool false ∧ dv = .bool (rdS (L.take i)).2.2.2 ∧ gv = .bool (decide (0 < i)) ∧ kv = .int .i64 ((rdS (L.take i)).2.1 : Int) ∧ lv = .int .i64 ((rdS (L.take i)).2.1 : Int) ∧ pv = .int .i64 (((rdS (L.take i)).2.1 : Int) - ((rdS (L.take i)).2.2.1 : Int))) (fun _ _ iv _ _ _ _ _ _ => s.size - (intOf iv).toNat)
    case atStart => exact ⟨0, h1', rfl, rfl, rfl, rfl, rfl, rfl, rfl, rfl, rfl⟩
    case round =>
      obtain ⟨i, hi, rfl, rfl, rfl, rfl, rfl, rfl, rfl, rfl, rfl⟩ := hrel
      by_cases hlt : i + 1 < s.size
      · have hil : i < L.length := by have := ll.out; omega
        have hx := at_.out i hlt
        have ok := hR.out i hil
        have hn : Hid (rdS (L.take (i + 1)) = rdStep (rdS (L.take i)) (L.getD i 0)) := by show _ = _; rw [take_next hil, rdS_app]
        have hz := rdS_zero (L.take i)
        generalize rdS (L.take i) = st at *
        obtain ⟨m, d, k, b⟩ := st
        simp only at ok
        obtain ⟨ok, gk, gd⟩ := ok
        have hg : Hid (decide (0 < i + 1) = true) := decide_eq_true (Nat.succ_pos i)
        rcases ok with ⟨o1, o2⟩ | ⟨o1, o2, o3, o4⟩
        · subst o2
          have hi0 : Hid (decide (0 < i) = true) := decide_eq_true (by
            rcases Nat.eq_zero_or_pos i with r | r
            · have := hp.out; rw [r] at o1; omega
            · exact r)
          have t1 : ((s[i + 1].toNat : Int) == 95) = false := beq_eq_false_iff_ne.2 (by omega)
          have t2 : ((s[i + 1].toNat : Int) == 46) = true := by rw [hx, o1]; rfl
          have hn2 : Hid (rdS (L.take (i + 1)) = (m, d, 0, true)) := by
            show _ = _
            rw [hn.out]; exact if_pos o1
          clear hn hx o1
          go_wp2_with fail
          go_round
          case rel => exact ⟨i + 1, hlt, by rw [hn2.out], rfl, by go_num, rfl, by rw [hn2.out], by rw [hi0.out, hg.out], by rw [hn2.out], by rw [hn2.out], by rw [hn2.out]; exact congrArg (Value.int .i64) (show (d : Int) = (d : Int) - ((0 : Nat) : Int) by omega)⟩
          case measure => simp [intOf]; omega
        · have t1 : ((s[i + 1].toNat : Int) == 95) = false := beq_eq_false_iff_ne.2 (by omega)
          have t2 : ((s[i + 1].toNat : Int) == 46) = false := beq_eq_false_iff_ne.2 (by omega)
          have t3 : decide ((48 : Int) ≤ ((s[i + 1].toNat : Nat) : Int)) = true := decide_eq_true (by omega)
          have t4 : decide (((s[i + 1].toNat : Nat) : Int) ≤ (57 : Int)) = true := decide_eq_true (by omega)
          by_cases z : d = 0 ∧ s[i + 1].toNat = 48
          · obtain ⟨z1, z2⟩ := z
            subst z1
            obtain rfl : m = 0 := hz rfl
            have hn2 : Hid (rdS (L.take (i + 1)) = (0, 0, k + 1, b)) := by
              show _ = _
              rw [hn.out]
              unfold rdStep
              rw [if_neg (by omega), if_pos ⟨rfl, by omega⟩, show (L.getD i 0 - 48).toNat = 0 by omega]
              rfl
            have t5 : ((s[i + 1].toNat : Int) == 48) = true := by rw [z2]; rfl
            have gk2 : (k : Int) ≤ 20 := by omega
            clear hn hx o1 o2 o3 o4 z2 gk gd hz
            go_wp2_with fail
            go_round
            case rel => exact ⟨i + 1, hlt, by rw [hn2.out]; try rfl, rfl, by go_num, rfl, by rw [hn2.out], by rw [hg.out], by rw [hn2.out]; try rfl, by rw [hn2.out]; try rfl, by rw [hn2.out]; refine congrArg (Value.int .i64) ?_; show (_ : Int) = ((0 : Nat) : Int) - ((k + 1 : Nat) : Int); omega⟩
            case measure => simp [intOf]; omega
          · have hn2 : Hid (rdS (L.take (i + 1)) = (m * 10 + (s[i + 1].toNat - 48), d + 1, k + 1, b)) := by
              show _ = _
              rw [hn.out]
              unfold rdStep
              rw [if_neg (by omega), if_neg (fun h => z ⟨h.1, by have := h.2; omega⟩), show (L.getD i 0 - 48).toNat = s[i + 1].toNat - 48 by omega]
            have t6 : decide ((d : Int) < 19) = true := decide_eq_true (by omega)
            have gk2 : (k : Int) ≤ 20 := by omega
            have gd2 : (d : Int) ≤ 18 := by omega
            have gm : (m : Int) ≤ 1000000000000000000 := by omega
            have g1 : 48 ≤ (s[i + 1].toNat : Int) := by omega
            have g2 : (s[i + 1].toNat : Int) ≤ 57 := by omega
            by_cases c : s[i + 1].toNat = 48
            · have t5 : ((s[i + 1].toNat : Int) == 48) = true := by rw [c]; rfl
              have t7 : ((d : Int) == 0) = false := beq_eq_false_iff_ne.2 (by omega)
              clear hn hx o1 o2 o3 o4 gk gd hz z
              go_wp2_with fail
              go_round
              case rel => exact ⟨i + 1, hlt, by rw [hn2.out]; exact congrArg (Value.int .u64) (by omega), rfl, by go_num, rfl, by rw [hn2.out], by rw [hg.out], by rw [hn2.out]; go_num, by rw [hn2.out]; go_num, by rw [hn2.out]; exact congrArg (Value.int .i64) (show (d : Int) - (k : Int) = ((d + 1 : Nat) : Int) - ((k + 1 : Nat) : Int) by omega)⟩
              case measure => simp [intOf]; omega
            · have t5 : ((s[i + 1].toNat : Int) == 48) = false := beq_eq_false_iff_ne.2 (by omega)
              clear hn hx o1 o2 o3 o4 gk gd hz z
              go_wp2_with fail
              go_round
              case rel => exact ⟨i + 1, hlt, by rw [hn2.out]; exact congrArg (Value.int .u64) (by omega), rfl, by go_num, rfl, by rw [hn2.out], by rw [hg.out], by rw [hn2.out]; go_num, by rw [hn2.out]; go_num, by rw [hn2.out]; exact congrArg (Value.int .i64) (show (d : Int) - (k : Int) = ((d + 1 : Nat) : Int) - ((k + 1 : Nat) : Int) by omega)⟩
              case measure => simp [intOf]; omega
      · have ie : i + 1 = s.size := by omega
        have hv : Hid (L.take i = L) := by
          show _ = _
          exact List.take_of_length_le (by have := ll.out; omega)
        rw [hv.out]
        have gs0 : decide (0 < i) = true := decide_eq_true (by omega)
        rw [gs0]
        have lim : (rdS L).2.1 ≤ 30 ∧ (rdS L).2.2.1 ≤ 30 := by have := rdS_len L; have := ll.out; omega
        replace hE := hE.out
        replace hm0 := hm0.out
        generalize rdS L = st at *
        obtain ⟨m, d, k, b⟩ := st
        have gk2 : (k : Int) ≤ 30 := by have := lim.2; simp only at this; omega
        have gd2 : (d : Int) ≤ 30 := by have := lim.1; simp only at this; omega
        change m0 = m at hm0
        subst hm0
        unfold rdE at hE
        simp only at hE
        clear lim hv hR hi
        have ie2 : ((i + 1 : Nat) : Int) = (s.size : Int) := by omega
        rw [ie2]
        clear ie ie2
        by_cases z : m0 = 0
        · subst z
          rw [if_pos rfl] at hE
          subst hE
          cases b with
          | true =>
            go_wp2_with fail
            refine bodyPost_ret (results_tmp7 rfl _ _ _) rfl ?_
            exact ⟨rfl, rfl⟩
          | false =>
            go_wp2_with fail
            refine bodyPost_ret (results_tmp7 rfl _ _ _) rfl ?_
            exact ⟨rfl, rfl⟩
        · rw [if_neg z] at hE
          have t8 : ((m0 : Int) != 0) = true := by rw [bne_iff_ne]; omega
          cases b with
          | true =>
            rw [if_pos rfl] at hE
            subst hE
            go_wp2_with fail
            refine bodyPost_ret (results_tmp7 rfl _ _ _) rfl ?_
            refine ⟨?_, rfl⟩
            have e : (d : Int) - (k : Int) - (d : Int) = -(k : Int) := by omega
            rw [e]; rfl
          | false =>
            rw [if_neg (by decide)] at hE
            subst hE
            go_wp2_with fail
            refine bodyPost_ret (results_tmp7 rfl _ _ _) rfl ?_
            exact ⟨rfl, rfl⟩
end Go.Proofs.YtocnpcjpkieogaaGreatDoor
