/- Proved here: what the texts Svu, Svw prove, one behind the other. -/
import Derived.Test.YtocnpcjpkieogaaGreatDoorJs28
import Derived.Test.YtocnpcjpkieogaaGreatDoorJs19
import Derived.Test.YtocnpcjpkieogaaGreatDoorJs15

namespace Go.Proofs.YtocnpcjpkieogaaGreatDoor
open Go.ChangeShapes Go.WideShapes Go.ChangeAt Go.RowKit Ieee.Own

def isU0 : Value → Bool
  | .int .u8 n => decide (n = 0)
  | _ => false
theorem isU0_eq {v : Value} (h : isU0 v = true) : v = .int .u8 0 := by
  unfold isU0 at h
  split at h
  · rw [decide_eq_true_eq] at h; rw [h]
  · cases h
set_option maxRecDepth 100000 in
theorem zd_all : ((List.range 800).all fun k => (Tryz.zeroCells109[k]?).any isU0) = true := by kernel_rfl
set_option maxRecDepth 100000 in
theorem zd_dig (k : Nat) (hk : k < 800) : Tryz.zeroCells109[k]? = some (.int .u8 0) := by
  have h := List.all_eq_true.1 zd_all k (List.mem_range.2 hk)
  cases e : Tryz.zeroCells109[k]? with
  | none => rw [e] at h; cases h
  | some v => rw [e] at h; rw [isU0_eq h]
set_option maxRecDepth 100000 in
theorem Dc.first (w : World) : Dc w w.heap.size (List.replicate 800 0) 0 0 (w.alloc (.cells Tryz.zeroCells109 109)) := by
  refine ⟨(Below.refl _ _).alloc (Nat.le_refl _) _, Nat.le_refl _, by simp, List.length_replicate, fun k hk => ?_, ?_, ?_, ?_, fun k => World.frozen?_alloc_at _ _ _ _ rfl⟩
  · rw [World.cell?_alloc_at _ _ _ _ rfl, zd_dig k hk, List.getD, List.getElem?_replicate, if_pos hk]
    rfl
  · rw [World.cell?_alloc_at _ _ _ _ rfl]; kernel_rfl
  · rw [World.cell?_alloc_at _ _ _ _ rfl]; kernel_rfl
  · rw [World.cell?_alloc_at _ _ _ _ rfl]; kernel_rfl
set_option maxHeartbeats 4000000 in
set_option maxRecDepth 100000 in
theorem ftoa_slow (b p a E f m K : Nat) (sh : Int) (neg : Bool) (hb : b < 18446744073709551616) (hE : b % 9223372036854775808 / 4503599627370496 = E) (hf : b % 4503599627370496 = f) (hm : f + 4503599627370496 = m) (hn : decide (9223372036854775808 ≤ b) = neg)
    (h1 : 823 ≤ E) (h2 : E ≤ 1053) (hp : p ≤ 9) (hp9 : p = 9) (hd : 18 < fdig E p) (hfit : b % 9223372036854775808 ≤ 4742290407621132288) (hsh : (E : Int) - 1075 = sh) (hK : 0 < K) (hKE : 2 ^ (1075 - E) = K)
    (SH : ∀ (w0 u : World) (a z : Nat) (L : List Int), 10 ^ 15 ≤ m → m < 10 ^ 16 → 1 ≤ z → z ≤ 16 → (∀ j, j < 16 → L.getD j 0 = (dgI 16 m).getD j 0) → (∀ j, z ≤ j → j < 16 → L.getD j 0 = 48) → Dc w0 a L (z : Int) 16 u →
      Calls Tryz.prog 81 #[.pointer (some ⟨a, 0, none⟩), .int .i64 sh] u fun e u' => e = .returned (.tuple #[]) ∧ Shifted w0 a m K u')
    (w0 w : World) (O : Out w0 a [] 0 [] w) (Lw : Lib9 w) :
    Calls Tryz.prog 47 #[.slice (some ⟨a, 0, none⟩) 0 24, .float .f64 b, .int .u8 102, .int .i64 (p : Int)] w fun e w' =>
      ∃ M : List Int, e = .returned (.slice (some ⟨a, 0, none⟩) M.length 24) ∧ (∃ g S, Out w0 a M g S w') ∧ M = fmL b p := by
  obtain ⟨n, hnd⟩ : ∃ n, n = fdig E p := ⟨_, rfl⟩
  have hnx := fdig_exp E p
  rw [← hnd] at hnx
  have X := f64_run b
  have B1 := fl_bits hb
  rw [hE] at B1
  have B2 := sc_and b hb
  rw [hf] at B2
  have B3 := sc_or52 f (by omega)
  rw [hm] at B3
  have tN : ((b : Int) / 9223372036854775808 != 0) = neg := by
    rw [← hn, Bool.eq_iff_iff, bne_iff_ne, decide_eq_true_iff]; omega
  have t1 : ((E : Int) == 2047) = false := by simp; omega
  have t2 : ((E : Int) == 0) = false := by simp; omega
  have t3 : ((m : Int) == 0) = false := by simp; omega
  have b1 : (b : Int) ≤ 18446744073709551615 := by omega
  have b2 : (E : Int) ≤ 1053 := by omega
  have b3 : 823 ≤ (E : Int) := by omega
  have b4 : (p : Int) ≤ 9 := by omega
  have pl : decide ((p : Int) < 0) = false := decide_eq_false (by omega)
  have op := Lw.opt
  have C1 := Lib.hid (fun x (h1 : -100000 ≤ x) (h2 : x ≤ 100000) w => lg10_run x h1 h2 w)
  have n1 : -1000 ≤ n := by rw [hnx]; unfold lg10; split <;> omega
  have n2 : n ≤ 30 := by rw [hnx]; unfold lg10; split <;> omega
  replace O := Lib.hid O
  have HB := Lib.hid hb
  have HE := Lib.hid hE
  have HF := Lib.hid hf
  have HM := Lib.hid hm
  have HN := Lib.hid hn
  have hd' := Lib.hid hd
  replace hp9 := Lib.hid hp9
  clear hb hE hf hm hn hd
  replace hnd := Lib.hid hnd
  replace hnx := Lib.hid hnx
  go_enter Tryz.func47, Tryz.ntmps47
  go_wp2_with fail
  go_quiet (fail)
  go_upto_block 2 with fail
  go_cut [3, 24] from 34 (fun pv nv u => pv = .int .i64 (p : Int) ∧ nv = .int .i64 n ∧ ∃ k, u = w.drewN k)
  case first =>
    by_cases q : 0 ≤ (E : Int) + -1023
    · have e1 : n = 1 + lg10 (1 + ((E : Int) + -1023)) + p := by rw [hnx.out, if_pos q]
      obtain ⟨g, hg⟩ : ∃ g, g = lg10 (1 + ((E : Int) + -1023)) := ⟨_, rfl⟩
      have C := Lib.hid (C1.out (1 + ((E : Int) + -1023)) (by omega) (by omega))
      rw [← hg] at C e1
      replace hg := Lib.hid hg
      have e2 : 1 + g + (p : Int) = n := e1.symm
      have e3 : g = n - 1 - p := by omega
      clear e1
      go_wp2_with fail
      refine (C.out _).mono ?_
      rintro _ v ⟨rfl, rfl⟩
      clear C
      go_wp2_with fail
      go_meet
      case rel => exact ⟨rfl, congrArg (Value.int .i64) (by omega), nq, rfl⟩
    · have e1 : n = 1 + p - lg10 (-((E : Int) + -1023)) := by rw [hnx.out, if_neg q]
      obtain ⟨g, hg⟩ : ∃ g, g = lg10 (-((E : Int) + -1023)) := ⟨_, rfl⟩
      have C := Lib.hid (C1.out (-((E : Int) + -1023)) (by omega) (by omega))
      rw [← hg] at C e1
      replace hg := Lib.hid hg
      have e3 : g = 1 + p - n := by omega
      clear e1
      go_wp2_with fail
      refine (C.out _).mono ?_
      rintro _ v ⟨rfl, rfl⟩
      clear C
      go_wp2_with fail
      go_meet
      case rel => exact ⟨rfl, congrArg (Value.int .i64) (by omega), nq, rfl⟩
  case rest =>
    obtain ⟨rfl, rfl, k, hk⟩ := hcut
    have O1 : Out w0 a [] 0 [] wc := by rw [hk]; exact O.out.drewN k
    have Lw1 : Lib9 wc := by rw [hk]; exact Lw.drewN k
    have op1 := Lw1.opt
    clear op hk O X B1 B2 B3 tN t1 t2 C1 b1
    have gsh : (E : Int) + -1023 - 52 = sh := by omega
    have n18 : decide (n ≤ 18) = false := decide_eq_false (by have := hnd.out; have := hd'.out; omega)
    have n18' : 18 < n := by have := hnd.out; have := hd'.out; omega
    clear Lw1 Lw
    replace O1 := Lib.hid O1
    have m1 : 10 ^ 15 ≤ m := by have := HM.out; rw [show (10 : Nat) ^ 15 = 1000000000000000 by decide]; omega
    have m2 : m < 10 ^ 16 := by have := HM.out; have := HF.out; rw [show (10 : Nat) ^ 16 = 10000000000000000 by decide]; omega
    have A0 := Lib.hid (assign_run wc _ wc.heap.size m (List.replicate 800 0) 0 0 m1 m2 (Dc.first wc))
    have eS : Hid (scN b p = rneD (m * 10 ^ 9) K) := by
      show _ = _
      unfold scN tenN
      rw [HF.out, HM.out, HE.out, if_neg (by have := HE.out; omega), hp9.out, ← rneD_pow, hKE]
    have eF : Hid (fmL b p = sgL neg ++ nuL (scN b p) p) := by
      show _ = _
      unfold fmL; rw [HN.out]
    have hsc := scN_le b p hp (.inr hfit)
    have aw : a < wc.heap.size := O1.out.gin
    generalize scN b p = SC at *
    clear HB HE HF HM HN hnd hnx hd' h1 h2 hfit
    go_wp2_with fail
    refine A0.out.mono ?_
    rintro _ u1 ⟨rfl, z, L1, z1, z2, z3, z4, z5, D1⟩
    clear A0
    have S0 := Lib.hid (SH wc u1 wc.heap.size z L1 m1 m2 z2 z1 z4 z5 D1)
    clear SH z1 z2 z3 z4 z5 D1 m1 m2
    go_wp2_with fail
    refine S0.out.mono ?_
    rintro _ u2 ⟨rfl, L2, Q, wd, y0, r0, dg, y1, r1, r2, eqn, wle, D2⟩
    clear S0
    have dpc := D2.dpc
    have R0 := Lib.hid (round_fin wc u2 wc.heap.size (26 - r0) y0 wd Q (m * 10 ^ 9) K L2 (17 - (r0 : Int)) wle (by omega) (by omega) hK eqn (by omega) dg y1 D2)
    rw [show ((26 - r0 : Nat) : Int) = 17 - (r0 : Int) + (p : Int) by have := hp9.out; omega, ← eS.out] at R0
    have gr : (r0 : Int) ≤ 16 := by omega
    clear dg y1 eqn wle D2
    go_wp2_with fail
    refine R0.out.mono ?_
    rintro _ u3 ⟨rfl, L3, y, dp, y1, fin, D3⟩
    clear R0 dpc
    obtain ⟨f1, f2, f3, f4⟩ := fin
    have w19 : wdN SC ≤ 19 := wdN_le 19 SC (by decide) (by rw [show (10 : Nat) ^ 19 = 10000000000000000000 by decide]; omega)
    have w1p := wdN_pos SC
    obtain ⟨S, hS⟩ : ∃ S, S = (dgI (wdN SC) SC).take y := ⟨_, rfl⟩
    have lS : S.length = y := by rw [hS, List.length_take, dgI_len]; omega
    have O3 : Out w0 a [] wc.heap.size S u3.drew := by
      have o := (O1.out.on D3.old).drewN 1
      refine ⟨o.old, o.base, o.gin, o.there, fun k hk => by simp at hk, o.warm, by omega, fun k hk => ?_⟩
      have c := D3.dig k (by omega)
      rw [show S.getD k 0 = L3.getD k 0 by
        rw [f2 k (by omega), hS]
        simp [List.getD, show k < y by omega]]
      exact c
    have EF := Lib.hid (efg_run w0 u3.drew a wc.heap.size 800 y p dp neg S (.slice (some ⟨wc.heap.size, 0, none⟩) 800 800) lS hp (by omega) (by omega) (by omega) (by omega) (.inr rfl) O3)
    have eM : Hid (sgL neg ++ intL S dp ++ fracL S dp p = fmL b p) := by
      show _ = _
      have hp9' := hp9.out
      rw [eF.out, ← nu_digits SC p y f1 f3, hS, show dp = (wdN SC : Int) + -(p : Int) by omega, List.append_assoc]
    have dpc : u3.drew.cell? ⟨wc.heap.size, 801, none⟩ = some (.int .i64 dp) := D3.dpc
    have ndc : u3.drew.cell? ⟨wc.heap.size, 800, none⟩ = some (.int .i64 (y : Int)) := D3.ndc
    have dpc' := D3.dpc
    have ndc' := D3.ndc
    clear O3 f1 f2 f3 f4 hS lS D3 O1 eS eF
    go_wp2_with fail
    generalize hds : ([some 281, some 282, some 283, some 284, some 285, some 286, some 287, some 288, some 289, some 290, some 291, some 292, some 293, some 294, some 295, some 296, some 297, some 8] : List (Option Tmp)) = ds
    have hap : apartL ds = true := by rw [← hds]; decide
    replace hds := hds.symm
    refine wp_region_mid (Z := List Int) (W := u3) 16 [17] [.slice (some ⟨a, 0, none⟩) 0 24, .bool neg, .pointer (some ⟨wc.heap.size, 0, none⟩), .pointer (some ⟨wc.heap.size, 0, none⟩), .pointer (some ⟨wc.heap.size, 0, none⟩), .slice (some ⟨wc.heap.size, 0, none⟩) 800 800, .pointer (some ⟨wc.heap.size, 0, none⟩), .pointer (some ⟨wc.heap.size, 0, none⟩), .pointer (some ⟨wc.heap.size, 801, none⟩), .int .i64 dp, .pointer (some ⟨wc.heap.size, 0, none⟩), .pointer (some ⟨wc.heap.size, 0, none⟩), .pointer (some ⟨wc.heap.size, 800, none⟩), .int .i64 (y : Int), .int .i64 (p : Int), .int .u8 102, undef, undef]
      (fun z => [.slice (some ⟨a, 0, none⟩) 0 24, .bool neg, .pointer (some ⟨wc.heap.size, 0, none⟩), .pointer (some ⟨wc.heap.size, 0, none⟩), .pointer (some ⟨wc.heap.size, 0, none⟩), .slice (some ⟨wc.heap.size, 0, none⟩) 800 800, .pointer (some ⟨wc.heap.size, 0, none⟩), .pointer (some ⟨wc.heap.size, 0, none⟩), .pointer (some ⟨wc.heap.size, 801, none⟩), .int .i64 dp, .pointer (some ⟨wc.heap.size, 0, none⟩), .pointer (some ⟨wc.heap.size, 0, none⟩), .pointer (some ⟨wc.heap.size, 800, none⟩), .int .i64 (y : Int), .int .i64 (p : Int), .int .u8 102, .slice (some ⟨a, 0, none⟩) z.length 24, .slice (some ⟨a, 0, none⟩) z.length 24])
      (fun z w => Out w0 a z wc.heap.size S w ∧ z = sgL neg ++ intL S dp ++ fracL S dp p) ds (by kernel_rfl) (by rw [hds]; rfl) hap (by decide +kernel) (by decide +kernel) (fun _ => rfl) (by decide) (by decide +kernel) (by decide +kernel) (by decide) ?same ?step ?call ?after ?fin
    case same =>
      intro z k h1 h2
      by_cases hk : k < 18
      · have : k = 0 ∨ k = 1 ∨ k = 2 ∨ k = 3 ∨ k = 4 ∨ k = 5 ∨ k = 6 ∨ k = 7 ∨ k = 8 ∨ k = 9 ∨ k = 10 ∨ k = 11 ∨ k = 12 ∨ k = 13 ∨ k = 14 ∨ k = 15 ∨ k = 16 ∨ k = 17 := by omega
        rcases this with rfl | rfl | rfl | rfl | rfl | rfl | rfl | rfl | rfl | rfl | rfl | rfl | rfl | rfl | rfl | rfl | rfl | rfl
        all_goals first | rfl | exact absurd rfl h1 | (exact absurd h2 (by decide))
      · rw [List.getD_eq_getElem?_getD, List.getElem?_eq_none (by simpa using hk), List.getD_eq_getElem?_getD, List.getElem?_eq_none (by simpa using hk)]
    case step =>
      intro L i o ho h1 h2 hd
      have hi : i < 18 := (Array.getElem?_eq_some_iff.1 ho).1
      have : i = 0 ∨ i = 1 ∨ i = 2 ∨ i = 3 ∨ i = 4 ∨ i = 5 ∨ i = 6 ∨ i = 7 ∨ i = 8 ∨ i = 9 ∨ i = 10 ∨ i = 11 ∨ i = 12 ∨ i = 13 ∨ i = 14 ∨ i = 15 ∨ i = 16 ∨ i = 17 := by omega
      rcases this with rfl | rfl | rfl | rfl | rfl | rfl | rfl | rfl | rfl | rfl | rfl | rfl | rfl | rfl | rfl | rfl | rfl | rfl
      · -- 0
        obtain rfl := Option.some.inj ho
        exact .value (exJ_move _ rfl ((puts_old ds L _ (by rw [hds]; decide)).trans rfl))
      · -- 1
        obtain rfl := Option.some.inj ho
        exact .value (exJ_move _ rfl ((puts_old ds L _ (by rw [hds]; decide)).trans rfl))
      · -- 2
        obtain rfl := Option.some.inj ho
        exact .value (exJ_move _ rfl ((puts_old ds L _ (by rw [hds]; decide)).trans rfl))
      · -- 3
        obtain rfl := Option.some.inj ho
        refine .value ?_
        generalize hA : (puts ds L _).eval = ρ
        have hc : ∀ v, ρ (.const v) = v := fun v => by rw [← hA]; rfl
        have h0 : ρ (.tmp 283) = .pointer (some ⟨wc.heap.size, 0, none⟩) := by rw [← hA]; exact (puts_get 2 ds L _ hap (by rw [hds]; rfl) (hd 2 (by decide +kernel)) (show 283 < 298 by decide))
        unfold execOp
        go_simp
      · -- 4
        obtain rfl := Option.some.inj ho
        refine .value ?_
        generalize hA : (puts ds L _).eval = ρ
        have hc : ∀ v, ρ (.const v) = v := fun v => by rw [← hA]; rfl
        have h0 : ρ (.tmp 284) = .pointer (some ⟨wc.heap.size, 0, none⟩) := by rw [← hA]; exact (puts_get 3 ds L _ hap (by rw [hds]; rfl) (hd 3 (by decide +kernel)) (show 284 < 298 by decide))
        unfold execOp
        go_simp
      · -- 5
        obtain rfl := Option.some.inj ho
        refine .value ?_
        generalize hA : (puts ds L _).eval = ρ
        have hc : ∀ v, ρ (.const v) = v := fun v => by rw [← hA]; rfl
        have h0 : ρ (.tmp 285) = .pointer (some ⟨wc.heap.size, 0, none⟩) := by rw [← hA]; exact (puts_get 4 ds L _ hap (by rw [hds]; rfl) (hd 4 (by decide +kernel)) (show 285 < 298 by decide))
        unfold execOp
        go_simp
      · -- 6
        obtain rfl := Option.some.inj ho
        exact .value (exJ_move _ rfl ((puts_old ds L _ (by rw [hds]; decide)).trans rfl))
      · -- 7
        obtain rfl := Option.some.inj ho
        refine .value ?_
        generalize hA : (puts ds L _).eval = ρ
        have hc : ∀ v, ρ (.const v) = v := fun v => by rw [← hA]; rfl
        have h0 : ρ (.tmp 287) = .pointer (some ⟨wc.heap.size, 0, none⟩) := by rw [← hA]; exact (puts_get 6 ds L _ hap (by rw [hds]; rfl) (hd 6 (by decide +kernel)) (show 287 < 298 by decide))
        unfold execOp
        go_simp
      · -- 8
        obtain rfl := Option.some.inj ho
        refine .value ?_
        generalize hA : (puts ds L _).eval = ρ
        have hc : ∀ v, ρ (.const v) = v := fun v => by rw [← hA]; rfl
        have h0 : ρ (.tmp 288) = .pointer (some ⟨wc.heap.size, 0, none⟩) := by rw [← hA]; exact (puts_get 7 ds L _ hap (by rw [hds]; rfl) (hd 7 (by decide +kernel)) (show 288 < 298 by decide))
        unfold execOp
        go_simp
      · -- 9
        obtain rfl := Option.some.inj ho
        refine .value ?_
        generalize hA : (puts ds L _).eval = ρ
        have hc : ∀ v, ρ (.const v) = v := fun v => by rw [← hA]; rfl
        have h0 : ρ (.tmp 289) = .pointer (some ⟨wc.heap.size, 801, none⟩) := by rw [← hA]; exact (puts_get 8 ds L _ hap (by rw [hds]; rfl) (hd 8 (by decide +kernel)) (show 289 < 298 by decide))
        unfold execOp
        go_simp
      · -- 10
        obtain rfl := Option.some.inj ho
        exact .value (exJ_move _ rfl ((puts_old ds L _ (by rw [hds]; decide)).trans rfl))
      · -- 11
        obtain rfl := Option.some.inj ho
        refine .value ?_
        generalize hA : (puts ds L _).eval = ρ
        have hc : ∀ v, ρ (.const v) = v := fun v => by rw [← hA]; rfl
        have h0 : ρ (.tmp 291) = .pointer (some ⟨wc.heap.size, 0, none⟩) := by rw [← hA]; exact (puts_get 10 ds L _ hap (by rw [hds]; rfl) (hd 10 (by decide +kernel)) (show 291 < 298 by decide))
        unfold execOp
        go_simp
      · -- 12
        obtain rfl := Option.some.inj ho
        refine .value ?_
        generalize hA : (puts ds L _).eval = ρ
        have hc : ∀ v, ρ (.const v) = v := fun v => by rw [← hA]; rfl
        have h0 : ρ (.tmp 292) = .pointer (some ⟨wc.heap.size, 0, none⟩) := by rw [← hA]; exact (puts_get 11 ds L _ hap (by rw [hds]; rfl) (hd 11 (by decide +kernel)) (show 292 < 298 by decide))
        unfold execOp
        go_simp
      · -- 13
        obtain rfl := Option.some.inj ho
        refine .value ?_
        generalize hA : (puts ds L _).eval = ρ
        have hc : ∀ v, ρ (.const v) = v := fun v => by rw [← hA]; rfl
        have h0 : ρ (.tmp 293) = .pointer (some ⟨wc.heap.size, 800, none⟩) := by rw [← hA]; exact (puts_get 12 ds L _ hap (by rw [hds]; rfl) (hd 12 (by decide +kernel)) (show 293 < 298 by decide))
        unfold execOp
        go_simp
      · -- 14
        obtain rfl := Option.some.inj ho
        exact .value (exJ_move _ rfl ((puts_old ds L _ (by rw [hds]; decide)).trans rfl))
      · -- 15
        obtain rfl := Option.some.inj ho
        exact .value (exJ_move _ rfl ((puts_old ds L _ (by rw [hds]; decide)).trans rfl))
      · -- 16
        exact absurd rfl h1
      · -- 17
        exact absurd h2 (by decide)
    case call =>
      intro L o ho hd
      obtain rfl := Option.some.inj ho
      refine ⟨73, #[.slice (some ⟨a, 0, none⟩) 0 24, .bool neg, .slice (some ⟨wc.heap.size, 0, none⟩) 800 800, .int .i64 dp, .int .i64 (y : Int), .int .i64 (p : Int), .int .u8 102, .bool false], ?_, EF.out.mono fun e w3 ⟨M, h1, h2, h3⟩ => ⟨M, h1, h2, h3⟩⟩
      generalize hA : (puts ds L _).eval = ρ
      have hg : ∀ g, ρ (.func g) = .func (.func g) #[] #[] := fun v => by rw [← hA]; rfl
      have hc : ∀ v, ρ (.const v) = v := fun v => by rw [← hA]; rfl
      have h0 : ρ (.tmp 281) = .slice (some ⟨a, 0, none⟩) 0 24 := by rw [← hA]; exact (puts_get 0 ds L _ hap (by rw [hds]; rfl) (hd 0 (by decide +kernel)) (show 281 < 298 by decide))
      have h1 : ρ (.tmp 282) = .bool neg := by rw [← hA]; exact (puts_get 1 ds L _ hap (by rw [hds]; rfl) (hd 1 (by decide +kernel)) (show 282 < 298 by decide))
      have h2 : ρ (.tmp 286) = .slice (some ⟨wc.heap.size, 0, none⟩) 800 800 := by rw [← hA]; exact (puts_get 5 ds L _ hap (by rw [hds]; rfl) (hd 5 (by decide +kernel)) (show 286 < 298 by decide))
      have h3 : ρ (.tmp 290) = .int .i64 dp := by rw [← hA]; exact (puts_get 9 ds L _ hap (by rw [hds]; rfl) (hd 9 (by decide +kernel)) (show 290 < 298 by decide))
      have h4 : ρ (.tmp 294) = .int .i64 (y : Int) := by rw [← hA]; exact (puts_get 13 ds L _ hap (by rw [hds]; rfl) (hd 13 (by decide +kernel)) (show 294 < 298 by decide))
      have h5 : ρ (.tmp 295) = .int .i64 (p : Int) := by rw [← hA]; exact (puts_get 14 ds L _ hap (by rw [hds]; rfl) (hd 14 (by decide +kernel)) (show 295 < 298 by decide))
      have h6 : ρ (.tmp 296) = .int .u8 102 := by rw [← hA]; exact (puts_get 15 ds L _ hap (by rw [hds]; rfl) (hd 15 (by decide +kernel)) (show 296 < 298 by decide))
      have hf := Tryz.func73
      unfold execOp
      go_simp
    case after =>
      intro z L w i o hR ho h2 hd
      have hi : i < 18 := (Array.getElem?_eq_some_iff.1 ho).1
      have : i = 0 ∨ i = 1 ∨ i = 2 ∨ i = 3 ∨ i = 4 ∨ i = 5 ∨ i = 6 ∨ i = 7 ∨ i = 8 ∨ i = 9 ∨ i = 10 ∨ i = 11 ∨ i = 12 ∨ i = 13 ∨ i = 14 ∨ i = 15 ∨ i = 16 ∨ i = 17 := by omega
      rcases this with rfl | rfl | rfl | rfl | rfl | rfl | rfl | rfl | rfl | rfl | rfl | rfl | rfl | rfl | rfl | rfl | rfl | rfl
      · -- 0
        exact absurd h2 (by decide)
      · -- 1
        exact absurd h2 (by decide)
      · -- 2
        exact absurd h2 (by decide)
      · -- 3
        exact absurd h2 (by decide)
      · -- 4
        exact absurd h2 (by decide)
      · -- 5
        exact absurd h2 (by decide)
      · -- 6
        exact absurd h2 (by decide)
      · -- 7
        exact absurd h2 (by decide)
      · -- 8
        exact absurd h2 (by decide)
      · -- 9
        exact absurd h2 (by decide)
      · -- 10
        exact absurd h2 (by decide)
      · -- 11
        exact absurd h2 (by decide)
      · -- 12
        exact absurd h2 (by decide)
      · -- 13
        exact absurd h2 (by decide)
      · -- 14
        exact absurd h2 (by decide)
      · -- 15
        exact absurd h2 (by decide)
      · -- 16
        exact absurd h2 (by decide)
      · -- 17
        obtain rfl := Option.some.inj ho
        exact exJ_assign w rfl (puts_get 16 ds L _ hap (by rw [hds]; rfl) (hd 16 (by decide +kernel)) (show 297 < 298 by decide))
    case fin =>
      intro z w hR
      rw [hds]
      clear hds hap
      simp only [List.map_cons, List.map_nil, List.set_cons_zero, List.set_cons_succ, puts, Act.put, List.setIfInBounds_toArray]
      obtain ⟨O4, hM⟩ := hR
      replace O4 := Lib.hid O4
      replace hM := Lib.hid hM
      go_wp2_with fail
      go_ret
      exact ⟨z, rfl, ⟨_, _, O4.out⟩, hM.out.trans eM.out⟩
end Go.Proofs.YtocnpcjpkieogaaGreatDoor

namespace Go.Proofs.YtocnpcjpkieogaaGreatDoor
open Go.ChangeShapes Go.WideShapes Go.ChangeAt Go.RowKit Ieee.Own

theorem fdig_great : ((List.range 231).all fun e => (List.range 10).all fun p => decide (fdig (823 + e) p ≤ 18) || (decide (p = 9) && (decide (823 + e = 1052) || decide (823 + e = 1053)))) = true := by decide +kernel
theorem ftoaOk_all {b p : Nat} (hb : b < 18446744073709551616) (hp : p ≤ 9) (h : figB b = true) : FtoaOk b p := by
  unfold figB fitB at h
  rw [Bool.and_eq_true, decide_eq_true_eq, decide_eq_true_eq] at h
  obtain ⟨h1, h2⟩ := h
  by_cases z : b % 9223372036854775808 = 0
  · by_cases q : b = 0
    · exact fun w0 w a O Lw => ftoa_zero b p a false (Or.inl ⟨q, rfl⟩) hp w0 w O
    · exact fun w0 w a O Lw => ftoa_zero b p a true (Or.inr ⟨by omega, rfl⟩) hp w0 w O
  · have all := fdig_great
    rw [List.all_eq_true] at all
    have g := all (b % 9223372036854775808 / 4503599627370496 - 823) (List.mem_range.2 (by omega))
    rw [List.all_eq_true] at g
    have c := g p (List.mem_range.2 (by omega))
    rw [show 823 + (b % 9223372036854775808 / 4503599627370496 - 823) = b % 9223372036854775808 / 4503599627370496 by omega] at c
    simp only [Bool.or_eq_true, Bool.and_eq_true, decide_eq_true_eq] at c
    rcases c with c | ⟨c9, c⟩
    · exact fun w0 w a O Lw => ftoa_fast b p a _ _ _ _ hb rfl rfl rfl rfl (by omega) (by omega) hp c h2 w0 w O Lw
    · obtain ⟨E, hE⟩ : ∃ E, b % 9223372036854775808 / 4503599627370496 = E := ⟨_, rfl⟩
      rw [hE] at c
      subst c9
      rcases c with c | c
      · subst c
        exact fun w0 w a O Lw => ftoa_slow b 9 a 1052 _ _ 8388608 (-23) _ hb hE rfl rfl rfl (by decide) (by decide) hp rfl (by decide) h2 (by decide) (by decide) (by decide) (fun w0 u a z L x1 x2 x3 x4 x5 x6 x7 => shift23_run w0 u a _ z L x1 x2 x3 x4 x5 x6 x7) w0 w O Lw
      · subst c
        exact fun w0 w a O Lw => ftoa_slow b 9 a 1053 _ _ 4194304 (-22) _ hb hE rfl rfl rfl (by decide) (by decide) hp rfl (by decide) h2 (by decide) (by decide) (by decide) (fun w0 u a z L x1 x2 x3 x4 x5 x6 x7 => shift22_run w0 u a _ z L x1 x2 x3 x4 x5 x6 x7) w0 w O Lw
end Go.Proofs.YtocnpcjpkieogaaGreatDoor
