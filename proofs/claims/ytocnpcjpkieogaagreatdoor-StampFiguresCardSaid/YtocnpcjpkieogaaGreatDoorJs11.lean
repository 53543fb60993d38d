/- Proved here: what the texts Suk, Sul prove, one behind the other. -/
import Derived.Test.YtocnpcjpkieogaaGreatDoorJs5
import Derived.Test.YtocnpcjpkieogaaGreatDoorJs8
import Derived.Test.YtocnpcjpkieogaaGreatDoorJs9
import Derived.Test.YtocnpcjpkieogaaGreatDoorJs10
import Derived.Deep.CutBlock
import Derived.Lib.ItoaMem

namespace Go.Proofs.YtocnpcjpkieogaaGreatDoor
open Go.ChangeShapes Go.WideShapes Go.ChangeAt Go.RowKit

/-- a number of so many places -/
def nuL (n p : Nat) : List Int := dgI (wdN (n / 10 ^ p)) (n / 10 ^ p) ++ (if 0 < p then [46] ++ dgI p (n % 10 ^ p) else [])
theorem nu_digits (d p z : Nat) (hz : z ≤ wdN d) (h : ∀ k, z ≤ k → k < wdN d → (dgI (wdN d) d).getD k 0 = 48) :
    intL ((dgI (wdN d) d).take z) ((wdN d : Int) + -(p : Int)) ++ fracL ((dgI (wdN d) d).take z) ((wdN d : Int) + -(p : Int)) p = nuL d p := by
  have hl : ((dgI (wdN d) d).take z).length = z := by rw [List.length_take, dgI_len]; omega
  unfold nuL
  congr 1
  · unfold intL
    by_cases q : p < wdN d
    · rw [if_pos (by omega), hl, show ((wdN d : Int) + -(p : Int)).toNat = wdN d - p by omega]
      exact lay_int d p z hz h q
    · rw [if_neg (by omega), Nat.div_eq_of_lt (Nat.lt_of_lt_of_le (wdN_lt d) (Nat.pow_le_pow_right (by decide) (by omega))), wdN_low (by decide)]
      rfl
  · unfold fracL
    by_cases q : 0 < p
    · rw [if_pos q, if_pos q, show (-((wdN d : Int) + -(p : Int))).toNat = p - wdN d by omega, show min p (p - wdN d) = p - wdN d by omega,
        show ((wdN d : Int) + -(p : Int) + ((p - wdN d : Nat) : Int)).toNat = wdN d - p by omega, hl, ← lay_frac d p z hz h]
      simp only [List.append_assoc]
    · rw [if_neg q, if_neg q]
theorem nu_zero (p : Nat) : intL [] 0 ++ fracL [] 0 p = nuL 0 p := by
  unfold nuL intL fracL
  rw [if_neg (by decide), Nat.zero_div, Nat.zero_mod, wdN_low (by decide)]
  congr 1
  by_cases q : 0 < p
  · rw [if_pos q, if_pos q, dgI_zero]
    simp [zer]
  · rw [if_neg q, if_neg q]
/-- what is written of a number -/
def fmL (b p : Nat) : List Int := sgL (decide (9223372036854775808 ≤ b)) ++ nuL (scN b p) p
set_option maxRecDepth 100000 in
theorem f64_run (b : Nat) (w : World) : (callFunc 70 #[.float .f64 b]).run Tryz.prog w = .ok (.value (.int .u64 (b : Int))) w := by
  rw [run_callFunc_extern (e := Extern.MathFloatBits.float64bits) Tryz.func70 (by kernel_rfl) (by kernel_rfl) (by kernel_rfl) (by kernel_rfl)]; rfl
theorem i64_and2047 (n : Nat) (h : n < 9223372036854775808) : bits .and .i64 (n : Int) 2047 = ((n % 2048 : Nat) : Int) := by
  have h63 : (BitVec.ofInt 64 2047).toNat = 2 ^ 11 - 1 := by decide
  have key : (BitVec.ofInt 64 (n : Int) &&& BitVec.ofInt 64 2047).toNat = n % 2048 := by
    rw [BitVec.toNat_and, BitVec.toNat_ofInt, h63, Nat.and_two_pow_sub_one_eq_mod]
    have : ((n : Int) % ((2 ^ 64 : Nat) : Int)).toNat = n := by omega
    rw [this]
  show IntKind.i64.wrap ((BitVec.ofInt 64 (n : Int) &&& BitVec.ofInt 64 2047).toNat : Nat) = _
  rw [key, IntKind.wrap_i64]
  omega
set_option maxHeartbeats 4000000 in
set_option maxRecDepth 100000 in
/-- nothing at all -/
theorem ftoa_zero (b p a : Nat) (neg : Bool) (hb : (b = 0 ∧ neg = false) ∨ (b = 9223372036854775808 ∧ neg = true)) (hp : p ≤ 9) (w0 w : World) (O : Out w0 a [] 0 [] w) :
    Calls Tryz.prog 47 #[.slice (some ⟨a, 0, none⟩) 0 24, .float .f64 b, .int .u8 102, .int .i64 (p : Int)] w fun e w' =>
      ∃ M : List Int, e = .returned (.slice (some ⟨a, 0, none⟩) M.length 24) ∧ (∃ g S, Out w0 a M g S w') ∧ M = fmL b p := by
  have hm : fmL b p = sgL neg ++ intL [] 0 ++ fracL [] 0 p := by
    unfold fmL
    rw [List.append_assoc, nu_zero]
    have h1 : scN b p = 0 := by unfold scN; rw [if_pos (by omega)]
    have h2 : decide (9223372036854775808 ≤ b) = neg := by
      rcases hb with ⟨rfl, rfl⟩ | ⟨rfl, rfl⟩
      · exact decide_eq_false (by omega)
      · exact decide_eq_true (by omega)
    rw [h1, h2]
  have C := Lib.hid (fun w (O : Out w0 a [] 0 [] w) => efg_run w0 w a 0 0 0 p 0 neg [] (.slice none 0 0) rfl hp (by decide) (by decide) (Nat.le_refl _) (by decide) (.inl ⟨by decide, rfl⟩) O)
  rw [← hm] at C
  clear hm
  obtain ⟨L, hL⟩ : ∃ L, L = fmL b p := ⟨_, rfl⟩
  rw [← hL] at C
  rw [← hL]
  have X := f64_run b
  have g1 : (p : Int) ≤ 9 := by omega
  have g2 : decide ((p : Int) < 0) = false := decide_eq_false (by omega)
  have B1 : bits .and .i64 0 2047 = 0 := by decide
  have B2 : bits .and .i64 2048 2047 = 0 := by decide
  have B3 : bits .and .u64 0 4503599627370495 = 0 := by decide
  have B4 : bits .and .u64 9223372036854775808 4503599627370495 = 0 := by decide
  replace O := Lib.hid O
  clear hL
  rcases hb with ⟨rfl, rfl⟩ | ⟨rfl, rfl⟩
  all_goals
    go_enter Tryz.func47, Tryz.ntmps47
    go_wp2_with fail
    go_quiet (fail)
    go_wp2_with fail
    refine (C.out _ ⟨bl_drewN O.out.old _, O.out.base, O.out.gin, O.out.there, O.out.told, O.out.warm, O.out.ne, O.out.src⟩).mono ?_
    rintro _ w1 ⟨M, rfl, O1, rfl⟩
    replace O1 := Lib.hid O1
    clear C
    go_wp2_with fail
    go_ret
    exact ⟨M, rfl, ⟨_, _, O1.out⟩, rfl⟩
end Go.Proofs.YtocnpcjpkieogaaGreatDoor

namespace Go.Proofs.YtocnpcjpkieogaaGreatDoor
open Go.ChangeShapes Go.WideShapes Go.ChangeAt Go.RowKit

theorem bl_frozen {B : Nat} {w w' : World} (h : Below B w w') {g : Nat} (hg : g < B) (k : Nat) : w'.frozen? ⟨g, k, none⟩ = w.frozen? ⟨g, k, none⟩ := by
  unfold World.frozen?
  rw [h.block g hg]
theorem Out.on {w0 u u' : World} {a g : Nat} {M L : List Int} (h : Out w0 a M g L u) (hb : Below u.heap.size u u') : Out w0 a M g L u' := by
  have gin := h.gin
  have c : ∀ k, u'.cell? ⟨a, k, none⟩ = u.cell? ⟨a, k, none⟩ := fun k => hb.cell (p := ⟨a, k, none⟩) gin
  refine ⟨h.old.trans (hb.mono h.old.size), h.base, Nat.lt_of_lt_of_le gin hb.size, fun k hk => ?_, fun k hk => (c k).trans (h.told k hk), fun k => (bl_frozen hb gin k).trans (h.warm k), h.ne, fun k hk => ?_⟩
  · rw [c k]; exact h.there k hk
  · have hg : g < u.heap.size := by
      have := h.src k hk
      rcases Nat.lt_or_ge g u.heap.size with h' | h'
      · exact h'
      · simp [World.cell?, Array.getElem?_eq_none h'] at this
    rw [hb.cell (p := ⟨g, k, none⟩) hg]; exact h.src k hk
/-- the numbers of a float64 -/
theorem fl_bits {b : Nat} (hb : b < 18446744073709551616) : bits .and .i64 ((b : Int) / 4503599627370496) 2047 = ((b % 9223372036854775808 / 4503599627370496 : Nat) : Int) := by
  have := i64_and2047 (b / 4503599627370496) (by omega)
  rw [show ((b / 4503599627370496 : Nat) : Int) = (b : Int) / 4503599627370496 by omega] at this
  rw [this]
  congr 1
  omega
/-- the text of one number, its noughts not struck -/
theorem fm_small (b p : Nat) (neg : Bool) (hn : decide (9223372036854775808 ≤ b) = neg) (h : scN b p = 0) : fmL b p = sgL neg ++ intL [] 0 ++ fracL [] 0 p := by
  unfold fmL
  rw [List.append_assoc, nu_zero, h, hn]
theorem Out.drewN {w0 u : World} {a g : Nat} {M L : List Int} (h : Out w0 a M g L u) (n : Nat) : Out w0 a M g L (u.drewN n) :=
  ⟨bl_drewN h.old n, h.base, h.gin, h.there, h.told, h.warm, h.ne, h.src⟩
theorem Out.buf {w0 u : World} {a g : Nat} {L : List Int} (h : Out w0 a [] g L u) (C : Array Value) (T : TypeId) : Out w0 a [] u.heap.size [] (u.alloc (.cells C T)) := by
  have h := h.on ((Below.refl u.heap.size u).alloc (Nat.le_refl _) (.cells C T))
  exact ⟨h.old, h.base, h.gin, h.there, h.told, h.warm, by have := h.gin; rename_i h0; have := h0.gin; omega, fun k hk => by simp at hk⟩
theorem Out.still {w0 u u' w : World} {a g : Nat} {L S : List Int} (h : Out w0 a [] g L u) (hs : Still g u' w) (hu : u' = u.drew) (hc : ∀ k, k < S.length → w.cell? ⟨g, k, none⟩ = some (.int .u8 (S.getD k 0))) (ha : a < g) : Out w0 a [] g S w := by
  subst hu
  have hd : Out w0 a [] g L u.drew := h.drewN 1
  have hb := hs.1
  have c : ∀ k, w.cell? ⟨a, k, none⟩ = u.drew.cell? ⟨a, k, none⟩ := fun k => hb.cell (p := ⟨a, k, none⟩) ha
  have h0 := h.base
  refine ⟨hd.old.trans (hb.mono (by omega)), h.base, Nat.lt_of_lt_of_le h.gin hb.size, fun k hk => ?_, fun k hk => by simp at hk, fun k => (hs.2.1 _).trans (hd.warm k), h.ne, hc⟩
  rw [c k]; exact hd.there k hk
theorem fdig_exp (E p : Nat) : fdig E p = if 0 ≤ (E : Int) + -1023 then 1 + lg10 (1 + ((E : Int) + -1023)) + p else 1 + p - lg10 (-((E : Int) + -1023)) := by
  unfold fdig
  rw [Int.sub_eq_add_neg]
  by_cases h : 1023 ≤ E
  · rw [if_pos h, if_pos (by omega)]
  · rw [if_neg h, if_neg (by omega)]
set_option maxHeartbeats 8000000 in
set_option maxRecDepth 100000 in
theorem ftoa_fast (b p a E f m : Nat) (neg : Bool) (hb : b < 18446744073709551616) (hE : b % 9223372036854775808 / 4503599627370496 = E) (hf : b % 4503599627370496 = f) (hm : f + 4503599627370496 = m) (hn : decide (9223372036854775808 ≤ b) = neg)
    (h1 : 823 ≤ E) (h2 : E ≤ 1053) (hp : p ≤ 9) (hd : fdig E p ≤ 18) (hfit : b % 9223372036854775808 ≤ 4742290407621132288) (w0 w : World) (O : Out w0 a [] 0 [] w) (Lw : Lib9 w) :
    Calls Tryz.prog 47 #[.slice (some ⟨a, 0, none⟩) 0 24, .float .f64 b, .int .u8 102, .int .i64 (p : Int)] w fun e w' =>
      ∃ M : List Int, e = .returned (.slice (some ⟨a, 0, none⟩) M.length 24) ∧ (∃ g S, Out w0 a M g S w') ∧ M = fmL b p := by
  obtain ⟨n, hnd⟩ : ∃ n, n = fdig E p := ⟨_, rfl⟩
  have hnx := fdig_exp E p
  rw [← hnd] at hnx
  have X := f64_run b
  have B1 := fl_bits hb
  rw [hE] at B1
  have B2 := sc_and b hb
  rw [hf] at B2
  have B3 := sc_or52 f (by omega)
  rw [hm] at B3
  have tN : ((b : Int) / 9223372036854775808 != 0) = neg := by
    rw [← hn, Bool.eq_iff_iff, bne_iff_ne, decide_eq_true_iff]; omega
  have t1 : ((E : Int) == 2047) = false := by simp; omega
  have t2 : ((E : Int) == 0) = false := by simp; omega
  have t3 : ((m : Int) == 0) = false := by simp; omega
  have b1 : (b : Int) ≤ 18446744073709551615 := by omega
  have b2 : (E : Int) ≤ 1053 := by omega
  have b3 : 823 ≤ (E : Int) := by omega
  have b4 : (p : Int) ≤ 9 := by omega
  have pl : decide ((p : Int) < 0) = false := decide_eq_false (by omega)
  have op := Lw.opt
  have C1 := Lib.hid (fun x (h1 : -100000 ≤ x) (h2 : x ≤ 100000) w => lg10_run x h1 h2 w)
  have n1 : -1000 ≤ n := by rw [hnx]; unfold lg10; split <;> omega
  have n2 : n ≤ 18 := by omega
  replace O := Lib.hid O
  have HB := Lib.hid hb
  have HE := Lib.hid hE
  have HF := Lib.hid hf
  have HM := Lib.hid hm
  have HN := Lib.hid hn
  clear hb hE hf hm hn hd
  replace hnd := Lib.hid hnd
  replace hnx := Lib.hid hnx
  go_enter Tryz.func47, Tryz.ntmps47
  go_wp2_with fail
  go_quiet (fail)
  go_upto_block 2 with fail
  go_cut [3, 24] from 34 (fun pv nv u => pv = .int .i64 (p : Int) ∧ nv = .int .i64 n ∧ ∃ k, u = w.drewN k)
  case first =>
    by_cases q : 0 ≤ (E : Int) + -1023
    · have e1 : n = 1 + lg10 (1 + ((E : Int) + -1023)) + p := by rw [hnx.out, if_pos q]
      obtain ⟨g, hg⟩ : ∃ g, g = lg10 (1 + ((E : Int) + -1023)) := ⟨_, rfl⟩
      have C := Lib.hid (C1.out (1 + ((E : Int) + -1023)) (by omega) (by omega))
      rw [← hg] at C e1
      replace hg := Lib.hid hg
      have e2 : 1 + g + (p : Int) = n := e1.symm
      have e3 : g = n - 1 - p := by omega
      clear e1
      go_wp2_with fail
      refine (C.out _).mono ?_
      rintro _ v ⟨rfl, rfl⟩
      clear C
      go_wp2_with fail
      go_meet
      case rel => exact ⟨rfl, congrArg (Value.int .i64) (by omega), nq, rfl⟩
    · have e1 : n = 1 + p - lg10 (-((E : Int) + -1023)) := by rw [hnx.out, if_neg q]
      obtain ⟨g, hg⟩ : ∃ g, g = lg10 (-((E : Int) + -1023)) := ⟨_, rfl⟩
      have C := Lib.hid (C1.out (-((E : Int) + -1023)) (by omega) (by omega))
      rw [← hg] at C e1
      replace hg := Lib.hid hg
      have e3 : g = 1 + p - n := by omega
      clear e1
      go_wp2_with fail
      refine (C.out _).mono ?_
      rintro _ v ⟨rfl, rfl⟩
      clear C
      go_wp2_with fail
      go_meet
      case rel => exact ⟨rfl, congrArg (Value.int .i64) (by omega), nq, rfl⟩
  case rest =>
    obtain ⟨rfl, rfl, k, hk⟩ := hcut
    have O1 : Out w0 a [] 0 [] wc := by rw [hk]; exact O.out.drewN k
    have Lw1 : Lib9 wc := by rw [hk]; exact Lw.drewN k
    have op1 := Lw1.opt
    clear op hk O X B1 B2 B3 tN t1 t2 C1 b1
    by_cases hn0 : n ≤ 0
    · have hn0' : decide (0 < n) = false := decide_eq_false (by omega)
      have hfm : Hid (fmL b p = sgL neg ++ intL [] 0 ++ fracL [] 0 p) := by
        refine fm_small b p neg HN.out ?_
        have ck := chkF_at h1 h2 hp
        unfold chkF at ck
        rw [if_pos (by rw [← hnd.out]; exact hn0), decide_eq_true_eq] at ck
        unfold scN
        split
        · rfl
        · rw [HF.out, HM.out, HE.out]
          have hmt : m * tenN p < 9007199254740992 * 10 ^ p := Nat.mul_lt_mul_of_pos_right (by have := HM.out; have := HF.out; omega) (Nat.pow_pos (by decide))
          unfold rneN
          have q : m * tenN p < 2 ^ (1075 - E) := by omega
          rw [Nat.div_eq_of_lt q, Nat.mod_eq_of_lt q, if_neg (by omega)]
      clear Lw1 HB HE HF HM HN hnd hnx
      replace O1 := Lib.hid O1
      have C := Lib.hid (fun C T => efg_run w0 _ a wc.heap.size 24 0 p 0 neg [] (.slice (some ⟨wc.heap.size, 0, none⟩) 24 24) rfl hp (by decide) (by decide) (Nat.zero_le _) (by decide) (.inr rfl) (O1.out.buf C T))
      go_wp2_with fail
      refine (C.out _ _).mono ?_
      rintro _ w1 ⟨M, rfl, O2, hM⟩
      replace O2 := Lib.hid O2
      replace hM := Lib.hid hM
      clear C O1
      go_wp2_with fail
      go_ret
      exact ⟨M, rfl, ⟨_, _, O2.out⟩, hM.out.trans hfm.out.symm⟩
    · have l2 : m.log2 = 52 := (Nat.log2_eq_iff (by have := HM.out; omega)).2 ⟨by have := HM.out; omega, by have := HM.out; have := HF.out; omega⟩
      have C1 := Lib.hid (ln_run m (by have := HM.out; omega) (by have := HM.out; have := HF.out; omega))
      rw [l2] at C1
      have m1 : (m : Int) ≤ 9007199254740991 := by have := HM.out; have := HF.out; omega
      have m2 : IntKind.u64.wrap ((m : Int) * 2048) = ((m * 2048 : Nat) : Int) := by
        rw [show (m : Int) * 2048 = ((m * 2048 : Nat) : Int) by omega, u64_wrapN, Nat.mod_eq_of_lt (by omega)]
      obtain ⟨j, s, l, j1, hg0, hl, lo1, lo2, hs, s63, pj, hu, hc, hR⟩ := fw_facts h1 h2 hp (by have := hnd.out; omega) (by have := hnd.out; omega) (m := m) (by have := HM.out; have := HF.out; omega)
      have eS : scN b p = rneN (m * tenN p) (1075 - E) := by
        unfold scN
        rw [HF.out, HM.out, HE.out, if_neg (by have := HE.out; omega)]
      rw [← eS] at hR
      obtain ⟨nN, hnN⟩ : ∃ nN : Nat, n = nN := ⟨n.toNat, by omega⟩
      have hnd' := hnd.out
      rw [← hnd', hnN] at hg0 hc
      rw [Int.toNat_natCast] at hc
      obtain ⟨T0, _, a64⟩ := p10_at pj
      have C4 := Lib.hid (fun (C : Array Value) (T : TypeId) => fwf_run (m * 2048) nN p s (p + j + 348) (p10 (p + j)) j ((E : Int) + -1023 - 11 - 52) l (by have := HM.out; have := HF.out; omega) (by omega) (by omega) hp j1
        (by rw [show (E : Int) + -1023 - 11 - 52 + 63 = (E : Int) - 1023 by omega]; exact hg0) hl (by omega) s63 (by omega) (by omega) (by omega) (by omega) a64 rfl hu hc (wc.alloc (.cells C T)) (Lw1.on ((Below.refl _ _).alloc (Nat.le_refl _) _) Lw1.size)
        ((Lw1.on ((Below.refl _ _).alloc (Nat.le_refl _) (.cells C T)) Lw1.size).pow _ _ T0))
      rw [hR] at C4
      rw [show ((m * 2048 : Nat) : Int) = (m : Int) * 2048 by omega] at C4 m2
      have hsc := scN_le b p hp (.inr hfit)
      have hw := wdN_lt (scN b p)
      have hw10 : wdN (scN b p) ≤ p + 10 := by
        refine wdN_le _ _ (by omega) ?_
        rw [eS]
        unfold rneN
        have q1 : m * tenN p / 2 ^ (1075 - E) ≤ 9007199254740992 * 10 ^ p / 2 ^ 22 :=
          Nat.le_trans (Nat.div_le_div_left (Nat.pow_le_pow_right (by decide) (by omega)) (by decide)) (Nat.div_le_div_right (Nat.mul_le_mul_right _ (by have := HM.out; have := HF.out; omega)))
        have q2 : 9007199254740992 * 10 ^ p / 2 ^ 22 = 2147483648 * 10 ^ p := by
          rw [show 9007199254740992 * 10 ^ p = (2147483648 * 10 ^ p) * 2 ^ 22 by rw [Nat.mul_right_comm]]
          exact Nat.mul_div_cancel _ (by decide)
        have q3 : 10 ^ (p + 10) = 10 ^ p * 10000000000 := by rw [Nat.pow_add]
        have q4 : 1 ≤ 10 ^ p := Nat.pow_pos (by decide)
        rw [q3]
        split <;> omega
      subst hnN
      have n3 : 1 ≤ (nN : Int) := by omega
      clear hn0
      have hL : Hid (fmL b p = sgL neg ++ nuL (scN b p) p) := by
        show _ = _
        unfold fmL; rw [HN.out]
      generalize scN b p = D at *
      clear hR eS hu hc hg0 hl hs s63 pj a64 T0 hnd' h1 h2 HB HE HF HM HN hnd hnx lo1 lo2 j1 n1 l2
      replace O1 := Lib.hid O1
      go_wp2_with fail
      refine (C1.out _).mono ?_
      rintro _ v ⟨rfl, rfl⟩
      clear C1
      go_wp2_with fail
      refine (C4.out _ _).mono ?_
      rintro _ w2 ⟨rfl, B2⟩
      clear C4
      have O2 := (O1.out.buf _ _).on B2
      have L2 := (Lw1.on ((Below.refl wc.heap.size wc).alloc (Nat.le_refl _) _) Lw1.size).on B2 (by have := Lw1.size; simp; omega)
      have z0 : Hid (∀ k, k < 24 → w2.cell? ⟨wc.heap.size, k, none⟩ = some (.int .u8 0)) := fun k hk => by
        refine (B2.cell (p := ⟨wc.heap.size, k, none⟩) (by simp)).trans ?_
        refine (World.cell?_alloc_at _ _ _ _ rfl).trans ?_
        exact Lib.zeros24_at k hk
      have z1 : Hid (∀ k, w2.frozen? ⟨wc.heap.size, k, none⟩ = false) := fun k => by
        refine (bl_frozen B2 (by simp) k).trans ?_
        exact World.frozen?_alloc_at _ _ _ _ rfl
      have gw : wc.heap.size < w2.heap.size := by have := B2.size; simp at this; omega
      replace O2 := Lib.hid O2
      replace L2 := Lib.hid L2
      have aw : a < wc.heap.size := O1.out.gin
      clear B2 O1 Lw1 Lw
      by_cases d0 : D = 0
      · subst d0
        have C := Lib.hid (efg_run w0 w2 a wc.heap.size 24 0 p 0 neg [] (.slice (some ⟨wc.heap.size, 0, none⟩) 24 24) rfl hp (by decide) (by decide) (Nat.zero_le _) (by decide) (.inr rfl) O2.out)
        have e0 : Hid (fmL b p = sgL neg ++ intL [] 0 ++ fracL [] 0 p) := by
          show _ = _
          rw [hL.out, List.append_assoc, nu_zero]
        go_wp2_with fail
        refine C.out.mono ?_
        rintro _ w1 ⟨M, rfl, O3, hM⟩
        replace O3 := Lib.hid O3
        replace hM := Lib.hid hM
        clear C
        go_wp2_with fail
        go_ret
        exact ⟨M, rfl, ⟨_, _, O3.out⟩, hM.out.trans e0.out.symm⟩
      · have tD : ((D : Int) != 0) = true := by simp; omega
        have w24 : wdN D ≤ 19 := wdN_le 19 D (by decide) (by omega)
        have w1p : 1 ≤ wdN D := wdN_pos D
        have ND := Lib.hid (nd_run D d0 hsc w2.drew (L2.out.drewN 1))
        have SD := Lib.hid (sd_run wc.heap.size (wdN D) D p (by omega) hw (by omega) hp w2.drew (fun k hk => z0.out k (by omega)) (fun k => z1.out k))
        clear z0 z1
        go_wp2_with fail
        generalize hds : ([some 230, some 231, some 232, some 233, some 234, some 235, some 229, some 236, some 237, some 26, some 27] : List (Option Tmp)) = ds
        have hap : apartL ds = true := by rw [← hds]; decide
        replace hds := hds.symm
        refine wp_region_mid (Z := Nat) (W := w2) 5 [6, 7, 8, 9, 10] [.slice (some ⟨wc.heap.size, 0, none⟩) 24 24, .int .u64 (D : Int), .int .i64 (-(p : Int)), .int .u64 (D : Int), .int .i64 ((wdN D : Nat) : Int), undef, undef, undef, undef, undef, undef]
          (fun z => [.slice (some ⟨wc.heap.size, 0, none⟩) 24 24, .int .u64 (D : Int), .int .i64 (-(p : Int)), .int .u64 (D : Int), .int .i64 ((wdN D : Nat) : Int), .tuple #[.int .i64 ((wdN D : Int) + -(p : Int)), .int .i64 (z : Int)], .tuple #[.int .i64 ((wdN D : Int) + -(p : Int)), .int .i64 (z : Int)], .int .i64 ((wdN D : Int) + -(p : Int)), .int .i64 (z : Int), .int .i64 ((wdN D : Int) + -(p : Int)), .int .i64 (z : Int)])
          (fun z w => z ≤ wdN D ∧ (∀ k, z ≤ k → k < wdN D → (dgI (wdN D) D).getD k 0 = 48) ∧ Still wc.heap.size w2.drew w ∧ ∀ k, k < wdN D → w.cell? ⟨wc.heap.size, k, none⟩ = some (.int .u8 ((dgI (wdN D) D).getD k 0))) ds (by kernel_rfl) (by rw [hds]; rfl) hap (by decide +kernel) (by decide +kernel) (fun _ => rfl) (by decide) (by decide +kernel) (by decide +kernel) (by decide) ?same ?step ?call ?after ?fin
        case same =>
          intro z k h1 h2
          by_cases hk : k < 11
          · have : k = 0 ∨ k = 1 ∨ k = 2 ∨ k = 3 ∨ k = 4 ∨ k = 5 ∨ k = 6 ∨ k = 7 ∨ k = 8 ∨ k = 9 ∨ k = 10 := by omega
            rcases this with rfl | rfl | rfl | rfl | rfl | rfl | rfl | rfl | rfl | rfl | rfl
            all_goals first | rfl | exact absurd rfl h1 | (exact absurd h2 (by decide))
          · rw [List.getD_eq_getElem?_getD, List.getElem?_eq_none (by simpa using hk), List.getD_eq_getElem?_getD, List.getElem?_eq_none (by simpa using hk)]
        case step =>
          intro L i o ho h1 h2 hd
          have hi : i < 11 := (Array.getElem?_eq_some_iff.1 ho).1
          have : i = 0 ∨ i = 1 ∨ i = 2 ∨ i = 3 ∨ i = 4 ∨ i = 5 ∨ i = 6 ∨ i = 7 ∨ i = 8 ∨ i = 9 ∨ i = 10 := by omega
          rcases this with rfl | rfl | rfl | rfl | rfl | rfl | rfl | rfl | rfl | rfl | rfl
          · -- 0
            obtain rfl := Option.some.inj ho
            refine .value ?_
            generalize hA : (puts ds L _).eval = ρ
            have hc : ∀ v, ρ (.const v) = v := fun v => by rw [← hA]; rfl
            have h0 : ρ (.tmp 25) = .pointer (some ⟨wc.heap.size, 0, none⟩) := by rw [← hA]; exact ((puts_old ds L _ (by rw [hds]; decide)).trans rfl)
            unfold execOp
            go_simp
          · -- 1
            obtain rfl := Option.some.inj ho
            exact .value (exJ_move _ rfl ((puts_old ds L _ (by rw [hds]; decide)).trans rfl))
          · -- 2
            obtain rfl := Option.some.inj ho
            exact .value (exJ_move _ rfl ((puts_old ds L _ (by rw [hds]; decide)).trans rfl))
          · -- 3
            obtain rfl := Option.some.inj ho
            exact .value (exJ_move _ rfl ((puts_old ds L _ (by rw [hds]; decide)).trans rfl))
          · -- 4
            obtain rfl := Option.some.inj ho
            refine .call 77 #[.int .u64 (D : Int)] ?_ (ND.out)
            generalize hA : (puts ds L _).eval = ρ
            have hg : ∀ g, ρ (.func g) = .func (.func g) #[] #[] := fun v => by rw [← hA]; rfl
            have h0 : ρ (.tmp 233) = .int .u64 (D : Int) := by rw [← hA]; exact (puts_get 3 ds L _ hap (by rw [hds]; rfl) (hd 3 (by decide +kernel)) (show 233 < 298 by decide))
            have hf := Tryz.func77
            unfold execOp
            go_simp
          · -- 5
            exact absurd rfl h1
          · -- 6
            exact absurd h2 (by decide)
          · -- 7
            exact absurd h2 (by decide)
          · -- 8
            exact absurd h2 (by decide)
          · -- 9
            exact absurd h2 (by decide)
          · -- 10
            exact absurd h2 (by decide)
        case call =>
          intro L o ho hd
          obtain rfl := Option.some.inj ho
          refine ⟨76, #[.slice (some ⟨wc.heap.size, 0, none⟩) 24 24, .int .u64 (D : Int), .int .i64 (-(p : Int)), .int .i64 ((wdN D : Nat) : Int)], ?_, SD.out.mono fun e w3 ⟨z, h1, h2, h3⟩ => ⟨z, h2, h1, h3⟩⟩
          generalize hA : (puts ds L _).eval = ρ
          have hg : ∀ g, ρ (.func g) = .func (.func g) #[] #[] := fun v => by rw [← hA]; rfl
          have h0 : ρ (.tmp 230) = .slice (some ⟨wc.heap.size, 0, none⟩) 24 24 := by rw [← hA]; exact (puts_get 0 ds L _ hap (by rw [hds]; rfl) (hd 0 (by decide +kernel)) (show 230 < 298 by decide))
          have h1 : ρ (.tmp 231) = .int .u64 (D : Int) := by rw [← hA]; exact (puts_get 1 ds L _ hap (by rw [hds]; rfl) (hd 1 (by decide +kernel)) (show 231 < 298 by decide))
          have h2 : ρ (.tmp 232) = .int .i64 (-(p : Int)) := by rw [← hA]; exact (puts_get 2 ds L _ hap (by rw [hds]; rfl) (hd 2 (by decide +kernel)) (show 232 < 298 by decide))
          have h3 : ρ (.tmp 234) = .int .i64 ((wdN D : Nat) : Int) := by rw [← hA]; exact (puts_get 4 ds L _ hap (by rw [hds]; rfl) (hd 4 (by decide +kernel)) (show 234 < 298 by decide))
          have hf := Tryz.func76
          unfold execOp
          go_simp
        case after =>
          intro z L w i o hR ho h2 hd
          have hi : i < 11 := (Array.getElem?_eq_some_iff.1 ho).1
          have : i = 0 ∨ i = 1 ∨ i = 2 ∨ i = 3 ∨ i = 4 ∨ i = 5 ∨ i = 6 ∨ i = 7 ∨ i = 8 ∨ i = 9 ∨ i = 10 := by omega
          rcases this with rfl | rfl | rfl | rfl | rfl | rfl | rfl | rfl | rfl | rfl | rfl
          · -- 0
            exact absurd h2 (by decide)
          · -- 1
            exact absurd h2 (by decide)
          · -- 2
            exact absurd h2 (by decide)
          · -- 3
            exact absurd h2 (by decide)
          · -- 4
            exact absurd h2 (by decide)
          · -- 5
            exact absurd h2 (by decide)
          · -- 6
            obtain rfl := Option.some.inj ho
            exact exJ_move w rfl (puts_get 5 ds L _ hap (by rw [hds]; rfl) (hd 5 (by decide +kernel)) (show 235 < 298 by decide))
          · -- 7
            obtain rfl := Option.some.inj ho
            generalize hA : (puts ds L _).eval = ρ
            have hc : ∀ v, ρ (.const v) = v := fun v => by rw [← hA]; rfl
            have h0 : ρ (.tmp 229) = .tuple #[.int .i64 ((wdN D : Int) + -(p : Int)), .int .i64 (z : Int)] := by rw [← hA]; exact (puts_get 6 ds L _ hap (by rw [hds]; rfl) (hd 6 (by decide +kernel)) (show 229 < 298 by decide))
            unfold execOp
            go_simp
          · -- 8
            obtain rfl := Option.some.inj ho
            generalize hA : (puts ds L _).eval = ρ
            have hc : ∀ v, ρ (.const v) = v := fun v => by rw [← hA]; rfl
            have h0 : ρ (.tmp 229) = .tuple #[.int .i64 ((wdN D : Int) + -(p : Int)), .int .i64 (z : Int)] := by rw [← hA]; exact (puts_get 6 ds L _ hap (by rw [hds]; rfl) (hd 6 (by decide +kernel)) (show 229 < 298 by decide))
            unfold execOp
            go_simp
          · -- 9
            obtain rfl := Option.some.inj ho
            exact exJ_assign w rfl (puts_get 7 ds L _ hap (by rw [hds]; rfl) (hd 7 (by decide +kernel)) (show 236 < 298 by decide))
          · -- 10
            obtain rfl := Option.some.inj ho
            exact exJ_assign w rfl (puts_get 8 ds L _ hap (by rw [hds]; rfl) (hd 8 (by decide +kernel)) (show 237 < 298 by decide))
        case fin =>
          intro z w hR
          rw [hds]
          clear hds hap
          simp only [List.map_cons, List.map_nil, List.set_cons_zero, List.set_cons_succ, puts, Act.put, List.setIfInBounds_toArray]
          obtain ⟨hz, hk48, hst, hcl⟩ := hR
          have hlS : ((dgI (wdN D) D).take z).length = z := by rw [List.length_take, dgI_len]; omega
          have O3 := O2.out.still hst rfl (S := (dgI (wdN D) D).take z) (fun k hk => by
            rw [hlS] at hk
            rw [hcl k (by omega)]
            simp [List.getD, List.getElem?_take_of_lt hk]) aw
          have C := Lib.hid (efg_run w0 w a wc.heap.size 24 z p ((wdN D : Int) + -(p : Int)) neg ((dgI (wdN D) D).take z) (.slice (some ⟨wc.heap.size, 0, none⟩) 24 24) hlS hp (by omega) (by omega) (by omega) (by decide) (.inr rfl) O3)
          have e0 : Hid (fmL b p = sgL neg ++ intL ((dgI (wdN D) D).take z) ((wdN D : Int) + -(p : Int)) ++ fracL ((dgI (wdN D) D).take z) ((wdN D : Int) + -(p : Int)) p) := by
            show _ = _
            rw [hL.out, List.append_assoc, nu_digits D p z hz hk48]
          clear hst hcl O3 hk48 ND SD hlS O2 L2
          go_wp2_with fail
          refine C.out.mono ?_
          rintro _ w1 ⟨M, rfl, O4, hM⟩
          replace O4 := Lib.hid O4
          replace hM := Lib.hid hM
          clear C
          go_wp2_with fail
          go_ret
          exact ⟨M, rfl, ⟨_, _, O4.out⟩, hM.out.trans e0.out.symm⟩
end Go.Proofs.YtocnpcjpkieogaaGreatDoor
