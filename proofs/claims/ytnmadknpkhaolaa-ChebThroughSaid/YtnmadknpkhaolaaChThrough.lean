/- Proved here: for all values the law ChebThrough returns true: the fitted polynomial goes through the values. No conditions. -/
import Derived.Test.YtnmadknpkhaolaaRows
import Derived.Test.YtnmadknpkhaolaaJz22
import Derived.Test.YtnmadknpkhaolaaJz30
import Derived.Test.YtnmadknpkhaolaaJz21
import Derived.Test.YtnmadknpkhaolaaJz16
namespace Go.Proofs.Ytnmadknpkhaolaa.chebThrough
open Go.ChangeShapes Go.WideShapes Go.ChangeAt Go.RowKit

set_option maxRecDepth 100000 in
theorem bytesF : Try.prog.bytesOf 30 = 8 := by kernel_rfl
set_option maxRecDepth 100000 in
theorem cellsF : Try.prog.cellsOf 30 = 1 := by kernel_rfl
set_option maxHeartbeats 2000000 in
set_option maxRecDepth 100000 in
theorem walk (w : World) (ao0 : Option Addr) (cap0 : Nat) (L0 : List Nat) (hc0 : L0.length ≤ cap0) (hw0 : Words L0) (ha0 : At w ao0 L0) (hr0 : cap0 * 8 ≤ 140737488351232) (hn0 : ao0 = none → cap0 = 0) :
    Calls Try.prog 5 #[.slice ao0 L0.length cap0] w fun e w' => e = .returned (.bool true) ∧ Below w.heap.size w w' := by
  have AW := Lib.hid awake13
  obtain ⟨n, hn⟩ : ∃ n, n = L0.length := ⟨_, rfl⟩
  rw [← hn] at hc0 ⊢
  have hrn : n * 8 ≤ 140737488351232 := by omega
  have hm : n ≤ 4611686018427387904 := by omega
  have lt0 : Hid (∀ b o, ao0 = some ⟨b, o, none⟩ → 0 < L0.length → b < w.heap.size) := Lib.hid ha0.lt
  by_cases h0 : errC L0 = 0
  · obtain ⟨hl16, hfc⟩ := errC_zero hw0 h0
    have n16 : n ≤ 16 := by omega
    have FT : Hid (∀ W ao cap, At W ao L0 → Calls Try.prog 14 #[.slice ao n cap] W fun e w' => e = .returned (.tuple #[.slice (some ⟨W.heap.size, 0, none⟩) n n, .int .i64 0]) ∧ BV w' W.heap.size ((ftL L0).map (Value.float .f64)) ∧ Below W.heap.size W w') := Lib.hid fun W ao cap h => cfit_ok ao cap n W hn hw0 h h0
    have wF := ft_words hfc hl16
    have lF : n = (ftL L0).length := by rw [ft_len]; exact hn
    have CK : Hid (∀ W ao cap, At W ao (ftL L0) → Calls Try.prog 27 #[.slice ao n cap] W fun e w' => e = .returned (.int .i64 (errC (ftL L0))) ∧ W = w') := Lib.hid fun W ao cap h => rpcheck_run ao cap n _ W lF hm wF h
    have TH : Hid (errC (ftL L0) = 0 → ∀ k, k < n → ThrOk L0 k) := Lib.hid fun e k hk => thr L0 k hfc hl16 (by omega) e
    have CH : Hid (∀ k, ThrOk L0 k → ∀ W ao cap, At W ao (ftL L0) → Calls Try.prog 28 #[.slice ao n cap, .float .f64 ((ndL L0.length).getD k 0)] W fun e w' => e = .returned (.tuple #[.float .f64 (posW (chW ((ndL L0.length).getD k 0) (ftL L0))), .int .i64 0]) ∧ W = w') := Lib.hid fun k T W ao cap h => rcheb_ok ao cap n _ _ W lF hm wF h T.x T.er
    have TT : Hid (∀ W ao cap, At W ao L0 → Calls Try.prog 30 #[.slice ao n cap] W fun e w' => e = .returned (.float .f64 (ttW L0)) ∧ W = w') := Lib.hid fun W ao cap h => total13_run ao cap n W hn hfc n16 h
    clear wF h0 hl16 hfc lF
    generalize hkk : errC (ftL L0) = kk at *
    replace hn := Lib.hid hn
    replace ha0 := Lib.hid ha0
    replace hw0 := Lib.hid hw0
    replace hc0 := Lib.hid hc0
    replace hn0 := Lib.hid hn0
    replace hr0 := Lib.hid hr0
    replace hm := Lib.hid hm
    replace hrn := Lib.hid hrn
    go_enter Try.func5, Try.ntmps5
    go_wp2_with fail
    refine (AW.out w).mono ?_
    rintro _ v1 ⟨rfl, hb⟩
    have A1 := Lib.hid (ha0.out.later hb (fun b o e h => lt0.out b o e h))
    replace hb := Lib.hid hb
    clear AW
    go_wp2_with (at_builtin; refine wpList_copy rfl _ _ rfl rfl ao0 n cap0 L0 rfl hn.out hn0.out A1.out hrn.out ?_)
    intro ac cc v2 C
    have b2 := Lib.hid (hb.out.trans (C.old.mono hb.out.size))
    have AC := Lib.hid C.at_
    clear C A1 hb
    go_wp2_with fail
    refine (FT.out v2 ac cc AC.out).mono ?_
    rintro _ v3 ⟨rfl, hB, hb3⟩
    have b3 := Lib.hid (b2.out.trans (hb3.mono b2.out.size))
    have BF := Lib.hid hB
    clear FT AC hB hb3 b2
    generalize v2.heap.size = g at *
    by_cases hz : n = 0
    · subst hz
      go_wp2_with fail
      go_ret
      exact ⟨rfl, b3.out⟩
    · have tz : ((n : Int) == 0) = false := by simpa using hz
      have CK1 := Lib.hid (CK.out v3 (some ⟨g, 0, none⟩) n (bv_at BF.out))
      clear CK
      by_cases hc : kk = 0
      · subst hc
        have TH2 := Lib.hid (TH.out (by trivial))
        have ND := Lib.hid (cnodes_ok (n := n) v3 (by omega) n16)
        clear TH
        go_wp2_with (go_at_call 27; ((with_reducible refine CK1.out.mono ?_); rintro e w' ⟨rfl, rfl⟩))
        refine ND.out.mono ?_
        rintro _ v4 ⟨rfl, hN, hb4⟩
        have b4 := Lib.hid (b3.out.trans (hb4.mono b3.out.size))
        have BF4 := Lib.hid (BF.out.on hb4)
        have BN := Lib.hid hN
        clear CK1 ND hN hb4 b3 BF
        generalize hg2 : v3.heap.size = g2 at *
        have w1 : (n : Int) ≤ 16 := by omega
        go_wp2_with fail
        go_loopw [6] (fun iv wr => ∃ k : Nat, k ≤ n ∧ iv = .int .i64 k ∧ wr = v4) (fun iv _ => n - (intOf iv).toNat)
        case atStart => exact ⟨0, Nat.zero_le _, rfl, rfl⟩
        case round =>
          obtain ⟨k, hk, rfl, rfl⟩ := hrel
          by_cases hlt : k < n
          · have T := TH2.out k hlt
            have A0 : At wr ao0 L0 := ha0.out.later b4.out (fun b o e h => lt0.out b o e h)
            have C1 := CH.out k T wr (some ⟨g, 0, none⟩) n (bv_at BF4.out)
            have C2 := TT.out wr ao0 cap0 A0
            have C3 := fun w => abs_any _ T.lt w
            have r1 := run_sub _ _ _ T.s
            have r2 := run_div _ _ _ T.q
            have r3 := run_add _ _ _ T.a
            have r4 := T.le
            unfold d34 at r2 r3 r4
            unfold d180 at r3 r4
            have hkl : k < L0.length := by have := hn.out; omega
            obtain ⟨b, o, rfl, hc0'⟩ := A0 k hkl
            have hnd : wr.cell? ⟨g2, k, none⟩ = some (.float .f64 ((ndL L0.length).getD k 0)) := BN.out.at_ k _ (by rw [hn.out]; simp [List.getD, nd_len, hkl])
            have hi2 : (k : Int) < (n : Int) := by omega
            clear T A0 hkl
            generalize posW (chW ((ndL L0.length).getD k 0) (ftL L0)) = y at *
            generalize (ndL L0.length).getD k 0 = x at *
            generalize L0.getD k 0 = v at *
            generalize aX (qX (ttW L0) 4760304806130614272) 3796534485873328128 = z1 at *
            generalize qX (ttW L0) 4760304806130614272 = z2 at *
            generalize ttW L0 = tt at *
            generalize lX y v = z3 at *
            generalize z3 % 9223372036854775808 = z4 at *
            go_wp2_with (first | (go_at_call 28; ((with_reducible refine C1.mono ?_); rintro e w' ⟨rfl, rfl⟩)) | (go_at_call 30; ((with_reducible refine C2.mono ?_); rintro e w' ⟨rfl, rfl⟩)) | (go_at_call 29; ((with_reducible refine (C3 _).mono ?_); rintro e w' ⟨rfl, rfl⟩)))
            go_roundw
            case rel => exact ⟨k + 1, hlt, by go_num, by first | rfl | trivial⟩
            case measure => simp [intOf]; omega
          · obtain rfl : k = n := by omega
            go_wp2_with fail
            go_ret
            exact ⟨rfl, b4.out⟩
      · have tk : (kk != 0) = true := by simpa using hc
        go_wp2_with (go_at_call 27; ((with_reducible refine CK1.out.mono ?_); rintro e w' ⟨rfl, rfl⟩))
        go_ret
        exact ⟨rfl, b3.out⟩
  · have FT : Hid (∀ W ao cap, At W ao L0 → Calls Try.prog 14 #[.slice ao n cap] W fun e w' => e = .returned (.tuple #[.slice none 0 0, .int .i64 (errC L0)]) ∧ W = w') := Lib.hid fun W ao cap h => cfit_no ao cap n W hn hm hw0 h h0
    have tk : (errC L0 != 0) = true := by simpa using h0
    clear h0
    generalize errC L0 = k at *
    replace hn := Lib.hid hn
    replace ha0 := Lib.hid ha0
    replace hw0 := Lib.hid hw0
    replace hc0 := Lib.hid hc0
    replace hn0 := Lib.hid hn0
    replace hr0 := Lib.hid hr0
    replace hm := Lib.hid hm
    replace hrn := Lib.hid hrn
    go_enter Try.func5, Try.ntmps5
    go_wp2_with fail
    refine (AW.out w).mono ?_
    rintro _ v1 ⟨rfl, hb⟩
    have A1 := Lib.hid (ha0.out.later hb (fun b o e h => lt0.out b o e h))
    replace hb := Lib.hid hb
    clear AW
    go_wp2_with (at_builtin; refine wpList_copy rfl _ _ rfl rfl ao0 n cap0 L0 rfl hn.out hn0.out A1.out hrn.out ?_)
    intro ac cc v2 C
    have b2 := Lib.hid (hb.out.trans (C.old.mono hb.out.size))
    have AC := Lib.hid C.at_
    clear C A1 hb
    go_wp2_with fail
    refine (FT.out v2 ac cc AC.out).mono ?_
    rintro _ v3 ⟨rfl, rfl⟩
    clear FT AC
    go_wp2_with fail
    go_ret
    exact ⟨rfl, b2.out⟩

set_option maxRecDepth 100000 in
theorem own : ownKnob Try.prog.godebug = none := by kernel_rfl
set_option maxRecDepth 100000 in
theorem laidOut : laidOutB Try.prog = true := by kernel_rfl
set_option maxRecDepth 100000 in
theorem lifted (os : Os) (started : os.Started) (H : Type) (enc : TypeId × Value → H) :
    ReturnsInHanded {} Try.checked os 5 .any (Rows.chebThroughSpec.pre6 enc Try.prog Try.f5 Rows.chebThroughRow.domain false) (Rows.chebThroughSpec.post enc Try.prog Try.f5 false true false false) := by
  refine returnsInHanded_of_change_sized (C := Try.checked) own started (by kernel_rfl) Try.func5
    (ChangeSpec.witness6 (enc := enc) (C := Try.checked) false ⟨#[], #[.slice none 0 0], []⟩ 8 (by kernel_rfl) (by kernel_rfl) (by kernel_rfl) (by kernel_rfl)) ?_
  intro W base args ds gs before hval0 hW _ hsz0 _
  have hsz : (DataW.weightsEach Try.prog (Try.f5.params.toList ++ Rows.chebThroughSpec.plain.varTypes Try.prog) (ds ++ gs)).all (· ≤ reachBytes) = true := hsz0
  clear hsz0
  have hval : ∀ (j : Nat) t v, Try.f5.params[j]? = some t → args[j]? = some v → Value.okWide Try.prog W .any base t v := hval0
  have hW' := hW
  obtain ⟨p, q, hA0, hV, rfl, _, _⟩ := hW
  have hA : DataW.TrodAll enc Try.prog W 0 (fun _ => true) true Try.f5.params.toList args.toList ds p := hA0
  rw [Try.params5] at hA hval hsz
  obtain ⟨v0, vs0, d0, ds0, p0, q0, hargs, rfl, rfl, t0, r0⟩ := trodAll_cons hA
  obtain ⟨rfl, rfl, rfl⟩ := trodAll_nil r0
  obtain rfl : args = #[v0] := by cases args; simp_all
  obtain ⟨rfl, rfl⟩ := trodVars_none hV
  simp only [List.append_nil] at hW'
  have tk0 := t0
  obtain ⟨ao0, cap0, L0, rfl, hc0, hw0, ha0, hx0⟩ := open_flts Try.underlying22 Try.underlying30 cellsF (okWide_slice Try.underlying22 (hval 0 22 v0 rfl rfl)) t0
  have hr0 : cap0 * 8 ≤ 140737488351232 := by
    rcases hx0 with ⟨_, h0⟩ | ⟨_, es, sp, hd, h0⟩
    · rw [h0]; decide
    · subst hd
      have := sized_slice hsz (j := 0) (t := 22) (e := 30) rfl rfl Try.underlying22
      rw [bytesF, h0] at this
      simp only [reachBytes] at this
      omega
  have hn0 : ao0 = none → cap0 = 0 := by
    intro h
    rcases hx0 with ⟨_, h0⟩ | ⟨⟨a, h1⟩, _⟩
    · exact h0
    · rw [h] at h1; simp at h1
  have hlt0 : ∀ x ∈ p0, x.block < W.heap.size := fun x hx => by have := hW'.lt x (by simp [hx]); simpa using this
  clear hA0 hval0
  refine (walk W ao0 cap0 L0 hc0 hw0 ha0 hr0 hn0).mono fun e W' ⟨he, hb⟩ => ?_
  subst he
  refine ⟨_, rfl, _, _, _, [], _, [], hW', trodAll_cons_mk (shut_bool Try.underlying4 _) trodAll_mk0, (trodAll_cons_mk (Below.trod laidOut (by kernel_rfl) (of_decide_eq_true (by kernel_rfl)) tk0 hb hlt0) trodAll_mk0), rfl, hb.frame _, fun h => by cases h⟩

set_option maxRecDepth 100000 in
theorem over : Rows.chebThroughRow.holds Try.pinned (OpenSpec.ofChange Rows.chebThroughSpec) :=
  OpenClaim.holds_of_wide 5 Try.f5 rfl rfl rfl rfl rfl rfl rfl ⟨rfl, rfl, rfl, rfl, rfl⟩ rfl rfl rfl rfl rfl (by kernel_rfl) Try.func5 (by kernel_rfl)
    (of_decide_eq_true (by kernel_rfl)) (by unfold Func.isWrapper; first | (rw [if_pos (by decide +kernel)]; kernel_rfl) | (rw [if_neg (by decide +kernel)]; exact ⟨rfl, rfl⟩))
    (fun os started H enc _ => lifted os started H enc)

theorem proved : Rows.ChebThroughSaid :=
  over
end Go.Proofs.Ytnmadknpkhaolaa.chebThrough
