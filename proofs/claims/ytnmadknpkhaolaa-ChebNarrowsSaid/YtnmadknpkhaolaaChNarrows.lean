/- Proved here: for all coefficients and numbers the law ChebNarrows returns true: binary32s are off by no more than is told. No conditions. -/
import Derived.Test.YtnmadknpkhaolaaRows
import Derived.Test.YtnmadknpkhaolaaJz20
import Derived.Test.YtnmadknpkhaolaaJz21
namespace Go.Proofs.Ytnmadknpkhaolaa.chebNarrows
open Go.ChangeShapes Go.WideShapes Go.ChangeAt Go.RowKit

set_option maxRecDepth 100000 in
theorem bytesF : Try.prog.bytesOf 30 = 8 := by kernel_rfl
set_option maxRecDepth 100000 in
theorem cellsF : Try.prog.cellsOf 30 = 1 := by kernel_rfl
theorem wf64 {b : Nat} (h : (Lit.float .f64 b).wf = true) : b < 18446744073709551616 := by
  simp only [Lit.wf, decide_eq_true_eq] at h; exact h
set_option maxHeartbeats 2000000 in
set_option maxRecDepth 100000 in
theorem walk (w : World) (ao0 : Option Addr) (cap0 : Nat) (L0 : List Nat) (hc0 : L0.length ≤ cap0) (hw0 : Words L0) (ha0 : At w ao0 L0) (hr0 : cap0 * 8 ≤ 140737488351232) (hn0 : ao0 = none → cap0 = 0) (a1 : Nat) (h1 : a1 < 18446744073709551616) :
    Calls Try.prog 6 #[.slice ao0 L0.length cap0, .float .f64 a1] w fun e w' => e = .returned (.bool true) ∧ Below w.heap.size w w' := by
  have AW := Lib.hid awake13
  obtain ⟨n, hn⟩ : ∃ n, n = L0.length := ⟨_, rfl⟩
  rw [← hn] at hc0 ⊢
  have hrn : n * 8 ≤ 140737488351232 := by omega
  have hm : n ≤ 4611686018427387904 := by omega
  have lt0 : Hid (∀ b o, ao0 = some ⟨b, o, none⟩ → 0 < L0.length → b < w.heap.size) := Lib.hid ha0.lt
  by_cases h0 : errC L0 = 0
  · obtain ⟨hl16, hfc⟩ := errC_zero hw0 h0
    have n16 : n ≤ 16 := by omega
    have hM : ∀ c ∈ L0.map (fun c => wideW (pkW c)), Fc c := fun c hc => by
      obtain ⟨d, hd, rfl⟩ := List.mem_map.1 hc
      exact Fc_pk (hfc d hd)
    have wM : Words (L0.map fun c => wideW (pkW c)) := fun x hx => (hM x hx).lt
    have eM : errC (L0.map fun c => wideW (pkW c)) = 0 := errC_of hM (by simpa using hl16)
    have lM : n = (L0.map fun c => wideW (pkW c)).length := by simpa using hn
    have PK : Hid (∀ W ao cap, At W ao L0 → Calls Try.prog 31 #[.slice ao n cap] W fun e w' => e = .returned (.tuple #[.slice (some ⟨W.heap.size, 0, none⟩) n n, .float .f64 (tdW L0), .int .i64 0]) ∧ FsAt w' (.slice (some ⟨W.heap.size, 0, none⟩) n n) (L0.map pkW) ∧ Below W.heap.size W w') := Lib.hid fun W ao cap h => pack_ok ao cap n W hn hw0 h h0
    have hP : Hid (∀ i, i < n → (L0.map pkW).getD i 0 < 4294967296 ∧ (L0.map fun c => wideW (pkW c)).getD i 0 = wideW ((L0.map pkW).getD i 0)) := Lib.hid fun i hi => by
      have hil : i < L0.length := by omega
      have e1 : (L0.map pkW).getD i 0 = pkW (L0.getD i 0) := by simp [List.getD, hil]
      have e2 : (L0.map fun c => wideW (pkW c)).getD i 0 = wideW (pkW (L0.getD i 0)) := by simp [List.getD, hil]
      rw [e1, e2]
      exact ⟨(pk_ok (hfc _ (by simp [List.getD, hil]))).lt, rfl⟩
    have lP : Hid (n = (L0.map pkW).length) := Lib.hid (by simpa using hn)
    by_cases hx : inM m00 a1 = true
    · obtain ⟨fx, bx⟩ := inM_x00 h1 hx
      have N := nr_ok hfc hl16 fx bx
      have r1 := run_sub _ _ _ N.s
      have r2 := run_add _ _ _ N.a
      have r3 := N.le
      unfold d190 at r2 r3
      have AB := fun w => abs_any _ N.lt w
      have E1 : Hid (∀ W ao cap, At W ao L0 → Calls Try.prog 28 #[.slice ao n cap, .float .f64 a1] W fun e w' => e = .returned (fe (posW (chW a1 L0)) 0) ∧ W = w') := Lib.hid fun W ao cap h => rcheb_ok ao cap n L0 a1 W hn hm hw0 h h1 (by unfold errX; rw [if_pos h0, if_pos hx])
      have E2 : Hid (∀ W ao cap, At W ao (L0.map fun c => wideW (pkW c)) → Calls Try.prog 28 #[.slice ao n cap, .float .f64 a1] W fun e w' => e = .returned (fe (posW (chW a1 (L0.map fun c => wideW (pkW c)))) 0) ∧ W = w') := Lib.hid fun W ao cap h => rcheb_ok ao cap n _ a1 W lM hm wM h h1 (by unfold errX; rw [if_pos eM, if_pos hx])
      clear N fx bx hx
      clear h0 hl16 hfc hM wM eM lM
      generalize tdW L0 = td at *
      generalize posW (chW a1 L0) = ya at *
      generalize posW (chW a1 (L0.map fun c => wideW (pkW c))) = yb at *
      generalize aX td 3751498489599623168 = z1 at *
      generalize lX ya yb = z2 at *
      generalize z2 % 9223372036854775808 = z3 at *
      replace hn := Lib.hid hn
      replace ha0 := Lib.hid ha0
      replace hw0 := Lib.hid hw0
      replace hc0 := Lib.hid hc0
      replace hn0 := Lib.hid hn0
      replace hr0 := Lib.hid hr0
      replace h1 := Lib.hid h1
      replace hm := Lib.hid hm
      go_enter Try.func6, Try.ntmps6
      go_wp2_with fail
      refine (AW.out w).mono ?_
      rintro _ v1 ⟨rfl, hb⟩
      have A1 := Lib.hid (ha0.out.later hb (fun b o e h => lt0.out b o e h))
      replace hb := Lib.hid hb
      clear AW
      go_wp2_with (at_builtin; refine wpList_copy rfl _ _ rfl rfl ao0 n cap0 L0 rfl hn.out hn0.out A1.out hrn ?_)
      intro ac cc v2 C
      have b2 := Lib.hid (hb.out.trans (C.old.mono hb.out.size))
      have AC := Lib.hid C.at_
      clear C A1 hb
      go_wp2_with fail
      refine (PK.out v2 ac cc AC.out).mono ?_
      rintro _ v3 ⟨rfl, hF, hb3⟩
      clear PK AC
      have b3 := Lib.hid (b2.out.trans (hb3.mono b2.out.size))
      replace hF := Lib.hid hF
      clear b2 hb3
      generalize hg : v2.heap.size = g at *
      have N0 : Hid (OwnW v3.heap.size v3 [] (.slice none 0 0) v3) := Lib.hid ⟨Below.refl _ _, World.ownsRow_nil _ _ _ _, Nat.le_refl _, ⟨by simp [r64], by simp [r64]⟩⟩
      go_wp2_with fail
      go_loopw [8, 9] (fun sv iv wr => ∃ i : Nat, i ≤ n ∧ iv = .int .i64 i ∧ OwnW v3.heap.size v3 ((L0.map fun c => wideW (pkW c)).take i) sv wr) (fun _ iv _ => n - (intOf iv).toNat)
      case atStart => exact ⟨0, Nat.zero_le _, rfl, N0.out⟩
      case round =>
        obtain ⟨i, hi, rfl, N⟩ := hrel
        replace N := Lib.hid N
        by_cases hlt : i < n
        · have hil : i < (L0.map pkW).length := by have := lP.out; omega
          obtain ⟨q1, q2⟩ := hP.out i hlt
          have hF2 : FsAt wr (.slice (some ⟨g, 0, none⟩) n n) (L0.map pkW) := hF.out.on N.out.old
          obtain ⟨ao', cap', e', -, -, -, hA⟩ := hF2
          injection e' with e1 e2 e3
          subst e1
          obtain ⟨b, o, e4, hbl, hc0'⟩ := fs_cell hA hil
          simp only [Option.some.injEq, Addr.mk.injEq, and_true] at e4
          obtain ⟨rfl, rfl⟩ := e4
          rw [Nat.zero_add] at hc0'
          have C := fun w => rwide_run _ q1 w
          have TK : Hid ((L0.map fun c => wideW (pkW c)).take i ++ [wideW ((L0.map pkW).getD i 0)] = (L0.map fun c => wideW (pkW c)).take (i + 1)) := Lib.hid (by
            rw [← q2, take_snoc (by have := lP.out; simp at hil ⊢; omega)])
          have lt : ((L0.map fun c => wideW (pkW c)).take i).length = i := by simp at hil ⊢; omega
          have hi2 : (i : Int) < (n : Int) := by omega
          generalize (L0.map fun c => wideW (pkW c)).take i = M at *
          generalize (L0.map pkW).getD i 0 = u at *
          have lM2 : (r64 M).length ≤ 1048576 := by unfold r64; rw [List.length_map, lt]; omega
          replace lM2 := Lib.hid lM2
          obtain ⟨ao2, m2, c2, rfl⟩ := ownW_any N.out
          clear hA hbl hil q1 q2 e2 e3 lt
          go_wp2_with (first | (go_at_call 32; ((with_reducible refine (C _).mono ?_); rintro e w' ⟨rfl, rfl⟩)) | (at_builtin; go_loud (refine wpList_pushR rec64 rfl _ _ rfl (.slice ao2 m2 c2) (r64 M) rfl N.out [.float .f64 (wideW u)] rfl ?pa rfl ?pc ?pd ?_)))
          case pa => intro u hu; rw [List.mem_singleton.1 hu]; rfl
          case pc => have := lM2.out; omega
          case pd => have := lM2.out; unfold maxLen; omega
          intro v' w' N'
          rw [r64_app, TK.out] at N'
          replace N' := Lib.hid N'
          clear N C hc0'
          go_wp2_with fail
          go_roundw
          case rel => exact ⟨i + 1, by omega, by go_num, N'.out⟩
          case measure => simp [intOf]; omega
        · obtain rfl : i = n := by omega
          have e : (L0.map fun c => wideW (pkW c)).take i = L0.map fun c => wideW (pkW c) := List.take_of_length_le (by have := hn.out; simp; omega)
          rw [e] at N
          obtain ⟨ao2, cap2, e2, -, -, hA⟩ := ownW_at N.out
          rw [show (L0.map fun c => wideW (pkW c)).length = i by simpa using hn.out.symm] at e2
          subst e2
          have bz := Lib.hid (b3.out.trans (N.out.old.mono b3.out.size))
          have A0 := ha0.out.later bz.out (fun b o e h => lt0.out b o e h)
          have K1 := fun W h => E1.out W ao0 cap0 h
          have K2 := fun W h => E2.out W ao2 cap2 h
          have K1 := K1 wr A0
          have K2 := K2 wr hA
          unfold fe at K1 K2
          clear A0 hA E1 E2 N b3 hP lP N0 hF
          go_wp2_with (first | (go_at_call 28; ((with_reducible refine K1.mono ?_); rintro e w' ⟨rfl, rfl⟩)) | (go_at_call 28; ((with_reducible refine K2.mono ?_); rintro e w' ⟨rfl, rfl⟩)) | (go_at_call 29; ((with_reducible refine (AB _).mono ?_); rintro e w' ⟨rfl, rfl⟩)))
          go_ret
          exact ⟨rfl, bz.out⟩
    · rw [Bool.not_eq_true] at hx
      have E1 : Hid (∀ W ao cap, At W ao L0 → Calls Try.prog 28 #[.slice ao n cap, .float .f64 a1] W fun e w' => e = .returned (fe 0 3) ∧ W = w') := Lib.hid fun W ao cap h => rcheb_far ao cap n L0 a1 W hn hm hw0 h h1 h0 hx
      have E2 : Hid (∀ W ao cap, At W ao (L0.map fun c => wideW (pkW c)) → Calls Try.prog 28 #[.slice ao n cap, .float .f64 a1] W fun e w' => e = .returned (fe 0 3) ∧ W = w') := Lib.hid fun W ao cap h => rcheb_far ao cap n _ a1 W lM hm wM h h1 eM hx
      clear hx
      clear h0 hl16 hfc hM wM eM lM
      generalize tdW L0 = td at *
      replace hn := Lib.hid hn
      replace ha0 := Lib.hid ha0
      replace hw0 := Lib.hid hw0
      replace hc0 := Lib.hid hc0
      replace hn0 := Lib.hid hn0
      replace hr0 := Lib.hid hr0
      replace h1 := Lib.hid h1
      replace hm := Lib.hid hm
      go_enter Try.func6, Try.ntmps6
      go_wp2_with fail
      refine (AW.out w).mono ?_
      rintro _ v1 ⟨rfl, hb⟩
      have A1 := Lib.hid (ha0.out.later hb (fun b o e h => lt0.out b o e h))
      replace hb := Lib.hid hb
      clear AW
      go_wp2_with (at_builtin; refine wpList_copy rfl _ _ rfl rfl ao0 n cap0 L0 rfl hn.out hn0.out A1.out hrn ?_)
      intro ac cc v2 C
      have b2 := Lib.hid (hb.out.trans (C.old.mono hb.out.size))
      have AC := Lib.hid C.at_
      clear C A1 hb
      go_wp2_with fail
      refine (PK.out v2 ac cc AC.out).mono ?_
      rintro _ v3 ⟨rfl, hF, hb3⟩
      clear PK AC
      have b3 := Lib.hid (b2.out.trans (hb3.mono b2.out.size))
      replace hF := Lib.hid hF
      clear b2 hb3
      generalize hg : v2.heap.size = g at *
      have N0 : Hid (OwnW v3.heap.size v3 [] (.slice none 0 0) v3) := Lib.hid ⟨Below.refl _ _, World.ownsRow_nil _ _ _ _, Nat.le_refl _, ⟨by simp [r64], by simp [r64]⟩⟩
      go_wp2_with fail
      go_loopw [8, 9] (fun sv iv wr => ∃ i : Nat, i ≤ n ∧ iv = .int .i64 i ∧ OwnW v3.heap.size v3 ((L0.map fun c => wideW (pkW c)).take i) sv wr) (fun _ iv _ => n - (intOf iv).toNat)
      case atStart => exact ⟨0, Nat.zero_le _, rfl, N0.out⟩
      case round =>
        obtain ⟨i, hi, rfl, N⟩ := hrel
        replace N := Lib.hid N
        by_cases hlt : i < n
        · have hil : i < (L0.map pkW).length := by have := lP.out; omega
          obtain ⟨q1, q2⟩ := hP.out i hlt
          have hF2 : FsAt wr (.slice (some ⟨g, 0, none⟩) n n) (L0.map pkW) := hF.out.on N.out.old
          obtain ⟨ao', cap', e', -, -, -, hA⟩ := hF2
          injection e' with e1 e2 e3
          subst e1
          obtain ⟨b, o, e4, hbl, hc0'⟩ := fs_cell hA hil
          simp only [Option.some.injEq, Addr.mk.injEq, and_true] at e4
          obtain ⟨rfl, rfl⟩ := e4
          rw [Nat.zero_add] at hc0'
          have C := fun w => rwide_run _ q1 w
          have TK : Hid ((L0.map fun c => wideW (pkW c)).take i ++ [wideW ((L0.map pkW).getD i 0)] = (L0.map fun c => wideW (pkW c)).take (i + 1)) := Lib.hid (by
            rw [← q2, take_snoc (by have := lP.out; simp at hil ⊢; omega)])
          have lt : ((L0.map fun c => wideW (pkW c)).take i).length = i := by simp at hil ⊢; omega
          have hi2 : (i : Int) < (n : Int) := by omega
          generalize (L0.map fun c => wideW (pkW c)).take i = M at *
          generalize (L0.map pkW).getD i 0 = u at *
          have lM2 : (r64 M).length ≤ 1048576 := by unfold r64; rw [List.length_map, lt]; omega
          replace lM2 := Lib.hid lM2
          obtain ⟨ao2, m2, c2, rfl⟩ := ownW_any N.out
          clear hA hbl hil q1 q2 e2 e3 lt
          go_wp2_with (first | (go_at_call 32; ((with_reducible refine (C _).mono ?_); rintro e w' ⟨rfl, rfl⟩)) | (at_builtin; go_loud (refine wpList_pushR rec64 rfl _ _ rfl (.slice ao2 m2 c2) (r64 M) rfl N.out [.float .f64 (wideW u)] rfl ?pa rfl ?pc ?pd ?_)))
          case pa => intro u hu; rw [List.mem_singleton.1 hu]; rfl
          case pc => have := lM2.out; omega
          case pd => have := lM2.out; unfold maxLen; omega
          intro v' w' N'
          rw [r64_app, TK.out] at N'
          replace N' := Lib.hid N'
          clear N C hc0'
          go_wp2_with fail
          go_roundw
          case rel => exact ⟨i + 1, by omega, by go_num, N'.out⟩
          case measure => simp [intOf]; omega
        · obtain rfl : i = n := by omega
          have e : (L0.map fun c => wideW (pkW c)).take i = L0.map fun c => wideW (pkW c) := List.take_of_length_le (by have := hn.out; simp; omega)
          rw [e] at N
          obtain ⟨ao2, cap2, e2, -, -, hA⟩ := ownW_at N.out
          rw [show (L0.map fun c => wideW (pkW c)).length = i by simpa using hn.out.symm] at e2
          subst e2
          have bz := Lib.hid (b3.out.trans (N.out.old.mono b3.out.size))
          have A0 := ha0.out.later bz.out (fun b o e h => lt0.out b o e h)
          have K1 := fun W h => E1.out W ao0 cap0 h
          have K2 := fun W h => E2.out W ao2 cap2 h
          have K1 := K1 wr A0
          have K2 := K2 wr hA
          unfold fe at K1 K2
          clear A0 hA E1 E2 N b3 hP lP N0 hF
          go_wp2_with (first | (go_at_call 28; ((with_reducible refine K1.mono ?_); rintro e w' ⟨rfl, rfl⟩)) | (go_at_call 28; ((with_reducible refine K2.mono ?_); rintro e w' ⟨rfl, rfl⟩)))
          go_ret
          exact ⟨rfl, bz.out⟩
  · have PK : Hid (∀ W ao cap, At W ao L0 → Calls Try.prog 31 #[.slice ao n cap] W fun e w' => e = .returned (.tuple #[.slice none 0 0, .float .f64 0, .int .i64 (errC L0)]) ∧ W = w') := Lib.hid fun W ao cap h => pack_no ao cap n W hn hm hw0 h h0
    have tk : (errC L0 != 0) = true := by simpa using h0
    clear h0
    generalize errC L0 = k at *
    replace hn := Lib.hid hn
    replace ha0 := Lib.hid ha0
    replace hw0 := Lib.hid hw0
    replace hc0 := Lib.hid hc0
    replace hn0 := Lib.hid hn0
    replace hr0 := Lib.hid hr0
    replace h1 := Lib.hid h1
    replace hm := Lib.hid hm
    go_enter Try.func6, Try.ntmps6
    go_wp2_with fail
    refine (AW.out w).mono ?_
    rintro _ v1 ⟨rfl, hb⟩
    have A1 := Lib.hid (ha0.out.later hb (fun b o e h => lt0.out b o e h))
    replace hb := Lib.hid hb
    clear AW
    go_wp2_with (at_builtin; refine wpList_copy rfl _ _ rfl rfl ao0 n cap0 L0 rfl hn.out hn0.out A1.out hrn ?_)
    intro ac cc v2 C
    have b2 := Lib.hid (hb.out.trans (C.old.mono hb.out.size))
    have AC := Lib.hid C.at_
    clear C A1 hb
    go_wp2_with fail
    refine (PK.out v2 ac cc AC.out).mono ?_
    rintro _ v3 ⟨rfl, rfl⟩
    clear PK AC
    go_wp2_with fail
    go_ret
    exact ⟨rfl, b2.out⟩

set_option maxRecDepth 100000 in
theorem own : ownKnob Try.prog.godebug = none := by kernel_rfl
set_option maxRecDepth 100000 in
theorem laidOut : laidOutB Try.prog = true := by kernel_rfl
set_option maxRecDepth 100000 in
theorem lifted (os : Os) (started : os.Started) (H : Type) (enc : TypeId × Value → H) :
    ReturnsInHanded {} Try.checked os 6 .any (Rows.chebNarrowsSpec.pre6 enc Try.prog Try.f6 Rows.chebNarrowsRow.domain false) (Rows.chebNarrowsSpec.post enc Try.prog Try.f6 false true false false) := by
  refine returnsInHanded_of_change_sized (C := Try.checked) own started (by kernel_rfl) Try.func6
    (ChangeSpec.witness6 (enc := enc) (C := Try.checked) false ⟨#[], #[.slice none 0 0, .float .f64 0], []⟩ 8 (by kernel_rfl) (by kernel_rfl) (by kernel_rfl) (by kernel_rfl)) ?_
  intro W base args ds gs before hval0 hW _ hsz0 _
  have hsz : (DataW.weightsEach Try.prog (Try.f6.params.toList ++ Rows.chebNarrowsSpec.plain.varTypes Try.prog) (ds ++ gs)).all (· ≤ reachBytes) = true := hsz0
  clear hsz0
  have hval : ∀ (j : Nat) t v, Try.f6.params[j]? = some t → args[j]? = some v → Value.okWide Try.prog W .any base t v := hval0
  have hW' := hW
  obtain ⟨p, q, hA0, hV, rfl, _, _⟩ := hW
  have hA : DataW.TrodAll enc Try.prog W 0 (fun _ => true) true Try.f6.params.toList args.toList ds p := hA0
  rw [Try.params6] at hA hval hsz
  obtain ⟨v0, vs0, d0, ds0, p0, q0, hargs, rfl, rfl, t0, r0⟩ := trodAll_cons hA
  obtain ⟨v1, vs1, d1, ds1, p1, q1, rfl, rfl, rfl, t1, r1⟩ := trodAll_cons r0
  obtain ⟨rfl, rfl, rfl⟩ := trodAll_nil r1
  obtain rfl : args = #[v0, v1] := by cases args; simp_all
  obtain ⟨rfl, rfl⟩ := trodVars_none hV
  simp only [List.append_nil] at hW'
  have tk0 := t0
  obtain ⟨ao0, cap0, L0, rfl, hc0, hw0, ha0, hx0⟩ := open_flts Try.underlying22 Try.underlying30 cellsF (okWide_slice Try.underlying22 (hval 0 22 v0 rfl rfl)) t0
  have hr0 : cap0 * 8 ≤ 140737488351232 := by
    rcases hx0 with ⟨_, h0⟩ | ⟨_, es, sp, hd, h0⟩
    · rw [h0]; decide
    · subst hd
      have := sized_slice hsz (j := 0) (t := 22) (e := 30) rfl rfl Try.underlying22
      rw [bytesF, h0] at this
      simp only [reachBytes] at this
      omega
  have hn0 : ao0 = none → cap0 = 0 := by
    intro h
    rcases hx0 with ⟨_, h0⟩ | ⟨⟨a, h1⟩, _⟩
    · exact h0
    · rw [h] at h1; simp at h1
  have hlt0 : ∀ x ∈ p0, x.block < W.heap.size := fun x hx => by have := hW'.lt x (by simp [hx]); simpa using this
  obtain ⟨a1, rfl, rfl, rfl, w1⟩ := open_float Try.underlying30 (hval 1 30 v1 rfl rfl) t1
  clear hA0 hval0
  refine (walk W ao0 cap0 L0 hc0 hw0 ha0 hr0 hn0 a1 (wf64 w1)).mono fun e W' ⟨he, hb⟩ => ?_
  subst he
  refine ⟨_, rfl, _, _, _, [], _, [], hW', trodAll_cons_mk (shut_bool Try.underlying4 _) trodAll_mk0, (trodAll_cons_mk (Below.trod laidOut (by kernel_rfl) (of_decide_eq_true (by kernel_rfl)) tk0 hb hlt0) (trodAll_cons_mk (shut_float Try.underlying30 w1) trodAll_mk0)), rfl, hb.frame _, fun h => by cases h⟩

set_option maxRecDepth 100000 in
theorem over : Rows.chebNarrowsRow.holds Try.pinned (OpenSpec.ofChange Rows.chebNarrowsSpec) :=
  OpenClaim.holds_of_wide 6 Try.f6 rfl rfl rfl rfl rfl rfl rfl ⟨rfl, rfl, rfl, rfl, rfl⟩ rfl rfl rfl rfl rfl (by kernel_rfl) Try.func6 (by kernel_rfl)
    (of_decide_eq_true (by kernel_rfl)) (by unfold Func.isWrapper; first | (rw [if_pos (by decide +kernel)]; kernel_rfl) | (rw [if_neg (by decide +kernel)]; exact ⟨rfl, rfl⟩))
    (fun os started H enc _ => lifted os started H enc)

theorem proved : Rows.ChebNarrowsSaid :=
  over
end Go.Proofs.Ytnmadknpkhaolaa.chebNarrows
