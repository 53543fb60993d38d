/- Proved here: for all frames, numbers, times and vectors the law FrameStill returns true: frames that do not turn are the same at all times. No conditions. -/
import Derived.Test.YtgblpibanagcgaaRows
import Derived.Test.YtgblpibanagcgaaJy8
namespace Go.Proofs.Ytgblpibanagcgaa.frameStill
open Go.ChangeShapes Go.WideShapes Go.ChangeAt Go.RowKit

set_option maxHeartbeats 2000000 in
set_option maxRecDepth 100000 in
theorem walk (w : World) (ao0 : Option Addr) (cap0 : Nat) (L0 : List Fr) (hc0 : L0.length ≤ cap0) (hm0 : cap0 ≤ maxLen) (ha0 : FAt w ao0 L0) (hw0 : FsW L0) (hr0 : cap0 * 56 ≤ 140737488351232) (hn0 : ao0 = none → cap0 = 0) (a1 : Int) (_h1 : (Lit.int .i64 a1).wf = true) (a2 : Nat) (h2 : a2 < 18446744073709551616) (a3 : Nat) (h3 : a3 < 18446744073709551616) (a4 : V3) (h4 : W3 a4) :
    Calls Try.prog 4 #[.slice ao0 L0.length cap0, .int .i64 a1, .float .f64 a2, .float .f64 a3, vecV a4] w fun e w' => e = .returned (.bool true) ∧ Below w.heap.size w w' := by
  have AW := Lib.hid awake10
  obtain ⟨n, hn⟩ : ∃ n, n = L0.length := ⟨_, rfl⟩
  rw [← hn] at hc0 ⊢
  have hrn : n * 56 ≤ 140737488351232 := by omega
  have hmn : n ≤ maxLen := by omega
  have hm2 : n ≤ 4611686018427387904 := by unfold maxLen at hmn; omega
  replace hn := Lib.hid hn
  replace ha0 := Lib.hid ha0
  replace hw0 := Lib.hid hw0
  replace hmn := Lib.hid hmn
  replace hc0 := Lib.hid hc0
  replace hm0 := Lib.hid hm0
  replace hn0 := Lib.hid hn0
  replace hr0 := Lib.hid hr0
  obtain ⟨x1, x2, x3⟩ := a4
  have CT1 := fun w => rtime_run a2 h2 w
  have CT2 := fun w => rtime_run a3 h3 w
  replace h2 := Lib.hid h2
  replace h3 := Lib.hid h3
  replace h4 := Lib.hid h4
  unfold vecV
  dsimp only
  have K0 := kv1 w 25 [.float .f64 x1, .float .f64 x2, .float .f64 x3]
  simp only [objV] at K0
  have hst := @fstore
  replace K0 := Lib.hid K0
  go_enter Try.func4, Try.ntmps4
  go_wp2_with fail
  have K := K0.out
  clear K0
  generalize w.alloc _ = wr at *
  refine (AW.out wr).mono ?_
  rintro _ v1 ⟨rfl, hb⟩
  replace K := K.on hb
  clear hb AW
  have hg := Lib.hid (K.at_ 0 rfl).lt
  have A1 := Lib.hid (ha0.out.below (fun b o e h => ha0.out.lt b o e h) K.old)
  replace K := Lib.hid K
  go_wp2_with (at_builtin; refine wpList_copyR recF rfl _ _ rfl rfl ao0 n cap0 (L0.map frC) rfl (by rw [List.length_map]; exact hn.out) hn0.out A1.out (rows_fr L0) hmn.out hrn ?_)
  intro a1c c1c v2 C
  replace K := Lib.hid (K.out.on C.old)
  have FZ : ∀ b o, a1c = some ⟨b, o, none⟩ → o = 0 ∧ w.heap.size < b ∧ ∀ x, x < n * 7 → v2.frozen? ⟨b, x, none⟩ = false := fun b o e => by
    obtain ⟨e1, e2, e3⟩ := C.own b o e
    exact ⟨e1, Nat.lt_of_lt_of_le hg.out e2, e3⟩
  have c2c := C.room
  have c3c := C.most
  have AC := C.at_
  clear C hg A1
  replace FZ := Lib.hid FZ
  replace AC := Lib.hid AC
  go_wp2_with fail
  replace K := K.out
  go_loopw [12] (fun iv wr => ∃ k : Nat, k ≤ n ∧ iv = .int .i64 k ∧ RAt wr a1c 7 ((zrTo L0 k).map frC) ∧ (∀ b o, a1c = some ⟨b, o, none⟩ → o = 0 ∧ w.heap.size < b ∧ ∀ x, x < n * 7 → wr.frozen? ⟨b, x, none⟩ = false) ∧ Kv w [some (w.heap.size, [.float .f64 x1, .float .f64 x2, .float .f64 x3])] wr) (fun iv _ => n - (intOf iv).toNat)
  case atStart => exact ⟨0, Nat.zero_le _, rfl, by rw [zrTo_zero]; exact AC.out, FZ.out, K⟩
  case round =>
    obtain ⟨k, hk, rfl, R, FZ, K⟩ := hrel
    by_cases hlt : k < n
    · have hkl : k < L0.length := by have := hn.out; omega
      obtain ⟨zs, zg⟩ := zrTo_step hkl
      obtain ⟨b, o, rfl, hb, hcell⟩ := R k _ zg
      obtain ⟨rfl, hbw, hfz⟩ := FZ b o rfl
      have c3 := hcell 3 _ rfl
      have f3 := hfz (k * 7 + 3) (by omega)
      rw [Nat.zero_add] at c3
      have R2 := Lib.hid (R.set1 (rows_fr _) zg (c := 3) rfl (.float .f64 0))
      rw [← zs] at R2
      have K2 := Lib.hid (K.far (g := b) (Nat.le_of_lt hbw) (fun j h us hj => by
        have hl := (List.getElem?_eq_some_iff.1 hj).1
        have : j = 0 := by simpa using hl
        subst this
        simp at hj
        omega) (k * 7 + 3) (.float .f64 0))
      have F2 : Hid (∀ b' o, (some ⟨b, 0, none⟩ : Option Addr) = some ⟨b', o, none⟩ → o = 0 ∧ w.heap.size < b' ∧ ∀ x, x < n * 7 → (wr.setCell ⟨b, k * 7 + 3, none⟩ (.float .f64 0)).frozen? ⟨b', x, none⟩ = false) := Lib.hid fun b' o e => by
        obtain ⟨e1, e2, e3⟩ := FZ b' o e
        exact ⟨e1, e2, fun x hx => by rw [World.frozen?_setCell]; exact e3 x hx⟩
      clear R FZ K hcell hfz zs zg
      go_wp2_with fail
      go_roundw
      case rel => exact ⟨k + 1, hlt, by go_num, R2.out, F2.out, K2.out⟩
      case measure => simp [intOf]; omega
    · obtain rfl : k = n := by omega
      have FA := R
      rw [hn.out, zrTo_all] at FA
      have FA : FAt wr a1c (L0.map zr) := FA
      replace FA := Lib.hid FA
      clear R FZ
      have WZ := Lib.hid (zr_w hw0.out)
      have LZ : Hid (k = (L0.map zr).length) := Lib.hid (by rw [List.length_map]; exact hn.out)
      cases td : witB g24 a2 with
      | false =>
        rw [td] at CT1
        clear td
        replace K := Lib.hid K
        go_wp2_with (go_at_call 10; ((with_reducible refine (CT1 _).mono ?_); rintro e w' ⟨rfl, rfl⟩))
        go_ret
        exact ⟨rfl, K.out.old⟩
      | true =>
        cases tg : witB g24 a3 with
        | false =>
          rw [td] at CT1
          rw [tg] at CT2
          clear td tg
          replace K := Lib.hid K
          go_wp2_with (first | (go_at_call 10; ((with_reducible refine (CT1 _).mono ?_); rintro e w' ⟨rfl, rfl⟩)) | (go_at_call 10; ((with_reducible refine (CT2 _).mono ?_); rintro e w' ⟨rfl, rfl⟩)))
          go_ret
          exact ⟨rfl, K.out.old⟩
        | true =>
          obtain ⟨ER, EI⟩ := still_all (i := a1) WZ.out (zr_zero L0) h2.out h3.out td tg (x1, x2, x3)
          rw [td] at CT1
          rw [tg] at CT2
          have R1 : Hid (∀ W, Below wr.heap.size wr W → Calls Try.prog 6 #[.slice a1c k c1c, .int .i64 a1, .float .f64 a2, .agg #[.float .f64 x1, .float .f64 x2, .float .f64 x3]] W fun e w' => e = .returned (vecE (rootR (L0.map zr) a1 a2 (x1, x2, x3)).1 (rootR (L0.map zr) a1 a2 (x1, x2, x3)).2) ∧ Below W.heap.size W w') :=
            Lib.hid fun W hb => froot_run a1c c1c k (L0.map zr) a1 a2 (x1, x2, x3) W LZ.out hm2 WZ.out (FA.out.below (fun b o e h => FA.out.lt b o e h) hb) h2.out h4.out
          have R2 : Hid (∀ W, Below wr.heap.size wr W → Calls Try.prog 6 #[.slice a1c k c1c, .int .i64 a1, .float .f64 a3, .agg #[.float .f64 x1, .float .f64 x2, .float .f64 x3]] W fun e w' => e = .returned (vecE (rootR (L0.map zr) a1 a2 (x1, x2, x3)).1 (rootR (L0.map zr) a1 a2 (x1, x2, x3)).2) ∧ Below W.heap.size W w') :=
            Lib.hid fun W hb => by
              rw [ER]
              exact froot_run a1c c1c k (L0.map zr) a1 a3 (x1, x2, x3) W LZ.out hm2 WZ.out (FA.out.below (fun b o e h => FA.out.lt b o e h) hb) h3.out h4.out
          have I1 : Hid (∀ W, Below wr.heap.size wr W → Calls Try.prog 7 #[.slice a1c k c1c, .int .i64 a1, .float .f64 a2, .agg #[.float .f64 x1, .float .f64 x2, .float .f64 x3]] W fun e w' => e = .returned (vecE (intoR (L0.map zr) a1 a2 (x1, x2, x3)).1 (intoR (L0.map zr) a1 a2 (x1, x2, x3)).2) ∧ Below W.heap.size W w') :=
            Lib.hid fun W hb => finto_run a1c c1c k (L0.map zr) a1 a2 (x1, x2, x3) W LZ.out hm2 WZ.out (FA.out.below (fun b o e h => FA.out.lt b o e h) hb) h2.out h4.out
          have I2 : Hid (∀ W, Below wr.heap.size wr W → Calls Try.prog 7 #[.slice a1c k c1c, .int .i64 a1, .float .f64 a3, .agg #[.float .f64 x1, .float .f64 x2, .float .f64 x3]] W fun e w' => e = .returned (vecE (intoR (L0.map zr) a1 a2 (x1, x2, x3)).1 (intoR (L0.map zr) a1 a2 (x1, x2, x3)).2) ∧ Below W.heap.size W w') :=
            Lib.hid fun W hb => by
              rw [EI]
              exact finto_run a1c c1c k (L0.map zr) a1 a3 (x1, x2, x3) W LZ.out hm2 WZ.out (FA.out.below (fun b o e h => FA.out.lt b o e h) hb) h3.out h4.out
          clear ER EI FA WZ LZ td tg
          generalize rootR (L0.map zr) a1 a2 (x1, x2, x3) = RA at *
          generalize intoR (L0.map zr) a1 a2 (x1, x2, x3) = IA at *
          obtain ⟨⟨p1, p2, p3⟩, kr⟩ := RA
          obtain ⟨⟨q1, q2, q3⟩, ki⟩ := IA
          unfold vecE vecV at R1 R2 I1 I2
          dsimp only at R1 R2 I1 I2
          have S1 := fun w => samevec_run p1 p2 p3 w
          have S2 := fun w => samevec_run q1 q2 q3 w
          obtain ⟨wb, hwb⟩ : ∃ wb, wb = wr := ⟨_, rfl⟩
          have BB : Below wb.heap.size wb wr := by rw [hwb]; exact Below.refl _ _
          rw [← hwb] at R1 R2 I1 I2
          clear hwb
          replace BB := Lib.hid BB
          have c0_0 := (K.at_ 0 rfl).at_ 0 _ rfl
          have c0_1 := (K.at_ 0 rfl).at_ 1 _ rfl
          have c0_2 := (K.at_ 0 rfl).at_ 2 _ rfl
          replace K := Lib.hid K
          go_wp2_with (first | (go_at_call 10; ((with_reducible refine (CT1 _).mono ?_); rintro e w' ⟨rfl, rfl⟩)) | (go_at_call 10; ((with_reducible refine (CT2 _).mono ?_); rintro e w' ⟨rfl, rfl⟩)))
          replace K := K.out
          refine (R1.out wr BB.out).mono ?_
          rintro _ v3 ⟨rfl, hb⟩
          clear c0_0 c0_1 c0_2
          have BN := BB.out.trans (hb.mono BB.out.size)
          replace K := K.on hb
          clear hb R1
          have hg1 := Lib.hid BN.size
          replace K := K.new 25 [.float .f64 p1, .float .f64 p2, .float .f64 p3]
          simp only [objV, List.cons_append, List.nil_append] at K
          replace BB := Lib.hid (BN.alloc BN.size (objV 25 [.float .f64 p1, .float .f64 p2, .float .f64 p3]))
          unfold objV at BB
          clear BN
          have c0_0 := (K.at_ 0 rfl).at_ 0 _ rfl
          have c0_1 := (K.at_ 0 rfl).at_ 1 _ rfl
          have c0_2 := (K.at_ 0 rfl).at_ 2 _ rfl
          replace K := Lib.hid K
          go_wp2_with fail
          replace K := K.out
          generalize v3.alloc _ = w3 at *
          generalize v3.heap.size = g1 at *
          refine (R2.out w3 BB.out).mono ?_
          rintro _ v4 ⟨rfl, hb⟩
          clear c0_0 c0_1 c0_2
          have BN := BB.out.trans (hb.mono BB.out.size)
          replace K := K.on hb
          clear hb R2
          have hg2 := Lib.hid BN.size
          replace K := K.new 25 [.float .f64 p1, .float .f64 p2, .float .f64 p3]
          simp only [objV, List.cons_append, List.nil_append] at K
          replace BB := Lib.hid (BN.alloc BN.size (objV 25 [.float .f64 p1, .float .f64 p2, .float .f64 p3]))
          unfold objV at BB
          clear BN
          have c0_0 := (K.at_ 0 rfl).at_ 0 _ rfl
          have c0_1 := (K.at_ 0 rfl).at_ 1 _ rfl
          have c0_2 := (K.at_ 0 rfl).at_ 2 _ rfl
          have c1_0 := (K.at_ 1 rfl).at_ 0 _ rfl
          have c1_1 := (K.at_ 1 rfl).at_ 1 _ rfl
          have c1_2 := (K.at_ 1 rfl).at_ 2 _ rfl
          have c2_0 := (K.at_ 2 rfl).at_ 0 _ rfl
          have c2_1 := (K.at_ 2 rfl).at_ 1 _ rfl
          have c2_2 := (K.at_ 2 rfl).at_ 2 _ rfl
          replace K := Lib.hid K
          go_wp2_with fail
          refine (S1 _).mono ?_
          rintro _ v5 ⟨rfl, hb⟩
          clear c0_0 c0_1 c0_2 c1_0 c1_1 c1_2 c2_0 c2_1 c2_2
          have BN := BB.out.trans (hb.mono BB.out.size)
          replace K := K.out.on hb
          clear hb BB
          replace BB := Lib.hid BN
          clear BN
          have c0_0 := (K.at_ 0 rfl).at_ 0 _ rfl
          have c0_1 := (K.at_ 0 rfl).at_ 1 _ rfl
          have c0_2 := (K.at_ 0 rfl).at_ 2 _ rfl
          have tk : (kr != kr) = false := by simp
          replace K := Lib.hid K
          generalize v4.heap.size = g2 at *
          go_wp2_with fail
          replace K := K.out
          refine (I1.out v5 BB.out).mono ?_
          rintro _ v6 ⟨rfl, hb⟩
          clear c0_0 c0_1 c0_2
          have BN := BB.out.trans (hb.mono BB.out.size)
          replace K := K.on hb
          clear hb I1
          have c1_0' := (K.at_ 1 rfl).at_ 0 _ rfl
          have f1_0' := (K.at_ 1 rfl).fr 0 _ rfl
          have c1_1' := (K.at_ 1 rfl).at_ 1 _ rfl
          have f1_1' := (K.at_ 1 rfl).fr 1 _ rfl
          have c1_2' := (K.at_ 1 rfl).at_ 2 _ rfl
          have f1_2' := (K.at_ 1 rfl).fr 2 _ rfl
          replace K := K.put 1 rfl 0 [.float .f64 q1, .float .f64 q2, .float .f64 q3] (by simp)
          simp only [putV, setV, List.set_cons_zero, List.set_cons_succ] at K
          replace BB := Lib.hid (((BN.setCell (p := ⟨g1, 0, none⟩) hg1.out (.float .f64 q1)).setCell (p := ⟨g1, 1, none⟩) hg1.out (.float .f64 q2)).setCell (p := ⟨g1, 2, none⟩) hg1.out (.float .f64 q3))
          clear BN
          have c0_0 := (K.at_ 0 rfl).at_ 0 _ rfl
          have c0_1 := (K.at_ 0 rfl).at_ 1 _ rfl
          have c0_2 := (K.at_ 0 rfl).at_ 2 _ rfl
          replace K := Lib.hid K
          go_wp2_with fail
          replace K := K.out
          generalize World.setCell _ _ _ = w6 at *
          refine (I2.out w6 BB.out).mono ?_
          rintro _ v7 ⟨rfl, hb⟩
          clear c0_0 c0_1 c0_2 c1_0' f1_0' c1_1' f1_1' c1_2' f1_2'
          have BN := BB.out.trans (hb.mono BB.out.size)
          replace K := K.on hb
          clear hb I2
          have c2_0' := (K.at_ 2 rfl).at_ 0 _ rfl
          have f2_0' := (K.at_ 2 rfl).fr 0 _ rfl
          have c2_1' := (K.at_ 2 rfl).at_ 1 _ rfl
          have f2_1' := (K.at_ 2 rfl).fr 1 _ rfl
          have c2_2' := (K.at_ 2 rfl).at_ 2 _ rfl
          have f2_2' := (K.at_ 2 rfl).fr 2 _ rfl
          replace K := K.put 2 rfl 0 [.float .f64 q1, .float .f64 q2, .float .f64 q3] (by simp)
          simp only [putV, setV, List.set_cons_zero, List.set_cons_succ] at K
          replace BB := Lib.hid (((BN.setCell (p := ⟨g2, 0, none⟩) hg2.out (.float .f64 q1)).setCell (p := ⟨g2, 1, none⟩) hg2.out (.float .f64 q2)).setCell (p := ⟨g2, 2, none⟩) hg2.out (.float .f64 q3))
          clear BN
          have c1_0 := (K.at_ 1 rfl).at_ 0 _ rfl
          have c1_1 := (K.at_ 1 rfl).at_ 1 _ rfl
          have c1_2 := (K.at_ 1 rfl).at_ 2 _ rfl
          have c2_0 := (K.at_ 2 rfl).at_ 0 _ rfl
          have c2_1 := (K.at_ 2 rfl).at_ 1 _ rfl
          have c2_2 := (K.at_ 2 rfl).at_ 2 _ rfl
          replace K := Lib.hid K
          go_wp2_with fail
          replace K := K.out
          generalize World.setCell _ _ _ = w7 at *
          refine (S2 _).mono ?_
          rintro _ v8 ⟨rfl, hb⟩
          clear c1_0 c1_1 c1_2 c2_0 c2_1 c2_2 c2_0' f2_0' c2_1' f2_1' c2_2' f2_2'
          replace K := Lib.hid (K.on hb)
          have tk2 : (ki == ki) = true := by simp
          clear hb BB
          go_wp2_with fail
          go_ret
          exact ⟨rfl, K.out.old⟩

set_option maxRecDepth 100000 in
theorem own : ownKnob Try.prog.godebug = none := by kernel_rfl
set_option maxRecDepth 100000 in
theorem laidOut : laidOutB Try.prog = true := by kernel_rfl
set_option maxRecDepth 100000 in
theorem bytesQ : Try.prog.bytesOf 34 = 56 := by kernel_rfl
set_option maxRecDepth 100000 in
theorem lifted (os : Os) (started : os.Started) (H : Type) (enc : TypeId × Value → H) :
    ReturnsInHanded {} Try.checked os 4 .any (Rows.frameStillSpec.pre6 enc Try.prog Try.f4 Rows.frameStillRow.domain false) (Rows.frameStillSpec.post enc Try.prog Try.f4 false true false false) := by
  refine returnsInHanded_of_change_sized (C := Try.checked) own started (by kernel_rfl) Try.func4
    (ChangeSpec.witness6 (enc := enc) (C := Try.checked) false ⟨#[], #[.slice none 0 0, .int .i64 0, .float .f64 0, .float .f64 0, .agg #[.float .f64 0, .float .f64 0, .float .f64 0]], []⟩ 8 (by kernel_rfl) (by kernel_rfl) (by kernel_rfl) (by kernel_rfl)) ?_
  intro W base args ds gs before hval0 hW _ hsz0 _
  have hsz : (DataW.weightsEach Try.prog (Try.f4.params.toList ++ Rows.frameStillSpec.plain.varTypes Try.prog) (ds ++ gs)).all (· ≤ reachBytes) = true := hsz0
  clear hsz0
  have hval : ∀ (j : Nat) t v, Try.f4.params[j]? = some t → args[j]? = some v → Value.okWide Try.prog W .any base t v := hval0
  have hW' := hW
  obtain ⟨p, q, hA0, hV, rfl, _, _⟩ := hW
  have hA : DataW.TrodAll enc Try.prog W 0 (fun _ => true) true Try.f4.params.toList args.toList ds p := hA0
  rw [Try.params4] at hA hval hsz
  obtain ⟨v0, vs0, d0, ds0, p0, q0, hargs, rfl, rfl, t0, r0⟩ := trodAll_cons hA
  obtain ⟨v1, vs1, d1, ds1, p1, q1, rfl, rfl, rfl, t1, r1⟩ := trodAll_cons r0
  obtain ⟨v2, vs2, d2, ds2, p2, q2, rfl, rfl, rfl, t2, r2⟩ := trodAll_cons r1
  obtain ⟨v3, vs3, d3, ds3, p3, q3, rfl, rfl, rfl, t3, r3⟩ := trodAll_cons r2
  obtain ⟨v4, vs4, d4, ds4, p4, q4, rfl, rfl, rfl, t4, r4⟩ := trodAll_cons r3
  obtain ⟨rfl, rfl, rfl⟩ := trodAll_nil r4
  obtain rfl : args = #[v0, v1, v2, v3, v4] := by cases args; simp_all
  obtain ⟨rfl, rfl⟩ := trodVars_none hV
  simp only [List.append_nil] at hW'
  have tk0 := t0
  obtain ⟨ao0, cap0, L0, rfl, hc0, hm0, ha0, hw0, hx0⟩ := open_frames (okWide_slice Try.underlying22 (hval 0 22 v0 rfl rfl)) t0
  have hr0 : cap0 * 56 ≤ 140737488351232 := by
    rcases hx0 with ⟨_, h0⟩ | ⟨_, es, sp, hd, h0⟩
    · rw [h0]; decide
    · subst hd
      have := sized_slice hsz (j := 0) (t := 22) (e := 34) rfl rfl Try.underlying22
      rw [bytesQ, h0] at this
      simp only [reachBytes] at this
      omega
  have hn0 : ao0 = none → cap0 = 0 := by
    intro h
    rcases hx0 with ⟨_, h0⟩ | ⟨⟨a, h1⟩, _⟩
    · exact h0
    · rw [h] at h1; simp at h1
  have hlt0 : ∀ x ∈ p0, x.block < W.heap.size := fun x hx => by have := hW'.lt x (by simp [hx]); simpa using this
  obtain ⟨a1, rfl, rfl, rfl, w1⟩ := open_int Try.underlying3 (hval 1 3 v1 rfl rfl) t1
  obtain ⟨a2, rfl, rfl, rfl, w2⟩ := open_float Try.underlying23 (hval 2 23 v2 rfl rfl) t2
  obtain ⟨a3, rfl, rfl, rfl, w3⟩ := open_float Try.underlying23 (hval 3 23 v3 rfl rfl) t3
  have tk4 := t4
  obtain ⟨a4, rfl, wa4⟩ := open_vec (hval 4 25 v4 rfl rfl) t4
  have hlt4 : ∀ x ∈ p4, x.block < W.heap.size := fun x hx => by have := hW'.lt x (by simp [hx]); simpa using this
  clear hA0 hval0
  refine (walk W ao0 cap0 L0 hc0 hm0 ha0 hw0 hr0 hn0 a1 w1 a2 (wf64 w2) a3 (wf64 w3) a4 wa4).mono fun e W' ⟨he, hb⟩ => ?_
  subst he
  refine ⟨_, rfl, _, _, _, [], _, [], hW', trodAll_cons_mk (shut_bool Try.underlying4 _) trodAll_mk0, (trodAll_cons_mk (Below.trod laidOut (by kernel_rfl) (of_decide_eq_true (by kernel_rfl)) tk0 hb hlt0) (trodAll_cons_mk (shut_int Try.underlying3 w1) (trodAll_cons_mk (shut_float Try.underlying23 w2) (trodAll_cons_mk (shut_float Try.underlying23 w3) (trodAll_cons_mk (Below.trod laidOut (by kernel_rfl) (of_decide_eq_true (by kernel_rfl)) tk4 hb hlt4) trodAll_mk0))))), rfl, hb.frame _, fun h => by cases h⟩

set_option maxRecDepth 100000 in
theorem over : Rows.frameStillRow.holds Try.pinned (OpenSpec.ofChange Rows.frameStillSpec) :=
  OpenClaim.holds_of_wide 4 Try.f4 rfl rfl rfl rfl rfl rfl rfl ⟨rfl, rfl, rfl, rfl, rfl⟩ rfl rfl rfl rfl rfl (by kernel_rfl) Try.func4 (by kernel_rfl)
    (of_decide_eq_true (by kernel_rfl)) (by unfold Func.isWrapper; first | (rw [if_pos (by decide +kernel)]; kernel_rfl) | (rw [if_neg (by decide +kernel)]; exact ⟨rfl, rfl⟩))
    (fun os started H enc _ => lifted os started H enc)

theorem proved : Rows.FrameStillSaid :=
  over
end Go.Proofs.Ytgblpibanagcgaa.frameStill
