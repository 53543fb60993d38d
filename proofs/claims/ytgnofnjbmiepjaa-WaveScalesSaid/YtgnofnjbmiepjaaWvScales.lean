/- Proved here: for all waves, times and whole numbers the law WaveScales returns true: amplitudes negated, or times a power of two. No conditions. -/
import Derived.Test.YtgnofnjbmiepjaaRows
import Derived.Test.YtgnofnjbmiepjaaJw8
namespace Go.Proofs.Ytgnofnjbmiepjaa.waveScales
open Go.ChangeShapes Go.WideShapes Go.ChangeAt Go.RowKit

set_option maxHeartbeats 8000000 in
set_option maxRecDepth 100000 in
theorem walk (w : World) (ao0 : Option Addr) (cap0 : Nat) (L0 : List Wv) (hc0 : L0.length ≤ cap0) (hm0 : cap0 ≤ maxLen) (ha0 : VAt w ao0 L0) (hw0 : WvsW L0) (hr0 : cap0 * 40 ≤ 140737488351232) (hn0 : ao0 = none → cap0 = 0) (a1 : Nat) (h1 : a1 < 18446744073709551616) (a2 : Int) (_h2 : (Lit.int .i64 a2).wf = true) :
    Calls Try.prog 7 #[.slice ao0 L0.length cap0, .float .f64 a1, .int .i64 a2] w fun e w' => e = .returned (.bool true) ∧ Below w.heap.size w w' := by
  have AW := Lib.hid awake12
  obtain ⟨n, hn⟩ : ∃ n, n = L0.length := ⟨_, rfl⟩
  rw [← hn] at hc0 ⊢
  have hrn : n * 40 ≤ 140737488351232 := by omega
  have hmn : n ≤ maxLen := by omega
  have hm2 : n ≤ 4611686018427387904 := by unfold maxLen at hmn; omega
  replace hn := Lib.hid hn
  replace ha0 := Lib.hid ha0
  replace hw0 := Lib.hid hw0
  replace hmn := Lib.hid hmn
  replace hc0 := Lib.hid hc0
  replace hm0 := Lib.hid hm0
  replace hn0 := Lib.hid hn0
  replace hr0 := Lib.hid hr0
  have AX := Lib.hid (fun w => abs_any a1 h1 w)
  by_cases hr : a2 < -20 ∨ 20 < a2
  · clear ha0 hr0 hc0 hn hm2 hmn hrn hm0 hn0 hw0 h1 AX
    rcases hr with hr | hr
    · skip
      go_enter Try.func7, Try.ntmps7
      go_wp2_with fail
      refine (AW.out w).mono ?_
      rintro _ v0 ⟨rfl, hb⟩
      replace hb := Lib.hid hb
      clear AW
      go_wp2_with fail
      go_ret
      exact ⟨by first | rfl | trivial, hb.out⟩
    · have hr' : ¬ a2 < -20 := by omega
      go_enter Try.func7, Try.ntmps7
      go_wp2_with fail
      refine (AW.out w).mono ?_
      rintro _ v0 ⟨rfl, hb⟩
      replace hb := Lib.hid hb
      clear AW
      go_wp2_with fail
      go_ret
      exact ⟨by first | rfl | trivial, hb.out⟩
  have r1 : -20 ≤ a2 := by omega
  have r2 : a2 ≤ 20 := by omega
  obtain ⟨mk, hk, hmk⟩ : ∃ m : Nat, m < 41 ∧ a2 = (m : Int) - 20 := ⟨(a2 + 20).toNat, by omega, by omega⟩
  clear hr
  by_cases hz : (FloatKind.f64.format.order a1 0 == some Ordering.eq) = true
  · have hB : Ieee.Own.FinW a1 → BigD a1 := fun f => bigD_zero hz f
    have LDX := Lib.hid (fun w => ldexp_k a2 (by omega) (by omega) w)
    rw [show (a2 + 1023).toNat * 4503599627370496 = pwV mk by unfold pwV; omega] at LDX
    replace hB := Lib.hid hB
    replace hk := Lib.hid hk
    obtain ⟨yw, hyw⟩ : ∃ y, y = pwV mk := ⟨_, rfl⟩
    rw [← hyw] at LDX
    replace hyw := Lib.hid hyw
    clear hmk _h2
    have hst := @fstore
    go_enter Try.func7, Try.ntmps7
    go_wp2_with fail
    refine (AW.out w).mono ?_
    rintro _ v0 ⟨rfl, hb⟩
    have hb0 := Lib.hid hb
    replace hb := hb0
    clear hb0 AW
    go_wp2_with (first | (go_at_call 11; ((with_reducible refine (AX.out _).mono ?_); rintro e w' ⟨rfl, rfl⟩)) | (go_at_call 19; ((with_reducible refine (LDX.out _).mono ?_); rintro e w' ⟨rfl, rfl⟩)))
    clear AX LDX
    go_loopw [8, 9, 10] (fun nv mv iv wr => ∃ (i : Nat) (A B : List Wv), i ≤ n ∧ iv = .int .i64 i ∧ A ++ (L0.drop i).map ngF = L0.map ngF ∧ A.length = i ∧ B.length = i ∧ MrL yw L0 B ∧ Twv v0.heap.size v0 A B nv mv wr) (fun _ _ iv _ => n - (intOf iv).toNat)
    case atStart => exact ⟨0, [], [], Nat.zero_le _, rfl, rfl, rfl, rfl, MrL.nil _ _, Twv.start v0⟩
    case round =>
      obtain ⟨i, A, B, hi, rfl, hA, hAl, hBl, hM, N⟩ := hrel
      obtain ⟨ao1, m1, c1, rfl⟩ := ownV_any N.a
      obtain ⟨ao2, m2, c2, rfl⟩ := ownV_any N.b
      by_cases hlt : i < n
      · have hil : i < L0.length := by have := hn.out; omega
        have hbw := Lib.hid N.a.old
        obtain ⟨b, o, rfl, hbl, z0, z1, z2, z3, z4⟩ := VAt.cells (ha0.out.below (fun b o e _ => ha0.out.lt b o e (by simp; omega)) hb.out) hil
        have LA := Lib.hid (fun W (h : Below v0.heap.size v0 W) => (cell_on h _ hbl).trans z2)
        have e0 := (cell_on hbw.out _ hbl).trans z0
        have e1 := (cell_on hbw.out _ hbl).trans z1
        have e2 := (cell_on hbw.out _ hbl).trans z2
        have e3 := (cell_on hbw.out _ hbl).trans z3
        have e4 := (cell_on hbw.out _ hbl).trans z4
        clear z0 z1 z2 z3 z4
        have fw := hw0.out _ (wv_mem hil)
        have MD := Lib.hid (fun w => mulw_drawn (wvAt L0 i).am yw 23 w)
        have N1 := fun w => xneg' (wvAt L0 i).am fw.am w
        have hA2 : Hid ((A ++ [⟨(wvAt L0 i).ax, (wvAt L0 i).pw, Ieee.Own.negW (wvAt L0 i).am, (wvAt L0 i).ph, (wvAt L0 i).rt⟩]) ++ (L0.drop (i + 1)).map ngF = L0.map ngF) := Lib.hid (by rw [List.append_assoc, ← hA, wv_drop hil]; rfl)
        have hM2 : Hid (∀ r, r < 18446744073709551616 → (∀ s, Ieee.double.mul (wvAt L0 i).am yw = some s → r = s) → MrL yw L0 (B ++ [⟨(wvAt L0 i).ax, (wvAt L0 i).pw, r, (wvAt L0 i).ph, (wvAt L0 i).rt⟩])) := Lib.hid fun r hr he => hM.next (by rw [hBl]; exact ⟨rfl, rfl, rfl, rfl, hr, he⟩)
        have hsz : v0.heap.size ≤ wr.heap.size := N.a.size
        generalize wvAt L0 i = f at *
        obtain ⟨ax, pw, am, ph, rt⟩ := f
        dsimp only at *
        clear fw hA hM
        replace hA2 := Lib.hid hA2.out
        replace hAl := Lib.hid hAl
        replace hBl := Lib.hid hBl
        have B0 := BV.box wr 49 [.int .i64 ax, .int .i64 pw, .float .f64 (Ieee.Own.negW am), .float .f64 ph, .float .f64 rt]
        have N0 := Lib.hid (N.grow ((Below.refl wr.heap.size wr).alloc (Nat.le_refl _) (objV 49 [.int .i64 ax, .int .i64 pw, .float .f64 (Ieee.Own.negW am), .float .f64 ph, .float .f64 rt])))
        have g0 := Lib.hid (N.out (Nat.le_refl _))
        have bb := (Below.refl wr.heap.size wr).alloc (Nat.le_refl _) (objV 49 [.int .i64 ax, .int .i64 pw, .float .f64 am, .float .f64 ph, .float .f64 rt])
        have q2 := (cell_on bb _ (Nat.lt_of_lt_of_le hbl hbw.out.size)).trans e2
        simp only [objV] at B0 N0 q2
        replace B0 := Lib.hid B0
        replace hM2 := Lib.hid hM2.out
        clear N hbl bb
        replace hlt := Lib.hid hlt
        go_wp2_with (at_builtin; go_loud (refine wpList_two_a rfl _ _ rfl A B (.slice ao1 m1 c1) (.slice ao2 m2 c2) rfl N0.out ⟨ax, pw, Ieee.Own.negW am, ph, rt⟩ ?px ?pl wr.heap.size _ B0.out g0.out.1 ?_))
        case px => first | rfl | (show Value.slice (some ⟨wr.heap.size + 1, 0, none⟩) 1 1 = _; simp)
        case pl => have := hAl.out; omega
        intro v1 w1 N2 B2 g2
        obtain ⟨ao3, m3, c3, rfl⟩ := ownV_any N2.a
        have y2 := LA.out _ N2.a.old
        obtain ⟨r, w2, hmul, hdr, hr, he⟩ := MD.out w1
        have B3 := B2.on (Drawn.below hdr _)
        have y3 := B3.at_ 2 _ rfl
        have y4 := B3.fr 2 _ rfl
        have B4 := B3.set1 (k := 2) rfl (.float .f64 r)
        simp only [List.set_cons_succ, List.set_cons_zero] at B4
        have d0 := B4.at_ 0 _ rfl
        have d1 := B4.at_ 1 _ rfl
        have d2 := B4.at_ 2 _ rfl
        have d3 := B4.at_ 3 _ rfl
        have d4 := B4.at_ 4 _ rfl
        have N3 := Lib.hid ((N2.drawn hdr).set 2 (.float .f64 r) hsz g2 g0.out.2)
        have hM3 := Lib.hid (hM2.out r hr he)
        clear B3 B4 B2 N2 hdr hr he hM2 MD B0 N0 e0 e1 e2 e3 e4 q2 g2
        generalize wr.heap.size = g1 at *
        go_wp2_with (at_builtin; go_loud (refine wpList_two_b rfl _ _ rfl (A ++ [⟨ax, pw, Ieee.Own.negW am, ph, rt⟩]) B (.slice ao3 m3 c3) (.slice ao2 m2 c2) rfl N3.out ⟨ax, pw, r, ph, rt⟩ ?px ?pl ?_))
        case px => first | rfl | (show Value.slice (some ⟨w2.heap.size, 0, none⟩) 1 1 = _; simp)
        case pl => have := hBl.out; have := hlt.out; omega
        intro v2 w3 N4
        obtain ⟨ao4, m4, c4, rfl⟩ := ownV_any N4.b
        replace N4 := Lib.hid N4
        clear d0 d1 d2 d3 d4 y2 y3 y4 N3
        go_wp2_with fail
        go_roundw
        case rel => exact ⟨i + 1, _, _, hlt.out, by go_num, hA2.out, by rw [List.length_append, hAl.out]; rfl, by rw [List.length_append, hBl.out]; rfl, hM3.out, N4.out⟩
        case measure => have := hlt.out; simp [intOf]; omega
      · obtain rfl : i = n := by omega
        have hA3 : A = L0.map ngF := by
          rw [hn.out, List.drop_length] at hA
          simpa using hA
        have hBn : B.length = L0.length := by rw [hBl, hn.out]
        subst hA3
        obtain ⟨aN, cN, eN, -, -, rN, -, -⟩ := ownsR_at (rows_wv (L0.map ngF)) N.a.own
        obtain ⟨aM, cM, eM, -, -, rM, -, -⟩ := ownsR_at (rows_wv B) N.b.own
        rw [List.length_map, List.length_map, ← hn.out] at eN
        rw [List.length_map, hBl] at eM
        have NG := ng_all hw0.out h1 hB.out
        rw [hyw.out] at hM
        have MO := mo_all hw0.out hk.out hM hBn h1 hB.out
        rw [← hyw.out] at MO
        have WB := hM.ws hBn hw0.out
        have hbN := hb.out.trans (N.a.old.mono hb.out.size)
        have R1 : Hid (∀ W ao cap, VAt W ao L0 → Calls Try.prog 9 #[.slice ao i cap, .float .f64 a1] W fun e w' => e = .returned (vecE (atV L0 a1).1 (atV L0 a1).2) ∧ Below W.heap.size W w') := Lib.hid fun W ao cap ha => wat_run ao cap i a1 W hn.out hm2 hw0.out ha h1
        have R2 : Hid (∀ W, VAt W aN (L0.map ngF) → Calls Try.prog 9 #[.slice aN i cN, .float .f64 a1] W fun e w' => e = .returned (vecE (atV (L0.map ngF) a1).1 (atV (L0.map ngF) a1).2) ∧ Below W.heap.size W w') := Lib.hid fun W ha => wat_run aN cN i a1 W (by rw [List.length_map]; exact hn.out) hm2 (ng_ws hw0.out) ha h1
        have R3 : Hid (∀ W, VAt W aM B → Calls Try.prog 9 #[.slice aM i cM, .float .f64 a1] W fun e w' => e = .returned (vecE (atV B a1).1 (atV B a1).2) ∧ Below W.heap.size W w') := Lib.hid fun W ha => wat_run aM cM i a1 W hBl.symm hm2 WB ha h1
        rw [NG.e] at R2
        have NX := NG.x
        have NY := NG.y
        have NZ := NG.z
        have U1 := fun w => xneg' _ NG.w.1 w
        have U2 := fun w => xneg' _ NG.w.2 w
        have U3 := fun w => xneg' _ NG.w.3 w
        have rN' := Lib.hid (show VAt wr aN (L0.map ngF) from rN)
        have rM' := Lib.hid (show VAt wr aM B from rM)
        have A1 := Lib.hid (ha0.out.below (fun b o e h => ha0.out.lt b o e h) hbN)
        unfold MoF at MO
        generalize (atV (L0.map ngF) a1).1 = VB at *
        generalize atV L0 a1 = VA at *
        generalize atV B a1 = VC at *
        obtain ⟨⟨p1, p2, p3⟩, ka⟩ := VA
        obtain ⟨q1, q2, q3⟩ := VB
        obtain ⟨⟨s1, s2, s3⟩, kc⟩ := VC
        unfold vecE vecV at R1 R2 R3
        dsimp only at *
        rw [eN, eM]
        have K := Lib.hid ((Kv.nil w).on hbN)
        clear rN rM WB NG hM hBn hBl hA hAl N hbN hb eN eM
        have td : (ka != ka) = false := by simp
        go_wp2_with (at_builtin; refine wpList_copyR recW rfl _ _ rfl rfl ao0 i cap0 (L0.map wvC) rfl (by rw [List.length_map]; exact hn.out) hn0.out A1.out (rows_wv L0) hmn.out hrn ?_)
        intro a1c c1c v2 C
        replace K := K.out.on C.old
        have AC := Lib.hid (show VAt v2 a1c L0 from C.at_)
        have FN := Lib.hid (rN'.out.on C.old)
        have FM := Lib.hid (rM'.out.on C.old)
        clear C A1 rN' rM'
        replace K := Lib.hid K
        go_wp2_with fail
        replace K := K.out
        refine (R1.out v2 a1c c1c AC.out).mono ?_
        rintro _ v3 ⟨rfl, hbb⟩
        have FN2 := Lib.hid ((FN.out.on hbb).alloc (objV 26 [.float .f64 p1, .float .f64 p2, .float .f64 p3]))
        have FM2 := Lib.hid ((FM.out.on hbb).alloc (objV 26 [.float .f64 p1, .float .f64 p2, .float .f64 p3]))
        replace K := (K.on hbb).new 26 [.float .f64 p1, .float .f64 p2, .float .f64 p3]
        simp only [objV, List.nil_append] at K FN2 FM2
        clear R1 AC hbb FN FM
        replace K := Lib.hid K
        go_wp2_with fail
        replace K := K.out
        generalize v3.alloc _ = w3 at *
        generalize v3.heap.size = g1 at *
        refine (R2.out w3 FN2.out).mono ?_
        rintro _ v4 ⟨rfl, hbb⟩
        have FM3 := Lib.hid ((FM2.out.on hbb).alloc (objV 26 [.float .f64 q1, .float .f64 q2, .float .f64 q3]))
        replace K := (K.on hbb).new 26 [.float .f64 q1, .float .f64 q2, .float .f64 q3]
        simp only [objV, List.nil_append, List.cons_append] at K FM3
        clear R2 hbb FN2 FM2
        have c0_0 := (K.at_ 0 rfl).at_ 0 _ rfl
        have c0_1 := (K.at_ 0 rfl).at_ 1 _ rfl
        have c0_2 := (K.at_ 0 rfl).at_ 2 _ rfl
        have c1_0 := (K.at_ 1 rfl).at_ 0 _ rfl
        have c1_1 := (K.at_ 1 rfl).at_ 1 _ rfl
        have c1_2 := (K.at_ 1 rfl).at_ 2 _ rfl
        replace K := Lib.hid K
        go_wp2_with fail
        replace K := K.out
        generalize v4.alloc _ = w4 at *
        generalize v4.heap.size = g2 at *
        refine (R3.out w4 FM3.out).mono ?_
        rintro _ v5 ⟨rfl, hbb⟩
        clear c0_0 c0_1 c0_2 c1_0 c1_1 c1_2 R3 FM3 NX NY NZ U1 U2 U3
        replace K := (K.on hbb).new 26 [.float .f64 s1, .float .f64 s2, .float .f64 s3]
        simp only [objV, List.nil_append, List.cons_append] at K
        clear hbb
        have c0_0 := (K.at_ 0 rfl).at_ 0 _ rfl
        have c0_1 := (K.at_ 0 rfl).at_ 1 _ rfl
        have c0_2 := (K.at_ 0 rfl).at_ 2 _ rfl
        have c2_0 := (K.at_ 2 rfl).at_ 0 _ rfl
        have c2_1 := (K.at_ 2 rfl).at_ 1 _ rfl
        have c2_2 := (K.at_ 2 rfl).at_ 2 _ rfl
        by_cases hka : ka = 0
        · subst hka
          by_cases hkc : kc = 0
          · subst hkc
            obtain ⟨S1, S2, S3⟩ := (MO.resolve_left (by simp)).resolve_left (by simp)
            clear MO
            replace K := Lib.hid K
            go_wp2_with (first | (go_at_call 20; ((with_reducible refine (S1 _).mono ?_); rintro e w' ⟨rfl, rfl⟩)) | (go_at_call 20; ((with_reducible refine (S2 _).mono ?_); rintro e w' ⟨rfl, rfl⟩)) | (go_at_call 20; ((with_reducible refine (S3 _).mono ?_); rintro e w' ⟨rfl, rfl⟩)))
            go_ret
            exact ⟨rfl, K.out.old⟩
          · have tk : (kc != 0) = true := by simpa using hkc
            clear MO
            replace K := Lib.hid K
            go_wp2_with fail
            go_ret
            exact ⟨rfl, K.out.old⟩
        · have tk : (ka != 0) = true := by simpa using hka
          clear MO
          replace K := Lib.hid K
          go_wp2_with fail
          go_ret
          exact ⟨rfl, K.out.old⟩
  · rw [Bool.not_eq_true] at hz
    by_cases hg : (FloatKind.f64.format.order (a1 % 9223372036854775808) 4427038433705197568 == some Ordering.gt || FloatKind.f64.format.order (a1 % 9223372036854775808) 4427038433705197568 == some Ordering.eq) = true
    · have hB : Ieee.Own.FinW a1 → BigD a1 := fun f => bigD_big hg f
      generalize hax : a1 % 9223372036854775808 = axx at *
      clear hax
      have LDX := Lib.hid (fun w => ldexp_k a2 (by omega) (by omega) w)
      rw [show (a2 + 1023).toNat * 4503599627370496 = pwV mk by unfold pwV; omega] at LDX
      replace hB := Lib.hid hB
      replace hk := Lib.hid hk
      obtain ⟨yw, hyw⟩ : ∃ y, y = pwV mk := ⟨_, rfl⟩
      rw [← hyw] at LDX
      replace hyw := Lib.hid hyw
      clear hmk _h2
      have hst := @fstore
      go_enter Try.func7, Try.ntmps7
      go_wp2_with fail
      refine (AW.out w).mono ?_
      rintro _ v0 ⟨rfl, hb⟩
      have hb0 := Lib.hid hb
      replace hb := hb0
      clear hb0 AW
      go_wp2_with (first | (go_at_call 11; ((with_reducible refine (AX.out _).mono ?_); rintro e w' ⟨rfl, rfl⟩)) | (go_at_call 19; ((with_reducible refine (LDX.out _).mono ?_); rintro e w' ⟨rfl, rfl⟩)))
      clear AX LDX
      go_loopw [8, 9, 10] (fun nv mv iv wr => ∃ (i : Nat) (A B : List Wv), i ≤ n ∧ iv = .int .i64 i ∧ A ++ (L0.drop i).map ngF = L0.map ngF ∧ A.length = i ∧ B.length = i ∧ MrL yw L0 B ∧ Twv v0.heap.size v0 A B nv mv wr) (fun _ _ iv _ => n - (intOf iv).toNat)
      case atStart => exact ⟨0, [], [], Nat.zero_le _, rfl, rfl, rfl, rfl, MrL.nil _ _, Twv.start v0⟩
      case round =>
        obtain ⟨i, A, B, hi, rfl, hA, hAl, hBl, hM, N⟩ := hrel
        obtain ⟨ao1, m1, c1, rfl⟩ := ownV_any N.a
        obtain ⟨ao2, m2, c2, rfl⟩ := ownV_any N.b
        by_cases hlt : i < n
        · have hil : i < L0.length := by have := hn.out; omega
          have hbw := Lib.hid N.a.old
          obtain ⟨b, o, rfl, hbl, z0, z1, z2, z3, z4⟩ := VAt.cells (ha0.out.below (fun b o e _ => ha0.out.lt b o e (by simp; omega)) hb.out) hil
          have LA := Lib.hid (fun W (h : Below v0.heap.size v0 W) => (cell_on h _ hbl).trans z2)
          have e0 := (cell_on hbw.out _ hbl).trans z0
          have e1 := (cell_on hbw.out _ hbl).trans z1
          have e2 := (cell_on hbw.out _ hbl).trans z2
          have e3 := (cell_on hbw.out _ hbl).trans z3
          have e4 := (cell_on hbw.out _ hbl).trans z4
          clear z0 z1 z2 z3 z4
          have fw := hw0.out _ (wv_mem hil)
          have MD := Lib.hid (fun w => mulw_drawn (wvAt L0 i).am yw 23 w)
          have N1 := fun w => xneg' (wvAt L0 i).am fw.am w
          have hA2 : Hid ((A ++ [⟨(wvAt L0 i).ax, (wvAt L0 i).pw, Ieee.Own.negW (wvAt L0 i).am, (wvAt L0 i).ph, (wvAt L0 i).rt⟩]) ++ (L0.drop (i + 1)).map ngF = L0.map ngF) := Lib.hid (by rw [List.append_assoc, ← hA, wv_drop hil]; rfl)
          have hM2 : Hid (∀ r, r < 18446744073709551616 → (∀ s, Ieee.double.mul (wvAt L0 i).am yw = some s → r = s) → MrL yw L0 (B ++ [⟨(wvAt L0 i).ax, (wvAt L0 i).pw, r, (wvAt L0 i).ph, (wvAt L0 i).rt⟩])) := Lib.hid fun r hr he => hM.next (by rw [hBl]; exact ⟨rfl, rfl, rfl, rfl, hr, he⟩)
          have hsz : v0.heap.size ≤ wr.heap.size := N.a.size
          generalize wvAt L0 i = f at *
          obtain ⟨ax, pw, am, ph, rt⟩ := f
          dsimp only at *
          clear fw hA hM
          replace hA2 := Lib.hid hA2.out
          replace hAl := Lib.hid hAl
          replace hBl := Lib.hid hBl
          have B0 := BV.box wr 49 [.int .i64 ax, .int .i64 pw, .float .f64 (Ieee.Own.negW am), .float .f64 ph, .float .f64 rt]
          have N0 := Lib.hid (N.grow ((Below.refl wr.heap.size wr).alloc (Nat.le_refl _) (objV 49 [.int .i64 ax, .int .i64 pw, .float .f64 (Ieee.Own.negW am), .float .f64 ph, .float .f64 rt])))
          have g0 := Lib.hid (N.out (Nat.le_refl _))
          have bb := (Below.refl wr.heap.size wr).alloc (Nat.le_refl _) (objV 49 [.int .i64 ax, .int .i64 pw, .float .f64 am, .float .f64 ph, .float .f64 rt])
          have q2 := (cell_on bb _ (Nat.lt_of_lt_of_le hbl hbw.out.size)).trans e2
          simp only [objV] at B0 N0 q2
          replace B0 := Lib.hid B0
          replace hM2 := Lib.hid hM2.out
          clear N hbl bb
          replace hlt := Lib.hid hlt
          go_wp2_with (at_builtin; go_loud (refine wpList_two_a rfl _ _ rfl A B (.slice ao1 m1 c1) (.slice ao2 m2 c2) rfl N0.out ⟨ax, pw, Ieee.Own.negW am, ph, rt⟩ ?px ?pl wr.heap.size _ B0.out g0.out.1 ?_))
          case px => first | rfl | (show Value.slice (some ⟨wr.heap.size + 1, 0, none⟩) 1 1 = _; simp)
          case pl => have := hAl.out; omega
          intro v1 w1 N2 B2 g2
          obtain ⟨ao3, m3, c3, rfl⟩ := ownV_any N2.a
          have y2 := LA.out _ N2.a.old
          obtain ⟨r, w2, hmul, hdr, hr, he⟩ := MD.out w1
          have B3 := B2.on (Drawn.below hdr _)
          have y3 := B3.at_ 2 _ rfl
          have y4 := B3.fr 2 _ rfl
          have B4 := B3.set1 (k := 2) rfl (.float .f64 r)
          simp only [List.set_cons_succ, List.set_cons_zero] at B4
          have d0 := B4.at_ 0 _ rfl
          have d1 := B4.at_ 1 _ rfl
          have d2 := B4.at_ 2 _ rfl
          have d3 := B4.at_ 3 _ rfl
          have d4 := B4.at_ 4 _ rfl
          have N3 := Lib.hid ((N2.drawn hdr).set 2 (.float .f64 r) hsz g2 g0.out.2)
          have hM3 := Lib.hid (hM2.out r hr he)
          clear B3 B4 B2 N2 hdr hr he hM2 MD B0 N0 e0 e1 e2 e3 e4 q2 g2
          generalize wr.heap.size = g1 at *
          go_wp2_with (at_builtin; go_loud (refine wpList_two_b rfl _ _ rfl (A ++ [⟨ax, pw, Ieee.Own.negW am, ph, rt⟩]) B (.slice ao3 m3 c3) (.slice ao2 m2 c2) rfl N3.out ⟨ax, pw, r, ph, rt⟩ ?px ?pl ?_))
          case px => first | rfl | (show Value.slice (some ⟨w2.heap.size, 0, none⟩) 1 1 = _; simp)
          case pl => have := hBl.out; have := hlt.out; omega
          intro v2 w3 N4
          obtain ⟨ao4, m4, c4, rfl⟩ := ownV_any N4.b
          replace N4 := Lib.hid N4
          clear d0 d1 d2 d3 d4 y2 y3 y4 N3
          go_wp2_with fail
          go_roundw
          case rel => exact ⟨i + 1, _, _, hlt.out, by go_num, hA2.out, by rw [List.length_append, hAl.out]; rfl, by rw [List.length_append, hBl.out]; rfl, hM3.out, N4.out⟩
          case measure => have := hlt.out; simp [intOf]; omega
        · obtain rfl : i = n := by omega
          have hA3 : A = L0.map ngF := by
            rw [hn.out, List.drop_length] at hA
            simpa using hA
          have hBn : B.length = L0.length := by rw [hBl, hn.out]
          subst hA3
          obtain ⟨aN, cN, eN, -, -, rN, -, -⟩ := ownsR_at (rows_wv (L0.map ngF)) N.a.own
          obtain ⟨aM, cM, eM, -, -, rM, -, -⟩ := ownsR_at (rows_wv B) N.b.own
          rw [List.length_map, List.length_map, ← hn.out] at eN
          rw [List.length_map, hBl] at eM
          have NG := ng_all hw0.out h1 hB.out
          rw [hyw.out] at hM
          have MO := mo_all hw0.out hk.out hM hBn h1 hB.out
          rw [← hyw.out] at MO
          have WB := hM.ws hBn hw0.out
          have hbN := hb.out.trans (N.a.old.mono hb.out.size)
          have R1 : Hid (∀ W ao cap, VAt W ao L0 → Calls Try.prog 9 #[.slice ao i cap, .float .f64 a1] W fun e w' => e = .returned (vecE (atV L0 a1).1 (atV L0 a1).2) ∧ Below W.heap.size W w') := Lib.hid fun W ao cap ha => wat_run ao cap i a1 W hn.out hm2 hw0.out ha h1
          have R2 : Hid (∀ W, VAt W aN (L0.map ngF) → Calls Try.prog 9 #[.slice aN i cN, .float .f64 a1] W fun e w' => e = .returned (vecE (atV (L0.map ngF) a1).1 (atV (L0.map ngF) a1).2) ∧ Below W.heap.size W w') := Lib.hid fun W ha => wat_run aN cN i a1 W (by rw [List.length_map]; exact hn.out) hm2 (ng_ws hw0.out) ha h1
          have R3 : Hid (∀ W, VAt W aM B → Calls Try.prog 9 #[.slice aM i cM, .float .f64 a1] W fun e w' => e = .returned (vecE (atV B a1).1 (atV B a1).2) ∧ Below W.heap.size W w') := Lib.hid fun W ha => wat_run aM cM i a1 W hBl.symm hm2 WB ha h1
          rw [NG.e] at R2
          have NX := NG.x
          have NY := NG.y
          have NZ := NG.z
          have U1 := fun w => xneg' _ NG.w.1 w
          have U2 := fun w => xneg' _ NG.w.2 w
          have U3 := fun w => xneg' _ NG.w.3 w
          have rN' := Lib.hid (show VAt wr aN (L0.map ngF) from rN)
          have rM' := Lib.hid (show VAt wr aM B from rM)
          have A1 := Lib.hid (ha0.out.below (fun b o e h => ha0.out.lt b o e h) hbN)
          unfold MoF at MO
          generalize (atV (L0.map ngF) a1).1 = VB at *
          generalize atV L0 a1 = VA at *
          generalize atV B a1 = VC at *
          obtain ⟨⟨p1, p2, p3⟩, ka⟩ := VA
          obtain ⟨q1, q2, q3⟩ := VB
          obtain ⟨⟨s1, s2, s3⟩, kc⟩ := VC
          unfold vecE vecV at R1 R2 R3
          dsimp only at *
          rw [eN, eM]
          have K := Lib.hid ((Kv.nil w).on hbN)
          clear rN rM WB NG hM hBn hBl hA hAl N hbN hb eN eM
          have td : (ka != ka) = false := by simp
          go_wp2_with (at_builtin; refine wpList_copyR recW rfl _ _ rfl rfl ao0 i cap0 (L0.map wvC) rfl (by rw [List.length_map]; exact hn.out) hn0.out A1.out (rows_wv L0) hmn.out hrn ?_)
          intro a1c c1c v2 C
          replace K := K.out.on C.old
          have AC := Lib.hid (show VAt v2 a1c L0 from C.at_)
          have FN := Lib.hid (rN'.out.on C.old)
          have FM := Lib.hid (rM'.out.on C.old)
          clear C A1 rN' rM'
          replace K := Lib.hid K
          go_wp2_with fail
          replace K := K.out
          refine (R1.out v2 a1c c1c AC.out).mono ?_
          rintro _ v3 ⟨rfl, hbb⟩
          have FN2 := Lib.hid ((FN.out.on hbb).alloc (objV 26 [.float .f64 p1, .float .f64 p2, .float .f64 p3]))
          have FM2 := Lib.hid ((FM.out.on hbb).alloc (objV 26 [.float .f64 p1, .float .f64 p2, .float .f64 p3]))
          replace K := (K.on hbb).new 26 [.float .f64 p1, .float .f64 p2, .float .f64 p3]
          simp only [objV, List.nil_append] at K FN2 FM2
          clear R1 AC hbb FN FM
          replace K := Lib.hid K
          go_wp2_with fail
          replace K := K.out
          generalize v3.alloc _ = w3 at *
          generalize v3.heap.size = g1 at *
          refine (R2.out w3 FN2.out).mono ?_
          rintro _ v4 ⟨rfl, hbb⟩
          have FM3 := Lib.hid ((FM2.out.on hbb).alloc (objV 26 [.float .f64 q1, .float .f64 q2, .float .f64 q3]))
          replace K := (K.on hbb).new 26 [.float .f64 q1, .float .f64 q2, .float .f64 q3]
          simp only [objV, List.nil_append, List.cons_append] at K FM3
          clear R2 hbb FN2 FM2
          have c0_0 := (K.at_ 0 rfl).at_ 0 _ rfl
          have c0_1 := (K.at_ 0 rfl).at_ 1 _ rfl
          have c0_2 := (K.at_ 0 rfl).at_ 2 _ rfl
          have c1_0 := (K.at_ 1 rfl).at_ 0 _ rfl
          have c1_1 := (K.at_ 1 rfl).at_ 1 _ rfl
          have c1_2 := (K.at_ 1 rfl).at_ 2 _ rfl
          replace K := Lib.hid K
          go_wp2_with fail
          replace K := K.out
          generalize v4.alloc _ = w4 at *
          generalize v4.heap.size = g2 at *
          refine (R3.out w4 FM3.out).mono ?_
          rintro _ v5 ⟨rfl, hbb⟩
          clear c0_0 c0_1 c0_2 c1_0 c1_1 c1_2 R3 FM3 NX NY NZ U1 U2 U3
          replace K := (K.on hbb).new 26 [.float .f64 s1, .float .f64 s2, .float .f64 s3]
          simp only [objV, List.nil_append, List.cons_append] at K
          clear hbb
          have c0_0 := (K.at_ 0 rfl).at_ 0 _ rfl
          have c0_1 := (K.at_ 0 rfl).at_ 1 _ rfl
          have c0_2 := (K.at_ 0 rfl).at_ 2 _ rfl
          have c2_0 := (K.at_ 2 rfl).at_ 0 _ rfl
          have c2_1 := (K.at_ 2 rfl).at_ 1 _ rfl
          have c2_2 := (K.at_ 2 rfl).at_ 2 _ rfl
          by_cases hka : ka = 0
          · subst hka
            by_cases hkc : kc = 0
            · subst hkc
              obtain ⟨S1, S2, S3⟩ := (MO.resolve_left (by simp)).resolve_left (by simp)
              clear MO
              replace K := Lib.hid K
              go_wp2_with (first | (go_at_call 20; ((with_reducible refine (S1 _).mono ?_); rintro e w' ⟨rfl, rfl⟩)) | (go_at_call 20; ((with_reducible refine (S2 _).mono ?_); rintro e w' ⟨rfl, rfl⟩)) | (go_at_call 20; ((with_reducible refine (S3 _).mono ?_); rintro e w' ⟨rfl, rfl⟩)))
              go_ret
              exact ⟨rfl, K.out.old⟩
            · have tk : (kc != 0) = true := by simpa using hkc
              clear MO
              replace K := Lib.hid K
              go_wp2_with fail
              go_ret
              exact ⟨rfl, K.out.old⟩
          · have tk : (ka != 0) = true := by simpa using hka
            clear MO
            replace K := Lib.hid K
            go_wp2_with fail
            go_ret
            exact ⟨rfl, K.out.old⟩
    · rw [Bool.not_eq_true] at hg
      generalize a1 % 9223372036854775808 = ax at *
      clear ha0 hr0 hc0 hn hm2 hmn hrn hm0 hn0 hw0 h1 hmk hk
      go_enter Try.func7, Try.ntmps7
      go_wp2_with fail
      refine (AW.out w).mono ?_
      rintro _ v0 ⟨rfl, hb⟩
      replace hb := Lib.hid hb
      clear AW
      go_wp2_with (go_at_call 11; ((with_reducible refine (AX.out _).mono ?_); rintro e w' ⟨rfl, rfl⟩))
      go_ret
      exact ⟨by first | rfl | trivial, hb.out⟩

set_option maxRecDepth 100000 in
theorem own : ownKnob Try.prog.godebug = none := by kernel_rfl
set_option maxRecDepth 100000 in
theorem laidOut : laidOutB Try.prog = true := by kernel_rfl
set_option maxRecDepth 100000 in
theorem bytesW : Try.prog.bytesOf 49 = 40 := by kernel_rfl
set_option maxRecDepth 100000 in
theorem lifted (os : Os) (started : os.Started) (H : Type) (enc : TypeId × Value → H) :
    ReturnsInHanded {} Try.checked os 7 .any (Rows.waveScalesSpec.pre6 enc Try.prog Try.f7 Rows.waveScalesRow.domain false) (Rows.waveScalesSpec.post enc Try.prog Try.f7 false true false false) := by
  refine returnsInHanded_of_change_sized (C := Try.checked) own started (by kernel_rfl) Try.func7
    (ChangeSpec.witness6 (enc := enc) (C := Try.checked) false ⟨#[], #[.slice none 0 0, .float .f64 0, .int .i64 0], []⟩ 8 (by kernel_rfl) (by kernel_rfl) (by kernel_rfl) (by kernel_rfl)) ?_
  intro W base args ds gs before hval0 hW _ hsz0 _
  have hsz : (DataW.weightsEach Try.prog (Try.f7.params.toList ++ Rows.waveScalesSpec.plain.varTypes Try.prog) (ds ++ gs)).all (· ≤ reachBytes) = true := hsz0
  clear hsz0
  have hval : ∀ (j : Nat) t v, Try.f7.params[j]? = some t → args[j]? = some v → Value.okWide Try.prog W .any base t v := hval0
  have hW' := hW
  obtain ⟨p, q, hA0, hV, rfl, _, _⟩ := hW
  have hA : DataW.TrodAll enc Try.prog W 0 (fun _ => true) true Try.f7.params.toList args.toList ds p := hA0
  rw [Try.params7] at hA hval hsz
  obtain ⟨v0, vs0, d0, ds0, p0, q0, hargs, rfl, rfl, t0, r0⟩ := trodAll_cons hA
  obtain ⟨v1, vs1, d1, ds1, p1, q1, rfl, rfl, rfl, t1, r1⟩ := trodAll_cons r0
  obtain ⟨v2, vs2, d2, ds2, p2, q2, rfl, rfl, rfl, t2, r2⟩ := trodAll_cons r1
  obtain ⟨rfl, rfl, rfl⟩ := trodAll_nil r2
  obtain rfl : args = #[v0, v1, v2] := by cases args; simp_all
  obtain ⟨rfl, rfl⟩ := trodVars_none hV
  simp only [List.append_nil] at hW'
  have tk0 := t0
  obtain ⟨ao0, cap0, L0, rfl, hc0, hm0, ha0, hw0, hx0⟩ := open_waves (okWide_slice Try.underlying22 (hval 0 22 v0 rfl rfl)) t0
  have hr0 : cap0 * 40 ≤ 140737488351232 := by
    rcases hx0 with ⟨_, h0⟩ | ⟨_, es, sp, hd, h0⟩
    · rw [h0]; decide
    · subst hd
      have := sized_slice hsz (j := 0) (t := 22) (e := 49) rfl rfl Try.underlying22
      rw [bytesW, h0] at this
      simp only [reachBytes] at this
      omega
  have hn0 : ao0 = none → cap0 = 0 := by
    intro h
    rcases hx0 with ⟨_, h0⟩ | ⟨⟨a, h1⟩, _⟩
    · exact h0
    · rw [h] at h1; simp at h1
  have hlt0 : ∀ x ∈ p0, x.block < W.heap.size := fun x hx => by have := hW'.lt x (by simp [hx]); simpa using this
  obtain ⟨a1, rfl, rfl, rfl, w1⟩ := open_float Try.underlying23 (hval 1 23 v1 rfl rfl) t1
  obtain ⟨a2, rfl, rfl, rfl, w2⟩ := open_int Try.underlying3 (hval 2 3 v2 rfl rfl) t2
  clear hA0 hval0
  refine (walk W ao0 cap0 L0 hc0 hm0 ha0 hw0 hr0 hn0 a1 (wf64 w1) a2 w2).mono fun e W' ⟨he, hb⟩ => ?_
  subst he
  refine ⟨_, rfl, _, _, _, [], _, [], hW', trodAll_cons_mk (shut_bool Try.underlying4 _) trodAll_mk0, (trodAll_cons_mk (Below.trod laidOut (by kernel_rfl) (of_decide_eq_true (by kernel_rfl)) tk0 hb hlt0) (trodAll_cons_mk (shut_float Try.underlying23 w1) (trodAll_cons_mk (shut_int Try.underlying3 w2) trodAll_mk0))), rfl, hb.frame _, fun h => by cases h⟩

set_option maxRecDepth 100000 in
theorem over : Rows.waveScalesRow.holds Try.pinned (OpenSpec.ofChange Rows.waveScalesSpec) :=
  OpenClaim.holds_of_wide 7 Try.f7 rfl rfl rfl rfl rfl rfl rfl ⟨rfl, rfl, rfl, rfl, rfl⟩ rfl rfl rfl rfl rfl (by kernel_rfl) Try.func7 (by kernel_rfl)
    (of_decide_eq_true (by kernel_rfl)) (by unfold Func.isWrapper; first | (rw [if_pos (by decide +kernel)]; kernel_rfl) | (rw [if_neg (by decide +kernel)]; exact ⟨rfl, rfl⟩))
    (fun os started H enc _ => lifted os started H enc)

theorem proved : Rows.WaveScalesSaid :=
  over
end Go.Proofs.Ytgnofnjbmiepjaa.waveScales
