/- Proved here: what the texts Pcn, Plw, Hcm, Hcn prove, one behind the other. -/
import Derived.Test.YtnmadknpkhaolaaJz17
import Derived.Test.YtnmadknpkhaolaaJz18
import Derived.Test.YtnmadknpkhaolaaJz19
import Derived.Test.YtnmadknpkhaolaaJz13
import Derived.Test.YtnmadknpkhaolaaJz6
import Derived.Test.YtnmadknpkhaolaaJz4

namespace Go.Proofs.Ytnmadknpkhaolaa
open Go.ChangeShapes Go.WideShapes Go.ChangeAt Go.RowKit Ieee.Own

theorem cs_back {W : Pr} : ∀ (al : List Nat) (B D : Pr), CsR W al B D → ∀ i, i < al.length → ∃ B1 D1 M N B2, CsR W (al.drop (al.length - i)) B1 D1 ∧ MulR W B1 M ∧ SubR M D1 N ∧ AddR N (ptS (al.getD (al.length - 1 - i) 0)) B2 ∧ CsR W (al.drop (al.length - 1 - i)) B2 B1
  | [], _, _, _, i, h => by simp at h
  | a :: al, B, D, ⟨D', M, N, h1, h2, h3, h4⟩, i, hi => by
    by_cases e : i = al.length
    · subst e
      have e1 : (a :: al).length - al.length = 1 := by simp
      have e2 : (a :: al).length - 1 - al.length = 0 := by simp
      rw [e1, e2]
      exact ⟨D, D', M, N, B, h1, h2, h3, h4, D', M, N, h1, h2, h3, h4⟩
    · have hi' : i < al.length := by simp at hi; omega
      obtain ⟨B1, D1, M1, N1, B2, k1, k2, k3, k4, k5⟩ := cs_back al D D' h1 i hi'
      have e1 : (a :: al).length - i = al.length - i + 1 := by simp; omega
      have e2 : (a :: al).length - 1 - i = al.length - 1 - i + 1 := by simp; omega
      rw [e1, e2, List.drop_succ_cons, List.drop_succ_cons, List.getD_cons_succ]
      exact ⟨B1, D1, M1, N1, B2, k1, k2, k3, k4, k5⟩
theorem cs_lt {W : Pr} : ∀ {al : List Nat} {B D : Pr}, CsR W al B D → (B.1 < 18446744073709551616 ∧ B.2 < 18446744073709551616) ∧ (D.1 < 18446744073709551616 ∧ D.2 < 18446744073709551616)
  | [], B, D, ⟨h, k⟩ => by
    rw [h, k]; decide
  | _ :: _, _, _, ⟨_, _, _, h1, _, _, h4⟩ => ⟨add_lt h4, (cs_lt h1).1⟩
/-- what ChebSpan wants of a list that isn't empty -/
structure ChS (Z : Pr) (cs : List Nat) (n : Nat) (W B D M N P : Pr) : Prop where
  w : AddR Z Z W
  step : ∀ i, i < n - 1 → ∃ B1 D1 M N B2, CsR W (cs.tail.drop (n - 1 - i)) B1 D1 ∧ MulR W B1 M ∧ SubR M D1 N ∧ AddR N (ptS (cs.getD (n - 1 - i) 0)) B2 ∧ CsR W (cs.tail.drop (n - 1 - (i + 1))) B2 B1
  a0 : CsR W (cs.tail.drop 0) B D
  a8 : CsR W (cs.tail.drop (n - 1)) (0, 0) (0, 0)
  m : MulR Z B M
  n : SubR M D N
  p : AddR N (ptS (cs.getD 0 0)) P
theorem ch_parts {Z : Pr} {cs : List Nat} {P : Pr} {n : Nat} (hn : n = cs.length) (hp : 0 < n) (h : ChR Z cs P) : ∃ W B D M N, ChS Z cs n W B D M N P := by
  cases cs with
  | nil => simp at hn; omega
  | cons c cs =>
    obtain ⟨W, B, D, M, N, h0, h1, h2, h3, h4⟩ := h
    have e : n - 1 = cs.length := by simp at hn; omega
    refine ⟨W, B, D, M, N, h0, fun i hi => ?_, h1, ?_, h2, h3, h4⟩
    · rw [e] at hi ⊢
      obtain ⟨B1, D1, M1, N1, B2, k1, k2, k3, k4, k5⟩ := cs_back cs B D h1 i hi
      refine ⟨B1, D1, M1, N1, B2, k1, k2, k3, ?_, ?_⟩
      · have e2 : cs.length - i = cs.length - 1 - i + 1 := by omega
        rw [e2, List.getD_cons_succ]; exact k4
      · have e2 : cs.length - (i + 1) = cs.length - 1 - i := by omega
        rw [e2]; exact k5
    · rw [e]
      show CsR W (cs.drop cs.length) _ _
      rw [List.drop_length]; exact ⟨rfl, rfl⟩

set_option maxRecDepth 100000 in
theorem pcspan_no (ao : Option Addr) (cap n : Nat) (L : List Nat) (a b : Nat) (w : World) (hn : n = L.length) (hm : n ≤ 4611686018427387904) (hw : Words L) (ha : At w ao L) (ha0 : a < 18446744073709551616) (hb0 : b < 18446744073709551616) (h0 : errO m00 L a b ≠ 0) :
    Calls Try.prog 76 #[.slice ao n cap, spanV a b] w fun e w' => e = .returned (spanE 0 0 (errO m00 L a b)) ∧ Below w.heap.size w w' := by
  have K : Hid (∀ w, At w ao L → Calls Try.prog 89 #[.slice ao n cap, spanV a b, .float .f64 4607182418800017408] w fun e w' => e = .returned (.int .i64 (errO m00 L a b)) ∧ Below w.heap.size w w') := fun w h => checkOver_run m00 (by decide) ao cap n L a b w hn hm hw h ha0 hb0
  have C0 : Cls w [(w.heap.size, a, b), (w.heap.size + 1, 0, 0)] ((w.alloc (boxO a b)).alloc (boxO 0 0)) := by
    have := ((Cls.nil w).new a b).new 0 0
    simp only [List.nil_append, List.cons_append] at this
    rw [show (w.alloc (boxO a b)).heap.size = w.heap.size + 1 by simp] at this
    exact this
  have A0 := Lib.hid ((ha.alloc (boxO a b)).alloc (boxO 0 0))
  have p0 := (C0.at_ 0 rfl).lo
  have p1 := (C0.at_ 0 rfl).hi
  have t1 : (errO m00 L a b != 0) = true := by simpa using h0
  have hst := @fstore
  unfold boxO at *
  unfold spanV at *
  replace C0 := Lib.hid C0
  clear hn hm hw ha ha0 hb0 h0
  generalize errO m00 L a b = er at *
  go_enter Try.func76, Try.ntmps76
  go_wp2_with fail
  clear p0 p1
  have C := C0.out
  have A := A0.out
  clear C0 A0
  generalize (w.alloc _).alloc _ = wr at *
  refine (K.out wr A).mono ?_
  rintro _ w1 ⟨rfl, hb⟩
  have C1 := C.on hb
  have c0 := (C1.at_ 1 rfl).lo
  have c1 := (C1.at_ 1 rfl).hi
  have f0 := (C1.at_ 1 rfl).f0
  have f1 := (C1.at_ 1 rfl).f1
  have B := Lib.hid C1.old
  clear C C1 A hb K
  go_wp2_with fail
  (try simp only [Exit.inBlock, Exit.then])
  refine bodyPost_ret (v := spanE 0 0 er) ?_ rfl ⟨rfl, ?_⟩
  · rw [results_cell_tmp rfl]; unfold spanE; go_simp
  · exact (B.out.setCell (by show _ ≤ w.heap.size + 1; omega) _).setCell (by show _ ≤ w.heap.size + 1; omega) _
set_option maxRecDepth 100000 in
theorem pcspan_nil (ao : Option Addr) (cap n : Nat) (L : List Nat) (a b : Nat) (w : World) (hn : n = L.length) (hm : n ≤ 4611686018427387904) (hw : Words L) (ha : At w ao L) (ha0 : a < 18446744073709551616) (hb0 : b < 18446744073709551616) (h0 : errO m00 L a b = 0) (hz : n = 0) :
    Calls Try.prog 76 #[.slice ao n cap, spanV a b] w fun e w' => e = .returned (spanE 0 0 0) ∧ Below w.heap.size w w' := by
  have K : Hid (∀ w, At w ao L → Calls Try.prog 89 #[.slice ao n cap, spanV a b, .float .f64 4607182418800017408] w fun e w' => e = .returned (.int .i64 (errO m00 L a b)) ∧ Below w.heap.size w w') := fun w h => checkOver_run m00 (by decide) ao cap n L a b w hn hm hw h ha0 hb0
  have C0 : Cls w [(w.heap.size, a, b), (w.heap.size + 1, 0, 0)] ((w.alloc (boxO a b)).alloc (boxO 0 0)) := by
    have := ((Cls.nil w).new a b).new 0 0
    simp only [List.nil_append, List.cons_append] at this
    rw [show (w.alloc (boxO a b)).heap.size = w.heap.size + 1 by simp] at this
    exact this
  have A0 := Lib.hid ((ha.alloc (boxO a b)).alloc (boxO 0 0))
  have p0 := (C0.at_ 0 rfl).lo
  have p1 := (C0.at_ 0 rfl).hi
  rw [h0] at K
  subst hz
  have hst := @fstore
  unfold boxO at *
  unfold spanV at *
  replace C0 := Lib.hid C0
  clear hn hm hw ha ha0 hb0 h0
  go_enter Try.func76, Try.ntmps76
  go_wp2_with fail
  clear p0 p1
  have C := C0.out
  have A := A0.out
  clear C0 A0
  generalize (w.alloc _).alloc _ = wr at *
  refine (K.out wr A).mono ?_
  rintro _ w1 ⟨rfl, hb⟩
  have C1 := C.on hb
  have c0 := (C1.at_ 1 rfl).lo
  have c1 := (C1.at_ 1 rfl).hi
  have f0 := (C1.at_ 1 rfl).f0
  have f1 := (C1.at_ 1 rfl).f1
  have B := Lib.hid C1.old
  clear C C1 A hb K
  go_wp2_with fail
  (try simp only [Exit.inBlock, Exit.then])
  refine bodyPost_ret (v := spanE 0 0 0) ?_ rfl ⟨rfl, ?_⟩
  · rw [results_cell_tmp rfl]; unfold spanE; go_simp
  · exact (B.out.setCell (by show _ ≤ w.heap.size + 1; omega) _).setCell (by show _ ≤ w.heap.size + 1; omega) _
set_option maxHeartbeats 4000000 in
set_option maxRecDepth 100000 in
theorem pcspan_ok {Z P : Pr} (ao : Option Addr) (cap n : Nat) (cs : List Nat) (w : World) (hn : n = cs.length) (hp : 0 < n) (hm : n ≤ 4611686018427387904) (hw : Words cs) (ha : At w ao cs) (hz : Z.1 < 18446744073709551616 ∧ Z.2 < 18446744073709551616) (h0 : errO m00 cs Z.1 Z.2 = 0) (hP : ChR Z cs P) :
    Calls Try.prog 76 #[.slice ao n cap, pv Z] w fun e w' => e = .returned (spanE P.1 P.2 0) ∧ Below w.heap.size w w' := by
  obtain ⟨hl16, hfc⟩ := errC_zero hw (errO_zero h0).1
  replace hfc := Lib.hid hfc
  obtain ⟨Wp, Be, De, Me, Ne, CH⟩ := ch_parts hn hp hP
  have K : Hid (∀ w, At w ao cs → Calls Try.prog 89 #[.slice ao n cap, pv Z, .float .f64 4607182418800017408] w fun e w' => e = .returned (.int .i64 0) ∧ Below w.heap.size w w') := fun w h => by
    have := checkOver_run m00 (by decide) ao cap n cs Z.1 Z.2 w hn hm hw h hz.1 hz.2
    rw [h0] at this
    exact this
  have C0 : Cls w [(w.heap.size, Z.1, Z.2), (w.heap.size + 1, 0, 0)] ((w.alloc (boxO Z.1 Z.2)).alloc (boxO 0 0)) := by
    have := ((Cls.nil w).new Z.1 Z.2).new 0 0
    simp only [List.nil_append, List.cons_append] at this
    rw [show (w.alloc (boxO Z.1 Z.2)).heap.size = w.heap.size + 1 by simp] at this
    exact this
  have A0 := Lib.hid (((Lin.start ha).alloc (boxO Z.1 Z.2)).alloc (boxO 0 0))
  have AW := Lib.hid (fun w => padd_run hz hz CH.w w)
  have hwl := Lib.hid (add_lt CH.w)
  have tn : ((n : Int) == 0) = false := by simp; omega
  have tw : IntKind.i64.wrap ((n : Int) - 1) = (n : Int) - 1 := by rw [IntKind.wrap_i64]; omega
  have p0 := (C0.at_ 0 rfl).lo
  have p1 := (C0.at_ 0 rfl).hi
  have hst := @fstore
  replace CH := Lib.hid CH
  obtain ⟨z1, z2⟩ := Z
  obtain ⟨w1, w2⟩ := Wp
  dsimp only at *
  have n16 : n ≤ 16 := by omega
  clear hP hw ha h0 hl16 hm
  unfold boxO at *
  have epz : pv (z1, z2) = .agg #[.float .f64 z1, .float .f64 z2] := rfl
  have epw : pv (w1, w2) = .agg #[.float .f64 w1, .float .f64 w2] := rfl
  rw [epz]
  rw [epz] at K
  rw [epz, epw] at AW
  replace C0 := Lib.hid C0
  replace hn := Lib.hid hn
  replace hz := Lib.hid hz
  obtain ⟨B, hB⟩ : ∃ B, B = w.heap.size := ⟨_, rfl⟩
  clear epz epw
  go_enter Try.func76, Try.ntmps76
  go_wp2_with fail
  clear p0 p1
  have C := C0.out
  have A := A0.out
  clear C0 A0
  generalize (w.alloc _).alloc _ = wr at *
  refine (K.out wr A.at_).mono ?_
  rintro _ wa ⟨rfl, hb1⟩
  have C1 := C.on hb1
  have A1 := A.on hb1
  have p0 := (C1.at_ 0 rfl).lo
  have p1 := (C1.at_ 0 rfl).hi
  replace C1 := Lib.hid C1
  replace A1 := Lib.hid A1
  clear C A hb1 K
  go_wp2_with fail
  clear p0 p1
  refine (AW.out wa).mono ?_
  rintro _ wb ⟨rfl, hb2⟩
  have C2 := ((C1.out.on hb2).new w1 w2)
  have A2 := ((A1.out.on hb2).alloc (boxO w1 w2))
  have C3 := (C2.new 0 0).new 0 0
  have A3 := (A2.alloc (boxO 0 0)).alloc (boxO 0 0)
  simp only [List.cons_append, List.nil_append] at C3
  rw [show ((wb.alloc (boxO w1 w2)).alloc (boxO 0 0)).heap.size = wb.heap.size + 1 + 1 by simp, show (wb.alloc (boxO w1 w2)).heap.size = wb.heap.size + 1 by simp] at C3
  unfold boxO at C3 A3
  replace C3 := Lib.hid C3
  replace A3 := Lib.hid A3
  clear C1 A1 C2 A2 hb2 AW
  go_wp2_with fail
  clear hst
  rw [← hB] at C3 A3 ⊢
  have hBg : Hid (B ≤ wb.heap.size) := by have := (C3.out.blk 2 _ _ _ rfl).1; show B ≤ wb.heap.size; omega
  replace hB := Lib.hid hB
  generalize (((wb.alloc _).alloc _).alloc _) = wq at *
  obtain ⟨gw, hgw⟩ : ∃ g, g = wb.heap.size := ⟨_, rfl⟩
  rw [← hgw] at C3 hBg ⊢
  clear hgw
  obtain ⟨gb, hgb⟩ : ∃ g, g = gw + 1 := ⟨_, rfl⟩
  rw [← hgb] at C3 ⊢
  obtain ⟨gd, hgd⟩ : ∃ g, g = gb + 1 := ⟨_, rfl⟩
  rw [← hgd] at C3 ⊢
  have hBb : Hid (B ≤ gb) := by have := hBg.out; show B ≤ gb; omega
  have hBd : Hid (B ≤ gd) := by have := hBg.out; show B ≤ gd; omega
  clear hgb hgd
  go_loopw [31] (fun s31 wr => ∃ (i : Nat) (B1 D1 : Pr), i ≤ n - 1 ∧ s31 = .int .i64 i ∧ CsR (w1, w2) (cs.tail.drop (n - 1 - i)) B1 D1 ∧ Cls w [(B, z1, z2), (B + 1, 0, 0), (gw, w1, w2), (gb, B1.1, B1.2), (gd, D1.1, D1.2)] wr ∧ Lin B ao cs wr) (fun s31 _ => n - 1 - (intOf s31).toNat)
  case atStart => exact ⟨0, (0, 0), (0, 0), by omega, rfl, CH.out.a8, C3.out, A3.out⟩
  case round =>
    obtain ⟨i, B1, D1, hi, rfl, hS, hC, hR⟩ := hrel
    by_cases hlt : i < n - 1
    · obtain ⟨B1', D1', M, N, B2, k1, k2, k3, k4, k5⟩ := CH.out.step i hlt
      obtain ⟨rfl, rfl⟩ := hS.uniq k1
      obtain ⟨b, q0, rfl, -⟩ := hR.at_ (n - 1 - i) (by have := hn.out; omega)
      have hk : n - 1 - i < cs.length := by have := hn.out; omega
      have ha := fc_at hfc.out hk
      have hbd := cs_lt k1
      have hb1 := Lib.hid hbd.1
      have hd1 := Lib.hid hbd.2
      have hm := mul_lt k2
      have hnl := sub_lt k3
      have k5 := Lib.hid k5
      have hlt' : (i : Int) < (n : Int) - 1 := by omega
      replace hC := Lib.hid hC
      replace hR := Lib.hid hR
      replace k2 := Lib.hid k2
      replace k3 := Lib.hid k3
      replace k4 := Lib.hid k4
      replace hm := Lib.hid hm
      replace hnl := Lib.hid hnl
      replace ha := Lib.hid ha
      replace hk := Lib.hid hk
      clear hS k1 CH hfc hbd
      go_upto_region 9 with fail
      generalize hds : ([some 34, some 35, some 36, some 37, some 38, some 39, some 40, some 41, some 42, some 43, some 44, some 45, some 46, some 47, some 48, some 49, none, none] : List (Option Tmp)) = ds
      have hap : apartL ds = true := by rw [← hds]; decide
      have hds := hds.symm
      refine wp_region_sts [(B, z1, z2), (B + 1, 0, 0), (gw, w1, w2), (gb, B2.1, B2.2), (gd, B1.1, B1.2)] [⟨16, 3, gb, B2.1, B2.2⟩, ⟨17, 4, gd, B1.1, B1.2⟩] [pv (w1, w2), pv B1, pv M, pv D1, pv N, .slice (some ⟨b, q0, none⟩) n cap, .slice (some ⟨b, q0, none⟩) n cap, .int .i64 (n : Int), .int .i64 ((n : Int) - 1), .int .i64 (i : Int), .int .i64 ((n : Int) - 1 - (i : Int)), .pointer (some ⟨b, q0 + (n - 1 - i), none⟩), .float .f64 (cs.getD (n - 1 - i) 0), pv (ptS (cs.getD (n - 1 - i) 0)), pv B2, pv B1, undef, undef]
        ds (by kernel_rfl) (by rw [hds]; rfl) hap (by decide +kernel) (by decide +kernel) rfl hC.out ?hE2 ?hE3 ?hj ?hi ?his (fun W => Lin B (some ⟨b, q0, none⟩) cs W) hR.out.drew (fun _ _ A h => A.on h) ?hJs ?step ?store ?fin
      case hE2 =>
        intro j h
        have n0 : 3 ≠ j := h _ (List.mem_cons_self ..)
        have n1 : 4 ≠ j := h _ (List.mem_cons_of_mem _ (List.mem_cons_self ..))
        rcases j with _ | _ | _ | _ | _ | j
        · rfl
        · rfl
        · rfl
        · exact absurd rfl n0
        · exact absurd rfl n1
        · rfl
      case hE3 => intro st h; simp only [List.mem_cons, List.not_mem_nil, or_false] at h; rcases h with rfl | rfl <;> rfl
      case hj => intro st h; simp only [List.mem_cons, List.not_mem_nil, or_false] at h; rcases h with rfl | rfl <;> exact ⟨_, _, rfl⟩
      case hi =>
        intro st h st' h' e
        simp only [List.mem_cons, List.not_mem_nil, or_false] at h; rcases h with rfl | rfl <;> (simp only [List.mem_cons, List.not_mem_nil, or_false] at h'; rcases h' with rfl | rfl) <;> first | rfl | (exfalso; revert e; simp)
      case his => intro st h; simp only [List.mem_cons, List.not_mem_nil, or_false] at h; rcases h with rfl | rfl
                  · show 16 < 18; decide
                  · show 17 < 18; decide
      case hJs =>
        intro st h W A
        simp only [List.mem_cons, List.not_mem_nil, or_false] at h
        rcases h with rfl | rfl
        · exact A.put hBb.out _ _
        · exact A.put hBd.out _ _
      case step =>
        intro L W i o ho hs hd hB hJ
        have hi : i < 18 := (Array.getElem?_eq_some_iff.1 ho).1
        have : i = 0 ∨ i = 1 ∨ i = 2 ∨ i = 3 ∨ i = 4 ∨ i = 5 ∨ i = 6 ∨ i = 7 ∨ i = 8 ∨ i = 9 ∨ i = 10 ∨ i = 11 ∨ i = 12 ∨ i = 13 ∨ i = 14 ∨ i = 15 ∨ i = 16 ∨ i = 17 := by omega
        rcases this with rfl | rfl | rfl | rfl | rfl | rfl | rfl | rfl | rfl | rfl | rfl | rfl | rfl | rfl | rfl | rfl | rfl | rfl
        · -- 0
          obtain rfl := Option.some.inj ho
          have b := hB 2 _ _ _ rfl (by
            intro st hst e
            simp only [List.mem_cons, List.not_mem_nil, or_false] at hst
            rcases hst with rfl | rfl
            · exact absurd e (show ¬ 3 = 2 by decide)
            · exact absurd e (show ¬ 4 = 2 by decide))
          refine .value W ?_ (Below.refl _ _)
          generalize hA : (puts ds L _).eval = ρ
          have h0 : ρ (.tmp 7) = .pointer (some ⟨gw, 0, none⟩) := by rw [← hA]; exact (puts_old ds L _ (by rw [hds]; decide)).trans rfl
          exact ex_loads rfl h0 b.lo b.hi
        · -- 1
          obtain rfl := Option.some.inj ho
          have b := hB 3 _ _ _ rfl (by
            intro st hst e
            simp only [List.mem_cons, List.not_mem_nil, or_false] at hst
            rcases hst with rfl | rfl
            · change needs _ _ 16 1 = true; decide +kernel
            · exact absurd e (show ¬ 4 = 3 by decide))
          refine .value W ?_ (Below.refl _ _)
          generalize hA : (puts ds L _).eval = ρ
          have h0 : ρ (.tmp 8) = .pointer (some ⟨gb, 0, none⟩) := by rw [← hA]; exact (puts_old ds L _ (by rw [hds]; decide)).trans rfl
          exact ex_loads rfl h0 b.lo b.hi
        · -- 2
          obtain rfl := Option.some.inj ho
          refine .call 92 #[pv (w1, w2), pv B1] ?_ (pmul_run hwl.out hb1.out k2.out W)
          generalize hA : (puts ds L _).eval = ρ
          have hc : ∀ v, ρ (.const v) = v := fun v => by rw [← hA]; rfl
          have hg : ∀ g, ρ (.func g) = .func (.func g) #[] #[] := fun v => by rw [← hA]; rfl
          have h0 : ρ (.tmp 34) = pv (w1, w2) := by rw [← hA]; exact puts_get 0 ds L _ hap (by rw [hds]; rfl) (hd 0 (by decide +kernel)) (show 34 < 61 by decide)
          have h1 : ρ (.tmp 35) = pv B1 := by rw [← hA]; exact puts_get 1 ds L _ hap (by rw [hds]; rfl) (hd 1 (by decide +kernel)) (show 35 < 61 by decide)
          have hf := Try.func92
          unfold execOp
          go_simp
        · -- 3
          obtain rfl := Option.some.inj ho
          have b := hB 4 _ _ _ rfl (by
            intro st hst e
            simp only [List.mem_cons, List.not_mem_nil, or_false] at hst
            rcases hst with rfl | rfl
            · exact absurd e (show ¬ 3 = 4 by decide)
            · change needs _ _ 17 3 = true; decide +kernel)
          refine .value W ?_ (Below.refl _ _)
          generalize hA : (puts ds L _).eval = ρ
          have h0 : ρ (.tmp 9) = .pointer (some ⟨gd, 0, none⟩) := by rw [← hA]; exact (puts_old ds L _ (by rw [hds]; decide)).trans rfl
          exact ex_loads rfl h0 b.lo b.hi
        · -- 4
          obtain rfl := Option.some.inj ho
          refine .call 91 #[pv M, pv D1] ?_ (psub_run hm.out hd1.out k3.out W)
          generalize hA : (puts ds L _).eval = ρ
          have hc : ∀ v, ρ (.const v) = v := fun v => by rw [← hA]; rfl
          have hg : ∀ g, ρ (.func g) = .func (.func g) #[] #[] := fun v => by rw [← hA]; rfl
          have h0 : ρ (.tmp 36) = pv M := by rw [← hA]; exact puts_get 2 ds L _ hap (by rw [hds]; rfl) (hd 2 (by decide +kernel)) (show 36 < 61 by decide)
          have h1 : ρ (.tmp 37) = pv D1 := by rw [← hA]; exact puts_get 3 ds L _ hap (by rw [hds]; rfl) (hd 3 (by decide +kernel)) (show 37 < 61 by decide)
          have hf := Try.func91
          unfold execOp
          go_simp
        · -- 5
          obtain rfl := Option.some.inj ho
          refine .value W ?_ (Below.refl _ _)
          generalize hA : (puts ds L _).eval = ρ
          have h0 : ρ (.tmp 0) = .slice (some ⟨b, q0, none⟩) n cap := by rw [← hA]; exact (puts_old ds L _ (by rw [hds]; decide)).trans rfl
          exact ex_move W rfl h0
        · -- 6
          obtain rfl := Option.some.inj ho
          refine .value W ?_ (Below.refl _ _)
          generalize hA : (puts ds L _).eval = ρ
          have h0 : ρ (.tmp 0) = .slice (some ⟨b, q0, none⟩) n cap := by rw [← hA]; exact (puts_old ds L _ (by rw [hds]; decide)).trans rfl
          exact ex_move W rfl h0
        · -- 7
          obtain rfl := Option.some.inj ho
          refine .value W ?_ (Below.refl _ _)
          generalize hA : (puts ds L _).eval = ρ
          have hc : ∀ v, ρ (.const v) = v := fun v => by rw [← hA]; rfl
          have h0 : ρ (.tmp 40) = .slice (some ⟨b, q0, none⟩) n cap := by rw [← hA]; exact puts_get 6 ds L _ hap (by rw [hds]; rfl) (hd 6 (by decide +kernel)) (show 40 < 61 by decide)
          unfold execOp
          go_simp
        · -- 8
          obtain rfl := Option.some.inj ho
          refine .value W ?_ (Below.refl _ _)
          generalize hA : (puts ds L _).eval = ρ
          have hc : ∀ v, ρ (.const v) = v := fun v => by rw [← hA]; rfl
          have h0 : ρ (.tmp 41) = .int .i64 (n : Int) := by rw [← hA]; exact puts_get 7 ds L _ hap (by rw [hds]; rfl) (hd 7 (by decide +kernel)) (show 41 < 61 by decide)
          have e : IntKind.i64.wrap ((n : Int) - 1) = (n : Int) - 1 := by rw [IntKind.wrap_i64]; omega
          unfold execOp
          go_simp
        · -- 9
          obtain rfl := Option.some.inj ho
          refine .value W ?_ (Below.refl _ _)
          generalize hA : (puts ds L _).eval = ρ
          have h0 : ρ (.tmp 10) = .int .i64 (i : Int) := by rw [← hA]; exact (puts_old ds L _ (by rw [hds]; decide)).trans rfl
          exact ex_move W rfl h0
        · -- 10
          obtain rfl := Option.some.inj ho
          refine .value W ?_ (Below.refl _ _)
          generalize hA : (puts ds L _).eval = ρ
          have hc : ∀ v, ρ (.const v) = v := fun v => by rw [← hA]; rfl
          have h0 : ρ (.tmp 42) = .int .i64 ((n : Int) - 1) := by rw [← hA]; exact puts_get 8 ds L _ hap (by rw [hds]; rfl) (hd 8 (by decide +kernel)) (show 42 < 61 by decide)
          have h1 : ρ (.tmp 43) = .int .i64 (i : Int) := by rw [← hA]; exact puts_get 9 ds L _ hap (by rw [hds]; rfl) (hd 9 (by decide +kernel)) (show 43 < 61 by decide)
          have e : IntKind.i64.wrap ((n : Int) - 1 - (i : Int)) = (n : Int) - 1 - (i : Int) := by rw [IntKind.wrap_i64]; omega
          unfold execOp
          go_simp
        · -- 11
          obtain rfl := Option.some.inj ho
          refine .value W ?_ (Below.refl _ _)
          generalize hA : (puts ds L _).eval = ρ
          have hc : ∀ v, ρ (.const v) = v := fun v => by rw [← hA]; rfl
          have h0 : ρ (.tmp 39) = .slice (some ⟨b, q0, none⟩) n cap := by rw [← hA]; exact puts_get 5 ds L _ hap (by rw [hds]; rfl) (hd 5 (by decide +kernel)) (show 39 < 61 by decide)
          have h1 : ρ (.tmp 44) = .int .i64 ((n : Int) - 1 - (i : Int)) := by rw [← hA]; exact puts_get 10 ds L _ hap (by rw [hds]; rfl) (hd 10 (by decide +kernel)) (show 44 < 61 by decide)
          have e1 : (i : Int) ≤ (n : Int) - 1 := by omega
          have e2 : (n : Int) - 1 - (i : Int) < (n : Int) := by omega
          have e3 : ((n : Int) - 1 - (i : Int)).toNat = n - 1 - i := by omega
          unfold execOp
          go_simp
        · -- 12
          obtain rfl := Option.some.inj ho
          refine .value W ?_ (Below.refl _ _)
          generalize hA : (puts ds L _).eval = ρ
          have hc : ∀ v, ρ (.const v) = v := fun v => by rw [← hA]; rfl
          have h0 : ρ (.tmp 45) = .pointer (some ⟨b, q0 + (n - 1 - i), none⟩) := by rw [← hA]; exact puts_get 11 ds L _ hap (by rw [hds]; rfl) (hd 11 (by decide +kernel)) (show 45 < 61 by decide)
          have c := hJ.cell hk.out
          unfold execOp
          go_simp
        · -- 13
          obtain rfl := Option.some.inj ho
          refine .call 93 #[.float .f64 (cs.getD (n - 1 - i) 0)] ?_ (ppoint_run ha.out.lt ha.out.fit W)
          generalize hA : (puts ds L _).eval = ρ
          have hc : ∀ v, ρ (.const v) = v := fun v => by rw [← hA]; rfl
          have hg : ∀ g, ρ (.func g) = .func (.func g) #[] #[] := fun v => by rw [← hA]; rfl
          have h0 : ρ (.tmp 46) = .float .f64 (cs.getD (n - 1 - i) 0) := by rw [← hA]; exact puts_get 12 ds L _ hap (by rw [hds]; rfl) (hd 12 (by decide +kernel)) (show 46 < 61 by decide)
          have hf := Try.func93
          unfold execOp
          go_simp
        · -- 14
          obtain rfl := Option.some.inj ho
          refine .call 90 #[pv N, pv (ptS (cs.getD (n - 1 - i) 0))] ?_ (padd_run hnl.out (pt_lt ha.out) k4.out W)
          generalize hA : (puts ds L _).eval = ρ
          have hc : ∀ v, ρ (.const v) = v := fun v => by rw [← hA]; rfl
          have hg : ∀ g, ρ (.func g) = .func (.func g) #[] #[] := fun v => by rw [← hA]; rfl
          have h0 : ρ (.tmp 38) = pv N := by rw [← hA]; exact puts_get 4 ds L _ hap (by rw [hds]; rfl) (hd 4 (by decide +kernel)) (show 38 < 61 by decide)
          have h1 : ρ (.tmp 47) = pv (ptS (cs.getD (n - 1 - i) 0)) := by rw [← hA]; exact puts_get 13 ds L _ hap (by rw [hds]; rfl) (hd 13 (by decide +kernel)) (show 47 < 61 by decide)
          have hf := Try.func90
          unfold execOp
          go_simp
        · -- 15
          obtain rfl := Option.some.inj ho
          have b := hB 3 _ _ _ rfl (by
            intro st hst e
            simp only [List.mem_cons, List.not_mem_nil, or_false] at hst
            rcases hst with rfl | rfl
            · change needs _ _ 16 15 = true; decide +kernel
            · exact absurd e (show ¬ 4 = 3 by decide))
          refine .value W ?_ (Below.refl _ _)
          generalize hA : (puts ds L _).eval = ρ
          have h0 : ρ (.tmp 8) = .pointer (some ⟨gb, 0, none⟩) := by rw [← hA]; exact (puts_old ds L _ (by rw [hds]; decide)).trans rfl
          exact ex_loads rfl h0 b.lo b.hi
        · -- 16
          exact absurd rfl (hs _ (List.mem_cons_self ..))
        · -- 17
          exact absurd rfl (hs _ (List.mem_cons_of_mem _ (List.mem_cons_self ..)))
      case store =>
        intro st hst L W o x y ho hd b
        generalize hA : (puts ds L _).eval = ρ
        simp only [List.mem_cons, List.not_mem_nil, or_false] at hst
        rcases hst with rfl | rfl
        · dsimp only at ho b ⊢
          obtain rfl := Option.some.inj ho
          have h0 : ρ (.tmp 8) = .pointer (some ⟨gb, 0, none⟩) := by rw [← hA]; exact (puts_old ds L _ (by rw [hds]; decide)).trans rfl
          have h1 : ρ (.tmp 48) = pv B2 := by rw [← hA]; exact puts_get 14 ds L _ hap (by rw [hds]; rfl) (hd 14 (by decide +kernel)) (show 48 < 61 by decide)
          exact ⟨ex_store rfl h0 h1 b.lo b.hi b.f0 b.f1, rfl⟩
        · dsimp only at ho b ⊢
          obtain rfl := Option.some.inj ho
          have h0 : ρ (.tmp 9) = .pointer (some ⟨gd, 0, none⟩) := by rw [← hA]; exact (puts_old ds L _ (by rw [hds]; decide)).trans rfl
          have h1 : ρ (.tmp 49) = pv B1 := by rw [← hA]; exact puts_get 15 ds L _ hap (by rw [hds]; rfl) (hd 15 (by decide +kernel)) (show 49 < 61 by decide)
          exact ⟨ex_store rfl h0 h1 b.lo b.hi b.f0 b.f1, rfl⟩
      case fin =>
        intro w' hC' hR'
        rw [hds]
        clear hds hap k2 k3 k4 hm hnl ha hk hR hC hb1 hd1
        simp only [List.map_cons, List.map_nil, puts, Act.put, List.setIfInBounds_toArray, List.set_cons_zero, List.set_cons_succ]
        go_wp2_with fail
        refine ⟨⟨i + 1, B2, B1, by omega, by simp, k5.out, hC', hR'⟩, by simp only [intOf]; omega⟩
    · obtain rfl : i = n - 1 := by omega
      rw [Nat.sub_self] at hS
      obtain ⟨rfl, rfl⟩ := hS.uniq CH.out.a0
      obtain ⟨b, q0, rfl, -⟩ := hR.at_ 0 (by have := hn.out; omega)
      have hk : 0 < cs.length := by have := hn.out; omega
      have ha := Lib.hid (fc_at hfc.out hk)
      have hbd := cs_lt hS
      have hb1 := Lib.hid hbd.1
      have hd1 := Lib.hid hbd.2
      have hm := Lib.hid (mul_lt CH.out.m)
      have hnl := Lib.hid (sub_lt CH.out.n)
      have k2 := Lib.hid CH.out.m
      have k3 := Lib.hid CH.out.n
      have k4 := Lib.hid CH.out.p
      have ei : ((n - 1 : Nat) : Int) = (n : Int) - 1 := by omega
      replace hC := Lib.hid hC
      replace hR := Lib.hid hR
      replace hk := Lib.hid hk
      clear hS CH hfc hbd C3 A3
      rw [ei]
      go_upto_region 11 with fail
      generalize hds : ([some 51, some 52, some 53, some 54, some 55, some 56, some 57, some 58, some 59, some 60, none, some 5] : List (Option Tmp)) = ds
      have hap : apartL ds = true := by rw [← hds]; decide
      have hds := hds.symm
      refine wp_region_sts [(B, z1, z2), (B + 1, P.1, P.2), (gw, w1, w2), (gb, B1.1, B1.2), (gd, D1.1, D1.2)] [⟨10, 1, B + 1, P.1, P.2⟩] [pv (z1, z2), pv B1, pv Me, pv D1, pv Ne, .slice (some ⟨b, q0, none⟩) n cap, .pointer (some ⟨b, q0, none⟩), .float .f64 (cs.getD 0 0), pv (ptS (cs.getD 0 0)), pv P, undef, .int .i64 0]
        ds (by kernel_rfl) (by rw [hds]; rfl) hap (by decide +kernel) (by decide +kernel) rfl hC.out ?hE2 ?hE3 ?hj ?hi ?his (fun W => Lin B (some ⟨b, q0, none⟩) cs W) hR.out.drew (fun _ _ A h => A.on h) ?hJs ?step ?store ?fin
      case hE2 =>
        intro j h
        have n0 : 1 ≠ j := h _ (List.mem_cons_self ..)
        rcases j with _ | _ | _ | _ | _ | j
        · rfl
        · exact absurd rfl n0
        · rfl
        · rfl
        · rfl
        · rfl
      case hE3 => intro st h; simp only [List.mem_cons, List.not_mem_nil, or_false] at h; rcases h with rfl <;> rfl
      case hj => intro st h; simp only [List.mem_cons, List.not_mem_nil, or_false] at h; rcases h with rfl <;> exact ⟨_, _, rfl⟩
      case hi => intro st h st' h' _; simp only [List.mem_cons, List.not_mem_nil, or_false] at h; rcases h with rfl; simp only [List.mem_cons, List.not_mem_nil, or_false] at h'; rcases h' with rfl; rfl
      case his => intro st h; simp only [List.mem_cons, List.not_mem_nil, or_false] at h; rcases h with rfl
                  · show 10 < 12; decide
      case hJs => intro st h W A; obtain rfl := List.mem_singleton.1 h; exact A.put (by show B ≤ B + 1; omega) _ _
      case step =>
        intro L W i o ho hs hd hB hJ
        have hi : i < 12 := (Array.getElem?_eq_some_iff.1 ho).1
        have : i = 0 ∨ i = 1 ∨ i = 2 ∨ i = 3 ∨ i = 4 ∨ i = 5 ∨ i = 6 ∨ i = 7 ∨ i = 8 ∨ i = 9 ∨ i = 10 ∨ i = 11 := by omega
        rcases this with rfl | rfl | rfl | rfl | rfl | rfl | rfl | rfl | rfl | rfl | rfl | rfl
        · -- 0
          obtain rfl := Option.some.inj ho
          have b := hB 0 _ _ _ rfl (by
            intro st hst e
            simp only [List.mem_cons, List.not_mem_nil, or_false] at hst
            rcases hst with rfl
            · exact absurd e (show ¬ 1 = 0 by decide))
          refine .value W ?_ (Below.refl _ _)
          generalize hA : (puts ds L _).eval = ρ
          have h0 : ρ (.tmp 3) = .pointer (some ⟨B, 0, none⟩) := by rw [← hA]; exact (puts_old ds L _ (by rw [hds]; decide)).trans rfl
          exact ex_loads rfl h0 b.lo b.hi
        · -- 1
          obtain rfl := Option.some.inj ho
          have b := hB 3 _ _ _ rfl (by
            intro st hst e
            simp only [List.mem_cons, List.not_mem_nil, or_false] at hst
            rcases hst with rfl
            · exact absurd e (show ¬ 1 = 3 by decide))
          refine .value W ?_ (Below.refl _ _)
          generalize hA : (puts ds L _).eval = ρ
          have h0 : ρ (.tmp 8) = .pointer (some ⟨gb, 0, none⟩) := by rw [← hA]; exact (puts_old ds L _ (by rw [hds]; decide)).trans rfl
          exact ex_loads rfl h0 b.lo b.hi
        · -- 2
          obtain rfl := Option.some.inj ho
          refine .call 92 #[pv (z1, z2), pv B1] ?_ (pmul_run hz.out hb1.out k2.out W)
          generalize hA : (puts ds L _).eval = ρ
          have hc : ∀ v, ρ (.const v) = v := fun v => by rw [← hA]; rfl
          have hg : ∀ g, ρ (.func g) = .func (.func g) #[] #[] := fun v => by rw [← hA]; rfl
          have h0 : ρ (.tmp 51) = pv (z1, z2) := by rw [← hA]; exact puts_get 0 ds L _ hap (by rw [hds]; rfl) (hd 0 (by decide +kernel)) (show 51 < 61 by decide)
          have h1 : ρ (.tmp 52) = pv B1 := by rw [← hA]; exact puts_get 1 ds L _ hap (by rw [hds]; rfl) (hd 1 (by decide +kernel)) (show 52 < 61 by decide)
          have hf := Try.func92
          unfold execOp
          go_simp
        · -- 3
          obtain rfl := Option.some.inj ho
          have b := hB 4 _ _ _ rfl (by
            intro st hst e
            simp only [List.mem_cons, List.not_mem_nil, or_false] at hst
            rcases hst with rfl
            · exact absurd e (show ¬ 1 = 4 by decide))
          refine .value W ?_ (Below.refl _ _)
          generalize hA : (puts ds L _).eval = ρ
          have h0 : ρ (.tmp 9) = .pointer (some ⟨gd, 0, none⟩) := by rw [← hA]; exact (puts_old ds L _ (by rw [hds]; decide)).trans rfl
          exact ex_loads rfl h0 b.lo b.hi
        · -- 4
          obtain rfl := Option.some.inj ho
          refine .call 91 #[pv Me, pv D1] ?_ (psub_run hm.out hd1.out k3.out W)
          generalize hA : (puts ds L _).eval = ρ
          have hc : ∀ v, ρ (.const v) = v := fun v => by rw [← hA]; rfl
          have hg : ∀ g, ρ (.func g) = .func (.func g) #[] #[] := fun v => by rw [← hA]; rfl
          have h0 : ρ (.tmp 53) = pv Me := by rw [← hA]; exact puts_get 2 ds L _ hap (by rw [hds]; rfl) (hd 2 (by decide +kernel)) (show 53 < 61 by decide)
          have h1 : ρ (.tmp 54) = pv D1 := by rw [← hA]; exact puts_get 3 ds L _ hap (by rw [hds]; rfl) (hd 3 (by decide +kernel)) (show 54 < 61 by decide)
          have hf := Try.func91
          unfold execOp
          go_simp
        · -- 5
          obtain rfl := Option.some.inj ho
          refine .value W ?_ (Below.refl _ _)
          generalize hA : (puts ds L _).eval = ρ
          have h0 : ρ (.tmp 0) = .slice (some ⟨b, q0, none⟩) n cap := by rw [← hA]; exact (puts_old ds L _ (by rw [hds]; decide)).trans rfl
          exact ex_move W rfl h0
        · -- 6
          obtain rfl := Option.some.inj ho
          refine .value W ?_ (Below.refl _ _)
          generalize hA : (puts ds L _).eval = ρ
          have hc : ∀ v, ρ (.const v) = v := fun v => by rw [← hA]; rfl
          have h0 : ρ (.tmp 56) = .slice (some ⟨b, q0, none⟩) n cap := by rw [← hA]; exact puts_get 5 ds L _ hap (by rw [hds]; rfl) (hd 5 (by decide +kernel)) (show 56 < 61 by decide)
          have e1 : (0 : Int) < (n : Int) := by omega
          unfold execOp
          go_simp
        · -- 7
          obtain rfl := Option.some.inj ho
          refine .value W ?_ (Below.refl _ _)
          generalize hA : (puts ds L _).eval = ρ
          have hc : ∀ v, ρ (.const v) = v := fun v => by rw [← hA]; rfl
          have h0 : ρ (.tmp 57) = .pointer (some ⟨b, q0, none⟩) := by rw [← hA]; exact puts_get 6 ds L _ hap (by rw [hds]; rfl) (hd 6 (by decide +kernel)) (show 57 < 61 by decide)
          have c := hJ.cell hk.out
          rw [Nat.add_zero] at c
          unfold execOp
          go_simp
        · -- 8
          obtain rfl := Option.some.inj ho
          refine .call 93 #[.float .f64 (cs.getD 0 0)] ?_ (ppoint_run ha.out.lt ha.out.fit W)
          generalize hA : (puts ds L _).eval = ρ
          have hc : ∀ v, ρ (.const v) = v := fun v => by rw [← hA]; rfl
          have hg : ∀ g, ρ (.func g) = .func (.func g) #[] #[] := fun v => by rw [← hA]; rfl
          have h0 : ρ (.tmp 58) = .float .f64 (cs.getD 0 0) := by rw [← hA]; exact puts_get 7 ds L _ hap (by rw [hds]; rfl) (hd 7 (by decide +kernel)) (show 58 < 61 by decide)
          have hf := Try.func93
          unfold execOp
          go_simp
        · -- 9
          obtain rfl := Option.some.inj ho
          refine .call 90 #[pv Ne, pv (ptS (cs.getD 0 0))] ?_ (padd_run hnl.out (pt_lt ha.out) k4.out W)
          generalize hA : (puts ds L _).eval = ρ
          have hc : ∀ v, ρ (.const v) = v := fun v => by rw [← hA]; rfl
          have hg : ∀ g, ρ (.func g) = .func (.func g) #[] #[] := fun v => by rw [← hA]; rfl
          have h0 : ρ (.tmp 55) = pv Ne := by rw [← hA]; exact puts_get 4 ds L _ hap (by rw [hds]; rfl) (hd 4 (by decide +kernel)) (show 55 < 61 by decide)
          have h1 : ρ (.tmp 59) = pv (ptS (cs.getD 0 0)) := by rw [← hA]; exact puts_get 8 ds L _ hap (by rw [hds]; rfl) (hd 8 (by decide +kernel)) (show 59 < 61 by decide)
          have hf := Try.func90
          unfold execOp
          go_simp
        · -- 10
          exact absurd rfl (hs _ (List.mem_cons_self ..))
        · -- 11
          obtain rfl := Option.some.inj ho
          refine .value W ?_ (Below.refl _ _)
          generalize hA : (puts ds L _).eval = ρ
          have hc : ∀ v, ρ (.const v) = v := fun v => by rw [← hA]; rfl
          unfold execOp
          go_simp
      case store =>
        intro st hst L W o x y ho hd b
        generalize hA : (puts ds L _).eval = ρ
        simp only [List.mem_cons, List.not_mem_nil, or_false] at hst
        rcases hst with rfl
        · dsimp only at ho b ⊢
          obtain rfl := Option.some.inj ho
          have h0 : ρ (.tmp 4) = .pointer (some ⟨B + 1, 0, none⟩) := by rw [← hA]; exact (puts_old ds L _ (by rw [hds]; decide)).trans rfl
          have h1 : ρ (.tmp 60) = pv P := by rw [← hA]; exact puts_get 9 ds L _ hap (by rw [hds]; rfl) (hd 9 (by decide +kernel)) (show 60 < 61 by decide)
          exact ⟨ex_store rfl h0 h1 b.lo b.hi b.f0 b.f1, rfl⟩
      case fin =>
        intro w' hC' hR'
        rw [hds]
        clear hds hap k2 k3 k4 hm hnl ha hk hR hC hb1 hd1
        simp only [List.map_cons, List.map_nil, puts, Act.put, List.setIfInBounds_toArray, List.set_cons_zero, List.set_cons_succ]
        have d0 := (hC'.at_ 1 rfl).lo
        have d1 := (hC'.at_ 1 rfl).hi
        have BB := Lib.hid hC'.old
        obtain ⟨x1, x2⟩ := P
        dsimp only at d0 d1
        clear hC' hR' hn
        go_wp2_with fail
        (try simp only [Exit.inBlock, Exit.then])
        refine bodyPost_ret (v := spanE x1 x2 0) ?_ rfl ⟨rfl, BB.out⟩
        rw [results_cell_tmp rfl]; unfold spanE; go_simp
end Go.Proofs.Ytnmadknpkhaolaa

namespace Go.Proofs.Ytnmadknpkhaolaa
open Go.ChangeShapes Go.WideShapes Go.ChangeAt Go.RowKit Ieee.Own

theorem wn_of {m a b : Nat} {L : List Nat} {k : Nat} (hv : val 52 m = 2 ^ k) (ha : a < 18446744073709551616) (hb : b < 18446744073709551616) (h0 : errO m L a b = 0) : Wn (a, b) (2 ^ k) := by
  obtain ⟨-, h1, h2, h3⟩ := errO_zero h0
  obtain ⟨-, -, b1⟩ := inM_bd ha h2
  obtain ⟨-, -, b2⟩ := inM_bd hb h3
  rw [hv] at b1 b2
  exact ⟨ha, hb, h1, (abs_pow b1).1, (abs_pow b2).2⟩
theorem wn00 {a b : Nat} {L : List Nat} (ha : a < 18446744073709551616) (hb : b < 18446744073709551616) (h0 : errO m00 L a b = 0) : Wn (a, b) (2 ^ 1074) := wn_of m00_V ha hb h0
structure CsA (L : List Nat) (a b : Nat) (p : Pr) (k : Int) : Prop where
  er : k = errO m00 L a b
  ok : k = 0 → ChR (a, b) L p
  no : k ≠ 0 → p = (0, 0)
set_option maxRecDepth 100000 in
theorem csp_own {L : List Nat} {n a b : Nat} (hn : n = L.length) (hm : n ≤ 4611686018427387904) (hw : Words L) (ha : a < 18446744073709551616) (hb : b < 18446744073709551616) :
    ∃ p k, CsA L a b p k ∧ ∀ ao cap w, At w ao L → Calls Try.prog 76 #[.slice ao n cap, spanV a b] w fun e w' => e = .returned (spanE p.1 p.2 k) ∧ Below w.heap.size w w' := by
  by_cases h0 : errO m00 L a b = 0
  · obtain ⟨hl, hc⟩ := errC_zero hw (errO_zero h0).1
    obtain ⟨P, -, R, -⟩ := ch_ex (wn00 ha hb h0) L hc hl
    refine ⟨P, 0, ⟨h0.symm, fun _ => R, fun h => absurd rfl h⟩, fun ao cap w h => ?_⟩
    by_cases hz : n = 0
    · have e : L = [] := List.eq_nil_of_length_eq_zero (by omega)
      have R' := R
      rw [e] at R'
      have R' : P = (0, 0) := R'
      rw [R']
      exact pcspan_nil ao cap n L a b w hn hm hw h ha hb h0 hz
    · exact pcspan_ok (Z := (a, b)) ao cap n L w hn (by omega) hm hw h ⟨ha, hb⟩ h0 R
  · exact ⟨(0, 0), _, ⟨rfl, fun h => absurd h h0, fun _ => rfl⟩, fun ao cap w h => pcspan_no ao cap n L a b w hn hm hw h ha hb h0⟩
end Go.Proofs.Ytnmadknpkhaolaa

namespace Go.Proofs.Ytnmadknpkhaolaa
open Go.ChangeShapes Go.WideShapes Go.ChangeAt Go.RowKit Ieee.Own Pol

/-! ### the span of values -/
open Classical in
noncomputable def chP (X : Pr) (cs : List Nat) : Pr := if h : ∃ P, ChR X cs P then h.choose else (0, 0)
theorem chP_eq {X : Pr} {cs : List Nat} {P : Pr} (h : ChR X cs P) : chP X cs = P := by
  have e : ∃ P, ChR X cs P := ⟨P, h⟩
  unfold chP
  rw [dif_pos e]
  exact e.choose_spec.uniq h
theorem chP_of {X : Pr} {cs : List Nat} (hX : Wn X (2 ^ 1074)) (hc : ∀ c ∈ cs, Fc c) (hl : cs.length ≤ 16) : ChR X cs (chP X cs) ∧ Wn (chP X cs) (2 ^ (1074 + 92)) ∧ ∀ x, In x (ps X) → In (chv x (cs.map Q)) (ps (chP X cs)) := by
  obtain ⟨P, a, b, c⟩ := ch_ex hX cs hc hl
  rw [chP_eq b]
  exact ⟨b, a, c⟩
open Classical in
noncomputable def adH (p q : Pr) : Pr := if h : ∃ u, AddR p q u then h.choose else (0, 0)
theorem adH_eq {p q u : Pr} (h : AddR p q u) : adH p q = u := by
  have e : ∃ u, AddR p q u := ⟨u, h⟩
  unfold adH
  rw [dif_pos e]
  exact e.choose_spec.uniq h
/-! ### hulls -/
def hlP (p q : Pr) : Pr := (posW (mnW p.1 q.1), posW (mxW p.2 q.2))
theorem hl_ok {p q : Pr} {T : Int} (hp : Wn p T) (hq : Wn q T) : Wn (hlP p q) T ∧ (∀ z, In z (ps p) → In z (ps (hlP p q))) ∧ (∀ z, In z (ps q) → In z (ps (hlP p q))) := by
  obtain ⟨f1, f2, l1⟩ := errS_zero hp.ok
  obtain ⟨f3, f4, l2⟩ := errS_zero hq.ok
  have g1 := fit_fin hp.l1 f1
  have g2 := fit_fin hp.l2 f2
  have g3 := fit_fin hq.l1 f3
  have g4 := fit_fin hq.l2 f4
  obtain ⟨c1, s1, s2⟩ := mnW_spec g1 g3
  obtain ⟨c2, s3, s4⟩ := mxW_spec g2 g4
  obtain ⟨p1, p2⟩ := pos_fit (mnW_fin g1 g3).1 (mn_fit hp.l1 hq.l1 f1 f3)
  obtain ⟨q1, q2⟩ := pos_fit (mxW_fin g2 g4).1 (mx_fit hp.l2 hq.l2 f2 f4)
  have e : errS (posW (mnW p.1 q.1)) (posW (mxW p.2 q.2)) = 0 := by rw [errS_fit p1 q1, posW_V, posW_V, if_neg (by omega)]
  have a1 := hp.ends
  have a2 := hq.ends
  refine ⟨⟨p2, q2, e, ?_, ?_⟩, fun z h => ?_, fun z h => ?_⟩
  · show -T ≤ V (posW _)
    rw [posW_V]
    rcases c1 with c | c <;> rw [c] <;> omega
  · show V (posW _) ≤ T
    rw [posW_V]
    rcases c2 with c | c <;> rw [c] <;> omega
  · have x1 : Q (posW (mnW p.1 q.1)) ≤ Q p.1 := Q_le.2 (by rw [posW_V]; exact s1)
    have x2 : Q p.2 ≤ Q (posW (mxW p.2 q.2)) := Q_le.2 (by rw [posW_V]; exact s3)
    exact ⟨Rat.le_trans x1 h.1, Rat.le_trans h.2 x2⟩
  · have x1 : Q (posW (mnW p.1 q.1)) ≤ Q q.1 := Q_le.2 (by rw [posW_V]; exact s2)
    have x2 : Q q.2 ≤ Q (posW (mxW p.2 q.2)) := Q_le.2 (by rw [posW_V]; exact s4)
    exact ⟨Rat.le_trans x1 h.1, Rat.le_trans h.2 x2⟩
/-! ### which part of a row -/
def ovP (q n a b : Nat) : Pr := (if q = 0 then a else moneW, if q = n - 1 then b else oneW)
structure OvOk (n a b : Nat) : Prop where
  fa : fitB a = true
  fb : fitB b = true
  na : FinW a
  nb : FinW b
  a0 : -2 ^ 1074 ≤ V a
  a1 : V a ≤ 2 ^ 1074
  b0 : -2 ^ 1074 ≤ V b
  b1 : V b ≤ 2 ^ 1074
  le : n = 1 → V a ≤ V b
theorem mone_fit : fitB moneW = true := by decide +kernel
theorem ov_ok {q n a b : Nat} (O : OvOk n a b) (hq : q < n) : Wn (ovP q n a b) (2 ^ 1074) := by
  have U0 := pow1 1074
  have v1 := oneW_V.2
  have v2 := moneW_V.2
  have k : ∀ {x y : Nat}, FinW x → FinW y → fitB x = true → fitB y = true → V x ≤ V y → -2 ^ 1074 ≤ V x → V y ≤ 2 ^ 1074 → Wn (x, y) (2 ^ 1074) := fun {x y} fx fy f g l h1 h2 => ⟨fx.1, fy.1, errS_of ⟨f, g⟩ l, h1, h2⟩
  unfold ovP
  by_cases c1 : q = 0
  · rw [if_pos c1]
    by_cases c2 : q = n - 1
    · rw [if_pos c2]
      exact k O.na O.nb O.fa O.fb (O.le (by omega)) O.a0 O.b1
    · rw [if_neg c2]
      exact k O.na oneW_V.1 O.fa one_fit (by rw [v1]; exact O.a1) O.a0 (by rw [v1]; exact Int.le_refl _)
  · rw [if_neg c1]
    by_cases c2 : q = n - 1
    · rw [if_pos c2]
      exact k moneW_V.1 O.nb mone_fit O.fb (by rw [v2]; exact O.b0) (by rw [v2]; exact Int.le_refl _) O.b1
    · rw [if_neg c2]
      exact k moneW_V.1 oneW_V.1 mone_fit one_fit (by rw [v1, v2]; omega) (by rw [v2]; exact Int.le_refl _) (by rw [v1]; exact Int.le_refl _)
/-! ### the rows' spans, hulled -/
structure RkOk (L : List Nat) : Prop where
  w : Ws32 L
  may : mayB L = true
theorem dvd_nat {x : Int} {k : Nat} (h : 2 ^ k ∣ x.natAbs) : (2 : Int) ^ k ∣ x := by
  apply Int.natAbs_dvd_natAbs.1
  rw [Int.natAbs_pow]
  exact h
theorem wide_dvd {f : Nat} (hf : f < 4294967296) (h : FinW (wideW f)) : (2 : Int) ^ 925 ∣ V (wideW f) := by
  by_cases hn : 2139095040 < f % 2147483648
  · have e : wideW f = 9221120237041090560 := by unfold wideW; rw [if_pos hn]
    rw [e] at h
    exact absurd h.2 (by omega)
  · obtain ⟨-, b, -, -, c, -, d⟩ := wide_spec f hf hn
    have e := d (by have := h.2; omega)
    have v := V_abs' _ h
    rw [e] at v
    have k : (2 : Nat) ^ 925 ∣ (V (wideW f)).natAbs := by rw [v]; exact Nat.dvd_mul_left _ _
    exact dvd_nat k
theorem RkOk.fc {L : List Nat} (h : RkOk L) : (L.map wideW).length ≤ 16 ∧ ∀ c ∈ L.map wideW, Fc c := errC_zero (ws_wide h.w) (mayB_true h.may).2
theorem RkOk.fd {L : List Nat} (h : RkOk L) : ∀ c ∈ L.map wideW, Fc c ∧ (2 : Int) ^ 925 ∣ V c := fun c hc => by
  have a := h.fc.2 c hc
  refine ⟨a, ?_⟩
  obtain ⟨f, hf, rfl⟩ := List.mem_map.1 hc
  exact wide_dvd (h.w f hf) (fit_fin a.lt a.fit)
noncomputable def ptP (n a b q : Nat) (L : List Nat) : Pr := chP (ovP q n a b) (L.map wideW)
noncomputable def heldF (n a b : Nat) : Nat → List (List Nat) → Pr → Pr
  | _, [], h => h
  | q, L :: Ls, h => heldF n a b (q + 1) Ls (hlP (if q = 0 then ptP n a b q L else h) (ptP n a b q L))
theorem pt_ok {n a b q : Nat} {L : List Nat} (O : OvOk n a b) (R : RkOk L) (hq : q < n) : ChR (ovP q n a b) (L.map wideW) (ptP n a b q L) ∧ Wn (ptP n a b q L) (2 ^ (1074 + 92)) ∧ ∀ x, In x (ps (ovP q n a b)) → In (chv x ((L.map wideW).map Q)) (ps (ptP n a b q L)) :=
  chP_of (ov_ok O hq) R.fc.2 R.fc.1
theorem held_ok {n a b : Nat} (O : OvOk n a b) : ∀ (Ls : List (List Nat)) (q : Nat) (h : Pr), (∀ L ∈ Ls, RkOk L) → q + Ls.length = n → (q = 0 → Ls ≠ []) → (q ≠ 0 → Wn h (2 ^ (1074 + 92))) →
    Wn (heldF n a b q Ls h) (2 ^ (1074 + 92)) ∧ (q ≠ 0 → ∀ z, In z (ps h) → In z (ps (heldF n a b q Ls h))) ∧
    ∀ r, r < Ls.length → ∀ x, In x (ps (ovP (q + r) n a b)) → In (chv x (((Ls.getD r []).map wideW).map Q)) (ps (heldF n a b q Ls h))
  | [], q, h, _, _, hz, hh => by
    have q0 : q ≠ 0 := fun e => hz e rfl
    exact ⟨hh q0, fun _ z hz => hz, fun r hr => by simp at hr⟩
  | L :: Ls, q, h, hR, hn, _, hh => by
    obtain ⟨-, p1, p2⟩ := pt_ok O (hR L (List.mem_cons_self ..)) (show q < n by simp at hn; omega)
    have hs : Wn (if q = 0 then ptP n a b q L else h) (2 ^ (1074 + 92)) := by
      by_cases c : q = 0
      · rw [if_pos c]; exact p1
      · rw [if_neg c]; exact hh c
    obtain ⟨g1, g2, g3⟩ := hl_ok hs p1
    obtain ⟨r1, r2, r3⟩ := held_ok O Ls (q + 1) (hlP (if q = 0 then ptP n a b q L else h) (ptP n a b q L)) (fun M hM => hR M (List.mem_cons_of_mem _ hM)) (by simp at hn; omega) (by omega) (fun _ => g1)
    refine ⟨r1, fun c z hz => r2 (by omega) z (g2 z (by rw [if_neg c]; exact hz)), fun r hr x hx => ?_⟩
    cases r with
    | zero => exact r2 (by omega) _ (g3 _ (p2 x hx))
    | succ r =>
      have := r3 r (by simpa using hr) x (by rw [show q + 1 + r = q + (r + 1) by omega]; exact hx)
      rwa [List.getD_cons_succ]
/-! ### the sum of magnitudes -/
def totL : List Nat → Nat → Nat
  | [], s => s
  | c :: cs, s => totL cs (aX s (c % 9223372036854775808))
def totF : List (List Nat) → Nat → Nat
  | [], s => s
  | L :: Ls, s => totF Ls (totL (L.map wideW) s)
structure SmH (s k : Nat) (T : Rat) : Prop where
  fin : FinW s
  nn : 0 ≤ V s
  hi : V s ≤ (k : Int) * 2 ^ 1114
  low : T * (1 - (k : Rat) * uR) ≤ Q s
  t0 : 0 ≤ T
  dvd : (2 : Int) ^ 925 ∣ V s
theorem smh_zero : SmH 0 0 0 := ⟨zero_fin, by decide +kernel, by rw [V_zero, Int.natCast_zero, Int.zero_mul]; exact Int.le_refl _, by rw [Rat.zero_mul]; decide +kernel, by decide +kernel, by rw [V_zero]; exact Int.dvd_zero _⟩
theorem low_step {u T c k s s' : Rat} (u0 : 0 ≤ u) (u1 : 1000000 * u ≤ 1) (k0 : 0 ≤ k) (_k1 : k ≤ 2000) (T0 : 0 ≤ T) (c0 : 0 ≤ c) (h : T * (1 - k * u) ≤ s) (hr : Rd u 0 s' (s + c)) (hs : 0 ≤ s) : (T + c) * (1 - (k + 1) * u) ≤ s' := by
  have m := hr (s + c) (mag_nn (by grind))
  have l := (mag_le (s' - (s + c))).1
  have w1 := Rat.mul_nonneg u0 T0
  have w2 := Rat.mul_nonneg u0 c0
  have w3 := Rat.mul_nonneg u0 hs
  have x := Rat.mul_le_mul_of_nonneg_left h (show 0 ≤ 1 - u by grind)
  have y1 := Rat.mul_nonneg k0 w1
  have y2 := Rat.mul_nonneg u0 y1
  have y3 := Rat.mul_nonneg k0 w2
  have e1 : (1 - u) * (T * (1 - k * u)) = T - k * (u * T) - u * T + u * (k * (u * T)) := by grind
  have e2 : (T + c) * (1 - (k + 1) * u) = T + c - k * (u * T) - u * T - k * (u * c) - u * c := by grind
  have e3 : (1 - u) * s = s - u * s := by grind
  rw [e1, e3] at x
  rw [e2]
  have e4 : u * (s + c) + 0 = u * s + u * c := by grind
  rw [e4] at m
  generalize k * (u * T) = A at *
  generalize u * A = B at *
  generalize k * (u * c) = C at *
  generalize u * T = D at *
  generalize u * c = E at *
  generalize u * s = F at *
  grind
theorem rep_k {k : Nat} (h : k ≤ 2 ^ 53) (j : Nat) : Rep ((k : Int) * 2 ^ j) := ⟨k, j, h, by rw [Int.natAbs_mul, Int.natAbs_pow]; rfl⟩
theorem nat_small {v : Int} {k j l m : Nat} (e : m = j + l) (h0 : 0 ≤ v) (h : v ≤ (k : Int) * 2 ^ j) (hk : k ≤ 2 ^ l) : v.natAbs ≤ 2 ^ m := by
  subst e
  have a : (k : Int) * 2 ^ j ≤ ((2 ^ l : Nat) : Int) * 2 ^ j := Int.mul_le_mul_of_nonneg_right (Int.ofNat_le.2 hk) (Int.le_of_lt (pow1 j))
  have e : ((2 ^ l : Nat) : Int) * 2 ^ j = ((2 ^ (j + l) : Nat) : Int) := by
    rw [two_cast j, ← Int.natCast_mul, Nat.pow_add, Nat.mul_comm]
  rw [e] at a
  have b := Int.le_trans h a
  omega
theorem dvd_abs {x : Int} {k : Nat} (h : (2 : Int) ^ k ∣ x) : (2 : Int) ^ k ∣ ((x.natAbs : Nat) : Int) := by
  rcases Int.natAbs_eq x with e | e
  · rw [← e]; exact h
  · have : ((x.natAbs : Nat) : Int) = -x := by omega
    rw [this]; exact Int.dvd_neg.2 h
theorem smh_step {s k c : Nat} {T : Rat} (S : SmH s k T) (hk : k < 1500) (hc : Fc c) (hd : (2 : Int) ^ 925 ∣ V c) : SmH (aX s (c % 9223372036854775808)) (k + 1) (T + mag (Q c)) ∧ Ieee.double.add s (c % 9223372036854775808) = some (aX s (c % 9223372036854775808)) := by
  have fc := fit_fin hc.lt hc.fit
  obtain ⟨fa, va⟩ := abs_word fc
  have bs : (V s).natAbs ≤ 2 ^ 1125 := nat_small (j := 1114) (l := 11) (m := 1125) (by omega) S.nn S.hi (by omega)
  have bc : (V (c % 9223372036854775808)).natAbs ≤ 2 ^ 1125 := by
    rw [va, Int.natAbs_natCast]; exact Nat.le_trans hc.bd (two_le (a := 1114) (b := 1125) (by omega))
  obtain ⟨r, h1, h2, h3, -⟩ := addW (k := 1125) S.fin fa bs bc (by omega)
  have e : aX s (c % 9223372036854775808) = r := by unfold aX; rw [h1]; rfl
  rw [e]
  have cap : V (c % 9223372036854775808) ≤ 2 ^ 1114 := by
    rw [va, two_cast]; exact Int.ofNat_le.2 hc.bd
  have sum : V s + V (c % 9223372036854775808) ≤ ((k + 1 : Nat) : Int) * 2 ^ 1114 := by
    have := S.hi
    rw [Int.natCast_add, Int.add_mul]
    have e1 : ((1 : Nat) : Int) * 2 ^ 1114 = 2 ^ 1114 := Int.one_mul _
    rw [e1]
    exact Int.add_le_add this cap
  have dv : (2 : Int) ^ 925 ∣ V (c % 9223372036854775808) := by
    rw [va]; exact dvd_abs hd
  refine ⟨⟨h2, ?_, ?_, ?_, ?_, by rw [h3]; exact RN_dvd (Int.dvd_add S.dvd dv)⟩, h1⟩
  · rw [h3]; exact (RN_sign _).1 (by have := S.nn; omega)
  · have m := RN_mono sum
    rw [RN_exact (rep_k (by omega) 1114)] at m
    rw [h3]; exact m
  · have qm := Q_magW fc
    have R := rd_of (add_rel h3)
    rw [qm] at R
    have kk : ((k + 1 : Nat) : Rat) = (k : Rat) + 1 := by
      show (((k + 1 : Nat) : Int) : Rat) = ((k : Int) : Rat) + 1
      rw [Int.natCast_add, Rat.intCast_add]; rfl
    have k0 : (0 : Rat) ≤ (k : Rat) := Rat.intCast_nonneg.2 (by omega : (0 : Int) ≤ (k : Int))
    have k1 : (k : Rat) ≤ 2000 := by
      have : ((k : Int) : Rat) ≤ ((2000 : Int) : Rat) := Rat.intCast_le_intCast.2 (by omega)
      exact this
    rw [kk]
    exact low_step uR0 uR1 k0 k1 S.t0 (mag_le _).2.2 S.low R (Q_nnW S.nn)
  · have := S.t0
    have := (mag_le (Q c)).2.2
    grind
theorem totL_ok : ∀ (cs : List Nat) (s k : Nat) (T : Rat), SmH s k T → (∀ c ∈ cs, Fc c ∧ (2 : Int) ^ 925 ∣ V c) → k + cs.length < 1500 → SmH (totL cs s) (k + cs.length) (T + Pol.sm (cs.map Q))
  | [], s, k, T, S, _, _ => by
    show SmH s k (T + 0)
    rw [Rat.add_zero]; exact S
  | c :: cs, s, k, T, S, hc, hk => by
    have hk' : k + 1 + cs.length < 1500 := by simp at hk; omega
    have := totL_ok cs _ (k + 1) _ (smh_step S (by omega) (hc c (List.mem_cons_self ..)).1 (hc c (List.mem_cons_self ..)).2).1 (fun d hd => hc d (List.mem_cons_of_mem _ hd)) hk'
    rw [show k + 1 + cs.length = k + (c :: cs).length by simp; omega] at this
    show SmH (totL cs _) _ (T + (mag (Q c) + Pol.sm (cs.map Q)))
    rwa [← Rat.add_assoc]
/-- all magnitudes -/
def smF : List (List Nat) → Rat
  | [] => 0
  | L :: Ls => Pol.sm ((L.map wideW).map Q) + smF Ls
def cntF : List (List Nat) → Nat
  | [] => 0
  | L :: Ls => L.length + cntF Ls
theorem smF_nn : ∀ Ls, 0 ≤ smF Ls
  | [] => Rat.le_refl
  | L :: Ls => by
    have a := sm_nn ((L.map wideW).map Q)
    have b := smF_nn Ls
    show 0 ≤ Pol.sm _ + smF Ls
    grind
theorem smF_get : ∀ {Ls : List (List Nat)} {r : Nat}, r < Ls.length → Pol.sm (((Ls.getD r []).map wideW).map Q) ≤ smF Ls
  | L :: Ls, 0, _ => by
    have b := smF_nn Ls
    show Pol.sm _ ≤ Pol.sm _ + smF Ls
    simp only [List.getD_cons_zero]
    grind
  | L :: Ls, r + 1, h => by
    have a := sm_nn ((L.map wideW).map Q)
    have := smF_get (Ls := Ls) (r := r) (by simpa using h)
    show Pol.sm _ ≤ Pol.sm _ + smF Ls
    rw [List.getD_cons_succ]
    grind
theorem cnt_le : ∀ {Ls : List (List Nat)}, (∀ L ∈ Ls, RkOk L) → cntF Ls ≤ 16 * Ls.length
  | [], _ => Nat.le_refl _
  | L :: Ls, h => by
    have a := (h L (List.mem_cons_self ..)).fc.1
    have b := cnt_le (Ls := Ls) (fun M hM => h M (List.mem_cons_of_mem _ hM))
    simp at a
    show L.length + cntF Ls ≤ 16 * (Ls.length + 1)
    omega
theorem totF_ok : ∀ (Ls : List (List Nat)) (s k : Nat) (T : Rat), SmH s k T → (∀ L ∈ Ls, RkOk L) → k + cntF Ls < 1500 → SmH (totF Ls s) (k + cntF Ls) (T + smF Ls)
  | [], s, k, T, S, _, _ => by
    show SmH s k (T + 0)
    rw [Rat.add_zero]; exact S
  | L :: Ls, s, k, T, S, hR, hk => by
    have hk' : k + (L.length + cntF Ls) < 1500 := hk
    have a := totL_ok (L.map wideW) s k T S (hR L (List.mem_cons_self ..)).fd (by simp; omega)
    have := totF_ok Ls _ _ _ a (fun M hM => hR M (List.mem_cons_of_mem _ hM)) (by simp; omega)
    rw [show k + (L.map wideW).length + cntF Ls = k + cntF (L :: Ls) by show _ = k + (L.length + cntF Ls); simp; omega] at this
    show SmH (totF Ls _) _ (T + (Pol.sm _ + smF Ls))
    rwa [← Rat.add_assoc]
/-! ### what is added at both ends -/
def mH (Ls : List (List Nat)) : Nat := bgW (qX (totF Ls 0) m40)
structure MhOk (Ls : List (List Nat)) : Prop where
  q : Ieee.double.div (totF Ls 0) m40 = some (qX (totF Ls 0) m40)
  qf : FinW (qX (totF Ls 0) m40)
  fin : FinW (mH Ls)
  fit : fitB (mH Ls) = true
  nn : 0 ≤ V (mH Ls)
  hi : V (mH Ls) ≤ 2 ^ 1085
  low : smF Ls * (1 - 1024 * uR) ≤ Q (mH Ls) * 1099511627776
theorem low_cnt {s T k u : Rat} (u0 : 0 ≤ u) (T0 : 0 ≤ T) (hk : k ≤ 1024) (h : T * (1 - k * u) ≤ s) : T * (1 - 1024 * u) ≤ s := by
  have a := Rat.mul_nonneg (Rat.mul_nonneg T0 u0) (show 0 ≤ 1024 - k by grind)
  have e1 : T * (1 - k * u) = T - T * u * k := by grind
  have e2 : T * (1 - 1024 * u) = T - T * u * 1024 := by grind
  have e3 : T * u * (1024 - k) = T * u * 1024 - T * u * k := by grind
  rw [e1] at h
  rw [e2]
  rw [e3] at a
  grind
theorem mul_le_pow {x : Int} {j k l : Nat} (h : x * 2 ^ j ≤ 2 ^ k) (e : k = l + j) : x ≤ 2 ^ l := by
  subst e
  rw [Int.pow_add] at h
  exact Int.le_of_mul_le_mul_right h (pow1 j)
theorem mh_ok {Ls : List (List Nat)} (hR : ∀ L ∈ Ls, RkOk L) (hl : Ls.length ≤ 64) : MhOk Ls := by
  have cn := cnt_le hR
  have S := totF_ok Ls 0 0 0 smh_zero hR (by omega)
  rw [Nat.zero_add, Rat.zero_add] at S
  have f40 : FinW m40 := by unfold FinW m40; omega
  have n40 : V m40 ≠ 0 := by decide +kernel
  have cap : V (totF Ls 0) ≤ 2 ^ 1125 := by
    have a := nat_small (j := 1114) (l := 11) (m := 1125) (by omega) S.nn S.hi (by omega)
    have := two_cast 1125
    omega
  have nat : (V (totF Ls 0)).natAbs ≤ 2 ^ 1500 := abs_up (k := 1125) (l := 1500) (nat_cap (k := 1125) S.nn cap) (by omega)
  have key : ∃ r, Ieee.double.div (totF Ls 0) m40 = some r ∧ FinW r ∧ V r * 2 ^ 40 = V (totF Ls 0) := by
    by_cases z : V (totF Ls 0) = 0
    · obtain ⟨r, h1, h2, h3⟩ := div_zero S.fin z f40 n40
      exact ⟨r, h1, h2, by rw [h3, z]; rfl⟩
    · have lo := pow_abs_dvd S.dvd z
      exact div_pow' (j := 40) (k := 874) rfl (by decide) S.fin (Nat.le_trans (two_le (a := 874) (b := 925) (by omega)) lo) nat (by omega)
  obtain ⟨r, h1, h2, h3⟩ := key
  have er : qX (totF Ls 0) m40 = r := by unfold qX; rw [h1]; rfl
  have rn : 0 ≤ V r := by
    by_cases c : 0 ≤ V r
    · exact c
    · exfalso
      have := Int.mul_neg_of_neg_of_pos (show V r < 0 by omega) (pow1 40)
      have := S.nn
      omega
  have rc : V r ≤ 2 ^ 1085 := mul_le_pow (j := 40) (k := 1125) (by rw [h3]; exact cap) (by omega)
  -- r is fit
  have fr : fitB r = true := by
    rw [fit_iff h2]
    by_cases z : V r = 0
    · exact .inl z
    · right
      have z2 : V (totF Ls 0) ≠ 0 := by
        rw [← h3]
        intro e
        rcases Int.mul_eq_zero.1 e with e | e
        · exact z e
        · exact absurd e (by decide)
      have lo := pow_abs_dvd S.dvd z2
      have lo2 : (2 : Int) ^ 925 ≤ V (totF Ls 0) := by
        have := two_cast 925
        have := S.nn
        omega
      have lo3 : (2 : Int) ^ 885 ≤ V r := by
        rw [← h3] at lo2
        have e : (2 : Int) ^ 925 = 2 ^ 885 * 2 ^ 40 := by rw [← Int.pow_add]
        rw [e] at lo2
        exact Int.le_of_mul_le_mul_right lo2 (pow1 40)
      have a1 : leastV ≤ 2 ^ 885 := by decide +kernel
      have a2 : (2 : Int) ^ 1085 ≤ mostV := by decide +kernel
      have e : ((V r).natAbs : Int) = V r := by omega
      rw [e]
      exact ⟨Int.le_trans a1 lo3, Int.le_trans rc a2⟩
  have em : mH Ls = r := by unfold mH bgW; rw [er, if_pos fr]
  refine ⟨by rw [er]; exact h1, by rw [er]; exact h2, by rw [em]; exact h2, by rw [em]; exact fr, by rw [em]; exact rn, by rw [em]; exact rc, ?_⟩
  rw [em]
  have qs : Q r * 1099511627776 = Q (totF Ls 0) := by
    have e : ((V r * 2 ^ 40 : Int) : Rat) = (V (totF Ls 0) : Rat) := by rw [h3]
    have c : ((2 ^ 40 : Int) : Rat) = 1099511627776 := by decide +kernel
    rw [Rat.intCast_mul, c, ← Q_unit, ← Q_unit] at e
    have up := unit_pos
    have z : (Q r * 1099511627776 - Q (totF Ls 0)) * unit = 0 := by grind
    rcases Rat.mul_eq_zero.1 z with z | z <;> grind
  rw [qs]
  have kc : ((cntF Ls : Nat) : Rat) ≤ 1024 := by
    have : ((cntF Ls : Int) : Rat) ≤ ((1024 : Int) : Rat) := Rat.intCast_le_intCast.2 (by omega)
    exact this
  exact low_cnt uR0 S.t0 kc S.low
/-! ### Box along an axis -/
noncomputable def axP (n a b : Nat) (Ls : List (List Nat)) : Pr := adH (heldF n a b 0 Ls (0, 0)) (posW (negW (mH Ls)), posW (mH Ls))
structure AxOk (n a b : Nat) (Ls : List (List Nat)) : Prop where
  held : Wn (heldF n a b 0 Ls (0, 0)) (2 ^ (1074 + 92))
  pm : Wn (posW (negW (mH Ls)), posW (mH Ls)) (2 ^ 1085)
  add : AddR (heldF n a b 0 Ls (0, 0)) (posW (negW (mH Ls)), posW (mH Ls)) (axP n a b Ls)
  wn : Wn (axP n a b Ls) (2 ^ (1074 + 93))
  sp : AddSp (ps (heldF n a b 0 Ls (0, 0))) (ps (posW (negW (mH Ls)), posW (mH Ls))) (ps (axP n a b Ls))
  rows : ∀ r, r < Ls.length → ∀ x, In x (ps (ovP r n a b)) → In (chv x (((Ls.getD r []).map wideW).map Q)) (ps (heldF n a b 0 Ls (0, 0)))
  m : MhOk Ls
theorem q_neg {x y : Nat} (h : V y = -V x) : Q y = -Q x := by
  unfold Q
  rw [h, Rat.intCast_neg]
  simp only [Rat.div_def]
  grind
theorem ax_ok {n a b : Nat} {Ls : List (List Nat)} (O : OvOk n a b) (hR : ∀ L ∈ Ls, RkOk L) (hn : Ls.length = n) (h0 : 0 < n) (hl : n ≤ 64) : AxOk n a b Ls := by
  have M := mh_ok hR (by omega)
  obtain ⟨h1, -, h3⟩ := held_ok O Ls 0 (0, 0) hR (by omega) (fun _ e => by rw [e] at hn; simp at hn; omega) (fun h => absurd rfl h)
  have fn := negW_fin M.fin
  have vn := negW_V M.fin
  have f1 : fitB (negW (mH Ls)) = true := by rw [fit_neg M.fin.1]; exact M.fit
  obtain ⟨p1, p2⟩ := pos_fit fn.1 f1
  obtain ⟨q1, q2⟩ := pos_fit M.fin.1 M.fit
  have nn := M.nn
  have hi := M.hi
  have pm : Wn (posW (negW (mH Ls)), posW (mH Ls)) (2 ^ 1085) := ⟨p2, q2, errS_of ⟨p1, q1⟩ (by rw [posW_V, posW_V, vn]; omega), by show _ ≤ V (posW _); rw [posW_V, vn]; omega, by show V (posW _) ≤ _; rw [posW_V]; exact hi⟩
  have cap : (2 : Int) ^ (1074 + 92) + 2 ^ 1085 ≤ 2 ^ (1074 + 93) := by decide +kernel
  obtain ⟨u, a1, a2, a3⟩ := add_wn (cap_tw (m := 93) (by omega)) h1 pm cap
  have eu : axP n a b Ls = u := adH_eq a2
  refine ⟨h1, pm, by rw [eu]; exact a2, by rw [eu]; exact a1, by rw [eu]; exact a3, fun r hr x hx => h3 r hr x (by rw [Nat.zero_add]; exact hx), M⟩
theorem zero_within {R : Pr} {T : Int} {v : Nat} (W : Wn R T) (h1 : V R.1 ≤ V v) (h2 : V v ≤ V R.2) (hs : ((V v).natAbs : Int) < leastV) : V R.1 ≤ 0 ∧ 0 ≤ V R.2 := by
  obtain ⟨f1, f2, -⟩ := errS_zero W.ok
  have g1 := (fit_iff (fit_fin W.l1 f1)).1 f1
  have g2 := (fit_iff (fit_fin W.l2 f2)).1 f2
  omega
def b149 : Rat := mkRat 1 (2 ^ 149)
theorem q149 {c : Nat} (hf : FinW c) (h : (2 : Int) ^ 925 ∣ V c) : mag (Q c) = 0 ∨ b149 ≤ mag (Q c) := by
  obtain ⟨fa, va⟩ := abs_word hf
  rw [← Q_magW hf]
  have bw : FinW (874 * 4503599627370496) := by unfold FinW; omega
  have bv : V (874 * 4503599627370496) = 2 ^ 925 := by decide +kernel
  have bq : Q (874 * 4503599627370496) = b149 := by decide +kernel
  by_cases z : V c = 0
  · left
    have : V (c % 9223372036854775808) = V 0 := by rw [va, z, V_zero]; rfl
    have e : Q (c % 9223372036854775808) = Q 0 := by unfold Q; rw [this]
    rw [e]; decide +kernel
  · right
    have lo := pow_abs_dvd h z
    rw [← bq]
    refine Q_le.2 ?_
    rw [bv, va, two_cast]
    exact Int.ofNat_le.2 lo
theorem sm149 : ∀ (cs : List Nat), (∀ c ∈ cs, Fc c ∧ (2 : Int) ^ 925 ∣ V c) → Pol.sm (cs.map Q) = 0 ∨ b149 ≤ Pol.sm (cs.map Q)
  | [], _ => .inl rfl
  | c :: cs, h => by
    have a := h c (List.mem_cons_self ..)
    have x := q149 (fit_fin a.1.lt a.1.fit) a.2
    have y := sm149 cs (fun d hd => h d (List.mem_cons_of_mem _ hd))
    have z := sm_nn (cs.map Q)
    have m := (mag_le (Q c)).2.2
    have b0 : 0 ≤ b149 := by decide +kernel
    show mag (Q c) + Pol.sm _ = 0 ∨ b149 ≤ mag (Q c) + Pol.sm _
    rcases x with x | x
    · rcases y with y | y
      · left; rw [x, y]; grind
      · right; grind
    · right; grind
theorem box_poly {u t S F M : Rat} (u0 : 0 ≤ u) (u1 : 1000000 * u ≤ 1) (hu : u * 9007199254740992 = 1) (S0 : 0 ≤ S) (hS : S ≤ F) (hM : F * (1 - 1024 * u) ≤ M * 1099511627776) (ht : 64 * t ≤ 1000 * (u * S)) : 2400 * (u * S) + 64 * t ≤ M := by
  have w := Rat.mul_nonneg u0 S0
  have F0 : 0 ≤ F := by grind
  have a := Rat.mul_nonneg (show 0 ≤ 1 - 2000000 * u + 1000000 * u by grind) F0
  have e0 : F * (1 - 1024 * u) = F - 1024 * (u * F) := by grind
  rw [e0] at hM
  have b : 1000 * (u * F) ≤ F := by
    have := Rat.mul_nonneg (show 0 ≤ 1 - 1000000 * u by grind) F0
    have uf := Rat.mul_nonneg u0 F0
    grind
  have uF : u * S ≤ u * F := Rat.mul_le_mul_of_nonneg_left hS u0
  have hF : F = u * F * 9007199254740992 := by grind
  have c : 1000000 * (u * F) ≤ F := by
    have := Rat.mul_nonneg (show 0 ≤ 1 - 1000000 * u by grind) F0
    grind
  generalize u * F = x at *
  generalize u * S = y at *
  grind
theorem tR_b : 64 * tR ≤ 1000 * (uR * b149) := by decide +kernel
theorem uR_53h : uR * 9007199254740992 = 1 := by decide +kernel
theorem tR_sm : 64 * tR < Go.Proofs.Ytnmadknpkhaolaa.sm := by decide +kernel
theorem q_cap1 {x : Nat} (h : (V x).natAbs ≤ 2 ^ 1074) : mag (Q x) ≤ 1 := by
  have v1 := oneW_V.2
  have v2 := moneW_V.2
  have q1 : Q oneW = 1 := by decide +kernel
  have q2 : Q moneW = -1 := by decide +kernel
  have t := two_cast 1074
  have a : Q x ≤ Q oneW := Q_le.2 (by rw [v1]; omega)
  have b : Q moneW ≤ Q x := Q_le.2 (by rw [v2]; omega)
  rw [q1] at a
  rw [q2] at b
  exact mag_of b a
/-- a row's number lies in the box -/
theorem ax_holds {n a b r x : Nat} {Ls : List (List Nat)} (A : AxOk n a b Ls) (hR : ∀ L ∈ Ls, RkOk L) (hr : r < Ls.length) (fx : FinW x) (bx : (V x).natAbs ≤ 2 ^ 1074) (hx : In (Q x) (ps (ovP r n a b))) :
    V (axP n a b Ls).1 ≤ V (vH (Ls.getD r []) x) ∧ V (vH (Ls.getD r []) x) ≤ V (axP n a b Ls).2 := by
  have mem : Ls.getD r [] ∈ Ls := by
    have : Ls.getD r [] = Ls[r] := by simp [List.getD, hr]
    rw [this]; exact List.getElem_mem hr
  have R := hR _ mem
  have fd := R.fd
  have hz := A.rows r hr (Q x) hx
  have hS := smF_get hr
  obtain ⟨l16, fc⟩ := R.fc
  obtain ⟨w1, w2, w3, -⟩ := ch_wd fx bx _ (fc_cw fc) l16
  have mx : mag (Q x) ≤ 1 := q_cap1 bx
  have near := chA_near uR0 uR1 tR0 mx _ (by simpa using l16) w3
  have S0 := sm_nn (((Ls.getD r []).map wideW).map Q)
  have cz := chv_le mx (((Ls.getD r []).map wideW).map Q)
  have s149 := sm149 _ fd
  unfold vH
  have ep : V (posW (chW x ((Ls.getD r []).map wideW))) = V (chW x ((Ls.getD r []).map wideW)) := posW_V _
  have fp := posW_fin w1
  have bp : (V (posW (chW x ((Ls.getD r []).map wideW)))).natAbs ≤ 2 ^ 1200 := by rw [ep]; exact w2
  have c := bg_cases fp bp
  rw [ep] at c
  have qm1 : Q (posW (negW (mH Ls))) = -Q (mH Ls) := q_neg (by rw [posW_V, negW_V A.m.fin])
  have qm2 : Q (posW (mH Ls)) = Q (mH Ls) := by unfold Q; rw [posW_V]
  generalize hp : chW x ((Ls.getD r []).map wideW) = p at *
  generalize hz2 : chv (Q x) (((Ls.getD r []).map wideW).map Q) = z at *
  generalize Pol.sm (((Ls.getD r []).map wideW).map Q) = S at *
  have inM : ∀ δ, mag δ ≤ Q (mH Ls) → In (z + δ) (ps (axP n a b Ls)) := fun δ h => by
    refine In.add hz ?_ A.sp
    have := mag_le δ
    show Q (posW (negW (mH Ls))) ≤ δ ∧ δ ≤ Q (posW (mH Ls))
    rw [qm1, qm2]
    exact ⟨by grind, by grind⟩
  have M0 : 0 ≤ Q (mH Ls) := Q_nnW A.m.nn
  rcases s149 with s | s
  · -- all coefficients are 0
    have z0 : z = 0 := by
      have := mag_le z
      rw [s] at cz
      grind
    have i0 := inM 0 (by rw [show mag (0 : Rat) = 0 by decide +kernel]; exact M0)
    rw [z0, Rat.add_zero] at i0
    have q0 : Q 0 = 0 := by decide +kernel
    have e1 : V (axP n a b Ls).1 ≤ V 0 := Q_le.1 (by rw [q0]; exact i0.1)
    have e2 : V 0 ≤ V (axP n a b Ls).2 := Q_le.1 (by rw [q0]; exact i0.2)
    rw [V_zero] at e1 e2
    have np : mag (Q p) ≤ 64 * tR := by
      rw [s, z0] at near
      rw [show Q p - 0 = Q p by grind] at near
      rw [show 2400 * (uR * 0) + 64 * tR = 64 * tR by grind] at near
      exact near
    have small : V (bgW (posW p)) = 0 := by
      rcases c with c | ⟨c, -⟩
      · by_cases zz : V p = 0
        · rw [c, zz]
        · exfalso
          have ff := (fit_iff (bg_fin fp)).1 (bg_fit (posW p))
          rw [c] at ff
          have c1 : V 3706462493325918208 = leastV := by decide +kernel
          have q1 : Q 3706462493325918208 = Go.Proofs.Ytnmadknpkhaolaa.sm := by decide +kernel
          have qa := Q_magW w1
          obtain ⟨fa, va⟩ := abs_word w1
          have t := tR_sm
          have l : Q (p % 9223372036854775808) < Q 3706462493325918208 := by rw [qa, q1]; grind
          have l2 := Q_lt.1 l
          rw [va, c1] at l2
          omega
      · exact c
    rw [small]
    exact ⟨e1, e2⟩
  · have u0 := uR0
    have ht : 64 * tR ≤ 1000 * (uR * S) := Rat.le_trans tR_b (Rat.mul_le_mul_of_nonneg_left (Rat.mul_le_mul_of_nonneg_left s u0) (by decide +kernel))
    have bd := box_poly uR0 uR1 uR_53h S0 hS A.m.low ht
    have ip := inM (Q p - z) (Rat.le_trans near bd)
    rw [show z + (Q p - z) = Q p by grind] at ip
    have e1 : V (axP n a b Ls).1 ≤ V p := Q_le.1 ip.1
    have e2 : V p ≤ V (axP n a b Ls).2 := Q_le.1 ip.2
    rcases c with c | ⟨c, c2⟩
    · rw [c]; exact ⟨e1, e2⟩
    · rw [c]; exact zero_within A.wn e1 e2 c2
end Go.Proofs.Ytnmadknpkhaolaa

namespace Go.Proofs.Ytnmadknpkhaolaa
open Go.ChangeShapes Go.WideShapes Go.ChangeAt Go.RowKit Ieee.Own Pol

set_option maxHeartbeats 4000000 in
set_option maxRecDepth 100000 in
theorem csures_run {p1 p2 : Nat} (k : Int) (w : World) : Calls Try.prog 75 #[.agg #[.float .f64 p1, .float .f64 p2], .int .i64 k] w fun e w' => e = .returned (.agg #[.float .f64 p1, .float .f64 p2]) ∧ Below w.heap.size w w' := by
  have hst := @fstore
  go_enter Try.func75, Try.ntmps75
  go_wp2_with fail
  (try simp only [Exit.inBlock, Exit.then])
  refine bodyPost_ret (v := .agg #[.float .f64 p1, .float .f64 p2]) ?_ rfl ⟨rfl, ((Below.refl _ w).alloc (Nat.le_refl _) _).alloc (by simp) _⟩
  rw [results_cell1 rfl]; go_simp
set_option maxHeartbeats 4000000 in
set_option maxRecDepth 100000 in
theorem cover_run {q n a b : Nat} (hq : q < n) (hn : n ≤ 64) (w : World) : Calls Try.prog 77 #[.int .i64 (q : Int), .int .i64 (n : Int), .float .f64 a, .float .f64 b] w fun e w' => e = .returned (.agg #[.float .f64 (ovP q n a b).1, .float .f64 (ovP q n a b).2]) ∧ Below w.heap.size w w' := by
  have w1 : IntKind.i64.wrap ((n : Int) - 1) = (n : Int) - 1 := by rw [IntKind.wrap_i64]; omega
  unfold ovP
  by_cases c1 : q = 0
  · subst c1
    by_cases c2 : 0 = n - 1
    · have t2 : (((0 : Nat) : Int) == (n : Int) - 1) = true := by simp; omega
      simp only [if_pos c2]
      clear c2 hq
      have K := kv2 w 60 60 [.float .f64 0, .float .f64 0] [.float .f64 13830554455654793216, .float .f64 4607182418800017408]
      simp only [objV] at K
      have c0_0 := (K.at_ 0 rfl).at_ 0 _ rfl
      have f0_0 := (K.at_ 0 rfl).fr 0 _ rfl
      have c0_1 := (K.at_ 0 rfl).at_ 1 _ rfl
      have f0_1 := (K.at_ 0 rfl).fr 1 _ rfl
      have c1_0 := (K.at_ 1 rfl).at_ 0 _ rfl
      have f1_0 := (K.at_ 1 rfl).fr 0 _ rfl
      have c1_1 := (K.at_ 1 rfl).at_ 1 _ rfl
      have f1_1 := (K.at_ 1 rfl).fr 1 _ rfl
      have hst := @fstore
      replace K := Lib.hid K
      go_enter Try.func77, Try.ntmps77
      go_wp2_with fail
      (try simp only [Exit.inBlock, Exit.then])
      refine bodyPost_ret (v := .agg #[.float .f64 a, .float .f64 b]) ?_ rfl ⟨rfl, ?_⟩
      · rw [results_cell1 rfl]; go_simp
      · exact ((Below.refl _ w).alloc (Nat.le_refl _) _).alloc (by simp) _
    · have t2 : (((0 : Nat) : Int) == (n : Int) - 1) = false := by simp; omega
      simp only [if_neg c2]
      unfold oneW
      clear c2 hq
      have K := kv2 w 60 60 [.float .f64 0, .float .f64 0] [.float .f64 13830554455654793216, .float .f64 4607182418800017408]
      simp only [objV] at K
      have c0_0 := (K.at_ 0 rfl).at_ 0 _ rfl
      have f0_0 := (K.at_ 0 rfl).fr 0 _ rfl
      have c0_1 := (K.at_ 0 rfl).at_ 1 _ rfl
      have f0_1 := (K.at_ 0 rfl).fr 1 _ rfl
      have c1_0 := (K.at_ 1 rfl).at_ 0 _ rfl
      have f1_0 := (K.at_ 1 rfl).fr 0 _ rfl
      have c1_1 := (K.at_ 1 rfl).at_ 1 _ rfl
      have f1_1 := (K.at_ 1 rfl).fr 1 _ rfl
      have hst := @fstore
      replace K := Lib.hid K
      go_enter Try.func77, Try.ntmps77
      go_wp2_with fail
      (try simp only [Exit.inBlock, Exit.then])
      refine bodyPost_ret (v := .agg #[.float .f64 a, .float .f64 4607182418800017408]) ?_ rfl ⟨rfl, ?_⟩
      · rw [results_cell1 rfl]; go_simp
      · exact ((Below.refl _ w).alloc (Nat.le_refl _) _).alloc (by simp) _
  · have t1 : ((q : Int) == 0) = false := by simp; omega
    by_cases c2 : q = n - 1
    · have t2 : ((q : Int) == (n : Int) - 1) = true := by simp; omega
      simp only [if_neg c1, if_pos c2]
      unfold moneW
      clear c2 c1 hq
      have K := kv2 w 60 60 [.float .f64 0, .float .f64 0] [.float .f64 13830554455654793216, .float .f64 4607182418800017408]
      simp only [objV] at K
      have c0_0 := (K.at_ 0 rfl).at_ 0 _ rfl
      have f0_0 := (K.at_ 0 rfl).fr 0 _ rfl
      have c0_1 := (K.at_ 0 rfl).at_ 1 _ rfl
      have f0_1 := (K.at_ 0 rfl).fr 1 _ rfl
      have c1_0 := (K.at_ 1 rfl).at_ 0 _ rfl
      have f1_0 := (K.at_ 1 rfl).fr 0 _ rfl
      have c1_1 := (K.at_ 1 rfl).at_ 1 _ rfl
      have f1_1 := (K.at_ 1 rfl).fr 1 _ rfl
      have hst := @fstore
      replace K := Lib.hid K
      go_enter Try.func77, Try.ntmps77
      go_wp2_with fail
      (try simp only [Exit.inBlock, Exit.then])
      refine bodyPost_ret (v := .agg #[.float .f64 13830554455654793216, .float .f64 b]) ?_ rfl ⟨rfl, ?_⟩
      · rw [results_cell1 rfl]; go_simp
      · exact ((Below.refl _ w).alloc (Nat.le_refl _) _).alloc (by simp) _
    · have t2 : ((q : Int) == (n : Int) - 1) = false := by simp; omega
      simp only [if_neg c1, if_neg c2]
      unfold moneW oneW
      clear c2 c1 hq
      have K := kv2 w 60 60 [.float .f64 0, .float .f64 0] [.float .f64 13830554455654793216, .float .f64 4607182418800017408]
      simp only [objV] at K
      have c0_0 := (K.at_ 0 rfl).at_ 0 _ rfl
      have f0_0 := (K.at_ 0 rfl).fr 0 _ rfl
      have c0_1 := (K.at_ 0 rfl).at_ 1 _ rfl
      have f0_1 := (K.at_ 0 rfl).fr 1 _ rfl
      have c1_0 := (K.at_ 1 rfl).at_ 0 _ rfl
      have f1_0 := (K.at_ 1 rfl).fr 0 _ rfl
      have c1_1 := (K.at_ 1 rfl).at_ 1 _ rfl
      have f1_1 := (K.at_ 1 rfl).fr 1 _ rfl
      have hst := @fstore
      replace K := Lib.hid K
      go_enter Try.func77, Try.ntmps77
      go_wp2_with fail
      (try simp only [Exit.inBlock, Exit.then])
      refine bodyPost_ret (v := .agg #[.float .f64 13830554455654793216, .float .f64 4607182418800017408]) ?_ rfl ⟨rfl, ?_⟩
      · rw [results_cell1 rfl]; go_simp
      · exact ((Below.refl _ w).alloc (Nat.le_refl _) _).alloc (by simp) _
end Go.Proofs.Ytnmadknpkhaolaa
