/- Proved here: what span's own Has, Inside, Mul and Div answer, over the translated code. -/
import Derived.Test.YtkfagpahbojigaaCor
import Derived.Test.YtkfagpahbojigaaSdv
import Derived.Test.YtkfagpahbojigaaSin
namespace Go.Proofs.Ytkfagpahbojigaa
open Go.ChangeShapes Go.WideShapes Go.ChangeAt Go.RowKit Ieee.Own

/-! ### Has -/
def hasB (a b x : Nat) : Bool := decide (errS a b = 0 ∧ nn x ∧ key64 a ≤ key64 x ∧ key64 x ≤ key64 b)
theorem shas_run (a b x : Nat) (ha : a < 18446744073709551616) (hb : b < 18446744073709551616) (hx : x < 18446744073709551616) (w : World) :
    Calls Try.prog 40 #[spanV a b, .float .f64 x] w fun e w' => e = .returned (.bool (hasB a b x)) ∧ Below w.heap.size w w' := by
  have CB := Lib.hid (fun w => scheck_run a b ha hb w)
  have S0 : Blocks w [boxO a b] (w.alloc (boxO a b)) := (Blocks.nil w).alloc (by simp) _
  unfold boxO at S0
  unfold spanV at *
  replace S0 := Lib.hid S0
  by_cases h0 : errS a b = 0
  · obtain ⟨f1, f2, -⟩ := errS_zero h0
    have t1 := o_leq a x ha hx
    have t2 := o_leq x b hx hb
    have n1 := fin_nn (fit_fin ha f1)
    have n2 := fin_nn (fit_fin hb f2)
    have hI : hasB a b x = (decide (nn a ∧ nn x ∧ key64 a ≤ key64 x) && decide (nn x ∧ nn b ∧ key64 x ≤ key64 b)) := by
      unfold hasB; rw [Bool.eq_iff_iff]; simp only [decide_eq_true_eq, Bool.and_eq_true]
      constructor
      · rintro ⟨-, h1, h2, h3⟩; exact ⟨⟨n1, h1, h2⟩, h1, n2, h3⟩
      · rintro ⟨⟨-, h1, h2⟩, -, -, h3⟩; exact ⟨h0, h1, h2, h3⟩
    rw [hI, ← t1, ← t2]
    rw [h0] at CB
    clear h0 f1 f2 n1 n2 ha hb hx t1 t2 hI
    generalize hp : (FloatKind.f64.format.order a x == some Ordering.lt || FloatKind.f64.format.order a x == some Ordering.eq) = p at *
    generalize hq : (FloatKind.f64.format.order x b == some Ordering.lt || FloatKind.f64.format.order x b == some Ordering.eq) = q at *
    cases p <;> cases q
    all_goals
      go_enter Try.func40, Try.ntmps40
      go_wp2_with fail
      have S := S0.out
      clear S0
      generalize w.alloc _ = wr at *
      refine (CB.out wr).mono ?_
      rintro _ w1 ⟨rfl, hb1⟩
      have S1 := S.on hb1
      have c00 := S1.cell 0 rfl 0 w.heap.size rfl
      have c01 := S1.cell 0 rfl 1 w.heap.size rfl
      have B1 := Lib.hid S1.old
      clear S S1 hb1
      go_wp2_with fail
      go_ret
      exact ⟨rfl, B1.out⟩
  · have hI : hasB a b x = false := by unfold hasB; simp [h0]
    rw [hI]
    have t : (errS a b == 0) = false := by simpa using h0
    clear h0 ha hb hx hI
    generalize errS a b = er at *
    go_enter Try.func40, Try.ntmps40
    go_wp2_with fail
    have S := S0.out
    clear S0
    generalize w.alloc _ = wr at *
    refine (CB.out wr).mono ?_
    rintro _ w1 ⟨rfl, hb1⟩
    have B1 := Lib.hid (S.on hb1).old
    clear S hb1
    go_wp2_with fail
    go_ret
    exact ⟨rfl, B1.out⟩
theorem has_zero {a b : Nat} (ha : a < 18446744073709551616) (hb : b < 18446744073709551616) (h0 : errS a b = 0) : hasB a b 0 = decide (V a ≤ 0 ∧ 0 ≤ V b) := by
  obtain ⟨f1, f2, -⟩ := errS_zero h0
  have k1 := V_lt_key zero_fin (fit_fin ha f1)
  have k2 := V_lt_key (fit_fin hb f2) zero_fin
  rw [V_zero] at k1 k2
  unfold hasB
  rw [decide_eq_decide]
  constructor
  · rintro ⟨-, -, h2, h3⟩; exact ⟨by omega, by omega⟩
  · rintro ⟨h2, h3⟩; exact ⟨h0, fin_nn zero_fin, by omega, by omega⟩

/-! ### Inside -/
theorem sinside_run (a b c d : Nat) (ha : a < 18446744073709551616) (hb : b < 18446744073709551616) (hc : c < 18446744073709551616) (hd : d < 18446744073709551616) (w : World) :
    Calls Try.prog 37 #[spanV a b, spanV c d] w fun e w' => e = .returned (.bool (insB a b c d)) ∧ Below w.heap.size w w' := by
  have CB := Lib.hid (fun w => sboth_run a b c d ha hb hc hd w)
  have S0 : Blocks w ([boxO a b] ++ [boxO c d]) ((w.alloc (boxO a b)).alloc (boxO c d)) := ((Blocks.nil w).alloc (by simp) _).alloc (by simp) _
  unfold boxO at S0
  unfold spanV at *
  replace S0 := Lib.hid S0
  by_cases h0 : errSS a b c d = 0
  · obtain ⟨e1, e2⟩ := errSS_zero h0
    obtain ⟨f1, f2, -⟩ := errS_zero e1
    obtain ⟨f3, f4, -⟩ := errS_zero e2
    have t1 := le_words (fit_fin hc f3) (fit_fin ha f1)
    have t2 := le_words (fit_fin hb f2) (fit_fin hd f4)
    have hI : insB a b c d = (decide (V c ≤ V a) && decide (V b ≤ V d)) := by unfold insB; rw [Bool.eq_iff_iff]; simp [h0]
    rw [hI, ← t1, ← t2]
    rw [h0] at CB
    clear h0 e1 e2 f1 f2 f3 f4 ha hb hc hd t1 t2 hI
    generalize hx : (FloatKind.f64.format.order c a == some Ordering.lt || FloatKind.f64.format.order c a == some Ordering.eq) = x at *
    generalize hy : (FloatKind.f64.format.order b d == some Ordering.lt || FloatKind.f64.format.order b d == some Ordering.eq) = y at *
    cases x <;> cases y
    all_goals
      go_enter Try.func37, Try.ntmps37
      go_wp2_with fail
      have S := S0.out
      clear S0
      generalize (w.alloc _).alloc _ = wr at *
      refine (CB.out wr).mono ?_
      rintro _ w1 ⟨rfl, hb1⟩
      have S1 := S.on hb1
      have c00 := S1.cell 0 rfl 0 w.heap.size rfl
      have c01 := S1.cell 0 rfl 1 w.heap.size rfl
      have c10 := S1.cell 1 rfl 0 (w.heap.size + 1) rfl
      have c11 := S1.cell 1 rfl 1 (w.heap.size + 1) rfl
      have B1 := Lib.hid S1.old
      clear S S1 hb1
      go_wp2_with fail
      go_ret
      exact ⟨rfl, B1.out⟩
  · have hI : insB a b c d = false := by unfold insB; simp [h0]
    rw [hI]
    have t : (errSS a b c d == 0) = false := by simpa using h0
    clear h0 ha hb hc hd hI
    generalize errSS a b c d = er at *
    go_enter Try.func37, Try.ntmps37
    go_wp2_with fail
    have S := S0.out
    clear S0
    generalize (w.alloc _).alloc _ = wr at *
    refine (CB.out wr).mono ?_
    rintro _ w1 ⟨rfl, hb1⟩
    have B1 := Lib.hid (S.on hb1).old
    clear S hb1
    go_wp2_with fail
    go_ret
    exact ⟨rfl, B1.out⟩

/-! ### ends of four -/
theorem DnAll.congr {cs : List (Int → Int)} {x y : Nat} (h : DnAll cs x) (hy : FinW y) (e : V y = V x) : DnAll cs y := ⟨hy, by rw [e]; exact h.le, by rw [e]; exact h.top⟩
theorem UpAll.congr {cs : List (Int → Int)} {x y : Nat} (h : UpAll cs x) (hy : FinW y) (e : V y = V x) : UpAll cs y := ⟨hy, by rw [e]; exact h.ge, by rw [e]; exact h.low⟩
theorem DnAll.mn {cs : List (Int → Int)} {c : Int → Int} {x y : Nat} (h : DnAll cs x) (k : Dn c y) (hcs : ∀ d ∈ cs, Falls d) (hc : Falls c) : DnAll (cs ++ [c]) (mnW x y) := by
  obtain ⟨a, b, d⟩ := mnW_spec h.fin k.fin
  obtain ⟨m1, m2, m3⟩ := minW_V y x
  refine (h.more k hcs hc).congr (mnW_fin h.fin k.fin) ?_
  rcases a with a | a <;> rw [a] at b d ⊢ <;> omega
theorem UpAll.mx {cs : List (Int → Int)} {c : Int → Int} {x y : Nat} (h : UpAll cs x) (k : Up c y) (hcs : ∀ d ∈ cs, Falls d) (hc : Falls c) : UpAll (cs ++ [c]) (mxW x y) := by
  obtain ⟨a, b, d⟩ := mxW_spec h.fin k.fin
  obtain ⟨m1, m2, m3⟩ := maxW_V y x
  refine (h.more k hcs hc).congr (mxW_fin h.fin k.fin) ?_
  rcases a with a | a <;> rw [a] at b d ⊢ <;> omega
theorem falls_prod (a b : Nat) : Falls (prodC a b) := falls_sub _
/-- what the four corners' ends come to -/
structure Four (c1 c2 c3 c4 : Int → Int) (l1 l2 l3 l4 u1 u2 u3 u4 : Nat) : Prop where
  lo : DnAll [c1, c2, c3, c4] (mnW (mnW (mnW l1 l2) l3) l4)
  hi : UpAll [c1, c2, c3, c4] (mxW (mxW (mxW u1 u2) u3) u4)
  le : V l1 ≤ V u1 → V (mnW (mnW (mnW l1 l2) l3) l4) ≤ V (mxW (mxW (mxW u1 u2) u3) u4)
theorem four_of {c1 c2 c3 c4 : Int → Int} {l1 l2 l3 l4 u1 u2 u3 u4 : Nat} (d1 : Dn c1 l1) (d2 : Dn c2 l2) (d3 : Dn c3 l3) (d4 : Dn c4 l4) (e1 : Up c1 u1) (e2 : Up c2 u2) (e3 : Up c3 u3) (e4 : Up c4 u4)
    (h1 : Falls c1) (h2 : Falls c2) (h3 : Falls c3) (h4 : Falls c4) : Four c1 c2 c3 c4 l1 l2 l3 l4 u1 u2 u3 u4 := by
  have q1 : ∀ d ∈ [c1], Falls d := fun d hd => by rw [List.mem_singleton.1 hd]; exact h1
  have q2 : ∀ d ∈ [c1, c2], Falls d := fun d hd => by
    rcases List.mem_cons.1 hd with rfl | hd
    · exact h1
    · rw [List.mem_singleton.1 hd]; exact h2
  have q3 : ∀ d ∈ [c1, c2, c3], Falls d := fun d hd => by
    rcases List.mem_cons.1 hd with rfl | hd
    · exact h1
    · rcases List.mem_cons.1 hd with rfl | hd
      · exact h2
      · rw [List.mem_singleton.1 hd]; exact h3
  have a2 := d1.all.mn d2 q1 h2
  have a3 := DnAll.mn (cs := [c1, c2]) a2 d3 q2 h3
  have a4 := DnAll.mn (cs := [c1, c2, c3]) a3 d4 q3 h4
  have b2 := e1.all.mx e2 q1 h2
  have b3 := UpAll.mx (cs := [c1, c2]) b2 e3 q2 h3
  have b4 := UpAll.mx (cs := [c1, c2, c3]) b3 e4 q3 h4
  refine ⟨a4, b4, fun hle => ?_⟩
  have := (mnW_spec d1.fin d2.fin).2.1
  have := (mnW_spec a2.fin d3.fin).2.1
  have := (mnW_spec a3.fin d4.fin).2.1
  have := (mxW_spec e1.fin e2.fin).2.1
  have := (mxW_spec b2.fin e3.fin).2.1
  have := (mxW_spec b3.fin e4.fin).2.1
  omega
theorem prod_lu {a b l u : Nat} (d : Dn (prodC a b) l) (e : Up (prodC a b) u) : V l ≤ V u := by
  have h1 : 0 ≤ prodN a b - V l := d.le
  have h2 : prodN a b - V u ≤ 0 := e.ge
  omega
theorem quot_lu {a b l u : Nat} (h0 : V b ≠ 0) (d : Dn (quotC a b) l) (e : Up (quotC a b) u) : V l ≤ V u := by
  have h1 := d.le
  have h2 := e.ge
  refine Int.not_lt.1 fun hlt => ?_
  unfold quotC at h1 h2
  by_cases hb : V b < 0
  · rw [if_pos hb] at h1 h2
    have := Int.mul_lt_mul_of_neg_right hlt hb
    omega
  · rw [if_neg hb] at h1 h2
    have := Int.mul_lt_mul_of_pos_right hlt (show 0 < V b by omega)
    omega
theorem cf_prod (x y : Nat) (w : World) : (callFunc 54 #[.float .f64 x, .float .f64 y]).run Try.prog w = .ok (.enter 54 #[.float .f64 x, .float .f64 y]) w := by
  have h := Try.func54
  go_simp
theorem cf_quot (x y : Nat) (w : World) : (callFunc 56 #[.float .f64 x, .float .f64 y]).run Try.prog w = .ok (.enter 56 #[.float .f64 x, .float .f64 y]) w := by
  have h := Try.func56
  go_simp

set_option maxHeartbeats 2000000 in
theorem smul_run (a1 a2 b1 b2 : Nat) (ha : a1 < 18446744073709551616) (ha' : a2 < 18446744073709551616) (hb : b1 < 18446744073709551616) (hb' : b2 < 18446744073709551616) (w : World) :
    Calls Try.prog 17 #[spanV a1 a2, spanV b1 b2] w fun e w' => OpAll (errSS a1 a2 b1 b2) [prodC a1 b1, prodC a1 b2, prodC a2 b1, prodC a2 b2] [prodC a1 b1, prodC a1 b2, prodC a2 b1, prodC a2 b2] e ∧ Below w.heap.size w w' := by
  have CB := Lib.hid (fun w => sboth_run a1 a2 b1 b2 ha ha' hb hb' w)
  have S0 : Blocks w (([boxO a1 a2] ++ [boxO b1 b2]) ++ [zeroO]) (((w.alloc (boxO a1 a2)).alloc (boxO b1 b2)).alloc zeroO) := (((Blocks.nil w).alloc (by simp) _).alloc (by simp) _).alloc (by simp) _
  unfold boxO zeroO at S0
  unfold spanV at *
  replace S0 := Lib.hid S0
  have hst := @fstore
  by_cases h0 : errSS a1 a2 b1 b2 = 0
  · obtain ⟨e1, e2⟩ := errSS_zero h0
    obtain ⟨f1, f2, le1⟩ := errS_zero e1
    obtain ⟨f3, f4, le2⟩ := errS_zero e2
    obtain ⟨l1, u1, d1, v1, A1⟩ := sprod_run ha hb f1 f3
    obtain ⟨l2, u2, d2, v2, A2⟩ := sprod_run ha hb' f1 f4
    obtain ⟨l3, u3, d3, v3, A3⟩ := sprod_run ha' hb f2 f3
    obtain ⟨l4, u4, d4, v4, A4⟩ := sprod_run ha' hb' f2 f4
    have F4 := four_of d1 d2 d3 d4 v1 v2 v3 v4 (falls_prod _ _) (falls_prod _ _) (falls_prod _ _) (falls_prod _ _)
    have hle := F4.le (prod_lu d1 v1)
    have M1 := fun ts t w => run_minf4 (P := Try.prog) d1.fin d2.fin d3.fin d4.fin ts t w
    have M2 := fun ts t w => run_maxf4 (P := Try.prog) v1.fin v2.fin v3.fin v4.fin ts t w
    have CR := Lib.hid (fun w => corners_run 54 a1 a2 b1 b2 [(l1, u1), (l2, u2), (l3, u3), (l4, u4)] cf_prod A1 A2 A3 A4 _ _ M1 M2 w)
    have TR := Lib.hid (fun w => out_run _ _ F4.lo.fin F4.hi.fin hle w)
    have hD := F4.lo
    have hU := F4.hi
    clear F4 hle M1 M2
    generalize mnW (mnW (mnW l1 l2) l3) l4 = lo at *
    generalize mxW (mxW (mxW u1 u2) u3) u4 = hi at *
    obtain ⟨x, y, c, hT⟩ := toldE_span lo hi
    rw [hT] at TR
    have hO : Hid (OpAll (errSS a1 a2 b1 b2) [prodC a1 b1, prodC a1 b2, prodC a2 b1, prodC a2 b2] [prodC a1 b1, prodC a1 b2, prodC a2 b1, prodC a2 b2] (.returned (spanE x y c))) := ⟨fun _ => ⟨lo, hi, by rw [hT], hD, hU⟩, fun h => absurd h0 h⟩
    rw [h0] at CB
    unfold spanE at TR
    unfold spanV at CR
    clear h0 e1 e2 f1 f2 f3 f4 le1 le2 hD hU hT ha ha' hb hb' d1 d2 d3 d4 v1 v2 v3 v4 A1 A2 A3 A4 
    go_enter Try.func17, Try.ntmps17
    go_wp2_with fail
    have S := S0.out
    clear S0
    generalize ((w.alloc _).alloc _).alloc _ = wr at *
    refine (CB.out wr).mono ?_
    rintro _ w1 ⟨rfl, hb1⟩
    have S1 := S.on hb1
    have c00 := S1.cell 0 rfl 0 w.heap.size rfl
    have c01 := S1.cell 0 rfl 1 w.heap.size rfl
    have c10 := S1.cell 1 rfl 0 (w.heap.size + 1) rfl
    have c11 := S1.cell 1 rfl 1 (w.heap.size + 1) rfl
    replace S1 := Lib.hid S1
    clear S hb1
    go_wp2_with fail
    refine (CR.out w1).mono ?_
    rintro _ w2 ⟨rfl, hb2⟩
    have S2 := Lib.hid (S1.out.on hb2)
    clear S1 hb2 c00 c01 c10 c11
    go_wp2_with fail
    refine (TR.out w2).mono ?_
    rintro _ w3 ⟨rfl, hb3⟩
    have S3 := S2.out.on hb3
    have r0 := S3.cell 2 rfl 0 (w.heap.size + 1 + 1) rfl
    have r1 := S3.cell 2 rfl 1 (w.heap.size + 1 + 1) rfl
    have f0 := S3.free 2 rfl 0 (w.heap.size + 1 + 1) rfl
    have f1 := S3.free 2 rfl 1 (w.heap.size + 1 + 1) rfl
    have B2 := Lib.hid S3.old
    clear S2 S3 hb3
    go_wp2_with fail
    (try simp only [Exit.inBlock, Exit.then])
    refine bodyPost_ret (v := spanE x y c) ?_ rfl ⟨hO.out, ?_⟩
    · rw [results_cell_tmp rfl]; unfold spanE; go_simp
    · exact (B2.out.setCell (by show _ ≤ (w.heap.size + 1 + 1); omega) _).setCell (by show _ ≤ (w.heap.size + 1 + 1); omega) _
  · have hO : Hid (OpAll (errSS a1 a2 b1 b2) [prodC a1 b1, prodC a1 b2, prodC a2 b1, prodC a2 b2] [prodC a1 b1, prodC a1 b2, prodC a2 b1, prodC a2 b2] (.returned (spanE 0 0 (errSS a1 a2 b1 b2)))) := ⟨fun h => absurd h h0, fun _ => rfl⟩
    have t : (errSS a1 a2 b1 b2 != 0) = true := by simpa using h0
    clear h0 ha ha' hb hb'
    generalize errSS a1 a2 b1 b2 = er at *
    go_enter Try.func17, Try.ntmps17
    go_wp2_with fail
    have S := S0.out
    clear S0
    generalize ((w.alloc _).alloc _).alloc _ = wr at *
    refine (CB.out wr).mono ?_
    rintro _ w1 ⟨rfl, hb1⟩
    have S1 := S.on hb1
    have r0 := S1.cell 2 rfl 0 (w.heap.size + 1 + 1) rfl
    have r1 := S1.cell 2 rfl 1 (w.heap.size + 1 + 1) rfl
    have f0 := S1.free 2 rfl 0 (w.heap.size + 1 + 1) rfl
    have f1 := S1.free 2 rfl 1 (w.heap.size + 1 + 1) rfl
    have B2 := Lib.hid S1.old
    clear S S1 hb1
    go_wp2_with fail
    (try simp only [Exit.inBlock, Exit.then])
    refine bodyPost_ret (v := spanE 0 0 er) ?_ rfl ⟨hO.out, ?_⟩
    · rw [results_cell_tmp rfl]; unfold spanE; go_simp
    · exact (B2.out.setCell (by show _ ≤ (w.heap.size + 1 + 1); omega) _).setCell (by show _ ≤ (w.heap.size + 1 + 1); omega) _

set_option maxHeartbeats 2000000 in
theorem sdiv_run (a1 a2 b1 b2 : Nat) (ha : a1 < 18446744073709551616) (ha' : a2 < 18446744073709551616) (hb : b1 < 18446744073709551616) (hb' : b2 < 18446744073709551616) (w : World) :
    Calls Try.prog 19 #[spanV a1 a2, spanV b1 b2] w fun e w' => OpAll (errD a1 a2 b1 b2) [quotC a1 b1, quotC a1 b2, quotC a2 b1, quotC a2 b2] [quotC a1 b1, quotC a1 b2, quotC a2 b1, quotC a2 b2] e ∧ Below w.heap.size w w' := by
  have CB := Lib.hid (fun w => sboth_run a1 a2 b1 b2 ha ha' hb hb' w)
  have S0 : Blocks w (([boxO a1 a2] ++ [boxO b1 b2]) ++ [zeroO]) (((w.alloc (boxO a1 a2)).alloc (boxO b1 b2)).alloc zeroO) := (((Blocks.nil w).alloc (by simp) _).alloc (by simp) _).alloc (by simp) _
  unfold boxO zeroO at S0
  unfold spanV at *
  replace S0 := Lib.hid S0
  have hst := @fstore
  by_cases h0 : errSS a1 a2 b1 b2 = 0
  · obtain ⟨e1, e2⟩ := errSS_zero h0
    obtain ⟨f1, f2, le1⟩ := errS_zero e1
    obtain ⟨f3, f4, le2⟩ := errS_zero e2
    have HB := Lib.hid (fun w => shas_run b1 b2 0 hb hb' zero_fin.1 w)
    rw [has_zero hb hb' e2] at HB
    by_cases hz : V b1 ≤ 0 ∧ 0 ≤ V b2
    · have hO : Hid (OpAll (errD a1 a2 b1 b2) [quotC a1 b1, quotC a1 b2, quotC a2 b1, quotC a2 b2] [quotC a1 b1, quotC a1 b2, quotC a2 b1, quotC a2 b2] (.returned (spanE 0 0 4))) := by
        have e : errD a1 a2 b1 b2 = 4 := by unfold errD; rw [if_neg (by simpa using h0), if_pos hz]
        rw [e]; exact ⟨fun h => by omega, fun _ => rfl⟩
      rw [decide_eq_true hz] at HB
      rw [h0] at CB
      clear h0 hz e1 e2 f1 f2 f3 f4 le1 le2 ha ha' hb hb'
      go_enter Try.func19, Try.ntmps19
      go_wp2_with fail
      have S := S0.out
      clear S0
      generalize ((w.alloc _).alloc _).alloc _ = wr at *
      refine (CB.out wr).mono ?_
      rintro _ w1 ⟨rfl, hb1⟩
      have S1 := S.on hb1
      have c10 := S1.cell 1 rfl 0 (w.heap.size + 1) rfl
      have c11 := S1.cell 1 rfl 1 (w.heap.size + 1) rfl
      replace S1 := Lib.hid S1
      clear S hb1
      go_wp2_with fail
      refine (HB.out w1).mono ?_
      rintro _ w2 ⟨rfl, hb2⟩
      have S2 := S1.out.on hb2
      have r0 := S2.cell 2 rfl 0 (w.heap.size + 1 + 1) rfl
      have r1 := S2.cell 2 rfl 1 (w.heap.size + 1 + 1) rfl
      have f0 := S2.free 2 rfl 0 (w.heap.size + 1 + 1) rfl
      have f1 := S2.free 2 rfl 1 (w.heap.size + 1 + 1) rfl
      have B2 := Lib.hid S2.old
      clear S1 S2 hb2 c10 c11
      go_wp2_with fail
      (try simp only [Exit.inBlock, Exit.then])
      refine bodyPost_ret (v := spanE 0 0 4) ?_ rfl ⟨hO.out, ?_⟩
      · rw [results_cell_tmp rfl]; unfold spanE; go_simp
      · exact (B2.out.setCell (by show _ ≤ (w.heap.size + 1 + 1); omega) _).setCell (by show _ ≤ (w.heap.size + 1 + 1); omega) _
    rw [decide_eq_false hz] at HB
    have z1 : V b1 ≠ 0 := by omega
    have z2 : V b2 ≠ 0 := by omega
    have hE : errD a1 a2 b1 b2 = 0 := by unfold errD; rw [if_neg (by simpa using h0), if_neg hz]
    obtain ⟨l1, u1, d1, v1, A1⟩ := squot_run ha hb f1 f3 z1
    obtain ⟨l2, u2, d2, v2, A2⟩ := squot_run ha hb' f1 f4 z2
    obtain ⟨l3, u3, d3, v3, A3⟩ := squot_run ha' hb f2 f3 z1
    obtain ⟨l4, u4, d4, v4, A4⟩ := squot_run ha' hb' f2 f4 z2
    have F4 := four_of d1 d2 d3 d4 v1 v2 v3 v4 (falls_quot _ _) (falls_quot _ _) (falls_quot _ _) (falls_quot _ _)
    have hle := F4.le (quot_lu (by omega) d1 v1)
    have M1 := fun ts t w => run_minf4 (P := Try.prog) d1.fin d2.fin d3.fin d4.fin ts t w
    have M2 := fun ts t w => run_maxf4 (P := Try.prog) v1.fin v2.fin v3.fin v4.fin ts t w
    have CR := Lib.hid (fun w => corners_run 56 a1 a2 b1 b2 [(l1, u1), (l2, u2), (l3, u3), (l4, u4)] cf_quot A1 A2 A3 A4 _ _ M1 M2 w)
    have TR := Lib.hid (fun w => out_run _ _ F4.lo.fin F4.hi.fin hle w)
    have hD := F4.lo
    have hU := F4.hi
    clear F4 hle M1 M2
    generalize mnW (mnW (mnW l1 l2) l3) l4 = lo at *
    generalize mxW (mxW (mxW u1 u2) u3) u4 = hi at *
    obtain ⟨x, y, c, hT⟩ := toldE_span lo hi
    rw [hT] at TR
    have hO : Hid (OpAll (errD a1 a2 b1 b2) [quotC a1 b1, quotC a1 b2, quotC a2 b1, quotC a2 b2] [quotC a1 b1, quotC a1 b2, quotC a2 b1, quotC a2 b2] (.returned (spanE x y c))) := ⟨fun _ => ⟨lo, hi, by rw [hT], hD, hU⟩, fun h => absurd hE h⟩
    rw [h0] at CB
    unfold spanE at TR
    unfold spanV at CR
    clear h0 e1 e2 f1 f2 f3 f4 le1 le2 hD hU hT ha ha' hb hb' d1 d2 d3 d4 v1 v2 v3 v4 A1 A2 A3 A4 hz hE z1 z2
    go_enter Try.func19, Try.ntmps19
    go_wp2_with fail
    have S := S0.out
    clear S0
    generalize ((w.alloc _).alloc _).alloc _ = wr at *
    refine (CB.out wr).mono ?_
    rintro _ w1 ⟨rfl, hb1⟩
    have S1 := S.on hb1
    have c00 := S1.cell 0 rfl 0 w.heap.size rfl
    have c01 := S1.cell 0 rfl 1 w.heap.size rfl
    have c10 := S1.cell 1 rfl 0 (w.heap.size + 1) rfl
    have c11 := S1.cell 1 rfl 1 (w.heap.size + 1) rfl
    replace S1 := Lib.hid S1
    clear S hb1
    go_wp2_with fail
    refine (HB.out w1).mono ?_
    rintro _ wh ⟨rfl, hbh⟩
    have Sh := S1.out.on hbh
    have c00 := Sh.cell 0 rfl 0 w.heap.size rfl
    have c01 := Sh.cell 0 rfl 1 w.heap.size rfl
    have c10 := Sh.cell 1 rfl 0 (w.heap.size + 1) rfl
    have c11 := Sh.cell 1 rfl 1 (w.heap.size + 1) rfl
    replace S1 := Lib.hid Sh
    clear hbh
    go_wp2_with fail
    refine (CR.out wh).mono ?_
    rintro _ w2 ⟨rfl, hb2⟩
    have S2 := Lib.hid (S1.out.on hb2)
    clear S1 hb2 c00 c01 c10 c11
    go_wp2_with fail
    refine (TR.out w2).mono ?_
    rintro _ w3 ⟨rfl, hb3⟩
    have S3 := S2.out.on hb3
    have r0 := S3.cell 2 rfl 0 (w.heap.size + 1 + 1) rfl
    have r1 := S3.cell 2 rfl 1 (w.heap.size + 1 + 1) rfl
    have f0 := S3.free 2 rfl 0 (w.heap.size + 1 + 1) rfl
    have f1 := S3.free 2 rfl 1 (w.heap.size + 1 + 1) rfl
    have B2 := Lib.hid S3.old
    clear S2 S3 hb3
    go_wp2_with fail
    (try simp only [Exit.inBlock, Exit.then])
    refine bodyPost_ret (v := spanE x y c) ?_ rfl ⟨hO.out, ?_⟩
    · rw [results_cell_tmp rfl]; unfold spanE; go_simp
    · exact (B2.out.setCell (by show _ ≤ (w.heap.size + 1 + 1); omega) _).setCell (by show _ ≤ (w.heap.size + 1 + 1); omega) _
  · have hO : Hid (OpAll (errD a1 a2 b1 b2) [quotC a1 b1, quotC a1 b2, quotC a2 b1, quotC a2 b2] [quotC a1 b1, quotC a1 b2, quotC a2 b1, quotC a2 b2] (.returned (spanE 0 0 (errSS a1 a2 b1 b2)))) := by
      have e : errD a1 a2 b1 b2 = errSS a1 a2 b1 b2 := by unfold errD; rw [if_pos h0]
      rw [e]; exact ⟨fun h => absurd h h0, fun _ => rfl⟩
    have t : (errSS a1 a2 b1 b2 != 0) = true := by simpa using h0
    clear h0 ha ha' hb hb'
    generalize errSS a1 a2 b1 b2 = er at *
    go_enter Try.func19, Try.ntmps19
    go_wp2_with fail
    have S := S0.out
    clear S0
    generalize ((w.alloc _).alloc _).alloc _ = wr at *
    refine (CB.out wr).mono ?_
    rintro _ w1 ⟨rfl, hb1⟩
    have S1 := S.on hb1
    have r0 := S1.cell 2 rfl 0 (w.heap.size + 1 + 1) rfl
    have r1 := S1.cell 2 rfl 1 (w.heap.size + 1 + 1) rfl
    have f0 := S1.free 2 rfl 0 (w.heap.size + 1 + 1) rfl
    have f1 := S1.free 2 rfl 1 (w.heap.size + 1 + 1) rfl
    have B2 := Lib.hid S1.old
    clear S S1 hb1
    go_wp2_with fail
    (try simp only [Exit.inBlock, Exit.then])
    refine bodyPost_ret (v := spanE 0 0 er) ?_ rfl ⟨hO.out, ?_⟩
    · rw [results_cell_tmp rfl]; unfold spanE; go_simp
    · exact (B2.out.setCell (by show _ ≤ (w.heap.size + 1 + 1); omega) _).setCell (by show _ ≤ (w.heap.size + 1 + 1); omega) _
end Go.Proofs.Ytkfagpahbojigaa
