/- Proved here: the program's exact sums of products, and their signs, over the translated code. -/
import Derived.Test.YthgpdgajmpocfaaTaw
namespace Go.Proofs.Ythgpdgajmpocfaa
open Go.ChangeShapes Go.WideShapes Go.ChangeAt Go.RowKit Ieee.Own

/-! ### a product more: in four products that are exact -/
/-- a product of halves: its word, its value in units, its size -/
theorem half_mul {a b p q k : Nat} {X Y : Int} (ha : FinW a) (hb : FinW b) (va : V a = X * 2 ^ p) (vb : V b = Y * 2 ^ q) (hk : p + q = k + 1074) (hx : (X * Y).natAbs ≤ 2 ^ 107) (hr : RN (X * Y) = X * Y) (hk2 : k ≤ 1370) :
    ∃ r, FinW r ∧ V r = X * Y * 2 ^ k ∧ (V r).natAbs ≤ 2 ^ 1477 ∧ ∀ t w, (binOp .mul t (.float .f64 a) (.float .f64 b)).run Try.prog w = .ok (.float .f64 r) w := by
  obtain ⟨r, h1, h2, h3⟩ := mul_scaled ha hb va vb hk hx (by omega)
  rw [hr] at h3
  exact ⟨r, h2, h3, by rw [h3]; exact abs_up (k := 107 + k) (l := 1477) (scale_le hx) (by omega), run_mul _ _ _ h1⟩

/-- what a product of two fit words is in parts -/
theorem prod_words {a b : Nat} (ha : a < 18446744073709551616) (hb : b < 18446744073709551616) (h1 : fitB a = true) (h2 : fitB b = true) :
    ∃ ah al bh bl m1 m2 m3 m4 : Nat, (∀ w, Calls Try.prog 68 #[.float .f64 a] w fun en w' => en = .returned (ff ah al) ∧ w = w') ∧ (∀ w, Calls Try.prog 68 #[.float .f64 b] w fun en w' => en = .returned (ff bh bl) ∧ w = w') ∧
      (∀ t w, (binOp .mul t (.float .f64 al) (.float .f64 bl)).run Try.prog w = .ok (.float .f64 m1) w) ∧ (∀ t w, (binOp .mul t (.float .f64 al) (.float .f64 bh)).run Try.prog w = .ok (.float .f64 m2) w) ∧
      (∀ t w, (binOp .mul t (.float .f64 ah) (.float .f64 bl)).run Try.prog w = .ok (.float .f64 m3) w) ∧ (∀ t w, (binOp .mul t (.float .f64 ah) (.float .f64 bh)).run Try.prog w = .ok (.float .f64 m4) w) ∧
      Sized 1477 m1 ∧ Sized 1477 m2 ∧ Sized 1477 m3 ∧ Sized 1477 m4 ∧ (V m1 + V m2 + V m3 + V m4) * 2 ^ 1074 = V a * V b := by
  obtain ⟨A, i, na, i1, i2⟩ := fit_nr ha h1
  obtain ⟨B, j, nb, j1, j2⟩ := fit_nr hb h2
  obtain ⟨k, hk⟩ : ∃ k, i + j = k + 1074 := ⟨i + j - 1074, by omega⟩
  obtain ⟨ah, al, Ha, fh, fl, vh, vl, dh, lh, C1⟩ := split_run na (by omega)
  obtain ⟨bh, bl, Hb, fh', fl', vh', vl', dh', lh', C2⟩ := split_run nb (by omega)
  have hA := na.hi
  have hB := nb.hi
  obtain ⟨g1, g2, g3, g4, -⟩ := dekker_any na.lo hA nb.lo hB dh lh dh' lh' rfl
  have bHa : Ha.natAbs ≤ 2 ^ 53 := by omega
  have bHb : Hb.natAbs ≤ 2 ^ 53 := by omega
  have w1 : (Ha * Hb).natAbs ≤ 2 ^ 107 := Nat.le_trans (abs_mul_le bHa bHb) (by decide)
  have w2 : (Ha * (B - Hb)).natAbs ≤ 2 ^ 107 := Nat.le_trans (abs_mul_le bHa lh') (by decide)
  have w3 : ((A - Ha) * Hb).natAbs ≤ 2 ^ 107 := Nat.le_trans (abs_mul_le lh bHb) (by decide)
  have w4 : ((A - Ha) * (B - Hb)).natAbs ≤ 2 ^ 107 := Nat.le_trans (abs_mul_le lh lh') (by decide)
  obtain ⟨m1, f1, v1, s1, r1⟩ := half_mul fl fl' vl vl' hk w4 g4 (by omega)
  obtain ⟨m2, f2, v2, s2, r2⟩ := half_mul fl fh' vl vh' hk w3 g3 (by omega)
  obtain ⟨m3, f3, v3, s3, r3⟩ := half_mul fh fl' vh vl' hk w2 g2 (by omega)
  obtain ⟨m4, f4, v4, s4, r4⟩ := half_mul fh fh' vh vh' hk w1 g1 (by omega)
  refine ⟨ah, al, bh, bl, m1, m2, m3, m4, C1, C2, r1, r2, r3, r4, ⟨f1, s1⟩, ⟨f2, s2⟩, ⟨f3, s3⟩, ⟨f4, s4⟩, ?_⟩
  rw [nr_mul na nb hk, v1, v2, v3, v4, ← Int.add_mul, ← Int.add_mul, ← Int.add_mul]
  congr 2
  simp only [Int.mul_sub, Int.sub_mul]
  omega

/-- what is known of the expansion behind some numbers: its parts, how many, that nothing below has turned -/
structure Got (B : Nat) (w : World) (z : Int) (n : Nat) (wr : World) : Prop where
  old : Below B w wr
  st : ∃ us, Exp B wr us ∧ Parts 1490 z (vs us) ∧ us.length ≤ n
theorem Got.next {B : Nat} {w : World} {z : Int} {n : Nat} {wr : World} (G : Got B w z n wr) {m : Nat} (hm : Sized 1477 m) (hn : n < 4096) (hz : (z + V m).natAbs ≤ 2 ^ 1490) :
    Calls Try.prog 39 #[.pointer (some ⟨B, 0, none⟩), .float .f64 m] wr fun e w' => e = .returned (.tuple #[]) ∧ Got B w (z + V m) (n + 1) w' := by
  obtain ⟨us, E, P, hu⟩ := G.st
  have ha := abs_up (l := 1490) hm.2 (by omega)
  refine (add_run B us m (1490 + 4) wr E hm.1 (by omega) (by omega) (way_le P ha)).mono ?_
  rintro e w' ⟨rfl, us', E', ev, hb, hl'⟩
  exact ⟨rfl, G.old.trans hb, us', E', by rw [ev]; exact P.grow (Rep_V _) ha hz (by omega), by omega⟩

theorem four_bound {z m1 m2 m3 m4 : Int} {k l : Nat} (hl : k + 3 = l) (hz : z.natAbs ≤ 2 ^ k) (h1 : m1.natAbs ≤ 2 ^ k) (h2 : m2.natAbs ≤ 2 ^ k) (h3 : m3.natAbs ≤ 2 ^ k) (h4 : m4.natAbs ≤ 2 ^ k) :
    (z + m1).natAbs ≤ 2 ^ l ∧ (z + m1 + m2).natAbs ≤ 2 ^ l ∧ (z + m1 + m2 + m3).natAbs ≤ 2 ^ l ∧ (z + m1 + m2 + m3 + m4).natAbs ≤ 2 ^ l := by
  subst hl
  have e2 : 2 ^ (k + 3) = 8 * 2 ^ k := by rw [Nat.pow_add]; omega
  omega

/-- a product in units of 2^-1074 -/
def prodI (a b : Nat) : Int := V a * V b / 2 ^ 1074
theorem prodI_of {a b : Nat} {z : Int} (h : z * 2 ^ 1074 = V a * V b) : prodI a b = z := by
  unfold prodI
  rw [← h]
  exact Int.mul_ediv_cancel _ (Int.ne_of_gt (Int.pow_pos (by omega)))
theorem prodI_mul {a b : Nat} (ha : a < 18446744073709551616) (hb : b < 18446744073709551616) (h1 : fitB a = true) (h2 : fitB b = true) : prodI a b * 2 ^ 1074 = V a * V b := by
  obtain ⟨ah, al, bh, bl, m1, m2, m3, m4, -, -, -, -, -, -, -, -, -, -, hv⟩ := prod_words ha hb h1 h2
  rw [prodI_of hv]; exact hv
theorem abs_cancel {x y z : Int} {i j k : Nat} (h : x * 2 ^ i = y * z) (hy : y.natAbs ≤ 2 ^ j) (hz : z.natAbs ≤ 2 ^ j) (hk : j + j = k + i) : x.natAbs ≤ 2 ^ k := by
  have h1 := congrArg Int.natAbs h
  rw [scale_abs, Int.natAbs_mul] at h1
  have h2 := Nat.mul_le_mul hy hz
  rw [← h1, ← Nat.pow_add, hk, Nat.pow_add] at h2
  exact Nat.le_of_mul_le_mul_right h2 (Nat.two_pow_pos i)
theorem prodI_abs {a b : Nat} (ha : a < 18446744073709551616) (hb : b < 18446744073709551616) (h1 : fitB a = true) (h2 : fitB b = true) : (prodI a b).natAbs ≤ 2 ^ 1476 :=
  abs_cancel (i := 1074) (j := 1275) (k := 1476) (prodI_mul ha hb h1 h2) (fit_abs (k := 1275) ha h1 (by decide)) (fit_abs (k := 1275) hb h2 (by decide)) (by decide)

set_option maxHeartbeats 1000000 in
theorem addprod_run {B : Nat} {w : World} {z : Int} {n : Nat} {wr : World} (G : Got B w z n wr) {a b : Nat} (ha : a < 18446744073709551616) (hb : b < 18446744073709551616) (h1 : fitB a = true) (h2 : fitB b = true) (hn : n < 4000) (hz : z.natAbs ≤ 2 ^ 1487) :
    Calls Try.prog 61 #[.pointer (some ⟨B, 0, none⟩), .float .f64 a, .float .f64 b] wr fun e w' => e = .returned (.tuple #[]) ∧ Got B w (z + prodI a b) (n + 4) w' := by
  obtain ⟨ah, al, bh, bl, m1, m2, m3, m4, C1, C2, r1, r2, r3, r4, s1, s2, s3, s4, hv⟩ := prod_words ha hb h1 h2
  obtain ⟨q1, q2, q3, q4⟩ := four_bound (k := 1487) (l := 1490) (by decide) hz (abs_up (l := 1487) s1.2 (by omega)) (abs_up (l := 1487) s2.2 (by omega)) (abs_up (l := 1487) s3.2 (by omega)) (abs_up (l := 1487) s4.2 (by omega))
  have hpr := prodI_of hv
  have hsum : Hid (z + V m1 + V m2 + V m3 + V m4 = z + prodI a b) := by show _ = _; omega
  have N1 := G.next s1 (by omega) q1
  replace s2 := Lib.hid s2
  replace s3 := Lib.hid s3
  replace s4 := Lib.hid s4
  replace q2 := Lib.hid q2
  replace q3 := Lib.hid q3
  replace q4 := Lib.hid q4
  clear hv hpr hz s1 q1 G ha hb h1 h2
  go_enter Try.func61, Try.ntmps61
  go_wp2_with (first | (go_at_call 68; ((with_reducible refine (C1 _).mono ?_); rintro en w' ⟨rfl, rfl⟩; unfold ff)) | (go_at_call 68; ((with_reducible refine (C2 _).mono ?_); rintro en w' ⟨rfl, rfl⟩; unfold ff)))
  refine N1.mono ?_
  rintro _ w1 ⟨rfl, G1⟩
  have N2 := G1.next s2.out (by omega) q2.out
  clear N1 G1
  go_wp2_with fail
  refine N2.mono ?_
  rintro _ w2 ⟨rfl, G2⟩
  have N3 := G2.next s3.out (by omega) q3.out
  clear N2 G2
  go_wp2_with fail
  refine N3.mono ?_
  rintro _ w3 ⟨rfl, G3⟩
  have N4 := G3.next s4.out (by omega) q4.out
  clear N3 G3
  go_wp2_with fail
  refine N4.mono ?_
  rintro _ w4 ⟨rfl, G4⟩
  rw [hsum.out] at G4
  replace G4 := Lib.hid G4
  clear N4
  go_wp2_with fail
  go_end0
  exact ⟨rfl, G4.out⟩

/-! ### lists of products -/
def prodL (L M : List Nat) : List Int := List.zipWith prodI L M
theorem prodL_len {L M : List Nat} (h : L.length = M.length) : (prodL L M).length = L.length := by simp [prodL, h]
theorem prodL_take_succ {L M : List Nat} {k : Nat} (h : k < L.length) (h2 : k < M.length) : (prodL (L.take (k + 1)) (M.take (k + 1))).sum = (prodL (L.take k) (M.take k)).sum + prodI (L.getD k 0) (M.getD k 0) := by
  unfold prodL
  rw [List.take_add_one, List.take_add_one, List.getElem?_eq_getElem h, List.getElem?_eq_getElem h2]
  simp only [Option.toList_some]
  rw [List.zipWith_append (by simp; omega), List.sum_append]
  simp [List.getD, h, h2]
theorem sum_pow {ps : List Int} {j k l : Nat} (h : ∀ p ∈ ps, p.natAbs ≤ 2 ^ k) (hl : ps.length ≤ 2 ^ j) (hk : j + k = l) : ps.sum.natAbs ≤ 2 ^ l :=
  Nat.le_trans (sum_bound ps h) (mul_pow_le hl hk)
theorem prodL_bound {L M : List Nat} (hw : Words L) (hw' : Words M) (hf : allFit L = true) (hf' : allFit M = true) (hl : L.length ≤ 256) (k : Nat) : (prodL (L.take k) (M.take k)).sum.natAbs ≤ 2 ^ 1487 := by
  have h2 : (prodL (L.take k) (M.take k)).length ≤ 2 ^ 11 := by unfold prodL; simp; omega
  have h1 : ∀ p ∈ prodL (L.take k) (M.take k), p.natAbs ≤ 2 ^ 1476 := by
    intro p hp
    unfold prodL at hp
    obtain ⟨i, hi, rfl⟩ := List.mem_iff_getElem.1 hp
    simp only [List.length_zipWith, List.length_take] at hi
    rw [List.getElem_zipWith]
    have m1 : (L.take k)[i]'(by simp; omega) ∈ L := List.mem_of_mem_take (List.getElem_mem _)
    have m2 : (M.take k)[i]'(by simp; omega) ∈ M := List.mem_of_mem_take (List.getElem_mem _)
    exact prodI_abs (hw _ m1) (hw' _ m2) (List.all_eq_true.1 hf _ m1) (List.all_eq_true.1 hf' _ m2)
  exact sum_pow (j := 11) (k := 1476) (l := 1487) h1 h2 (by decide)

theorem Exp.drew {b : Nat} {w : World} {us : List Nat} (E : Exp b w us) : Exp b w.drew us := ⟨E.fin, E.size, E.own⟩
theorem Got.drew {B : Nat} {w : World} {z : Int} {n : Nat} {wr : World} (G : Got B w z n wr) : Got B w z n wr.drew := by
  obtain ⟨us, E, P, h⟩ := G.st
  exact ⟨G.old.drew, us, E.drew, P, h⟩

set_option maxHeartbeats 2000000 in
theorem products_run (ao bo : Option Addr) (cap cap' n : Nat) (L M : List Nat) (w : World) (hn : n = L.length) (hn' : M.length = L.length) (hl : L.length ≤ 256) (hw : Words L) (hw' : Words M) (hf : allFit L = true) (hf' : allFit M = true) (ha : At w ao L) (hb : At w bo M) :
    Calls Try.prog 44 #[.slice ao n cap, .slice bo n cap'] w fun e w' => (∃ v, e = .returned v ∧ w'.heap[w.heap.size]? = some (.cells #[v] 48 (0, 0))) ∧ Got w.heap.size w (prodL L M).sum 1024 w' := by
  have S0 : Got w.heap.size w (prodL (L.take 0) (M.take 0)).sum 0 (w.alloc (.cells #[.slice none 0 0] 48)) :=
    ⟨(Below.refl _ w).alloc (Nat.le_refl _) _, [], ⟨Fins.nil, by simp, _, heap_alloc_new w _, World.ownsRow_nil _ _ _ _⟩, Parts.nil 1490, by simp⟩
  have hlt := ha.lt
  have hlt' := hb.lt
  have hbd := prodL_bound hw hw' hf hf' hl
  have hadd : ∀ k wr, k < L.length → Got w.heap.size w (prodL (L.take k) (M.take k)).sum (4 * k) wr → Calls Try.prog 61 #[.pointer (some ⟨w.heap.size, 0, none⟩), .float .f64 (L.getD k 0), .float .f64 (M.getD k 0)] wr fun e w' => e = .returned (.tuple #[]) ∧ Got w.heap.size w (prodL (L.take (k + 1)) (M.take (k + 1))).sum (4 * (k + 1)) w' := by
    intro k wr hk G
    rw [prodL_take_succ hk (by omega)]
    exact addprod_run G (hw.at hk) (hw'.at (by omega)) (allFit_at.1 hf k hk) (allFit_at.1 hf' k (by omega)) (by omega) (hbd k)
  have hn256 : n ≤ 256 := by omega
  replace S0 := Lib.hid S0
  replace ha := Lib.hid ha
  replace hb := Lib.hid hb
  replace hlt := Lib.hid hlt
  replace hlt' := Lib.hid hlt'
  replace hadd := Lib.hid hadd
  replace hl := Lib.hid hl
  replace hn := Lib.hid hn
  replace hn' := Lib.hid hn'
  clear hw hw' hf hf' hbd
  go_enter Try.func44, Try.ntmps44
  go_wp2_with fail
  go_loopw [9] (fun iv wr => ∃ i : Nat, i ≤ n ∧ iv = .int .i64 i ∧ Got w.heap.size w (prodL (L.take i) (M.take i)).sum (4 * i) wr) (fun iv _ => n - (intOf iv).toNat)
  case atStart => exact ⟨0, Nat.zero_le _, rfl, S0.out⟩
  case round =>
    obtain ⟨i, hi, rfl, S⟩ := hrel
    by_cases hlt1 : i < n
    · have hil : i < L.length := by have := hn.out; omega
      have him : i < M.length := by have := hn'.out; omega
      obtain ⟨b, o, rfl, hc⟩ := (ha.out.later S.old hlt.out) i hil
      obtain ⟨b', o', rfl, hc'⟩ := (hb.out.later S.old hlt'.out) i him
      have C := hadd.out i wr.drew hil S.drew
      obtain ⟨u, hu⟩ : ∃ u, u = L.getD i 0 := ⟨_, rfl⟩
      obtain ⟨v, hv⟩ : ∃ v, v = M.getD i 0 := ⟨_, rfl⟩
      rw [← hu] at hc C
      rw [← hv] at hc' C
      clear hu hv hil him S
      go_wp2_with fail
      go_region_with ((go_at_call 61; ((with_reducible refine C.mono ?_); rintro en w2 ⟨rfl, S2⟩; replace S2 := Lib.hid S2)))
      all_goals
        go_wp2_with fail
        go_roundw
        case rel => exact ⟨i + 1, hlt1, by go_num, S2.out⟩
        case measure => simp [intOf]; omega
    · obtain rfl : i = L.length := by have := hn.out; omega
      rw [List.take_length, ← hn'.out, List.take_length] at S
      obtain ⟨us, E, P, hu⟩ := S.st
      obtain ⟨v, hv, ho⟩ := E.own
      obtain ⟨ao', m', c', rfl⟩ := owns_slice ho
      have hcell := cell_of_one hv
      have hS : Hid (Got w.heap.size w (prodL L M).sum 1024 wr) := ⟨S.old, us, E, P, by have := hl.out; have := hn'.out; omega⟩
      have hv' := Lib.hid hv
      clear E P hu hv S ho
      go_wp2_with fail
      go_ret
      exact ⟨⟨_, rfl, hv'.out⟩, hS.out⟩
end Go.Proofs.Ythgpdgajmpocfaa
