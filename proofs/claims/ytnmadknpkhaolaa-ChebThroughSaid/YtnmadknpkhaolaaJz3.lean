/- Proved here: what the texts Ftw, Adj, Spr, Spa, Sadd, Adq, Sun prove, one behind the other. -/
import Derived.Test.YtnmadknpkhaolaaJz2
import Derived.Test.YtnmadknpkhaolaaJz0
import Derived.Laws.ResultCell

namespace Go.Proofs.Ytnmadknpkhaolaa
open Go.ChangeShapes Go.WideShapes Go.ChangeAt Go.RowKit Ieee.Own

/-- three results: two numbers and an error's number -/
def ffi (a b : Nat) (c : Int) : Value := .tuple #[.float .f64 a, .float .f64 b, .int .i64 c]
set_option maxRecDepth 100000 in
theorem halves_run {a c d h l : Nat} (o1 : Ieee.double.mul 4728779608772575232 a = some c) (o2 : Ieee.double.sub c a = some d) (o3 : Ieee.double.sub c d = some h) (o4 : Ieee.double.sub a h = some l) (w : World) :
    Calls Try.prog 123 #[.float .f64 a] w fun e w' => e = .returned (ff h l) ∧ w = w' := by
  have r1 := run_mul _ _ _ o1
  have r2 := run_sub _ _ _ o2
  have r3 := run_sub _ _ _ o3
  have r4 := run_sub _ _ _ o4
  clear o1 o2 o3 o4
  go_enter Try.func123, Try.ntmps123
  go_wp2
  go_ret2
  exact ⟨rfl, rfl⟩
/-- a product's results, in units: a b = N -/
structure ProdRes (a b p e : Nat) (N : Int) : Prop where
  op : Ieee.double.mul a b = some p
  fp : FinW p
  fe : FinW e
  ex : V a * V b = N * 2 ^ 1074
  vp : V p = RN N
  ve : V e = N - V p
set_option maxRecDepth 100000 in
theorem product_any {a b p q k : Nat} {A B : Int} (ha : Nr a A p) (hb : Nr b B q) (hp : p < 1900) (hq : q < 1900) (hk : p + q = k + 1074) (hk2 : k < 1700) :
    ∃ r e, ProdRes a b r e (A * B * 2 ^ k) ∧ V r = RN (A * B) * 2 ^ k ∧ V e = (A * B - RN (A * B)) * 2 ^ k ∧ (A * B - RN (A * B)).natAbs ≤ 2 ^ 53 ∧
      ∀ w, Calls Try.prog 122 #[.float .f64 a, .float .f64 b] w fun en w' => en = .returned (ff r e) ∧ w = w' := by
  obtain ⟨r, c, d, ah, al, c', d', bh, bl, m1, e1, m2, e2, m3, e3, m4, e4, o1, ⟨s1, s2, s3, s4⟩, ⟨z1, z2, z3, z4⟩, p1, p2, p3, p4, p5, p6, p7, p8, f1, f2, v1, v2, v3⟩ := times_words ha hb hp hq hk hk2
  refine ⟨r, e4, ⟨o1, f1, f2, nr_mul ha hb hk, by rw [v1, RN_scale], by rw [v2, v1, Int.sub_mul]⟩, v1, v2, v3, fun w => ?_⟩
  have H1 := fun w => halves_run s1 s2 s3 s4 w
  have H2 := fun w => halves_run z1 z2 z3 z4 w
  have q0 := run_mul _ _ _ o1
  have q1 := run_mul _ _ _ p1
  have q2 := run_sub _ _ _ p2
  have q3 := run_mul _ _ _ p3
  have q4 := run_add _ _ _ p4
  have q5 := run_mul _ _ _ p5
  have q6 := run_add _ _ _ p6
  have q7 := run_mul _ _ _ p7
  have q8 := run_add _ _ _ p8
  clear o1 s1 s2 s3 s4 z1 z2 z3 z4 p1 p2 p3 p4 p5 p6 p7 p8 f1 f2 v1 v2 v3 hp hq hk hk2 ha hb
  go_enter Try.func122, Try.ntmps122
  go_wp2_with (first | (go_at_call 123; ((with_reducible refine (H1 _).mono ?_); rintro e w' ⟨rfl, rfl⟩; unfold ff)) | (go_at_call 123; ((with_reducible refine (H2 _).mono ?_); rintro e w' ⟨rfl, rfl⟩; unfold ff)))
  go_ret2
  exact ⟨rfl, rfl⟩
set_option maxRecDepth 100000 in
theorem prod_fit (a b : Nat) (ha : a < 18446744073709551616) (hb : b < 18446744073709551616) (h1 : fitB a = true) (h2 : fitB b = true) :
    ∃ p e N Z g, ProdRes a b p e N ∧ (N = Z * 2 ^ 50 ∧ V a * V b = Z * 2 ^ 1124 ∧ ((mg 52 (a % 9223372036854775808) = 0 ∨ mg 52 (b % 9223372036854775808) = 0) ∨ ex 52 (a % 9223372036854775808) + ex 52 (b % 9223372036854775808) = g + 1124 ∧ g < 1408)) ∧ ((2 : Int) ^ 500 ∣ V p ∧ (2 : Int) ^ 500 ∣ V e ∧ ∃ K, K ≤ 1490 ∧ (V p).natAbs ≤ 2 ^ K ∧ (V e).natAbs ≤ 2 ^ K) ∧
      ∀ w, Calls Try.prog 121 #[.float .f64 a, .float .f64 b] w fun en w' => en = .returned (ffi p e 0) ∧ w = w' := by
  obtain ⟨A, i, na, i1, i2⟩ := fit_nr ha h1
  obtain ⟨B, j, nb, j1, j2⟩ := fit_nr hb h2
  obtain ⟨k, hk⟩ : ∃ k, i + j = k + 1074 := ⟨i + j - 1074, by omega⟩
  obtain ⟨p, e, R, v1, v2, v3, C⟩ := product_any na nb (by omega) (by omega) hk (by omega)
  have bAB : (RN (A * B)).natAbs ≤ 2 ^ 107 := RN_bound (Nat.le_trans (abs_mul_le (Nat.le_of_lt na.hi) (Nat.le_of_lt nb.hi)) (by decide))
  have hZ := unit_parts na nb hk (by omega)
  have hg := ex_parts na nb (by omega) (by omega) hk (by omega) (by omega)
  refine ⟨p, e, _, A * B * 2 ^ (k - 50), k - 50, R, ⟨hZ.1, hZ.2, hg⟩, ⟨?_, ?_, 107 + k, by omega, ?_, ?_⟩, fun w => ?_⟩
  clear hZ hg
  · rw [v1]; exact Int.dvd_trans (pow_dvd (show 500 ≤ k by omega)) (Int.dvd_mul_left _ _)
  · rw [v2]; exact Int.dvd_trans (pow_dvd (show 500 ≤ k by omega)) (Int.dvd_mul_left _ _)
  · rw [v1]; exact scale_le bAB
  · rw [v2]; exact scale_le (abs_up (l := 107) v3 (by decide))
  have C1 := fun w => fit_any a ha w
  have C2 := fun w => fit_any b hb w
  rw [h1] at C1
  rw [h2] at C2
  clear R v1 v2 v3 bAB na nb hk ha hb h1 h2 i1 i2 j1 j2
  go_enter Try.func121, Try.ntmps121
  go_wp2_with (first | (go_at_call 66; ((with_reducible refine (C1 _).mono ?_); rintro e w' ⟨rfl, rfl⟩)) | (go_at_call 66; ((with_reducible refine (C2 _).mono ?_); rintro e w' ⟨rfl, rfl⟩)) | (go_at_call 122; ((with_reducible refine (C _).mono ?_); rintro e w' ⟨rfl, rfl⟩; unfold ff)))
  go_ret3
  exact ⟨rfl, rfl⟩
/-! ### quotients -/
/-! ### roots -/
end Go.Proofs.Ytnmadknpkhaolaa

namespace Go.Proofs.Ytnmadknpkhaolaa
open Ieee.Own

/-! ### the order of words, and neighbours -/
theorem V_lt_key {a b : Nat} (ha : FinW a) (hb : FinW b) : V a < V b ↔ key64 a < key64 b := by
  have a1 := ha.1
  have b1 := hb.1
  unfold V key64
  by_cases h1 : a < 9223372036854775808 <;> by_cases h2 : b < 9223372036854775808
  · rw [if_pos h1, if_pos h1, if_pos h2, if_pos h2]
    have := val_lt_iff 52 a b
    omega
  · rw [if_pos h1, if_pos h1, if_neg h2, if_neg h2]; omega
  · rw [if_neg h1, if_neg h1, if_pos h2, if_pos h2]
    have x := val_zero_iff 52 (a - 9223372036854775808)
    have y := val_zero_iff 52 b
    omega
  · rw [if_neg h1, if_neg h1, if_neg h2, if_neg h2]
    have := val_lt_iff 52 (b - 9223372036854775808) (a - 9223372036854775808)
    omega

/-! ### an exact result, told by a sign: c v is above 0 for v below it, below 0 for v above it -/
/-- a word that lies next to the exact result: no other word between -/
structure Adj (c : Int → Int) (s : Nat) : Prop where
  fin : FinW s
  bd : (V s).natAbs ≤ 2 ^ 1500
  lo : ∀ u, FinW u → V u < V s → 0 < c (V u)
  hi : ∀ u, FinW u → V s < V u → c (V u) < 0
/-- the greatest word not above -/
structure Dn (c : Int → Int) (w : Nat) : Prop where
  fin : FinW w
  le : 0 ≤ c (V w)
  top : ∀ u, FinW u → 0 ≤ c (V u) → V u ≤ V w
/-- the least word not below -/
structure Up (c : Int → Int) (w : Nat) : Prop where
  fin : FinW w
  ge : c (V w) ≤ 0
  low : ∀ u, FinW u → c (V u) ≤ 0 → V w ≤ V u
theorem Dn.uniq {c : Int → Int} {w x : Nat} (h : Dn c w) (k : Dn c x) : V w = V x := by
  have := h.top x k.fin k.le
  have := k.top w h.fin h.le
  omega
theorem Up.uniq {c : Int → Int} {w x : Nat} (h : Up c w) (k : Up c x) : V w = V x := by
  have := h.low x k.fin k.ge
  have := k.low w h.fin h.ge
  omega

/-! ### the four: sums and products -/
end Go.Proofs.Ytnmadknpkhaolaa

namespace Go.Proofs.Ytnmadknpkhaolaa
open Go.ChangeShapes Go.WideShapes Go.ChangeAt Go.RowKit Ieee.Own

/-! ### comparisons of words by their values -/
theorem fin_nn {a : Nat} (h : FinW a) : nn a := by have := h.2; unfold nn; omega
theorem lt_words {a b : Nat} (ha : FinW a) (hb : FinW b) : (FloatKind.f64.format.order a b == some Ordering.lt) = decide (V a < V b) := by
  rw [o_lss a b ha.1 hb.1, decide_eq_decide]
  have := V_lt_key ha hb
  exact ⟨fun h => this.2 h.2.2, fun h => ⟨fin_nn ha, fin_nn hb, this.1 h⟩⟩
theorem gt_words {a b : Nat} (ha : FinW a) (hb : FinW b) : (FloatKind.f64.format.order a b == some Ordering.gt) = decide (V b < V a) := by
  rw [o_gtr a b ha.1 hb.1, decide_eq_decide]
  have := V_lt_key hb ha
  exact ⟨fun h => this.2 h.2.2, fun h => ⟨fin_nn ha, fin_nn hb, this.1 h⟩⟩
theorem le_words {a b : Nat} (ha : FinW a) (hb : FinW b) : (FloatKind.f64.format.order a b == some Ordering.lt || FloatKind.f64.format.order a b == some Ordering.eq) = decide (V a ≤ V b) := by
  rw [o_leq a b ha.1 hb.1, decide_eq_decide]
  have := V_lt_key hb ha
  exact ⟨fun h => Int.not_lt.1 fun h' => by have := this.1 h'; omega, fun h => ⟨fin_nn ha, fin_nn hb, Int.not_lt.1 fun h' => by have := this.2 h'; omega⟩⟩
theorem ge_words {a b : Nat} (ha : FinW a) (hb : FinW b) : (FloatKind.f64.format.order a b == some Ordering.gt || FloatKind.f64.format.order a b == some Ordering.eq) = decide (V b ≤ V a) := by
  rw [o_geq a b ha.1 hb.1, decide_eq_decide]
  have := V_lt_key ha hb
  exact ⟨fun h => Int.not_lt.1 fun h' => by have := this.1 h'; omega, fun h => ⟨fin_nn ha, fin_nn hb, Int.not_lt.1 fun h' => by have := this.2 h'; omega⟩⟩
theorem zero_fin : FinW 0 := ⟨by omega, by omega⟩
theorem V_zero : V 0 = 0 := by decide +kernel

/-! ### outwards -/
def leastV : Int := V 3706462493325918208
def mostV : Int := V 5507902344274116608
theorem leastV_pos : 0 < leastV := by decide +kernel
theorem least_fin : FinW 3706462493325918208 := ⟨by omega, by omega⟩
theorem nleast_fin : FinW 12929834530180694016 := ⟨by omega, by omega⟩
theorem nleast_V : V 12929834530180694016 = -leastV := by decide +kernel
def lowW (x : Nat) : Nat := if 0 ≤ V x ∧ V x < leastV then 0 else if V x < 0 ∧ -leastV < V x then 12929834530180694016 else x
def highW (x : Nat) : Nat := if V x ≤ 0 ∧ -leastV < V x then 0 else if 0 < V x ∧ V x < leastV then 3706462493325918208 else x
theorem lowW_fin {x : Nat} (h : FinW x) : FinW (lowW x) := by
  unfold lowW; split
  · exact zero_fin
  · split
    · exact nleast_fin
    · exact h
theorem highW_fin {x : Nat} (h : FinW x) : FinW (highW x) := by
  unfold highW; split
  · exact zero_fin
  · split
    · exact least_fin
    · exact h
/-- equal numbers, equal ends -/
theorem lowW_congr {x y : Nat} (hx : FinW x) (hy : FinW y) (h : V x = V y) : lowW x = lowW y := by
  unfold lowW
  rw [h]
  by_cases c1 : 0 ≤ V y ∧ V y < leastV
  · rw [if_pos c1, if_pos c1]
  · rw [if_neg c1, if_neg c1]
    by_cases c2 : V y < 0 ∧ -leastV < V y
    · rw [if_pos c2, if_pos c2]
    · rw [if_neg c2, if_neg c2]
      exact V_inj hx hy h (by have := leastV_pos; omega)
theorem highW_congr {x y : Nat} (hx : FinW x) (hy : FinW y) (h : V x = V y) : highW x = highW y := by
  unfold highW
  rw [h]
  by_cases c1 : V y ≤ 0 ∧ -leastV < V y
  · rw [if_pos c1, if_pos c1]
  · rw [if_neg c1, if_neg c1]
    by_cases c2 : 0 < V y ∧ V y < leastV
    · rw [if_pos c2, if_pos c2]
    · rw [if_neg c2, if_neg c2]
      exact V_inj hx hy h (by have := leastV_pos; omega)

theorem fin_top {b : Nat} (h : FinW b) : (V b).natAbs < 2 ^ 2098 := by
  rw [V_abs' b h, ← top64']
  exact (val_lt_iff 52 _ _).2 h.2
/-- a span and an error's number -/
def spanE (lo hi : Nat) (c : Int) : Value := .tuple #[.agg #[.float .f64 lo, .float .f64 hi], .int .i64 c]
def toldE (lo hi : Nat) : Value := if V (lowW lo) < -mostV ∨ mostV < V (highW hi) then spanE 0 0 3 else spanE (lowW lo) (highW hi) 0
theorem toldE_congr {a b c d : Nat} (ha : FinW a) (hb : FinW b) (hc : FinW c) (hd : FinW d) (h : V a = V b) (k : V c = V d) : toldE a c = toldE b d := by
  unfold toldE; rw [lowW_congr ha hb h, highW_congr hc hd k]

set_option maxRecDepth 100000 in
theorem fstore (a : Addr) (b : Nat) (m : Mode) (x : World) : (store a (.float .f64 b) m).run Try.prog x = stored Try.prog x a (.float .f64 b) m := run_store _ x a _ m rfl
/-! ### what is wrong with a span -/
def errS (a b : Nat) : Int := if fitB a = true ∧ fitB b = true then (if V b < V a then 5 else 0) else 3
def spanV (a b : Nat) : Value := .agg #[.float .f64 a, .float .f64 b]
end Go.Proofs.Ytnmadknpkhaolaa

namespace Go.Proofs.Ytnmadknpkhaolaa
open Go.ChangeShapes Go.WideShapes Go.ChangeAt Go.RowKit Ieee.Own

/-! ### blocks that the call made first, and what became of them -/
def boxO (a b : Nat) : Obj := .cells #[.float .f64 a, .float .f64 b] 60 (0, 0)
structure Blocks (w : World) (os : List Obj) (wr : World) : Prop where
  old : Below w.heap.size w wr
  more : w.heap.size + os.length ≤ wr.heap.size
  at_ : ∀ j o, os[j]? = some o → wr.heap[w.heap.size + j]? = some o
theorem Blocks.nil (w : World) : Blocks w [] w := ⟨Below.refl _ w, by simp, by intro j o h; simp at h⟩
theorem Blocks.alloc {w wr : World} {os : List Obj} (S : Blocks w os wr) (h : wr.heap.size = w.heap.size + os.length) (o : Obj) : Blocks w (os ++ [o]) (wr.alloc o) := by
  refine ⟨S.old.alloc (by omega) o, by simp; omega, fun j p hj => ?_⟩
  by_cases hl : j < os.length
  · rw [heap_alloc_old wr o (by omega)]
    rw [List.getElem?_append_left hl] at hj
    exact S.at_ j p hj
  · have hj' : j = os.length := by
      have := (List.getElem?_eq_some_iff.1 hj).1
      simp at this
      omega
    subst hj'
    rw [← h, heap_alloc_new]
    simpa using hj
theorem Blocks.on {w wr w' : World} {os : List Obj} (S : Blocks w os wr) (h : Below wr.heap.size wr w') : Blocks w os w' := by
  refine ⟨S.old.trans (h.mono S.old.size), Nat.le_trans S.more h.size, fun j o hj => ?_⟩
  have hl := (List.getElem?_eq_some_iff.1 hj).1
  have := S.more
  rw [h.block _ (by omega)]
  exact S.at_ j o hj
theorem Blocks.cell {w wr : World} {os : List Obj} (S : Blocks w os wr) (j : Nat) {cs : Array Value} {t : TypeId} {fr : Nat × Nat} (h : os[j]? = some (.cells cs t fr)) (i k : Nat) (hk : k = w.heap.size + j) : wr.cell? ⟨k, i, none⟩ = cs[i]? := by
  subst hk
  exact cell_of_row wr _ i cs t fr (S.at_ j _ h)
theorem Blocks.free {w wr : World} {os : List Obj} (S : Blocks w os wr) (j : Nat) {cs : Array Value} {t : TypeId} (h : os[j]? = some (.cells cs t (0, 0))) (i k : Nat) (hk : k = w.heap.size + j) : wr.frozen? ⟨k, i, none⟩ = false := by
  subst hk
  exact frozen_of_row wr _ i cs t (S.at_ j _ h)

def errSS (a1 a2 b1 b2 : Nat) : Int := if errS a1 a2 ≠ 0 then errS a1 a2 else errS b1 b2
end Go.Proofs.Ytnmadknpkhaolaa

namespace Go.Proofs.Ytnmadknpkhaolaa
open Go.ChangeShapes Go.WideShapes Go.ChangeAt Go.RowKit Ieee.Own

theorem errS_zero {a b : Nat} (h : errS a b = 0) : fitB a = true ∧ fitB b = true ∧ V a ≤ V b := by
  unfold errS at h
  by_cases c : fitB a = true ∧ fitB b = true
  · rw [if_pos c] at h
    by_cases d : V b < V a
    · rw [if_pos d] at h; omega
    · exact ⟨c.1, c.2, by omega⟩
  · rw [if_neg c] at h; omega
theorem errSS_zero {a1 a2 b1 b2 : Nat} (h : errSS a1 a2 b1 b2 = 0) : errS a1 a2 = 0 ∧ errS b1 b2 = 0 := by
  unfold errSS at h
  by_cases c : errS a1 a2 = 0
  · rw [if_neg (by simpa using c)] at h; exact ⟨c, h⟩
  · rw [if_pos c] at h; exact absurd h c
/-- what an operation on spans is to answer: an error, or the ends next to the exact ones, outwards -/
def OpIs (er : Int) (c d : Int → Int) (e : Ending) : Prop := (er = 0 → ∃ lo hi, e = .returned (toldE lo hi) ∧ Dn c lo ∧ Up d hi) ∧ (er ≠ 0 → e = .returned (spanE 0 0 er))
def zeroO : Obj := .cells #[.float .f64 0, .float .f64 0] 60 (0, 0)
end Go.Proofs.Ytnmadknpkhaolaa

namespace Go.Proofs.Ytnmadknpkhaolaa
open Ieee.Own

/-! ### ends next to the exact ones, by the rest -/
end Go.Proofs.Ytnmadknpkhaolaa

namespace Go.Proofs.Ytnmadknpkhaolaa
open Go.ChangeShapes Go.WideShapes Go.ChangeAt Go.RowKit Ieee.Own

/-! ### Neg -/
/-! ### Root -/
/-! ### Sub -/
theorem errSS_of {a1 a2 b1 b2 : Nat} (h : errS a1 a2 = 0) (k : errS b1 b2 = 0) : errSS a1 a2 b1 b2 = 0 := by unfold errSS; rw [if_neg (by simpa using h), k]
/-! ### Square -/
end Go.Proofs.Ytnmadknpkhaolaa
