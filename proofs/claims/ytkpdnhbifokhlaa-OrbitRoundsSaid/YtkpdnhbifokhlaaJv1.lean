/- Proved here: what the texts Vck, Vsc prove, one behind the other. -/
import Derived.Test.YtkpdnhbifokhlaaJb6
import Derived.Test.YtkpdnhbifokhlaaJb3
import Derived.Test.YtkpdnhbifokhlaaJr
import Derived.Test.YtkpdnhbifokhlaaJp

namespace Go.Proofs.Ytkpdnhbifokhlaa
open Go.ChangeShapes Go.WideShapes Go.ChangeAt Go.RowKit Ieee.Own

/-- may the word be a vector's number? -/
def vnB (x : Nat) : Bool := decide (fitB x = true ∧ x % 9223372036854775808 ≤ 4877398396442247168)
theorem vnB_spec {x : Nat} (hx : x < 18446744073709551616) (h : vnB x = true) : FinW x ∧ fitB x = true ∧ (V x).natAbs ≤ 2 ^ 1134 := by
  unfold vnB at h
  rw [decide_eq_true_eq] at h
  have f := fit_fin hx h.1
  refine ⟨f, h.1, ?_⟩
  rw [V_abs' x f]
  have e : val 52 4877398396442247168 = 2 ^ 1134 := by decide +kernel
  rw [← e]
  by_cases q : x % 9223372036854775808 = 4877398396442247168
  · rw [q]; exact Nat.le_refl _
  · exact Nat.le_of_lt (val_lt (by omega))

set_option maxRecDepth 100000 in
theorem vwithin_run (x : Nat) (hx : x < 18446744073709551616) (w : World) :
    Calls Try.prog 109 #[.float .f64 x] w fun e w' => e = .returned (.bool (vnB x)) ∧ w = w' := by
  have CF := fun w => fit_any x hx w
  have CA := fun w => abs_any x hx w
  have g := o_leq (x % 9223372036854775808) 4877398396442247168 (by omega) (by omega)
  by_cases h1 : fitB x = true
  · have fn := fit_fin hx h1
    have m := fn.2
    rw [key_low (by omega), key_low (by omega)] at g
    rw [h1] at CF
    by_cases h2 : x % 9223372036854775808 ≤ 4877398396442247168
    · have e : vnB x = true := by unfold vnB; rw [decide_eq_true_eq]; exact ⟨h1, h2⟩
      rw [e]
      rw [decide_eq_true (by unfold nn; omega)] at g
      clear hx h1 fn m h2 e
      generalize x % 9223372036854775808 = y at *
      go_enter Try.func109, Try.ntmps109
      go_wp2_with (first | (go_at_call 60; ((with_reducible refine (CF _).mono ?_); rintro e w' ⟨rfl, rfl⟩)) | (go_at_call 20; ((with_reducible refine (CA _).mono ?_); rintro e w' ⟨rfl, rfl⟩)))
      go_ret
      exact ⟨rfl, rfl⟩
    · have e : vnB x = false := by unfold vnB; rw [decide_eq_false_iff_not]; exact fun h => h2 h.2
      rw [e]
      rw [decide_eq_false (by omega)] at g
      clear hx h1 fn m h2 e
      generalize x % 9223372036854775808 = y at *
      go_enter Try.func109, Try.ntmps109
      go_wp2_with (first | (go_at_call 60; ((with_reducible refine (CF _).mono ?_); rintro e w' ⟨rfl, rfl⟩)) | (go_at_call 20; ((with_reducible refine (CA _).mono ?_); rintro e w' ⟨rfl, rfl⟩)))
      go_ret
      exact ⟨rfl, rfl⟩
  · have e : vnB x = false := by unfold vnB; rw [decide_eq_false_iff_not]; exact fun h => h1 h.1
    rw [Bool.not_eq_true] at h1
    rw [h1] at CF
    rw [e]
    clear hx h1 e g
    go_enter Try.func109, Try.ntmps109
    go_wp2_with (first | (go_at_call 60; ((with_reducible refine (CF _).mono ?_); rintro e w' ⟨rfl, rfl⟩)) | (go_at_call 20; ((with_reducible refine (CA _).mono ?_); rintro e w' ⟨rfl, rfl⟩)))
    go_ret
    exact ⟨rfl, rfl⟩
/-! ### brought to fit ones -/
def bW (x : Nat) : Nat := if fitB x = false ∧ x % 9223372036854775808 < 4607182418800017408 then 0 else aX x 0
theorem plus0 {x : Nat} (h : FinW x) : Ieee.double.add x 0 = some (aX x 0) ∧ FinW (aX x 0) ∧ V (aX x 0) = V x := by
  have e : V x + V 0 = V x := by rw [V_zero]; omega
  have R : RN (V x + V 0) = V x := by rw [e]; exact RN_exact (Rep_V x)
  obtain ⟨r, h1, h2, h3⟩ := add_spec h zero_fin (by rw [R]; exact fin_top h)
  have er : aX x 0 = r := by unfold aX; rw [h1]; rfl
  rw [er]
  rw [R] at h3
  exact ⟨h1, h2, h3⟩
theorem bW_spec {x : Nat} (h : FinW x) : FinW (bW x) ∧ (V (bW x) = V x ∨ (bW x = 0 ∧ fitB x = false ∧ x % 9223372036854775808 < 4607182418800017408)) := by
  unfold bW
  split
  · rename_i c; exact ⟨zero_fin, .inr ⟨rfl, c⟩⟩
  · exact ⟨(plus0 h).2.1, .inl (plus0 h).2.2⟩
set_option maxRecDepth 100000 in
theorem brought_run (x : Nat) (hx : FinW x) (w : World) :
    Calls Try.prog 110 #[.float .f64 x] w fun e w' => e = .returned (.float .f64 (bW x)) ∧ w = w' := by
  have CF := fun w => fit_any x hx.1 w
  have CA := fun w => abs_any x hx.1 w
  have P := run_add _ _ _ (plus0 hx).1
  have m := hx.2
  have g := o_lss (x % 9223372036854775808) 4607182418800017408 (by omega) (by omega)
  rw [key_low (by omega), key_low (by omega)] at g
  unfold bW
  generalize aX x 0 = z at *
  by_cases c1 : x % 9223372036854775808 < 4607182418800017408
  · rw [decide_eq_true (by unfold nn; omega)] at g
    cases c2 : fitB x
    · rw [if_pos ⟨rfl, c1⟩]
      rw [c2] at CF
      clear hx P m c1 c2
      generalize x % 9223372036854775808 = y at *
      go_enter Try.func110, Try.ntmps110
      go_wp2_with (first | (go_at_call 60; ((with_reducible refine (CF _).mono ?_); rintro e w' ⟨rfl, rfl⟩)) | (go_at_call 20; ((with_reducible refine (CA _).mono ?_); rintro e w' ⟨rfl, rfl⟩)))
      go_ret
      exact ⟨rfl, rfl⟩
    · rw [if_neg (fun h => by cases h.1)]
      rw [c2] at CF
      clear hx m c1 c2
      generalize x % 9223372036854775808 = y at *
      go_enter Try.func110, Try.ntmps110
      go_wp2_with (first | (go_at_call 60; ((with_reducible refine (CF _).mono ?_); rintro e w' ⟨rfl, rfl⟩)) | (go_at_call 20; ((with_reducible refine (CA _).mono ?_); rintro e w' ⟨rfl, rfl⟩)))
      go_ret
      exact ⟨rfl, rfl⟩
  · rw [decide_eq_false (by omega)] at g
    rw [if_neg (fun h => c1 h.2)]
    clear hx m c1
    generalize x % 9223372036854775808 = y at *
    go_enter Try.func110, Try.ntmps110
    go_wp2_with (first | (go_at_call 60; ((with_reducible refine (CF _).mono ?_); rintro e w' ⟨rfl, rfl⟩)) | (go_at_call 20; ((with_reducible refine (CA _).mono ?_); rintro e w' ⟨rfl, rfl⟩)))
    go_ret
    exact ⟨rfl, rfl⟩
/-! ### the product of two vectors -/
abbrev V3 := Nat × Nat × Nat
def vecV (p : V3) : Value := .agg #[.float .f64 p.1, .float .f64 p.2.1, .float .f64 p.2.2]
def fitV (p : V3) : Bool := vnB p.1 && vnB p.2.1 && vnB p.2.2
structure W3 (p : V3) : Prop where
  l1 : p.1 < 18446744073709551616
  l2 : p.2.1 < 18446744073709551616
  l3 : p.2.2 < 18446744073709551616
def dW (a b : V3) : Nat := aX (aX (mX a.1 b.1) (mX a.2.1 b.2.1)) (mX a.2.2 b.2.2)
structure Bd (p : V3) (k : Nat) : Prop where
  f1 : FinW p.1
  f2 : FinW p.2.1
  f3 : FinW p.2.2
  b1 : (V p.1).natAbs ≤ 2 ^ k
  b2 : (V p.2.1).natAbs ≤ 2 ^ k
  b3 : (V p.2.2).natAbs ≤ 2 ^ k
theorem fitV_bd {p : V3} (h : W3 p) (f : fitV p = true) : Bd p 1134 := by
  unfold fitV at f
  simp only [Bool.and_eq_true] at f
  obtain ⟨a1, -, b1⟩ := vnB_spec h.l1 f.1.1
  obtain ⟨a2, -, b2⟩ := vnB_spec h.l2 f.1.2
  obtain ⟨a3, -, b3⟩ := vnB_spec h.l3 f.2
  exact ⟨a1, a2, a3, b1, b2, b3⟩
theorem mul_ok {a b i k : Nat} (ha : FinW a) (hb : FinW b) (xa : (V a).natAbs ≤ 2 ^ i) (xb : (V b).natAbs ≤ 2 ^ i) (e : i + i = k + 1074) (h2 : k < 2000) :
    Ieee.double.mul a b = some (mX a b) ∧ FinW (mX a b) ∧ V (mX a b) = RZ (V a * V b) ∧ (V (mX a b)).natAbs ≤ 2 ^ k := by
  obtain ⟨r, q1, q2, q3, q4⟩ := mulB ha hb xa xb e (by omega)
  have er : mX a b = r := by unfold mX; rw [q1]; rfl
  rw [er]
  exact ⟨q1, q2, q3, q4⟩
theorem add_ok {a b i k : Nat} (ha : FinW a) (hb : FinW b) (xa : (V a).natAbs ≤ 2 ^ i) (xb : (V b).natAbs ≤ 2 ^ i) (e : k = i + 1) (h2 : i < 2000) :
    Ieee.double.add a b = some (aX a b) ∧ FinW (aX a b) ∧ V (aX a b) = RN (V a + V b) ∧ (V (aX a b)).natAbs ≤ 2 ^ k := by
  subst e
  obtain ⟨r, q1, q2, q3, q4⟩ := addW ha hb xa xb h2
  have er : aX a b = r := by unfold aX; rw [q1]; rfl
  rw [er]
  exact ⟨q1, q2, q3, q4⟩
theorem sub_ok {a b i k : Nat} (ha : FinW a) (hb : FinW b) (xa : (V a).natAbs ≤ 2 ^ i) (xb : (V b).natAbs ≤ 2 ^ i) (e : k = i + 1) (h2 : i < 2000) :
    Ieee.double.sub a b = some (lX a b) ∧ FinW (lX a b) ∧ V (lX a b) = RN (V a - V b) ∧ (V (lX a b)).natAbs ≤ 2 ^ k := by
  subst e
  obtain ⟨r, q1, q2, q3, q4⟩ := subW ha hb xa xb h2
  have er : lX a b = r := by unfold lX; rw [q1]; rfl
  rw [er]
  exact ⟨q1, q2, q3, q4⟩
/-- every operation of the product answers -/
structure DotOk (a b : V3) : Prop where
  m1 : Ieee.double.mul a.1 b.1 = some (mX a.1 b.1)
  m2 : Ieee.double.mul a.2.1 b.2.1 = some (mX a.2.1 b.2.1)
  m3 : Ieee.double.mul a.2.2 b.2.2 = some (mX a.2.2 b.2.2)
  s1 : Ieee.double.add (mX a.1 b.1) (mX a.2.1 b.2.1) = some (aX (mX a.1 b.1) (mX a.2.1 b.2.1))
  s2 : Ieee.double.add (aX (mX a.1 b.1) (mX a.2.1 b.2.1)) (mX a.2.2 b.2.2) = some (dW a b)
  fin : FinW (dW a b)
  bd : (V (dW a b)).natAbs ≤ 2 ^ 1196
  v1 : V (mX a.1 b.1) = RZ (V a.1 * V b.1)
  v2 : V (mX a.2.1 b.2.1) = RZ (V a.2.1 * V b.2.1)
  v3 : V (mX a.2.2 b.2.2) = RZ (V a.2.2 * V b.2.2)
  t1 : V (aX (mX a.1 b.1) (mX a.2.1 b.2.1)) = RN (V (mX a.1 b.1) + V (mX a.2.1 b.2.1))
  t2 : V (dW a b) = RN (V (aX (mX a.1 b.1) (mX a.2.1 b.2.1)) + V (mX a.2.2 b.2.2))
theorem dot_ok {a b : V3} (ha : Bd a 1134) (hb : Bd b 1134) : DotOk a b := by
  obtain ⟨m1, f1, v1, b1⟩ := mul_ok ha.f1 hb.f1 ha.b1 hb.b1 (k := 1194) (by omega) (by omega)
  obtain ⟨m2, f2, v2, b2⟩ := mul_ok ha.f2 hb.f2 ha.b2 hb.b2 (k := 1194) (by omega) (by omega)
  obtain ⟨m3, f3, v3, b3⟩ := mul_ok ha.f3 hb.f3 ha.b3 hb.b3 (k := 1194) (by omega) (by omega)
  obtain ⟨s1, g1, t1, c1⟩ := add_ok f1 f2 b1 b2 (k := 1195) rfl (by omega)
  obtain ⟨s2, g2, t2, c2⟩ := add_ok g1 f3 c1 (abs_up (k := 1194) (l := 1195) b3 (by omega)) (k := 1196) rfl (by omega)
  exact ⟨m1, m2, m3, s1, s2, g2, c2, v1, v2, v3, t1, t2⟩
end Go.Proofs.Ytkpdnhbifokhlaa

namespace Go.Proofs.Ytkpdnhbifokhlaa
open Go.ChangeShapes Go.WideShapes Go.ChangeAt Go.RowKit Ieee.Own

def vecE (p : V3) (k : Int) : Value := .tuple #[vecV p, .int .i64 k]
def z3 : V3 := (0, 0, 0)
set_option maxHeartbeats 4000000 in
set_option maxRecDepth 100000 in
theorem vfit_run {p : V3} (h : W3 p) (w : World) : Calls Try.prog 92 #[vecV p] w fun e w' => e = .returned (.bool (fitV p)) ∧ Below w.heap.size w w' := by
  have C1 := fun w => vwithin_run p.1 h.l1 w
  have C2 := fun w => vwithin_run p.2.1 h.l2 w
  have C3 := fun w => vwithin_run p.2.2 h.l3 w
  clear h
  unfold fitV vecV
  generalize vnB p.1 = x at *
  generalize vnB p.2.1 = y at *
  generalize vnB p.2.2 = z at *
  cases x <;> cases y <;> cases z <;> (
    go_enter Try.func92, Try.ntmps92
    go_wp2_with (first | (go_at_call 109; ((with_reducible refine (C1 _).mono ?_); rintro e w' ⟨rfl, rfl⟩)) | (go_at_call 109; ((with_reducible refine (C2 _).mono ?_); rintro e w' ⟨rfl, rfl⟩)) | (go_at_call 109; ((with_reducible refine (C3 _).mono ?_); rintro e w' ⟨rfl, rfl⟩)))
    go_ret
    exact ⟨rfl, (Below.refl _ w).alloc (Nat.le_refl _) _⟩)
set_option maxHeartbeats 4000000 in
set_option maxRecDepth 100000 in
theorem vprod_run {p q : V3} (D : DotOk p q) (w : World) : Calls Try.prog 111 #[vecV p, vecV q] w fun e w' => e = .returned (.float .f64 (dW p q)) ∧ Below w.heap.size w w' := by
  have r1 := run_mul _ _ _ D.m1
  have r2 := run_mul _ _ _ D.m2
  have r3 := run_mul _ _ _ D.m3
  have r4 := run_add _ _ _ D.s1
  have r5 := run_add _ _ _ D.s2
  clear D
  generalize dW p q = z at *
  obtain ⟨a1, a2, a3⟩ := p
  obtain ⟨b1, b2, b3⟩ := q
  unfold vecV at *
  dsimp only at *
  generalize aX (mX a1 b1) (mX a2 b2) = y at *
  generalize mX a1 b1 = x1 at *
  generalize mX a2 b2 = x2 at *
  generalize mX a3 b3 = x3 at *
  go_enter Try.func111, Try.ntmps111
  go_wp2_with fail
  go_ret
  exact ⟨rfl, ((Below.refl _ w).alloc (Nat.le_refl _) _).alloc (by simp) _⟩
/-! ### answers -/
def bV (p : V3) : V3 := (bW p.1, bW p.2.1, bW p.2.2)
def toldR (p : V3) : V3 × Int := if fitV (bV p) = true then (bV p, 0) else (z3, 3)
structure F3 (p : V3) : Prop where
  f1 : FinW p.1
  f2 : FinW p.2.1
  f3 : FinW p.2.2
theorem Bd.fin {p : V3} {k : Nat} (h : Bd p k) : F3 p := ⟨h.f1, h.f2, h.f3⟩
theorem F3.w {p : V3} (h : F3 p) : W3 p := ⟨h.f1.1, h.f2.1, h.f3.1⟩
theorem F3.b {p : V3} (h : F3 p) : F3 (bV p) := ⟨(bW_spec h.f1).1, (bW_spec h.f2).1, (bW_spec h.f3).1⟩
set_option maxHeartbeats 4000000 in
set_option maxRecDepth 100000 in
theorem vtold_run {p : V3} (h : F3 p) (w : World) : Calls Try.prog 93 #[vecV p] w fun e w' => e = .returned (vecE (toldR p).1 (toldR p).2) ∧ Below w.heap.size w w' := by
  have C1 := fun w => brought_run p.1 h.f1 w
  have C2 := fun w => brought_run p.2.1 h.f2 w
  have C3 := fun w => brought_run p.2.2 h.f3 w
  have C4 := Lib.hid (fun w => vfit_run h.b.w w)
  clear h
  unfold toldR vecE bV at *
  obtain ⟨a1, a2, a3⟩ := p
  dsimp only at *
  generalize bW a1 = b1 at *
  generalize bW a2 = b2 at *
  generalize bW a3 = b3 at *
  unfold vecV at *
  dsimp only at *
  generalize fitV (b1, b2, b3) = x at *
  have hR1 : x = true → (if x = true then ((b1, b2, b3), (0 : Int)) else (z3, 3)) = ((b1, b2, b3), 0) := fun h => if_pos h
  have hR0 : x = false → (if x = true then ((b1, b2, b3), (0 : Int)) else (z3, 3)) = (z3, 3) := fun h => if_neg (by rw [h]; decide)
  generalize (if x = true then ((b1, b2, b3), (0 : Int)) else (z3, 3)) = R at *
  obtain ⟨⟨q1, q2, q3⟩, k⟩ := R
  unfold z3 at hR0
  simp only [Prod.mk.injEq] at hR0 hR1
  dsimp only at *
  replace hR0 := Lib.hid hR0
  replace hR1 := Lib.hid hR1
  have K0 := kw2 w 33 33 [a1, a2, a3] [0, 0, 0]
  simp only [objW, List.map_cons, List.map_nil] at K0
  have hst := @fstore
  replace K0 := Lib.hid K0
  go_enter Try.func93, Try.ntmps93
  go_upto_region 1 with fail
  have K := K0.out.more
  simp only [List.cons_append, List.nil_append] at K
  clear K0
  generalize (w.alloc _).alloc _ = wr at *
  generalize hds : ([some 5, some 6, some 7, some 8, some 9, some 10, some 11, some 12, some 13, some 14, some 4, none] : List (Option Tmp)) = ds
  have hap : apartL ds = true := by rw [← hds]; decide
  replace hds := hds.symm
  refine wp_region_k (fun hf => [some (w.heap.size, [a1, a2, a3]), some (w.heap.size + 1, [0, 0, 0]), some (hf 10, [b1, b2, b3])]) (fun hf => [some (.pointer (some ⟨w.heap.size, 0, none⟩)), some (.float .f64 a1), some (.float .f64 b1), some (.pointer (some ⟨w.heap.size, 1, none⟩)), some (.float .f64 a2), some (.float .f64 b2), some (.pointer (some ⟨w.heap.size, 2, none⟩)), some (.float .f64 a3), some (.float .f64 b3), some (.agg #[.float .f64 b1, .float .f64 b2, .float .f64 b3]), some (ptrV (hf 10)), some (undef)]) [⟨10, 2, 33, [0, 0, 0]⟩] [⟨11, 2, 0, [b1, b2, b3]⟩] [.pointer (some ⟨w.heap.size, 0, none⟩), .float .f64 a1, .float .f64 b1, .pointer (some ⟨w.heap.size, 1, none⟩), .float .f64 a2, .float .f64 b2, .pointer (some ⟨w.heap.size, 2, none⟩), .float .f64 a3, .float .f64 b3, .agg #[.float .f64 b1, .float .f64 b2, .float .f64 b3], undef, undef] ds (by kernel_rfl) (by rw [hds]; rfl) hap (by decide +kernel) (by decide +kernel) K ?ha ?haj ?hai ?hsi ?hss ?hsa ?hsw ?htg ?hE2 ?hE3 ?hE4 ?hL1 ?hL2 ?hL3 ?alloc ?step ?store ?fin
  case ha => intro al hal; simp only [List.mem_cons, List.not_mem_nil, or_false] at hal; rcases hal with rfl <;> rfl
  case haj => intro al hal al' hal' e; simp only [List.mem_cons, List.not_mem_nil, or_false] at hal; rcases hal with rfl <;> (simp only [List.mem_cons, List.not_mem_nil, or_false] at hal'; rcases hal' with rfl) <;> first | rfl | (exfalso; revert e; simp)
  case hai => intro al hal; simp only [List.mem_cons, List.not_mem_nil, or_false] at hal; rcases hal with rfl <;> decide
  case hsi => intro st hst st' hst' e; simp only [List.mem_cons, List.not_mem_nil, or_false] at hst; rcases hst with rfl <;> (simp only [List.mem_cons, List.not_mem_nil, or_false] at hst'; rcases hst' with rfl) <;> first | rfl | (exfalso; revert e; simp)
  case hss =>
    intro st hst
    simp only [List.mem_cons, List.not_mem_nil, or_false] at hst; rcases hst with rfl
    · show 11 < 12; decide
  case hsa =>
    intro st hst al hal
    simp only [List.mem_cons, List.not_mem_nil, or_false] at hst; rcases hst with rfl
    · simp only [List.mem_cons, List.not_mem_nil, or_false] at hal; rcases hal with rfl
      · exact (show ¬ (11 = 10) by decide)
  case hsw =>
    intro st hst al hal e
    simp only [List.mem_cons, List.not_mem_nil, or_false] at hst; rcases hst with rfl
    · simp only [List.mem_cons, List.not_mem_nil, or_false] at hal; rcases hal with rfl
      · change waitsAt _ 11 10 = true; decide +kernel
  case htg =>
    intro st hst
    simp only [List.mem_cons, List.not_mem_nil, or_false] at hst; rcases hst with rfl
    · exact .inr ⟨_, List.mem_cons_self .., rfl, show 0 + 3 ≤ 3 by decide⟩
  case hE2 =>
    intro hf j h1 h2
    have n2 : 2 ≠ j := h1 _ (List.mem_cons_self ..)
    rcases j with _ | _ | _ | j
    · rfl
    · rfl
    · exact absurd rfl n2
    · rfl
  case hE3 =>
    intro hf st hst g us e
    simp only [List.mem_cons, List.not_mem_nil, or_false] at hst; rcases hst with rfl
    · simp at e
  case hE4 =>
    intro hf al hal
    simp only [List.mem_cons, List.not_mem_nil, or_false] at hal; rcases hal with rfl
    · refine ⟨fun st hst e => ?_, fun h => absurd rfl (h _ (List.mem_cons_self ..))⟩
      simp only [List.mem_cons, List.not_mem_nil, or_false] at hst; rcases hst with rfl
      · rfl
  case hL1 => intro hf; rfl
  case hL2 =>
    intro hf i hi hna
    have hi : i < 12 := hi
    have : i = 0 ∨ i = 1 ∨ i = 2 ∨ i = 3 ∨ i = 4 ∨ i = 5 ∨ i = 6 ∨ i = 7 ∨ i = 8 ∨ i = 9 ∨ i = 10 ∨ i = 11 := by omega
    rcases this with rfl | rfl | rfl | rfl | rfl | rfl | rfl | rfl | rfl | rfl | rfl | rfl
    · rfl
    · rfl
    · rfl
    · rfl
    · rfl
    · rfl
    · rfl
    · rfl
    · rfl
    · rfl
    · exact absurd rfl (hna _ (List.mem_cons_self ..))
    · rfl
  case hL3 => intro hf al hal; simp only [List.mem_cons, List.not_mem_nil, or_false] at hal; rcases hal with rfl <;> rfl
  case alloc =>
    intro al hal o ρ W ho
    simp only [List.mem_cons, List.not_mem_nil, or_false] at hal; rcases hal with rfl
    · obtain rfl := Option.some.inj ho; unfold execOp ptrV objW; simp only [List.map_cons, List.map_nil]; go_simp
  case step =>
    intro L W i o ho hs ha hd hB
    have hi : i < 12 := (Array.getElem?_eq_some_iff.1 ho).1
    have : i = 0 ∨ i = 1 ∨ i = 2 ∨ i = 3 ∨ i = 4 ∨ i = 5 ∨ i = 6 ∨ i = 7 ∨ i = 8 ∨ i = 9 ∨ i = 10 ∨ i = 11 := by omega
    rcases this with rfl | rfl | rfl | rfl | rfl | rfl | rfl | rfl | rfl | rfl | rfl | rfl
    · -- 0
      obtain rfl := Option.some.inj ho
      refine .value W ?_ (Below.refl _ _)
      generalize hA : (puts ds L _).eval = ρ
      have hc : ∀ v, ρ (.const v) = v := fun v => by rw [← hA]; rfl
      have hg : ∀ g, ρ (.func g) = .func (.func g) #[] #[] := fun v => by rw [← hA]; rfl
      have h0 : ρ (.tmp 1) = .pointer (some ⟨w.heap.size, 0, none⟩) := by rw [← hA]; exact (puts_old ds L _ (by rw [hds]; decide)).trans rfl
      clear hA hd hB ho hs ha
      unfold execOp
      go_simp
    · -- 1
      obtain rfl := Option.some.inj ho
      have b := hB 0 _ _ rfl (by
        intro st hst e
        simp only [List.mem_cons, List.not_mem_nil, or_false] at hst; rcases hst with rfl
        · exact absurd e (show ¬ 2 = 0 by decide))
      have c0 := b.at_ 0 _ rfl
      clear b
      refine .value W ?_ (Below.refl _ _)
      generalize hA : (puts ds L _).eval = ρ
      have hc : ∀ v, ρ (.const v) = v := fun v => by rw [← hA]; rfl
      have hg : ∀ g, ρ (.func g) = .func (.func g) #[] #[] := fun v => by rw [← hA]; rfl
      have h0 : ρ (.tmp 5) = .pointer (some ⟨w.heap.size, 0, none⟩) := by rw [← hA]; exact puts_get 0 ds L _ hap (by rw [hds]; rfl) (hd 0 (by decide +kernel) (by intro al hal; simp only [List.mem_cons, List.not_mem_nil, or_false] at hal; rcases hal with rfl <;> decide)) (show 5 < 20 by decide)
      clear hA hd hB ho hs ha
      unfold execOp
      go_simp
    · -- 2
      obtain rfl := Option.some.inj ho
      refine .call 110 #[.float .f64 a1] ?_ ((C1 W).mono fun e w2 h => ⟨h.1, h.2 ▸ Below.refl _ _⟩)
      generalize hA : (puts ds L _).eval = ρ
      have hc : ∀ v, ρ (.const v) = v := fun v => by rw [← hA]; rfl
      have hg : ∀ g, ρ (.func g) = .func (.func g) #[] #[] := fun v => by rw [← hA]; rfl
      have h0 : ρ (.tmp 6) = .float .f64 a1 := by rw [← hA]; exact puts_get 1 ds L _ hap (by rw [hds]; rfl) (hd 1 (by decide +kernel) (by intro al hal; simp only [List.mem_cons, List.not_mem_nil, or_false] at hal; rcases hal with rfl <;> decide)) (show 6 < 20 by decide)
      have hf := Try.func110
      unfold execOp
      go_simp
    · -- 3
      obtain rfl := Option.some.inj ho
      refine .value W ?_ (Below.refl _ _)
      generalize hA : (puts ds L _).eval = ρ
      have hc : ∀ v, ρ (.const v) = v := fun v => by rw [← hA]; rfl
      have hg : ∀ g, ρ (.func g) = .func (.func g) #[] #[] := fun v => by rw [← hA]; rfl
      have h0 : ρ (.tmp 1) = .pointer (some ⟨w.heap.size, 0, none⟩) := by rw [← hA]; exact (puts_old ds L _ (by rw [hds]; decide)).trans rfl
      clear hA hd hB ho hs ha
      unfold execOp
      go_simp
    · -- 4
      obtain rfl := Option.some.inj ho
      have b := hB 0 _ _ rfl (by
        intro st hst e
        simp only [List.mem_cons, List.not_mem_nil, or_false] at hst; rcases hst with rfl
        · exact absurd e (show ¬ 2 = 0 by decide))
      have c1 := b.at_ 1 _ rfl
      clear b
      refine .value W ?_ (Below.refl _ _)
      generalize hA : (puts ds L _).eval = ρ
      have hc : ∀ v, ρ (.const v) = v := fun v => by rw [← hA]; rfl
      have hg : ∀ g, ρ (.func g) = .func (.func g) #[] #[] := fun v => by rw [← hA]; rfl
      have h0 : ρ (.tmp 8) = .pointer (some ⟨w.heap.size, 1, none⟩) := by rw [← hA]; exact puts_get 3 ds L _ hap (by rw [hds]; rfl) (hd 3 (by decide +kernel) (by intro al hal; simp only [List.mem_cons, List.not_mem_nil, or_false] at hal; rcases hal with rfl <;> decide)) (show 8 < 20 by decide)
      clear hA hd hB ho hs ha
      unfold execOp
      go_simp
    · -- 5
      obtain rfl := Option.some.inj ho
      refine .call 110 #[.float .f64 a2] ?_ ((C2 W).mono fun e w2 h => ⟨h.1, h.2 ▸ Below.refl _ _⟩)
      generalize hA : (puts ds L _).eval = ρ
      have hc : ∀ v, ρ (.const v) = v := fun v => by rw [← hA]; rfl
      have hg : ∀ g, ρ (.func g) = .func (.func g) #[] #[] := fun v => by rw [← hA]; rfl
      have h0 : ρ (.tmp 9) = .float .f64 a2 := by rw [← hA]; exact puts_get 4 ds L _ hap (by rw [hds]; rfl) (hd 4 (by decide +kernel) (by intro al hal; simp only [List.mem_cons, List.not_mem_nil, or_false] at hal; rcases hal with rfl <;> decide)) (show 9 < 20 by decide)
      have hf := Try.func110
      unfold execOp
      go_simp
    · -- 6
      obtain rfl := Option.some.inj ho
      refine .value W ?_ (Below.refl _ _)
      generalize hA : (puts ds L _).eval = ρ
      have hc : ∀ v, ρ (.const v) = v := fun v => by rw [← hA]; rfl
      have hg : ∀ g, ρ (.func g) = .func (.func g) #[] #[] := fun v => by rw [← hA]; rfl
      have h0 : ρ (.tmp 1) = .pointer (some ⟨w.heap.size, 0, none⟩) := by rw [← hA]; exact (puts_old ds L _ (by rw [hds]; decide)).trans rfl
      clear hA hd hB ho hs ha
      unfold execOp
      go_simp
    · -- 7
      obtain rfl := Option.some.inj ho
      have b := hB 0 _ _ rfl (by
        intro st hst e
        simp only [List.mem_cons, List.not_mem_nil, or_false] at hst; rcases hst with rfl
        · exact absurd e (show ¬ 2 = 0 by decide))
      have c2 := b.at_ 2 _ rfl
      clear b
      refine .value W ?_ (Below.refl _ _)
      generalize hA : (puts ds L _).eval = ρ
      have hc : ∀ v, ρ (.const v) = v := fun v => by rw [← hA]; rfl
      have hg : ∀ g, ρ (.func g) = .func (.func g) #[] #[] := fun v => by rw [← hA]; rfl
      have h0 : ρ (.tmp 11) = .pointer (some ⟨w.heap.size, 2, none⟩) := by rw [← hA]; exact puts_get 6 ds L _ hap (by rw [hds]; rfl) (hd 6 (by decide +kernel) (by intro al hal; simp only [List.mem_cons, List.not_mem_nil, or_false] at hal; rcases hal with rfl <;> decide)) (show 11 < 20 by decide)
      clear hA hd hB ho hs ha
      unfold execOp
      go_simp
    · -- 8
      obtain rfl := Option.some.inj ho
      refine .call 110 #[.float .f64 a3] ?_ ((C3 W).mono fun e w2 h => ⟨h.1, h.2 ▸ Below.refl _ _⟩)
      generalize hA : (puts ds L _).eval = ρ
      have hc : ∀ v, ρ (.const v) = v := fun v => by rw [← hA]; rfl
      have hg : ∀ g, ρ (.func g) = .func (.func g) #[] #[] := fun v => by rw [← hA]; rfl
      have h0 : ρ (.tmp 12) = .float .f64 a3 := by rw [← hA]; exact puts_get 7 ds L _ hap (by rw [hds]; rfl) (hd 7 (by decide +kernel) (by intro al hal; simp only [List.mem_cons, List.not_mem_nil, or_false] at hal; rcases hal with rfl <;> decide)) (show 12 < 20 by decide)
      have hf := Try.func110
      unfold execOp
      go_simp
    · -- 9
      obtain rfl := Option.some.inj ho
      refine .value W ?_ (Below.refl _ _)
      generalize hA : (puts ds L _).eval = ρ
      have hc : ∀ v, ρ (.const v) = v := fun v => by rw [← hA]; rfl
      have hg : ∀ g, ρ (.func g) = .func (.func g) #[] #[] := fun v => by rw [← hA]; rfl
      have h0 : ρ (.tmp 7) = .float .f64 b1 := by rw [← hA]; exact puts_get 2 ds L _ hap (by rw [hds]; rfl) (hd 2 (by decide +kernel) (by intro al hal; simp only [List.mem_cons, List.not_mem_nil, or_false] at hal; rcases hal with rfl <;> decide)) (show 7 < 20 by decide)
      have h1 : ρ (.tmp 10) = .float .f64 b2 := by rw [← hA]; exact puts_get 5 ds L _ hap (by rw [hds]; rfl) (hd 5 (by decide +kernel) (by intro al hal; simp only [List.mem_cons, List.not_mem_nil, or_false] at hal; rcases hal with rfl <;> decide)) (show 10 < 20 by decide)
      have h2 : ρ (.tmp 13) = .float .f64 b3 := by rw [← hA]; exact puts_get 8 ds L _ hap (by rw [hds]; rfl) (hd 8 (by decide +kernel) (by intro al hal; simp only [List.mem_cons, List.not_mem_nil, or_false] at hal; rcases hal with rfl <;> decide)) (show 13 < 20 by decide)
      clear hA hd hB ho hs ha
      unfold execOp
      go_simp
    · -- 10
      exact absurd rfl (ha _ (List.mem_cons_self ..))
    · -- 11
      exact absurd rfl (hs _ (List.mem_cons_self ..))
  case store =>
    intro st hst L W o h us ho hd hal hC b
    simp only [List.mem_cons, List.not_mem_nil, or_false] at hst; rcases hst with rfl
    · dsimp only at ho hd hal hC b ⊢
      obtain rfl := Option.some.inj ho
      obtain ⟨hl, rfl⟩ := hal _ (List.mem_cons_self ..) rfl
      have c0 := b.at_ 0 _ rfl
      have f0 := b.fr 0 _ rfl
      have c1 := b.at_ 1 _ rfl
      have f1 := b.fr 1 _ rfl
      have c2 := b.at_ 2 _ rfl
      have f2 := b.fr 2 _ rfl
      refine ⟨?_, rfl⟩
      generalize hA : (puts ds L _).eval = ρ
      have h0 : ρ (.tmp 4) = .pointer (some ⟨h, 0, none⟩) := by rw [← hA]; exact puts_get 10 ds L _ hap (by rw [hds]; rfl) hl (show 4 < 20 by decide)
      have h1 : ρ (.tmp 14) = .agg #[.float .f64 b1, .float .f64 b2, .float .f64 b3] := by rw [← hA]; exact puts_get 9 ds L _ hap (by rw [hds]; rfl) (hd 9 (by decide +kernel) (by intro al hal; simp only [List.mem_cons, List.not_mem_nil, or_false] at hal; rcases hal with rfl <;> decide)) (show 14 < 20 by decide)
      have hst' := @fstore
      clear hA hd b ho hal hC
      simp only [putW]
      unfold execOp
      go_simp
  case fin =>
    intro hf W5 K
    rw [hds]
    clear hds hap ds C1 C2 C3
    (try dsimp only at K)
    generalize hf 10 = g at *
    (try unfold ptrV)
    simp only [List.set_cons_zero, List.set_cons_succ, puts, Act.put, List.setIfInBounds_toArray]
    have g0 := (K.blk 2 _ _ rfl).1
    cases x
    · obtain ⟨⟨rfl, rfl, rfl⟩, rfl⟩ := hR0.out rfl
      clear hR0 hR1
      have c2_0 := (K.at_ 2 rfl).at_ 0 _ rfl
      have c2_1 := (K.at_ 2 rfl).at_ 1 _ rfl
      have c2_2 := (K.at_ 2 rfl).at_ 2 _ rfl
      replace K := Lib.hid K
      go_wp2_with fail
      replace K := K.out
      refine (C4.out W5).mono ?_
      rintro _ v1 ⟨rfl, hb⟩
      clear c2_0 c2_1 c2_2
      replace K := K.on hb
      clear hb
      have c1_0 := (K.at_ 1 rfl).at_ 0 _ rfl
      have f1_0 := (K.at_ 1 rfl).fr 0 _ rfl
      have c1_1 := (K.at_ 1 rfl).at_ 1 _ rfl
      have f1_1 := (K.at_ 1 rfl).fr 1 _ rfl
      have c1_2 := (K.at_ 1 rfl).at_ 2 _ rfl
      have f1_2 := (K.at_ 1 rfl).fr 2 _ rfl
      have c2_0 := (K.at_ 2 rfl).at_ 0 _ rfl
      have c2_1 := (K.at_ 2 rfl).at_ 1 _ rfl
      have c2_2 := (K.at_ 2 rfl).at_ 2 _ rfl
      replace K := Lib.hid K
      go_wp2_with fail
      replace K := K.out
      (try simp only [Exit.vnBlock, Exit.then])
      refine bodyPost_ret (v := .tuple #[.agg #[.float .f64 0, .float .f64 0, .float .f64 0], .int .i64 3]) ?_ rfl ⟨rfl, ?_⟩
      · rw [results_cell_tmp rfl]; go_simp
      · exact (((K.old).setCell (by first | exact Nat.le_refl _ | (dsimp only; omega)) _).setCell (by first | exact Nat.le_refl _ | (dsimp only; omega)) _).setCell (by first | exact Nat.le_refl _ | (dsimp only; omega)) _
    · obtain ⟨⟨rfl, rfl, rfl⟩, rfl⟩ := hR1.out rfl
      clear hR0 hR1
      have c2_0 := (K.at_ 2 rfl).at_ 0 _ rfl
      have c2_1 := (K.at_ 2 rfl).at_ 1 _ rfl
      have c2_2 := (K.at_ 2 rfl).at_ 2 _ rfl
      replace K := Lib.hid K
      go_wp2_with fail
      replace K := K.out
      refine (C4.out W5).mono ?_
      rintro _ v1 ⟨rfl, hb⟩
      clear c2_0 c2_1 c2_2
      replace K := K.on hb
      clear hb
      have c1_0 := (K.at_ 1 rfl).at_ 0 _ rfl
      have f1_0 := (K.at_ 1 rfl).fr 0 _ rfl
      have c1_1 := (K.at_ 1 rfl).at_ 1 _ rfl
      have f1_1 := (K.at_ 1 rfl).fr 1 _ rfl
      have c1_2 := (K.at_ 1 rfl).at_ 2 _ rfl
      have f1_2 := (K.at_ 1 rfl).fr 2 _ rfl
      have c2_0 := (K.at_ 2 rfl).at_ 0 _ rfl
      have c2_1 := (K.at_ 2 rfl).at_ 1 _ rfl
      have c2_2 := (K.at_ 2 rfl).at_ 2 _ rfl
      replace K := Lib.hid K
      go_wp2_with fail
      replace K := K.out
      (try simp only [Exit.vnBlock, Exit.then])
      refine bodyPost_ret (v := .tuple #[.agg #[.float .f64 q1, .float .f64 q2, .float .f64 q3], .int .i64 0]) ?_ rfl ⟨rfl, ?_⟩
      · rw [results_cell_tmp rfl]; go_simp
      · exact (((K.old).setCell (by first | exact Nat.le_refl _ | (dsimp only; omega)) _).setCell (by first | exact Nat.le_refl _ | (dsimp only; omega)) _).setCell (by first | exact Nat.le_refl _ | (dsimp only; omega)) _
end Go.Proofs.Ytkpdnhbifokhlaa
