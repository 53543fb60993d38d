/- Proved here: what the texts Vck, Vsc, Vop, Vnm, Vlw, Vei, Vun, Vma, Vmb, Vmc, Vmd, Vme, Vmf, Vmg prove, one behind the other. -/
import Derived.Test.YtdfcchocabapkaaGreatJb6
import Derived.Test.YtdfcchocabapkaaGreatJb3
import Derived.Test.YtdfcchocabapkaaGreatJr
import Derived.Test.YtdfcchocabapkaaGreatJp
import Derived.Test.YtdfcchocabapkaaGreatJb2
import Derived.Test.YtdfcchocabapkaaGreatJb5
import Derived.LoopN

set_option maxRecDepth 100000
set_option maxHeartbeats 4000000
namespace Go.Proofs.YtdfcchocabapkaaGreat
open Go.ChangeShapes Go.WideShapes Go.ChangeAt Go.RowKit Ieee.Own

def vnB (x : Nat) : Bool := decide (fitB x = true ∧ x % 9223372036854775808 ≤ 4877398396442247168)
theorem vnB_spec {x : Nat} (hx : x < 18446744073709551616) (h : vnB x = true) : FinW x ∧ fitB x = true ∧ (V x).natAbs ≤ 2 ^ 1134 := by
 unfold vnB at h
 rw [decide_eq_true_eq] at h
 have f := fit_fin hx h.1
 refine ⟨f, h.1, ?_⟩
 rw [V_abs' x f]
 have e : val 52 4877398396442247168 = 2 ^ 1134 := by decide +kernel
 rw [← e]
 by_cases q : x % 9223372036854775808 = 4877398396442247168
 · rw [q]; exact Nat.le_refl _
 · exact Nat.le_of_lt (val_lt (by omega))

theorem vwithin_run (x : Nat) (hx : x < 18446744073709551616) (w : World) :
 Calls Tryz.prog 177 #[.float .f64 x] w fun e w' => e = .returned (.bool (vnB x)) ∧ w = w' := by
 have CF := fun w => fit_any x hx w
 have CA := fun w => abs_any x hx w
 have g := o_leq (x % 9223372036854775808) 4877398396442247168 (by omega) (by omega)
 by_cases h1 : fitB x = true
 · have fn := fit_fin hx h1
   have m := fn.2
   rw [key_low (by omega), key_low (by omega)] at g
   rw [h1] at CF
   by_cases h2 : x % 9223372036854775808 ≤ 4877398396442247168
   · have e : vnB x = true := by unfold vnB; rw [decide_eq_true_eq]; exact ⟨h1, h2⟩
     rw [e]
     rw [decide_eq_true (by unfold nn; omega)] at g
     clear hx h1 fn m h2 e
     generalize x % 9223372036854775808 = y at *
     go_enter Tryz.func177, Tryz.ntmps177
     go_wp2_with (first | (go_at_call 51; ((with_reducible refine (CF _).mono ?_); rintro e w' ⟨rfl, rfl⟩)) | (go_at_call 101; ((with_reducible refine (CA _).mono ?_); rintro e w' ⟨rfl, rfl⟩)))
     go_ret
     exact ⟨rfl, rfl⟩
   · have e : vnB x = false := by unfold vnB; rw [decide_eq_false_iff_not]; exact fun h => h2 h.2
     rw [e]
     rw [decide_eq_false (by omega)] at g
     clear hx h1 fn m h2 e
     generalize x % 9223372036854775808 = y at *
     go_enter Tryz.func177, Tryz.ntmps177
     go_wp2_with (first | (go_at_call 51; ((with_reducible refine (CF _).mono ?_); rintro e w' ⟨rfl, rfl⟩)) | (go_at_call 101; ((with_reducible refine (CA _).mono ?_); rintro e w' ⟨rfl, rfl⟩)))
     go_ret
     exact ⟨rfl, rfl⟩
 · have e : vnB x = false := by unfold vnB; rw [decide_eq_false_iff_not]; exact fun h => h1 h.1
   rw [Bool.not_eq_true] at h1
   rw [h1] at CF
   rw [e]
   clear hx h1 e g
   go_enter Tryz.func177, Tryz.ntmps177
   go_wp2_with (first | (go_at_call 51; ((with_reducible refine (CF _).mono ?_); rintro e w' ⟨rfl, rfl⟩)) | (go_at_call 101; ((with_reducible refine (CA _).mono ?_); rintro e w' ⟨rfl, rfl⟩)))
   go_ret
   exact ⟨rfl, rfl⟩
def bW (x : Nat) : Nat := if fitB x = false ∧ x % 9223372036854775808 < 4607182418800017408 then 0 else aX x 0
theorem plus0 {x : Nat} (h : FinW x) : Ieee.double.add x 0 = some (aX x 0) ∧ FinW (aX x 0) ∧ V (aX x 0) = V x := by
 have e : V x + V 0 = V x := by rw [V_zero]; omega
 have R : RN (V x + V 0) = V x := by rw [e]; exact RN_exact (Rep_V x)
 obtain ⟨r, h1, h2, h3⟩ := add_spec h zero_fin (by rw [R]; exact fin_top h)
 have er : aX x 0 = r := by unfold aX; rw [h1]; rfl
 rw [er]
 rw [R] at h3
 exact ⟨h1, h2, h3⟩
theorem bW_spec {x : Nat} (h : FinW x) : FinW (bW x) ∧ (V (bW x) = V x ∨ (bW x = 0 ∧ fitB x = false ∧ x % 9223372036854775808 < 4607182418800017408)) := by
 unfold bW
 split
 · rename_i c; exact ⟨zero_fin, .inr ⟨rfl, c⟩⟩
 · exact ⟨(plus0 h).2.1, .inl (plus0 h).2.2⟩
theorem brought_run (x : Nat) (hx : FinW x) (w : World) :
 Calls Tryz.prog 178 #[.float .f64 x] w fun e w' => e = .returned (.float .f64 (bW x)) ∧ w = w' := by
 have CF := fun w => fit_any x hx.1 w
 have CA := fun w => abs_any x hx.1 w
 have P := run_add _ _ _ (plus0 hx).1
 have m := hx.2
 have g := o_lss (x % 9223372036854775808) 4607182418800017408 (by omega) (by omega)
 rw [key_low (by omega), key_low (by omega)] at g
 unfold bW
 generalize aX x 0 = z at *
 by_cases c1 : x % 9223372036854775808 < 4607182418800017408
 · rw [decide_eq_true (by unfold nn; omega)] at g
   cases c2 : fitB x
   · rw [if_pos ⟨rfl, c1⟩]
     rw [c2] at CF
     clear hx P m c1 c2
     generalize x % 9223372036854775808 = y at *
     go_enter Tryz.func178, Tryz.ntmps178
     go_wp2_with (first | (go_at_call 51; ((with_reducible refine (CF _).mono ?_); rintro e w' ⟨rfl, rfl⟩)) | (go_at_call 101; ((with_reducible refine (CA _).mono ?_); rintro e w' ⟨rfl, rfl⟩)))
     go_ret
     exact ⟨rfl, rfl⟩
   · rw [if_neg (fun h => by cases h.1)]
     rw [c2] at CF
     clear hx m c1 c2
     generalize x % 9223372036854775808 = y at *
     go_enter Tryz.func178, Tryz.ntmps178
     go_wp2_with (first | (go_at_call 51; ((with_reducible refine (CF _).mono ?_); rintro e w' ⟨rfl, rfl⟩)) | (go_at_call 101; ((with_reducible refine (CA _).mono ?_); rintro e w' ⟨rfl, rfl⟩)))
     go_ret
     exact ⟨rfl, rfl⟩
 · rw [decide_eq_false (by omega)] at g
   rw [if_neg (fun h => c1 h.2)]
   clear hx m c1
   generalize x % 9223372036854775808 = y at *
   go_enter Tryz.func178, Tryz.ntmps178
   go_wp2_with (first | (go_at_call 51; ((with_reducible refine (CF _).mono ?_); rintro e w' ⟨rfl, rfl⟩)) | (go_at_call 101; ((with_reducible refine (CA _).mono ?_); rintro e w' ⟨rfl, rfl⟩)))
   go_ret
   exact ⟨rfl, rfl⟩
abbrev V3 := Nat × Nat × Nat
def vecV (p : V3) : Value := .agg #[.float .f64 p.1, .float .f64 p.2.1, .float .f64 p.2.2]
def fitV (p : V3) : Bool := vnB p.1 && vnB p.2.1 && vnB p.2.2
structure W3 (p : V3) : Prop where
 l1 : p.1 < 18446744073709551616
 l2 : p.2.1 < 18446744073709551616
 l3 : p.2.2 < 18446744073709551616
def dW (a b : V3) : Nat := aX (aX (mX a.1 b.1) (mX a.2.1 b.2.1)) (mX a.2.2 b.2.2)
structure Bd (p : V3) (k : Nat) : Prop where
 f1 : FinW p.1
 f2 : FinW p.2.1
 f3 : FinW p.2.2
 b1 : (V p.1).natAbs ≤ 2 ^ k
 b2 : (V p.2.1).natAbs ≤ 2 ^ k
 b3 : (V p.2.2).natAbs ≤ 2 ^ k
theorem fitV_bd {p : V3} (h : W3 p) (f : fitV p = true) : Bd p 1134 := by
 unfold fitV at f
 simp only [Bool.and_eq_true] at f
 obtain ⟨a1, -, b1⟩ := vnB_spec h.l1 f.1.1
 obtain ⟨a2, -, b2⟩ := vnB_spec h.l2 f.1.2
 obtain ⟨a3, -, b3⟩ := vnB_spec h.l3 f.2
 exact ⟨a1, a2, a3, b1, b2, b3⟩
theorem mul_ok {a b i k : Nat} (ha : FinW a) (hb : FinW b) (xa : (V a).natAbs ≤ 2 ^ i) (xb : (V b).natAbs ≤ 2 ^ i) (e : i + i = k + 1074) (h2 : k < 2000) :
 Ieee.double.mul a b = some (mX a b) ∧ FinW (mX a b) ∧ V (mX a b) = RZ (V a * V b) ∧ (V (mX a b)).natAbs ≤ 2 ^ k := by
 obtain ⟨r, q1, q2, q3, q4⟩ := mulB ha hb xa xb e (by omega)
 have er : mX a b = r := by unfold mX; rw [q1]; rfl
 rw [er]
 exact ⟨q1, q2, q3, q4⟩
theorem add_ok {a b i k : Nat} (ha : FinW a) (hb : FinW b) (xa : (V a).natAbs ≤ 2 ^ i) (xb : (V b).natAbs ≤ 2 ^ i) (e : k = i + 1) (h2 : i < 2000) :
 Ieee.double.add a b = some (aX a b) ∧ FinW (aX a b) ∧ V (aX a b) = RN (V a + V b) ∧ (V (aX a b)).natAbs ≤ 2 ^ k := by
 subst e
 obtain ⟨r, q1, q2, q3, q4⟩ := addW ha hb xa xb h2
 have er : aX a b = r := by unfold aX; rw [q1]; rfl
 rw [er]
 exact ⟨q1, q2, q3, q4⟩
theorem sub_ok {a b i k : Nat} (ha : FinW a) (hb : FinW b) (xa : (V a).natAbs ≤ 2 ^ i) (xb : (V b).natAbs ≤ 2 ^ i) (e : k = i + 1) (h2 : i < 2000) :
 Ieee.double.sub a b = some (lX a b) ∧ FinW (lX a b) ∧ V (lX a b) = RN (V a - V b) ∧ (V (lX a b)).natAbs ≤ 2 ^ k := by
 subst e
 obtain ⟨r, q1, q2, q3, q4⟩ := subW ha hb xa xb h2
 have er : lX a b = r := by unfold lX; rw [q1]; rfl
 rw [er]
 exact ⟨q1, q2, q3, q4⟩
structure DotOk (a b : V3) : Prop where
 m1 : Ieee.double.mul a.1 b.1 = some (mX a.1 b.1)
 m2 : Ieee.double.mul a.2.1 b.2.1 = some (mX a.2.1 b.2.1)
 m3 : Ieee.double.mul a.2.2 b.2.2 = some (mX a.2.2 b.2.2)
 s1 : Ieee.double.add (mX a.1 b.1) (mX a.2.1 b.2.1) = some (aX (mX a.1 b.1) (mX a.2.1 b.2.1))
 s2 : Ieee.double.add (aX (mX a.1 b.1) (mX a.2.1 b.2.1)) (mX a.2.2 b.2.2) = some (dW a b)
 fin : FinW (dW a b)
 bd : (V (dW a b)).natAbs ≤ 2 ^ 1196
 v1 : V (mX a.1 b.1) = RZ (V a.1 * V b.1)
 v2 : V (mX a.2.1 b.2.1) = RZ (V a.2.1 * V b.2.1)
 v3 : V (mX a.2.2 b.2.2) = RZ (V a.2.2 * V b.2.2)
 t1 : V (aX (mX a.1 b.1) (mX a.2.1 b.2.1)) = RN (V (mX a.1 b.1) + V (mX a.2.1 b.2.1))
 t2 : V (dW a b) = RN (V (aX (mX a.1 b.1) (mX a.2.1 b.2.1)) + V (mX a.2.2 b.2.2))
theorem dot_ok {a b : V3} (ha : Bd a 1134) (hb : Bd b 1134) : DotOk a b := by
 obtain ⟨m1, f1, v1, b1⟩ := mul_ok ha.f1 hb.f1 ha.b1 hb.b1 (k := 1194) (by omega) (by omega)
 obtain ⟨m2, f2, v2, b2⟩ := mul_ok ha.f2 hb.f2 ha.b2 hb.b2 (k := 1194) (by omega) (by omega)
 obtain ⟨m3, f3, v3, b3⟩ := mul_ok ha.f3 hb.f3 ha.b3 hb.b3 (k := 1194) (by omega) (by omega)
 obtain ⟨s1, g1, t1, c1⟩ := add_ok f1 f2 b1 b2 (k := 1195) rfl (by omega)
 obtain ⟨s2, g2, t2, c2⟩ := add_ok g1 f3 c1 (abs_up (k := 1194) (l := 1195) b3 (by omega)) (k := 1196) rfl (by omega)
 exact ⟨m1, m2, m3, s1, s2, g2, c2, v1, v2, v3, t1, t2⟩

def vecE (p : V3) (k : Int) : Value := .tuple #[vecV p, .int .i64 k]
def z3 : V3 := (0, 0, 0)
theorem vfit_run {p : V3} (h : W3 p) (w : World) : Calls Tryz.prog 146 #[vecV p] w fun e w' => e = .returned (.bool (fitV p)) ∧ Below w.heap.size w w' := by
 have C1 := fun w => vwithin_run p.1 h.l1 w
 have C2 := fun w => vwithin_run p.2.1 h.l2 w
 have C3 := fun w => vwithin_run p.2.2 h.l3 w
 clear h
 unfold fitV vecV
 generalize vnB p.1 = x at *
 generalize vnB p.2.1 = y at *
 generalize vnB p.2.2 = z at *
 cases x <;> cases y <;> cases z <;> (
  go_enter Tryz.func146, Tryz.ntmps146
  go_wp2_with (first | (go_at_call 177; ((with_reducible refine (C1 _).mono ?_); rintro e w' ⟨rfl, rfl⟩)) | (go_at_call 177; ((with_reducible refine (C2 _).mono ?_); rintro e w' ⟨rfl, rfl⟩)) | (go_at_call 177; ((with_reducible refine (C3 _).mono ?_); rintro e w' ⟨rfl, rfl⟩)))
  go_ret
  exact ⟨rfl, (Below.refl _ w).alloc (Nat.le_refl _) _⟩)
theorem vprod_run {p q : V3} (D : DotOk p q) (w : World) : Calls Tryz.prog 179 #[vecV p, vecV q] w fun e w' => e = .returned (.float .f64 (dW p q)) ∧ Below w.heap.size w w' := by
 have r1 := run_mul _ _ _ D.m1
 have r2 := run_mul _ _ _ D.m2
 have r3 := run_mul _ _ _ D.m3
 have r4 := run_add _ _ _ D.s1
 have r5 := run_add _ _ _ D.s2
 clear D
 generalize dW p q = z at *
 obtain ⟨a1, a2, a3⟩ := p
 obtain ⟨b1, b2, b3⟩ := q
 unfold vecV at *
 dsimp only at *
 generalize aX (mX a1 b1) (mX a2 b2) = y at *
 generalize mX a1 b1 = x1 at *
 generalize mX a2 b2 = x2 at *
 generalize mX a3 b3 = x3 at *
 go_enter Tryz.func179, Tryz.ntmps179
 go_wp2_with fail
 go_ret
 exact ⟨rfl, ((Below.refl _ w).alloc (Nat.le_refl _) _).alloc (by simp) _⟩
def bV (p : V3) : V3 := (bW p.1, bW p.2.1, bW p.2.2)
def toldR (p : V3) : V3 × Int := if fitV (bV p) = true then (bV p, 0) else (z3, 3)
structure F3 (p : V3) : Prop where
 f1 : FinW p.1
 f2 : FinW p.2.1
 f3 : FinW p.2.2
theorem Bd.fin {p : V3} {k : Nat} (h : Bd p k) : F3 p := ⟨h.f1, h.f2, h.f3⟩
theorem F3.w {p : V3} (h : F3 p) : W3 p := ⟨h.f1.1, h.f2.1, h.f3.1⟩
theorem F3.b {p : V3} (h : F3 p) : F3 (bV p) := ⟨(bW_spec h.f1).1, (bW_spec h.f2).1, (bW_spec h.f3).1⟩
theorem vtold_run {p : V3} (h : F3 p) (w : World) : Calls Tryz.prog 147 #[vecV p] w fun e w' => e = .returned (vecE (toldR p).1 (toldR p).2) ∧ Below w.heap.size w w' := by
 have C1 := fun w => brought_run p.1 h.f1 w
 have C2 := fun w => brought_run p.2.1 h.f2 w
 have C3 := fun w => brought_run p.2.2 h.f3 w
 have C4 := Lib.hid (fun w => vfit_run h.b.w w)
 clear h
 unfold toldR vecE bV at *
 obtain ⟨a1, a2, a3⟩ := p
 dsimp only at *
 generalize bW a1 = b1 at *
 generalize bW a2 = b2 at *
 generalize bW a3 = b3 at *
 unfold vecV at *
 dsimp only at *
 generalize fitV (b1, b2, b3) = x at *
 have hR1 : x = true → (if x = true then ((b1, b2, b3), (0 : Int)) else (z3, 3)) = ((b1, b2, b3), 0) := fun h => if_pos h
 have hR0 : x = false → (if x = true then ((b1, b2, b3), (0 : Int)) else (z3, 3)) = (z3, 3) := fun h => if_neg (by rw [h]; decide)
 generalize (if x = true then ((b1, b2, b3), (0 : Int)) else (z3, 3)) = R at *
 obtain ⟨⟨q1, q2, q3⟩, k⟩ := R
 unfold z3 at hR0
 simp only [Prod.mk.injEq] at hR0 hR1
 dsimp only at *
 replace hR0 := Lib.hid hR0
 replace hR1 := Lib.hid hR1
 have K0 := kw2 w 39 39 [a1, a2, a3] [0, 0, 0]
 simp only [objW, List.map_cons, List.map_nil] at K0
 have hst := @fstore
 replace K0 := Lib.hid K0
 go_enter Tryz.func147, Tryz.ntmps147
 go_upto_region 1 with fail
 have K := K0.out.more
 simp only [List.cons_append, List.nil_append] at K
 clear K0
 generalize (w.alloc _).alloc _ = wr at *
 generalize hds : ([some 5, some 6, some 7, some 8, some 9, some 10, some 11, some 12, some 13, some 14, some 4, none] : List (Option Tmp)) = ds
 have hap : apartL ds = true := by rw [← hds]; decide
 replace hds := hds.symm
 refine wp_region_k (fun hf => [some (w.heap.size, [a1, a2, a3]), some (w.heap.size + 1, [0, 0, 0]), some (hf 10, [b1, b2, b3])]) (fun hf => [some (.pointer (some ⟨w.heap.size, 0, none⟩)), some (.float .f64 a1), some (.float .f64 b1), some (.pointer (some ⟨w.heap.size, 1, none⟩)), some (.float .f64 a2), some (.float .f64 b2), some (.pointer (some ⟨w.heap.size, 2, none⟩)), some (.float .f64 a3), some (.float .f64 b3), some (.agg #[.float .f64 b1, .float .f64 b2, .float .f64 b3]), some (ptrV (hf 10)), some (undef)]) [⟨10, 2, 39, [0, 0, 0]⟩] [⟨11, 2, 0, [b1, b2, b3]⟩] [.pointer (some ⟨w.heap.size, 0, none⟩), .float .f64 a1, .float .f64 b1, .pointer (some ⟨w.heap.size, 1, none⟩), .float .f64 a2, .float .f64 b2, .pointer (some ⟨w.heap.size, 2, none⟩), .float .f64 a3, .float .f64 b3, .agg #[.float .f64 b1, .float .f64 b2, .float .f64 b3], undef, undef] ds (by kernel_rfl) (by rw [hds]; rfl) hap (by decide +kernel) (by decide +kernel) K ?ha ?haj ?hai ?hsi ?hss ?hsa ?hsw ?htg ?hE2 ?hE3 ?hE4 ?hL1 ?hL2 ?hL3 ?alloc ?step ?store ?fin
 case ha => intro al hal; rcases List.mem_singleton.1 hal with rfl <;> rfl
 case haj => exact quq _ _ _ rfl rfl
 case hai => exact qss rfl
 case hsi => exact quq _ _ _ rfl rfl
 case hss => exact qss rfl
 case hsa => exact qsa rfl
 case hsw =>
  intro st hst al hal e
  rcases List.mem_singleton.1 hst with rfl
  · rcases List.mem_singleton.1 hal with rfl
    · change waitsAt _ 11 10 = true; decide +kernel
 case htg =>
  intro st hst
  rcases List.mem_singleton.1 hst with rfl
  · exact .inr ⟨_, qh0, rfl, show 0 + 3 ≤ 3 by decide⟩
 case hE2 =>
  intro hf j h1 h2
  have n2 : 2 ≠ j := h1 _ qh0
  rcases j with _ | _ | _ | j <;> first | rfl | exact absurd rfl n2
 case hE3 =>
  intro hf st hst g us e
  rcases List.mem_singleton.1 hst with rfl
  · simp at e
 case hE4 =>
  intro hf al hal
  rcases List.mem_singleton.1 hal with rfl
  · refine ⟨fun st hst e => ?_, fun h => absurd rfl (h _ qh0)⟩
    rcases List.mem_singleton.1 hst with rfl
    · rfl
 case hL1 => intro hf; rfl
 case hL2 =>
  intro hf i hi hna
  rcases (ql12 hi) with rfl | rfl | rfl | rfl | rfl | rfl | rfl | rfl | rfl | rfl | rfl | rfl <;> first | rfl | exact absurd rfl (hna _ qh0)
 case hL3 => intro hf al hal; rcases List.mem_singleton.1 hal with rfl <;> rfl
 case alloc =>
  intro al hal o ρ W ho
  rcases List.mem_singleton.1 hal with rfl
  · obtain rfl := qsj ho; unfold execOp ptrV objW; simp only [List.map_cons, List.map_nil]; go_simp
 case step =>
  intro L W i o ho hs ha hd hB
  rcases (ql12 (Array.getElem?_eq_some_iff.1 ho).1) with rfl | rfl | rfl | rfl | rfl | rfl | rfl | rfl | rfl | rfl | rfl | rfl
  · obtain rfl := qsj ho
    refine qvr fun ρ hA => ?_
    have hc := qrc hA
    have h0 : ρ (.tmp 1) = .pointer (some ⟨w.heap.size, 0, none⟩) := (qpn hA (by rw [hds]; decide)).trans rfl
    clear hA hd hB ho hs ha
    unfold execOp; go_simp
  · obtain rfl := qsj ho
    have b := hB 0 _ _ rfl (qns rfl)
    have c0 := b.at_ 0 _ rfl
    clear b
    refine qvr fun ρ hA => ?_
    have hc := qrc hA
    have h0 : ρ (.tmp 5) = .pointer (some ⟨w.heap.size, 0, none⟩) := qpe 0 hA hap (by rw [hds]; rfl) (hd 0 (by decide +kernel) (qne rfl)) (show 5 < 20 by decide)
    clear hA hd hB ho hs ha
    unfold execOp; go_simp
  · obtain rfl := qsj ho
    refine .call 178 #[.float .f64 a1] ?_ ((C1 W).mono fun e w2 h => ⟨h.1, h.2 ▸ Below.refl _ _⟩)
    generalize hA : (puts ds L _).eval = ρ
    have hc := qrc hA
    have hg := qrg hA
    have h0 : ρ (.tmp 6) = .float .f64 a1 := qpe 1 hA hap (by rw [hds]; rfl) (hd 1 (by decide +kernel) (qne rfl)) (show 6 < 20 by decide)
    have hf := Tryz.func178
    unfold execOp; go_simp
  · obtain rfl := qsj ho
    refine qvr fun ρ hA => ?_
    have hc := qrc hA
    have h0 : ρ (.tmp 1) = .pointer (some ⟨w.heap.size, 0, none⟩) := (qpn hA (by rw [hds]; decide)).trans rfl
    clear hA hd hB ho hs ha
    unfold execOp; go_simp
  · obtain rfl := qsj ho
    have b := hB 0 _ _ rfl (qns rfl)
    have c1 := b.at_ 1 _ rfl
    clear b
    refine qvr fun ρ hA => ?_
    have hc := qrc hA
    have h0 : ρ (.tmp 8) = .pointer (some ⟨w.heap.size, 1, none⟩) := qpe 3 hA hap (by rw [hds]; rfl) (hd 3 (by decide +kernel) (qne rfl)) (show 8 < 20 by decide)
    clear hA hd hB ho hs ha
    unfold execOp; go_simp
  · obtain rfl := qsj ho
    refine .call 178 #[.float .f64 a2] ?_ ((C2 W).mono fun e w2 h => ⟨h.1, h.2 ▸ Below.refl _ _⟩)
    generalize hA : (puts ds L _).eval = ρ
    have hc := qrc hA
    have hg := qrg hA
    have h0 : ρ (.tmp 9) = .float .f64 a2 := qpe 4 hA hap (by rw [hds]; rfl) (hd 4 (by decide +kernel) (qne rfl)) (show 9 < 20 by decide)
    have hf := Tryz.func178
    unfold execOp; go_simp
  · obtain rfl := qsj ho
    refine qvr fun ρ hA => ?_
    have hc := qrc hA
    have h0 : ρ (.tmp 1) = .pointer (some ⟨w.heap.size, 0, none⟩) := (qpn hA (by rw [hds]; decide)).trans rfl
    clear hA hd hB ho hs ha
    unfold execOp; go_simp
  · obtain rfl := qsj ho
    have b := hB 0 _ _ rfl (qns rfl)
    have c2 := b.at_ 2 _ rfl
    clear b
    refine qvr fun ρ hA => ?_
    have hc := qrc hA
    have h0 : ρ (.tmp 11) = .pointer (some ⟨w.heap.size, 2, none⟩) := qpe 6 hA hap (by rw [hds]; rfl) (hd 6 (by decide +kernel) (qne rfl)) (show 11 < 20 by decide)
    clear hA hd hB ho hs ha
    unfold execOp; go_simp
  · obtain rfl := qsj ho
    refine .call 178 #[.float .f64 a3] ?_ ((C3 W).mono fun e w2 h => ⟨h.1, h.2 ▸ Below.refl _ _⟩)
    generalize hA : (puts ds L _).eval = ρ
    have hc := qrc hA
    have hg := qrg hA
    have h0 : ρ (.tmp 12) = .float .f64 a3 := qpe 7 hA hap (by rw [hds]; rfl) (hd 7 (by decide +kernel) (qne rfl)) (show 12 < 20 by decide)
    have hf := Tryz.func178
    unfold execOp; go_simp
  · obtain rfl := qsj ho
    refine qvr fun ρ hA => ?_
    have hc := qrc hA
    have h0 : ρ (.tmp 7) = .float .f64 b1 := qpe 2 hA hap (by rw [hds]; rfl) (hd 2 (by decide +kernel) (qne rfl)) (show 7 < 20 by decide)
    have h1 : ρ (.tmp 10) = .float .f64 b2 := qpe 5 hA hap (by rw [hds]; rfl) (hd 5 (by decide +kernel) (qne rfl)) (show 10 < 20 by decide)
    have h2 : ρ (.tmp 13) = .float .f64 b3 := qpe 8 hA hap (by rw [hds]; rfl) (hd 8 (by decide +kernel) (qne rfl)) (show 13 < 20 by decide)
    clear hA hd hB ho hs ha
    unfold execOp; go_simp
  · exact absurd rfl (ha _ qh0)
  · exact absurd rfl (hs _ qh0)
 case store =>
  intro st hst L W o h us ho hd hal hC b
  rcases List.mem_singleton.1 hst with rfl
  · dsimp only at ho hd hal hC b ⊢
    obtain rfl := qsj ho
    obtain ⟨hl, rfl⟩ := hal _ qh0 rfl
    have c0 := b.at_ 0 _ rfl
    have f0 := b.fr 0 _ rfl
    have c1 := b.at_ 1 _ rfl
    have f1 := b.fr 1 _ rfl
    have c2 := b.at_ 2 _ rfl
    have f2 := b.fr 2 _ rfl
    refine ⟨?_, rfl⟩
    generalize hA : (puts ds L _).eval = ρ
    have h0 : ρ (.tmp 4) = .pointer (some ⟨h, 0, none⟩) := qpe 10 hA hap (by rw [hds]; rfl) hl (show 4 < 20 by decide)
    have h1 : ρ (.tmp 14) = .agg #[.float .f64 b1, .float .f64 b2, .float .f64 b3] := qpe 9 hA hap (by rw [hds]; rfl) (hd 9 (by decide +kernel) (qne rfl)) (show 14 < 20 by decide)
    have hst' := @fstore
    clear hA hd b ho hal hC
    simp only [putW]
    unfold execOp; go_simp
 case fin =>
  intro hf W5 K
  rw [hds]
  clear hds hap ds C1 C2 C3
  (try dsimp only at K)
  generalize hf 10 = g at *
  (try unfold ptrV)
  simp only [List.set_cons_zero, List.set_cons_succ, puts, Act.put, List.setIfInBounds_toArray]
  have g0 := (K.blk 2 _ _ rfl).1
  cases x
  · obtain ⟨⟨rfl, rfl, rfl⟩, rfl⟩ := hR0.out rfl
    clear hR0 hR1
    have c2_0 := K.ce 2 0 rfl rfl
    have c2_1 := K.ce 2 1 rfl rfl
    have c2_2 := K.ce 2 2 rfl rfl
    replace K := Lib.hid K
    go_wp2_with fail
    replace K := K.out
    refine (C4.out W5).mono ?_
    rintro _ v1 ⟨rfl, hb⟩
    clear c2_0 c2_1 c2_2
    replace K := K.on hb
    clear hb
    have c1_0 := K.ce 1 0 rfl rfl
    have f1_0 := K.fe 1 0 rfl rfl
    have c1_1 := K.ce 1 1 rfl rfl
    have f1_1 := K.fe 1 1 rfl rfl
    have c1_2 := K.ce 1 2 rfl rfl
    have f1_2 := K.fe 1 2 rfl rfl
    have c2_0 := K.ce 2 0 rfl rfl
    have c2_1 := K.ce 2 1 rfl rfl
    have c2_2 := K.ce 2 2 rfl rfl
    replace K := Lib.hid K
    go_wp2_with fail
    replace K := K.out
    (try simp only [Exit.vnBlock, Exit.then])
    refine bodyPost_ret (v := .tuple #[.agg #[.float .f64 0, .float .f64 0, .float .f64 0], .int .i64 3]) ?_ rfl ⟨rfl, ?_⟩
    · rw [results_cell_tmp rfl]; go_simp
    · exact (((K.old).setCell (by first | exact Nat.le_refl _ | (dsimp only; omega)) _).setCell (by first | exact Nat.le_refl _ | (dsimp only; omega)) _).setCell (by first | exact Nat.le_refl _ | (dsimp only; omega)) _
  · obtain ⟨⟨rfl, rfl, rfl⟩, rfl⟩ := hR1.out rfl
    clear hR0 hR1
    have c2_0 := K.ce 2 0 rfl rfl
    have c2_1 := K.ce 2 1 rfl rfl
    have c2_2 := K.ce 2 2 rfl rfl
    replace K := Lib.hid K
    go_wp2_with fail
    replace K := K.out
    refine (C4.out W5).mono ?_
    rintro _ v1 ⟨rfl, hb⟩
    clear c2_0 c2_1 c2_2
    replace K := K.on hb
    clear hb
    have c1_0 := K.ce 1 0 rfl rfl
    have f1_0 := K.fe 1 0 rfl rfl
    have c1_1 := K.ce 1 1 rfl rfl
    have f1_1 := K.fe 1 1 rfl rfl
    have c1_2 := K.ce 1 2 rfl rfl
    have f1_2 := K.fe 1 2 rfl rfl
    have c2_0 := K.ce 2 0 rfl rfl
    have c2_1 := K.ce 2 1 rfl rfl
    have c2_2 := K.ce 2 2 rfl rfl
    replace K := Lib.hid K
    go_wp2_with fail
    replace K := K.out
    (try simp only [Exit.vnBlock, Exit.then])
    refine bodyPost_ret (v := .tuple #[.agg #[.float .f64 q1, .float .f64 q2, .float .f64 q3], .int .i64 0]) ?_ rfl ⟨rfl, ?_⟩
    · rw [results_cell_tmp rfl]; go_simp
    · exact (((K.old).setCell (by first | exact Nat.le_refl _ | (dsimp only; omega)) _).setCell (by first | exact Nat.le_refl _ | (dsimp only; omega)) _).setCell (by first | exact Nat.le_refl _ | (dsimp only; omega)) _

end Go.Proofs.YtdfcchocabapkaaGreat

namespace Go.Proofs.YtdfcchocabapkaaGreat
open Ieee.Own

def rX (a : Nat) : Nat := (Ieee.double.sqrt a).getD 0
def qX (a b : Nat) : Nat := (Ieee.double.div a b).getD 0

theorem scale_nat {x y Q E : Int} {K : Nat} (hx : x = Q * 2 ^ K) (hy : y = E * 2 ^ K) {c : Nat} (h : c * (Q - E).natAbs ≤ Q.natAbs) : c * (x - y).natAbs ≤ x.natAbs := by
 rw [hx, hy, ← Int.sub_mul, Int.natAbs_mul, Int.natAbs_mul, ← Nat.mul_assoc]
 exact Nat.mul_le_mul_right _ h
theorem pow_merge (m : Int) {p k j u : Nat} (e : p + k = u + j) : m * 2 ^ p * 2 ^ k = m * 2 ^ u * 2 ^ j := by
 rw [Int.mul_assoc, ← Int.pow_add, e, Int.pow_add, ← Int.mul_assoc]
theorem prod_merge (a b : Int) {p q k : Nat} (e : p + q = k) : a * 2 ^ p * (b * 2 ^ q) = a * b * 2 ^ k := by
 subst e
 rw [Int.pow_add]
 generalize (2 : Int) ^ p = x
 generalize (2 : Int) ^ q = y
 ac_rfl
theorem sv_pos (Q K : Nat) : sv false Q K = (Q : Int) * 2 ^ K := by
 unfold sv; simp

structure Nrm (D r : Nat) : Prop where
 run : Ieee.double.sqrt D = some r
 fin : FinW r
 zero : V D = 0 → V r = 0
 pos : V D ≠ 0 → 0 < V r ∧ 2 ^ 52 * (V r * V r - V D * 2 ^ 1074).natAbs ≤ (V r * V r).natAbs ∧ ∃ m q, Norm r false m q ∧ 760 ≤ q ∧ q ≤ 1100
theorem norm_pl {b : Nat} {s : Bool} {m p i j : Nat} (h : Norm b s m p) (h1 : 2 ^ i ≤ (V b).natAbs) (h2 : (V b).natAbs ≤ 2 ^ j) (hi : 53 ≤ i) (hj : 52 ≤ j) : i - 53 ≤ p ∧ p ≤ j - 52 := by
 rw [h.val, sv_abs] at h1 h2
 constructor
 · refine Nat.le_of_not_lt fun hlt => ?_
   have a : m * 2 ^ p < 2 ^ 53 * 2 ^ p := Nat.mul_lt_mul_of_pos_right h.hi (Nat.two_pow_pos _)
   rw [← Nat.pow_add] at a
   have b := two_le (a := 53 + p) (b := i) (by omega)
   omega
 · refine Nat.le_of_not_lt fun hlt => ?_
   have a : 2 ^ 52 * 2 ^ p ≤ m * 2 ^ p := Nat.mul_le_mul_right _ h.lo
   rw [← Nat.pow_add] at a
   have b := two_lt (a := j) (b := 52 + p) (by omega)
   omega
theorem is_norm {b i : Nat} (f : FinW b) (h : 2 ^ i ≤ (V b).natAbs) (hi : 52 ≤ i) : ∃ s m p, Norm b s m p := by
 refine ⟨_, _, _, norm_of f ?_⟩
 refine Nat.le_of_not_lt fun hlt => ?_
 rw [V_abs' b f] at h
 have e : val 52 (b % 9223372036854775808) < 2 ^ 52 := by
  have c := val_lt (F := 52) (show b % 9223372036854775808 < 4503599627370496 by omega)
  have : val 52 4503599627370496 = 2 ^ 52 := by decide +kernel
  omega
 have b := two_le (a := 52) (b := i) hi
 omega
theorem nrm_any {D : Nat} (W : Wd D 570 1196) (h0 : 0 ≤ V D) : Nrm D (rX D) := by
 by_cases z : V D = 0
 · obtain ⟨r, q1, q2, q3⟩ := sqrt_zero W.fin z
   have er : rX D = r := by unfold rX; rw [q1]; rfl
   rw [er]
   exact ⟨q1, q2, fun _ => q3, fun h => absurd z h⟩
 · have lo := pow_abs_dvd W.dvd z
   obtain ⟨s, m, p, N⟩ := is_norm W.fin lo (by omega)
   obtain ⟨p1, p2⟩ := norm_pl N lo W.abs (by omega) (by omega)
   have es : s = false := by
    cases s
    · rfl
    · have v := N.val
      have g := (sv_sign true m p).1 rfl
      omega
   subst es
   obtain ⟨r, Q, q1, q2, q3, Q1, Q2, i1, i2⟩ := sqrt_spec N (by omega)
   have er : rX D = r := by unfold rX; rw [q1]; rfl
   rw [er]
   rw [sv_pos] at q3
   have vd := N.val
   rw [sv_pos] at vd
   have Q0 : 0 < Q := by omega
   have vp : 0 < V r := by
    rw [q3]
    exact Int.mul_pos (by omega) (Int.pow_pos (by decide))
   have va : (V r).natAbs = Q * 2 ^ (511 + p / 2) := by
    rw [q3, Int.natAbs_mul, Int.natAbs_pow]; rfl
   refine ⟨q1, q2, fun h => absurd h z, fun _ => ⟨vp, ?_, ?_⟩⟩
   · have x1 : V r * V r = ((Q * Q : Nat) : Int) * 2 ^ (511 + p / 2 + (511 + p / 2)) := by
        rw [q3, prod_merge _ _ rfl, Int.natCast_mul]
     have x2 : V D * 2 ^ 1074 = ((m * 2 ^ (52 + p % 2) : Nat) : Int) * 2 ^ (511 + p / 2 + (511 + p / 2)) := by
        rw [vd, Int.natCast_mul, Int.natCast_pow]
        exact pow_merge _ (by omega)
     refine scale_nat x1 x2 ?_
     generalize m * 2 ^ (52 + p % 2) = M at *
     have key : (((Q * Q : Nat) : Int) - ((M : Nat) : Int)).natAbs ≤ Q := by omega
     rw [Int.natAbs_natCast]
     exact Nat.le_trans (Nat.mul_le_mul_left _ key) (Nat.mul_le_mul_right _ Q1)
   · have l1 : 2 ^ (52 + (511 + p / 2)) ≤ (V r).natAbs := by
        rw [va, Nat.pow_add 2 52]; exact Nat.mul_le_mul_right _ Q1
     have l2 : (V r).natAbs ≤ 2 ^ (53 + (511 + p / 2)) := by
        rw [va, Nat.pow_add 2 53]; exact Nat.mul_le_mul_right _ Q2
     obtain ⟨t, m', q, N'⟩ := is_norm q2 l1 (by omega)
     obtain ⟨c1, c2⟩ := norm_pl N' l1 l2 (by omega) (by omega)
     have et : t = false := by
        cases t
        · rfl
        · have v := N'.val
          have g := (sv_sign true m' q).1 rfl
          omega
     subst et
     exact ⟨m', q, N', by omega, by omega⟩
theorem div_any {a n m q : Nat} (ha : a < 18446744073709551616) (fa : fitB a = true) (N : Norm n false m q) (h1 : 760 ≤ q) (h2 : q ≤ 1100) :
 Ieee.double.div a n = some (qX a n) ∧ FinW (qX a n) ∧ 2 ^ 53 * (V (qX a n) * V n - V a * 2 ^ 1074).natAbs ≤ (V (qX a n) * V n).natAbs := by
 have vn := N.val
 rw [sv_pos] at vn
 rcases fit_norm ha fa with z | ⟨s, m', p, N', p1, p2⟩
 · have nz : V n ≠ 0 := by
    rw [vn]
    have := N.lo
    exact Int.ne_of_gt (Int.mul_pos (by omega) (Int.pow_pos (by decide)))
   obtain ⟨r, q1, q2, q3⟩ := div_zero (fit_fin ha fa) z N.fin nz
   have er : qX a n = r := by unfold qX; rw [q1]; rfl
   rw [er]
   refine ⟨q1, q2, ?_⟩
   rw [q3, z, Int.zero_mul, Int.zero_mul]
   decide
 · obtain ⟨r, Q, u, q1, q2, q3, u1, u2, Q1, Q2, i1, i2⟩ := div_spec N' N (by omega) (by omega)
   have er : qX a n = r := by unfold qX; rw [q1]; rfl
   rw [er]
   refine ⟨q1, q2, ?_⟩
   have key : 2 ^ 53 * (((Q * m : Nat) : Int) - ((m' * 2 ^ u : Nat) : Int)).natAbs ≤ Q * m := by
    have k1 : 2 * (((Q * m : Nat) : Int) - ((m' * 2 ^ u : Nat) : Int)).natAbs ≤ m := by
        generalize Q * m = X at *
        generalize m' * 2 ^ u = Y at *
        omega
    have k2 : 2 ^ 52 * m ≤ Q * m := Nat.mul_le_mul_right _ Q1
    generalize Q * m = X at *
    generalize m' * 2 ^ u = Y at *
    omega
   have x0 : (s ^^ false) = s := by cases s <;> rfl
   rw [x0] at q3
   have e1 : 1074 + p - q - u + q = 1074 + p - u := by omega
   have va := N'.val
   have sg : ∀ (s : Bool) (A B : Nat), sv s A B = (if s then -1 else 1) * ((A : Int) * 2 ^ B) := fun s A B => by
    unfold sv; cases s <;> simp
   rw [sg] at q3 va
   have x1 : V r * V n = (if s then -1 else 1) * ((Q * m : Nat) : Int) * 2 ^ (1074 + p - u) := by
    rw [q3, vn, Int.mul_assoc, prod_merge _ _ e1, Int.natCast_mul]
    generalize (2 : Int) ^ (1074 + p - u) = z
    ac_rfl
   have x2 : V a * 2 ^ 1074 = (if s then -1 else 1) * ((m' * 2 ^ u : Nat) : Int) * 2 ^ (1074 + p - u) := by
    rw [va, Int.natCast_mul, Int.natCast_pow, Int.mul_assoc, pow_merge (m' : Int) (p := p) (k := 1074) (j := 1074 + p - u) (u := u) (by omega)]
    rw [show ((2 : Nat) : Int) = 2 from rfl]
    generalize (2 : Int) ^ (1074 + p - u) = z
    ac_rfl
   refine scale_nat x1 x2 ?_
   rw [← Int.mul_sub, Int.natAbs_mul, Int.natAbs_mul]
   have o : (if s = true then (-1 : Int) else 1).natAbs = 1 := by cases s <;> rfl
   rw [o, Nat.one_mul, Nat.one_mul, Int.natAbs_natCast]
   exact key

end Go.Proofs.YtdfcchocabapkaaGreat

namespace Go.Proofs.YtdfcchocabapkaaGreat
open Go.ChangeShapes Go.WideShapes Go.ChangeAt Go.RowKit Ieee.Own

theorem wdB {x : Nat} (hx : x < 18446744073709551616) (h : vnB x = true) : Wd x 822 1134 := by
 obtain ⟨f, g, b⟩ := vnB_spec hx h
 exact ⟨f, fit_822 hx g, b⟩
structure D3 (p : V3) : Prop where
 w1 : Wd p.1 822 1134
 w2 : Wd p.2.1 822 1134
 w3 : Wd p.2.2 822 1134
theorem fitV_wd {p : V3} (h : W3 p) (f : fitV p = true) : D3 p := by
 unfold fitV at f
 simp only [Bool.and_eq_true] at f
 exact ⟨wdB h.l1 f.1.1, wdB h.l2 f.1.2, wdB h.l3 f.2⟩
theorem D3.bd {p : V3} (h : D3 p) : Bd p 1134 := ⟨h.w1.fin, h.w2.fin, h.w3.fin, h.w1.abs, h.w2.abs, h.w3.abs⟩
structure DotW (a b : V3) : Prop where
 d : Wd (dW a b) 570 1196
 r1 : Rld (Q (mX a.1 b.1)) (Q a.1 * Q b.1)
 r2 : Rld (Q (mX a.2.1 b.2.1)) (Q a.2.1 * Q b.2.1)
 r3 : Rld (Q (mX a.2.2 b.2.2)) (Q a.2.2 * Q b.2.2)
 r4 : Rld (Q (aX (mX a.1 b.1) (mX a.2.1 b.2.1))) (Q (mX a.1 b.1) + Q (mX a.2.1 b.2.1))
 r5 : Rld (Q (dW a b)) (Q (aX (mX a.1 b.1) (mX a.2.1 b.2.1)) + Q (mX a.2.2 b.2.2))
theorem dot_wd {a b : V3} (ha : D3 a) (hb : D3 b) : DotW a b := by
 obtain ⟨-, m1, r1⟩ := Wd.mul ha.w1 hb.w1 (by omega) (by omega) (by omega)
 obtain ⟨-, m2, r2⟩ := Wd.mul ha.w2 hb.w2 (by omega) (by omega) (by omega)
 obtain ⟨-, m3, r3⟩ := Wd.mul ha.w3 hb.w3 (by omega) (by omega) (by omega)
 obtain ⟨-, s1, r4⟩ := Wd.add m1 m2 (by omega)
 obtain ⟨-, s2, r5⟩ := Wd.add s1 (m3.le (q := 822 + 822 - 1074) (l := 1134 + 1134 - 1074 + 1) (by omega) (by omega)) (by omega)
 exact ⟨s2.le (by omega) (by omega), r1, r2, r3, r4, r5⟩
end Go.Proofs.YtdfcchocabapkaaGreat

namespace Go.Proofs.YtdfcchocabapkaaGreat
open Ieee.Own

theorem mag_eq {x y : Nat} (hx : FinW x) (hy : FinW y) (h : (V x).natAbs = (V y).natAbs) : x % 9223372036854775808 = y % 9223372036854775808 := by
 rw [V_abs' x hx, V_abs' y hy] at h
 rcases Nat.lt_trichotomy (x % 9223372036854775808) (y % 9223372036854775808) with c | c | c
 · have := val_lt (F := 52) c; omega
 · exact c
 · have := val_lt (F := 52) c; omega
theorem fitB_mag {x y : Nat} (h : x % 9223372036854775808 = y % 9223372036854775808) : fitB x = fitB y := by unfold fitB; rw [h]
theorem vnB_mag {x y : Nat} (h : x % 9223372036854775808 = y % 9223372036854775808) : vnB x = vnB y := by unfold vnB; rw [fitB_mag h, h]
theorem plus0_nz {x : Nat} (h : FinW x) : Nz (aX x 0) := by
 have p := plus0 h
 by_cases q : V x = 0
 · have z := (V_zero_iff h).1 q
   have := h.1
   rcases (by omega : x = 0 ∨ x = 9223372036854775808) with rfl | rfl
   · have : aX 0 0 = 0 := by decide +kernel
     rw [this]; exact ⟨zero_fin, by omega⟩
   · have : aX 9223372036854775808 0 = 0 := by decide +kernel
     rw [this]; exact ⟨zero_fin, by omega⟩
 · exact Nz.of p.2.1 (by rw [p.2.2]; exact q)
theorem bW_nz {x : Nat} (h : FinW x) : Nz (bW x) := by
 unfold bW
 split
 · exact ⟨zero_fin, by omega⟩
 · exact plus0_nz h
theorem bW_opp {x y : Nat} (hx : FinW x) (hy : FinW y) (h : V y = -V x) : V (bW y) = -V (bW x) := by
 have m := mag_eq hy hx (by rw [h, Int.natAbs_neg])
 unfold bW
 rw [fitB_mag m, m]
 split
 · rw [V_zero]; omega
 · rw [(plus0 hx).2.2, (plus0 hy).2.2, h]
end Go.Proofs.YtdfcchocabapkaaGreat

namespace Go.Proofs.YtdfcchocabapkaaGreat
open Ieee.Own Pol

def kk : Rat := 1 / unit / unit
theorem kk0 : 0 ≤ kk := by decide +kernel
theorem kk_of (x : Rat) : x / unit / unit = x * kk := by
 unfold kk
 simp only [Rat.div_def]
 grind
theorem rel_rat {x y : Int} {c : Nat} (h : c * (x - y).natAbs ≤ x.natAbs) : ((c : Int) : Rat) * mag ((x : Rat) * kk - (y : Rat) * kk) ≤ mag ((x : Rat) * kk) := by
 have k0 := kk0
 have key : ∀ {a b : Int} , (c : Int) * a ≤ b → ((c : Int) : Rat) * ((a : Rat) * kk) ≤ (b : Rat) * kk := fun {a b} h => by
  have h1 : (((c : Int) * a : Int) : Rat) ≤ (b : Rat) := Rat.intCast_le_intCast.2 h
  rw [Rat.intCast_mul] at h1
  have h2 := Rat.mul_le_mul_of_nonneg_right h1 k0
  have e : ((c : Int) : Rat) * (a : Rat) * kk = ((c : Int) : Rat) * ((a : Rat) * kk) := Rat.mul_assoc _ _ _
  rwa [e] at h2
 have i1 : (c : Int) * (x - y) ≤ (x.natAbs : Int) := by
  have a : ((c * (x - y).natAbs : Nat) : Int) ≤ (x.natAbs : Int) := by exact_mod_cast h
  rw [Int.natCast_mul] at a
  have b : (c : Int) * (x - y) ≤ (c : Int) * ((x - y).natAbs : Int) := Int.mul_le_mul_of_nonneg_left (by omega) (by omega)
  omega
 have i2 : (c : Int) * (y - x) ≤ (x.natAbs : Int) := by
  have a : ((c * (x - y).natAbs : Nat) : Int) ≤ (x.natAbs : Int) := by exact_mod_cast h
  rw [Int.natCast_mul] at a
  have b : (c : Int) * (y - x) ≤ (c : Int) * ((x - y).natAbs : Int) := Int.mul_le_mul_of_nonneg_left (by omega) (by omega)
  omega
 have j1 := key i1
 have j2 := key i2
 have s1 : ((x - y : Int) : Rat) = (x : Rat) - (y : Rat) := Rat.intCast_sub _ _
 have s2 : ((y - x : Int) : Rat) = (y : Rat) - (x : Rat) := Rat.intCast_sub _ _
 rw [s1] at j1
 rw [s2] at j2
 have n1 : ((x.natAbs : Int) : Rat) * kk ≤ mag ((x : Rat) * kk) := by
  have m := mag_le ((x : Rat) * kk)
  rcases Int.le_total 0 x with q | q
  · rw [show ((x.natAbs : Int)) = x by omega]; exact m.2.1
  · rw [show ((x.natAbs : Int)) = -x by omega, Rat.intCast_neg]
    have : -(x : Rat) * kk = -((x : Rat) * kk) := by grind
    rw [this]; grind
 have c0 : (0 : Rat) ≤ ((c : Int) : Rat) := Rat.intCast_nonneg.2 (by omega)
 generalize mag ((x : Rat) * kk) = M at *
 generalize ((c : Int) : Rat) = C at *
 have e1 : ((x : Rat) - (y : Rat)) * kk = (x : Rat) * kk - (y : Rat) * kk := by grind
 have e2 : ((y : Rat) - (x : Rat)) * kk = -((x : Rat) * kk - (y : Rat) * kk) := by grind
 rw [e1] at j1
 rw [e2] at j2
 generalize (x : Rat) * kk - (y : Rat) * kk = d at *
 unfold mag
 split
 · grind
 · grind
theorem one_unit (a : Nat) : Q a = ((V a * 2 ^ 1074 : Int) : Rat) * kk := by
 rw [Rat.intCast_mul, unit_cast, ← kk_of]
 have : (V a : Rat) * unit / unit = V a := unit_div
 rw [this]; rfl
theorem c53 : (((2 ^ 53 : Nat) : Int) : Rat) * uR = 1 := by decide +kernel
theorem c52 : (((2 ^ 52 : Nat) : Int) : Rat) * (2 * uR) = 1 := by decide +kernel
theorem by_c {c u X Y : Rat} (h : c * X ≤ Y) (e : c * u = 1) (u0 : 0 ≤ u) : X ≤ u * Y := by
 have := Rat.mul_le_mul_of_nonneg_left h u0
 have e' : u * (c * X) = c * u * X := by grind
 rw [e', e] at this
 grind
theorem quo_rat {a n : Nat} (h : 2 ^ 53 * (V (qX a n) * V n - V a * 2 ^ 1074).natAbs ≤ (V (qX a n) * V n).natAbs) : mag (Q (qX a n) * Q n - Q a) ≤ uR * mag (Q (qX a n) * Q n) := by
 have := rel_rat h
 rw [← one_unit, ← kk_of, ← Q_times] at this
 exact by_c this c53 uR0
theorem nrm_rat {D r : Nat} (N : Nrm D r) (h : V D ≠ 0) : 0 < Q r ∧ mag (Q r * Q r - Q D) ≤ 2 * uR * (Q r * Q r) := by
 obtain ⟨p, e, -⟩ := N.pos h
 have q0 : 0 < Q r := by
  have : (V 0) < V r := by rw [V_zero]; exact p
  have z : Q 0 = 0 := by decide +kernel
  rw [← z]; exact Q_lt.2 this
 have := rel_rat e
 rw [← one_unit, ← kk_of, ← Q_times] at this
 have m : mag (Q r * Q r) = Q r * Q r := by
  have := Rat.mul_nonneg (Rat.le_of_lt q0) (Rat.le_of_lt q0)
  unfold mag; rw [if_pos this]
 rw [m] at this
 exact ⟨q0, by_c this c52 (by decide +kernel)⟩

theorem sq0 (x : Rat) : 0 ≤ x * x := by
 rcases (Rat.le_total : 0 ≤ x ∨ x ≤ 0) with h | h
 · exact Rat.mul_nonneg h h
 · have := Rat.mul_nonneg (show 0 ≤ -x by grind) (show 0 ≤ -x by grind)
   grind
theorem mag_sq (x : Rat) : mag x * mag x = x * x := by unfold mag; split <;> grind
def sm : Rat := mkRat 1 (2^200)
theorem sm0 : 0 ≤ sm := by decide +kernel
theorem Q_mag {x : Nat} {n : Nat} (h : (V x).natAbs ≤ n) : mag (Q x) ≤ ((n : Int) : Rat) / unit := by
 have a : V x ≤ (n : Int) := by omega
 have b : -(n : Int) ≤ V x := by omega
 have a' := div_le (Rat.intCast_le_intCast.2 a)
 have b' := div_le (Rat.intCast_le_intCast.2 b)
 refine mag_of ?_ a'
 rw [Rat.intCast_neg] at b'
 have e : -((n : Int) : Rat) / unit = -(((n : Int) : Rat) / unit) := by simp only [Rat.div_def]; grind
 rw [e] at b'
 exact b'
theorem sm_eq : ((((leastV.toNat : Nat) : Int)) : Rat) / unit = sm := by decide +kernel
theorem bW_cases {x : Nat} (h : FinW x) : V (bW x) = V x ∨ (bW x = 0 ∧ mag (Q x) ≤ sm) := by
 rcases (bW_spec h).2 with e | ⟨e, f, m⟩
 · exact .inl e
 · refine .inr ⟨e, ?_⟩
   have lt : (V x).natAbs < 2 ^ 1074 := by
    rw [V_abs' x h]
    have c := val_lt (F := 52) m
    have : val 52 4607182418800017408 = 2 ^ 1074 := by decide +kernel
    omega
   have nf : ¬ (V x = 0 ∨ leastV ≤ ((V x).natAbs : Int) ∧ ((V x).natAbs : Int) ≤ mostV) := fun c => by
    have := (fit_iff h).2 (by first | exact c | (rcases c with c | c; exact .inl c; exact .inr ⟨by omega, by omega⟩))
    rw [f] at this; simp at this
   have big : (2 ^ 1074 : Nat) ≤ mostV := by decide +kernel
   have lp : 0 ≤ (leastV : Int) := by decide +kernel
   have := Q_mag (x := x) (n := (leastV : Int).toNat) (by omega)
   rwa [sm_eq] at this
theorem bW_near {x : Nat} (h : FinW x) : mag (Q (bW x) - Q x) ≤ sm := by
 rcases bW_cases h with e | ⟨e, m⟩
 · have : Q (bW x) - Q x = 0 := by unfold Q; rw [e]; grind
   rw [this]; exact sm0
 · have z : Q 0 = 0 := by decide +kernel
   have : Q (bW x) - Q x = -Q x := by rw [e, z]; grind
   rw [this, mag_neg]; exact m
theorem DotW.dt {a b : V3} (h : DotW a b) : Dt uR 0 (Q a.1) (Q a.2.1) (Q a.2.2) (Q b.1) (Q b.2.1) (Q b.2.2) (Q (dW a b)) :=
 ⟨_, _, _, _, rd_of h.r1, rd_of h.r2, rd_of h.r3, rd_of h.r4, rd_of h.r5⟩
theorem mag_self (x : Rat) : mag (x * x) ≤ x * x := by
 have := sq0 x
 unfold mag; rw [if_pos this]; exact Rat.le_refl
theorem told_zero {p : V3} (h : (toldR p).2 = 0) : fitV (bV p) = true ∧ (toldR p).1 = bV p := by
 unfold toldR at *
 split at h
 · rename_i c; exact ⟨c, by rw [if_pos c]⟩
 · simp at h
end Go.Proofs.YtdfcchocabapkaaGreat

namespace Go.Proofs.YtdfcchocabapkaaGreat
open Go.ChangeShapes Go.WideShapes Go.ChangeAt Go.RowKit Ieee.Own

abbrev M9 := V3 × V3 × V3
def matV (m : M9) : Value := .agg #[.float .f64 m.1.1, .float .f64 m.1.2.1, .float .f64 m.1.2.2, .float .f64 m.2.1.1, .float .f64 m.2.1.2.1, .float .f64 m.2.1.2.2, .float .f64 m.2.2.1, .float .f64 m.2.2.2.1, .float .f64 m.2.2.2.2]
structure W9 (m : M9) : Prop where
 w1 : W3 m.1
 w2 : W3 m.2.1
 w3 : W3 m.2.2
def fitM (m : M9) : Bool := fitV m.1 && fitV m.2.1 && fitV m.2.2
def matE (m : M9) (k : Int) : Value := .tuple #[matV m, .int .i64 k]
def z9 : M9 := (z3, z3, z3)
theorem vfitmat_run {m : M9} (h : W9 m) (w : World) : Calls Tryz.prog 145 #[matV m] w fun e w' => e = .returned (.bool (fitM m)) ∧ Below w.heap.size w w' := by
 have C1 := Lib.hid (fun w => vfit_run h.w1 w)
 have C2 := Lib.hid (fun w => vfit_run h.w2 w)
 have C3 := Lib.hid (fun w => vfit_run h.w3 w)
 clear h
 obtain ⟨⟨a1, a2, a3⟩, ⟨b1, b2, b3⟩, c1, c2, c3⟩ := m
 unfold fitM matV
 unfold vecV at *
 dsimp only at *
 generalize fitV (a1, a2, a3) = x at *
 generalize fitV (b1, b2, b3) = y at *
 generalize fitV (c1, c2, c3) = z at *
 have K0 := kw1 w 106 [a1, a2, a3, b1, b2, b3, c1, c2, c3]
 simp only [objW, List.map_cons, List.map_nil] at K0
 have hst := @fstore
 replace K0 := Lib.hid K0
 cases x
 · go_enter Tryz.func145, Tryz.ntmps145
   go_wp2_with fail
   have K := K0.out
   clear K0
   generalize w.alloc _ = wr at *
   refine (C1.out wr).mono ?_
   rintro _ v1 ⟨rfl, hb⟩
   replace K := K.on hb
   clear hb
   replace K := Lib.hid K
   go_wp2_with fail
   replace K := K.out
   go_ret
   exact ⟨rfl, K.old⟩
 · cases y
   · go_enter Tryz.func145, Tryz.ntmps145
     go_wp2_with fail
     have K := K0.out
     clear K0
     generalize w.alloc _ = wr at *
     refine (C1.out wr).mono ?_
     rintro _ v1 ⟨rfl, hb⟩
     replace K := K.on hb
     clear hb
     have c0_3 := K.ce 0 3 rfl rfl
     have c0_4 := K.ce 0 4 rfl rfl
     have c0_5 := K.ce 0 5 rfl rfl
     replace K := Lib.hid K
     go_wp2_with fail
     replace K := K.out
     refine (C2.out v1).mono ?_
     rintro _ v2 ⟨rfl, hb⟩
     clear c0_3 c0_4 c0_5
     replace K := K.on hb
     clear hb
     replace K := Lib.hid K
     go_wp2_with fail
     replace K := K.out
     go_ret
     exact ⟨rfl, K.old⟩
   · go_enter Tryz.func145, Tryz.ntmps145
     go_wp2_with fail
     have K := K0.out
     clear K0
     generalize w.alloc _ = wr at *
     refine (C1.out wr).mono ?_
     rintro _ v1 ⟨rfl, hb⟩
     replace K := K.on hb
     clear hb
     have c0_3 := K.ce 0 3 rfl rfl
     have c0_4 := K.ce 0 4 rfl rfl
     have c0_5 := K.ce 0 5 rfl rfl
     replace K := Lib.hid K
     go_wp2_with fail
     replace K := K.out
     refine (C2.out v1).mono ?_
     rintro _ v2 ⟨rfl, hb⟩
     clear c0_3 c0_4 c0_5
     replace K := K.on hb
     clear hb
     have c0_6 := K.ce 0 6 rfl rfl
     have c0_7 := K.ce 0 7 rfl rfl
     have c0_8 := K.ce 0 8 rfl rfl
     replace K := Lib.hid K
     go_wp2_with fail
     replace K := K.out
     refine (C3.out v2).mono ?_
     rintro _ v3 ⟨rfl, hb⟩
     clear c0_6 c0_7 c0_8
     replace K := K.on hb
     clear hb
     replace K := Lib.hid K
     go_wp2_with fail
     replace K := K.out
     go_ret
     exact ⟨rfl, K.old⟩
theorem vtoldmat_ok {a1 a2 a3 b1 b2 b3 c1 c2 c3 p1 p2 p3 q1 q2 q3 r1 r2 r3 : Nat} (C1 : Hid (∀ w, Calls Tryz.prog 147 #[.agg #[.float .f64 a1, .float .f64 a2, .float .f64 a3]] w fun e w' => e = .returned (.tuple #[.agg #[.float .f64 p1, .float .f64 p2, .float .f64 p3], .int .i64 0]) ∧ Below w.heap.size w w')) (C2 : Hid (∀ w, Calls Tryz.prog 147 #[.agg #[.float .f64 b1, .float .f64 b2, .float .f64 b3]] w fun e w' => e = .returned (.tuple #[.agg #[.float .f64 q1, .float .f64 q2, .float .f64 q3], .int .i64 0]) ∧ Below w.heap.size w w')) (C3 : Hid (∀ w, Calls Tryz.prog 147 #[.agg #[.float .f64 c1, .float .f64 c2, .float .f64 c3]] w fun e w' => e = .returned (.tuple #[.agg #[.float .f64 r1, .float .f64 r2, .float .f64 r3], .int .i64 0]) ∧ Below w.heap.size w w')) (w : World) : Calls Tryz.prog 144 #[.agg #[.float .f64 a1, .float .f64 a2, .float .f64 a3, .float .f64 b1, .float .f64 b2, .float .f64 b3, .float .f64 c1, .float .f64 c2, .float .f64 c3]] w fun e w' => e = .returned (.tuple #[.agg #[.float .f64 p1, .float .f64 p2, .float .f64 p3, .float .f64 q1, .float .f64 q2, .float .f64 q3, .float .f64 r1, .float .f64 r2, .float .f64 r3], .int .i64 0]) ∧ Below w.heap.size w w' := by
 have K0 := kw2 w 106 106 [a1, a2, a3, b1, b2, b3, c1, c2, c3] [0, 0, 0, 0, 0, 0, 0, 0, 0]
 simp only [objW, List.map_cons, List.map_nil] at K0
 have hst := @fstore
 replace K0 := Lib.hid K0
 go_enter Tryz.func144, Tryz.ntmps144
 go_wp2_with fail
 have K := K0.out
 clear K0
 generalize (w.alloc _).alloc _ = wr at *
 refine wp_loop_rounds 4 ?_
 rw [rounds_succ]
 have c0_0 := K.ce 0 0 rfl rfl
 have c0_1 := K.ce 0 1 rfl rfl
 have c0_2 := K.ce 0 2 rfl rfl
 replace K := Lib.hid K
 go_wp2_with fail
 replace K := K.out
 clear c0_0 c0_1 c0_2
 refine (C1.out wr).mono ?_
 rintro _ v ⟨rfl, hb⟩
 replace K := (K.on hb).new 39 [p1, p2, p3]
 simp only [objW, List.map_cons, List.map_nil, List.cons_append, List.nil_append] at K
 clear hb
 have c0_0 := K.ce 0 0 rfl rfl
 have f0_0 := K.fe 0 0 rfl rfl
 have c0_1 := K.ce 0 1 rfl rfl
 have f0_1 := K.fe 0 1 rfl rfl
 have c0_2 := K.ce 0 2 rfl rfl
 have f0_2 := K.fe 0 2 rfl rfl
 have c2_0 := K.ce 2 0 rfl rfl
 have c2_1 := K.ce 2 1 rfl rfl
 have c2_2 := K.ce 2 2 rfl rfl
 replace K := Lib.hid K
 go_wp2_with fail
 replace K := K.out
 clear c0_0 f0_0 c0_1 f0_1 c0_2 f0_2 c2_0 c2_1 c2_2
 (try simp only [Exit.vnBlock, Exit.then])
 replace K := K.put 0 rfl 0 [p1, p2, p3] (by simp)
 simp only [putW, setL, List.set_cons_zero, List.set_cons_succ] at K
 generalize World.setCell _ _ _ = wr at *
 generalize v.heap.size = g0 at *
 rw [rounds_succ]
 have c0_3 := K.ce 0 3 rfl rfl
 have c0_4 := K.ce 0 4 rfl rfl
 have c0_5 := K.ce 0 5 rfl rfl
 replace K := Lib.hid K
 go_wp2_with fail
 replace K := K.out
 clear c0_3 c0_4 c0_5
 refine (C2.out wr).mono ?_
 rintro _ v ⟨rfl, hb⟩
 replace K := (K.on hb).new 39 [q1, q2, q3]
 simp only [objW, List.map_cons, List.map_nil, List.cons_append, List.nil_append] at K
 clear hb
 have c0_3 := K.ce 0 3 rfl rfl
 have f0_3 := K.fe 0 3 rfl rfl
 have c0_4 := K.ce 0 4 rfl rfl
 have f0_4 := K.fe 0 4 rfl rfl
 have c0_5 := K.ce 0 5 rfl rfl
 have f0_5 := K.fe 0 5 rfl rfl
 have c3_0 := K.ce 3 0 rfl rfl
 have c3_1 := K.ce 3 1 rfl rfl
 have c3_2 := K.ce 3 2 rfl rfl
 replace K := Lib.hid K
 go_wp2_with fail
 replace K := K.out
 clear c0_3 f0_3 c0_4 f0_4 c0_5 f0_5 c3_0 c3_1 c3_2
 (try simp only [Exit.vnBlock, Exit.then])
 replace K := K.put 0 rfl 3 [q1, q2, q3] (by simp)
 simp only [putW, setL, List.set_cons_zero, List.set_cons_succ] at K
 generalize World.setCell _ _ _ = wr at *
 generalize v.heap.size = g1 at *
 rw [rounds_succ]
 have c0_6 := K.ce 0 6 rfl rfl
 have c0_7 := K.ce 0 7 rfl rfl
 have c0_8 := K.ce 0 8 rfl rfl
 replace K := Lib.hid K
 go_wp2_with fail
 replace K := K.out
 clear c0_6 c0_7 c0_8
 refine (C3.out wr).mono ?_
 rintro _ v ⟨rfl, hb⟩
 replace K := (K.on hb).new 39 [r1, r2, r3]
 simp only [objW, List.map_cons, List.map_nil, List.cons_append, List.nil_append] at K
 clear hb
 have c0_6 := K.ce 0 6 rfl rfl
 have f0_6 := K.fe 0 6 rfl rfl
 have c0_7 := K.ce 0 7 rfl rfl
 have f0_7 := K.fe 0 7 rfl rfl
 have c0_8 := K.ce 0 8 rfl rfl
 have f0_8 := K.fe 0 8 rfl rfl
 have c4_0 := K.ce 4 0 rfl rfl
 have c4_1 := K.ce 4 1 rfl rfl
 have c4_2 := K.ce 4 2 rfl rfl
 replace K := Lib.hid K
 go_wp2_with fail
 replace K := K.out
 clear c0_6 f0_6 c0_7 f0_7 c0_8 f0_8 c4_0 c4_1 c4_2
 (try simp only [Exit.vnBlock, Exit.then])
 replace K := K.put 0 rfl 6 [r1, r2, r3] (by simp)
 simp only [putW, setL, List.set_cons_zero, List.set_cons_succ] at K
 generalize World.setCell _ _ _ = wr at *
 generalize v.heap.size = g2 at *
 rw [rounds_succ]
 have c0_0 := K.ce 0 0 rfl rfl
 have c0_1 := K.ce 0 1 rfl rfl
 have c0_2 := K.ce 0 2 rfl rfl
 have c0_3 := K.ce 0 3 rfl rfl
 have c0_4 := K.ce 0 4 rfl rfl
 have c0_5 := K.ce 0 5 rfl rfl
 have c0_6 := K.ce 0 6 rfl rfl
 have c0_7 := K.ce 0 7 rfl rfl
 have c0_8 := K.ce 0 8 rfl rfl
 have c1_0 := K.ce 1 0 rfl rfl
 have f1_0 := K.fe 1 0 rfl rfl
 have c1_1 := K.ce 1 1 rfl rfl
 have f1_1 := K.fe 1 1 rfl rfl
 have c1_2 := K.ce 1 2 rfl rfl
 have f1_2 := K.fe 1 2 rfl rfl
 have c1_3 := K.ce 1 3 rfl rfl
 have f1_3 := K.fe 1 3 rfl rfl
 have c1_4 := K.ce 1 4 rfl rfl
 have f1_4 := K.fe 1 4 rfl rfl
 have c1_5 := K.ce 1 5 rfl rfl
 have f1_5 := K.fe 1 5 rfl rfl
 have c1_6 := K.ce 1 6 rfl rfl
 have f1_6 := K.fe 1 6 rfl rfl
 have c1_7 := K.ce 1 7 rfl rfl
 have f1_7 := K.fe 1 7 rfl rfl
 have c1_8 := K.ce 1 8 rfl rfl
 have f1_8 := K.fe 1 8 rfl rfl
 replace K := Lib.hid K
 go_wp2_with fail
 replace K := K.out
 (try simp only [Exit.vnBlock, Exit.then])
 refine bodyPost_ret (v := .tuple #[.agg #[.float .f64 p1, .float .f64 p2, .float .f64 p3, .float .f64 q1, .float .f64 q2, .float .f64 q3, .float .f64 r1, .float .f64 r2, .float .f64 r3], .int .i64 0]) ?_ rfl ⟨rfl, ?_⟩
 · rw [results_cell_tmp rfl]; go_simp
 · exact (((((((((K.old).setCell (by first | exact Nat.le_refl _ | (dsimp only; omega)) _).setCell (by first | exact Nat.le_refl _ | (dsimp only; omega)) _).setCell (by first | exact Nat.le_refl _ | (dsimp only; omega)) _).setCell (by first | exact Nat.le_refl _ | (dsimp only; omega)) _).setCell (by first | exact Nat.le_refl _ | (dsimp only; omega)) _).setCell (by first | exact Nat.le_refl _ | (dsimp only; omega)) _).setCell (by first | exact Nat.le_refl _ | (dsimp only; omega)) _).setCell (by first | exact Nat.le_refl _ | (dsimp only; omega)) _).setCell (by first | exact Nat.le_refl _ | (dsimp only; omega)) _
theorem vtoldmat_no0 {a1 a2 a3 b1 b2 b3 c1 c2 c3 p1 p2 p3 : Nat} {k : Int} (t : (k != 0) = true) (C1 : Hid (∀ w, Calls Tryz.prog 147 #[.agg #[.float .f64 a1, .float .f64 a2, .float .f64 a3]] w fun e w' => e = .returned (.tuple #[.agg #[.float .f64 p1, .float .f64 p2, .float .f64 p3], .int .i64 k]) ∧ Below w.heap.size w w')) (w : World) : Calls Tryz.prog 144 #[.agg #[.float .f64 a1, .float .f64 a2, .float .f64 a3, .float .f64 b1, .float .f64 b2, .float .f64 b3, .float .f64 c1, .float .f64 c2, .float .f64 c3]] w fun e w' => e = .returned (.tuple #[.agg #[.float .f64 0, .float .f64 0, .float .f64 0, .float .f64 0, .float .f64 0, .float .f64 0, .float .f64 0, .float .f64 0, .float .f64 0], .int .i64 k]) ∧ Below w.heap.size w w' := by
 have K0 := kw2 w 106 106 [a1, a2, a3, b1, b2, b3, c1, c2, c3] [0, 0, 0, 0, 0, 0, 0, 0, 0]
 simp only [objW, List.map_cons, List.map_nil] at K0
 have hst := @fstore
 replace K0 := Lib.hid K0
 go_enter Tryz.func144, Tryz.ntmps144
 go_wp2_with fail
 have K := K0.out
 clear K0
 generalize (w.alloc _).alloc _ = wr at *
 refine wp_loop_rounds 4 ?_
 rw [rounds_succ]
 have c0_0 := K.ce 0 0 rfl rfl
 have c0_1 := K.ce 0 1 rfl rfl
 have c0_2 := K.ce 0 2 rfl rfl
 replace K := Lib.hid K
 go_wp2_with fail
 replace K := K.out
 clear c0_0 c0_1 c0_2
 refine (C1.out wr).mono ?_
 rintro _ v ⟨rfl, hb⟩
 replace K := (K.on hb).new 39 [p1, p2, p3]
 simp only [objW, List.map_cons, List.map_nil, List.cons_append, List.nil_append] at K
 clear hb
 have c1_0 := K.ce 1 0 rfl rfl
 have f1_0 := K.fe 1 0 rfl rfl
 have c1_1 := K.ce 1 1 rfl rfl
 have f1_1 := K.fe 1 1 rfl rfl
 have c1_2 := K.ce 1 2 rfl rfl
 have f1_2 := K.fe 1 2 rfl rfl
 have c1_3 := K.ce 1 3 rfl rfl
 have f1_3 := K.fe 1 3 rfl rfl
 have c1_4 := K.ce 1 4 rfl rfl
 have f1_4 := K.fe 1 4 rfl rfl
 have c1_5 := K.ce 1 5 rfl rfl
 have f1_5 := K.fe 1 5 rfl rfl
 have c1_6 := K.ce 1 6 rfl rfl
 have f1_6 := K.fe 1 6 rfl rfl
 have c1_7 := K.ce 1 7 rfl rfl
 have f1_7 := K.fe 1 7 rfl rfl
 have c1_8 := K.ce 1 8 rfl rfl
 have f1_8 := K.fe 1 8 rfl rfl
 replace K := Lib.hid K
 go_wp2_with fail
 replace K := K.out
 (try simp only [Exit.vnBlock, Exit.then])
 refine bodyPost_ret (v := .tuple #[.agg #[.float .f64 0, .float .f64 0, .float .f64 0, .float .f64 0, .float .f64 0, .float .f64 0, .float .f64 0, .float .f64 0, .float .f64 0], .int .i64 k]) ?_ rfl ⟨rfl, ?_⟩
 · rw [results_cell_tmp rfl]; go_simp
 · exact (((((((((K.old).setCell (by first | exact Nat.le_refl _ | (dsimp only; omega)) _).setCell (by first | exact Nat.le_refl _ | (dsimp only; omega)) _).setCell (by first | exact Nat.le_refl _ | (dsimp only; omega)) _).setCell (by first | exact Nat.le_refl _ | (dsimp only; omega)) _).setCell (by first | exact Nat.le_refl _ | (dsimp only; omega)) _).setCell (by first | exact Nat.le_refl _ | (dsimp only; omega)) _).setCell (by first | exact Nat.le_refl _ | (dsimp only; omega)) _).setCell (by first | exact Nat.le_refl _ | (dsimp only; omega)) _).setCell (by first | exact Nat.le_refl _ | (dsimp only; omega)) _
theorem vtoldmat_no1 {a1 a2 a3 b1 b2 b3 c1 c2 c3 p1 p2 p3 q1 q2 q3 : Nat} {k : Int} (t : (k != 0) = true) (C1 : Hid (∀ w, Calls Tryz.prog 147 #[.agg #[.float .f64 a1, .float .f64 a2, .float .f64 a3]] w fun e w' => e = .returned (.tuple #[.agg #[.float .f64 p1, .float .f64 p2, .float .f64 p3], .int .i64 0]) ∧ Below w.heap.size w w')) (C2 : Hid (∀ w, Calls Tryz.prog 147 #[.agg #[.float .f64 b1, .float .f64 b2, .float .f64 b3]] w fun e w' => e = .returned (.tuple #[.agg #[.float .f64 q1, .float .f64 q2, .float .f64 q3], .int .i64 k]) ∧ Below w.heap.size w w')) (w : World) : Calls Tryz.prog 144 #[.agg #[.float .f64 a1, .float .f64 a2, .float .f64 a3, .float .f64 b1, .float .f64 b2, .float .f64 b3, .float .f64 c1, .float .f64 c2, .float .f64 c3]] w fun e w' => e = .returned (.tuple #[.agg #[.float .f64 0, .float .f64 0, .float .f64 0, .float .f64 0, .float .f64 0, .float .f64 0, .float .f64 0, .float .f64 0, .float .f64 0], .int .i64 k]) ∧ Below w.heap.size w w' := by
 have K0 := kw2 w 106 106 [a1, a2, a3, b1, b2, b3, c1, c2, c3] [0, 0, 0, 0, 0, 0, 0, 0, 0]
 simp only [objW, List.map_cons, List.map_nil] at K0
 have hst := @fstore
 replace K0 := Lib.hid K0
 go_enter Tryz.func144, Tryz.ntmps144
 go_wp2_with fail
 have K := K0.out
 clear K0
 generalize (w.alloc _).alloc _ = wr at *
 refine wp_loop_rounds 4 ?_
 rw [rounds_succ]
 have c0_0 := K.ce 0 0 rfl rfl
 have c0_1 := K.ce 0 1 rfl rfl
 have c0_2 := K.ce 0 2 rfl rfl
 replace K := Lib.hid K
 go_wp2_with fail
 replace K := K.out
 clear c0_0 c0_1 c0_2
 refine (C1.out wr).mono ?_
 rintro _ v ⟨rfl, hb⟩
 replace K := (K.on hb).new 39 [p1, p2, p3]
 simp only [objW, List.map_cons, List.map_nil, List.cons_append, List.nil_append] at K
 clear hb
 have c0_0 := K.ce 0 0 rfl rfl
 have f0_0 := K.fe 0 0 rfl rfl
 have c0_1 := K.ce 0 1 rfl rfl
 have f0_1 := K.fe 0 1 rfl rfl
 have c0_2 := K.ce 0 2 rfl rfl
 have f0_2 := K.fe 0 2 rfl rfl
 have c2_0 := K.ce 2 0 rfl rfl
 have c2_1 := K.ce 2 1 rfl rfl
 have c2_2 := K.ce 2 2 rfl rfl
 replace K := Lib.hid K
 go_wp2_with fail
 replace K := K.out
 clear c0_0 f0_0 c0_1 f0_1 c0_2 f0_2 c2_0 c2_1 c2_2
 (try simp only [Exit.vnBlock, Exit.then])
 replace K := K.put 0 rfl 0 [p1, p2, p3] (by simp)
 simp only [putW, setL, List.set_cons_zero, List.set_cons_succ] at K
 generalize World.setCell _ _ _ = wr at *
 generalize v.heap.size = g0 at *
 rw [rounds_succ]
 have c0_3 := K.ce 0 3 rfl rfl
 have c0_4 := K.ce 0 4 rfl rfl
 have c0_5 := K.ce 0 5 rfl rfl
 replace K := Lib.hid K
 go_wp2_with fail
 replace K := K.out
 clear c0_3 c0_4 c0_5
 refine (C2.out wr).mono ?_
 rintro _ v ⟨rfl, hb⟩
 replace K := (K.on hb).new 39 [q1, q2, q3]
 simp only [objW, List.map_cons, List.map_nil, List.cons_append, List.nil_append] at K
 clear hb
 have c1_0 := K.ce 1 0 rfl rfl
 have f1_0 := K.fe 1 0 rfl rfl
 have c1_1 := K.ce 1 1 rfl rfl
 have f1_1 := K.fe 1 1 rfl rfl
 have c1_2 := K.ce 1 2 rfl rfl
 have f1_2 := K.fe 1 2 rfl rfl
 have c1_3 := K.ce 1 3 rfl rfl
 have f1_3 := K.fe 1 3 rfl rfl
 have c1_4 := K.ce 1 4 rfl rfl
 have f1_4 := K.fe 1 4 rfl rfl
 have c1_5 := K.ce 1 5 rfl rfl
 have f1_5 := K.fe 1 5 rfl rfl
 have c1_6 := K.ce 1 6 rfl rfl
 have f1_6 := K.fe 1 6 rfl rfl
 have c1_7 := K.ce 1 7 rfl rfl
 have f1_7 := K.fe 1 7 rfl rfl
 have c1_8 := K.ce 1 8 rfl rfl
 have f1_8 := K.fe 1 8 rfl rfl
 replace K := Lib.hid K
 go_wp2_with fail
 replace K := K.out
 (try simp only [Exit.vnBlock, Exit.then])
 refine bodyPost_ret (v := .tuple #[.agg #[.float .f64 0, .float .f64 0, .float .f64 0, .float .f64 0, .float .f64 0, .float .f64 0, .float .f64 0, .float .f64 0, .float .f64 0], .int .i64 k]) ?_ rfl ⟨rfl, ?_⟩
 · rw [results_cell_tmp rfl]; go_simp
 · exact (((((((((K.old).setCell (by first | exact Nat.le_refl _ | (dsimp only; omega)) _).setCell (by first | exact Nat.le_refl _ | (dsimp only; omega)) _).setCell (by first | exact Nat.le_refl _ | (dsimp only; omega)) _).setCell (by first | exact Nat.le_refl _ | (dsimp only; omega)) _).setCell (by first | exact Nat.le_refl _ | (dsimp only; omega)) _).setCell (by first | exact Nat.le_refl _ | (dsimp only; omega)) _).setCell (by first | exact Nat.le_refl _ | (dsimp only; omega)) _).setCell (by first | exact Nat.le_refl _ | (dsimp only; omega)) _).setCell (by first | exact Nat.le_refl _ | (dsimp only; omega)) _
theorem vtoldmat_no2 {a1 a2 a3 b1 b2 b3 c1 c2 c3 p1 p2 p3 q1 q2 q3 r1 r2 r3 : Nat} {k : Int} (t : (k != 0) = true) (C1 : Hid (∀ w, Calls Tryz.prog 147 #[.agg #[.float .f64 a1, .float .f64 a2, .float .f64 a3]] w fun e w' => e = .returned (.tuple #[.agg #[.float .f64 p1, .float .f64 p2, .float .f64 p3], .int .i64 0]) ∧ Below w.heap.size w w')) (C2 : Hid (∀ w, Calls Tryz.prog 147 #[.agg #[.float .f64 b1, .float .f64 b2, .float .f64 b3]] w fun e w' => e = .returned (.tuple #[.agg #[.float .f64 q1, .float .f64 q2, .float .f64 q3], .int .i64 0]) ∧ Below w.heap.size w w')) (C3 : Hid (∀ w, Calls Tryz.prog 147 #[.agg #[.float .f64 c1, .float .f64 c2, .float .f64 c3]] w fun e w' => e = .returned (.tuple #[.agg #[.float .f64 r1, .float .f64 r2, .float .f64 r3], .int .i64 k]) ∧ Below w.heap.size w w')) (w : World) : Calls Tryz.prog 144 #[.agg #[.float .f64 a1, .float .f64 a2, .float .f64 a3, .float .f64 b1, .float .f64 b2, .float .f64 b3, .float .f64 c1, .float .f64 c2, .float .f64 c3]] w fun e w' => e = .returned (.tuple #[.agg #[.float .f64 0, .float .f64 0, .float .f64 0, .float .f64 0, .float .f64 0, .float .f64 0, .float .f64 0, .float .f64 0, .float .f64 0], .int .i64 k]) ∧ Below w.heap.size w w' := by
 have K0 := kw2 w 106 106 [a1, a2, a3, b1, b2, b3, c1, c2, c3] [0, 0, 0, 0, 0, 0, 0, 0, 0]
 simp only [objW, List.map_cons, List.map_nil] at K0
 have hst := @fstore
 replace K0 := Lib.hid K0
 go_enter Tryz.func144, Tryz.ntmps144
 go_wp2_with fail
 have K := K0.out
 clear K0
 generalize (w.alloc _).alloc _ = wr at *
 refine wp_loop_rounds 4 ?_
 rw [rounds_succ]
 have c0_0 := K.ce 0 0 rfl rfl
 have c0_1 := K.ce 0 1 rfl rfl
 have c0_2 := K.ce 0 2 rfl rfl
 replace K := Lib.hid K
 go_wp2_with fail
 replace K := K.out
 clear c0_0 c0_1 c0_2
 refine (C1.out wr).mono ?_
 rintro _ v ⟨rfl, hb⟩
 replace K := (K.on hb).new 39 [p1, p2, p3]
 simp only [objW, List.map_cons, List.map_nil, List.cons_append, List.nil_append] at K
 clear hb
 have c0_0 := K.ce 0 0 rfl rfl
 have f0_0 := K.fe 0 0 rfl rfl
 have c0_1 := K.ce 0 1 rfl rfl
 have f0_1 := K.fe 0 1 rfl rfl
 have c0_2 := K.ce 0 2 rfl rfl
 have f0_2 := K.fe 0 2 rfl rfl
 have c2_0 := K.ce 2 0 rfl rfl
 have c2_1 := K.ce 2 1 rfl rfl
 have c2_2 := K.ce 2 2 rfl rfl
 replace K := Lib.hid K
 go_wp2_with fail
 replace K := K.out
 clear c0_0 f0_0 c0_1 f0_1 c0_2 f0_2 c2_0 c2_1 c2_2
 (try simp only [Exit.vnBlock, Exit.then])
 replace K := K.put 0 rfl 0 [p1, p2, p3] (by simp)
 simp only [putW, setL, List.set_cons_zero, List.set_cons_succ] at K
 generalize World.setCell _ _ _ = wr at *
 generalize v.heap.size = g0 at *
 rw [rounds_succ]
 have c0_3 := K.ce 0 3 rfl rfl
 have c0_4 := K.ce 0 4 rfl rfl
 have c0_5 := K.ce 0 5 rfl rfl
 replace K := Lib.hid K
 go_wp2_with fail
 replace K := K.out
 clear c0_3 c0_4 c0_5
 refine (C2.out wr).mono ?_
 rintro _ v ⟨rfl, hb⟩
 replace K := (K.on hb).new 39 [q1, q2, q3]
 simp only [objW, List.map_cons, List.map_nil, List.cons_append, List.nil_append] at K
 clear hb
 have c0_3 := K.ce 0 3 rfl rfl
 have f0_3 := K.fe 0 3 rfl rfl
 have c0_4 := K.ce 0 4 rfl rfl
 have f0_4 := K.fe 0 4 rfl rfl
 have c0_5 := K.ce 0 5 rfl rfl
 have f0_5 := K.fe 0 5 rfl rfl
 have c3_0 := K.ce 3 0 rfl rfl
 have c3_1 := K.ce 3 1 rfl rfl
 have c3_2 := K.ce 3 2 rfl rfl
 replace K := Lib.hid K
 go_wp2_with fail
 replace K := K.out
 clear c0_3 f0_3 c0_4 f0_4 c0_5 f0_5 c3_0 c3_1 c3_2
 (try simp only [Exit.vnBlock, Exit.then])
 replace K := K.put 0 rfl 3 [q1, q2, q3] (by simp)
 simp only [putW, setL, List.set_cons_zero, List.set_cons_succ] at K
 generalize World.setCell _ _ _ = wr at *
 generalize v.heap.size = g1 at *
 rw [rounds_succ]
 have c0_6 := K.ce 0 6 rfl rfl
 have c0_7 := K.ce 0 7 rfl rfl
 have c0_8 := K.ce 0 8 rfl rfl
 replace K := Lib.hid K
 go_wp2_with fail
 replace K := K.out
 clear c0_6 c0_7 c0_8
 refine (C3.out wr).mono ?_
 rintro _ v ⟨rfl, hb⟩
 replace K := (K.on hb).new 39 [r1, r2, r3]
 simp only [objW, List.map_cons, List.map_nil, List.cons_append, List.nil_append] at K
 clear hb
 have c1_0 := K.ce 1 0 rfl rfl
 have f1_0 := K.fe 1 0 rfl rfl
 have c1_1 := K.ce 1 1 rfl rfl
 have f1_1 := K.fe 1 1 rfl rfl
 have c1_2 := K.ce 1 2 rfl rfl
 have f1_2 := K.fe 1 2 rfl rfl
 have c1_3 := K.ce 1 3 rfl rfl
 have f1_3 := K.fe 1 3 rfl rfl
 have c1_4 := K.ce 1 4 rfl rfl
 have f1_4 := K.fe 1 4 rfl rfl
 have c1_5 := K.ce 1 5 rfl rfl
 have f1_5 := K.fe 1 5 rfl rfl
 have c1_6 := K.ce 1 6 rfl rfl
 have f1_6 := K.fe 1 6 rfl rfl
 have c1_7 := K.ce 1 7 rfl rfl
 have f1_7 := K.fe 1 7 rfl rfl
 have c1_8 := K.ce 1 8 rfl rfl
 have f1_8 := K.fe 1 8 rfl rfl
 replace K := Lib.hid K
 go_wp2_with fail
 replace K := K.out
 (try simp only [Exit.vnBlock, Exit.then])
 refine bodyPost_ret (v := .tuple #[.agg #[.float .f64 0, .float .f64 0, .float .f64 0, .float .f64 0, .float .f64 0, .float .f64 0, .float .f64 0, .float .f64 0, .float .f64 0], .int .i64 k]) ?_ rfl ⟨rfl, ?_⟩
 · rw [results_cell_tmp rfl]; go_simp
 · exact (((((((((K.old).setCell (by first | exact Nat.le_refl _ | (dsimp only; omega)) _).setCell (by first | exact Nat.le_refl _ | (dsimp only; omega)) _).setCell (by first | exact Nat.le_refl _ | (dsimp only; omega)) _).setCell (by first | exact Nat.le_refl _ | (dsimp only; omega)) _).setCell (by first | exact Nat.le_refl _ | (dsimp only; omega)) _).setCell (by first | exact Nat.le_refl _ | (dsimp only; omega)) _).setCell (by first | exact Nat.le_refl _ | (dsimp only; omega)) _).setCell (by first | exact Nat.le_refl _ | (dsimp only; omega)) _).setCell (by first | exact Nat.le_refl _ | (dsimp only; omega)) _

theorem vprods_ok {a1 a2 a3 b1 b2 b3 c1 c2 c3 x1 x2 x3 d1 d2 d3 : Nat} (C1 : Hid (∀ w, Calls Tryz.prog 179 #[.agg #[.float .f64 a1, .float .f64 a2, .float .f64 a3], .agg #[.float .f64 x1, .float .f64 x2, .float .f64 x3]] w fun e w' => e = .returned (.float .f64 d1) ∧ Below w.heap.size w w')) (C2 : Hid (∀ w, Calls Tryz.prog 179 #[.agg #[.float .f64 b1, .float .f64 b2, .float .f64 b3], .agg #[.float .f64 x1, .float .f64 x2, .float .f64 x3]] w fun e w' => e = .returned (.float .f64 d2) ∧ Below w.heap.size w w')) (C3 : Hid (∀ w, Calls Tryz.prog 179 #[.agg #[.float .f64 c1, .float .f64 c2, .float .f64 c3], .agg #[.float .f64 x1, .float .f64 x2, .float .f64 x3]] w fun e w' => e = .returned (.float .f64 d3) ∧ Below w.heap.size w w')) (w : World) : Calls Tryz.prog 148 #[.agg #[.float .f64 a1, .float .f64 a2, .float .f64 a3, .float .f64 b1, .float .f64 b2, .float .f64 b3, .float .f64 c1, .float .f64 c2, .float .f64 c3], .agg #[.float .f64 x1, .float .f64 x2, .float .f64 x3]] w fun e w' => e = .returned (.agg #[.float .f64 d1, .float .f64 d2, .float .f64 d3]) ∧ Below w.heap.size w w' := by
 have K0 := kw3 w 106 39 39 [a1, a2, a3, b1, b2, b3, c1, c2, c3] [x1, x2, x3] [0, 0, 0]
 simp only [objW, List.map_cons, List.map_nil] at K0
 have hst := @fstore
 replace K0 := Lib.hid K0
 go_enter Tryz.func148, Tryz.ntmps148
 go_upto_region 1 with fail
 have K := K0.out
 clear K0
 generalize ((w.alloc _).alloc _).alloc _ = wr at *
 generalize hds : ([some 5, some 6, some 7, some 8, some 9, some 10, some 11, some 12, some 13, some 14, some 15, some 16, some 17, none] : List (Option Tmp)) = ds
 have hap : apartL ds = true := by rw [← hds]; decide
 replace hds := hds.symm
 refine wp_region_k (fun hf => [some (w.heap.size, [a1, a2, a3, b1, b2, b3, c1, c2, c3]), some (w.heap.size + 1, [x1, x2, x3]), some (w.heap.size + 1 + 1, [d1, d2, d3])]) (fun hf => [some (.pointer (some ⟨w.heap.size, 0, none⟩)), some (.agg #[.float .f64 a1, .float .f64 a2, .float .f64 a3]), some (.agg #[.float .f64 x1, .float .f64 x2, .float .f64 x3]), some (.float .f64 d1), some (.pointer (some ⟨w.heap.size, 3, none⟩)), some (.agg #[.float .f64 b1, .float .f64 b2, .float .f64 b3]), some (.agg #[.float .f64 x1, .float .f64 x2, .float .f64 x3]), some (.float .f64 d2), some (.pointer (some ⟨w.heap.size, 6, none⟩)), some (.agg #[.float .f64 c1, .float .f64 c2, .float .f64 c3]), some (.agg #[.float .f64 x1, .float .f64 x2, .float .f64 x3]), some (.float .f64 d3), some (.agg #[.float .f64 d1, .float .f64 d2, .float .f64 d3]), some (undef)]) [] [⟨13, 2, 0, [d1, d2, d3]⟩] [.pointer (some ⟨w.heap.size, 0, none⟩), .agg #[.float .f64 a1, .float .f64 a2, .float .f64 a3], .agg #[.float .f64 x1, .float .f64 x2, .float .f64 x3], .float .f64 d1, .pointer (some ⟨w.heap.size, 3, none⟩), .agg #[.float .f64 b1, .float .f64 b2, .float .f64 b3], .agg #[.float .f64 x1, .float .f64 x2, .float .f64 x3], .float .f64 d2, .pointer (some ⟨w.heap.size, 6, none⟩), .agg #[.float .f64 c1, .float .f64 c2, .float .f64 c3], .agg #[.float .f64 x1, .float .f64 x2, .float .f64 x3], .float .f64 d3, .agg #[.float .f64 d1, .float .f64 d2, .float .f64 d3], undef] ds (by kernel_rfl) (by rw [hds]; rfl) hap (by decide +kernel) (by decide +kernel) K ?ha ?haj ?hai ?hsi ?hss ?hsa ?hsw ?htg ?hE2 ?hE3 ?hE4 ?hL1 ?hL2 ?hL3 ?alloc ?step ?store ?fin
 case ha => intro al hal; cases hal
 case haj => intro al hal al' hal' e; cases hal
 case hai => intro al hal; cases hal
 case hsi => exact quq _ _ _ rfl rfl
 case hss => exact qss rfl
 case hsa =>
  intro st hst al hal
  cases hal
 case hsw =>
  intro st hst al hal e
  cases hal
 case htg =>
  intro st hst
  rcases List.mem_singleton.1 hst with rfl
  · exact .inl ⟨_, _, rfl, show 0 + 3 ≤ 3 by decide⟩
 case hE2 =>
  intro hf j h1 h2
  have n2 : 2 ≠ j := h1 _ qh0
  rcases j with _ | _ | _ | j <;> first | rfl | exact absurd rfl n2
 case hE3 =>
  intro hf st hst g us e
  rcases List.mem_singleton.1 hst with rfl
  · obtain ⟨rfl, rfl⟩ := Prod.mk.inj (Option.some.inj (Option.some.inj e)); rfl
 case hE4 =>
  intro hf al hal
  cases hal
 case hL1 => intro hf; rfl
 case hL2 =>
  intro hf i hi hna
  rcases (ql14 hi) with rfl | rfl | rfl | rfl | rfl | rfl | rfl | rfl | rfl | rfl | rfl | rfl | rfl | rfl <;> first | rfl
 case hL3 => intro hf al hal; cases hal
 case alloc =>
  intro al hal o ρ W ho
  cases hal
 case step =>
  intro L W i o ho hs ha hd hB
  rcases (ql14 (Array.getElem?_eq_some_iff.1 ho).1) with rfl | rfl | rfl | rfl | rfl | rfl | rfl | rfl | rfl | rfl | rfl | rfl | rfl | rfl
  · obtain rfl := qsj ho
    refine qvr fun ρ hA => ?_
    have hc := qrc hA
    have h0 : ρ (.tmp 2) = .pointer (some ⟨w.heap.size, 0, none⟩) := (qpn hA (by rw [hds]; decide)).trans rfl
    clear hA hd hB ho hs ha
    unfold execOp; go_simp
  · obtain rfl := qsj ho
    have b := hB 0 _ _ rfl (qns rfl)
    have c0 := b.at_ 0 _ rfl
    have c1 := b.at_ 1 _ rfl
    have c2 := b.at_ 2 _ rfl
    clear b
    refine qvr fun ρ hA => ?_
    have hc := qrc hA
    have h0 : ρ (.tmp 5) = .pointer (some ⟨w.heap.size, 0, none⟩) := qpe 0 hA hap (by rw [hds]; rfl) (hd 0 (by decide +kernel) (by intro al hal; cases hal)) (show 5 < 18 by decide)
    clear hA hd hB ho hs ha
    unfold execOp; go_simp
  · obtain rfl := qsj ho
    have b := hB 1 _ _ rfl (qns rfl)
    have c0 := b.at_ 0 _ rfl
    have c1 := b.at_ 1 _ rfl
    have c2 := b.at_ 2 _ rfl
    clear b
    refine qvr fun ρ hA => ?_
    have hc := qrc hA
    have h0 : ρ (.tmp 3) = .pointer (some ⟨w.heap.size + 1, 0, none⟩) := (qpn hA (by rw [hds]; decide)).trans rfl
    clear hA hd hB ho hs ha
    unfold execOp; go_simp
  · obtain rfl := qsj ho
    refine .call 179 #[.agg #[.float .f64 a1, .float .f64 a2, .float .f64 a3], .agg #[.float .f64 x1, .float .f64 x2, .float .f64 x3]] ?_ (C1.out W)
    generalize hA : (puts ds L _).eval = ρ
    have hc := qrc hA
    have hg := qrg hA
    have h0 : ρ (.tmp 6) = .agg #[.float .f64 a1, .float .f64 a2, .float .f64 a3] := qpe 1 hA hap (by rw [hds]; rfl) (hd 1 (by decide +kernel) (by intro al hal; cases hal)) (show 6 < 18 by decide)
    have h1 : ρ (.tmp 7) = .agg #[.float .f64 x1, .float .f64 x2, .float .f64 x3] := qpe 2 hA hap (by rw [hds]; rfl) (hd 2 (by decide +kernel) (by intro al hal; cases hal)) (show 7 < 18 by decide)
    have hf := Tryz.func179
    unfold execOp; go_simp
  · obtain rfl := qsj ho
    refine qvr fun ρ hA => ?_
    have hc := qrc hA
    have h0 : ρ (.tmp 2) = .pointer (some ⟨w.heap.size, 0, none⟩) := (qpn hA (by rw [hds]; decide)).trans rfl
    clear hA hd hB ho hs ha
    unfold execOp; go_simp
  · obtain rfl := qsj ho
    have b := hB 0 _ _ rfl (qns rfl)
    have c3 := b.at_ 3 _ rfl
    have c4 := b.at_ 4 _ rfl
    have c5 := b.at_ 5 _ rfl
    clear b
    refine qvr fun ρ hA => ?_
    have hc := qrc hA
    have h0 : ρ (.tmp 9) = .pointer (some ⟨w.heap.size, 3, none⟩) := qpe 4 hA hap (by rw [hds]; rfl) (hd 4 (by decide +kernel) (by intro al hal; cases hal)) (show 9 < 18 by decide)
    clear hA hd hB ho hs ha
    unfold execOp; go_simp
  · obtain rfl := qsj ho
    have b := hB 1 _ _ rfl (qns rfl)
    have c0 := b.at_ 0 _ rfl
    have c1 := b.at_ 1 _ rfl
    have c2 := b.at_ 2 _ rfl
    clear b
    refine qvr fun ρ hA => ?_
    have hc := qrc hA
    have h0 : ρ (.tmp 3) = .pointer (some ⟨w.heap.size + 1, 0, none⟩) := (qpn hA (by rw [hds]; decide)).trans rfl
    clear hA hd hB ho hs ha
    unfold execOp; go_simp
  · obtain rfl := qsj ho
    refine .call 179 #[.agg #[.float .f64 b1, .float .f64 b2, .float .f64 b3], .agg #[.float .f64 x1, .float .f64 x2, .float .f64 x3]] ?_ (C2.out W)
    generalize hA : (puts ds L _).eval = ρ
    have hc := qrc hA
    have hg := qrg hA
    have h0 : ρ (.tmp 10) = .agg #[.float .f64 b1, .float .f64 b2, .float .f64 b3] := qpe 5 hA hap (by rw [hds]; rfl) (hd 5 (by decide +kernel) (by intro al hal; cases hal)) (show 10 < 18 by decide)
    have h1 : ρ (.tmp 11) = .agg #[.float .f64 x1, .float .f64 x2, .float .f64 x3] := qpe 6 hA hap (by rw [hds]; rfl) (hd 6 (by decide +kernel) (by intro al hal; cases hal)) (show 11 < 18 by decide)
    have hf := Tryz.func179
    unfold execOp; go_simp
  · obtain rfl := qsj ho
    refine qvr fun ρ hA => ?_
    have hc := qrc hA
    have h0 : ρ (.tmp 2) = .pointer (some ⟨w.heap.size, 0, none⟩) := (qpn hA (by rw [hds]; decide)).trans rfl
    clear hA hd hB ho hs ha
    unfold execOp; go_simp
  · obtain rfl := qsj ho
    have b := hB 0 _ _ rfl (qns rfl)
    have c6 := b.at_ 6 _ rfl
    have c7 := b.at_ 7 _ rfl
    have c8 := b.at_ 8 _ rfl
    clear b
    refine qvr fun ρ hA => ?_
    have hc := qrc hA
    have h0 : ρ (.tmp 13) = .pointer (some ⟨w.heap.size, 6, none⟩) := qpe 8 hA hap (by rw [hds]; rfl) (hd 8 (by decide +kernel) (by intro al hal; cases hal)) (show 13 < 18 by decide)
    clear hA hd hB ho hs ha
    unfold execOp; go_simp
  · obtain rfl := qsj ho
    have b := hB 1 _ _ rfl (qns rfl)
    have c0 := b.at_ 0 _ rfl
    have c1 := b.at_ 1 _ rfl
    have c2 := b.at_ 2 _ rfl
    clear b
    refine qvr fun ρ hA => ?_
    have hc := qrc hA
    have h0 : ρ (.tmp 3) = .pointer (some ⟨w.heap.size + 1, 0, none⟩) := (qpn hA (by rw [hds]; decide)).trans rfl
    clear hA hd hB ho hs ha
    unfold execOp; go_simp
  · obtain rfl := qsj ho
    refine .call 179 #[.agg #[.float .f64 c1, .float .f64 c2, .float .f64 c3], .agg #[.float .f64 x1, .float .f64 x2, .float .f64 x3]] ?_ (C3.out W)
    generalize hA : (puts ds L _).eval = ρ
    have hc := qrc hA
    have hg := qrg hA
    have h0 : ρ (.tmp 14) = .agg #[.float .f64 c1, .float .f64 c2, .float .f64 c3] := qpe 9 hA hap (by rw [hds]; rfl) (hd 9 (by decide +kernel) (by intro al hal; cases hal)) (show 14 < 18 by decide)
    have h1 : ρ (.tmp 15) = .agg #[.float .f64 x1, .float .f64 x2, .float .f64 x3] := qpe 10 hA hap (by rw [hds]; rfl) (hd 10 (by decide +kernel) (by intro al hal; cases hal)) (show 15 < 18 by decide)
    have hf := Tryz.func179
    unfold execOp; go_simp
  · obtain rfl := qsj ho
    refine qvr fun ρ hA => ?_
    have hc := qrc hA
    have h0 : ρ (.tmp 8) = .float .f64 d1 := qpe 3 hA hap (by rw [hds]; rfl) (hd 3 (by decide +kernel) (by intro al hal; cases hal)) (show 8 < 18 by decide)
    have h1 : ρ (.tmp 12) = .float .f64 d2 := qpe 7 hA hap (by rw [hds]; rfl) (hd 7 (by decide +kernel) (by intro al hal; cases hal)) (show 12 < 18 by decide)
    have h2 : ρ (.tmp 16) = .float .f64 d3 := qpe 11 hA hap (by rw [hds]; rfl) (hd 11 (by decide +kernel) (by intro al hal; cases hal)) (show 16 < 18 by decide)
    clear hA hd hB ho hs ha
    unfold execOp; go_simp
  · exact absurd rfl (hs _ qh0)
 case store =>
  intro st hst L W o h us ho hd hal hC b
  rcases List.mem_singleton.1 hst with rfl
  · dsimp only at ho hd hal hC b ⊢
    obtain rfl := qsj ho
    obtain ⟨rfl, rfl⟩ := hC _ _ rfl
    have c0 := b.at_ 0 _ rfl
    have f0 := b.fr 0 _ rfl
    have c1 := b.at_ 1 _ rfl
    have f1 := b.fr 1 _ rfl
    have c2 := b.at_ 2 _ rfl
    have f2 := b.fr 2 _ rfl
    refine ⟨?_, rfl⟩
    generalize hA : (puts ds L _).eval = ρ
    have h0 : ρ (.tmp 4) = .pointer (some ⟨w.heap.size + 1 + 1, 0, none⟩) := (qpn hA (by rw [hds]; decide)).trans rfl
    have h1 : ρ (.tmp 17) = .agg #[.float .f64 d1, .float .f64 d2, .float .f64 d3] := qpe 12 hA hap (by rw [hds]; rfl) (hd 12 (by decide +kernel) (by intro al hal; cases hal)) (show 17 < 18 by decide)
    have hst' := @fstore
    clear hA hd b ho hal hC
    simp only [putW]
    unfold execOp; go_simp
 case fin =>
  intro hf W5 K
  rw [hds]
  clear hds hap ds C1 C2 C3
  simp only [List.set_cons_zero, List.set_cons_succ, puts, Act.put, List.setIfInBounds_toArray]
  replace K := Lib.hid K
  go_wp2_with fail
  replace K := K.out
  have e0 := K.ce 2 0 rfl rfl
  have e1 := K.ce 2 1 rfl rfl
  have e2 := K.ce 2 2 rfl rfl
  (try simp only [Exit.vnBlock, Exit.then])
  refine bodyPost_ret (v := .agg #[.float .f64 d1, .float .f64 d2, .float .f64 d3]) ?_ rfl ⟨rfl, K.old⟩
  rw [results_cell1 rfl]; go_simp
theorem vapply_ok {a1 a2 a3 b1 b2 b3 c1 c2 c3 x1 x2 x3 d1 d2 d3 q1 q2 q3 : Nat} {k : Int} (C1 : Hid (∀ w, Calls Tryz.prog 145 #[.agg #[.float .f64 a1, .float .f64 a2, .float .f64 a3, .float .f64 b1, .float .f64 b2, .float .f64 b3, .float .f64 c1, .float .f64 c2, .float .f64 c3]] w fun e w' => e = .returned (.bool true) ∧ Below w.heap.size w w')) (C2 : Hid (∀ w, Calls Tryz.prog 146 #[.agg #[.float .f64 x1, .float .f64 x2, .float .f64 x3]] w fun e w' => e = .returned (.bool true) ∧ Below w.heap.size w w')) (C3 : Hid (∀ w, Calls Tryz.prog 148 #[.agg #[.float .f64 a1, .float .f64 a2, .float .f64 a3, .float .f64 b1, .float .f64 b2, .float .f64 b3, .float .f64 c1, .float .f64 c2, .float .f64 c3], .agg #[.float .f64 x1, .float .f64 x2, .float .f64 x3]] w fun e w' => e = .returned (.agg #[.float .f64 d1, .float .f64 d2, .float .f64 d3]) ∧ Below w.heap.size w w')) (C4 : Hid (∀ w, Calls Tryz.prog 147 #[.agg #[.float .f64 d1, .float .f64 d2, .float .f64 d3]] w fun e w' => e = .returned (.tuple #[.agg #[.float .f64 q1, .float .f64 q2, .float .f64 q3], .int .i64 k]) ∧ Below w.heap.size w w')) (w : World) : Calls Tryz.prog 98 #[.agg #[.float .f64 a1, .float .f64 a2, .float .f64 a3, .float .f64 b1, .float .f64 b2, .float .f64 b3, .float .f64 c1, .float .f64 c2, .float .f64 c3], .agg #[.float .f64 x1, .float .f64 x2, .float .f64 x3]] w fun e w' => e = .returned (.tuple #[.agg #[.float .f64 q1, .float .f64 q2, .float .f64 q3], .int .i64 k]) ∧ Below w.heap.size w w' := by
 have K0 := kw3 w 106 39 39 [a1, a2, a3, b1, b2, b3, c1, c2, c3] [x1, x2, x3] [0, 0, 0]
 simp only [objW, List.map_cons, List.map_nil] at K0
 have hst := @fstore
 replace K0 := Lib.hid K0
 go_enter Tryz.func98, Tryz.ntmps98
 go_wp2_with fail
 have K := K0.out
 clear K0
 generalize ((w.alloc _).alloc _).alloc _ = wr at *
 refine (C1.out wr).mono ?_
 rintro _ v1 ⟨rfl, hb⟩
 replace K := K.on hb
 clear hb
 have c1_0 := K.ce 1 0 rfl rfl
 have c1_1 := K.ce 1 1 rfl rfl
 have c1_2 := K.ce 1 2 rfl rfl
 replace K := Lib.hid K
 go_wp2_with fail
 replace K := K.out
 refine (C2.out v1).mono ?_
 rintro _ v2 ⟨rfl, hb⟩
 clear c1_0 c1_1 c1_2
 replace K := K.on hb
 clear hb
 have c0_0 := K.ce 0 0 rfl rfl
 have c0_1 := K.ce 0 1 rfl rfl
 have c0_2 := K.ce 0 2 rfl rfl
 have c0_3 := K.ce 0 3 rfl rfl
 have c0_4 := K.ce 0 4 rfl rfl
 have c0_5 := K.ce 0 5 rfl rfl
 have c0_6 := K.ce 0 6 rfl rfl
 have c0_7 := K.ce 0 7 rfl rfl
 have c0_8 := K.ce 0 8 rfl rfl
 have c1_0 := K.ce 1 0 rfl rfl
 have c1_1 := K.ce 1 1 rfl rfl
 have c1_2 := K.ce 1 2 rfl rfl
 replace K := Lib.hid K
 go_wp2_with fail
 replace K := K.out
 refine (C3.out v2).mono ?_
 rintro _ v3 ⟨rfl, hb⟩
 clear c0_0 c0_1 c0_2 c0_3 c0_4 c0_5 c0_6 c0_7 c0_8 c1_0 c1_1 c1_2
 replace K := K.on hb
 clear hb
 replace K := Lib.hid K
 go_wp2_with fail
 replace K := K.out
 refine (C4.out v3).mono ?_
 rintro _ v4 ⟨rfl, hb⟩
 replace K := K.on hb
 clear hb
 have c2_0 := K.ce 2 0 rfl rfl
 have f2_0 := K.fe 2 0 rfl rfl
 have c2_1 := K.ce 2 1 rfl rfl
 have f2_1 := K.fe 2 1 rfl rfl
 have c2_2 := K.ce 2 2 rfl rfl
 have f2_2 := K.fe 2 2 rfl rfl
 replace K := Lib.hid K
 go_wp2_with fail
 replace K := K.out
 (try simp only [Exit.vnBlock, Exit.then])
 refine bodyPost_ret (v := .tuple #[.agg #[.float .f64 q1, .float .f64 q2, .float .f64 q3], .int .i64 k]) ?_ rfl ⟨rfl, ?_⟩
 · rw [results_cell_tmp rfl]; go_simp
 · exact (((K.old).setCell (by first | exact Nat.le_refl _ | (dsimp only; omega)) _).setCell (by first | exact Nat.le_refl _ | (dsimp only; omega)) _).setCell (by first | exact Nat.le_refl _ | (dsimp only; omega)) _
theorem vapply_nm {a1 a2 a3 b1 b2 b3 c1 c2 c3 x1 x2 x3 : Nat} (C1 : Hid (∀ w, Calls Tryz.prog 145 #[.agg #[.float .f64 a1, .float .f64 a2, .float .f64 a3, .float .f64 b1, .float .f64 b2, .float .f64 b3, .float .f64 c1, .float .f64 c2, .float .f64 c3]] w fun e w' => e = .returned (.bool false) ∧ Below w.heap.size w w')) (w : World) : Calls Tryz.prog 98 #[.agg #[.float .f64 a1, .float .f64 a2, .float .f64 a3, .float .f64 b1, .float .f64 b2, .float .f64 b3, .float .f64 c1, .float .f64 c2, .float .f64 c3], .agg #[.float .f64 x1, .float .f64 x2, .float .f64 x3]] w fun e w' => e = .returned (.tuple #[.agg #[.float .f64 0, .float .f64 0, .float .f64 0], .int .i64 3]) ∧ Below w.heap.size w w' := by
 have K0 := kw3 w 106 39 39 [a1, a2, a3, b1, b2, b3, c1, c2, c3] [x1, x2, x3] [0, 0, 0]
 simp only [objW, List.map_cons, List.map_nil] at K0
 have hst := @fstore
 replace K0 := Lib.hid K0
 go_enter Tryz.func98, Tryz.ntmps98
 go_wp2_with fail
 have K := K0.out
 clear K0
 generalize ((w.alloc _).alloc _).alloc _ = wr at *
 refine (C1.out wr).mono ?_
 rintro _ v1 ⟨rfl, hb⟩
 replace K := K.on hb
 clear hb
 have c2_0 := K.ce 2 0 rfl rfl
 have f2_0 := K.fe 2 0 rfl rfl
 have c2_1 := K.ce 2 1 rfl rfl
 have f2_1 := K.fe 2 1 rfl rfl
 have c2_2 := K.ce 2 2 rfl rfl
 have f2_2 := K.fe 2 2 rfl rfl
 replace K := Lib.hid K
 go_wp2_with fail
 replace K := K.out
 (try simp only [Exit.vnBlock, Exit.then])
 refine bodyPost_ret (v := .tuple #[.agg #[.float .f64 0, .float .f64 0, .float .f64 0], .int .i64 3]) ?_ rfl ⟨rfl, ?_⟩
 · rw [results_cell_tmp rfl]; go_simp
 · exact (((K.old).setCell (by first | exact Nat.le_refl _ | (dsimp only; omega)) _).setCell (by first | exact Nat.le_refl _ | (dsimp only; omega)) _).setCell (by first | exact Nat.le_refl _ | (dsimp only; omega)) _
theorem vapply_nv {a1 a2 a3 b1 b2 b3 c1 c2 c3 x1 x2 x3 : Nat} (C1 : Hid (∀ w, Calls Tryz.prog 145 #[.agg #[.float .f64 a1, .float .f64 a2, .float .f64 a3, .float .f64 b1, .float .f64 b2, .float .f64 b3, .float .f64 c1, .float .f64 c2, .float .f64 c3]] w fun e w' => e = .returned (.bool true) ∧ Below w.heap.size w w')) (C2 : Hid (∀ w, Calls Tryz.prog 146 #[.agg #[.float .f64 x1, .float .f64 x2, .float .f64 x3]] w fun e w' => e = .returned (.bool false) ∧ Below w.heap.size w w')) (w : World) : Calls Tryz.prog 98 #[.agg #[.float .f64 a1, .float .f64 a2, .float .f64 a3, .float .f64 b1, .float .f64 b2, .float .f64 b3, .float .f64 c1, .float .f64 c2, .float .f64 c3], .agg #[.float .f64 x1, .float .f64 x2, .float .f64 x3]] w fun e w' => e = .returned (.tuple #[.agg #[.float .f64 0, .float .f64 0, .float .f64 0], .int .i64 3]) ∧ Below w.heap.size w w' := by
 have K0 := kw3 w 106 39 39 [a1, a2, a3, b1, b2, b3, c1, c2, c3] [x1, x2, x3] [0, 0, 0]
 simp only [objW, List.map_cons, List.map_nil] at K0
 have hst := @fstore
 replace K0 := Lib.hid K0
 go_enter Tryz.func98, Tryz.ntmps98
 go_wp2_with fail
 have K := K0.out
 clear K0
 generalize ((w.alloc _).alloc _).alloc _ = wr at *
 refine (C1.out wr).mono ?_
 rintro _ v1 ⟨rfl, hb⟩
 replace K := K.on hb
 clear hb
 have c1_0 := K.ce 1 0 rfl rfl
 have c1_1 := K.ce 1 1 rfl rfl
 have c1_2 := K.ce 1 2 rfl rfl
 replace K := Lib.hid K
 go_wp2_with fail
 replace K := K.out
 refine (C2.out v1).mono ?_
 rintro _ v2 ⟨rfl, hb⟩
 clear c1_0 c1_1 c1_2
 replace K := K.on hb
 clear hb
 have c2_0 := K.ce 2 0 rfl rfl
 have f2_0 := K.fe 2 0 rfl rfl
 have c2_1 := K.ce 2 1 rfl rfl
 have f2_1 := K.fe 2 1 rfl rfl
 have c2_2 := K.ce 2 2 rfl rfl
 have f2_2 := K.fe 2 2 rfl rfl
 replace K := Lib.hid K
 go_wp2_with fail
 replace K := K.out
 (try simp only [Exit.vnBlock, Exit.then])
 refine bodyPost_ret (v := .tuple #[.agg #[.float .f64 0, .float .f64 0, .float .f64 0], .int .i64 3]) ?_ rfl ⟨rfl, ?_⟩
 · rw [results_cell_tmp rfl]; go_simp
 · exact (((K.old).setCell (by first | exact Nat.le_refl _ | (dsimp only; omega)) _).setCell (by first | exact Nat.le_refl _ | (dsimp only; omega)) _).setCell (by first | exact Nat.le_refl _ | (dsimp only; omega)) _


theorem vaxis_run (a : Int) (w : World) : Calls Tryz.prog 130 #[.int .i64 a] w fun e w' => e = .returned (.bool (decide (0 ≤ a ∧ a ≤ 2))) ∧ Below w.heap.size w w' := by
 by_cases h1 : 0 ≤ a
 · have t1 : decide (0 ≤ a) = true := decide_eq_true h1
   by_cases h2 : a ≤ 2
   · have t2 : decide (a ≤ 2) = true := decide_eq_true h2
     rw [decide_eq_true (show 0 ≤ a ∧ a ≤ 2 from ⟨h1, h2⟩)]
     clear h1 h2
     go_enter Tryz.func130, Tryz.ntmps130
     go_wp2_with fail
     go_ret
     exact ⟨rfl, Below.refl _ w⟩
   · have t2 : decide (a ≤ 2) = false := decide_eq_false h2
     rw [decide_eq_false (show ¬ (0 ≤ a ∧ a ≤ 2) from fun h => h2 h.2)]
     clear h1 h2
     go_enter Tryz.func130, Tryz.ntmps130
     go_wp2_with fail
     go_ret
     exact ⟨rfl, Below.refl _ w⟩
 · have t1 : decide (0 ≤ a) = false := decide_eq_false h1
   rw [decide_eq_false (show ¬ (0 ≤ a ∧ a ≤ 2) from fun h => h1 h.1)]
   clear h1
   go_enter Tryz.func130, Tryz.ntmps130
   go_wp2_with fail
   go_ret
   exact ⟨rfl, Below.refl _ w⟩
theorem vturned_ok0 {x s c n y0 y1 y2 y3 y4 y5 y6 y7 y8 : Nat} {k : Int} (C1 : Hid (∀ w, Calls Tryz.prog 130 #[.int .i64 0] w fun e w' => e = .returned (.bool true) ∧ Below w.heap.size w w')) (C2 : Hid (∀ w, Calls Tryz.prog 43 #[.float .f64 x] w fun e w' => e = .returned (.tuple #[.float .f64 s, .float .f64 c, .int .i64 0]) ∧ Below w.heap.size w w')) (N : ∀ w, (Op.unary .neg (.float .f64 s)).run Tryz.prog w = .ok (.float .f64 n) w) (C3 : Hid (∀ w, Calls Tryz.prog 144 #[.agg #[.float .f64 4607182418800017408, .float .f64 0, .float .f64 0, .float .f64 0, .float .f64 c, .float .f64 n, .float .f64 0, .float .f64 s, .float .f64 c]] w fun e w' => e = .returned (.tuple #[.agg #[.float .f64 y0, .float .f64 y1, .float .f64 y2, .float .f64 y3, .float .f64 y4, .float .f64 y5, .float .f64 y6, .float .f64 y7, .float .f64 y8], .int .i64 k]) ∧ Below w.heap.size w w')) (w : World) : Calls Tryz.prog 97 #[.int .i64 0, .float .f64 x] w fun e w' => e = .returned (.tuple #[.agg #[.float .f64 y0, .float .f64 y1, .float .f64 y2, .float .f64 y3, .float .f64 y4, .float .f64 y5, .float .f64 y6, .float .f64 y7, .float .f64 y8], .int .i64 k]) ∧ Below w.heap.size w w' := by
 have K0 := kw1 w 106 [0, 0, 0, 0, 0, 0, 0, 0, 0]
 simp only [objW, List.map_cons, List.map_nil] at K0
 have hst := @fstore
 replace K0 := Lib.hid K0
 go_enter Tryz.func97, Tryz.ntmps97
 go_wp2_with fail
 have K := K0.out
 clear K0
 generalize w.alloc _ = wr at *
 refine (C1.out wr).mono ?_
 rintro _ v1 ⟨rfl, hb⟩
 replace K := K.on hb
 clear hb
 replace K := Lib.hid K
 go_wp2_with fail
 replace K := K.out
 refine (C2.out v1).mono ?_
 rintro _ v2 ⟨rfl, hb⟩
 replace K := K.on hb
 clear hb
 replace K := Lib.hid K
 go_wp2_with fail
 replace K := K.out
 refine (C3.out _).mono ?_
 rintro _ v3 ⟨rfl, hb⟩
 have K := (K.new 106 [4607182418800017408, 0, 0, 0, c, n, 0, s, c]).on hb
 simp only [List.cons_append, List.nil_append] at K
 clear hb C1 C2 C3 N
 have c0_0 := K.ce 0 0 rfl rfl
 have f0_0 := K.fe 0 0 rfl rfl
 have c0_1 := K.ce 0 1 rfl rfl
 have f0_1 := K.fe 0 1 rfl rfl
 have c0_2 := K.ce 0 2 rfl rfl
 have f0_2 := K.fe 0 2 rfl rfl
 have c0_3 := K.ce 0 3 rfl rfl
 have f0_3 := K.fe 0 3 rfl rfl
 have c0_4 := K.ce 0 4 rfl rfl
 have f0_4 := K.fe 0 4 rfl rfl
 have c0_5 := K.ce 0 5 rfl rfl
 have f0_5 := K.fe 0 5 rfl rfl
 have c0_6 := K.ce 0 6 rfl rfl
 have f0_6 := K.fe 0 6 rfl rfl
 have c0_7 := K.ce 0 7 rfl rfl
 have f0_7 := K.fe 0 7 rfl rfl
 have c0_8 := K.ce 0 8 rfl rfl
 have f0_8 := K.fe 0 8 rfl rfl
 replace K := Lib.hid K
 go_wp2_with fail
 replace K := K.out
 (try simp only [Exit.vnBlock, Exit.then])
 refine bodyPost_ret (v := .tuple #[.agg #[.float .f64 y0, .float .f64 y1, .float .f64 y2, .float .f64 y3, .float .f64 y4, .float .f64 y5, .float .f64 y6, .float .f64 y7, .float .f64 y8], .int .i64 k]) ?_ rfl ⟨rfl, ?_⟩
 · rw [results_cell_tmp rfl]; go_simp
 · exact (((((((((K.old).setCell (by first | exact Nat.le_refl _ | (dsimp only; omega)) _).setCell (by first | exact Nat.le_refl _ | (dsimp only; omega)) _).setCell (by first | exact Nat.le_refl _ | (dsimp only; omega)) _).setCell (by first | exact Nat.le_refl _ | (dsimp only; omega)) _).setCell (by first | exact Nat.le_refl _ | (dsimp only; omega)) _).setCell (by first | exact Nat.le_refl _ | (dsimp only; omega)) _).setCell (by first | exact Nat.le_refl _ | (dsimp only; omega)) _).setCell (by first | exact Nat.le_refl _ | (dsimp only; omega)) _).setCell (by first | exact Nat.le_refl _ | (dsimp only; omega)) _
theorem vturned_ok1 {x s c n y0 y1 y2 y3 y4 y5 y6 y7 y8 : Nat} {k : Int} (C1 : Hid (∀ w, Calls Tryz.prog 130 #[.int .i64 1] w fun e w' => e = .returned (.bool true) ∧ Below w.heap.size w w')) (C2 : Hid (∀ w, Calls Tryz.prog 43 #[.float .f64 x] w fun e w' => e = .returned (.tuple #[.float .f64 s, .float .f64 c, .int .i64 0]) ∧ Below w.heap.size w w')) (N : ∀ w, (Op.unary .neg (.float .f64 s)).run Tryz.prog w = .ok (.float .f64 n) w) (C3 : Hid (∀ w, Calls Tryz.prog 144 #[.agg #[.float .f64 c, .float .f64 0, .float .f64 s, .float .f64 0, .float .f64 4607182418800017408, .float .f64 0, .float .f64 n, .float .f64 0, .float .f64 c]] w fun e w' => e = .returned (.tuple #[.agg #[.float .f64 y0, .float .f64 y1, .float .f64 y2, .float .f64 y3, .float .f64 y4, .float .f64 y5, .float .f64 y6, .float .f64 y7, .float .f64 y8], .int .i64 k]) ∧ Below w.heap.size w w')) (w : World) : Calls Tryz.prog 97 #[.int .i64 1, .float .f64 x] w fun e w' => e = .returned (.tuple #[.agg #[.float .f64 y0, .float .f64 y1, .float .f64 y2, .float .f64 y3, .float .f64 y4, .float .f64 y5, .float .f64 y6, .float .f64 y7, .float .f64 y8], .int .i64 k]) ∧ Below w.heap.size w w' := by
 have K0 := kw1 w 106 [0, 0, 0, 0, 0, 0, 0, 0, 0]
 simp only [objW, List.map_cons, List.map_nil] at K0
 have hst := @fstore
 replace K0 := Lib.hid K0
 go_enter Tryz.func97, Tryz.ntmps97
 go_wp2_with fail
 have K := K0.out
 clear K0
 generalize w.alloc _ = wr at *
 refine (C1.out wr).mono ?_
 rintro _ v1 ⟨rfl, hb⟩
 replace K := K.on hb
 clear hb
 replace K := Lib.hid K
 go_wp2_with fail
 replace K := K.out
 refine (C2.out v1).mono ?_
 rintro _ v2 ⟨rfl, hb⟩
 replace K := K.on hb
 clear hb
 replace K := Lib.hid K
 go_wp2_with fail
 replace K := K.out
 refine (C3.out _).mono ?_
 rintro _ v3 ⟨rfl, hb⟩
 have K := (K.new 106 [c, 0, s, 0, 4607182418800017408, 0, n, 0, c]).on hb
 simp only [List.cons_append, List.nil_append] at K
 clear hb C1 C2 C3 N
 have c0_0 := K.ce 0 0 rfl rfl
 have f0_0 := K.fe 0 0 rfl rfl
 have c0_1 := K.ce 0 1 rfl rfl
 have f0_1 := K.fe 0 1 rfl rfl
 have c0_2 := K.ce 0 2 rfl rfl
 have f0_2 := K.fe 0 2 rfl rfl
 have c0_3 := K.ce 0 3 rfl rfl
 have f0_3 := K.fe 0 3 rfl rfl
 have c0_4 := K.ce 0 4 rfl rfl
 have f0_4 := K.fe 0 4 rfl rfl
 have c0_5 := K.ce 0 5 rfl rfl
 have f0_5 := K.fe 0 5 rfl rfl
 have c0_6 := K.ce 0 6 rfl rfl
 have f0_6 := K.fe 0 6 rfl rfl
 have c0_7 := K.ce 0 7 rfl rfl
 have f0_7 := K.fe 0 7 rfl rfl
 have c0_8 := K.ce 0 8 rfl rfl
 have f0_8 := K.fe 0 8 rfl rfl
 replace K := Lib.hid K
 go_wp2_with fail
 replace K := K.out
 (try simp only [Exit.vnBlock, Exit.then])
 refine bodyPost_ret (v := .tuple #[.agg #[.float .f64 y0, .float .f64 y1, .float .f64 y2, .float .f64 y3, .float .f64 y4, .float .f64 y5, .float .f64 y6, .float .f64 y7, .float .f64 y8], .int .i64 k]) ?_ rfl ⟨rfl, ?_⟩
 · rw [results_cell_tmp rfl]; go_simp
 · exact (((((((((K.old).setCell (by first | exact Nat.le_refl _ | (dsimp only; omega)) _).setCell (by first | exact Nat.le_refl _ | (dsimp only; omega)) _).setCell (by first | exact Nat.le_refl _ | (dsimp only; omega)) _).setCell (by first | exact Nat.le_refl _ | (dsimp only; omega)) _).setCell (by first | exact Nat.le_refl _ | (dsimp only; omega)) _).setCell (by first | exact Nat.le_refl _ | (dsimp only; omega)) _).setCell (by first | exact Nat.le_refl _ | (dsimp only; omega)) _).setCell (by first | exact Nat.le_refl _ | (dsimp only; omega)) _).setCell (by first | exact Nat.le_refl _ | (dsimp only; omega)) _
theorem vturned_ok2 {x s c n y0 y1 y2 y3 y4 y5 y6 y7 y8 : Nat} {k : Int} (C1 : Hid (∀ w, Calls Tryz.prog 130 #[.int .i64 2] w fun e w' => e = .returned (.bool true) ∧ Below w.heap.size w w')) (C2 : Hid (∀ w, Calls Tryz.prog 43 #[.float .f64 x] w fun e w' => e = .returned (.tuple #[.float .f64 s, .float .f64 c, .int .i64 0]) ∧ Below w.heap.size w w')) (N : ∀ w, (Op.unary .neg (.float .f64 s)).run Tryz.prog w = .ok (.float .f64 n) w) (C3 : Hid (∀ w, Calls Tryz.prog 144 #[.agg #[.float .f64 c, .float .f64 n, .float .f64 0, .float .f64 s, .float .f64 c, .float .f64 0, .float .f64 0, .float .f64 0, .float .f64 4607182418800017408]] w fun e w' => e = .returned (.tuple #[.agg #[.float .f64 y0, .float .f64 y1, .float .f64 y2, .float .f64 y3, .float .f64 y4, .float .f64 y5, .float .f64 y6, .float .f64 y7, .float .f64 y8], .int .i64 k]) ∧ Below w.heap.size w w')) (w : World) : Calls Tryz.prog 97 #[.int .i64 2, .float .f64 x] w fun e w' => e = .returned (.tuple #[.agg #[.float .f64 y0, .float .f64 y1, .float .f64 y2, .float .f64 y3, .float .f64 y4, .float .f64 y5, .float .f64 y6, .float .f64 y7, .float .f64 y8], .int .i64 k]) ∧ Below w.heap.size w w' := by
 have K0 := kw1 w 106 [0, 0, 0, 0, 0, 0, 0, 0, 0]
 simp only [objW, List.map_cons, List.map_nil] at K0
 have hst := @fstore
 replace K0 := Lib.hid K0
 go_enter Tryz.func97, Tryz.ntmps97
 go_wp2_with fail
 have K := K0.out
 clear K0
 generalize w.alloc _ = wr at *
 refine (C1.out wr).mono ?_
 rintro _ v1 ⟨rfl, hb⟩
 replace K := K.on hb
 clear hb
 replace K := Lib.hid K
 go_wp2_with fail
 replace K := K.out
 refine (C2.out v1).mono ?_
 rintro _ v2 ⟨rfl, hb⟩
 replace K := K.on hb
 clear hb
 replace K := Lib.hid K
 go_wp2_with fail
 replace K := K.out
 refine (C3.out _).mono ?_
 rintro _ v3 ⟨rfl, hb⟩
 have K := (K.new 106 [c, n, 0, s, c, 0, 0, 0, 4607182418800017408]).on hb
 simp only [List.cons_append, List.nil_append] at K
 clear hb C1 C2 C3 N
 have c0_0 := K.ce 0 0 rfl rfl
 have f0_0 := K.fe 0 0 rfl rfl
 have c0_1 := K.ce 0 1 rfl rfl
 have f0_1 := K.fe 0 1 rfl rfl
 have c0_2 := K.ce 0 2 rfl rfl
 have f0_2 := K.fe 0 2 rfl rfl
 have c0_3 := K.ce 0 3 rfl rfl
 have f0_3 := K.fe 0 3 rfl rfl
 have c0_4 := K.ce 0 4 rfl rfl
 have f0_4 := K.fe 0 4 rfl rfl
 have c0_5 := K.ce 0 5 rfl rfl
 have f0_5 := K.fe 0 5 rfl rfl
 have c0_6 := K.ce 0 6 rfl rfl
 have f0_6 := K.fe 0 6 rfl rfl
 have c0_7 := K.ce 0 7 rfl rfl
 have f0_7 := K.fe 0 7 rfl rfl
 have c0_8 := K.ce 0 8 rfl rfl
 have f0_8 := K.fe 0 8 rfl rfl
 replace K := Lib.hid K
 go_wp2_with fail
 replace K := K.out
 (try simp only [Exit.vnBlock, Exit.then])
 refine bodyPost_ret (v := .tuple #[.agg #[.float .f64 y0, .float .f64 y1, .float .f64 y2, .float .f64 y3, .float .f64 y4, .float .f64 y5, .float .f64 y6, .float .f64 y7, .float .f64 y8], .int .i64 k]) ?_ rfl ⟨rfl, ?_⟩
 · rw [results_cell_tmp rfl]; go_simp
 · exact (((((((((K.old).setCell (by first | exact Nat.le_refl _ | (dsimp only; omega)) _).setCell (by first | exact Nat.le_refl _ | (dsimp only; omega)) _).setCell (by first | exact Nat.le_refl _ | (dsimp only; omega)) _).setCell (by first | exact Nat.le_refl _ | (dsimp only; omega)) _).setCell (by first | exact Nat.le_refl _ | (dsimp only; omega)) _).setCell (by first | exact Nat.le_refl _ | (dsimp only; omega)) _).setCell (by first | exact Nat.le_refl _ | (dsimp only; omega)) _).setCell (by first | exact Nat.le_refl _ | (dsimp only; omega)) _).setCell (by first | exact Nat.le_refl _ | (dsimp only; omega)) _

theorem most60 : val 52 4877398396442247168 = 2 ^ 1134 := by decide +kernel
theorem vnB_small {x : Nat} (hx : FinW x) (f : fitB x = true) (h : (V x).natAbs ≤ 2 ^ 1134) : vnB x = true := by
 unfold vnB
 rw [decide_eq_true_eq]
 refine ⟨f, Nat.le_of_not_lt fun c => ?_⟩
 have := val_lt (F := 52) c
 rw [V_abs' x hx, ← most60] at h
 omega
theorem vnB_bW {x : Nat} (hx : FinW x) (h : (V x).natAbs ≤ 2 ^ 1134) : vnB (bW x) = true := by
 by_cases f : fitB x = true
 · have e : bW x = aX x 0 := by unfold bW; rw [if_neg (fun h => by rw [f] at h; cases h.1)]
   have p := plus0 hx
   rw [e, vnB_mag (mag_eq p.2.1 hx (by rw [p.2.2]))]
   exact vnB_small hx f h
 · by_cases m : x % 9223372036854775808 < 4607182418800017408
   · have e : bW x = 0 := by unfold bW; rw [if_pos ⟨Bool.eq_false_iff.2 f, m⟩]
     rw [e]; decide
   · exfalso
     refine f ((fit_iff hx).2 (.inr ?_))
     have a : 2 ^ 1074 ≤ (V x).natAbs := by
        rw [V_abs' x hx]
        have e : val 52 4607182418800017408 = 2 ^ 1074 := by decide +kernel
        rw [← e]
        by_cases q : x % 9223372036854775808 = 4607182418800017408
        · rw [q]; exact Nat.le_refl _
        · exact Nat.le_of_lt (val_lt (by omega))
     have b1 : leastV ≤ ((2 ^ 1074 : Nat) : Int) := by decide +kernel
     have b2 : ((2 ^ 1134 : Nat) : Int) ≤ mostV := by decide +kernel
     have a' : ((2 ^ 1074 : Nat) : Int) ≤ ((V x).natAbs : Int) := Int.ofNat_le.2 a
     have h' : ((V x).natAbs : Int) ≤ ((2 ^ 1134 : Nat) : Int) := Int.ofNat_le.2 h
     exact ⟨Int.le_trans b1 a', Int.le_trans h' b2⟩
theorem bW_fit {x : Nat} (hx : FinW x) (f : fitB x = true) : V (bW x) = V x := by
 unfold bW
 rw [if_neg (fun h => by rw [f] at h; cases h.1)]
 exact (plus0 hx).2.2

def bM (m : M9) : M9 := (bV m.1, bV m.2.1, bV m.2.2)
structure F9 (m : M9) : Prop where
 f1 : F3 m.1
 f2 : F3 m.2.1
 f3 : F3 m.2.2
theorem F9.w {m : M9} (h : F9 m) : W9 m := ⟨h.f1.w, h.f2.w, h.f3.w⟩
def toldM (m : M9) : M9 × Int := if fitM (bM m) = true then (bM m, 0) else (z9, 3)
theorem fitM_of {m : M9} (h : fitM m = true) : fitV m.1 = true ∧ fitV m.2.1 = true ∧ fitV m.2.2 = true := by
 unfold fitM at h
 simp only [Bool.and_eq_true] at h
 exact ⟨h.1.1, h.1.2, h.2⟩
theorem vtoldmat_any {m : M9} (h : F9 m) (w : World) : Calls Tryz.prog 144 #[matV m] w fun e w' => e = .returned (matE (toldM m).1 (toldM m).2) ∧ Below w.heap.size w w' := by
 have C1 := fun w => vtold_run h.f1 w
 have C2 := fun w => vtold_run h.f2 w
 have C3 := fun w => vtold_run h.f3 w
 have ok : ∀ {p : V3}, fitV (bV p) = true → toldR p = (bV p, 0) := fun h => if_pos h
 have no : ∀ {p : V3}, ¬ fitV (bV p) = true → toldR p = (z3, 3) := fun h => if_neg h
 by_cases h1 : fitV (bV m.1) = true
 · rw [ok h1] at C1
   by_cases h2 : fitV (bV m.2.1) = true
   · rw [ok h2] at C2
     by_cases h3 : fitV (bV m.2.2) = true
     · rw [ok h3] at C3
       have e : toldM m = (bM m, 0) := if_pos (by unfold fitM bM; rw [h1, h2, h3]; rfl)
       rw [e]
       exact vtoldmat_ok (Lib.hid C1) (Lib.hid C2) (Lib.hid C3) w
     · rw [no h3] at C3
       have e : toldM m = (z9, 3) := if_neg (fun q => h3 (fitM_of q).2.2)
       rw [e]
       exact vtoldmat_no2 (by decide) (Lib.hid C1) (Lib.hid C2) (Lib.hid C3) w
   · rw [no h2] at C2
     have e : toldM m = (z9, 3) := if_neg (fun q => h2 (fitM_of q).2.1)
     rw [e]
     exact vtoldmat_no1 (by decide) (Lib.hid C1) (Lib.hid C2) w
 · rw [no h1] at C1
   have e : toldM m = (z9, 3) := if_neg (fun q => h1 (fitM_of q).1)
   rw [e]
   exact vtoldmat_no0 (by decide) (Lib.hid C1) w

def applyR (m : M9) (v : V3) : V3 × Int := if (fitM m && fitV v) = true then toldR (dW m.1 v, dW m.2.1 v, dW m.2.2 v) else (z3, 3)
structure D9 (m : M9) : Prop where
 d1 : D3 m.1
 d2 : D3 m.2.1
 d3 : D3 m.2.2
theorem fitM_wd {m : M9} (h : W9 m) (f : fitM m = true) : D9 m := ⟨fitV_wd h.w1 (fitM_of f).1, fitV_wd h.w2 (fitM_of f).2.1, fitV_wd h.w3 (fitM_of f).2.2⟩
theorem vapply_any {m : M9} {v : V3} (hm : W9 m) (hv : W3 v) (w : World) : Calls Tryz.prog 98 #[matV m, vecV v] w fun e w' => e = .returned (vecE (applyR m v).1 (applyR m v).2) ∧ Below w.heap.size w w' := by
 have C1 := fun w => vfitmat_run hm w
 have C2 := fun w => vfit_run hv w
 by_cases h1 : fitM m = true
 · rw [h1] at C1
   by_cases h2 : fitV v = true
   · rw [h2] at C2
     have e : applyR m v = toldR (dW m.1 v, dW m.2.1 v, dW m.2.2 v) := if_pos (by rw [h1, h2]; rfl)
     rw [e]
     have D := fitM_wd hm h1
     have E := (fitV_wd hv h2).bd
     have o1 := dot_ok D.d1.bd E
     have o2 := dot_ok D.d2.bd E
     have o3 := dot_ok D.d3.bd E
     have C4 := fun w => vtold_run (p := (dW m.1 v, dW m.2.1 v, dW m.2.2 v)) ⟨o1.fin, o2.fin, o3.fin⟩ w
     have P1 := fun w => vprod_run o1 w
     have P2 := fun w => vprod_run o2 w
     have P3 := fun w => vprod_run o3 w
     exact vapply_ok (Lib.hid C1) (Lib.hid C2) (Lib.hid fun w => vprods_ok (Lib.hid P1) (Lib.hid P2) (Lib.hid P3) w) (Lib.hid C4) w
   · rw [Bool.eq_false_iff.2 h2] at C2
     have e : applyR m v = (z3, 3) := if_neg (by rw [Bool.eq_false_iff.2 h2]; simp)
     rw [e]
     exact vapply_nv (Lib.hid C1) (Lib.hid C2) w
 · rw [Bool.eq_false_iff.2 h1] at C1
   have e : applyR m v = (z3, 3) := if_neg (by rw [Bool.eq_false_iff.2 h1]; simp)
   rw [e]
   exact vapply_nm (Lib.hid C1) w
theorem D3.f {p : V3} (h : D3 p) : F3 p := ⟨h.w1.fin, h.w2.fin, h.w3.fin⟩
theorem D9.f {m : M9} (h : D9 m) : F9 m := ⟨h.d1.f, h.d2.f, h.d3.f⟩

theorem trig_abs7 {x s c : Nat} (A : Ang x) (T : Trig x s c) : (V s).natAbs ≤ 2 ^ 1100 ∧ (V c).natAbs ≤ 2 ^ 1100 := by
 obtain ⟨r, R, a, b⟩ := T.ex
 have N := (R.rest A).near
 have x1 := abs_up (k := 1075) (l := 1100) N.sw.abs (by omega)
 have x2 := abs_up (k := 1075) (l := 1100) N.cw.abs (by omega)
 generalize V (sinX r) = S at *
 generalize V (cosX r) = C at *
 have key : ∀ k, (vq k S C).natAbs ≤ 2 ^ 1100 := fun k => by
  unfold vq
  split
  · exact x1
  · split
    · exact x2
    · split
      · rw [Int.natAbs_neg]; exact x1
      · rw [Int.natAbs_neg]; exact x2
 rw [a, b]; exact ⟨key _, key _⟩
def tM (a : Int) (s c n : Nat) : M9 := if a = 0 then ((oneW, 0, 0), (0, c, n), (0, s, c)) else if a = 1 then ((c, 0, s), (0, oneW, 0), (n, 0, c)) else ((c, n, 0), (s, c, 0), (0, 0, oneW))
theorem trig_ok {x s c : Nat} (A : Ang x) (T : Trig x s c) : (FinW s ∧ vnB (bW s) = true) ∧ (FinW c ∧ vnB (bW c) = true) ∧ (FinW (negW s) ∧ vnB (bW (negW s)) = true ∧ bW (negW s) = negN (bW s)) := by
 obtain ⟨b1, b2⟩ := trig_abs7 A T
 have f1 := T.sz.fin
 have f2 := T.cz.fin
 have f3 := negW_fin f1
 have v := negW_V f1
 refine ⟨⟨f1, vnB_bW f1 (abs_up (k := 1100) (l := 1134) b1 (by omega))⟩, ⟨f2, vnB_bW f2 (abs_up (k := 1100) (l := 1134) b2 (by omega))⟩, f3, vnB_bW f3 (abs_up (k := 1100) (l := 1134) (by rw [v, Int.natAbs_neg]; exact b1) (by omega)), ?_⟩
 obtain ⟨-, nz, nv⟩ := negN_spec (bW_nz f1).fin
 exact (bW_nz f3).uniq nz (by rw [nv, bW_opp f1 f3 v])
theorem one_fin7 : FinW oneW := by unfold FinW oneW; omega
theorem bW_one : bW oneW = oneW := by decide +kernel
theorem bW_zero : bW 0 = 0 := by decide +kernel
theorem in_one : vnB oneW = true := by decide +kernel
theorem in_zero : vnB 0 = true := by decide +kernel
theorem turned_told {x s c : Nat} (A : Ang x) (T : Trig x s c) (a : Int) : F9 (tM a s c (negW s)) ∧ toldM (tM a s c (negW s)) = (tM a (bW s) (bW c) (negN (bW s)), 0) := by
 obtain ⟨⟨f1, i1⟩, ⟨f2, i2⟩, f3, i3, e3⟩ := trig_ok A T
 have o := one_fin7
 have z := zero_fin
 have key : ∀ m : M9, fitM (bM m) = true → toldM m = (bM m, 0) := fun m h => if_pos h
 rw [e3] at i3
 unfold tM
 split
 · refine ⟨⟨⟨o, z, z⟩, ⟨z, f2, f3⟩, ⟨z, f1, f2⟩⟩, ?_⟩
   rw [key]
   · unfold bM bV; dsimp only; rw [bW_one, bW_zero, e3]
   · unfold fitM bM bV fitV; dsimp only; rw [bW_one, bW_zero, e3, in_one, in_zero, i1, i2, i3]; rfl
 · split
   · refine ⟨⟨⟨f2, z, f1⟩, ⟨z, o, z⟩, ⟨f3, z, f2⟩⟩, ?_⟩
     rw [key]
     · unfold bM bV; dsimp only; rw [bW_one, bW_zero, e3]
     · unfold fitM bM bV fitV; dsimp only; rw [bW_one, bW_zero, e3, in_one, in_zero, i1, i2, i3]; rfl
   · refine ⟨⟨⟨f2, f3, z⟩, ⟨f1, f2, z⟩, ⟨z, z, o⟩⟩, ?_⟩
     rw [key]
     · unfold bM bV; dsimp only; rw [bW_one, bW_zero, e3]
     · unfold fitM bM bV fitV; dsimp only; rw [bW_one, bW_zero, e3, in_one, in_zero, i1, i2, i3]; rfl
theorem tM0 (s c n : Nat) : tM 0 s c n = ((oneW, 0, 0), (0, c, n), (0, s, c)) := rfl
theorem tM1 (s c n : Nat) : tM 1 s c n = ((c, 0, s), (0, oneW, 0), (n, 0, c)) := rfl
theorem tM2 (s c n : Nat) : tM 2 s c n = ((c, n, 0), (s, c, 0), (0, 0, oneW)) := rfl

theorem D3.b {p : V3} (hw : W3 p) (f : fitV p = true) : D3 (bV p) ∧ V (bV p).1 = V p.1 ∧ V (bV p).2.1 = V p.2.1 ∧ V (bV p).2.2 = V p.2.2 := by
 have B := fitV_bd hw f
 have fb : fitV (bV p) = true := by unfold fitV bV; rw [vnB_bW B.f1 B.b1, vnB_bW B.f2 B.b2, vnB_bW B.f3 B.b3]; rfl
 unfold fitV at f
 simp only [Bool.and_eq_true] at f
 exact ⟨fitV_wd B.fin.b.w fb, bW_fit B.f1 (vnB_spec hw.l1 f.1.1).2.1, bW_fit B.f2 (vnB_spec hw.l2 f.1.2).2.1, bW_fit B.f3 (vnB_spec hw.l3 f.2).2.1⟩
end Go.Proofs.YtdfcchocabapkaaGreat
