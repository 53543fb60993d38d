/- Proved here: what the texts Frd, Fre, Frf, Frg, Fri, Fma, Frk, Frm, Vbo, Frn, Vby, Vbya, Vbyb, Pof, Vbt, Vbv, Vbw, Frp, Frq, Ome prove, one behind the other. -/
import Derived.Test.YtacinenddnfcbaaGreatJy13
import Derived.Test.YtacinenddnfcbaaGreatJy8
import Derived.Test.YtacinenddnfcbaaGreatJy12
import Derived.Test.YtacinenddnfcbaaGreatJy7
import Derived.Test.YtacinenddnfcbaaGreatJy6
import Derived.Test.YtacinenddnfcbaaGreatJy3
import Derived.Test.YtacinenddnfcbaaGreatJy5

set_option maxHeartbeats 4000000
set_option maxRecDepth 100000
namespace Go.Proofs.YtacinenddnfcbaaGreat
open Go.ChangeShapes Go.WideShapes Go.ChangeAt Go.RowKit Ieee.Own

theorem wit_spec {c x k : Nat} (hx : x < 18446744073709551616) (hc : val 52 c = 2 ^ k) (h : witB c x = true) : FinW x ∧ fitB x = true ∧ (V x).natAbs ≤ 2 ^ k := by
 unfold witB at h
 rw [decide_eq_true_eq] at h
 have f := fit_fin hx h.1
 refine ⟨f, h.1, ?_⟩
 rw [V_abs' x f, ← hc]
 by_cases q : x % 9223372036854775808 = c
 · rw [q]; exact Nat.le_refl _
 · exact Nat.le_of_lt (val_lt (by omega))
theorem v10 : val 52 g10 = 2 ^ 1084 := by decide +kernel
theorem v24 : val 52 g24 = 2 ^ 1098 := by decide +kernel
theorem v40 : val 52 g40 = 2 ^ 1114 := by decide +kernel
theorem wit_wd {c x k : Nat} (hx : x < 18446744073709551616) (hc : val 52 c = 2 ^ k) (h : witB c x = true) : Wd x 822 k := by
 obtain ⟨f, g, b⟩ := wit_spec hx hc h
 exact ⟨f, fit_822 hx g, b⟩
structure FrOk (f : Fr) (i : Int) : Prop where
 up0 : -1 ≤ f.up
 up1 : f.up < i
 ax0 : 0 ≤ f.ax
 ax1 : f.ax ≤ 2
 ph : witB g10 f.ph = true
 rt : witB g10 f.rt = true
 o1 : witB g40 f.o1 = true
 o2 : witB g40 f.o2 = true
 o3 : witB g40 f.o3 = true
theorem may_of {f : Fr} {i : Int} (h : mayB f i = true) : FrOk f i := by
 unfold mayB at h
 simp only [Bool.and_eq_true, decide_eq_true_eq] at h
 obtain ⟨a, b, c, d, e, g, h1, h2, h3⟩ := h
 exact ⟨a, b, c, d, e, g, h1, h2, h3⟩
def angA (f : Fr) (d : Nat) : Nat := aX f.ph (mX f.rt d)
def angW (f : Fr) (d : Nat) : Nat := if fitB (angA f d) = true then angA f d else 0
structure AngA (f : Fr) (d : Nat) : Prop where
 mul : Ieee.double.mul f.rt d = some (mX f.rt d)
 add : Ieee.double.add f.ph (mX f.rt d) = some (angA f d)
 fm : FinW (mX f.rt d)
 vm : V (mX f.rt d) = RZ (V f.rt * V d)
 fin : FinW (angA f d)
 va : V (angA f d) = RN (V f.ph + V (mX f.rt d))
 abs : (V (angA f d)).natAbs ≤ 2 ^ 1110
theorem ang_a {f : Fr} {d : Nat} (wf : FrW f) (hd : d < 18446744073709551616) (h1 : witB g10 f.ph = true) (h2 : witB g10 f.rt = true) (h3 : witB g24 d = true) : AngA f d := by
 have W1 := wit_wd wf.ph v10 h1
 have W2 := wit_wd wf.rt v10 h2
 have W3 := wit_wd hd v24 h3
 obtain ⟨q1, M, -⟩ := W2.mul W3 (by omega) (by omega) (by omega)
 obtain ⟨q2, A, -⟩ := Wd.add (p := 570) (k := 1109) (W1.le (by omega) (by omega)) (M.le (by omega) (by omega)) (by omega)
 obtain ⟨-, -, v1, -⟩ := mul_ok (i := 1098) (k := 1122) W2.fin W3.fin (abs_up (k := 1084) (l := 1098) W2.abs (by omega)) W3.abs rfl (by omega)
 obtain ⟨-, -, v2, -⟩ := add_ok (i := 1109) (k := 1110) W1.fin M.fin (abs_up (k := 1084) (l := 1109) W1.abs (by omega)) (M.le (q := 0) (l := 1109) (by omega) (by omega)).abs rfl (by omega)
 exact ⟨q1, q2, M.fin, v1, A.fin, v2, (A.le (q := 0) (l := 1110) (by omega) (by omega)).abs⟩
theorem err_small {x : Nat} (hx : FinW x) (f : fitB x = true) (h : (V x).natAbs ≤ 2 ^ 1114) : errA x = 0 := by
 unfold errA
 rw [if_pos]
 refine ⟨f, ?_⟩
 rw [V_abs' x hx] at h
 have e : val 52 4787326403894837248 = 2 ^ 1114 := v40
 rw [← e] at h
 by_cases q : x % 9223372036854775808 ≤ 4787326403894837248
 · exact q
 · have k : val 52 4787326403894837248 < val 52 (x % 9223372036854775808) := val_lt (by omega)
   exact absurd h (Nat.not_le.2 k)
theorem ang_w {f : Fr} {d : Nat} (A : AngA f d) : angW f d < 18446744073709551616 ∧ errA (angW f d) = 0 := by
 unfold angW
 by_cases h : fitB (angA f d) = true
 · rw [if_pos h]
   exact ⟨A.fin.1, err_small A.fin h (abs_up (k := 1110) (l := 1114) A.abs (by omega))⟩
 · rw [if_neg h]
   exact ⟨by decide, by decide⟩
theorem fang_run {f : Fr} {d : Nat} (A : AngA f d) (w : World) : Calls Tryz.prog 187 #[frV f, .float .f64 d] w fun e w' => e = .returned (.float .f64 (angW f d)) ∧ Below w.heap.size w w' :=
 fang_shape (run_mul _ _ _ A.mul) (run_add _ _ _ A.add) (fun w => fit_any _ A.fin.1 w) w
open Classical in
noncomputable def tS (x : Nat) : Nat := if h : ∃ s c, Trig x s c then h.choose else 0
open Classical in
noncomputable def tC (x : Nat) : Nat := if h : ∃ s c, Trig x s c then h.choose_spec.choose else 0
theorem trig_ex {x : Nat} (h : ∃ s c, Trig x s c) : Trig x (tS x) (tC x) := by
 unfold tS tC
 rw [dif_pos h, dif_pos h]
 exact h.choose_spec.choose_spec
theorem Trig.congr {x y s c : Nat} (T : Trig x s c) (h : V x = V y) : Trig y s c := by
 obtain ⟨⟨r, R, a, b⟩, sz, cz⟩ := T
 exact ⟨⟨r, ⟨R.nz, by rw [← h]; exact R.v⟩, by rw [← h]; exact a, by rw [← h]; exact b⟩, sz, cz⟩
theorem tS_eq {x s c : Nat} (T : Trig x s c) : tS x = s ∧ tC x = c := by
 have := (trig_ex ⟨s, c, T⟩).uniq T
 exact this
theorem t_congr {x y : Nat} (h : V x = V y) : tS x = tS y ∧ tC x = tC y := by
 by_cases e : ∃ s c, Trig x s c
 · have T := trig_ex e
   have U := trig_ex ⟨_, _, T.congr h⟩
   exact (T.congr h).uniq U
 · have e' : ¬ ∃ s c, Trig y s c := fun ⟨s, c, T⟩ => e ⟨s, c, T.congr h.symm⟩
   unfold tS tC
   rw [dif_neg e, dif_neg e', dif_neg e, dif_neg e']
   exact ⟨rfl, rfl⟩
theorem trig_of {x : Nat} (hx : x < 18446744073709551616) (e : errA x = 0) : Trig x (tS x) (tC x) := by
 obtain ⟨s, c, T, -⟩ := uboth_ok hx e
 exact trig_ex ⟨s, c, T⟩
noncomputable def turnW (a : Int) (x : Nat) : M9 := tM a (bW (tS x)) (bW (tC x)) (negN (bW (tS x)))
theorem vturned_run {a : Int} {x : Nat} (h0 : 0 ≤ a) (h1 : a ≤ 2) (hx : x < 18446744073709551616) (e : errA x = 0) (w : World) : Calls Tryz.prog 181 #[.int .i64 a, .float .f64 x] w fun e w' => e = .returned (matE (turnW a x) 0) ∧ Below w.heap.size w w' := by
 have C1 := fun w => vaxis_run a w
 rw [decide_eq_true ⟨h0, h1⟩] at C1
 obtain ⟨s, c, k, B, CB⟩ := uboth_run hx
 have hk : k = 0 := by rw [B.err, e]
 subst hk
 have A := errA_ang hx e
 have T := B.ok rfl
 obtain ⟨e1, e2⟩ := tS_eq T
 unfold turnW
 rw [e1, e2]
 obtain ⟨F, et⟩ := turned_told A T a
 have C3 := fun w => vtoldmat_any F w
 rw [et] at C3
 have N := fun w => xneg' s T.sz.fin.1 w
 have : a = 0 ∨ a = 1 ∨ a = 2 := by omega
 rcases this with rfl | rfl | rfl
 · exact vturned_ok0 (Lib.hid C1) (Lib.hid CB) N (Lib.hid C3) w
 · exact vturned_ok1 (Lib.hid C1) (Lib.hid CB) N (Lib.hid C3) w
 · exact vturned_ok2 (Lib.hid C1) (Lib.hid CB) N (Lib.hid C3) w
theorem turnW_ok {x : Nat} (a : Int) (hx : x < 18446744073709551616) (e : errA x = 0) : W9 (turnW a x) ∧ fitM (turnW a x) = true := by
 have := tM_w (errA_ang hx e) (trig_of hx e) a
 exact ⟨this.1, this.2.1⟩
noncomputable def upR (f : Fr) (d : Nat) (v : V3) : V3 × Int :=
 if (applyR (turnW f.ax (angW f d)) v).2 = 0 then addR f.og (applyR (turnW f.ax (angW f d)) v).1 else (z3, (applyR (turnW f.ax (angW f d)) v).2)
structure Ans3 (r : V3 × Int) : Prop where
 w : W3 r.1
 ok : r.2 = 0 → fitV r.1 = true
theorem z3_w : W3 z3 := ⟨by decide, by decide, by decide⟩
theorem ans_bad {k : Int} (h : k ≠ 0) : Ans3 (z3, k) := ⟨z3_w, fun e => absurd e h⟩
theorem ans_told {p : V3} (h : F3 p) : Ans3 (toldR p) := by
 unfold toldR
 by_cases e : fitV (bV p) = true
 · rw [if_pos e]; exact ⟨h.b.w, fun _ => e⟩
 · rw [if_neg e]; exact ans_bad (by decide)
theorem ans_add {a b : V3} (ha : W3 a) (hb : W3 b) : Ans3 (addR a b) := by
 unfold addR
 by_cases h : both3 a b = true
 · rw [if_pos h]
   obtain ⟨fa, fb⟩ := both_of h
   have A := fitV_bd ha fa
   have B := fitV_bd hb fb
   obtain ⟨-, f1, -, -⟩ := add_ok A.f1 B.f1 A.b1 B.b1 (k := 1135) rfl (by omega)
   obtain ⟨-, f2, -, -⟩ := add_ok A.f2 B.f2 A.b2 B.b2 (k := 1135) rfl (by omega)
   obtain ⟨-, f3, -, -⟩ := add_ok A.f3 B.f3 A.b3 B.b3 (k := 1135) rfl (by omega)
   exact ans_told ⟨f1, f2, f3⟩
 · rw [if_neg h]; exact ans_bad (by decide)
theorem ans_apply {m : M9} {v : V3} (hm : W9 m) (hv : W3 v) : Ans3 (applyR m v) := by
 unfold applyR
 by_cases h : (fitM m && fitV v) = true
 · rw [if_pos h]
   simp only [Bool.and_eq_true] at h
   have E := fitV_wd hv h.2
   have D := fitM_wd hm h.1
   exact ans_told ⟨(dot_wd D.d1 E).d.fin, (dot_wd D.d2 E).d.fin, (dot_wd D.d3 E).d.fin⟩
 · rw [if_neg h]; exact ans_bad (by decide)
theorem og_w {f : Fr} (h : FrW f) : W3 f.og := ⟨h.o1, h.o2, h.o3⟩
theorem ans_up {f : Fr} {d : Nat} {v : V3} (wf : FrW f) (A : AngA f d) (hv : W3 v) : Ans3 (upR f d v) := by
 unfold upR
 obtain ⟨x, e⟩ := ang_w A
 by_cases h : (applyR (turnW f.ax (angW f d)) v).2 = 0
 · rw [if_pos h]; exact ans_add (og_w wf) (ans_apply (turnW_ok _ x e).1 hv).w
 · rw [if_neg h]; exact ans_bad h
theorem fup_run {f : Fr} {d : Nat} {v : V3} (wf : FrW f) (h0 : 0 ≤ f.ax) (h1 : f.ax ≤ 2) (A : AngA f d) (hv : W3 v) (w : World) : Calls Tryz.prog 113 #[frV f, .float .f64 d, vecV v] w fun e w' => e = .returned (vecE (upR f d v).1 (upR f d v).2) ∧ Below w.heap.size w w' := by
 obtain ⟨x, e⟩ := ang_w A
 have T := turnW_ok f.ax x e
 have CA := fun w => fang_run A w
 have CT := fun w => vturned_run h0 h1 x e w
 have CP := fun w => vapply_any T.1 hv w
 have Y := ans_apply T.1 hv
 unfold upR
 by_cases h : (applyR (turnW f.ax (angW f d)) v).2 = 0
 · rw [if_pos h]
   rw [h] at CP
   have CD := fun w => vadd_any (og_w wf) Y.w w
   exact fup_ok (Lib.hid CA) (Lib.hid CT) (Lib.hid CP) (Lib.hid CD) w
 · rw [if_neg h]
   exact fup_no (by simpa using h) (Lib.hid CA) (Lib.hid CT) (Lib.hid CP) w
theorem fstill_run {v : V3} (hv : W3 v) (w : World) : Calls Tryz.prog 112 #[vecV v] w fun e w' => e = .returned (vecE (addR v z3).1 (addR v z3).2) ∧ Below w.heap.size w w' := by
 have C := fun w => vadd_any hv z3_w w
 exact fstill_shape (Lib.hid C) w
end Go.Proofs.YtacinenddnfcbaaGreat

namespace Go.Proofs.YtacinenddnfcbaaGreat
open Go.ChangeShapes Go.WideShapes Go.ChangeAt Go.RowKit Ieee.Own

def wayF (L : List Fr) : Nat → Int → List Nat
 | 0, _ => []
 | n + 1, i => if i < 0 then [] else i.toNat :: wayF L n (frAt L i.toNat).up
def way (L : List Fr) (i : Int) : List Nat := wayF L 17 i
structure FsOk (L : List Fr) : Prop where
 len : L.length ≤ 16
 w : FsW L
 ok : ∀ j, j < L.length → FrOk (frAt L j) j
theorem FsOk.of {L : List Fr} (w : FsW L) (h : chkF L = 0) : FsOk L := ⟨(chkF_zero h).1, w, fun j hj => may_of ((chkF_zero h).2 j hj)⟩
theorem FsOk.fw {L : List Fr} (h : FsOk L) {j : Nat} (hj : j < L.length) : FrW (frAt L j) := h.w _ (fr_mem hj)
theorem wayF_eq {L : List Fr} (h : FsOk L) : ∀ (n m : Nat) (i : Int), i < (L.length : Int) → i + 1 ≤ n → i + 1 ≤ m → wayF L n i = wayF L m i
 | 0, 0, _, _, _, _ => rfl
 | 0, m + 1, i, _, h1, _ => by
   have : i < 0 := by omega
   unfold wayF; rw [if_pos this]
 | n + 1, 0, i, _, _, h2 => by
   have : i < 0 := by omega
   unfold wayF; rw [if_pos this]
 | n + 1, m + 1, i, hl, h1, h2 => by
   unfold wayF
   by_cases e : i < 0
   · rw [if_pos e, if_pos e]
   · rw [if_neg e, if_neg e]
     have k := (h.ok i.toNat (by omega)).up1
     rw [wayF_eq h n m _ (by omega) (by omega) (by omega)]
theorem way_root (L : List Fr) : way L (-1) = [] := rfl
theorem way_step {L : List Fr} (h : FsOk L) {j : Nat} (hj : j < L.length) : way L (j : Int) = j :: way L (frAt L j).up := by
 have hl := h.len
 have k := (h.ok j hj).up1
 show wayF L 17 (j : Int) = j :: wayF L 17 (frAt L j).up
 rw [show wayF L 17 (j : Int) = if (j : Int) < 0 then [] else (j : Int).toNat :: wayF L 16 (frAt L (j : Int).toNat).up from rfl]
 rw [if_neg (by omega)]
 have e : (j : Int).toNat = j := by omega
 rw [e, wayF_eq h 16 17 _ (by omega) (by omega) (by omega)]
theorem way_lt {L : List Fr} (h : FsOk L) : ∀ (n : Nat) (i : Int), i < (L.length : Int) → i < n → ∀ j ∈ way L i, j < L.length ∧ (j : Int) ≤ i
 | n, i, hl, hn, j, hj => by
   by_cases e : i < 0
   · have : way L i = [] := by show wayF L 17 i = []; unfold wayF; rw [if_pos e]
     rw [this] at hj; cases hj
   · obtain ⟨m, rfl⟩ : ∃ m : Nat, i = m := ⟨i.toNat, by omega⟩
     have hm : m < L.length := by omega
     rw [way_step h hm] at hj
     rcases List.mem_cons.1 hj with rfl | hj
     · exact ⟨hm, Int.le_refl _⟩
     · have k := (h.ok m hm).up1
       cases n with
       | zero => omega
       | succ n =>
         have := way_lt h n _ (by omega) (by omega) j hj
         exact ⟨this.1, by omega⟩
noncomputable def rootF (L : List Fr) (d : Nat) : List Nat → V3 → V3 × Int
 | [], v => (v, 0)
 | j :: js, v => if (upR (frAt L j) d v).2 = 0 then rootF L d js (upR (frAt L j) d v).1 else upR (frAt L j) d v
noncomputable def rootR (L : List Fr) (i : Int) (d : Nat) (v : V3) : V3 × Int :=
 if readyF L i (witB g24 d) = 0 then (if (addR v z3).2 = 0 then rootF L d (way L i) (addR v z3).1 else addR v z3) else (z3, readyF L i (witB g24 d))
def RootAt (L : List Fr) (d : Nat) (A : V3 × Int) (i : Int) (p : V3) (k : Int) : Prop := (k = 0 → rootF L d (way L i) p = A) ∧ (k ≠ 0 → (p, k) = A)
theorem RootAt.fin {L : List Fr} {d : Nat} {A : V3 × Int} {i : Int} {p : V3} {k : Int} (h : RootAt L d A i p k) (e : k = 0 → i = -1) : (p, k) = A := by
 by_cases hk : k = 0
 · subst hk
   have := h.1 rfl
   rw [e rfl, way_root] at this
   exact this
 · exact h.2 hk
theorem RootAt.next {L : List Fr} {d : Nat} {A : V3 × Int} {j : Nat} {p q : V3} {k : Int} (hL : FsOk L) (hj : j < L.length) (h : RootAt L d A j p 0) (e : upR (frAt L j) d p = (q, k)) : RootAt L d A (frAt L j).up q k := by
 have h := h.1 rfl
 rw [way_step hL hj] at h
 unfold rootF at h
 rw [e] at h
 refine ⟨fun hk => ?_, fun hk => ?_⟩
 · subst hk
   rw [if_pos rfl] at h
   exact h
 · rw [if_neg hk] at h
   exact h
theorem ret_vF {A : V3 × Int} {p1 p2 p3 : Nat} {k : Int} (h : ((p1, p2, p3), k) = A) : Ending.returned (.tuple #[.agg #[.float .f64 p1, .float .f64 p2, .float .f64 p3], .int .i64 k]) = .returned (vecE A.1 A.2) := by rw [← h]; rfl
theorem cellsFar {w : World} {ao : Option Addr} {L : List Fr} (ha : FAt w ao L) {j : Nat} (hj : j < L.length) {b o : Nat} (e : ao = some ⟨b, o, none⟩) {up ax : Int} {ph rt o1 o2 o3 : Nat} (ef : frAt L j = ⟨up, ax, ph, rt, o1, o2, o3⟩) :
 ∀ W, Below w.heap.size w W → W.cell? ⟨b, o + j * 7, none⟩ = some (.int .i64 up) ∧ W.cell? ⟨b, o + j * 7 + 1, none⟩ = some (.int .i64 ax) ∧
   W.cell? ⟨b, o + j * 7 + 2, none⟩ = some (.float .f64 ph) ∧ W.cell? ⟨b, o + j * 7 + 3, none⟩ = some (.float .f64 rt) ∧ W.cell? ⟨b, o + j * 7 + 4, none⟩ = some (.float .f64 o1) ∧
   W.cell? ⟨b, o + j * 7 + 5, none⟩ = some (.float .f64 o2) ∧ W.cell? ⟨b, o + j * 7 + 6, none⟩ = some (.float .f64 o3) := by
 intro W hb
 obtain ⟨b', o', e', -, c⟩ := FAt.cells (ha.below (fun b o e h => ha.lt b o e h) hb) hj
 rw [e] at e'
 simp only [Option.some.injEq, Addr.mk.injEq, and_true] at e'
 obtain ⟨rfl, rfl⟩ := e'
 rw [ef] at c
 exact c
theorem froot_run (ao : Option Addr) (cap n : Nat) (L : List Fr) (i0 : Int) (d : Nat) (v : V3) (w : World) (hn : n = L.length) (hm : n ≤ 4611686018427387904) (hL : FsW L) (ha : FAt w ao L) (hd : d < 18446744073709551616) (hv : W3 v) :
 Calls Tryz.prog 60 #[.slice ao n cap, .int .i64 i0, .float .f64 d, vecV v] w fun e w' => e = .returned (vecE (rootR L i0 d v).1 (rootR L i0 d v).2) ∧ Below w.heap.size w w' := by
 have CT := fun w => ftime_run d hd w
 have CR : Hid (∀ W, Below w.heap.size w W → Calls Tryz.prog 91 #[.slice ao n cap, .int .i64 i0, .bool (witB g24 d)] W fun e w' => e = .returned (.int .i64 (readyF L i0 (witB g24 d))) ∧ Below W.heap.size W w') :=
  Lib.hid fun W hb => ready_run ao cap n L i0 (witB g24 d) W hn hm hL (ha.below (fun b o e h => ha.lt b o e h) hb)
 have CS := Lib.hid (fun w => fstill_run hv w)
 have Y := ans_add hv z3_w
 unfold rootR
 by_cases hr : readyF L i0 (witB g24 d) = 0
 · rw [if_pos hr]
   rw [hr] at CR
   obtain ⟨c0, i1, i2, tt⟩ := readyF_zero hr
   have LO := Lib.hid (FsOk.of hL c0)
   have hA : ∃ A, A = (if (addR v z3).2 = 0 then rootF L d (way L i0) (addR v z3).1 else addR v z3) := ⟨_, rfl⟩
   obtain ⟨A, hA⟩ := hA
   rw [← hA]
   have R0 : RootAt L d A i0 (addR v z3).1 (addR v z3).2 := by
    refine ⟨fun e => ?_, fun e => ?_⟩
    · rw [hA, if_pos e]
    · rw [hA, if_neg e]
   have YW := Y.w
   clear hA Y hr c0 hL
   generalize addR v z3 = Y at *
   obtain ⟨⟨y1, y2, y3⟩, k0⟩ := Y
   rw [tt] at CT CR
   obtain ⟨x1, x2, x3⟩ := v
   unfold vecV vecE at CS
   unfold vecV at *
   dsimp only at *
   replace ha := Lib.hid ha
   replace hn := Lib.hid hn
   replace R0 := Lib.hid R0
   replace YW := Lib.hid YW
   replace hd := Lib.hid hd
   replace tt := Lib.hid tt
   clear hv
   have K0 := kv2 w 41 41 [.float .f64 x1, .float .f64 x2, .float .f64 x3] [.float .f64 0, .float .f64 0, .float .f64 0]
   simp only [objV] at K0
   have hst := @fstore
   replace K0 := Lib.hid K0
   go_enter Tryz.func60, Tryz.ntmps60
   go_wp2_with (go_at_call 31; ((with_reducible refine (CT _).mono ?_); rintro e w' ⟨rfl, rfl⟩))
   have K := K0.out
   clear K0
   generalize (w.alloc _).alloc _ = wr at *
   refine (CR.out wr K.old).mono ?_
   rintro _ v1 ⟨rfl, hb⟩
   replace K := K.on hb
   clear hb CR
   have c0_0 := (K.at_ 0 rfl).at_ 0 _ rfl
   have c0_1 := (K.at_ 0 rfl).at_ 1 _ rfl
   have c0_2 := (K.at_ 0 rfl).at_ 2 _ rfl
   replace K := Lib.hid K
   go_wp2_with fail
   replace K := K.out
   refine (CS.out v1).mono ?_
   rintro _ v2 ⟨rfl, hb⟩
   clear c0_0 c0_1 c0_2
   replace K := K.on hb
   clear hb CS
   replace K := K.new 41 [.float .f64 y1, .float .f64 y2, .float .f64 y3]
   simp only [objV, List.cons_append, List.nil_append] at K
   replace K := Lib.hid K
   go_wp2_with fail
   replace K := K.out
   generalize v2.alloc _ = wl at *
   generalize v2.heap.size = g1 at *
   go_loopw [1, 12] (fun iv ev wr => ∃ (i k : Int) (p1 p2 p3 : Nat), iv = .int .i64 i ∧ ev = .int .i64 k ∧ -1 ≤ i ∧ i < (n : Int) ∧ W3 (p1, p2, p3) ∧ RootAt L d A i (p1, p2, p3) k ∧ Kv w [some (w.heap.size, [.float .f64 x1, .float .f64 x2, .float .f64 x3]), some (w.heap.size + 1, [.float .f64 0, .float .f64 0, .float .f64 0]), some (g1, [.float .f64 p1, .float .f64 p2, .float .f64 p3])] wr) (fun iv _ _ => (intOf iv + 1).toNat)
   case atStart => exact ⟨i0, k0, y1, y2, y3, rfl, rfl, i1, by rw [hn.out]; exact i2, YW.out, R0.out, K⟩
   case round =>
    obtain ⟨i, k, p1, p2, p3, rfl, rfl, hi0, hi1, hw, R, K⟩ := hrel
    replace R := Lib.hid R
    replace hw := Lib.hid hw
    by_cases hk : k = 0
    · subst hk
      by_cases hi : i = -1
      · subst hi
        have fin := R.out.fin (fun _ => rfl)
        replace fin := Lib.hid fin
        have c2_0 := (K.at_ 2 rfl).at_ 0 _ rfl
        have c2_1 := (K.at_ 2 rfl).at_ 1 _ rfl
        have c2_2 := (K.at_ 2 rfl).at_ 2 _ rfl
        have c1_0 := (K.at_ 1 rfl).at_ 0 _ rfl
        have f1_0 := (K.at_ 1 rfl).fr 0 _ rfl
        have c1_1 := (K.at_ 1 rfl).at_ 1 _ rfl
        have f1_1 := (K.at_ 1 rfl).fr 1 _ rfl
        have c1_2 := (K.at_ 1 rfl).at_ 2 _ rfl
        have f1_2 := (K.at_ 1 rfl).fr 2 _ rfl
        replace K := Lib.hid K
        go_wp2_with fail
        replace K := K.out
        (try simp only [Exit.inBlock, Exit.then])
        refine bodyPost_ret (v := .tuple #[.agg #[.float .f64 p1, .float .f64 p2, .float .f64 p3], .int .i64 0]) ?_ rfl ⟨ret_vF fin.out, ?_⟩
        · rw [results_cell_tmp rfl]; go_simp
        · exact (((K.old).setCell (by first | exact Nat.le_refl _ | (dsimp only; omega)) _).setCell (by first | exact Nat.le_refl _ | (dsimp only; omega)) _).setCell (by first | exact Nat.le_refl _ | (dsimp only; omega)) _
      · obtain ⟨j, rfl⟩ : ∃ j : Nat, i = j := ⟨i.toNat, by omega⟩
        have hjn : j < n := by omega
        have hjl : j < L.length := by have := hn.out; omega
        have ok := LO.out.ok j hjl
        have fw := LO.out.fw hjl
        have AA := ang_a fw hd.out ok.ph ok.rt tt.out
        have CU := Lib.hid (fun w => fup_run (v := (p1, p2, p3)) fw ok.ax0 ok.ax1 AA hw.out w)
        have AU := (ans_up fw AA hw.out).w
        have u0 := ok.up0
        have u1 := ok.up1
        have NX : ∀ q k, upR (frAt L j) d (p1, p2, p3) = (q, k) → RootAt L d A (frAt L j).up q k := fun q k e => R.out.next LO.out hjl e
        clear R
        obtain ⟨b, o, rfl, -, -⟩ := FAt.cells ha.out hjl
        have far := fun up ax ph rt o1 o2 o3 => cellsFar (up := up) (ax := ax) (ph := ph) (rt := rt) (o1 := o1) (o2 := o2) (o3 := o3) ha.out hjl rfl
        clear fw ok AA
        generalize hU : upR (frAt L j) d (p1, p2, p3) = U at *
        clear hU
        generalize frAt L j = f at *
        obtain ⟨up, ax, ph, rt, o1, o2, o3⟩ := f
        obtain ⟨⟨y1', y2', y3'⟩, k'⟩ := U
        replace NX := NX _ _ rfl
        replace far := far _ _ _ _ _ _ _ rfl
        unfold frV vecV vecE at CU
        dsimp only at *
        replace far := Lib.hid far
        replace NX := Lib.hid NX
        replace AU := Lib.hid AU
        have hj2 : decide ((j : Int) = -1) = false := decide_eq_false (by omega)
        replace K := Lib.hid K
        go_upto_region 6 with fail
        replace K := K.out
        generalize hds : ([some 34, some 35, some 36, some 37, some 38, some 39, some 40, some 33, some 41, some 42, none, some 12] : List (Option Tmp)) = ds
        have hap : apartL ds = true := by rw [← hds]; decide
        replace hds := hds.symm
        refine wp_region_kv (fun hf => [some (w.heap.size, [.float .f64 x1, .float .f64 x2, .float .f64 x3]), some (w.heap.size + 1, [.float .f64 0, .float .f64 0, .float .f64 0]), some (g1, [.float .f64 y1', .float .f64 y2', .float .f64 y3'])]) (fun hf => [some (.slice (some ⟨b, o, none⟩) n cap), some (.int .i64 (j : Int)), some (.pointer (some ⟨b, o + j * 7, none⟩)), some (.agg #[.int .i64 up, .int .i64 ax, .float .f64 ph, .float .f64 rt, .float .f64 o1, .float .f64 o2, .float .f64 o3]), some (.float .f64 d), some (.agg #[.float .f64 p1, .float .f64 p2, .float .f64 p3]), some (.tuple #[.agg #[.float .f64 y1', .float .f64 y2', .float .f64 y3'], .int .i64 k']), some (.tuple #[.agg #[.float .f64 y1', .float .f64 y2', .float .f64 y3'], .int .i64 k']), some (.agg #[.float .f64 y1', .float .f64 y2', .float .f64 y3']), some (.int .i64 k'), some (undef), some (.int .i64 k')]) [] [⟨10, 2, 0, [.float .f64 y1', .float .f64 y2', .float .f64 y3']⟩] [.slice (some ⟨b, o, none⟩) n cap, .int .i64 (j : Int), .pointer (some ⟨b, o + j * 7, none⟩), .agg #[.int .i64 up, .int .i64 ax, .float .f64 ph, .float .f64 rt, .float .f64 o1, .float .f64 o2, .float .f64 o3], .float .f64 d, .agg #[.float .f64 p1, .float .f64 p2, .float .f64 p3], .tuple #[.agg #[.float .f64 y1', .float .f64 y2', .float .f64 y3'], .int .i64 k'], .tuple #[.agg #[.float .f64 y1', .float .f64 y2', .float .f64 y3'], .int .i64 k'], .agg #[.float .f64 y1', .float .f64 y2', .float .f64 y3'], .int .i64 k', undef, .int .i64 k'] ds (by kernel_rfl) (by rw [hds]; rfl) hap (by decide +kernel) (by decide +kernel) K ?ha ?haj ?hai ?hsi ?hss ?hsa ?hsw ?htg ?hE2 ?hE3 ?hE4 ?hL1 ?hL2 ?hL3 ?alloc ?step ?store ?fin
        case ha => intro al hal; cases hal
        case haj => intro al hal al' hal' e; cases hal
        case hai => intro al hal; cases hal
        case hsi => intro st hst st' hst' e; rcases List.mem_singleton.1 hst with rfl <;> (rcases List.mem_singleton.1 hst' with rfl) <;> first | rfl | (exfalso; revert e; simp)
        case hss =>
         intro st hst
         rcases List.mem_singleton.1 hst with rfl
         · show 10 < 12; decide
        case hsa =>
         intro st hst al hal
         cases hal
        case hsw =>
         intro st hst al hal e
         cases hal
        case htg =>
         intro st hst
         rcases List.mem_singleton.1 hst with rfl
         · exact .inl ⟨_, _, rfl, show 0 + 3 ≤ 3 by decide⟩
        case hE2 =>
         intro hf j h1 h2
         have n2 : 2 ≠ j := h1 _ (List.mem_cons_self ..)
         rcases j with _ | _ | _ | j
         · rfl
         · rfl
         · exact absurd rfl n2
         · rfl
        case hE3 =>
         intro hf st hst g us e
         rcases List.mem_singleton.1 hst with rfl
         · obtain ⟨rfl, rfl⟩ := Prod.mk.inj (Option.some.inj (Option.some.inj e)); rfl
        case hE4 =>
         intro hf al hal
         cases hal
        case hL1 => intro hf; rfl
        case hL2 =>
         intro hf i hi hna
         have hi : i < 12 := hi
         have : i = 0 ∨ i = 1 ∨ i = 2 ∨ i = 3 ∨ i = 4 ∨ i = 5 ∨ i = 6 ∨ i = 7 ∨ i = 8 ∨ i = 9 ∨ i = 10 ∨ i = 11 := by omega
         rcases this with rfl | rfl | rfl | rfl | rfl | rfl | rfl | rfl | rfl | rfl | rfl | rfl
         · rfl
         · rfl
         · rfl
         · rfl
         · rfl
         · rfl
         · rfl
         · rfl
         · rfl
         · rfl
         · rfl
         · rfl
        case hL3 => intro hf al hal; cases hal
        case alloc =>
         intro al hal o ρ W ho
         cases hal
        case step =>
         intro L W i o ho hs ha hd hB hO
         have hi : i < 12 := (Array.getElem?_eq_some_iff.1 ho).1
         have : i = 0 ∨ i = 1 ∨ i = 2 ∨ i = 3 ∨ i = 4 ∨ i = 5 ∨ i = 6 ∨ i = 7 ∨ i = 8 ∨ i = 9 ∨ i = 10 ∨ i = 11 := by omega
         rcases this with rfl | rfl | rfl | rfl | rfl | rfl | rfl | rfl | rfl | rfl | rfl | rfl
         · obtain rfl := Option.some.inj ho
           refine .value W ?_ (Below.refl _ _)
           generalize hA : (puts ds L _).eval = ρ
           have hc : ∀ v, ρ (.const v) = v := fun v => by rw [← hA]; rfl
           have h0 : ρ (.tmp 0) = .slice (some ⟨b, o, none⟩) n cap := by rw [← hA]; exact (puts_old ds L _ (by rw [hds]; decide)).trans rfl
           clear hA hd hB ho hs ha hO
           unfold execOp
           go_simp
         · obtain rfl := Option.some.inj ho
           refine .value W ?_ (Below.refl _ _)
           generalize hA : (puts ds L _).eval = ρ
           have hc : ∀ v, ρ (.const v) = v := fun v => by rw [← hA]; rfl
           have h0 : ρ (.tmp 1) = .int .i64 (j : Int) := by rw [← hA]; exact (puts_old ds L _ (by rw [hds]; decide)).trans rfl
           clear hA hd hB ho hs ha hO
           unfold execOp
           go_simp
         · obtain rfl := Option.some.inj ho
           refine .value W ?_ (Below.refl _ _)
           generalize hA : (puts ds L _).eval = ρ
           have hc : ∀ v, ρ (.const v) = v := fun v => by rw [← hA]; rfl
           have h0 : ρ (.tmp 34) = .slice (some ⟨b, o, none⟩) n cap := by rw [← hA]; exact puts_get 0 ds L _ hap (by rw [hds]; rfl) (hd 0 (by decide +kernel) (by intro al hal; cases hal)) (show 34 < 50 by decide)
           have h1 : ρ (.tmp 35) = .int .i64 (j : Int) := by rw [← hA]; exact puts_get 1 ds L _ hap (by rw [hds]; rfl) (hd 1 (by decide +kernel) (by intro al hal; cases hal)) (show 35 < 50 by decide)
           clear hA hd hB ho hs ha hO
           have hlt2 := hjn
           unfold execOp
           go_simp
         · obtain rfl := Option.some.inj ho
           obtain ⟨d0, d1, d2, d3, d4, d5, d6⟩ := far.out W hO
           refine .value W ?_ (Below.refl _ _)
           generalize hA : (puts ds L _).eval = ρ
           have hc : ∀ v, ρ (.const v) = v := fun v => by rw [← hA]; rfl
           have h0 : ρ (.tmp 36) = .pointer (some ⟨b, o + j * 7, none⟩) := by rw [← hA]; exact puts_get 2 ds L _ hap (by rw [hds]; rfl) (hd 2 (by decide +kernel) (by intro al hal; cases hal)) (show 36 < 50 by decide)
           clear hA hd hB ho hs ha hO
           unfold execOp
           go_simp
         · obtain rfl := Option.some.inj ho
           refine .value W ?_ (Below.refl _ _)
           generalize hA : (puts ds L _).eval = ρ
           have hc : ∀ v, ρ (.const v) = v := fun v => by rw [← hA]; rfl
           have h0 : ρ (.tmp 2) = .float .f64 d := by rw [← hA]; exact (puts_old ds L _ (by rw [hds]; decide)).trans rfl
           clear hA hd hB ho hs ha hO
           unfold execOp
           go_simp
         · obtain rfl := Option.some.inj ho
           have b := hB 2 _ _ rfl (by
            intro st hst e
            rcases List.mem_singleton.1 hst with rfl
            · change needs _ _ 10 5 = true; decide +kernel)
           have c0 := b.at_ 0 _ rfl
           have c1 := b.at_ 1 _ rfl
           have c2 := b.at_ 2 _ rfl
           clear b
           refine .value W ?_ (Below.refl _ _)
           generalize hA : (puts ds L _).eval = ρ
           have hc : ∀ v, ρ (.const v) = v := fun v => by rw [← hA]; rfl
           have h0 : ρ (.tmp 11) = .pointer (some ⟨g1, 0, none⟩) := by rw [← hA]; exact (puts_old ds L _ (by rw [hds]; decide)).trans rfl
           clear hA hd hB ho hs ha hO
           unfold execOp
           go_simp
         · obtain rfl := Option.some.inj ho
           refine .call 113 #[.agg #[.int .i64 up, .int .i64 ax, .float .f64 ph, .float .f64 rt, .float .f64 o1, .float .f64 o2, .float .f64 o3], .float .f64 d, .agg #[.float .f64 p1, .float .f64 p2, .float .f64 p3]] ?_ (CU.out W)
           generalize hA : (puts ds L _).eval = ρ
           have hc : ∀ v, ρ (.const v) = v := fun v => by rw [← hA]; rfl
           have hg : ∀ g, ρ (.func g) = .func (.func g) #[] #[] := fun v => by rw [← hA]; rfl
           have h0 : ρ (.tmp 37) = .agg #[.int .i64 up, .int .i64 ax, .float .f64 ph, .float .f64 rt, .float .f64 o1, .float .f64 o2, .float .f64 o3] := by rw [← hA]; exact puts_get 3 ds L _ hap (by rw [hds]; rfl) (hd 3 (by decide +kernel) (by intro al hal; cases hal)) (show 37 < 50 by decide)
           have h1 : ρ (.tmp 38) = .float .f64 d := by rw [← hA]; exact puts_get 4 ds L _ hap (by rw [hds]; rfl) (hd 4 (by decide +kernel) (by intro al hal; cases hal)) (show 38 < 50 by decide)
           have h2 : ρ (.tmp 39) = .agg #[.float .f64 p1, .float .f64 p2, .float .f64 p3] := by rw [← hA]; exact puts_get 5 ds L _ hap (by rw [hds]; rfl) (hd 5 (by decide +kernel) (by intro al hal; cases hal)) (show 39 < 50 by decide)
           have hf := Tryz.func113
           unfold execOp
           go_simp
         · obtain rfl := Option.some.inj ho
           refine .value W ?_ (Below.refl _ _)
           generalize hA : (puts ds L _).eval = ρ
           have hc : ∀ v, ρ (.const v) = v := fun v => by rw [← hA]; rfl
           have h0 : ρ (.tmp 40) = .tuple #[.agg #[.float .f64 y1', .float .f64 y2', .float .f64 y3'], .int .i64 k'] := by rw [← hA]; exact puts_get 6 ds L _ hap (by rw [hds]; rfl) (hd 6 (by decide +kernel) (by intro al hal; cases hal)) (show 40 < 50 by decide)
           clear hA hd hB ho hs ha hO
           unfold execOp
           go_simp
         · obtain rfl := Option.some.inj ho
           refine .value W ?_ (Below.refl _ _)
           generalize hA : (puts ds L _).eval = ρ
           have hc : ∀ v, ρ (.const v) = v := fun v => by rw [← hA]; rfl
           have h0 : ρ (.tmp 33) = .tuple #[.agg #[.float .f64 y1', .float .f64 y2', .float .f64 y3'], .int .i64 k'] := by rw [← hA]; exact puts_get 7 ds L _ hap (by rw [hds]; rfl) (hd 7 (by decide +kernel) (by intro al hal; cases hal)) (show 33 < 50 by decide)
           clear hA hd hB ho hs ha hO
           unfold execOp
           go_simp
         · obtain rfl := Option.some.inj ho
           refine .value W ?_ (Below.refl _ _)
           generalize hA : (puts ds L _).eval = ρ
           have hc : ∀ v, ρ (.const v) = v := fun v => by rw [← hA]; rfl
           have h0 : ρ (.tmp 33) = .tuple #[.agg #[.float .f64 y1', .float .f64 y2', .float .f64 y3'], .int .i64 k'] := by rw [← hA]; exact puts_get 7 ds L _ hap (by rw [hds]; rfl) (hd 7 (by decide +kernel) (by intro al hal; cases hal)) (show 33 < 50 by decide)
           clear hA hd hB ho hs ha hO
           unfold execOp
           go_simp
         · exact absurd rfl (hs _ (List.mem_cons_self ..))
         · obtain rfl := Option.some.inj ho
           refine .value W ?_ (Below.refl _ _)
           generalize hA : (puts ds L _).eval = ρ
           have hc : ∀ v, ρ (.const v) = v := fun v => by rw [← hA]; rfl
           have h0 : ρ (.tmp 42) = .int .i64 k' := by rw [← hA]; exact puts_get 9 ds L _ hap (by rw [hds]; rfl) (hd 9 (by decide +kernel) (by intro al hal; cases hal)) (show 42 < 50 by decide)
           clear hA hd hB ho hs ha hO
           unfold execOp
           go_simp
        case store =>
         intro st hst L W o h us ho hd hal hC b
         rcases List.mem_singleton.1 hst with rfl
         · dsimp only at ho hd hal hC b ⊢
           obtain rfl := Option.some.inj ho
           obtain ⟨hh, rfl⟩ := hC _ _ rfl
           replace hh := hh.symm
           subst hh
           have c0 := b.at_ 0 _ rfl
           have f0 := b.fr 0 _ rfl
           have c1 := b.at_ 1 _ rfl
           have f1 := b.fr 1 _ rfl
           have c2 := b.at_ 2 _ rfl
           have f2 := b.fr 2 _ rfl
           refine ⟨?_, rfl⟩
           generalize hA : (puts ds L _).eval = ρ
           have h0 : ρ (.tmp 11) = .pointer (some ⟨g1, 0, none⟩) := by rw [← hA]; exact (puts_old ds L _ (by rw [hds]; decide)).trans rfl
           have h1 : ρ (.tmp 41) = .agg #[.float .f64 y1', .float .f64 y2', .float .f64 y3'] := by rw [← hA]; exact puts_get 8 ds L _ hap (by rw [hds]; rfl) (hd 8 (by decide +kernel) (by intro al hal; cases hal)) (show 41 < 50 by decide)
           have hst' := @fstore
           clear hA hd b ho hal hC
           simp only [putV]
           unfold execOp
           go_simp
        case fin =>
         intro hf W0 K
         rw [hds]
         clear hds hap ds CU
         (try dsimp only at K)
         simp only [List.set_cons_zero, List.set_cons_succ, puts, Act.put, List.setIfInBounds_toArray]
         obtain ⟨d0, -⟩ := far.out W0 K.old
         replace K := Lib.hid K
         go_wp2_with fail
         go_roundw
         case rel => exact ⟨up, k', y1', y2', y3', rfl, rfl, u0, by omega, AU.out, NX.out, K.out⟩
         case measure => simp [intOf]; omega
    · have tk : (k == 0) = false := by simpa using hk
      have fin := R.out.fin (fun e => absurd e hk)
      replace fin := Lib.hid fin
      have c2_0 := (K.at_ 2 rfl).at_ 0 _ rfl
      have c2_1 := (K.at_ 2 rfl).at_ 1 _ rfl
      have c2_2 := (K.at_ 2 rfl).at_ 2 _ rfl
      have c1_0 := (K.at_ 1 rfl).at_ 0 _ rfl
      have f1_0 := (K.at_ 1 rfl).fr 0 _ rfl
      have c1_1 := (K.at_ 1 rfl).at_ 1 _ rfl
      have f1_1 := (K.at_ 1 rfl).fr 1 _ rfl
      have c1_2 := (K.at_ 1 rfl).at_ 2 _ rfl
      have f1_2 := (K.at_ 1 rfl).fr 2 _ rfl
      replace K := Lib.hid K
      go_wp2_with fail
      replace K := K.out
      (try simp only [Exit.inBlock, Exit.then])
      refine bodyPost_ret (v := .tuple #[.agg #[.float .f64 p1, .float .f64 p2, .float .f64 p3], .int .i64 k]) ?_ rfl ⟨ret_vF fin.out, ?_⟩
      · rw [results_cell_tmp rfl]; go_simp
      · exact (((K.old).setCell (by first | exact Nat.le_refl _ | (dsimp only; omega)) _).setCell (by first | exact Nat.le_refl _ | (dsimp only; omega)) _).setCell (by first | exact Nat.le_refl _ | (dsimp only; omega)) _
 · rw [if_neg hr]
   have tk : (readyF L i0 (witB g24 d) != 0) = true := by simpa using hr
   clear hr ha hn hL hv Y CS
   generalize readyF L i0 (witB g24 d) = k at *
   generalize witB g24 d = tb at *
   obtain ⟨x1, x2, x3⟩ := v
   unfold vecV at *
   dsimp only at *
   have K0 := kv2 w 41 41 [.float .f64 x1, .float .f64 x2, .float .f64 x3] [.float .f64 0, .float .f64 0, .float .f64 0]
   simp only [objV] at K0
   have hst := @fstore
   replace K0 := Lib.hid K0
   go_enter Tryz.func60, Tryz.ntmps60
   go_wp2_with (go_at_call 31; ((with_reducible refine (CT _).mono ?_); rintro e w' ⟨rfl, rfl⟩))
   have K := K0.out
   clear K0
   generalize (w.alloc _).alloc _ = wr at *
   refine (CR.out wr K.old).mono ?_
   rintro _ v1 ⟨rfl, hb⟩
   replace K := K.on hb
   clear hb CR
   have c1_0 := (K.at_ 1 rfl).at_ 0 _ rfl
   have f1_0 := (K.at_ 1 rfl).fr 0 _ rfl
   have c1_1 := (K.at_ 1 rfl).at_ 1 _ rfl
   have f1_1 := (K.at_ 1 rfl).fr 1 _ rfl
   have c1_2 := (K.at_ 1 rfl).at_ 2 _ rfl
   have f1_2 := (K.at_ 1 rfl).fr 2 _ rfl
   replace K := Lib.hid K
   go_wp2_with fail
   replace K := K.out
   (try simp only [Exit.inBlock, Exit.then])
   refine bodyPost_ret (v := .tuple #[.agg #[.float .f64 0, .float .f64 0, .float .f64 0], .int .i64 k]) ?_ rfl ⟨rfl, ?_⟩
   · rw [results_cell_tmp rfl]; go_simp
   · exact (((K.old).setCell (by first | exact Nat.le_refl _ | (dsimp only; omega)) _).setCell (by first | exact Nat.le_refl _ | (dsimp only; omega)) _).setCell (by first | exact Nat.le_refl _ | (dsimp only; omega)) _
end Go.Proofs.YtacinenddnfcbaaGreat

namespace Go.Proofs.YtacinenddnfcbaaGreat
open Go.ChangeShapes Go.WideShapes Go.ChangeAt Go.RowKit Ieee.Own

end Go.Proofs.YtacinenddnfcbaaGreat

namespace Go.Proofs.YtacinenddnfcbaaGreat
open Go.ChangeShapes Go.WideShapes Go.ChangeAt Go.RowKit Ieee.Own

end Go.Proofs.YtacinenddnfcbaaGreat

namespace Go.Proofs.YtacinenddnfcbaaGreat
open Go.ChangeShapes Go.WideShapes Go.ChangeAt Go.RowKit Go.Deep Ieee.Own

theorem wf64 {b : Nat} (h : (Lit.float .f64 b).wf = true) : b < 18446744073709551616 := by
 simp only [Lit.wf, decide_eq_true_eq] at h; exact h

theorem array7 {α : Type} {cs : List α} (h : cs.length = 7) : ∃ c0 c1 c2 c3 c4 c5 c6, cs = [c0, c1, c2, c3, c4, c5, c6] := by
 match cs, h with
 | [c0, c1, c2, c3, c4, c5, c6], _ => exact ⟨c0, c1, c2, c3, c4, c5, c6, rfl⟩
theorem fr_cells {H : Type} {enc : TypeId × Value → H} {W : World} (n : Nat) (cs : List Value) (y : DataW H × List MemPlace) (hl : cs.length = 7)
 (h : DataW.trod enc Tryz.prog W 0 (fun _ => true) true n 91 cs = some y) : ∃ f : Fr, cs = frC f ∧ FrW f := by
 obtain ⟨c0, c1, c2, c3, c4, c5, c6, rfl⟩ := array7 hl
 obtain ⟨xs, n', -, -, -, hx0, hf⟩ := DataW.trod_struct Tryz.underlying91 h
 have e1 : Tryz.prog.cellsOf 3 = 1 := by kernel_rfl
 have e2 : Tryz.prog.cellsOf 22 = 1 := by kernel_rfl
 have e3 : Tryz.prog.cellsOf 41 = 3 := by kernel_rfl
 have key : ∀ {t : TypeId} {k m : Nat} {cs' : List Value} {z : Option (DataW H × List MemPlace)}, Tryz.prog.cellsOf t = m → (([c0, c1, c2, c3, c4, c5, c6].drop k).take m) = cs' → m ≤ cs'.length → 0 < m → z = DataW.trod enc Tryz.prog W 0 (fun _ => true) true n' t (([c0, c1, c2, c3, c4, c5, c6].drop k).take (Tryz.prog.cellsOf t)) → (∃ q, z = some q) → ∃ q, DataW.trod enc Tryz.prog W 0 (fun _ => true) true n' t cs' = some q := fun h1 h2 _ _ h3 h4 => by
  rw [h1, h2] at h3
  obtain ⟨q, hq⟩ := h4
  exact ⟨q, by rw [← h3, hq]⟩
 have hx : xs.length = 5 := hx0
 have g0 := hf 0 _ rfl
 have g1 := hf 1 _ rfl
 have g2 := hf 2 _ rfl
 have g3 := hf 3 _ rfl
 have g4 := hf 4 _ rfl
 obtain ⟨q0, h0⟩ := key (k := 0) (m := 1) (cs' := [c0]) e1 rfl (by simp) (by omega) g0.symm ⟨_, List.getElem?_eq_getElem (by omega)⟩
 obtain ⟨q1, h1⟩ := key (k := 1) (m := 1) (cs' := [c1]) e1 rfl (by simp) (by omega) g1.symm ⟨_, List.getElem?_eq_getElem (by omega)⟩
 obtain ⟨q2, h2⟩ := key (k := 2) (m := 1) (cs' := [c2]) e2 rfl (by simp) (by omega) g2.symm ⟨_, List.getElem?_eq_getElem (by omega)⟩
 obtain ⟨q3, h3⟩ := key (k := 3) (m := 1) (cs' := [c3]) e2 rfl (by simp) (by omega) g3.symm ⟨_, List.getElem?_eq_getElem (by omega)⟩
 obtain ⟨q4, h4⟩ := key (k := 4) (m := 3) (cs' := [c4, c5, c6]) e3 rfl (by simp) (by omega) g4.symm ⟨_, List.getElem?_eq_getElem (by omega)⟩
 obtain ⟨a, ha, -⟩ := DataW.trod_int Tryz.underlying3 h0
 obtain ⟨b, hb, -⟩ := DataW.trod_int Tryz.underlying3 h1
 simp only [List.cons.injEq, and_true] at ha hb
 subst ha hb
 obtain ⟨p, rfl, hp⟩ := float_cell Tryz.underlying22 h2
 obtain ⟨r, rfl, hr⟩ := float_cell Tryz.underlying22 h3
 obtain ⟨v, rfl, rfl, rfl, hv⟩ := vec_cells h4
 exact ⟨⟨a, b, p, r, v.1, v.2.1, v.2.2⟩, rfl, hp, hr, hv.l1, hv.l2, hv.l3⟩
theorem open_frames {H : Type} {enc : TypeId × Value → H} {W : World} {v : Value} {d : DataW H} {ps : List MemPlace}
 (hval : ∃ ao n c, v = .slice ao n c) (h : DataW.Trod enc Tryz.prog W 0 (fun _ => true) true 23 v d ps) :
 ∃ ao cap L, v = .slice ao (List.length L) cap ∧ L.length ≤ cap ∧ cap ≤ maxLen ∧ FAt W ao L ∧ FsW L ∧ ((ao = none ∧ cap = 0) ∨ ((∃ a, ao = some a) ∧ ∃ es sp : List (DataW H), d = .slice es sp ∧ es.length + sp.length = cap)) := by
 obtain ⟨ao, cap, R, h1, h2, h3, h4, h5, h6⟩ := open_rows (m := 7) (fun cs => ∃ f : Fr, cs = frC f ∧ FrW f) Tryz.underlying23 (by kernel_rfl) (by omega) (fun n cs y hl hy => fr_cells n cs y hl hy) hval h
 have : ∃ L : List Fr, R = L.map frC ∧ FsW L := by
  clear h1 h2 h3 h4 h6
  induction R with
  | nil => exact ⟨[], rfl, fun f hf => by cases hf⟩
  | cons r R ih =>
    obtain ⟨L, rfl, hL⟩ := ih (fun x hx => h5 x (List.mem_cons_of_mem _ hx))
    obtain ⟨⟨f, rfl, hf⟩, -⟩ := h5 r (List.mem_cons_self ..)
    exact ⟨f :: L, rfl, fun g hg => by
        rcases List.mem_cons.1 hg with rfl | hg
        · exact hf
        · exact hL g hg⟩
 obtain ⟨L, rfl, hL⟩ := this
 rw [List.length_map] at h1 h2
 exact ⟨ao, cap, L, h1, h2, h3, h4, hL, h6⟩
end Go.Proofs.YtacinenddnfcbaaGreat

namespace Fma
open Go.Proofs.YtacinenddnfcbaaGreat Pol

abbrev R3 := Rat × Rat × Rat
theorem sq_nn (x : Rat) : 0 ≤ x * x := by
 rcases Rat.le_total (a := 0) (b := x) with q | q
 · exact Rat.mul_nonneg q q
 · have := Rat.mul_nonneg (by grind : 0 ≤ -x) (by grind : 0 ≤ -x); grind
theorem sq_mono {x y : Rat} (h : 0 ≤ x) (k : x ≤ y) : x * x ≤ y * y := by
 have a := Rat.mul_nonneg h (show 0 ≤ y - x by grind)
 have b := Rat.mul_nonneg (show 0 ≤ y by grind) (show 0 ≤ y - x by grind)
 grind
theorem sq_le_of {x y : Rat} (h : 0 ≤ y) (k : x * x ≤ y * y) : x ≤ y := by
 rcases Rat.le_total (a := x) (b := y) with q | q
 · exact q
 · by_cases e : x = y
   · rw [e]; exact Rat.le_refl
   · have d : 0 < x - y := by grind
     have a := Rat.mul_nonneg (show 0 ≤ x by grind) (show 0 ≤ x - y by grind)
     have b := Rat.mul_nonneg h (show 0 ≤ x - y by grind)
     have c := Rat.mul_pos d d
     grind
end Fma

namespace Go.Proofs.YtacinenddnfcbaaGreat
open Ieee.Own Pol Fma

structure FrA (f : Fr) (d : Nat) : Prop where
 w : FrW f
 a0 : 0 ≤ f.ax
 a1 : f.ax ≤ 2
 a : AngA f d
end Go.Proofs.YtacinenddnfcbaaGreat

namespace Go.Proofs.YtacinenddnfcbaaGreat
open Ieee.Own Pol Fma

def hh (R : Rat) : Rat := 500 * (uR * R) + 40 * sm
end Go.Proofs.YtacinenddnfcbaaGreat

namespace Go.Proofs.YtacinenddnfcbaaGreat
open Go.ChangeShapes Go.WideShapes Go.ChangeAt Go.RowKit Ieee.Own

end Go.Proofs.YtacinenddnfcbaaGreat

namespace Go.Proofs.YtacinenddnfcbaaGreat
open Go.ChangeShapes Go.WideShapes Go.ChangeAt Go.RowKit Ieee.Own Pol Fma

end Go.Proofs.YtacinenddnfcbaaGreat

namespace Go.Proofs.YtacinenddnfcbaaGreat
open Go.ChangeShapes Go.WideShapes Go.ChangeAt Go.RowKit Ieee.Own

end Go.Proofs.YtacinenddnfcbaaGreat

namespace Go.Proofs.YtacinenddnfcbaaGreat
open Go.ChangeShapes Go.WideShapes Go.ChangeAt Go.RowKit Ieee.Own

end Go.Proofs.YtacinenddnfcbaaGreat

namespace Go.Proofs.YtacinenddnfcbaaGreat
open Go.ChangeShapes Go.WideShapes Go.ChangeAt Go.RowKit Ieee.Own

end Go.Proofs.YtacinenddnfcbaaGreat

namespace Go.Proofs.YtacinenddnfcbaaGreat
open Go.ChangeShapes Go.WideShapes Go.ChangeAt Go.RowKit Ieee.Own

end Go.Proofs.YtacinenddnfcbaaGreat

namespace Go.Proofs.YtacinenddnfcbaaGreat
open Go.ChangeShapes Go.WideShapes Go.ChangeAt Go.RowKit Ieee.Own Pol

end Go.Proofs.YtacinenddnfcbaaGreat

namespace Go.Proofs.YtacinenddnfcbaaGreat
open Go.ChangeShapes Go.WideShapes Go.ChangeAt Go.RowKit Ieee.Own Pol

end Go.Proofs.YtacinenddnfcbaaGreat

namespace Go.Proofs.YtacinenddnfcbaaGreat
open Go.ChangeShapes Go.WideShapes Go.ChangeAt Go.RowKit Ieee.Own

end Go.Proofs.YtacinenddnfcbaaGreat

namespace Go.Proofs.YtacinenddnfcbaaGreat
open Go.ChangeShapes Go.WideShapes Go.ChangeAt Go.RowKit Ieee.Own

end Go.Proofs.YtacinenddnfcbaaGreat

namespace Go.Proofs.YtacinenddnfcbaaGreat
open Go.ChangeShapes Go.WideShapes Go.ChangeAt Go.RowKit Ieee.Own Pol Fma

theorem fit_big {x : Nat} (hx : FinW x) (f : fitB x = true) : V x = 0 ∨ 2 ^ 874 ≤ (V x).natAbs := by
 unfold fitB at f
 rw [decide_eq_true_eq] at f
 rcases f with h | ⟨h, -⟩
 · exact .inl ((V_zero_iff hx).2 h)
 · right
   rw [V_abs' x hx]
   have e : val 52 3706462493325918208 = 2 ^ 874 := by decide +kernel
   rw [← e]
   by_cases q : x % 9223372036854775808 = 3706462493325918208
   · rw [q]; exact Nat.le_refl _
   · exact Nat.le_of_lt (val_lt (by omega))
theorem unfit_small {x : Nat} (hx : FinW x) (f : fitB x = false) (b : (V x).natAbs ≤ 2 ^ 1110) : (V x).natAbs < 2 ^ 874 := by
 unfold fitB at f
 rw [decide_eq_false_iff_not] at f
 rw [V_abs' x hx] at b ⊢
 have e : val 52 3706462493325918208 = 2 ^ 874 := by decide +kernel
 have e2 : val 52 5507902344274116608 = 2 ^ 1274 := by decide +kernel
 by_cases q : x % 9223372036854775808 < 3706462493325918208
 · rw [← e]; exact val_lt q
 · exfalso
   have q2 : 5507902344274116608 < x % 9223372036854775808 := by omega
   have := val_lt (F := 52) q2
   rw [e2] at this
   exact absurd (Nat.lt_of_lt_of_le this (Nat.le_trans b (two_le (a := 1110) (b := 1274) (by omega)))) (Nat.lt_irrefl _)
def SQ (x : Nat) : Rat := Ply.sq (kq eig (V x)) (Ply.tau * ((rq eig (V x) : Rat) / unit))
def CQ (x : Nat) : Rat := Ply.sq (kq eig (V x) + 1) (Ply.tau * ((rq eig (V x) : Rat) / unit))
theorem SQ_of {x r : Nat} (R : Rst x r) : SQ x = Ply.sq (kq eig (V x)) (Ply.tau * Q r) ∧ CQ x = Ply.sq (kq eig (V x) + 1) (Ply.tau * Q r) := by
 unfold SQ CQ Q
 rw [R.v]
 exact ⟨rfl, rfl⟩
theorem rst_ex {x : Nat} (h : Ang x) : ∃ r, Rst x r := by
 obtain ⟨r, R, -⟩ := uquarter_run h
 exact ⟨r, R⟩
end Go.Proofs.YtacinenddnfcbaaGreat

namespace Go.Proofs.YtacinenddnfcbaaGreat
open Go.ChangeShapes Go.WideShapes Go.ChangeAt Go.RowKit Ieee.Own Pol Fma

def two52 : Nat := 4611686018427387904
theorem norm_two : Norm two52 false 4503599627370496 1023 := by
 have f : FinW two52 := by unfold FinW two52; omega
 have N := norm_of f (by unfold two52; omega)
 rw [show decide (9223372036854775808 ≤ two52) = false by decide] at N
 exact N
theorem sv_two (s : Bool) (m p : Nat) : 2 * sv s m p = sv s m (p + 1) := by
 rw [← sv_up, Int.pow_succ, Int.pow_zero, Int.one_mul, Int.mul_comm]
theorem sv_twice (s : Bool) (m p : Nat) : sv s (2 * m) p = sv s m (p + 1) := by
 rw [← sv_scale, Nat.pow_one, Nat.mul_comm]
theorem half_any {a j k : Nat} (W : Wd a (j + 1) k) (hj : 400 ≤ j) (hk0 : 800 ≤ k) (hk : k ≤ 1200) :
 Ieee.double.div a two52 = some (qX a two52) ∧ Wd (qX a two52) j k ∧ 2 * V (qX a two52) = V a := by
 by_cases z : V a = 0
 · obtain ⟨r, q1, q2, q3⟩ := div_zero W.fin z norm_two.fin (by decide +kernel)
   have er : qX a two52 = r := by unfold qX; rw [q1]; rfl
   rw [er]
   exact ⟨q1, ⟨q2, by rw [q3]; exact Int.dvd_zero _, by rw [q3]; exact Nat.zero_le _⟩, by omega⟩
 · have lo := pow_abs_dvd W.dvd z
   obtain ⟨s, m, p, N⟩ := is_norm W.fin lo (by omega)
   obtain ⟨p1, p2⟩ := norm_pl N lo W.abs (by omega) (by omega)
   obtain ⟨r, Q, u, q1, q2, q3, u1, u2, Q1, Q2, i1, i2⟩ := div_spec N norm_two (by omega) (by omega)
   have er : qX a two52 = r := by unfold qX; rw [q1]; rfl
   rw [er]
   have v : 2 * V r = V a := by
    rw [q3, N.val]
    rcases (by omega : u = 52 ∨ u = 53) with rfl | rfl
    · have : Q = m := by omega
      subst this
      rw [show 1074 + p - 1023 - 52 = p - 1 by omega, sv_two, show p - 1 + 1 = p by omega, Bool.xor_false]
    · have : Q = 2 * m := by omega
      subst this
      rw [show 1074 + p - 1023 - 53 = p - 2 by omega, sv_two, sv_twice, show p - 2 + 1 + 1 = p by omega, Bool.xor_false]
   refine ⟨q1, ⟨q2, ?_, ?_⟩, v⟩
   · obtain ⟨c, hc⟩ := W.dvd
     refine ⟨c, ?_⟩
     rw [two_split, Int.mul_assoc] at hc
     omega
   · have := W.abs; omega
def mdW (a b : Nat) : Nat := qX (aX a b) two52
theorem mid_any {a b j k : Nat} (A : Wd a (j + 1) k) (B : Wd b (j + 1) k) (hj : 400 ≤ j) (hk0 : 800 ≤ k) (hk : k < 1200) (le : V a ≤ V b) :
 Ieee.double.add a b = some (aX a b) ∧ Ieee.double.div (aX a b) two52 = some (mdW a b) ∧ Wd (mdW a b) j k ∧ V a ≤ V (mdW a b) ∧ V (mdW a b) ≤ V b ∧ 2 * V (mdW a b) = RN (V a + V b) := by
 obtain ⟨h1, h2, -⟩ := A.add B (by omega)
 obtain ⟨r, g1, g2, g3, g4⟩ := addW A.fin B.fin A.abs B.abs (by omega)
 have er : aX a b = r := by unfold aX; rw [g1]; rfl
 obtain ⟨k1, k2, k3⟩ := half_any h2 hj (by omega) (by omega)
 have e : V (aX a b) = RN (V a + V b) := by rw [er]; exact g3
 rw [e] at k3
 have two : ∀ x : Nat, RN (2 * V x) = 2 * V x := fun x => by
  have := RN_exact (Rep_mul _ 1 (Rep_V x))
  rwa [show V x * 2 ^ 1 = 2 * V x by omega] at this
 have lo := RN_mono (show 2 * V a ≤ V a + V b by omega)
 have hi := RN_mono (show V a + V b ≤ 2 * V b by omega)
 rw [two] at lo hi
 have l : V a ≤ V (mdW a b) := by show V a ≤ V (qX (aX a b) two52); omega
 have u : V (mdW a b) ≤ V b := by show V (qX (aX a b) two52) ≤ V b; omega
 have := A.abs
 have := B.abs
 exact ⟨h1, k1, ⟨k2.fin, k2.dvd, by omega⟩, l, u, k3⟩
theorem Q_two {x y : Nat} (h : 2 * V x = V y) : 2 * Q x = Q y := by
 have a := Q_unit x
 have b := Q_unit y
 rw [← h, Rat.intCast_mul, show ((2 : Int) : Rat) = 2 by decide +kernel, ← a] at b
 have u := unit_pos
 have e : (Q y - 2 * Q x) * unit = 0 := by grind
 rcases Rat.mul_eq_zero.1 e with h | h <;> grind
theorem mid_near {a b j : Nat} (A : Wd a (j + 1) 1074) (B : Wd b (j + 1) 1074) (hj : 400 ≤ j) (le : Q a ≤ Q b) :
 Wd (mdW a b) j 1074 ∧ Q a ≤ Q (mdW a b) ∧ Q (mdW a b) ≤ Q b ∧ Q (mdW a b) - Q a ≤ (Q b - Q a) / 2 + uR ∧ Q b - Q (mdW a b) ≤ (Q b - Q a) / 2 + uR := by
 obtain ⟨-, -, w, l, u, e⟩ := mid_any A B hj (by omega) (by omega) (Q_le.1 le)
 obtain ⟨r, g1, g2, g3, g4⟩ := addW A.fin B.fin A.abs B.abs (by omega)
 have q := add_rel g3
 rw [← g3] at e
 have k := Q_two e
 have one : ∀ x : Nat, (V x).natAbs ≤ 2 ^ 1074 → -1 ≤ Q x ∧ Q x ≤ 1 := fun x h => by
  have h1 : V x ≤ 2 ^ 1074 := by
   have : ((2 ^ 1074 : Nat) : Int) = 2 ^ 1074 := Int.natCast_pow 2 1074
   omega
  have h2 : -(2 ^ 1074) ≤ V x := by
   have : ((2 ^ 1074 : Nat) : Int) = 2 ^ 1074 := Int.natCast_pow 2 1074
   omega
  have v1 : V 4607182418800017408 = 2 ^ 1074 := by decide +kernel
  have v2 : V 13830554455654793216 = -(2 ^ 1074) := by decide +kernel
  have q1 : Q 4607182418800017408 = 1 := by decide +kernel
  have q2 : Q 13830554455654793216 = -1 := by decide +kernel
  exact ⟨by rw [← q2]; exact Q_le.2 (by rw [v2]; exact h2), by rw [← q1]; exact Q_le.2 (by rw [v1]; exact h1)⟩
 have qa := one a A.abs
 have qb := one b B.abs
 have z := q 2 (by grind) (by grind)
 have e53 : (2 : Rat) * mkRat 1 (2 ^ 53) = 2 * uR := rfl
 rw [e53] at z
 refine ⟨w, Q_le.2 l, Q_le.2 u, ?_, ?_⟩
 · generalize uR = u at *; grind
 · generalize uR = u at *; grind
end Go.Proofs.YtacinenddnfcbaaGreat
