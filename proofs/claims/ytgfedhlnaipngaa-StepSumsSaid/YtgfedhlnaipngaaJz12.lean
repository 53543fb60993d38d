/- Proved here: what the texts Grt, Grx, Gry, Grz, Gsr prove, one behind the other. -/
import Derived.Test.YtgfedhlnaipngaaJz11
import Derived.Test.YtgfedhlnaipngaaJz10
import Derived.Deep.RegionHeld3

namespace Go.Proofs.Ytgfedhlnaipngaa
open Go.ChangeShapes Go.WideShapes Go.ChangeAt Go.RowKit Go.Deep Ieee.Own

def RunQ (l : List Ma) (g : Nat) (n : Int) (w : World) (e : Ending) (w' : World) : Prop :=
  Below w.heap.size w w' ∧ ((RunR l g n).2 = none → e = .returned (.tuple #[.slice none 0 0, .int .i64 (RunR l g n).1])) ∧
    ∀ r, (RunR l g n).2 = some r → ∃ ao cap, e = .returned (.tuple #[.slice ao r.length cap, .int .i64 0]) ∧ MAt w' ao r
theorem RunQ.ok {l r : List Ma} {g cap : Nat} {ao : Option Addr} {n k : Int} {w w' : World} (h : RunR l g n = (k, some r)) (hb : Below w.heap.size w w') (O : MAt w' ao r) : RunQ l g n w (.returned (.tuple #[.slice ao r.length cap, .int .i64 0])) w' := by
  refine ⟨hb, fun e => ?_, fun q e => ?_⟩
  · rw [h] at e; cases e
  · rw [h] at e
    obtain rfl := Option.some.inj e
    exact ⟨ao, cap, rfl, O⟩
theorem gee_swap {g : Nat} (hg : g < 18446744073709551616) : (FloatKind.f64.format.order g 0 == some Ordering.gt || FloatKind.f64.format.order g 0 == some Ordering.eq) = geB0 g := by
  unfold geB0
  rw [o_geq g 0 hg (by omega), o_leq 0 g (by omega) hg, decide_eq_decide]
  constructor
  · rintro ⟨a, b, c⟩; exact ⟨b, a, c⟩
  · rintro ⟨a, b, c⟩; exact ⟨b, a, c⟩
end Go.Proofs.Ytgfedhlnaipngaa

namespace Go.Proofs.Ytgfedhlnaipngaa
open Ieee Ieee.Own

/-! ### no zero below zero -/
def nzW : Nat := 9223372036854775808
theorem sign_of {c : Nat} (hc : FinW c) {s : Bool} {m : Nat} {p : Int} (hr : double.read c = .number s m p) : (s = true ↔ 9223372036854775808 ≤ c) := by
  rw [read_num double c (by rw [sw64, inf64]; exact hc.2)] at hr
  simp only [Datum.number.injEq] at hr
  have h1 := hc.1
  rw [sw64] at hr
  rw [← hr.1]
  simp; omega
theorem sv_true (m p : Nat) : sv true m p ≤ 0 := by unfold sv; simp only [if_true]; omega
theorem fin0 : FinW 0 := by unfold FinW; omega
theorem val0 : V 0 = 0 := by decide +kernel
theorem nz_val : V nzW = 0 := by decide +kernel
theorem nz_datum {a : Nat} (ha : FinW a) (hn : a ≠ nzW) {t : Bool} {n q : Nat} (h : V a + sv t n q = 0) : ((double.read a).sum (.number t n (-1074 + (q : Int)))).map double.write = some 0 := by
  obtain ⟨s, m, p, hr, hV, -, hm, -⟩ := read_sv ha
  have s1 := sign_of ha hr
  have hst : (s && t) = false := by
    cases s
    · rfl
    · cases t
      · rfl
      · exfalso
        have h1 := s1.1 rfl
        have h2 := sv_true m p
        have h3 := sv_true n q
        rw [hV] at h
        have h4 : sv true m p = 0 := by omega
        apply hn
        have h5 := V_abs' a ha
        rw [hV, h4] at h5
        have h6 := val_zero_iff 52 (a % 9223372036854775808)
        have := ha.1
        have h7 : a % 9223372036854775808 = 0 := h6.1 (by simpa using h5.symm)
        unfold nzW
        omega
  rw [hr]
  simp only [Datum.sum, Option.map]
  have hal : _ = sv s m p + sv t n q := signed_align s t m n p q
  rw [← hV, h] at hal
  generalize signed s m (-1074 + (p : Int) - min (-1074 + (p : Int)) (-1074 + (q : Int))).toNat + signed t n (-1074 + (q : Int) - min (-1074 + (p : Int)) (-1074 + (q : Int))).toNat = T at *
  have hT : T = 0 := by
    have hp : (0 : Int) < 2 ^ (min p q) := Int.pow_pos (by omega)
    rcases Int.mul_eq_zero.1 hal with h | h
    · exact h
    · omega
  subst hT
  simp only [if_true, hst]
  simp only [Format.write, Format.nearest, Int.natAbs_zero, if_true]
  congr 1
theorem sv_opp (t : Bool) (n q : Nat) : sv (!t) n q = -sv t n q := by unfold sv; cases t <;> simp
/-- a word with a bound, and no zero below zero -/
structure Bn (s B : Nat) : Prop where
  fin : FinW s
  cap : (V s).natAbs ≤ 2 ^ B
  nz : s ≠ nzW
theorem Bn.add {s t B : Nat} (h : Bn s B) (ft : FinW t) (ct : (V t).natAbs ≤ 2 ^ B) (hB : B < 2000) : double.add s t = some (aX s t) ∧ Bn (aX s t) (B + 1) := by
  obtain ⟨r, h1, h2, h3, h4⟩ := addW h.fin ft h.cap ct hB
  have e : aX s t = r := by unfold aX; rw [h1]; rfl
  rw [e]
  refine ⟨h1, h2, h4, fun e1 => ?_⟩
  obtain ⟨u, n, q, hr, hV, -⟩ := read_sv ft
  by_cases h0 : V s + V t = 0
  · have := nz_datum h.fin h.nz (t := u) (n := n) (q := q) (by rw [← hV]; exact h0)
    rw [← hr] at this
    have h5 : double.add s t = some 0 := this
    rw [h1, e1] at h5
    exact absurd (Option.some.inj h5) (by decide)
  · rw [e1, nz_val] at h3
    exact h0 (RN_zero_iff h3.symm)
theorem Bn.sub {s t B : Nat} (h : Bn s B) (ft : FinW t) (ct : (V t).natAbs ≤ 2 ^ B) (hB : B < 2000) : double.sub s t = some (sG s t) ∧ Bn (sG s t) (B + 1) := by
  obtain ⟨r, h1, h2, h3, h4⟩ := subW h.fin ft h.cap ct hB
  have e : sG s t = r := by unfold sG; rw [h1]; rfl
  rw [e]
  refine ⟨h1, h2, h4, fun e1 => ?_⟩
  obtain ⟨u, n, q, hr, hV, -⟩ := read_sv ft
  by_cases h0 : V s - V t = 0
  · have := nz_datum h.fin h.nz (t := !u) (n := n) (q := q) (by rw [sv_opp, ← hV]; omega)
    have h5 : double.sub s t = some 0 := by unfold Format.sub; rw [hr]; exact this
    rw [h1, e1] at h5
    exact absurd (Option.some.inj h5) (by decide)
  · rw [e1, nz_val] at h3
    exact h0 (RN_zero_iff h3.symm)
theorem Bn.up {s B C : Nat} (h : Bn s B) (hc : B ≤ C) : Bn s C := ⟨h.fin, abs_up h.cap hc, h.nz⟩
theorem Bn.plus {s B : Nat} (h : Bn s B) (hB : B < 2000) : double.add s 0 = some s := by
  obtain ⟨r, h1, h2, h3, h4⟩ := addW h.fin fin0 h.cap (by rw [val0]; simp) hB
  rw [val0, Int.add_zero, RN_exact (Rep_V s)] at h3
  by_cases h0 : V s = 0
  · have := nz_datum h.fin h.nz (t := false) (n := 0) (q := 0) (by rw [h0]; rfl)
    have h5 : double.add s 0 = some 0 := this
    have h6 := V_abs' s h.fin
    rw [h0] at h6
    have h7 : s % 9223372036854775808 = 0 := (val_zero_iff 52 (s % 9223372036854775808)).1 (by simpa using h6.symm)
    have := h.fin.1
    have := h.nz
    unfold nzW at this
    rw [h5]
    congr 1
    omega
  · rw [h1, V_inj h2 h.fin h3 (by rw [h3]; exact h0)]

/-! ### what moves -/
theorem abs_nn {x : Int} {k : Nat} (h0 : 0 ≤ x) (h : x ≤ 2 ^ k) : x.natAbs ≤ 2 ^ k := by rw [two_cast k] at h; omega
def sqP (p : Nat → Int) : Nat → Nat
  | 0 => 0
  | k + 1 => aX (sqP p k) (mX (dW (p k)) (dW (p k)))
theorem bn0 (B : Nat) : Bn 0 B := ⟨fin0, by rw [val0]; simp, by unfold nzW; omega⟩
theorem sqP_step {p : Nat → Int} (h : ∀ k, (p k).natAbs ≤ 2 ^ 53) {k : Nat} (hk : k < 8) (b : Bn (sqP p k) (1180 + k)) : double.add (sqP p k) (mX (dW (p k)) (dW (p k))) = some (sqP p (k + 1)) ∧ Bn (sqP p (k + 1)) (1180 + (k + 1)) :=
  have s := sq_pos (h k)
  b.add s.2.1 (abs_up (abs_nn s.2.2.1 s.2.2.2) (by omega)) (by omega)
theorem sqP_bn {p : Nat → Int} (h : ∀ k, (p k).natAbs ≤ 2 ^ 53) : ∀ k, k ≤ 8 → Bn (sqP p k) (1180 + k)
  | 0, _ => bn0 _
  | k + 1, hk => (sqP_step h (by omega) (sqP_bn h k (by omega))).2
def kinW (a : Ma) : Nat := qG (sqP a.p.get 3) (dW (2 * a.m))
theorem OkM.p53 {a : Ma} (h : OkM a) (k : Nat) : (a.p.get k).natAbs ≤ 2 ^ 53 := abs_up (h.p k) (by omega)
theorem kin_ok {a : Ma} (h : OkM a) : double.div (sqP a.p.get 3) (dW (2 * a.m)) = some (kinW a) ∧ FinW (kinW a) ∧ (V (kinW a)).natAbs ≤ 2 ^ 1183 :=
  have b := sqP_bn h.p53 3 (by omega)
  have c : (V (sqP a.p.get 3)).natAbs ≤ 2 ^ 1183 := abs_up (l := 1183) b.cap (by decide)
  div_fin (k := 1183) (j := 1) (u := 1183) b.fin (two_m h.m1 h.m2) c (by decide) (by decide) rfl
def e1W (L : List Ma) : Nat → Nat
  | 0 => 0
  | i + 1 => aX (e1W L i) (kinW (mAt L i))
theorem e1_step {L : List Ma} (h : allB L = true) {i : Nat} (hi : i < L.length) (h8 : L.length ≤ 8) (b : Bn (e1W L i) (1200 + i)) : double.add (e1W L i) (kinW (mAt L i)) = some (e1W L (i + 1)) ∧ Bn (e1W L (i + 1)) (1200 + (i + 1)) :=
  have t := kin_ok (allB_iff.1 h _ (mAt_mem hi))
  b.add t.2.1 (abs_up t.2.2 (by omega)) (by omega)
theorem e1_bn {L : List Ma} (h : allB L = true) (h8 : L.length ≤ 8) : ∀ i, i ≤ L.length → Bn (e1W L i) (1200 + i)
  | 0, _ => bn0 _
  | i + 1, hi => (e1_step h (by omega) h8 (e1_bn h h8 i (by omega))).2

/-! ### what draws -/
def potW (g : Nat) (a b : Ma) : Nat := qG (drwW g (a.m * b.m)) (rG (lngP (df a b) 3))
theorem OkM.m0 {a : Ma} (h : OkM a) : Mid0 a := h.mid.m0
theorem pot_ok {g : Nat} {a b : Ma} (hg : Gee g) (ha : OkM a) (hb : OkM b) : double.div (drwW g (a.m * b.m)) (rG (lngP (df a b) 3)) = some (potW g a b) ∧ FinW (potW g a b) ∧ (V (potW g a b)).natAbs ≤ 2 ^ 1155 :=
  have d := drw_ok hg (mm_cap ha.m0 hb.m0)
  have r := root_ok (df_cap ha.m0 hb.m0)
  div_fin (k := 1154) (j := 0) (u := 1155) d.2.1 (dvr_of (k := 1083) r.2.1 r.2.2.1 (by omega) (Nat.le_trans (abs_of r.2.2.1 r.2.2.2).1 (two_le (a := 1129) (b := 1900) (by omega)))) d.2.2 (by omega) (by omega) rfl
def e2W (L : List Ma) (g i s : Nat) : Nat → Nat
  | 0 => s
  | t + 1 => sG (e2W L g i s t) (potW g (mAt L i) (mAt L (i + 1 + t)))
theorem e2_step {L : List Ma} {g i s t B : Nat} (hg : Gee g) (h : allB L = true) (hi : i + 1 + t < L.length) (hB : 1155 ≤ B) (hB2 : B < 1900) (ht : t < 20) (b : Bn (e2W L g i s t) (B + t)) :
    double.sub (e2W L g i s t) (potW g (mAt L i) (mAt L (i + 1 + t))) = some (e2W L g i s (t + 1)) ∧ Bn (e2W L g i s (t + 1)) (B + (t + 1)) :=
  have p := pot_ok hg (allB_iff.1 h _ (mAt_mem (j := i) (by omega))) (allB_iff.1 h _ (mAt_mem hi))
  b.sub p.2.1 (abs_up p.2.2 (by omega)) (by omega)
theorem e2_bn {L : List Ma} {g i s B : Nat} (hg : Gee g) (h : allB L = true) (h8 : L.length ≤ 8) (hB : 1155 ≤ B) (hB2 : B < 1900) (b : Bn s B) : ∀ t, i + 1 + t ≤ L.length → Bn (e2W L g i s t) (B + t)
  | 0, _ => b
  | t + 1, ht => (e2_step hg h (by omega) hB hB2 (by omega) (e2_bn hg h h8 hB hB2 b t (by omega))).2
def e3W (L : List Ma) (g s : Nat) : Nat → Nat
  | 0 => s
  | i + 1 => e2W L g i (e3W L g s i) (L.length - (i + 1))
theorem e3_bn {L : List Ma} {g s : Nat} (hg : Gee g) (h : allB L = true) (h8 : L.length ≤ 8) (b : Bn s 1208) : ∀ i, i ≤ L.length → Bn (e3W L g s i) (1208 + 8 * i)
  | 0, _ => b
  | i + 1, hi => (e2_bn hg h h8 (by omega) (by omega) (e3_bn hg h h8 b i (by omega)) (L.length - (i + 1)) (by omega)).up (by omega)
def EnW (L : List Ma) (g : Nat) : Nat := e3W L g (e1W L L.length) L.length
theorem en_bn {L : List Ma} {g : Nat} (hg : Gee g) (h : allB L = true) (h8 : L.length ≤ 8) : Bn (EnW L g) 1300 :=
  (e3_bn hg h h8 ((e1_bn h h8 _ (Nat.le_refl _)).up (by omega)) _ (Nat.le_refl _)).up (by omega)
def EnR (L : List Ma) (g : Nat) : Nat × Int := if readyM L g = 0 then (EnW L g, 0) else (0, readyM L g)
theorem EnR_ok {L : List Ma} {g : Nat} (h : readyM L g = 0) : EnR L g = (EnW L g, 0) := if_pos h
theorem EnR_no {L : List Ma} {g : Nat} (h : readyM L g ≠ 0) : EnR L g = (0, readyM L g) := if_neg h
def enE (r : Nat × Int) : Ending := .returned (.tuple #[.float .f64 r.1, .int .i64 r.2])
end Go.Proofs.Ytgfedhlnaipngaa

namespace Go.Proofs.Ytgfedhlnaipngaa
open Go.ChangeShapes Go.WideShapes Go.ChangeAt Go.RowKit Go.Deep Ieee.Own

set_option maxHeartbeats 4000000 in
set_option maxRecDepth 100000 in
theorem gsquares_run {p : T3} (hp : ∀ k, (p.get k).natAbs ≤ 2 ^ 53) (w : World) :
    Calls Try.prog 29 #[i3V p] w fun e w' => e = .returned (.float .f64 (sqP p.get 3)) ∧ Below w.heap.size w w' := by
  have rm := Lib.hid (fun k => run_mul _ _ _ (sq_pos (hp k)).1)
  have ra := Lib.hid (fun k (hk : k < 8) => run_add _ _ _ (sqP_step hp hk (sqP_bn hp k (by omega))).1)
  clear hp
  have K := kv1 w 32 (in3 p)
  simp only [objV] at K
  have eA : i3V p = .agg (in3 p).toArray := rfl
  rw [eA]
  clear eA
  replace K := Lib.hid K
  go_enter Try.func29, Try.ntmps29
  go_wp2_with fail
  go_loopw [3, 6] (fun lv iv wr => ∃ k : Nat, k ≤ 3 ∧ iv = .int .i64 k ∧ lv = .float .f64 (sqP p.get k) ∧ Kv w [some (w.heap.size, in3 p)] wr) (fun _ iv _ => 3 - (intOf iv).toNat)
  case atStart => exact ⟨0, by omega, rfl, rfl, K.out⟩
  case round =>
    obtain ⟨k, hk, rfl, rfl, C⟩ := hrel
    clear K
    by_cases hlt : k < 3
    · have c0 := (C.at_ 0 rfl).at_ k _ (in3_get _ hlt)
      have r1 := rm.out k
      have r2 := ra.out k (by omega)
      have cv := conv_i64 (p.get k)
      clear rm ra
      generalize sqP p.get k = l0 at *
      generalize hl1 : sqP p.get (k + 1) = l1 at *
      replace hl1 := Lib.hid hl1
      generalize mX (dW (p.get k)) (dW (p.get k)) = m1 at *
      generalize hD : dW (p.get k) = D at *
      clear hD
      generalize p.get k = dk at *
      replace C := Lib.hid C
      go_wp2_with fail
      go_roundw
      case rel => exact ⟨k + 1, hlt, by go_num, congrArg (Value.float .f64) hl1.out.symm, C.out⟩
      case measure => simp [intOf]; omega
    · obtain rfl : k = 3 := by omega
      have B := Lib.hid C.old
      clear C rm ra
      go_wp2_with fail
      go_ret
      exact ⟨rfl, B.out⟩
end Go.Proofs.Ytgfedhlnaipngaa

namespace Go.Proofs.Ytgfedhlnaipngaa
open Go.ChangeShapes Go.WideShapes Go.ChangeAt Go.RowKit Go.Deep Ieee.Own

theorem EnR_full {L : List Ma} {g n : Nat} (hr : readyM L g = 0) (hn : n = L.length) : enE (EnR L g) = .returned (.tuple #[.float .f64 (e3W L g (e1W L n) n), .int .i64 0]) := by
  rw [EnR_ok hr, hn]; rfl
theorem e3_next {L : List Ma} {g s i n : Nat} (hn : n = L.length) : e2W L g i (e3W L g s i) (n - (i + 1)) = e3W L g s (i + 1) := by rw [hn]; rfl
set_option maxHeartbeats 16000000 in
set_option maxRecDepth 100000 in
theorem genergy_run (ao : Option Addr) (cap n : Nat) (L : List Ma) (gw : Nat) (w : World) (hn : n = L.length) (hm : n ≤ 4611686018427387904) (hcp : n < cap) (hg : gw < 18446744073709551616) (ha : MAt w ao L) :
    Calls Try.prog 21 #[.slice ao n cap, .float .f64 gw] w fun e w' => e = enE (EnR L gw) ∧ Below w.heap.size w w' := by
  have C := Lib.hid (gready_run ao cap n L gw w hn hm ha)
  have lt0 := Lib.hid (ha.lt)
  have hst := @fstore
  have hsi := @istore
  replace ha := Lib.hid ha
  by_cases hr : readyM L gw = 0
  · rw [EnR_full hr hn]
    rw [hr] at C
    obtain ⟨hc, hgb⟩ := readyM_zero hr
    obtain ⟨h8, hal⟩ := chkM_zero hc
    have G := Lib.hid (gee_of hg hgb)
    have B1 := Lib.hid (e1_bn hal h8)
    have B3 : Hid (∀ i, i ≤ L.length → Bn (e3W L gw (e1W L n) i) (1208 + 8 * i)) := Lib.hid (e3_bn G.out hal h8 ((B1.out n (by omega)).up (by omega)))
    have ok : Hid (∀ i, i < L.length → OkM (mAt L i)) := Lib.hid fun i hi => allB_iff.1 hal _ (mAt_mem hi)
    have S1 : Hid (∀ i, i < L.length → Ieee.double.add (e1W L i) (kinW (mAt L i)) = some (e1W L (i + 1))) := Lib.hid fun i hi => (e1_step hal hi h8 (B1.out i (by omega))).1
    have n8 : n ≤ 8 := by omega
    have S2 : Hid (∀ i t, i + 1 + t < L.length → Ieee.double.sub (e2W L gw i (e3W L gw (e1W L n) i) t) (potW gw (mAt L i) (mAt L (i + 1 + t))) = some (e2W L gw i (e3W L gw (e1W L n) i) (t + 1))) := Lib.hid fun i t h =>
      (e2_step G.out hal h (by omega) (by omega) (by omega) (e2_bn G.out hal h8 (by omega) (by omega) (B3.out i (by omega)) t (by omega))).1
    have n8i : (n : Int) ≤ 8 := by omega
    replace hn := Lib.hid hn
    clear hr hc hgb h8 hal B1 B3
    go_enter Try.func21, Try.ntmps21
    go_wp2_with fail
    refine C.out.mono ?_
    rintro _ w1 ⟨rfl, hb1⟩
    have K := (Kv.nil w).on hb1
    clear C hb1
    replace K := Lib.hid K
    go_wp2_with fail
    go_loopw [7, 24] (fun sv iv wr => ∃ i : Nat, i ≤ n ∧ iv = .int .i64 i ∧ sv = .float .f64 (e1W L i) ∧ Kv w [] wr) (fun _ iv _ => n - (intOf iv).toNat)
    case atStart => exact ⟨0, Nat.zero_le _, rfl, rfl, K.out⟩
    case round =>
      obtain ⟨i, hi, rfl, rfl, C⟩ := hrel
      clear K
      by_cases hlt : i < n
      · have hil : i < L.length := by have := hn.out; omega
        have hin : (i : Int) < (n : Int) := by omega
        have A2 := ha.out.below lt0.out C.old
        have okI := ok.out i hil
        have s1 := run_add _ _ _ (S1.out i hil)
        have q1 := run_div _ _ _ (kin_ok okI).1
        have CQ := Lib.hid (fun W => gsquares_run okI.p53 W)
        have wm : IntKind.i64.wrap (2 * (mAt L i).m) = 2 * (mAt L i).m := IntWalk.i64_in _ (by have := okI.m1; have := okI.m2; omega)
        have cv := conv_i64 (2 * (mAt L i).m)
        clear okI S1 S2 ok
        obtain ⟨b, o, rfl, hbl, d0, d1, d2, d3, d4, d5, d6⟩ := MAt.cells A2 hil
        clear A2
        generalize e1W L i = s0 at *
        generalize he : e1W L (i + 1) = s2 at *
        replace he := Lib.hid he
        generalize kinW (mAt L i) = kn at *
        unfold i3V at CQ
        generalize sqP (mAt L i).p.get 3 = sq at *
        generalize mAt L i = f at *
        obtain ⟨fm, ⟨xa, xb, xc⟩, ⟨pa, pb, pc⟩⟩ := f
        dsimp only at *
        generalize dW (2 * fm) = dm at *
        generalize hg2 : wr.heap.size = g2 at *
        have K2 := C.new 34 [.int .i64 fm, .int .i64 xa, .int .i64 xb, .int .i64 xc, .int .i64 pa, .int .i64 pb, .int .i64 pc]
        rw [hg2] at K2
        simp only [objV, List.nil_append] at K2
        replace K2 := Lib.hid K2
        clear C hbl
        go_upto_region 8 with fail
        clear d0 d1 d2 d3 d4 d5 d6 hg2
        generalize wr.alloc _ = wa at *
        have e0 := (K2.out.at_ 0 rfl).at_ 0 _ rfl
        have e4 := (K2.out.at_ 0 rfl).at_ 4 _ rfl
        have e5 := (K2.out.at_ 0 rfl).at_ 5 _ rfl
        have e6 := (K2.out.at_ 0 rfl).at_ 6 _ rfl
        have hS0 : wa.cell? ⟨g2, 0, none⟩ = some (.int .i64 fm) ∧ wa.cell? ⟨g2, 4, none⟩ = some (.int .i64 pa) ∧ wa.cell? ⟨g2, 5, none⟩ = some (.int .i64 pb) ∧ wa.cell? ⟨g2, 6, none⟩ = some (.int .i64 pc) := ⟨e0, e4, e5, e6⟩
        clear e0 e4 e5 e6
        go_region_held3 (fun x => x.cell? ⟨g2, 0, none⟩ = some (.int .i64 fm) ∧ x.cell? ⟨g2, 4, none⟩ = some (.int .i64 pa) ∧ x.cell? ⟨g2, 5, none⟩ = some (.int .i64 pb) ∧ x.cell? ⟨g2, 6, none⟩ = some (.int .i64 pc)) (first | exact hS0 | exact hS1 | go_keep)
          (first | (go_at_call 29; ((with_reducible refine (CQ.out wa.drew).mono ?_); rintro _ wb ⟨rfl, hbb⟩; have K3 := Lib.hid (K2.out.draws.on hbb); have hS1 : wb.cell? ⟨g2, 0, none⟩ = some (.int .i64 fm) ∧ wb.cell? ⟨g2, 4, none⟩ = some (.int .i64 pa) ∧ wb.cell? ⟨g2, 5, none⟩ = some (.int .i64 pb) ∧ wb.cell? ⟨g2, 6, none⟩ = some (.int .i64 pc) := ⟨(K3.out.at_ 0 rfl).at_ 0 _ rfl, (K3.out.at_ 0 rfl).at_ 4 _ rfl, (K3.out.at_ 0 rfl).at_ 5 _ rfl, (K3.out.at_ 0 rfl).at_ 6 _ rfl⟩; clear hbb)))
        all_goals
          replace K3 := Lib.hid (Kv.init (L := []) K3.out)
          clear K2 hS0 hS1
          go_wp2_with fail
          go_roundw
          case rel => exact ⟨i + 1, hlt, by go_num, congrArg (Value.float .f64) he.out.symm, K3.out⟩
          case measure => simp [intOf]; omega
      · obtain rfl : n = i := by omega
        replace C := Lib.hid C
        generalize hE1 : e1W L n = E1 at *
        replace hE1 := Lib.hid hE1
        clear S1
        go_wp2_with fail
        go_loopw [7, 41] (fun sv iv wr => ∃ i : Nat, i ≤ n ∧ iv = .int .i64 i ∧ sv = .float .f64 (e3W L gw E1 i) ∧ Kv w [] wr) (fun _ iv _ => n - (intOf iv).toNat)
        case atStart => exact ⟨0, Nat.zero_le _, rfl, rfl, C.out⟩
        case round =>
          obtain ⟨i, hi, rfl, rfl, D⟩ := hrel
          clear C
          by_cases hlt : i < n
          · have hil : i < L.length := by have := hn.out; omega
            have hin : (i : Int) < (n : Int) := by omega
            have A2 := ha.out.below lt0.out D.old
            have okI := Lib.hid (ok.out i hil)
            have nx : Hid (e2W L gw i (e3W L gw E1 i) (n - (i + 1)) = e3W L gw E1 (i + 1)) := Lib.hid (e3_next hn.out)
            have S3 : Hid (∀ t, i + 1 + t < n → Ieee.double.sub (e2W L gw i (e3W L gw E1 i) t) (potW gw (mAt L i) (mAt L (i + 1 + t))) = some (e2W L gw i (e3W L gw E1 i) (t + 1))) := Lib.hid fun t h => S2.out i t (by have := hn.out; omega)
            obtain ⟨b, o, rfl, hbl, d0, d1, d2, d3, d4, d5, d6⟩ := MAt.cells A2 hil
            have far : Hid (∀ W, Below w.heap.size w W → ∀ j, j < L.length → W.cell? ⟨b, o + j * 7, none⟩ = some (.int .i64 (mAt L j).m) ∧ W.cell? ⟨b, o + j * 7 + 1, none⟩ = some (.int .i64 (mAt L j).x.a) ∧ W.cell? ⟨b, o + j * 7 + 2, none⟩ = some (.int .i64 (mAt L j).x.b) ∧
                W.cell? ⟨b, o + j * 7 + 3, none⟩ = some (.int .i64 (mAt L j).x.c) ∧ W.cell? ⟨b, o + j * 7 + 4, none⟩ = some (.int .i64 (mAt L j).p.a) ∧ W.cell? ⟨b, o + j * 7 + 5, none⟩ = some (.int .i64 (mAt L j).p.b) ∧ W.cell? ⟨b, o + j * 7 + 6, none⟩ = some (.int .i64 (mAt L j).p.c)) := Lib.hid fun W h j hj => by
              obtain ⟨b', o', e, -, q⟩ := MAt.cells (ha.out.below lt0.out h) hj
              obtain ⟨rfl, rfl⟩ : b = b' ∧ o = o' := by simpa using e
              exact q
            clear A2 S2
            generalize hs0 : e3W L gw E1 i = s0 at *
            replace hs0 := Lib.hid hs0
            generalize ha0 : mAt L i = f at *
            replace ha0 := Lib.hid ha0
            obtain ⟨fm, ⟨xa, xb, xc⟩, ⟨pa, pb, pc⟩⟩ := f
            dsimp only at *
            generalize hg2 : wr.heap.size = g2 at *
            have K2 := D.new 34 [.int .i64 fm, .int .i64 xa, .int .i64 xb, .int .i64 xc, .int .i64 pa, .int .i64 pb, .int .i64 pc]
            rw [hg2] at K2
            simp only [objV, List.nil_append] at K2
            replace K2 := Lib.hid K2
            clear D hbl
            have hci : (i : Int) + 1 ≤ (n : Int) := by omega
            have hcc : (i : Int) + 1 ≤ (cap : Int) := by omega
            have hcw : IntKind.i64.wrap ((i : Int) + 1) = (i : Int) + 1 := IntWalk.i64_in _ (by omega)
            have hct : ((i : Int) + 1).toNat = i + 1 := by omega
            have hch : ¬ cap = i + 1 := by omega
            go_wp2_with fail
            go_loopw [7, 51] (fun sv tv wx => ∃ t : Nat, i + 1 + t ≤ n ∧ tv = .int .i64 t ∧ sv = .float .f64 (e2W L gw i s0 t) ∧ Kv w [some (g2, [.int .i64 fm, .int .i64 xa, .int .i64 xb, .int .i64 xc, .int .i64 pa, .int .i64 pb, .int .i64 pc])] wx) (fun _ tv _ => n - (intOf tv).toNat)
            case atStart => exact ⟨0, by omega, rfl, rfl, K2.out⟩
            case round =>
              obtain ⟨t, ht, rfl, rfl, X⟩ := hrel
              clear K2
              by_cases htl : i + 1 + t < n
              · have hjl : i + 1 + t < L.length := by have := hn.out; omega
                have htn : t < n - (i + 1) := by omega
                have htz : (t : Int) < ((n - (i + 1) : Nat) : Int) := by omega
                have okJ := ok.out _ hjl
                have s3 := run_sub _ _ _ (S3.out t htl)
                obtain ⟨d0, d1, d2, d3, d4, d5, d6⟩ := far.out wr X.old _ hjl
                have eo : o + (i + 1 + t) * 7 = o + (i + 1) * 7 + t * 7 := by omega
                rw [eo] at d0 d1 d2 d3 d4 d5 d6
                have okI2 := okI.out
                have q3 := run_div _ _ _ (pot_ok G.out okI2 okJ).1
                have CA := Lib.hid (fun W => gapart_run okI2.m0 okJ.m0 W)
                have CD := Lib.hid (fun W => gdrawing_run G.out okI2.m0 okJ.m0 W)
                have CS := Lib.hid (fun W => sqrt_any _ _ (root_ok (df_cap okI2.m0 okJ.m0)).1 W)
                clear eo okI okI2 okJ S3 far ok G
                generalize e2W L gw i s0 t = u0 at *
                generalize he : e2W L gw i s0 (t + 1) = u1 at *
                replace he := Lib.hid he
                generalize mAt L (i + 1 + t) = f2 at *
                obtain ⟨bm, ⟨ya, yb, yc⟩, ⟨qa, qb, qc⟩⟩ := f2
                generalize df _ _ = d at *
                generalize potW gw _ _ = pt at *
                unfold maV f3V at *
                dsimp only at *
                generalize drwW gw (fm * bm) = dg at *
                generalize rG (lngP d 3) = rt at *
                generalize lngP d 3 = lg at *
                generalize hg3 : wr.heap.size = g3 at *
                have K3 := X.new 34 [.int .i64 bm, .int .i64 ya, .int .i64 yb, .int .i64 yc, .int .i64 qa, .int .i64 qb, .int .i64 qc]
                rw [hg3] at K3
                simp only [objV, List.cons_append, List.nil_append] at K3
                have c0 := (K3.at_ 0 rfl).at_ 0 _ rfl
                have c1 := (K3.at_ 0 rfl).at_ 1 _ rfl
                have c2 := (K3.at_ 0 rfl).at_ 2 _ rfl
                have c3 := (K3.at_ 0 rfl).at_ 3 _ rfl
                have c4 := (K3.at_ 0 rfl).at_ 4 _ rfl
                have c5 := (K3.at_ 0 rfl).at_ 5 _ rfl
                have c6 := (K3.at_ 0 rfl).at_ 6 _ rfl
                have e0 := (K3.at_ 1 rfl).at_ 0 _ rfl
                have e1 := (K3.at_ 1 rfl).at_ 1 _ rfl
                have e2 := (K3.at_ 1 rfl).at_ 2 _ rfl
                have e3 := (K3.at_ 1 rfl).at_ 3 _ rfl
                have e4 := (K3.at_ 1 rfl).at_ 4 _ rfl
                have e5 := (K3.at_ 1 rfl).at_ 5 _ rfl
                have e6 := (K3.at_ 1 rfl).at_ 6 _ rfl
                replace K3 := Lib.hid K3
                clear X
                go_wp2_with fail
                refine (CA.out _).mono ?_
                rintro _ w2 ⟨rfl, hb2⟩
                have K4 := K3.out.on hb2
                clear K3 hb2 d0 d1 d2 d3 d4 d5 d6 c0 c1 c2 c3 c4 c5 c6 e0 e1 e2 e3 e4 e5 e6
                generalize hn2 : w2.heap.size = n2 at *
                have K5 := K4.new 52 [.float .f64 (dW (d 0)), .float .f64 (dW (d 1)), .float .f64 (dW (d 2))]
                rw [hn2] at K5
                simp only [objV, List.cons_append, List.nil_append] at K5
                have c0 := (K5.at_ 0 rfl).at_ 0 _ rfl
                have c1 := (K5.at_ 0 rfl).at_ 1 _ rfl
                have c2 := (K5.at_ 0 rfl).at_ 2 _ rfl
                have c3 := (K5.at_ 0 rfl).at_ 3 _ rfl
                have c4 := (K5.at_ 0 rfl).at_ 4 _ rfl
                have c5 := (K5.at_ 0 rfl).at_ 5 _ rfl
                have c6 := (K5.at_ 0 rfl).at_ 6 _ rfl
                have e0 := (K5.at_ 1 rfl).at_ 0 _ rfl
                have e1 := (K5.at_ 1 rfl).at_ 1 _ rfl
                have e2 := (K5.at_ 1 rfl).at_ 2 _ rfl
                have e3 := (K5.at_ 1 rfl).at_ 3 _ rfl
                have e4 := (K5.at_ 1 rfl).at_ 4 _ rfl
                have e5 := (K5.at_ 1 rfl).at_ 5 _ rfl
                have e6 := (K5.at_ 1 rfl).at_ 6 _ rfl
                replace K5 := Lib.hid K5
                clear K4
                go_wp2_with fail
                refine (CD.out _).mono ?_
                rintro _ w3 ⟨rfl, hb3⟩
                have K6 := Lib.hid (K5.out.on hb3)
                clear K5 hb3 c0 c1 c2 c3 c4 c5 c6 e0 e1 e2 e3 e4 e5 e6
                go_wp2_with (go_at_call 32; ((with_reducible refine (CS.out _).mono ?_); rintro e w' ⟨rfl, rfl⟩))
                replace K6 := Lib.hid (Kv.init (L := [_]) (Kv.init (L := [_, _]) K6.out))
                go_roundw
                case rel => exact ⟨t + 1, by omega, by go_num, congrArg (Value.float .f64) he.out.symm, K6.out⟩
                case measure => simp [intOf]; omega
              · obtain rfl : t = n - (i + 1) := by omega
                have P := Lib.hid (Kv.init (L := []) X)
                rw [nx.out]
                clear X
                go_wp2_with fail
                go_roundw
                case rel => exact ⟨i + 1, hlt, by go_num, rfl, P.out⟩
                case measure => simp [intOf]; omega
          · obtain rfl : n = i := by omega
            have P := Lib.hid D.old
            clear D
            go_wp2_with fail
            go_ret2
            exact ⟨by rw [hE1.out]; rfl, P.out⟩
  · rw [EnR_no hr]
    unfold enE
    dsimp only
    have t : (readyM L gw != 0) = true := by simpa using hr
    clear hr ha lt0
    generalize readyM L gw = k at *
    replace hn := Lib.hid hn
    go_enter Try.func21, Try.ntmps21
    go_wp2_with fail
    refine C.out.mono ?_
    rintro _ w1 ⟨rfl, hb1⟩
    replace hb1 := Lib.hid hb1
    clear C
    go_wp2_with fail
    go_ret2
    exact ⟨rfl, hb1.out⟩
end Go.Proofs.Ytgfedhlnaipngaa

namespace Go.Proofs.Ytgfedhlnaipngaa
open Go.ChangeShapes Go.WideShapes Go.ChangeAt Go.RowKit Go.Deep Ieee.Own

theorem en_plus {L : List Ma} {g n : Nat} (hg : Gee g) (h : allB L = true) (h8 : L.length ≤ 8) (hn : n = L.length) : Ieee.double.add (e3W L g (e1W L n) n) 0 = some (e3W L g (e1W L n) n) := by
  have := (en_bn hg h h8).plus (by omega)
  unfold EnW at this
  rw [← hn] at this
  exact this
theorem e3_nextJ {L : List Ma} {g s i n : Nat} (hn : n = L.length) : e2W L g i (e3W L g s i) (n - (i + 1)) = e3W L g s (i + 1) := by rw [hn]; rfl
set_option maxHeartbeats 16000000 in
set_option maxRecDepth 100000 in
theorem rgenergy_run (ao : Option Addr) (cap n : Nat) (L : List Ma) (gw : Nat) (w : World) (hn : n = L.length) (hm : n ≤ 4611686018427387904) (hg : gw < 18446744073709551616) (ha : MAt w ao L) :
    Calls Try.prog 22 #[.slice ao n cap, .float .f64 gw] w fun e w' => e = enE (EnR L gw) ∧ Below w.heap.size w w' := by
  have C := Lib.hid (rgcheck_run ao cap n L w hn hm ha)
  have lt0 := Lib.hid (ha.lt)
  replace ha := Lib.hid ha
  by_cases hr : readyM L gw = 0
  · rw [EnR_full hr hn]
    obtain ⟨hc, hgb⟩ := readyM_zero hr
    obtain ⟨h8, hal⟩ := chkM_zero hc
    have G := Lib.hid (gee_of hg hgb)
    have B1 := Lib.hid (e1_bn hal h8)
    have B3 : Hid (∀ i, i ≤ L.length → Bn (e3W L gw (e1W L n) i) (1208 + 8 * i)) := Lib.hid (e3_bn G.out hal h8 ((B1.out n (by omega)).up (by omega)))
    have ok : Hid (∀ i, i < L.length → OkM (mAt L i)) := Lib.hid fun i hi => allB_iff.1 hal _ (mAt_mem hi)
    have S1 : Hid (∀ i, i < L.length → Ieee.double.add (e1W L i) (kinW (mAt L i)) = some (e1W L (i + 1))) := Lib.hid fun i hi => (e1_step hal hi h8 (B1.out i (by omega))).1
    have n8 : n ≤ 8 := by omega
    have S2 : Hid (∀ i j, i < j → j < L.length → Ieee.double.sub (e2W L gw i (e3W L gw (e1W L n) i) (j - (i + 1))) (potW gw (mAt L i) (mAt L j)) = some (e2W L gw i (e3W L gw (e1W L n) i) (j + 1 - (i + 1)))) := Lib.hid fun i j h1 h => by
      obtain ⟨t, rfl⟩ : ∃ t, j = i + 1 + t := ⟨j - (i + 1), by omega⟩
      rw [show i + 1 + t - (i + 1) = t by omega, show i + 1 + t + 1 - (i + 1) = t + 1 by omega]
      exact (e2_step G.out hal h (by omega) (by omega) (by omega) (e2_bn G.out hal h8 (by omega) (by omega) (B3.out i (by omega)) t (by omega))).1
    have pl := Lib.hid (en_plus G.out hal h8 hn)
    have n8i : (n : Int) ≤ 8 := by omega
    have e0 := gee_swap hg
    have e1 : (FloatKind.f64.format.order gw 4787326403894837248 == some Ordering.lt || FloatKind.f64.format.order gw 4787326403894837248 == some Ordering.eq) = geB1 gw := rfl
    have hb0 : geB0 gw = true ∧ geB1 gw = true := by unfold geeB at hgb; simpa using hgb
    rw [hb0.1] at e0
    rw [hb0.2] at e1
    rw [hc] at C
    have nA := Lib.hid hn
    clear hn hr hc hgb h8 hal B1 B3 hb0 hg
    have far : Hid (∀ W, Below w.heap.size w W → ∀ j, j < L.length → ∃ b o, ao = some ⟨b, o, none⟩ ∧ W.cell? ⟨b, o + j * 7, none⟩ = some (.int .i64 (mAt L j).m) ∧ (∀ k, k < 3 → W.cell? ⟨b, o + j * 7 + 1 + k, none⟩ = some (.int .i64 ((mAt L j).x.get k))) ∧ ∀ k, k < 3 → W.cell? ⟨b, o + j * 7 + 4 + k, none⟩ = some (.int .i64 ((mAt L j).p.get k))) := Lib.hid fun W h j hj => by
      obtain ⟨b, o, e, -, q⟩ := MAt.row (ha.out.below lt0.out h) hj
      exact ⟨b, o, e, q⟩
    clear ha lt0
    go_enter Try.func22, Try.ntmps22
    go_wp2_with fail
    refine C.out.mono ?_
    rintro _ w1 ⟨rfl, hb1⟩
    replace hb1 := Lib.hid hb1
    clear C
    go_wp2_with fail
    go_loopw [7, 8] (fun sv iv wr => ∃ i : Nat, i ≤ n ∧ iv = .int .i64 i ∧ sv = .float .f64 (e1W L i) ∧ Below w.heap.size w wr) (fun _ iv _ => n - (intOf iv).toNat)
    case atStart => exact ⟨0, Nat.zero_le _, rfl, rfl, hb1.out⟩
    case round =>
      obtain ⟨i, hi, rfl, rfl, hb⟩ := hrel
      clear hb1
      by_cases hlt : i < n
      · have hil : i < L.length := by have := nA.out; omega
        have hin : (i : Int) < (n : Int) := by omega
        have okI := ok.out i hil
        have s1 := run_add _ _ _ (S1.out i hil)
        have q1 := run_div _ _ _ (kin_ok okI).1
        have rm := Lib.hid (fun k => run_mul _ _ _ (sq_pos (okI.p53 k)).1)
        have ra := Lib.hid (fun k (hk : k < 8) => run_add _ _ _ (sqP_step okI.p53 hk (sqP_bn okI.p53 k (by omega))).1)
        have wm : IntKind.i64.wrap (2 * (mAt L i).m) = 2 * (mAt L i).m := IntWalk.i64_in _ (by have := okI.m1; have := okI.m2; omega)
        have cv := conv_i64 (2 * (mAt L i).m)
        obtain ⟨b, o, rfl, d0, -, dp⟩ := far.out wr hb i hil
        clear okI S1 S2 ok pl far
        replace dp := Lib.hid dp
        replace hb := Lib.hid hb
        generalize e1W L i = s0 at *
        generalize he : e1W L (i + 1) = s2 at *
        replace he := Lib.hid he
        generalize kinW (mAt L i) = kn at *
        generalize hsq : sqP (mAt L i).p.get 3 = sq at *
        replace hsq := Lib.hid hsq
        generalize dW (2 * (mAt L i).m) = dm at *
        generalize (mAt L i).m = fm at *
        generalize (mAt L i).p = p at *
        go_wp2_with fail
        go_loopw [9, 10] (fun pv kv wx => ∃ k : Nat, k ≤ 3 ∧ kv = .int .i64 k ∧ pv = .float .f64 (sqP p.get k) ∧ wx = wr) (fun _ kv _ => 3 - (intOf kv).toNat)
        case atStart => exact ⟨0, by omega, rfl, rfl, rfl⟩
        case round =>
          obtain ⟨k, hk, rfl, rfl, rfl⟩ := hrel
          by_cases hkt : k < 3
          · have hk3 : (k : Int) < 3 := by omega
            have c0 := dp.out k hkt
            have r1 := rm.out k
            have r2 := ra.out k (by omega)
            have cw := conv_i64 (p.get k)
            clear rm ra dp q1 s1 cv wm d0
            generalize sqP p.get k = l0 at *
            generalize hl1 : sqP p.get (k + 1) = l1 at *
            replace hl1 := Lib.hid hl1
            generalize mX (dW (p.get k)) (dW (p.get k)) = m1 at *
            generalize hD : dW (p.get k) = D at *
            clear hD
            generalize p.get k = dk at *
            go_wp2_with fail
            go_roundw
            case rel => exact ⟨k + 1, hkt, by go_num, congrArg (Value.float .f64) hl1.out.symm, by first | rfl | trivial⟩
            case measure => simp [intOf]; omega
          · obtain rfl : k = 3 := by omega
            rw [hsq.out]
            clear rm ra dp hsq
            go_wp2_with fail
            go_roundw
            case rel => exact ⟨i + 1, hlt, by go_num, congrArg (Value.float .f64) he.out.symm, hb.out⟩
            case measure => simp [intOf]; omega
      · obtain rfl : n = i := by omega
        replace hb := Lib.hid hb
        generalize hE1 : e1W L n = E1 at *
        replace hE1 := Lib.hid hE1
        clear S1
        go_wp2_with fail
        go_loopw [7, 12] (fun sv iv wr => ∃ i : Nat, i ≤ n ∧ iv = .int .i64 i ∧ sv = .float .f64 (e3W L gw E1 i) ∧ Below w.heap.size w wr) (fun _ iv _ => n - (intOf iv).toNat)
        case atStart => exact ⟨0, Nat.zero_le _, rfl, rfl, hb.out⟩
        case round =>
          obtain ⟨i, hi, rfl, rfl, hb2⟩ := hrel
          clear hb
          by_cases hlt : i < n
          · have hil : i < L.length := by have := nA.out; omega
            have hin : (i : Int) < (n : Int) := by omega
            have hwi : IntKind.i64.wrap ((i : Int) + 1) = (i : Int) + 1 := IntWalk.i64_in _ (by omega)
            have okI := Lib.hid (ok.out i hil)
            have nx : Hid (e2W L gw i (e3W L gw E1 i) (n - (i + 1)) = e3W L gw E1 (i + 1)) := Lib.hid (e3_nextJ nA.out)
            have S3 : Hid (∀ j, i < j → j < n → Ieee.double.sub (e2W L gw i (e3W L gw E1 i) (j - (i + 1))) (potW gw (mAt L i) (mAt L j)) = some (e2W L gw i (e3W L gw E1 i) (j + 1 - (i + 1)))) := Lib.hid fun j h1 h => S2.out i j h1 (by have := nA.out; omega)
            clear S2 pl
            generalize hs0 : e3W L gw E1 i = s0 at *
            replace hs0 := Lib.hid hs0
            replace hb2 := Lib.hid hb2
            go_wp2_with fail
            go_loopw [7, 13] (fun sv jv wx => ∃ j : Nat, i < j ∧ j ≤ n ∧ jv = .int .i64 j ∧ sv = .float .f64 (e2W L gw i s0 (j - (i + 1))) ∧ Below w.heap.size w wx) (fun _ jv _ => n - (intOf jv).toNat)
            case atStart => exact ⟨i + 1, by omega, by omega, by go_num, by rw [Nat.sub_self]; rfl, hb2.out⟩
            case round =>
              obtain ⟨j, hij, hj, rfl, rfl, hb3⟩ := hrel
              clear hb2
              by_cases hjt : j < n
              · have hjl : j < L.length := by have := nA.out; omega
                have hjn : (j : Int) < (n : Int) := by omega
                have okI2 := okI.out
                have okJ := ok.out j hjl
                have hd := df_cap okI2.m0 okJ.m0
                have s3 := Lib.hid (run_sub _ _ _ (S3.out j hij hjt))
                have q3 := Lib.hid (run_div _ _ _ (pot_ok G.out okI2 okJ).1)
                have rd := Lib.hid (run_mul _ _ _ (drw_ok G.out (mm_cap okI2.m0 okJ.m0)).1)
                have wm := Lib.hid (mm_wrap okI2.m0 okJ.m0)
                have CS := Lib.hid (fun W => (sqrt_any _ _ (root_ok hd).1 W).mono fun e w' q => (⟨q.1, q.2.symm⟩ : _ ∧ w' = W))
                have wf := Lib.hid (fun k => (show IntKind.i64.wrap ((mAt L j).x.get k - (mAt L i).x.get k) = df (mAt L i) (mAt L j) k from IntWalk.i64_in _ (by have := hd k; unfold df at this; omega)))
                have rs := Lib.hid (fun k => run_mul _ _ _ (sq_pos (hd k)).1)
                have ra := Lib.hid (fun k (hk : k < 8) => run_add _ _ _ (lng_add hd hk))
                have cm := Lib.hid (conv_i64 ((mAt L i).m * (mAt L j).m))
                have fI := Lib.hid (fun W h => far.out W h i hil)
                have fJ := Lib.hid (fun W h => far.out W h j hjl)
                obtain ⟨b, o, rfl, -⟩ := far.out wr hb3 i hil
                clear hd okI okI2 okJ S3 ok G far
                generalize e2W L gw i s0 (j - (i + 1)) = u0 at *
                generalize he : e2W L gw i s0 (j + 1 - (i + 1)) = u1 at *
                replace he := Lib.hid he
                generalize mAt L i = fa at *
                generalize mAt L j = fb at *
                generalize df fa fb = d at *
                generalize potW gw fa fb = pt at *
                replace hb3 := Lib.hid hb3
                go_wp2_with fail
                go_loopw [14, 15] (fun lv kv wx => ∃ k : Nat, k ≤ 3 ∧ kv = .int .i64 k ∧ lv = .float .f64 (lngP d k) ∧ Below w.heap.size w wx) (fun _ kv _ => 3 - (intOf kv).toNat)
                case atStart => exact ⟨0, by omega, rfl, rfl, hb3.out⟩
                case round =>
                  obtain ⟨k, hk, rfl, rfl, hb4⟩ := hrel
                  clear hb3
                  by_cases hkt : k < 3
                  · have hk3 : (k : Int) < 3 := by omega
                    obtain ⟨b1, o1, e1', -, xI, -⟩ := fI.out wr hb4
                    obtain ⟨rfl, rfl⟩ : b = b1 ∧ o = o1 := by simpa using e1'
                    obtain ⟨b1, o1, e2', -, xJ, -⟩ := fJ.out wr hb4
                    obtain ⟨rfl, rfl⟩ : b = b1 ∧ o = o1 := by simpa using e2'
                    have c0 := xI k hkt
                    have c1 := xJ k hkt
                    have w1 := wf.out k
                    have r1 := rs.out k
                    have r2 := ra.out k (by omega)
                    have cv := conv_i64 (d k)
                    clear xI xJ e1' e2' fI fJ wf rs ra q3 s3 rd wm CS cm
                    generalize lngP d k = l0 at *
                    generalize hl1 : lngP d (k + 1) = l1 at *
                    replace hl1 := Lib.hid hl1
                    generalize mX (dW (d k)) (dW (d k)) = m1 at *
                    generalize hD : dW (d k) = D at *
                    clear hD
                    generalize d k = dk at *
                    generalize fa.x.get k = xa at *
                    generalize fb.x.get k = xb at *
                    replace hb4 := Lib.hid hb4
                    go_wp2_with fail
                    go_quiet (fail)
                    replace hb4 := Lib.hid (hb4.out.trans ((below_drewN (Below.refl _ _) nq).mono hb4.out.size))
                    clear c0 c1
                    generalize World.drewN _ _ = wq at *
                    go_wp2_with fail
                    go_roundw
                    case rel => exact ⟨k + 1, hkt, by go_num, congrArg (Value.float .f64) hl1.out.symm, hb4.out⟩
                    case measure => simp [intOf]; omega
                  · obtain rfl : k = 3 := by omega
                    obtain ⟨b1, o1, e1', m0, -, -⟩ := fI.out wr hb4
                    obtain ⟨rfl, rfl⟩ : b = b1 ∧ o = o1 := by simpa using e1'
                    obtain ⟨b1, o1, e2', m1, -, -⟩ := fJ.out wr hb4
                    obtain ⟨rfl, rfl⟩ : b = b1 ∧ o = o1 := by simpa using e2'
                    have r1 := q3.out
                    have r2 := s3.out
                    have r3 := rd.out
                    have w1 := wm.out
                    have c1 := cm.out
                    clear e1' e2' fI fJ wf rs ra q3 s3 rd wm cm
                    generalize drwW gw (fa.m * fb.m) = dg at *
                    generalize rG (lngP d 3) = rt at *
                    generalize lngP d 3 = lg at *
                    generalize dW (fa.m * fb.m) = mw at *
                    generalize fa.m = am at *
                    generalize fb.m = bm at *
                    replace hb4 := Lib.hid hb4
                    go_wp2_with fail
                    go_quiet (first | (go_at_call 32; with_reducible refine Calls.quiet_of_same (CS.out _)))
                    replace hb4 := Lib.hid (hb4.out.trans ((below_drewN (Below.refl _ _) nq).mono hb4.out.size))
                    clear m0 m1 CS
                    generalize World.drewN _ _ = wq at *
                    go_wp2_with fail
                    go_roundw
                    case rel => exact ⟨j + 1, by omega, hjt, by go_num, congrArg (Value.float .f64) he.out.symm, hb4.out⟩
                    case measure => simp [intOf]; omega
              · obtain rfl : j = n := by omega
                rw [nx.out]
                replace hb3 := Lib.hid hb3
                go_wp2_with fail
                go_roundw
                case rel => exact ⟨i + 1, hlt, by go_num, rfl, hb3.out⟩
                case measure => simp [intOf]; omega
          · obtain rfl : n = i := by omega
            replace hb2 := Lib.hid hb2
            have pl1 := pl.out
            have pl2 := run_add _ _ _ pl1
            clear pl pl1 S2
            go_wp2_with fail
            go_ret2
            exact ⟨by rw [hE1.out]; rfl, hb2.out⟩
  · rw [EnR_no hr]
    unfold enE
    dsimp only
    by_cases hc : chkM L = 0
    · have e0 := gee_swap hg
      have e1 : (FloatKind.f64.format.order gw 4787326403894837248 == some Ordering.lt || FloatKind.f64.format.order gw 4787326403894837248 == some Ordering.eq) = geB1 gw := rfl
      have hge : geeB gw = false := by
        cases h : geeB gw with
        | false => rfl
        | true => exact absurd (by unfold readyM; rw [if_neg (by rw [hc]; decide), if_pos h]) hr
      have hk : readyM L gw = 1 := by unfold readyM; rw [if_neg (by rw [hc]; decide), if_neg (by rw [hge]; decide)]
      rw [hk]
      rw [hc] at C
      unfold geeB at hge
      clear hr hk hc hg ha lt0
      replace hn := Lib.hid hn
      generalize geB0 gw = b0 at *
      generalize geB1 gw = b1 at *
      cases b0 with
      | false =>
        clear hge
        go_enter Try.func22, Try.ntmps22
        go_wp2_with fail
        refine C.out.mono ?_
        rintro _ w1 ⟨rfl, hb1⟩
        replace hb1 := Lib.hid hb1
        clear C
        go_wp2_with fail
        go_ret2
        exact ⟨rfl, hb1.out⟩
      | true =>
        cases b1 with
        | true => cases hge
        | false =>
          clear hge
          go_enter Try.func22, Try.ntmps22
          go_wp2_with fail
          refine C.out.mono ?_
          rintro _ w1 ⟨rfl, hb1⟩
          replace hb1 := Lib.hid hb1
          clear C
          go_wp2_with fail
          go_ret2
          exact ⟨rfl, hb1.out⟩
    · have hk : readyM L gw = chkM L := by unfold readyM; rw [if_pos hc]
      rw [hk]
      have t : (chkM L != 0) = true := by simpa using hc
      clear hr hk hc ha lt0
      replace hn := Lib.hid hn
      generalize chkM L = k at *
      go_enter Try.func22, Try.ntmps22
      go_wp2_with fail
      refine C.out.mono ?_
      rintro _ w1 ⟨rfl, hb1⟩
      replace hb1 := Lib.hid hb1
      clear C
      go_wp2_with fail
      go_ret2
      exact ⟨rfl, hb1.out⟩
end Go.Proofs.Ytgfedhlnaipngaa
