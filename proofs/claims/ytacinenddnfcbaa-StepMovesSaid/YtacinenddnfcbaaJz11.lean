/- Proved here: what the texts Grk, Grl, Grs, Gru, Gsj, Gsk, Gsl prove, one behind the other. -/
import Derived.Test.YtacinenddnfcbaaJz10

namespace Go.Proofs.Ytacinenddnfcbaa
open Go.ChangeShapes Go.WideShapes Go.ChangeAt Go.RowKit Go.Deep Ieee.Own

end Go.Proofs.Ytacinenddnfcbaa

namespace Go.Proofs.Ytacinenddnfcbaa
open Go.ChangeShapes Go.WideShapes Go.ChangeAt Go.RowKit Go.Deep Ieee.Own

end Go.Proofs.Ytacinenddnfcbaa

namespace Go.Proofs.Ytacinenddnfcbaa
open Go.ChangeShapes Go.WideShapes Go.ChangeAt Go.RowKit Go.Deep Ieee.Own

theorem MAt.row {w : World} {ao : Option Addr} {L : List Ma} (h : MAt w ao L) {j : Nat} (hj : j < L.length) :
    ∃ b o, ao = some ⟨b, o, none⟩ ∧ b < w.heap.size ∧ w.cell? ⟨b, o + j * 7, none⟩ = some (.int .i64 (mAt L j).m) ∧ (∀ k, k < 3 → w.cell? ⟨b, o + j * 7 + 1 + k, none⟩ = some (.int .i64 ((mAt L j).x.get k))) ∧ ∀ k, k < 3 → w.cell? ⟨b, o + j * 7 + 4 + k, none⟩ = some (.int .i64 ((mAt L j).p.get k)) := by
  obtain ⟨b, o, e, hb, hc⟩ := h j _ (ma_get hj)
  exact ⟨b, o, e, hb, hc 0 _ rfl, fun k hk => by rw [Nat.add_assoc]; exact hc (1 + k) _ (maC_x _ hk), fun k hk => by rw [Nat.add_assoc]; exact hc (4 + k) _ (maC_p _ hk)⟩
end Go.Proofs.Ytacinenddnfcbaa

namespace Go.Proofs.Ytacinenddnfcbaa
open Go.ChangeShapes Go.WideShapes Go.ChangeAt Go.RowKit Go.Deep Ieee.Own

theorem Kv.init {w0 w : World} {L : List (Option (Nat × List Value))} {e : Option (Nat × List Value)} (C : Kv w0 (L ++ [e]) w) : Kv w0 L w := by
  have key : ∀ {j : Nat} {x}, L[j]? = some x → (L ++ [e])[j]? = some x := fun {j x} h => by
    have := (List.getElem?_eq_some_iff.1 h).1
    rw [List.getElem?_append_left this]; exact h
  exact ⟨C.old, fun j g us h => C.blk j g us (key h), fun i j g us vs h k => C.inj i j g us vs (key h) (key k)⟩
end Go.Proofs.Ytacinenddnfcbaa

namespace Go.Proofs.Ytacinenddnfcbaa
open Go.ChangeShapes Go.WideShapes Go.ChangeAt Go.RowKit Go.Deep Ieee.Own

set_option maxHeartbeats 4000000 in
set_option maxRecDepth 100000 in
theorem open_i3 {H : Type} {enc : TypeId × Value → H} {W : World} {r : Reach} {b0 : Nat} {v : Value} {d : DataW H} {p : List MemPlace}
    (hv : Value.okWide Try.prog W r b0 24 v) (h : DataW.Trod enc Try.prog W 0 (fun _ => true) true 24 v d p) : ∃ a : T3, v = i3V a ∧ ∀ k, I64 (a.get k) := by
  simp only [Value.okWide, Try.underlying24] at hv
  obtain ⟨cs, rfl, h2, -⟩ := hv
  have hC : Try.prog.cellsOf 24 = 3 := by kernel_rfl
  have h3 : cs.toList.length = 3 := by rw [Array.length_toList, h2, hC]
  obtain ⟨c0, c1, c2, h4⟩ : ∃ c0 c1 c2, cs.toList = [c0, c1, c2] := by
    match h : cs.toList, h3 with
    | [c0, c1, c2], _ => exact ⟨c0, c1, c2, rfl⟩
  obtain rfl : cs = #[c0, c1, c2] := Array.toList_inj.1 h4
  obtain ⟨fuel, hf⟩ := h
  have hf' : DataW.trod enc Try.prog W 0 (fun _ => true) true fuel 24 [c0, c1, c2] = some (d, p) := hf
  obtain ⟨a, e, w⟩ := arr3_cells hf'
  unfold in3 at e
  simp only [List.cons.injEq, and_true] at e
  obtain ⟨rfl, rfl, rfl⟩ := e
  exact ⟨a, rfl, w⟩
end Go.Proofs.Ytacinenddnfcbaa

namespace Go.Proofs.Ytacinenddnfcbaa
open Ieee Ieee.Own

def wng (x : Int) : Int := IntKind.i64.wrap (-x)
def ngW (j : Nat) (v : T3) : T3 := v.put j (wng (v.get j))
def tnW (j : Nat) (a : Ma) : Ma := { a with x := ngW j a.x, p := ngW j a.p }
theorem wng_in {x : Int} (h : I64 x) (h0 : x ≠ -9223372036854775808) : wng x = -x := IntWalk.i64_in _ (by obtain ⟨a, b⟩ := h; omega)
theorem wng_least : wng (-9223372036854775808) = -9223372036854775808 := by decide +kernel
theorem wng_abs {x : Int} (h : I64 x) : (wng x).natAbs = x.natAbs := by
  by_cases h0 : x = -9223372036854775808
  · rw [h0, wng_least]
  · rw [wng_in h h0, Int.natAbs_neg]
theorem put3_get (v : T3) {j k : Nat} (hj : j < 3) (hk : k < 3) (y : Int) : (v.put j y).get k = if k = j then y else v.get k := by
  rcases lt3 hj with rfl | rfl | rfl <;> rcases lt3 hk with rfl | rfl | rfl <;> rfl
theorem ngW_get {v : T3} {j k : Nat} (hj : j < 3) (hk : k < 3) : (ngW j v).get k = if k = j then wng (v.get k) else v.get k := by
  unfold ngW
  rw [put3_get v hj hk]
  by_cases e : k = j
  · rw [if_pos e, if_pos e, e]
  · rw [if_neg e, if_neg e]
theorem ngW_abs {v : T3} {j k : Nat} (hj : j < 3) (hk : k < 3) (h : ∀ k, I64 (v.get k)) : ((ngW j v).get k).natAbs = (v.get k).natAbs := by
  rw [ngW_get hj hk]
  split
  · exact wng_abs (h k)
  · rfl
theorem ngW_in {v : T3} {j : Nat} (hj : j < 3) (h : ∀ k, (v.get k).natAbs ≤ 2 ^ 60) : ngW j v = ng j v := T3.same fun k hk => by
  rw [ngW_get hj hk, ng_get j v hk]
  have := h k
  split
  · exact wng_in ⟨by omega, by omega⟩ (by omega)
  · rfl
theorem tnW_ok {a : Ma} {j : Nat} (hj : j < 3) (h : OkM a) : tnW j a = tn j a := by
  unfold tnW tn
  rw [ngW_in hj (fun k => abs_up (h.x k) (by omega)), ngW_in hj (fun k => abs_up (h.p k) (by omega))]
theorem ok_tnW {a : Ma} {j : Nat} (hj : j < 3) (hw : MaW a) : OkM (tnW j a) ↔ OkM a := by
  constructor
  · intro h
    refine ⟨h.m1, h.m2, get_all (Q := fun y => y.natAbs ≤ 2 ^ 40) fun k hk => ?_, get_all (Q := fun y => y.natAbs ≤ 2 ^ 50) fun k hk => ?_⟩
    · have : ((ngW j a.x).get k).natAbs ≤ 2 ^ 40 := h.x k
      rwa [ngW_abs hj hk hw.x] at this
    · have : ((ngW j a.p).get k).natAbs ≤ 2 ^ 50 := h.p k
      rwa [ngW_abs hj hk hw.p] at this
  · intro h
    rw [tnW_ok hj h]
    exact ok_tn h
theorem all_tnW {l : List Ma} {j : Nat} (hj : j < 3) (hw : MsW l) : allB (l.map (tnW j)) = allB l := by
  rw [Bool.eq_iff_iff, allB_iff, allB_iff]
  constructor
  · intro h a ha
    exact (ok_tnW hj (hw a ha)).1 (h (tnW j a) (List.mem_map_of_mem ha))
  · intro h a ha
    obtain ⟨b, hb, rfl⟩ := List.mem_map.1 ha
    exact (ok_tnW hj (hw b hb)).2 (h b hb)
theorem map_tnW {l : List Ma} {j : Nat} (hj : j < 3) (h : allB l = true) : l.map (tnW j) = l.map (tn j) :=
  List.map_congr_left fun a ha => tnW_ok hj (allB_iff.1 h a ha)
theorem RunR_tnW {l : List Ma} {g : Nat} {n : Int} (hg : g < 18446744073709551616) {j : Nat} (hj : j < 3) (hw : MsW l) : RunR (l.map (tnW j)) g n = ((RunR l g n).1, (RunR l g n).2.map fun r => r.map (tn j)) := by
  by_cases h : chkM l = 0
  · rw [map_tnW hj (chkM_zero h).2]
    exact RunR_tn hg j
  · have c : chkM (l.map (tnW j)) = chkM l := by
      unfold chkM
      rw [all_tnW hj hw, List.length_map]
    have r : readyM l g = chkM l := by unfold readyM; rw [if_pos h]
    have r' : readyM (l.map (tnW j)) g = chkM l := by unfold readyM; rw [c, if_pos h]
    rw [RunR_err (l := l.map (tnW j)) (by rw [r']; exact h), RunR_err (l := l) (by rw [r]; exact h), r, r']
    rfl
end Go.Proofs.Ytacinenddnfcbaa

namespace Go.Proofs.Ytacinenddnfcbaa
open Go.ChangeShapes Go.WideShapes Go.ChangeAt Go.RowKit Go.Deep Ieee.Own

theorem CopiedR.ownM {w w' : World} {ao : Option Addr} {n cap : Nat} {L : List Ma} (C : CopiedR w w' ao n cap 7 (L.map maC)) (hn : n = L.length) (h0 : 0 < n) : ∃ b, ao = some ⟨b, 0, none⟩ ∧ w.heap.size ≤ b ∧ OwM b L w' := by
  have hl : 0 < (L.map maC).length := by rw [List.length_map]; omega
  obtain ⟨b, o, e, hb, -⟩ := C.at_ 0 _ (List.getElem?_eq_getElem hl)
  obtain ⟨rfl, h1, h2⟩ := C.own b o e
  have key : ∀ j u, (flatM L)[j]? = some u → j < n * 7 ∧ w'.cell? ⟨b, j, none⟩ = some u := fun j u hj => by
    have hjl : j < L.length * 7 := by
      have := (List.getElem?_eq_some_iff.1 hj).1
      unfold flatM at this
      rw [flat_len (rows_ma L), List.length_map] at this
      exact this
    refine ⟨by omega, ?_⟩
    have hq : j / 7 < L.length := by omega
    have ej : j / 7 * 7 + j % 7 = j := by omega
    have hr := ma_get hq
    obtain ⟨b', o', e', -, hc⟩ := C.at_ (j / 7) _ hr
    rw [e] at e'
    obtain ⟨rfl, rfl⟩ : b = b' ∧ 0 = o' := by simpa using e'
    have hk : (maC (mAt L (j / 7)))[j % 7]? = some u := by
      have hk7 : j % 7 < (maC (mAt L (j / 7))).length := by show j % 7 < 7; omega
      have := flat_at (rows_ma L) hr (List.getElem?_eq_getElem hk7)
      rw [ej] at this
      unfold flatM at hj
      rw [hj] at this
      rw [List.getElem?_eq_getElem hk7, this]
    have := hc _ _ hk
    rwa [Nat.zero_add, ej] at this
  exact ⟨b, e, h1, hb, fun j u hj => (key j u hj).2, fun j u hj => h2 j (key j u hj).1⟩
/-- the first i masses changed by f -/
def upF (f : Ma → Ma) (l : List Ma) (i : Nat) : List Ma := (l.take i).map f ++ l.drop i
theorem upF_len (f : Ma → Ma) (l : List Ma) (i : Nat) : (upF f l i).length = l.length := by unfold upF; simp; omega
theorem upF_zero (f : Ma → Ma) (l : List Ma) : upF f l 0 = l := by unfold upF; simp
theorem upF_end (f : Ma → Ma) (l : List Ma) : upF f l l.length = l.map f := by unfold upF; simp
theorem upF_at (f : Ma → Ma) {l : List Ma} {i : Nat} (hi : i < l.length) : mAt (upF f l i) i = mAt l i := by
  refine mAt_of ?_
  unfold upF
  rw [List.getElem?_append_right (by simp; omega)]
  simp only [List.length_map, List.length_take, List.getElem?_drop]
  rw [show i + (i - min i l.length) = i by omega]
  exact mAt_get hi
theorem upF_next (f : Ma → Ma) {l : List Ma} {i : Nat} (hi : i < l.length) : (upF f l i).set i (f (mAt l i)) = upF f l (i + 1) := by
  unfold upF
  rw [List.set_append_right _ _ (by simp; omega)]
  simp only [List.length_map, List.length_take]
  have e : l[i] = mAt l i := by
    have := mAt_get hi
    rw [List.getElem?_eq_getElem hi] at this
    exact Option.some.inj this
  rw [show i - min i l.length = 0 by omega, List.take_add_one, mAt_get hi, List.drop_eq_getElem_cons hi, e]
  simp
def xMv (t : T3) (a : Ma) (k : Nat) : Ma := { a with x := a.x.mix (fun k => a.x.get k + t.get k) k }
theorem xMv_zero (t : T3) (a : Ma) : xMv t a 0 = a := rfl
theorem xMv_three (t : T3) (a : Ma) : xMv t a 3 = mv t a := rfl
theorem xMv_get (t : T3) (a : Ma) {k : Nat} (hk : k < 3) : (xMv t a k).x.get k = a.x.get k := mix_get _ _ hk
theorem xMv_put (t : T3) (a : Ma) {k : Nat} (hk : k < 3) : { xMv t a k with x := (xMv t a k).x.put k (a.x.get k + t.get k) } = xMv t a (k + 1) := by
  unfold xMv
  dsimp only
  rw [mix_put _ (fun k => a.x.get k + t.get k) hk]

/-! ### the law's memory: the way moved, the two copies -/
theorem flatM_len (A : List Ma) : (flatM A).length = A.length * 7 := by
  unfold flatM
  rw [flat_len (rows_ma A), List.length_map]
section
variable {w W : World} {E0 : Option (Nat × List Value)} {bm bt : Nat} {A B : List Ma}
theorem Kv.setMx (X : Kv w [E0, some (bm, flatM A), some (bt, flatM B)] W) {i k : Nat} (hi : i < A.length) (hk : k < 3) (y : Int) :
    Kv w [E0, some (bm, flatM (A.set i { mAt A i with x := (mAt A i).x.put k y })), some (bt, flatM B)] (W.setCell ⟨bm, i * 7 + 1 + k, none⟩ (.int .i64 y)).drew := by
  have P := (X.put 1 rfl (i * 7 + 1 + k) [.int .i64 y] (by rw [flatM_len]; simp; omega)).draws
  simp only [setV, putV] at P
  have e := flatM_set hi (show 1 + k < 7 by omega) (maC_setx _ hk y)
  rw [← Nat.add_assoc] at e
  rw [e] at P
  exact P
theorem Kv.setTx (X : Kv w [E0, some (bm, flatM A), some (bt, flatM B)] W) {i k : Nat} (hi : i < B.length) (hk : k < 3) (y : Int) :
    Kv w [E0, some (bm, flatM A), some (bt, flatM (B.set i { mAt B i with x := (mAt B i).x.put k y }))] (W.setCell ⟨bt, i * 7 + 1 + k, none⟩ (.int .i64 y)).drew := by
  have P := (X.put 2 rfl (i * 7 + 1 + k) [.int .i64 y] (by rw [flatM_len]; simp; omega)).draws
  simp only [setV, putV] at P
  have e := flatM_set hi (show 1 + k < 7 by omega) (maC_setx _ hk y)
  rw [← Nat.add_assoc] at e
  rw [e] at P
  exact P
theorem Kv.setTp (X : Kv w [E0, some (bm, flatM A), some (bt, flatM B)] W) {i k : Nat} (hi : i < B.length) (hk : k < 3) (y : Int) :
    Kv w [E0, some (bm, flatM A), some (bt, flatM (B.set i { mAt B i with p := (mAt B i).p.put k y }))] (W.setCell ⟨bt, i * 7 + 4 + k, none⟩ (.int .i64 y)).drew := by
  have P := (X.put 2 rfl (i * 7 + 4 + k) [.int .i64 y] (by rw [flatM_len]; simp; omega)).draws
  simp only [setV, putV] at P
  have e := flatM_set hi (show 4 + k < 7 by omega) (maC_setp _ hk y)
  rw [← Nat.add_assoc] at e
  rw [e] at P
  exact P
end
theorem Kv.also {w W : World} {L : List (Option (Nat × List Value))} (C : Kv w L W) {g : Nat} {us : List Value} (B : BV W g us) (h0 : w.heap.size ≤ g) (hne : ∀ (j g' : Nat) (vs : List Value), L[j]? = some (some (g', vs)) → g' ≠ g) : Kv w (L ++ [some (g, us)]) W := by
  have key : ∀ i g' vs, (L ++ [some (g, us)])[i]? = some (some (g', vs)) → L[i]? = some (some (g', vs)) ∨ (i = L.length ∧ g' = g ∧ vs = us) := fun i g' vs h => by
    by_cases hi : i < L.length
    · exact .inl (by rwa [List.getElem?_append_left hi] at h)
    · rw [List.getElem?_append_right (by omega)] at h
      have hz : i - L.length = 0 := by
        have := (List.getElem?_eq_some_iff.1 h).1
        simp at this
        omega
      rw [hz] at h
      simp at h
      exact .inr ⟨by omega, h.1.symm, h.2.symm⟩
  refine ⟨C.old, fun j g' vs h => ?_, fun i j g' us' vs hi hj => ?_⟩
  · rcases key j g' vs h with q | ⟨-, rfl, rfl⟩
    · exact C.blk j g' vs q
    · exact ⟨h0, B⟩
  · rcases key i g' us' hi with q | ⟨rfl, rfl, rfl⟩
    · rcases key j g' vs hj with r | ⟨rfl, rfl, rfl⟩
      · exact C.inj i j g' us' vs q r
      · exact absurd rfl (hne i _ _ q)
    · rcases key j _ vs hj with r | ⟨rfl, -, -⟩
      · exact absurd rfl (hne j _ _ r)
      · rfl
structure MvS (w : World) (t : T3) (aoM aoT : Option Addr) (A B : List Ma) (n : Nat) (W : World) : Prop where
  box : Kv w [some (w.heap.size, in3 t)] W
  m : MAt W aoM A
  tt : MAt W aoT B
  k : 0 < n → ∃ bm bt, aoM = some ⟨bm, 0, none⟩ ∧ aoT = some ⟨bt, 0, none⟩ ∧ Kv w [some (w.heap.size, in3 t), some (bm, flatM A), some (bt, flatM B)] W
theorem MvS.of {w W : World} {t : T3} {bm bt n : Nat} {A B : List Ma} (X : Kv w [some (w.heap.size, in3 t), some (bm, flatM A), some (bt, flatM B)] W) : MvS w t (some ⟨bm, 0, none⟩) (some ⟨bt, 0, none⟩) A B n W :=
  ⟨Kv.init (L := [_]) (Kv.init (L := [_, _]) X), OwM.at_ (X.at_ 1 rfl), OwM.at_ (X.at_ 2 rfl), fun _ => ⟨bm, bt, rfl, rfl, X⟩⟩
theorem MvS.mk0 {w W1 W2 : World} {t : T3} {a1 a2 : Option Addr} {n c1 c2 : Nat} {L : List Ma} {W0 : World} (K : Kv w [some (w.heap.size, in3 t)] W0) (hn : n = L.length) (C : CopiedR W0 W1 a1 n c1 7 (L.map maC)) (D : CopiedR W1 W2 a2 n c2 7 (L.map maC)) : MvS w t a1 a2 L L n W2 := by
  have K2 := (K.on C.old).on D.old
  refine ⟨K2, RAt.on C.at_ D.old, D.at_, fun h => ?_⟩
  obtain ⟨bm, rfl, m1, O1⟩ := C.ownM hn h
  obtain ⟨bt, rfl, m2, O2⟩ := D.ownM hn h
  have hb : w.heap.size < W0.heap.size := (K.at_ 0 rfl).lt
  have hm : bm < W1.heap.size := O1.lt
  have K3 := K2.also (OwM.on O1 D.old) (by omega) (fun j g' vs e => by
    rcases j with _ | j
    · simp at e; omega
    · simp at e)
  have K4 := K3.also O2 (by have := O1.lt; omega) (fun j g' vs e => by
    rcases j with _ | _ | j
    · simp at e; omega
    · simp at e; omega
    · simp at e)
  exact ⟨bm, bt, rfl, rfl, K4⟩
theorem box_rat {w W : World} {t : T3} (K : Kv w [some (w.heap.size, in3 t)] W) : RAt W (some ⟨w.heap.size, 0, none⟩) 3 [in3 t] := fun j r hj => by
  obtain rfl : j = 0 := by
    have := (List.getElem?_eq_some_iff.1 hj).1
    simp at this
    omega
  obtain rfl : in3 t = r := by simpa using hj
  refine ⟨_, _, rfl, (K.at_ 0 rfl).lt, fun k u hu => ?_⟩
  rw [Nat.zero_mul, Nat.zero_add]
  exact (K.at_ 0 rfl).at_ k u hu
theorem box_at {W : World} {g : Nat} {t : T3} (h : RAt W (some ⟨g, 0, none⟩) 3 [in3 t]) {k : Nat} (hk : k < 3) : W.cell? ⟨g, k, none⟩ = some (.int .i64 (t.get k)) := by
  obtain ⟨b, o, e, -, hc⟩ := h 0 _ rfl
  obtain ⟨rfl, rfl⟩ : g = b ∧ 0 = o := by simpa using e
  have := hc k _ (in3_get _ hk)
  rwa [Nat.zero_mul, Nat.zero_add] at this
end Go.Proofs.Ytacinenddnfcbaa
