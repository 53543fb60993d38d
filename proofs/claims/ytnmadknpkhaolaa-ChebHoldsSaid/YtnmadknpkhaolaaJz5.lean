/- Proved here: what the texts Cor, Smu, Sdv, Sin prove, one behind the other. -/
import Derived.Test.YtnmadknpkhaolaaJz4
import Derived.BigQuiet
import Derived.Deep.CutRange
import Derived.Deep.RegionHeld
import Derived.Test.YtnmadknpkhaolaaJz3

namespace Go.Proofs.Ytnmadknpkhaolaa
open Go.ChangeShapes Go.WideShapes Go.ChangeAt Go.RowKit Ieee.Own

/-- a block of the call's own that holds a span -/
structure Blk (w : World) (g x y : Nat) : Prop where
  lt : g < w.heap.size
  lo : w.cell? ⟨g, 0, none⟩ = some (.float .f64 x)
  hi : w.cell? ⟨g, 1, none⟩ = some (.float .f64 y)
  f0 : w.frozen? ⟨g, 0, none⟩ = false
  f1 : w.frozen? ⟨g, 1, none⟩ = false
theorem cell_on {B : Nat} {w w' : World} (h : Below B w w') (a : Addr) (hb : a.block < B) : w'.cell? a = w.cell? a := by
  unfold World.cell?; rw [h.block _ hb]
theorem frozen_on {B : Nat} {w w' : World} (h : Below B w w') (a : Addr) (hb : a.block < B) : w'.frozen? a = w.frozen? a := by
  unfold World.frozen?; rw [h.block _ hb]
theorem Blk.on {w w' : World} {g x y : Nat} (b : Blk w g x y) (h : Below w.heap.size w w') : Blk w' g x y :=
  ⟨Nat.lt_of_lt_of_le b.lt h.size, (cell_on h _ b.lt).trans b.lo, (cell_on h _ b.lt).trans b.hi, (frozen_on h _ b.lt).trans b.f0, (frozen_on h _ b.lt).trans b.f1⟩
theorem Blk.new (w : World) : Blk (w.alloc zeroO) w.heap.size 0 0 := by
  have S : Blocks w [zeroO] (w.alloc zeroO) := (Blocks.nil w).alloc (by simp) _
  unfold zeroO at S
  exact ⟨by simp, S.cell 0 rfl 0 w.heap.size rfl, S.cell 0 rfl 1 w.heap.size rfl, S.free 0 rfl 0 w.heap.size rfl, S.free 0 rfl 1 w.heap.size rfl⟩
theorem below_drewN {B : Nat} {u w : World} (h : Below B u w) (n : Nat) : Below B u (w.drewN n) := ⟨h.1, h.2, h.3, h.4, h.5⟩
def put2 (w : World) (g s t : Nat) : World := (w.setCell ⟨g, 0, none⟩ (.float .f64 s)).setCell ⟨g, 1, none⟩ (.float .f64 t)
theorem put2_size (w : World) (g s t : Nat) : (put2 w g s t).heap.size = w.heap.size := by unfold put2; simp
theorem Blk.put {w : World} {g x y : Nat} (b : Blk w g x y) (s t : Nat) : Blk (put2 w g s t) g s t := by
  obtain ⟨v0, h0⟩ := cell?_setCell_some (w := w) (p := ⟨g, 0, none⟩) (x := .float .f64 s) (q := ⟨g, 1, none⟩) (v := _) b.hi
  refine ⟨by rw [put2_size]; exact b.lt, ?_, ?_, ?_, ?_⟩
  · unfold put2
    rw [World.cell?_setCell_other _ _ _ _ (by simp)]
    exact World.cell?_setCell_same _ _ _ b.lo
  · unfold put2
    exact World.cell?_setCell_same _ _ _ h0
  · unfold put2; rw [World.frozen?_setCell, World.frozen?_setCell]; exact b.f0
  · unfold put2; rw [World.frozen?_setCell, World.frozen?_setCell]; exact b.f1
theorem Blk.other {w : World} {g h x y : Nat} (b : Blk w g x y) (hg : g ≠ h) (s t : Nat) : Blk (put2 w h s t) g x y := by
  refine ⟨by rw [put2_size]; exact b.lt, ?_, ?_, ?_, ?_⟩
  · unfold put2
    rw [World.cell?_setCell_other _ _ _ _ (by simp), World.cell?_setCell_other _ _ _ _ (by simp)]
    exact b.lo
  · unfold put2
    rw [World.cell?_setCell_other _ _ _ _ (by simp), World.cell?_setCell_other _ _ _ _ (by simp)]
    exact b.hi
  · unfold put2; rw [World.frozen?_setCell, World.frozen?_setCell]; exact b.f0
  · unfold put2; rw [World.frozen?_setCell, World.frozen?_setCell]; exact b.f1
theorem put2_below {B : Nat} {u w : World} (h : Below B u w) {g : Nat} (hg : B ≤ g) (s t : Nat) : Below B u (put2 w g s t) := (h.setCell hg _).setCell hg _

/-! ### the region: which of its values hang on nothing that is drawn -/
def corD (g : FuncId) (wz a1 a2 b1 b2 : Nat) (es : List (Nat × Nat)) : List (Option Value) := [some (.func (.func g) #[] #[]),
  some (.pointer (some ⟨wz, 0, none⟩)),
  some (.float .f64 a1),
  some (.pointer (some ⟨wz + 1, 0, none⟩)),
  some (.float .f64 b1),
  some (spanV (es.getD 0 (0, 0)).1 (es.getD 0 (0, 0)).2),
  some (.func (.func g) #[] #[]),
  some (.pointer (some ⟨wz, 0, none⟩)),
  some (.float .f64 a1),
  some (.pointer (some ⟨wz + 1, 1, none⟩)),
  some (.float .f64 b2),
  some (spanV (es.getD 1 (0, 0)).1 (es.getD 1 (0, 0)).2),
  some (.func (.func g) #[] #[]),
  some (.pointer (some ⟨wz, 1, none⟩)),
  some (.float .f64 a2),
  some (.pointer (some ⟨wz + 1, 0, none⟩)),
  some (.float .f64 b1),
  some (spanV (es.getD 2 (0, 0)).1 (es.getD 2 (0, 0)).2),
  some (.func (.func g) #[] #[]),
  some (.pointer (some ⟨wz, 1, none⟩)),
  some (.float .f64 a2),
  some (.pointer (some ⟨wz + 1, 1, none⟩)),
  some (.float .f64 b2),
  some (spanV (es.getD 3 (0, 0)).1 (es.getD 3 (0, 0)).2),
  none,
  none,
  none,
  none,
  none,
  none,
  none,
  none]
/-- what operation 24 + j's block holds: nothing yet, or corner j -/
def corE (es : List (Nat × Nat)) (L : List (Option Value)) (j : Nat) : Nat × Nat := if (L[28 + j]?.getD none).isSome then es.getD j (0, 0) else (0, 0)
structure CorW (g : FuncId) (wz a1 a2 b1 b2 : Nat) (es : List (Nat × Nat)) (w1 : World) (L : List (Option Value)) (w : World) : Prop where
  old : Below w1.heap.size w1 w
  det : ∀ (i : Nat) (v u : Value), L[i]? = some (some v) → (corD g wz a1 a2 b1 b2 es)[i]? = some (some u) → v = u
  blk : ∀ (j : Nat), j < 4 → ∀ v : Value, L[24 + j]? = some (some v) → ∃ h, v = .pointer (some ⟨h, 0, none⟩) ∧ w1.heap.size ≤ h ∧ Blk w h (corE es L j).1 (corE es L j).2
  apart : ∀ (j k : Nat), j < 4 → k < 4 → j ≠ k → ∀ v u : Value, L[24 + j]? = some (some v) → L[24 + k]? = some (some u) → v ≠ u
  ord : ∀ (j : Nat), j < 4 → L[24 + j]? = some none → ∀ o : Value, L[28 + j]? ≠ some (some o)
section
variable {g : FuncId} {wz a1 a2 b1 b2 : Nat} {es : List (Nat × Nat)} {w1 w w' : World} {L : List (Option Value)}
theorem CorW.on (H : CorW g wz a1 a2 b1 b2 es w1 L w) (h : Below w.heap.size w w') : CorW g wz a1 a2 b1 b2 es w1 L w' :=
  ⟨H.old.trans (h.mono H.old.size), H.det, fun j hj v hv => by obtain ⟨x, e, l, b⟩ := H.blk j hj v hv; exact ⟨x, e, l, b.on h⟩, H.apart, H.ord⟩
theorem corE_set {i j : Nat} {o : Option Value} (hi : i < 28) : corE es (L.set i o) j = corE es L j := by
  unfold corE; rw [List.getElem?_set_ne (by omega)]
theorem CorW.det_step (H : CorW g wz a1 a2 b1 b2 es w1 L w) {i : Nat} {u : Value} (hi : i < 24) (hd : (corD g wz a1 a2 b1 b2 es)[i]? = some (some u)) : CorW g wz a1 a2 b1 b2 es w1 (L.set i (some u)) w := by
  refine ⟨H.old, fun k v t hv ht => ?_, fun j hj v hv => ?_, fun j k hj hk hjk v t hv ht => ?_, fun j hj hn o => ?_⟩
  · by_cases hik : i = k
    · subst hik
      rw [hd] at ht
      by_cases hl : i < L.length
      · rw [List.getElem?_set_self hl] at hv
        rw [← Option.some.inj (Option.some.inj hv), ← Option.some.inj (Option.some.inj ht)]
      · rw [List.getElem?_eq_none (by simp; omega)] at hv; simp at hv
    · rw [List.getElem?_set_ne hik] at hv; exact H.det k v t hv ht
  · rw [List.getElem?_set_ne (by omega)] at hv
    rw [corE_set (by omega)]
    exact H.blk j hj v hv
  · rw [List.getElem?_set_ne (by omega)] at hv ht
    exact H.apart j k hj hk hjk v t hv ht
  · rw [List.getElem?_set_ne (by omega)] at hn ⊢
    exact H.ord j hj hn o
theorem CorW.alloc_step (H : CorW g wz a1 a2 b1 b2 es w1 L w) {j : Nat} (hj : j < 4) (hn : L[24 + j]? = some none) : CorW g wz a1 a2 b1 b2 es w1 (L.set (24 + j) (some (.pointer (some ⟨w.heap.size, 0, none⟩)))) (w.alloc zeroO) := by
  have hb : Below w.heap.size w (w.alloc zeroO) := (Below.refl _ w).alloc (Nat.le_refl _) _
  have hl : 24 + j < L.length := (List.getElem?_eq_some_iff.1 hn).1
  have hs : ¬ (L[28 + j]?.getD none).isSome = true := by
    have ho := H.ord j hj hn
    cases hc : L[28 + j]? with
    | none => simp
    | some o => cases o with
      | none => simp
      | some v => exact absurd hc (ho v)
  refine ⟨H.old.trans (hb.mono H.old.size), fun k v t hv ht => ?_, fun k hk v hv => ?_, fun k m hk hm hkm v t hv ht => ?_, fun k hk hk2 o => ?_⟩
  · by_cases hik : 24 + j = k
    · subst hik
      exfalso
      have : j = 0 ∨ j = 1 ∨ j = 2 ∨ j = 3 := by omega
      rcases this with rfl | rfl | rfl | rfl <;> simp [corD] at ht
    · rw [List.getElem?_set_ne hik] at hv; exact H.det k v t hv ht
  · rw [corE_set (by omega)]
    by_cases hjk : j = k
    · subst hjk
      rw [List.getElem?_set_self hl] at hv
      rw [← Option.some.inj (Option.some.inj hv)]
      refine ⟨_, rfl, H.old.size, ?_⟩
      unfold corE
      rw [if_neg hs]
      exact Blk.new w
    · rw [List.getElem?_set_ne (by omega)] at hv
      obtain ⟨x, e, l, b⟩ := H.blk k hk v hv
      exact ⟨x, e, l, b.on hb⟩
  · have key : ∀ n v, n < 4 → L[24 + n]? = some (some v) → v ≠ .pointer (some ⟨w.heap.size, 0, none⟩) := by
      intro n v hn4 hv e
      obtain ⟨x, e2, l, b⟩ := H.blk n hn4 v hv
      rw [e2] at e
      have := b.lt
      simp only [Value.pointer.injEq, Option.some.injEq, Addr.mk.injEq] at e
      omega
    by_cases hjk : j = k
    · subst hjk
      rw [List.getElem?_set_self hl] at hv
      rw [List.getElem?_set_ne (by omega)] at ht
      rw [← Option.some.inj (Option.some.inj hv)]
      exact fun e => key m t hm ht e.symm
    · rw [List.getElem?_set_ne (by omega)] at hv
      by_cases hjm : j = m
      · subst hjm
        rw [List.getElem?_set_self hl] at ht
        rw [← Option.some.inj (Option.some.inj ht)]
        exact key k v hk hv
      · rw [List.getElem?_set_ne (by omega)] at ht
        exact H.apart k m hk hm hkm v t hv ht
  · rw [List.getElem?_set_ne (by omega)]
    by_cases hjk : j = k
    · subst hjk
      rw [List.getElem?_set_self hl] at hk2
      simp at hk2
    · rw [List.getElem?_set_ne (by omega)] at hk2
      exact H.ord k hk hk2 o
theorem CorW.store_step (H : CorW g wz a1 a2 b1 b2 es w1 L w) {j h : Nat} {o : Value} (hj : j < 4) (hn : L[28 + j]? = some none) (hh : L[24 + j]? = some (some (.pointer (some ⟨h, 0, none⟩)))) :
    CorW g wz a1 a2 b1 b2 es w1 (L.set (28 + j) (some o)) (put2 w h (es.getD j (0, 0)).1 (es.getD j (0, 0)).2) := by
  obtain ⟨h', e', l', b'⟩ := H.blk j hj _ hh
  have eh : h = h' := by simp only [Value.pointer.injEq, Option.some.injEq, Addr.mk.injEq] at e'; exact e'.1
  subst eh
  have hl : 28 + j < L.length := (List.getElem?_eq_some_iff.1 hn).1
  refine ⟨put2_below H.old l' _ _, fun k v t hv ht => ?_, fun k hk v hv => ?_, fun k m hk hm hkm v t hv ht => ?_, fun k hk hk2 o => ?_⟩
  · by_cases hik : 28 + j = k
    · subst hik
      exfalso
      have : j = 0 ∨ j = 1 ∨ j = 2 ∨ j = 3 := by omega
      rcases this with rfl | rfl | rfl | rfl <;> simp [corD] at ht
    · rw [List.getElem?_set_ne hik] at hv; exact H.det k v t hv ht
  · rw [List.getElem?_set_ne (by omega)] at hv
    obtain ⟨x, e, l, b⟩ := H.blk k hk v hv
    refine ⟨x, e, l, ?_⟩
    by_cases hjk : j = k
    · subst hjk
      rw [hh] at hv
      have := Option.some.inj (Option.some.inj hv)
      rw [e] at this
      simp only [Value.pointer.injEq, Option.some.injEq, Addr.mk.injEq] at this
      obtain ⟨rfl, -⟩ := this
      have ec : corE es (L.set (28 + j) (some o)) j = es.getD j (0, 0) := by
        unfold corE; rw [List.getElem?_set_self hl]; rfl
      rw [ec]
      exact b.put _ _
    · have ec : corE es (L.set (28 + j) (some o)) k = corE es L k := by
        unfold corE; rw [List.getElem?_set_ne (by omega)]
      rw [ec]
      refine b.other (fun e2 => ?_) _ _
      subst e2
      exact H.apart j k hj hk hjk _ _ hh hv e.symm
  · rw [List.getElem?_set_ne (by omega)] at hv ht
    exact H.apart k m hk hm hkm v t hv ht
  · rw [List.getElem?_set_ne (by omega)] at hk2
    by_cases hjk : j = k
    · subst hjk
      rw [hh] at hk2
      simp at hk2
    · rw [List.getElem?_set_ne (by omega)]
      exact H.ord k hk hk2 o
end

theorem nones_get (n i : Nat) (v : Value) : (nones n)[i]? ≠ some (some v) := by unfold nones; simp [List.getElem?_replicate]
theorem all_some {n : Nat} {L : List (Option Value)} (hL : L.length = n) (h : ∀ i, i < n → ∃ v, L[i]? = some (some v)) : ∃ f : Nat → Value, L = (List.range n).map (fun i => some (f i)) ∧ ∀ i, i < n → L[i]? = some (some (f i)) := by
  refine ⟨fun i => if hi : i < n then Classical.choose (h i hi) else undef, ?_, fun i hi => ?_⟩
  · refine List.ext_getElem? fun i => ?_
    by_cases hi : i < n
    · rw [Classical.choose_spec (h i hi)]
      simp [hi]
    · rw [List.getElem?_eq_none (by omega), List.getElem?_eq_none (by simp; omega)]
  · rw [Classical.choose_spec (h i hi)]
    simp [hi]

set_option maxHeartbeats 4000000 in
set_option maxRecDepth 100000 in
theorem corners_run (g : FuncId) (a1 a2 b1 b2 : Nat) (es : List (Nat × Nat)) (hg : ∀ x y w, (callFunc g #[.float .f64 x, .float .f64 y]).run Try.prog w = .ok (.enter g #[.float .f64 x, .float .f64 y]) w)
    (E1 : ∀ w, Calls Try.prog g #[.float .f64 a1, .float .f64 b1] w fun e w' => e = .returned (spanV (es.getD 0 (0, 0)).1 (es.getD 0 (0, 0)).2) ∧ Below w.heap.size w w')
    (E2 : ∀ w, Calls Try.prog g #[.float .f64 a1, .float .f64 b2] w fun e w' => e = .returned (spanV (es.getD 1 (0, 0)).1 (es.getD 1 (0, 0)).2) ∧ Below w.heap.size w w')
    (E3 : ∀ w, Calls Try.prog g #[.float .f64 a2, .float .f64 b1] w fun e w' => e = .returned (spanV (es.getD 2 (0, 0)).1 (es.getD 2 (0, 0)).2) ∧ Below w.heap.size w w')
    (E4 : ∀ w, Calls Try.prog g #[.float .f64 a2, .float .f64 b2] w fun e w' => e = .returned (spanV (es.getD 3 (0, 0)).1 (es.getD 3 (0, 0)).2) ∧ Below w.heap.size w w')
    (lo hi : Nat)
    (hmin : ∀ ts t w, (Builtin.min_ ts t #[.float .f64 (es.getD 0 (0, 0)).1, .float .f64 (es.getD 1 (0, 0)).1, .float .f64 (es.getD 2 (0, 0)).1, .float .f64 (es.getD 3 (0, 0)).1]).run Try.prog w = .ok (.float .f64 lo) w)
    (hmax : ∀ ts t w, (Builtin.max_ ts t #[.float .f64 (es.getD 0 (0, 0)).2, .float .f64 (es.getD 1 (0, 0)).2, .float .f64 (es.getD 2 (0, 0)).2, .float .f64 (es.getD 3 (0, 0)).2]).run Try.prog w = .ok (.float .f64 hi) w)
    (w : World) :
    Calls Try.prog 114 #[spanV a1 a2, spanV b1 b2, .func (.func g) #[] #[]] w fun e w' => e = .returned (.tuple #[.float .f64 lo, .float .f64 hi]) ∧ Below w.heap.size w w' := by
  have S0 : Blocks w ([boxO a1 a2] ++ [boxO b1 b2]) ((w.alloc (boxO a1 a2)).alloc (boxO b1 b2)) := ((Blocks.nil w).alloc (by simp) _).alloc (by simp) _
  unfold boxO at S0
  have hz : w.heap.size + 1 + 1 ≤ ((w.alloc (boxO a1 a2)).alloc (boxO b1 b2)).heap.size := by simp
  unfold boxO at hz
  unfold spanV
  replace S0 := Lib.hid S0
  replace hz := Lib.hid hz
  replace E1 := Lib.hid E1
  replace E2 := Lib.hid E2
  replace E3 := Lib.hid E3
  replace E4 := Lib.hid E4
  replace hg := Lib.hid hg
  replace hmin := Lib.hid hmin
  replace hmax := Lib.hid hmax
  go_enter Try.func114, Try.ntmps114
  go_upto_region 1 with fail
  have S1 := S0.out
  have hz := hz.out
  clear S0
  generalize (w.alloc _).alloc _ = w1 at *
  go_cut [8, 9, 10, 11] from 12 to 35 (fun t8 t9 t10 t11 wx => ∃ g0 g1 g2 g3 : Nat, t8 = .pointer (some ⟨g0, 0, none⟩) ∧ t9 = .pointer (some ⟨g1, 0, none⟩) ∧ t10 = .pointer (some ⟨g2, 0, none⟩) ∧ t11 = .pointer (some ⟨g3, 0, none⟩) ∧ Below w1.heap.size w1 wx
    ∧ Blk wx g0 (es.getD 0 (0, 0)).1 (es.getD 0 (0, 0)).2 ∧ Blk wx g1 (es.getD 1 (0, 0)).1 (es.getD 1 (0, 0)).2 ∧ Blk wx g2 (es.getD 2 (0, 0)).1 (es.getD 2 (0, 0)).2 ∧ Blk wx g3 (es.getD 3 (0, 0)).1 (es.getD 3 (0, 0)).2)
  case first =>
    clear hmin hmax
    have hC : ∀ W, Below w1.heap.size w1 W → W.cell? ⟨w.heap.size, 0, none⟩ = some (.float .f64 a1) ∧ W.cell? ⟨w.heap.size, 1, none⟩ = some (.float .f64 a2) ∧ W.cell? ⟨w.heap.size + 1, 0, none⟩ = some (.float .f64 b1) ∧ W.cell? ⟨w.heap.size + 1, 1, none⟩ = some (.float .f64 b2) := fun W hb => by
      have S2 := S1.on hb
      exact ⟨S2.cell 0 rfl 0 w.heap.size rfl, S2.cell 0 rfl 1 w.heap.size rfl, S2.cell 1 rfl 0 (w.heap.size + 1) rfl, S2.cell 1 rfl 1 (w.heap.size + 1) rfl⟩
    have E1 := E1.out
    have E2 := E2.out
    have E3 := E3.out
    have E4 := E4.out
    have hg := hg.out
    generalize w.heap.size = wz at *
    generalize hds : ([some 12, some 13, some 14, some 15, some 16, some 17, some 18, some 19, some 20, some 21, some 22, some 23, some 24, some 25, some 26, some 27, some 28, some 29, some 30, some 31, some 32, some 33, some 34, some 35, some 8, some 9, some 10, some 11, none, none, none, none] : List (Option Tmp)) = ds
    have hap : apartL ds = true := by rw [← hds]; decide
    have hds := hds.symm
    refine wp_region_inv (by kernel_rfl) ds (by rw [hds]; rfl) hap (by decide +kernel) (by decide +kernel) (CorW g wz a1 a2 b1 b2 es w1) ?start ?step ?fin
    case start =>
      refine ⟨(Below.refl _ w1).drew, fun i v u h => ?_, fun j hj v h => ?_, fun j k hj hk hjk v u h => ?_, fun j hj h o ho => ?_⟩
      · exact absurd h (nones_get _ _ _)
      · exact absurd h (nones_get _ _ _)
      · exact absurd h (nones_get _ _ _)
      · exact absurd ho (nones_get _ _ _)
    case step =>
      intro L W i o hL ho hn hd hW
      have hi : i < 32 := (Array.getElem?_eq_some_iff.1 ho).1
      have : i = 0 ∨ i = 1 ∨ i = 2 ∨ i = 3 ∨ i = 4 ∨ i = 5 ∨ i = 6 ∨ i = 7 ∨ i = 8 ∨ i = 9 ∨ i = 10 ∨ i = 11 ∨ i = 12 ∨ i = 13 ∨ i = 14 ∨ i = 15 ∨ i = 16 ∨ i = 17 ∨ i = 18 ∨ i = 19 ∨ i = 20 ∨ i = 21 ∨ i = 22 ∨ i = 23 ∨ i = 24 ∨ i = 25 ∨ i = 26 ∨ i = 27 ∨ i = 28 ∨ i = 29 ∨ i = 30 ∨ i = 31 := by omega
      rcases this with rfl | rfl | rfl | rfl | rfl | rfl | rfl | rfl | rfl | rfl | rfl | rfl | rfl | rfl | rfl | rfl | rfl | rfl | rfl | rfl | rfl | rfl | rfl | rfl | rfl | rfl | rfl | rfl | rfl | rfl | rfl | rfl
      · -- 0
        obtain rfl := Option.some.inj ho
        refine step_value (ex_move W rfl (puts_old ds L _ (by rw [hds]; decide))) ⟨_, rfl, ?_⟩
        exact hW.det_step (by omega) rfl
      · -- 1
        obtain rfl := Option.some.inj ho
        refine step_value (ex_fa0 W rfl (puts_old ds L _ (by rw [hds]; decide))) ⟨_, rfl, ?_⟩
        exact hW.det_step (by omega) rfl
      · -- 2
        obtain rfl := Option.some.inj ho
        obtain ⟨v, hv⟩ := hd ⟨1, .data⟩ (by simp) rfl
        obtain rfl := hW.det 1 v _ hv rfl
        refine step_value (ex_load rfl (puts_get 1 ds L _ hap (by rw [hds]; rfl) hv (show 13 < 54 by decide)) ((hC _ hW.old).1)) ⟨_, rfl, ?_⟩
        exact hW.det_step (by omega) rfl
      · -- 3
        obtain rfl := Option.some.inj ho
        refine step_value (ex_fa0 W rfl (puts_old ds L _ (by rw [hds]; decide))) ⟨_, rfl, ?_⟩
        exact hW.det_step (by omega) rfl
      · -- 4
        obtain rfl := Option.some.inj ho
        obtain ⟨v, hv⟩ := hd ⟨3, .data⟩ (by simp) rfl
        obtain rfl := hW.det 3 v _ hv rfl
        refine step_value (ex_load rfl (puts_get 3 ds L _ hap (by rw [hds]; rfl) hv (show 15 < 54 by decide)) ((hC _ hW.old).2.2.1)) ⟨_, rfl, ?_⟩
        exact hW.det_step (by omega) rfl
      · -- 5
        obtain rfl := Option.some.inj ho
        obtain ⟨vf, hvf⟩ := hd ⟨0, .data⟩ (by simp) rfl
        obtain rfl := hW.det 0 vf _ hvf rfl
        obtain ⟨vx, hvx⟩ := hd ⟨2, .data⟩ (by simp) rfl
        obtain rfl := hW.det 2 vx _ hvx rfl
        obtain ⟨vy, hvy⟩ := hd ⟨4, .data⟩ (by simp) rfl
        obtain rfl := hW.det 4 vy _ hvy rfl
        refine step_call (ex_call W rfl (puts_get 0 ds L _ hap (by rw [hds]; rfl) hvf (show 12 < 54 by decide)) (puts_get 2 ds L _ hap (by rw [hds]; rfl) hvx (show 14 < 54 by decide)) (puts_get 4 ds L _ hap (by rw [hds]; rfl) hvy (show 16 < 54 by decide)) (hg _ _ _)) ?_
        refine (E1 W).mono fun e W' ⟨he, hB⟩ => ⟨_, he, _, rfl, ?_⟩
        exact (hW.on hB).det_step (by omega) rfl
      · -- 6
        obtain rfl := Option.some.inj ho
        refine step_value (ex_move W rfl (puts_old ds L _ (by rw [hds]; decide))) ⟨_, rfl, ?_⟩
        exact hW.det_step (by omega) rfl
      · -- 7
        obtain rfl := Option.some.inj ho
        refine step_value (ex_fa0 W rfl (puts_old ds L _ (by rw [hds]; decide))) ⟨_, rfl, ?_⟩
        exact hW.det_step (by omega) rfl
      · -- 8
        obtain rfl := Option.some.inj ho
        obtain ⟨v, hv⟩ := hd ⟨7, .data⟩ (by simp) rfl
        obtain rfl := hW.det 7 v _ hv rfl
        refine step_value (ex_load rfl (puts_get 7 ds L _ hap (by rw [hds]; rfl) hv (show 19 < 54 by decide)) ((hC _ hW.old).1)) ⟨_, rfl, ?_⟩
        exact hW.det_step (by omega) rfl
      · -- 9
        obtain rfl := Option.some.inj ho
        refine step_value (ex_fa1 W rfl (puts_old ds L _ (by rw [hds]; decide))) ⟨_, rfl, ?_⟩
        exact hW.det_step (by omega) rfl
      · -- 10
        obtain rfl := Option.some.inj ho
        obtain ⟨v, hv⟩ := hd ⟨9, .data⟩ (by simp) rfl
        obtain rfl := hW.det 9 v _ hv rfl
        refine step_value (ex_load rfl (puts_get 9 ds L _ hap (by rw [hds]; rfl) hv (show 21 < 54 by decide)) ((hC _ hW.old).2.2.2)) ⟨_, rfl, ?_⟩
        exact hW.det_step (by omega) rfl
      · -- 11
        obtain rfl := Option.some.inj ho
        obtain ⟨vf, hvf⟩ := hd ⟨6, .data⟩ (by simp) rfl
        obtain rfl := hW.det 6 vf _ hvf rfl
        obtain ⟨vx, hvx⟩ := hd ⟨8, .data⟩ (by simp) rfl
        obtain rfl := hW.det 8 vx _ hvx rfl
        obtain ⟨vy, hvy⟩ := hd ⟨10, .data⟩ (by simp) rfl
        obtain rfl := hW.det 10 vy _ hvy rfl
        refine step_call (ex_call W rfl (puts_get 6 ds L _ hap (by rw [hds]; rfl) hvf (show 18 < 54 by decide)) (puts_get 8 ds L _ hap (by rw [hds]; rfl) hvx (show 20 < 54 by decide)) (puts_get 10 ds L _ hap (by rw [hds]; rfl) hvy (show 22 < 54 by decide)) (hg _ _ _)) ?_
        refine (E2 W).mono fun e W' ⟨he, hB⟩ => ⟨_, he, _, rfl, ?_⟩
        exact (hW.on hB).det_step (by omega) rfl
      · -- 12
        obtain rfl := Option.some.inj ho
        refine step_value (ex_move W rfl (puts_old ds L _ (by rw [hds]; decide))) ⟨_, rfl, ?_⟩
        exact hW.det_step (by omega) rfl
      · -- 13
        obtain rfl := Option.some.inj ho
        refine step_value (ex_fa1 W rfl (puts_old ds L _ (by rw [hds]; decide))) ⟨_, rfl, ?_⟩
        exact hW.det_step (by omega) rfl
      · -- 14
        obtain rfl := Option.some.inj ho
        obtain ⟨v, hv⟩ := hd ⟨13, .data⟩ (by simp) rfl
        obtain rfl := hW.det 13 v _ hv rfl
        refine step_value (ex_load rfl (puts_get 13 ds L _ hap (by rw [hds]; rfl) hv (show 25 < 54 by decide)) ((hC _ hW.old).2.1)) ⟨_, rfl, ?_⟩
        exact hW.det_step (by omega) rfl
      · -- 15
        obtain rfl := Option.some.inj ho
        refine step_value (ex_fa0 W rfl (puts_old ds L _ (by rw [hds]; decide))) ⟨_, rfl, ?_⟩
        exact hW.det_step (by omega) rfl
      · -- 16
        obtain rfl := Option.some.inj ho
        obtain ⟨v, hv⟩ := hd ⟨15, .data⟩ (by simp) rfl
        obtain rfl := hW.det 15 v _ hv rfl
        refine step_value (ex_load rfl (puts_get 15 ds L _ hap (by rw [hds]; rfl) hv (show 27 < 54 by decide)) ((hC _ hW.old).2.2.1)) ⟨_, rfl, ?_⟩
        exact hW.det_step (by omega) rfl
      · -- 17
        obtain rfl := Option.some.inj ho
        obtain ⟨vf, hvf⟩ := hd ⟨12, .data⟩ (by simp) rfl
        obtain rfl := hW.det 12 vf _ hvf rfl
        obtain ⟨vx, hvx⟩ := hd ⟨14, .data⟩ (by simp) rfl
        obtain rfl := hW.det 14 vx _ hvx rfl
        obtain ⟨vy, hvy⟩ := hd ⟨16, .data⟩ (by simp) rfl
        obtain rfl := hW.det 16 vy _ hvy rfl
        refine step_call (ex_call W rfl (puts_get 12 ds L _ hap (by rw [hds]; rfl) hvf (show 24 < 54 by decide)) (puts_get 14 ds L _ hap (by rw [hds]; rfl) hvx (show 26 < 54 by decide)) (puts_get 16 ds L _ hap (by rw [hds]; rfl) hvy (show 28 < 54 by decide)) (hg _ _ _)) ?_
        refine (E3 W).mono fun e W' ⟨he, hB⟩ => ⟨_, he, _, rfl, ?_⟩
        exact (hW.on hB).det_step (by omega) rfl
      · -- 18
        obtain rfl := Option.some.inj ho
        refine step_value (ex_move W rfl (puts_old ds L _ (by rw [hds]; decide))) ⟨_, rfl, ?_⟩
        exact hW.det_step (by omega) rfl
      · -- 19
        obtain rfl := Option.some.inj ho
        refine step_value (ex_fa1 W rfl (puts_old ds L _ (by rw [hds]; decide))) ⟨_, rfl, ?_⟩
        exact hW.det_step (by omega) rfl
      · -- 20
        obtain rfl := Option.some.inj ho
        obtain ⟨v, hv⟩ := hd ⟨19, .data⟩ (by simp) rfl
        obtain rfl := hW.det 19 v _ hv rfl
        refine step_value (ex_load rfl (puts_get 19 ds L _ hap (by rw [hds]; rfl) hv (show 31 < 54 by decide)) ((hC _ hW.old).2.1)) ⟨_, rfl, ?_⟩
        exact hW.det_step (by omega) rfl
      · -- 21
        obtain rfl := Option.some.inj ho
        refine step_value (ex_fa1 W rfl (puts_old ds L _ (by rw [hds]; decide))) ⟨_, rfl, ?_⟩
        exact hW.det_step (by omega) rfl
      · -- 22
        obtain rfl := Option.some.inj ho
        obtain ⟨v, hv⟩ := hd ⟨21, .data⟩ (by simp) rfl
        obtain rfl := hW.det 21 v _ hv rfl
        refine step_value (ex_load rfl (puts_get 21 ds L _ hap (by rw [hds]; rfl) hv (show 33 < 54 by decide)) ((hC _ hW.old).2.2.2)) ⟨_, rfl, ?_⟩
        exact hW.det_step (by omega) rfl
      · -- 23
        obtain rfl := Option.some.inj ho
        obtain ⟨vf, hvf⟩ := hd ⟨18, .data⟩ (by simp) rfl
        obtain rfl := hW.det 18 vf _ hvf rfl
        obtain ⟨vx, hvx⟩ := hd ⟨20, .data⟩ (by simp) rfl
        obtain rfl := hW.det 20 vx _ hvx rfl
        obtain ⟨vy, hvy⟩ := hd ⟨22, .data⟩ (by simp) rfl
        obtain rfl := hW.det 22 vy _ hvy rfl
        refine step_call (ex_call W rfl (puts_get 18 ds L _ hap (by rw [hds]; rfl) hvf (show 30 < 54 by decide)) (puts_get 20 ds L _ hap (by rw [hds]; rfl) hvx (show 32 < 54 by decide)) (puts_get 22 ds L _ hap (by rw [hds]; rfl) hvy (show 34 < 54 by decide)) (hg _ _ _)) ?_
        refine (E4 W).mono fun e W' ⟨he, hB⟩ => ⟨_, he, _, rfl, ?_⟩
        exact (hW.on hB).det_step (by omega) rfl
      · -- 24
        obtain rfl := Option.some.inj ho
        refine step_value (ex_alloc W rfl) ⟨_, rfl, ?_⟩
        exact hW.alloc_step (j := 0) (by omega) hn
      · -- 25
        obtain rfl := Option.some.inj ho
        refine step_value (ex_alloc W rfl) ⟨_, rfl, ?_⟩
        exact hW.alloc_step (j := 1) (by omega) hn
      · -- 26
        obtain rfl := Option.some.inj ho
        refine step_value (ex_alloc W rfl) ⟨_, rfl, ?_⟩
        exact hW.alloc_step (j := 2) (by omega) hn
      · -- 27
        obtain rfl := Option.some.inj ho
        refine step_value (ex_alloc W rfl) ⟨_, rfl, ?_⟩
        exact hW.alloc_step (j := 3) (by omega) hn
      · -- 28
        obtain rfl := Option.some.inj ho
        obtain ⟨vp, hvp⟩ := hd ⟨24, .data⟩ (by simp) rfl
        obtain ⟨vs, hvs⟩ := hd ⟨5, .data⟩ (by simp) rfl
        obtain ⟨h, rfl, -, b⟩ := hW.blk 0 (by omega) vp hvp
        obtain rfl := hW.det 5 vs _ hvs rfl
        refine step_skip (ex_store rfl (puts_get 24 ds L _ hap (by rw [hds]; rfl) hvp (show 8 < 54 by decide)) (puts_get 5 ds L _ hap (by rw [hds]; rfl) hvs (show 17 < 54 by decide)) b.lo b.hi b.f0 b.f1) ⟨undef, rfl, ?_⟩
        exact hW.store_step (j := 0) (by omega) hn hvp
      · -- 29
        obtain rfl := Option.some.inj ho
        obtain ⟨vp, hvp⟩ := hd ⟨25, .data⟩ (by simp) rfl
        obtain ⟨vs, hvs⟩ := hd ⟨11, .data⟩ (by simp) rfl
        obtain ⟨h, rfl, -, b⟩ := hW.blk 1 (by omega) vp hvp
        obtain rfl := hW.det 11 vs _ hvs rfl
        refine step_skip (ex_store rfl (puts_get 25 ds L _ hap (by rw [hds]; rfl) hvp (show 9 < 54 by decide)) (puts_get 11 ds L _ hap (by rw [hds]; rfl) hvs (show 23 < 54 by decide)) b.lo b.hi b.f0 b.f1) ⟨undef, rfl, ?_⟩
        exact hW.store_step (j := 1) (by omega) hn hvp
      · -- 30
        obtain rfl := Option.some.inj ho
        obtain ⟨vp, hvp⟩ := hd ⟨26, .data⟩ (by simp) rfl
        obtain ⟨vs, hvs⟩ := hd ⟨17, .data⟩ (by simp) rfl
        obtain ⟨h, rfl, -, b⟩ := hW.blk 2 (by omega) vp hvp
        obtain rfl := hW.det 17 vs _ hvs rfl
        refine step_skip (ex_store rfl (puts_get 26 ds L _ hap (by rw [hds]; rfl) hvp (show 10 < 54 by decide)) (puts_get 17 ds L _ hap (by rw [hds]; rfl) hvs (show 29 < 54 by decide)) b.lo b.hi b.f0 b.f1) ⟨undef, rfl, ?_⟩
        exact hW.store_step (j := 2) (by omega) hn hvp
      · -- 31
        obtain rfl := Option.some.inj ho
        obtain ⟨vp, hvp⟩ := hd ⟨27, .data⟩ (by simp) rfl
        obtain ⟨vs, hvs⟩ := hd ⟨23, .data⟩ (by simp) rfl
        obtain ⟨h, rfl, -, b⟩ := hW.blk 3 (by omega) vp hvp
        obtain rfl := hW.det 23 vs _ hvs rfl
        refine step_skip (ex_store rfl (puts_get 27 ds L _ hap (by rw [hds]; rfl) hvp (show 11 < 54 by decide)) (puts_get 23 ds L _ hap (by rw [hds]; rfl) hvs (show 35 < 54 by decide)) b.lo b.hi b.f0 b.f1) ⟨undef, rfl, ?_⟩
        exact hW.store_step (j := 3) (by omega) hn hvp
    case fin =>
      intro L W hL hall hW
      obtain ⟨f, hf, hall⟩ := all_some (n := 32) hL hall
      have key : ∀ j, j < 4 → ∃ h, f (24 + j) = .pointer (some ⟨h, 0, none⟩) ∧ Blk W h (es.getD j (0, 0)).1 (es.getD j (0, 0)).2 := fun j hj => by
        obtain ⟨h, e, -, b⟩ := hW.blk j hj _ (hall (24 + j) (by omega))
        have ec : corE es L j = es.getD j (0, 0) := by unfold corE; rw [hall (28 + j) (by omega)]; rfl
        rw [ec] at b
        exact ⟨h, e, b⟩
      obtain ⟨g0, e0, B0⟩ := key 0 (by omega)
      obtain ⟨g1, e1, B1⟩ := key 1 (by omega)
      obtain ⟨g2, e2, B2⟩ := key 2 (by omega)
      obtain ⟨g3, e3, B3⟩ := key 3 (by omega)
      have old := hW.old
      rw [hf, hds, show List.range 32 = [0, 1, 2, 3, 4, 5, 6, 7, 8, 9, 10, 11, 12, 13, 14, 15, 16, 17, 18, 19, 20, 21, 22, 23, 24, 25, 26, 27, 28, 29, 30, 31] by decide]
      clear hW hall key hf hL hC E1 E2 E3 E4 hg
      simp only [List.map_cons, List.map_nil, puts, Act.put, List.setIfInBounds_toArray, List.set_cons_zero, List.set_cons_succ]
      go_step
      go_step
      go_meet
      exact ⟨g0, g1, g2, g3, e0, e1, e2, e3, old, B0, B1, B2, B3⟩
  case rest =>
    obtain ⟨g0, g1, g2, g3, rfl, rfl, rfl, rfl, old, B0, B1, B2, B3⟩ := hcut
    have l0 := B0.lo
    have l1 := B1.lo
    have l2 := B2.lo
    have l3 := B3.lo
    have m0 := B0.hi
    have m1 := B1.hi
    have m2 := B2.hi
    have m3 := B3.hi
    have BB := Lib.hid (S1.old.trans (old.mono S1.old.size))
    have hmin := hmin.out
    have hmax := hmax.out
    clear B0 B1 B2 B3 old S1 hz E1 E2 E3 E4 hg
    generalize (es.getD 0 (0, 0)).1 = p0 at *
    generalize (es.getD 1 (0, 0)).1 = p1 at *
    generalize (es.getD 2 (0, 0)).1 = p2 at *
    generalize (es.getD 3 (0, 0)).1 = p3 at *
    generalize (es.getD 0 (0, 0)).2 = q0 at *
    generalize (es.getD 1 (0, 0)).2 = q1 at *
    generalize (es.getD 2 (0, 0)).2 = q2 at *
    generalize (es.getD 3 (0, 0)).2 = q3 at *
    go_wp2_with fail
    go_quiet (fail)
    go_wp2_with fail
    go_ret2
    exact ⟨rfl, below_drewN BB.out _⟩
end Go.Proofs.Ytnmadknpkhaolaa

namespace Go.Proofs.Ytnmadknpkhaolaa
open Go.ChangeShapes Go.WideShapes Go.ChangeAt Go.RowKit Ieee.Own

/-! ### the four corners -/
/-- a world that is another but for draws -/
def Drawn (w w' : World) : Prop := ∃ m, w' = w.drewN m
theorem Drawn.refl (w : World) : Drawn w w := ⟨0, rfl⟩
theorem Drawn.more {w w' : World} (h : Drawn w w') (n : Nat) : Drawn w (w'.drewN n) := by
  obtain ⟨m, rfl⟩ := h; exact ⟨m + n, by rw [World.drewN_drewN]⟩
theorem Drawn.below {w w' : World} (d : Drawn w w') (B : Nat) : Below B w w' := by
  obtain ⟨m, rfl⟩ := d; exact ⟨rfl, rfl, rfl, Nat.le_refl _, fun _ _ => rfl⟩
theorem Drawn.cell {w w' : World} (d : Drawn w w') (a : Addr) : w'.cell? a = w.cell? a := by obtain ⟨m, rfl⟩ := d; rfl
def cornersL (X Y : List Nat) : List (Int → Int) := List.zipWith prodC X Y
/-- what the loop over the corners has found behind i of them -/
def MulAt (cs : List (Int → Int)) (i lo hi : Nat) : Prop := 0 < i → DnAll (cs.take i) lo ∧ UpAll (cs.take i) hi
theorem corners_succ {X Y : List Nat} {i : Nat} (hX : i < X.length) (hY : i < Y.length) : (cornersL X Y).take (i + 1) = (cornersL X Y).take i ++ [prodC (X.getD i 0) (Y.getD i 0)] := by
  have h : i < (cornersL X Y).length := by unfold cornersL; simp; omega
  rw [List.take_add_one, List.getElem?_eq_getElem h]
  unfold cornersL
  simp [List.getD, hX, hY]
  exact List.getElem_zipWith
theorem MulAt.one {X Y : List Nat} {d u : Nat} (hX : 0 < X.length) (hY : 0 < Y.length) (hd : Dn (prodC (X.getD 0 0) (Y.getD 0 0)) d) (hu : Up (prodC (X.getD 0 0) (Y.getD 0 0)) u) : MulAt (cornersL X Y) (0 + 1) d u := by
  intro _
  rw [corners_succ hX hY]
  exact ⟨hd.all, hu.all⟩
end Go.Proofs.Ytnmadknpkhaolaa

namespace Go.Proofs.Ytnmadknpkhaolaa
open Go.ChangeShapes Go.WideShapes Go.ChangeAt Go.RowKit Ieee.Own

end Go.Proofs.Ytnmadknpkhaolaa

namespace Go.Proofs.Ytnmadknpkhaolaa
open Go.ChangeShapes Go.WideShapes Go.ChangeAt Go.RowKit Ieee.Own

/-- does all of the one span lie in the other? -/
def insB (a b c d : Nat) : Bool := decide (errSS a b c d = 0 ∧ V c ≤ V a ∧ V b ≤ V d)
end Go.Proofs.Ytnmadknpkhaolaa
