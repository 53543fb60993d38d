/- Proved here: what the texts Fre, Frf, Frg, Fri, Frj prove, one behind the other. -/
import Derived.Test.YtgnofnjbmiepjaaJy3
import Derived.Test.YtgnofnjbmiepjaaJv4
import Derived.Test.YtgnofnjbmiepjaaJv2

namespace Go.Proofs.Ytgnofnjbmiepjaa
open Go.ChangeShapes Go.WideShapes Go.ChangeAt Go.RowKit Ieee.Own

/-- the frames from i up to the one that lies in the root -/
def wayF (L : List Fr) : Nat → Int → List Nat
  | 0, _ => []
  | n + 1, i => if i < 0 then [] else i.toNat :: wayF L n (frAt L i.toNat).up
def way (L : List Fr) (i : Int) : List Nat := wayF L 17 i
/-- frames that may be -/
structure FsOk (L : List Fr) : Prop where
  len : L.length ≤ 16
  w : FsW L
  ok : ∀ j, j < L.length → FrOk (frAt L j) j
theorem FsOk.fw {L : List Fr} (h : FsOk L) {j : Nat} (hj : j < L.length) : FrW (frAt L j) := h.w _ (fr_mem hj)
theorem wayF_eq {L : List Fr} (h : FsOk L) : ∀ (n m : Nat) (i : Int), i < (L.length : Int) → i + 1 ≤ n → i + 1 ≤ m → wayF L n i = wayF L m i
  | 0, 0, _, _, _, _ => rfl
  | 0, m + 1, i, _, h1, _ => by
    have : i < 0 := by omega
    unfold wayF; rw [if_pos this]
  | n + 1, 0, i, _, _, h2 => by
    have : i < 0 := by omega
    unfold wayF; rw [if_pos this]
  | n + 1, m + 1, i, hl, h1, h2 => by
    unfold wayF
    by_cases e : i < 0
    · rw [if_pos e, if_pos e]
    · rw [if_neg e, if_neg e]
      have k := (h.ok i.toNat (by omega)).up1
      rw [wayF_eq h n m _ (by omega) (by omega) (by omega)]
theorem way_root (L : List Fr) : way L (-1) = [] := rfl
theorem way_step {L : List Fr} (h : FsOk L) {j : Nat} (hj : j < L.length) : way L (j : Int) = j :: way L (frAt L j).up := by
  have hl := h.len
  have k := (h.ok j hj).up1
  show wayF L 17 (j : Int) = j :: wayF L 17 (frAt L j).up
  rw [show wayF L 17 (j : Int) = if (j : Int) < 0 then [] else (j : Int).toNat :: wayF L 16 (frAt L (j : Int).toNat).up from rfl]
  rw [if_neg (by omega)]
  have e : (j : Int).toNat = j := by omega
  rw [e, wayF_eq h 16 17 _ (by omega) (by omega) (by omega)]
noncomputable def rootF (L : List Fr) (d : Nat) : List Nat → V3 → V3 × Int
  | [], v => (v, 0)
  | j :: js, v => if (upR (frAt L j) d v).2 = 0 then rootF L d js (upR (frAt L j) d v).1 else upR (frAt L j) d v
/-- where a walk up stands: what is left -/
def RootAt (L : List Fr) (d : Nat) (A : V3 × Int) (i : Int) (p : V3) (k : Int) : Prop := (k = 0 → rootF L d (way L i) p = A) ∧ (k ≠ 0 → (p, k) = A)
theorem RootAt.fin {L : List Fr} {d : Nat} {A : V3 × Int} {i : Int} {p : V3} {k : Int} (h : RootAt L d A i p k) (e : k = 0 → i = -1) : (p, k) = A := by
  by_cases hk : k = 0
  · subst hk
    have := h.1 rfl
    rw [e rfl, way_root] at this
    exact this
  · exact h.2 hk
theorem RootAt.next {L : List Fr} {d : Nat} {A : V3 × Int} {j : Nat} {p q : V3} {k : Int} (hL : FsOk L) (hj : j < L.length) (h : RootAt L d A j p 0) (e : upR (frAt L j) d p = (q, k)) : RootAt L d A (frAt L j).up q k := by
  have h := h.1 rfl
  rw [way_step hL hj] at h
  unfold rootF at h
  rw [e] at h
  refine ⟨fun hk => ?_, fun hk => ?_⟩
  · subst hk
    rw [if_pos rfl] at h
    exact h
  · rw [if_neg hk] at h
    exact h
end Go.Proofs.Ytgnofnjbmiepjaa

namespace Go.Proofs.Ytgnofnjbmiepjaa
open Go.ChangeShapes Go.WideShapes Go.ChangeAt Go.RowKit Ieee.Own

/-- a list of ints as records of one cell -/
def inR (M : List Int) : List (List Value) := M.map fun x => [.int .i64 x]
theorem inR_len (M : List Int) : (inR M).length = M.length := by simp [inR]
def OwnN (base : Nat) (w : World) (M : List Int) (v : Value) (w' : World) : Prop := OwnR 3 1 base w (inR M) v w'
end Go.Proofs.Ytgnofnjbmiepjaa

namespace Go.Proofs.Ytgnofnjbmiepjaa
open Go.ChangeShapes Go.WideShapes Go.ChangeAt Go.RowKit Ieee.Own

noncomputable def intoF (L : List Fr) (d : Nat) : List Nat → V3 → V3 × Int
  | [], v => (v, 0)
  | j :: js, v => if (intoF L d js v).2 = 0 then downR (frAt L j) d (intoF L d js v).1 else intoF L d js v
theorem intoF_err {L : List Fr} {d : Nat} {v : V3} : ∀ (js : List Nat) (a : Nat), (intoF L d (js.drop a) v).2 ≠ 0 → intoF L d js v = intoF L d (js.drop a) v
  | js, 0, _ => rfl
  | [], a + 1, _ => by simp
  | j :: js, a + 1, h => by
    have h' : (intoF L d (js.drop a) v).2 ≠ 0 := h
    have := intoF_err js a h'
    show (if (intoF L d js v).2 = 0 then downR (frAt L j) d (intoF L d js v).1 else intoF L d js v) = intoF L d (js.drop a) v
    rw [this, if_neg h']
/-- where a walk down stands: k frames are done -/
def IntoAt (L : List Fr) (d : Nat) (js : List Nat) (v : V3) (k : Nat) (p : V3) (e : Int) : Prop := (e = 0 → intoF L d (js.drop (js.length - k)) v = (p, 0)) ∧ (e ≠ 0 → intoF L d js v = (p, e))
theorem IntoAt.fin {L : List Fr} {d : Nat} {js : List Nat} {v : V3} {k : Nat} {p : V3} {e : Int} (h : IntoAt L d js v k p e) (hk : e = 0 → k = js.length) : intoF L d js v = (p, e) := by
  by_cases he : e = 0
  · subst he
    have := h.1 rfl
    rw [hk rfl, Nat.sub_self] at this
    exact this
  · exact h.2 he
theorem IntoAt.next {L : List Fr} {d : Nat} {js : List Nat} {v : V3} {k x : Nat} {p q : V3} {e : Int} (h : IntoAt L d js v k p 0) (hx : x + k + 1 = js.length) (hd : downR (frAt L (js.getD x 0)) d p = (q, e)) : IntoAt L d js v (k + 1) q e := by
  have h1 := h.1 rfl
  have ex : js.length - k = x + 1 := by omega
  have ex2 : js.length - (k + 1) = x := by omega
  rw [ex] at h1
  have hc : js.drop x = js.getD x 0 :: js.drop (x + 1) := by
    have hl : x < js.length := by omega
    have e1 : js.getD x 0 = js[x] := by simp [List.getD, hl]
    rw [e1]
    exact List.drop_eq_getElem_cons hl
  have hi : intoF L d (js.drop x) v = (q, e) := by
    rw [hc]
    show (if (intoF L d (js.drop (x + 1)) v).2 = 0 then downR (frAt L (js.getD x 0)) d (intoF L d (js.drop (x + 1)) v).1 else intoF L d (js.drop (x + 1)) v) = _
    rw [h1, if_pos rfl]
    exact hd
  refine ⟨fun he => ?_, fun he => ?_⟩
  · rw [ex2, hi, he]
  · rw [intoF_err js x (by rw [hi]; exact he), hi]
theorem OwnN.block {base : Nat} {w w' : World} {M : List Int} {v : Value} (h : OwnN base w M v w') (h0 : 0 < M.length) : ∃ g cap, v = .slice (some ⟨g, 0, none⟩) M.length cap ∧ base ≤ g ∧ M.length ≤ cap ∧ cap ≤ maxLen ∧ BV w' g (M.map fun x => .int .i64 x) := by
  obtain ⟨ao, cap, h1, h2, h3, h4, -, h5⟩ := ownsR_at h.ok h.own
  rw [inR_len] at h1 h2 h5
  have c : ∀ j, j < M.length → ∃ b o, ao = some ⟨b, o, none⟩ ∧ b < w'.heap.size ∧ w'.cell? ⟨b, o + j, none⟩ = some (.int .i64 (M.getD j 0)) := fun j hj => by
    obtain ⟨b, o, e, hb, hc⟩ := h4 j [.int .i64 (M.getD j 0)] (by simp [inR, List.getD, hj])
    have := hc 0 _ rfl
    rw [Nat.mul_one, Nat.add_zero] at this
    exact ⟨b, o, e, hb, this⟩
  obtain ⟨b, o, rfl, hb, -⟩ := c 0 h0
  obtain ⟨rfl, hg, hf⟩ := h5 b o rfl
  refine ⟨b, cap, h1, hg, h2, h3, hb, fun i u hu => ?_, fun i u hu => ?_⟩
  · have hi : i < M.length := by simpa using (List.getElem?_eq_some_iff.1 hu).1
    obtain ⟨b', o', e, -, hc⟩ := c i hi
    simp only [Option.some.injEq, Addr.mk.injEq, and_true] at e
    obtain ⟨rfl, rfl⟩ := e
    rw [Nat.zero_add] at hc
    rw [hc]
    have : (M.map fun x => Value.int .i64 x)[i]? = some (.int .i64 (M.getD i 0)) := by simp [List.getD, hi]
    rw [← this]; exact hu
  · have hi : i < M.length := by simpa using (List.getElem?_eq_some_iff.1 hu).1
    exact hf i (by omega)
end Go.Proofs.Ytgnofnjbmiepjaa

namespace Go.Proofs.Ytgnofnjbmiepjaa
open Go.ChangeShapes Go.WideShapes Go.ChangeAt Go.RowKit Go.Deep Ieee.Own

theorem wf64 {b : Nat} (h : (Lit.float .f64 b).wf = true) : b < 18446744073709551616 := by
  simp only [Lit.wf, decide_eq_true_eq] at h; exact h

set_option maxRecDepth 100000 in
theorem feq_gen {P : Program} {t : TypeId} {k' : FloatKind} (d : Nat) (a b : Nat) (w : World) (h : P.underlying t = some (.float k')) : (Op.equalIn (d + 1) t (.float .f64 a) (.float .f64 b)).run P w = .ok (FloatKind.f64.format.order a b == some Ordering.eq) w := by
  simp [Op.equalIn, run_underlying h]
  rfl
set_option maxRecDepth 100000 in
theorem feq_run (a b : Nat) (w : World) : (Op.equalIn 9999 23 (.float .f64 a) (.float .f64 b)).run Try.prog w = .ok (FloatKind.f64.format.order a b == some Ordering.eq) w := feq_gen 9998 a b w Try.underlying23
/-! ### awake -/
end Go.Proofs.Ytgnofnjbmiepjaa

namespace Go.Proofs.Ytgnofnjbmiepjaa
open Go.ChangeShapes Go.WideShapes Go.ChangeAt Go.RowKit Go.Deep Ieee.Own

/-! ### rates made 0 -/
def zr (f : Fr) : Fr := ⟨f.up, f.ax, f.ph, 0, f.o1, f.o2, f.o3⟩
end Go.Proofs.Ytgnofnjbmiepjaa
