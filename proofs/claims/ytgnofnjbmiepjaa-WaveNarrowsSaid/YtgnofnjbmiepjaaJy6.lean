/- Proved here: what the texts Fre, Frf, Frg, Fri, Frj prove, one behind the other. -/
import Derived.Test.YtgnofnjbmiepjaaJy3
import Derived.Test.YtgnofnjbmiepjaaJv4
import Derived.Test.YtgnofnjbmiepjaaJv2

namespace Go.Proofs.Ytgnofnjbmiepjaa
open Go.ChangeShapes Go.WideShapes Go.ChangeAt Go.RowKit Ieee.Own

/-- the frames from i up to the one that lies in the root -/
def wayF (L : List Fr) : Nat → Int → List Nat
  | 0, _ => []
  | n + 1, i => if i < 0 then [] else i.toNat :: wayF L n (frAt L i.toNat).up
def way (L : List Fr) (i : Int) : List Nat := wayF L 17 i
/-- frames that may be -/
structure FsOk (L : List Fr) : Prop where
  len : L.length ≤ 16
  w : FsW L
  ok : ∀ j, j < L.length → FrOk (frAt L j) j
theorem FsOk.of {L : List Fr} (w : FsW L) (h : chkF L = 0) : FsOk L := ⟨(chkF_zero h).1, w, fun j hj => may_of ((chkF_zero h).2 j hj)⟩
theorem FsOk.fw {L : List Fr} (h : FsOk L) {j : Nat} (hj : j < L.length) : FrW (frAt L j) := h.w _ (fr_mem hj)
theorem way_root (L : List Fr) : way L (-1) = [] := rfl
noncomputable def rootF (L : List Fr) (d : Nat) : List Nat → V3 → V3 × Int
  | [], v => (v, 0)
  | j :: js, v => if (upR (frAt L j) d v).2 = 0 then rootF L d js (upR (frAt L j) d v).1 else upR (frAt L j) d v
/-- where a walk up stands: what is left -/
def RootAt (L : List Fr) (d : Nat) (A : V3 × Int) (i : Int) (p : V3) (k : Int) : Prop := (k = 0 → rootF L d (way L i) p = A) ∧ (k ≠ 0 → (p, k) = A)
theorem RootAt.fin {L : List Fr} {d : Nat} {A : V3 × Int} {i : Int} {p : V3} {k : Int} (h : RootAt L d A i p k) (e : k = 0 → i = -1) : (p, k) = A := by
  by_cases hk : k = 0
  · subst hk
    have := h.1 rfl
    rw [e rfl, way_root] at this
    exact this
  · exact h.2 hk
end Go.Proofs.Ytgnofnjbmiepjaa

namespace Go.Proofs.Ytgnofnjbmiepjaa
open Go.ChangeShapes Go.WideShapes Go.ChangeAt Go.RowKit Ieee.Own

/-- a list of ints as records of one cell -/
def inR (M : List Int) : List (List Value) := M.map fun x => [.int .i64 x]
theorem inR_len (M : List Int) : (inR M).length = M.length := by simp [inR]
def OwnN (base : Nat) (w : World) (M : List Int) (v : Value) (w' : World) : Prop := OwnR 3 1 base w (inR M) v w'
end Go.Proofs.Ytgnofnjbmiepjaa

namespace Go.Proofs.Ytgnofnjbmiepjaa
open Go.ChangeShapes Go.WideShapes Go.ChangeAt Go.RowKit Ieee.Own

noncomputable def intoF (L : List Fr) (d : Nat) : List Nat → V3 → V3 × Int
  | [], v => (v, 0)
  | j :: js, v => if (intoF L d js v).2 = 0 then downR (frAt L j) d (intoF L d js v).1 else intoF L d js v
/-- where a walk down stands: k frames are done -/
def IntoAt (L : List Fr) (d : Nat) (js : List Nat) (v : V3) (k : Nat) (p : V3) (e : Int) : Prop := (e = 0 → intoF L d (js.drop (js.length - k)) v = (p, 0)) ∧ (e ≠ 0 → intoF L d js v = (p, e))
theorem IntoAt.fin {L : List Fr} {d : Nat} {js : List Nat} {v : V3} {k : Nat} {p : V3} {e : Int} (h : IntoAt L d js v k p e) (hk : e = 0 → k = js.length) : intoF L d js v = (p, e) := by
  by_cases he : e = 0
  · subst he
    have := h.1 rfl
    rw [hk rfl, Nat.sub_self] at this
    exact this
  · exact h.2 he
theorem OwnN.block {base : Nat} {w w' : World} {M : List Int} {v : Value} (h : OwnN base w M v w') (h0 : 0 < M.length) : ∃ g cap, v = .slice (some ⟨g, 0, none⟩) M.length cap ∧ base ≤ g ∧ M.length ≤ cap ∧ cap ≤ maxLen ∧ BV w' g (M.map fun x => .int .i64 x) := by
  obtain ⟨ao, cap, h1, h2, h3, h4, -, h5⟩ := ownsR_at h.ok h.own
  rw [inR_len] at h1 h2 h5
  have c : ∀ j, j < M.length → ∃ b o, ao = some ⟨b, o, none⟩ ∧ b < w'.heap.size ∧ w'.cell? ⟨b, o + j, none⟩ = some (.int .i64 (M.getD j 0)) := fun j hj => by
    obtain ⟨b, o, e, hb, hc⟩ := h4 j [.int .i64 (M.getD j 0)] (by simp [inR, List.getD, hj])
    have := hc 0 _ rfl
    rw [Nat.mul_one, Nat.add_zero] at this
    exact ⟨b, o, e, hb, this⟩
  obtain ⟨b, o, rfl, hb, -⟩ := c 0 h0
  obtain ⟨rfl, hg, hf⟩ := h5 b o rfl
  refine ⟨b, cap, h1, hg, h2, h3, hb, fun i u hu => ?_, fun i u hu => ?_⟩
  · have hi : i < M.length := by simpa using (List.getElem?_eq_some_iff.1 hu).1
    obtain ⟨b', o', e, -, hc⟩ := c i hi
    simp only [Option.some.injEq, Addr.mk.injEq, and_true] at e
    obtain ⟨rfl, rfl⟩ := e
    rw [Nat.zero_add] at hc
    rw [hc]
    have : (M.map fun x => Value.int .i64 x)[i]? = some (.int .i64 (M.getD i 0)) := by simp [List.getD, hi]
    rw [← this]; exact hu
  · have hi : i < M.length := by simpa using (List.getElem?_eq_some_iff.1 hu).1
    exact hf i (by omega)
end Go.Proofs.Ytgnofnjbmiepjaa

namespace Go.Proofs.Ytgnofnjbmiepjaa
open Go.ChangeShapes Go.WideShapes Go.ChangeAt Go.RowKit Go.Deep Ieee.Own

theorem wf64 {b : Nat} (h : (Lit.float .f64 b).wf = true) : b < 18446744073709551616 := by
  simp only [Lit.wf, decide_eq_true_eq] at h; exact h

set_option maxRecDepth 100000 in
theorem feq_gen {P : Program} {t : TypeId} {k' : FloatKind} (d : Nat) (a b : Nat) (w : World) (h : P.underlying t = some (.float k')) : (Op.equalIn (d + 1) t (.float .f64 a) (.float .f64 b)).run P w = .ok (FloatKind.f64.format.order a b == some Ordering.eq) w := by
  simp [Op.equalIn, run_underlying h]
  rfl
set_option maxRecDepth 100000 in
theorem feq_run (a b : Nat) (w : World) : (Op.equalIn 9999 23 (.float .f64 a) (.float .f64 b)).run Try.prog w = .ok (FloatKind.f64.format.order a b == some Ordering.eq) w := feq_gen 9998 a b w Try.underlying23
/-! ### awake -/
end Go.Proofs.Ytgnofnjbmiepjaa

namespace Go.Proofs.Ytgnofnjbmiepjaa
open Go.ChangeShapes Go.WideShapes Go.ChangeAt Go.RowKit Go.Deep Ieee.Own

/-! ### rates made 0 -/
/-- a store into another block -/
theorem Kv.far {w0 w : World} {L : List (Option (Nat × List Value))} (C : Kv w0 L w) {g : Nat} (hg : w0.heap.size ≤ g) (hne : ∀ (j h : Nat) (us : List Value), L[j]? = some (some (h, us)) → h ≠ g) (k : Nat) (v : Value) : Kv w0 L (w.setCell ⟨g, k, none⟩ v) :=
  ⟨C.old.setCell hg _, fun j h us hj => ⟨(C.blk j h us hj).1, (C.at_ j hj).other1 (hne j h us hj) v⟩, C.inj⟩
end Go.Proofs.Ytgnofnjbmiepjaa
