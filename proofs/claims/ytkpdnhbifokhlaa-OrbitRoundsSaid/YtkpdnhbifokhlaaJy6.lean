/- Proved here: what the texts Fre, Frf, Frg, Fri, Frj prove, one behind the other. -/
import Derived.Test.YtkpdnhbifokhlaaJy3
import Derived.Test.YtkpdnhbifokhlaaJv4
import Derived.Test.YtkpdnhbifokhlaaJv2

namespace Go.Proofs.Ytkpdnhbifokhlaa
open Go.ChangeShapes Go.WideShapes Go.ChangeAt Go.RowKit Ieee.Own

/-- the frames from i up to the one that lies in the root -/
def wayF (L : List Fr) : Nat → Int → List Nat
  | 0, _ => []
  | n + 1, i => if i < 0 then [] else i.toNat :: wayF L n (frAt L i.toNat).up
def way (L : List Fr) (i : Int) : List Nat := wayF L 17 i
/-- frames that may be -/
structure FsOk (L : List Fr) : Prop where
  len : L.length ≤ 16
  w : FsW L
  ok : ∀ j, j < L.length → FrOk (frAt L j) j
theorem FsOk.fw {L : List Fr} (h : FsOk L) {j : Nat} (hj : j < L.length) : FrW (frAt L j) := h.w _ (fr_mem hj)
theorem way_root (L : List Fr) : way L (-1) = [] := rfl
noncomputable def rootF (L : List Fr) (d : Nat) : List Nat → V3 → V3 × Int
  | [], v => (v, 0)
  | j :: js, v => if (upR (frAt L j) d v).2 = 0 then rootF L d js (upR (frAt L j) d v).1 else upR (frAt L j) d v
/-- where a walk up stands: what is left -/
def RootAt (L : List Fr) (d : Nat) (A : V3 × Int) (i : Int) (p : V3) (k : Int) : Prop := (k = 0 → rootF L d (way L i) p = A) ∧ (k ≠ 0 → (p, k) = A)
theorem RootAt.fin {L : List Fr} {d : Nat} {A : V3 × Int} {i : Int} {p : V3} {k : Int} (h : RootAt L d A i p k) (e : k = 0 → i = -1) : (p, k) = A := by
  by_cases hk : k = 0
  · subst hk
    have := h.1 rfl
    rw [e rfl, way_root] at this
    exact this
  · exact h.2 hk
theorem ret_vF {A : V3 × Int} {p1 p2 p3 : Nat} {k : Int} (h : ((p1, p2, p3), k) = A) : Ending.returned (.tuple #[.agg #[.float .f64 p1, .float .f64 p2, .float .f64 p3], .int .i64 k]) = .returned (vecE A.1 A.2) := by rw [← h]; rfl
end Go.Proofs.Ytkpdnhbifokhlaa

namespace Go.Proofs.Ytkpdnhbifokhlaa
open Go.ChangeShapes Go.WideShapes Go.ChangeAt Go.RowKit Ieee.Own

/-- a list of ints as records of one cell -/
def inR (M : List Int) : List (List Value) := M.map fun x => [.int .i64 x]
theorem inR_len (M : List Int) : (inR M).length = M.length := by simp [inR]
def OwnN (base : Nat) (w : World) (M : List Int) (v : Value) (w' : World) : Prop := OwnR 3 1 base w (inR M) v w'
end Go.Proofs.Ytkpdnhbifokhlaa

namespace Go.Proofs.Ytkpdnhbifokhlaa
open Go.ChangeShapes Go.WideShapes Go.ChangeAt Go.RowKit Ieee.Own

noncomputable def intoF (L : List Fr) (d : Nat) : List Nat → V3 → V3 × Int
  | [], v => (v, 0)
  | j :: js, v => if (intoF L d js v).2 = 0 then downR (frAt L j) d (intoF L d js v).1 else intoF L d js v
/-- where a walk down stands: k frames are done -/
def IntoAt (L : List Fr) (d : Nat) (js : List Nat) (v : V3) (k : Nat) (p : V3) (e : Int) : Prop := (e = 0 → intoF L d (js.drop (js.length - k)) v = (p, 0)) ∧ (e ≠ 0 → intoF L d js v = (p, e))
theorem IntoAt.fin {L : List Fr} {d : Nat} {js : List Nat} {v : V3} {k : Nat} {p : V3} {e : Int} (h : IntoAt L d js v k p e) (hk : e = 0 → k = js.length) : intoF L d js v = (p, e) := by
  by_cases he : e = 0
  · subst he
    have := h.1 rfl
    rw [hk rfl, Nat.sub_self] at this
    exact this
  · exact h.2 he
theorem OwnN.block {base : Nat} {w w' : World} {M : List Int} {v : Value} (h : OwnN base w M v w') (h0 : 0 < M.length) : ∃ g cap, v = .slice (some ⟨g, 0, none⟩) M.length cap ∧ base ≤ g ∧ M.length ≤ cap ∧ cap ≤ maxLen ∧ BV w' g (M.map fun x => .int .i64 x) := by
  obtain ⟨ao, cap, h1, h2, h3, h4, -, h5⟩ := ownsR_at h.ok h.own
  rw [inR_len] at h1 h2 h5
  have c : ∀ j, j < M.length → ∃ b o, ao = some ⟨b, o, none⟩ ∧ b < w'.heap.size ∧ w'.cell? ⟨b, o + j, none⟩ = some (.int .i64 (M.getD j 0)) := fun j hj => by
    obtain ⟨b, o, e, hb, hc⟩ := h4 j [.int .i64 (M.getD j 0)] (by simp [inR, List.getD, hj])
    have := hc 0 _ rfl
    rw [Nat.mul_one, Nat.add_zero] at this
    exact ⟨b, o, e, hb, this⟩
  obtain ⟨b, o, rfl, hb, -⟩ := c 0 h0
  obtain ⟨rfl, hg, hf⟩ := h5 b o rfl
  refine ⟨b, cap, h1, hg, h2, h3, hb, fun i u hu => ?_, fun i u hu => ?_⟩
  · have hi : i < M.length := by simpa using (List.getElem?_eq_some_iff.1 hu).1
    obtain ⟨b', o', e, -, hc⟩ := c i hi
    simp only [Option.some.injEq, Addr.mk.injEq, and_true] at e
    obtain ⟨rfl, rfl⟩ := e
    rw [Nat.zero_add] at hc
    rw [hc]
    have : (M.map fun x => Value.int .i64 x)[i]? = some (.int .i64 (M.getD i 0)) := by simp [List.getD, hi]
    rw [← this]; exact hu
  · have hi : i < M.length := by simpa using (List.getElem?_eq_some_iff.1 hu).1
    exact hf i (by omega)
end Go.Proofs.Ytkpdnhbifokhlaa

namespace Go.Proofs.Ytkpdnhbifokhlaa
open Go.ChangeShapes Go.WideShapes Go.ChangeAt Go.RowKit Go.Deep Ieee.Own

/-! ### awake -/
end Go.Proofs.Ytkpdnhbifokhlaa

namespace Go.Proofs.Ytkpdnhbifokhlaa
open Go.ChangeShapes Go.WideShapes Go.ChangeAt Go.RowKit Go.Deep Ieee.Own

/-! ### rates made 0 -/
/-- a store into another block -/
theorem Kv.far {w0 w : World} {L : List (Option (Nat × List Value))} (C : Kv w0 L w) {g : Nat} (hg : w0.heap.size ≤ g) (hne : ∀ (j h : Nat) (us : List Value), L[j]? = some (some (h, us)) → h ≠ g) (k : Nat) (v : Value) : Kv w0 L (w.setCell ⟨g, k, none⟩ v) :=
  ⟨C.old.setCell hg _, fun j h us hj => ⟨(C.blk j h us hj).1, (C.at_ j hj).other1 (hne j h us hj) v⟩, C.inj⟩
set_option maxHeartbeats 4000000 in
set_option maxRecDepth 100000 in
theorem rwit_run (x : Nat) (hx : x < 18446744073709551616) (w : World) :
    Calls Try.prog 63 #[.float .f64 x, .float .f64 4715268809856909312] w fun e w' => e = .returned (.bool (witB g24 x)) ∧ w = w' := by
  have CF := fun w => rfit_any x hx w
  have g1 := o_leq x 4715268809856909312 hx (by omega)
  have g2 := o_geq x 13938640846711685120 hx (by omega)
  have hneg : ∀ w, (Op.unary .neg (.float .f64 4715268809856909312)).run Try.prog w = .ok (.float .f64 13938640846711685120) w := fun w => rfl
  by_cases h1 : fitB x = true
  · have fn := fit_fin hx h1
    have m := fn.2
    rw [h1] at CF
    have n1 : nn x := fin_nn fn
    have n2 : nn 4715268809856909312 := by unfold nn; omega
    have n3 : nn 13938640846711685120 := by unfold nn; omega
    have k2 : key64 4715268809856909312 = 4715268809856909312 := by decide
    have k3 : key64 13938640846711685120 = -4715268809856909312 := by decide
    rw [k2] at g1
    rw [k3] at g2
    have kx : key64 x = if x < 9223372036854775808 then (x : Int) else 9223372036854775808 - (x : Int) := rfl
    by_cases c1 : key64 x ≤ 4715268809856909312
    · rw [decide_eq_true ⟨n1, n2, c1⟩] at g1
      by_cases c2 : -4715268809856909312 ≤ key64 x
      · have e : witB g24 x = true := by unfold witB g24; rw [decide_eq_true_eq]; exact ⟨h1, by split at kx <;> omega⟩
        rw [e]
        rw [decide_eq_true ⟨n1, n3, c2⟩] at g2
        clear hx h1 fn m e n1 n2 n3 k2 k3 kx c1 c2
        go_enter Try.func63, Try.ntmps63
        go_wp2_with (go_at_call 61; ((with_reducible refine (CF _).mono ?_); rintro e w' ⟨rfl, rfl⟩))
        go_ret
        exact ⟨rfl, rfl⟩
      · have e : witB g24 x = false := by unfold witB g24; rw [decide_eq_false_iff_not]; exact fun h => by have := h.2; split at kx <;> omega
        rw [e]
        rw [decide_eq_false (fun h => c2 h.2.2)] at g2
        clear hx h1 fn m e n1 n2 n3 k2 k3 kx c1 c2
        go_enter Try.func63, Try.ntmps63
        go_wp2_with (go_at_call 61; ((with_reducible refine (CF _).mono ?_); rintro e w' ⟨rfl, rfl⟩))
        go_ret
        exact ⟨rfl, rfl⟩
    · have e : witB g24 x = false := by unfold witB g24; rw [decide_eq_false_iff_not]; exact fun h => by have := h.2; split at kx <;> omega
      rw [e]
      rw [decide_eq_false (fun h => c1 h.2.2)] at g1
      clear hx h1 fn m e n1 n2 n3 k2 k3 kx c1 g2
      go_enter Try.func63, Try.ntmps63
      go_wp2_with (go_at_call 61; ((with_reducible refine (CF _).mono ?_); rintro e w' ⟨rfl, rfl⟩))
      go_ret
      exact ⟨rfl, rfl⟩
  · have e : witB g24 x = false := by unfold witB; rw [decide_eq_false_iff_not]; exact fun h => h1 h.1
    rw [Bool.not_eq_true] at h1
    rw [h1] at CF
    rw [e]
    clear hx h1 e g1 g2
    go_enter Try.func63, Try.ntmps63
    go_wp2_with (go_at_call 61; ((with_reducible refine (CF _).mono ?_); rintro e w' ⟨rfl, rfl⟩))
    go_ret
    exact ⟨rfl, rfl⟩
set_option maxHeartbeats 4000000 in
set_option maxRecDepth 100000 in
theorem rtime_run (x : Nat) (hx : x < 18446744073709551616) (w : World) :
    Calls Try.prog 36 #[.float .f64 x] w fun e w' => e = .returned (.bool (witB g24 x)) ∧ w = w' := by
  have C := fun w => rwit_run x hx w
  generalize witB g24 x = b at *
  clear hx
  go_enter Try.func36, Try.ntmps36
  go_wp2_with (go_at_call 63; ((with_reducible refine (C _).mono ?_); rintro e w' ⟨rfl, rfl⟩))
  go_ret
  exact ⟨rfl, rfl⟩
end Go.Proofs.Ytkpdnhbifokhlaa
