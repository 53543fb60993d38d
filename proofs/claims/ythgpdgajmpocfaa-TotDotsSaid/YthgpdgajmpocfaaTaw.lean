/- Proved here: the fixed fact of layer 3's laws; two answers are held against each other; a slice of numbers that came in, opened. -/
import Derived.Test.YthgpdgajmpocfaaTpr
import Derived.SizedLaws
import Derived.ProofKit
import Derived.OpenShut
import Derived.Deep.Slices
import Derived.Carry
namespace Go.Proofs.Ythgpdgajmpocfaa
open Go.ChangeShapes Go.WideShapes Go.ChangeAt Go.RowKit Ieee.Own

theorem agree_true (a : Nat) (c : Int) (w : World) :
    Calls Try.prog 14 #[.float .f64 a, .int .i64 c, .float .f64 a, .int .i64 c] w fun e w' => e = .returned (.bool true) ∧ w = w' := by
  go_enter Try.func14, Try.ntmps14
  go_wp2_with (go_at_call 32; ((with_reducible refine (same_self _ _).mono ?_); rintro e w' ⟨rfl, rfl⟩))
  go_ret
  exact ⟨rfl, rfl⟩

/-! ### the fixed fact -/
def awL : List Nat := [4877398396442247168, 4607182418800017408, 14100770433297022976, 4607182418800017408]
theorem awWords : Words awL := by intro x hx; simp [awL] at hx; omega
theorem awErr : errL awL = 0 := by decide +kernel
theorem awLeft : leftS awL = 4607182418800017408 := by decide +kernel
theorem awExact : Near (vs awL).sum 4611686018427387904 := by
  refine ⟨⟨by omega, by omega⟩, by decide +kernel, fun h => absurd h (by decide +kernel)⟩
theorem awAt (w : World) : At (w.alloc (.cells #[.float .f64 4877398396442247168, .float .f64 4607182418800017408, .float .f64 14100770433297022976, .float .f64 4607182418800017408] 25)) (some ⟨w.heap.size, 0, none⟩) awL := by
  intro j hj
  refine ⟨w.heap.size, 0, rfl, ?_⟩
  rw [World.cell?_alloc_at _ _ _ _ rfl]
  have : j = 0 ∨ j = 1 ∨ j = 2 ∨ j = 3 := by simp [awL] at hj; omega
  rcases this with rfl | rfl | rfl | rfl <;> rfl

theorem awake_run (w : World) : Calls Try.prog 10 #[] w fun e w' => e = .returned (.bool true) ∧ Below w.heap.size w w' := by
  have hA := awAt w
  have C1 := left_run (some ⟨w.heap.size, 0, none⟩) 4 4 awL _ rfl (by omega) awWords hA
  have C2 := exact_run (some ⟨w.heap.size, 0, none⟩) 4 4 awL _ rfl (by omega) awWords hA
  unfold outS at C1
  rw [awErr] at C1 C2
  rw [if_pos rfl, awLeft] at C1
  have e1 : (FloatKind.f64.format.order 4607182418800017408 4607182418800017408 == some Ordering.eq) = true := by decide +kernel
  have e2 : (FloatKind.f64.format.order 4611686018427387904 4611686018427387904 == some Ordering.eq) = true := by decide +kernel
  have hE : Hid (∀ r, ExactIs awL r → r = 4611686018427387904) := fun r hr => (hr.1 awErr).uniq awExact
  have hB : Hid (∀ w', Below (w.heap.size + 1) (w.alloc (.cells #[.float .f64 4877398396442247168, .float .f64 4607182418800017408, .float .f64 14100770433297022976, .float .f64 4607182418800017408] 25)) w' → Below w.heap.size w w') :=
    fun w' h => ((Below.refl _ w).alloc (Nat.le_refl _) _).trans (h.mono (by omega))
  clear hA
  go_enter Try.func10, Try.ntmps10
  go_wp2_with (first | (go_at_call 12; ((with_reducible refine C1.mono ?_); rintro e w' ⟨rfl, rfl⟩; unfold fe)) | (go_at_call 22; ((with_reducible refine C2.mono ?_); rintro e w' ⟨⟨r, rfl, hr⟩, hb⟩; obtain rfl := hE.out r hr; unfold fe; replace hb := Lib.hid hb; clear hr)))
  go_ret
  refine ⟨rfl, hB.out _ ?_⟩
  have := hb.out
  simpa using this

/-! ### a slice of numbers that came in -/
theorem float_cell {H : Type} {enc : TypeId × Value → H} {P : Program} {w : World} {base : Nat} {spare : Nat → Bool} {held : Bool} {n : Nat} {e : TypeId} {v : Value} {x : DataW H × List MemPlace}
    (he : P.underlying e = some (.float .f64)) (h : DataW.trod enc P w base spare held n e [v] = some x) : ∃ b, v = .float .f64 b ∧ b < 18446744073709551616 := by
  cases n with
  | zero => simp [DataW.trod] at h
  | succ n =>
    simp only [DataW.trod, he] at h
    cases v with
    | float k b =>
      cases k with
      | f64 => exact ⟨b, rfl, by
          by_cases hw : (Lit.float .f64 b).wf = true
          · simpa only [Lit.wf, decide_eq_true_eq] using hw
          · simp [hw] at h⟩
      | f32 => simp at h
    | _ => simp at h

theorem open_flts {H : Type} {enc : TypeId × Value → H} {P : Program} {W : World} {t e : TypeId} {v : Value} {d : DataW H} {ps : List MemPlace}
    (ht : P.underlying t = some (.slice e)) (he : P.underlying e = some (.float .f64)) (hc : P.cellsOf e = 1) (hval : ∃ ao n c, v = .slice ao n c) (h : DataW.Trod enc P W 0 (fun _ => true) true t v d ps) :
    ∃ ao cap L, v = .slice ao (List.length L) cap ∧ L.length ≤ cap ∧ Words L ∧ At W ao L ∧ ((ao = none ∧ cap = 0) ∨ ((∃ a, ao = some a) ∧ ∃ es sp : List (DataW H), d = .slice es sp ∧ es.length + sp.length = cap)) := by
  obtain ⟨a0, n0, c0, rfl⟩ := hval
  obtain ⟨fuel, hf⟩ := h
  rcases Deep.open_slice1 ht hc hf with ⟨h1, h2⟩ | ⟨a, len, cap, m, n, V, D, Pl, h1, hb, hl, hm, hmm, hx, hcell⟩
  · simp [Value.cells] at h1
    obtain ⟨rfl, rfl, rfl⟩ := h1
    exact ⟨none, 0, [], rfl, Nat.le_refl _, by intro x hx; simp at hx, by intro j hj; simp at hj, Or.inl ⟨rfl, rfl⟩⟩
  · simp [Value.cells] at h1
    obtain ⟨rfl, rfl, rfl⟩ := h1
    simp only [if_true] at hmm
    subst hmm
    obtain ⟨F, hF⟩ := Deep.choose_lt (n := m) (p := fun i b => V i = .float .f64 b ∧ b < 18446744073709551616) (fun i hi => float_cell he (hcell i hi).2)
    refine ⟨some a, m, (List.range n0).map F, by simp, by simpa using hl, ?_, ?_, Or.inr ⟨⟨a, rfl⟩, (List.range n0).map D, (List.range (m - n0)).map fun j => D (n0 + j), by simpa using (congrArg Prod.fst hx), by simp; omega⟩⟩
    · intro x hx
      obtain ⟨i, hi, rfl⟩ := List.mem_map.1 hx
      exact (hF i (by simp at hi; omega)).2
    · intro j hj
      have hj' : j < n0 := by simpa using hj
      have hc := (hcell j (by omega)).1
      obtain ⟨b, o, s⟩ := a
      have hsp : s = none := by simpa [Addr.add] using World.cell?_spot (hcell 0 (by omega)).1
      subst hsp
      refine ⟨b, o, rfl, ?_⟩
      rw [← add_plain, hc, (hF j (by omega)).1]
      simp [List.getD, hj']
end Go.Proofs.Ythgpdgajmpocfaa
