/- Proved here: what operations on spans answer is one thing alone; ends outwards lie outwards. -/
import Derived.Test.YtkfagpahbojigaaSsq
namespace Go.Proofs.Ytkfagpahbojigaa
open Go.ChangeShapes Go.WideShapes Go.ChangeAt Go.RowKit Ieee.Own

theorem OpAll.uniq {er : Int} {cs ds : List (Int → Int)} {e e' : Ending} (h : OpAll er cs ds e) (k : OpAll er cs ds e') : e = e' := by
  by_cases h0 : er = 0
  · obtain ⟨a, b, rfl, h1, h2⟩ := h.1 h0
    obtain ⟨c, d, rfl, k1, k2⟩ := k.1 h0
    rw [toldE_congr h1.fin k1.fin h2.fin k2.fin (h1.uniq k1) (h2.uniq k2)]
  · rw [h.2 h0, k.2 h0]
theorem OpIs.all {er : Int} {c d : Int → Int} {e : Ending} (h : OpIs er c d e) : OpAll er [c] [d] e :=
  ⟨fun h0 => by obtain ⟨a, b, e, h1, h2⟩ := h.1 h0; exact ⟨a, b, e, h1.all, h2.all⟩, h.2⟩
theorem OpAll.span {er : Int} {cs ds : List (Int → Int)} {e : Ending} (h : OpAll er cs ds e) : ∃ x y k, e = .returned (spanE x y k) := by
  by_cases h0 : er = 0
  · obtain ⟨lo, hi, rfl, -, -⟩ := h.1 h0
    obtain ⟨x, y, k, hT⟩ := toldE_span lo hi
    exact ⟨x, y, k, by rw [hT]⟩
  · exact ⟨_, _, _, h.2 h0⟩

/-! ### outwards -/
theorem lowW_le (x : Nat) : V (lowW x) ≤ V x := by
  unfold lowW
  by_cases c1 : 0 ≤ V x ∧ V x < leastV
  · rw [if_pos c1, V_zero]; omega
  · rw [if_neg c1]
    by_cases c2 : V x < 0 ∧ -leastV < V x
    · rw [if_pos c2, nleast_V]; omega
    · rw [if_neg c2]; omega
theorem least_V : V 3706462493325918208 = leastV := rfl
theorem highW_ge (x : Nat) : V x ≤ V (highW x) := by
  unfold highW
  by_cases c1 : V x ≤ 0 ∧ -leastV < V x
  · rw [if_pos c1, V_zero]; omega
  · rw [if_neg c1]
    by_cases c2 : 0 < V x ∧ V x < leastV
    · rw [if_pos c2, least_V]; omega
    · rw [if_neg c2]; omega
/-- greater numbers, greater ends -/
theorem lowW_mono {x y : Nat} (h : V x ≤ V y) : V (lowW x) ≤ V (lowW y) := by
  have p := leastV_pos
  unfold lowW
  by_cases a1 : 0 ≤ V x ∧ V x < leastV <;> by_cases b1 : 0 ≤ V y ∧ V y < leastV
  · rw [if_pos a1, if_pos b1]; omega
  · rw [if_pos a1, if_neg b1, if_neg (by omega), V_zero]; omega
  · rw [if_neg a1, if_pos b1]
    by_cases a2 : V x < 0 ∧ -leastV < V x
    · rw [if_pos a2, nleast_V, V_zero]; omega
    · rw [if_neg a2, V_zero]; omega
  · rw [if_neg a1, if_neg b1]
    by_cases a2 : V x < 0 ∧ -leastV < V x <;> by_cases b2 : V y < 0 ∧ -leastV < V y
    · rw [if_pos a2, if_pos b2]; omega
    · rw [if_pos a2, if_neg b2, nleast_V]; omega
    · rw [if_neg a2, if_pos b2, nleast_V]; omega
    · rw [if_neg a2, if_neg b2]; omega
theorem highW_mono {x y : Nat} (h : V x ≤ V y) : V (highW x) ≤ V (highW y) := by
  have p := leastV_pos
  unfold highW
  by_cases a1 : V x ≤ 0 ∧ -leastV < V x <;> by_cases b1 : V y ≤ 0 ∧ -leastV < V y
  · rw [if_pos a1, if_pos b1]; omega
  · rw [if_pos a1, if_neg b1]
    by_cases b2 : 0 < V y ∧ V y < leastV
    · rw [if_pos b2, least_V, V_zero]; omega
    · rw [if_neg b2, V_zero]; omega
  · rw [if_neg a1, if_pos b1, if_neg (by omega), V_zero]; omega
  · rw [if_neg a1, if_neg b1]
    by_cases a2 : 0 < V x ∧ V x < leastV <;> by_cases b2 : 0 < V y ∧ V y < leastV
    · rw [if_pos a2, if_pos b2]; omega
    · rw [if_pos a2, if_neg b2, least_V]; omega
    · rw [if_neg a2, if_pos b2, least_V]; omega
    · rw [if_neg a2, if_neg b2]; omega

/-- harder to lie below, lower ends -/
theorem DnAll.mono {cs ds : List (Int → Int)} {w x : Nat} (h : DnAll cs w) (k : DnAll ds x) (hcd : ∀ u, (∀ c ∈ cs, 0 ≤ c u) → ∀ d ∈ ds, 0 ≤ d u) : V w ≤ V x := k.top w h.fin (hcd _ h.le)
theorem UpAll.mono {cs ds : List (Int → Int)} {w x : Nat} (h : UpAll cs w) (k : UpAll ds x) (hcd : ∀ u, (∀ c ∈ cs, c u ≤ 0) → ∀ d ∈ ds, d u ≤ 0) : V x ≤ V w := k.low w h.fin (hcd _ h.ge)
end Go.Proofs.Ytkfagpahbojigaa
