/- Proved here: what the texts Wvh, Wvj, Wvk prove, one behind the other. -/
import Derived.Test.YtgnofnjbmiepjaaJw4
import Derived.Test.YtgnofnjbmiepjaaJp
import Derived.Test.YtgnofnjbmiepjaaJy13
import Derived.Test.YtgnofnjbmiepjaaJw2
import Derived.Test.YtgnofnjbmiepjaaJy9
import Derived.Test.YtgnofnjbmiepjaaJx7

namespace Go.Proofs.Ytgnofnjbmiepjaa
open Go.ChangeShapes Go.WideShapes Go.ChangeAt Go.RowKit Ieee.Own Pol Fma

/-! ### sums -/
/-! ### reach -/
end Go.Proofs.Ytgnofnjbmiepjaa

namespace Go.Proofs.Ytgnofnjbmiepjaa
open Go.ChangeShapes Go.WideShapes Go.ChangeAt Go.RowKit Go.Deep Ieee.Own

set_option maxRecDepth 100000 in
theorem recW : RecT 22 49 5 40 (.agg #[.int .i64 0, .int .i64 0, .float .f64 0, .float .f64 0, .float .f64 0]) := ⟨Try.underlying22, by kernel_rfl, rfl, by decide⟩
theorem array5 {α : Type} {cs : List α} (h : cs.length = 5) : ∃ c0 c1 c2 c3 c4, cs = [c0, c1, c2, c3, c4] := by
  match cs, h with
  | [c0, c1, c2, c3, c4], _ => exact ⟨c0, c1, c2, c3, c4, rfl⟩
set_option maxHeartbeats 4000000 in
set_option maxRecDepth 100000 in
theorem wv_cells {H : Type} {enc : TypeId × Value → H} {W : World} (n : Nat) (cs : List Value) (y : DataW H × List MemPlace) (hl : cs.length = 5)
    (h : DataW.trod enc Try.prog W 0 (fun _ => true) true n 49 cs = some y) : ∃ f : Wv, cs = wvC f ∧ WvW f := by
  obtain ⟨c0, c1, c2, c3, c4, rfl⟩ := array5 hl
  obtain ⟨xs, n', -, -, -, hx0, hf⟩ := DataW.trod_struct Try.underlying49 h
  have e1 : Try.prog.cellsOf 3 = 1 := by kernel_rfl
  have e2 : Try.prog.cellsOf 23 = 1 := by kernel_rfl
  have key : ∀ {t : TypeId} {k m : Nat} {cs' : List Value} {z : Option (DataW H × List MemPlace)}, Try.prog.cellsOf t = m → (([c0, c1, c2, c3, c4].drop k).take m) = cs' → m ≤ cs'.length → 0 < m → z = DataW.trod enc Try.prog W 0 (fun _ => true) true n' t (([c0, c1, c2, c3, c4].drop k).take (Try.prog.cellsOf t)) → (∃ q, z = some q) → ∃ q, DataW.trod enc Try.prog W 0 (fun _ => true) true n' t cs' = some q := fun h1 h2 _ _ h3 h4 => by
    rw [h1, h2] at h3
    obtain ⟨q, hq⟩ := h4
    exact ⟨q, by rw [← h3, hq]⟩
  have hx : xs.length = 5 := hx0
  have g0 := hf 0 _ rfl
  have g1 := hf 1 _ rfl
  have g2 := hf 2 _ rfl
  have g3 := hf 3 _ rfl
  have g4 := hf 4 _ rfl
  obtain ⟨q0, h0⟩ := key (k := 0) (m := 1) (cs' := [c0]) e1 rfl (by simp) (by omega) g0.symm ⟨_, List.getElem?_eq_getElem (by omega)⟩
  obtain ⟨q1, h1⟩ := key (k := 1) (m := 1) (cs' := [c1]) e1 rfl (by simp) (by omega) g1.symm ⟨_, List.getElem?_eq_getElem (by omega)⟩
  obtain ⟨q2, h2⟩ := key (k := 2) (m := 1) (cs' := [c2]) e2 rfl (by simp) (by omega) g2.symm ⟨_, List.getElem?_eq_getElem (by omega)⟩
  obtain ⟨q3, h3⟩ := key (k := 3) (m := 1) (cs' := [c3]) e2 rfl (by simp) (by omega) g3.symm ⟨_, List.getElem?_eq_getElem (by omega)⟩
  obtain ⟨q4, h4⟩ := key (k := 4) (m := 1) (cs' := [c4]) e2 rfl (by simp) (by omega) g4.symm ⟨_, List.getElem?_eq_getElem (by omega)⟩
  obtain ⟨a, ha, -⟩ := DataW.trod_int Try.underlying3 h0
  obtain ⟨b, hb, -⟩ := DataW.trod_int Try.underlying3 h1
  simp only [List.cons.injEq, and_true] at ha hb
  subst ha hb
  obtain ⟨p, rfl, hp⟩ := float_cell Try.underlying23 h2
  obtain ⟨q, rfl, hq⟩ := float_cell Try.underlying23 h3
  obtain ⟨r, rfl, hr⟩ := float_cell Try.underlying23 h4
  exact ⟨⟨a, b, p, q, r⟩, rfl, hp, hq, hr⟩
set_option maxRecDepth 100000 in
/-- a list of waves that came in, opened -/
theorem open_waves {H : Type} {enc : TypeId × Value → H} {W : World} {v : Value} {d : DataW H} {ps : List MemPlace}
    (hval : ∃ ao n c, v = .slice ao n c) (h : DataW.Trod enc Try.prog W 0 (fun _ => true) true 22 v d ps) :
    ∃ ao cap L, v = .slice ao (List.length L) cap ∧ L.length ≤ cap ∧ cap ≤ maxLen ∧ VAt W ao L ∧ WvsW L ∧ ((ao = none ∧ cap = 0) ∨ ((∃ a, ao = some a) ∧ ∃ es sp : List (DataW H), d = .slice es sp ∧ es.length + sp.length = cap)) := by
  obtain ⟨ao, cap, R, h1, h2, h3, h4, h5, h6⟩ := open_rows (m := 5) (fun cs => ∃ f : Wv, cs = wvC f ∧ WvW f) Try.underlying22 (by kernel_rfl) (by omega) (fun n cs y hl hy => wv_cells n cs y hl hy) hval h
  have : ∃ L : List Wv, R = L.map wvC ∧ WvsW L := by
    clear h1 h2 h3 h4 h6
    induction R with
    | nil => exact ⟨[], rfl, fun f hf => by cases hf⟩
    | cons r R ih =>
      obtain ⟨L, rfl, hL⟩ := ih (fun x hx => h5 x (List.mem_cons_of_mem _ hx))
      obtain ⟨⟨f, rfl, hf⟩, -⟩ := h5 r (List.mem_cons_self ..)
      exact ⟨f :: L, rfl, fun g hg => by
        rcases List.mem_cons.1 hg with rfl | hg
        · exact hf
        · exact hL g hg⟩
  obtain ⟨L, rfl, hL⟩ := this
  rw [List.length_map] at h1 h2
  exact ⟨ao, cap, L, h1, h2, h3, h4, hL, h6⟩
/-! ### awake -/
def awW12 : Wv := ⟨1, 0, 4613937818241073152, 0, 0⟩
def halfW12 : Nat := 4602678819172646912
theorem zero_trig : Trig 0 0 oneW := by
  refine ⟨⟨0, ⟨⟨zero_fin, by omega⟩, by decide +kernel⟩, by decide +kernel, by decide +kernel⟩, ⟨zero_fin, by omega⟩, ⟨one_wd.fin, by unfold oneW; omega⟩⟩
theorem aw12_at : atV [awW12] halfW12 = ((0, 4613937818241073152, 0), 0) := by
  have e1 : readyV [awW12] (witB g24 halfW12) = 0 := by decide +kernel
  have e2 : angW awW12.fr halfW12 = 0 := by decide +kernel
  have e3 : amc awW12 halfW12 = 4613937818241073152 := by
    unfold amc cosW'
    rw [e2, (tS_eq zero_trig).2]
    decide +kernel
  have e4 : hgt awW12 halfW12 = 4613937818241073152 := by
    unfold hgt
    rw [e3]
    rfl
  have e5 : sumW halfW12 [awW12] z3 = (0, 4613937818241073152, 0) := by
    unfold sumW
    rw [e4]
    unfold sumW
    decide +kernel
  unfold atV
  rw [if_pos e1, e5]
  decide +kernel
set_option maxHeartbeats 4000000 in
set_option maxRecDepth 100000 in
theorem awake12 (w : World) : Calls Try.prog 8 #[] w fun e w' => e = .returned (.bool true) ∧ Below w.heap.size w w' := by
  have C : Hid (∀ W ao, VAt W ao [awW12] → Calls Try.prog 9 #[.slice ao 1 1, .float .f64 4602678819172646912] W fun e w' => e = .returned (.tuple #[.agg #[.float .f64 0, .float .f64 4613937818241073152, .float .f64 0], .int .i64 0]) ∧ Below W.heap.size W w') :=
    Lib.hid fun W ao ha => by
      have hW : WvsW [awW12] := fun f hf => by rw [List.mem_singleton.1 hf]; exact ⟨by decide, by decide, by decide⟩
      have := wat_run ao 1 1 halfW12 W (L := [awW12]) rfl (by omega) hW ha (by unfold halfW12; omega)
      rw [aw12_at] at this
      exact this
  have t2 : (FloatKind.f64.format.order 4613937818241073152 4613937818241073152 == some Ordering.eq) = true := by decide +kernel
  have t3 : (FloatKind.f64.format.order 0 0 == some Ordering.eq) = true := by decide +kernel
  have hst := @fstore
  have heq := feq_run
  have B := BV.box w 49 (wvC awW12)
  have b1 := (Below.refl w.heap.size w).alloc (Nat.le_refl _) (objV 49 (wvC awW12))
  have FA : VAt (w.alloc (objV 49 (wvC awW12))) (some ⟨w.heap.size, 0, none⟩) [awW12] := by
    intro j r hj
    have j0 : j = 0 := by
      have := (List.getElem?_eq_some_iff.1 hj).1
      simpa using this
    subst j0
    simp at hj
    subst hj
    refine ⟨_, _, rfl, B.lt, fun k u hu => ?_⟩
    rw [Nat.zero_mul, Nat.zero_add]
    exact B.at_ k u hu
  have C1 := Lib.hid (C.out _ _ FA)
  clear C B FA
  replace b1 := Lib.hid b1
  go_enter Try.func8, Try.ntmps8
  go_wp2_with fail
  refine C1.out.mono ?_
  rintro _ w2 ⟨rfl, hb⟩
  replace hb := Lib.hid (b1.out.trans (hb.mono b1.out.size))
  clear C1 b1
  go_wp2_with fail
  go_ret
  exact ⟨rfl, hb.out.alloc (hb.out.size) _⟩
end Go.Proofs.Ytgnofnjbmiepjaa

namespace Go.Proofs.Ytgnofnjbmiepjaa
open Go.ChangeShapes Go.WideShapes Go.ChangeAt Go.RowKit Ieee.Own Pol Fma

/-! ### reach -/
/-! ### boxes -/
theorem box_ok {L : List Wv} {t : Pr} (h : (boxR12 L t).2 = 0) : readyV L (timB t) = 0 ∧ (boxR12 L t).1 = boxF t L z6 := by
  unfold boxR12 at h ⊢
  by_cases c : readyV L (timB t) = 0
  · rw [if_pos c]; exact ⟨c, rfl⟩
  · rw [if_neg c] at h; exact absurd h c
theorem tim_two {d : Nat} (h : timB (d, d) = true) : witB g24 d = true := by
  unfold timB at h
  simp only [Bool.and_eq_true, decide_eq_true_eq] at h
  exact h.2
set_option maxRecDepth 100000 in
theorem wave_meets {L : List Wv} {t : Pr} {d : Nat} (hW : WvsW L) (ht : W2 t) (hd : d < 18446744073709551616) (has : rhB t.1 t.2 d = true) (h1 : (boxR12 L (d, d)).2 = 0) (h2 : (boxR12 L t).2 = 0) (w : World) :
    Calls Try.prog 16 #[boxV (boxR12 L (d, d)).1, boxV (boxR12 L t).1] w fun e w' => e = .returned (.bool true) ∧ Below w.heap.size w w' := by
  obtain ⟨r1, e1⟩ := box_ok h1
  obtain ⟨r2, e2⟩ := box_ok h2
  obtain ⟨c0, tt⟩ := readyV_zero r1
  obtain ⟨-, t2⟩ := readyV_zero r2
  have td := tim_two tt
  unfold rhB leO at has
  simp only [Bool.and_eq_true, decide_eq_true_eq] at has
  obtain ⟨e0, k1, k2⟩ := has
  obtain ⟨f1, f2, -⟩ := errS_zero e0
  have fd := (wit_spec hd v24 td).1
  have x1 := le_words (fit_fin ht.l1 f1) fd
  have x2 := le_words fd (fit_fin ht.l2 f2)
  rw [k1] at x1
  rw [k2] at x2
  have l1 : V t.1 ≤ V d := of_decide_eq_true x1.symm
  have l2 : V d ≤ V t.2 := of_decide_eq_true x2.symm
  have hL := wvs_ok hW c0
  have hl := (chkV_zero c0).1
  obtain ⟨s1, g1⟩ := boxF_has (t := (d, d)) ⟨hd, hd⟩ tt L z6 0 hL (by omega) sn3_zero
  obtain ⟨s2, g2⟩ := boxF_has ht t2 L z6 0 hL (by omega) sn3_zero
  rw [e1, e2]
  exact rboxmeet_run s1 s2 (g1 d (0, 0, 0) hd td (Int.le_refl _) (Int.le_refl _) inb_zero) (g2 d (0, 0, 0) hd td l1 l2 inb_zero) w
/-! ### beside -/
end Go.Proofs.Ytgnofnjbmiepjaa
