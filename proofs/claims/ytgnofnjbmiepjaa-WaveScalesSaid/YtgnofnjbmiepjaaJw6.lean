/- Proved here: what the texts Wvh, Wvj, Wvk prove, one behind the other. -/
import Derived.Test.YtgnofnjbmiepjaaJw4
import Derived.Test.YtgnofnjbmiepjaaJp
import Derived.Test.YtgnofnjbmiepjaaJy13
import Derived.Test.YtgnofnjbmiepjaaJw2
import Derived.Test.YtgnofnjbmiepjaaJy9
import Derived.Test.YtgnofnjbmiepjaaJx7

namespace Go.Proofs.Ytgnofnjbmiepjaa
open Go.ChangeShapes Go.WideShapes Go.ChangeAt Go.RowKit Ieee.Own Pol Fma

/-- a sum that grows -/
theorem sstep {u s S x X R r e s' : Rat} (u0 : 0 ≤ u) (u1 : 1000000 * u ≤ 1) (R0 : 0 ≤ R) (r0 : 0 ≤ r) (e14 : 14 ≤ e) (e1 : e ≤ 100) (h : mag (s - S) ≤ e * (u * R)) (hS : mag S ≤ R) (hx : mag (x - X) ≤ 14 * (u * r)) (hX : mag X ≤ r) (hr : Rd u 0 s' (s + x)) :
    mag (s' - (S + X)) ≤ (e + 2) * (u * (R + r)) ∧ mag (S + X) ≤ R + r := by
  have W0 := Rat.mul_nonneg u0 R0
  have w0 := Rat.mul_nonneg u0 r0
  have Z0 := Rat.mul_nonneg u0 W0
  have z0 := Rat.mul_nonneg u0 w0
  have Z1 := Rat.mul_nonneg (show 0 ≤ 1 - 1000000 * u by grind) W0
  have z1 := Rat.mul_nonneg (show 0 ≤ 1 - 1000000 * u by grind) w0
  have K1 := Rat.mul_nonneg (show 0 ≤ 100 - e by grind) Z0
  have L1 := Rat.mul_nonneg (show 0 ≤ e - 14 by grind) w0
  have sb := mag_add hS h
  rw [show S + (s - S) = s by grind] at sb
  have xb := mag_add hX hx
  rw [show X + (x - X) = x by grind] at xb
  have n := hr _ (mag_add sb xb)
  have q := mag_add n (mag_add h hx)
  rw [show s' - (s + x) + (s - S + (x - X)) = s' - (S + X) by grind] at q
  refine ⟨?_, mag_add hS hX⟩
  refine Rat.le_trans q ?_
  have e2 : u * (R + e * (u * R) + (r + 14 * (u * r))) + 0 + (e * (u * R) + 14 * (u * r)) = u * R + e * (u * (u * R)) + u * r + 14 * (u * (u * r)) + e * (u * R) + 14 * (u * r) := by grind
  have e3 : (e + 2) * (u * (R + r)) = e * (u * R) + 2 * (u * R) + e * (u * r) + 2 * (u * r) := by grind
  have e4 : (1 - 1000000 * u) * (u * R) = u * R - 1000000 * (u * (u * R)) := by grind
  have e5 : (1 - 1000000 * u) * (u * r) = u * r - 1000000 * (u * (u * r)) := by grind
  have e6 : (100 - e) * (u * (u * R)) = 100 * (u * (u * R)) - e * (u * (u * R)) := by grind
  have e7 : (e - 14) * (u * r) = e * (u * r) - 14 * (u * r) := by grind
  rw [e2, e3]
  rw [e4] at Z1
  rw [e5] at z1
  rw [e6] at K1
  rw [e7] at L1
  generalize e * (u * (u * R)) = A at *
  generalize e * (u * R) = B at *
  generalize e * (u * r) = C at *
  generalize u * (u * R) = Z at *
  generalize u * (u * r) = z at *
  generalize u * R = W at *
  generalize u * r = w at *
  grind
/-- .. where nothing is added -/
theorem sstay {u s S R r e : Rat} (u0 : 0 ≤ u) (R0 : 0 ≤ R) (r0 : 0 ≤ r) (e0 : 0 ≤ e) (h : mag (s - S) ≤ e * (u * R)) (hS : mag S ≤ R) : mag (s - S) ≤ (e + 2) * (u * (R + r)) ∧ mag S ≤ R + r := by
  have W0 := Rat.mul_nonneg u0 R0
  have w0 := Rat.mul_nonneg u0 r0
  have E0 := Rat.mul_nonneg e0 w0
  have e3 : (e + 2) * (u * (R + r)) = e * (u * R) + 2 * (u * R) + e * (u * r) + 2 * (u * r) := by grind
  rw [e3]
  exact ⟨by grind, by grind⟩
/-! ### sums -/
def eN : Nat → Rat
  | 0 => 14
  | n + 1 => eN n + 2
theorem eN_bd : ∀ n, n < 40 → 14 ≤ eN n ∧ eN n ≤ 100 := by decide +kernel
structure Nr (p : V3) (P : R3) (R e : Rat) : Prop where
  x : mag (Q p.1 - P.1) ≤ e * (uR * R)
  mx : mag P.1 ≤ R
  y : mag (Q p.2.1 - P.2.1) ≤ e * (uR * R)
  my : mag P.2.1 ≤ R
  z : mag (Q p.2.2 - P.2.2) ≤ e * (uR * R)
  mz : mag P.2.2 ≤ R
theorem Nr.put {p : V3} {P : R3} {R : Rat} {i n : Nat} (h : Nr p P R (eN n)) (S : Sm p i) (hi : i < 64) (hn : n < 40) (R0 : 0 ≤ R) (a : Int) {x : Nat} {X r : Rat} (r0 : 0 ≤ r) (fx : FinW x) (bx : (V x).natAbs ≤ 2 ^ 1131) (hx : mag (Q x - X) ≤ 14 * (uR * r)) (hX : mag X ≤ r) :
    Nr (putA p a x) (putQ P a X) (R + r) (eN (n + 1)) := by
  obtain ⟨e14, e1⟩ := eN_bd n hn
  have st : ∀ {s : Nat} {T : Rat}, FinW s → (V s).natAbs ≤ 2 ^ (1131 + i) → mag (Q s - T) ≤ eN n * (uR * R) → mag T ≤ R → mag (Q (aX s x) - (T + X)) ≤ eN (n + 1) * (uR * (R + r)) ∧ mag (T + X) ≤ R + r := fun fs bs h1 h2 => by
    obtain ⟨-, -, v, -⟩ := add_sm hi fs bs fx bx
    exact sstep uR0 uR1 R0 r0 e14 e1 h1 h2 hx hX (rd_of (add_rel v))
  have sy : ∀ {s : Nat} {T : Rat}, mag (Q s - T) ≤ eN n * (uR * R) → mag T ≤ R → mag (Q s - T) ≤ eN (n + 1) * (uR * (R + r)) ∧ mag T ≤ R + r := fun h1 h2 => sstay uR0 R0 r0 (by grind) h1 h2
  have y1 := sy h.x h.mx
  have y2 := sy h.y h.my
  have y3 := sy h.z h.mz
  unfold putA putQ
  by_cases h0 : a = 0
  · rw [if_pos h0, if_pos h0]
    have t := st S.f1 S.b1 h.x h.mx
    exact ⟨t.1, t.2, y2.1, y2.2, y3.1, y3.2⟩
  · rw [if_neg h0, if_neg h0]
    by_cases h1 : a = 1
    · rw [if_pos h1, if_pos h1]
      have t := st S.f2 S.b2 h.y h.my
      exact ⟨y1.1, y1.2, t.1, t.2, y3.1, y3.2⟩
    · rw [if_neg h1, if_neg h1]
      have t := st S.f3 S.b3 h.z h.mz
      exact ⟨y1.1, y1.2, y2.1, y2.2, t.1, t.2⟩
/-! ### reach -/
end Go.Proofs.Ytgnofnjbmiepjaa

namespace Go.Proofs.Ytgnofnjbmiepjaa
open Go.ChangeShapes Go.WideShapes Go.ChangeAt Go.RowKit Go.Deep Ieee.Own

set_option maxRecDepth 100000 in
theorem recW : RecT 22 49 5 40 (.agg #[.int .i64 0, .int .i64 0, .float .f64 0, .float .f64 0, .float .f64 0]) := ⟨Try.underlying22, by kernel_rfl, rfl, by decide⟩
theorem array5 {α : Type} {cs : List α} (h : cs.length = 5) : ∃ c0 c1 c2 c3 c4, cs = [c0, c1, c2, c3, c4] := by
  match cs, h with
  | [c0, c1, c2, c3, c4], _ => exact ⟨c0, c1, c2, c3, c4, rfl⟩
set_option maxHeartbeats 4000000 in
set_option maxRecDepth 100000 in
theorem wv_cells {H : Type} {enc : TypeId × Value → H} {W : World} (n : Nat) (cs : List Value) (y : DataW H × List MemPlace) (hl : cs.length = 5)
    (h : DataW.trod enc Try.prog W 0 (fun _ => true) true n 49 cs = some y) : ∃ f : Wv, cs = wvC f ∧ WvW f := by
  obtain ⟨c0, c1, c2, c3, c4, rfl⟩ := array5 hl
  obtain ⟨xs, n', -, -, -, hx0, hf⟩ := DataW.trod_struct Try.underlying49 h
  have e1 : Try.prog.cellsOf 3 = 1 := by kernel_rfl
  have e2 : Try.prog.cellsOf 23 = 1 := by kernel_rfl
  have key : ∀ {t : TypeId} {k m : Nat} {cs' : List Value} {z : Option (DataW H × List MemPlace)}, Try.prog.cellsOf t = m → (([c0, c1, c2, c3, c4].drop k).take m) = cs' → m ≤ cs'.length → 0 < m → z = DataW.trod enc Try.prog W 0 (fun _ => true) true n' t (([c0, c1, c2, c3, c4].drop k).take (Try.prog.cellsOf t)) → (∃ q, z = some q) → ∃ q, DataW.trod enc Try.prog W 0 (fun _ => true) true n' t cs' = some q := fun h1 h2 _ _ h3 h4 => by
    rw [h1, h2] at h3
    obtain ⟨q, hq⟩ := h4
    exact ⟨q, by rw [← h3, hq]⟩
  have hx : xs.length = 5 := hx0
  have g0 := hf 0 _ rfl
  have g1 := hf 1 _ rfl
  have g2 := hf 2 _ rfl
  have g3 := hf 3 _ rfl
  have g4 := hf 4 _ rfl
  obtain ⟨q0, h0⟩ := key (k := 0) (m := 1) (cs' := [c0]) e1 rfl (by simp) (by omega) g0.symm ⟨_, List.getElem?_eq_getElem (by omega)⟩
  obtain ⟨q1, h1⟩ := key (k := 1) (m := 1) (cs' := [c1]) e1 rfl (by simp) (by omega) g1.symm ⟨_, List.getElem?_eq_getElem (by omega)⟩
  obtain ⟨q2, h2⟩ := key (k := 2) (m := 1) (cs' := [c2]) e2 rfl (by simp) (by omega) g2.symm ⟨_, List.getElem?_eq_getElem (by omega)⟩
  obtain ⟨q3, h3⟩ := key (k := 3) (m := 1) (cs' := [c3]) e2 rfl (by simp) (by omega) g3.symm ⟨_, List.getElem?_eq_getElem (by omega)⟩
  obtain ⟨q4, h4⟩ := key (k := 4) (m := 1) (cs' := [c4]) e2 rfl (by simp) (by omega) g4.symm ⟨_, List.getElem?_eq_getElem (by omega)⟩
  obtain ⟨a, ha, -⟩ := DataW.trod_int Try.underlying3 h0
  obtain ⟨b, hb, -⟩ := DataW.trod_int Try.underlying3 h1
  simp only [List.cons.injEq, and_true] at ha hb
  subst ha hb
  obtain ⟨p, rfl, hp⟩ := float_cell Try.underlying23 h2
  obtain ⟨q, rfl, hq⟩ := float_cell Try.underlying23 h3
  obtain ⟨r, rfl, hr⟩ := float_cell Try.underlying23 h4
  exact ⟨⟨a, b, p, q, r⟩, rfl, hp, hq, hr⟩
set_option maxRecDepth 100000 in
/-- a list of waves that came in, opened -/
theorem open_waves {H : Type} {enc : TypeId × Value → H} {W : World} {v : Value} {d : DataW H} {ps : List MemPlace}
    (hval : ∃ ao n c, v = .slice ao n c) (h : DataW.Trod enc Try.prog W 0 (fun _ => true) true 22 v d ps) :
    ∃ ao cap L, v = .slice ao (List.length L) cap ∧ L.length ≤ cap ∧ cap ≤ maxLen ∧ VAt W ao L ∧ WvsW L ∧ ((ao = none ∧ cap = 0) ∨ ((∃ a, ao = some a) ∧ ∃ es sp : List (DataW H), d = .slice es sp ∧ es.length + sp.length = cap)) := by
  obtain ⟨ao, cap, R, h1, h2, h3, h4, h5, h6⟩ := open_rows (m := 5) (fun cs => ∃ f : Wv, cs = wvC f ∧ WvW f) Try.underlying22 (by kernel_rfl) (by omega) (fun n cs y hl hy => wv_cells n cs y hl hy) hval h
  have : ∃ L : List Wv, R = L.map wvC ∧ WvsW L := by
    clear h1 h2 h3 h4 h6
    induction R with
    | nil => exact ⟨[], rfl, fun f hf => by cases hf⟩
    | cons r R ih =>
      obtain ⟨L, rfl, hL⟩ := ih (fun x hx => h5 x (List.mem_cons_of_mem _ hx))
      obtain ⟨⟨f, rfl, hf⟩, -⟩ := h5 r (List.mem_cons_self ..)
      exact ⟨f :: L, rfl, fun g hg => by
        rcases List.mem_cons.1 hg with rfl | hg
        · exact hf
        · exact hL g hg⟩
  obtain ⟨L, rfl, hL⟩ := this
  rw [List.length_map] at h1 h2
  exact ⟨ao, cap, L, h1, h2, h3, h4, hL, h6⟩
/-! ### awake -/
def awW12 : Wv := ⟨1, 0, 4613937818241073152, 0, 0⟩
def halfW12 : Nat := 4602678819172646912
theorem zero_trig : Trig 0 0 oneW := by
  refine ⟨⟨0, ⟨⟨zero_fin, by omega⟩, by decide +kernel⟩, by decide +kernel, by decide +kernel⟩, ⟨zero_fin, by omega⟩, ⟨one_wd.fin, by unfold oneW; omega⟩⟩
theorem aw12_at : atV [awW12] halfW12 = ((0, 4613937818241073152, 0), 0) := by
  have e1 : readyV [awW12] (witB g24 halfW12) = 0 := by decide +kernel
  have e2 : angW awW12.fr halfW12 = 0 := by decide +kernel
  have e3 : amc awW12 halfW12 = 4613937818241073152 := by
    unfold amc cosW'
    rw [e2, (tS_eq zero_trig).2]
    decide +kernel
  have e4 : hgt awW12 halfW12 = 4613937818241073152 := by
    unfold hgt
    rw [e3]
    rfl
  have e5 : sumW halfW12 [awW12] z3 = (0, 4613937818241073152, 0) := by
    unfold sumW
    rw [e4]
    unfold sumW
    decide +kernel
  unfold atV
  rw [if_pos e1, e5]
  decide +kernel
set_option maxHeartbeats 4000000 in
set_option maxRecDepth 100000 in
theorem awake12 (w : World) : Calls Try.prog 8 #[] w fun e w' => e = .returned (.bool true) ∧ Below w.heap.size w w' := by
  have C : Hid (∀ W ao, VAt W ao [awW12] → Calls Try.prog 9 #[.slice ao 1 1, .float .f64 4602678819172646912] W fun e w' => e = .returned (.tuple #[.agg #[.float .f64 0, .float .f64 4613937818241073152, .float .f64 0], .int .i64 0]) ∧ Below W.heap.size W w') :=
    Lib.hid fun W ao ha => by
      have hW : WvsW [awW12] := fun f hf => by rw [List.mem_singleton.1 hf]; exact ⟨by decide, by decide, by decide⟩
      have := wat_run ao 1 1 halfW12 W (L := [awW12]) rfl (by omega) hW ha (by unfold halfW12; omega)
      rw [aw12_at] at this
      exact this
  have t2 : (FloatKind.f64.format.order 4613937818241073152 4613937818241073152 == some Ordering.eq) = true := by decide +kernel
  have t3 : (FloatKind.f64.format.order 0 0 == some Ordering.eq) = true := by decide +kernel
  have hst := @fstore
  have heq := feq_run
  have B := BV.box w 49 (wvC awW12)
  have b1 := (Below.refl w.heap.size w).alloc (Nat.le_refl _) (objV 49 (wvC awW12))
  have FA : VAt (w.alloc (objV 49 (wvC awW12))) (some ⟨w.heap.size, 0, none⟩) [awW12] := by
    intro j r hj
    have j0 : j = 0 := by
      have := (List.getElem?_eq_some_iff.1 hj).1
      simpa using this
    subst j0
    simp at hj
    subst hj
    refine ⟨_, _, rfl, B.lt, fun k u hu => ?_⟩
    rw [Nat.zero_mul, Nat.zero_add]
    exact B.at_ k u hu
  have C1 := Lib.hid (C.out _ _ FA)
  clear C B FA
  replace b1 := Lib.hid b1
  go_enter Try.func8, Try.ntmps8
  go_wp2_with fail
  refine C1.out.mono ?_
  rintro _ w2 ⟨rfl, hb⟩
  replace hb := Lib.hid (b1.out.trans (hb.mono b1.out.size))
  clear C1 b1
  go_wp2_with fail
  go_ret
  exact ⟨rfl, hb.out.alloc (hb.out.size) _⟩
end Go.Proofs.Ytgnofnjbmiepjaa

namespace Go.Proofs.Ytgnofnjbmiepjaa
open Go.ChangeShapes Go.WideShapes Go.ChangeAt Go.RowKit Ieee.Own Pol Fma

/-! ### reach -/
theorem fn_finW {x : Nat} (h : FinW x) : FinW (fnW x) := by unfold fnW; split; exact h; exact zero_fin
/-! ### boxes -/
/-! ### beside -/
theorem fn_absW {x : Nat} {k : Nat} (b : (V x).natAbs ≤ 2 ^ k) : (V (fnW x)).natAbs ≤ 2 ^ k := by
  unfold fnW
  split
  · exact b
  · rw [V_zero]; exact Nat.zero_le _
end Go.Proofs.Ytgnofnjbmiepjaa
