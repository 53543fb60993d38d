/- Proved here: what the texts Ydb prove, one behind the other. -/
import Derived.Test.YtocnpcjpkieogaaGreatDoorJs5
import Derived.Test.YtocnpcjpkieogaaGreatDoorJs25
import Derived.Deep.Slices

namespace Go.Proofs.YtocnpcjpkieogaaGreatDoor
open Go.ChangeShapes Go.WideShapes Go.ChangeAt Go.RowKit Go.Lib

set_option maxRecDepth 100000 in
theorem info_of {w : World} (h : VarReads Tryz.prog w "internal/strconv.float64info" Rows.laid_internal_strconv_float64info) : w.cell? ⟨9, 0, none⟩ = some (.int .u64 52) := by
  obtain ⟨g, t, cs, fuel, p, hg, hty, hvar, hd⟩ := h
  obtain rfl := Option.some.inj ((show Tryz.prog.globalNamed "internal/strconv.float64info" = some 9 by kernel_rfl).symm.trans hg)
  obtain rfl := Option.some.inj ((show (Tryz.prog.globals[9]?).map (·.type) = some 158 by kernel_rfl).symm.trans hty)
  obtain ⟨xs, n, rfl, hx, hl, hxl, hall⟩ := DataW.trod_struct Tryz.underlying158 hd
  have h0 := hall 0 _ rfl
  have c1 : Tryz.prog.cellsOf 55 = 1 := by kernel_rfl
  rw [Prod.mk.injEq] at hx
  have hx1 := hx.1
  unfold Rows.laid_internal_strconv_float64info at hx1
  rw [DataW.agg.injEq] at hx1
  match xs, hx1 with
  | [x0, x1, x2], hx1 =>
    simp only [List.map_cons, List.map_nil, List.cons.injEq] at hx1
    obtain ⟨m, e1, e2, _⟩ := DataW.trod_int Tryz.underlying55 h0
    rw [e2] at hx1
    have e3 := hx1.1
    simp only [DataW.lit.injEq, Lit.int.injEq, true_and] at e3
    change ((cs.toList.drop 0).take (Tryz.prog.cellsOf 55)) = _ at e1
    rw [c1] at e1
    rw [World.var?_cell hg hvar 0, ← Array.getElem?_toList]
    have e4 := congrArg (·[0]?) e1
    simp only [List.getElem?_take, List.getElem?_drop] at e4
    rw [e3]
    simpa using e4
theorem flt_of {H : Type} {enc : TypeId × Value → H} {P : Program} {w : World} {base : Nat} {sp : Nat → Bool} {held : Bool} {fuel : Nat} {e : TypeId} {v : Value} {b : Nat} {p : List MemPlace} (he : P.underlying e = some (.float .f64))
    (h : DataW.trod enc P w base sp held fuel e [v] = some (.lit (.float .f64 b), p)) : v = .float .f64 b := by
  cases fuel with
  | zero => simp [DataW.trod] at h
  | succ n =>
    unfold DataW.trod at h
    rw [he] at h
    split at h <;> simp_all
set_option maxRecDepth 100000 in
theorem flt10_of {w : World} (h : VarReads Tryz.prog w "internal/strconv.float64pow10" Rows.laid_internal_strconv_float64pow10) :
    ∃ a o n : Nat, w.cell? ⟨16, 0, none⟩ = some (.slice (some ⟨a, o, none⟩) 23 n) ∧ a < w.heap.size ∧ ∀ i, i < 23 → w.cell? ⟨a, o + i, none⟩ = some (.float .f64 (p10W i)) := by
  obtain ⟨g, t, cs, fuel, p, hg, hty, hvar, hd⟩ := h
  obtain rfl := Option.some.inj ((show Tryz.prog.globalNamed "internal/strconv.float64pow10" = some 16 by kernel_rfl).symm.trans hg)
  obtain rfl := Option.some.inj ((show (Tryz.prog.globals[16]?).map (·.type) = some 196 by kernel_rfl).symm.trans hty)
  have c1 : Tryz.prog.cellsOf 22 = 1 := by kernel_rfl
  rcases Deep.open_slice1 Tryz.underlying196 c1 hd with ⟨h1, h2⟩ | ⟨a, len, cap, m, n, V, D, Pl, h1, hb, hl, hm, hmm, hx, hcell⟩
  · exfalso
    have := congrArg Prod.fst h2
    unfold Rows.laid_internal_strconv_float64pow10 at this
    cases this
  · have hx1 := congrArg Prod.fst hx
    have hx2 : p10L.map (fun b => (DataW.lit (.float .f64 b) : DataW Unit)) = (List.range len).map D := (DataW.slice.inj hx1).1
    have hlen : len = 23 := by
      have := congrArg List.length hx2
      rw [List.length_map, List.length_map, List.length_range] at this
      exact this.symm
    subst hlen
    have hV : ∀ i, i < 23 → w.cell? (a.add i) = some (.float .f64 (p10W i)) := fun i hi => by
      obtain ⟨k1, k2⟩ := hcell i (by rw [hmm]; split <;> omega)
      have d := congrArg (·[i]?) hx2
      simp only [List.getElem?_map, List.getElem?_range hi, Option.map_some] at d
      have hl : i < p10L.length := hi
      rw [List.getElem?_eq_getElem hl, Option.map_some, Option.some.injEq] at d
      rw [← d] at k2
      rw [k1, flt_of Tryz.underlying22 k2]
      unfold p10W
      simp [List.getD, hl]
    obtain ⟨b, o, s⟩ := a
    have hsp : s = none := by simpa [Addr.add] using World.cell?_spot (hV 0 (by decide))
    subst hsp
    have hV' : ∀ i, i < 23 → w.cell? ⟨b, o + i, none⟩ = some (.float .f64 (p10W i)) := fun i hi => by
      have := hV i hi
      rcases Nat.eq_zero_or_pos i with r | r
      · subst r; simpa [Addr.add] using this
      · simpa [Addr.add, Nat.ne_of_gt r] using this
    refine ⟨b, o, cap, ?_, World.block_lt_of_cell? w _ (hV' 0 (by decide)), hV'⟩
    rw [World.var?_cell hg hvar 0, ← Array.getElem?_toList, h1]
    rfl
set_option maxRecDepth 100000 in
theorem lib10_of {w : World} (h1 : VarReads Tryz.prog w "internal/strconv.optimize" Rows.laid_internal_strconv_optimize) (h2 : VarReads Tryz.prog w "internal/strconv.uint64pow10" Rows.laid_internal_strconv_uint64pow10)
    (h3 : VarReads Tryz.prog w "internal/strconv.pow10Tab" Rows.laid_internal_strconv_pow10Tab) (h4 : VarReads Tryz.prog w "math/bits.deBruijn64tab" Rows.laid_math_bits_deBruijn64tab)
    (h5 : VarReads Tryz.prog w "internal/strconv.float64info" Rows.laid_internal_strconv_float64info) (h6 : VarReads Tryz.prog w "internal/strconv.float64pow10" Rows.laid_internal_strconv_float64pow10) : Lib10 w :=
  ⟨lib9_of h1 h2 h3 h4, info_of h5, flt10_of h6⟩
end Go.Proofs.YtocnpcjpkieogaaGreatDoor
