/- Proved here: what the texts Fri, Frj prove, one behind the other. -/
import Derived.Test.YtgblpibanagcgaaGreatJy7
import Derived.Test.YtgblpibanagcgaaGreatJv4
import Derived.Test.YtgblpibanagcgaaGreatJv2

namespace Go.Proofs.YtgblpibanagcgaaGreat
open Go.ChangeShapes Go.WideShapes Go.ChangeAt Go.RowKit Go.Deep Ieee.Own

theorem wf64 {b : Nat} (h : (Lit.float .f64 b).wf = true) : b < 18446744073709551616 := by
  simp only [Lit.wf, decide_eq_true_eq] at h; exact h

set_option maxRecDepth 100000 in
theorem recF : RecT 22 49 7 56 (.agg #[.int .i64 0, .int .i64 0, .float .f64 0, .float .f64 0, .float .f64 0, .float .f64 0, .float .f64 0]) := ⟨Tryz.underlying22, by kernel_rfl, rfl, by decide⟩
theorem array7 {α : Type} {cs : List α} (h : cs.length = 7) : ∃ c0 c1 c2 c3 c4 c5 c6, cs = [c0, c1, c2, c3, c4, c5, c6] := by
  match cs, h with
  | [c0, c1, c2, c3, c4, c5, c6], _ => exact ⟨c0, c1, c2, c3, c4, c5, c6, rfl⟩
set_option maxHeartbeats 4000000 in
set_option maxRecDepth 100000 in
theorem fr_cells {H : Type} {enc : TypeId × Value → H} {W : World} (n : Nat) (cs : List Value) (y : DataW H × List MemPlace) (hl : cs.length = 7)
    (h : DataW.trod enc Tryz.prog W 0 (fun _ => true) true n 49 cs = some y) : ∃ f : Fr, cs = frC f ∧ FrW f := by
  obtain ⟨c0, c1, c2, c3, c4, c5, c6, rfl⟩ := array7 hl
  obtain ⟨xs, n', -, -, -, hx0, hf⟩ := DataW.trod_struct Tryz.underlying49 h
  have e1 : Tryz.prog.cellsOf 3 = 1 := by kernel_rfl
  have e2 : Tryz.prog.cellsOf 23 = 1 := by kernel_rfl
  have e3 : Tryz.prog.cellsOf 25 = 3 := by kernel_rfl
  have key : ∀ {t : TypeId} {k m : Nat} {cs' : List Value} {z : Option (DataW H × List MemPlace)}, Tryz.prog.cellsOf t = m → (([c0, c1, c2, c3, c4, c5, c6].drop k).take m) = cs' → m ≤ cs'.length → 0 < m → z = DataW.trod enc Tryz.prog W 0 (fun _ => true) true n' t (([c0, c1, c2, c3, c4, c5, c6].drop k).take (Tryz.prog.cellsOf t)) → (∃ q, z = some q) → ∃ q, DataW.trod enc Tryz.prog W 0 (fun _ => true) true n' t cs' = some q := fun h1 h2 _ _ h3 h4 => by
    rw [h1, h2] at h3
    obtain ⟨q, hq⟩ := h4
    exact ⟨q, by rw [← h3, hq]⟩
  have hx : xs.length = 5 := hx0
  have g0 := hf 0 _ rfl
  have g1 := hf 1 _ rfl
  have g2 := hf 2 _ rfl
  have g3 := hf 3 _ rfl
  have g4 := hf 4 _ rfl
  obtain ⟨q0, h0⟩ := key (k := 0) (m := 1) (cs' := [c0]) e1 rfl (by simp) (by omega) g0.symm ⟨_, List.getElem?_eq_getElem (by omega)⟩
  obtain ⟨q1, h1⟩ := key (k := 1) (m := 1) (cs' := [c1]) e1 rfl (by simp) (by omega) g1.symm ⟨_, List.getElem?_eq_getElem (by omega)⟩
  obtain ⟨q2, h2⟩ := key (k := 2) (m := 1) (cs' := [c2]) e2 rfl (by simp) (by omega) g2.symm ⟨_, List.getElem?_eq_getElem (by omega)⟩
  obtain ⟨q3, h3⟩ := key (k := 3) (m := 1) (cs' := [c3]) e2 rfl (by simp) (by omega) g3.symm ⟨_, List.getElem?_eq_getElem (by omega)⟩
  obtain ⟨q4, h4⟩ := key (k := 4) (m := 3) (cs' := [c4, c5, c6]) e3 rfl (by simp) (by omega) g4.symm ⟨_, List.getElem?_eq_getElem (by omega)⟩
  obtain ⟨a, ha, -⟩ := DataW.trod_int Tryz.underlying3 h0
  obtain ⟨b, hb, -⟩ := DataW.trod_int Tryz.underlying3 h1
  simp only [List.cons.injEq, and_true] at ha hb
  subst ha hb
  obtain ⟨p, rfl, hp⟩ := float_cell Tryz.underlying23 h2
  obtain ⟨r, rfl, hr⟩ := float_cell Tryz.underlying23 h3
  obtain ⟨v, rfl, rfl, rfl, hv⟩ := vec_cells h4
  exact ⟨⟨a, b, p, r, v.1, v.2.1, v.2.2⟩, rfl, hp, hr, hv.l1, hv.l2, hv.l3⟩
set_option maxRecDepth 100000 in
/-- a list of frames that came in, opened -/
theorem open_frames {H : Type} {enc : TypeId × Value → H} {W : World} {v : Value} {d : DataW H} {ps : List MemPlace}
    (hval : ∃ ao n c, v = .slice ao n c) (h : DataW.Trod enc Tryz.prog W 0 (fun _ => true) true 22 v d ps) :
    ∃ ao cap L, v = .slice ao (List.length L) cap ∧ L.length ≤ cap ∧ cap ≤ maxLen ∧ FAt W ao L ∧ FsW L ∧ ((ao = none ∧ cap = 0) ∨ ((∃ a, ao = some a) ∧ ∃ es sp : List (DataW H), d = .slice es sp ∧ es.length + sp.length = cap)) := by
  obtain ⟨ao, cap, R, h1, h2, h3, h4, h5, h6⟩ := open_rows (m := 7) (fun cs => ∃ f : Fr, cs = frC f ∧ FrW f) Tryz.underlying22 (by kernel_rfl) (by omega) (fun n cs y hl hy => fr_cells n cs y hl hy) hval h
  have : ∃ L : List Fr, R = L.map frC ∧ FsW L := by
    clear h1 h2 h3 h4 h6
    induction R with
    | nil => exact ⟨[], rfl, fun f hf => by cases hf⟩
    | cons r R ih =>
      obtain ⟨L, rfl, hL⟩ := ih (fun x hx => h5 x (List.mem_cons_of_mem _ hx))
      obtain ⟨⟨f, rfl, hf⟩, -⟩ := h5 r (List.mem_cons_self ..)
      exact ⟨f :: L, rfl, fun g hg => by
        rcases List.mem_cons.1 hg with rfl | hg
        · exact hf
        · exact hL g hg⟩
  obtain ⟨L, rfl, hL⟩ := this
  rw [List.length_map] at h1 h2
  exact ⟨ao, cap, L, h1, h2, h3, h4, hL, h6⟩
set_option maxRecDepth 100000 in
theorem feq_gen {P : Program} {t : TypeId} {k' : FloatKind} (d : Nat) (a b : Nat) (w : World) (h : P.underlying t = some (.float k')) : (Op.equalIn (d + 1) t (.float .f64 a) (.float .f64 b)).run P w = .ok (FloatKind.f64.format.order a b == some Ordering.eq) w := by
  simp [Op.equalIn, run_underlying h]
  rfl
set_option maxRecDepth 100000 in
theorem feq_run (a b : Nat) (w : World) : (Op.equalIn 9999 23 (.float .f64 a) (.float .f64 b)).run Tryz.prog w = .ok (FloatKind.f64.format.order a b == some Ordering.eq) w := feq_gen 9998 a b w Tryz.underlying23
/-! ### awake -/
def awF : Fr := ⟨-1, 2, 0, 4607182418800017408, 4621819117588971520, 0, 0⟩
theorem aw_root : rootR [awF] 0 quarW (oneW, 0, 0) = ((4621819117588971520, oneW, 0), 0) := by
  have e1 : readyF [awF] 0 (witB g24 quarW) = 0 := by decide +kernel
  have e2 : addR (oneW, 0, 0) z3 = ((oneW, 0, 0), 0) := by decide +kernel
  have e3 : way [awF] 0 = [0] := by decide +kernel
  have e4 : angW awF quarW = quarW := by decide +kernel
  obtain ⟨e5, e6⟩ := tS_eq quar_trig
  have e7 : turnW 2 quarW = tM 2 (bW oneW) (bW 0) (negN (bW oneW)) := by unfold turnW; rw [e5, e6]
  have e8 : applyR (tM 2 (bW oneW) (bW 0) (negN (bW oneW))) (oneW, 0, 0) = ((0, oneW, 0), 0) := by decide +kernel
  have e9 : addR awF.og (0, oneW, 0) = ((4621819117588971520, oneW, 0), 0) := by decide +kernel
  have e10 : upR awF quarW (oneW, 0, 0) = ((4621819117588971520, oneW, 0), 0) := by
    unfold upR
    rw [e4, show awF.ax = 2 from rfl, e7, e8]
    rw [if_pos rfl]
    exact e9
  unfold rootR
  rw [if_pos e1, e2, if_pos rfl, e3]
  show rootF [awF] quarW [0] (oneW, 0, 0) = _
  unfold rootF
  rw [show frAt [awF] 0 = awF from rfl, e10, if_pos rfl]
  rfl
set_option maxHeartbeats 4000000 in
set_option maxRecDepth 100000 in
theorem one_run (w : World) : Calls Tryz.prog 13 #[] w fun e w' => e = .returned (.slice (some ⟨w.heap.size, 0, none⟩) 1 1) ∧ w' = w.alloc (objV 49 (frC awF)) := by
  go_enter Tryz.func13, Tryz.ntmps13
  go_wp2_with fail
  go_ret
  exact ⟨rfl, rfl⟩
set_option maxHeartbeats 4000000 in
set_option maxRecDepth 100000 in
theorem awake10 (w : World) : Calls Tryz.prog 5 #[] w fun e w' => e = .returned (.bool true) ∧ Below w.heap.size w w' := by
  have O := Lib.hid (one_run w)
  have C : Hid (∀ W ao, FAt W ao [awF] → Calls Tryz.prog 6 #[.slice ao 1 1, .int .i64 0, .float .f64 4598175219545276416, .agg #[.float .f64 4607182418800017408, .float .f64 0, .float .f64 0]] W fun e w' => e = .returned (.tuple #[.agg #[.float .f64 4621819117588971520, .float .f64 4607182418800017408, .float .f64 0], .int .i64 0]) ∧ Below W.heap.size W w') :=
    Lib.hid fun W ao ha => by
      have hW : FsW [awF] := fun f hf => by rw [List.mem_singleton.1 hf]; exact ⟨by decide, by decide, by decide, by decide, by decide⟩
      have := froot_run ao 1 1 [awF] 0 quarW (oneW, 0, 0) W rfl (by omega) hW ha (by unfold quarW; omega) ⟨by decide, by decide, by decide⟩
      rw [aw_root] at this
      exact this
  have t1 : (FloatKind.f64.format.order 4607182418800017408 4607182418800017408 == some Ordering.eq) = true := by decide +kernel
  have t2 : (FloatKind.f64.format.order 4621819117588971520 4621819117588971520 == some Ordering.eq) = true := by decide +kernel
  have t3 : (FloatKind.f64.format.order 0 0 == some Ordering.eq) = true := by decide +kernel
  have hst := @fstore
  have heq := feq_run
  go_enter Tryz.func5, Tryz.ntmps5
  go_wp2_with fail
  refine O.out.mono ?_
  rintro _ w1 ⟨rfl, rfl⟩
  clear O
  have B := BV.box w 49 (frC awF)
  have b1 := (Below.refl w.heap.size w).alloc (Nat.le_refl _) (objV 49 (frC awF))
  have FA : FAt (w.alloc (objV 49 (frC awF))) (some ⟨w.heap.size, 0, none⟩) [awF] := by
    intro j r hj
    have j0 : j = 0 := by
      have := (List.getElem?_eq_some_iff.1 hj).1
      simpa using this
    subst j0
    simp at hj
    subst hj
    refine ⟨_, _, rfl, B.lt, fun k u hu => ?_⟩
    rw [Nat.zero_mul, Nat.zero_add]
    exact B.at_ k u hu
  have C1 := Lib.hid (C.out _ _ FA)
  clear C B FA
  generalize w.alloc (objV 49 (frC awF)) = wa at *
  replace b1 := Lib.hid b1
  go_wp2_with fail
  refine C1.out.mono ?_
  rintro _ w2 ⟨rfl, hb⟩
  replace hb := Lib.hid (b1.out.trans (hb.mono b1.out.size))
  clear C1 b1
  go_wp2_with fail
  go_ret
  exact ⟨rfl, hb.out.alloc (hb.out.size) _⟩
end Go.Proofs.YtgblpibanagcgaaGreat

namespace Go.Proofs.YtgblpibanagcgaaGreat
open Go.ChangeShapes Go.WideShapes Go.ChangeAt Go.RowKit Go.Deep Ieee.Own

/-! ### rates made 0 -/
/-- a store into another block -/
theorem Kv.far {w0 w : World} {L : List (Option (Nat × List Value))} (C : Kv w0 L w) {g : Nat} (hg : w0.heap.size ≤ g) (hne : ∀ (j h : Nat) (us : List Value), L[j]? = some (some (h, us)) → h ≠ g) (k : Nat) (v : Value) : Kv w0 L (w.setCell ⟨g, k, none⟩ v) :=
  ⟨C.old.setCell hg _, fun j h us hj => ⟨(C.blk j h us hj).1, (C.at_ j hj).other1 (hne j h us hj) v⟩, C.inj⟩
end Go.Proofs.YtgblpibanagcgaaGreat
