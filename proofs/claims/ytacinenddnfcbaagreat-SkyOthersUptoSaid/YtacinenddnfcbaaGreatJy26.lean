/- Proved here: what the texts Kao, Kap, Kaq prove, one behind the other. -/
import Derived.Test.YtacinenddnfcbaaGreatJy25
import Derived.Test.YtacinenddnfcbaaGreatJy8
import Derived.Test.YtacinenddnfcbaaGreatJy14
import Derived.OpenShut
import Derived.Deep.Strs
import Derived.SizedLaws
import Derived.Test.YtacinenddnfcbaaGreatJy12

set_option maxHeartbeats 4000000
set_option maxRecDepth 100000
namespace Go.Proofs.YtacinenddnfcbaaGreat
open Go.ChangeShapes Go.WideShapes Go.ChangeAt Go.RowKit Go.Deep Ieee.Own

section
variable {H : Type} {enc : TypeId × Value → H}
def WD (p : DataW H) (L : List Wv) : Prop := (L = [] ∧ p = .nil) ∨ ∃ es sp, p = .slice es sp ∧ L.length ≤ es.length + sp.length
def BD (d : DataW H) (m : Bm) : Prop := ∃ d0 d1 d2 d3 d4 d5 d7 t0 t1 t2, d = .agg [d0, d1, d2, d3, d4, d5, .agg [t0, t1, t2], d7] ∧ WD d5 m.b.wvs ∧ TD t2 m.b.tab.rows
structure BmG (W : World) (m : Bm) : Prop where
 sz : m.b.sz < 18446744073709551616
 at_ : W3 m.b.at_
 orb : ObW m.b.orb
 wvs : WvsW m.b.wvs
 tab : TbW m.b.tab
 mem : BmAt W m
theorem open_tab3 {W : World} {n : Nat} {c0 c1 c2 : Value} {y : DataW H × List MemPlace} (h : DataW.trod enc Tryz.prog W 0 (fun _ => true) true n 49 [c0, c1, c2] = some y) :
 ∃ t ao cap d0 d1 d2, c0 = .float .f64 t.fr ∧ c1 = .float .f64 t.st ∧ c2 = .slice ao t.rows.length cap ∧ t.rows.length ≤ cap ∧ (ao = none → cap = 0) ∧ TbW t ∧ TbAt W ao t.rows ∧ y.1 = .agg [d0, d1, d2] ∧ TD d2 t.rows := by
 obtain ⟨y0, y1, y2, n, hx, -, h0, h1, h2⟩ := Go.Deep.trod_struct3 Tryz.underlying49 h
 have e0 : Tryz.prog.cellsOf 22 = 1 := by kernel_rfl
 have e1 : Tryz.prog.cellsOf 47 = 1 := by kernel_rfl
 have k0 : DataW.trod enc Tryz.prog W 0 (fun _ => true) true n 22 (([c0, c1, c2].drop 0).take (Tryz.prog.cellsOf 22)) = some y0 := h0
 have k1 : DataW.trod enc Tryz.prog W 0 (fun _ => true) true n 22 (([c0, c1, c2].drop 1).take (Tryz.prog.cellsOf 22)) = some y1 := h1
 have k2 : DataW.trod enc Tryz.prog W 0 (fun _ => true) true n 47 (([c0, c1, c2].drop 2).take (Tryz.prog.cellsOf 47)) = some y2 := h2
 rw [e0] at k0 k1
 rw [e1] at k2
 obtain ⟨fr, rfl, hfr⟩ := float_cell (v := c0) Tryz.underlying22 k0
 obtain ⟨st, rfl, hst⟩ := float_cell (v := c1) Tryz.underlying22 k1
 obtain ⟨ao, cap, T, rfl, q1, -, q3, q4, q5, q6⟩ := open_rws (c := c2) k2
 exact ⟨⟨fr, st, T⟩, ao, cap, y0.1, y1.1, y2.1, rfl, rfl, rfl, q1, q3, ⟨hfr, hst, q5⟩, q4, congrArg Prod.fst hx, q6⟩
theorem flts_cells {W : World} {n k : Nat} {t : TypeId} {fs : Array Field} {cs : List Value} {y : DataW H × List MemPlace} (hu : Tryz.prog.underlying t = some (.struct fs)) (hk : fs.size = k) (hc : cs.length = k)
 (hf : ∀ i, i < k → ∃ f, fs[i]? = some f ∧ f.type = 22 ∧ f.offset = i) (h : DataW.trod enc Tryz.prog W 0 (fun _ => true) true n t cs = some y) :
 ∀ i, i < k → ∃ b, cs[i]? = some (.float .f64 b) ∧ b < 18446744073709551616 := by
 intro i hi
 obtain ⟨xs, n', -, -, -, hx, hg⟩ := DataW.trod_struct hu h
 obtain ⟨f, e, ft, fo⟩ := hf i hi
 have e1 : Tryz.prog.cellsOf 22 = 1 := by kernel_rfl
 have g := hg i f e
 rw [ft, fo, e1] at g
 have hxi : xs[i]? = some (xs[i]'(by omega)) := List.getElem?_eq_getElem (by omega)
 rw [hxi] at g
 have hci : cs[i]? = some (cs[i]'(by omega)) := List.getElem?_eq_getElem (by omega)
 have et : (cs.drop i).take 1 = [cs[i]'(by omega)] := by
  rw [List.drop_eq_getElem_cons (by omega)]; rfl
 rw [et] at g
 obtain ⟨b, eb, hb⟩ := float_cell (v := cs[i]'(by omega)) Tryz.underlying22 g
 exact ⟨b, by rw [hci, eb], hb⟩
theorem body_cells {W : World} (n : Nat) (cs : List Value) (y : DataW H × List MemPlace) (hl : cs.length = 18) (h : DataW.trod enc Tryz.prog W 0 (fun _ => true) true n 51 cs = some y) :
 ∃ m : Bm, cs = bmC m ∧ BmG W m ∧ BD y.1 m := by
 obtain ⟨c0, c1, c2, c3, c4, c5, c6, c7, c8, c9, c10, c11, c12, c13, c14, c15, c16, c17, rfl⟩ := list18 hl
 obtain ⟨xs, n', -, hx, -, hx0, hf⟩ := DataW.trod_struct Tryz.underlying51 h
 have hx8 : xs.length = 8 := hx0
 obtain ⟨y0, hy0⟩ : ∃ q, xs[0]? = some q := ⟨_, List.getElem?_eq_getElem (by omega)⟩
 have g0 : DataW.trod enc Tryz.prog W 0 (fun _ => true) true n' 3 (([c0, c1, c2, c3, c4, c5, c6, c7, c8, c9, c10, c11, c12, c13, c14, c15, c16, c17].drop 0).take (Tryz.prog.cellsOf 3)) = some y0 := (hf 0 _ rfl).trans hy0
 have k0 : Tryz.prog.cellsOf 3 = 1 := by kernel_rfl
 rw [k0] at g0
 replace g0 : DataW.trod enc Tryz.prog W 0 (fun _ => true) true n' 3 [c0] = some y0 := g0
 obtain ⟨y1, hy1⟩ : ∃ q, xs[1]? = some q := ⟨_, List.getElem?_eq_getElem (by omega)⟩
 have g1 : DataW.trod enc Tryz.prog W 0 (fun _ => true) true n' 3 (([c0, c1, c2, c3, c4, c5, c6, c7, c8, c9, c10, c11, c12, c13, c14, c15, c16, c17].drop 1).take (Tryz.prog.cellsOf 3)) = some y1 := (hf 1 _ rfl).trans hy1
 have k1 : Tryz.prog.cellsOf 3 = 1 := by kernel_rfl
 rw [k1] at g1
 replace g1 : DataW.trod enc Tryz.prog W 0 (fun _ => true) true n' 3 [c1] = some y1 := g1
 obtain ⟨y2, hy2⟩ : ∃ q, xs[2]? = some q := ⟨_, List.getElem?_eq_getElem (by omega)⟩
 have g2 : DataW.trod enc Tryz.prog W 0 (fun _ => true) true n' 22 (([c0, c1, c2, c3, c4, c5, c6, c7, c8, c9, c10, c11, c12, c13, c14, c15, c16, c17].drop 2).take (Tryz.prog.cellsOf 22)) = some y2 := (hf 2 _ rfl).trans hy2
 have k2 : Tryz.prog.cellsOf 22 = 1 := by kernel_rfl
 rw [k2] at g2
 replace g2 : DataW.trod enc Tryz.prog W 0 (fun _ => true) true n' 22 [c2] = some y2 := g2
 obtain ⟨y3, hy3⟩ : ∃ q, xs[3]? = some q := ⟨_, List.getElem?_eq_getElem (by omega)⟩
 have g3 : DataW.trod enc Tryz.prog W 0 (fun _ => true) true n' 41 (([c0, c1, c2, c3, c4, c5, c6, c7, c8, c9, c10, c11, c12, c13, c14, c15, c16, c17].drop 3).take (Tryz.prog.cellsOf 41)) = some y3 := (hf 3 _ rfl).trans hy3
 have k3 : Tryz.prog.cellsOf 41 = 3 := by kernel_rfl
 rw [k3] at g3
 replace g3 : DataW.trod enc Tryz.prog W 0 (fun _ => true) true n' 41 [c3, c4, c5] = some y3 := g3
 obtain ⟨y4, hy4⟩ : ∃ q, xs[4]? = some q := ⟨_, List.getElem?_eq_getElem (by omega)⟩
 have g4 : DataW.trod enc Tryz.prog W 0 (fun _ => true) true n' 45 (([c0, c1, c2, c3, c4, c5, c6, c7, c8, c9, c10, c11, c12, c13, c14, c15, c16, c17].drop 6).take (Tryz.prog.cellsOf 45)) = some y4 := (hf 4 _ rfl).trans hy4
 have k4 : Tryz.prog.cellsOf 45 = 7 := by kernel_rfl
 rw [k4] at g4
 replace g4 : DataW.trod enc Tryz.prog W 0 (fun _ => true) true n' 45 [c6, c7, c8, c9, c10, c11, c12] = some y4 := g4
 obtain ⟨y5, hy5⟩ : ∃ q, xs[5]? = some q := ⟨_, List.getElem?_eq_getElem (by omega)⟩
 have g5 : DataW.trod enc Tryz.prog W 0 (fun _ => true) true n' 46 (([c0, c1, c2, c3, c4, c5, c6, c7, c8, c9, c10, c11, c12, c13, c14, c15, c16, c17].drop 13).take (Tryz.prog.cellsOf 46)) = some y5 := (hf 5 _ rfl).trans hy5
 have k5 : Tryz.prog.cellsOf 46 = 1 := by kernel_rfl
 rw [k5] at g5
 replace g5 : DataW.trod enc Tryz.prog W 0 (fun _ => true) true n' 46 [c13] = some y5 := g5
 obtain ⟨y6, hy6⟩ : ∃ q, xs[6]? = some q := ⟨_, List.getElem?_eq_getElem (by omega)⟩
 have g6 : DataW.trod enc Tryz.prog W 0 (fun _ => true) true n' 49 (([c0, c1, c2, c3, c4, c5, c6, c7, c8, c9, c10, c11, c12, c13, c14, c15, c16, c17].drop 14).take (Tryz.prog.cellsOf 49)) = some y6 := (hf 6 _ rfl).trans hy6
 have k6 : Tryz.prog.cellsOf 49 = 3 := by kernel_rfl
 rw [k6] at g6
 replace g6 : DataW.trod enc Tryz.prog W 0 (fun _ => true) true n' 49 [c14, c15, c16] = some y6 := g6
 obtain ⟨y7, hy7⟩ : ∃ q, xs[7]? = some q := ⟨_, List.getElem?_eq_getElem (by omega)⟩
 have g7 : DataW.trod enc Tryz.prog W 0 (fun _ => true) true n' 3 (([c0, c1, c2, c3, c4, c5, c6, c7, c8, c9, c10, c11, c12, c13, c14, c15, c16, c17].drop 17).take (Tryz.prog.cellsOf 3)) = some y7 := (hf 7 _ rfl).trans hy7
 have k7 : Tryz.prog.cellsOf 3 = 1 := by kernel_rfl
 rw [k7] at g7
 replace g7 : DataW.trod enc Tryz.prog W 0 (fun _ => true) true n' 3 [c17] = some y7 := g7
 obtain ⟨kd, ha, -⟩ := DataW.trod_int Tryz.underlying3 g0
 obtain ⟨up, hb, -⟩ := DataW.trod_int Tryz.underlying3 g1
 obtain ⟨fm, hc, -⟩ := DataW.trod_int Tryz.underlying3 g7
 simp only [List.cons.injEq, and_true] at ha hb hc
 subst ha hb hc
 obtain ⟨sz, rfl, hsz⟩ := float_cell (v := c2) Tryz.underlying22 g2
 have V := flts_cells Tryz.underlying41 (k := 3) rfl rfl (fun i hi => by
  have : i = 0 ∨ i = 1 ∨ i = 2 := by omega
  rcases this with rfl | rfl | rfl <;> exact ⟨_, rfl, rfl, rfl⟩) g3
 have O := flts_cells Tryz.underlying45 (k := 7) rfl rfl (fun i hi => by
  have : i = 0 ∨ i = 1 ∨ i = 2 ∨ i = 3 ∨ i = 4 ∨ i = 5 ∨ i = 6 := by omega
  rcases this with rfl | rfl | rfl | rfl | rfl | rfl | rfl <;> exact ⟨_, rfl, rfl, rfl⟩) g4
 obtain ⟨x1, e1, w1⟩ := V 0 (by omega)
 obtain ⟨x2, e2, w2⟩ := V 1 (by omega)
 obtain ⟨x3, e3, w3⟩ := V 2 (by omega)
 obtain ⟨o1, f1, p1⟩ := O 0 (by omega)
 obtain ⟨o2, f2, p2⟩ := O 1 (by omega)
 obtain ⟨o3, f3, p3⟩ := O 2 (by omega)
 obtain ⟨o4, f4, p4⟩ := O 3 (by omega)
 obtain ⟨o5, f5, p5⟩ := O 4 (by omega)
 obtain ⟨o6, f6, p6⟩ := O 5 (by omega)
 obtain ⟨o7, f7, p7⟩ := O 6 (by omega)
 obtain rfl := Option.some.inj e1
 obtain rfl := Option.some.inj e2
 obtain rfl := Option.some.inj e3
 obtain rfl := Option.some.inj f1
 obtain rfl := Option.some.inj f2
 obtain rfl := Option.some.inj f3
 obtain rfl := Option.some.inj f4
 obtain rfl := Option.some.inj f5
 obtain rfl := Option.some.inj f6
 obtain rfl := Option.some.inj f7
 obtain ⟨T, tao, tcap, d0, d1, d2, rfl, rfl, rfl, t1, t2, t3, t4, t5, t6⟩ := open_tab3 g6
 have hv13 : ∃ ao n c, c13 = .slice ao n c := by
  rcases DataW.trod_slice Tryz.underlying46 g5 with ⟨e, -⟩ | ⟨a, len, cap, -, -, -, -, e, -⟩
  · simp at e; exact ⟨_, _, _, e⟩
  · simp at e; exact ⟨_, _, _, e⟩
 have hT13 : DataW.Trod enc Tryz.prog W 0 (fun _ => true) true 46 c13 y5.1 y5.2 := by
  obtain ⟨a, b, c, rfl⟩ := hv13
  exact ⟨n', g5⟩
 obtain ⟨wao, wcap, L, rfl, u1, u2, u3, u4, u5⟩ := open_waves hv13 hT13
 refine ⟨⟨⟨kd, up, sz, (x1, x2, x3), ⟨o1, o2, o3, o4, o5, o6, o7⟩, L, T, fm⟩, wao, wcap, tao, tcap⟩, rfl, ⟨hsz, ⟨w1, w2, w3⟩, ⟨p1, p2, p3, p4, p5, p6, p7⟩, u4, t3, ⟨u3, t4, u1, t1, fun e => ?_, t2⟩⟩, ?_⟩
 · rcases u5 with ⟨-, q⟩ | ⟨⟨a, q⟩, -⟩
   · exact q
   · have e' : wao = none := e
     rw [e'] at q; cases q
 · match xs, hx8 with
   | [z0, z1, z2, z3, z4, z5, z6, z7], _ =>
     obtain rfl := Option.some.inj hy5
     obtain rfl := Option.some.inj hy6
     refine ⟨z0.1, z1.1, z2.1, z3.1, z4.1, z5.1, z7.1, d0, d1, d2, ?_, ?_, t6⟩
     · rw [hx, ← t5]; rfl
     · rcases u5 with ⟨q, r⟩ | ⟨-, es, sp, q, r⟩
       · left
         subst q r
         have hL : L = [] := List.eq_nil_of_length_eq_zero (by omega)
         subst hL
         refine ⟨rfl, ?_⟩
         rcases DataW.trod_slice Tryz.underlying46 g5 with ⟨-, e⟩ | ⟨a, len, cap, -, -, -, -, e, -⟩
         · rw [e]
         · simp at e
       · right
         exact ⟨es, sp, q, by show L.length ≤ _; omega⟩
theorem open_rowsD {W : World} {v : Value} {d : DataW H} {ps : List MemPlace} {t e : TypeId} {m : Nat} (Good : List Value → DataW H → Prop) (te : Tryz.prog.underlying t = some (.slice e)) (hC : Tryz.prog.cellsOf e = m) (hm0 : 0 < m)
 (rd : ∀ n cs y, cs.length = m → DataW.trod enc Tryz.prog W 0 (fun _ => true) true n e cs = some y → Good cs y.1)
 (hval : ∃ ao n c, v = .slice ao n c) (h : DataW.Trod enc Tryz.prog W 0 (fun _ => true) true t v d ps) :
 ∃ (ao : Option Addr) (cap : Nat) (R : List (List Value)) (es : List (DataW H)), v = .slice ao (List.length R) cap ∧ R.length ≤ cap ∧ cap ≤ maxLen ∧ RAt W ao m R ∧ List.length es = R.length ∧ (∀ (j : Nat) (r : List Value), R[j]? = some r → ∃ d', es[j]? = some d' ∧ Good r d' ∧ r.length = m) ∧ ((ao = none ∧ cap = 0 ∧ R = []) ∨ ((∃ a, ao = some a) ∧ ∃ sp : List (DataW H), d = .slice es sp ∧ es.length + sp.length = cap)) := by
 obtain ⟨a0, n0, c0, rfl⟩ := hval
 obtain ⟨fuel, hf⟩ := h
 rcases open_slice te hf with ⟨h1, _⟩ | ⟨a, len, cap, k, n, D, Pl, h1, _, hl, hm, hmm, hx, hcell⟩
 · simp [Value.cells] at h1
   obtain ⟨rfl, rfl, rfl⟩ := h1
   exact ⟨none, 0, [], [], rfl, Nat.le_refl _, by decide, by intro j r hj; simp at hj, rfl, by intro j r hj; simp at hj, Or.inl ⟨rfl, rfl, rfl⟩⟩
 · simp [Value.cells] at h1
   obtain ⟨rfl, rfl, rfl⟩ := h1
   simp only [if_true] at hmm
   subst hmm
   rw [hC] at hcell
   obtain ⟨F, hF⟩ := Deep.choose_lt (n := k) (p := fun i (q : List Value) => W.cells? 0 (a.add (i * m)) m = some q ∧ Good q (D i)) (fun i hi => by
    obtain ⟨cs, h1, h2⟩ := hcell i hi
    have hl := (World.cells?_some h1).2.1
    exact ⟨cs, h1, rd n cs _ hl h2⟩)
   refine ⟨some a, k, (List.range n0).map F, (List.range n0).map D, by simp, by simpa using hl, hm, ?_, by simp, ?_, Or.inr ⟨⟨a, rfl⟩, (List.range (k - n0)).map fun j => D (n0 + j), by simpa using (congrArg Prod.fst hx), by simp; omega⟩⟩
   · intro j r hj
     have hjl : j < n0 := by have := (List.getElem?_eq_some_iff.1 hj).1; simpa using this
     have hr : r = F j := by
        have : ((List.range n0).map F)[j]? = some (F j) := by simp [hjl]
        rw [this] at hj
        exact (Option.some.inj hj).symm
     subst hr
     obtain ⟨h1, -⟩ := hF j (by omega)
     obtain ⟨_, hlen, hat⟩ := World.cells?_some h1
     obtain ⟨b, o, s⟩ := a
     have hv : (F j)[0]? = some ((F j)[0]'(by omega)) := List.getElem?_eq_getElem (by omega)
     have hc0 := (hat 0 hm0).trans hv
     have hsp : s = none := by
        obtain ⟨g1, -⟩ := hF 0 (by omega)
        obtain ⟨_, hlen1, hat1⟩ := World.cells?_some g1
        have hv1 : (F 0)[0]? = some ((F 0)[0]'(by omega)) := List.getElem?_eq_getElem (by omega)
        have hc1 := (hat1 0 hm0).trans hv1
        simpa [Addr.add] using World.cell?_spot hc1
     subst hsp
     rw [ad_plainR, ad_plainR] at hc0
     refine ⟨b, o, rfl, World.block_lt_of_cell? W _ hc0, fun c u hu => ?_⟩
     have hcl := (List.getElem?_eq_some_iff.1 hu).1
     have h2 := (hat c (by omega)).trans hu
     rwa [ad_plainR, ad_plainR] at h2
   · intro j r hj
     have hjl : j < n0 := by have := (List.getElem?_eq_some_iff.1 hj).1; simpa using this
     have hr : r = F j := by
        have : ((List.range n0).map F)[j]? = some (F j) := by simp [hjl]
        rw [this] at hj
        exact (Option.some.inj hj).symm
     subst hr
     obtain ⟨h1, hG⟩ := hF j (by omega)
     exact ⟨D j, by simp [hjl], hG, (World.cells?_some h1).2.1⟩
instance : Inhabited Bm := ⟨bmZ⟩
theorem list_of {R : List (List Value)} {G : Nat → Bm → Prop} (h : ∀ j r, R[j]? = some r → ∃ m, r = bmC m ∧ G j m) : ∃ M : List Bm, R = M.map bmC ∧ ∀ j, j < M.length → G j (bmAt M j) := by
 obtain ⟨F, hF⟩ := Deep.choose_lt (n := R.length) (p := fun i m => R[i]? = some (bmC m) ∧ G i m) (fun i hi => by
  obtain ⟨m, e, g⟩ := h i _ (List.getElem?_eq_getElem hi)
  exact ⟨m, by rw [← e]; exact List.getElem?_eq_getElem hi, g⟩)
 refine ⟨(List.range R.length).map F, List.ext_getElem? fun i => ?_, fun j hj => ?_⟩
 · by_cases hi : i < R.length
   · rw [(hF i hi).1]; simp [hi]
   · rw [List.getElem?_eq_none (by omega), List.getElem?_eq_none (by simp; omega)]
 · have hj' : j < R.length := by simpa using hj
   have e : bmAt ((List.range R.length).map F) j = F j := by unfold bmAt; simp [List.getD, hj']
   rw [e]; exact (hF j hj').2
structure SkG (W : World) (S : Sy) (fao bao : Option Addr) (fc bc : Nat) (M : List Bm) (d : DataW H) : Prop where
 eq : M.map Bm.b = S.bs
 at_ : SkAt W S fao bao M
 lt : S.lt < 18446744073709551616
 fs : FsW S.fs
 fz : fao = none → fc = 0
 fl : S.fs.length ≤ fc
 fm : fc ≤ maxLen
 bl : S.bs.length ≤ bc
 bm : bc ≤ maxLen
 bz : bao = none → bc = 0
 each : ∀ m ∈ M, BmG W m
 data : ∃ d0 d1 d2, d = .agg [d0, d1, d2] ∧ (S.fs = [] ∨ ∃ es sp : List (DataW H), d1 = .slice es sp ∧ S.fs.length ≤ es.length + sp.length) ∧ (S.bs = [] ∨ ∃ es sp : List (DataW H), d2 = .slice es sp ∧ es.length = S.bs.length ∧ ∀ j, j < M.length → ∃ d', es[j]? = some d' ∧ BD d' (bmAt M j))
theorem open_sky {W : World} {r : Reach} {b0 : Nat} {v : Value} {d : DataW H} {p : List MemPlace}
 (hv : Value.okWide Tryz.prog W r b0 26 v) (h : DataW.Trod enc Tryz.prog W 0 (fun _ => true) true 26 v d p) :
 ∃ S fao fc bao bc M, v = .agg #[.float .f64 S.lt, .slice fao (List.length S.fs) fc, .slice bao (List.length S.bs) bc] ∧ SkG W S fao bao fc bc M d := by
 obtain ⟨cs, rfl, hs⟩ := okWide_struct Tryz.underlying26 hv
 obtain ⟨c0, c1, c2, rfl⟩ : ∃ c0 c1 c2, cs = #[c0, c1, c2] := by
  obtain ⟨l⟩ := cs
  have hl : l.length = 3 := hs.trans (by kernel_rfl)
  obtain ⟨a, b, c, rfl⟩ := list3 hl
  exact ⟨a, b, c, rfl⟩
 obtain ⟨fuel, hf⟩ := h
 obtain ⟨y0, y1, y2, n, hx, -, h0, h1, h2⟩ := Go.Deep.trod_struct3 Tryz.underlying26 hf
 have e0 : Tryz.prog.cellsOf 22 = 1 := by kernel_rfl
 have e1 : Tryz.prog.cellsOf 23 = 1 := by kernel_rfl
 have e2 : Tryz.prog.cellsOf 24 = 1 := by kernel_rfl
 have k0 : DataW.trod enc Tryz.prog W 0 (fun _ => true) true n 22 (([c0, c1, c2].drop 0).take (Tryz.prog.cellsOf 22)) = some y0 := h0
 have k1 : DataW.trod enc Tryz.prog W 0 (fun _ => true) true n 23 (([c0, c1, c2].drop 1).take (Tryz.prog.cellsOf 23)) = some y1 := h1
 have k2 : DataW.trod enc Tryz.prog W 0 (fun _ => true) true n 24 (([c0, c1, c2].drop 2).take (Tryz.prog.cellsOf 24)) = some y2 := h2
 rw [e0] at k0
 rw [e1] at k1
 rw [e2] at k2
 replace k1 : DataW.trod enc Tryz.prog W 0 (fun _ => true) true n 23 [c1] = some y1 := k1
 replace k2 : DataW.trod enc Tryz.prog W 0 (fun _ => true) true n 24 [c2] = some y2 := k2
 obtain ⟨lt, rfl, hlt⟩ := float_cell (v := c0) Tryz.underlying22 k0
 have v1 : ∃ ao n c, c1 = .slice ao n c := by
  rcases DataW.trod_slice Tryz.underlying23 k1 with ⟨e, -⟩ | ⟨a, len, cap, -, -, -, -, e, -⟩
  · simp at e; exact ⟨_, _, _, e⟩
  · simp at e; exact ⟨_, _, _, e⟩
 have v2 : ∃ ao n c, c2 = .slice ao n c := by
  rcases DataW.trod_slice Tryz.underlying24 k2 with ⟨e, -⟩ | ⟨a, len, cap, -, -, -, -, e, -⟩
  · simp at e; exact ⟨_, _, _, e⟩
  · simp at e; exact ⟨_, _, _, e⟩
 have T1 : DataW.Trod enc Tryz.prog W 0 (fun _ => true) true 23 c1 y1.1 y1.2 := by
  obtain ⟨a, b, c, rfl⟩ := v1
  exact ⟨n, k1⟩
 have T2 : DataW.Trod enc Tryz.prog W 0 (fun _ => true) true 24 c2 y2.1 y2.2 := by
  obtain ⟨a, b, c, rfl⟩ := v2
  exact ⟨n, k2⟩
 obtain ⟨fao, fc, F, rfl, f1, f2, f3, f4, f5⟩ := open_frames v1 T1
 obtain ⟨bao, bc, R, es, rfl, b1, b2, b3, b4, b5, b6⟩ := open_rowsD (m := 18) (fun cs d => ∃ m : Bm, cs = bmC m ∧ BmG W m ∧ BD d m) Tryz.underlying24 (by kernel_rfl) (by omega) (fun n cs y hl hy => body_cells n cs y hl hy) v2 T2
 obtain ⟨M, rfl, hM⟩ := list_of (R := R) (G := fun j m => BmG W m ∧ ∃ d', es[j]? = some d' ∧ BD d' m) (fun j r hj => by
  obtain ⟨d', e, ⟨m, em, g, bd⟩, -⟩ := b5 j r hj
  exact ⟨m, em, g, d', e, bd⟩)
 rw [List.length_map] at b1 b4
 have hME : ∀ m ∈ M, BmG W m := fun m hm => by
  obtain ⟨j, hj, rfl⟩ := List.mem_iff_getElem.1 hm
  have := (hM j hj).1
  rwa [show bmAt M j = M[j] by unfold bmAt; simp [List.getD, hj]] at this
 refine ⟨⟨lt, F, M.map Bm.b⟩, fao, fc, bao, bc, M, by simp, ⟨rfl, ⟨f3, ⟨b3, fun m hm => (hME m hm).mem⟩⟩, hlt, f4, fun e => ?_, f1, f2, by simpa using b1, b2, fun e => ?_, hME, y0.1, y1.1, y2.1, congrArg Prod.fst hx, ?_, ?_⟩⟩
 · rcases f5 with ⟨-, q⟩ | ⟨⟨a, q⟩, -⟩
   · exact q
   · rw [e] at q; cases q
 · rcases b6 with ⟨-, q, -⟩ | ⟨⟨a, q⟩, -⟩
   · exact q
   · rw [e] at q; cases q
 · rcases f5 with ⟨-, q⟩ | ⟨-, es', sp, q, r⟩
   · left
     show F = []
     exact List.eq_nil_of_length_eq_zero (by omega)
   · right; exact ⟨es', sp, q, by show F.length ≤ _; omega⟩
 · rcases b6 with ⟨-, -, q⟩ | ⟨-, sp, q, r⟩
   · left
     show M.map Bm.b = []
     rw [List.map_eq_nil_iff.1 q]; rfl
   · right; exact ⟨es, sp, q, by rw [b4]; simp, fun j hj => (hM j hj).2⟩
theorem bytesWv : Tryz.prog.bytesOf 115 = 40 := by kernel_rfl
theorem bytesFr : Tryz.prog.bytesOf 91 = 56 := by kernel_rfl
theorem bytesBd : Tryz.prog.bytesOf 51 = 176 := by kernel_rfl
theorem bd_size {d : DataW H} {m : Bm} (h : BD d m) (hs : ∀ x ∈ d.weights Tryz.prog 51, x ≤ reachBytes) : m.b.wvs.length * 40 ≤ 140737488351232 ∧ TbSz m.b.tab := by
 obtain ⟨d0, d1, d2, d3, d4, d5, d7, t0, t1, t2, rfl, hw, ht⟩ := h
 constructor
 · rcases hw with ⟨e, -⟩ | ⟨es, sp, rfl, e⟩
   · rw [e]; simp
   · have := hs ((es.length + sp.length) * Tryz.prog.bytesOf 115) (by
        simp only [DataW.weights, Tryz.underlying51]
        exact DataW.weights_mem_each (j := 5) (t := 46) rfl rfl _ (by simp [DataW.weights, Tryz.underlying46]))
     rw [bytesWv] at this
     unfold reachBytes at this
     omega
 · refine td_size ht fun x hx => hs x ?_
   simp only [DataW.weights, Tryz.underlying51]
   exact DataW.weights_mem_each (j := 6) (t := 49) rfl rfl x (by
    simp only [DataW.weights, Tryz.underlying49]
    exact DataW.weights_mem_each (j := 2) (t := 47) rfl rfl x hx)
structure SkZ (S : Sy) : Prop where
 f : S.fs.length * 56 ≤ 140737488351232
 b : S.bs.length * 176 ≤ 140737488351232
 w : SyW S
theorem sky_size {W : World} {S : Sy} {fao bao : Option Addr} {fc bc : Nat} {M : List Bm} {d : DataW H} (G : SkG W S fao bao fc bc M d) (hs : ∀ x ∈ d.weights Tryz.prog 26, x ≤ reachBytes) : SkZ S := by
 obtain ⟨d0, d1, d2, rfl, hF, hB⟩ := G.data
 have lM : M.length = S.bs.length := by rw [← G.eq, List.length_map]
 have f : S.fs.length * 56 ≤ 140737488351232 := by
  rcases hF with e | ⟨es, sp, rfl, e⟩
  · rw [e]; simp
  · have := hs ((es.length + sp.length) * Tryz.prog.bytesOf 91) (by
        simp only [DataW.weights, Tryz.underlying26]
        exact DataW.weights_mem_each (j := 1) (t := 23) rfl rfl _ (by simp [DataW.weights, Tryz.underlying23]))
    rw [bytesFr] at this
    unfold reachBytes at this
    omega
 have b : S.bs.length * 176 ≤ 140737488351232 ∧ ∀ m ∈ M, m.b.wvs.length * 40 ≤ 140737488351232 ∧ TbSz m.b.tab := by
  rcases hB with e | ⟨es, sp, rfl, e, hj⟩
  · rw [e] at lM
    have : M = [] := List.eq_nil_of_length_eq_zero (by simpa using lM)
    subst this
    exact ⟨by rw [e]; simp, fun m hm => by cases hm⟩
  · constructor
    · have := hs ((es.length + sp.length) * Tryz.prog.bytesOf 51) (by
       simp only [DataW.weights, Tryz.underlying26]
       exact DataW.weights_mem_each (j := 2) (t := 24) rfl rfl _ (by simp [DataW.weights, Tryz.underlying24]))
      rw [bytesBd] at this
      unfold reachBytes at this
      omega
    · intro m hm
      obtain ⟨j, hjl, rfl⟩ := List.mem_iff_getElem.1 hm
      obtain ⟨d', ed, bd⟩ := hj j hjl
      rw [show bmAt M j = M[j] by unfold bmAt; simp [List.getD, hjl]] at bd
      refine bd_size bd fun x hx => hs x ?_
      simp only [DataW.weights, Tryz.underlying26]
      refine DataW.weights_mem_each (j := 2) (t := 24) rfl rfl x ?_
      have m2 := mem_weights (P := Tryz.prog) (e := 51) ed hx
      simp only [DataW.weights, Tryz.underlying24, List.mem_cons, List.mem_append]
      exact .inr (.inl m2)
 refine ⟨f, b.1, ⟨G.lt, G.fs, fun c hc => ?_, by omega, by have := b.1; omega⟩⟩
 rw [← G.eq] at hc
 obtain ⟨m, hm, rfl⟩ := List.mem_map.1 hc
 have g := G.each m hm
 have s := b.2 m hm
 exact ⟨g.sz, g.at_, g.orb, g.wvs, g.tab, s.1, s.2⟩
end
end Go.Proofs.YtacinenddnfcbaaGreat

namespace Go.Proofs.YtacinenddnfcbaaGreat
open Go.ChangeShapes Go.WideShapes Go.ChangeAt Go.RowKit Ieee.Own

theorem gath_congr {α : Type} {z : α} {own own' : Nat → α × Int} {add : α → α → α × Int} : ∀ (js : List Nat) (v : α), (∀ j ∈ js, own j = own' j) → gath z own add js v = gath z own' add js v
 | [], v, _ => rfl
 | j :: js, v, h => by
   unfold gath
   rw [h j (List.mem_cons_self ..), gath_congr js _ fun k hk => h k (List.mem_cons_of_mem _ hk)]
theorem way_fix {F : List Fr} {b : Bo} (d : Nat) (h : b.kd = 1) : wayY F b d = (b.at_, 0) := by
 unfold wayY
 rw [if_neg (by omega), if_neg (by omega), if_neg (by omega), if_neg (by omega)]
end Go.Proofs.YtacinenddnfcbaaGreat

namespace Go.Proofs.YtacinenddnfcbaaGreat
open Go.ChangeShapes Go.WideShapes Go.ChangeAt Go.RowKit Ieee.Own

def awB1 : Bm := ⟨⟨1, -1, 0, (4607182418800017408, 0, 0), obZ, [], ⟨0, 0, []⟩, 0⟩, none, 0, none, 0⟩
def awB2 : Bm := ⟨⟨1, 0, 0, (0, 4611686018427387904, 0), obZ, [], ⟨0, 0, []⟩, 0⟩, none, 0, none, 0⟩
def awSk : Sy := ⟨4607182418800017408, [], [awB1.b, awB2.b]⟩
theorem bow_of {b : Bo} (h1 : b.sz < 18446744073709551616) (h2 : W3 b.at_) (h3 : b.orb = obZ) (h4 : b.wvs = []) (h5 : b.tab = ⟨0, 0, []⟩) : BoW b := by
 refine ⟨h1, h2, ?_, ?_, ?_, ?_, ?_⟩
 · rw [h3]; exact ⟨by decide, by decide, by decide, by decide, by decide, by decide, by decide⟩
 · rw [h4]; exact fun f hf => by cases hf
 · rw [h5]; exact ⟨by decide, by decide, fun i k x hx => by simp [cfT] at hx⟩
 · rw [h4]; decide
 · rw [h5]; exact ⟨by decide, fun i k _ => by simp [cfT]⟩
theorem awSk_w : SyW awSk := by
 refine ⟨by decide, fun f hf => (by cases hf), fun b hb => ?_, by decide, by decide⟩
 unfold awSk at hb
 simp only [List.mem_cons, List.not_mem_nil, or_false] at hb
 rcases hb with rfl | rfl
 · exact bow_of (by decide) ⟨by decide, by decide, by decide⟩ rfl rfl rfl
 · exact bow_of (by decide) ⟨by decide, by decide, by decide⟩ rfl rfl rfl
theorem awSk_pl : plS awSk 1 0 = ((4607182418800017408, 4611686018427387904, 0), 0) := by
 have r : rdyS awSk 1 (witB g24 0) = 0 := by decide +kernel
 have wy : wayS awSk.bs awSk.bs.length 1 = [1, 0] := by decide +kernel
 have k1 : (boAt awSk.bs 1).kd = 1 := rfl
 have k0 : (boAt awSk.bs 0).kd = 1 := rfl
 have a1 : addR (boAt awSk.bs 1).at_ z3 = ((0, 4611686018427387904, 0), 0) := by decide +kernel
 have a2 : addR (boAt awSk.bs 0).at_ (0, 4611686018427387904, 0) = ((4607182418800017408, 4611686018427387904, 0), 0) := by decide +kernel
 unfold plS
 rw [if_neg (by rw [r]; simp), wy]
 unfold gath
 rw [way_fix 0 k1]
 dsimp only
 rw [a1]
 unfold gath
 rw [way_fix 0 k0]
 dsimp only
 rw [a2]
 unfold gath
 rfl
theorem bmat_zero {w : World} {m : Bm} (h1 : m.b.wvs = []) (h2 : m.b.tab.rows = []) (h3 : m.wcap = 0) (h4 : m.tcap = 0) : BmAt w m :=
 ⟨by rw [h1]; exact fun j r hj => by simp at hj, by rw [h2]; exact fun i hi => by simp at hi, by rw [h1, h3]; exact Nat.le_refl _, by rw [h2, h4]; exact Nat.le_refl _, fun _ => h3, fun _ => h4⟩
theorem awake15 (w : World) : Calls Tryz.prog 7 #[] w fun e w' => e = .returned (.bool true) ∧ Below w.heap.size w w' := by
 have C : Hid (∀ (W : World) g, W.rangeAt g 0 (bmC awB1 ++ bmC awB2) → g < W.heap.size → Calls Tryz.prog 13 #[.agg #[.float .f64 4607182418800017408, .slice none 0 0, .slice (some ⟨g, 0, none⟩) 2 2], .int .i64 1, .float .f64 0] W fun e w' => e = .returned (.tuple #[.agg #[.float .f64 4607182418800017408, .float .f64 4611686018427387904, .float .f64 0], .int .i64 0]) ∧ Below W.heap.size W w') := Lib.hid fun W g hr hg => by
  have ha : SkAt W awSk none (some ⟨g, 0, none⟩) [awB1, awB2] := by
   refine ⟨fun j r hj => by simp [awSk] at hj, ⟨fun j r hj => ?_, fun m hm => ?_⟩⟩
   · have hj2 := (List.getElem?_eq_some_iff.1 hj).1
     have : j = 0 ∨ j = 1 := by simp at hj2; omega
     rcases this with rfl | rfl
     · obtain rfl := Option.some.inj hj
       refine ⟨g, 0, rfl, hg, fun k u hu => ?_⟩
       have hk : k < (bmC awB1).length := (List.getElem?_eq_some_iff.1 hu).1
       have := hr k u (by rw [List.getElem?_append_left hk]; exact hu)
       rwa [show 0 + 0 * 18 + k = 0 + k by omega]
     · obtain rfl := Option.some.inj hj
       refine ⟨g, 0, rfl, hg, fun k u hu => ?_⟩
       have h18 : (bmC awB1).length = 18 := rfl
       have := hr (18 + k) u (by rw [List.getElem?_append_right (by omega), h18, show 18 + k - 18 = k by omega]; exact hu)
       rwa [show 0 + 1 * 18 + k = 0 + (18 + k) by omega]
   · simp only [List.mem_cons, List.not_mem_nil, or_false] at hm
     rcases hm with rfl | rfl <;> exact bmat_zero rfl rfl rfl rfl
  have := yplace_run awSk_w (M := [awB1, awB2]) rfl (fc := 0) (bc := 2) (i := 1) (d := 0) (by decide) ha
  rw [awSk_pl] at this
  exact this
 have t1 : (FloatKind.f64.format.order 4607182418800017408 4607182418800017408 == some Ordering.eq) = true := by decide +kernel
 have t2 : (FloatKind.f64.format.order 4611686018427387904 4611686018427387904 == some Ordering.eq) = true := by decide +kernel
 have t3 : (FloatKind.f64.format.order 0 0 == some Ordering.eq) = true := by decide +kernel
 have hst := @fstore
 have heq := feq_run
 have K := kv2 w 51 26 [.int .i64 1, .int .i64 (-1), .float .f64 0, .float .f64 4607182418800017408, .float .f64 0, .float .f64 0, .float .f64 0, .float .f64 0, .float .f64 0, .float .f64 0, .float .f64 0, .float .f64 0, .float .f64 0, .slice none 0 0, .float .f64 0, .float .f64 0, .slice none 0 0, .int .i64 0, .int .i64 1, .int .i64 0, .float .f64 0, .float .f64 0, .float .f64 4611686018427387904, .float .f64 0, .float .f64 0, .float .f64 0, .float .f64 0, .float .f64 0, .float .f64 0, .float .f64 0, .float .f64 0, .slice none 0 0, .float .f64 0, .float .f64 0, .slice none 0 0, .int .i64 0] [.float .f64 4607182418800017408, .slice none 0 0, .slice (some ⟨w.heap.size, 0, none⟩) 2 2]
 simp only [objV] at K
 have r1 : Hid (((w.alloc (.cells #[.int .i64 1, .int .i64 (-1), .float .f64 0, .float .f64 4607182418800017408, .float .f64 0, .float .f64 0, .float .f64 0, .float .f64 0, .float .f64 0, .float .f64 0, .float .f64 0, .float .f64 0, .float .f64 0, .slice none 0 0, .float .f64 0, .float .f64 0, .slice none 0 0, .int .i64 0, .int .i64 1, .int .i64 0, .float .f64 0, .float .f64 0, .float .f64 4611686018427387904, .float .f64 0, .float .f64 0, .float .f64 0, .float .f64 0, .float .f64 0, .float .f64 0, .float .f64 0, .float .f64 0, .slice none 0 0, .float .f64 0, .float .f64 0, .slice none 0 0, .int .i64 0] 51)).alloc (.cells #[.float .f64 4607182418800017408, .slice none 0 0, .slice (some ⟨w.heap.size, 0, none⟩) 2 2] 26)).rangeAt w.heap.size 0 (bmC awB1 ++ bmC awB2)) := Lib.hid (World.rangeAt_alloc (range_alloc w (bmC awB1 ++ bmC awB2) 51) _)
 replace K := Lib.hid K
 go_enter Tryz.func7, Tryz.ntmps7
 go_upto_region 2 with fail
 replace K := K.out
 generalize (w.alloc _).alloc _ = wr at *
 have c1_0 := (K.at_ 1 rfl).at_ 0 _ rfl
 have c1_1 := (K.at_ 1 rfl).at_ 1 _ rfl
 have c1_2 := (K.at_ 1 rfl).at_ 2 _ rfl
 have hlt := (K.at_ 0 rfl).lt
 have C1 := Lib.hid (C.out wr _ r1.out hlt)
 have K9 := (Kv.nil wr).old
 have hold := Lib.hid K.old
 clear C r1 K K9
 go_wp2_with fail
 refine C1.out.mono ?_
 rintro _ v1 ⟨rfl, hb⟩
 have hold2 := Lib.hid (hold.out.trans (hb.mono hold.out.size))
 have K := (Kv.nil v1).new 41 [.float .f64 4607182418800017408, .float .f64 4611686018427387904, .float .f64 0]
 simp only [objV, List.nil_append] at K
 have hold3 := Lib.hid (hold2.out.alloc hold2.out.size (.cells #[.float .f64 4607182418800017408, .float .f64 4611686018427387904, .float .f64 0] 41))
 clear hb C1 hold hold2 hlt c1_0 c1_1 c1_2
 have c0_0 := (K.at_ 0 rfl).at_ 0 _ rfl
 have c0_1 := (K.at_ 0 rfl).at_ 1 _ rfl
 have c0_2 := (K.at_ 0 rfl).at_ 2 _ rfl
 clear K
 go_wp2_with fail
 go_ret
 exact ⟨by first | rfl | trivial, hold3.out⟩
end Go.Proofs.YtacinenddnfcbaaGreat
