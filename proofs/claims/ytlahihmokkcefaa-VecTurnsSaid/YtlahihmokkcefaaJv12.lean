/- Proved here: what the texts Vmg prove, one behind the other. -/
import Derived.Test.YtlahihmokkcefaaJv10
import Derived.Test.YtlahihmokkcefaaJv8

namespace Go.Proofs.Ytlahihmokkcefaa
open Go.ChangeShapes Go.WideShapes Go.ChangeAt Go.RowKit Ieee.Own

/-! ### Times -/
theorem told_zero' {p : V3} (h : (toldR p).2 = 0) : fitV (bV p) = true := by
  unfold toldR at h
  split at h
  · rename_i c; exact c
  · simp at h
def prodM (a b : M9) : M9 := ((dW (colM b).1 a.1, dW (colM b).2.1 a.1, dW (colM b).2.2 a.1), (dW (colM b).1 a.2.1, dW (colM b).2.1 a.2.1, dW (colM b).2.2 a.2.1), (dW (colM b).1 a.2.2, dW (colM b).2.1 a.2.2, dW (colM b).2.2 a.2.2))
def timesR (a b : M9) : M9 × Int := if (fitM a && fitM b) = true then toldM (prodM a b) else (z9, 3)
theorem prod_fin {a b : M9} (ha : D9 a) (hb : D9 (colM b)) : F9 (prodM a b) :=
  ⟨⟨(dot_ok hb.d1.bd ha.d1.bd).fin, (dot_ok hb.d2.bd ha.d1.bd).fin, (dot_ok hb.d3.bd ha.d1.bd).fin⟩,
   ⟨(dot_ok hb.d1.bd ha.d2.bd).fin, (dot_ok hb.d2.bd ha.d2.bd).fin, (dot_ok hb.d3.bd ha.d2.bd).fin⟩,
   ⟨(dot_ok hb.d1.bd ha.d3.bd).fin, (dot_ok hb.d2.bd ha.d3.bd).fin, (dot_ok hb.d3.bd ha.d3.bd).fin⟩⟩
set_option maxHeartbeats 4000000 in
set_option maxRecDepth 100000 in
theorem vtimes_any {a b : M9} (ha : W9 a) (hb : W9 b) (w : World) : Calls Try.prog 32 #[matV a, matV b] w fun e w' => e = .returned (matE (timesR a b).1 (timesR a b).2) ∧ Below w.heap.size w w' := by
  have C1 := fun w => vfitmat_run ha w
  have C2 := fun w => vfitmat_run hb w
  by_cases h1 : fitM a = true
  · rw [h1] at C1
    by_cases h2 : fitM b = true
    · rw [h2] at C2
      have e : timesR a b = toldM (prodM a b) := if_pos (by rw [h1, h2]; rfl)
      rw [e]
      have A := fitM_wd ha h1
      have B := fitM_wd (col_w hb) (col_fit h2)
      have C3 := fun w => vcols_run b w
      have C4 := fun w => vtoldmat_any (prod_fin A B) w
      have row : ∀ {v : V3}, D3 v → ∀ w, Calls Try.prog 70 #[matV (colM b), vecV v] w fun e w' => e = .returned (vecV (dW (colM b).1 v, dW (colM b).2.1 v, dW (colM b).2.2 v)) ∧ Below w.heap.size w w' := fun {v} hv w =>
        vprods_ok (Lib.hid fun w => vprod_run (dot_ok B.d1.bd hv.bd) w) (Lib.hid fun w => vprod_run (dot_ok B.d2.bd hv.bd) w) (Lib.hid fun w => vprod_run (dot_ok B.d3.bd hv.bd) w) w
      exact vtimes_ok (Lib.hid C1) (Lib.hid C2) (Lib.hid C3) (Lib.hid (row A.d1)) (Lib.hid (row A.d2)) (Lib.hid (row A.d3)) (Lib.hid C4) w
    · rw [Bool.eq_false_iff.2 h2] at C2
      have e : timesR a b = (z9, 3) := if_neg (by rw [Bool.eq_false_iff.2 h2]; simp)
      rw [e]
      exact vtimes_nb (Lib.hid C1) (Lib.hid C2) w
  · rw [Bool.eq_false_iff.2 h1] at C1
    have e : timesR a b = (z9, 3) := if_neg (by rw [Bool.eq_false_iff.2 h1]; simp)
    rw [e]
    exact vtimes_na (Lib.hid C1) w
theorem mX_val {a b c d : Nat} (ha : Wd a 822 1134) (hb : Wd b 822 1134) (hc : Wd c 822 1134) (hd : Wd d 822 1134) (h1 : V a = V d) (h2 : V b = V c) : V (mX a b) = V (mX c d) := by
  have q1 := mul_ok ha.fin hb.fin ha.abs hb.abs (k := 1194) (by omega) (by omega)
  have q2 := mul_ok hc.fin hd.fin hc.abs hd.abs (k := 1194) (by omega) (by omega)
  rw [q1.2.2.1, q2.2.2.1, h1, h2, Int.mul_comm]
theorem dW_swap {a b c d : V3} (ha : D3 a) (hb : D3 b) (hc : D3 c) (hd : D3 d) (h1 : V a.1 = V d.1) (h2 : V a.2.1 = V d.2.1) (h3 : V a.2.2 = V d.2.2) (k1 : V b.1 = V c.1) (k2 : V b.2.1 = V c.2.1) (k3 : V b.2.2 = V c.2.2) : V (dW a b) = V (dW c d) := by
  have D := dot_ok ha.bd hb.bd
  have E := dot_ok hc.bd hd.bd
  rw [D.t2, E.t2, D.t1, E.t1, mX_val ha.w1 hb.w1 hc.w1 hd.w1 h1 k1, mX_val ha.w2 hb.w2 hc.w2 hd.w2 h2 k2, mX_val ha.w3 hb.w3 hc.w3 hd.w3 h3 k3]
theorem D3.b {p : V3} (hw : W3 p) (f : fitV p = true) : D3 (bV p) ∧ V (bV p).1 = V p.1 ∧ V (bV p).2.1 = V p.2.1 ∧ V (bV p).2.2 = V p.2.2 := by
  have B := fitV_bd hw f
  have fb : fitV (bV p) = true := by unfold fitV bV; rw [vnB_bW B.f1 B.b1, vnB_bW B.f2 B.b2, vnB_bW B.f3 B.b3]; rfl
  unfold fitV at f
  simp only [Bool.and_eq_true] at f
  exact ⟨fitV_wd B.fin.b.w fb, bW_fit B.f1 (vnB_spec hw.l1 f.1.1).2.1, bW_fit B.f2 (vnB_spec hw.l2 f.1.2).2.1, bW_fit B.f3 (vnB_spec hw.l3 f.2).2.1⟩
/-- a row of the reference's product -/
theorem row_eq {a : V3} {c : M9} (ha : D3 a) (hc : W9 c) (fc : fitM c = true) : F3 (dW a (bM c).1, dW a (bM c).2.1, dW a (bM c).2.2) ∧ bV (dW a (bM c).1, dW a (bM c).2.1, dW a (bM c).2.2) = bV (dW c.1 a, dW c.2.1 a, dW c.2.2 a) := by
  have g := fitM_of fc
  have D := fitM_wd hc fc
  obtain ⟨e1, p1, p2, p3⟩ := D3.b hc.w1 g.1
  obtain ⟨e2, q1, q2, q3⟩ := D3.b hc.w2 g.2.1
  obtain ⟨e3, r1, r2, r3⟩ := D3.b hc.w3 g.2.2
  have F : F3 (dW a (bM c).1, dW a (bM c).2.1, dW a (bM c).2.2) := ⟨(dot_ok ha.bd e1.bd).fin, (dot_ok ha.bd e2.bd).fin, (dot_ok ha.bd e3.bd).fin⟩
  refine ⟨F, bV_eq F ⟨(dot_ok D.d1.bd ha.bd).fin, (dot_ok D.d2.bd ha.bd).fin, (dot_ok D.d3.bd ha.bd).fin⟩ ?_ ?_ ?_⟩
  · exact dW_swap ha e1 D.d1 ha rfl rfl rfl p1 p2 p3
  · exact dW_swap ha e2 D.d2 ha rfl rfl rfl q1 q2 q3
  · exact dW_swap ha e3 D.d3 ha rfl rfl rfl r1 r2 r3
theorem toldR_of {p q : V3} (h : bV p = bV q) : toldR p = toldR q := by unfold toldR; rw [h]
set_option maxHeartbeats 4000000 in
set_option maxRecDepth 100000 in
theorem rvtimes_any {a b : M9} (ha : W9 a) (hb : W9 b) (w : World) : Calls Try.prog 33 #[matV a, matV b] w fun e w' => e = .returned (matE (timesR a b).1 (timesR a b).2) ∧ Below w.heap.size w w' := by
  have C1 := fun w => rvright_run ha w
  have C2 := fun w => rvright_run hb w
  by_cases h1 : fitM a = true
  · rw [h1] at C1
    by_cases h2 : fitM b = true
    · rw [h2] at C2
      have e : timesR a b = toldM (prodM a b) := if_pos (by rw [h1, h2]; rfl)
      rw [e]
      have A := fitM_wd ha h1
      have cw := col_w hb
      have cf := col_fit h2
      have B := fitM_wd cw cf
      have C3 := fun w => rvflip_any hb w
      rw [show flipR b = (bM (colM b), 0) from if_pos h2] at C3
      obtain ⟨F1, e1⟩ := row_eq A.d1 cw cf
      obtain ⟨F2, e2⟩ := row_eq A.d2 cw cf
      obtain ⟨F3', e3⟩ := row_eq A.d3 cw cf
      have P1 := fun w => rvtold_run F1 w
      have P2 := fun w => rvtold_run F2 w
      have P3 := fun w => rvtold_run F3' w
      rw [show toldR (dW a.1 (bM (colM b)).1, dW a.1 (bM (colM b)).2.1, dW a.1 (bM (colM b)).2.2) = toldR (prodM a b).1 from toldR_of e1] at P1
      rw [show toldR (dW a.2.1 (bM (colM b)).1, dW a.2.1 (bM (colM b)).2.1, dW a.2.1 (bM (colM b)).2.2) = toldR (prodM a b).2.1 from toldR_of e2] at P2
      rw [show toldR (dW a.2.2 (bM (colM b)).1, dW a.2.2 (bM (colM b)).2.1, dW a.2.2 (bM (colM b)).2.2) = toldR (prodM a b).2.2 from toldR_of e3] at P3
      have bb : D9 (bM (colM b)) := ⟨(D3.b cw.w1 (fitM_of cf).1).1, (D3.b cw.w2 (fitM_of cf).2.1).1, (D3.b cw.w3 (fitM_of cf).2.2).1⟩
      have dt : ∀ {x y : V3}, D3 x → D3 y → Hid (∀ w, Calls Try.prog 59 #[vecV x, vecV y] w fun e w' => e = .returned (.float .f64 (dW x y)) ∧ Below w.heap.size w w') := fun hx hy => Lib.hid fun w => rvdot_run (dot_ok hx.bd hy.bd) w
      have ok : ∀ {p : V3}, fitV (bV p) = true → toldR p = (bV p, 0) := fun h => if_pos h
      have no : ∀ {p : V3}, ¬ fitV (bV p) = true → toldR p = (z3, 3) := fun h => if_neg h
      have three : ∀ {p : V3}, (toldR p).2 = 0 → fitV (bV p) = true := fun {p} h => (told_zero' h)
      have neg : ∀ {p : V3}, (toldR p).2 ≠ 0 → fitV (bV p) = false ∧ (toldR p).2 = 3 := fun {p} h => by
        by_cases q : fitV (bV p) = true
        · rw [ok q] at h; exact absurd rfl h
        · exact ⟨Bool.eq_false_iff.2 q, by rw [no q]⟩
      have badm : fitM (bM (prodM a b)) = false → toldM (prodM a b) = (z9, 3) := fun h => if_neg (by rw [h]; decide)
      have E1 := dt A.d1 bb.d1
      have E2 := dt A.d1 bb.d2
      have E3 := dt A.d1 bb.d3
      have E4 := dt A.d2 bb.d1
      have E5 := dt A.d2 bb.d2
      have E6 := dt A.d2 bb.d3
      have E7 := dt A.d3 bb.d1
      have E8 := dt A.d3 bb.d2
      have E9 := dt A.d3 bb.d3
      have H0 : (toldR (prodM a b).1).2 ≠ 0 → toldM (prodM a b) = (z9, (toldR (prodM a b).1).2) := fun h => by
        rw [(neg h).2, badm (by unfold fitM; rw [show fitV (bM (prodM a b)).1 = false from (neg h).1]; rfl)]
      have H1 : (toldR (prodM a b).1).2 = 0 → (toldR (prodM a b).2.1).2 ≠ 0 → toldM (prodM a b) = (z9, (toldR (prodM a b).2.1).2) := fun _ h => by
        rw [(neg h).2, badm (by unfold fitM; rw [show fitV (bM (prodM a b)).2.1 = false from (neg h).1, Bool.and_false]; rfl)]
      have H2 : (toldR (prodM a b).1).2 = 0 → (toldR (prodM a b).2.1).2 = 0 → (toldR (prodM a b).2.2).2 ≠ 0 → toldM (prodM a b) = (z9, (toldR (prodM a b).2.2).2) := fun _ _ h => by
        rw [(neg h).2, badm (by unfold fitM; rw [show fitV (bM (prodM a b)).2.2 = false from (neg h).1, Bool.and_false])]
      have H3 : (toldR (prodM a b).1).2 = 0 → (toldR (prodM a b).2.1).2 = 0 → (toldR (prodM a b).2.2).2 = 0 → toldM (prodM a b) = (((toldR (prodM a b).1).1, (toldR (prodM a b).2.1).1, (toldR (prodM a b).2.2).1), 0) := fun x y z => by
        have x' := three x
        have y' := three y
        have z' := three z
        have g : fitM (bM (prodM a b)) = true := by
          unfold fitM
          rw [show fitV (bM (prodM a b)).1 = true from x', show fitV (bM (prodM a b)).2.1 = true from y', show fitV (bM (prodM a b)).2.2 = true from z']; rfl
        rw [ok x', ok y', ok z', show toldM (prodM a b) = (bM (prodM a b), 0) from if_pos g]; rfl
      clear e e1 e2 e3 ok no three neg badm dt bb B cw cf A F1 F2 F3' h1 h2 ha hb
      generalize toldM (prodM a b) = Y at *
      generalize toldR (prodM a b).1 = T1 at *
      generalize toldR (prodM a b).2.1 = T2 at *
      generalize toldR (prodM a b).2.2 = T3 at *
      obtain ⟨⟨⟨y1, y2, y3⟩, ⟨y4, y5, y6⟩, y7, y8, y9⟩, k⟩ := Y
      unfold z9 z3 at *
      simp only [Prod.mk.injEq] at H0 H1 H2 H3
      refine rvtimes_ok (Lib.hid C1) (Lib.hid C2) (Lib.hid C3) E1 E2 E3 (Lib.hid P1) E4 E5 E6 (Lib.hid P2) E7 E8 E9 (Lib.hid P3) (fun h => ?_) (fun h h' => ?_) (fun h h' h'' => ?_) (fun h h' h'' => ?_) w
      · obtain ⟨⟨⟨p1, p2, p3⟩, ⟨p4, p5, p6⟩, p7, p8, p9⟩, p0⟩ := H0 h; exact ⟨p1, p2, p3, p4, p5, p6, p7, p8, p9, p0⟩
      · obtain ⟨⟨⟨p1, p2, p3⟩, ⟨p4, p5, p6⟩, p7, p8, p9⟩, p0⟩ := H1 h h'; exact ⟨p1, p2, p3, p4, p5, p6, p7, p8, p9, p0⟩
      · obtain ⟨⟨⟨p1, p2, p3⟩, ⟨p4, p5, p6⟩, p7, p8, p9⟩, p0⟩ := H2 h h' h''; exact ⟨p1, p2, p3, p4, p5, p6, p7, p8, p9, p0⟩
      · obtain ⟨⟨p1, p2, p3⟩, p0⟩ := H3 h h' h''
        rw [← p1, ← p2, ← p3]
        exact ⟨rfl, rfl, rfl, rfl, rfl, rfl, rfl, rfl, rfl, p0⟩
    · rw [Bool.eq_false_iff.2 h2] at C2
      have e : timesR a b = (z9, 3) := if_neg (by rw [Bool.eq_false_iff.2 h2]; simp)
      rw [e]
      exact rvtimes_nb (Lib.hid C1) (Lib.hid C2) w
  · rw [Bool.eq_false_iff.2 h1] at C1
    have e : timesR a b = (z9, 3) := if_neg (by rw [Bool.eq_false_iff.2 h1]; simp)
    rw [e]
    exact rvtimes_na (Lib.hid C1) w
end Go.Proofs.Ytlahihmokkcefaa
