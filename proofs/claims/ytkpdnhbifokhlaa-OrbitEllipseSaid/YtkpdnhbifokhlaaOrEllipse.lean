/- Proved here: for all orbits and times the law OrbitEllipse returns true: the distance from the centre lies between the nearest and the farthest. No conditions. -/
import Derived.Test.YtkpdnhbifokhlaaRows
import Derived.Test.YtkpdnhbifokhlaaJp7
import Derived.Test.YtkpdnhbifokhlaaJv3
namespace Go.Proofs.Ytkpdnhbifokhlaa.orbitEllipse
open Go.ChangeShapes Go.WideShapes Go.ChangeAt Go.RowKit

open Ieee.Own Pol Fma
set_option maxHeartbeats 2000000 in
set_option maxRecDepth 100000 in
theorem walk (w : World) (a0 : Ob) (h0 : ObW a0) (a1 : Nat) (h1 : a1 < 18446744073709551616) :
    Calls Try.prog 5 #[obV a0, .float .f64 a1] w fun e w' => e = .returned (.bool true) ∧ Below w.heap.size w w' := by
  have AW := Lib.hid awake11
  have CA := Lib.hid (fun w => oat_run h0 h1 w)
  by_cases k : (atR a0 a1).2 = 0
  · have e : atR a0 a1 = ((atR a0 a1).1, 0) := by rw [← k]
    obtain ⟨hO, hv, fv, R⟩ := at_ring h0 h1 e
    have X := axi_of h0 hO
    obtain ⟨ge, e0, e1⟩ := ecc_of h0.ec hO.ec
    have b0 : 0 < Q a0.ax * (1 - Q a0.ec - 2900 * uR) := Rat.mul_pos (by have := X.lo; grind) (by have := uR1; generalize uR = u at *; grind)
    obtain ⟨en, fn, n1, n2⟩ := ring_norm hv fv R b0
    have E := elb_of X h0.ec ge e0 e1
    obtain ⟨c1, c2⟩ := ell_poly uR0 uR1 (Rat.le_trans (show (0 : Rat) ≤ 1 / 1048576 by decide +kernel) X.lo) e0 e1 n1 n2 E.lo E.hi
    have CN := Lib.hid (fun w => rvnorm_any hv w)
    rw [en] at CN
    have g1 := ge_words fn E.f1
    have g2 := le_words fn E.f2
    rw [decide_eq_true (Q_le.1 c1)] at g1
    rw [decide_eq_true (Q_le.1 c2)] at g2
    have r1 := run_div _ _ _ E.q
    have r2 := run_sub _ _ _ E.s1
    have r3 := run_mul _ _ _ E.m1
    have r4 := run_sub _ _ _ E.l1
    have r5 := run_add _ _ _ E.s2
    have r6 := run_mul _ _ _ E.m2
    have r7 := run_add _ _ _ E.l2
    rw [k] at CA
    clear E X hO hv fv R e e0 e1 b0 en fn n1 n2 c1 c2 k h0 h1 ge
    generalize rX (dW (atR a0 a1).1 (atR a0 a1).1) = n at *
    generalize (atR a0 a1).1 = v at *
    obtain ⟨x1, x2, x3⟩ := v
    obtain ⟨ax, ec, ti, no, pe, ph, ra⟩ := a0
    unfold obV at CA ⊢
    unfold vecE at CA
    unfold vecV at CA CN
    unfold floE at CN
    unfold w40 oneW at *
    dsimp only at *
    generalize lX (mX ax (lX 4607182418800017408 ec)) (qX ax 4787326403894837248) = z1 at *
    generalize mX ax (lX 4607182418800017408 ec) = z2 at *
    generalize lX 4607182418800017408 ec = z3 at *
    generalize aX (mX ax (aX 4607182418800017408 ec)) (qX ax 4787326403894837248) = z4 at *
    generalize mX ax (aX 4607182418800017408 ec) = z5 at *
    generalize aX 4607182418800017408 ec = z6 at *
    generalize qX ax 4787326403894837248 = z7 at *
    have K0 := kv1 w 24 [.float .f64 ax, .float .f64 ec, .float .f64 ti, .float .f64 no, .float .f64 pe, .float .f64 ph, .float .f64 ra]
    simp only [objV] at K0
    have hst := @fstore
    replace K0 := Lib.hid K0
    go_enter Try.func5, Try.ntmps5
    go_wp2_with fail
    have K := K0.out
    clear K0
    generalize w.alloc _ = wr at *
    refine (AW.out wr).mono ?_
    rintro _ v1 ⟨rfl, hb⟩
    replace K := K.on hb
    clear hb
    have c0_0 := (K.at_ 0 rfl).at_ 0 _ rfl
    have c0_1 := (K.at_ 0 rfl).at_ 1 _ rfl
    have c0_2 := (K.at_ 0 rfl).at_ 2 _ rfl
    have c0_3 := (K.at_ 0 rfl).at_ 3 _ rfl
    have c0_4 := (K.at_ 0 rfl).at_ 4 _ rfl
    have c0_5 := (K.at_ 0 rfl).at_ 5 _ rfl
    have c0_6 := (K.at_ 0 rfl).at_ 6 _ rfl
    replace K := Lib.hid K
    go_wp2_with fail
    replace K := K.out
    refine (CA.out v1).mono ?_
    rintro _ v2 ⟨rfl, hb⟩
    clear c0_0 c0_1 c0_2 c0_3 c0_4 c0_5 c0_6
    replace K := K.on hb
    clear hb
    replace K := K.new 33 [.float .f64 x1, .float .f64 x2, .float .f64 x3]
    simp only [objV, List.cons_append, List.nil_append] at K
    have c1_0 := (K.at_ 1 rfl).at_ 0 _ rfl
    have c1_1 := (K.at_ 1 rfl).at_ 1 _ rfl
    have c1_2 := (K.at_ 1 rfl).at_ 2 _ rfl
    replace K := Lib.hid K
    go_wp2_with fail
    replace K := K.out
    generalize v2.alloc _ = u2 at *
    generalize v2.heap.size = g1 at *
    refine (CN.out u2).mono ?_
    rintro _ v3 ⟨rfl, hb⟩
    clear c1_0 c1_1 c1_2
    replace K := K.on hb
    clear hb
    have c0_0 := (K.at_ 0 rfl).at_ 0 _ rfl
    have c0_1 := (K.at_ 0 rfl).at_ 1 _ rfl
    replace K := Lib.hid K
    go_wp2_with fail
    go_ret
    exact ⟨rfl, K.out.old⟩
  · have tk : ((atR a0 a1).2 != 0) = true := by simpa using k
    clear h0 h1 k
    generalize atR a0 a1 = A at *
    obtain ⟨⟨x1, x2, x3⟩, k⟩ := A
    obtain ⟨ax, ec, ti, no, pe, ph, ra⟩ := a0
    unfold obV at CA ⊢
    unfold vecE at CA
    unfold vecV at CA
    dsimp only at *
    have K0 := kv1 w 24 [.float .f64 ax, .float .f64 ec, .float .f64 ti, .float .f64 no, .float .f64 pe, .float .f64 ph, .float .f64 ra]
    simp only [objV] at K0
    have hst := @fstore
    replace K0 := Lib.hid K0
    go_enter Try.func5, Try.ntmps5
    go_wp2_with fail
    have K := K0.out
    clear K0
    generalize w.alloc _ = wr at *
    refine (AW.out wr).mono ?_
    rintro _ v1 ⟨rfl, hb⟩
    replace K := K.on hb
    clear hb
    have c0_0 := (K.at_ 0 rfl).at_ 0 _ rfl
    have c0_1 := (K.at_ 0 rfl).at_ 1 _ rfl
    have c0_2 := (K.at_ 0 rfl).at_ 2 _ rfl
    have c0_3 := (K.at_ 0 rfl).at_ 3 _ rfl
    have c0_4 := (K.at_ 0 rfl).at_ 4 _ rfl
    have c0_5 := (K.at_ 0 rfl).at_ 5 _ rfl
    have c0_6 := (K.at_ 0 rfl).at_ 6 _ rfl
    replace K := Lib.hid K
    go_wp2_with fail
    replace K := K.out
    refine (CA.out v1).mono ?_
    rintro _ v2 ⟨rfl, hb⟩
    clear c0_0 c0_1 c0_2 c0_3 c0_4 c0_5 c0_6
    replace K := K.on hb
    clear hb
    replace K := K.new 33 [.float .f64 x1, .float .f64 x2, .float .f64 x3]
    simp only [objV, List.cons_append, List.nil_append] at K
    replace K := Lib.hid K
    go_wp2_with fail
    go_ret
    exact ⟨rfl, K.out.old⟩

set_option maxRecDepth 100000 in
theorem own : ownKnob Try.prog.godebug = none := by kernel_rfl
set_option maxRecDepth 100000 in
theorem laidOut : laidOutB Try.prog = true := by kernel_rfl
set_option maxRecDepth 100000 in
theorem lifted (os : Os) (started : os.Started) (H : Type) (enc : TypeId × Value → H) :
    ReturnsInHanded {} Try.checked os 5 .any (Rows.orbitEllipseSpec.pre6 enc Try.prog Try.f5 Rows.orbitEllipseRow.domain false) (Rows.orbitEllipseSpec.post enc Try.prog Try.f5 false true false false) := by
  refine returnsInHanded_of_change_sized (C := Try.checked) own started (by kernel_rfl) Try.func5
    (ChangeSpec.witness6 (enc := enc) (C := Try.checked) false ⟨#[], #[.agg #[.float .f64 0, .float .f64 0, .float .f64 0, .float .f64 0, .float .f64 0, .float .f64 0, .float .f64 0], .float .f64 0], []⟩ 8 (by kernel_rfl) (by kernel_rfl) (by kernel_rfl) (by kernel_rfl)) ?_
  intro W base args ds gs before hval0 hW _ hsz0 _
  have hsz : (DataW.weightsEach Try.prog (Try.f5.params.toList ++ Rows.orbitEllipseSpec.plain.varTypes Try.prog) (ds ++ gs)).all (· ≤ reachBytes) = true := hsz0
  clear hsz0
  have hval : ∀ (j : Nat) t v, Try.f5.params[j]? = some t → args[j]? = some v → Value.okWide Try.prog W .any base t v := hval0
  have hW' := hW
  obtain ⟨p, q, hA0, hV, rfl, _, _⟩ := hW
  have hA : DataW.TrodAll enc Try.prog W 0 (fun _ => true) true Try.f5.params.toList args.toList ds p := hA0
  rw [Try.params5] at hA hval hsz
  obtain ⟨v0, vs0, d0, ds0, p0, q0, hargs, rfl, rfl, t0, r0⟩ := trodAll_cons hA
  obtain ⟨v1, vs1, d1, ds1, p1, q1, rfl, rfl, rfl, t1, r1⟩ := trodAll_cons r0
  obtain ⟨rfl, rfl, rfl⟩ := trodAll_nil r1
  obtain rfl : args = #[v0, v1] := by cases args; simp_all
  obtain ⟨rfl, rfl⟩ := trodVars_none hV
  simp only [List.append_nil] at hW'
  have tk0 := t0
  obtain ⟨a0, rfl, wa0⟩ := open_orbit (hval 0 24 v0 rfl rfl) t0
  have hlt0 : ∀ x ∈ p0, x.block < W.heap.size := fun x hx => by have := hW'.lt x (by simp [hx]); simpa using this
  obtain ⟨a1, rfl, rfl, rfl, w1⟩ := open_float Try.underlying22 (hval 1 22 v1 rfl rfl) t1
  clear hA0 hval0
  refine (walk W a0 wa0 a1 (wf64o w1)).mono fun e W' ⟨he, hb⟩ => ?_
  subst he
  refine ⟨_, rfl, _, _, _, [], _, [], hW', trodAll_cons_mk (shut_bool Try.underlying4 _) trodAll_mk0, (trodAll_cons_mk (Below.trod laidOut (by kernel_rfl) (of_decide_eq_true (by kernel_rfl)) tk0 hb hlt0) (trodAll_cons_mk (shut_float Try.underlying22 w1) trodAll_mk0)), rfl, hb.frame _, fun h => by cases h⟩

set_option maxRecDepth 100000 in
theorem over : Rows.orbitEllipseRow.holds Try.pinned (OpenSpec.ofChange Rows.orbitEllipseSpec) :=
  OpenClaim.holds_of_wide 5 Try.f5 rfl rfl rfl rfl rfl rfl rfl ⟨rfl, rfl, rfl, rfl, rfl⟩ rfl rfl rfl rfl rfl (by kernel_rfl) Try.func5 (by kernel_rfl)
    (of_decide_eq_true (by kernel_rfl)) (by unfold Func.isWrapper; first | (rw [if_pos (by decide +kernel)]; kernel_rfl) | (rw [if_neg (by decide +kernel)]; exact ⟨rfl, rfl⟩))
    (fun os started H enc _ => lifted os started H enc)

theorem proved : Rows.OrbitEllipseSaid :=
  over
end Go.Proofs.Ytkpdnhbifokhlaa.orbitEllipse
