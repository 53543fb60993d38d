/- Proved here: what the texts Obg, Obh, Obq prove, one behind the other. -/
import Derived.Test.YtkpdnhbifokhlaaJq3
import Derived.Test.YtkpdnhbifokhlaaJy9
import Derived.Test.YtkpdnhbifokhlaaJo4

namespace Go.Proofs.Ytkpdnhbifokhlaa
open Go.ChangeShapes Go.WideShapes Go.ChangeAt Go.RowKit Ieee.Own Pol

end Go.Proofs.Ytkpdnhbifokhlaa

namespace Go.Proofs.Ytkpdnhbifokhlaa
open Ieee.Own Pol Fma

/-! ### the law's bounds -/
end Go.Proofs.Ytkpdnhbifokhlaa

namespace Go.Proofs.Ytkpdnhbifokhlaa
open Go.ChangeShapes Go.WideShapes Go.ChangeAt Go.RowKit Ieee.Own Pol

theorem Drawn.belowO {w w' : World} (h : Drawn w w') : Below w.heap.size w w' := by
  obtain ⟨n, rfl⟩ := h
  exact below_drewN (Below.refl _ _) n
set_option maxRecDepth 100000 in
theorem fmul_any (x y : Nat) (w : World) : ∃ v w', Drawn w w' ∧ (∀ r, Ieee.double.mul x y = some r → v = r) ∧ ∀ t, (binOp .mul t (.float .f64 x) (.float .f64 y)).run Try.prog w = .ok (.float .f64 v) w' := by
  cases h : Ieee.double.mul x y with
  | some r => exact ⟨r, w, Drawn.refl w, fun r' e => Option.some.inj e, fun t => run_mul _ _ _ h t w⟩
  | none =>
    refine ⟨nanV x y w, w.drew, ⟨1, rfl⟩, fun r e => (by cases e), fun t => ?_⟩
    have h' : FloatKind.f64.format.mul x y = none := h
    simp [binOp, Op.floatArith, h']
    first
      | rfl
      | (unfold nanV Question.forced; rfl)
set_option maxRecDepth 100000 in
theorem fdiv_any (x y : Nat) (w : World) : ∃ v w', Drawn w w' ∧ ∀ t, (binOp .quo t (.float .f64 x) (.float .f64 y)).run Try.prog w = .ok (.float .f64 v) w' := by
  cases h : Ieee.double.div x y with
  | some r => exact ⟨r, w, Drawn.refl w, fun t => run_div _ _ _ h t w⟩
  | none =>
    refine ⟨nanV x y w, w.drew, ⟨1, rfl⟩, fun t => ?_⟩
    have h' : FloatKind.f64.format.div x y = none := h
    simp [binOp, Op.floatArith, h']
    first
      | rfl
      | (unfold nanV Question.forced; rfl)
theorem ext_any {name : String} (way : Ieee.Toward) (b : Nat) (P : Program) (w : World) : ∃ v w1, Drawn w w1 ∧ (FinW b → v = wholeW way b) ∧ (Extern.MathFloor.toIntegral name way #[.float .f64 b]).run P w = .ok (.float .f64 v) w1 := by
  by_cases h : FinW b
  · exact ⟨_, w, Drawn.refl w, fun _ => rfl, ext_whole way h P w⟩
  · have key : ∀ d, FloatKind.f64.decode b = d → ∃ v w1, Drawn w w1 ∧ (Extern.MathFloor.toIntegral name way #[.float .f64 b]).run P w = .ok (.float .f64 v) w1 := by
      intro d hd
      cases d with
      | nan s t =>
        by_cases q : FloatKind.f64.format.quiet t = t
        · refine ⟨b, w, Drawn.refl w, ?_⟩
          delta Extern.MathFloor.toIntegral
          show Sem.run P (Extern.MathFloor.toIntegral.match_1 (fun _ => Sem Value) (FloatKind.f64.decode b) _ _) w = _
          rw [hd]
          show Sem.run P (if FloatKind.f64.format.quiet t = t then _ else _) w = _
          rw [if_pos q]
          rfl
        · refine ⟨if (Question.cut (.extern "math.Floor,Ceil,Trunc,RoundToEven.signallingNaN kept" 2) (w.tape w.drawn (.extern "math.Floor,Ceil,Trunc,RoundToEven.signallingNaN kept" 2)) == 1) = true then b else FloatKind.f64.encode (.nan s (FloatKind.f64.format.quiet t)), w.drew, (⟨1, rfl⟩ : Drawn w w.drew), ?_⟩
          delta Extern.MathFloor.toIntegral
          show Sem.run P (Extern.MathFloor.toIntegral.match_1 (fun _ => Sem Value) (FloatKind.f64.decode b) _ _) w = _
          rw [hd]
          show Sem.run P (if FloatKind.f64.format.quiet t = t then _ else _) w = _
          rw [if_neg q]
          rfl
      | _ =>
        refine ⟨FloatKind.f64.encode ((FloatKind.f64.decode b).integral way), w, Drawn.refl w, ?_⟩
        delta Extern.MathFloor.toIntegral
        show Sem.run P (Extern.MathFloor.toIntegral.match_1 (fun _ => Sem Value) (FloatKind.f64.decode b) _ _) w = _
        rw [hd]
        rfl
    obtain ⟨v, w1, D, r⟩ := key _ rfl
    exact ⟨v, w1, D, fun q => absurd q h, r⟩
set_option maxHeartbeats 4000000 in
set_option maxRecDepth 100000 in
theorem floor_any (b : Nat) (w : World) : ∃ v w1, Below w.heap.size w w1 ∧ (FinW b → v = wholeW .down b) ∧ Calls Try.prog 22 #[.float .f64 b] w fun e w' => e = .returned (.float .f64 v) ∧ w1 = w' := by
  obtain ⟨v, w1, D, hv, r⟩ := ext_any (name := "math.archFloor") .down b Try.prog w
  refine ⟨v, w1, D.belowO, hv, ?_⟩
  have X : (callFunc 51 #[.float .f64 b]).run Try.prog w = .ok (.value (.float .f64 v)) w1 := by
    rw [run_callFunc_extern (e := Extern.MathFloor.toIntegral "math.archFloor" .down) Try.func51 (by kernel_rfl) (by kernel_rfl) (by kernel_rfl) (by kernel_rfl), r]; rfl
  clear r hv D
  go_enter Try.func22, Try.ntmps22
  go_wp2_with (simp only [X])
  go_ret
  exact ⟨rfl, rfl⟩
/-! ### whole rounds -/
theorem exact_sum {a b y : Int} (ha : Rep a) (hb : Rep b) (hy : y = RN (a + b)) (h1 : RN (y - b) = a) (h2 : RN (y - a) = b) : y = a + b := by
  rcases Nat.le_total b.natAbs a.natAbs with c | c
  · have f := fast ha hb c
    rw [← hy] at f
    rw [RN_exact f] at h2
    omega
  · have f := fast hb ha c
    rw [Int.add_comm b a, ← hy] at f
    rw [RN_exact f] at h1
    omega
theorem eq_false_V {a b : Nat} (ha : FinW a) (hb : FinW b) (h : (FloatKind.f64.format.order a b != some Ordering.eq) = false) : V a = V b := by
  have e : (FloatKind.f64.format.order a b == some Ordering.eq) = true := by simpa using h
  rw [eqW ha hb, decide_eq_true_eq] at e
  exact e
theorem wit_zero : witB g24 0 = true := by decide +kernel
theorem mean_zero {o : Ob} (h : ObW o) (hO : ObOk o) : V (lefX (posX o 0)) = rq hlf (V o.ph) := by
  have P := pos_of h (show 0 < 18446744073709551616 by decide) hO.ph hO.ra wit_zero
  have L := lef_of P.left
  have z : V (mX o.ra 0) = 0 := by rw [P.vm, V_zero, Int.mul_zero]; decide +kernel
  have e : V (posX o 0) = V o.ph := by rw [P.va, z, Int.add_zero]; exact RN_exact (Rep_V _)
  rw [L.v, e]
theorem rounds {o : Ob} {d s1 s2 : Nat} (h : ObW o) (hO : ObOk o) (hd : d < 18446744073709551616) (t : witB g24 d = true)
    (h3 : (FloatKind.f64.format.order (wholeW .down (mX o.ra d)) (mX o.ra d) != some Ordering.eq) = false)
    (e1 : ∀ r, Ieee.double.sub (posX o d) (mX o.ra d) = some r → s1 = r) (h4 : (FloatKind.f64.format.order s1 o.ph != some Ordering.eq) = false)
    (e2 : ∀ r, Ieee.double.sub (posX o d) o.ph = some r → s2 = r) (h5 : (FloatKind.f64.format.order s2 (mX o.ra d) != some Ordering.eq) = false)
    (h6 : (FloatKind.f64.format.order (meanW o 0 % 9223372036854775808) 4602678819172646912 == some Ordering.eq) = false) : meanW o d = meanW o 0 := by
  have P := pos_of h hd hO.ph hO.ra t
  have L := lef_of P.left
  have P0 := pos_of h (show 0 < 18446744073709551616 by decide) hO.ph hO.ra wit_zero
  have L0 := lef_of P0.left
  have m0 := mean_zero h hO
  have fp := (tu_wd h.ph hO.ph).fin
  have bx : (V (mX o.ra d)).natAbs ≤ 2 ^ 1124 := by
    rw [P.vm]
    have W2 := tu_wd h.ra hO.ra
    have W3 := wit_wd hd v24 t
    obtain ⟨-, -, v1, b⟩ := mul_ok (i := 1098) (k := 1122) W2.fin W3.fin (abs_up (k := 1084) (l := 1098) W2.abs (by omega)) W3.abs rfl (by omega)
    rw [← v1]
    exact abs_up (k := 1122) (l := 1124) b (by omega)
  obtain ⟨wf, wv⟩ := floor_spec P.fm (Nat.le_trans bx (two_le (a := 1124) (b := 1126) (by omega)))
  have k3 := eq_false_V wf P.fm h3
  rw [wv] at k3
  obtain ⟨q1, f1, v1, -⟩ := sub_ok (i := 1124) (k := 1125) P.left.fin P.fm P.left.abs bx rfl (by omega)
  obtain ⟨q2, f2, v2, -⟩ := sub_ok (i := 1124) (k := 1125) P.left.fin fp P.left.abs (abs_up (k := 1084) (l := 1124) (tu_wd h.ph hO.ph).abs (by omega)) rfl (by omega)
  have s1e := e1 _ q1
  have s2e := e2 _ q2
  rw [s1e] at h4
  rw [s2e] at h5
  have k4 := eq_false_V f1 fp h4
  have k5 := eq_false_V f2 P.fm h5
  rw [v1] at k4
  rw [v2] at k5
  have ey := exact_sum (Rep_V o.ph) (Rep_V (mX o.ra d)) P.va k4 k5
  have nh : rq hlf (V o.ph) ≠ hlf ∧ rq hlf (V o.ph) ≠ -hlf := by
    have key : (rq hlf (V o.ph)).natAbs = hlf.natAbs → False := fun c => by
      have va : (V (lefX (posX o 0))).natAbs = hlf.natAbs := by rw [m0, c]
      have fit : fitB (lefX (posX o 0)) = true := by
        rw [fit_iff L0.fin]
        right
        rw [va]
        exact ⟨by decide +kernel, by decide +kernel⟩
      have vm : V (meanW o 0) = V (lefX (posX o 0)) := by
        show V (oW (lefX (posX o 0))) = _
        rw [oW_V L0.fin]
        unfold fnW
        rw [if_pos fit]
      have fm := (oW_nz L0.fin).fin
      have vh : val 52 4602678819172646912 = hlf.natAbs := by decide +kernel
      have va2 : val 52 (meanW o 0 % 9223372036854775808) = val 52 4602678819172646912 := by
        rw [← V_abs' (meanW o 0) fm, vm, va, vh]
      have e : meanW o 0 % 9223372036854775808 = 4602678819172646912 := by
        rcases Nat.lt_trichotomy (meanW o 0 % 9223372036854775808) 4602678819172646912 with c | c | c
        · have := val_lt (F := 52) c; omega
        · exact c
        · have := val_lt (F := 52) c; omega
      rw [e] at h6
      exact absurd h6 (by decide +kernel)
    exact ⟨fun c => key (by rw [c]), fun c => key (by rw [c, Int.natAbs_neg])⟩
  have lm := (left_more (N := V (mX o.ra d) / 2 ^ 1074) nh).1
  rw [k3, ← ey, ← L.v, ← m0] at lm
  exact oW_eq L.fin L0.fin lm
theorem at_same {o : Ob} {d : Nat} (h : meanW o d = meanW o 0) (r : readyO o (witB g24 d) = 0) : atR o d = atR o 0 := by
  obtain ⟨m, t⟩ := readyO_zero r
  have r0 : readyO o (witB g24 0) = 0 := by rw [wit_zero, ← t]; exact r
  unfold atR
  rw [if_pos r, if_pos r0]
  unfold placeW
  rw [h]
end Go.Proofs.Ytkpdnhbifokhlaa
