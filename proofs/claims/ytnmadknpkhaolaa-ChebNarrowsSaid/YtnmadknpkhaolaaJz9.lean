/- Proved here: what the texts Uck, Uqr, Ufc, Unr, Unb, Ubq, Spf, Ulw, Vsc prove, one behind the other. -/
import Derived.Test.YtnmadknpkhaolaaJz7
import Derived.Test.YtnmadknpkhaolaaJz4
import Derived.Deep.MidRow
import Derived.Deep.WholeRow
import Derived.Laws.IdiomCopy
import Derived.BigQuiet
import Derived.Test.YtnmadknpkhaolaaJz3
import Derived.SizedLaws
import Derived.ProofKit
import Derived.OpenShut
import Derived.Carry
import Derived.Lib.SmallJoins
import Derived.Test.YtnmadknpkhaolaaJz8

namespace Go.Proofs.Ytnmadknpkhaolaa
open Go.ChangeShapes Go.WideShapes Go.ChangeAt Go.RowKit Ieee.Own

/-- is the word an angle that is taken? the error's number -/
def errA (x : Nat) : Int := if fitB x = true ∧ x % 9223372036854775808 ≤ 4787326403894837248 then 0 else 3

end Go.Proofs.Ytnmadknpkhaolaa

namespace Go.Proofs.Ytnmadknpkhaolaa
open Go.ChangeShapes Go.WideShapes Go.ChangeAt Go.RowKit Ieee.Own

/-- a finite word, not -0 -/
structure Nz (b : Nat) : Prop where
  fin : FinW b
  nz : b ≠ 9223372036854775808
theorem Nz.zero {b : Nat} (h : Nz b) (h0 : V b = 0) : b = 0 := by
  have := (V_zero_iff h.fin).1 h0
  have := h.fin.1
  have := h.nz
  omega
theorem Nz.uniq {a b : Nat} (ha : Nz a) (hb : Nz b) (h : V a = V b) : a = b := by
  by_cases h0 : V a = 0
  · rw [ha.zero h0, hb.zero (by omega)]
  · exact V_inj ha.fin hb.fin h h0
theorem Nz.of {b : Nat} (h : FinW b) (h0 : V b ≠ 0) : Nz b := ⟨h, fun e => h0 (by rw [e]; decide +kernel)⟩
theorem Nz.pos {b : Nat} (h : FinW b) : Nz (posW b) := by
  refine ⟨posW_fin h, ?_⟩
  unfold posW; split
  · omega
  · assumption

theorem sub_self {a : Nat} (h : FinW a) : Ieee.double.sub a a = some 0 := by
  obtain ⟨s, m, p, e1, -, -, -, -⟩ := read_sv h
  unfold Ieee.Format.sub
  rw [e1]
  unfold Ieee.Datum.opposite Ieee.Datum.sum
  dsimp only
  have e : Ieee.signed s m (-1074 + (p : Int) - min (-1074 + (p : Int)) (-1074 + (p : Int))).toNat + Ieee.signed (!s) m (-1074 + (p : Int) - min (-1074 + (p : Int)) (-1074 + (p : Int))).toNat = 0 := by
    rw [signed_eq, signed_eq]
    cases s <;> simp <;> omega
  rw [e]
  have : (s && !s) = false := by cases s <;> rfl
  rw [if_pos rfl, this]
  rfl

/-- the rest of an angle -/
structure Rst (x r : Nat) : Prop where
  nz : Nz r
  v : V r = rq eig (V x)
theorem Rst.rest {x r : Nat} (h : Ang x) (R : Rst x r) : Rest r := rest_of h R.nz.fin R.v
theorem Rst.uniq {x r s : Nat} (R : Rst x r) (S : Rst x s) : r = s := R.nz.uniq S.nz (by rw [R.v, S.v])

/-! ### the library's calls -/
theorem ext_whole {name : String} (way : Ieee.Toward) {b : Nat} (h : FinW b) (P : Program) (w : World) : (Extern.MathFloor.toIntegral name way #[.float .f64 b]).run P w = .ok (.float .f64 (wholeW way b)) w := by
  obtain ⟨s, m, p, e1, -, -, -, -⟩ := read_sv h
  have e2 : FloatKind.f64.decode b = .number s m (-1074 + p) := e1
  have key : ∀ d, FloatKind.f64.decode b = d → (∃ s m p, d = .number s m p) → (Extern.MathFloor.toIntegral name way #[.float .f64 b]).run P w = .ok (.float .f64 (FloatKind.f64.encode (d.integral way))) w := by
    intro d hd ⟨s, m, p, hn⟩
    subst hn
    delta Extern.MathFloor.toIntegral
    show Sem.run P (Extern.MathFloor.toIntegral.match_1 (fun _ => Sem Value) (FloatKind.f64.decode b) _ _) w = _
    rw [hd]
    rfl
  rw [key _ e2 ⟨_, _, _, rfl⟩]
  unfold wholeW
  rw [e1]
  rfl
set_option maxRecDepth 100000 in
theorem xfloor {b : Nat} (h : FinW b) (w : World) : (callFunc 85 #[.float .f64 b]).run Try.prog w = .ok (.value (.float .f64 (wholeW .down b))) w := by
  rw [run_callFunc_extern (e := Extern.MathFloor.toIntegral "math.archFloor" .down) Try.func85 (by kernel_rfl) (by kernel_rfl) (by kernel_rfl) (by kernel_rfl), ext_whole _ h]; rfl
set_option maxRecDepth 100000 in
theorem floor_run {b : Nat} (h : FinW b) (w : World) : Calls Try.prog 68 #[.float .f64 b] w fun e w' => e = .returned (.float .f64 (wholeW .down b)) ∧ w = w' := by
  have X := fun w => xfloor h w
  clear h
  go_enter Try.func68, Try.ntmps68
  go_wp2_with (simp only [X])
  go_ret
  exact ⟨rfl, rfl⟩
/-- a whole number as an int64 -/
theorem to_int64 {b : Nat} {K : Int} (h : FinW b) (hv : V b = K * 2 ^ 1074) (hK : K.natAbs ≤ 2 ^ 62) : floatToIntVal .f64 b .i64 = some K := by
  unfold floatToIntVal
  have : (FloatKind.f64.decode b).toInt .zero = some K := int_of h hv
  rw [this]
  have e1 : IntKind.i64.min = -9223372036854775808 := rfl
  have e2 : IntKind.i64.max = 9223372036854775807 := rfl
  dsimp only
  rw [if_pos (by omega)]
end Go.Proofs.Ytnmadknpkhaolaa

namespace Go.Proofs.Ytnmadknpkhaolaa
open Go.ChangeShapes Go.WideShapes Go.ChangeAt Go.RowKit Ieee.Own

end Go.Proofs.Ytnmadknpkhaolaa

namespace Go.Proofs.Ytnmadknpkhaolaa
open Go.ChangeShapes Go.WideShapes Go.ChangeAt Go.RowKit Ieee.Own

end Go.Proofs.Ytnmadknpkhaolaa

namespace Go.Proofs.Ytnmadknpkhaolaa
open Go.ChangeShapes Go.WideShapes Go.ChangeAt Go.RowKit Ieee.Own

end Go.Proofs.Ytnmadknpkhaolaa

namespace Go.Proofs.Ytnmadknpkhaolaa
open Go.ChangeShapes Go.WideShapes Go.ChangeAt Go.RowKit Ieee.Own

/-- by quarters, the values -/
def vq (k S C : Int) : Int := if k % 4 = 0 then S else if k % 4 = 1 then C else if k % 4 = 2 then -S else -C
/-- the sine and the cosine, as words -/
structure Trig (x s c : Nat) : Prop where
  ex : ∃ r, Rst x r ∧ V s = vq (kq eig (V x)) (V (sinX r)) (V (cosX r)) ∧ V c = vq (kq eig (V x) + 1) (V (sinX r)) (V (cosX r))
  sz : Nz s
  cz : Nz c
theorem Trig.uniq {x s c t d : Nat} (T : Trig x s c) (U : Trig x t d) : s = t ∧ c = d := by
  obtain ⟨r, R, a, b⟩ := T.ex
  obtain ⟨q, R', a', b'⟩ := U.ex
  obtain rfl := R.uniq R'
  exact ⟨T.sz.uniq U.sz (by rw [a, a']), T.cz.uniq U.cz (by rw [b, b'])⟩

def negN (x : Nat) : Nat := (Ieee.double.sub 0 x).getD 0
theorem negN_spec {x : Nat} (h : FinW x) : Ieee.double.sub 0 x = some (negN x) ∧ Nz (negN x) ∧ V (negN x) = -V x := by
  have e : V 0 - V x = -V x := by rw [V_zero]; omega
  have R : RN (V 0 - V x) = -V x := by rw [e]; exact RN_exact (Rep_neg (Rep_V x))
  obtain ⟨r, h1, h2, h3⟩ := sub_spec zero_fin h (by rw [R, Int.natAbs_neg]; exact fin_top h)
  have er : negN x = r := by unfold negN; rw [h1]; rfl
  rw [er]
  rw [R] at h3
  refine ⟨h1, ?_, h3⟩
  by_cases q : V x = 0
  · have z := (V_zero_iff h).1 q
    have := h.1
    rcases (by omega : x = 0 ∨ x = 9223372036854775808) with rfl | rfl
    · have : Ieee.double.sub 0 0 = some 0 := by decide +kernel
      rw [this] at h1; cases h1; exact ⟨zero_fin, by omega⟩
    · have : Ieee.double.sub 0 9223372036854775808 = some 0 := by decide +kernel
      rw [this] at h1; cases h1; exact ⟨zero_fin, by omega⟩
  · exact Nz.of h2 (by omega)
/-- the words by quarters, as the program has them -/
def sq4 (k : Int) (s c : Nat) : Nat := if k = 0 then s else if k = 1 then c else if k = 2 then negN s else negN c
def cq4 (k : Int) (s c : Nat) : Nat := if k = 0 then c else if k = 1 then negN s else if k = 2 then negN c else s

theorem ent_sin (r : Nat) (h : Nz r) (H : Rest r) : Nz (sinX r) := by
  have N := H.near
  by_cases r0 : V r = 0
  · have := h.zero r0
    subst this
    have : sinX 0 = 0 := by decide +kernel
    rw [this]; exact ⟨zero_fin, by omega⟩
  · refine Nz.of N.sw.fin fun e => ?_
    have g := H.sin_far
    have q : Q (sinX r) = 0 := by unfold Q; rw [e]; decide +kernel
    rw [q] at g
    rcases ab_eq (Q r) with ⟨q1, -, q2⟩ | ⟨q1, -, q2⟩
    · have : Q r = 0 := by grind
      exact r0 (Q_zero this)
    · have : Q r = 0 := by grind
      exact r0 (Q_zero this)
theorem ent_cos (r : Nat) (H : Rest r) : Nz (cosX r) := by
  refine Nz.of H.near.cw.fin fun e => ?_
  have g := H.cos_far
  have q : Q (cosX r) = 0 := by unfold Q; rw [e]; decide +kernel
  rw [q] at g
  exact absurd g (by decide +kernel)

theorem Trig.own {x r : Nat} (h : Ang x) (R : Rst x r) : Trig x (sq4 (kq eig (V x) % 4) (sinX r) (cosX r)) (cq4 (kq eig (V x) % 4) (sinX r) (cosX r)) := by
  have H := R.rest h
  have s := ent_sin r R.nz H
  have c := ent_cos r H
  have ns := negN_spec s.fin
  have nc := negN_spec c.fin
  have : kq eig (V x) % 4 = 0 ∨ kq eig (V x) % 4 = 1 ∨ kq eig (V x) % 4 = 2 ∨ kq eig (V x) % 4 = 3 := by omega
  rcases this with k | k | k | k
  · rw [k]
    refine ⟨⟨r, R, ?_, ?_⟩, s, c⟩
    · unfold vq; rw [if_pos k]; rfl
    · unfold vq; rw [if_neg (by omega), if_pos (by omega)]; rfl
  · rw [k]
    refine ⟨⟨r, R, ?_, ?_⟩, c, ns.2.1⟩
    · unfold vq; rw [if_neg (by omega), if_pos (by omega)]; rfl
    · unfold vq; rw [if_neg (by omega), if_neg (by omega), if_pos (by omega)]; exact ns.2.2
  · rw [k]
    refine ⟨⟨r, R, ?_, ?_⟩, ns.2.1, nc.2.1⟩
    · unfold vq; rw [if_neg (by omega), if_neg (by omega), if_pos (by omega)]; exact ns.2.2
    · unfold vq; rw [if_neg (by omega), if_neg (by omega), if_neg (by omega)]; exact nc.2.2
  · rw [k]
    refine ⟨⟨r, R, ?_, ?_⟩, nc.2.1, s⟩
    · unfold vq; rw [if_neg (by omega), if_neg (by omega), if_neg (by omega)]; exact nc.2.2
    · unfold vq; rw [if_pos (by omega)]; rfl

/-! ### the reference -/
end Go.Proofs.Ytnmadknpkhaolaa

namespace Go.Proofs.Ytnmadknpkhaolaa
open Go.ChangeShapes Go.WideShapes Go.ChangeAt Go.RowKit Ieee.Own

theorem float_cell {H : Type} {enc : TypeId × Value → H} {P : Program} {w : World} {base : Nat} {spare : Nat → Bool} {held : Bool} {n : Nat} {e : TypeId} {v : Value} {x : DataW H × List MemPlace}
    (he : P.underlying e = some (.float .f64)) (h : DataW.trod enc P w base spare held n e [v] = some x) : ∃ b, v = .float .f64 b ∧ b < 18446744073709551616 := by
  cases n with
  | zero => simp [DataW.trod] at h
  | succ n =>
    simp only [DataW.trod, he] at h
    cases v with
    | float k b =>
      cases k with
      | f64 => exact ⟨b, rfl, by
          by_cases hw : (Lit.float .f64 b).wf = true
          · simpa only [Lit.wf, decide_eq_true_eq] using hw
          · simp [hw] at h⟩
      | f32 => simp at h
    | _ => simp at h
end Go.Proofs.Ytnmadknpkhaolaa

namespace Go.Proofs.Ytnmadknpkhaolaa
open Go.ChangeShapes Go.WideShapes Go.ChangeAt Go.RowKit Ieee.Own

/-- Both, whatever the number: two words, the error's number -/
structure BothR (x s c : Nat) (k : Int) : Prop where
  err : k = errA x
  ok : k = 0 → Trig x s c
  no : k ≠ 0 → s = 0 ∧ c = 0
theorem BothR.uniq {x s c t d : Nat} {k l : Int} (B : BothR x s c k) (D : BothR x t d l) : s = t ∧ c = d ∧ k = l := by
  have e : k = l := by rw [B.err, D.err]
  subst e
  by_cases h : k = 0
  · obtain ⟨a, b⟩ := (B.ok h).uniq (D.ok h); exact ⟨a, b, rfl⟩
  · have a := B.no h
    have b := D.no h
    exact ⟨by omega, by omega, rfl⟩
end Go.Proofs.Ytnmadknpkhaolaa

namespace Go.Proofs.Ytnmadknpkhaolaa
open Go.ChangeShapes Go.WideShapes Go.ChangeAt Go.RowKit Ieee.Own

def vecE (p : V3) (k : Int) : Value := .tuple #[vecV p, .int .i64 k]
def z3 : V3 := (0, 0, 0)
/-! ### answers -/
def bV (p : V3) : V3 := (bW p.1, bW p.2.1, bW p.2.2)
structure F3 (p : V3) : Prop where
  f1 : FinW p.1
  f2 : FinW p.2.1
  f3 : FinW p.2.2
theorem Bd.fin {p : V3} {k : Nat} (h : Bd p k) : F3 p := ⟨h.f1, h.f2, h.f3⟩
theorem F3.w {p : V3} (h : F3 p) : W3 p := ⟨h.f1.1, h.f2.1, h.f3.1⟩
theorem F3.b {p : V3} (h : F3 p) : F3 (bV p) := ⟨(bW_spec h.f1).1, (bW_spec h.f2).1, (bW_spec h.f3).1⟩
end Go.Proofs.Ytnmadknpkhaolaa
