/- Proved here: what the texts Whl, Uck, Uqr, Ufc, Unr, Unb, Ubq, Ulw prove, one behind the other. -/
import Derived.Test.YtpdkciennccckaaJm
import Derived.Test.YtpdkciennccckaaJb5
import Derived.Test.YtpdkciennccckaaJb3
import Derived.Deep.MidRow
import Derived.Deep.WholeRow
import Derived.Laws.IdiomCopy
import Derived.BigQuiet
import Derived.Test.YtpdkciennccckaaJb2

namespace Go.Proofs.Ytpdkciennccckaa
open Ieee Ieee.Own

theorem div_cap {n k D M : Nat} (hM : M = k + D) (h : n ≤ 2 ^ M) : n / 2 ^ D ≤ 2 ^ k := by
  subst hM
  rw [Nat.pow_add] at h
  exact Nat.div_le_of_le_mul (by rwa [Nat.mul_comm] at h)

theorem two_cast (n : Nat) : (2 : Int) ^ n = ((2 ^ n : Nat) : Int) := by rw [Int.natCast_pow]; rfl
end Go.Proofs.Ytpdkciennccckaa

namespace Go.Proofs.Ytpdkciennccckaa
open Go.ChangeShapes Go.WideShapes Go.ChangeAt Go.RowKit Ieee.Own

/-- is the word an angle that is taken? the error's number -/
def errA (x : Nat) : Int := if fitB x = true ∧ x % 9223372036854775808 ≤ 4787326403894837248 then 0 else 3

end Go.Proofs.Ytpdkciennccckaa

namespace Go.Proofs.Ytpdkciennccckaa
open Go.ChangeShapes Go.WideShapes Go.ChangeAt Go.RowKit Ieee.Own

theorem eqW {a b : Nat} (ha : FinW a) (hb : FinW b) : (FloatKind.f64.format.order a b == some Ordering.eq) = decide (V a = V b) := by
  have o := order_V ha hb
  obtain ⟨c, hc⟩ := order_some ha hb
  rw [hc] at o ⊢
  cases c
  · rw [decide_eq_false (by have := o.1.1 rfl; omega)]; rfl
  · rw [decide_eq_true (by
      have h1 : ¬ V a < V b := fun h => by have := o.1.2 h; cases this
      have h2 : ¬ V b < V a := fun h => by have := o.2.2 h; cases this
      omega)]; rfl
  · rw [decide_eq_false (by have := o.2.1 rfl; omega)]; rfl

/-- a finite word, not -0 -/
structure Nz (b : Nat) : Prop where
  fin : FinW b
  nz : b ≠ 9223372036854775808
theorem Nz.zero {b : Nat} (h : Nz b) (h0 : V b = 0) : b = 0 := by
  have := (V_zero_iff h.fin).1 h0
  have := h.fin.1
  have := h.nz
  omega
theorem Nz.uniq {a b : Nat} (ha : Nz a) (hb : Nz b) (h : V a = V b) : a = b := by
  by_cases h0 : V a = 0
  · rw [ha.zero h0, hb.zero (by omega)]
  · exact V_inj ha.fin hb.fin h h0
theorem Nz.of {b : Nat} (h : FinW b) (h0 : V b ≠ 0) : Nz b := ⟨h, fun e => h0 (by rw [e]; decide +kernel)⟩
theorem Nz.pos {b : Nat} (h : FinW b) : Nz (posW b) := by
  refine ⟨posW_fin h, ?_⟩
  unfold posW; split
  · omega
  · assumption

/-- the rest of an angle -/
structure Rst (x r : Nat) : Prop where
  nz : Nz r
  v : V r = rq eig (V x)
theorem Rst.rest {x r : Nat} (h : Ang x) (R : Rst x r) : Rest r := rest_of h R.nz.fin R.v
theorem Rst.uniq {x r s : Nat} (R : Rst x r) (S : Rst x s) : r = s := R.nz.uniq S.nz (by rw [R.v, S.v])

/-! ### the library's calls -/
end Go.Proofs.Ytpdkciennccckaa

namespace Go.Proofs.Ytpdkciennccckaa
open Go.ChangeShapes Go.WideShapes Go.ChangeAt Go.RowKit Ieee.Own

end Go.Proofs.Ytpdkciennccckaa

namespace Go.Proofs.Ytpdkciennccckaa
open Go.ChangeShapes Go.WideShapes Go.ChangeAt Go.RowKit Ieee.Own

end Go.Proofs.Ytpdkciennccckaa

namespace Go.Proofs.Ytpdkciennccckaa
open Go.ChangeShapes Go.WideShapes Go.ChangeAt Go.RowKit Ieee.Own

end Go.Proofs.Ytpdkciennccckaa

namespace Go.Proofs.Ytpdkciennccckaa
open Go.ChangeShapes Go.WideShapes Go.ChangeAt Go.RowKit Ieee.Own

/-- by quarters, the values -/
def vq (k S C : Int) : Int := if k % 4 = 0 then S else if k % 4 = 1 then C else if k % 4 = 2 then -S else -C
/-- the sine and the cosine, as words -/
structure Trig (x s c : Nat) : Prop where
  ex : ∃ r, Rst x r ∧ V s = vq (kq eig (V x)) (V (sinX r)) (V (cosX r)) ∧ V c = vq (kq eig (V x) + 1) (V (sinX r)) (V (cosX r))
  sz : Nz s
  cz : Nz c
theorem Trig.uniq {x s c t d : Nat} (T : Trig x s c) (U : Trig x t d) : s = t ∧ c = d := by
  obtain ⟨r, R, a, b⟩ := T.ex
  obtain ⟨q, R', a', b'⟩ := U.ex
  obtain rfl := R.uniq R'
  exact ⟨T.sz.uniq U.sz (by rw [a, a']), T.cz.uniq U.cz (by rw [b, b'])⟩

def negN (x : Nat) : Nat := (Ieee.double.sub 0 x).getD 0
theorem negN_spec {x : Nat} (h : FinW x) : Ieee.double.sub 0 x = some (negN x) ∧ Nz (negN x) ∧ V (negN x) = -V x := by
  have e : V 0 - V x = -V x := by rw [V_zero]; omega
  have R : RN (V 0 - V x) = -V x := by rw [e]; exact RN_exact (Rep_neg (Rep_V x))
  obtain ⟨r, h1, h2, h3⟩ := sub_spec zero_fin h (by rw [R, Int.natAbs_neg]; exact fin_top h)
  have er : negN x = r := by unfold negN; rw [h1]; rfl
  rw [er]
  rw [R] at h3
  refine ⟨h1, ?_, h3⟩
  by_cases q : V x = 0
  · have z := (V_zero_iff h).1 q
    have := h.1
    rcases (by omega : x = 0 ∨ x = 9223372036854775808) with rfl | rfl
    · have : Ieee.double.sub 0 0 = some 0 := by decide +kernel
      rw [this] at h1; cases h1; exact ⟨zero_fin, by omega⟩
    · have : Ieee.double.sub 0 9223372036854775808 = some 0 := by decide +kernel
      rw [this] at h1; cases h1; exact ⟨zero_fin, by omega⟩
  · exact Nz.of h2 (by omega)
/-- the words by quarters, as the program has them -/
def sq4 (k : Int) (s c : Nat) : Nat := if k = 0 then s else if k = 1 then c else if k = 2 then negN s else negN c
def cq4 (k : Int) (s c : Nat) : Nat := if k = 0 then c else if k = 1 then negN s else if k = 2 then negN c else s

theorem ent_sin (r : Nat) (h : Nz r) (H : Rest r) : Nz (sinX r) := by
  have N := H.near
  by_cases r0 : V r = 0
  · have := h.zero r0
    subst this
    have : sinX 0 = 0 := by decide +kernel
    rw [this]; exact ⟨zero_fin, by omega⟩
  · refine Nz.of N.sw.fin fun e => ?_
    have g := H.sin_far
    have q : Q (sinX r) = 0 := by unfold Q; rw [e]; decide +kernel
    rw [q] at g
    rcases ab_eq (Q r) with ⟨q1, -, q2⟩ | ⟨q1, -, q2⟩
    · have : Q r = 0 := by grind
      exact r0 (Q_zero this)
    · have : Q r = 0 := by grind
      exact r0 (Q_zero this)
theorem ent_cos (r : Nat) (H : Rest r) : Nz (cosX r) := by
  refine Nz.of H.near.cw.fin fun e => ?_
  have g := H.cos_far
  have q : Q (cosX r) = 0 := by unfold Q; rw [e]; decide +kernel
  rw [q] at g
  exact absurd g (by decide +kernel)

theorem Trig.own {x r : Nat} (h : Ang x) (R : Rst x r) : Trig x (sq4 (kq eig (V x) % 4) (sinX r) (cosX r)) (cq4 (kq eig (V x) % 4) (sinX r) (cosX r)) := by
  have H := R.rest h
  have s := ent_sin r R.nz H
  have c := ent_cos r H
  have ns := negN_spec s.fin
  have nc := negN_spec c.fin
  have : kq eig (V x) % 4 = 0 ∨ kq eig (V x) % 4 = 1 ∨ kq eig (V x) % 4 = 2 ∨ kq eig (V x) % 4 = 3 := by omega
  rcases this with k | k | k | k
  · rw [k]
    refine ⟨⟨r, R, ?_, ?_⟩, s, c⟩
    · unfold vq; rw [if_pos k]; rfl
    · unfold vq; rw [if_neg (by omega), if_pos (by omega)]; rfl
  · rw [k]
    refine ⟨⟨r, R, ?_, ?_⟩, c, ns.2.1⟩
    · unfold vq; rw [if_neg (by omega), if_pos (by omega)]; rfl
    · unfold vq; rw [if_neg (by omega), if_neg (by omega), if_pos (by omega)]; exact ns.2.2
  · rw [k]
    refine ⟨⟨r, R, ?_, ?_⟩, ns.2.1, nc.2.1⟩
    · unfold vq; rw [if_neg (by omega), if_neg (by omega), if_pos (by omega)]; exact ns.2.2
    · unfold vq; rw [if_neg (by omega), if_neg (by omega), if_neg (by omega)]; exact nc.2.2
  · rw [k]
    refine ⟨⟨r, R, ?_, ?_⟩, nc.2.1, s⟩
    · unfold vq; rw [if_neg (by omega), if_neg (by omega), if_neg (by omega)]; exact nc.2.2
    · unfold vq; rw [if_pos (by omega)]; rfl

/-! ### the reference -/
end Go.Proofs.Ytpdkciennccckaa

namespace Go.Proofs.Ytpdkciennccckaa
open Go.ChangeShapes Go.WideShapes Go.ChangeAt Go.RowKit Ieee.Own

/-- Both, whatever the number: two words, the error's number -/
structure BothR (x s c : Nat) (k : Int) : Prop where
  err : k = errA x
  ok : k = 0 → Trig x s c
  no : k ≠ 0 → s = 0 ∧ c = 0
theorem BothR.uniq {x s c t d : Nat} {k l : Int} (B : BothR x s c k) (D : BothR x t d l) : s = t ∧ c = d ∧ k = l := by
  have e : k = l := by rw [B.err, D.err]
  subst e
  by_cases h : k = 0
  · obtain ⟨a, b⟩ := (B.ok h).uniq (D.ok h); exact ⟨a, b, rfl⟩
  · have a := B.no h
    have b := D.no h
    exact ⟨by omega, by omega, rfl⟩
end Go.Proofs.Ytpdkciennccckaa
