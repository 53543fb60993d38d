/- Proved here: of up to two fit numbers the sums in all orders are the word nearest to the exact sum. -/
import Derived.Test.YthgpdgajmpocfaaTaw
namespace Ieee.Own

/-- a sum that is a nought is +0, but of two negative noughts -/
theorem add_zero {a b : Nat} (ha : FinW a) (hb : FinW b) (h : V a + V b = 0) (hz : a < 9223372036854775808 ∨ b < 9223372036854775808) : double.add a b = some 0 := by
  have hsign : ∀ {c : Nat}, FinW c → ∀ {s : Bool} {m : Nat} {p : Int}, double.read c = .number s m p → (s = true ↔ 9223372036854775808 ≤ c) := by
    intro c hc s m p hr
    rw [read_num double c (by rw [sw64, inf64]; exact hc.2)] at hr
    simp only [Datum.number.injEq] at hr
    have h1 := hc.1
    rw [sw64] at hr
    rw [← hr.1]
    simp; omega
  obtain ⟨s, m, p, hr, hV, -⟩ := read_sv ha
  obtain ⟨t, n, q, hr', hV', -⟩ := read_sv hb
  have s1 := hsign ha hr
  have s2 := hsign hb hr'
  have hst : (s && t) = false := by
    cases s
    · rfl
    · cases t
      · rfl
      · have := s1.1 rfl; have := s2.1 rfl; omega
  unfold Format.add
  rw [hr, hr']
  simp only [Datum.sum, Option.map]
  have hal : _ = sv s m p + sv t n q := signed_align s t m n p q
  rw [← hV, ← hV', h] at hal
  generalize signed s m (-1074 + (p : Int) - min (-1074 + (p : Int)) (-1074 + (q : Int))).toNat + signed t n (-1074 + (q : Int) - min (-1074 + (p : Int)) (-1074 + (q : Int))).toNat = T at *
  have hT : T = 0 := by
    have hp : (0 : Int) < 2 ^ (min p q) := Int.pow_pos (by omega)
    rcases Int.mul_eq_zero.1 hal with h | h
    · exact h
    · omega
  subst hT
  simp only [if_true, hst]
  simp only [Format.write, Format.nearest, Int.natAbs_zero, if_true]
  congr 1
end Ieee.Own

namespace Go.Proofs.Ythgpdgajmpocfaa
open Go.ChangeShapes Go.WideShapes Go.ChangeAt Go.RowKit Ieee.Own

theorem RN_zero_of {z : Int} (h : z = 0) : RN z = 0 := by rw [h, RN_zero]
/-- no negative nought -/
def Pl (a : Nat) : Prop := V a = 0 → a = 0
theorem Pl.zero : Pl 0 := fun _ => rfl
theorem addS_near {k a b : Nat} (ha : Sized k a) (hb : Sized k b) (hk : k < 2000) (h : Pl a ∨ Pl b) : Near (V a + V b) (addS a b) := by
  obtain ⟨S, e, -⟩ := ha.add hb hk
  refine ⟨S.1, e, fun h0 => ?_⟩
  rw [e] at h0
  have hz := RN_zero_iff h0
  have : Ieee.double.add a b = some 0 := by
    refine add_zero ha.1 hb.1 hz ?_
    have va : a < 9223372036854775808 ∨ V a ≤ 0 := by
      by_cases h : a < 9223372036854775808
      · exact Or.inl h
      · right; unfold V; rw [if_neg h]; omega
    have vb : b < 9223372036854775808 ∨ V b ≤ 0 := by
      by_cases h : b < 9223372036854775808
      · exact Or.inl h
      · right; unfold V; rw [if_neg h]; omega
    rcases va with va | va
    · exact Or.inl va
    rcases vb with vb | vb
    · exact Or.inr vb
    have a0 : V a = 0 := by omega
    have b0 : V b = 0 := by omega
    rcases h with h | h
    · left; rw [h a0]; decide
    · right; rw [h b0]; decide
  unfold addS; rw [this]; rfl
theorem Near.pl {z : Int} {r : Nat} (h : Near z r) : Pl r := h.2.2
theorem V_zero : V 0 = 0 := by decide +kernel

variable {a b : Nat}
/-- of one number -/
theorem near_one (ha : Sized 1275 a) : Near (V a) (addS 0 a) := by
  have := addS_near (Sized.zero 1275) ha (by omega) (Or.inl Pl.zero)
  rwa [V_zero, Int.zero_add] at this
theorem near_one' (ha : Sized 1275 a) : Near (V a) (addS a 0) := by
  have := addS_near ha (Sized.zero 1275) (by omega) (Or.inr Pl.zero)
  rwa [V_zero, Int.add_zero] at this
theorem near_val {r : Nat} (h : Near (V a) r) : V r = V a := by rw [h.2.1, RN_exact (Rep_V a)]
theorem near_sized {r k : Nat} {z : Int} (h : Near z r) (hz : z.natAbs ≤ 2 ^ k) : Sized k r := ⟨h.1, by rw [h.2.1]; exact RN_bound hz⟩
theorem near_of {z z' : Int} {r : Nat} (h : Near z r) (e : RN z = RN z') : Near z' r := ⟨h.1, by rw [h.2.1, e], h.2.2⟩

/-- one by one, from +0 -/
theorem near_two (ha : Sized 1275 a) (hb : Sized 1275 b) : Near (V a + V b) (addS (addS 0 a) b) := by
  have h1 := near_one ha
  have hv := near_val h1
  have := addS_near (near_sized h1 ha.2) hb (by omega) (Or.inl h1.pl)
  rwa [hv] at this
/-- both at once, and +0 -/
theorem near_pair (ha : Sized 1275 a) (hb : Sized 1275 b) : Near (V a + V b) (addS (addS a b) 0) := by
  obtain ⟨S, e, -⟩ := ha.add hb (by omega)
  have := addS_near S (Sized.zero (1275 + 1)) (by omega) (Or.inr Pl.zero)
  rw [V_zero, Int.add_zero] at this
  exact near_of this (by rw [e]; exact RN_exact (RN_rep _))

/-! ### what is kept beside -/
theorem geB_le (ha : FinW a) (hb : FinW b) : (geB a b = true → (V b).natAbs ≤ (V a).natAbs) ∧ (geB a b = false → (V a).natAbs ≤ (V b).natAbs) := by
  have h1 := ha.2
  have h2 := hb.2
  have e : geB a b = decide (b % 9223372036854775808 ≤ a % 9223372036854775808) := by
    unfold geB
    rw [o_geq _ _ (by omega) (by omega), key_low (by omega), key_low (by omega), decide_eq_decide]
    constructor
    · rintro ⟨-, -, h⟩; omega
    · intro h; exact ⟨by unfold nn; omega, by unfold nn; omega, by omega⟩
  rw [e, V_abs' a ha, V_abs' b hb]
  have hv := val_lt_iff 52 (a % 9223372036854775808) (b % 9223372036854775808)
  have hv' := val_lt_iff 52 (b % 9223372036854775808) (a % 9223372036854775808)
  constructor
  · intro h; rw [decide_eq_true_eq] at h; omega
  · intro h; rw [decide_eq_false_iff_not] at h; omega

/-- the greater less the sum, and the less: what rounding left -/
theorem rest_val {x y s : Int} (hx : Rep x) (hy : Rep y) (h : y.natAbs ≤ x.natAbs) (hs : s = RN (x + y)) : RN (RN (x - s) + y) = x + y - s := by
  have h1 : Rep (x - s) := by
    have := Rep_neg (fast hx hy h)
    rw [← hs] at this
    rwa [show -(s - x) = x - s by omega] at this
  have h2 : Rep (x + y - s) := by rw [hs]; exact Rep_err hx hy
  rw [RN_exact h1, show x - s + y = x + y - s by omega, RN_exact h2]

/-- a step of Kept: the sum and what is kept, in values -/
theorem kept_step {s k x : Nat} (hs : Sized 1276 s) (hk : V k = 0) (fk : Sized 1276 k) (hx : Sized 1275 x) (hp : Pl s) :
    Near (V s + V x) (keptStep (s, k) x).1 ∧ Sized 1282 (keptStep (s, k) x).2 ∧ V (keptStep (s, k) x).2 = V s + V x - RN (V s + V x) := by
  have hx' := hx.up (show 1275 ≤ 1276 by omega)
  obtain ⟨T, eT, -⟩ := hs.add hx' (by omega)
  have hN := addS_near hs hx' (by omega) (Or.inl hp)
  refine ⟨hN, ?_⟩
  obtain ⟨C, eC, -⟩ := (hs.up (show 1276 ≤ 1277 by omega)).sub T (by omega)
  obtain ⟨D, eD, -⟩ := C.add (hx.up (show 1275 ≤ 1278 by omega)) (by omega)
  obtain ⟨A, eA, -⟩ := (fk.up (show 1276 ≤ 1279 by omega)).add D (by omega)
  obtain ⟨C', eC', -⟩ := (hx'.up (show 1276 ≤ 1277 by omega)).sub T (by omega)
  obtain ⟨D', eD', -⟩ := C'.add (hs.up (show 1276 ≤ 1278 by omega)) (by omega)
  obtain ⟨B, eB, -⟩ := (fk.up (show 1276 ≤ 1279 by omega)).add D' (by omega)
  have hle := geB_le hs.1 hx.1
  have r1 : ∀ z, V z = V s + V x - RN (V s + V x) → RN (V k + V z) = V s + V x - RN (V s + V x) := by
    intro z hz
    rw [hk, Int.zero_add, hz]
    exact RN_exact (Rep_err (Rep_V s) (Rep_V x))
  unfold keptStep
  by_cases hg : geB s x = true
  · simp only [hg, if_true]
    refine ⟨A.up (by omega), ?_⟩
    rw [eA]
    refine r1 _ ?_
    rw [eD, eC, eT]
    exact rest_val (Rep_V s) (Rep_V x) (hle.1 hg) rfl
  · simp only [hg, if_false, Bool.false_eq_true]
    rw [Bool.not_eq_true] at hg
    refine ⟨B.up (by omega), ?_⟩
    rw [eB]
    refine r1 _ ?_
    rw [eD', eC', eT]
    have := rest_val (x := V x) (y := V s) (Rep_V x) (Rep_V s) (hle.2 hg) rfl
    rw [Int.add_comm (V x) (V s)] at this
    exact this

theorem near_kept_one (ha : Sized 1275 a) : Near (V a) (keptS [a]) := by
  obtain ⟨h1, h2, h3⟩ := kept_step (Sized.zero 1276) V_zero (Sized.zero 1276) ha Pl.zero
  rw [V_zero, Int.zero_add, RN_exact (Rep_V a), Int.sub_self] at h3
  rw [V_zero, Int.zero_add] at h1
  show Near _ (addS (keptStep (0, 0) a).1 (keptStep (0, 0) a).2)
  have hv := near_val h1
  have := addS_near ((near_sized h1 ha.2).up (show 1275 ≤ 1282 by omega)) h2 (by omega) (Or.inl h1.pl)
  rw [hv, h3, Int.add_zero] at this
  exact this
theorem zero_abs' {x : Int} (h : x = 0) (k : Nat) : x.natAbs ≤ 2 ^ k := by rw [h]; simp
theorem near_kept_two (ha : Sized 1275 a) (hb : Sized 1275 b) : Near (V a + V b) (keptS [a, b]) := by
  obtain ⟨h1, h2, h3⟩ := kept_step (Sized.zero 1276) V_zero (Sized.zero 1276) ha Pl.zero
  rw [V_zero, Int.zero_add, RN_exact (Rep_V a), Int.sub_self] at h3
  rw [V_zero, Int.zero_add] at h1
  show Near _ (addS (keptStep (keptStep (0, 0) a) b).1 (keptStep (keptStep (0, 0) a) b).2)
  have hv := near_val h1
  have hk0 : Sized 1276 (keptStep (0, 0) a).2 := ⟨h2.1, zero_abs' h3 1276⟩
  have hp : keptStep (0, 0) a = ((keptStep (0, 0) a).1, (keptStep (0, 0) a).2) := rfl
  obtain ⟨g1, g2, g3⟩ := kept_step ((near_sized h1 ha.2).up (show 1275 ≤ 1276 by omega)) h3 hk0 hb h1.pl
  rw [← hp, hv] at g1 g3
  rw [← hp] at g2
  have hb' := add_abs (k := 1275) ha.2 hb.2
  have := addS_near ((near_sized g1 hb').up (l := 1282) (by omega)) g2 (by omega) (Or.inl g1.pl)
  rw [g1.2.1, g3, show RN (V a + V b) + (V a + V b - RN (V a + V b)) = V a + V b by omega] at this
  exact this

/-- ALL ARE ONE -/
theorem two_all (L : List Nat) (hl : L.length ≤ 2) (hs : ∀ x ∈ L, Sized 1275 x) {r : Nat} (h : Near (vs L).sum r) :
    leftS L = r ∧ leftS L.reverse = r ∧ pairsS L = r ∧ keptS L = r := by
  match L, hl with
  | [], _ =>
    have : r = 0 := h.uniq Near.zero
    rw [this]
    exact ⟨rfl, rfl, by decide +kernel, by decide +kernel⟩
  | [a], _ =>
    have ha := hs a (by simp)
    have e : (vs [a]).sum = V a := by simp [vs]
    rw [e] at h
    refine ⟨(near_one ha).uniq h, (near_one ha).uniq h, ?_, (near_kept_one ha).uniq h⟩
    exact (near_one' ha).uniq h
  | [a, b], _ =>
    have ha := hs a (by simp)
    have hb := hs b (by simp)
    have e : (vs [a, b]).sum = V a + V b := by simp [vs]
    rw [e] at h
    have ep : pairsS [a, b] = addS (addS a b) 0 := by simp [pairsS, pairsF]
    refine ⟨(near_two ha hb).uniq h, ?_, ep.trans ((near_pair ha hb).uniq h), (near_kept_two ha hb).uniq h⟩
    have := near_two hb ha
    rw [Int.add_comm] at this
    exact this.uniq h

theorem start_run (k n : Nat) (hk : k < 18446744073709551616) (hn : n ≤ 4611686018427387904) (h0 : 0 < n) (w : World) :
    Calls Try.prog 28 #[.int .u64 k, .int .i64 n] w fun e w' => e = .returned (.int .i64 ((k % n : Nat) : Int)) ∧ w = w' := by
  have t : ((n : Int) == 0) = false := ieq_f (by omega)
  have hm : k % n < n := Nat.mod_lt _ h0
  go_enter Try.func28, Try.ntmps28
  go_wp2
  go_ret
  exact ⟨ret_i (by simp), rfl⟩
end Go.Proofs.Ythgpdgajmpocfaa
