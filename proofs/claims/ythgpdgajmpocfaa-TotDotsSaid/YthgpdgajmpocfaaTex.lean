/- Proved here: the program's exact sum of a list is the exact sum, rounded once, over the translated code. -/
import Derived.Test.YthgpdgajmpocfaaTck
namespace Go.Proofs.Ythgpdgajmpocfaa
open Go.ChangeShapes Go.WideShapes Go.ChangeAt Go.RowKit Ieee.Own

/-- r is the word nearest to z units; a nought is +0 -/
def Near (z : Int) (r : Nat) : Prop := FinW r ∧ V r = RN z ∧ (V r = 0 → r = 0)
theorem Near.uniq {z : Int} {r s : Nat} (h : Near z r) (k : Near z s) : r = s := by
  by_cases h0 : V r = 0
  · rw [h.2.2 h0, k.2.2 (by rw [k.2.1, ← h.2.1]; exact h0)]
  · exact V_inj h.1 k.1 (by rw [h.2.1, k.2.1]) h0
theorem Near.zero : Near 0 0 := ⟨⟨by omega, by omega⟩, by rw [RN_zero]; decide +kernel, fun _ => rfl⟩

theorem nearest_run (b K : Nat) (us : List Nat) (z : Int) (w : World) (E : Exp b w us) (P : Parts K z (vs us)) (hK : K < 1870) (hl : us.length ≤ 4096) {v : Value} (hv : w.heap[b]? = some (.cells #[v] 48 (0, 0))) :
    Calls Try.prog 40 #[v] w fun e w' => (∃ r, e = .returned (.float .f64 r) ∧ Near z r) ∧ w = w' := by
  obtain ⟨v', hv', ho⟩ := E.own
  obtain rfl : v = v' := by rw [hv] at hv'; simpa using hv'
  by_cases hu : us = []
  · have hz : z = 0 := by rw [← P.sum, hu]; rfl
    obtain ⟨ao, m, c, rfl⟩ := owns_slice ho
    have hm : m = 0 := by
      rcases ho.2 with ⟨h, _⟩ | ⟨g, cap, cur, h, _⟩
      · simp at h; exact h.2.1
      · simp at h; rw [h.2.1, hu]; rfl
    subst hm hz
    exact (nearest_none ao c w).mono fun e w' h => ⟨⟨0, h.1, Near.zero⟩, h.2⟩
  · rcases ho.2 with ⟨_, h0⟩ | ⟨g, cap, cur, rfl, hg, hr, hn, hcm, hsz, ht⟩
    · exact absurd (List.eq_nil_of_length_eq_zero h0) hu
    · rw [Nat.mul_one] at hsz ht
      have hIn := InRow.of_take ht
      obtain ⟨n, hn'⟩ : ∃ n, us.length = n + 1 := ⟨us.length - 1, by have := List.length_pos_iff.2 hu; omega⟩
      rw [hn']
      refine (nearest_core g cap n (K + 2) us w hn' (by omega) E.fin (fun j hj => (RowAt.cell hr j).trans (hIn j (by omega) hj)) P.no P.abs (by omega)).mono ?_
      rintro e w' ⟨⟨r, h1, h2, h3⟩, h4⟩
      refine ⟨⟨r, h1, h2, by rw [h3, P.sum], fun h => ?_⟩, h4⟩
      have := sum_ne P.no hu
      rw [h3] at h
      exact absurd (RN_zero_iff h) this

/-- all numbers of a list are at most M: their sum is at most as many times M -/
theorem sum_bound {M : Nat} (ps : List Int) (h : ∀ p ∈ ps, p.natAbs ≤ M) : ps.sum.natAbs ≤ ps.length * M := by
  induction ps with
  | nil => simp
  | cons p ps ih =>
    have := ih (fun q hq => h q (by simp [hq]))
    have := h p (by simp)
    rw [List.sum_cons, List.length_cons, Nat.add_mul]; omega
theorem vs_take_succ {L : List Nat} {k : Nat} (h : k < L.length) : vs (L.take (k + 1)) = vs (L.take k) ++ [V (L.getD k 0)] := by
  rw [List.take_add_one, vs_app]
  congr 1
  simp [h, vs, List.getD]
theorem mul_pow_le {a j k l : Nat} (h : a ≤ 2 ^ j) (hl : j + k = l) : a * 2 ^ k ≤ 2 ^ l := by subst hl; rw [Nat.pow_add]; exact Nat.mul_le_mul_right _ h
theorem list_bound_at {ps : List Int} {k l : Nat} (h : ∀ p ∈ ps, p.natAbs ≤ 2 ^ k) (hl : ps.length ≤ 2 ^ 15) (hk : 15 + k = l) : ps.sum.natAbs ≤ 2 ^ l :=
  Nat.le_trans (sum_bound ps h) (mul_pow_le hl hk)
theorem list_bound {L : List Nat} (hw : Words L) (hf : allFit L = true) (hl : L.length ≤ 256) (k : Nat) : (vs (L.take k)).sum.natAbs ≤ 2 ^ 1290 := by
  refine list_bound_at (k := 1275) (l := 1290) ?_ (by rw [vs_len, List.length_take]; omega) (by decide)
  intro p hp
  obtain ⟨x, hx, rfl⟩ := List.mem_map.1 hp
  have hx' := List.mem_of_mem_take hx
  exact fit_abs (k := 1275) (hw x hx') (List.all_eq_true.1 hf x hx') (by decide)

/-- what Exact has done behind k numbers -/
structure Summed (B : Nat) (w : World) (L : List Nat) (k : Nat) (wr : World) : Prop where
  old : Below B w wr
  st : ∃ us, Exp B wr us ∧ Parts 1290 (vs (L.take k)).sum (vs us) ∧ us.length ≤ k

theorem Summed.next {B : Nat} {w : World} {L : List Nat} {k : Nat} {wr : World} (S : Summed B w L k wr) (hw : Words L) (hf : allFit L = true) (hl : L.length ≤ 256) (hk : k < L.length) :
    Calls Try.prog 39 #[.pointer (some ⟨B, 0, none⟩), .float .f64 (L.getD k 0)] wr fun e w' => e = .returned (.tuple #[]) ∧ Summed B w L (k + 1) w' := by
  obtain ⟨us, E, P, hu⟩ := S.st
  have hx := hw.at hk
  have hfx := allFit_at.1 hf k hk
  have ha := fit_abs hx hfx (k := 1290) (by omega)
  refine (add_run B us (L.getD k 0) (1290 + 4) wr E (fit_fin hx hfx) (by omega) (by omega) (way_le P ha)).mono ?_
  rintro e w' ⟨rfl, us', E', ev, hb, hl'⟩
  refine ⟨rfl, S.old.trans hb, us', E', ?_, by omega⟩
  have hs := list_bound hw hf hl (k + 1)
  rw [vs_take_succ hk, List.sum_append] at hs ⊢
  simp only [List.sum_cons, List.sum_nil, Int.add_zero] at hs ⊢
  rw [ev]
  exact P.grow (Rep_V _) ha hs (by omega)

theorem At.later {w w' : World} {ao : Option Addr} {L : List Nat} {B : Nat} (h : At w ao L) (hb : Below B w w') (hB : ∀ b o, ao = some ⟨b, o, none⟩ → 0 < L.length → b < B) : At w' ao L := by
  intro j hj
  obtain ⟨b, o, e, hc⟩ := h j hj
  exact ⟨b, o, e, (hb.cell (hB b o e (by omega))).trans hc⟩
theorem At.lt {w : World} {ao : Option Addr} {L : List Nat} (h : At w ao L) : ∀ b o, ao = some ⟨b, o, none⟩ → 0 < L.length → b < w.heap.size := by
  rintro b o rfl hl
  obtain ⟨b', o', e, hc⟩ := h 0 hl
  simp at e
  obtain ⟨rfl, rfl⟩ := e
  exact World.block_lt_of_cell? w _ hc

/-- what Exact is to answer -/
def ExactIs (L : List Nat) (r : Nat) : Prop := (errL L = 0 → Near (vs L).sum r) ∧ (errL L ≠ 0 → r = 0)
theorem errL_zero {L : List Nat} (h : errL L = 0) : L.length ≤ 256 ∧ allFit L = true := by
  unfold errL at h
  by_cases h1 : 256 < L.length
  · rw [if_pos h1] at h; omega
  · rw [if_neg h1] at h
    by_cases h2 : allFit L = true
    · exact ⟨by omega, h2⟩
    · rw [if_neg h2] at h; omega

set_option maxHeartbeats 1000000 in
theorem exact_run (ao : Option Addr) (cap n : Nat) (L : List Nat) (w : World) (hn : n = L.length) (hm : n ≤ 4611686018427387904) (hw : Words L) (ha : At w ao L) :
    Calls Try.prog 22 #[.slice ao n cap] w fun e w' => (∃ r, e = .returned (fe r (errL L)) ∧ ExactIs L r) ∧ Below w.heap.size w w' := by
  have K := fun w' h => check_run ao cap n L w' hn hm hw h
  have K0 := K w ha
  by_cases h0 : errL L = 0
  · obtain ⟨hl, hf⟩ := errL_zero h0
    have S0 : Summed w.heap.size w L 0 (w.alloc (.cells #[.slice none 0 0] 48)) :=
      ⟨(Below.refl _ w).alloc (Nat.le_refl _) _, [], ⟨Fins.nil, by simp, _, heap_alloc_new w _, World.ownsRow_nil _ _ _ _⟩, Parts.nil 1290, by simp⟩
    have hlt := ha.lt
    rw [h0] at K0 ⊢
    have hE : Hid (∀ r, Near (vs L).sum r → ExactIs L r) := fun r hr => ⟨fun _ => hr, fun h => absurd h0 h⟩
    replace S0 := Lib.hid S0
    replace ha := Lib.hid ha
    replace hlt := Lib.hid hlt
    replace hw := Lib.hid hw
    replace hl := Lib.hid hl
    replace hf := Lib.hid hf
    replace hn := Lib.hid hn
    clear K h0
    go_enter Try.func22, Try.ntmps22
    go_wp2_with (go_at_call 33; ((with_reducible refine K0.mono ?_); rintro e w' ⟨rfl, rfl⟩))
    go_loopw [15] (fun iv wr => ∃ i : Nat, i ≤ n ∧ iv = .int .i64 i ∧ Summed w.heap.size w L i wr) (fun iv _ => n - (intOf iv).toNat)
    case atStart => exact ⟨0, Nat.zero_le _, rfl, S0.out⟩
    case round =>
      obtain ⟨i, hi, rfl, S⟩ := hrel
      by_cases hlt' : i < n
      · have hil : i < L.length := by have := hn.out; omega
        obtain ⟨b, o, rfl, hc⟩ := (ha.out.later S.old hlt.out) i hil
        have C := S.next hw.out hf.out hl.out hil
        obtain ⟨u, hu⟩ : ∃ u, u = L.getD i 0 := ⟨_, rfl⟩
        rw [← hu] at hc C
        clear hu hil S
        go_wp2_with (go_at_call 39; ((with_reducible refine C.mono ?_); rintro en w2 ⟨rfl, S2⟩; replace S2 := Lib.hid S2))
        go_roundw
        case rel => exact ⟨i + 1, hlt', by go_num, S2.out⟩
        case measure => simp [intOf]; omega
      · obtain rfl : i = L.length := by have := hn.out; omega
        obtain ⟨us, E, P, hu⟩ := S.st
        obtain ⟨v, hv, _⟩ := E.own
        have hcell := cell_of_one hv
        rw [List.take_length] at P
        have N := nearest_run _ 1290 us _ wr E P (by omega) (by have := hl.out; omega) hv
        obtain ⟨ao', m', c', rfl⟩ : ∃ a m c, v = .slice a m c := by
          obtain ⟨v', hv', ho⟩ := E.own
          obtain rfl : v = v' := by rw [hv] at hv'; simpa using hv'
          exact owns_slice ho
        have hold := Lib.hid S.old
        clear E P hu hv S
        go_wp2_with (go_at_call 40; ((with_reducible refine N.mono ?_); rintro en w2 ⟨⟨r, rfl, hr⟩, rfl⟩; replace hr := Lib.hid hr))
        go_ret2
        exact ⟨⟨r, rfl, hE.out r hr.out⟩, hold.out⟩
  · have hE : Hid (ExactIs L 0) := ⟨fun h => absurd h h0, fun _ => rfl⟩
    have t : (errL L != 0) = true := by simpa using h0
    generalize errL L = er at *
    clear K h0 ha hw hn hm
    go_enter Try.func22, Try.ntmps22
    go_wp2_with (go_at_call 33; ((with_reducible refine K0.mono ?_); rintro e w' ⟨rfl, rfl⟩))
    go_ret2
    exact ⟨⟨0, rfl, hE.out⟩, Below.refl _ _⟩
end Go.Proofs.Ythgpdgajmpocfaa
