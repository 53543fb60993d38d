/- Proved here: the reference's exact sum of a list is the exact sum, rounded once, over the translated code. -/
import Derived.Test.YthgpdgajmpocfaaRnd
namespace Go.Proofs.Ythgpdgajmpocfaa
open Go.ChangeShapes Go.WideShapes Go.ChangeAt Go.RowKit Ieee.Own

theorem start_holds (w : World) : Holds w.heap.size (w.alloc (.cells #[.int .u64 0, .int .u64 0, .int .u64 0, .int .u64 0, .int .u64 0, .int .u64 0, .int .u64 0, .int .u64 0, .int .u64 0, .int .u64 0, .int .u64 0, .int .u64 0, .int .u64 0, .int .u64 0, .int .u64 0, .int .u64 0, .int .u64 0, .int .u64 0, .int .u64 0, .int .u64 0, .int .u64 0, .int .u64 0, .int .u64 0, .int .u64 0] 52)) 0 (fun _ => 0) := by
  refine ⟨fun _ => by omega, by simp, ?_, ?_, ?_⟩
  · intro i hi
    rw [World.cell?_alloc_at _ _ _ _ rfl]
    have : i = 0 ∨ i = 1 ∨ i = 2 ∨ i = 3 ∨ i = 4 ∨ i = 5 ∨ i = 6 ∨ i = 7 ∨ i = 8 ∨ i = 9 ∨ i = 10 ∨ i = 11 ∨ i = 12 ∨ i = 13 ∨ i = 14 ∨ i = 15 ∨ i = 16 ∨ i = 17 ∨ i = 18 ∨ i = 19 ∨ i = 20 ∨ i = 21 ∨ i = 22 ∨ i = 23 := by omega
    rcases this with rfl | rfl | rfl | rfl | rfl | rfl | rfl | rfl | rfl | rfl | rfl | rfl | rfl | rfl | rfl | rfl | rfl | rfl | rfl | rfl | rfl | rfl | rfl | rfl <;> rfl
  · intro i hi; exact World.frozen?_alloc_at _ _ _ _ rfl
  · rw [sumW_of_zero _ 24 (fun _ _ => rfl), Int.sub_zero]; exact Int.dvd_zero _


theorem round_zero (k : Nat) (ws : Nat → Nat) (w : World) (H : Holds k w 0 ws) :
    Calls Try.prog 42 #[.pointer (some ⟨k, 0, none⟩)] w fun e w' => e = .returned (.float .f64 0) ∧ w = w' := by
  have S := sign_zero k ws w H
  clear H
  go_enter Try.func42, Try.ntmps42
  go_wp2_with (go_at_call 47; ((with_reducible refine S.mono ?_); rintro e w' ⟨rfl, rfl⟩))
  go_ret
  exact ⟨rfl, rfl⟩

/-- a long sum's number: none, or great enough and small enough -/
def Mid (z : Int) : Prop := z = 0 ∨ 2 ^ 101 ≤ z.natAbs ∧ z.natAbs < 2 ^ 1501
theorem round_any (k : Nat) (z : Int) (ws : Nat → Nat) (w : World) (H : Holds k w z ws) (hz : Mid z) :
    Calls Try.prog 42 #[.pointer (some ⟨k, 0, none⟩)] w fun e w' => (∃ r, e = .returned (.float .f64 r) ∧ Near (z * 2 ^ 50) r) ∧ Below w.heap.size w w' := by
  rcases hz with rfl | ⟨h1, h2⟩
  · refine (round_zero k ws w H).mono ?_
    rintro e w' ⟨rfl, rfl⟩
    exact ⟨⟨0, rfl, by rw [Int.zero_mul]; exact Near.zero⟩, Below.refl _ _⟩
  · have hM0 : z.natAbs ≠ 0 := by have := Nat.two_pow_pos 101; omega
    have l1 : 101 ≤ z.natAbs.log2 := (Nat.le_log2 hM0).2 h1
    have l2 : z.natAbs.log2 < 1501 := (Nat.log2_lt hM0).2 h2
    have h3 : z.natAbs < 2 ^ 1535 := Nat.lt_of_lt_of_le h2 (two_le (a := 1501) (b := 1535) (by decide))
    by_cases hp : 0 ≤ z
    · exact round_pos k z ws w z.natAbs _ H h3 (by omega) hM0 rfl l1 (by omega)
    · exact round_neg k z ws w z.natAbs _ H h3 (by omega) hM0 rfl l1 (by omega)

theorem mid_of {z s : Int} (h : z * 2 ^ 50 = s) (hd : (2 : Int) ^ 500 ∣ s) {k : Nat} (hb : s.natAbs ≤ 2 ^ k) (hk : k ≤ 1500) : Mid z := by
  by_cases h0 : z = 0
  · exact Or.inl h0
  · right
    have hp : (0 : Int) < 2 ^ 50 := by decide
    have hs : s ≠ 0 := by
      rw [← h]; intro h
      rcases Int.mul_eq_zero.1 h with h | h <;> omega
    have h1 := pow_abs_dvd hd hs
    rw [← h, scale_abs] at h1 hb
    constructor
    · rw [pow_cut (a := 500) (b := 450) (c := 50) rfl] at h1
      have := Nat.le_of_mul_le_mul_right h1 (by decide)
      exact Nat.le_trans (two_le (a := 101) (b := 450) (by decide)) this
    · refine Nat.lt_of_le_of_lt ?_ (two_lt (a := k) (b := 1501) (by omega))
      refine Nat.le_trans ?_ hb
      exact Nat.le_mul_of_pos_right _ (by decide)

theorem sum_dvd {ps : List Int} {k : Nat} (h : ∀ p ∈ ps, (2 : Int) ^ k ∣ p) : (2 : Int) ^ k ∣ ps.sum := by
  induction ps with
  | nil => exact Int.dvd_zero _
  | cons p ps ih => rw [List.sum_cons]; exact Int.dvd_add (h p (by simp)) (ih fun q hq => h q (by simp [hq]))

/-- what the reference's Exact has done behind i numbers -/
structure Acced (B : Nat) (w : World) (L : List Nat) (i : Nat) (wr : World) : Prop where
  old : Below B w wr
  st : ∃ z ws, Holds B wr z ws ∧ z * 2 ^ 50 = (vs (L.take i)).sum
theorem Acced.next {B : Nat} {w : World} {L : List Nat} {i : Nat} {wr : World} (S : Acced B w L i wr) (hw : Words L) (hf : allFit L = true) (hi : i < L.length) :
    Calls Try.prog 41 #[.pointer (some ⟨B, 0, none⟩), .float .f64 (L.getD i 0)] wr fun e w' => e = .returned (.tuple #[]) ∧ Acced B w L (i + 1) w' := by
  obtain ⟨z, ws, H, hz⟩ := S.st
  have hx := hw.at hi
  have hfx := allFit_at.1 hf i hi
  obtain ⟨⟨X, hX⟩, hr, -⟩ := good (k := 1275) (fit_fin hx hfx) (fit_dvd hx hfx) (fit_abs (k := 1275) hx hfx (by decide)) (by decide)
  refine (add_any B (L.getD i 0) X z ws wr (fit_fin hx hfx) hX hr H).mono ?_
  rintro e w' ⟨rfl, ⟨ns, H'⟩, hs⟩
  refine ⟨rfl, S.old.trans hs.1, z + X, ns, H', ?_⟩
  rw [vs_take_succ hi, List.sum_append, Int.add_mul, hz, ← hX]
  simp

set_option maxHeartbeats 1000000 in
theorem rexact_run (ao : Option Addr) (cap n : Nat) (L : List Nat) (w : World) (hn : n = L.length) (hm : n ≤ 4611686018427387904) (hw : Words L) (ha : At w ao L) :
    Calls Try.prog 23 #[.slice ao n cap] w fun e w' => (∃ r, e = .returned (fe r (errL L)) ∧ ExactIs L r) ∧ Below w.heap.size w w' := by
  have K0 := rcheck_run ao cap n L w hn hm hw ha
  by_cases h0 : errL L = 0
  · obtain ⟨hl, hf⟩ := errL_zero h0
    have S0 : Hid (Acced w.heap.size w L 0 _) := ⟨(Below.refl _ w).alloc (Nat.le_refl _) _, 0, _, start_holds w, by rfl⟩
    have hlt := ha.lt
    rw [h0] at K0 ⊢
    have hE : Hid (∀ r, Near (vs L).sum r → ExactIs L r) := fun r hr => ⟨fun _ => hr, fun h => absurd h0 h⟩
    have hbd := Lib.hid (list_bound hw hf hl L.length)
    have hdv : Hid ((2 : Int) ^ 500 ∣ (vs L).sum) := sum_dvd (by
      intro p hp
      obtain ⟨x, hx, rfl⟩ := List.mem_map.1 hp
      exact fit_dvd (hw x hx) (List.all_eq_true.1 hf x hx))
    replace ha := Lib.hid ha
    replace hlt := Lib.hid hlt
    replace hw := Lib.hid hw
    replace hf := Lib.hid hf
    replace hn := Lib.hid hn
    clear h0 hl
    go_enter Try.func23, Try.ntmps23
    go_wp2_with (go_at_call 34; ((with_reducible refine K0.mono ?_); rintro e w' ⟨rfl, rfl⟩))
    go_loopw [6] (fun iv wr => ∃ i : Nat, i ≤ n ∧ iv = .int .i64 i ∧ Acced w.heap.size w L i wr) (fun iv _ => n - (intOf iv).toNat)
    case atStart => exact ⟨0, Nat.zero_le _, rfl, S0.out⟩
    case round =>
      obtain ⟨i, hi, rfl, S⟩ := hrel
      by_cases hlt' : i < n
      · have hil : i < L.length := by have := hn.out; omega
        obtain ⟨b, o, rfl, hc⟩ := (ha.out.later S.old hlt.out) i hil
        have C := S.next hw.out hf.out hil
        obtain ⟨u, hu⟩ : ∃ u, u = L.getD i 0 := ⟨_, rfl⟩
        rw [← hu] at hc C
        clear hu hil S
        go_wp2_with (go_at_call 41; ((with_reducible refine C.mono ?_); rintro en w2 ⟨rfl, S2⟩; replace S2 := Lib.hid S2))
        go_roundw
        case rel => exact ⟨i + 1, hlt', by go_num, S2.out⟩
        case measure => simp [intOf]; omega
      · obtain rfl : i = L.length := by have := hn.out; omega
        obtain ⟨z, ws, H, hz⟩ := S.st
        have hbd2 := hbd.out
        rw [List.take_length] at hz hbd2
        have R := round_any _ z ws wr H (mid_of (k := 1290) hz hdv.out hbd2 (by decide))
        rw [hz] at R
        have hold := Lib.hid S.old
        clear H hz S hbd2
        go_wp2_with fail
        refine R.mono ?_
        rintro _ w2 ⟨⟨r, rfl, hr⟩, hb2⟩
        have B2 := Lib.hid (hold.out.trans (hb2.mono hold.out.size))
        replace hr := Lib.hid hr
        clear R hb2 hold
        go_wp2_with fail
        go_ret2
        exact ⟨⟨r, rfl, hE.out r hr.out⟩, B2.out⟩
  · have hE : Hid (ExactIs L 0) := ⟨fun h => absurd h h0, fun _ => rfl⟩
    have t : (errL L != 0) = true := by simpa using h0
    generalize errL L = er at *
    clear h0 ha hw hn hm
    go_enter Try.func23, Try.ntmps23
    go_wp2_with (go_at_call 34; ((with_reducible refine K0.mono ?_); rintro e w' ⟨rfl, rfl⟩))
    go_ret2
    exact ⟨⟨0, rfl, hE.out⟩, Below.refl _ _⟩
end Go.Proofs.Ythgpdgajmpocfaa
