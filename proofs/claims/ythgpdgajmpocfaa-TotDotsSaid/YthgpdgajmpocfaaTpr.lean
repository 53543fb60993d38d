/- Proved here: what the sum by halves answers, the program's and the reference's, over the translated code. -/
import Derived.Test.YthgpdgajmpocfaaTkp
namespace Go.Proofs.Ythgpdgajmpocfaa
open Go.ChangeShapes Go.WideShapes Go.ChangeAt Go.RowKit Ieee.Own

def pairsF : Nat → List Nat → Nat
  | 0, _ => 0
  | k + 1, L => if L.length = 0 then 0 else if L.length = 1 then L.getD 0 0 else addS (pairsF k (L.take (L.length / 2))) (pairsF k (L.drop (L.length / 2)))
def pairsS (L : List Nat) : Nat := addS (pairsF (L.length + 1) L) 0

theorem pairs_sized (k : Nat) : ∀ (L : List Nat), (∀ x ∈ L, Sized 1275 x) → L.length ≤ 256 → L.length < k → Sized (1275 + L.length) (pairsF k L) := by
  induction k with
  | zero => intro L _ _ h; omega
  | succ k ih =>
    intro L hs hl hk
    unfold pairsF
    by_cases h0 : L.length = 0
    · rw [if_pos h0]; exact Sized.zero _
    rw [if_neg h0]
    by_cases h1 : L.length = 1
    · rw [if_pos h1]
      have : L.getD 0 0 ∈ L := by simp [List.getD, show 0 < L.length by omega]
      exact (hs _ this).up (by omega)
    rw [if_neg h1]
    have e1 : (L.take (L.length / 2)).length = L.length / 2 := by rw [List.length_take]; omega
    have e2 : (L.drop (L.length / 2)).length = L.length - L.length / 2 := by rw [List.length_drop]
    have A := ih (L.take (L.length / 2)) (fun x hx => hs x (List.mem_of_mem_take hx)) (by omega) (by omega)
    have B := ih (L.drop (L.length / 2)) (fun x hx => hs x (List.mem_of_mem_drop hx)) (by omega) (by omega)
    have C := ((A.up (show _ ≤ 1275 + (L.length - 1) by omega)).add (B.up (show _ ≤ 1275 + (L.length - 1) by omega)) (by omega)).1
    exact C.up (by omega)

theorem At.take {w : World} {b o : Nat} {L : List Nat} (h : At w (some ⟨b, o, none⟩) L) (k : Nat) : At w (some ⟨b, o, none⟩) (L.take k) := by
  intro j hj
  rw [List.length_take] at hj
  obtain ⟨b', o', e, hc⟩ := h j (by omega)
  refine ⟨b', o', e, ?_⟩
  rw [hc]
  simp [List.getD, show j < k by omega]
theorem At.drop {w : World} {b o : Nat} {L : List Nat} (h : At w (some ⟨b, o, none⟩) L) (k : Nat) : At w (some ⟨b, o + k, none⟩) (L.drop k) := by
  intro j hj
  rw [List.length_drop] at hj
  obtain ⟨b', o', e, hc⟩ := h (k + j) (by omega)
  simp only [Option.some.injEq, Addr.mk.injEq, and_true] at e
  obtain ⟨rfl, rfl⟩ := e
  refine ⟨b, o + k, rfl, ?_⟩
  rw [Nat.add_assoc, hc]
  simp [List.getD]

set_option maxHeartbeats 1000000 in
theorem halves_run (k : Nat) : ∀ (ao : Option Addr) (cap n : Nat) (L : List Nat) (w : World), n = L.length → n ≤ 256 → n ≤ cap → n < k → (∀ x ∈ L, Sized 1275 x) → At w ao L →
    Calls Try.prog 35 #[.slice ao n cap] w fun e w' => e = .returned (.float .f64 (pairsF k L)) ∧ Drawn w w' := by
  induction k with
  | zero => intro ao cap n L w hn _ _ h; omega
  | succ k ih =>
    intro ao cap n L w hn hl hcap hk hs ha
    by_cases h0 : n = 0
    · have hE : pairsF (k + 1) L = 0 := by unfold pairsF; rw [if_pos (by omega)]
      rw [hE]
      subst h0
      clear hE ha hs hn ih
      go_enter Try.func35, Try.ntmps35
      go_wp2_with fail
      go_ret
      exact ⟨rfl, Drawn.refl _⟩
    obtain ⟨b, o, rfl, hc⟩ := ha 0 (by omega)
    by_cases h1 : n = 1
    · have hE : pairsF (k + 1) L = L.getD 0 0 := by unfold pairsF; rw [if_neg (by omega), if_pos (by omega)]
      rw [hE]
      subst h1
      rw [Nat.add_zero] at hc
      generalize L.getD 0 0 = u at *
      clear hE ha hs hn ih
      go_enter Try.func35, Try.ntmps35
      go_wp2_with fail
      go_ret
      exact ⟨rfl, Drawn.refl _⟩
    have hE : pairsF (k + 1) L = addS (pairsF k (L.take (n / 2))) (pairsF k (L.drop (n / 2))) := by
      conv => lhs; unfold pairsF
      rw [if_neg (by omega), if_neg (by omega), hn]
    have e1 : (L.take (n / 2)).length = n / 2 := by rw [List.length_take]; omega
    have e2 : (L.drop (n / 2)).length = n - n / 2 := by rw [List.length_drop]; omega
    have s1 := pairs_sized k (L.take (n / 2)) (fun x hx => hs x (List.mem_of_mem_take hx)) (by omega) (by omega)
    have s2 := pairs_sized k (L.drop (n / 2)) (fun x hx => hs x (List.mem_of_mem_drop hx)) (by omega) (by omega)
    have I1 := fun m => ih (some ⟨b, o, none⟩) cap (n / 2) (L.take (n / 2)) (w.drewN m) e1.symm (by omega) (by omega) (by omega) (fun x hx => hs x (List.mem_of_mem_take hx)) (ha.take (n / 2))
    have I2 := fun m => ih (some ⟨b, o + n / 2, none⟩) (cap - n / 2) (n - n / 2) (L.drop (n / 2)) (w.drewN m) e2.symm (by omega) (by omega) (by omega) (fun x hx => hs x (List.mem_of_mem_drop hx)) (ha.drop (n / 2))
    obtain ⟨-, -, R⟩ := (s1.up (l := 1275 + n) (by rw [e1]; omega)).add (s2.up (l := 1275 + n) (by rw [e2]; omega)) (by omega)
    rw [hE]
    generalize pairsF k (L.take (n / 2)) = u at *
    generalize pairsF k (L.drop (n / 2)) = v at *
    generalize addS u v = r at *
    have hq : ((n : Int).tdiv 2) = ((n / 2 : Nat) : Int) := by rw [Int.tdiv_eq_ediv_of_nonneg (by omega)]; omega
    have hh : n / 2 < n := by omega
    have hh1 : 1 ≤ n / 2 := by omega
    clear hE hs hn ih e1 e2 s1 s2 ha hc
    obtain ⟨h, hhh⟩ : ∃ h, h = n / 2 := ⟨_, rfl⟩
    rw [← hhh] at hq hh hh1 I1 I2
    have I1' : ∀ m, Calls Try.prog 35 #[.slice (some ⟨b, o, none⟩) h cap] (w.drewN m) fun e w' => e = .returned (.float .f64 u) ∧ ∃ j, w' = (w.drewN m).drewN j := I1
    have I2' : ∀ m, Calls Try.prog 35 #[.slice (some ⟨b, o + h, none⟩) (n - h) (cap - h)] (w.drewN m) fun e w' => e = .returned (.float .f64 v) ∧ ∃ j, w' = (w.drewN m).drewN j := I2
    have hch : ¬ cap = h := by omega
    clear hhh I1 I2
    go_enter Try.func35, Try.ntmps35
    go_wp2_with fail
    go_quiet (first | (go_at_call 35; with_reducible refine Calls.quiet_of (I1' _)) | (go_at_call 35; with_reducible refine Calls.quiet_of (I2' _)))
    go_wp2_with fail
    go_ret
    exact ⟨rfl, (Drawn.refl w).more _⟩

theorem pairs_run (ao : Option Addr) (cap n : Nat) (L : List Nat) (w : World) (hn : n = L.length) (hm : n ≤ 4611686018427387904) (hcap : n ≤ cap) (hw : Words L) (ha : At w ao L) :
    Calls Try.prog 17 #[.slice ao n cap] w fun e w' => e = .returned (fe (outS L (pairsS L)) (errL L)) ∧ Drawn w w' := by
  have K0 := check_run ao cap n L w hn hm hw ha
  unfold outS
  by_cases h0 : errL L = 0
  · obtain ⟨hl, hf⟩ := errL_zero h0
    rw [h0] at K0 ⊢
    rw [if_pos rfl]
    have hsz : ∀ x ∈ L, Sized 1275 x := by
      intro x hx
      obtain ⟨j, hj, rfl⟩ := List.mem_iff_getElem.1 hx
      have := fit_sized hw hf hj
      simpa [List.getD, hj] using this
    have P := halves_run (L.length + 1) ao cap n L w hn (by omega) hcap (by omega) hsz ha
    obtain ⟨-, -, R⟩ := (pairs_sized (L.length + 1) L hsz hl (by omega)).add (Sized.zero _) (by omega)
    unfold pairsS
    generalize addS (pairsF (L.length + 1) L) 0 = r at *
    generalize pairsF (L.length + 1) L = u at *
    clear hsz hw hf h0 ha hn hl hm
    go_enter Try.func17, Try.ntmps17
    go_wp2_with (first | (go_at_call 33; ((with_reducible refine K0.mono ?_); rintro e w' ⟨rfl, rfl⟩)) | (go_at_call 35; ((with_reducible refine P.mono ?_); rintro e w' ⟨rfl, hd⟩)))
    go_ret2
    exact ⟨rfl, hd⟩
  · rw [if_neg h0]
    have t : (errL L != 0) = true := by simpa using h0
    generalize errL L = er at *
    clear h0 ha hw hn hm
    go_enter Try.func17, Try.ntmps17
    go_wp2_with (go_at_call 33; ((with_reducible refine K0.mono ?_); rintro e w' ⟨rfl, rfl⟩))
    go_ret2
    exact ⟨rfl, Drawn.refl _⟩

set_option maxHeartbeats 1000000 in
theorem rhalves_run (k : Nat) : ∀ (ao : Option Addr) (cap n : Nat) (L : List Nat) (w : World), n = L.length → n ≤ 256 → n ≤ cap → n < k → (∀ x ∈ L, Sized 1275 x) → At w ao L →
    Calls Try.prog 36 #[.slice ao n cap] w fun e w' => e = .returned (.float .f64 (pairsF k L)) ∧ Drawn w w' := by
  induction k with
  | zero => intro ao cap n L w hn _ _ h; omega
  | succ k ih =>
    intro ao cap n L w hn hl hcap hk hs ha
    by_cases h0 : n = 0
    · have hE : pairsF (k + 1) L = 0 := by unfold pairsF; rw [if_pos (by omega)]
      rw [hE]
      subst h0
      clear hE ha hs hn ih
      go_enter Try.func36, Try.ntmps36
      go_wp2_with fail
      go_ret
      exact ⟨rfl, Drawn.refl _⟩
    obtain ⟨b, o, rfl, hc⟩ := ha 0 (by omega)
    by_cases h1 : n = 1
    · have hE : pairsF (k + 1) L = L.getD 0 0 := by unfold pairsF; rw [if_neg (by omega), if_pos (by omega)]
      rw [hE]
      subst h1
      rw [Nat.add_zero] at hc
      generalize L.getD 0 0 = u at *
      clear hE ha hs hn ih
      go_enter Try.func36, Try.ntmps36
      go_wp2_with fail
      go_ret
      exact ⟨rfl, Drawn.refl _⟩
    have hE : pairsF (k + 1) L = addS (pairsF k (L.take (n / 2))) (pairsF k (L.drop (n / 2))) := by
      conv => lhs; unfold pairsF
      rw [if_neg (by omega), if_neg (by omega), hn]
    have e1 : (L.take (n / 2)).length = n / 2 := by rw [List.length_take]; omega
    have e2 : (L.drop (n / 2)).length = n - n / 2 := by rw [List.length_drop]; omega
    have s1 := pairs_sized k (L.take (n / 2)) (fun x hx => hs x (List.mem_of_mem_take hx)) (by omega) (by omega)
    have s2 := pairs_sized k (L.drop (n / 2)) (fun x hx => hs x (List.mem_of_mem_drop hx)) (by omega) (by omega)
    have I1 := fun m => ih (some ⟨b, o, none⟩) cap (n / 2) (L.take (n / 2)) (w.drewN m) e1.symm (by omega) (by omega) (by omega) (fun x hx => hs x (List.mem_of_mem_take hx)) (ha.take (n / 2))
    have I2 := fun m => ih (some ⟨b, o + n / 2, none⟩) (cap - n / 2) (n - n / 2) (L.drop (n / 2)) (w.drewN m) e2.symm (by omega) (by omega) (by omega) (fun x hx => hs x (List.mem_of_mem_drop hx)) (ha.drop (n / 2))
    obtain ⟨-, -, R⟩ := (s1.up (l := 1275 + n) (by rw [e1]; omega)).add (s2.up (l := 1275 + n) (by rw [e2]; omega)) (by omega)
    rw [hE]
    generalize pairsF k (L.take (n / 2)) = u at *
    generalize pairsF k (L.drop (n / 2)) = v at *
    generalize addS u v = r at *
    have hq : ((n : Int).tdiv 2) = ((n / 2 : Nat) : Int) := by rw [Int.tdiv_eq_ediv_of_nonneg (by omega)]; omega
    have hh : n / 2 < n := by omega
    have hh1 : 1 ≤ n / 2 := by omega
    clear hE hs hn ih e1 e2 s1 s2 ha hc
    obtain ⟨h, hhh⟩ : ∃ h, h = n / 2 := ⟨_, rfl⟩
    rw [← hhh] at hq hh hh1 I1 I2
    have I1' : ∀ m, Calls Try.prog 36 #[.slice (some ⟨b, o, none⟩) h cap] (w.drewN m) fun e w' => e = .returned (.float .f64 u) ∧ ∃ j, w' = (w.drewN m).drewN j := I1
    have I2' : ∀ m, Calls Try.prog 36 #[.slice (some ⟨b, o + h, none⟩) (n - h) (cap - h)] (w.drewN m) fun e w' => e = .returned (.float .f64 v) ∧ ∃ j, w' = (w.drewN m).drewN j := I2
    have hch : ¬ cap = h := by omega
    clear hhh I1 I2
    go_enter Try.func36, Try.ntmps36
    go_wp2_with fail
    go_quiet (first | (go_at_call 36; with_reducible refine Calls.quiet_of (I1' _)) | (go_at_call 36; with_reducible refine Calls.quiet_of (I2' _)))
    go_wp2_with fail
    go_ret
    exact ⟨rfl, (Drawn.refl w).more _⟩

theorem rpairs_run (ao : Option Addr) (cap n : Nat) (L : List Nat) (w : World) (hn : n = L.length) (hm : n ≤ 4611686018427387904) (hcap : n ≤ cap) (hw : Words L) (ha : At w ao L) :
    Calls Try.prog 18 #[.slice ao n cap] w fun e w' => e = .returned (fe (outS L (pairsS L)) (errL L)) ∧ Drawn w w' := by
  have K0 := rcheck_run ao cap n L w hn hm hw ha
  unfold outS
  by_cases h0 : errL L = 0
  · obtain ⟨hl, hf⟩ := errL_zero h0
    rw [h0] at K0 ⊢
    rw [if_pos rfl]
    have hsz : ∀ x ∈ L, Sized 1275 x := by
      intro x hx
      obtain ⟨j, hj, rfl⟩ := List.mem_iff_getElem.1 hx
      have := fit_sized hw hf hj
      simpa [List.getD, hj] using this
    have P := rhalves_run (L.length + 1) ao cap n L w hn (by omega) hcap (by omega) hsz ha
    obtain ⟨-, -, R⟩ := (pairs_sized (L.length + 1) L hsz hl (by omega)).add (Sized.zero _) (by omega)
    unfold pairsS
    generalize addS (pairsF (L.length + 1) L) 0 = r at *
    generalize pairsF (L.length + 1) L = u at *
    clear hsz hw hf h0 ha hn hl hm
    go_enter Try.func18, Try.ntmps18
    go_wp2_with (first | (go_at_call 34; ((with_reducible refine K0.mono ?_); rintro e w' ⟨rfl, rfl⟩)) | (go_at_call 36; ((with_reducible refine P.mono ?_); rintro e w' ⟨rfl, hd⟩)))
    go_ret2
    exact ⟨rfl, hd⟩
  · rw [if_neg h0]
    have t : (errL L != 0) = true := by simpa using h0
    generalize errL L = er at *
    clear h0 ha hw hn hm
    go_enter Try.func18, Try.ntmps18
    go_wp2_with (go_at_call 34; ((with_reducible refine K0.mono ?_); rintro e w' ⟨rfl, rfl⟩))
    go_ret2
    exact ⟨rfl, Drawn.refl _⟩
end Go.Proofs.Ythgpdgajmpocfaa
