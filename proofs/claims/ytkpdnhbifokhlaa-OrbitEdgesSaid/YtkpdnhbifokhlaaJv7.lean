/- Proved here: what the texts Vmb prove, one behind the other. -/
import Derived.Test.YtkpdnhbifokhlaaJv6

namespace Go.Proofs.Ytkpdnhbifokhlaa
open Go.ChangeShapes Go.WideShapes Go.ChangeAt Go.RowKit Ieee.Own

set_option maxHeartbeats 4000000 in
set_option maxRecDepth 100000 in
theorem vprods_ok {a1 a2 a3 b1 b2 b3 c1 c2 c3 x1 x2 x3 d1 d2 d3 : Nat} (C1 : Hid (∀ w, Calls Try.prog 111 #[.agg #[.float .f64 a1, .float .f64 a2, .float .f64 a3], .agg #[.float .f64 x1, .float .f64 x2, .float .f64 x3]] w fun e w' => e = .returned (.float .f64 d1) ∧ Below w.heap.size w w')) (C2 : Hid (∀ w, Calls Try.prog 111 #[.agg #[.float .f64 b1, .float .f64 b2, .float .f64 b3], .agg #[.float .f64 x1, .float .f64 x2, .float .f64 x3]] w fun e w' => e = .returned (.float .f64 d2) ∧ Below w.heap.size w w')) (C3 : Hid (∀ w, Calls Try.prog 111 #[.agg #[.float .f64 c1, .float .f64 c2, .float .f64 c3], .agg #[.float .f64 x1, .float .f64 x2, .float .f64 x3]] w fun e w' => e = .returned (.float .f64 d3) ∧ Below w.heap.size w w')) (w : World) : Calls Try.prog 94 #[.agg #[.float .f64 a1, .float .f64 a2, .float .f64 a3, .float .f64 b1, .float .f64 b2, .float .f64 b3, .float .f64 c1, .float .f64 c2, .float .f64 c3], .agg #[.float .f64 x1, .float .f64 x2, .float .f64 x3]] w fun e w' => e = .returned (.agg #[.float .f64 d1, .float .f64 d2, .float .f64 d3]) ∧ Below w.heap.size w w' := by
  have K0 := kw3 w 79 33 33 [a1, a2, a3, b1, b2, b3, c1, c2, c3] [x1, x2, x3] [0, 0, 0]
  simp only [objW, List.map_cons, List.map_nil] at K0
  have hst := @fstore
  replace K0 := Lib.hid K0
  go_enter Try.func94, Try.ntmps94
  go_upto_region 1 with fail
  have K := K0.out
  clear K0
  generalize ((w.alloc _).alloc _).alloc _ = wr at *
  generalize hds : ([some 5, some 6, some 7, some 8, some 9, some 10, some 11, some 12, some 13, some 14, some 15, some 16, some 17, none] : List (Option Tmp)) = ds
  have hap : apartL ds = true := by rw [← hds]; decide
  replace hds := hds.symm
  refine wp_region_k (fun hf => [some (w.heap.size, [a1, a2, a3, b1, b2, b3, c1, c2, c3]), some (w.heap.size + 1, [x1, x2, x3]), some (w.heap.size + 1 + 1, [d1, d2, d3])]) (fun hf => [some (.pointer (some ⟨w.heap.size, 0, none⟩)), some (.agg #[.float .f64 a1, .float .f64 a2, .float .f64 a3]), some (.agg #[.float .f64 x1, .float .f64 x2, .float .f64 x3]), some (.float .f64 d1), some (.pointer (some ⟨w.heap.size, 3, none⟩)), some (.agg #[.float .f64 b1, .float .f64 b2, .float .f64 b3]), some (.agg #[.float .f64 x1, .float .f64 x2, .float .f64 x3]), some (.float .f64 d2), some (.pointer (some ⟨w.heap.size, 6, none⟩)), some (.agg #[.float .f64 c1, .float .f64 c2, .float .f64 c3]), some (.agg #[.float .f64 x1, .float .f64 x2, .float .f64 x3]), some (.float .f64 d3), some (.agg #[.float .f64 d1, .float .f64 d2, .float .f64 d3]), some (undef)]) [] [⟨13, 2, 0, [d1, d2, d3]⟩] [.pointer (some ⟨w.heap.size, 0, none⟩), .agg #[.float .f64 a1, .float .f64 a2, .float .f64 a3], .agg #[.float .f64 x1, .float .f64 x2, .float .f64 x3], .float .f64 d1, .pointer (some ⟨w.heap.size, 3, none⟩), .agg #[.float .f64 b1, .float .f64 b2, .float .f64 b3], .agg #[.float .f64 x1, .float .f64 x2, .float .f64 x3], .float .f64 d2, .pointer (some ⟨w.heap.size, 6, none⟩), .agg #[.float .f64 c1, .float .f64 c2, .float .f64 c3], .agg #[.float .f64 x1, .float .f64 x2, .float .f64 x3], .float .f64 d3, .agg #[.float .f64 d1, .float .f64 d2, .float .f64 d3], undef] ds (by kernel_rfl) (by rw [hds]; rfl) hap (by decide +kernel) (by decide +kernel) K ?ha ?haj ?hai ?hsi ?hss ?hsa ?hsw ?htg ?hE2 ?hE3 ?hE4 ?hL1 ?hL2 ?hL3 ?alloc ?step ?store ?fin
  case ha => intro al hal; cases hal
  case haj => intro al hal al' hal' e; cases hal
  case hai => intro al hal; cases hal
  case hsi => intro st hst st' hst' e; simp only [List.mem_cons, List.not_mem_nil, or_false] at hst; rcases hst with rfl <;> (simp only [List.mem_cons, List.not_mem_nil, or_false] at hst'; rcases hst' with rfl) <;> first | rfl | (exfalso; revert e; simp)
  case hss =>
    intro st hst
    simp only [List.mem_cons, List.not_mem_nil, or_false] at hst; rcases hst with rfl
    · show 13 < 14; decide
  case hsa =>
    intro st hst al hal
    cases hal
  case hsw =>
    intro st hst al hal e
    cases hal
  case htg =>
    intro st hst
    simp only [List.mem_cons, List.not_mem_nil, or_false] at hst; rcases hst with rfl
    · exact .inl ⟨_, _, rfl, show 0 + 3 ≤ 3 by decide⟩
  case hE2 =>
    intro hf j h1 h2
    have n2 : 2 ≠ j := h1 _ (List.mem_cons_self ..)
    rcases j with _ | _ | _ | j
    · rfl
    · rfl
    · exact absurd rfl n2
    · rfl
  case hE3 =>
    intro hf st hst g us e
    simp only [List.mem_cons, List.not_mem_nil, or_false] at hst; rcases hst with rfl
    · obtain ⟨rfl, rfl⟩ := Prod.mk.inj (Option.some.inj (Option.some.inj e)); rfl
  case hE4 =>
    intro hf al hal
    cases hal
  case hL1 => intro hf; rfl
  case hL2 =>
    intro hf i hi hna
    have hi : i < 14 := hi
    have : i = 0 ∨ i = 1 ∨ i = 2 ∨ i = 3 ∨ i = 4 ∨ i = 5 ∨ i = 6 ∨ i = 7 ∨ i = 8 ∨ i = 9 ∨ i = 10 ∨ i = 11 ∨ i = 12 ∨ i = 13 := by omega
    rcases this with rfl | rfl | rfl | rfl | rfl | rfl | rfl | rfl | rfl | rfl | rfl | rfl | rfl | rfl
    · rfl
    · rfl
    · rfl
    · rfl
    · rfl
    · rfl
    · rfl
    · rfl
    · rfl
    · rfl
    · rfl
    · rfl
    · rfl
    · rfl
  case hL3 => intro hf al hal; cases hal
  case alloc =>
    intro al hal o ρ W ho
    cases hal
  case step =>
    intro L W i o ho hs ha hd hB
    have hi : i < 14 := (Array.getElem?_eq_some_iff.1 ho).1
    have : i = 0 ∨ i = 1 ∨ i = 2 ∨ i = 3 ∨ i = 4 ∨ i = 5 ∨ i = 6 ∨ i = 7 ∨ i = 8 ∨ i = 9 ∨ i = 10 ∨ i = 11 ∨ i = 12 ∨ i = 13 := by omega
    rcases this with rfl | rfl | rfl | rfl | rfl | rfl | rfl | rfl | rfl | rfl | rfl | rfl | rfl | rfl
    · -- 0
      obtain rfl := Option.some.inj ho
      refine .value W ?_ (Below.refl _ _)
      generalize hA : (puts ds L _).eval = ρ
      have hc : ∀ v, ρ (.const v) = v := fun v => by rw [← hA]; rfl
      have hg : ∀ g, ρ (.func g) = .func (.func g) #[] #[] := fun v => by rw [← hA]; rfl
      have h0 : ρ (.tmp 2) = .pointer (some ⟨w.heap.size, 0, none⟩) := by rw [← hA]; exact (puts_old ds L _ (by rw [hds]; decide)).trans rfl
      clear hA hd hB ho hs ha
      unfold execOp
      go_simp
    · -- 1
      obtain rfl := Option.some.inj ho
      have b := hB 0 _ _ rfl (by
        intro st hst e
        simp only [List.mem_cons, List.not_mem_nil, or_false] at hst; rcases hst with rfl
        · exact absurd e (show ¬ 2 = 0 by decide))
      have c0 := b.at_ 0 _ rfl
      have c1 := b.at_ 1 _ rfl
      have c2 := b.at_ 2 _ rfl
      clear b
      refine .value W ?_ (Below.refl _ _)
      generalize hA : (puts ds L _).eval = ρ
      have hc : ∀ v, ρ (.const v) = v := fun v => by rw [← hA]; rfl
      have hg : ∀ g, ρ (.func g) = .func (.func g) #[] #[] := fun v => by rw [← hA]; rfl
      have h0 : ρ (.tmp 5) = .pointer (some ⟨w.heap.size, 0, none⟩) := by rw [← hA]; exact puts_get 0 ds L _ hap (by rw [hds]; rfl) (hd 0 (by decide +kernel) (by intro al hal; cases hal)) (show 5 < 18 by decide)
      clear hA hd hB ho hs ha
      unfold execOp
      go_simp
    · -- 2
      obtain rfl := Option.some.inj ho
      have b := hB 1 _ _ rfl (by
        intro st hst e
        simp only [List.mem_cons, List.not_mem_nil, or_false] at hst; rcases hst with rfl
        · exact absurd e (show ¬ 2 = 1 by decide))
      have c0 := b.at_ 0 _ rfl
      have c1 := b.at_ 1 _ rfl
      have c2 := b.at_ 2 _ rfl
      clear b
      refine .value W ?_ (Below.refl _ _)
      generalize hA : (puts ds L _).eval = ρ
      have hc : ∀ v, ρ (.const v) = v := fun v => by rw [← hA]; rfl
      have hg : ∀ g, ρ (.func g) = .func (.func g) #[] #[] := fun v => by rw [← hA]; rfl
      have h0 : ρ (.tmp 3) = .pointer (some ⟨w.heap.size + 1, 0, none⟩) := by rw [← hA]; exact (puts_old ds L _ (by rw [hds]; decide)).trans rfl
      clear hA hd hB ho hs ha
      unfold execOp
      go_simp
    · -- 3
      obtain rfl := Option.some.inj ho
      refine .call 111 #[.agg #[.float .f64 a1, .float .f64 a2, .float .f64 a3], .agg #[.float .f64 x1, .float .f64 x2, .float .f64 x3]] ?_ (C1.out W)
      generalize hA : (puts ds L _).eval = ρ
      have hc : ∀ v, ρ (.const v) = v := fun v => by rw [← hA]; rfl
      have hg : ∀ g, ρ (.func g) = .func (.func g) #[] #[] := fun v => by rw [← hA]; rfl
      have h0 : ρ (.tmp 6) = .agg #[.float .f64 a1, .float .f64 a2, .float .f64 a3] := by rw [← hA]; exact puts_get 1 ds L _ hap (by rw [hds]; rfl) (hd 1 (by decide +kernel) (by intro al hal; cases hal)) (show 6 < 18 by decide)
      have h1 : ρ (.tmp 7) = .agg #[.float .f64 x1, .float .f64 x2, .float .f64 x3] := by rw [← hA]; exact puts_get 2 ds L _ hap (by rw [hds]; rfl) (hd 2 (by decide +kernel) (by intro al hal; cases hal)) (show 7 < 18 by decide)
      have hf := Try.func111
      unfold execOp
      go_simp
    · -- 4
      obtain rfl := Option.some.inj ho
      refine .value W ?_ (Below.refl _ _)
      generalize hA : (puts ds L _).eval = ρ
      have hc : ∀ v, ρ (.const v) = v := fun v => by rw [← hA]; rfl
      have hg : ∀ g, ρ (.func g) = .func (.func g) #[] #[] := fun v => by rw [← hA]; rfl
      have h0 : ρ (.tmp 2) = .pointer (some ⟨w.heap.size, 0, none⟩) := by rw [← hA]; exact (puts_old ds L _ (by rw [hds]; decide)).trans rfl
      clear hA hd hB ho hs ha
      unfold execOp
      go_simp
    · -- 5
      obtain rfl := Option.some.inj ho
      have b := hB 0 _ _ rfl (by
        intro st hst e
        simp only [List.mem_cons, List.not_mem_nil, or_false] at hst; rcases hst with rfl
        · exact absurd e (show ¬ 2 = 0 by decide))
      have c3 := b.at_ 3 _ rfl
      have c4 := b.at_ 4 _ rfl
      have c5 := b.at_ 5 _ rfl
      clear b
      refine .value W ?_ (Below.refl _ _)
      generalize hA : (puts ds L _).eval = ρ
      have hc : ∀ v, ρ (.const v) = v := fun v => by rw [← hA]; rfl
      have hg : ∀ g, ρ (.func g) = .func (.func g) #[] #[] := fun v => by rw [← hA]; rfl
      have h0 : ρ (.tmp 9) = .pointer (some ⟨w.heap.size, 3, none⟩) := by rw [← hA]; exact puts_get 4 ds L _ hap (by rw [hds]; rfl) (hd 4 (by decide +kernel) (by intro al hal; cases hal)) (show 9 < 18 by decide)
      clear hA hd hB ho hs ha
      unfold execOp
      go_simp
    · -- 6
      obtain rfl := Option.some.inj ho
      have b := hB 1 _ _ rfl (by
        intro st hst e
        simp only [List.mem_cons, List.not_mem_nil, or_false] at hst; rcases hst with rfl
        · exact absurd e (show ¬ 2 = 1 by decide))
      have c0 := b.at_ 0 _ rfl
      have c1 := b.at_ 1 _ rfl
      have c2 := b.at_ 2 _ rfl
      clear b
      refine .value W ?_ (Below.refl _ _)
      generalize hA : (puts ds L _).eval = ρ
      have hc : ∀ v, ρ (.const v) = v := fun v => by rw [← hA]; rfl
      have hg : ∀ g, ρ (.func g) = .func (.func g) #[] #[] := fun v => by rw [← hA]; rfl
      have h0 : ρ (.tmp 3) = .pointer (some ⟨w.heap.size + 1, 0, none⟩) := by rw [← hA]; exact (puts_old ds L _ (by rw [hds]; decide)).trans rfl
      clear hA hd hB ho hs ha
      unfold execOp
      go_simp
    · -- 7
      obtain rfl := Option.some.inj ho
      refine .call 111 #[.agg #[.float .f64 b1, .float .f64 b2, .float .f64 b3], .agg #[.float .f64 x1, .float .f64 x2, .float .f64 x3]] ?_ (C2.out W)
      generalize hA : (puts ds L _).eval = ρ
      have hc : ∀ v, ρ (.const v) = v := fun v => by rw [← hA]; rfl
      have hg : ∀ g, ρ (.func g) = .func (.func g) #[] #[] := fun v => by rw [← hA]; rfl
      have h0 : ρ (.tmp 10) = .agg #[.float .f64 b1, .float .f64 b2, .float .f64 b3] := by rw [← hA]; exact puts_get 5 ds L _ hap (by rw [hds]; rfl) (hd 5 (by decide +kernel) (by intro al hal; cases hal)) (show 10 < 18 by decide)
      have h1 : ρ (.tmp 11) = .agg #[.float .f64 x1, .float .f64 x2, .float .f64 x3] := by rw [← hA]; exact puts_get 6 ds L _ hap (by rw [hds]; rfl) (hd 6 (by decide +kernel) (by intro al hal; cases hal)) (show 11 < 18 by decide)
      have hf := Try.func111
      unfold execOp
      go_simp
    · -- 8
      obtain rfl := Option.some.inj ho
      refine .value W ?_ (Below.refl _ _)
      generalize hA : (puts ds L _).eval = ρ
      have hc : ∀ v, ρ (.const v) = v := fun v => by rw [← hA]; rfl
      have hg : ∀ g, ρ (.func g) = .func (.func g) #[] #[] := fun v => by rw [← hA]; rfl
      have h0 : ρ (.tmp 2) = .pointer (some ⟨w.heap.size, 0, none⟩) := by rw [← hA]; exact (puts_old ds L _ (by rw [hds]; decide)).trans rfl
      clear hA hd hB ho hs ha
      unfold execOp
      go_simp
    · -- 9
      obtain rfl := Option.some.inj ho
      have b := hB 0 _ _ rfl (by
        intro st hst e
        simp only [List.mem_cons, List.not_mem_nil, or_false] at hst; rcases hst with rfl
        · exact absurd e (show ¬ 2 = 0 by decide))
      have c6 := b.at_ 6 _ rfl
      have c7 := b.at_ 7 _ rfl
      have c8 := b.at_ 8 _ rfl
      clear b
      refine .value W ?_ (Below.refl _ _)
      generalize hA : (puts ds L _).eval = ρ
      have hc : ∀ v, ρ (.const v) = v := fun v => by rw [← hA]; rfl
      have hg : ∀ g, ρ (.func g) = .func (.func g) #[] #[] := fun v => by rw [← hA]; rfl
      have h0 : ρ (.tmp 13) = .pointer (some ⟨w.heap.size, 6, none⟩) := by rw [← hA]; exact puts_get 8 ds L _ hap (by rw [hds]; rfl) (hd 8 (by decide +kernel) (by intro al hal; cases hal)) (show 13 < 18 by decide)
      clear hA hd hB ho hs ha
      unfold execOp
      go_simp
    · -- 10
      obtain rfl := Option.some.inj ho
      have b := hB 1 _ _ rfl (by
        intro st hst e
        simp only [List.mem_cons, List.not_mem_nil, or_false] at hst; rcases hst with rfl
        · exact absurd e (show ¬ 2 = 1 by decide))
      have c0 := b.at_ 0 _ rfl
      have c1 := b.at_ 1 _ rfl
      have c2 := b.at_ 2 _ rfl
      clear b
      refine .value W ?_ (Below.refl _ _)
      generalize hA : (puts ds L _).eval = ρ
      have hc : ∀ v, ρ (.const v) = v := fun v => by rw [← hA]; rfl
      have hg : ∀ g, ρ (.func g) = .func (.func g) #[] #[] := fun v => by rw [← hA]; rfl
      have h0 : ρ (.tmp 3) = .pointer (some ⟨w.heap.size + 1, 0, none⟩) := by rw [← hA]; exact (puts_old ds L _ (by rw [hds]; decide)).trans rfl
      clear hA hd hB ho hs ha
      unfold execOp
      go_simp
    · -- 11
      obtain rfl := Option.some.inj ho
      refine .call 111 #[.agg #[.float .f64 c1, .float .f64 c2, .float .f64 c3], .agg #[.float .f64 x1, .float .f64 x2, .float .f64 x3]] ?_ (C3.out W)
      generalize hA : (puts ds L _).eval = ρ
      have hc : ∀ v, ρ (.const v) = v := fun v => by rw [← hA]; rfl
      have hg : ∀ g, ρ (.func g) = .func (.func g) #[] #[] := fun v => by rw [← hA]; rfl
      have h0 : ρ (.tmp 14) = .agg #[.float .f64 c1, .float .f64 c2, .float .f64 c3] := by rw [← hA]; exact puts_get 9 ds L _ hap (by rw [hds]; rfl) (hd 9 (by decide +kernel) (by intro al hal; cases hal)) (show 14 < 18 by decide)
      have h1 : ρ (.tmp 15) = .agg #[.float .f64 x1, .float .f64 x2, .float .f64 x3] := by rw [← hA]; exact puts_get 10 ds L _ hap (by rw [hds]; rfl) (hd 10 (by decide +kernel) (by intro al hal; cases hal)) (show 15 < 18 by decide)
      have hf := Try.func111
      unfold execOp
      go_simp
    · -- 12
      obtain rfl := Option.some.inj ho
      refine .value W ?_ (Below.refl _ _)
      generalize hA : (puts ds L _).eval = ρ
      have hc : ∀ v, ρ (.const v) = v := fun v => by rw [← hA]; rfl
      have hg : ∀ g, ρ (.func g) = .func (.func g) #[] #[] := fun v => by rw [← hA]; rfl
      have h0 : ρ (.tmp 8) = .float .f64 d1 := by rw [← hA]; exact puts_get 3 ds L _ hap (by rw [hds]; rfl) (hd 3 (by decide +kernel) (by intro al hal; cases hal)) (show 8 < 18 by decide)
      have h1 : ρ (.tmp 12) = .float .f64 d2 := by rw [← hA]; exact puts_get 7 ds L _ hap (by rw [hds]; rfl) (hd 7 (by decide +kernel) (by intro al hal; cases hal)) (show 12 < 18 by decide)
      have h2 : ρ (.tmp 16) = .float .f64 d3 := by rw [← hA]; exact puts_get 11 ds L _ hap (by rw [hds]; rfl) (hd 11 (by decide +kernel) (by intro al hal; cases hal)) (show 16 < 18 by decide)
      clear hA hd hB ho hs ha
      unfold execOp
      go_simp
    · -- 13
      exact absurd rfl (hs _ (List.mem_cons_self ..))
  case store =>
    intro st hst L W o h us ho hd hal hC b
    simp only [List.mem_cons, List.not_mem_nil, or_false] at hst; rcases hst with rfl
    · dsimp only at ho hd hal hC b ⊢
      obtain rfl := Option.some.inj ho
      obtain ⟨rfl, rfl⟩ := hC _ _ rfl
      have c0 := b.at_ 0 _ rfl
      have f0 := b.fr 0 _ rfl
      have c1 := b.at_ 1 _ rfl
      have f1 := b.fr 1 _ rfl
      have c2 := b.at_ 2 _ rfl
      have f2 := b.fr 2 _ rfl
      refine ⟨?_, rfl⟩
      generalize hA : (puts ds L _).eval = ρ
      have h0 : ρ (.tmp 4) = .pointer (some ⟨w.heap.size + 1 + 1, 0, none⟩) := by rw [← hA]; exact (puts_old ds L _ (by rw [hds]; decide)).trans rfl
      have h1 : ρ (.tmp 17) = .agg #[.float .f64 d1, .float .f64 d2, .float .f64 d3] := by rw [← hA]; exact puts_get 12 ds L _ hap (by rw [hds]; rfl) (hd 12 (by decide +kernel) (by intro al hal; cases hal)) (show 17 < 18 by decide)
      have hst' := @fstore
      clear hA hd b ho hal hC
      simp only [putW]
      unfold execOp
      go_simp
  case fin =>
    intro hf W5 K
    rw [hds]
    clear hds hap ds C1 C2 C3
    simp only [List.set_cons_zero, List.set_cons_succ, puts, Act.put, List.setIfInBounds_toArray]
    replace K := Lib.hid K
    go_wp2_with fail
    replace K := K.out
    have e0 := (K.at_ 2 rfl).at_ 0 _ rfl
    have e1 := (K.at_ 2 rfl).at_ 1 _ rfl
    have e2 := (K.at_ 2 rfl).at_ 2 _ rfl
    (try simp only [Exit.vnBlock, Exit.then])
    refine bodyPost_ret (v := .agg #[.float .f64 d1, .float .f64 d2, .float .f64 d3]) ?_ rfl ⟨rfl, K.old⟩
    rw [results_cell1 rfl]; go_simp
set_option maxHeartbeats 4000000 in
set_option maxRecDepth 100000 in
theorem vapply_ok {a1 a2 a3 b1 b2 b3 c1 c2 c3 x1 x2 x3 d1 d2 d3 q1 q2 q3 : Nat} {k : Int} (C1 : Hid (∀ w, Calls Try.prog 91 #[.agg #[.float .f64 a1, .float .f64 a2, .float .f64 a3, .float .f64 b1, .float .f64 b2, .float .f64 b3, .float .f64 c1, .float .f64 c2, .float .f64 c3]] w fun e w' => e = .returned (.bool true) ∧ Below w.heap.size w w')) (C2 : Hid (∀ w, Calls Try.prog 92 #[.agg #[.float .f64 x1, .float .f64 x2, .float .f64 x3]] w fun e w' => e = .returned (.bool true) ∧ Below w.heap.size w w')) (C3 : Hid (∀ w, Calls Try.prog 94 #[.agg #[.float .f64 a1, .float .f64 a2, .float .f64 a3, .float .f64 b1, .float .f64 b2, .float .f64 b3, .float .f64 c1, .float .f64 c2, .float .f64 c3], .agg #[.float .f64 x1, .float .f64 x2, .float .f64 x3]] w fun e w' => e = .returned (.agg #[.float .f64 d1, .float .f64 d2, .float .f64 d3]) ∧ Below w.heap.size w w')) (C4 : Hid (∀ w, Calls Try.prog 93 #[.agg #[.float .f64 d1, .float .f64 d2, .float .f64 d3]] w fun e w' => e = .returned (.tuple #[.agg #[.float .f64 q1, .float .f64 q2, .float .f64 q3], .int .i64 k]) ∧ Below w.heap.size w w')) (w : World) : Calls Try.prog 72 #[.agg #[.float .f64 a1, .float .f64 a2, .float .f64 a3, .float .f64 b1, .float .f64 b2, .float .f64 b3, .float .f64 c1, .float .f64 c2, .float .f64 c3], .agg #[.float .f64 x1, .float .f64 x2, .float .f64 x3]] w fun e w' => e = .returned (.tuple #[.agg #[.float .f64 q1, .float .f64 q2, .float .f64 q3], .int .i64 k]) ∧ Below w.heap.size w w' := by
  have K0 := kw3 w 79 33 33 [a1, a2, a3, b1, b2, b3, c1, c2, c3] [x1, x2, x3] [0, 0, 0]
  simp only [objW, List.map_cons, List.map_nil] at K0
  have hst := @fstore
  replace K0 := Lib.hid K0
  go_enter Try.func72, Try.ntmps72
  go_wp2_with fail
  have K := K0.out
  clear K0
  generalize ((w.alloc _).alloc _).alloc _ = wr at *
  refine (C1.out wr).mono ?_
  rintro _ v1 ⟨rfl, hb⟩
  replace K := K.on hb
  clear hb
  have c1_0 := (K.at_ 1 rfl).at_ 0 _ rfl
  have c1_1 := (K.at_ 1 rfl).at_ 1 _ rfl
  have c1_2 := (K.at_ 1 rfl).at_ 2 _ rfl
  replace K := Lib.hid K
  go_wp2_with fail
  replace K := K.out
  refine (C2.out v1).mono ?_
  rintro _ v2 ⟨rfl, hb⟩
  clear c1_0 c1_1 c1_2
  replace K := K.on hb
  clear hb
  have c0_0 := (K.at_ 0 rfl).at_ 0 _ rfl
  have c0_1 := (K.at_ 0 rfl).at_ 1 _ rfl
  have c0_2 := (K.at_ 0 rfl).at_ 2 _ rfl
  have c0_3 := (K.at_ 0 rfl).at_ 3 _ rfl
  have c0_4 := (K.at_ 0 rfl).at_ 4 _ rfl
  have c0_5 := (K.at_ 0 rfl).at_ 5 _ rfl
  have c0_6 := (K.at_ 0 rfl).at_ 6 _ rfl
  have c0_7 := (K.at_ 0 rfl).at_ 7 _ rfl
  have c0_8 := (K.at_ 0 rfl).at_ 8 _ rfl
  have c1_0 := (K.at_ 1 rfl).at_ 0 _ rfl
  have c1_1 := (K.at_ 1 rfl).at_ 1 _ rfl
  have c1_2 := (K.at_ 1 rfl).at_ 2 _ rfl
  replace K := Lib.hid K
  go_wp2_with fail
  replace K := K.out
  refine (C3.out v2).mono ?_
  rintro _ v3 ⟨rfl, hb⟩
  clear c0_0 c0_1 c0_2 c0_3 c0_4 c0_5 c0_6 c0_7 c0_8 c1_0 c1_1 c1_2
  replace K := K.on hb
  clear hb
  replace K := Lib.hid K
  go_wp2_with fail
  replace K := K.out
  refine (C4.out v3).mono ?_
  rintro _ v4 ⟨rfl, hb⟩
  replace K := K.on hb
  clear hb
  have c2_0 := (K.at_ 2 rfl).at_ 0 _ rfl
  have f2_0 := (K.at_ 2 rfl).fr 0 _ rfl
  have c2_1 := (K.at_ 2 rfl).at_ 1 _ rfl
  have f2_1 := (K.at_ 2 rfl).fr 1 _ rfl
  have c2_2 := (K.at_ 2 rfl).at_ 2 _ rfl
  have f2_2 := (K.at_ 2 rfl).fr 2 _ rfl
  replace K := Lib.hid K
  go_wp2_with fail
  replace K := K.out
  (try simp only [Exit.vnBlock, Exit.then])
  refine bodyPost_ret (v := .tuple #[.agg #[.float .f64 q1, .float .f64 q2, .float .f64 q3], .int .i64 k]) ?_ rfl ⟨rfl, ?_⟩
  · rw [results_cell_tmp rfl]; go_simp
  · exact (((K.old).setCell (by first | exact Nat.le_refl _ | (dsimp only; omega)) _).setCell (by first | exact Nat.le_refl _ | (dsimp only; omega)) _).setCell (by first | exact Nat.le_refl _ | (dsimp only; omega)) _
set_option maxHeartbeats 4000000 in
set_option maxRecDepth 100000 in
theorem vapply_nm {a1 a2 a3 b1 b2 b3 c1 c2 c3 x1 x2 x3 : Nat} (C1 : Hid (∀ w, Calls Try.prog 91 #[.agg #[.float .f64 a1, .float .f64 a2, .float .f64 a3, .float .f64 b1, .float .f64 b2, .float .f64 b3, .float .f64 c1, .float .f64 c2, .float .f64 c3]] w fun e w' => e = .returned (.bool false) ∧ Below w.heap.size w w')) (w : World) : Calls Try.prog 72 #[.agg #[.float .f64 a1, .float .f64 a2, .float .f64 a3, .float .f64 b1, .float .f64 b2, .float .f64 b3, .float .f64 c1, .float .f64 c2, .float .f64 c3], .agg #[.float .f64 x1, .float .f64 x2, .float .f64 x3]] w fun e w' => e = .returned (.tuple #[.agg #[.float .f64 0, .float .f64 0, .float .f64 0], .int .i64 3]) ∧ Below w.heap.size w w' := by
  have K0 := kw3 w 79 33 33 [a1, a2, a3, b1, b2, b3, c1, c2, c3] [x1, x2, x3] [0, 0, 0]
  simp only [objW, List.map_cons, List.map_nil] at K0
  have hst := @fstore
  replace K0 := Lib.hid K0
  go_enter Try.func72, Try.ntmps72
  go_wp2_with fail
  have K := K0.out
  clear K0
  generalize ((w.alloc _).alloc _).alloc _ = wr at *
  refine (C1.out wr).mono ?_
  rintro _ v1 ⟨rfl, hb⟩
  replace K := K.on hb
  clear hb
  have c2_0 := (K.at_ 2 rfl).at_ 0 _ rfl
  have f2_0 := (K.at_ 2 rfl).fr 0 _ rfl
  have c2_1 := (K.at_ 2 rfl).at_ 1 _ rfl
  have f2_1 := (K.at_ 2 rfl).fr 1 _ rfl
  have c2_2 := (K.at_ 2 rfl).at_ 2 _ rfl
  have f2_2 := (K.at_ 2 rfl).fr 2 _ rfl
  replace K := Lib.hid K
  go_wp2_with fail
  replace K := K.out
  (try simp only [Exit.vnBlock, Exit.then])
  refine bodyPost_ret (v := .tuple #[.agg #[.float .f64 0, .float .f64 0, .float .f64 0], .int .i64 3]) ?_ rfl ⟨rfl, ?_⟩
  · rw [results_cell_tmp rfl]; go_simp
  · exact (((K.old).setCell (by first | exact Nat.le_refl _ | (dsimp only; omega)) _).setCell (by first | exact Nat.le_refl _ | (dsimp only; omega)) _).setCell (by first | exact Nat.le_refl _ | (dsimp only; omega)) _
set_option maxHeartbeats 4000000 in
set_option maxRecDepth 100000 in
theorem vapply_nv {a1 a2 a3 b1 b2 b3 c1 c2 c3 x1 x2 x3 : Nat} (C1 : Hid (∀ w, Calls Try.prog 91 #[.agg #[.float .f64 a1, .float .f64 a2, .float .f64 a3, .float .f64 b1, .float .f64 b2, .float .f64 b3, .float .f64 c1, .float .f64 c2, .float .f64 c3]] w fun e w' => e = .returned (.bool true) ∧ Below w.heap.size w w')) (C2 : Hid (∀ w, Calls Try.prog 92 #[.agg #[.float .f64 x1, .float .f64 x2, .float .f64 x3]] w fun e w' => e = .returned (.bool false) ∧ Below w.heap.size w w')) (w : World) : Calls Try.prog 72 #[.agg #[.float .f64 a1, .float .f64 a2, .float .f64 a3, .float .f64 b1, .float .f64 b2, .float .f64 b3, .float .f64 c1, .float .f64 c2, .float .f64 c3], .agg #[.float .f64 x1, .float .f64 x2, .float .f64 x3]] w fun e w' => e = .returned (.tuple #[.agg #[.float .f64 0, .float .f64 0, .float .f64 0], .int .i64 3]) ∧ Below w.heap.size w w' := by
  have K0 := kw3 w 79 33 33 [a1, a2, a3, b1, b2, b3, c1, c2, c3] [x1, x2, x3] [0, 0, 0]
  simp only [objW, List.map_cons, List.map_nil] at K0
  have hst := @fstore
  replace K0 := Lib.hid K0
  go_enter Try.func72, Try.ntmps72
  go_wp2_with fail
  have K := K0.out
  clear K0
  generalize ((w.alloc _).alloc _).alloc _ = wr at *
  refine (C1.out wr).mono ?_
  rintro _ v1 ⟨rfl, hb⟩
  replace K := K.on hb
  clear hb
  have c1_0 := (K.at_ 1 rfl).at_ 0 _ rfl
  have c1_1 := (K.at_ 1 rfl).at_ 1 _ rfl
  have c1_2 := (K.at_ 1 rfl).at_ 2 _ rfl
  replace K := Lib.hid K
  go_wp2_with fail
  replace K := K.out
  refine (C2.out v1).mono ?_
  rintro _ v2 ⟨rfl, hb⟩
  clear c1_0 c1_1 c1_2
  replace K := K.on hb
  clear hb
  have c2_0 := (K.at_ 2 rfl).at_ 0 _ rfl
  have f2_0 := (K.at_ 2 rfl).fr 0 _ rfl
  have c2_1 := (K.at_ 2 rfl).at_ 1 _ rfl
  have f2_1 := (K.at_ 2 rfl).fr 1 _ rfl
  have c2_2 := (K.at_ 2 rfl).at_ 2 _ rfl
  have f2_2 := (K.at_ 2 rfl).fr 2 _ rfl
  replace K := Lib.hid K
  go_wp2_with fail
  replace K := K.out
  (try simp only [Exit.vnBlock, Exit.then])
  refine bodyPost_ret (v := .tuple #[.agg #[.float .f64 0, .float .f64 0, .float .f64 0], .int .i64 3]) ?_ rfl ⟨rfl, ?_⟩
  · rw [results_cell_tmp rfl]; go_simp
  · exact (((K.old).setCell (by first | exact Nat.le_refl _ | (dsimp only; omega)) _).setCell (by first | exact Nat.le_refl _ | (dsimp only; omega)) _).setCell (by first | exact Nat.le_refl _ | (dsimp only; omega)) _
end Go.Proofs.Ytkpdnhbifokhlaa
