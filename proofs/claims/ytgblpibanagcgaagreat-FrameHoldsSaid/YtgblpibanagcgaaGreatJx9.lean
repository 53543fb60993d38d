/- Proved here: what the texts Vbw, Vob prove, one behind the other. -/
import Derived.Test.YtgblpibanagcgaaGreatJx8
import Derived.Test.YtgblpibanagcgaaGreatJx3

namespace Go.Proofs.YtgblpibanagcgaaGreat
open Go.ChangeShapes Go.WideShapes Go.ChangeAt Go.RowKit Ieee.Own

set_option maxHeartbeats 4000000 in
set_option maxRecDepth 100000 in
theorem vbyn_add {a1 a2 a3 a4 a5 a6 b1 b2 b3 b4 b5 b6 y1 y2 y3 y4 y5 y6 : Nat} (C : Hid (∀ w, Calls Tryz.prog 60 #[.agg #[.float .f64 a1, .float .f64 a2, .float .f64 a3, .float .f64 a4, .float .f64 a5, .float .f64 a6], .agg #[.float .f64 b1, .float .f64 b2, .float .f64 b3, .float .f64 b4, .float .f64 b5, .float .f64 b6]] w fun e w' => e = .returned (.bool true) ∧ Below w.heap.size w w')) (D1 : Hid (∀ w, Calls Tryz.prog 40 #[.agg #[.float .f64 a1, .float .f64 a2], .agg #[.float .f64 b1, .float .f64 b2]] w fun e w' => e = .returned (.agg #[.float .f64 y1, .float .f64 y2]) ∧ Below w.heap.size w w')) (D2 : Hid (∀ w, Calls Tryz.prog 40 #[.agg #[.float .f64 a3, .float .f64 a4], .agg #[.float .f64 b3, .float .f64 b4]] w fun e w' => e = .returned (.agg #[.float .f64 y3, .float .f64 y4]) ∧ Below w.heap.size w w')) (D3 : Hid (∀ w, Calls Tryz.prog 40 #[.agg #[.float .f64 a5, .float .f64 a6], .agg #[.float .f64 b5, .float .f64 b6]] w fun e w' => e = .returned (.agg #[.float .f64 y5, .float .f64 y6]) ∧ Below w.heap.size w w')) (w : World) : Calls Tryz.prog 39 #[.agg #[.float .f64 a1, .float .f64 a2, .float .f64 a3, .float .f64 a4, .float .f64 a5, .float .f64 a6], .agg #[.float .f64 b1, .float .f64 b2, .float .f64 b3, .float .f64 b4, .float .f64 b5, .float .f64 b6], .func (.func 40) #[] #[]] w fun e w' => e = .returned (.tuple #[.agg #[.float .f64 y1, .float .f64 y2, .float .f64 y3, .float .f64 y4, .float .f64 y5, .float .f64 y6], .int .i64 0]) ∧ Below w.heap.size w w' := by
  have K0 := kw3 w 33 33 33 [a1, a2, a3, a4, a5, a6] [b1, b2, b3, b4, b5, b6] [0, 0, 0, 0, 0, 0]
  simp only [objW, List.map_cons, List.map_nil] at K0
  have hst := @fstore
  replace K0 := Lib.hid K0
  go_enter Tryz.func39, Tryz.ntmps39
  go_wp2_with fail
  have K := K0.out
  clear K0
  generalize ((w.alloc _).alloc _).alloc _ = wr at *
  refine (C.out wr).mono ?_
  rintro _ v1 ⟨rfl, hb⟩
  replace K := K.on hb
  clear hb
  replace K := Lib.hid K
  go_upto_region 3 with fail
  replace K := K.out
  generalize hds : ([some 13, some 14, some 15, some 16, some 17, some 18, some 19, some 20, some 21, some 22, some 23, some 24, some 25, some 26, some 27, some 28, some 29, some 30, some 31, none, some 7] : List (Option Tmp)) = ds
  have hap : apartL ds = true := by rw [← hds]; decide
  replace hds := hds.symm
  refine wp_region_k (fun hf => [some (w.heap.size, [a1, a2, a3, a4, a5, a6]), some (w.heap.size + 1, [b1, b2, b3, b4, b5, b6]), some (w.heap.size + 1 + 1, [y1, y2, y3, y4, y5, y6])]) (fun hf => [some (.func (.func 40) #[] #[]), some (.pointer (some ⟨w.heap.size, 0, none⟩)), some (.agg #[.float .f64 a1, .float .f64 a2]), some (.pointer (some ⟨w.heap.size + 1, 0, none⟩)), some (.agg #[.float .f64 b1, .float .f64 b2]), some (.agg #[.float .f64 y1, .float .f64 y2]), some (.func (.func 40) #[] #[]), some (.pointer (some ⟨w.heap.size, 2, none⟩)), some (.agg #[.float .f64 a3, .float .f64 a4]), some (.pointer (some ⟨w.heap.size + 1, 2, none⟩)), some (.agg #[.float .f64 b3, .float .f64 b4]), some (.agg #[.float .f64 y3, .float .f64 y4]), some (.func (.func 40) #[] #[]), some (.pointer (some ⟨w.heap.size, 4, none⟩)), some (.agg #[.float .f64 a5, .float .f64 a6]), some (.pointer (some ⟨w.heap.size + 1, 4, none⟩)), some (.agg #[.float .f64 b5, .float .f64 b6]), some (.agg #[.float .f64 y5, .float .f64 y6]), some (.agg #[.float .f64 y1, .float .f64 y2, .float .f64 y3, .float .f64 y4, .float .f64 y5, .float .f64 y6]), some (undef), some (.int .i64 0)]) [] [⟨19, 2, 0, [y1, y2, y3, y4, y5, y6]⟩] [.func (.func 40) #[] #[], .pointer (some ⟨w.heap.size, 0, none⟩), .agg #[.float .f64 a1, .float .f64 a2], .pointer (some ⟨w.heap.size + 1, 0, none⟩), .agg #[.float .f64 b1, .float .f64 b2], .agg #[.float .f64 y1, .float .f64 y2], .func (.func 40) #[] #[], .pointer (some ⟨w.heap.size, 2, none⟩), .agg #[.float .f64 a3, .float .f64 a4], .pointer (some ⟨w.heap.size + 1, 2, none⟩), .agg #[.float .f64 b3, .float .f64 b4], .agg #[.float .f64 y3, .float .f64 y4], .func (.func 40) #[] #[], .pointer (some ⟨w.heap.size, 4, none⟩), .agg #[.float .f64 a5, .float .f64 a6], .pointer (some ⟨w.heap.size + 1, 4, none⟩), .agg #[.float .f64 b5, .float .f64 b6], .agg #[.float .f64 y5, .float .f64 y6], .agg #[.float .f64 y1, .float .f64 y2, .float .f64 y3, .float .f64 y4, .float .f64 y5, .float .f64 y6], undef, .int .i64 0] ds (by kernel_rfl) (by rw [hds]; rfl) hap (by decide +kernel) (by decide +kernel) K ?ha ?haj ?hai ?hsi ?hss ?hsa ?hsw ?htg ?hE2 ?hE3 ?hE4 ?hL1 ?hL2 ?hL3 ?alloc ?step ?store ?fin
  case ha => intro al hal; cases hal
  case haj => intro al hal al' hal' e; cases hal
  case hai => intro al hal; cases hal
  case hsi => intro st hst st' hst' e; simp only [List.mem_cons, List.not_mem_nil, or_false] at hst; rcases hst with rfl <;> (simp only [List.mem_cons, List.not_mem_nil, or_false] at hst'; rcases hst' with rfl) <;> first | rfl | (exfalso; revert e; simp)
  case hss =>
    intro st hst
    simp only [List.mem_cons, List.not_mem_nil, or_false] at hst; rcases hst with rfl
    · show 19 < 21; decide
  case hsa =>
    intro st hst al hal
    cases hal
  case hsw =>
    intro st hst al hal e
    cases hal
  case htg =>
    intro st hst
    simp only [List.mem_cons, List.not_mem_nil, or_false] at hst; rcases hst with rfl
    · exact .inl ⟨_, _, rfl, show 0 + 6 ≤ 6 by decide⟩
  case hE2 =>
    intro hf j h1 h2
    have n2 : 2 ≠ j := h1 _ (List.mem_cons_self ..)
    rcases j with _ | _ | _ | j
    · rfl
    · rfl
    · exact absurd rfl n2
    · rfl
  case hE3 =>
    intro hf st hst g us e
    simp only [List.mem_cons, List.not_mem_nil, or_false] at hst; rcases hst with rfl
    · obtain ⟨rfl, rfl⟩ := Prod.mk.inj (Option.some.inj (Option.some.inj e)); rfl
  case hE4 =>
    intro hf al hal
    cases hal
  case hL1 => intro hf; rfl
  case hL2 =>
    intro hf i hi hna
    have hi : i < 21 := hi
    have : i = 0 ∨ i = 1 ∨ i = 2 ∨ i = 3 ∨ i = 4 ∨ i = 5 ∨ i = 6 ∨ i = 7 ∨ i = 8 ∨ i = 9 ∨ i = 10 ∨ i = 11 ∨ i = 12 ∨ i = 13 ∨ i = 14 ∨ i = 15 ∨ i = 16 ∨ i = 17 ∨ i = 18 ∨ i = 19 ∨ i = 20 := by omega
    rcases this with rfl | rfl | rfl | rfl | rfl | rfl | rfl | rfl | rfl | rfl | rfl | rfl | rfl | rfl | rfl | rfl | rfl | rfl | rfl | rfl | rfl
    · rfl
    · rfl
    · rfl
    · rfl
    · rfl
    · rfl
    · rfl
    · rfl
    · rfl
    · rfl
    · rfl
    · rfl
    · rfl
    · rfl
    · rfl
    · rfl
    · rfl
    · rfl
    · rfl
    · rfl
    · rfl
  case hL3 => intro hf al hal; cases hal
  case alloc =>
    intro al hal o ρ W ho
    cases hal
  case step =>
    intro L W i o ho hs ha hd hB
    have hi : i < 21 := (Array.getElem?_eq_some_iff.1 ho).1
    have : i = 0 ∨ i = 1 ∨ i = 2 ∨ i = 3 ∨ i = 4 ∨ i = 5 ∨ i = 6 ∨ i = 7 ∨ i = 8 ∨ i = 9 ∨ i = 10 ∨ i = 11 ∨ i = 12 ∨ i = 13 ∨ i = 14 ∨ i = 15 ∨ i = 16 ∨ i = 17 ∨ i = 18 ∨ i = 19 ∨ i = 20 := by omega
    rcases this with rfl | rfl | rfl | rfl | rfl | rfl | rfl | rfl | rfl | rfl | rfl | rfl | rfl | rfl | rfl | rfl | rfl | rfl | rfl | rfl | rfl
    · -- 0
      obtain rfl := Option.some.inj ho
      refine .value W ?_ (Below.refl _ _)
      generalize hA : (puts ds L _).eval = ρ
      have hc : ∀ v, ρ (.const v) = v := fun v => by rw [← hA]; rfl
      have hg : ∀ g, ρ (.func g) = .func (.func g) #[] #[] := fun v => by rw [← hA]; rfl
      have h0 : ρ (.tmp 2) = .func (.func 40) #[] #[] := by rw [← hA]; exact (puts_old ds L _ (by rw [hds]; decide)).trans rfl
      clear hA hd hB ho hs ha
      unfold execOp
      go_simp
    · -- 1
      obtain rfl := Option.some.inj ho
      refine .value W ?_ (Below.refl _ _)
      generalize hA : (puts ds L _).eval = ρ
      have hc : ∀ v, ρ (.const v) = v := fun v => by rw [← hA]; rfl
      have hg : ∀ g, ρ (.func g) = .func (.func g) #[] #[] := fun v => by rw [← hA]; rfl
      have h0 : ρ (.tmp 3) = .pointer (some ⟨w.heap.size, 0, none⟩) := by rw [← hA]; exact (puts_old ds L _ (by rw [hds]; decide)).trans rfl
      clear hA hd hB ho hs ha
      unfold execOp
      go_simp
    · -- 2
      obtain rfl := Option.some.inj ho
      have b := hB 0 _ _ rfl (by
        intro st hst e
        simp only [List.mem_cons, List.not_mem_nil, or_false] at hst; rcases hst with rfl
        · exact absurd e (show ¬ 2 = 0 by decide))
      have c0 := b.at_ 0 _ rfl
      have c1 := b.at_ 1 _ rfl
      clear b
      refine .value W ?_ (Below.refl _ _)
      generalize hA : (puts ds L _).eval = ρ
      have hc : ∀ v, ρ (.const v) = v := fun v => by rw [← hA]; rfl
      have hg : ∀ g, ρ (.func g) = .func (.func g) #[] #[] := fun v => by rw [← hA]; rfl
      have h0 : ρ (.tmp 14) = .pointer (some ⟨w.heap.size, 0, none⟩) := by rw [← hA]; exact puts_get 1 ds L _ hap (by rw [hds]; rfl) (hd 1 (by decide +kernel) (by intro al hal; cases hal)) (show 14 < 32 by decide)
      clear hA hd hB ho hs ha
      unfold execOp
      go_simp
    · -- 3
      obtain rfl := Option.some.inj ho
      refine .value W ?_ (Below.refl _ _)
      generalize hA : (puts ds L _).eval = ρ
      have hc : ∀ v, ρ (.const v) = v := fun v => by rw [← hA]; rfl
      have hg : ∀ g, ρ (.func g) = .func (.func g) #[] #[] := fun v => by rw [← hA]; rfl
      have h0 : ρ (.tmp 4) = .pointer (some ⟨w.heap.size + 1, 0, none⟩) := by rw [← hA]; exact (puts_old ds L _ (by rw [hds]; decide)).trans rfl
      clear hA hd hB ho hs ha
      unfold execOp
      go_simp
    · -- 4
      obtain rfl := Option.some.inj ho
      have b := hB 1 _ _ rfl (by
        intro st hst e
        simp only [List.mem_cons, List.not_mem_nil, or_false] at hst; rcases hst with rfl
        · exact absurd e (show ¬ 2 = 1 by decide))
      have c0 := b.at_ 0 _ rfl
      have c1 := b.at_ 1 _ rfl
      clear b
      refine .value W ?_ (Below.refl _ _)
      generalize hA : (puts ds L _).eval = ρ
      have hc : ∀ v, ρ (.const v) = v := fun v => by rw [← hA]; rfl
      have hg : ∀ g, ρ (.func g) = .func (.func g) #[] #[] := fun v => by rw [← hA]; rfl
      have h0 : ρ (.tmp 16) = .pointer (some ⟨w.heap.size + 1, 0, none⟩) := by rw [← hA]; exact puts_get 3 ds L _ hap (by rw [hds]; rfl) (hd 3 (by decide +kernel) (by intro al hal; cases hal)) (show 16 < 32 by decide)
      clear hA hd hB ho hs ha
      unfold execOp
      go_simp
    · -- 5
      obtain rfl := Option.some.inj ho
      refine .call 40 #[.agg #[.float .f64 a1, .float .f64 a2], .agg #[.float .f64 b1, .float .f64 b2]] ?_ (D1.out W)
      generalize hA : (puts ds L _).eval = ρ
      have hc : ∀ v, ρ (.const v) = v := fun v => by rw [← hA]; rfl
      have hg : ∀ g, ρ (.func g) = .func (.func g) #[] #[] := fun v => by rw [← hA]; rfl
      have h0 : ρ (.tmp 13) = .func (.func 40) #[] #[] := by rw [← hA]; exact puts_get 0 ds L _ hap (by rw [hds]; rfl) (hd 0 (by decide +kernel) (by intro al hal; cases hal)) (show 13 < 32 by decide)
      have h1 : ρ (.tmp 15) = .agg #[.float .f64 a1, .float .f64 a2] := by rw [← hA]; exact puts_get 2 ds L _ hap (by rw [hds]; rfl) (hd 2 (by decide +kernel) (by intro al hal; cases hal)) (show 15 < 32 by decide)
      have h2 : ρ (.tmp 17) = .agg #[.float .f64 b1, .float .f64 b2] := by rw [← hA]; exact puts_get 4 ds L _ hap (by rw [hds]; rfl) (hd 4 (by decide +kernel) (by intro al hal; cases hal)) (show 17 < 32 by decide)
      have hf := Tryz.func40
      unfold execOp
      go_simp
    · -- 6
      obtain rfl := Option.some.inj ho
      refine .value W ?_ (Below.refl _ _)
      generalize hA : (puts ds L _).eval = ρ
      have hc : ∀ v, ρ (.const v) = v := fun v => by rw [← hA]; rfl
      have hg : ∀ g, ρ (.func g) = .func (.func g) #[] #[] := fun v => by rw [← hA]; rfl
      have h0 : ρ (.tmp 2) = .func (.func 40) #[] #[] := by rw [← hA]; exact (puts_old ds L _ (by rw [hds]; decide)).trans rfl
      clear hA hd hB ho hs ha
      unfold execOp
      go_simp
    · -- 7
      obtain rfl := Option.some.inj ho
      refine .value W ?_ (Below.refl _ _)
      generalize hA : (puts ds L _).eval = ρ
      have hc : ∀ v, ρ (.const v) = v := fun v => by rw [← hA]; rfl
      have hg : ∀ g, ρ (.func g) = .func (.func g) #[] #[] := fun v => by rw [← hA]; rfl
      have h0 : ρ (.tmp 3) = .pointer (some ⟨w.heap.size, 0, none⟩) := by rw [← hA]; exact (puts_old ds L _ (by rw [hds]; decide)).trans rfl
      clear hA hd hB ho hs ha
      unfold execOp
      go_simp
    · -- 8
      obtain rfl := Option.some.inj ho
      have b := hB 0 _ _ rfl (by
        intro st hst e
        simp only [List.mem_cons, List.not_mem_nil, or_false] at hst; rcases hst with rfl
        · exact absurd e (show ¬ 2 = 0 by decide))
      have c2 := b.at_ 2 _ rfl
      have c3 := b.at_ 3 _ rfl
      clear b
      refine .value W ?_ (Below.refl _ _)
      generalize hA : (puts ds L _).eval = ρ
      have hc : ∀ v, ρ (.const v) = v := fun v => by rw [← hA]; rfl
      have hg : ∀ g, ρ (.func g) = .func (.func g) #[] #[] := fun v => by rw [← hA]; rfl
      have h0 : ρ (.tmp 20) = .pointer (some ⟨w.heap.size, 2, none⟩) := by rw [← hA]; exact puts_get 7 ds L _ hap (by rw [hds]; rfl) (hd 7 (by decide +kernel) (by intro al hal; cases hal)) (show 20 < 32 by decide)
      clear hA hd hB ho hs ha
      unfold execOp
      go_simp
    · -- 9
      obtain rfl := Option.some.inj ho
      refine .value W ?_ (Below.refl _ _)
      generalize hA : (puts ds L _).eval = ρ
      have hc : ∀ v, ρ (.const v) = v := fun v => by rw [← hA]; rfl
      have hg : ∀ g, ρ (.func g) = .func (.func g) #[] #[] := fun v => by rw [← hA]; rfl
      have h0 : ρ (.tmp 4) = .pointer (some ⟨w.heap.size + 1, 0, none⟩) := by rw [← hA]; exact (puts_old ds L _ (by rw [hds]; decide)).trans rfl
      clear hA hd hB ho hs ha
      unfold execOp
      go_simp
    · -- 10
      obtain rfl := Option.some.inj ho
      have b := hB 1 _ _ rfl (by
        intro st hst e
        simp only [List.mem_cons, List.not_mem_nil, or_false] at hst; rcases hst with rfl
        · exact absurd e (show ¬ 2 = 1 by decide))
      have c2 := b.at_ 2 _ rfl
      have c3 := b.at_ 3 _ rfl
      clear b
      refine .value W ?_ (Below.refl _ _)
      generalize hA : (puts ds L _).eval = ρ
      have hc : ∀ v, ρ (.const v) = v := fun v => by rw [← hA]; rfl
      have hg : ∀ g, ρ (.func g) = .func (.func g) #[] #[] := fun v => by rw [← hA]; rfl
      have h0 : ρ (.tmp 22) = .pointer (some ⟨w.heap.size + 1, 2, none⟩) := by rw [← hA]; exact puts_get 9 ds L _ hap (by rw [hds]; rfl) (hd 9 (by decide +kernel) (by intro al hal; cases hal)) (show 22 < 32 by decide)
      clear hA hd hB ho hs ha
      unfold execOp
      go_simp
    · -- 11
      obtain rfl := Option.some.inj ho
      refine .call 40 #[.agg #[.float .f64 a3, .float .f64 a4], .agg #[.float .f64 b3, .float .f64 b4]] ?_ (D2.out W)
      generalize hA : (puts ds L _).eval = ρ
      have hc : ∀ v, ρ (.const v) = v := fun v => by rw [← hA]; rfl
      have hg : ∀ g, ρ (.func g) = .func (.func g) #[] #[] := fun v => by rw [← hA]; rfl
      have h0 : ρ (.tmp 19) = .func (.func 40) #[] #[] := by rw [← hA]; exact puts_get 6 ds L _ hap (by rw [hds]; rfl) (hd 6 (by decide +kernel) (by intro al hal; cases hal)) (show 19 < 32 by decide)
      have h1 : ρ (.tmp 21) = .agg #[.float .f64 a3, .float .f64 a4] := by rw [← hA]; exact puts_get 8 ds L _ hap (by rw [hds]; rfl) (hd 8 (by decide +kernel) (by intro al hal; cases hal)) (show 21 < 32 by decide)
      have h2 : ρ (.tmp 23) = .agg #[.float .f64 b3, .float .f64 b4] := by rw [← hA]; exact puts_get 10 ds L _ hap (by rw [hds]; rfl) (hd 10 (by decide +kernel) (by intro al hal; cases hal)) (show 23 < 32 by decide)
      have hf := Tryz.func40
      unfold execOp
      go_simp
    · -- 12
      obtain rfl := Option.some.inj ho
      refine .value W ?_ (Below.refl _ _)
      generalize hA : (puts ds L _).eval = ρ
      have hc : ∀ v, ρ (.const v) = v := fun v => by rw [← hA]; rfl
      have hg : ∀ g, ρ (.func g) = .func (.func g) #[] #[] := fun v => by rw [← hA]; rfl
      have h0 : ρ (.tmp 2) = .func (.func 40) #[] #[] := by rw [← hA]; exact (puts_old ds L _ (by rw [hds]; decide)).trans rfl
      clear hA hd hB ho hs ha
      unfold execOp
      go_simp
    · -- 13
      obtain rfl := Option.some.inj ho
      refine .value W ?_ (Below.refl _ _)
      generalize hA : (puts ds L _).eval = ρ
      have hc : ∀ v, ρ (.const v) = v := fun v => by rw [← hA]; rfl
      have hg : ∀ g, ρ (.func g) = .func (.func g) #[] #[] := fun v => by rw [← hA]; rfl
      have h0 : ρ (.tmp 3) = .pointer (some ⟨w.heap.size, 0, none⟩) := by rw [← hA]; exact (puts_old ds L _ (by rw [hds]; decide)).trans rfl
      clear hA hd hB ho hs ha
      unfold execOp
      go_simp
    · -- 14
      obtain rfl := Option.some.inj ho
      have b := hB 0 _ _ rfl (by
        intro st hst e
        simp only [List.mem_cons, List.not_mem_nil, or_false] at hst; rcases hst with rfl
        · exact absurd e (show ¬ 2 = 0 by decide))
      have c4 := b.at_ 4 _ rfl
      have c5 := b.at_ 5 _ rfl
      clear b
      refine .value W ?_ (Below.refl _ _)
      generalize hA : (puts ds L _).eval = ρ
      have hc : ∀ v, ρ (.const v) = v := fun v => by rw [← hA]; rfl
      have hg : ∀ g, ρ (.func g) = .func (.func g) #[] #[] := fun v => by rw [← hA]; rfl
      have h0 : ρ (.tmp 26) = .pointer (some ⟨w.heap.size, 4, none⟩) := by rw [← hA]; exact puts_get 13 ds L _ hap (by rw [hds]; rfl) (hd 13 (by decide +kernel) (by intro al hal; cases hal)) (show 26 < 32 by decide)
      clear hA hd hB ho hs ha
      unfold execOp
      go_simp
    · -- 15
      obtain rfl := Option.some.inj ho
      refine .value W ?_ (Below.refl _ _)
      generalize hA : (puts ds L _).eval = ρ
      have hc : ∀ v, ρ (.const v) = v := fun v => by rw [← hA]; rfl
      have hg : ∀ g, ρ (.func g) = .func (.func g) #[] #[] := fun v => by rw [← hA]; rfl
      have h0 : ρ (.tmp 4) = .pointer (some ⟨w.heap.size + 1, 0, none⟩) := by rw [← hA]; exact (puts_old ds L _ (by rw [hds]; decide)).trans rfl
      clear hA hd hB ho hs ha
      unfold execOp
      go_simp
    · -- 16
      obtain rfl := Option.some.inj ho
      have b := hB 1 _ _ rfl (by
        intro st hst e
        simp only [List.mem_cons, List.not_mem_nil, or_false] at hst; rcases hst with rfl
        · exact absurd e (show ¬ 2 = 1 by decide))
      have c4 := b.at_ 4 _ rfl
      have c5 := b.at_ 5 _ rfl
      clear b
      refine .value W ?_ (Below.refl _ _)
      generalize hA : (puts ds L _).eval = ρ
      have hc : ∀ v, ρ (.const v) = v := fun v => by rw [← hA]; rfl
      have hg : ∀ g, ρ (.func g) = .func (.func g) #[] #[] := fun v => by rw [← hA]; rfl
      have h0 : ρ (.tmp 28) = .pointer (some ⟨w.heap.size + 1, 4, none⟩) := by rw [← hA]; exact puts_get 15 ds L _ hap (by rw [hds]; rfl) (hd 15 (by decide +kernel) (by intro al hal; cases hal)) (show 28 < 32 by decide)
      clear hA hd hB ho hs ha
      unfold execOp
      go_simp
    · -- 17
      obtain rfl := Option.some.inj ho
      refine .call 40 #[.agg #[.float .f64 a5, .float .f64 a6], .agg #[.float .f64 b5, .float .f64 b6]] ?_ (D3.out W)
      generalize hA : (puts ds L _).eval = ρ
      have hc : ∀ v, ρ (.const v) = v := fun v => by rw [← hA]; rfl
      have hg : ∀ g, ρ (.func g) = .func (.func g) #[] #[] := fun v => by rw [← hA]; rfl
      have h0 : ρ (.tmp 25) = .func (.func 40) #[] #[] := by rw [← hA]; exact puts_get 12 ds L _ hap (by rw [hds]; rfl) (hd 12 (by decide +kernel) (by intro al hal; cases hal)) (show 25 < 32 by decide)
      have h1 : ρ (.tmp 27) = .agg #[.float .f64 a5, .float .f64 a6] := by rw [← hA]; exact puts_get 14 ds L _ hap (by rw [hds]; rfl) (hd 14 (by decide +kernel) (by intro al hal; cases hal)) (show 27 < 32 by decide)
      have h2 : ρ (.tmp 29) = .agg #[.float .f64 b5, .float .f64 b6] := by rw [← hA]; exact puts_get 16 ds L _ hap (by rw [hds]; rfl) (hd 16 (by decide +kernel) (by intro al hal; cases hal)) (show 29 < 32 by decide)
      have hf := Tryz.func40
      unfold execOp
      go_simp
    · -- 18
      obtain rfl := Option.some.inj ho
      refine .value W ?_ (Below.refl _ _)
      generalize hA : (puts ds L _).eval = ρ
      have hc : ∀ v, ρ (.const v) = v := fun v => by rw [← hA]; rfl
      have hg : ∀ g, ρ (.func g) = .func (.func g) #[] #[] := fun v => by rw [← hA]; rfl
      have h0 : ρ (.tmp 18) = .agg #[.float .f64 y1, .float .f64 y2] := by rw [← hA]; exact puts_get 5 ds L _ hap (by rw [hds]; rfl) (hd 5 (by decide +kernel) (by intro al hal; cases hal)) (show 18 < 32 by decide)
      have h1 : ρ (.tmp 24) = .agg #[.float .f64 y3, .float .f64 y4] := by rw [← hA]; exact puts_get 11 ds L _ hap (by rw [hds]; rfl) (hd 11 (by decide +kernel) (by intro al hal; cases hal)) (show 24 < 32 by decide)
      have h2 : ρ (.tmp 30) = .agg #[.float .f64 y5, .float .f64 y6] := by rw [← hA]; exact puts_get 17 ds L _ hap (by rw [hds]; rfl) (hd 17 (by decide +kernel) (by intro al hal; cases hal)) (show 30 < 32 by decide)
      clear hA hd hB ho hs ha
      unfold execOp
      go_simp
    · -- 19
      exact absurd rfl (hs _ (List.mem_cons_self ..))
    · -- 20
      obtain rfl := Option.some.inj ho
      refine .value W ?_ (Below.refl _ _)
      generalize hA : (puts ds L _).eval = ρ
      have hc : ∀ v, ρ (.const v) = v := fun v => by rw [← hA]; rfl
      have hg : ∀ g, ρ (.func g) = .func (.func g) #[] #[] := fun v => by rw [← hA]; rfl
      clear hA hd hB ho hs ha
      unfold execOp
      go_simp
  case store =>
    intro st hst L W o h us ho hd hal hC b
    simp only [List.mem_cons, List.not_mem_nil, or_false] at hst; rcases hst with rfl
    · dsimp only at ho hd hal hC b ⊢
      obtain rfl := Option.some.inj ho
      obtain ⟨rfl, rfl⟩ := hC _ _ rfl
      have c0 := b.at_ 0 _ rfl
      have f0 := b.fr 0 _ rfl
      have c1 := b.at_ 1 _ rfl
      have f1 := b.fr 1 _ rfl
      have c2 := b.at_ 2 _ rfl
      have f2 := b.fr 2 _ rfl
      have c3 := b.at_ 3 _ rfl
      have f3 := b.fr 3 _ rfl
      have c4 := b.at_ 4 _ rfl
      have f4 := b.fr 4 _ rfl
      have c5 := b.at_ 5 _ rfl
      have f5 := b.fr 5 _ rfl
      refine ⟨?_, rfl⟩
      generalize hA : (puts ds L _).eval = ρ
      have h0 : ρ (.tmp 6) = .pointer (some ⟨w.heap.size + 1 + 1, 0, none⟩) := by rw [← hA]; exact (puts_old ds L _ (by rw [hds]; decide)).trans rfl
      have h1 : ρ (.tmp 31) = .agg #[.float .f64 y1, .float .f64 y2, .float .f64 y3, .float .f64 y4, .float .f64 y5, .float .f64 y6] := by rw [← hA]; exact puts_get 18 ds L _ hap (by rw [hds]; rfl) (hd 18 (by decide +kernel) (by intro al hal; cases hal)) (show 31 < 32 by decide)
      have hst' := @fstore
      clear hA hd b ho hal hC
      simp only [putW]
      unfold execOp
      go_simp
  case fin =>
    intro hf W5 K
    rw [hds]
    clear hds hap ds
    simp only [List.set_cons_zero, List.set_cons_succ, puts, Act.put, List.setIfInBounds_toArray]
    replace K := Lib.hid K
    go_wp2_with fail
    replace K := K.out
    have c2_0 := (K.at_ 2 rfl).at_ 0 _ rfl
    have c2_1 := (K.at_ 2 rfl).at_ 1 _ rfl
    have c2_2 := (K.at_ 2 rfl).at_ 2 _ rfl
    have c2_3 := (K.at_ 2 rfl).at_ 3 _ rfl
    have c2_4 := (K.at_ 2 rfl).at_ 4 _ rfl
    have c2_5 := (K.at_ 2 rfl).at_ 5 _ rfl
    (try simp only [Exit.inBlock, Exit.then])
    refine bodyPost_ret (v := .tuple #[.agg #[.float .f64 y1, .float .f64 y2, .float .f64 y3, .float .f64 y4, .float .f64 y5, .float .f64 y6], .int .i64 0]) ?_ rfl ⟨rfl, ?_⟩
    · rw [results_cell_tmp rfl]; go_simp
    · exact K.old
set_option maxHeartbeats 4000000 in
set_option maxRecDepth 100000 in
theorem vbyn_add_no {a1 a2 a3 a4 a5 a6 b1 b2 b3 b4 b5 b6 : Nat} (C : Hid (∀ w, Calls Tryz.prog 60 #[.agg #[.float .f64 a1, .float .f64 a2, .float .f64 a3, .float .f64 a4, .float .f64 a5, .float .f64 a6], .agg #[.float .f64 b1, .float .f64 b2, .float .f64 b3, .float .f64 b4, .float .f64 b5, .float .f64 b6]] w fun e w' => e = .returned (.bool false) ∧ Below w.heap.size w w')) (w : World) : Calls Tryz.prog 39 #[.agg #[.float .f64 a1, .float .f64 a2, .float .f64 a3, .float .f64 a4, .float .f64 a5, .float .f64 a6], .agg #[.float .f64 b1, .float .f64 b2, .float .f64 b3, .float .f64 b4, .float .f64 b5, .float .f64 b6], .func (.func 40) #[] #[]] w fun e w' => e = .returned (.tuple #[.agg #[.float .f64 0, .float .f64 0, .float .f64 0, .float .f64 0, .float .f64 0, .float .f64 0], .int .i64 3]) ∧ Below w.heap.size w w' := by
  have K0 := kw3 w 33 33 33 [a1, a2, a3, a4, a5, a6] [b1, b2, b3, b4, b5, b6] [0, 0, 0, 0, 0, 0]
  simp only [objW, List.map_cons, List.map_nil] at K0
  have hst := @fstore
  replace K0 := Lib.hid K0
  go_enter Tryz.func39, Tryz.ntmps39
  go_wp2_with fail
  have K := K0.out
  clear K0
  generalize ((w.alloc _).alloc _).alloc _ = wr at *
  refine (C.out wr).mono ?_
  rintro _ v1 ⟨rfl, hb⟩
  replace K := K.on hb
  clear hb
  have c2_0 := (K.at_ 2 rfl).at_ 0 _ rfl
  have f2_0 := (K.at_ 2 rfl).fr 0 _ rfl
  have c2_1 := (K.at_ 2 rfl).at_ 1 _ rfl
  have f2_1 := (K.at_ 2 rfl).fr 1 _ rfl
  have c2_2 := (K.at_ 2 rfl).at_ 2 _ rfl
  have f2_2 := (K.at_ 2 rfl).fr 2 _ rfl
  have c2_3 := (K.at_ 2 rfl).at_ 3 _ rfl
  have f2_3 := (K.at_ 2 rfl).fr 3 _ rfl
  have c2_4 := (K.at_ 2 rfl).at_ 4 _ rfl
  have f2_4 := (K.at_ 2 rfl).fr 4 _ rfl
  have c2_5 := (K.at_ 2 rfl).at_ 5 _ rfl
  have f2_5 := (K.at_ 2 rfl).fr 5 _ rfl
  replace K := Lib.hid K
  go_wp2_with fail
  replace K := K.out
  (try simp only [Exit.inBlock, Exit.then])
  refine bodyPost_ret (v := .tuple #[.agg #[.float .f64 0, .float .f64 0, .float .f64 0, .float .f64 0, .float .f64 0, .float .f64 0], .int .i64 3]) ?_ rfl ⟨rfl, ?_⟩
  · rw [results_cell_tmp rfl]; go_simp
  · exact ((((((K.old).setCell (by first | exact Nat.le_refl _ | (dsimp only; omega)) _).setCell (by first | exact Nat.le_refl _ | (dsimp only; omega)) _).setCell (by first | exact Nat.le_refl _ | (dsimp only; omega)) _).setCell (by first | exact Nat.le_refl _ | (dsimp only; omega)) _).setCell (by first | exact Nat.le_refl _ | (dsimp only; omega)) _).setCell (by first | exact Nat.le_refl _ | (dsimp only; omega)) _
set_option maxHeartbeats 4000000 in
set_option maxRecDepth 100000 in
theorem vboxadd {a1 a2 a3 a4 a5 a6 b1 b2 b3 b4 b5 b6 y1 y2 y3 y4 y5 y6 : Nat} {k : Int} (C : Hid (∀ w, Calls Tryz.prog 39 #[.agg #[.float .f64 a1, .float .f64 a2, .float .f64 a3, .float .f64 a4, .float .f64 a5, .float .f64 a6], .agg #[.float .f64 b1, .float .f64 b2, .float .f64 b3, .float .f64 b4, .float .f64 b5, .float .f64 b6], .func (.func 40) #[] #[]] w fun e w' => e = .returned (.tuple #[.agg #[.float .f64 y1, .float .f64 y2, .float .f64 y3, .float .f64 y4, .float .f64 y5, .float .f64 y6], .int .i64 k]) ∧ Below w.heap.size w w')) (w : World) : Calls Tryz.prog 22 #[.agg #[.float .f64 a1, .float .f64 a2, .float .f64 a3, .float .f64 a4, .float .f64 a5, .float .f64 a6], .agg #[.float .f64 b1, .float .f64 b2, .float .f64 b3, .float .f64 b4, .float .f64 b5, .float .f64 b6]] w fun e w' => e = .returned (.tuple #[.agg #[.float .f64 y1, .float .f64 y2, .float .f64 y3, .float .f64 y4, .float .f64 y5, .float .f64 y6], .int .i64 k]) ∧ Below w.heap.size w w' := by
  have K0 := kw3 w 33 33 33 [a1, a2, a3, a4, a5, a6] [b1, b2, b3, b4, b5, b6] [0, 0, 0, 0, 0, 0]
  simp only [objW, List.map_cons, List.map_nil] at K0
  have hst := @fstore
  replace K0 := Lib.hid K0
  go_enter Tryz.func22, Tryz.ntmps22
  go_wp2_with fail
  have K := K0.out
  clear K0
  generalize ((w.alloc _).alloc _).alloc _ = wr at *
  refine (C.out wr).mono ?_
  rintro _ v1 ⟨rfl, hb⟩
  replace K := K.on hb
  clear hb
  have c2_0 := (K.at_ 2 rfl).at_ 0 _ rfl
  have f2_0 := (K.at_ 2 rfl).fr 0 _ rfl
  have c2_1 := (K.at_ 2 rfl).at_ 1 _ rfl
  have f2_1 := (K.at_ 2 rfl).fr 1 _ rfl
  have c2_2 := (K.at_ 2 rfl).at_ 2 _ rfl
  have f2_2 := (K.at_ 2 rfl).fr 2 _ rfl
  have c2_3 := (K.at_ 2 rfl).at_ 3 _ rfl
  have f2_3 := (K.at_ 2 rfl).fr 3 _ rfl
  have c2_4 := (K.at_ 2 rfl).at_ 4 _ rfl
  have f2_4 := (K.at_ 2 rfl).fr 4 _ rfl
  have c2_5 := (K.at_ 2 rfl).at_ 5 _ rfl
  have f2_5 := (K.at_ 2 rfl).fr 5 _ rfl
  replace K := Lib.hid K
  go_wp2_with fail
  replace K := K.out
  (try simp only [Exit.inBlock, Exit.then])
  refine bodyPost_ret (v := .tuple #[.agg #[.float .f64 y1, .float .f64 y2, .float .f64 y3, .float .f64 y4, .float .f64 y5, .float .f64 y6], .int .i64 k]) ?_ rfl ⟨rfl, ?_⟩
  · rw [results_cell_tmp rfl]; go_simp
  · exact ((((((K.old).setCell (by first | exact Nat.le_refl _ | (dsimp only; omega)) _).setCell (by first | exact Nat.le_refl _ | (dsimp only; omega)) _).setCell (by first | exact Nat.le_refl _ | (dsimp only; omega)) _).setCell (by first | exact Nat.le_refl _ | (dsimp only; omega)) _).setCell (by first | exact Nat.le_refl _ | (dsimp only; omega)) _).setCell (by first | exact Nat.le_refl _ | (dsimp only; omega)) _
/-! ### whatever the boxes -/
theorem z6_w : W6 z6 := ⟨⟨by decide, by decide⟩, ⟨by decide, by decide⟩, by decide, by decide⟩
end Go.Proofs.YtgblpibanagcgaaGreat

namespace Go.Proofs.YtgblpibanagcgaaGreat
open Go.ChangeShapes Go.WideShapes Go.ChangeAt Go.RowKit Ieee.Own

end Go.Proofs.YtgblpibanagcgaaGreat
