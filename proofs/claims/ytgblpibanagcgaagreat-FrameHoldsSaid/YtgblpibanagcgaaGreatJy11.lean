/- Proved here: what the texts Frp prove, one behind the other. -/
import Derived.Test.YtgblpibanagcgaaGreatJy5
import Derived.Test.YtgblpibanagcgaaGreatJx3
import Derived.Test.YtgblpibanagcgaaGreatJx9

namespace Go.Proofs.YtgblpibanagcgaaGreat
open Go.ChangeShapes Go.WideShapes Go.ChangeAt Go.RowKit Ieee.Own

def timB (p : Pr) : Bool := decide (errS p.1 p.2 = 0) && witB g24 p.1 && witB g24 p.2
set_option maxHeartbeats 4000000 in
set_option maxRecDepth 100000 in
theorem ftimes_run {p : Pr} (h : W2 p) (w : World) : Calls Tryz.prog 21 #[pv p] w fun e w' => e = .returned (.bool (timB p)) ∧ Below w.heap.size w w' := by
  have C := Lib.hid (fun w => scheck_run p.1 p.2 h.l1 h.l2 w)
  have C1 := fun w => ftime_run p.1 h.l1 w
  have C2 := fun w => ftime_run p.2 h.l2 w
  clear h
  unfold timB
  generalize errS p.1 p.2 = k at *
  generalize witB g24 p.1 = x at *
  generalize witB g24 p.2 = y at *
  obtain ⟨p1, p2⟩ := p
  unfold pv spanV at *
  dsimp only at *
  have K0 := kv1 w 31 [.float .f64 p1, .float .f64 p2]
  simp only [objV] at K0
  have hst := @fstore
  replace K0 := Lib.hid K0
  by_cases hk : k = 0
  · subst hk
    rw [decide_eq_true rfl]
    cases x <;> cases y <;> (
      go_enter Tryz.func21, Tryz.ntmps21
      go_wp2_with fail
      have K := K0.out
      clear K0
      generalize w.alloc _ = wr at *
      refine (C.out wr).mono ?_
      rintro _ v1 ⟨rfl, hb⟩
      replace K := K.on hb
      clear hb
      have c0_0 := (K.at_ 0 rfl).at_ 0 _ rfl
      have c0_1 := (K.at_ 0 rfl).at_ 1 _ rfl
      replace K := Lib.hid K
      go_wp2_with (first | (go_at_call 15; ((with_reducible refine (C1 _).mono ?_); rintro e w' ⟨rfl, rfl⟩)) | (go_at_call 15; ((with_reducible refine (C2 _).mono ?_); rintro e w' ⟨rfl, rfl⟩)))
      replace K := K.out
      go_ret
      exact ⟨rfl, K.old⟩)
  · have t : (k == 0) = false := by simpa using hk
    rw [decide_eq_false hk]
    clear hk
    go_enter Tryz.func21, Tryz.ntmps21
    go_wp2_with fail
    have K := K0.out
    clear K0
    generalize w.alloc _ = wr at *
    refine (C.out wr).mono ?_
    rintro _ v1 ⟨rfl, hb⟩
    replace K := K.on hb
    clear hb
    replace K := Lib.hid K
    go_wp2_with fail
    replace K := K.out
    go_ret
    exact ⟨rfl, K.old⟩
set_option maxHeartbeats 4000000 in
set_option maxRecDepth 100000 in
theorem fangles_ok {up ax : Int} {ph rt o1 o2 o3 t1 t2 m1 m2 a1 a2 : Nat} {k : Int} (CM : Hid (∀ w, Calls Tryz.prog 62 #[.agg #[.float .f64 rt, .float .f64 rt], .agg #[.float .f64 t1, .float .f64 t2]] w fun e w' => e = .returned (.tuple #[.agg #[.float .f64 m1, .float .f64 m2], .int .i64 0]) ∧ Below w.heap.size w w')) (CA : Hid (∀ w, Calls Tryz.prog 61 #[.agg #[.float .f64 ph, .float .f64 ph], .agg #[.float .f64 m1, .float .f64 m2]] w fun e w' => e = .returned (.tuple #[.agg #[.float .f64 a1, .float .f64 a2], .int .i64 k]) ∧ Below w.heap.size w w')) (w : World) : Calls Tryz.prog 41 #[.agg #[.int .i64 up, .int .i64 ax, .float .f64 ph, .float .f64 rt, .float .f64 o1, .float .f64 o2, .float .f64 o3], .agg #[.float .f64 t1, .float .f64 t2]] w fun e w' => e = .returned (.tuple #[.agg #[.float .f64 a1, .float .f64 a2], .int .i64 k]) ∧ Below w.heap.size w w' := by
  have K0 := kv3 w 49 31 31 [.int .i64 up, .int .i64 ax, .float .f64 ph, .float .f64 rt, .float .f64 o1, .float .f64 o2, .float .f64 o3] [.float .f64 t1, .float .f64 t2] [.float .f64 0, .float .f64 0]
  simp only [objV] at K0
  have hst := @fstore
  replace K0 := Lib.hid K0
  go_enter Tryz.func41, Tryz.ntmps41
  go_upto_region 1 with fail
  have K := K0.out
  clear K0
  generalize ((w.alloc _).alloc _).alloc _ = wr at *
  replace K := K.more.more
  simp only [List.cons_append, List.nil_append] at K
  generalize hds : ([some 10, some 11, some 12, some 13, some 14, some 15, some 16, some 17, some 18, some 19, some 6, some 7, none, none] : List (Option Tmp)) = ds
  have hap : apartL ds = true := by rw [← hds]; decide
  replace hds := hds.symm
  refine wp_region_kv (fun hf => [some (w.heap.size, [.int .i64 up, .int .i64 ax, .float .f64 ph, .float .f64 rt, .float .f64 o1, .float .f64 o2, .float .f64 o3]), some (w.heap.size + 1, [.float .f64 t1, .float .f64 t2]), some (w.heap.size + 1 + 1, [.float .f64 0, .float .f64 0]), some (hf 10, [.float .f64 ph, .float .f64 ph]), some (hf 11, [.float .f64 rt, .float .f64 rt])]) (fun hf => [some (.pointer (some ⟨w.heap.size, 2, none⟩)), some (.float .f64 ph), some (.pointer (some ⟨w.heap.size, 2, none⟩)), some (.float .f64 ph), some (.agg #[.float .f64 ph, .float .f64 ph]), some (.pointer (some ⟨w.heap.size, 3, none⟩)), some (.float .f64 rt), some (.pointer (some ⟨w.heap.size, 3, none⟩)), some (.float .f64 rt), some (.agg #[.float .f64 rt, .float .f64 rt]), some (ptrV (hf 10)), some (ptrV (hf 11)), some (undef), some (undef)]) [⟨10, 3, 31, [.float .f64 0, .float .f64 0]⟩, ⟨11, 4, 31, [.float .f64 0, .float .f64 0]⟩] [⟨12, 3, 0, [.float .f64 ph, .float .f64 ph]⟩, ⟨13, 4, 0, [.float .f64 rt, .float .f64 rt]⟩] [.pointer (some ⟨w.heap.size, 2, none⟩), .float .f64 ph, .pointer (some ⟨w.heap.size, 2, none⟩), .float .f64 ph, .agg #[.float .f64 ph, .float .f64 ph], .pointer (some ⟨w.heap.size, 3, none⟩), .float .f64 rt, .pointer (some ⟨w.heap.size, 3, none⟩), .float .f64 rt, .agg #[.float .f64 rt, .float .f64 rt], undef, undef, undef, undef] ds (by kernel_rfl) (by rw [hds]; rfl) hap (by decide +kernel) (by decide +kernel) K ?ha ?haj ?hai ?hsi ?hss ?hsa ?hsw ?htg ?hE2 ?hE3 ?hE4 ?hL1 ?hL2 ?hL3 ?alloc ?step ?store ?fin
  case ha => intro al hal; simp only [List.mem_cons, List.not_mem_nil, or_false] at hal; rcases hal with rfl | rfl <;> rfl
  case haj => intro al hal al' hal' e; simp only [List.mem_cons, List.not_mem_nil, or_false] at hal; rcases hal with rfl | rfl <;> (simp only [List.mem_cons, List.not_mem_nil, or_false] at hal'; rcases hal' with rfl | rfl) <;> first | rfl | (exfalso; revert e; simp)
  case hai => intro al hal; simp only [List.mem_cons, List.not_mem_nil, or_false] at hal; rcases hal with rfl | rfl <;> decide
  case hsi => intro st hst st' hst' e; simp only [List.mem_cons, List.not_mem_nil, or_false] at hst; rcases hst with rfl | rfl <;> (simp only [List.mem_cons, List.not_mem_nil, or_false] at hst'; rcases hst' with rfl | rfl) <;> first | rfl | (exfalso; revert e; simp)
  case hss =>
    intro st hst
    simp only [List.mem_cons, List.not_mem_nil, or_false] at hst; rcases hst with rfl | rfl
    · show 12 < 14; decide
    · show 13 < 14; decide
  case hsa =>
    intro st hst al hal
    simp only [List.mem_cons, List.not_mem_nil, or_false] at hst; rcases hst with rfl | rfl
    · simp only [List.mem_cons, List.not_mem_nil, or_false] at hal; rcases hal with rfl | rfl
      · exact (show ¬ (12 = 10) by decide)
      · exact (show ¬ (12 = 11) by decide)
    · simp only [List.mem_cons, List.not_mem_nil, or_false] at hal; rcases hal with rfl | rfl
      · exact (show ¬ (13 = 10) by decide)
      · exact (show ¬ (13 = 11) by decide)
  case hsw =>
    intro st hst al hal e
    simp only [List.mem_cons, List.not_mem_nil, or_false] at hst; rcases hst with rfl | rfl
    · simp only [List.mem_cons, List.not_mem_nil, or_false] at hal; rcases hal with rfl | rfl
      · change waitsAt _ 12 10 = true; decide +kernel
      · exact absurd e (show ¬ (3 = 4) by decide)
    · simp only [List.mem_cons, List.not_mem_nil, or_false] at hal; rcases hal with rfl | rfl
      · exact absurd e (show ¬ (4 = 3) by decide)
      · change waitsAt _ 13 11 = true; decide +kernel
  case htg =>
    intro st hst
    simp only [List.mem_cons, List.not_mem_nil, or_false] at hst; rcases hst with rfl | rfl
    · exact .inr ⟨_, List.mem_cons_self .., rfl, show 0 + 2 ≤ 2 by decide⟩
    · exact .inr ⟨_, List.mem_cons_of_mem _ (List.mem_cons_self ..), rfl, show 0 + 2 ≤ 2 by decide⟩
  case hE2 =>
    intro hf j h1 h2
    have n3 : 3 ≠ j := h1 _ (List.mem_cons_self ..)
    have n4 : 4 ≠ j := h1 _ (List.mem_cons_of_mem _ (List.mem_cons_self ..))
    rcases j with _ | _ | _ | _ | _ | j
    · rfl
    · rfl
    · rfl
    · exact absurd rfl n3
    · exact absurd rfl n4
    · rfl
  case hE3 =>
    intro hf st hst g us e
    simp only [List.mem_cons, List.not_mem_nil, or_false] at hst; rcases hst with rfl | rfl
    · simp at e
    · simp at e
  case hE4 =>
    intro hf al hal
    simp only [List.mem_cons, List.not_mem_nil, or_false] at hal; rcases hal with rfl | rfl
    · refine ⟨fun st hst e => ?_, fun h => absurd rfl (h _ (List.mem_cons_self ..))⟩
      simp only [List.mem_cons, List.not_mem_nil, or_false] at hst; rcases hst with rfl | rfl
      · rfl
      · exact absurd e (show ¬ (4 = 3) by decide)
    · refine ⟨fun st hst e => ?_, fun h => absurd rfl (h _ (List.mem_cons_of_mem _ (List.mem_cons_self ..)))⟩
      simp only [List.mem_cons, List.not_mem_nil, or_false] at hst; rcases hst with rfl | rfl
      · exact absurd e (show ¬ (3 = 4) by decide)
      · rfl
  case hL1 => intro hf; rfl
  case hL2 =>
    intro hf i hi hna
    have hi : i < 14 := hi
    have : i = 0 ∨ i = 1 ∨ i = 2 ∨ i = 3 ∨ i = 4 ∨ i = 5 ∨ i = 6 ∨ i = 7 ∨ i = 8 ∨ i = 9 ∨ i = 10 ∨ i = 11 ∨ i = 12 ∨ i = 13 := by omega
    rcases this with rfl | rfl | rfl | rfl | rfl | rfl | rfl | rfl | rfl | rfl | rfl | rfl | rfl | rfl
    · rfl
    · rfl
    · rfl
    · rfl
    · rfl
    · rfl
    · rfl
    · rfl
    · rfl
    · rfl
    · exact absurd rfl (hna _ (List.mem_cons_self ..))
    · exact absurd rfl (hna _ (List.mem_cons_of_mem _ (List.mem_cons_self ..)))
    · rfl
    · rfl
  case hL3 => intro hf al hal; simp only [List.mem_cons, List.not_mem_nil, or_false] at hal; rcases hal with rfl | rfl <;> rfl
  case alloc =>
    intro al hal o ρ W ho
    simp only [List.mem_cons, List.not_mem_nil, or_false] at hal; rcases hal with rfl | rfl
    · obtain rfl := Option.some.inj ho; unfold execOp ptrV objV; go_simp
    · obtain rfl := Option.some.inj ho; unfold execOp ptrV objV; go_simp
  case step =>
    intro L W i o ho hs ha hd hB hO
    have hi : i < 14 := (Array.getElem?_eq_some_iff.1 ho).1
    have : i = 0 ∨ i = 1 ∨ i = 2 ∨ i = 3 ∨ i = 4 ∨ i = 5 ∨ i = 6 ∨ i = 7 ∨ i = 8 ∨ i = 9 ∨ i = 10 ∨ i = 11 ∨ i = 12 ∨ i = 13 := by omega
    rcases this with rfl | rfl | rfl | rfl | rfl | rfl | rfl | rfl | rfl | rfl | rfl | rfl | rfl | rfl
    · -- 0
      obtain rfl := Option.some.inj ho
      refine .value W ?_ (Below.refl _ _)
      generalize hA : (puts ds L _).eval = ρ
      have hc : ∀ v, ρ (.const v) = v := fun v => by rw [← hA]; rfl
      have hg : ∀ g, ρ (.func g) = .func (.func g) #[] #[] := fun v => by rw [← hA]; rfl
      have h0 : ρ (.tmp 2) = .pointer (some ⟨w.heap.size, 0, none⟩) := by rw [← hA]; exact (puts_old ds L _ (by rw [hds]; decide)).trans rfl
      clear hA hd hB ho hs ha hO
      unfold execOp
      go_simp
    · -- 1
      obtain rfl := Option.some.inj ho
      have b := hB 0 _ _ rfl (by
        intro st hst e
        simp only [List.mem_cons, List.not_mem_nil, or_false] at hst; rcases hst with rfl | rfl
        · exact absurd e (show ¬ 3 = 0 by decide)
        · exact absurd e (show ¬ 4 = 0 by decide))
      have c2 := b.at_ 2 _ rfl
      clear b
      refine .value W ?_ (Below.refl _ _)
      generalize hA : (puts ds L _).eval = ρ
      have hc : ∀ v, ρ (.const v) = v := fun v => by rw [← hA]; rfl
      have hg : ∀ g, ρ (.func g) = .func (.func g) #[] #[] := fun v => by rw [← hA]; rfl
      have h0 : ρ (.tmp 10) = .pointer (some ⟨w.heap.size, 2, none⟩) := by rw [← hA]; exact puts_get 0 ds L _ hap (by rw [hds]; rfl) (hd 0 (by decide +kernel) (by intro al hal; simp only [List.mem_cons, List.not_mem_nil, or_false] at hal; rcases hal with rfl | rfl <;> decide)) (show 10 < 35 by decide)
      clear hA hd hB ho hs ha hO
      unfold execOp
      go_simp
    · -- 2
      obtain rfl := Option.some.inj ho
      refine .value W ?_ (Below.refl _ _)
      generalize hA : (puts ds L _).eval = ρ
      have hc : ∀ v, ρ (.const v) = v := fun v => by rw [← hA]; rfl
      have hg : ∀ g, ρ (.func g) = .func (.func g) #[] #[] := fun v => by rw [← hA]; rfl
      have h0 : ρ (.tmp 2) = .pointer (some ⟨w.heap.size, 0, none⟩) := by rw [← hA]; exact (puts_old ds L _ (by rw [hds]; decide)).trans rfl
      clear hA hd hB ho hs ha hO
      unfold execOp
      go_simp
    · -- 3
      obtain rfl := Option.some.inj ho
      have b := hB 0 _ _ rfl (by
        intro st hst e
        simp only [List.mem_cons, List.not_mem_nil, or_false] at hst; rcases hst with rfl | rfl
        · exact absurd e (show ¬ 3 = 0 by decide)
        · exact absurd e (show ¬ 4 = 0 by decide))
      have c2 := b.at_ 2 _ rfl
      clear b
      refine .value W ?_ (Below.refl _ _)
      generalize hA : (puts ds L _).eval = ρ
      have hc : ∀ v, ρ (.const v) = v := fun v => by rw [← hA]; rfl
      have hg : ∀ g, ρ (.func g) = .func (.func g) #[] #[] := fun v => by rw [← hA]; rfl
      have h0 : ρ (.tmp 12) = .pointer (some ⟨w.heap.size, 2, none⟩) := by rw [← hA]; exact puts_get 2 ds L _ hap (by rw [hds]; rfl) (hd 2 (by decide +kernel) (by intro al hal; simp only [List.mem_cons, List.not_mem_nil, or_false] at hal; rcases hal with rfl | rfl <;> decide)) (show 12 < 35 by decide)
      clear hA hd hB ho hs ha hO
      unfold execOp
      go_simp
    · -- 4
      obtain rfl := Option.some.inj ho
      refine .value W ?_ (Below.refl _ _)
      generalize hA : (puts ds L _).eval = ρ
      have hc : ∀ v, ρ (.const v) = v := fun v => by rw [← hA]; rfl
      have hg : ∀ g, ρ (.func g) = .func (.func g) #[] #[] := fun v => by rw [← hA]; rfl
      have h0 : ρ (.tmp 11) = .float .f64 ph := by rw [← hA]; exact puts_get 1 ds L _ hap (by rw [hds]; rfl) (hd 1 (by decide +kernel) (by intro al hal; simp only [List.mem_cons, List.not_mem_nil, or_false] at hal; rcases hal with rfl | rfl <;> decide)) (show 11 < 35 by decide)
      have h1 : ρ (.tmp 13) = .float .f64 ph := by rw [← hA]; exact puts_get 3 ds L _ hap (by rw [hds]; rfl) (hd 3 (by decide +kernel) (by intro al hal; simp only [List.mem_cons, List.not_mem_nil, or_false] at hal; rcases hal with rfl | rfl <;> decide)) (show 13 < 35 by decide)
      clear hA hd hB ho hs ha hO
      unfold execOp
      go_simp
    · -- 5
      obtain rfl := Option.some.inj ho
      refine .value W ?_ (Below.refl _ _)
      generalize hA : (puts ds L _).eval = ρ
      have hc : ∀ v, ρ (.const v) = v := fun v => by rw [← hA]; rfl
      have hg : ∀ g, ρ (.func g) = .func (.func g) #[] #[] := fun v => by rw [← hA]; rfl
      have h0 : ρ (.tmp 2) = .pointer (some ⟨w.heap.size, 0, none⟩) := by rw [← hA]; exact (puts_old ds L _ (by rw [hds]; decide)).trans rfl
      clear hA hd hB ho hs ha hO
      unfold execOp
      go_simp
    · -- 6
      obtain rfl := Option.some.inj ho
      have b := hB 0 _ _ rfl (by
        intro st hst e
        simp only [List.mem_cons, List.not_mem_nil, or_false] at hst; rcases hst with rfl | rfl
        · exact absurd e (show ¬ 3 = 0 by decide)
        · exact absurd e (show ¬ 4 = 0 by decide))
      have c3 := b.at_ 3 _ rfl
      clear b
      refine .value W ?_ (Below.refl _ _)
      generalize hA : (puts ds L _).eval = ρ
      have hc : ∀ v, ρ (.const v) = v := fun v => by rw [← hA]; rfl
      have hg : ∀ g, ρ (.func g) = .func (.func g) #[] #[] := fun v => by rw [← hA]; rfl
      have h0 : ρ (.tmp 15) = .pointer (some ⟨w.heap.size, 3, none⟩) := by rw [← hA]; exact puts_get 5 ds L _ hap (by rw [hds]; rfl) (hd 5 (by decide +kernel) (by intro al hal; simp only [List.mem_cons, List.not_mem_nil, or_false] at hal; rcases hal with rfl | rfl <;> decide)) (show 15 < 35 by decide)
      clear hA hd hB ho hs ha hO
      unfold execOp
      go_simp
    · -- 7
      obtain rfl := Option.some.inj ho
      refine .value W ?_ (Below.refl _ _)
      generalize hA : (puts ds L _).eval = ρ
      have hc : ∀ v, ρ (.const v) = v := fun v => by rw [← hA]; rfl
      have hg : ∀ g, ρ (.func g) = .func (.func g) #[] #[] := fun v => by rw [← hA]; rfl
      have h0 : ρ (.tmp 2) = .pointer (some ⟨w.heap.size, 0, none⟩) := by rw [← hA]; exact (puts_old ds L _ (by rw [hds]; decide)).trans rfl
      clear hA hd hB ho hs ha hO
      unfold execOp
      go_simp
    · -- 8
      obtain rfl := Option.some.inj ho
      have b := hB 0 _ _ rfl (by
        intro st hst e
        simp only [List.mem_cons, List.not_mem_nil, or_false] at hst; rcases hst with rfl | rfl
        · exact absurd e (show ¬ 3 = 0 by decide)
        · exact absurd e (show ¬ 4 = 0 by decide))
      have c3 := b.at_ 3 _ rfl
      clear b
      refine .value W ?_ (Below.refl _ _)
      generalize hA : (puts ds L _).eval = ρ
      have hc : ∀ v, ρ (.const v) = v := fun v => by rw [← hA]; rfl
      have hg : ∀ g, ρ (.func g) = .func (.func g) #[] #[] := fun v => by rw [← hA]; rfl
      have h0 : ρ (.tmp 17) = .pointer (some ⟨w.heap.size, 3, none⟩) := by rw [← hA]; exact puts_get 7 ds L _ hap (by rw [hds]; rfl) (hd 7 (by decide +kernel) (by intro al hal; simp only [List.mem_cons, List.not_mem_nil, or_false] at hal; rcases hal with rfl | rfl <;> decide)) (show 17 < 35 by decide)
      clear hA hd hB ho hs ha hO
      unfold execOp
      go_simp
    · -- 9
      obtain rfl := Option.some.inj ho
      refine .value W ?_ (Below.refl _ _)
      generalize hA : (puts ds L _).eval = ρ
      have hc : ∀ v, ρ (.const v) = v := fun v => by rw [← hA]; rfl
      have hg : ∀ g, ρ (.func g) = .func (.func g) #[] #[] := fun v => by rw [← hA]; rfl
      have h0 : ρ (.tmp 16) = .float .f64 rt := by rw [← hA]; exact puts_get 6 ds L _ hap (by rw [hds]; rfl) (hd 6 (by decide +kernel) (by intro al hal; simp only [List.mem_cons, List.not_mem_nil, or_false] at hal; rcases hal with rfl | rfl <;> decide)) (show 16 < 35 by decide)
      have h1 : ρ (.tmp 18) = .float .f64 rt := by rw [← hA]; exact puts_get 8 ds L _ hap (by rw [hds]; rfl) (hd 8 (by decide +kernel) (by intro al hal; simp only [List.mem_cons, List.not_mem_nil, or_false] at hal; rcases hal with rfl | rfl <;> decide)) (show 18 < 35 by decide)
      clear hA hd hB ho hs ha hO
      unfold execOp
      go_simp
    · -- 10
      exact absurd rfl (ha _ (List.mem_cons_self ..))
    · -- 11
      exact absurd rfl (ha _ (List.mem_cons_of_mem _ (List.mem_cons_self ..)))
    · -- 12
      exact absurd rfl (hs _ (List.mem_cons_self ..))
    · -- 13
      exact absurd rfl (hs _ (List.mem_cons_of_mem _ (List.mem_cons_self ..)))
  case store =>
    intro st hst L W o h us ho hd hal hC b
    simp only [List.mem_cons, List.not_mem_nil, or_false] at hst; rcases hst with rfl | rfl
    · dsimp only at ho hd hal hC b ⊢
      obtain rfl := Option.some.inj ho
      obtain ⟨hl, rfl⟩ := hal _ (List.mem_cons_self ..) rfl
      have c0 := b.at_ 0 _ rfl
      have f0 := b.fr 0 _ rfl
      have c1 := b.at_ 1 _ rfl
      have f1 := b.fr 1 _ rfl
      refine ⟨?_, rfl⟩
      generalize hA : (puts ds L _).eval = ρ
      have h0 : ρ (.tmp 6) = .pointer (some ⟨h, 0, none⟩) := by rw [← hA]; exact puts_get 10 ds L _ hap (by rw [hds]; rfl) hl (show 6 < 35 by decide)
      have h1 : ρ (.tmp 14) = .agg #[.float .f64 ph, .float .f64 ph] := by rw [← hA]; exact puts_get 4 ds L _ hap (by rw [hds]; rfl) (hd 4 (by decide +kernel) (by intro al hal; simp only [List.mem_cons, List.not_mem_nil, or_false] at hal; rcases hal with rfl | rfl <;> decide)) (show 14 < 35 by decide)
      have hst' := @fstore
      clear hA hd b ho hal hC
      simp only [putV]
      unfold execOp
      go_simp
    · dsimp only at ho hd hal hC b ⊢
      obtain rfl := Option.some.inj ho
      obtain ⟨hl, rfl⟩ := hal _ (List.mem_cons_of_mem _ (List.mem_cons_self ..)) rfl
      have c0 := b.at_ 0 _ rfl
      have f0 := b.fr 0 _ rfl
      have c1 := b.at_ 1 _ rfl
      have f1 := b.fr 1 _ rfl
      refine ⟨?_, rfl⟩
      generalize hA : (puts ds L _).eval = ρ
      have h0 : ρ (.tmp 7) = .pointer (some ⟨h, 0, none⟩) := by rw [← hA]; exact puts_get 11 ds L _ hap (by rw [hds]; rfl) hl (show 7 < 35 by decide)
      have h1 : ρ (.tmp 19) = .agg #[.float .f64 rt, .float .f64 rt] := by rw [← hA]; exact puts_get 9 ds L _ hap (by rw [hds]; rfl) (hd 9 (by decide +kernel) (by intro al hal; simp only [List.mem_cons, List.not_mem_nil, or_false] at hal; rcases hal with rfl | rfl <;> decide)) (show 19 < 35 by decide)
      have hst' := @fstore
      clear hA hd b ho hal hC
      simp only [putV]
      unfold execOp
      go_simp
  case fin =>
    intro hf W0 K
    rw [hds]
    clear hds hap ds
    (try dsimp only at K)
    generalize hf 10 = ga at *
    generalize hf 11 = gb at *
    (try unfold ptrV)
    simp only [List.set_cons_zero, List.set_cons_succ, puts, Act.put, List.setIfInBounds_toArray]
    have c4_0 := (K.at_ 4 rfl).at_ 0 _ rfl
    have c4_1 := (K.at_ 4 rfl).at_ 1 _ rfl
    have c1_0 := (K.at_ 1 rfl).at_ 0 _ rfl
    have c1_1 := (K.at_ 1 rfl).at_ 1 _ rfl
    replace K := Lib.hid K
    go_wp2_with fail
    replace K := K.out
    refine (CM.out W0).mono ?_
    rintro _ v1 ⟨rfl, hb⟩
    clear c4_0 c4_1 c1_0 c1_1
    replace K := K.on hb
    clear hb
    replace K := K.new 31 [.float .f64 m1, .float .f64 m2]
    simp only [objV, List.cons_append, List.nil_append] at K
    have c3_0 := (K.at_ 3 rfl).at_ 0 _ rfl
    have c3_1 := (K.at_ 3 rfl).at_ 1 _ rfl
    have c5_0 := (K.at_ 5 rfl).at_ 0 _ rfl
    have c5_1 := (K.at_ 5 rfl).at_ 1 _ rfl
    replace K := Lib.hid K
    go_wp2_with fail
    replace K := K.out
    generalize v1.alloc _ = u1 at *
    generalize v1.heap.size = g1 at *
    refine (CA.out u1).mono ?_
    rintro _ v2 ⟨rfl, hb⟩
    clear c3_0 c3_1 c5_0 c5_1
    replace K := K.on hb
    clear hb
    have c2_0 := (K.at_ 2 rfl).at_ 0 _ rfl
    have f2_0 := (K.at_ 2 rfl).fr 0 _ rfl
    have c2_1 := (K.at_ 2 rfl).at_ 1 _ rfl
    have f2_1 := (K.at_ 2 rfl).fr 1 _ rfl
    replace K := Lib.hid K
    go_wp2_with fail
    replace K := K.out
    (try simp only [Exit.inBlock, Exit.then])
    refine bodyPost_ret (v := .tuple #[.agg #[.float .f64 a1, .float .f64 a2], .int .i64 k]) ?_ rfl ⟨rfl, ?_⟩
    · rw [results_cell_tmp rfl]; go_simp
    · exact ((K.old).setCell (by first | exact Nat.le_refl _ | (dsimp only; omega)) _).setCell (by first | exact Nat.le_refl _ | (dsimp only; omega)) _
set_option maxHeartbeats 4000000 in
set_option maxRecDepth 100000 in
theorem fupbox_ok {up ax : Int} {ph rt o1 o2 o3 t1 t2 a1 a2 b1 b2 b3 b4 b5 b6 y1 y2 y3 y4 y5 y6 e1 e2 e3 e4 e5 e6 q1 q2 q3 q4 q5 q6 : Nat} {k : Int} (CA : Hid (∀ w, Calls Tryz.prog 41 #[.agg #[.int .i64 up, .int .i64 ax, .float .f64 ph, .float .f64 rt, .float .f64 o1, .float .f64 o2, .float .f64 o3], .agg #[.float .f64 t1, .float .f64 t2]] w fun e w' => e = .returned (.tuple #[.agg #[.float .f64 a1, .float .f64 a2], .int .i64 0]) ∧ Below w.heap.size w w')) (CT : Hid (∀ w, Calls Tryz.prog 42 #[.int .i64 ax, .agg #[.float .f64 a1, .float .f64 a2], .agg #[.float .f64 b1, .float .f64 b2, .float .f64 b3, .float .f64 b4, .float .f64 b5, .float .f64 b6]] w fun e w' => e = .returned (.tuple #[.agg #[.float .f64 y1, .float .f64 y2, .float .f64 y3, .float .f64 y4, .float .f64 y5, .float .f64 y6], .int .i64 0]) ∧ Below w.heap.size w w')) (CO : Hid (∀ w, Calls Tryz.prog 43 #[.agg #[.float .f64 o1, .float .f64 o2, .float .f64 o3]] w fun e w' => e = .returned (.tuple #[.agg #[.float .f64 e1, .float .f64 e2, .float .f64 e3, .float .f64 e4, .float .f64 e5, .float .f64 e6], .int .i64 0]) ∧ Below w.heap.size w w')) (CD : Hid (∀ w, Calls Tryz.prog 22 #[.agg #[.float .f64 e1, .float .f64 e2, .float .f64 e3, .float .f64 e4, .float .f64 e5, .float .f64 e6], .agg #[.float .f64 y1, .float .f64 y2, .float .f64 y3, .float .f64 y4, .float .f64 y5, .float .f64 y6]] w fun e w' => e = .returned (.tuple #[.agg #[.float .f64 q1, .float .f64 q2, .float .f64 q3, .float .f64 q4, .float .f64 q5, .float .f64 q6], .int .i64 k]) ∧ Below w.heap.size w w')) (w : World) : Calls Tryz.prog 23 #[.agg #[.int .i64 up, .int .i64 ax, .float .f64 ph, .float .f64 rt, .float .f64 o1, .float .f64 o2, .float .f64 o3], .agg #[.float .f64 t1, .float .f64 t2], .agg #[.float .f64 b1, .float .f64 b2, .float .f64 b3, .float .f64 b4, .float .f64 b5, .float .f64 b6]] w fun e w' => e = .returned (.tuple #[.agg #[.float .f64 q1, .float .f64 q2, .float .f64 q3, .float .f64 q4, .float .f64 q5, .float .f64 q6], .int .i64 k]) ∧ Below w.heap.size w w' := by
  have K0 := kv4 w 49 31 33 33 [.int .i64 up, .int .i64 ax, .float .f64 ph, .float .f64 rt, .float .f64 o1, .float .f64 o2, .float .f64 o3] [.float .f64 t1, .float .f64 t2] [.float .f64 b1, .float .f64 b2, .float .f64 b3, .float .f64 b4, .float .f64 b5, .float .f64 b6] [.float .f64 0, .float .f64 0, .float .f64 0, .float .f64 0, .float .f64 0, .float .f64 0]
  simp only [objV] at K0
  have hst := @fstore
  replace K0 := Lib.hid K0
  go_enter Tryz.func23, Tryz.ntmps23
  go_wp2_with fail
  have K := K0.out
  clear K0
  generalize (((w.alloc _).alloc _).alloc _).alloc _ = wr at *
  refine (CA.out wr).mono ?_
  rintro _ v1 ⟨rfl, hb⟩
  replace K := K.on hb
  clear hb
  replace K := K.new 31 [.float .f64 a1, .float .f64 a2]
  simp only [objV, List.cons_append, List.nil_append] at K
  have c0_1 := (K.at_ 0 rfl).at_ 1 _ rfl
  have c4_0 := (K.at_ 4 rfl).at_ 0 _ rfl
  have c4_1 := (K.at_ 4 rfl).at_ 1 _ rfl
  have c2_0 := (K.at_ 2 rfl).at_ 0 _ rfl
  have c2_1 := (K.at_ 2 rfl).at_ 1 _ rfl
  have c2_2 := (K.at_ 2 rfl).at_ 2 _ rfl
  have c2_3 := (K.at_ 2 rfl).at_ 3 _ rfl
  have c2_4 := (K.at_ 2 rfl).at_ 4 _ rfl
  have c2_5 := (K.at_ 2 rfl).at_ 5 _ rfl
  replace K := Lib.hid K
  go_wp2_with fail
  replace K := K.out
  generalize v1.alloc _ = u1 at *
  generalize v1.heap.size = g1 at *
  refine (CT.out u1).mono ?_
  rintro _ v2 ⟨rfl, hb⟩
  clear c0_1 c4_0 c4_1 c2_0 c2_1 c2_2 c2_3 c2_4 c2_5
  replace K := K.on hb
  clear hb
  replace K := K.new 33 [.float .f64 y1, .float .f64 y2, .float .f64 y3, .float .f64 y4, .float .f64 y5, .float .f64 y6]
  simp only [objV, List.cons_append, List.nil_append] at K
  have c0_4 := (K.at_ 0 rfl).at_ 4 _ rfl
  have c0_5 := (K.at_ 0 rfl).at_ 5 _ rfl
  have c0_6 := (K.at_ 0 rfl).at_ 6 _ rfl
  replace K := Lib.hid K
  go_wp2_with fail
  replace K := K.out
  generalize v2.alloc _ = u2 at *
  generalize v2.heap.size = g2 at *
  refine (CO.out u2).mono ?_
  rintro _ v3 ⟨rfl, hb⟩
  clear c0_4 c0_5 c0_6
  replace K := K.on hb
  clear hb
  replace K := K.new 33 [.float .f64 e1, .float .f64 e2, .float .f64 e3, .float .f64 e4, .float .f64 e5, .float .f64 e6]
  simp only [objV, List.cons_append, List.nil_append] at K
  have c6_0 := (K.at_ 6 rfl).at_ 0 _ rfl
  have c6_1 := (K.at_ 6 rfl).at_ 1 _ rfl
  have c6_2 := (K.at_ 6 rfl).at_ 2 _ rfl
  have c6_3 := (K.at_ 6 rfl).at_ 3 _ rfl
  have c6_4 := (K.at_ 6 rfl).at_ 4 _ rfl
  have c6_5 := (K.at_ 6 rfl).at_ 5 _ rfl
  have c5_0 := (K.at_ 5 rfl).at_ 0 _ rfl
  have c5_1 := (K.at_ 5 rfl).at_ 1 _ rfl
  have c5_2 := (K.at_ 5 rfl).at_ 2 _ rfl
  have c5_3 := (K.at_ 5 rfl).at_ 3 _ rfl
  have c5_4 := (K.at_ 5 rfl).at_ 4 _ rfl
  have c5_5 := (K.at_ 5 rfl).at_ 5 _ rfl
  replace K := Lib.hid K
  go_wp2_with fail
  replace K := K.out
  generalize v3.alloc _ = u3 at *
  generalize v3.heap.size = g3 at *
  refine (CD.out u3).mono ?_
  rintro _ v4 ⟨rfl, hb⟩
  clear c6_0 c6_1 c6_2 c6_3 c6_4 c6_5 c5_0 c5_1 c5_2 c5_3 c5_4 c5_5
  replace K := K.on hb
  clear hb
  have c3_0 := (K.at_ 3 rfl).at_ 0 _ rfl
  have f3_0 := (K.at_ 3 rfl).fr 0 _ rfl
  have c3_1 := (K.at_ 3 rfl).at_ 1 _ rfl
  have f3_1 := (K.at_ 3 rfl).fr 1 _ rfl
  have c3_2 := (K.at_ 3 rfl).at_ 2 _ rfl
  have f3_2 := (K.at_ 3 rfl).fr 2 _ rfl
  have c3_3 := (K.at_ 3 rfl).at_ 3 _ rfl
  have f3_3 := (K.at_ 3 rfl).fr 3 _ rfl
  have c3_4 := (K.at_ 3 rfl).at_ 4 _ rfl
  have f3_4 := (K.at_ 3 rfl).fr 4 _ rfl
  have c3_5 := (K.at_ 3 rfl).at_ 5 _ rfl
  have f3_5 := (K.at_ 3 rfl).fr 5 _ rfl
  replace K := Lib.hid K
  go_wp2_with fail
  replace K := K.out
  (try simp only [Exit.inBlock, Exit.then])
  refine bodyPost_ret (v := .tuple #[.agg #[.float .f64 q1, .float .f64 q2, .float .f64 q3, .float .f64 q4, .float .f64 q5, .float .f64 q6], .int .i64 k]) ?_ rfl ⟨rfl, ?_⟩
  · rw [results_cell_tmp rfl]; go_simp
  · exact ((((((K.old).setCell (by first | exact Nat.le_refl _ | (dsimp only; omega)) _).setCell (by first | exact Nat.le_refl _ | (dsimp only; omega)) _).setCell (by first | exact Nat.le_refl _ | (dsimp only; omega)) _).setCell (by first | exact Nat.le_refl _ | (dsimp only; omega)) _).setCell (by first | exact Nat.le_refl _ | (dsimp only; omega)) _).setCell (by first | exact Nat.le_refl _ | (dsimp only; omega)) _
set_option maxHeartbeats 4000000 in
set_option maxRecDepth 100000 in
theorem fupbox_no {up ax : Int} {ph rt o1 o2 o3 t1 t2 a1 a2 b1 b2 b3 b4 b5 b6 y1 y2 y3 y4 y5 y6  : Nat} {k : Int} (t : (k != 0) = true) (CA : Hid (∀ w, Calls Tryz.prog 41 #[.agg #[.int .i64 up, .int .i64 ax, .float .f64 ph, .float .f64 rt, .float .f64 o1, .float .f64 o2, .float .f64 o3], .agg #[.float .f64 t1, .float .f64 t2]] w fun e w' => e = .returned (.tuple #[.agg #[.float .f64 a1, .float .f64 a2], .int .i64 0]) ∧ Below w.heap.size w w')) (CT : Hid (∀ w, Calls Tryz.prog 42 #[.int .i64 ax, .agg #[.float .f64 a1, .float .f64 a2], .agg #[.float .f64 b1, .float .f64 b2, .float .f64 b3, .float .f64 b4, .float .f64 b5, .float .f64 b6]] w fun e w' => e = .returned (.tuple #[.agg #[.float .f64 y1, .float .f64 y2, .float .f64 y3, .float .f64 y4, .float .f64 y5, .float .f64 y6], .int .i64 k]) ∧ Below w.heap.size w w')) (w : World) : Calls Tryz.prog 23 #[.agg #[.int .i64 up, .int .i64 ax, .float .f64 ph, .float .f64 rt, .float .f64 o1, .float .f64 o2, .float .f64 o3], .agg #[.float .f64 t1, .float .f64 t2], .agg #[.float .f64 b1, .float .f64 b2, .float .f64 b3, .float .f64 b4, .float .f64 b5, .float .f64 b6]] w fun e w' => e = .returned (.tuple #[.agg #[.float .f64 0, .float .f64 0, .float .f64 0, .float .f64 0, .float .f64 0, .float .f64 0], .int .i64 k]) ∧ Below w.heap.size w w' := by
  have K0 := kv4 w 49 31 33 33 [.int .i64 up, .int .i64 ax, .float .f64 ph, .float .f64 rt, .float .f64 o1, .float .f64 o2, .float .f64 o3] [.float .f64 t1, .float .f64 t2] [.float .f64 b1, .float .f64 b2, .float .f64 b3, .float .f64 b4, .float .f64 b5, .float .f64 b6] [.float .f64 0, .float .f64 0, .float .f64 0, .float .f64 0, .float .f64 0, .float .f64 0]
  simp only [objV] at K0
  have hst := @fstore
  replace K0 := Lib.hid K0
  go_enter Tryz.func23, Tryz.ntmps23
  go_wp2_with fail
  have K := K0.out
  clear K0
  generalize (((w.alloc _).alloc _).alloc _).alloc _ = wr at *
  refine (CA.out wr).mono ?_
  rintro _ v1 ⟨rfl, hb⟩
  replace K := K.on hb
  clear hb
  replace K := K.new 31 [.float .f64 a1, .float .f64 a2]
  simp only [objV, List.cons_append, List.nil_append] at K
  have c0_1 := (K.at_ 0 rfl).at_ 1 _ rfl
  have c4_0 := (K.at_ 4 rfl).at_ 0 _ rfl
  have c4_1 := (K.at_ 4 rfl).at_ 1 _ rfl
  have c2_0 := (K.at_ 2 rfl).at_ 0 _ rfl
  have c2_1 := (K.at_ 2 rfl).at_ 1 _ rfl
  have c2_2 := (K.at_ 2 rfl).at_ 2 _ rfl
  have c2_3 := (K.at_ 2 rfl).at_ 3 _ rfl
  have c2_4 := (K.at_ 2 rfl).at_ 4 _ rfl
  have c2_5 := (K.at_ 2 rfl).at_ 5 _ rfl
  replace K := Lib.hid K
  go_wp2_with fail
  replace K := K.out
  generalize v1.alloc _ = u1 at *
  generalize v1.heap.size = g1 at *
  refine (CT.out u1).mono ?_
  rintro _ v2 ⟨rfl, hb⟩
  clear c0_1 c4_0 c4_1 c2_0 c2_1 c2_2 c2_3 c2_4 c2_5
  replace K := K.on hb
  clear hb
  replace K := K.new 33 [.float .f64 y1, .float .f64 y2, .float .f64 y3, .float .f64 y4, .float .f64 y5, .float .f64 y6]
  simp only [objV, List.cons_append, List.nil_append] at K
  have c3_0 := (K.at_ 3 rfl).at_ 0 _ rfl
  have f3_0 := (K.at_ 3 rfl).fr 0 _ rfl
  have c3_1 := (K.at_ 3 rfl).at_ 1 _ rfl
  have f3_1 := (K.at_ 3 rfl).fr 1 _ rfl
  have c3_2 := (K.at_ 3 rfl).at_ 2 _ rfl
  have f3_2 := (K.at_ 3 rfl).fr 2 _ rfl
  have c3_3 := (K.at_ 3 rfl).at_ 3 _ rfl
  have f3_3 := (K.at_ 3 rfl).fr 3 _ rfl
  have c3_4 := (K.at_ 3 rfl).at_ 4 _ rfl
  have f3_4 := (K.at_ 3 rfl).fr 4 _ rfl
  have c3_5 := (K.at_ 3 rfl).at_ 5 _ rfl
  have f3_5 := (K.at_ 3 rfl).fr 5 _ rfl
  replace K := Lib.hid K
  go_wp2_with fail
  replace K := K.out
  (try simp only [Exit.inBlock, Exit.then])
  refine bodyPost_ret (v := .tuple #[.agg #[.float .f64 0, .float .f64 0, .float .f64 0, .float .f64 0, .float .f64 0, .float .f64 0], .int .i64 k]) ?_ rfl ⟨rfl, ?_⟩
  · rw [results_cell_tmp rfl]; go_simp
  · exact ((((((K.old).setCell (by first | exact Nat.le_refl _ | (dsimp only; omega)) _).setCell (by first | exact Nat.le_refl _ | (dsimp only; omega)) _).setCell (by first | exact Nat.le_refl _ | (dsimp only; omega)) _).setCell (by first | exact Nat.le_refl _ | (dsimp only; omega)) _).setCell (by first | exact Nat.le_refl _ | (dsimp only; omega)) _).setCell (by first | exact Nat.le_refl _ | (dsimp only; omega)) _
set_option maxHeartbeats 4000000 in
set_option maxRecDepth 100000 in
theorem vboxturn_nx {a : Int} {p1 p2 b1 b2 b3 b4 b5 b6 s1 s2 c1 c2 : Nat} {k : Int} (t : (k != 0) = true) (C0 : Hid (∀ w, Calls Tryz.prog 53 #[.int .i64 a] w fun e w' => e = .returned (.bool true) ∧ Below w.heap.size w w')) (C1 : Hid (∀ w, Calls Tryz.prog 63 #[.agg #[.float .f64 p1, .float .f64 p2]] w fun e w' => e = .returned (.tuple #[.agg #[.float .f64 s1, .float .f64 s2], .agg #[.float .f64 c1, .float .f64 c2], .int .i64 k]) ∧ Below w.heap.size w w')) (w : World) : Calls Tryz.prog 42 #[.int .i64 a, .agg #[.float .f64 p1, .float .f64 p2], .agg #[.float .f64 b1, .float .f64 b2, .float .f64 b3, .float .f64 b4, .float .f64 b5, .float .f64 b6]] w fun e w' => e = .returned (.tuple #[.agg #[.float .f64 0, .float .f64 0, .float .f64 0, .float .f64 0, .float .f64 0, .float .f64 0], .int .i64 k]) ∧ Below w.heap.size w w' := by
  have K0 := kv3 w 31 33 33 [.float .f64 p1, .float .f64 p2] [.float .f64 b1, .float .f64 b2, .float .f64 b3, .float .f64 b4, .float .f64 b5, .float .f64 b6] [.float .f64 0, .float .f64 0, .float .f64 0, .float .f64 0, .float .f64 0, .float .f64 0]
  simp only [objV] at K0
  have hst := @fstore
  replace K0 := Lib.hid K0
  go_enter Tryz.func42, Tryz.ntmps42
  go_wp2_with fail
  have K := K0.out
  clear K0
  generalize ((w.alloc _).alloc _).alloc _ = wr at *
  refine (C0.out wr).mono ?_
  rintro _ v1 ⟨rfl, hb⟩
  replace K := K.on hb
  clear hb
  have c0_0 := (K.at_ 0 rfl).at_ 0 _ rfl
  have c0_1 := (K.at_ 0 rfl).at_ 1 _ rfl
  replace K := Lib.hid K
  go_wp2_with fail
  replace K := K.out
  refine (C1.out v1).mono ?_
  rintro _ v2 ⟨rfl, hb⟩
  clear c0_0 c0_1
  replace K := K.on hb
  clear hb
  replace K := K.new 31 [.float .f64 s1, .float .f64 s2]
  replace K := K.and (n := v2.heap.size + 1) (by simp) 31 [.float .f64 c1, .float .f64 c2]
  simp only [objV, List.cons_append, List.nil_append] at K
  have c2_0 := (K.at_ 2 rfl).at_ 0 _ rfl
  have f2_0 := (K.at_ 2 rfl).fr 0 _ rfl
  have c2_1 := (K.at_ 2 rfl).at_ 1 _ rfl
  have f2_1 := (K.at_ 2 rfl).fr 1 _ rfl
  have c2_2 := (K.at_ 2 rfl).at_ 2 _ rfl
  have f2_2 := (K.at_ 2 rfl).fr 2 _ rfl
  have c2_3 := (K.at_ 2 rfl).at_ 3 _ rfl
  have f2_3 := (K.at_ 2 rfl).fr 3 _ rfl
  have c2_4 := (K.at_ 2 rfl).at_ 4 _ rfl
  have f2_4 := (K.at_ 2 rfl).fr 4 _ rfl
  have c2_5 := (K.at_ 2 rfl).at_ 5 _ rfl
  have f2_5 := (K.at_ 2 rfl).fr 5 _ rfl
  replace K := Lib.hid K
  go_wp2_with fail
  replace K := K.out
  (try simp only [Exit.inBlock, Exit.then])
  refine bodyPost_ret (v := .tuple #[.agg #[.float .f64 0, .float .f64 0, .float .f64 0, .float .f64 0, .float .f64 0, .float .f64 0], .int .i64 k]) ?_ rfl ⟨rfl, ?_⟩
  · rw [results_cell_tmp rfl]; go_simp
  · exact ((((((K.old).setCell (by first | exact Nat.le_refl _ | (dsimp only; omega)) _).setCell (by first | exact Nat.le_refl _ | (dsimp only; omega)) _).setCell (by first | exact Nat.le_refl _ | (dsimp only; omega)) _).setCell (by first | exact Nat.le_refl _ | (dsimp only; omega)) _).setCell (by first | exact Nat.le_refl _ | (dsimp only; omega)) _).setCell (by first | exact Nat.le_refl _ | (dsimp only; omega)) _
set_option maxHeartbeats 4000000 in
set_option maxRecDepth 100000 in
theorem vboxturn_nb {a : Int} {p1 p2 b1 b2 b3 b4 b5 b6 s1 s2 c1 c2 : Nat} (C0 : Hid (∀ w, Calls Tryz.prog 53 #[.int .i64 a] w fun e w' => e = .returned (.bool true) ∧ Below w.heap.size w w')) (C1 : Hid (∀ w, Calls Tryz.prog 63 #[.agg #[.float .f64 p1, .float .f64 p2]] w fun e w' => e = .returned (.tuple #[.agg #[.float .f64 s1, .float .f64 s2], .agg #[.float .f64 c1, .float .f64 c2], .int .i64 0]) ∧ Below w.heap.size w w')) (C2 : Hid (∀ w, Calls Tryz.prog 64 #[.agg #[.float .f64 b1, .float .f64 b2, .float .f64 b3, .float .f64 b4, .float .f64 b5, .float .f64 b6]] w fun e w' => e = .returned (.bool false) ∧ Below w.heap.size w w')) (w : World) : Calls Tryz.prog 42 #[.int .i64 a, .agg #[.float .f64 p1, .float .f64 p2], .agg #[.float .f64 b1, .float .f64 b2, .float .f64 b3, .float .f64 b4, .float .f64 b5, .float .f64 b6]] w fun e w' => e = .returned (.tuple #[.agg #[.float .f64 0, .float .f64 0, .float .f64 0, .float .f64 0, .float .f64 0, .float .f64 0], .int .i64 3]) ∧ Below w.heap.size w w' := by
  have K0 := kv3 w 31 33 33 [.float .f64 p1, .float .f64 p2] [.float .f64 b1, .float .f64 b2, .float .f64 b3, .float .f64 b4, .float .f64 b5, .float .f64 b6] [.float .f64 0, .float .f64 0, .float .f64 0, .float .f64 0, .float .f64 0, .float .f64 0]
  simp only [objV] at K0
  have hst := @fstore
  replace K0 := Lib.hid K0
  go_enter Tryz.func42, Tryz.ntmps42
  go_wp2_with fail
  have K := K0.out
  clear K0
  generalize ((w.alloc _).alloc _).alloc _ = wr at *
  refine (C0.out wr).mono ?_
  rintro _ v1 ⟨rfl, hb⟩
  replace K := K.on hb
  clear hb
  have c0_0 := (K.at_ 0 rfl).at_ 0 _ rfl
  have c0_1 := (K.at_ 0 rfl).at_ 1 _ rfl
  replace K := Lib.hid K
  go_wp2_with fail
  replace K := K.out
  refine (C1.out v1).mono ?_
  rintro _ v2 ⟨rfl, hb⟩
  clear c0_0 c0_1
  replace K := K.on hb
  clear hb
  replace K := K.new 31 [.float .f64 s1, .float .f64 s2]
  replace K := K.and (n := v2.heap.size + 1) (by simp) 31 [.float .f64 c1, .float .f64 c2]
  simp only [objV, List.cons_append, List.nil_append] at K
  have c1_0 := (K.at_ 1 rfl).at_ 0 _ rfl
  have c1_1 := (K.at_ 1 rfl).at_ 1 _ rfl
  have c1_2 := (K.at_ 1 rfl).at_ 2 _ rfl
  have c1_3 := (K.at_ 1 rfl).at_ 3 _ rfl
  have c1_4 := (K.at_ 1 rfl).at_ 4 _ rfl
  have c1_5 := (K.at_ 1 rfl).at_ 5 _ rfl
  replace K := Lib.hid K
  go_wp2_with fail
  replace K := K.out
  generalize (v2.alloc _).alloc _ = u2 at *
  generalize v2.heap.size = g1 at *
  refine (C2.out u2).mono ?_
  rintro _ v3 ⟨rfl, hb⟩
  clear c1_0 c1_1 c1_2 c1_3 c1_4 c1_5
  replace K := K.on hb
  clear hb
  have c2_0 := (K.at_ 2 rfl).at_ 0 _ rfl
  have f2_0 := (K.at_ 2 rfl).fr 0 _ rfl
  have c2_1 := (K.at_ 2 rfl).at_ 1 _ rfl
  have f2_1 := (K.at_ 2 rfl).fr 1 _ rfl
  have c2_2 := (K.at_ 2 rfl).at_ 2 _ rfl
  have f2_2 := (K.at_ 2 rfl).fr 2 _ rfl
  have c2_3 := (K.at_ 2 rfl).at_ 3 _ rfl
  have f2_3 := (K.at_ 2 rfl).fr 3 _ rfl
  have c2_4 := (K.at_ 2 rfl).at_ 4 _ rfl
  have f2_4 := (K.at_ 2 rfl).fr 4 _ rfl
  have c2_5 := (K.at_ 2 rfl).at_ 5 _ rfl
  have f2_5 := (K.at_ 2 rfl).fr 5 _ rfl
  replace K := Lib.hid K
  go_wp2_with fail
  replace K := K.out
  (try simp only [Exit.inBlock, Exit.then])
  refine bodyPost_ret (v := .tuple #[.agg #[.float .f64 0, .float .f64 0, .float .f64 0, .float .f64 0, .float .f64 0, .float .f64 0], .int .i64 3]) ?_ rfl ⟨rfl, ?_⟩
  · rw [results_cell_tmp rfl]; go_simp
  · exact ((((((K.old).setCell (by first | exact Nat.le_refl _ | (dsimp only; omega)) _).setCell (by first | exact Nat.le_refl _ | (dsimp only; omega)) _).setCell (by first | exact Nat.le_refl _ | (dsimp only; omega)) _).setCell (by first | exact Nat.le_refl _ | (dsimp only; omega)) _).setCell (by first | exact Nat.le_refl _ | (dsimp only; omega)) _).setCell (by first | exact Nat.le_refl _ | (dsimp only; omega)) _
end Go.Proofs.YtgblpibanagcgaaGreat
