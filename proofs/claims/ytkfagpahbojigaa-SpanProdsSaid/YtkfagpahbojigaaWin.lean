/- Proved here: what the laws' within answers (an exact number between two ends), over the translated code. -/
import Derived.Test.YtkfagpahbojigaaAcv
import Derived.Test.YtkfagpahbojigaaRop
import Derived.Test.YtkfagpahbojigaaCor
import Derived.BigQuiet
import Derived.Deep.CutRange
import Derived.Deep.RegionHeld3
namespace Go.Proofs.Ytkfagpahbojigaa
open Go.ChangeShapes Go.WideShapes Go.ChangeAt Go.RowKit Ieee.Own

theorem Still.setCells {b : Nat} : ∀ (vs : List Value) (o : Nat) {u w : World}, Still b u w → Still b u (w.setCells b o vs)
  | [], _, _, _, h => h
  | v :: r, o, u, w, h => by
    rw [World.setCells]
    exact Still.setCells r (o + 1) (h.setCell (p := ⟨b, o, none⟩) rfl v)
theorem Holds.there {b : Nat} {w : World} {z : Int} {ws : Nat → Nat} (H : Holds b w z ws) : w.there b 0 24 := fun j hj => by
  rw [Nat.zero_add]; exact ⟨by rw [H.cell j hj]; rfl, H.free j hj⟩
theorem Sums.stored {ws : Nat → Nat} {z : Int} (S : Sums ws z) {b : Nat} {w : World} (ht : w.there b 0 24) (hb : b < w.heap.size) : Holds b (w.setCells b 0 (arrW ws)) z ws := by
  have r := World.rangeAt_setCells_same w b 0 (arrW ws) (there_len ht ws)
  refine ⟨S.lt, ?_, fun i hi => ?_, fun i hi => ?_, S.val⟩
  · have := (Still.setCells (arrW ws) 0 (Still.refl b w)).1.size; omega
  · have := r i _ (arrW_at ws hi); rw [Nat.zero_add] at this; exact this
  · rw [World.frozen?_setCells]; have := (ht i hi).2; rw [Nat.zero_add] at this; exact this
theorem Env.copy {w0 w : World} {L : List (Nat × Nat × Nat)} {A : List (Nat × Int)} (E : Env w0 L A w) (j : Nat) {k : Nat} {z z' : Int} (hj : A[j]? = some (k, z)) {ws : Nat → Nat} (S : Sums ws z') : Env w0 L (A.set j (k, z')) (w.setCells k 0 (arrW ws)) := by
  obtain ⟨-, ns, H⟩ := E.acc j k z hj
  exact E.add j hj ⟨ws, S.stored H.there H.size⟩ (Still.setCells (arrW ws) 0 (Still.refl k w))
theorem Env.there {w0 w : World} {L : List (Nat × Nat × Nat)} {A : List (Nat × Int)} (E : Env w0 L A w) (j : Nat) {k : Nat} {z : Int} (hj : A[j]? = some (k, z)) : w.there k 0 24 := by
  obtain ⟨-, ns, H⟩ := E.acc j k z hj
  exact H.there
/-! ### the region that copies the long sum into two variables, in whatever order -/
def ptr (g : Nat) : Value := .pointer (some ⟨g, 0, none⟩)
theorem ptr_inj {g h : Nat} (e : ptr g = ptr h) : g = h := by
  unfold ptr at e
  simp only [Value.pointer.injEq, Option.some.injEq, Addr.mk.injEq] at e
  exact e.1
def done4 (L : List (Option Value)) (i : Nat) (z : Int) : Int := if (L[4 + i]?.getD none).isSome then z else 0
structure WinR (w : World) (LS : List (Nat × Nat × Nat)) (a0 : Nat) (z : Int) (ws : Nat → Nat) (L : List (Option Value)) (wx : World) : Prop where
  det : ∀ (i : Nat) (v : Value), i < 2 → L[i]? = some (some v) → v = .agg (arrW ws).toArray
  ord : ∀ i : Nat, i < 2 → L[2 + i]? = some none → ∀ o : Value, L[4 + i]? ≠ some (some o)
  env : ∃ A, Env w LS A wx ∧ A[0]? = some (a0, z) ∧ (∀ i : Nat, i < 2 → ∀ v : Value, L[2 + i]? = some (some v) → ∃ g j, v = ptr g ∧ 0 < j ∧ A[j]? = some (g, done4 L i z))
  ne : ∀ v u : Value, L[2]? = some (some v) → L[3]? = some (some u) → v ≠ u
section
variable {w : World} {LS : List (Nat × Nat × Nat)} {a0 : Nat} {z : Int} {ws : Nat → Nat} {L : List (Option Value)} {wx : World}
theorem WinR.load (H : WinR w LS a0 z ws L wx) {i : Nat} (hi : i < 2) : WinR w LS a0 z ws (L.set i (some (.agg (arrW ws).toArray))) wx := by
  have d4 : ∀ k, done4 (L.set i (some (.agg (arrW ws).toArray))) k z = done4 L k z := fun k => by unfold done4; rw [List.getElem?_set_ne (by omega)]
  refine ⟨fun k v hk hv => ?_, fun k hk => ?_, ?_, ?_⟩
  · by_cases e : i = k
    · subst e
      by_cases hl : i < L.length
      · rw [List.getElem?_set_self hl] at hv; exact (Option.some.inj (Option.some.inj hv)).symm
      · rw [List.getElem?_eq_none (by simp; omega)] at hv; simp at hv
    · rw [List.getElem?_set_ne e] at hv; exact H.det k v hk hv
  · rw [List.getElem?_set_ne (by omega), List.getElem?_set_ne (by omega)]; exact H.ord k hk
  · obtain ⟨A, E, h0, hA⟩ := H.env
    refine ⟨A, E, h0, fun k hk v hv => ?_⟩
    rw [List.getElem?_set_ne (by omega)] at hv
    rw [d4]
    exact hA k hk v hv
  · rw [List.getElem?_set_ne (by omega), List.getElem?_set_ne (by omega)]; exact H.ne
theorem WinR.alloc (H : WinR w LS a0 z ws L wx) {i : Nat} (hi : i < 2) (hn : L[2 + i]? = some none) : WinR w LS a0 z ws (L.set (2 + i) (some (ptr wx.heap.size))) (wx.alloc zAcc) := by
  have hl : 2 + i < L.length := (List.getElem?_eq_some_iff.1 hn).1
  have d4 : ∀ k, done4 (L.set (2 + i) (some (ptr wx.heap.size))) k z = done4 L k z := fun k => by unfold done4; by_cases e : 2 + i = 4 + k; omega; rw [List.getElem?_set_ne e]
  have d0 : done4 L i z = 0 := by
    unfold done4
    have := H.ord i hi hn
    cases hc : L[4 + i]? with
    | none => simp
    | some o => cases o with
      | none => simp
      | some v => exact absurd hc (this v)
  obtain ⟨A, E, h0, hA⟩ := H.env
  have old : ∀ k, k < 2 → ∀ v, L[2 + k]? = some (some v) → v ≠ ptr wx.heap.size := fun k hk v hv e => by
    obtain ⟨g, j, rfl, -, hj⟩ := hA k hk v hv
    obtain ⟨-, ns, HH⟩ := E.acc j g _ hj
    have := HH.size
    have := ptr_inj e
    omega
  have hlen : 0 < A.length := (List.getElem?_eq_some_iff.1 h0).1
  refine ⟨fun k v hk hv => ?_, fun k hk hk2 o => ?_, ⟨A ++ [(wx.heap.size, 0)], E.zero, by rw [List.getElem?_append_left hlen]; exact h0, fun k hk v hv => ?_⟩, fun v u hv hu => ?_⟩
  · rw [List.getElem?_set_ne (by omega)] at hv; exact H.det k v hk hv
  · by_cases e : i = k
    · subst e
      rw [List.getElem?_set_self hl] at hk2
      simp at hk2
    · rw [List.getElem?_set_ne (by omega)] at hk2
      rw [List.getElem?_set_ne (by omega)]
      exact H.ord k hk hk2 o
  · rw [d4]
    by_cases e : i = k
    · subst e
      rw [List.getElem?_set_self hl] at hv
      rw [d0]
      exact ⟨wx.heap.size, A.length, (Option.some.inj (Option.some.inj hv)).symm, hlen, by simp⟩
    · rw [List.getElem?_set_ne (by omega)] at hv
      obtain ⟨g, j, e1, e2, e3⟩ := hA k hk v hv
      exact ⟨g, j, e1, e2, by rw [List.getElem?_append_left (List.getElem?_eq_some_iff.1 e3).1]; exact e3⟩
  · have hc : i = 0 ∨ i = 1 := by omega
    rcases hc with rfl | rfl
    · rw [List.getElem?_set_self hl] at hv
      rw [List.getElem?_set_ne (by omega)] at hu
      rw [← Option.some.inj (Option.some.inj hv)]
      exact fun e => old 1 (by omega) u hu e.symm
    · rw [List.getElem?_set_ne (by omega)] at hv
      rw [List.getElem?_set_self hl] at hu
      rw [← Option.some.inj (Option.some.inj hu)]
      exact old 0 (by omega) v hv
theorem WinR.store (H : WinR w LS a0 z ws L wx) (S : Sums ws z) {i g : Nat} {o : Value} (hi : i < 2) (hn : L[4 + i]? = some none) (hv : L[2 + i]? = some (some (ptr g))) : WinR w LS a0 z ws (L.set (4 + i) (some o)) (wx.setCells g 0 (arrW ws)) ∧ wx.there g 0 24 ∧ a0 ≠ g := by
  have hl : 4 + i < L.length := (List.getElem?_eq_some_iff.1 hn).1
  obtain ⟨A, E, h0, hA⟩ := H.env
  obtain ⟨g', j, e1, e2, e3⟩ := hA i hi _ hv
  obtain rfl := ptr_inj e1
  refine ⟨⟨fun k v hk hv => ?_, fun k hk hk2 o => ?_, ⟨A.set j (g, z), E.copy j e3 S, by rw [List.getElem?_set_ne (by omega)]; exact h0, fun k hk v hv2 => ?_⟩, ?_⟩, E.there j e3, fun e => by subst e; have := E.inj 0 j _ _ _ h0 e3; omega⟩
  · rw [List.getElem?_set_ne (by omega)] at hv; exact H.det k v hk hv
  · rw [List.getElem?_set_ne (by omega)] at hk2
    by_cases e : i = k
    · subst e
      rw [hv] at hk2
      simp at hk2
    · rw [List.getElem?_set_ne (by omega)]; exact H.ord k hk hk2 o
  · rw [List.getElem?_set_ne (by omega)] at hv2
    have hjl : j < A.length := (List.getElem?_eq_some_iff.1 e3).1
    by_cases e : i = k
    · subst e
      rw [hv] at hv2
      refine ⟨g, j, (Option.some.inj (Option.some.inj hv2)).symm, e2, ?_⟩
      rw [List.getElem?_set_self hjl]
      unfold done4
      rw [List.getElem?_set_self hl]
      rfl
    · obtain ⟨h, m, x1, x2, x3⟩ := hA k hk v hv2
      have hne : ptr g ≠ v := by
        have hc : (i = 0 ∧ k = 1) ∨ (i = 1 ∧ k = 0) := by omega
        rcases hc with ⟨rfl, rfl⟩ | ⟨rfl, rfl⟩
        · exact H.ne _ _ hv hv2
        · exact (H.ne _ _ hv2 hv).symm
      refine ⟨h, m, x1, x2, ?_⟩
      have hjm : j ≠ m := fun ee => by
        subst ee
        rw [e3] at x3
        have := (Prod.mk.inj (Option.some.inj x3)).1
        rw [x1, this] at hne
        exact hne rfl
      rw [List.getElem?_set_ne hjm]
      have d4 : done4 (L.set (4 + i) (some o)) k z = done4 L k z := by unfold done4; rw [List.getElem?_set_ne (by omega)]
      rw [d4]
      exact x3
  · rw [List.getElem?_set_ne (by omega), List.getElem?_set_ne (by omega)]; exact H.ne
end
theorem ex_load_acc {ρ : Operand → Value} {o : Oper} {x : Operand} {b : Nat} {w : World} {ws : Nat → Nat} (ho : o.op = .load 36 x) (h : ρ x = ptr b) (hr : w.rangeAt b 0 (arrW ws)) : (execOp ρ o).run Try.prog w = .ok (.value (.agg (arrW ws).toArray)) w := by
  have := run_loadAt_mid (P := Try.prog) w b 0 36 (arrW ws) _ hr Try.underlying36 rfl (by rw [arrW_len]; exact sizeAcc)
  unfold execOp; rw [ho]; simp only [h]; unfold ptr; simp [this]
theorem ex_alloc_acc {ρ : Operand → Value} {o : Oper} (w : World) (ho : o.op = .alloc 36) : (execOp ρ o).run Try.prog w = .ok (.value (ptr w.heap.size)) (w.alloc zAcc) := by
  unfold execOp zAcc ptr; rw [ho]; go_simp
theorem ex_store_acc {ρ : Operand → Value} {o : Oper} {x y : Operand} {b : Nat} {w : World} {ws : Nat → Nat} (ho : o.op = .store 36 x y) (h : ρ x = ptr b) (h1 : ρ y = .agg (arrW ws).toArray) (ht : w.there b 0 24) : (execOp ρ o).run Try.prog w = .ok .skip (w.setCells b 0 (arrW ws)) := by
  have := run_storeAt_mid (P := Try.prog) w b 0 36 (arrW ws).toArray (by simpa [arrW_len] using ht) (by simp [arrW_len, sizeAcc]) (arrW_one ws)
  unfold execOp; rw [ho]; simp only [h, h1]; unfold ptr; simp [this]
theorem add_bound {x y : Int} {a b c : Nat} (hx : x.natAbs ≤ 2 ^ a) (hy : y.natAbs ≤ 2 ^ b) (h1 : a + 1 < c) (h2 : b + 1 < c) : (x + y).natAbs < 2 ^ c := by
  have l1 : 2 ^ a * 2 ≤ 2 ^ (c - 1) := by rw [← Nat.pow_succ]; exact two_le (by omega)
  have l2 : 2 ^ b * 2 ≤ 2 ^ (c - 1) := by rw [← Nat.pow_succ]; exact two_le (by omega)
  have l3 : 2 ^ (c - 1) < 2 ^ c := two_lt (by omega)
  generalize 2 ^ a = p at *
  generalize 2 ^ b = q at *
  generalize 2 ^ (c - 1) = r at *
  generalize 2 ^ c = s at *
  omega
theorem neg_le {x : Int} {n : Nat} (h : x.natAbs ≤ n) : (-x).natAbs ≤ n := by rw [Int.natAbs_neg]; exact h
theorem unit_bound {X v : Int} (h : v = X * 2 ^ 50) {k : Nat} (hv : v.natAbs ≤ 2 ^ k) : X.natAbs ≤ 2 ^ k := by
  have e : v.natAbs = X.natAbs * 2 ^ 50 := by rw [h]; exact scale_abs _ _
  have : X.natAbs ≤ X.natAbs * 2 ^ 50 := Nat.le_mul_of_pos_right _ (by decide)
  omega
set_option maxHeartbeats 2000000 in
theorem within_run {l h : Nat} (hl : l < 18446744073709551616) (hh : h < 18446744073709551616) (f1 : fitB l = true) (f2 : fitB h = true) {ws : Nat → Nat} {z : Int} (S : Sums ws z) (hz : z.natAbs ≤ 2 ^ 1510) (z1 : V l ≤ z * 2 ^ 50) (z2 : z * 2 ^ 50 ≤ V h) (w : World) :
    Calls Try.prog 29 #[spanV l h, .agg (arrW ws).toArray] w fun e w' => e = .returned (.bool true) ∧ Below w.heap.size w w' := by
  have F1 := fun w => rfit_any l hl w
  have F2 := fun w => rfit_any h hh w
  rw [f1] at F1
  rw [f2] at F2
  have N1 := fun w => xneg' l hl w
  have N2 := fun w => xneg' h hh w
  obtain ⟨X, hX, AX⟩ := fit_unit (negW_lt64 hl) (by rw [fit_neg hl]; exact f1)
  obtain ⟨Y, hY, AY⟩ := fit_unit (negW_lt64 hh) (by rw [fit_neg hh]; exact f2)
  rw [negW_V (fit_fin hl f1)] at hX
  rw [negW_V (fit_fin hh f2)] at hY
  have bX := unit_bound hX (neg_le (fit_abs (k := 1275) hl f1 (Nat.le_refl _)))
  have bY := unit_bound hY (neg_le (fit_abs (k := 1275) hh f2 (Nat.le_refl _)))
  have b1 := Lib.hid (add_bound (a := 1510) (b := 1275) (c := 1535) hz bX (by omega) (by omega))
  have b2 := Lib.hid (add_bound (a := 1510) (b := 1275) (c := 1535) hz bY (by omega) (by omega))
  have s1 : decide (signI (z + X) ≥ 0) = true := by
    have : 0 ≤ z + X := by omega
    unfold signI
    refine decide_eq_true ?_
    split <;> (try split) <;> omega
  have s2 : decide (signI (z + Y) ≤ 0) = true := by
    have : z + Y ≤ 0 := by omega
    unfold signI
    refine decide_eq_true ?_
    split <;> (try split) <;> omega
  have E0 : Env w [(w.heap.size, l, h)] [(w.heap.size + 1, z)] ((w.alloc (boxO l h)).alloc (vAcc ws)) := by
    have := ((Env.of (Cls.nil w)).new l h).box S
    simp only [List.nil_append] at this
    rw [show (w.alloc (boxO l h)).heap.size = w.heap.size + 1 by simp] at this
    exact this
  have R0 : ((w.alloc (boxO l h)).alloc (vAcc ws)).rangeAt (w.heap.size + 1) 0 (arrW ws) := by
    have := (S.holds (Copy.start (w.alloc (boxO l h)) ws)).range
    rw [show (w.alloc (boxO l h)).heap.size = w.heap.size + 1 by simp] at this
    exact this
  unfold boxO vAcc at E0 R0
  replace E0 := Lib.hid E0
  replace AX := Lib.hid AX
  replace AY := Lib.hid AY
  replace S := Lib.hid S
  unfold spanV
  clear f1 f2 hl hh hX hY bX bY hz z1 z2
  generalize negW l = nl at *
  generalize negW h = nh at *
  go_enter Try.func29, Try.ntmps29
  go_upto_region 3 with (first | (go_at_call 31; ((with_reducible refine (F1 _).mono ?_); rintro e w' ⟨rfl, rfl⟩)) | (go_at_call 31; ((with_reducible refine (F2 _).mono ?_); rintro e w' ⟨rfl, rfl⟩)))
  have E := E0.out
  clear E0
  generalize (w.alloc _).alloc _ = w1 at *
  go_cut [5, 6] from 17 to 18 (fun t5 t6 wx => ∃ (g5 g6 : Nat) (A : List (Nat × Int)) (j5 j6 : Nat), t5 = .pointer (some ⟨g5, 0, none⟩) ∧ t6 = .pointer (some ⟨g6, 0, none⟩) ∧ Env w [(w.heap.size, l, h)] A wx ∧ j5 ≠ j6 ∧ A[j5]? = some (g5, z) ∧ A[j6]? = some (g6, z))
  case first =>
    have S := S.out
    generalize hwz : w.heap.size = wz at *
    generalize hds : ([some 17, some 18, some 5, some 6, none, none] : List (Option Tmp)) = ds
    have hap : apartL ds = true := by rw [← hds]; decide
    have hds := hds.symm
    refine wp_region_inv (by kernel_rfl) ds (by rw [hds]; rfl) hap (by decide +kernel) (by decide +kernel) (fun L wx => WinR w [(wz, l, h)] (wz + 1) z ws L wx ∧ wx.rangeAt (wz + 1) 0 (arrW ws)) ?start ?step ?fin
    case start =>
      refine ⟨⟨fun i v hi h => absurd h (nones_get _ _ _), fun i hi h o ho => absurd ho (nones_get _ _ _), ⟨_, E.draws, rfl, fun i hi v h => absurd h (nones_get _ _ _)⟩, fun v u h => absurd h (nones_get _ _ _)⟩, R0⟩
    case step =>
      intro L W i o hL ho hn hd hW
      obtain ⟨hW, hR⟩ := hW
      have hi : i < 6 := (Array.getElem?_eq_some_iff.1 ho).1
      have : i = 0 ∨ i = 1 ∨ i = 2 ∨ i = 3 ∨ i = 4 ∨ i = 5 := by omega
      rcases this with rfl | rfl | rfl | rfl | rfl | rfl
      · obtain rfl := Option.some.inj ho
        exact step_value (ex_load_acc rfl (puts_old ds L _ (by rw [hds]; decide)) hR) ⟨_, rfl, hW.load (by omega), hR⟩
      · obtain rfl := Option.some.inj ho
        exact step_value (ex_load_acc rfl (puts_old ds L _ (by rw [hds]; decide)) hR) ⟨_, rfl, hW.load (by omega), hR⟩
      · obtain rfl := Option.some.inj ho
        exact step_value (ex_alloc_acc W rfl) ⟨_, rfl, hW.alloc (i := 0) (by omega) hn, World.rangeAt_alloc hR _⟩
      · obtain rfl := Option.some.inj ho
        exact step_value (ex_alloc_acc W rfl) ⟨_, rfl, hW.alloc (i := 1) (by omega) hn, World.rangeAt_alloc hR _⟩
      · obtain rfl := Option.some.inj ho
        obtain ⟨vp, hvp⟩ := hd ⟨2, .data⟩ (by simp) rfl
        obtain ⟨vs, hvs⟩ := hd ⟨0, .data⟩ (by simp) rfl
        obtain rfl := hW.det 0 vs (by omega) hvs
        obtain ⟨A, E, h0, hA⟩ := hW.env
        obtain ⟨g, j, rfl, -, -⟩ := hA 0 (by omega) vp hvp
        obtain ⟨hN, ht, hne⟩ := hW.store S (i := 0) (o := undef) (by omega) hn hvp
        exact step_skip (ex_store_acc rfl (puts_get 2 ds L _ hap (by rw [hds]; rfl) hvp (show 5 < 33 by decide)) (puts_get 0 ds L _ hap (by rw [hds]; rfl) hvs (show 17 < 33 by decide)) ht) ⟨undef, rfl, hN, World.rangeAt_setCells_apart hR g 0 _ (Or.inl hne)⟩
      · obtain rfl := Option.some.inj ho
        obtain ⟨vp, hvp⟩ := hd ⟨3, .data⟩ (by simp) rfl
        obtain ⟨vs, hvs⟩ := hd ⟨1, .data⟩ (by simp) rfl
        obtain rfl := hW.det 1 vs (by omega) hvs
        obtain ⟨A, E, h0, hA⟩ := hW.env
        obtain ⟨g, j, rfl, -, -⟩ := hA 1 (by omega) vp hvp
        obtain ⟨hN, ht, hne⟩ := hW.store S (i := 1) (o := undef) (by omega) hn hvp
        exact step_skip (ex_store_acc rfl (puts_get 3 ds L _ hap (by rw [hds]; rfl) hvp (show 6 < 33 by decide)) (puts_get 1 ds L _ hap (by rw [hds]; rfl) hvs (show 18 < 33 by decide)) ht) ⟨undef, rfl, hN, World.rangeAt_setCells_apart hR g 0 _ (Or.inl hne)⟩
    case fin =>
      intro L W hL hall hW
      obtain ⟨f, hf, hall⟩ := all_some (n := 6) hL hall
      obtain ⟨A, E, h0, hA⟩ := hW.1.env
      obtain ⟨g5, j5, e5, -, k5⟩ := hA 0 (by omega) _ (hall 2 (by omega))
      obtain ⟨g6, j6, e6, -, k6⟩ := hA 1 (by omega) _ (hall 3 (by omega))
      have hne := hW.1.ne _ _ (hall 2 (by omega)) (hall 3 (by omega))
      rw [show done4 L 0 z = z by unfold done4; rw [hall 4 (by omega)]; rfl] at k5
      rw [show done4 L 1 z = z by unfold done4; rw [hall 5 (by omega)]; rfl] at k6
      have hj : j5 ≠ j6 := fun e => by
        subst e
        rw [k5] at k6
        rw [e5, e6, (Prod.mk.inj (Option.some.inj k6)).1] at hne
        exact hne rfl
      rw [hf, hds, show List.range 6 = [0, 1, 2, 3, 4, 5] by decide]
      clear hW hall hf hL hA h0
      simp only [List.map_cons, List.map_nil, puts, Act.put, List.setIfInBounds_toArray, List.set_cons_zero, List.set_cons_succ]
      go_step
      go_step
      go_meet
      exact ⟨g5, g6, A, j5, j6, e5, e6, E, hj, k5, k6⟩
  case rest =>
    obtain ⟨g5, g6, A, j5, j6, rfl, rfl, E2, hj, k5, k6⟩ := hcut
    clear E R0 S
    have p0 := (E2.cls.at_ 0 rfl).lo
    have p1 := (E2.cls.at_ 0 rfl).hi
    obtain ⟨-, ns, H⟩ := E2.acc j5 g5 z k5
    have C1 := Lib.hid (AX.out g5 z ns wc H)
    replace E2 := Lib.hid E2
    replace k5 := Lib.hid k5
    replace k6 := Lib.hid k6
    replace hj := Lib.hid hj
    clear H AX
    go_wp2_with fail
    refine C1.out.mono ?_
    rintro _ v1 ⟨rfl, hP, hs⟩
    have E3 := E2.out.add j5 k5.out hP hs
    have hl5 : j5 < A.length := (List.getElem?_eq_some_iff.1 k5.out).1
    have m6 : (A.set j5 (g5, z + X))[j6]? = some (g6, z) := by rw [List.getElem?_set_ne hj.out]; exact k6.out
    have m5 : (A.set j5 (g5, z + X))[j5]? = some (g5, z + X) := List.getElem?_set_self hl5
    clear C1 hP hs p0 p1 E2 k5 k6 hl5
    generalize A.set j5 (g5, z + X) = B at *
    have p0 := (E3.cls.at_ 0 rfl).lo
    have p1 := (E3.cls.at_ 0 rfl).hi
    obtain ⟨-, ms, H⟩ := E3.acc j6 g6 z m6
    have C2 := Lib.hid (AY.out g6 z ms v1 H)
    replace E3 := Lib.hid E3
    replace m5 := Lib.hid m5
    replace m6 := Lib.hid m6
    clear H AY
    go_wp2_with fail
    refine C2.out.mono ?_
    rintro _ v2 ⟨rfl, hP, hs⟩
    have E4 := E3.out.add j6 m6.out hP hs
    have hl6 : j6 < B.length := (List.getElem?_eq_some_iff.1 m6.out).1
    have q6 : (B.set j6 (g6, z + Y))[j6]? = some (g6, z + Y) := List.getElem?_set_self hl6
    have q5 : (B.set j6 (g6, z + Y))[j5]? = some (g5, z + X) := by rw [List.getElem?_set_ne (Ne.symm hj.out)]; exact m5.out
    have G1 := Lib.hid (sign_run b1.out (E4.acc j5 g5 _ q5).2)
    have G2 := Lib.hid (sign_run b2.out (E4.acc j6 g6 _ q6).2)
    have BB := Lib.hid E4.cls.old
    clear C2 hP hs p0 p1 E3 m5 m6 hl6 q5 q6 E4 b1 b2 hj
    generalize signI (z + X) = sx at *
    generalize signI (z + Y) = sy at *
    go_wp2_with fail
    refine G1.out.mono ?_
    rintro _ _ ⟨rfl, rfl⟩
    go_wp2_with fail
    refine G2.out.mono ?_
    rintro _ _ ⟨rfl, rfl⟩
    go_wp2_with fail
    go_ret
    exact ⟨rfl, BB.out⟩
end Go.Proofs.Ytkfagpahbojigaa
