/- Proved here: DateBacks returns true for every input (its only condition: that the input can be read as data). -/
import Derived.Test.YtppggaibhfajjaaDaw
import Derived.Test.YtppggaibhfajjaaDrg
import Derived.Test.YtppggaibhfajjaaDjb
namespace Go.Proofs.Ytppggaibhfajjaa.dateBacks
open Go.ChangeShapes Go.WideShapes Go.ChangeAt Go.RowKit

theorem civV_any (L : List (Int × Int)) (t : Int) : ∃ x k : Int, civV L t = .tuple #[.int .i64 x, .int .i64 k] ∧ (k = 0 → chkJ L = 0 ∧ isI t = true ∧ x = civJ L t) := by
  unfold civV
  by_cases h : chkJ L = 0
  · rw [if_pos h]
    cases ht : isI t with
    | true => exact ⟨_, _, if_pos rfl, fun _ => ⟨h, rfl, rfl⟩⟩
    | false => exact ⟨_, _, if_neg (by decide), fun e => by omega⟩
  · rw [if_neg h]
    exact ⟨_, _, rfl, fun e => absurd e h⟩
/-- what Back tells, where it tells anything -/
theorem bakM_some {L : List (Int × Int)} {c : Int} (h : 0 < (bakM L c).length) : bakE L c = 0 ∧ chkJ L = 0 ∧ bakM L c = bak L c := by
  by_cases e : bakE L c = 0
  · refine ⟨e, ?_, if_pos e⟩
    by_cases h0 : chkJ L = 0
    · exact h0
    · rw [(bakE_bad c h0).1] at e; exact absurd e h0
  · have : bakM L c = [] := if_neg e
    rw [this] at h; simp at h
theorem bakM_two (L : List (Int × Int)) (c : Int) : (bakM L c).length ≤ 2 := by
  by_cases h : 0 < (bakM L c).length
  · obtain ⟨_, h0, e⟩ := bakM_some h
    obtain ⟨hl, hg⟩ := chkJ_zero h0
    rw [e]; exact bak_two hg hl c
  · omega
theorem bakM_civ {L : List (Int × Int)} {c : Int} {i : Nat} (h : i < (bakM L c).length) : civV L ((bakM L c).getD i 0) = .tuple #[.int .i64 c, .int .i64 0] := by
  obtain ⟨_, h0, e⟩ := bakM_some (L := L) (c := c) (by omega)
  rw [e] at h ⊢
  obtain ⟨k1, k2⟩ := bak_civ h
  rw [civV_in h0 k2, k1]
theorem bakM_rise {L : List (Int × Int)} {c : Int} {i : Nat} (h : i + 1 < (bakM L c).length) : (bakM L c).getD i 0 < (bakM L c).getD (i + 1) 0 := by
  obtain ⟨_, h0, e⟩ := bakM_some (L := L) (c := c) (by omega)
  obtain ⟨hl, hg⟩ := chkJ_zero h0
  rw [e] at h ⊢
  exact bak_rise hg hl h
theorem bak_has {L : List (Int × Int)} {t : Int} (h0 : chkJ L = 0) (ht : isI t = true) : bakE L (civJ L t) = 0 ∧ ∃ j, j < (bakM L (civJ L t)).length ∧ (bakM L (civJ L t)).getD j 0 = t := by
  obtain ⟨hl, hg⟩ := chkJ_zero h0
  have r := civJ_range hg hl ht
  obtain ⟨e1, e2⟩ := bakE_in (c := civJ L t) h0 ⟨by omega, by omega⟩
  refine ⟨e1, ?_⟩
  rw [e2]
  obtain ⟨j, hj, e⟩ := List.getElem_of_mem (bak_own ht)
  exact ⟨j, hj, by simp [List.getD, hj, e]⟩
set_option maxHeartbeats 2000000 in
set_option maxRecDepth 100000 in
theorem walk (w : World) (ao0 : Option Addr) (cap0 : Nat) (L0 : List (Int × Int)) (hc0 : L0.length ≤ cap0) (ha0 : JAt w ao0 L0) (hr0 : cap0 * 16 ≤ 140737488351232) (hn0 : ao0 = none → cap0 = 0) (a1 : Int) (_h1 : (Lit.int .i64 a1).wf = true) (a2 : Int) (_h2 : (Lit.int .i64 a2).wf = true) :
    Calls Try.prog 8 #[.slice ao0 L0.length cap0, .int .i64 a1, .int .i64 a2] w fun e w' => e = .returned (.bool true) ∧ Below w.heap.size w w' := by
  obtain ⟨n, hn⟩ : ∃ n, n = L0.length := ⟨_, rfl⟩
  rw [← hn] at hc0 ⊢
  have hm : n ≤ 4611686018427387904 := by omega
  have hrn : n * 16 ≤ 140737488351232 := by omega
  have AW := Lib.hid awake_run
  have BK : Hid (∀ (c : Int) ao' cap' w, n ≤ cap' → cap' ≤ maxLen → (ao' = none → cap' = 0) → JAt w ao' L0 → Calls Try.prog 24 #[.slice ao' n cap', .int .i64 c] w (BackRes w (bakM L0 c) (bakE L0 c))) := fun c ao' cap' w h1 h2 h3 h => back_run ao' cap' n L0 c w hn h1 hm (by unfold maxLen at h2; omega) h3 h
  have CV : Hid (∀ (t : Int) ao' cap' w, n ≤ cap' → cap' ≤ maxLen → (ao' = none → cap' = 0) → JAt w ao' L0 → Calls Try.prog 22 #[.slice ao' n cap', .int .i64 t] w fun e w' => e = .returned (civV L0 t) ∧ Below w.heap.size w w') := fun t ao' cap' w h1 h2 h3 h => civil_run ao' cap' n L0 t w hn h1 hm (by unfold maxLen at h2; omega) h3 h
  have A := Lib.hid ha0
  have B0 : Hid (∀ v0, Below w.heap.size w v0 → Below w.heap.size w v0) := fun _ h => h
  obtain ⟨x, ke, hv, hk⟩ := civV_any L0 a1
  replace hv := hv
  replace hn := Lib.hid hn
  obtain ⟨ml, hml⟩ : ∃ m, m = (bakM L0 a2).length := ⟨_, rfl⟩
  have m2 : ml ≤ 2 := by rw [hml]; exact bakM_two L0 a2
  have hE : Hid (0 < ml → bakE L0 a2 = 0) := fun h => (bakM_some (by omega)).1
  have hCv : Hid (∀ i, i < ml → civV L0 ((bakM L0 a2).getD i 0) = .tuple #[.int .i64 a2, .int .i64 0]) := fun i h => bakM_civ (by omega)
  have hRi : Hid (∀ i, i + 1 < ml → (bakM L0 a2).getD i 0 < (bakM L0 a2).getD (i + 1) 0) := fun i h => bakM_rise (by omega)
  have BK1 : Hid (∀ ao' cap' w, n ≤ cap' → cap' ≤ maxLen → (ao' = none → cap' = 0) → JAt w ao' L0 → Calls Try.prog 24 #[.slice ao' n cap', .int .i64 a2] w (BackRes w (bakM L0 a2) (bakE L0 a2))) := BK.out a2
  have tm : decide (2 < ml) = false := decide_eq_false (by omega)
  obtain ⟨M, hM⟩ : ∃ M, M = bakM L0 a2 := ⟨_, rfl⟩
  rw [← hM] at hml hCv hRi BK1
  have te : (bakE L0 a2 != 0) = false ∨ ((bakE L0 a2 != 0) = true ∧ decide (0 < ml) = false) := by
    by_cases e : bakE L0 a2 = 0
    · exact .inl (by simp [e])
    · exact .inr ⟨by simpa using e, decide_eq_false fun h => e (hE.out h)⟩
  replace hM := Lib.hid hM
  generalize bakE L0 a2 = be at *
  replace hml := Lib.hid hml
  replace m2 := Lib.hid m2
  clear ha0 hc0 hr0 B0 hE
  rcases te with te | ⟨te, te2⟩
  all_goals
    go_enter Try.func8, Try.ntmps8
    go_wp2_with fail
    refine (AW.out _).mono ?_
    rintro _ v0 ⟨rfl, hb1⟩
    replace A := Lib.hid (A.out.on hb1)
    have B := Lib.hid hb1
    clear AW hb1
    go_wp2_with (at_builtin; refine wpList_copyJ rfl _ _ rfl rfl ao0 n cap0 L0 rfl hn.out hn0 A.out hrn ?_)
    intro v1a v1c v1 K
    replace B := Lib.hid (B.out.trans (K.old.mono B.out.size))
    go_wp2_with fail
    refine (BK1.out v1a v1c v1 K.room K.most K.bare K.at_).mono ?_
    rintro _ v2 ⟨p, rfl, N⟩
    replace A := Lib.hid ((A.out.on K.old).on N.old)
    replace B := Lib.hid (B.out.trans (N.old.mono B.out.size))
    clear BK1 K
    obtain ⟨pa, pc, rfl, pr1, pr2, P⟩ := ownsI_at N.own
    rw [← hml.out] at pr1 ⊢
    replace P := Lib.hid P
    replace pr2 := Lib.hid pr2
    clear N
    have ml2 := m2.out
    go_wp2_with fail
    go_loopw [9] (fun iv wr => ∃ i : Nat, i ≤ ml ∧ iv = .int .i64 i ∧ Below v2.heap.size v2 wr) (fun iv _ => ml - (intOf iv).toNat)
    case atStart => exact ⟨0, Nat.zero_le _, rfl, Below.refl _ _⟩
    case round =>
      obtain ⟨i, hi, rfl, hb⟩ := hrel
      by_cases hlt : i < ml
      · replace A := Lib.hid (A.out.on hb)
        replace P := Lib.hid (P.out.on hb)
        obtain ⟨b, o₀, rfl, p1⟩ := P.out i (by have := hml.out; omega)
        have K3 := CV.out (M.getD i 0)
        rw [hCv.out i hlt] at K3
        replace K3 := Lib.hid K3
        have hpv : Hid (∀ k, i = k + 1 → ∃ z, wr.cell? ⟨b, o₀ + k, none⟩ = some (.int .i64 z) ∧ z < M.getD i 0) := fun k hk => by
          obtain ⟨b', o', e, q⟩ := P.out k (by have := hml.out; omega)
          simp only [Option.some.injEq, Addr.mk.injEq, and_true] at e
          obtain ⟨rfl, rfl⟩ := e
          exact ⟨_, q, by rw [hk]; exact hRi.out k (by omega)⟩
        obtain ⟨u, hu⟩ : ∃ u, u = M.getD i 0 := ⟨_, rfl⟩
        rw [← hu] at p1 K3 hpv
        replace hu := Lib.hid hu
        replace hb := Lib.hid hb
        have pl : b < wr.heap.size := World.block_lt_of_cell? wr _ p1
        go_wp2_with fail
        generalize hds : ([some 45, some 46, some 47, some 48, some 49, some 50, some 51, some 52, some 44, some 53, some 54, some 10, some 11] : List (Option Tmp)) = ds
        have hap : apartL ds = true := by rw [← hds]; decide
        replace hds := hds.symm
        refine wp_region_copyJ 0 2 7 [undef, .slice ao0 n cap0, undef, .slice (some ⟨b, o₀, none⟩) ml pc, .int .i64 (i : Int), .pointer (some ⟨b, o₀ + i, none⟩), .int .i64 u, .tuple #[.int .i64 a2, .int .i64 0], .tuple #[.int .i64 a2, .int .i64 0], .int .i64 a2, .int .i64 0, .int .i64 a2, .int .i64 0]
          ds (by kernel_rfl) (by rw [hds]; rfl) hap (by decide +kernel) (by decide +kernel) rfl (by decide) (by decide) (by decide +kernel) (by decide +kernel) (by decide) ao0 cap0 n L0 hn.out hrn hn0 A.out ?build ?app ?call ?step ?fin
        case build => intro o ho; obtain rfl := Option.some.inj ho; rfl
        case app =>
          intro L o v ho hd hv
          obtain rfl := Option.some.inj ho
          refine ⟨_, _, rfl, ?_, ?_⟩
          · exact puts_get 0 ds L _ hap (by rw [hds]; rfl) hv (show 45 < 110 by decide)
          · generalize hA : (puts ds L _).eval = ρ
            have h0 : ρ (.tmp 46) = .slice ao0 n cap0 := by rw [← hA]; exact puts_get 1 ds L _ hap (by rw [hds]; rfl) (hd 1 (by decide +kernel) (by decide) (by decide)) (show 46 < 110 by decide)
            exact h0
        case call =>
          intro L W o ao' cap' ho hd hv q1 q2 q3 hAt
          obtain rfl := Option.some.inj ho
          refine .call 22 #[.slice ao' n cap', .int .i64 u] ?_ (K3.out ao' cap' W q1 q2 q3 hAt)
          generalize hA : (puts ds L _).eval = ρ
          have hg : ∀ g, ρ (.func g) = .func (.func g) #[] #[] := fun v => by rw [← hA]; rfl
          have h0 : ρ (.tmp 47) = .slice ao' n cap' := by rw [← hA]; exact puts_get 2 ds L _ hap (by rw [hds]; rfl) hv (show 47 < 110 by decide)
          have h1 : ρ (.tmp 51) = .int .i64 u := by rw [← hA]; exact puts_get 6 ds L _ hap (by rw [hds]; rfl) (hd 6 (by decide +kernel) (by decide) (by decide)) (show 51 < 110 by decide)
          have hf := Try.func22
          unfold execOp
          go_simp
        case step =>
          intro L W o' o ho hib hip hic hd hJ
          have hi : o' < 13 := (Array.getElem?_eq_some_iff.1 ho).1
          have : o' = 0 ∨ o' = 1 ∨ o' = 2 ∨ o' = 3 ∨ o' = 4 ∨ o' = 5 ∨ o' = 6 ∨ o' = 7 ∨ o' = 8 ∨ o' = 9 ∨ o' = 10 ∨ o' = 11 ∨ o' = 12 := by omega
          rcases this with rfl | rfl | rfl | rfl | rfl | rfl | rfl | rfl | rfl | rfl | rfl | rfl | rfl
          · -- 0
            exact absurd rfl hib
          · -- 1
            obtain rfl := Option.some.inj ho
            refine .value W ?_ (Below.refl _ _)
            generalize hA : (puts ds L _).eval = ρ
            have h0 : ρ (.tmp 0) = .slice ao0 n cap0 := by rw [← hA]; exact (puts_old ds L _ (by rw [hds]; decide)).trans rfl
            exact exJ_move W rfl h0
          · -- 2
            exact absurd rfl hip
          · -- 3
            obtain rfl := Option.some.inj ho
            refine .value W ?_ (Below.refl _ _)
            generalize hA : (puts ds L _).eval = ρ
            have h0 : ρ (.tmp 7) = .slice (some ⟨b, o₀, none⟩) ml pc := by rw [← hA]; exact (puts_old ds L _ (by rw [hds]; decide)).trans rfl
            exact exJ_move W rfl h0
          · -- 4
            obtain rfl := Option.some.inj ho
            refine .value W ?_ (Below.refl _ _)
            generalize hA : (puts ds L _).eval = ρ
            have h0 : ρ (.tmp 9) = .int .i64 (i : Int) := by rw [← hA]; exact (puts_old ds L _ (by rw [hds]; decide)).trans rfl
            exact exJ_move W rfl h0
          · -- 5
            obtain rfl := Option.some.inj ho
            refine .value W ?_ (Below.refl _ _)
            generalize hA : (puts ds L _).eval = ρ
            have h0 : ρ (.tmp 48) = .slice (some ⟨b, o₀, none⟩) ml pc := by rw [← hA]; exact puts_get 3 ds L _ hap (by rw [hds]; rfl) (hd 3 (by decide +kernel) (by decide) (by decide)) (show 48 < 110 by decide)
            have h1 : ρ (.tmp 49) = .int .i64 (i : Int) := by rw [← hA]; exact puts_get 4 ds L _ hap (by rw [hds]; rfl) (hd 4 (by decide +kernel) (by decide) (by decide)) (show 49 < 110 by decide)
            have hlt2 := hlt
            unfold execOp
            go_simp
          · -- 6
            obtain rfl := Option.some.inj ho
            refine .value W ?_ (Below.refl _ _)
            generalize hA : (puts ds L _).eval = ρ
            have h0 : ρ (.tmp 50) = .pointer (some ⟨b, o₀ + i, none⟩) := by rw [← hA]; exact puts_get 5 ds L _ hap (by rw [hds]; rfl) (hd 5 (by decide +kernel) (by decide) (by decide)) (show 50 < 110 by decide)
            exact exJ_load rfl h0 (((hJ.cell (p := ⟨b, o₀ + i, none⟩) pl).trans p1))
          · -- 7
            exact absurd rfl hic
          · -- 8
            obtain rfl := Option.some.inj ho
            refine .value W ?_ (Below.refl _ _)
            generalize hA : (puts ds L _).eval = ρ
            have h0 : ρ (.tmp 52) = .tuple #[.int .i64 a2, .int .i64 0] := by rw [← hA]; exact puts_get 7 ds L _ hap (by rw [hds]; rfl) (hd 7 (by decide +kernel) (by decide) (by decide)) (show 52 < 110 by decide)
            exact exJ_move W rfl h0
          · -- 9
            obtain rfl := Option.some.inj ho
            refine .value W ?_ (Below.refl _ _)
            generalize hA : (puts ds L _).eval = ρ
            have hc : ∀ v, ρ (.const v) = v := fun v => by rw [← hA]; rfl
            have h0 : ρ (.tmp 44) = .tuple #[.int .i64 a2, .int .i64 0] := by rw [← hA]; exact puts_get 8 ds L _ hap (by rw [hds]; rfl) (hd 8 (by decide +kernel) (by decide) (by decide)) (show 44 < 110 by decide)
            unfold execOp
            go_simp
          · -- 10
            obtain rfl := Option.some.inj ho
            refine .value W ?_ (Below.refl _ _)
            generalize hA : (puts ds L _).eval = ρ
            have hc : ∀ v, ρ (.const v) = v := fun v => by rw [← hA]; rfl
            have h0 : ρ (.tmp 44) = .tuple #[.int .i64 a2, .int .i64 0] := by rw [← hA]; exact puts_get 8 ds L _ hap (by rw [hds]; rfl) (hd 8 (by decide +kernel) (by decide) (by decide)) (show 44 < 110 by decide)
            unfold execOp
            go_simp
          · -- 11
            obtain rfl := Option.some.inj ho
            refine .value W ?_ (Below.refl _ _)
            generalize hA : (puts ds L _).eval = ρ
            have h0 : ρ (.tmp 53) = .int .i64 a2 := by rw [← hA]; exact puts_get 9 ds L _ hap (by rw [hds]; rfl) (hd 9 (by decide +kernel) (by decide) (by decide)) (show 53 < 110 by decide)
            exact exJ_assign W rfl h0
          · -- 12
            obtain rfl := Option.some.inj ho
            refine .value W ?_ (Below.refl _ _)
            generalize hA : (puts ds L _).eval = ρ
            have h0 : ρ (.tmp 54) = .int .i64 0 := by rw [← hA]; exact puts_get 10 ds L _ hap (by rw [hds]; rfl) (hd 10 (by decide +kernel) (by decide) (by decide)) (show 54 < 110 by decide)
            exact exJ_assign W rfl h0
        case fin =>
          intro v1' v2' w9 hb1
          rw [hds]
          clear hds hap
          replace A := Lib.hid (A.out.on hb1)
          replace P := Lib.hid (P.out.on hb1)
          replace hb := Lib.hid (hb.out.trans (hb1.mono hb.out.size))
          clear hb1 pl p1
          simp only [List.map_cons, List.map_nil, List.set_cons_zero, List.set_cons_succ, puts, Act.put, List.setIfInBounds_toArray]
          clear K3
          obtain ⟨b', o', e, q1⟩ := P.out i (by have := hml.out; omega)
          simp only [Option.some.injEq, Addr.mk.injEq, and_true] at e
          obtain ⟨rfl, rfl⟩ := e
          rw [← hu.out] at q1
          clear hCv
          by_cases hz : i = 0
          · subst hz
            rw [Nat.add_zero] at q1
            clear hpv
            go_wp2_with fail
            go_quiet (fail)
            go_wp2_with fail
            go_roundw
            case rel => exact ⟨0 + 1, hlt, by go_num, bl_drewN hb.out _⟩
            case measure => simp [intOf]; omega
          · obtain ⟨k, hk⟩ : ∃ k, i = k + 1 := ⟨i - 1, by omega⟩
            obtain ⟨b', o', e, q2⟩ := P.out k (by have := hml.out; omega)
            simp only [Option.some.injEq, Addr.mk.injEq, and_true] at e
            obtain ⟨rfl, rfl⟩ := e
            have hlt3 := hRi.out k (by omega)
            rw [← hk, ← hu.out] at hlt3
            generalize M.getD k 0 = z at *
            have tz : decide (u ≤ z) = false := decide_eq_false (by omega)
            have e1 : IntKind.i64.wrap ((i : Int) - 1) = (k : Int) := by rw [IntWalk.i64_in _ (by omega)]; omega
            have kn : k < ml := by omega
            have i0 : 0 < i := by omega
            replace hk := Lib.hid hk
            clear hpv hz hlt3
            go_wp2_with fail
            go_quiet (fail)
            clear e1
            go_wp2_with fail
            go_roundw
            case rel => exact ⟨i + 1, hlt, by go_num, bl_drewN hb.out _⟩
            case measure => simp [intOf]; omega
      · obtain rfl : i = ml := by omega
        replace A := Lib.hid (A.out.on hb)
        replace B := Lib.hid (B.out.trans (hb.mono B.out.size))
        clear hb P
        go_wp2_with (at_builtin; refine wpList_copyJ rfl _ _ rfl rfl ao0 n cap0 L0 rfl hn.out hn0 A.out hrn ?_)
        intro v3a v3c v3 K
        replace B := Lib.hid (B.out.trans (K.old.mono B.out.size))
        go_wp2_with fail
        have C3 := Lib.hid (CV.out a1 v3a v3c v3 K.room K.most K.bare K.at_)
        rw [hv] at C3
        replace A := Lib.hid (A.out.on K.old)
        clear K
        by_cases k0 : ke = 0
        · obtain ⟨c0, ht, hx⟩ := hk k0
          subst k0
          refine C3.out.mono ?_
          rintro _ v4 ⟨rfl, hb1⟩
          replace A := Lib.hid (A.out.on hb1)
          replace B := Lib.hid (B.out.trans (hb1.mono B.out.size))
          clear C3 hb1
          obtain ⟨e0, j, hj, hjv⟩ := bak_has c0 ht
          rw [← hx] at e0 hj hjv
          have BK2 := BK.out x
          rw [e0] at BK2
          obtain ⟨M2, hM2⟩ : ∃ M2, M2 = bakM L0 x := ⟨_, rfl⟩
          have two := bakM_two L0 x
          rw [← hM2] at BK2 hj hjv two
          replace hjv := Lib.hid hjv
          replace BK2 := Lib.hid BK2
          obtain ⟨m3, hm3⟩ : ∃ m, m = M2.length := ⟨_, rfl⟩
          rw [← hm3] at hj two
          replace hm3 := Lib.hid hm3
          clear hM2 e0 c0 ht hx hk hv BK CV
          go_wp2_with (at_builtin; refine wpList_copyJ rfl _ _ rfl rfl ao0 n cap0 L0 rfl hn.out hn0 A.out hrn ?_)
          intro v5a v5c v5 K
          replace B := Lib.hid (B.out.trans (K.old.mono B.out.size))
          go_wp2_with fail
          refine (BK2.out v5a v5c v5 K.room K.most K.bare K.at_).mono ?_
          rintro _ v6 ⟨p, rfl, N⟩
          replace B := Lib.hid (B.out.trans (N.old.mono B.out.size))
          clear BK2 K A
          obtain ⟨pb, pd, rfl, pr3, pr4, P⟩ := ownsI_at N.own
          rw [← hm3.out] at pr3 ⊢
          replace P := Lib.hid P
          replace pr4 := Lib.hid pr4
          clear N
          go_wp2_with fail
          go_loop [15] (fun iv => ∃ i : Nat, i ≤ m3 ∧ iv = .int .i64 i ∧ i ≤ j) (fun iv => m3 - (intOf iv).toNat)
          case atStart => exact ⟨0, Nat.zero_le _, rfl, Nat.zero_le _⟩
          case round =>
            obtain ⟨i, hi2, rfl, hij⟩ := hrel
            have hlt : i < m3 := by omega
            obtain ⟨b, o, rfl, p1⟩ := P.out i (by have := hm3.out; omega)
            by_cases hq : M2.getD i 0 = a1
            · have tq : (M2.getD i 0 == a1) = true := by simpa using hq
              rw [hq] at p1
              clear tq hq
              go_wp2_with fail
              go_ret
              exact ⟨rfl, B.out⟩
            · have tq : (M2.getD i 0 == a1) = false := by simpa using hq
              have hne : i ≠ j := fun e => hq (by rw [e]; exact hjv.out)
              generalize M2.getD i 0 = u at *
              clear hq
              go_wp2_with fail
              go_round
              case rel => exact ⟨i + 1, hlt, by go_num, by omega⟩
              case measure => simp [intOf]; omega
        · have tk : (ke != 0) = true := by simpa using k0
          refine C3.out.mono ?_
          rintro _ v4 ⟨rfl, hb1⟩
          replace A := Lib.hid (A.out.on hb1)
          replace B := Lib.hid (B.out.trans (hb1.mono B.out.size))
          clear C3 hb1
          go_wp2_with fail
          go_ret
          exact ⟨rfl, B.out⟩

theorem own : ownKnob Try.prog.godebug = none := by kernel_rfl
theorem laidOut : laidOutB Try.prog = true := by kernel_rfl
theorem bytesJ : Try.prog.bytesOf 59 = 16 := by kernel_rfl
set_option maxRecDepth 100000 in
theorem lifted (os : Os) (started : os.Started) (H : Type) (enc : TypeId × Value → H) :
    ReturnsInHanded {} Try.checked os 8 .any (Rows.dateBacksSpec.pre6 enc Try.prog Try.f8 Rows.dateBacksRow.domain false) (Rows.dateBacksSpec.post enc Try.prog Try.f8 false true false false) := by
  refine returnsInHanded_of_change_sized (C := Try.checked) own started (by kernel_rfl) Try.func8
    (ChangeSpec.witness6 (enc := enc) (C := Try.checked) false ⟨#[], #[.slice none 0 0, .int .i64 0, .int .i64 0], []⟩ 8 (by kernel_rfl) (by kernel_rfl) (by kernel_rfl) (by kernel_rfl)) ?_
  intro W base args ds gs before hval0 hW _ hsz0 _
  have hsz : (DataW.weightsEach Try.prog (Try.f8.params.toList ++ Rows.dateBacksSpec.plain.varTypes Try.prog) (ds ++ gs)).all (· ≤ reachBytes) = true := hsz0
  clear hsz0
  have hval : ∀ (j : Nat) t v, Try.f8.params[j]? = some t → args[j]? = some v → Value.okWide Try.prog W .any base t v := hval0
  have hW' := hW
  obtain ⟨p, q, hA0, hV, rfl, _, _⟩ := hW
  have hA : DataW.TrodAll enc Try.prog W 0 (fun _ => true) true Try.f8.params.toList args.toList ds p := hA0
  rw [Try.params8] at hA hval hsz
  obtain ⟨v0, vs0, d0, ds0, p0, q0, hargs, rfl, rfl, t0, r0⟩ := trodAll_cons hA
  obtain ⟨v1, vs1, d1, ds1, p1, q1, rfl, rfl, rfl, t1, r1⟩ := trodAll_cons r0
  obtain ⟨v2, vs2, d2, ds2, p2, q2, rfl, rfl, rfl, t2, r2⟩ := trodAll_cons r1
  obtain ⟨rfl, rfl, rfl⟩ := trodAll_nil r2
  obtain rfl : args = #[v0, v1, v2] := by cases args; simp_all
  obtain ⟨rfl, rfl⟩ := trodVars_none hV
  simp only [List.append_nil] at hW'
  have tk0 := t0
  obtain ⟨ao0, cap0, L0, rfl, hc0, ha0, hx0⟩ := open_jumps (okWide_slice Try.underlying36 (hval 0 36 v0 rfl rfl)) t0
  have hr0 : cap0 * 16 ≤ 140737488351232 := by
    rcases hx0 with ⟨_, h0⟩ | ⟨_, es, sp, hd, h0⟩
    · rw [h0]; decide
    · subst hd
      have := sized_slice hsz (j := 0) (t := 36) (e := 59) rfl rfl Try.underlying36
      rw [bytesJ, h0] at this
      simp only [reachBytes] at this
      omega
  have hn0 : ao0 = none → cap0 = 0 := by
    intro h
    rcases hx0 with ⟨_, h0⟩ | ⟨⟨a, h1⟩, _⟩
    · exact h0
    · rw [h] at h1; simp at h1
  have hlt0 : ∀ x ∈ p0, x.block < W.heap.size := fun x hx => by have := hW'.lt x (by simp [hx]); simpa using this
  obtain ⟨a1, rfl, rfl, rfl, w1⟩ := open_int Try.underlying2 (hval 1 2 v1 rfl rfl) t1
  obtain ⟨a2, rfl, rfl, rfl, w2⟩ := open_int Try.underlying2 (hval 2 2 v2 rfl rfl) t2
  clear hA0 hval0
  refine (walk W ao0 cap0 L0 hc0 ha0 hr0 hn0 a1 w1 a2 w2).mono fun e W' ⟨he, hb⟩ => ?_
  subst he
  refine ⟨_, rfl, _, _, _, [], _, [], hW', trodAll_cons_mk (shut_bool Try.underlying4 _) trodAll_mk0, (trodAll_cons_mk (Below.trod laidOut (by kernel_rfl) (of_decide_eq_true (by kernel_rfl)) tk0 hb hlt0) (trodAll_cons_mk (shut_int Try.underlying2 w1) (trodAll_cons_mk (shut_int Try.underlying2 w2) trodAll_mk0))), rfl, hb.frame _, fun h => by cases h⟩

theorem over : Rows.dateBacksRow.holds Try.pinned (OpenSpec.ofChange Rows.dateBacksSpec) :=
  OpenClaim.holds_of_wide 8 Try.f8 rfl rfl rfl rfl rfl rfl rfl ⟨rfl, rfl, rfl, rfl, rfl⟩ rfl rfl rfl rfl rfl (by kernel_rfl) Try.func8 (by kernel_rfl)
    (of_decide_eq_true (by kernel_rfl)) (by unfold Func.isWrapper; first | (rw [if_pos (by decide +kernel)]; kernel_rfl) | (rw [if_neg (by decide +kernel)]; exact ⟨rfl, rfl⟩))
    (fun os started H enc _ => lifted os started H enc)

theorem proved : Rows.DateBacksSaid :=
  over
end Go.Proofs.Ytppggaibhfajjaa.dateBacks
