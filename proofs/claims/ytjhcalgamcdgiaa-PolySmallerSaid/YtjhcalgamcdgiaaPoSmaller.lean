/- Proved here: for every list of numbers and every two spans (and all that are none) the law PolySmaller returns true: over a smaller span the spans of values are smaller. No conditions. -/
import Derived.Test.YtjhcalgamcdgiaaRows
import Derived.Test.YtjhcalgamcdgiaaJq4
import Derived.Test.YtjhcalgamcdgiaaJq5
import Derived.Test.YtjhcalgamcdgiaaJb2
namespace Go.Proofs.Ytjhcalgamcdgiaa.polySmaller
open Go.ChangeShapes Go.WideShapes Go.ChangeAt Go.RowKit Ieee.Own

theorem _root_.Go.Proofs.Ytjhcalgamcdgiaa.Lin.grown {B : Nat} {ao : Option Addr} {cs : List Nat} {w w' : World} {g : Nat} (h : Lin B ao cs w) (r : RowAt w g #[]) (k : w.grownBy w' (some g)) : Lin B ao cs w' := ⟨h.at_.grown r k, h.lt, Nat.le_trans h.size k.size⟩
theorem hs_ins {L : List Nat} {a1 b1 a2 b2 : Nat} {p q : Pr} (hc : ∀ c ∈ L, Fc c) (h : InP (a1, b1) (a2, b2)) (hp : HsR (a1, b1) L p) (hq : HsR (a2, b2) L q) : InP p q := hs_mono h L p q hc hp hq

set_option maxHeartbeats 8000000 in
theorem walk (w : World) (ao0 : Option Addr) (cap0 : Nat) (L0 : List Nat) (hc0 : L0.length ≤ cap0) (hw0 : Words L0) (ha0 : At w ao0 L0) (hr0 : cap0 * 8 ≤ 140737488351232) (hn0 : ao0 = none → cap0 = 0) (a1 b1 : Nat) (ha1 : a1 < 18446744073709551616) (hb1 : b1 < 18446744073709551616) (a2 b2 : Nat) (ha2 : a2 < 18446744073709551616) (hb2 : b2 < 18446744073709551616) :
    Calls Try.prog 4 #[.slice ao0 L0.length cap0, spanV a1 b1, spanV a2 b2] w fun e w' => e = .returned (.bool true) ∧ Below w.heap.size w w' := by
  obtain ⟨n, hn⟩ : ∃ n, n = L0.length := ⟨_, rfl⟩
  rw [← hn] at hc0 ⊢
  have hrn : n * 8 ≤ 140737488351232 := by omega
  have hm : n ≤ 4611686018427387904 := by omega
  have AW := Lib.hid awake6
  have I0 := Lib.hid (fun w => inside_run a1 b1 a2 b2 ha1 hb1 ha2 hb2 w)
  have C0 : Cls w [(w.heap.size, a1, b1), (w.heap.size + 1, a2, b2)] ((w.alloc (boxO a1 b1)).alloc (boxO a2 b2)) := by
    have := ((Cls.nil w).new a1 b1).new a2 b2
    simp only [List.nil_append, List.cons_append] at this
    rw [show (w.alloc (boxO a1 b1)).heap.size = w.heap.size + 1 by simp] at this
    exact this
  have A0 := ((Lin.start ha0).alloc (boxO a1 b1)).alloc (boxO a2 b2)
  have hst := @fstore
  unfold boxO at C0 A0
  replace C0 := Lib.hid C0
  replace A0 := Lib.hid A0
  by_cases hI : insB a1 b1 a2 b2 = true
  · obtain ⟨p, k, Hp, K1⟩ := hsp_own hn hm hw0 ha1 hb1
    obtain ⟨q, l, Hq, K2⟩ := hsp_own hn hm hw0 ha2 hb2
    obtain ⟨u, mm, Hu, K3⟩ := csp_own hn hm hw0 ha1 hb1
    obtain ⟨v, oo, Hv, K4⟩ := csp_own hn hm hw0 ha2 hb2
    have IP : InP (a1, b1) (a2, b2) := ⟨ha1, hb1, ha2, hb2, hI⟩
    have IH : Hid (k = 0 → l = 0 → ∀ w, Calls Try.prog 16 #[spanV p.1 p.2, spanV q.1 q.2] w fun e w' => e = .returned (.bool true) ∧ Below w.heap.size w w') := by
      intro h1 h2 w
      have hc := (errC_zero hw0 (errO_zero (Hp.er.symm.trans h1)).1).2
      have := hs_mono IP L0 p q hc (Hp.ok h1) (Hq.ok h2)
      have r := inside_run p.1 p.2 q.1 q.2 this.l1 this.l2 this.l3 this.l4 w
      rwa [this.i] at r
    have IC : Hid (mm = 0 → oo = 0 → ∀ w, Calls Try.prog 16 #[spanV u.1 u.2, spanV v.1 v.2] w fun e w' => e = .returned (.bool true) ∧ Below w.heap.size w w') := by
      intro h1 h2 w
      have hc := (errC_zero hw0 (errO_zero (Hu.er.symm.trans h1)).1).2
      have := ch_mono IP hc (Hu.ok h1) (Hv.ok h2)
      have r := inside_run u.1 u.2 v.1 v.2 this.l1 this.l2 this.l3 this.l4 w
      rwa [this.i] at r
    rw [hI] at I0
    replace K1 := Lib.hid K1
    replace K2 := Lib.hid K2
    replace K3 := Lib.hid K3
    replace K4 := Lib.hid K4
    replace hn := Lib.hid hn
    unfold spanV at I0
    unfold spanV
    clear Hp Hq Hu Hv IP hI ha1 hb1 ha2 hb2 hw0 ha0 hr0 hc0 hm
    go_enter Try.func4, Try.ntmps4
    go_wp2_with fail
    have C := C0.out
    have A := A0.out
    clear C0 A0
    generalize (w.alloc _).alloc _ = wr at *
    refine (AW.out wr).mono ?_
    rintro _ v0 ⟨rfl, hb⟩
    have C2 := C.on hb
    have p0 := (C2.at_ 0 rfl).lo
    have p1 := (C2.at_ 0 rfl).hi
    have q0 := (C2.at_ 1 rfl).lo
    have q1 := (C2.at_ 1 rfl).hi
    replace C := Lib.hid C2
    replace A := Lib.hid (A.on hb)
    clear C2 hb AW
    go_wp2_with fail
    clear p0 p1 q0 q1
    refine (I0.out v0).mono ?_
    rintro _ v1 ⟨rfl, hb⟩
    replace C := Lib.hid (C.out.on hb)
    replace A := Lib.hid (A.out.on hb)
    clear hb I0
    go_upto_region 5 with fail
    generalize hds : ([some 18, some 19, some 20, some 21, some 22, some 17, some 23, some 24, some 7, none, some 8] : List (Option Tmp)) = ds
    have hap : apartL ds = true := by rw [← hds]; decide
    replace hds := hds.symm
    refine wp_region_varR 8 9 0 2 4 p.1 p.2 [undef, .slice ao0 n cap0, undef, pv (a1, b1), .tuple #[pv p, .int .i64 k], .tuple #[pv p, .int .i64 k], pv p, .int .i64 k, undef, undef, .int .i64 k]
      ds (by kernel_rfl) (by rw [hds]; rfl) hap (by decide +kernel) (by decide +kernel) rfl C.out (by decide +kernel) (by decide) (by decide) (by decide +kernel) (by decide +kernel) (by decide +kernel) (by decide) ao0 cap0 n L0 hn.out hrn hn0
      (fun W => Lin w.heap.size ao0 L0 W) A.out.drew (fun _ _ A h => A.on h) (fun W h s t hh A => A.put hh s t) (fun _ _ _ A r k => A.grown r k) (fun _ A => A.at_) ?alloc ?build ?app ?call ?step ?store ?fin
    case alloc => intro o ho; obtain rfl := Option.some.inj ho; rfl
    case build => intro o ho; obtain rfl := Option.some.inj ho; rfl
    case app =>
      intro L o v ho hd hv
      obtain rfl := Option.some.inj ho
      refine ⟨_, _, rfl, ?_, ?_⟩
      · exact puts_get 0 ds L _ hap (by rw [hds]; rfl) hv (show 18 < 72 by decide)
      · generalize hA : (puts ds L _).eval = ρ
        have h0 : ρ (.tmp 19) = .slice ao0 n cap0 := by rw [← hA]; exact puts_get 1 ds L _ hap (by rw [hds]; rfl) (hd 1 (by decide +kernel) (by decide) (by decide) (by decide)) (show 19 < 72 by decide)
        exact h0
    case call =>
      intro L W o ao' cap' ho hd hv hAt
      obtain rfl := Option.some.inj ho
      refine .call 10 #[.slice ao' n cap', pv (a1, b1)] ?_ (K1.out ao' cap' W hAt)
      generalize hA : (puts ds L _).eval = ρ
      have hg : ∀ g, ρ (.func g) = .func (.func g) #[] #[] := fun v => by rw [← hA]; rfl
      have h0 : ρ (.tmp 20) = .slice ao' n cap' := by rw [← hA]; exact puts_get 2 ds L _ hap (by rw [hds]; rfl) hv (show 20 < 72 by decide)
      have h1 : ρ (.tmp 21) = pv (a1, b1) := by rw [← hA]; exact puts_get 3 ds L _ hap (by rw [hds]; rfl) (hd 3 (by decide +kernel) (by decide) (by decide) (by decide)) (show 21 < 72 by decide)
      have hf := Try.func10
      unfold execOp
      go_simp
    case step =>
      intro L W i o ho hia his hib hip hic hd hB hJ
      have hi : i < 11 := (Array.getElem?_eq_some_iff.1 ho).1
      have : i = 0 ∨ i = 1 ∨ i = 2 ∨ i = 3 ∨ i = 4 ∨ i = 5 ∨ i = 6 ∨ i = 7 ∨ i = 8 ∨ i = 9 ∨ i = 10 := by omega
      rcases this with rfl | rfl | rfl | rfl | rfl | rfl | rfl | rfl | rfl | rfl | rfl
      · -- 0
        exact absurd rfl hib
      · -- 1
        obtain rfl := Option.some.inj ho
        refine .value W ?_ (Below.refl _ _)
        generalize hA : (puts ds L _).eval = ρ
        have h0 : ρ (.tmp 0) = .slice ao0 n cap0 := by rw [← hA]; exact (puts_old ds L _ (by rw [hds]; decide)).trans rfl
        exact ex_move W rfl h0
      · -- 2
        exact absurd rfl hip
      · -- 3
        obtain rfl := Option.some.inj ho
        have b := hB 0 _ _ _ rfl
        refine .value W ?_ (Below.refl _ _)
        generalize hA : (puts ds L _).eval = ρ
        have h0 : ρ (.tmp 4) = .pointer (some ⟨w.heap.size, 0, none⟩) := by rw [← hA]; exact (puts_old ds L _ (by rw [hds]; decide)).trans rfl
        exact ex_loads rfl h0 b.lo b.hi
      · -- 4
        exact absurd rfl hic
      · -- 5
        obtain rfl := Option.some.inj ho
        refine .value W ?_ (Below.refl _ _)
        generalize hA : (puts ds L _).eval = ρ
        have h0 : ρ (.tmp 22) = .tuple #[pv p, .int .i64 k] := by rw [← hA]; exact puts_get 4 ds L _ hap (by rw [hds]; rfl) (hd 4 (by decide +kernel) (by decide) (by decide) (by decide)) (show 22 < 72 by decide)
        exact ex_move W rfl h0
      · -- 6
        obtain rfl := Option.some.inj ho
        refine .value W ?_ (Below.refl _ _)
        generalize hA : (puts ds L _).eval = ρ
        have hc : ∀ v, ρ (.const v) = v := fun v => by rw [← hA]; rfl
        have h0 : ρ (.tmp 17) = .tuple #[pv p, .int .i64 k] := by rw [← hA]; exact puts_get 5 ds L _ hap (by rw [hds]; rfl) (hd 5 (by decide +kernel) (by decide) (by decide) (by decide)) (show 17 < 72 by decide)
        unfold execOp
        go_simp
      · -- 7
        obtain rfl := Option.some.inj ho
        refine .value W ?_ (Below.refl _ _)
        generalize hA : (puts ds L _).eval = ρ
        have hc : ∀ v, ρ (.const v) = v := fun v => by rw [← hA]; rfl
        have h0 : ρ (.tmp 17) = .tuple #[pv p, .int .i64 k] := by rw [← hA]; exact puts_get 5 ds L _ hap (by rw [hds]; rfl) (hd 5 (by decide +kernel) (by decide) (by decide) (by decide)) (show 17 < 72 by decide)
        unfold execOp
        go_simp
      · -- 8
        exact absurd rfl hia
      · -- 9
        exact absurd rfl his
      · -- 10
        obtain rfl := Option.some.inj ho
        refine .value W ?_ (Below.refl _ _)
        generalize hA : (puts ds L _).eval = ρ
        have h0 : ρ (.tmp 24) = .int .i64 k := by rw [← hA]; exact puts_get 7 ds L _ hap (by rw [hds]; rfl) (hd 7 (by decide +kernel) (by decide) (by decide) (by decide)) (show 24 < 72 by decide)
        exact ex_assign W rfl h0
    case store =>
      intro L W o h x y ho hd hl b
      generalize hA : (puts ds L _).eval = ρ
      obtain rfl := Option.some.inj ho
      have h0 : ρ (.tmp 7) = .pointer (some ⟨h, 0, none⟩) := by rw [← hA]; exact puts_get 8 ds L _ hap (by rw [hds]; rfl) hl (show 7 < 72 by decide)
      have h1 : ρ (.tmp 23) = pv p := by rw [← hA]; exact puts_get 6 ds L _ hap (by rw [hds]; rfl) (hd 6 (by decide +kernel) (by decide) (by decide) (by decide)) (show 23 < 72 by decide)
      exact ⟨ex_store rfl h0 h1 b.lo b.hi b.f0 b.f1, rfl⟩
    case fin =>
      intro g1 v1 v2 w' hC' hJ'
      rw [hds]
      clear hds hap C A K1
      simp only [List.cons_append, List.nil_append] at hC'
      have C := Lib.hid hC'
      have A := Lib.hid hJ'
      clear hC' hJ'
      simp only [List.map_cons, List.map_nil, List.set_cons_zero, List.set_cons_succ, puts, Act.put, List.setIfInBounds_toArray]
      go_upto_region 6 with fail
      generalize hds : ([some 26, some 27, some 28, some 29, some 30, some 25, some 31, some 32, some 9, none, some 10] : List (Option Tmp)) = ds
      have hap : apartL ds = true := by rw [← hds]; decide
      replace hds := hds.symm
      refine wp_region_varR 8 9 0 2 4 q.1 q.2 [undef, .slice ao0 n cap0, undef, pv (a2, b2), .tuple #[pv q, .int .i64 l], .tuple #[pv q, .int .i64 l], pv q, .int .i64 l, undef, undef, .int .i64 l]
        ds (by kernel_rfl) (by rw [hds]; rfl) hap (by decide +kernel) (by decide +kernel) rfl C.out (by decide +kernel) (by decide) (by decide) (by decide +kernel) (by decide +kernel) (by decide +kernel) (by decide) ao0 cap0 n L0 hn.out hrn hn0
        (fun W => Lin w.heap.size ao0 L0 W) A.out.drew (fun _ _ A h => A.on h) (fun W h s t hh A => A.put hh s t) (fun _ _ _ A r k => A.grown r k) (fun _ A => A.at_) ?alloc ?build ?app ?call ?step ?store ?fin
      case alloc => intro o ho; obtain rfl := Option.some.inj ho; rfl
      case build => intro o ho; obtain rfl := Option.some.inj ho; rfl
      case app =>
        intro L o v ho hd hv
        obtain rfl := Option.some.inj ho
        refine ⟨_, _, rfl, ?_, ?_⟩
        · exact puts_get 0 ds L _ hap (by rw [hds]; rfl) hv (show 26 < 72 by decide)
        · generalize hA : (puts ds L _).eval = ρ
          have h0 : ρ (.tmp 27) = .slice ao0 n cap0 := by rw [← hA]; exact puts_get 1 ds L _ hap (by rw [hds]; rfl) (hd 1 (by decide +kernel) (by decide) (by decide) (by decide)) (show 27 < 72 by decide)
          exact h0
      case call =>
        intro L W o ao' cap' ho hd hv hAt
        obtain rfl := Option.some.inj ho
        refine .call 10 #[.slice ao' n cap', pv (a2, b2)] ?_ (K2.out ao' cap' W hAt)
        generalize hA : (puts ds L _).eval = ρ
        have hg : ∀ g, ρ (.func g) = .func (.func g) #[] #[] := fun v => by rw [← hA]; rfl
        have h0 : ρ (.tmp 28) = .slice ao' n cap' := by rw [← hA]; exact puts_get 2 ds L _ hap (by rw [hds]; rfl) hv (show 28 < 72 by decide)
        have h1 : ρ (.tmp 29) = pv (a2, b2) := by rw [← hA]; exact puts_get 3 ds L _ hap (by rw [hds]; rfl) (hd 3 (by decide +kernel) (by decide) (by decide) (by decide)) (show 29 < 72 by decide)
        have hf := Try.func10
        unfold execOp
        go_simp
      case step =>
        intro L W i o ho hia his hib hip hic hd hB hJ
        have hi : i < 11 := (Array.getElem?_eq_some_iff.1 ho).1
        have : i = 0 ∨ i = 1 ∨ i = 2 ∨ i = 3 ∨ i = 4 ∨ i = 5 ∨ i = 6 ∨ i = 7 ∨ i = 8 ∨ i = 9 ∨ i = 10 := by omega
        rcases this with rfl | rfl | rfl | rfl | rfl | rfl | rfl | rfl | rfl | rfl | rfl
        · -- 0
          exact absurd rfl hib
        · -- 1
          obtain rfl := Option.some.inj ho
          refine .value W ?_ (Below.refl _ _)
          generalize hA : (puts ds L _).eval = ρ
          have h0 : ρ (.tmp 0) = .slice ao0 n cap0 := by rw [← hA]; exact (puts_old ds L _ (by rw [hds]; decide)).trans rfl
          exact ex_move W rfl h0
        · -- 2
          exact absurd rfl hip
        · -- 3
          obtain rfl := Option.some.inj ho
          have b := hB 1 _ _ _ rfl
          refine .value W ?_ (Below.refl _ _)
          generalize hA : (puts ds L _).eval = ρ
          have h0 : ρ (.tmp 5) = .pointer (some ⟨w.heap.size + 1, 0, none⟩) := by rw [← hA]; exact (puts_old ds L _ (by rw [hds]; decide)).trans rfl
          exact ex_loads rfl h0 b.lo b.hi
        · -- 4
          exact absurd rfl hic
        · -- 5
          obtain rfl := Option.some.inj ho
          refine .value W ?_ (Below.refl _ _)
          generalize hA : (puts ds L _).eval = ρ
          have h0 : ρ (.tmp 30) = .tuple #[pv q, .int .i64 l] := by rw [← hA]; exact puts_get 4 ds L _ hap (by rw [hds]; rfl) (hd 4 (by decide +kernel) (by decide) (by decide) (by decide)) (show 30 < 72 by decide)
          exact ex_move W rfl h0
        · -- 6
          obtain rfl := Option.some.inj ho
          refine .value W ?_ (Below.refl _ _)
          generalize hA : (puts ds L _).eval = ρ
          have hc : ∀ v, ρ (.const v) = v := fun v => by rw [← hA]; rfl
          have h0 : ρ (.tmp 25) = .tuple #[pv q, .int .i64 l] := by rw [← hA]; exact puts_get 5 ds L _ hap (by rw [hds]; rfl) (hd 5 (by decide +kernel) (by decide) (by decide) (by decide)) (show 25 < 72 by decide)
          unfold execOp
          go_simp
        · -- 7
          obtain rfl := Option.some.inj ho
          refine .value W ?_ (Below.refl _ _)
          generalize hA : (puts ds L _).eval = ρ
          have hc : ∀ v, ρ (.const v) = v := fun v => by rw [← hA]; rfl
          have h0 : ρ (.tmp 25) = .tuple #[pv q, .int .i64 l] := by rw [← hA]; exact puts_get 5 ds L _ hap (by rw [hds]; rfl) (hd 5 (by decide +kernel) (by decide) (by decide) (by decide)) (show 25 < 72 by decide)
          unfold execOp
          go_simp
        · -- 8
          exact absurd rfl hia
        · -- 9
          exact absurd rfl his
        · -- 10
          obtain rfl := Option.some.inj ho
          refine .value W ?_ (Below.refl _ _)
          generalize hA : (puts ds L _).eval = ρ
          have h0 : ρ (.tmp 32) = .int .i64 l := by rw [← hA]; exact puts_get 7 ds L _ hap (by rw [hds]; rfl) (hd 7 (by decide +kernel) (by decide) (by decide) (by decide)) (show 32 < 72 by decide)
          exact ex_assign W rfl h0
      case store =>
        intro L W o h x y ho hd hl b
        generalize hA : (puts ds L _).eval = ρ
        obtain rfl := Option.some.inj ho
        have h0 : ρ (.tmp 9) = .pointer (some ⟨h, 0, none⟩) := by rw [← hA]; exact puts_get 8 ds L _ hap (by rw [hds]; rfl) hl (show 9 < 72 by decide)
        have h1 : ρ (.tmp 31) = pv q := by rw [← hA]; exact puts_get 6 ds L _ hap (by rw [hds]; rfl) (hd 6 (by decide +kernel) (by decide) (by decide) (by decide)) (show 31 < 72 by decide)
        exact ⟨ex_store rfl h0 h1 b.lo b.hi b.f0 b.f1, rfl⟩
      case fin =>
        intro g2 v1 v2 w' hC' hJ'
        rw [hds]
        clear hds hap C A K2
        simp only [List.cons_append, List.nil_append] at hC'
        have C := Lib.hid hC'
        have A := Lib.hid hJ'
        clear hC' hJ'
        by_cases hk0 : k = 0
        · by_cases hl0 : l = 0
          · have t1 : (k == 0) = true := by simpa using hk0
            have t2 : (l == 0) = true := by simpa using hl0
            have I2 := IH.out hk0 hl0
            unfold spanV at I2
            have p0 := (C.out.at_ 2 rfl).lo
            have p1 := (C.out.at_ 2 rfl).hi
            have q0 := (C.out.at_ 3 rfl).lo
            have q1 := (C.out.at_ 3 rfl).hi
            obtain ⟨p1', p2'⟩ := p
            obtain ⟨q1', q2'⟩ := q
            dsimp only at p0 p1 q0 q1 I2
            replace I2 := Lib.hid I2
            clear hk0 hl0 IH
            simp only [List.map_cons, List.map_nil, List.set_cons_zero, List.set_cons_succ, puts, Act.put, List.setIfInBounds_toArray]
            go_wp2_with fail
            refine (I2.out _).mono ?_
            rintro _ v8 ⟨rfl, hb⟩
            replace C := Lib.hid (C.out.on hb)
            replace A := Lib.hid (A.out.on hb)
            clear hb p0 p1 q0 q1 I2
            go_upto_region 9 with fail
            clear t1 t2
            generalize hds : ([some 46, some 47, some 48, some 49, some 50, some 45, some 51, some 52, none, some 8] : List (Option Tmp)) = ds
            have hap : apartL ds = true := by rw [← hds]; decide
            replace hds := hds.symm
            refine wp_region_stsR 8 0 2 4 2 g1 u.1 u.2 [undef, .slice ao0 n cap0, undef, pv (a1, b1), .tuple #[pv u, .int .i64 mm], .tuple #[pv u, .int .i64 mm], pv u, .int .i64 mm, undef, .int .i64 mm]
              ds (by kernel_rfl) (by rw [hds]; rfl) hap (by decide +kernel) (by decide +kernel) rfl C.out rfl (by decide) (by decide +kernel) (by decide +kernel) (by decide +kernel) (by decide) ao0 cap0 n L0 hn.out hrn hn0
              (fun W => Lin w.heap.size ao0 L0 W) A.out.drew (fun _ _ A h => A.on h) (fun W h s t hh A => A.put hh s t) (fun _ _ _ A r k => A.grown r k) (fun _ A => A.at_) ?build ?app ?call ?step ?store ?fin
            case build => intro o ho; obtain rfl := Option.some.inj ho; rfl
            case app =>
              intro L o v ho hd hv
              obtain rfl := Option.some.inj ho
              refine ⟨_, _, rfl, ?_, ?_⟩
              · exact puts_get 0 ds L _ hap (by rw [hds]; rfl) hv (show 46 < 72 by decide)
              · generalize hA : (puts ds L _).eval = ρ
                have h0 : ρ (.tmp 47) = .slice ao0 n cap0 := by rw [← hA]; exact puts_get 1 ds L _ hap (by rw [hds]; rfl) (hd 1 (by decide +kernel) (by decide) (by decide)) (show 47 < 72 by decide)
                exact h0
            case call =>
              intro L W o ao' cap' ho hd hv hAt
              obtain rfl := Option.some.inj ho
              refine .call 13 #[.slice ao' n cap', pv (a1, b1)] ?_ (K3.out ao' cap' W hAt)
              generalize hA : (puts ds L _).eval = ρ
              have hg : ∀ g, ρ (.func g) = .func (.func g) #[] #[] := fun v => by rw [← hA]; rfl
              have h0 : ρ (.tmp 48) = .slice ao' n cap' := by rw [← hA]; exact puts_get 2 ds L _ hap (by rw [hds]; rfl) hv (show 48 < 72 by decide)
              have h1 : ρ (.tmp 49) = pv (a1, b1) := by rw [← hA]; exact puts_get 3 ds L _ hap (by rw [hds]; rfl) (hd 3 (by decide +kernel) (by decide) (by decide)) (show 49 < 72 by decide)
              have hf := Try.func13
              unfold execOp
              go_simp
            case step =>
              intro L W i o ho his hib hip hic hd hB hJ
              have hi : i < 10 := (Array.getElem?_eq_some_iff.1 ho).1
              have : i = 0 ∨ i = 1 ∨ i = 2 ∨ i = 3 ∨ i = 4 ∨ i = 5 ∨ i = 6 ∨ i = 7 ∨ i = 8 ∨ i = 9 := by omega
              rcases this with rfl | rfl | rfl | rfl | rfl | rfl | rfl | rfl | rfl | rfl
              · -- 0
                exact absurd rfl hib
              · -- 1
                obtain rfl := Option.some.inj ho
                refine .value W ?_ (Below.refl _ _)
                generalize hA : (puts ds L _).eval = ρ
                have h0 : ρ (.tmp 0) = .slice ao0 n cap0 := by rw [← hA]; exact (puts_old ds L _ (by rw [hds]; decide)).trans rfl
                exact ex_move W rfl h0
              · -- 2
                exact absurd rfl hip
              · -- 3
                obtain rfl := Option.some.inj ho
                have b := hB 0 _ _ _ rfl (by decide)
                refine .value W ?_ (Below.refl _ _)
                generalize hA : (puts ds L _).eval = ρ
                have h0 : ρ (.tmp 4) = .pointer (some ⟨w.heap.size, 0, none⟩) := by rw [← hA]; exact (puts_old ds L _ (by rw [hds]; decide)).trans rfl
                exact ex_loads rfl h0 b.lo b.hi
              · -- 4
                exact absurd rfl hic
              · -- 5
                obtain rfl := Option.some.inj ho
                refine .value W ?_ (Below.refl _ _)
                generalize hA : (puts ds L _).eval = ρ
                have h0 : ρ (.tmp 50) = .tuple #[pv u, .int .i64 mm] := by rw [← hA]; exact puts_get 4 ds L _ hap (by rw [hds]; rfl) (hd 4 (by decide +kernel) (by decide) (by decide)) (show 50 < 72 by decide)
                exact ex_move W rfl h0
              · -- 6
                obtain rfl := Option.some.inj ho
                refine .value W ?_ (Below.refl _ _)
                generalize hA : (puts ds L _).eval = ρ
                have hc : ∀ v, ρ (.const v) = v := fun v => by rw [← hA]; rfl
                have h0 : ρ (.tmp 45) = .tuple #[pv u, .int .i64 mm] := by rw [← hA]; exact puts_get 5 ds L _ hap (by rw [hds]; rfl) (hd 5 (by decide +kernel) (by decide) (by decide)) (show 45 < 72 by decide)
                unfold execOp
                go_simp
              · -- 7
                obtain rfl := Option.some.inj ho
                refine .value W ?_ (Below.refl _ _)
                generalize hA : (puts ds L _).eval = ρ
                have hc : ∀ v, ρ (.const v) = v := fun v => by rw [← hA]; rfl
                have h0 : ρ (.tmp 45) = .tuple #[pv u, .int .i64 mm] := by rw [← hA]; exact puts_get 5 ds L _ hap (by rw [hds]; rfl) (hd 5 (by decide +kernel) (by decide) (by decide)) (show 45 < 72 by decide)
                unfold execOp
                go_simp
              · -- 8
                exact absurd rfl his
              · -- 9
                obtain rfl := Option.some.inj ho
                refine .value W ?_ (Below.refl _ _)
                generalize hA : (puts ds L _).eval = ρ
                have h0 : ρ (.tmp 52) = .int .i64 mm := by rw [← hA]; exact puts_get 7 ds L _ hap (by rw [hds]; rfl) (hd 7 (by decide +kernel) (by decide) (by decide)) (show 52 < 72 by decide)
                exact ex_assign W rfl h0
            case store =>
              intro L W o x y ho hd b
              generalize hA : (puts ds L _).eval = ρ
              obtain rfl := Option.some.inj ho
              have h0 : ρ (.tmp 7) = .pointer (some ⟨g1, 0, none⟩) := by rw [← hA]; exact (puts_old ds L _ (by rw [hds]; decide)).trans rfl
              have h1 : ρ (.tmp 51) = pv u := by rw [← hA]; exact puts_get 6 ds L _ hap (by rw [hds]; rfl) (hd 6 (by decide +kernel) (by decide) (by decide)) (show 51 < 72 by decide)
              exact ⟨ex_store rfl h0 h1 b.lo b.hi b.f0 b.f1, rfl⟩
            case fin =>
              intro v1 v2 w' hC' hJ'
              rw [hds]
              clear hds hap C A
              simp only [List.set_cons_zero, List.set_cons_succ] at hC'
              have C := Lib.hid hC'
              have A := Lib.hid hJ'
              clear hC' hJ'
              simp only [List.map_cons, List.map_nil, List.set_cons_zero, List.set_cons_succ, puts, Act.put, List.setIfInBounds_toArray]
              clear K3
              go_upto_region 10 with fail
              generalize hds : ([some 54, some 55, some 56, some 57, some 58, some 53, some 59, some 60, none, some 10] : List (Option Tmp)) = ds
              have hap : apartL ds = true := by rw [← hds]; decide
              replace hds := hds.symm
              refine wp_region_stsR 8 0 2 4 3 g2 v.1 v.2 [undef, .slice ao0 n cap0, undef, pv (a2, b2), .tuple #[pv v, .int .i64 oo], .tuple #[pv v, .int .i64 oo], pv v, .int .i64 oo, undef, .int .i64 oo]
                ds (by kernel_rfl) (by rw [hds]; rfl) hap (by decide +kernel) (by decide +kernel) rfl C.out rfl (by decide) (by decide +kernel) (by decide +kernel) (by decide +kernel) (by decide) ao0 cap0 n L0 hn.out hrn hn0
                (fun W => Lin w.heap.size ao0 L0 W) A.out.drew (fun _ _ A h => A.on h) (fun W h s t hh A => A.put hh s t) (fun _ _ _ A r k => A.grown r k) (fun _ A => A.at_) ?build ?app ?call ?step ?store ?fin
              case build => intro o ho; obtain rfl := Option.some.inj ho; rfl
              case app =>
                intro L o v ho hd hv
                obtain rfl := Option.some.inj ho
                refine ⟨_, _, rfl, ?_, ?_⟩
                · exact puts_get 0 ds L _ hap (by rw [hds]; rfl) hv (show 54 < 72 by decide)
                · generalize hA : (puts ds L _).eval = ρ
                  have h0 : ρ (.tmp 55) = .slice ao0 n cap0 := by rw [← hA]; exact puts_get 1 ds L _ hap (by rw [hds]; rfl) (hd 1 (by decide +kernel) (by decide) (by decide)) (show 55 < 72 by decide)
                  exact h0
              case call =>
                intro L W o ao' cap' ho hd hv hAt
                obtain rfl := Option.some.inj ho
                refine .call 13 #[.slice ao' n cap', pv (a2, b2)] ?_ (K4.out ao' cap' W hAt)
                generalize hA : (puts ds L _).eval = ρ
                have hg : ∀ g, ρ (.func g) = .func (.func g) #[] #[] := fun v => by rw [← hA]; rfl
                have h0 : ρ (.tmp 56) = .slice ao' n cap' := by rw [← hA]; exact puts_get 2 ds L _ hap (by rw [hds]; rfl) hv (show 56 < 72 by decide)
                have h1 : ρ (.tmp 57) = pv (a2, b2) := by rw [← hA]; exact puts_get 3 ds L _ hap (by rw [hds]; rfl) (hd 3 (by decide +kernel) (by decide) (by decide)) (show 57 < 72 by decide)
                have hf := Try.func13
                unfold execOp
                go_simp
              case step =>
                intro L W i o ho his hib hip hic hd hB hJ
                have hi : i < 10 := (Array.getElem?_eq_some_iff.1 ho).1
                have : i = 0 ∨ i = 1 ∨ i = 2 ∨ i = 3 ∨ i = 4 ∨ i = 5 ∨ i = 6 ∨ i = 7 ∨ i = 8 ∨ i = 9 := by omega
                rcases this with rfl | rfl | rfl | rfl | rfl | rfl | rfl | rfl | rfl | rfl
                · -- 0
                  exact absurd rfl hib
                · -- 1
                  obtain rfl := Option.some.inj ho
                  refine .value W ?_ (Below.refl _ _)
                  generalize hA : (puts ds L _).eval = ρ
                  have h0 : ρ (.tmp 0) = .slice ao0 n cap0 := by rw [← hA]; exact (puts_old ds L _ (by rw [hds]; decide)).trans rfl
                  exact ex_move W rfl h0
                · -- 2
                  exact absurd rfl hip
                · -- 3
                  obtain rfl := Option.some.inj ho
                  have b := hB 1 _ _ _ rfl (by decide)
                  refine .value W ?_ (Below.refl _ _)
                  generalize hA : (puts ds L _).eval = ρ
                  have h0 : ρ (.tmp 5) = .pointer (some ⟨w.heap.size + 1, 0, none⟩) := by rw [← hA]; exact (puts_old ds L _ (by rw [hds]; decide)).trans rfl
                  exact ex_loads rfl h0 b.lo b.hi
                · -- 4
                  exact absurd rfl hic
                · -- 5
                  obtain rfl := Option.some.inj ho
                  refine .value W ?_ (Below.refl _ _)
                  generalize hA : (puts ds L _).eval = ρ
                  have h0 : ρ (.tmp 58) = .tuple #[pv v, .int .i64 oo] := by rw [← hA]; exact puts_get 4 ds L _ hap (by rw [hds]; rfl) (hd 4 (by decide +kernel) (by decide) (by decide)) (show 58 < 72 by decide)
                  exact ex_move W rfl h0
                · -- 6
                  obtain rfl := Option.some.inj ho
                  refine .value W ?_ (Below.refl _ _)
                  generalize hA : (puts ds L _).eval = ρ
                  have hc : ∀ v, ρ (.const v) = v := fun v => by rw [← hA]; rfl
                  have h0 : ρ (.tmp 53) = .tuple #[pv v, .int .i64 oo] := by rw [← hA]; exact puts_get 5 ds L _ hap (by rw [hds]; rfl) (hd 5 (by decide +kernel) (by decide) (by decide)) (show 53 < 72 by decide)
                  unfold execOp
                  go_simp
                · -- 7
                  obtain rfl := Option.some.inj ho
                  refine .value W ?_ (Below.refl _ _)
                  generalize hA : (puts ds L _).eval = ρ
                  have hc : ∀ v, ρ (.const v) = v := fun v => by rw [← hA]; rfl
                  have h0 : ρ (.tmp 53) = .tuple #[pv v, .int .i64 oo] := by rw [← hA]; exact puts_get 5 ds L _ hap (by rw [hds]; rfl) (hd 5 (by decide +kernel) (by decide) (by decide)) (show 53 < 72 by decide)
                  unfold execOp
                  go_simp
                · -- 8
                  exact absurd rfl his
                · -- 9
                  obtain rfl := Option.some.inj ho
                  refine .value W ?_ (Below.refl _ _)
                  generalize hA : (puts ds L _).eval = ρ
                  have h0 : ρ (.tmp 60) = .int .i64 oo := by rw [← hA]; exact puts_get 7 ds L _ hap (by rw [hds]; rfl) (hd 7 (by decide +kernel) (by decide) (by decide)) (show 60 < 72 by decide)
                  exact ex_assign W rfl h0
              case store =>
                intro L W o x y ho hd b
                generalize hA : (puts ds L _).eval = ρ
                obtain rfl := Option.some.inj ho
                have h0 : ρ (.tmp 9) = .pointer (some ⟨g2, 0, none⟩) := by rw [← hA]; exact (puts_old ds L _ (by rw [hds]; decide)).trans rfl
                have h1 : ρ (.tmp 59) = pv v := by rw [← hA]; exact puts_get 6 ds L _ hap (by rw [hds]; rfl) (hd 6 (by decide +kernel) (by decide) (by decide)) (show 59 < 72 by decide)
                exact ⟨ex_store rfl h0 h1 b.lo b.hi b.f0 b.f1, rfl⟩
              case fin =>
                intro v1 v2 w' hC' hJ'
                rw [hds]
                clear hds hap C A
                simp only [List.set_cons_zero, List.set_cons_succ] at hC'
                have C := Lib.hid hC'
                have A := Lib.hid hJ'
                clear hC' hJ'
                simp only [List.map_cons, List.map_nil, List.set_cons_zero, List.set_cons_succ, puts, Act.put, List.setIfInBounds_toArray]
                have p0 := (C.out.at_ 2 rfl).lo
                have p1 := (C.out.at_ 2 rfl).hi
                have q0 := (C.out.at_ 3 rfl).lo
                have q1 := (C.out.at_ 3 rfl).hi
                by_cases hm0 : mm = 0
                · have t1 : (mm != 0) = false := by simpa using hm0
                  by_cases ho0 : oo = 0
                  · have t2 : (oo != 0) = false := by simpa using ho0
                    have I2 := IC.out hm0 ho0
                    unfold spanV at I2
                    obtain ⟨u1, u2⟩ := u
                    obtain ⟨v1, v2⟩ := v
                    replace C := Lib.hid C.out.old
                    dsimp only at p0 p1 q0 q1 I2
                    replace I2 := Lib.hid I2
                    clear hm0 ho0 IC A hn hst
                    go_wp2_with fail
                    refine (I2.out _).mono ?_
                    rintro _ v8 ⟨rfl, hb⟩
                    have B9 := Lib.hid (C.out.trans (hb.mono C.out.size))
                    clear hb C p0 p1 q0 q1 I2
                    go_wp2_with fail
                    go_ret
                    exact ⟨by first | rfl | trivial, B9.out⟩
                  · have t2 : (oo != 0) = true := by simpa using ho0
                    replace C := Lib.hid C.out.old
                    clear hm0 ho0 IC A hn p0 p1 q0 q1 hst
                    go_wp2_with fail
                    go_ret
                    exact ⟨by first | rfl | trivial, C.out⟩
                · have t1 : (mm != 0) = true := by simpa using hm0
                  replace C := Lib.hid C.out.old
                  clear hm0 IC A hn p0 p1 q0 q1 hst
                  go_wp2_with fail
                  go_ret
                  exact ⟨by first | rfl | trivial, C.out⟩
          · have t1 : (k == 0) = true := by simpa using hk0
            have t2 : (l == 0) = false := by simpa using hl0
            clear hk0 hl0 IH
            simp only [List.map_cons, List.map_nil, List.set_cons_zero, List.set_cons_succ, puts, Act.put, List.setIfInBounds_toArray]
            go_upto_region 9 with fail
            clear t1 t2
            generalize hds : ([some 46, some 47, some 48, some 49, some 50, some 45, some 51, some 52, none, some 8] : List (Option Tmp)) = ds
            have hap : apartL ds = true := by rw [← hds]; decide
            replace hds := hds.symm
            refine wp_region_stsR 8 0 2 4 2 g1 u.1 u.2 [undef, .slice ao0 n cap0, undef, pv (a1, b1), .tuple #[pv u, .int .i64 mm], .tuple #[pv u, .int .i64 mm], pv u, .int .i64 mm, undef, .int .i64 mm]
              ds (by kernel_rfl) (by rw [hds]; rfl) hap (by decide +kernel) (by decide +kernel) rfl C.out rfl (by decide) (by decide +kernel) (by decide +kernel) (by decide +kernel) (by decide) ao0 cap0 n L0 hn.out hrn hn0
              (fun W => Lin w.heap.size ao0 L0 W) A.out.drew (fun _ _ A h => A.on h) (fun W h s t hh A => A.put hh s t) (fun _ _ _ A r k => A.grown r k) (fun _ A => A.at_) ?build ?app ?call ?step ?store ?fin
            case build => intro o ho; obtain rfl := Option.some.inj ho; rfl
            case app =>
              intro L o v ho hd hv
              obtain rfl := Option.some.inj ho
              refine ⟨_, _, rfl, ?_, ?_⟩
              · exact puts_get 0 ds L _ hap (by rw [hds]; rfl) hv (show 46 < 72 by decide)
              · generalize hA : (puts ds L _).eval = ρ
                have h0 : ρ (.tmp 47) = .slice ao0 n cap0 := by rw [← hA]; exact puts_get 1 ds L _ hap (by rw [hds]; rfl) (hd 1 (by decide +kernel) (by decide) (by decide)) (show 47 < 72 by decide)
                exact h0
            case call =>
              intro L W o ao' cap' ho hd hv hAt
              obtain rfl := Option.some.inj ho
              refine .call 13 #[.slice ao' n cap', pv (a1, b1)] ?_ (K3.out ao' cap' W hAt)
              generalize hA : (puts ds L _).eval = ρ
              have hg : ∀ g, ρ (.func g) = .func (.func g) #[] #[] := fun v => by rw [← hA]; rfl
              have h0 : ρ (.tmp 48) = .slice ao' n cap' := by rw [← hA]; exact puts_get 2 ds L _ hap (by rw [hds]; rfl) hv (show 48 < 72 by decide)
              have h1 : ρ (.tmp 49) = pv (a1, b1) := by rw [← hA]; exact puts_get 3 ds L _ hap (by rw [hds]; rfl) (hd 3 (by decide +kernel) (by decide) (by decide)) (show 49 < 72 by decide)
              have hf := Try.func13
              unfold execOp
              go_simp
            case step =>
              intro L W i o ho his hib hip hic hd hB hJ
              have hi : i < 10 := (Array.getElem?_eq_some_iff.1 ho).1
              have : i = 0 ∨ i = 1 ∨ i = 2 ∨ i = 3 ∨ i = 4 ∨ i = 5 ∨ i = 6 ∨ i = 7 ∨ i = 8 ∨ i = 9 := by omega
              rcases this with rfl | rfl | rfl | rfl | rfl | rfl | rfl | rfl | rfl | rfl
              · -- 0
                exact absurd rfl hib
              · -- 1
                obtain rfl := Option.some.inj ho
                refine .value W ?_ (Below.refl _ _)
                generalize hA : (puts ds L _).eval = ρ
                have h0 : ρ (.tmp 0) = .slice ao0 n cap0 := by rw [← hA]; exact (puts_old ds L _ (by rw [hds]; decide)).trans rfl
                exact ex_move W rfl h0
              · -- 2
                exact absurd rfl hip
              · -- 3
                obtain rfl := Option.some.inj ho
                have b := hB 0 _ _ _ rfl (by decide)
                refine .value W ?_ (Below.refl _ _)
                generalize hA : (puts ds L _).eval = ρ
                have h0 : ρ (.tmp 4) = .pointer (some ⟨w.heap.size, 0, none⟩) := by rw [← hA]; exact (puts_old ds L _ (by rw [hds]; decide)).trans rfl
                exact ex_loads rfl h0 b.lo b.hi
              · -- 4
                exact absurd rfl hic
              · -- 5
                obtain rfl := Option.some.inj ho
                refine .value W ?_ (Below.refl _ _)
                generalize hA : (puts ds L _).eval = ρ
                have h0 : ρ (.tmp 50) = .tuple #[pv u, .int .i64 mm] := by rw [← hA]; exact puts_get 4 ds L _ hap (by rw [hds]; rfl) (hd 4 (by decide +kernel) (by decide) (by decide)) (show 50 < 72 by decide)
                exact ex_move W rfl h0
              · -- 6
                obtain rfl := Option.some.inj ho
                refine .value W ?_ (Below.refl _ _)
                generalize hA : (puts ds L _).eval = ρ
                have hc : ∀ v, ρ (.const v) = v := fun v => by rw [← hA]; rfl
                have h0 : ρ (.tmp 45) = .tuple #[pv u, .int .i64 mm] := by rw [← hA]; exact puts_get 5 ds L _ hap (by rw [hds]; rfl) (hd 5 (by decide +kernel) (by decide) (by decide)) (show 45 < 72 by decide)
                unfold execOp
                go_simp
              · -- 7
                obtain rfl := Option.some.inj ho
                refine .value W ?_ (Below.refl _ _)
                generalize hA : (puts ds L _).eval = ρ
                have hc : ∀ v, ρ (.const v) = v := fun v => by rw [← hA]; rfl
                have h0 : ρ (.tmp 45) = .tuple #[pv u, .int .i64 mm] := by rw [← hA]; exact puts_get 5 ds L _ hap (by rw [hds]; rfl) (hd 5 (by decide +kernel) (by decide) (by decide)) (show 45 < 72 by decide)
                unfold execOp
                go_simp
              · -- 8
                exact absurd rfl his
              · -- 9
                obtain rfl := Option.some.inj ho
                refine .value W ?_ (Below.refl _ _)
                generalize hA : (puts ds L _).eval = ρ
                have h0 : ρ (.tmp 52) = .int .i64 mm := by rw [← hA]; exact puts_get 7 ds L _ hap (by rw [hds]; rfl) (hd 7 (by decide +kernel) (by decide) (by decide)) (show 52 < 72 by decide)
                exact ex_assign W rfl h0
            case store =>
              intro L W o x y ho hd b
              generalize hA : (puts ds L _).eval = ρ
              obtain rfl := Option.some.inj ho
              have h0 : ρ (.tmp 7) = .pointer (some ⟨g1, 0, none⟩) := by rw [← hA]; exact (puts_old ds L _ (by rw [hds]; decide)).trans rfl
              have h1 : ρ (.tmp 51) = pv u := by rw [← hA]; exact puts_get 6 ds L _ hap (by rw [hds]; rfl) (hd 6 (by decide +kernel) (by decide) (by decide)) (show 51 < 72 by decide)
              exact ⟨ex_store rfl h0 h1 b.lo b.hi b.f0 b.f1, rfl⟩
            case fin =>
              intro v1 v2 w' hC' hJ'
              rw [hds]
              clear hds hap C A
              simp only [List.set_cons_zero, List.set_cons_succ] at hC'
              have C := Lib.hid hC'
              have A := Lib.hid hJ'
              clear hC' hJ'
              simp only [List.map_cons, List.map_nil, List.set_cons_zero, List.set_cons_succ, puts, Act.put, List.setIfInBounds_toArray]
              clear K3
              go_upto_region 10 with fail
              generalize hds : ([some 54, some 55, some 56, some 57, some 58, some 53, some 59, some 60, none, some 10] : List (Option Tmp)) = ds
              have hap : apartL ds = true := by rw [← hds]; decide
              replace hds := hds.symm
              refine wp_region_stsR 8 0 2 4 3 g2 v.1 v.2 [undef, .slice ao0 n cap0, undef, pv (a2, b2), .tuple #[pv v, .int .i64 oo], .tuple #[pv v, .int .i64 oo], pv v, .int .i64 oo, undef, .int .i64 oo]
                ds (by kernel_rfl) (by rw [hds]; rfl) hap (by decide +kernel) (by decide +kernel) rfl C.out rfl (by decide) (by decide +kernel) (by decide +kernel) (by decide +kernel) (by decide) ao0 cap0 n L0 hn.out hrn hn0
                (fun W => Lin w.heap.size ao0 L0 W) A.out.drew (fun _ _ A h => A.on h) (fun W h s t hh A => A.put hh s t) (fun _ _ _ A r k => A.grown r k) (fun _ A => A.at_) ?build ?app ?call ?step ?store ?fin
              case build => intro o ho; obtain rfl := Option.some.inj ho; rfl
              case app =>
                intro L o v ho hd hv
                obtain rfl := Option.some.inj ho
                refine ⟨_, _, rfl, ?_, ?_⟩
                · exact puts_get 0 ds L _ hap (by rw [hds]; rfl) hv (show 54 < 72 by decide)
                · generalize hA : (puts ds L _).eval = ρ
                  have h0 : ρ (.tmp 55) = .slice ao0 n cap0 := by rw [← hA]; exact puts_get 1 ds L _ hap (by rw [hds]; rfl) (hd 1 (by decide +kernel) (by decide) (by decide)) (show 55 < 72 by decide)
                  exact h0
              case call =>
                intro L W o ao' cap' ho hd hv hAt
                obtain rfl := Option.some.inj ho
                refine .call 13 #[.slice ao' n cap', pv (a2, b2)] ?_ (K4.out ao' cap' W hAt)
                generalize hA : (puts ds L _).eval = ρ
                have hg : ∀ g, ρ (.func g) = .func (.func g) #[] #[] := fun v => by rw [← hA]; rfl
                have h0 : ρ (.tmp 56) = .slice ao' n cap' := by rw [← hA]; exact puts_get 2 ds L _ hap (by rw [hds]; rfl) hv (show 56 < 72 by decide)
                have h1 : ρ (.tmp 57) = pv (a2, b2) := by rw [← hA]; exact puts_get 3 ds L _ hap (by rw [hds]; rfl) (hd 3 (by decide +kernel) (by decide) (by decide)) (show 57 < 72 by decide)
                have hf := Try.func13
                unfold execOp
                go_simp
              case step =>
                intro L W i o ho his hib hip hic hd hB hJ
                have hi : i < 10 := (Array.getElem?_eq_some_iff.1 ho).1
                have : i = 0 ∨ i = 1 ∨ i = 2 ∨ i = 3 ∨ i = 4 ∨ i = 5 ∨ i = 6 ∨ i = 7 ∨ i = 8 ∨ i = 9 := by omega
                rcases this with rfl | rfl | rfl | rfl | rfl | rfl | rfl | rfl | rfl | rfl
                · -- 0
                  exact absurd rfl hib
                · -- 1
                  obtain rfl := Option.some.inj ho
                  refine .value W ?_ (Below.refl _ _)
                  generalize hA : (puts ds L _).eval = ρ
                  have h0 : ρ (.tmp 0) = .slice ao0 n cap0 := by rw [← hA]; exact (puts_old ds L _ (by rw [hds]; decide)).trans rfl
                  exact ex_move W rfl h0
                · -- 2
                  exact absurd rfl hip
                · -- 3
                  obtain rfl := Option.some.inj ho
                  have b := hB 1 _ _ _ rfl (by decide)
                  refine .value W ?_ (Below.refl _ _)
                  generalize hA : (puts ds L _).eval = ρ
                  have h0 : ρ (.tmp 5) = .pointer (some ⟨w.heap.size + 1, 0, none⟩) := by rw [← hA]; exact (puts_old ds L _ (by rw [hds]; decide)).trans rfl
                  exact ex_loads rfl h0 b.lo b.hi
                · -- 4
                  exact absurd rfl hic
                · -- 5
                  obtain rfl := Option.some.inj ho
                  refine .value W ?_ (Below.refl _ _)
                  generalize hA : (puts ds L _).eval = ρ
                  have h0 : ρ (.tmp 58) = .tuple #[pv v, .int .i64 oo] := by rw [← hA]; exact puts_get 4 ds L _ hap (by rw [hds]; rfl) (hd 4 (by decide +kernel) (by decide) (by decide)) (show 58 < 72 by decide)
                  exact ex_move W rfl h0
                · -- 6
                  obtain rfl := Option.some.inj ho
                  refine .value W ?_ (Below.refl _ _)
                  generalize hA : (puts ds L _).eval = ρ
                  have hc : ∀ v, ρ (.const v) = v := fun v => by rw [← hA]; rfl
                  have h0 : ρ (.tmp 53) = .tuple #[pv v, .int .i64 oo] := by rw [← hA]; exact puts_get 5 ds L _ hap (by rw [hds]; rfl) (hd 5 (by decide +kernel) (by decide) (by decide)) (show 53 < 72 by decide)
                  unfold execOp
                  go_simp
                · -- 7
                  obtain rfl := Option.some.inj ho
                  refine .value W ?_ (Below.refl _ _)
                  generalize hA : (puts ds L _).eval = ρ
                  have hc : ∀ v, ρ (.const v) = v := fun v => by rw [← hA]; rfl
                  have h0 : ρ (.tmp 53) = .tuple #[pv v, .int .i64 oo] := by rw [← hA]; exact puts_get 5 ds L _ hap (by rw [hds]; rfl) (hd 5 (by decide +kernel) (by decide) (by decide)) (show 53 < 72 by decide)
                  unfold execOp
                  go_simp
                · -- 8
                  exact absurd rfl his
                · -- 9
                  obtain rfl := Option.some.inj ho
                  refine .value W ?_ (Below.refl _ _)
                  generalize hA : (puts ds L _).eval = ρ
                  have h0 : ρ (.tmp 60) = .int .i64 oo := by rw [← hA]; exact puts_get 7 ds L _ hap (by rw [hds]; rfl) (hd 7 (by decide +kernel) (by decide) (by decide)) (show 60 < 72 by decide)
                  exact ex_assign W rfl h0
              case store =>
                intro L W o x y ho hd b
                generalize hA : (puts ds L _).eval = ρ
                obtain rfl := Option.some.inj ho
                have h0 : ρ (.tmp 9) = .pointer (some ⟨g2, 0, none⟩) := by rw [← hA]; exact (puts_old ds L _ (by rw [hds]; decide)).trans rfl
                have h1 : ρ (.tmp 59) = pv v := by rw [← hA]; exact puts_get 6 ds L _ hap (by rw [hds]; rfl) (hd 6 (by decide +kernel) (by decide) (by decide)) (show 59 < 72 by decide)
                exact ⟨ex_store rfl h0 h1 b.lo b.hi b.f0 b.f1, rfl⟩
              case fin =>
                intro v1 v2 w' hC' hJ'
                rw [hds]
                clear hds hap C A
                simp only [List.set_cons_zero, List.set_cons_succ] at hC'
                have C := Lib.hid hC'
                have A := Lib.hid hJ'
                clear hC' hJ'
                simp only [List.map_cons, List.map_nil, List.set_cons_zero, List.set_cons_succ, puts, Act.put, List.setIfInBounds_toArray]
                have p0 := (C.out.at_ 2 rfl).lo
                have p1 := (C.out.at_ 2 rfl).hi
                have q0 := (C.out.at_ 3 rfl).lo
                have q1 := (C.out.at_ 3 rfl).hi
                by_cases hm0 : mm = 0
                · have t1 : (mm != 0) = false := by simpa using hm0
                  by_cases ho0 : oo = 0
                  · have t2 : (oo != 0) = false := by simpa using ho0
                    have I2 := IC.out hm0 ho0
                    unfold spanV at I2
                    obtain ⟨u1, u2⟩ := u
                    obtain ⟨v1, v2⟩ := v
                    replace C := Lib.hid C.out.old
                    dsimp only at p0 p1 q0 q1 I2
                    replace I2 := Lib.hid I2
                    clear hm0 ho0 IC A hn hst
                    go_wp2_with fail
                    refine (I2.out _).mono ?_
                    rintro _ v8 ⟨rfl, hb⟩
                    have B9 := Lib.hid (C.out.trans (hb.mono C.out.size))
                    clear hb C p0 p1 q0 q1 I2
                    go_wp2_with fail
                    go_ret
                    exact ⟨by first | rfl | trivial, B9.out⟩
                  · have t2 : (oo != 0) = true := by simpa using ho0
                    replace C := Lib.hid C.out.old
                    clear hm0 ho0 IC A hn p0 p1 q0 q1 hst
                    go_wp2_with fail
                    go_ret
                    exact ⟨by first | rfl | trivial, C.out⟩
                · have t1 : (mm != 0) = true := by simpa using hm0
                  replace C := Lib.hid C.out.old
                  clear hm0 IC A hn p0 p1 q0 q1 hst
                  go_wp2_with fail
                  go_ret
                  exact ⟨by first | rfl | trivial, C.out⟩
        · have t1 : (k == 0) = false := by simpa using hk0
          clear hk0 IH
          simp only [List.map_cons, List.map_nil, List.set_cons_zero, List.set_cons_succ, puts, Act.put, List.setIfInBounds_toArray]
          go_upto_region 9 with fail
          clear t1
          generalize hds : ([some 46, some 47, some 48, some 49, some 50, some 45, some 51, some 52, none, some 8] : List (Option Tmp)) = ds
          have hap : apartL ds = true := by rw [← hds]; decide
          replace hds := hds.symm
          refine wp_region_stsR 8 0 2 4 2 g1 u.1 u.2 [undef, .slice ao0 n cap0, undef, pv (a1, b1), .tuple #[pv u, .int .i64 mm], .tuple #[pv u, .int .i64 mm], pv u, .int .i64 mm, undef, .int .i64 mm]
            ds (by kernel_rfl) (by rw [hds]; rfl) hap (by decide +kernel) (by decide +kernel) rfl C.out rfl (by decide) (by decide +kernel) (by decide +kernel) (by decide +kernel) (by decide) ao0 cap0 n L0 hn.out hrn hn0
            (fun W => Lin w.heap.size ao0 L0 W) A.out.drew (fun _ _ A h => A.on h) (fun W h s t hh A => A.put hh s t) (fun _ _ _ A r k => A.grown r k) (fun _ A => A.at_) ?build ?app ?call ?step ?store ?fin
          case build => intro o ho; obtain rfl := Option.some.inj ho; rfl
          case app =>
            intro L o v ho hd hv
            obtain rfl := Option.some.inj ho
            refine ⟨_, _, rfl, ?_, ?_⟩
            · exact puts_get 0 ds L _ hap (by rw [hds]; rfl) hv (show 46 < 72 by decide)
            · generalize hA : (puts ds L _).eval = ρ
              have h0 : ρ (.tmp 47) = .slice ao0 n cap0 := by rw [← hA]; exact puts_get 1 ds L _ hap (by rw [hds]; rfl) (hd 1 (by decide +kernel) (by decide) (by decide)) (show 47 < 72 by decide)
              exact h0
          case call =>
            intro L W o ao' cap' ho hd hv hAt
            obtain rfl := Option.some.inj ho
            refine .call 13 #[.slice ao' n cap', pv (a1, b1)] ?_ (K3.out ao' cap' W hAt)
            generalize hA : (puts ds L _).eval = ρ
            have hg : ∀ g, ρ (.func g) = .func (.func g) #[] #[] := fun v => by rw [← hA]; rfl
            have h0 : ρ (.tmp 48) = .slice ao' n cap' := by rw [← hA]; exact puts_get 2 ds L _ hap (by rw [hds]; rfl) hv (show 48 < 72 by decide)
            have h1 : ρ (.tmp 49) = pv (a1, b1) := by rw [← hA]; exact puts_get 3 ds L _ hap (by rw [hds]; rfl) (hd 3 (by decide +kernel) (by decide) (by decide)) (show 49 < 72 by decide)
            have hf := Try.func13
            unfold execOp
            go_simp
          case step =>
            intro L W i o ho his hib hip hic hd hB hJ
            have hi : i < 10 := (Array.getElem?_eq_some_iff.1 ho).1
            have : i = 0 ∨ i = 1 ∨ i = 2 ∨ i = 3 ∨ i = 4 ∨ i = 5 ∨ i = 6 ∨ i = 7 ∨ i = 8 ∨ i = 9 := by omega
            rcases this with rfl | rfl | rfl | rfl | rfl | rfl | rfl | rfl | rfl | rfl
            · -- 0
              exact absurd rfl hib
            · -- 1
              obtain rfl := Option.some.inj ho
              refine .value W ?_ (Below.refl _ _)
              generalize hA : (puts ds L _).eval = ρ
              have h0 : ρ (.tmp 0) = .slice ao0 n cap0 := by rw [← hA]; exact (puts_old ds L _ (by rw [hds]; decide)).trans rfl
              exact ex_move W rfl h0
            · -- 2
              exact absurd rfl hip
            · -- 3
              obtain rfl := Option.some.inj ho
              have b := hB 0 _ _ _ rfl (by decide)
              refine .value W ?_ (Below.refl _ _)
              generalize hA : (puts ds L _).eval = ρ
              have h0 : ρ (.tmp 4) = .pointer (some ⟨w.heap.size, 0, none⟩) := by rw [← hA]; exact (puts_old ds L _ (by rw [hds]; decide)).trans rfl
              exact ex_loads rfl h0 b.lo b.hi
            · -- 4
              exact absurd rfl hic
            · -- 5
              obtain rfl := Option.some.inj ho
              refine .value W ?_ (Below.refl _ _)
              generalize hA : (puts ds L _).eval = ρ
              have h0 : ρ (.tmp 50) = .tuple #[pv u, .int .i64 mm] := by rw [← hA]; exact puts_get 4 ds L _ hap (by rw [hds]; rfl) (hd 4 (by decide +kernel) (by decide) (by decide)) (show 50 < 72 by decide)
              exact ex_move W rfl h0
            · -- 6
              obtain rfl := Option.some.inj ho
              refine .value W ?_ (Below.refl _ _)
              generalize hA : (puts ds L _).eval = ρ
              have hc : ∀ v, ρ (.const v) = v := fun v => by rw [← hA]; rfl
              have h0 : ρ (.tmp 45) = .tuple #[pv u, .int .i64 mm] := by rw [← hA]; exact puts_get 5 ds L _ hap (by rw [hds]; rfl) (hd 5 (by decide +kernel) (by decide) (by decide)) (show 45 < 72 by decide)
              unfold execOp
              go_simp
            · -- 7
              obtain rfl := Option.some.inj ho
              refine .value W ?_ (Below.refl _ _)
              generalize hA : (puts ds L _).eval = ρ
              have hc : ∀ v, ρ (.const v) = v := fun v => by rw [← hA]; rfl
              have h0 : ρ (.tmp 45) = .tuple #[pv u, .int .i64 mm] := by rw [← hA]; exact puts_get 5 ds L _ hap (by rw [hds]; rfl) (hd 5 (by decide +kernel) (by decide) (by decide)) (show 45 < 72 by decide)
              unfold execOp
              go_simp
            · -- 8
              exact absurd rfl his
            · -- 9
              obtain rfl := Option.some.inj ho
              refine .value W ?_ (Below.refl _ _)
              generalize hA : (puts ds L _).eval = ρ
              have h0 : ρ (.tmp 52) = .int .i64 mm := by rw [← hA]; exact puts_get 7 ds L _ hap (by rw [hds]; rfl) (hd 7 (by decide +kernel) (by decide) (by decide)) (show 52 < 72 by decide)
              exact ex_assign W rfl h0
          case store =>
            intro L W o x y ho hd b
            generalize hA : (puts ds L _).eval = ρ
            obtain rfl := Option.some.inj ho
            have h0 : ρ (.tmp 7) = .pointer (some ⟨g1, 0, none⟩) := by rw [← hA]; exact (puts_old ds L _ (by rw [hds]; decide)).trans rfl
            have h1 : ρ (.tmp 51) = pv u := by rw [← hA]; exact puts_get 6 ds L _ hap (by rw [hds]; rfl) (hd 6 (by decide +kernel) (by decide) (by decide)) (show 51 < 72 by decide)
            exact ⟨ex_store rfl h0 h1 b.lo b.hi b.f0 b.f1, rfl⟩
          case fin =>
            intro v1 v2 w' hC' hJ'
            rw [hds]
            clear hds hap C A
            simp only [List.set_cons_zero, List.set_cons_succ] at hC'
            have C := Lib.hid hC'
            have A := Lib.hid hJ'
            clear hC' hJ'
            simp only [List.map_cons, List.map_nil, List.set_cons_zero, List.set_cons_succ, puts, Act.put, List.setIfInBounds_toArray]
            clear K3
            go_upto_region 10 with fail
            generalize hds : ([some 54, some 55, some 56, some 57, some 58, some 53, some 59, some 60, none, some 10] : List (Option Tmp)) = ds
            have hap : apartL ds = true := by rw [← hds]; decide
            replace hds := hds.symm
            refine wp_region_stsR 8 0 2 4 3 g2 v.1 v.2 [undef, .slice ao0 n cap0, undef, pv (a2, b2), .tuple #[pv v, .int .i64 oo], .tuple #[pv v, .int .i64 oo], pv v, .int .i64 oo, undef, .int .i64 oo]
              ds (by kernel_rfl) (by rw [hds]; rfl) hap (by decide +kernel) (by decide +kernel) rfl C.out rfl (by decide) (by decide +kernel) (by decide +kernel) (by decide +kernel) (by decide) ao0 cap0 n L0 hn.out hrn hn0
              (fun W => Lin w.heap.size ao0 L0 W) A.out.drew (fun _ _ A h => A.on h) (fun W h s t hh A => A.put hh s t) (fun _ _ _ A r k => A.grown r k) (fun _ A => A.at_) ?build ?app ?call ?step ?store ?fin
            case build => intro o ho; obtain rfl := Option.some.inj ho; rfl
            case app =>
              intro L o v ho hd hv
              obtain rfl := Option.some.inj ho
              refine ⟨_, _, rfl, ?_, ?_⟩
              · exact puts_get 0 ds L _ hap (by rw [hds]; rfl) hv (show 54 < 72 by decide)
              · generalize hA : (puts ds L _).eval = ρ
                have h0 : ρ (.tmp 55) = .slice ao0 n cap0 := by rw [← hA]; exact puts_get 1 ds L _ hap (by rw [hds]; rfl) (hd 1 (by decide +kernel) (by decide) (by decide)) (show 55 < 72 by decide)
                exact h0
            case call =>
              intro L W o ao' cap' ho hd hv hAt
              obtain rfl := Option.some.inj ho
              refine .call 13 #[.slice ao' n cap', pv (a2, b2)] ?_ (K4.out ao' cap' W hAt)
              generalize hA : (puts ds L _).eval = ρ
              have hg : ∀ g, ρ (.func g) = .func (.func g) #[] #[] := fun v => by rw [← hA]; rfl
              have h0 : ρ (.tmp 56) = .slice ao' n cap' := by rw [← hA]; exact puts_get 2 ds L _ hap (by rw [hds]; rfl) hv (show 56 < 72 by decide)
              have h1 : ρ (.tmp 57) = pv (a2, b2) := by rw [← hA]; exact puts_get 3 ds L _ hap (by rw [hds]; rfl) (hd 3 (by decide +kernel) (by decide) (by decide)) (show 57 < 72 by decide)
              have hf := Try.func13
              unfold execOp
              go_simp
            case step =>
              intro L W i o ho his hib hip hic hd hB hJ
              have hi : i < 10 := (Array.getElem?_eq_some_iff.1 ho).1
              have : i = 0 ∨ i = 1 ∨ i = 2 ∨ i = 3 ∨ i = 4 ∨ i = 5 ∨ i = 6 ∨ i = 7 ∨ i = 8 ∨ i = 9 := by omega
              rcases this with rfl | rfl | rfl | rfl | rfl | rfl | rfl | rfl | rfl | rfl
              · -- 0
                exact absurd rfl hib
              · -- 1
                obtain rfl := Option.some.inj ho
                refine .value W ?_ (Below.refl _ _)
                generalize hA : (puts ds L _).eval = ρ
                have h0 : ρ (.tmp 0) = .slice ao0 n cap0 := by rw [← hA]; exact (puts_old ds L _ (by rw [hds]; decide)).trans rfl
                exact ex_move W rfl h0
              · -- 2
                exact absurd rfl hip
              · -- 3
                obtain rfl := Option.some.inj ho
                have b := hB 1 _ _ _ rfl (by decide)
                refine .value W ?_ (Below.refl _ _)
                generalize hA : (puts ds L _).eval = ρ
                have h0 : ρ (.tmp 5) = .pointer (some ⟨w.heap.size + 1, 0, none⟩) := by rw [← hA]; exact (puts_old ds L _ (by rw [hds]; decide)).trans rfl
                exact ex_loads rfl h0 b.lo b.hi
              · -- 4
                exact absurd rfl hic
              · -- 5
                obtain rfl := Option.some.inj ho
                refine .value W ?_ (Below.refl _ _)
                generalize hA : (puts ds L _).eval = ρ
                have h0 : ρ (.tmp 58) = .tuple #[pv v, .int .i64 oo] := by rw [← hA]; exact puts_get 4 ds L _ hap (by rw [hds]; rfl) (hd 4 (by decide +kernel) (by decide) (by decide)) (show 58 < 72 by decide)
                exact ex_move W rfl h0
              · -- 6
                obtain rfl := Option.some.inj ho
                refine .value W ?_ (Below.refl _ _)
                generalize hA : (puts ds L _).eval = ρ
                have hc : ∀ v, ρ (.const v) = v := fun v => by rw [← hA]; rfl
                have h0 : ρ (.tmp 53) = .tuple #[pv v, .int .i64 oo] := by rw [← hA]; exact puts_get 5 ds L _ hap (by rw [hds]; rfl) (hd 5 (by decide +kernel) (by decide) (by decide)) (show 53 < 72 by decide)
                unfold execOp
                go_simp
              · -- 7
                obtain rfl := Option.some.inj ho
                refine .value W ?_ (Below.refl _ _)
                generalize hA : (puts ds L _).eval = ρ
                have hc : ∀ v, ρ (.const v) = v := fun v => by rw [← hA]; rfl
                have h0 : ρ (.tmp 53) = .tuple #[pv v, .int .i64 oo] := by rw [← hA]; exact puts_get 5 ds L _ hap (by rw [hds]; rfl) (hd 5 (by decide +kernel) (by decide) (by decide)) (show 53 < 72 by decide)
                unfold execOp
                go_simp
              · -- 8
                exact absurd rfl his
              · -- 9
                obtain rfl := Option.some.inj ho
                refine .value W ?_ (Below.refl _ _)
                generalize hA : (puts ds L _).eval = ρ
                have h0 : ρ (.tmp 60) = .int .i64 oo := by rw [← hA]; exact puts_get 7 ds L _ hap (by rw [hds]; rfl) (hd 7 (by decide +kernel) (by decide) (by decide)) (show 60 < 72 by decide)
                exact ex_assign W rfl h0
            case store =>
              intro L W o x y ho hd b
              generalize hA : (puts ds L _).eval = ρ
              obtain rfl := Option.some.inj ho
              have h0 : ρ (.tmp 9) = .pointer (some ⟨g2, 0, none⟩) := by rw [← hA]; exact (puts_old ds L _ (by rw [hds]; decide)).trans rfl
              have h1 : ρ (.tmp 59) = pv v := by rw [← hA]; exact puts_get 6 ds L _ hap (by rw [hds]; rfl) (hd 6 (by decide +kernel) (by decide) (by decide)) (show 59 < 72 by decide)
              exact ⟨ex_store rfl h0 h1 b.lo b.hi b.f0 b.f1, rfl⟩
            case fin =>
              intro v1 v2 w' hC' hJ'
              rw [hds]
              clear hds hap C A
              simp only [List.set_cons_zero, List.set_cons_succ] at hC'
              have C := Lib.hid hC'
              have A := Lib.hid hJ'
              clear hC' hJ'
              simp only [List.map_cons, List.map_nil, List.set_cons_zero, List.set_cons_succ, puts, Act.put, List.setIfInBounds_toArray]
              have p0 := (C.out.at_ 2 rfl).lo
              have p1 := (C.out.at_ 2 rfl).hi
              have q0 := (C.out.at_ 3 rfl).lo
              have q1 := (C.out.at_ 3 rfl).hi
              by_cases hm0 : mm = 0
              · have t1 : (mm != 0) = false := by simpa using hm0
                by_cases ho0 : oo = 0
                · have t2 : (oo != 0) = false := by simpa using ho0
                  have I2 := IC.out hm0 ho0
                  unfold spanV at I2
                  obtain ⟨u1, u2⟩ := u
                  obtain ⟨v1, v2⟩ := v
                  replace C := Lib.hid C.out.old
                  dsimp only at p0 p1 q0 q1 I2
                  replace I2 := Lib.hid I2
                  clear hm0 ho0 IC A hn hst
                  go_wp2_with fail
                  refine (I2.out _).mono ?_
                  rintro _ v8 ⟨rfl, hb⟩
                  have B9 := Lib.hid (C.out.trans (hb.mono C.out.size))
                  clear hb C p0 p1 q0 q1 I2
                  go_wp2_with fail
                  go_ret
                  exact ⟨by first | rfl | trivial, B9.out⟩
                · have t2 : (oo != 0) = true := by simpa using ho0
                  replace C := Lib.hid C.out.old
                  clear hm0 ho0 IC A hn p0 p1 q0 q1 hst
                  go_wp2_with fail
                  go_ret
                  exact ⟨by first | rfl | trivial, C.out⟩
              · have t1 : (mm != 0) = true := by simpa using hm0
                replace C := Lib.hid C.out.old
                clear hm0 IC A hn p0 p1 q0 q1 hst
                go_wp2_with fail
                go_ret
                exact ⟨by first | rfl | trivial, C.out⟩
  · rw [Bool.not_eq_true] at hI
    rw [hI] at I0
    unfold spanV at I0
    unfold spanV
    clear hI ha1 hb1 ha2 hb2 hw0 ha0 hr0 hc0 hm hn A0
    go_enter Try.func4, Try.ntmps4
    go_wp2_with fail
    have C := C0.out
    clear C0
    generalize (w.alloc _).alloc _ = wr at *
    refine (AW.out wr).mono ?_
    rintro _ v0 ⟨rfl, hb⟩
    have C2 := C.on hb
    have p0 := (C2.at_ 0 rfl).lo
    have p1 := (C2.at_ 0 rfl).hi
    have q0 := (C2.at_ 1 rfl).lo
    have q1 := (C2.at_ 1 rfl).hi
    replace C := Lib.hid C2
    clear C2 hb AW
    go_wp2_with fail
    refine (I0.out v0).mono ?_
    rintro _ v1 ⟨rfl, hb⟩
    replace C := Lib.hid (C.out.on hb).old
    clear hb I0 p0 p1 q0 q1
    go_wp2_with fail
    go_ret
    exact ⟨rfl, C.out⟩

theorem own : ownKnob Try.prog.godebug = none := by kernel_rfl
theorem laidOut : laidOutB Try.prog = true := by kernel_rfl
theorem cellsF : Try.prog.cellsOf 23 = 1 := by kernel_rfl
theorem bytesF : Try.prog.bytesOf 23 = 8 := by kernel_rfl
theorem wf64 {b : Nat} (h : (Lit.float .f64 b).wf = true) : b < 18446744073709551616 := by
  simp only [Lit.wf, decide_eq_true_eq] at h; exact h

set_option maxRecDepth 100000 in
theorem lifted (os : Os) (started : os.Started) (H : Type) (enc : TypeId × Value → H) :
    ReturnsInHanded {} Try.checked os 4 .any (Rows.polySmallerSpec.pre6 enc Try.prog Try.f4 Rows.polySmallerRow.domain false) (Rows.polySmallerSpec.post enc Try.prog Try.f4 false true false false) := by
  refine returnsInHanded_of_change_sized (C := Try.checked) own started (by kernel_rfl) Try.func4
    (ChangeSpec.witness6 (enc := enc) (C := Try.checked) false ⟨#[], #[.slice none 0 0, .agg #[.float .f64 0, .float .f64 0], .agg #[.float .f64 0, .float .f64 0]], []⟩ 8 (by kernel_rfl) (by kernel_rfl) (by kernel_rfl) (by kernel_rfl)) ?_
  intro W base args ds gs before hval0 hW _ hsz0 _
  have hsz : (DataW.weightsEach Try.prog (Try.f4.params.toList ++ Rows.polySmallerSpec.plain.varTypes Try.prog) (ds ++ gs)).all (· ≤ reachBytes) = true := hsz0
  clear hsz0
  have hval : ∀ (j : Nat) t v, Try.f4.params[j]? = some t → args[j]? = some v → Value.okWide Try.prog W .any base t v := hval0
  have hW' := hW
  obtain ⟨p, q, hA0, hV, rfl, _, _⟩ := hW
  have hA : DataW.TrodAll enc Try.prog W 0 (fun _ => true) true Try.f4.params.toList args.toList ds p := hA0
  rw [Try.params4] at hA hval hsz
  obtain ⟨v0, vs0, d0, ds0, p0, q0, hargs, rfl, rfl, t0, r0⟩ := trodAll_cons hA
  obtain ⟨v1, vs1, d1, ds1, p1, q1, rfl, rfl, rfl, t1, r1⟩ := trodAll_cons r0
  obtain ⟨v2, vs2, d2, ds2, p2, q2, rfl, rfl, rfl, t2, r2⟩ := trodAll_cons r1
  obtain ⟨rfl, rfl, rfl⟩ := trodAll_nil r2
  obtain rfl : args = #[v0, v1, v2] := by cases args; simp_all
  obtain ⟨rfl, rfl⟩ := trodVars_none hV
  simp only [List.append_nil] at hW'
  have tk0 := t0
  obtain ⟨ao0, cap0, L0, rfl, hc0, hw0, ha0, hx0⟩ := open_flts Try.underlying22 Try.underlying23 cellsF (okWide_slice Try.underlying22 (hval 0 22 v0 rfl rfl)) t0
  have hr0 : cap0 * 8 ≤ 140737488351232 := by
    rcases hx0 with ⟨_, h0⟩ | ⟨_, es, sp, hd, h0⟩
    · rw [h0]; decide
    · subst hd
      have := sized_slice hsz (j := 0) (t := 22) (e := 23) rfl rfl Try.underlying22
      rw [bytesF, h0] at this
      simp only [reachBytes] at this
      omega
  have hn0 : ao0 = none → cap0 = 0 := by
    intro h
    rcases hx0 with ⟨_, h0⟩ | ⟨⟨a, h1⟩, _⟩
    · exact h0
    · rw [h] at h1; simp at h1
  have hlt0 : ∀ x ∈ p0, x.block < W.heap.size := fun x hx => by have := hW'.lt x (by simp [hx]); simpa using this
  have tk1 := t1
  obtain ⟨a1, b1, rfl, wa1, wb1⟩ := open_span (hval 1 25 v1 rfl rfl) t1
  have hlt1 : ∀ x ∈ p1, x.block < W.heap.size := fun x hx => by have := hW'.lt x (by simp [hx]); simpa using this
  have tk2 := t2
  obtain ⟨a2, b2, rfl, wa2, wb2⟩ := open_span (hval 2 25 v2 rfl rfl) t2
  have hlt2 : ∀ x ∈ p2, x.block < W.heap.size := fun x hx => by have := hW'.lt x (by simp [hx]); simpa using this
  clear hA0 hval0
  refine (walk W ao0 cap0 L0 hc0 hw0 ha0 hr0 hn0 a1 b1 wa1 wb1 a2 b2 wa2 wb2).mono fun e W' ⟨he, hb⟩ => ?_
  subst he
  refine ⟨_, rfl, _, _, _, [], _, [], hW', trodAll_cons_mk (shut_bool Try.underlying4 _) trodAll_mk0, (trodAll_cons_mk (Below.trod laidOut (by kernel_rfl) (of_decide_eq_true (by kernel_rfl)) tk0 hb hlt0) (trodAll_cons_mk (Below.trod laidOut (by kernel_rfl) (of_decide_eq_true (by kernel_rfl)) tk1 hb hlt1) (trodAll_cons_mk (Below.trod laidOut (by kernel_rfl) (of_decide_eq_true (by kernel_rfl)) tk2 hb hlt2) trodAll_mk0))), rfl, hb.frame _, fun h => by cases h⟩

theorem over : Rows.polySmallerRow.holds Try.pinned (OpenSpec.ofChange Rows.polySmallerSpec) :=
  OpenClaim.holds_of_wide 4 Try.f4 rfl rfl rfl rfl rfl rfl rfl ⟨rfl, rfl, rfl, rfl, rfl⟩ rfl rfl rfl rfl rfl (by kernel_rfl) Try.func4 (by kernel_rfl)
    (of_decide_eq_true (by kernel_rfl)) (by unfold Func.isWrapper; first | (rw [if_pos (by decide +kernel)]; kernel_rfl) | (rw [if_neg (by decide +kernel)]; exact ⟨rfl, rfl⟩))
    (fun os started H enc _ => lifted os started H enc)

theorem proved : Rows.PolySmallerSaid :=
  over
end Go.Proofs.Ytjhcalgamcdgiaa.polySmaller
