/- Proved here: what the texts Fre, Frf prove, one behind the other. -/
import Derived.Test.YtgblpibanagcgaaGreatJy5

namespace Go.Proofs.YtgblpibanagcgaaGreat
open Go.ChangeShapes Go.WideShapes Go.ChangeAt Go.RowKit Ieee.Own

/-- the frames from i up to the one that lies in the root -/
def wayF (L : List Fr) : Nat → Int → List Nat
  | 0, _ => []
  | n + 1, i => if i < 0 then [] else i.toNat :: wayF L n (frAt L i.toNat).up
def way (L : List Fr) (i : Int) : List Nat := wayF L 17 i
/-- frames that may be -/
structure FsOk (L : List Fr) : Prop where
  len : L.length ≤ 16
  w : FsW L
  ok : ∀ j, j < L.length → FrOk (frAt L j) j
theorem FsOk.of {L : List Fr} (w : FsW L) (h : chkF L = 0) : FsOk L := ⟨(chkF_zero h).1, w, fun j hj => may_of ((chkF_zero h).2 j hj)⟩
theorem FsOk.fw {L : List Fr} (h : FsOk L) {j : Nat} (hj : j < L.length) : FrW (frAt L j) := h.w _ (fr_mem hj)
theorem wayF_eq {L : List Fr} (h : FsOk L) : ∀ (n m : Nat) (i : Int), i < (L.length : Int) → i + 1 ≤ n → i + 1 ≤ m → wayF L n i = wayF L m i
  | 0, 0, _, _, _, _ => rfl
  | 0, m + 1, i, _, h1, _ => by
    have : i < 0 := by omega
    unfold wayF; rw [if_pos this]
  | n + 1, 0, i, _, _, h2 => by
    have : i < 0 := by omega
    unfold wayF; rw [if_pos this]
  | n + 1, m + 1, i, hl, h1, h2 => by
    unfold wayF
    by_cases e : i < 0
    · rw [if_pos e, if_pos e]
    · rw [if_neg e, if_neg e]
      have k := (h.ok i.toNat (by omega)).up1
      rw [wayF_eq h n m _ (by omega) (by omega) (by omega)]
theorem way_root (L : List Fr) : way L (-1) = [] := rfl
theorem way_step {L : List Fr} (h : FsOk L) {j : Nat} (hj : j < L.length) : way L (j : Int) = j :: way L (frAt L j).up := by
  have hl := h.len
  have k := (h.ok j hj).up1
  show wayF L 17 (j : Int) = j :: wayF L 17 (frAt L j).up
  rw [show wayF L 17 (j : Int) = if (j : Int) < 0 then [] else (j : Int).toNat :: wayF L 16 (frAt L (j : Int).toNat).up from rfl]
  rw [if_neg (by omega)]
  have e : (j : Int).toNat = j := by omega
  rw [e, wayF_eq h 16 17 _ (by omega) (by omega) (by omega)]
theorem way_lt {L : List Fr} (h : FsOk L) : ∀ (n : Nat) (i : Int), i < (L.length : Int) → i < n → ∀ j ∈ way L i, j < L.length ∧ (j : Int) ≤ i
  | n, i, hl, hn, j, hj => by
    by_cases e : i < 0
    · have : way L i = [] := by show wayF L 17 i = []; unfold wayF; rw [if_pos e]
      rw [this] at hj; cases hj
    · obtain ⟨m, rfl⟩ : ∃ m : Nat, i = m := ⟨i.toNat, by omega⟩
      have hm : m < L.length := by omega
      rw [way_step h hm] at hj
      rcases List.mem_cons.1 hj with rfl | hj
      · exact ⟨hm, Int.le_refl _⟩
      · have k := (h.ok m hm).up1
        cases n with
        | zero => omega
        | succ n =>
          have := way_lt h n _ (by omega) (by omega) j hj
          exact ⟨this.1, by omega⟩
noncomputable def rootF (L : List Fr) (d : Nat) : List Nat → V3 → V3 × Int
  | [], v => (v, 0)
  | j :: js, v => if (upR (frAt L j) d v).2 = 0 then rootF L d js (upR (frAt L j) d v).1 else upR (frAt L j) d v
noncomputable def rootR (L : List Fr) (i : Int) (d : Nat) (v : V3) : V3 × Int :=
  if readyF L i (witB g24 d) = 0 then (if (addR v z3).2 = 0 then rootF L d (way L i) (addR v z3).1 else addR v z3) else (z3, readyF L i (witB g24 d))
/-- where a walk up stands: what is left -/
def RootAt (L : List Fr) (d : Nat) (A : V3 × Int) (i : Int) (p : V3) (k : Int) : Prop := (k = 0 → rootF L d (way L i) p = A) ∧ (k ≠ 0 → (p, k) = A)
theorem RootAt.fin {L : List Fr} {d : Nat} {A : V3 × Int} {i : Int} {p : V3} {k : Int} (h : RootAt L d A i p k) (e : k = 0 → i = -1) : (p, k) = A := by
  by_cases hk : k = 0
  · subst hk
    have := h.1 rfl
    rw [e rfl, way_root] at this
    exact this
  · exact h.2 hk
theorem RootAt.next {L : List Fr} {d : Nat} {A : V3 × Int} {j : Nat} {p q : V3} {k : Int} (hL : FsOk L) (hj : j < L.length) (h : RootAt L d A j p 0) (e : upR (frAt L j) d p = (q, k)) : RootAt L d A (frAt L j).up q k := by
  have h := h.1 rfl
  rw [way_step hL hj] at h
  unfold rootF at h
  rw [e] at h
  refine ⟨fun hk => ?_, fun hk => ?_⟩
  · subst hk
    rw [if_pos rfl] at h
    exact h
  · rw [if_neg hk] at h
    exact h
theorem ret_vF {A : V3 × Int} {p1 p2 p3 : Nat} {k : Int} (h : ((p1, p2, p3), k) = A) : Ending.returned (.tuple #[.agg #[.float .f64 p1, .float .f64 p2, .float .f64 p3], .int .i64 k]) = .returned (vecE A.1 A.2) := by rw [← h]; rfl
theorem cellsFar {w : World} {ao : Option Addr} {L : List Fr} (ha : FAt w ao L) {j : Nat} (hj : j < L.length) {b o : Nat} (e : ao = some ⟨b, o, none⟩) {up ax : Int} {ph rt o1 o2 o3 : Nat} (ef : frAt L j = ⟨up, ax, ph, rt, o1, o2, o3⟩) :
    ∀ W, Below w.heap.size w W → W.cell? ⟨b, o + j * 7, none⟩ = some (.int .i64 up) ∧ W.cell? ⟨b, o + j * 7 + 1, none⟩ = some (.int .i64 ax) ∧
      W.cell? ⟨b, o + j * 7 + 2, none⟩ = some (.float .f64 ph) ∧ W.cell? ⟨b, o + j * 7 + 3, none⟩ = some (.float .f64 rt) ∧ W.cell? ⟨b, o + j * 7 + 4, none⟩ = some (.float .f64 o1) ∧
      W.cell? ⟨b, o + j * 7 + 5, none⟩ = some (.float .f64 o2) ∧ W.cell? ⟨b, o + j * 7 + 6, none⟩ = some (.float .f64 o3) := by
  intro W hb
  obtain ⟨b', o', e', -, c⟩ := FAt.cells (ha.below (fun b o e h => ha.lt b o e h) hb) hj
  rw [e] at e'
  simp only [Option.some.injEq, Addr.mk.injEq, and_true] at e'
  obtain ⟨rfl, rfl⟩ := e'
  rw [ef] at c
  exact c
set_option maxHeartbeats 4000000 in
set_option maxRecDepth 100000 in
theorem froot_run (ao : Option Addr) (cap n : Nat) (L : List Fr) (i0 : Int) (d : Nat) (v : V3) (w : World) (hn : n = L.length) (hm : n ≤ 4611686018427387904) (hL : FsW L) (ha : FAt w ao L) (hd : d < 18446744073709551616) (hv : W3 v) :
    Calls Tryz.prog 6 #[.slice ao n cap, .int .i64 i0, .float .f64 d, vecV v] w fun e w' => e = .returned (vecE (rootR L i0 d v).1 (rootR L i0 d v).2) ∧ Below w.heap.size w w' := by
  have CT := fun w => ftime_run d hd w
  have CR : Hid (∀ W, Below w.heap.size w W → Calls Tryz.prog 14 #[.slice ao n cap, .int .i64 i0, .bool (witB g24 d)] W fun e w' => e = .returned (.int .i64 (readyF L i0 (witB g24 d))) ∧ Below W.heap.size W w') :=
    Lib.hid fun W hb => ready_run ao cap n L i0 (witB g24 d) W hn hm hL (ha.below (fun b o e h => ha.lt b o e h) hb)
  have CS := Lib.hid (fun w => fstill_run hv w)
  have Y := ans_add hv z3_w
  unfold rootR
  by_cases hr : readyF L i0 (witB g24 d) = 0
  · rw [if_pos hr]
    rw [hr] at CR
    obtain ⟨c0, i1, i2, tt⟩ := readyF_zero hr
    have LO := Lib.hid (FsOk.of hL c0)
    have hA : ∃ A, A = (if (addR v z3).2 = 0 then rootF L d (way L i0) (addR v z3).1 else addR v z3) := ⟨_, rfl⟩
    obtain ⟨A, hA⟩ := hA
    rw [← hA]
    have R0 : RootAt L d A i0 (addR v z3).1 (addR v z3).2 := by
      refine ⟨fun e => ?_, fun e => ?_⟩
      · rw [hA, if_pos e]
      · rw [hA, if_neg e]
    have YW := Y.w
    clear hA Y hr c0 hL
    generalize addR v z3 = Y at *
    obtain ⟨⟨y1, y2, y3⟩, k0⟩ := Y
    rw [tt] at CT CR
    obtain ⟨x1, x2, x3⟩ := v
    unfold vecV vecE at CS
    unfold vecV at *
    dsimp only at *
    replace ha := Lib.hid ha
    replace hn := Lib.hid hn
    replace R0 := Lib.hid R0
    replace YW := Lib.hid YW
    replace hd := Lib.hid hd
    replace tt := Lib.hid tt
    clear hv
    have K0 := kv2 w 25 25 [.float .f64 x1, .float .f64 x2, .float .f64 x3] [.float .f64 0, .float .f64 0, .float .f64 0]
    simp only [objV] at K0
    have hst := @fstore
    replace K0 := Lib.hid K0
    go_enter Tryz.func6, Tryz.ntmps6
    go_wp2_with (go_at_call 15; ((with_reducible refine (CT _).mono ?_); rintro e w' ⟨rfl, rfl⟩))
    have K := K0.out
    clear K0
    generalize (w.alloc _).alloc _ = wr at *
    refine (CR.out wr K.old).mono ?_
    rintro _ v1 ⟨rfl, hb⟩
    replace K := K.on hb
    clear hb CR
    have c0_0 := (K.at_ 0 rfl).at_ 0 _ rfl
    have c0_1 := (K.at_ 0 rfl).at_ 1 _ rfl
    have c0_2 := (K.at_ 0 rfl).at_ 2 _ rfl
    replace K := Lib.hid K
    go_wp2_with fail
    replace K := K.out
    refine (CS.out v1).mono ?_
    rintro _ v2 ⟨rfl, hb⟩
    clear c0_0 c0_1 c0_2
    replace K := K.on hb
    clear hb CS
    replace K := K.new 25 [.float .f64 y1, .float .f64 y2, .float .f64 y3]
    simp only [objV, List.cons_append, List.nil_append] at K
    replace K := Lib.hid K
    go_wp2_with fail
    replace K := K.out
    generalize v2.alloc _ = wl at *
    generalize v2.heap.size = g1 at *
    go_loopw [1, 12] (fun iv ev wr => ∃ (i k : Int) (p1 p2 p3 : Nat), iv = .int .i64 i ∧ ev = .int .i64 k ∧ -1 ≤ i ∧ i < (n : Int) ∧ W3 (p1, p2, p3) ∧ RootAt L d A i (p1, p2, p3) k ∧ Kv w [some (w.heap.size, [.float .f64 x1, .float .f64 x2, .float .f64 x3]), some (w.heap.size + 1, [.float .f64 0, .float .f64 0, .float .f64 0]), some (g1, [.float .f64 p1, .float .f64 p2, .float .f64 p3])] wr) (fun iv _ _ => (intOf iv + 1).toNat)
    case atStart => exact ⟨i0, k0, y1, y2, y3, rfl, rfl, i1, by rw [hn.out]; exact i2, YW.out, R0.out, K⟩
    case round =>
      obtain ⟨i, k, p1, p2, p3, rfl, rfl, hi0, hi1, hw, R, K⟩ := hrel
      replace R := Lib.hid R
      replace hw := Lib.hid hw
      by_cases hk : k = 0
      · subst hk
        by_cases hi : i = -1
        · subst hi
          have fin := R.out.fin (fun _ => rfl)
          replace fin := Lib.hid fin
          have c2_0 := (K.at_ 2 rfl).at_ 0 _ rfl
          have c2_1 := (K.at_ 2 rfl).at_ 1 _ rfl
          have c2_2 := (K.at_ 2 rfl).at_ 2 _ rfl
          have c1_0 := (K.at_ 1 rfl).at_ 0 _ rfl
          have f1_0 := (K.at_ 1 rfl).fr 0 _ rfl
          have c1_1 := (K.at_ 1 rfl).at_ 1 _ rfl
          have f1_1 := (K.at_ 1 rfl).fr 1 _ rfl
          have c1_2 := (K.at_ 1 rfl).at_ 2 _ rfl
          have f1_2 := (K.at_ 1 rfl).fr 2 _ rfl
          replace K := Lib.hid K
          go_wp2_with fail
          replace K := K.out
          (try simp only [Exit.inBlock, Exit.then])
          refine bodyPost_ret (v := .tuple #[.agg #[.float .f64 p1, .float .f64 p2, .float .f64 p3], .int .i64 0]) ?_ rfl ⟨ret_vF fin.out, ?_⟩
          · rw [results_cell_tmp rfl]; go_simp
          · exact (((K.old).setCell (by first | exact Nat.le_refl _ | (dsimp only; omega)) _).setCell (by first | exact Nat.le_refl _ | (dsimp only; omega)) _).setCell (by first | exact Nat.le_refl _ | (dsimp only; omega)) _
        · obtain ⟨j, rfl⟩ : ∃ j : Nat, i = j := ⟨i.toNat, by omega⟩
          have hjn : j < n := by omega
          have hjl : j < L.length := by have := hn.out; omega
          have ok := LO.out.ok j hjl
          have fw := LO.out.fw hjl
          have AA := ang_a fw hd.out ok.ph ok.rt tt.out
          have CU := Lib.hid (fun w => fup_run (v := (p1, p2, p3)) fw ok.ax0 ok.ax1 AA hw.out w)
          have AU := (ans_up fw AA hw.out).w
          have u0 := ok.up0
          have u1 := ok.up1
          have NX : ∀ q k, upR (frAt L j) d (p1, p2, p3) = (q, k) → RootAt L d A (frAt L j).up q k := fun q k e => R.out.next LO.out hjl e
          clear R
          obtain ⟨b, o, rfl, -, -⟩ := FAt.cells ha.out hjl
          have far := fun up ax ph rt o1 o2 o3 => cellsFar (up := up) (ax := ax) (ph := ph) (rt := rt) (o1 := o1) (o2 := o2) (o3 := o3) ha.out hjl rfl
          clear fw ok AA
          generalize hU : upR (frAt L j) d (p1, p2, p3) = U at *
          clear hU
          generalize frAt L j = f at *
          obtain ⟨up, ax, ph, rt, o1, o2, o3⟩ := f
          obtain ⟨⟨y1', y2', y3'⟩, k'⟩ := U
          replace NX := NX _ _ rfl
          replace far := far _ _ _ _ _ _ _ rfl
          unfold frV vecV vecE at CU
          dsimp only at *
          replace far := Lib.hid far
          replace NX := Lib.hid NX
          replace AU := Lib.hid AU
          have hj2 : decide ((j : Int) = -1) = false := decide_eq_false (by omega)
          replace K := Lib.hid K
          go_upto_region 6 with fail
          replace K := K.out
          generalize hds : ([some 34, some 35, some 36, some 37, some 38, some 39, some 40, some 33, some 41, some 42, none, some 12] : List (Option Tmp)) = ds
          have hap : apartL ds = true := by rw [← hds]; decide
          replace hds := hds.symm
          refine wp_region_kv (fun hf => [some (w.heap.size, [.float .f64 x1, .float .f64 x2, .float .f64 x3]), some (w.heap.size + 1, [.float .f64 0, .float .f64 0, .float .f64 0]), some (g1, [.float .f64 y1', .float .f64 y2', .float .f64 y3'])]) (fun hf => [some (.slice (some ⟨b, o, none⟩) n cap), some (.int .i64 (j : Int)), some (.pointer (some ⟨b, o + j * 7, none⟩)), some (.agg #[.int .i64 up, .int .i64 ax, .float .f64 ph, .float .f64 rt, .float .f64 o1, .float .f64 o2, .float .f64 o3]), some (.float .f64 d), some (.agg #[.float .f64 p1, .float .f64 p2, .float .f64 p3]), some (.tuple #[.agg #[.float .f64 y1', .float .f64 y2', .float .f64 y3'], .int .i64 k']), some (.tuple #[.agg #[.float .f64 y1', .float .f64 y2', .float .f64 y3'], .int .i64 k']), some (.agg #[.float .f64 y1', .float .f64 y2', .float .f64 y3']), some (.int .i64 k'), some (undef), some (.int .i64 k')]) [] [⟨10, 2, 0, [.float .f64 y1', .float .f64 y2', .float .f64 y3']⟩] [.slice (some ⟨b, o, none⟩) n cap, .int .i64 (j : Int), .pointer (some ⟨b, o + j * 7, none⟩), .agg #[.int .i64 up, .int .i64 ax, .float .f64 ph, .float .f64 rt, .float .f64 o1, .float .f64 o2, .float .f64 o3], .float .f64 d, .agg #[.float .f64 p1, .float .f64 p2, .float .f64 p3], .tuple #[.agg #[.float .f64 y1', .float .f64 y2', .float .f64 y3'], .int .i64 k'], .tuple #[.agg #[.float .f64 y1', .float .f64 y2', .float .f64 y3'], .int .i64 k'], .agg #[.float .f64 y1', .float .f64 y2', .float .f64 y3'], .int .i64 k', undef, .int .i64 k'] ds (by kernel_rfl) (by rw [hds]; rfl) hap (by decide +kernel) (by decide +kernel) K ?ha ?haj ?hai ?hsi ?hss ?hsa ?hsw ?htg ?hE2 ?hE3 ?hE4 ?hL1 ?hL2 ?hL3 ?alloc ?step ?store ?fin
          case ha => intro al hal; cases hal
          case haj => intro al hal al' hal' e; cases hal
          case hai => intro al hal; cases hal
          case hsi => intro st hst st' hst' e; simp only [List.mem_cons, List.not_mem_nil, or_false] at hst; rcases hst with rfl <;> (simp only [List.mem_cons, List.not_mem_nil, or_false] at hst'; rcases hst' with rfl) <;> first | rfl | (exfalso; revert e; simp)
          case hss =>
            intro st hst
            simp only [List.mem_cons, List.not_mem_nil, or_false] at hst; rcases hst with rfl
            · show 10 < 12; decide
          case hsa =>
            intro st hst al hal
            cases hal
          case hsw =>
            intro st hst al hal e
            cases hal
          case htg =>
            intro st hst
            simp only [List.mem_cons, List.not_mem_nil, or_false] at hst; rcases hst with rfl
            · exact .inl ⟨_, _, rfl, show 0 + 3 ≤ 3 by decide⟩
          case hE2 =>
            intro hf j h1 h2
            have n2 : 2 ≠ j := h1 _ (List.mem_cons_self ..)
            rcases j with _ | _ | _ | j
            · rfl
            · rfl
            · exact absurd rfl n2
            · rfl
          case hE3 =>
            intro hf st hst g us e
            simp only [List.mem_cons, List.not_mem_nil, or_false] at hst; rcases hst with rfl
            · obtain ⟨rfl, rfl⟩ := Prod.mk.inj (Option.some.inj (Option.some.inj e)); rfl
          case hE4 =>
            intro hf al hal
            cases hal
          case hL1 => intro hf; rfl
          case hL2 =>
            intro hf i hi hna
            have hi : i < 12 := hi
            have : i = 0 ∨ i = 1 ∨ i = 2 ∨ i = 3 ∨ i = 4 ∨ i = 5 ∨ i = 6 ∨ i = 7 ∨ i = 8 ∨ i = 9 ∨ i = 10 ∨ i = 11 := by omega
            rcases this with rfl | rfl | rfl | rfl | rfl | rfl | rfl | rfl | rfl | rfl | rfl | rfl
            · rfl
            · rfl
            · rfl
            · rfl
            · rfl
            · rfl
            · rfl
            · rfl
            · rfl
            · rfl
            · rfl
            · rfl
          case hL3 => intro hf al hal; cases hal
          case alloc =>
            intro al hal o ρ W ho
            cases hal
          case step =>
            intro L W i o ho hs ha hd hB hO
            have hi : i < 12 := (Array.getElem?_eq_some_iff.1 ho).1
            have : i = 0 ∨ i = 1 ∨ i = 2 ∨ i = 3 ∨ i = 4 ∨ i = 5 ∨ i = 6 ∨ i = 7 ∨ i = 8 ∨ i = 9 ∨ i = 10 ∨ i = 11 := by omega
            rcases this with rfl | rfl | rfl | rfl | rfl | rfl | rfl | rfl | rfl | rfl | rfl | rfl
            · -- 0
              obtain rfl := Option.some.inj ho
              refine .value W ?_ (Below.refl _ _)
              generalize hA : (puts ds L _).eval = ρ
              have hc : ∀ v, ρ (.const v) = v := fun v => by rw [← hA]; rfl
              have hg : ∀ g, ρ (.func g) = .func (.func g) #[] #[] := fun v => by rw [← hA]; rfl
              have h0 : ρ (.tmp 0) = .slice (some ⟨b, o, none⟩) n cap := by rw [← hA]; exact (puts_old ds L _ (by rw [hds]; decide)).trans rfl
              clear hA hd hB ho hs ha hO
              unfold execOp
              go_simp
            · -- 1
              obtain rfl := Option.some.inj ho
              refine .value W ?_ (Below.refl _ _)
              generalize hA : (puts ds L _).eval = ρ
              have hc : ∀ v, ρ (.const v) = v := fun v => by rw [← hA]; rfl
              have hg : ∀ g, ρ (.func g) = .func (.func g) #[] #[] := fun v => by rw [← hA]; rfl
              have h0 : ρ (.tmp 1) = .int .i64 (j : Int) := by rw [← hA]; exact (puts_old ds L _ (by rw [hds]; decide)).trans rfl
              clear hA hd hB ho hs ha hO
              unfold execOp
              go_simp
            · -- 2
              obtain rfl := Option.some.inj ho
              refine .value W ?_ (Below.refl _ _)
              generalize hA : (puts ds L _).eval = ρ
              have hc : ∀ v, ρ (.const v) = v := fun v => by rw [← hA]; rfl
              have hg : ∀ g, ρ (.func g) = .func (.func g) #[] #[] := fun v => by rw [← hA]; rfl
              have h0 : ρ (.tmp 34) = .slice (some ⟨b, o, none⟩) n cap := by rw [← hA]; exact puts_get 0 ds L _ hap (by rw [hds]; rfl) (hd 0 (by decide +kernel) (by intro al hal; cases hal)) (show 34 < 50 by decide)
              have h1 : ρ (.tmp 35) = .int .i64 (j : Int) := by rw [← hA]; exact puts_get 1 ds L _ hap (by rw [hds]; rfl) (hd 1 (by decide +kernel) (by intro al hal; cases hal)) (show 35 < 50 by decide)
              clear hA hd hB ho hs ha hO
              have hlt2 := hjn
              unfold execOp
              go_simp
            · -- 3
              obtain rfl := Option.some.inj ho
              obtain ⟨d0, d1, d2, d3, d4, d5, d6⟩ := far.out W hO
              refine .value W ?_ (Below.refl _ _)
              generalize hA : (puts ds L _).eval = ρ
              have hc : ∀ v, ρ (.const v) = v := fun v => by rw [← hA]; rfl
              have hg : ∀ g, ρ (.func g) = .func (.func g) #[] #[] := fun v => by rw [← hA]; rfl
              have h0 : ρ (.tmp 36) = .pointer (some ⟨b, o + j * 7, none⟩) := by rw [← hA]; exact puts_get 2 ds L _ hap (by rw [hds]; rfl) (hd 2 (by decide +kernel) (by intro al hal; cases hal)) (show 36 < 50 by decide)
              clear hA hd hB ho hs ha hO
              unfold execOp
              go_simp
            · -- 4
              obtain rfl := Option.some.inj ho
              refine .value W ?_ (Below.refl _ _)
              generalize hA : (puts ds L _).eval = ρ
              have hc : ∀ v, ρ (.const v) = v := fun v => by rw [← hA]; rfl
              have hg : ∀ g, ρ (.func g) = .func (.func g) #[] #[] := fun v => by rw [← hA]; rfl
              have h0 : ρ (.tmp 2) = .float .f64 d := by rw [← hA]; exact (puts_old ds L _ (by rw [hds]; decide)).trans rfl
              clear hA hd hB ho hs ha hO
              unfold execOp
              go_simp
            · -- 5
              obtain rfl := Option.some.inj ho
              have b := hB 2 _ _ rfl (by
                intro st hst e
                simp only [List.mem_cons, List.not_mem_nil, or_false] at hst; rcases hst with rfl
                · change needs _ _ 10 5 = true; decide +kernel)
              have c0 := b.at_ 0 _ rfl
              have c1 := b.at_ 1 _ rfl
              have c2 := b.at_ 2 _ rfl
              clear b
              refine .value W ?_ (Below.refl _ _)
              generalize hA : (puts ds L _).eval = ρ
              have hc : ∀ v, ρ (.const v) = v := fun v => by rw [← hA]; rfl
              have hg : ∀ g, ρ (.func g) = .func (.func g) #[] #[] := fun v => by rw [← hA]; rfl
              have h0 : ρ (.tmp 11) = .pointer (some ⟨g1, 0, none⟩) := by rw [← hA]; exact (puts_old ds L _ (by rw [hds]; decide)).trans rfl
              clear hA hd hB ho hs ha hO
              unfold execOp
              go_simp
            · -- 6
              obtain rfl := Option.some.inj ho
              refine .call 17 #[.agg #[.int .i64 up, .int .i64 ax, .float .f64 ph, .float .f64 rt, .float .f64 o1, .float .f64 o2, .float .f64 o3], .float .f64 d, .agg #[.float .f64 p1, .float .f64 p2, .float .f64 p3]] ?_ (CU.out W)
              generalize hA : (puts ds L _).eval = ρ
              have hc : ∀ v, ρ (.const v) = v := fun v => by rw [← hA]; rfl
              have hg : ∀ g, ρ (.func g) = .func (.func g) #[] #[] := fun v => by rw [← hA]; rfl
              have h0 : ρ (.tmp 37) = .agg #[.int .i64 up, .int .i64 ax, .float .f64 ph, .float .f64 rt, .float .f64 o1, .float .f64 o2, .float .f64 o3] := by rw [← hA]; exact puts_get 3 ds L _ hap (by rw [hds]; rfl) (hd 3 (by decide +kernel) (by intro al hal; cases hal)) (show 37 < 50 by decide)
              have h1 : ρ (.tmp 38) = .float .f64 d := by rw [← hA]; exact puts_get 4 ds L _ hap (by rw [hds]; rfl) (hd 4 (by decide +kernel) (by intro al hal; cases hal)) (show 38 < 50 by decide)
              have h2 : ρ (.tmp 39) = .agg #[.float .f64 p1, .float .f64 p2, .float .f64 p3] := by rw [← hA]; exact puts_get 5 ds L _ hap (by rw [hds]; rfl) (hd 5 (by decide +kernel) (by intro al hal; cases hal)) (show 39 < 50 by decide)
              have hf := Tryz.func17
              unfold execOp
              go_simp
            · -- 7
              obtain rfl := Option.some.inj ho
              refine .value W ?_ (Below.refl _ _)
              generalize hA : (puts ds L _).eval = ρ
              have hc : ∀ v, ρ (.const v) = v := fun v => by rw [← hA]; rfl
              have hg : ∀ g, ρ (.func g) = .func (.func g) #[] #[] := fun v => by rw [← hA]; rfl
              have h0 : ρ (.tmp 40) = .tuple #[.agg #[.float .f64 y1', .float .f64 y2', .float .f64 y3'], .int .i64 k'] := by rw [← hA]; exact puts_get 6 ds L _ hap (by rw [hds]; rfl) (hd 6 (by decide +kernel) (by intro al hal; cases hal)) (show 40 < 50 by decide)
              clear hA hd hB ho hs ha hO
              unfold execOp
              go_simp
            · -- 8
              obtain rfl := Option.some.inj ho
              refine .value W ?_ (Below.refl _ _)
              generalize hA : (puts ds L _).eval = ρ
              have hc : ∀ v, ρ (.const v) = v := fun v => by rw [← hA]; rfl
              have hg : ∀ g, ρ (.func g) = .func (.func g) #[] #[] := fun v => by rw [← hA]; rfl
              have h0 : ρ (.tmp 33) = .tuple #[.agg #[.float .f64 y1', .float .f64 y2', .float .f64 y3'], .int .i64 k'] := by rw [← hA]; exact puts_get 7 ds L _ hap (by rw [hds]; rfl) (hd 7 (by decide +kernel) (by intro al hal; cases hal)) (show 33 < 50 by decide)
              clear hA hd hB ho hs ha hO
              unfold execOp
              go_simp
            · -- 9
              obtain rfl := Option.some.inj ho
              refine .value W ?_ (Below.refl _ _)
              generalize hA : (puts ds L _).eval = ρ
              have hc : ∀ v, ρ (.const v) = v := fun v => by rw [← hA]; rfl
              have hg : ∀ g, ρ (.func g) = .func (.func g) #[] #[] := fun v => by rw [← hA]; rfl
              have h0 : ρ (.tmp 33) = .tuple #[.agg #[.float .f64 y1', .float .f64 y2', .float .f64 y3'], .int .i64 k'] := by rw [← hA]; exact puts_get 7 ds L _ hap (by rw [hds]; rfl) (hd 7 (by decide +kernel) (by intro al hal; cases hal)) (show 33 < 50 by decide)
              clear hA hd hB ho hs ha hO
              unfold execOp
              go_simp
            · -- 10
              exact absurd rfl (hs _ (List.mem_cons_self ..))
            · -- 11
              obtain rfl := Option.some.inj ho
              refine .value W ?_ (Below.refl _ _)
              generalize hA : (puts ds L _).eval = ρ
              have hc : ∀ v, ρ (.const v) = v := fun v => by rw [← hA]; rfl
              have hg : ∀ g, ρ (.func g) = .func (.func g) #[] #[] := fun v => by rw [← hA]; rfl
              have h0 : ρ (.tmp 42) = .int .i64 k' := by rw [← hA]; exact puts_get 9 ds L _ hap (by rw [hds]; rfl) (hd 9 (by decide +kernel) (by intro al hal; cases hal)) (show 42 < 50 by decide)
              clear hA hd hB ho hs ha hO
              unfold execOp
              go_simp
          case store =>
            intro st hst L W o h us ho hd hal hC b
            simp only [List.mem_cons, List.not_mem_nil, or_false] at hst; rcases hst with rfl
            · dsimp only at ho hd hal hC b ⊢
              obtain rfl := Option.some.inj ho
              obtain ⟨hh, rfl⟩ := hC _ _ rfl
              replace hh := hh.symm
              subst hh
              have c0 := b.at_ 0 _ rfl
              have f0 := b.fr 0 _ rfl
              have c1 := b.at_ 1 _ rfl
              have f1 := b.fr 1 _ rfl
              have c2 := b.at_ 2 _ rfl
              have f2 := b.fr 2 _ rfl
              refine ⟨?_, rfl⟩
              generalize hA : (puts ds L _).eval = ρ
              have h0 : ρ (.tmp 11) = .pointer (some ⟨g1, 0, none⟩) := by rw [← hA]; exact (puts_old ds L _ (by rw [hds]; decide)).trans rfl
              have h1 : ρ (.tmp 41) = .agg #[.float .f64 y1', .float .f64 y2', .float .f64 y3'] := by rw [← hA]; exact puts_get 8 ds L _ hap (by rw [hds]; rfl) (hd 8 (by decide +kernel) (by intro al hal; cases hal)) (show 41 < 50 by decide)
              have hst' := @fstore
              clear hA hd b ho hal hC
              simp only [putV]
              unfold execOp
              go_simp
          case fin =>
            intro hf W0 K
            rw [hds]
            clear hds hap ds CU
            (try dsimp only at K)
            simp only [List.set_cons_zero, List.set_cons_succ, puts, Act.put, List.setIfInBounds_toArray]
            obtain ⟨d0, -⟩ := far.out W0 K.old
            replace K := Lib.hid K
            go_wp2_with fail
            go_roundw
            case rel => exact ⟨up, k', y1', y2', y3', rfl, rfl, u0, by omega, AU.out, NX.out, K.out⟩
            case measure => simp [intOf]; omega
      · have tk : (k == 0) = false := by simpa using hk
        have fin := R.out.fin (fun e => absurd e hk)
        replace fin := Lib.hid fin
        have c2_0 := (K.at_ 2 rfl).at_ 0 _ rfl
        have c2_1 := (K.at_ 2 rfl).at_ 1 _ rfl
        have c2_2 := (K.at_ 2 rfl).at_ 2 _ rfl
        have c1_0 := (K.at_ 1 rfl).at_ 0 _ rfl
        have f1_0 := (K.at_ 1 rfl).fr 0 _ rfl
        have c1_1 := (K.at_ 1 rfl).at_ 1 _ rfl
        have f1_1 := (K.at_ 1 rfl).fr 1 _ rfl
        have c1_2 := (K.at_ 1 rfl).at_ 2 _ rfl
        have f1_2 := (K.at_ 1 rfl).fr 2 _ rfl
        replace K := Lib.hid K
        go_wp2_with fail
        replace K := K.out
        (try simp only [Exit.inBlock, Exit.then])
        refine bodyPost_ret (v := .tuple #[.agg #[.float .f64 p1, .float .f64 p2, .float .f64 p3], .int .i64 k]) ?_ rfl ⟨ret_vF fin.out, ?_⟩
        · rw [results_cell_tmp rfl]; go_simp
        · exact (((K.old).setCell (by first | exact Nat.le_refl _ | (dsimp only; omega)) _).setCell (by first | exact Nat.le_refl _ | (dsimp only; omega)) _).setCell (by first | exact Nat.le_refl _ | (dsimp only; omega)) _
  · rw [if_neg hr]
    have tk : (readyF L i0 (witB g24 d) != 0) = true := by simpa using hr
    clear hr ha hn hL hv Y CS
    generalize readyF L i0 (witB g24 d) = k at *
    generalize witB g24 d = tb at *
    obtain ⟨x1, x2, x3⟩ := v
    unfold vecV at *
    dsimp only at *
    have K0 := kv2 w 25 25 [.float .f64 x1, .float .f64 x2, .float .f64 x3] [.float .f64 0, .float .f64 0, .float .f64 0]
    simp only [objV] at K0
    have hst := @fstore
    replace K0 := Lib.hid K0
    go_enter Tryz.func6, Tryz.ntmps6
    go_wp2_with (go_at_call 15; ((with_reducible refine (CT _).mono ?_); rintro e w' ⟨rfl, rfl⟩))
    have K := K0.out
    clear K0
    generalize (w.alloc _).alloc _ = wr at *
    refine (CR.out wr K.old).mono ?_
    rintro _ v1 ⟨rfl, hb⟩
    replace K := K.on hb
    clear hb CR
    have c1_0 := (K.at_ 1 rfl).at_ 0 _ rfl
    have f1_0 := (K.at_ 1 rfl).fr 0 _ rfl
    have c1_1 := (K.at_ 1 rfl).at_ 1 _ rfl
    have f1_1 := (K.at_ 1 rfl).fr 1 _ rfl
    have c1_2 := (K.at_ 1 rfl).at_ 2 _ rfl
    have f1_2 := (K.at_ 1 rfl).fr 2 _ rfl
    replace K := Lib.hid K
    go_wp2_with fail
    replace K := K.out
    (try simp only [Exit.inBlock, Exit.then])
    refine bodyPost_ret (v := .tuple #[.agg #[.float .f64 0, .float .f64 0, .float .f64 0], .int .i64 k]) ?_ rfl ⟨rfl, ?_⟩
    · rw [results_cell_tmp rfl]; go_simp
    · exact (((K.old).setCell (by first | exact Nat.le_refl _ | (dsimp only; omega)) _).setCell (by first | exact Nat.le_refl _ | (dsimp only; omega)) _).setCell (by first | exact Nat.le_refl _ | (dsimp only; omega)) _
end Go.Proofs.YtgblpibanagcgaaGreat

namespace Go.Proofs.YtgblpibanagcgaaGreat
open Go.ChangeShapes Go.WideShapes Go.ChangeAt Go.RowKit Ieee.Own

/-- a list of ints as records of one cell -/
def inR (M : List Int) : List (List Value) := M.map fun x => [.int .i64 x]
theorem inR_len (M : List Int) : (inR M).length = M.length := by simp [inR]
def OwnN (base : Nat) (w : World) (M : List Int) (v : Value) (w' : World) : Prop := OwnR 3 1 base w (inR M) v w'
theorem way_len {L : List Fr} (h : FsOk L) : ∀ (n : Nat) (i : Int), -1 ≤ i → i < (L.length : Int) → i < n → ((way L i).length : Int) ≤ i + 1
  | n, i, h0, hl, hn => by
    by_cases e : i < 0
    · have : way L i = [] := by show wayF L 17 i = []; unfold wayF; rw [if_pos e]
      rw [this]; simp; omega
    · obtain ⟨m, rfl⟩ : ∃ m : Nat, i = m := ⟨i.toNat, by omega⟩
      have hm : m < L.length := by omega
      rw [way_step h hm]
      have k := (h.ok m hm).up1
      have k0 := (h.ok m hm).up0
      cases n with
      | zero => omega
      | succ n =>
        have := way_len h n _ k0 (by omega) (by omega)
        rw [List.length_cons]
        omega
end Go.Proofs.YtgblpibanagcgaaGreat
