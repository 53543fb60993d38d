/- Proved here: what the texts Szw, Szp prove, one behind the other. -/
import Derived.Test.YtocnpcjpkieogaaGreatDoorJs1
import Derived.Test.YtocnpcjpkieogaaGreatDoorJs7
import Derived.Test.YtocnpcjpkieogaaGreatDoorJs10
import Derived.StillTailTactics
import Derived.BigQuiet
import Derived.IntWalk
import Derived.Lib.SlBytesConst
import Derived.Deep.CutRange

namespace Go.Proofs.YtocnpcjpkieogaaGreatDoor
open Go.ChangeShapes Go.WideShapes Go.ChangeAt Go.RowKit

/-- w digits of n, written into a list from o on -/
def wrI : Nat → Nat → Nat → List Int → List Int
  | 0, _, _, L => L
  | w + 1, o, n, L => wrI w o (n / 10) (L.set (o + w) (48 + ((n % 10 : Nat) : Int)))
theorem wrI_len : ∀ (w o n : Nat) (L : List Int), (wrI w o n L).length = L.length
  | 0, _, _, _ => rfl
  | w + 1, o, n, L => by show (wrI w o (n / 10) _).length = _; rw [wrI_len w]; simp
theorem wrI_is : ∀ (w n : Nat) (A B C : List Int), B.length = w → wrI w A.length n (A ++ (B ++ C)) = A ++ (dgI w n ++ C)
  | 0, n, A, B, C, h => by rw [List.eq_nil_of_length_eq_zero h]; rfl
  | w + 1, n, A, B, C, h => by
    have hne : B ≠ [] := fun e => by rw [e] at h; simp at h
    have e := List.dropLast_concat_getLast hne
    have hd : B.dropLast.length = w := by rw [List.length_dropLast]; omega
    generalize B.getLast hne = x at *
    generalize B.dropLast = D at *
    subst e
    show wrI w A.length (n / 10) ((A ++ (D ++ [x] ++ C)).set (A.length + w) _) = _
    have : (A ++ (D ++ [x] ++ C)).set (A.length + w) (48 + ((n % 10 : Nat) : Int)) = A ++ (D ++ ([48 + ((n % 10 : Nat) : Int)] ++ C)) := by
      rw [List.set_append_right _ _ (by omega), Nat.add_sub_cancel_left, List.append_assoc, List.set_append_right _ _ (by omega), hd, Nat.sub_self]
      rfl
    rw [this, wrI_is w (n / 10) A D _ hd, dgI_succ, List.append_assoc]
/-- a row of bytes that the call made, beside a block that stays -/
structure Rowb (w0 : World) (g : Nat) (L : List Int) (d : Nat) (D : Array Value) (u : World) : Prop where
  old : Below w0.heap.size w0 u
  base : w0.heap.size ≤ g
  gin : g < u.heap.size
  cell : ∀ k, k < L.length → u.cell? ⟨g, k, none⟩ = some (.int .u8 (L.getD k 0))
  warm : ∀ k, k < L.length → u.frozen? ⟨g, k, none⟩ = false
  dd : d < u.heap.size
  ne : d ≠ g
  dcell : ∀ j, u.cell? ⟨d, j, none⟩ = D[j]?
theorem Rowb.store {w0 u : World} {g d k : Nat} {L : List Int} {D : Array Value} (h : Rowb w0 g L d D u) (hk : k < L.length) (x : Int) : Rowb w0 g (L.set k x) d D (u.setCell ⟨g, k, none⟩ (.int .u8 x)) := by
  have hv := h.cell k hk
  have hb : Below w0.heap.size w0 (u.setCell ⟨g, k, none⟩ (.int .u8 x)) := h.old.setCell h.base _
  have same : (u.setCell ⟨g, k, none⟩ (.int .u8 x)).cell? ⟨g, k, none⟩ = some (.int .u8 x) := World.cell?_setCell_same _ _ _ hv
  have other : ∀ j, j ≠ k → (u.setCell ⟨g, k, none⟩ (.int .u8 x)).cell? ⟨g, j, none⟩ = u.cell? ⟨g, j, none⟩ := fun j hj => World.cell?_setCell_other _ _ _ _ (by intro e; simp only [Addr.mk.injEq] at e; omega)
  refine ⟨hb, h.base, by simpa using h.gin, fun j hj => ?_, fun j hj => ?_, by simpa using h.dd, h.ne, fun j => ?_⟩
  · rw [List.length_set] at hj
    by_cases e : j = k
    · rw [e, same]; simp [List.getD, hk]
    · rw [other j e, h.cell j hj]; simp [List.getD, Ne.symm e]
  · rw [List.length_set] at hj
    rw [World.frozen?_setCell]; exact h.warm j hj
  · rw [World.cell?_setCell_other _ _ _ _ (by intro e; simp only [Addr.mk.injEq] at e; exact h.ne e.1.symm)]; exact h.dcell j
theorem Rowb.drewN {w0 u : World} {g d : Nat} {L : List Int} {D : Array Value} (h : Rowb w0 g L d D u) (n : Nat) : Rowb w0 g L d D (u.drewN n) :=
  ⟨bl_drewN h.old n, h.base, h.gin, h.cell, h.warm, h.dd, h.ne, h.dcell⟩
set_option maxRecDepth 100000 in
theorem write_run (w0 u : World) (g d : Nat) (L : List Int) (D : Array Value) (o w c n : Nat) (hw : w ≤ 10) (hn : n < 9223372036854775808) (ho : o + w ≤ L.length) (_hl : L.length ≤ 100) (h : Rowb w0 g L d D u) :
    Calls Tryz.prog 27 #[.slice (some ⟨g, o, none⟩) w c, .int .i64 (n : Int)] u fun e u' => e = .returned (.tuple #[]) ∧ Rowb w0 g (wrI w o n L) d D u' := by
  replace h := Lib.hid h
  go_enter Tryz.func27, Tryz.ntmps27
  go_wp2_with fail
  go_loopw [1, 7] (fun nv iv wr => ∃ (r m : Nat) (M : List Int), r ≤ w ∧ m < 9223372036854775808 ∧ nv = .int .i64 (m : Int) ∧ iv = .int .i64 (r : Int) ∧ M.length = L.length ∧ wrI (w - r) o m M = wrI w o n L ∧ Rowb w0 g M d D wr) (fun _ iv _ => w - (intOf iv).toNat)
  case atStart => exact ⟨0, n, L, Nat.zero_le _, hn, rfl, rfl, rfl, rfl, h.out⟩
  case round =>
    obtain ⟨r, m, M, hj, hm, rfl, rfl, hM, hT, R⟩ := hrel
    by_cases hlt : r < w
    · have hk : o + (w - 1 - r) < M.length := by omega
      have R2 := Lib.hid (R.store hk (48 + ((m % 10 : Nat) : Int)))
      have c1 := R.cell (o + (w - 1 - r)) hk
      have f1 := R.warm (o + (w - 1 - r)) hk
      have hT2 : Hid (wrI (w - (r + 1)) o (m / 10) (M.set (o + (w - 1 - r)) (48 + ((m % 10 : Nat) : Int))) = wrI w o n L) := by
        show _ = _
        rw [← hT, show w - r = (w - 1 - r) + 1 by omega, show w - (r + 1) = w - 1 - r by omega]
        rfl
      have hM2 : Hid ((M.set (o + (w - 1 - r)) (48 + ((m % 10 : Nat) : Int))).length = L.length) := by
        show _ = _
        simp [hM]
      generalize M.getD (o + (w - 1 - r)) 0 = x at *
      clear R hT hM hk
      go_wp2_with fail
      go_roundw
      case rel => exact ⟨r + 1, m / 10, M.set (o + (w - 1 - r)) (48 + ((m % 10 : Nat) : Int)), hlt, by omega, congrArg (Value.int .i64) (by omega), rfl, hM2.out, hT2.out, by rw [show (48 + (m : Int) % 10) = 48 + ((m % 10 : Nat) : Int) by omega]; exact R2.out⟩
      case measure => first | (simp [intOf]; done) | (simp [intOf]; omega)
    · obtain rfl : r = w := by omega
      rw [Nat.sub_self] at hT
      have hT : M = wrI r o n L := hT
      subst hT
      replace R := Lib.hid R
      go_wp2_with fail
      refine bodyPost_end (results_none rfl _ _ _) rfl ?_
      exact ⟨rfl, R.out⟩
end Go.Proofs.YtocnpcjpkieogaaGreatDoor

namespace Go.Proofs.YtocnpcjpkieogaaGreatDoor
open Go.ChangeShapes Go.WideShapes Go.ChangeAt Go.RowKit

set_option maxRecDepth 100000 in
theorem print_no (t : Int) (h : isI t = false) (w : World) : Calls Tryz.prog 10 #[.int .i64 t] w fun e w' => e = .returned (prV t) ∧ Below w.heap.size w w' := by
  have C := Lib.hid (fun w => to_run t w)
  rw [toV_f h] at C
  rw [prV_f h]
  unfold noDate dAgg at C
  clear h
  go_enter Tryz.func10, Tryz.ntmps10
  go_wp2_with fail
  refine (C.out w).mono ?_
  rintro _ v1 ⟨rfl, hb⟩
  have hs := hb.size
  replace hb := Lib.hid hb
  clear C
  go_wp2_with fail
  go_ret2
  exact ⟨rfl, hb.out.alloc hs _⟩
/-- the form, its sign told -/
def formI (sg : Int) : List Int := [sg, 48, 48, 48, 48, 48, 45, 48, 48, 45, 48, 48, 32, 48, 48, 58, 48, 48, 58, 48, 48, 46, 48, 48, 48, 48]
/-- the row behind all seven numbers -/
theorem form_stD (y : Int) (mo dy hr mi se tk : Nat) : wrI 4 22 tk (wrI 2 19 se (wrI 2 16 mi (wrI 2 13 hr (wrI 2 10 dy (wrI 2 7 mo (wrI 5 1 y.natAbs (formI (if y < 0 then 45 else 43)))))))) = stD y mo dy hr mi se tk := by
  generalize hs : (if y < 0 then (45 : Int) else 43) = sg
  have e1 : wrI 5 1 y.natAbs (formI sg) = [sg] ++ (dgI 5 y.natAbs ++ [45, 48, 48, 45, 48, 48, 32, 48, 48, 58, 48, 48, 58, 48, 48, 46, 48, 48, 48, 48]) := wrI_is 5 y.natAbs [sg] [48, 48, 48, 48, 48] _ rfl
  obtain ⟨y1, y2, y3, y4, y5, fy⟩ := form5 (dgI_len 5 y.natAbs)
  obtain ⟨a1, a2, fa⟩ := form2 (dgI_len 2 mo)
  obtain ⟨b1, b2, fb⟩ := form2 (dgI_len 2 dy)
  obtain ⟨c1, c2, fc⟩ := form2 (dgI_len 2 hr)
  obtain ⟨d1, d2, fd⟩ := form2 (dgI_len 2 mi)
  obtain ⟨g1, g2, fe⟩ := form2 (dgI_len 2 se)
  obtain ⟨t1, t2, t3, t4, ft⟩ := form4 (dgI_len 4 tk)
  have e2 := wrI_is 2 mo [sg, y1, y2, y3, y4, y5, 45] [48, 48] [45, 48, 48, 32, 48, 48, 58, 48, 48, 58, 48, 48, 46, 48, 48, 48, 48] rfl
  have e3 := wrI_is 2 dy [sg, y1, y2, y3, y4, y5, 45, a1, a2, 45] [48, 48] [32, 48, 48, 58, 48, 48, 58, 48, 48, 46, 48, 48, 48, 48] rfl
  have e4 := wrI_is 2 hr [sg, y1, y2, y3, y4, y5, 45, a1, a2, 45, b1, b2, 32] [48, 48] [58, 48, 48, 58, 48, 48, 46, 48, 48, 48, 48] rfl
  have e5 := wrI_is 2 mi [sg, y1, y2, y3, y4, y5, 45, a1, a2, 45, b1, b2, 32, c1, c2, 58] [48, 48] [58, 48, 48, 46, 48, 48, 48, 48] rfl
  have e6 := wrI_is 2 se [sg, y1, y2, y3, y4, y5, 45, a1, a2, 45, b1, b2, 32, c1, c2, 58, d1, d2, 58] [48, 48] [46, 48, 48, 48, 48] rfl
  have e7 := wrI_is 4 tk [sg, y1, y2, y3, y4, y5, 45, a1, a2, 45, b1, b2, 32, c1, c2, 58, d1, d2, 58, g1, g2, 46] [48, 48, 48, 48] [] rfl
  rw [fy] at e1; rw [fa] at e2; rw [fb] at e3; rw [fc] at e4; rw [fd] at e5; rw [fe] at e6; rw [ft] at e7
  simp only [List.cons_append, List.nil_append, List.length_cons, List.length_nil, Nat.zero_add, Nat.reduceAdd] at e1 e2 e3 e4 e5 e6 e7
  unfold stD
  rw [e1, e2, e3, e4, e5, e6, e7, hs, fy, fa, fb, fc, fd, fe, ft]
  rfl
theorem Rowb.drew {w0 u : World} {g d : Nat} {L : List Int} {D : Array Value} (h : Rowb w0 g L d D u) : Rowb w0 g L d D u.drew :=
  ⟨h.old.drew, h.base, h.gin, h.cell, h.warm, h.dd, h.ne, h.dcell⟩
theorem at_world {P : Program} {R : World → Prop} {W : World} {c : Code} {Q : Exit → Act → World → Prop} {a : Act} (h : R W) (k : ∀ u, R u → Code.wp P c Q a u) : Code.wp P c Q a W := k W h
theorem Rowb.first (w v : World) (L : List Int) (D : Array Value) (T T' : TypeId) (r : Nat × Nat) (hr : r.1 = L.length) (hb : Below w.heap.size w v) :
    Rowb w (v.heap.size + 1) L v.heap.size D ((v.alloc (.cells D T)).alloc (.cells (L.map (Value.int .u8)).toArray T' r)) := by
  have hs := hb.size
  refine ⟨(hb.alloc hs _).alloc (by simp; omega) _, by omega, by simp, fun k hk => ?_, fun k hk => ?_, by simp; omega, by omega, fun j => ?_⟩
  · have e := World.cell?_alloc_mark (v.alloc (.cells D T)) (L.map (Value.int .u8)).toArray T' r k
    rw [World.size_alloc] at e
    rw [e]
    simp [List.getD, hk]
  · obtain ⟨lo, hi⟩ := r
    have e := World.frozen?_alloc_mark (v.alloc (.cells D T)) (L.map (Value.int .u8)).toArray T' lo hi k
    rw [World.size_alloc] at e
    rw [e]
    have : lo = L.length := hr
    simp; omega
  · rw [World.cell?_alloc_past _ _ _ (by simp)]
    exact World.cell?_alloc_at _ _ _ _ rfl
set_option maxHeartbeats 20000000 in
set_option maxRecDepth 100000 in
theorem print_yes (t : Int) (h : isI t = true) (w : World) : Calls Tryz.prog 10 #[.int .i64 t] w fun e w' => e = .returned (prV t) ∧ Below w.heap.size w w' := by
  have C := Lib.hid (fun w => to_run t w)
  rw [toV_t h] at C
  rw [prV_t h]
  obtain ⟨g1, g2⟩ := isI_b h
  obtain ⟨⟨m1, m2⟩, ⟨d1, d2⟩, ⟨h1, h2⟩, ⟨i1, i2⟩, ⟨s1, s2⟩, ⟨k1, k2⟩⟩ := isD_parts (isD_of t)
  have d3 := (mLen_le (dYr t) (dMo t)).2
  have yr : -45965 ≤ dYr t ∧ dYr t ≤ 45965 := yof_range (by omega) (by omega)
  obtain ⟨T, hT⟩ : ∃ T, T = stampL t := ⟨_, rfl⟩
  rw [← hT]
  unfold stampL at hT
  unfold dateV dAgg at C
  obtain ⟨mo, hmo⟩ : ∃ n : Nat, dMo t = n := ⟨(dMo t).toNat, by omega⟩
  obtain ⟨dy, hdy⟩ : ∃ n : Nat, dDy t = n := ⟨(dDy t).toNat, by omega⟩
  obtain ⟨hr, hhr⟩ : ∃ n : Nat, dHr t = n := ⟨(dHr t).toNat, by omega⟩
  obtain ⟨mi, hmi⟩ : ∃ n : Nat, dMi t = n := ⟨(dMi t).toNat, by omega⟩
  obtain ⟨se, hse⟩ : ∃ n : Nat, dSe t = n := ⟨(dSe t).toNat, by omega⟩
  obtain ⟨tk, htk⟩ : ∃ n : Nat, dTk t = n := ⟨(dTk t).toNat, by omega⟩
  rw [hmo, hdy, hhr, hmi, hse, htk] at C hT
  simp only [Int.toNat_natCast] at hT
  rw [← form_stD] at hT
  generalize dYr t = y at *
  obtain ⟨yr1, yr2⟩ := yr
  have bm : mo ≤ 99 := by omega
  have bd : dy ≤ 99 := by omega
  have bh : hr ≤ 99 := by omega
  have bi : mi ≤ 99 := by omega
  have bs : se ≤ 99 := by omega
  have bt : tk ≤ 9999 := by omega
  clear h g1 g2 m1 m2 d1 d2 h1 h2 i1 i2 s1 s2 k1 k2 d3 hmo hdy hhr hmi hse htk
  replace hT := Lib.hid hT
  go_enter Tryz.func10, Tryz.ntmps10
  go_wp2_with fail
  refine (C.out w).mono ?_
  rintro _ v1 ⟨rfl, hb⟩
  have hs := hb.size
  replace hb := Lib.hid hb
  clear C
  have kc : ∀ (O : Obj) (C : Array Value) (n c : Nat), (convert 52 52 (.slice (some ⟨v1.heap.size + 1, 0, none⟩) n c)).run Tryz.prog ((v1.alloc O).alloc (.cells C 5)) = .ok (.slice (some ⟨v1.heap.size + 1, 0, none⟩) n c) ((v1.alloc O).alloc (.cells C 5 (C.size, C.size + 1))) := fun O C n c => by
    have := Lib.run_convert_bytes_const (P := Tryz.prog) (v1.alloc O) 52 5 C n c Tryz.underlying52 Tryz.underlying5
    rw [World.size_alloc] at this
    exact this
  obtain ⟨d, hd⟩ : ∃ d, d = v1.heap.size := ⟨_, rfl⟩
  go_upto_region 5 with fail
  refine at_world (R := Rowb w (v1.heap.size + 1) (formI 43) v1.heap.size #[.int .i64 y, .int .i64 (mo : Int), .int .i64 (dy : Int), .int .i64 (hr : Int), .int .i64 (mi : Int), .int .i64 (se : Int), .int .i64 (tk : Int)]) (Rowb.first w v1 (formI 43) _ _ _ (26, 27) rfl hb.out) ?_
  intro u R0
  have cy := R0.dcell 0
  have cb := R0.cell 0 (by decide)
  have fb := R0.warm 0 (by decide)
  have cy : u.cell? ⟨v1.heap.size, 0, none⟩ = some (.int .i64 y) := cy
  have cb : u.cell? ⟨v1.heap.size + 1, 0, none⟩ = some (.int .u8 43) := cb
  have R1 : Hid (Rowb w (v1.heap.size + 1) (formI 45) v1.heap.size #[.int .i64 y, .int .i64 (mo : Int), .int .i64 (dy : Int), .int .i64 (hr : Int), .int .i64 (mi : Int), .int .i64 (se : Int), .int .i64 (tk : Int)] (u.setCell ⟨v1.heap.size + 1, 0, none⟩ (.int .u8 45))) := R0.store (k := 0) (by decide) 45
  replace R0 := Lib.hid R0
  replace hd := Lib.hid hd
  clear kc
  go_upto_if 19 with fail
  go_cut [] from 7 (fun u => Rowb w (v1.heap.size + 1) (formI (if y < 0 then 45 else 43)) v1.heap.size #[.int .i64 y, .int .i64 (mo : Int), .int .i64 (dy : Int), .int .i64 (hr : Int), .int .i64 (mi : Int), .int .i64 (se : Int), .int .i64 (tk : Int)] u)
  case first =>
    have P1 : Hid (y < 0 → formI 45 = formI (if y < 0 then 45 else 43)) := fun h => by rw [if_pos h]
    have P2 : Hid (0 ≤ y → formI 43 = formI (if y < 0 then 45 else 43)) := fun h => by rw [if_neg (by omega)]
    go_wp2_with fail
    all_goals go_meet
    all_goals first | exact P1.out (by assumption) ▸ R1.out | exact P2.out (by assumption) ▸ R0.out
  case rest =>
    clear R0 R1 cy cb fb
    replace hcut := Lib.hid hcut
    have ey : (if y < IntKind.i64.wrap (-y) then IntKind.i64.wrap (-y) else y) = (y.natAbs : Int) := by
      rw [IntWalk.i64_in _ (by omega)]
      split <;> omega
    have eN : y.natAbs < 100000 := by omega
    generalize y.natAbs = yN at *
    generalize (if y < 0 then (45 : Int) else 43) = sg at *
    obtain ⟨L0, hL0⟩ : ∃ L, L = formI sg := ⟨_, rfl⟩
    have l0 : L0.length = 26 := by rw [hL0]; rfl
    rw [← hL0] at hcut hT
    clear hL0
    have c0 : wc.cell? ⟨v1.heap.size, 0, none⟩ = some (.int .i64 y) := hcut.out.dcell 0
    go_wp2_with fail
    go_still_tail 8, (by kernel_rfl)
    change wpList _ _ _ _ _ wc.drew
    clear ey
    go_wp2_with fail
    refine (write_run w wc.drew _ _ L0 _ 1 5 _ yN (by decide) (by omega) (by omega) (by omega) hcut.out.drew).mono ?_
    rintro _ x1 ⟨rfl, R1⟩
    have l1 : (wrI 5 1 yN L0).length = 26 := by rw [wrI_len]; exact l0
    obtain ⟨L1, hL1⟩ : ∃ L, L = wrI 5 1 yN L0 := ⟨_, rfl⟩
    rw [← hL1] at R1 l1 hT
    clear hL1 hcut c0
    replace R1 := Lib.hid R1
    go_wp2_with fail
    have c1 : x1.cell? ⟨v1.heap.size, 1, none⟩ = some (.int .i64 (mo : Int)) := R1.out.dcell 1
    go_still_tail 4, (by kernel_rfl)
    change wpList _ _ _ _ _ x1.drew
    go_wp2_with fail
    refine (write_run w x1.drew _ _ L1 _ 7 2 _ mo (by decide) (by omega) (by omega) (by omega) R1.out.drew).mono ?_
    rintro _ x2 ⟨rfl, R2⟩
    have l2 : (wrI 2 7 mo L1).length = 26 := by rw [wrI_len]; exact l1
    obtain ⟨L2, hL2⟩ : ∃ L, L = wrI 2 7 mo L1 := ⟨_, rfl⟩
    rw [← hL2] at R2 l2 hT
    clear hL2 R1 c1
    replace R2 := Lib.hid R2
    go_wp2_with fail
    have c2 : x2.cell? ⟨v1.heap.size, 2, none⟩ = some (.int .i64 (dy : Int)) := R2.out.dcell 2
    go_still_tail 4, (by kernel_rfl)
    change wpList _ _ _ _ _ x2.drew
    go_wp2_with fail
    refine (write_run w x2.drew _ _ L2 _ 10 2 _ dy (by decide) (by omega) (by omega) (by omega) R2.out.drew).mono ?_
    rintro _ x3 ⟨rfl, R3⟩
    have l3 : (wrI 2 10 dy L2).length = 26 := by rw [wrI_len]; exact l2
    obtain ⟨L3, hL3⟩ : ∃ L, L = wrI 2 10 dy L2 := ⟨_, rfl⟩
    rw [← hL3] at R3 l3 hT
    clear hL3 R2 c2
    replace R3 := Lib.hid R3
    go_wp2_with fail
    have c3 : x3.cell? ⟨v1.heap.size, 3, none⟩ = some (.int .i64 (hr : Int)) := R3.out.dcell 3
    go_still_tail 4, (by kernel_rfl)
    change wpList _ _ _ _ _ x3.drew
    go_wp2_with fail
    refine (write_run w x3.drew _ _ L3 _ 13 2 _ hr (by decide) (by omega) (by omega) (by omega) R3.out.drew).mono ?_
    rintro _ x4 ⟨rfl, R4⟩
    have l4 : (wrI 2 13 hr L3).length = 26 := by rw [wrI_len]; exact l3
    obtain ⟨L4, hL4⟩ : ∃ L, L = wrI 2 13 hr L3 := ⟨_, rfl⟩
    rw [← hL4] at R4 l4 hT
    clear hL4 R3 c3
    replace R4 := Lib.hid R4
    go_wp2_with fail
    have c4 : x4.cell? ⟨v1.heap.size, 4, none⟩ = some (.int .i64 (mi : Int)) := R4.out.dcell 4
    go_still_tail 4, (by kernel_rfl)
    change wpList _ _ _ _ _ x4.drew
    go_wp2_with fail
    refine (write_run w x4.drew _ _ L4 _ 16 2 _ mi (by decide) (by omega) (by omega) (by omega) R4.out.drew).mono ?_
    rintro _ x5 ⟨rfl, R5⟩
    have l5 : (wrI 2 16 mi L4).length = 26 := by rw [wrI_len]; exact l4
    obtain ⟨L5, hL5⟩ : ∃ L, L = wrI 2 16 mi L4 := ⟨_, rfl⟩
    rw [← hL5] at R5 l5 hT
    clear hL5 R4 c4
    replace R5 := Lib.hid R5
    go_wp2_with fail
    have c5 : x5.cell? ⟨v1.heap.size, 5, none⟩ = some (.int .i64 (se : Int)) := R5.out.dcell 5
    go_still_tail 4, (by kernel_rfl)
    change wpList _ _ _ _ _ x5.drew
    go_wp2_with fail
    refine (write_run w x5.drew _ _ L5 _ 19 2 _ se (by decide) (by omega) (by omega) (by omega) R5.out.drew).mono ?_
    rintro _ x6 ⟨rfl, R6⟩
    have l6 : (wrI 2 19 se L5).length = 26 := by rw [wrI_len]; exact l5
    obtain ⟨L6, hL6⟩ : ∃ L, L = wrI 2 19 se L5 := ⟨_, rfl⟩
    rw [← hL6] at R6 l6 hT
    clear hL6 R5 c5
    replace R6 := Lib.hid R6
    go_wp2_with fail
    have c6 : x6.cell? ⟨v1.heap.size, 6, none⟩ = some (.int .i64 (tk : Int)) := R6.out.dcell 6
    go_still_tail 4, (by kernel_rfl)
    change wpList _ _ _ _ _ x6.drew
    go_wp2_with fail
    refine (write_run w x6.drew _ _ L6 _ 22 4 _ tk (by decide) (by omega) (by omega) (by omega) R6.out.drew).mono ?_
    rintro _ x7 ⟨rfl, R7⟩
    have l7 : (wrI 4 22 tk L6).length = 26 := by rw [wrI_len]; exact l6
    obtain ⟨L7, hL7⟩ : ∃ L, L = wrI 4 22 tk L6 := ⟨_, rfl⟩
    rw [← hL7] at R7 l7 hT
    clear hL7 R6 c6
    replace R7 := Lib.hid R7
    have hTL : T = L7 := hT.out
    subst hTL
    have CV := run_convert_bytes_arg x7 52 5 Tryz.underlying52 Tryz.underlying5 (v1.heap.size + 1) 0 26 26 T l7 (fun k hk => by rw [Nat.zero_add]; exact R7.out.cell k (by rw [l7]; exact hk)) 9 Tryz.underlying9
    replace l7 := Lib.hid l7
    have B := Lib.hid R7.out.old
    clear R7
    go_wp2_with fail
    go_ret2
    exact ⟨rfl, B.out⟩
set_option maxRecDepth 100000 in
theorem print_run (t : Int) (w : World) : Calls Tryz.prog 10 #[.int .i64 t] w fun e w' => e = .returned (prV t) ∧ Below w.heap.size w w' := by
  cases h : isI t with
  | true => exact print_yes t h w
  | false => exact print_no t h w
end Go.Proofs.YtocnpcjpkieogaaGreatDoor
