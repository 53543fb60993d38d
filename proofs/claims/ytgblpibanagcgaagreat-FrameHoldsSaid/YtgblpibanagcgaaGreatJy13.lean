/- Proved here: what the texts Frr prove, one behind the other. -/
import Derived.Test.YtgblpibanagcgaaGreatJy12
import Derived.Test.YtgblpibanagcgaaGreatJy6
import Derived.Test.YtgblpibanagcgaaGreatJy9
import Derived.Test.YtgblpibanagcgaaGreatJx9

namespace Go.Proofs.YtgblpibanagcgaaGreat
open Go.ChangeShapes Go.WideShapes Go.ChangeAt Go.RowKit Ieee.Own Pol Fma

/-- moved up truly, by the angle as it is rounded -/
def upQ (f : Fr) (d : Nat) (p : R3) : R3 := addQ (qv f.og) (rotQ f.ax (SQ (angW f d)) (CQ (angW f d)) p)
structure UpB (f : Fr) (t : Pr) (b : B6) (r : B6 × Int) : Prop where
  w : W6 r.1
  has : r.2 = 0 → Sn3 r.1 63 ∧ ∀ (d : Nat) (p : R3), d < 18446744073709551616 → witB g24 d = true → V t.1 ≤ V d → V d ≤ V t.2 → InB p b → InB (upQ f d p) r.1
  run : ∀ w, Calls Tryz.prog 23 #[frV f, pv t, boxV b] w fun e w' => e = .returned (boxE r.1 r.2) ∧ Below w.heap.size w w'
theorem og_fit {f : Fr} {i : Int} (w : FrW f) (h : FrOk f i) : fitV f.og = true := by
  have k : ∀ {x : Nat}, x < 18446744073709551616 → witB g40 x = true → vnB x = true := fun {x} hx h => by
    obtain ⟨a, b, c⟩ := wit_spec hx v40 h
    exact vnB_small a b (abs_up (k := 1114) (l := 1134) c (by omega))
  show (vnB f.o1 && vnB f.o2 && vnB f.o3) = true
  rw [k w.o1 h.o1, k w.o2 h.o2, k w.o3 h.o3]
  rfl
set_option maxHeartbeats 4000000 in
set_option maxRecDepth 100000 in
theorem upbox_ex {f : Fr} {i : Int} {t : Pr} {b : B6} (wf : FrW f) (ok : FrOk f i) (ht : W2 t) (et : timB t = true) (hb : W6 b) : ∃ r, UpB f t b r := by
  obtain ⟨A, AS, CA⟩ := fangles_run wf ok.ph ok.rt ht et
  obtain ⟨y, k, wy, hy, CT⟩ := boxturn8 (b := b) ok.ax0 ok.ax1 AS.sn hb
  by_cases hk : k = 0
  · subst hk
    obtain ⟨S3, H⟩ := hy rfl
    have fo := og_fit wf ok
    have CO := fun w => vboxof_any (og_w wf) w
    have eo : boxOfR f.og = (ptB f.og, 0) := if_pos fo
    rw [eo] at CO
    have h := fo
    unfold fitV at h
    simp only [Bool.and_eq_true] at h
    obtain ⟨s1, b1, -⟩ := pt_ok wf.o1 h.1.1
    obtain ⟨s2, b2, -⟩ := pt_ok wf.o2 h.1.2
    obtain ⟨s3, b3, -⟩ := pt_ok wf.o3 h.2
    have WO : W6 (ptB f.og) := ⟨s1.w2, s2.w2, s3.w2⟩
    have IO : InB (qv f.og) (ptB f.og) := by
      refine ⟨?_, ?_, ?_⟩
      · show In (Q f.o1) (ps (ptS7 f.o1)); rw [b1]; exact ⟨Rat.le_refl, Rat.le_refl⟩
      · show In (Q f.o2) (ps (ptS7 f.o2)); rw [b2]; exact ⟨Rat.le_refl, Rat.le_refl⟩
      · show In (Q f.o3) (ps (ptS7 f.o3)); rw [b3]; exact ⟨Rat.le_refl, Rat.le_refl⟩
    obtain ⟨q, l, wq, hq, CD⟩ := boxadd8 WO wy
    refine ⟨(q, l), ⟨wq, fun e => ?_, fun w => fupbox_ok (Lib.hid CA) (Lib.hid CT) (Lib.hid CO) (Lib.hid CD) w⟩⟩
    obtain ⟨S4, H2⟩ := hq e
    refine ⟨S4, fun d p hd td l1 l2 ip => H2 _ _ IO (H _ _ ?_ ?_ ?_ ip)⟩
    · have AA := ang_a wf hd ok.ph ok.rt td
      obtain ⟨x, er⟩ := ang_w AA
      exact errA_ang x er
    · exact (AS.has d hd td l1 l2).1
    · exact (AS.has d hd td l1 l2).2
  · exact ⟨(z6, k), ⟨z6_w, fun e => absurd e hk, fun w => fupbox_no (by simpa using hk) (Lib.hid CA) (Lib.hid CT) w⟩⟩
open Classical in
noncomputable def upB (f : Fr) (t : Pr) (b : B6) : B6 × Int := if h : ∃ r, UpB f t b r then h.choose else (z6, 0)
theorem upB_spec {f : Fr} {i : Int} {t : Pr} {b : B6} (wf : FrW f) (ok : FrOk f i) (ht : W2 t) (et : timB t = true) (hb : W6 b) : UpB f t b (upB f t b) := by
  have h := upbox_ex wf ok ht et hb
  unfold upB
  rw [dif_pos h]
  exact h.choose_spec
/-- a box as it is, but for the sign of noughts -/
structure StB (b : B6) (r : B6 × Int) : Prop where
  w : W6 r.1
  has : r.2 = 0 → Sn3 r.1 63 ∧ ∀ p, InB p b → InB p r.1
  run : ∀ w, Calls Tryz.prog 22 #[boxV b, boxV z6] w fun e w' => e = .returned (boxE r.1 r.2) ∧ Below w.heap.size w w'
theorem st_ex {b : B6} (hb : W6 b) : ∃ r, StB b r := by
  obtain ⟨q, l, wq, hq, CD⟩ := boxadd8 hb z6_w
  refine ⟨(q, l), ⟨wq, fun e => ?_, CD⟩⟩
  obtain ⟨S4, H⟩ := hq e
  refine ⟨S4, fun p ip => ?_⟩
  have e0 : ps (0, 0) = (0, 0) := by show ((Q 0, Q 0) : Rat × Rat) = (0, 0); rw [Q0]
  have i0 : InB (0, 0, 0) z6 := by
    refine ⟨?_, ?_, ?_⟩ <;> (show In 0 (ps (0, 0)); rw [e0]; exact ⟨Rat.le_refl, Rat.le_refl⟩)
  have := H _ _ ip i0
  have e1 : addQ p (0, 0, 0) = p := by unfold addQ; dsimp only; ext <;> grind
  rwa [e1] at this
open Classical in
noncomputable def stB (b : B6) : B6 × Int := if h : ∃ r, StB b r then h.choose else (z6, 0)
theorem stB_spec {b : B6} (hb : W6 b) : StB b (stB b) := by
  have h := st_ex hb
  unfold stB
  rw [dif_pos h]
  exact h.choose_spec
noncomputable def rboxF (L : List Fr) (t : Pr) : List Nat → B6 → B6 × Int
  | [], b => (b, 0)
  | j :: js, b => if (upB (frAt L j) t b).2 = 0 then rboxF L t js (upB (frAt L j) t b).1 else upB (frAt L j) t b
noncomputable def rboxR (L : List Fr) (i : Int) (t : Pr) (b : B6) : B6 × Int :=
  if readyF L i (timB t) = 0 then (if (stB b).2 = 0 then rboxF L t (way L i) (stB b).1 else stB b) else (z6, readyF L i (timB t))
def rootQ (L : List Fr) (d : Nat) : List Nat → R3 → R3
  | [], p => p
  | j :: js, p => rootQ L d js (upQ (frAt L j) d p)
/-- the root's box holds what is moved truly -/
theorem rbox_has {L : List Fr} {t : Pr} {d : Nat} (hd : d < 18446744073709551616) (td : witB g24 d = true) (l1 : V t.1 ≤ V d) (l2 : V d ≤ V t.2) (ht : W2 t) (et : timB t = true) : ∀ (js : List Nat) (b : B6) (p : R3), (∀ j ∈ js, FrW (frAt L j) ∧ ∃ i, FrOk (frAt L j) i) → W6 b → Sn3 b 63 → InB p b → (rboxF L t js b).2 = 0 →
    InB (rootQ L d js p) (rboxF L t js b).1 ∧ Sn3 (rboxF L t js b).1 63
  | [], b, p, _, _, sb, ip, _ => ⟨ip, sb⟩
  | j :: js, b, p, hF, hb, sb, ip, h => by
    obtain ⟨wf, i, ok⟩ := hF j (List.mem_cons_self ..)
    have U := upB_spec wf ok ht et hb
    unfold rboxF at h ⊢
    by_cases c : (upB (frAt L j) t b).2 = 0
    · rw [if_pos c] at h ⊢
      obtain ⟨S, H⟩ := U.has c
      exact rbox_has hd td l1 l2 ht et js _ _ (fun k hk => hF k (List.mem_cons_of_mem _ hk)) U.w S (H d p hd td l1 l2 ip) h
    · rw [if_neg c] at h
      exact absurd h c
def RboxAt (L : List Fr) (t : Pr) (A : B6 × Int) (i : Int) (p : B6) (k : Int) : Prop := (k = 0 → rboxF L t (way L i) p = A) ∧ (k ≠ 0 → (p, k) = A)
theorem RboxAt.fin {L : List Fr} {t : Pr} {A : B6 × Int} {i : Int} {p : B6} {k : Int} (h : RboxAt L t A i p k) (e : k = 0 → i = -1) : (p, k) = A := by
  by_cases hk : k = 0
  · subst hk
    have := h.1 rfl
    rw [e rfl, way_root] at this
    exact this
  · exact h.2 hk
theorem RboxAt.next {L : List Fr} {t : Pr} {A : B6 × Int} {j : Nat} {p q : B6} {k : Int} (hL : FsOk L) (hj : j < L.length) (h : RboxAt L t A j p 0) (e : upB (frAt L j) t p = (q, k)) : RboxAt L t A (frAt L j).up q k := by
  have h := h.1 rfl
  rw [way_step hL hj] at h
  unfold rboxF at h
  rw [e] at h
  refine ⟨fun hk => ?_, fun hk => ?_⟩
  · subst hk
    rw [if_pos rfl] at h
    exact h
  · rw [if_neg hk] at h
    exact h
theorem ret_vB {A : B6 × Int} {p1 p2 p3 p4 p5 p6 : Nat} {k : Int} (h : (((p1, p2), (p3, p4), (p5, p6)), k) = A) : Ending.returned (.tuple #[.agg #[.float .f64 p1, .float .f64 p2, .float .f64 p3, .float .f64 p4, .float .f64 p5, .float .f64 p6], .int .i64 k]) = .returned (boxE A.1 A.2) := by rw [← h]; rfl
set_option maxHeartbeats 4000000 in
set_option maxRecDepth 100000 in
theorem frootbox_run (ao : Option Addr) (cap n : Nat) (L : List Fr) (i0 : Int) (t : Pr) (b : B6) (w : World) (hn : n = L.length) (hm : n ≤ 4611686018427387904) (hL : FsW L) (ha : FAt w ao L) (ht : W2 t) (hb0 : W6 b) :
    Calls Tryz.prog 8 #[.slice ao n cap, .int .i64 i0, pv t, boxV b] w fun e w' => e = .returned (boxE (rboxR L i0 t b).1 (rboxR L i0 t b).2) ∧ Below w.heap.size w w' := by
  have CT := Lib.hid (fun w => ftimes_run ht w)
  have CR : Hid (∀ W, Below w.heap.size w W → Calls Tryz.prog 14 #[.slice ao n cap, .int .i64 i0, .bool (timB t)] W fun e w' => e = .returned (.int .i64 (readyF L i0 (timB t))) ∧ Below W.heap.size W w') :=
    Lib.hid fun W hb => ready_run ao cap n L i0 (timB t) W hn hm hL (ha.below (fun b o e h => ha.lt b o e h) hb)
  have ST := stB_spec hb0
  have CS := Lib.hid ST.run
  unfold rboxR
  by_cases hr : readyF L i0 (timB t) = 0
  · rw [if_pos hr]
    rw [hr] at CR
    obtain ⟨c0, i1, i2, tt⟩ := readyF_zero hr
    have LO := Lib.hid (FsOk.of hL c0)
    have hA : ∃ A, A = (if (stB b).2 = 0 then rboxF L t (way L i0) (stB b).1 else stB b) := ⟨_, rfl⟩
    obtain ⟨A, hA⟩ := hA
    rw [← hA]
    have R0 : RboxAt L t A i0 (stB b).1 (stB b).2 := by
      refine ⟨fun e => ?_, fun e => ?_⟩
      · rw [hA, if_pos e]
      · rw [hA, if_neg e]
    have YW := ST.w
    clear hA ST hr c0 hL
    generalize stB b = Y at *
    obtain ⟨⟨⟨y1, y2⟩, ⟨y3, y4⟩, ⟨y5, y6⟩⟩, k0⟩ := Y
    rw [tt] at CT CR
    obtain ⟨⟨x1, x2⟩, ⟨x3, x4⟩, ⟨x5, x6⟩⟩ := b
    have UP : Hid (∀ j, j < L.length → ∀ p, W6 p → UpB (frAt L j) t p (upB (frAt L j) t p)) := Lib.hid fun j hj p hp => upB_spec (LO.out.fw hj) (LO.out.ok j hj) ht tt hp
    clear ht tt
    obtain ⟨t1, t2⟩ := t
    unfold boxV boxE z6 at CS
    unfold boxV pv spanV at *
    dsimp only at *
    replace ha := Lib.hid ha
    replace hn := Lib.hid hn
    replace R0 := Lib.hid R0
    replace YW := Lib.hid YW
    clear hb0
    have K0 := kv3 w 31 33 33 [.float .f64 t1, .float .f64 t2] [.float .f64 x1, .float .f64 x2, .float .f64 x3, .float .f64 x4, .float .f64 x5, .float .f64 x6] [.float .f64 0, .float .f64 0, .float .f64 0, .float .f64 0, .float .f64 0, .float .f64 0]
    simp only [objV] at K0
    have hst := @fstore
    replace K0 := Lib.hid K0
    go_enter Tryz.func8, Tryz.ntmps8
    go_wp2_with fail
    have K := K0.out
    clear K0
    generalize ((w.alloc _).alloc _).alloc _ = wr at *
    refine (CT.out wr).mono ?_
    rintro _ v0 ⟨rfl, hb⟩
    replace K := K.on hb
    clear hb CT
    replace K := Lib.hid K
    go_wp2_with fail
    replace K := K.out
    refine (CR.out v0 K.old).mono ?_
    rintro _ v1 ⟨rfl, hb⟩
    replace K := K.on hb
    clear hb CR
    have c1_0 := (K.at_ 1 rfl).at_ 0 _ rfl
    have c1_1 := (K.at_ 1 rfl).at_ 1 _ rfl
    have c1_2 := (K.at_ 1 rfl).at_ 2 _ rfl
    have c1_3 := (K.at_ 1 rfl).at_ 3 _ rfl
    have c1_4 := (K.at_ 1 rfl).at_ 4 _ rfl
    have c1_5 := (K.at_ 1 rfl).at_ 5 _ rfl
    replace K := Lib.hid K
    go_wp2_with fail
    replace K := K.out
    refine (CS.out v1).mono ?_
    rintro _ v2 ⟨rfl, hb⟩
    clear c1_0 c1_1 c1_2 c1_3 c1_4 c1_5
    replace K := K.on hb
    clear hb CS
    replace K := K.new 33 [.float .f64 y1, .float .f64 y2, .float .f64 y3, .float .f64 y4, .float .f64 y5, .float .f64 y6]
    simp only [objV, List.cons_append, List.nil_append] at K
    replace K := Lib.hid K
    go_wp2_with fail
    replace K := K.out
    generalize v2.alloc _ = wl at *
    generalize v2.heap.size = g1 at *
    go_loopw [1, 12] (fun iv ev wr => ∃ (i k : Int) (p1 p2 p3 p4 p5 p6 : Nat), iv = .int .i64 i ∧ ev = .int .i64 k ∧ -1 ≤ i ∧ i < (n : Int) ∧ W6 ((p1, p2), (p3, p4), (p5, p6)) ∧ RboxAt L (t1, t2) A i ((p1, p2), (p3, p4), (p5, p6)) k ∧ Kv w [some (w.heap.size, [.float .f64 t1, .float .f64 t2]), some (w.heap.size + 1, [.float .f64 x1, .float .f64 x2, .float .f64 x3, .float .f64 x4, .float .f64 x5, .float .f64 x6]), some (w.heap.size + 1 + 1, [.float .f64 0, .float .f64 0, .float .f64 0, .float .f64 0, .float .f64 0, .float .f64 0]), some (g1, [.float .f64 p1, .float .f64 p2, .float .f64 p3, .float .f64 p4, .float .f64 p5, .float .f64 p6])] wr) (fun iv _ _ => (intOf iv + 1).toNat)
    case atStart => exact ⟨i0, k0, y1, y2, y3, y4, y5, y6, rfl, rfl, i1, by rw [hn.out]; exact i2, YW.out, R0.out, K⟩
    case round =>
      obtain ⟨i, k, p1, p2, p3, p4, p5, p6, rfl, rfl, hi0, hi1, hw, R, K⟩ := hrel
      replace R := Lib.hid R
      replace hw := Lib.hid hw
      by_cases hk : k = 0
      · subst hk
        by_cases hi : i = -1
        · subst hi
          have fin := R.out.fin (fun _ => rfl)
          replace fin := Lib.hid fin
          have c3_0 := (K.at_ 3 rfl).at_ 0 _ rfl
          have c3_1 := (K.at_ 3 rfl).at_ 1 _ rfl
          have c3_2 := (K.at_ 3 rfl).at_ 2 _ rfl
          have c3_3 := (K.at_ 3 rfl).at_ 3 _ rfl
          have c3_4 := (K.at_ 3 rfl).at_ 4 _ rfl
          have c3_5 := (K.at_ 3 rfl).at_ 5 _ rfl
          have c2_0 := (K.at_ 2 rfl).at_ 0 _ rfl
          have f2_0 := (K.at_ 2 rfl).fr 0 _ rfl
          have c2_1 := (K.at_ 2 rfl).at_ 1 _ rfl
          have f2_1 := (K.at_ 2 rfl).fr 1 _ rfl
          have c2_2 := (K.at_ 2 rfl).at_ 2 _ rfl
          have f2_2 := (K.at_ 2 rfl).fr 2 _ rfl
          have c2_3 := (K.at_ 2 rfl).at_ 3 _ rfl
          have f2_3 := (K.at_ 2 rfl).fr 3 _ rfl
          have c2_4 := (K.at_ 2 rfl).at_ 4 _ rfl
          have f2_4 := (K.at_ 2 rfl).fr 4 _ rfl
          have c2_5 := (K.at_ 2 rfl).at_ 5 _ rfl
          have f2_5 := (K.at_ 2 rfl).fr 5 _ rfl
          replace K := Lib.hid K
          go_wp2_with fail
          replace K := K.out
          (try simp only [Exit.inBlock, Exit.then])
          refine bodyPost_ret (v := .tuple #[.agg #[.float .f64 p1, .float .f64 p2, .float .f64 p3, .float .f64 p4, .float .f64 p5, .float .f64 p6], .int .i64 0]) ?_ rfl ⟨ret_vB fin.out, ?_⟩
          · rw [results_cell_tmp rfl]; go_simp
          · exact ((((((K.old).setCell (by first | exact Nat.le_refl _ | (dsimp only; omega)) _).setCell (by first | exact Nat.le_refl _ | (dsimp only; omega)) _).setCell (by first | exact Nat.le_refl _ | (dsimp only; omega)) _).setCell (by first | exact Nat.le_refl _ | (dsimp only; omega)) _).setCell (by first | exact Nat.le_refl _ | (dsimp only; omega)) _).setCell (by first | exact Nat.le_refl _ | (dsimp only; omega)) _
        · obtain ⟨j, rfl⟩ : ∃ j : Nat, i = j := ⟨i.toNat, by omega⟩
          have hjn : j < n := by omega
          have hjl : j < L.length := by have := hn.out; omega
          have ok := LO.out.ok j hjl
          have U := UP.out j hjl ((p1, p2), (p3, p4), (p5, p6)) hw.out
          have CU := Lib.hid U.run
          have AU := U.w
          have u0 := ok.up0
          have u1 := ok.up1
          have NX : ∀ q k, upB (frAt L j) (t1, t2) ((p1, p2), (p3, p4), (p5, p6)) = (q, k) → RboxAt L (t1, t2) A (frAt L j).up q k := fun q k e => R.out.next LO.out hjl e
          clear R U
          obtain ⟨b, o, rfl, -, -⟩ := FAt.cells ha.out hjl
          have far := fun up ax ph rt o1 o2 o3 => cellsFar (up := up) (ax := ax) (ph := ph) (rt := rt) (o1 := o1) (o2 := o2) (o3 := o3) ha.out hjl rfl
          clear ok
          generalize hU : upB (frAt L j) (t1, t2) ((p1, p2), (p3, p4), (p5, p6)) = U at *
          clear hU
          generalize frAt L j = f at *
          obtain ⟨up, ax, ph, rt, o1, o2, o3⟩ := f
          obtain ⟨⟨⟨y1', y2'⟩, ⟨y3', y4'⟩, ⟨y5', y6'⟩⟩, k'⟩ := U
          replace NX := NX _ _ rfl
          replace far := far _ _ _ _ _ _ _ rfl
          unfold frV boxV boxE pv spanV at CU
          unfold boxV at CU
          dsimp only at *
          replace far := Lib.hid far
          replace NX := Lib.hid NX
          replace AU := Lib.hid AU
          have hj2 : decide ((j : Int) = -1) = false := decide_eq_false (by omega)
          replace K := Lib.hid K
          go_upto_region 6 with fail
          replace K := K.out
          generalize hds : ([some 35, some 36, some 37, some 38, some 39, some 40, some 41, some 34, some 42, some 43, none, some 12] : List (Option Tmp)) = ds
          have hap : apartL ds = true := by rw [← hds]; decide
          replace hds := hds.symm
          refine wp_region_kv (fun hf => [some (w.heap.size, [.float .f64 t1, .float .f64 t2]), some (w.heap.size + 1, [.float .f64 x1, .float .f64 x2, .float .f64 x3, .float .f64 x4, .float .f64 x5, .float .f64 x6]), some (w.heap.size + 1 + 1, [.float .f64 0, .float .f64 0, .float .f64 0, .float .f64 0, .float .f64 0, .float .f64 0]), some (g1, [.float .f64 y1', .float .f64 y2', .float .f64 y3', .float .f64 y4', .float .f64 y5', .float .f64 y6'])]) (fun hf => [some (.slice (some ⟨b, o, none⟩) n cap), some (.int .i64 (j : Int)), some (.pointer (some ⟨b, o + j * 7, none⟩)), some (.agg #[.int .i64 up, .int .i64 ax, .float .f64 ph, .float .f64 rt, .float .f64 o1, .float .f64 o2, .float .f64 o3]), some (.agg #[.float .f64 t1, .float .f64 t2]), some (.agg #[.float .f64 p1, .float .f64 p2, .float .f64 p3, .float .f64 p4, .float .f64 p5, .float .f64 p6]), some (.tuple #[.agg #[.float .f64 y1', .float .f64 y2', .float .f64 y3', .float .f64 y4', .float .f64 y5', .float .f64 y6'], .int .i64 k']), some (.tuple #[.agg #[.float .f64 y1', .float .f64 y2', .float .f64 y3', .float .f64 y4', .float .f64 y5', .float .f64 y6'], .int .i64 k']), some (.agg #[.float .f64 y1', .float .f64 y2', .float .f64 y3', .float .f64 y4', .float .f64 y5', .float .f64 y6']), some (.int .i64 k'), some (undef), some (.int .i64 k')]) [] [⟨10, 3, 0, [.float .f64 y1', .float .f64 y2', .float .f64 y3', .float .f64 y4', .float .f64 y5', .float .f64 y6']⟩] [.slice (some ⟨b, o, none⟩) n cap, .int .i64 (j : Int), .pointer (some ⟨b, o + j * 7, none⟩), .agg #[.int .i64 up, .int .i64 ax, .float .f64 ph, .float .f64 rt, .float .f64 o1, .float .f64 o2, .float .f64 o3], .agg #[.float .f64 t1, .float .f64 t2], .agg #[.float .f64 p1, .float .f64 p2, .float .f64 p3, .float .f64 p4, .float .f64 p5, .float .f64 p6], .tuple #[.agg #[.float .f64 y1', .float .f64 y2', .float .f64 y3', .float .f64 y4', .float .f64 y5', .float .f64 y6'], .int .i64 k'], .tuple #[.agg #[.float .f64 y1', .float .f64 y2', .float .f64 y3', .float .f64 y4', .float .f64 y5', .float .f64 y6'], .int .i64 k'], .agg #[.float .f64 y1', .float .f64 y2', .float .f64 y3', .float .f64 y4', .float .f64 y5', .float .f64 y6'], .int .i64 k', undef, .int .i64 k'] ds (by kernel_rfl) (by rw [hds]; rfl) hap (by decide +kernel) (by decide +kernel) K ?ha ?haj ?hai ?hsi ?hss ?hsa ?hsw ?htg ?hE2 ?hE3 ?hE4 ?hL1 ?hL2 ?hL3 ?alloc ?step ?store ?fin
          case ha => intro al hal; cases hal
          case haj => intro al hal al' hal' e; cases hal
          case hai => intro al hal; cases hal
          case hsi => intro st hst st' hst' e; simp only [List.mem_cons, List.not_mem_nil, or_false] at hst; rcases hst with rfl <;> (simp only [List.mem_cons, List.not_mem_nil, or_false] at hst'; rcases hst' with rfl) <;> first | rfl | (exfalso; revert e; simp)
          case hss =>
            intro st hst
            simp only [List.mem_cons, List.not_mem_nil, or_false] at hst; rcases hst with rfl
            · show 10 < 12; decide
          case hsa =>
            intro st hst al hal
            cases hal
          case hsw =>
            intro st hst al hal e
            cases hal
          case htg =>
            intro st hst
            simp only [List.mem_cons, List.not_mem_nil, or_false] at hst; rcases hst with rfl
            · exact .inl ⟨_, _, rfl, show 0 + 6 ≤ 6 by decide⟩
          case hE2 =>
            intro hf j h1 h2
            have n3 : 3 ≠ j := h1 _ (List.mem_cons_self ..)
            rcases j with _ | _ | _ | _ | j
            · rfl
            · rfl
            · rfl
            · exact absurd rfl n3
            · rfl
          case hE3 =>
            intro hf st hst g us e
            simp only [List.mem_cons, List.not_mem_nil, or_false] at hst; rcases hst with rfl
            · obtain ⟨rfl, rfl⟩ := Prod.mk.inj (Option.some.inj (Option.some.inj e)); rfl
          case hE4 =>
            intro hf al hal
            cases hal
          case hL1 => intro hf; rfl
          case hL2 =>
            intro hf i hi hna
            have hi : i < 12 := hi
            have : i = 0 ∨ i = 1 ∨ i = 2 ∨ i = 3 ∨ i = 4 ∨ i = 5 ∨ i = 6 ∨ i = 7 ∨ i = 8 ∨ i = 9 ∨ i = 10 ∨ i = 11 := by omega
            rcases this with rfl | rfl | rfl | rfl | rfl | rfl | rfl | rfl | rfl | rfl | rfl | rfl
            · rfl
            · rfl
            · rfl
            · rfl
            · rfl
            · rfl
            · rfl
            · rfl
            · rfl
            · rfl
            · rfl
            · rfl
          case hL3 => intro hf al hal; cases hal
          case alloc =>
            intro al hal o ρ W ho
            cases hal
          case step =>
            intro L W i o ho hs ha hd hB hO
            have hi : i < 12 := (Array.getElem?_eq_some_iff.1 ho).1
            have : i = 0 ∨ i = 1 ∨ i = 2 ∨ i = 3 ∨ i = 4 ∨ i = 5 ∨ i = 6 ∨ i = 7 ∨ i = 8 ∨ i = 9 ∨ i = 10 ∨ i = 11 := by omega
            rcases this with rfl | rfl | rfl | rfl | rfl | rfl | rfl | rfl | rfl | rfl | rfl | rfl
            · -- 0
              obtain rfl := Option.some.inj ho
              refine .value W ?_ (Below.refl _ _)
              generalize hA : (puts ds L _).eval = ρ
              have hc : ∀ v, ρ (.const v) = v := fun v => by rw [← hA]; rfl
              have hg : ∀ g, ρ (.func g) = .func (.func g) #[] #[] := fun v => by rw [← hA]; rfl
              have h0 : ρ (.tmp 0) = .slice (some ⟨b, o, none⟩) n cap := by rw [← hA]; exact (puts_old ds L _ (by rw [hds]; decide)).trans rfl
              clear hA hd hB ho hs ha hO
              unfold execOp
              go_simp
            · -- 1
              obtain rfl := Option.some.inj ho
              refine .value W ?_ (Below.refl _ _)
              generalize hA : (puts ds L _).eval = ρ
              have hc : ∀ v, ρ (.const v) = v := fun v => by rw [← hA]; rfl
              have hg : ∀ g, ρ (.func g) = .func (.func g) #[] #[] := fun v => by rw [← hA]; rfl
              have h0 : ρ (.tmp 1) = .int .i64 (j : Int) := by rw [← hA]; exact (puts_old ds L _ (by rw [hds]; decide)).trans rfl
              clear hA hd hB ho hs ha hO
              unfold execOp
              go_simp
            · -- 2
              obtain rfl := Option.some.inj ho
              refine .value W ?_ (Below.refl _ _)
              generalize hA : (puts ds L _).eval = ρ
              have hc : ∀ v, ρ (.const v) = v := fun v => by rw [← hA]; rfl
              have hg : ∀ g, ρ (.func g) = .func (.func g) #[] #[] := fun v => by rw [← hA]; rfl
              have h0 : ρ (.tmp 35) = .slice (some ⟨b, o, none⟩) n cap := by rw [← hA]; exact puts_get 0 ds L _ hap (by rw [hds]; rfl) (hd 0 (by decide +kernel) (by intro al hal; cases hal)) (show 35 < 51 by decide)
              have h1 : ρ (.tmp 36) = .int .i64 (j : Int) := by rw [← hA]; exact puts_get 1 ds L _ hap (by rw [hds]; rfl) (hd 1 (by decide +kernel) (by intro al hal; cases hal)) (show 36 < 51 by decide)
              clear hA hd hB ho hs ha hO
              have hlt2 := hjn
              unfold execOp
              go_simp
            · -- 3
              obtain rfl := Option.some.inj ho
              obtain ⟨d0, d1, d2, d3, d4, d5, d6⟩ := far.out W hO
              refine .value W ?_ (Below.refl _ _)
              generalize hA : (puts ds L _).eval = ρ
              have hc : ∀ v, ρ (.const v) = v := fun v => by rw [← hA]; rfl
              have hg : ∀ g, ρ (.func g) = .func (.func g) #[] #[] := fun v => by rw [← hA]; rfl
              have h0 : ρ (.tmp 37) = .pointer (some ⟨b, o + j * 7, none⟩) := by rw [← hA]; exact puts_get 2 ds L _ hap (by rw [hds]; rfl) (hd 2 (by decide +kernel) (by intro al hal; cases hal)) (show 37 < 51 by decide)
              clear hA hd hB ho hs ha hO
              unfold execOp
              go_simp
            · -- 4
              obtain rfl := Option.some.inj ho
              have b := hB 0 _ _ rfl (by
                intro st hst e
                simp only [List.mem_cons, List.not_mem_nil, or_false] at hst; rcases hst with rfl
                · exact absurd e (show ¬ 3 = 0 by decide))
              have c0 := b.at_ 0 _ rfl
              have c1 := b.at_ 1 _ rfl
              clear b
              refine .value W ?_ (Below.refl _ _)
              generalize hA : (puts ds L _).eval = ρ
              have hc : ∀ v, ρ (.const v) = v := fun v => by rw [← hA]; rfl
              have hg : ∀ g, ρ (.func g) = .func (.func g) #[] #[] := fun v => by rw [← hA]; rfl
              have h0 : ρ (.tmp 6) = .pointer (some ⟨w.heap.size, 0, none⟩) := by rw [← hA]; exact (puts_old ds L _ (by rw [hds]; decide)).trans rfl
              clear hA hd hB ho hs ha hO
              unfold execOp
              go_simp
            · -- 5
              obtain rfl := Option.some.inj ho
              have b := hB 3 _ _ rfl (by
                intro st hst e
                simp only [List.mem_cons, List.not_mem_nil, or_false] at hst; rcases hst with rfl
                · change needs _ _ 10 5 = true; decide +kernel)
              have c0 := b.at_ 0 _ rfl
              have c1 := b.at_ 1 _ rfl
              have c2 := b.at_ 2 _ rfl
              have c3 := b.at_ 3 _ rfl
              have c4 := b.at_ 4 _ rfl
              have c5 := b.at_ 5 _ rfl
              clear b
              refine .value W ?_ (Below.refl _ _)
              generalize hA : (puts ds L _).eval = ρ
              have hc : ∀ v, ρ (.const v) = v := fun v => by rw [← hA]; rfl
              have hg : ∀ g, ρ (.func g) = .func (.func g) #[] #[] := fun v => by rw [← hA]; rfl
              have h0 : ρ (.tmp 11) = .pointer (some ⟨g1, 0, none⟩) := by rw [← hA]; exact (puts_old ds L _ (by rw [hds]; decide)).trans rfl
              clear hA hd hB ho hs ha hO
              unfold execOp
              go_simp
            · -- 6
              obtain rfl := Option.some.inj ho
              refine .call 23 #[.agg #[.int .i64 up, .int .i64 ax, .float .f64 ph, .float .f64 rt, .float .f64 o1, .float .f64 o2, .float .f64 o3], .agg #[.float .f64 t1, .float .f64 t2], .agg #[.float .f64 p1, .float .f64 p2, .float .f64 p3, .float .f64 p4, .float .f64 p5, .float .f64 p6]] ?_ (CU.out W)
              generalize hA : (puts ds L _).eval = ρ
              have hc : ∀ v, ρ (.const v) = v := fun v => by rw [← hA]; rfl
              have hg : ∀ g, ρ (.func g) = .func (.func g) #[] #[] := fun v => by rw [← hA]; rfl
              have h0 : ρ (.tmp 38) = .agg #[.int .i64 up, .int .i64 ax, .float .f64 ph, .float .f64 rt, .float .f64 o1, .float .f64 o2, .float .f64 o3] := by rw [← hA]; exact puts_get 3 ds L _ hap (by rw [hds]; rfl) (hd 3 (by decide +kernel) (by intro al hal; cases hal)) (show 38 < 51 by decide)
              have h1 : ρ (.tmp 39) = .agg #[.float .f64 t1, .float .f64 t2] := by rw [← hA]; exact puts_get 4 ds L _ hap (by rw [hds]; rfl) (hd 4 (by decide +kernel) (by intro al hal; cases hal)) (show 39 < 51 by decide)
              have h2 : ρ (.tmp 40) = .agg #[.float .f64 p1, .float .f64 p2, .float .f64 p3, .float .f64 p4, .float .f64 p5, .float .f64 p6] := by rw [← hA]; exact puts_get 5 ds L _ hap (by rw [hds]; rfl) (hd 5 (by decide +kernel) (by intro al hal; cases hal)) (show 40 < 51 by decide)
              have hf := Tryz.func23
              unfold execOp
              go_simp
            · -- 7
              obtain rfl := Option.some.inj ho
              refine .value W ?_ (Below.refl _ _)
              generalize hA : (puts ds L _).eval = ρ
              have hc : ∀ v, ρ (.const v) = v := fun v => by rw [← hA]; rfl
              have hg : ∀ g, ρ (.func g) = .func (.func g) #[] #[] := fun v => by rw [← hA]; rfl
              have h0 : ρ (.tmp 41) = .tuple #[.agg #[.float .f64 y1', .float .f64 y2', .float .f64 y3', .float .f64 y4', .float .f64 y5', .float .f64 y6'], .int .i64 k'] := by rw [← hA]; exact puts_get 6 ds L _ hap (by rw [hds]; rfl) (hd 6 (by decide +kernel) (by intro al hal; cases hal)) (show 41 < 51 by decide)
              clear hA hd hB ho hs ha hO
              unfold execOp
              go_simp
            · -- 8
              obtain rfl := Option.some.inj ho
              refine .value W ?_ (Below.refl _ _)
              generalize hA : (puts ds L _).eval = ρ
              have hc : ∀ v, ρ (.const v) = v := fun v => by rw [← hA]; rfl
              have hg : ∀ g, ρ (.func g) = .func (.func g) #[] #[] := fun v => by rw [← hA]; rfl
              have h0 : ρ (.tmp 34) = .tuple #[.agg #[.float .f64 y1', .float .f64 y2', .float .f64 y3', .float .f64 y4', .float .f64 y5', .float .f64 y6'], .int .i64 k'] := by rw [← hA]; exact puts_get 7 ds L _ hap (by rw [hds]; rfl) (hd 7 (by decide +kernel) (by intro al hal; cases hal)) (show 34 < 51 by decide)
              clear hA hd hB ho hs ha hO
              unfold execOp
              go_simp
            · -- 9
              obtain rfl := Option.some.inj ho
              refine .value W ?_ (Below.refl _ _)
              generalize hA : (puts ds L _).eval = ρ
              have hc : ∀ v, ρ (.const v) = v := fun v => by rw [← hA]; rfl
              have hg : ∀ g, ρ (.func g) = .func (.func g) #[] #[] := fun v => by rw [← hA]; rfl
              have h0 : ρ (.tmp 34) = .tuple #[.agg #[.float .f64 y1', .float .f64 y2', .float .f64 y3', .float .f64 y4', .float .f64 y5', .float .f64 y6'], .int .i64 k'] := by rw [← hA]; exact puts_get 7 ds L _ hap (by rw [hds]; rfl) (hd 7 (by decide +kernel) (by intro al hal; cases hal)) (show 34 < 51 by decide)
              clear hA hd hB ho hs ha hO
              unfold execOp
              go_simp
            · -- 10
              exact absurd rfl (hs _ (List.mem_cons_self ..))
            · -- 11
              obtain rfl := Option.some.inj ho
              refine .value W ?_ (Below.refl _ _)
              generalize hA : (puts ds L _).eval = ρ
              have hc : ∀ v, ρ (.const v) = v := fun v => by rw [← hA]; rfl
              have hg : ∀ g, ρ (.func g) = .func (.func g) #[] #[] := fun v => by rw [← hA]; rfl
              have h0 : ρ (.tmp 43) = .int .i64 k' := by rw [← hA]; exact puts_get 9 ds L _ hap (by rw [hds]; rfl) (hd 9 (by decide +kernel) (by intro al hal; cases hal)) (show 43 < 51 by decide)
              clear hA hd hB ho hs ha hO
              unfold execOp
              go_simp
          case store =>
            intro st hst L W o h us ho hd hal hC b
            simp only [List.mem_cons, List.not_mem_nil, or_false] at hst; rcases hst with rfl
            · dsimp only at ho hd hal hC b ⊢
              obtain rfl := Option.some.inj ho
              obtain ⟨hh, rfl⟩ := hC _ _ rfl
              replace hh := hh.symm
              subst hh
              have c0 := b.at_ 0 _ rfl
              have f0 := b.fr 0 _ rfl
              have c1 := b.at_ 1 _ rfl
              have f1 := b.fr 1 _ rfl
              have c2 := b.at_ 2 _ rfl
              have f2 := b.fr 2 _ rfl
              have c3 := b.at_ 3 _ rfl
              have f3 := b.fr 3 _ rfl
              have c4 := b.at_ 4 _ rfl
              have f4 := b.fr 4 _ rfl
              have c5 := b.at_ 5 _ rfl
              have f5 := b.fr 5 _ rfl
              refine ⟨?_, rfl⟩
              generalize hA : (puts ds L _).eval = ρ
              have h0 : ρ (.tmp 11) = .pointer (some ⟨g1, 0, none⟩) := by rw [← hA]; exact (puts_old ds L _ (by rw [hds]; decide)).trans rfl
              have h1 : ρ (.tmp 42) = .agg #[.float .f64 y1', .float .f64 y2', .float .f64 y3', .float .f64 y4', .float .f64 y5', .float .f64 y6'] := by rw [← hA]; exact puts_get 8 ds L _ hap (by rw [hds]; rfl) (hd 8 (by decide +kernel) (by intro al hal; cases hal)) (show 42 < 51 by decide)
              have hst' := @fstore
              clear hA hd b ho hal hC
              simp only [putV]
              unfold execOp
              go_simp
          case fin =>
            intro hf W0 K
            rw [hds]
            clear hds hap ds CU
            (try dsimp only at K)
            simp only [List.set_cons_zero, List.set_cons_succ, puts, Act.put, List.setIfInBounds_toArray]
            obtain ⟨d0, -⟩ := far.out W0 K.old
            replace K := Lib.hid K
            go_wp2_with fail
            go_roundw
            case rel => exact ⟨up, k', y1', y2', y3', y4', y5', y6', rfl, rfl, u0, by omega, AU.out, NX.out, K.out⟩
            case measure => simp [intOf]; omega
      · have tk : (k == 0) = false := by simpa using hk
        have fin := R.out.fin (fun e => absurd e hk)
        replace fin := Lib.hid fin
        have c3_0 := (K.at_ 3 rfl).at_ 0 _ rfl
        have c3_1 := (K.at_ 3 rfl).at_ 1 _ rfl
        have c3_2 := (K.at_ 3 rfl).at_ 2 _ rfl
        have c3_3 := (K.at_ 3 rfl).at_ 3 _ rfl
        have c3_4 := (K.at_ 3 rfl).at_ 4 _ rfl
        have c3_5 := (K.at_ 3 rfl).at_ 5 _ rfl
        have c2_0 := (K.at_ 2 rfl).at_ 0 _ rfl
        have f2_0 := (K.at_ 2 rfl).fr 0 _ rfl
        have c2_1 := (K.at_ 2 rfl).at_ 1 _ rfl
        have f2_1 := (K.at_ 2 rfl).fr 1 _ rfl
        have c2_2 := (K.at_ 2 rfl).at_ 2 _ rfl
        have f2_2 := (K.at_ 2 rfl).fr 2 _ rfl
        have c2_3 := (K.at_ 2 rfl).at_ 3 _ rfl
        have f2_3 := (K.at_ 2 rfl).fr 3 _ rfl
        have c2_4 := (K.at_ 2 rfl).at_ 4 _ rfl
        have f2_4 := (K.at_ 2 rfl).fr 4 _ rfl
        have c2_5 := (K.at_ 2 rfl).at_ 5 _ rfl
        have f2_5 := (K.at_ 2 rfl).fr 5 _ rfl
        replace K := Lib.hid K
        go_wp2_with fail
        replace K := K.out
        (try simp only [Exit.inBlock, Exit.then])
        refine bodyPost_ret (v := .tuple #[.agg #[.float .f64 p1, .float .f64 p2, .float .f64 p3, .float .f64 p4, .float .f64 p5, .float .f64 p6], .int .i64 k]) ?_ rfl ⟨ret_vB fin.out, ?_⟩
        · rw [results_cell_tmp rfl]; go_simp
        · exact ((((((K.old).setCell (by first | exact Nat.le_refl _ | (dsimp only; omega)) _).setCell (by first | exact Nat.le_refl _ | (dsimp only; omega)) _).setCell (by first | exact Nat.le_refl _ | (dsimp only; omega)) _).setCell (by first | exact Nat.le_refl _ | (dsimp only; omega)) _).setCell (by first | exact Nat.le_refl _ | (dsimp only; omega)) _).setCell (by first | exact Nat.le_refl _ | (dsimp only; omega)) _
  · rw [if_neg hr]
    have tk : (readyF L i0 (timB t) != 0) = true := by simpa using hr
    clear hr ha hn hL ST CS hb0 ht
    generalize readyF L i0 (timB t) = k at *
    generalize timB t = tb at *
    obtain ⟨⟨x1, x2⟩, ⟨x3, x4⟩, ⟨x5, x6⟩⟩ := b
    obtain ⟨t1, t2⟩ := t
    unfold boxV pv spanV at *
    dsimp only at *
    have K0 := kv3 w 31 33 33 [.float .f64 t1, .float .f64 t2] [.float .f64 x1, .float .f64 x2, .float .f64 x3, .float .f64 x4, .float .f64 x5, .float .f64 x6] [.float .f64 0, .float .f64 0, .float .f64 0, .float .f64 0, .float .f64 0, .float .f64 0]
    simp only [objV] at K0
    have hst := @fstore
    replace K0 := Lib.hid K0
    go_enter Tryz.func8, Tryz.ntmps8
    go_wp2_with fail
    have K := K0.out
    clear K0
    generalize ((w.alloc _).alloc _).alloc _ = wr at *
    refine (CT.out wr).mono ?_
    rintro _ v0 ⟨rfl, hb⟩
    replace K := K.on hb
    clear hb CT
    replace K := Lib.hid K
    go_wp2_with fail
    replace K := K.out
    refine (CR.out v0 K.old).mono ?_
    rintro _ v1 ⟨rfl, hb⟩
    replace K := K.on hb
    clear hb CR
    have c2_0 := (K.at_ 2 rfl).at_ 0 _ rfl
    have f2_0 := (K.at_ 2 rfl).fr 0 _ rfl
    have c2_1 := (K.at_ 2 rfl).at_ 1 _ rfl
    have f2_1 := (K.at_ 2 rfl).fr 1 _ rfl
    have c2_2 := (K.at_ 2 rfl).at_ 2 _ rfl
    have f2_2 := (K.at_ 2 rfl).fr 2 _ rfl
    have c2_3 := (K.at_ 2 rfl).at_ 3 _ rfl
    have f2_3 := (K.at_ 2 rfl).fr 3 _ rfl
    have c2_4 := (K.at_ 2 rfl).at_ 4 _ rfl
    have f2_4 := (K.at_ 2 rfl).fr 4 _ rfl
    have c2_5 := (K.at_ 2 rfl).at_ 5 _ rfl
    have f2_5 := (K.at_ 2 rfl).fr 5 _ rfl
    replace K := Lib.hid K
    go_wp2_with fail
    replace K := K.out
    (try simp only [Exit.inBlock, Exit.then])
    refine bodyPost_ret (v := .tuple #[.agg #[.float .f64 0, .float .f64 0, .float .f64 0, .float .f64 0, .float .f64 0, .float .f64 0], .int .i64 k]) ?_ rfl ⟨rfl, ?_⟩
    · rw [results_cell_tmp rfl]; go_simp
    · exact ((((((K.old).setCell (by first | exact Nat.le_refl _ | (dsimp only; omega)) _).setCell (by first | exact Nat.le_refl _ | (dsimp only; omega)) _).setCell (by first | exact Nat.le_refl _ | (dsimp only; omega)) _).setCell (by first | exact Nat.le_refl _ | (dsimp only; omega)) _).setCell (by first | exact Nat.le_refl _ | (dsimp only; omega)) _).setCell (by first | exact Nat.le_refl _ | (dsimp only; omega)) _
end Go.Proofs.YtgblpibanagcgaaGreat
