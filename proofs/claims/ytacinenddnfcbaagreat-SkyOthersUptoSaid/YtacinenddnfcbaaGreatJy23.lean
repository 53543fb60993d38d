/- Proved here: what the texts Kag, Kah, Kai, Kaj, Hcl prove, one behind the other. -/
import Derived.Test.YtacinenddnfcbaaGreatJy22
import Derived.Test.YtacinenddnfcbaaGreatJy20
import Derived.Test.YtacinenddnfcbaaGreatJy12
import Derived.Test.YtacinenddnfcbaaGreatJy14
import Derived.Test.YtacinenddnfcbaaGreatJy6
import Derived.OpenShut
import Derived.Deep.Strs
import Derived.SizedLaws

set_option maxHeartbeats 4000000
set_option maxRecDepth 100000
namespace Go.Proofs.YtacinenddnfcbaaGreat
open Go.ChangeShapes Go.WideShapes Go.ChangeAt Go.RowKit Ieee.Own

def wayS (L : List Bo) : Nat → Int → List Nat
 | 0, _ => []
 | n + 1, i => if i < 0 then [] else i.toNat :: wayS L n (boAt L i.toNat).up
def gath {α : Type} (z : α) (own : Nat → α × Int) (add : α → α → α × Int) : List Nat → α → α × Int
 | [], v => (v, 0)
 | j :: js, v => if (own j).2 ≠ 0 then (z, (own j).2) else if (add (own j).1 v).2 ≠ 0 then (z, (add (own j).1 v).2) else gath z own add js (add (own j).1 v).1
def Lower (L : List Bo) : Prop := ∀ j, j < L.length → -1 ≤ (boAt L j).up ∧ (boAt L j).up < (j : Int)
theorem way_fuel {L : List Bo} (hu : Lower L) : ∀ (n m : Nat) (i : Int), i < n → i < m → i < L.length → wayS L n i = wayS L m i
 | 0, 0, _, _, _, _ => rfl
 | 0, m + 1, i, h, _, _ => by
   unfold wayS
   rw [if_pos (by omega)]
 | n + 1, 0, i, _, h, _ => by
   unfold wayS
   rw [if_pos (by omega)]
 | n + 1, m + 1, i, h, g, l => by
   unfold wayS
   by_cases c : i < 0
   · rw [if_pos c, if_pos c]
   · rw [if_neg c, if_neg c]
     have u := hu i.toNat (by omega)
     rw [way_fuel hu n m _ (by omega) (by omega) (by omega)]
def GatAt {α : Type} (L : List Bo) (z : α) (own : Nat → α × Int) (add : α → α → α × Int) (A : α × Int) (i : Int) (p : α) : Prop := ∀ n : Nat, i < n → gath z own add (wayS L n i) p = A
section
variable {α : Type} {L : List Bo} {z : α} {own : Nat → α × Int} {add : α → α → α × Int} {A : α × Int} {p : α}
theorem GatAt.start {n : Nat} {i : Int} (hu : Lower L) (hi : i < n) (hl : i < L.length) (h : gath z own add (wayS L n i) p = A) : GatAt L z own add A i p := fun m hm => by
 rw [way_fuel hu m n i hm hi hl]; exact h
theorem GatAt.root (h : GatAt L z own add A (-1) p) : (p, 0) = A := by
 have := h 0 (by decide)
 unfold wayS gath at this
 exact this
theorem GatAt.cons {j : Nat} (h : GatAt L z own add A j p) : gath z own add (j :: wayS L (j + 1) (boAt L j).up) p = A := by
 have := h (j + 1 + 1) (by omega)
 unfold wayS at this
 rw [if_neg (by omega)] at this
 exact this
theorem GatAt.bad1 {j : Nat} (h : GatAt L z own add A j p) (e : (own j).2 ≠ 0) : (z, (own j).2) = A := by
 have := h.cons
 unfold gath at this
 rwa [if_pos e] at this
theorem GatAt.bad2 {j : Nat} (h : GatAt L z own add A j p) (e : (own j).2 = 0) (f : (add (own j).1 p).2 ≠ 0) : (z, (add (own j).1 p).2) = A := by
 have := h.cons
 unfold gath at this
 rwa [if_neg (by simpa using e), if_pos f] at this
theorem GatAt.next {j : Nat} (hu : Lower L) (hj : j < L.length) (h : GatAt L z own add A j p) (e : (own j).2 = 0) (f : (add (own j).1 p).2 = 0) : GatAt L z own add A (boAt L j).up (add (own j).1 p).1 := by
 have := h.cons
 unfold gath at this
 rw [if_neg (by simpa using e), if_neg (by simpa using f)] at this
 have u := hu j hj
 exact GatAt.start hu (by omega) (by omega) this
end
theorem lower_of {S : Sy} (h : chkS S = 0) : Lower S.bs := fun j hj => by
 have := (chkS_zero h).2.2.2 j hj
 unfold mayS at this
 simp only [Bool.and_eq_true, decide_eq_true_eq] at this
 exact this.1
theorem laid_w : ∀ (l : List (Int × Nat)) (v : V3), (∀ t ∈ l, W9 (turnW t.1 t.2)) → W3 v → W3 (laidR l v).1
 | [], v, _, h => h
 | t :: l, v, hl, h => by
   have A := ans_apply (hl t (List.mem_cons_self ..)) h
   unfold laidR
   by_cases c : (applyR (turnW t.1 t.2) v).2 = 0
   · rw [if_pos c]; exact laid_w l _ (fun s hs => hl s (List.mem_cons_of_mem _ hs)) A.w
   · rw [if_neg c]; exact z3_w
theorem at_w {o : Ob} {d : Nat} (h : ObW o) (hd : d < 18446744073709551616) : W3 (atR o d).1 := by
 unfold atR
 by_cases c : readyO o (witB g24 d) = 0
 · rw [if_pos c]
   obtain ⟨m, t⟩ := readyO_zero c
   have hO := mayO_of m
   refine laid_w _ _ (fun s hs => ?_) (at_of h hO hd t).w
   unfold turnsO at hs
   simp only [List.mem_cons, List.not_mem_nil, or_false] at hs
   rcases hs with rfl | rfl | rfl
   · exact (turn_o (a := 2) (by decide) (by decide) h.pe (tu_ang h.pe hO.pe)).w
   · exact (turn_o (a := 0) (by decide) (by decide) h.ti (tu_ang h.ti hO.ti)).w
   · exact (turn_o (a := 2) (by decide) (by decide) h.no (tu_ang h.no hO.no)).w
 · rw [if_neg c]; exact z3_w
theorem atv_w {L : List Wv} {d : Nat} (hW : WvsW L) (hd : d < 18446744073709551616) : W3 (atV L d).1 := by
 unfold atV
 by_cases c : readyV L (witB g24 d) = 0
 · rw [if_pos c]
   obtain ⟨c0, t⟩ := readyV_zero c
   have S := sum_sm hd t L z3 0 (wvs_ok hW c0) (by have := (chkV_zero c0).1; omega) sm_zero
   exact ⟨(fn_finW S.f1).1, (fn_finW S.f2).1, (fn_finW S.f3).1⟩
 · rw [if_neg c]; exact z3_w
theorem atH_w {t : Tb} {d : Nat} (hW : TbW t) (hd : d < 18446744073709551616) : W3 (atH t d).1 := by
 unfold atH
 by_cases c : rdyT t (inM m24 d) = 0
 · rw [if_pos c]
   obtain ⟨k0, k1, k2⟩ := rdyT_zero c
   have KO := chkT_zero k0
   have P := pl_ok (y_ok KO hW hd k1) k2
   have R := row_may (KO.row _ P.row)
   exact ⟨(vh_fin (hW.w _ 0) R.1 P.nz.fin.1 (pl_m00 P)).1, (vh_fin (hW.w _ 1) R.2.1 P.nz.fin.1 (pl_m00 P)).1, (vh_fin (hW.w _ 2) R.2.2 P.nz.fin.1 (pl_m00 P)).1⟩
 · rw [if_neg c]; exact z3_w
theorem wayY_w {F : List Fr} {b : Bo} {d : Nat} (hF : FsW F) (hW : BoW b) (hd : d < 18446744073709551616) : W3 (wayY F b d).1 := by
 unfold wayY
 split
 · exact at_w hW.orb hd
 · split
   · exact atv_w hW.wvs hd
   · split
     · exact atH_w hW.tab hd
     · split
       · exact rootw_any hF hd hW.at_
       · exact hW.at_
end Go.Proofs.YtacinenddnfcbaaGreat

namespace Go.Proofs.YtacinenddnfcbaaGreat
open Go.ChangeShapes Go.WideShapes Go.ChangeAt Go.RowKit Ieee.Own

theorem ret_gV {A : V3 × Int} {p1 p2 p3 : Nat} {k : Int} (h : ((p1, p2, p3), k) = A) : Ending.returned (.tuple #[.agg #[.float .f64 p1, .float .f64 p2, .float .f64 p3], .int .i64 k]) = .returned (vecE A.1 A.2) := by rw [← h]; rfl
theorem ygatv_run {M : List Bm} {L : List Bo} (hML : M.map Bm.b = L) (hu : Lower L) {own : Nat → V3 × Int} {add : V3 → V3 → V3 × Int} {bn bc c1 c2 : Nat} {bao : Option Addr} {i0 : Int} {w : World} (hn : bn = M.length) (hi0 : -1 ≤ i0) (hi1 : i0 < (bn : Int)) (ha : BsAt w bao M)
 (hw : ∀ j, j < M.length → (own j).2 = 0 → W3 (own j).1) (haw : ∀ a b, W3 a → W3 b → W3 (add a b).1) (CO : Hid (∀ W, Below w.heap.size w W → ∀ j : Nat, j < M.length → Calls Tryz.prog 32 #[.agg (bmC (bmAt M j)).toArray, .pointer (some ⟨c1, 0, none⟩), .pointer (some ⟨c2, 0, none⟩)] W fun e w' => e = .returned (vecE (own j).1 (own j).2) ∧ Below W.heap.size W w')) (CA : Hid (∀ W (a b : V3), W3 a → W3 b → Calls Tryz.prog 35 #[vecV a, vecV b] W fun e w' => e = .returned (vecE (add a b).1 (add a b).2) ∧ Below W.heap.size W w')) :
 Calls Tryz.prog 34 #[.slice bao bn bc, .int .i64 i0, .func (.func 32) #[] #[.pointer (some ⟨c1, 0, none⟩), .pointer (some ⟨c2, 0, none⟩)], .func (.func 35) #[] #[]] w fun e w' => e = .returned (vecE (gath z3 own add (wayS L bn i0) z3).1 (gath z3 own add (wayS L bn i0) z3).2) ∧ Below w.heap.size w w' := by
 obtain ⟨A, hA⟩ : ∃ A, gath z3 own add (wayS L bn i0) z3 = A := ⟨_, rfl⟩
 rw [hA]
 have hLl : L.length = M.length := by rw [← hML, List.length_map]
 have R0 : Hid (GatAt L z3 own add A i0 z3) := GatAt.start hu hi1 (by omega) hA
 clear hA
 replace hn := Lib.hid hn
 replace hML := Lib.hid hML
 replace hu := Lib.hid hu
 replace ha := Lib.hid ha
 replace hw := Lib.hid hw
 replace haw := Lib.hid haw
 replace hLl := Lib.hid hLl
 have hud := Tryz.underlying51
 have K0 := kv3 w 41 41 41 [.float .f64 0, .float .f64 0, .float .f64 0] [.float .f64 0, .float .f64 0, .float .f64 0] [.float .f64 0, .float .f64 0, .float .f64 0]
 simp only [objV] at K0
 replace K0 := Lib.hid K0
 have hst := @fstore
 go_enter Tryz.func34, Tryz.ntmps34
 go_upto_region 2 with fail
 have K := K0.out
 clear K0
 generalize ((w.alloc _).alloc _).alloc _ = wr at *
 go_loopw [1] (fun iv wr => ∃ (i : Int) (s1 s2 s3 : Nat), iv = .int .i64 i ∧ -1 ≤ i ∧ i < (bn : Int) ∧ W3 (s1, s2, s3) ∧ GatAt L z3 own add A i (s1, s2, s3) ∧ Kv w [some (w.heap.size, [.float .f64 0, .float .f64 0, .float .f64 0]), some (w.heap.size + 1, [.float .f64 s1, .float .f64 s2, .float .f64 s3]), some (w.heap.size + 1 + 1, [.float .f64 0, .float .f64 0, .float .f64 0])] wr) (fun iv _ => (intOf iv + 1).toNat)
 case atStart => exact ⟨i0, 0, 0, 0, rfl, hi0, hi1, ⟨by decide, by decide, by decide⟩, R0.out, K⟩
 case round =>
  obtain ⟨i, s1, s2, s3, rfl, hi, hil, sw, R, K⟩ := hrel
  clear R0
  replace sw := Lib.hid sw
  replace R := Lib.hid R
  by_cases e : i = -1
  · subst e
    have fin := Lib.hid R.out.root
    have c1_0 := (K.at_ 1 rfl).at_ 0 _ rfl
    have c1_1 := (K.at_ 1 rfl).at_ 1 _ rfl
    have c1_2 := (K.at_ 1 rfl).at_ 2 _ rfl
    have c0_0 := (K.at_ 0 rfl).at_ 0 _ rfl
    have f0_0 := (K.at_ 0 rfl).fr 0 _ rfl
    have c0_1 := (K.at_ 0 rfl).at_ 1 _ rfl
    have f0_1 := (K.at_ 0 rfl).fr 1 _ rfl
    have c0_2 := (K.at_ 0 rfl).at_ 2 _ rfl
    have f0_2 := (K.at_ 0 rfl).fr 2 _ rfl
    replace K := Lib.hid K
    go_wp2_with fail
    (try simp only [Exit.inBlock, Exit.then])
    refine bodyPost_ret (v := .tuple #[.agg #[.float .f64 s1, .float .f64 s2, .float .f64 s3], .int .i64 0]) ?_ rfl ⟨ret_gV fin.out, ?_⟩
    · rw [results_cell_tmp rfl]; go_simp
    · exact (((K.out.old).setCell (by first | exact Nat.le_refl _ | omega | (dsimp only; omega)) _).setCell (by first | exact Nat.le_refl _ | omega | (dsimp only; omega)) _).setCell (by first | exact Nat.le_refl _ | omega | (dsimp only; omega)) _
  · obtain ⟨j, rfl⟩ : ∃ j : Nat, i = j := ⟨i.toNat, by omega⟩
    have hjn : j < bn := by omega
    have hjm : j < M.length := by have := hn.out; omega
    have hjl : j < L.length := by have := hLl.out; omega
    have hj2 : decide ((j : Int) = -1) = false := decide_eq_false (by omega)
    have up := hu.out j hjl
    have eu : (boAt L j).up = (bmAt M j).b.up := by rw [← hML.out, bo_bm]
    rw [eu] at up
    obtain ⟨bb, bo, rfl, hbl, hrow⟩ := ha.out.row hjm
    have er : Hid (wr.rangeAt bb (bo + j * 18) (bmC (bmAt M j))) := Lib.hid fun k u e => (K.old.cell (p := ⟨bb, _, none⟩) hbl).trans (hrow k u e)
    have CO1 := CO.out wr K.old j hjm
    have hw1 := Lib.hid (hw.out j hjm)
    have B1 := Lib.hid (fun h => R.out.bad1 (j := j) h)
    have B2 := Lib.hid (fun h f => R.out.bad2 (j := j) h f)
    have N1 := Lib.hid (fun h f => R.out.next (j := j) hu.out hjl h f)
    rw [eu] at N1
    have hup : Hid (∀ W, Below w.heap.size w W → W.cell? ⟨bb, bo + j * 18 + 1, none⟩ = some (.int .i64 (bmAt M j).b.up)) := Lib.hid fun W h => (h.cell (p := ⟨bb, _, none⟩) hbl).trans (hrow 1 _ rfl)
    have hl0 : Hid ((bmC (bmAt M j)).length = 18) := rfl
    clear eu hrow R hbl
    generalize (bmAt M j).b.up = uj at *
    generalize bmC (bmAt M j) = L0 at *
    generalize own j = oj at *
    obtain ⟨⟨q1, q2, q3⟩, k⟩ := oj
    dsimp only at *
    unfold vecE vecV at CO1
    dsimp only at CO1
    replace CO1 := Lib.hid CO1
    replace K := Lib.hid K
    replace up := Lib.hid up
    go_wp2_with (refine wpList_load_mid rfl 51 (.tmp 20) rfl bb (bo + j * 18) rfl L0 _ er.out hud rfl (by rw [hl0.out]; exact sizeBody) ?_)
    refine CO1.out.mono ?_
    rintro _ v1 ⟨rfl, hb⟩
    replace K := (K.out.on hb).new 41 [.float .f64 q1, .float .f64 q2, .float .f64 q3]
    simp only [objV, List.cons_append, List.nil_append] at K
    clear hb CO1 er hl0
    by_cases hk : k = 0
    · subst hk
      replace hw1 := Lib.hid (hw1.out rfl)
      have aw := haw.out _ _ hw1.out sw.out
      have CA2 := fun W => CA.out W _ _ hw1.out sw.out
      replace B2 := Lib.hid (B2.out rfl)
      replace N1 := Lib.hid (N1.out rfl)
      clear B1
      generalize add (q1, q2, q3) (s1, s2, s3) = aj at *
      obtain ⟨⟨r1, r2, r3⟩, l⟩ := aj
      unfold vecE vecV at CA2
      dsimp only at *
      replace CA2 := Lib.hid CA2
      replace aw := Lib.hid aw
      have c3_0 := (K.at_ 3 rfl).at_ 0 _ rfl
      have c3_1 := (K.at_ 3 rfl).at_ 1 _ rfl
      have c3_2 := (K.at_ 3 rfl).at_ 2 _ rfl
      have c1_0 := (K.at_ 1 rfl).at_ 0 _ rfl
      have c1_1 := (K.at_ 1 rfl).at_ 1 _ rfl
      have c1_2 := (K.at_ 1 rfl).at_ 2 _ rfl
      replace K := Lib.hid K
      go_wp2_with fail
      replace K := K.out
      generalize v1.alloc _ = v2 at *
      refine (CA2.out v2).mono ?_
      rintro _ v3 ⟨rfl, hb⟩
      clear c3_0 c3_1 c3_2 c1_0 c1_1 c1_2
      replace K := (K.on hb).take 3
      simp only [List.take_succ_cons, List.take_zero] at K
      clear hb CA2
      have c1_0 := (K.at_ 1 rfl).at_ 0 _ rfl
      have f1_0 := (K.at_ 1 rfl).fr 0 _ rfl
      have c1_1 := (K.at_ 1 rfl).at_ 1 _ rfl
      have f1_1 := (K.at_ 1 rfl).fr 1 _ rfl
      have c1_2 := (K.at_ 1 rfl).at_ 2 _ rfl
      have f1_2 := (K.at_ 1 rfl).fr 2 _ rfl
      replace K := K.put 1 rfl 0 [.float .f64 r1, .float .f64 r2, .float .f64 r3] (by simp)
      simp only [putV, setV, List.set_cons_zero, List.set_cons_succ] at K
      replace K := Lib.hid K
      go_upto_region 7 with fail
      replace K := K.out
      clear c1_0 f1_0 c1_1 f1_1 c1_2 f1_2
      generalize World.setCell _ _ _ = v4 at *
      by_cases hl : l = 0
      · subst hl
        replace N1 := Lib.hid (N1.out rfl)
        clear B2
        have hu1 := hup.out _ K.old
        replace K := Lib.hid K
        go_wp2_with fail
        go_roundw
        case rel => exact ⟨uj, r1, r2, r3, rfl, up.out.1, by have := up.out.2; omega, aw.out, N1.out, K.out⟩
        case measure => have := up.out; simp [intOf]; omega
      · have hl' : (l != 0) = true := by simpa using hl
        replace B2 := Lib.hid (B2.out hl)
        clear N1 hl
        have c2_0 := (K.at_ 2 rfl).at_ 0 _ rfl
        have c2_1 := (K.at_ 2 rfl).at_ 1 _ rfl
        have c2_2 := (K.at_ 2 rfl).at_ 2 _ rfl
        have c0_0 := (K.at_ 0 rfl).at_ 0 _ rfl
        have f0_0 := (K.at_ 0 rfl).fr 0 _ rfl
        have c0_1 := (K.at_ 0 rfl).at_ 1 _ rfl
        have f0_1 := (K.at_ 0 rfl).fr 1 _ rfl
        have c0_2 := (K.at_ 0 rfl).at_ 2 _ rfl
        have f0_2 := (K.at_ 0 rfl).fr 2 _ rfl
        replace K := Lib.hid K
        go_wp2_with fail
        (try simp only [Exit.inBlock, Exit.then])
        refine bodyPost_ret (v := .tuple #[.agg #[.float .f64 0, .float .f64 0, .float .f64 0], .int .i64 l]) ?_ rfl ⟨ret_gV B2.out, ?_⟩
        · rw [results_cell_tmp rfl]; go_simp
        · exact (((K.out.old).setCell (by first | exact Nat.le_refl _ | omega | (dsimp only; omega)) _).setCell (by first | exact Nat.le_refl _ | omega | (dsimp only; omega)) _).setCell (by first | exact Nat.le_refl _ | omega | (dsimp only; omega)) _
    · have hk' : (k != 0) = true := by simpa using hk
      replace B1 := Lib.hid (B1.out hk)
      clear N1 B2 hw1 hk
      have c2_0 := (K.at_ 2 rfl).at_ 0 _ rfl
      have c2_1 := (K.at_ 2 rfl).at_ 1 _ rfl
      have c2_2 := (K.at_ 2 rfl).at_ 2 _ rfl
      have c0_0 := (K.at_ 0 rfl).at_ 0 _ rfl
      have f0_0 := (K.at_ 0 rfl).fr 0 _ rfl
      have c0_1 := (K.at_ 0 rfl).at_ 1 _ rfl
      have f0_1 := (K.at_ 0 rfl).fr 1 _ rfl
      have c0_2 := (K.at_ 0 rfl).at_ 2 _ rfl
      have f0_2 := (K.at_ 0 rfl).fr 2 _ rfl
      replace K := Lib.hid K
      go_wp2_with fail
      (try simp only [Exit.inBlock, Exit.then])
      refine bodyPost_ret (v := .tuple #[.agg #[.float .f64 0, .float .f64 0, .float .f64 0], .int .i64 k]) ?_ rfl ⟨ret_gV B1.out, ?_⟩
      · rw [results_cell_tmp rfl]; go_simp
      · exact (((K.out.old).setCell (by first | exact Nat.le_refl _ | omega | (dsimp only; omega)) _).setCell (by first | exact Nat.le_refl _ | omega | (dsimp only; omega)) _).setCell (by first | exact Nat.le_refl _ | omega | (dsimp only; omega)) _
end Go.Proofs.YtacinenddnfcbaaGreat

namespace Go.Proofs.YtacinenddnfcbaaGreat
open Go.ChangeShapes Go.WideShapes Go.ChangeAt Go.RowKit Ieee.Own

end Go.Proofs.YtacinenddnfcbaaGreat

namespace Go.Proofs.YtacinenddnfcbaaGreat
open Go.ChangeShapes Go.WideShapes Go.ChangeAt Go.RowKit Ieee.Own

theorem ypcl_run {L : List Value} (hl : L.length = 18) {fn fc c1 c2 : Nat} {fao : Option Addr} {d : Nat} {q1 q2 q3 : Nat} {k : Int} {w : World}
 (h1 : Hid (∀ W, Below w.heap.size w W → W.cell? ⟨c1, 1, none⟩ = some (.slice fao fn fc))) (h2 : Hid (∀ W, Below w.heap.size w W → W.cell? ⟨c2, 0, none⟩ = some (.float .f64 d)))
 (CW : Hid (∀ W, Below w.heap.size w W → Calls Tryz.prog 33 #[.slice fao fn fc, .agg L.toArray, .float .f64 d] W fun e w' => e = .returned (.tuple #[.agg #[.float .f64 q1, .float .f64 q2, .float .f64 q3], .int .i64 k]) ∧ Below W.heap.size W w')) : Calls Tryz.prog 32 #[.agg L.toArray, .pointer (some ⟨c1, 0, none⟩), .pointer (some ⟨c2, 0, none⟩)] w fun e w' => e = .returned (.tuple #[.agg #[.float .f64 q1, .float .f64 q2, .float .f64 q3], .int .i64 k]) ∧ Below w.heap.size w w' := by
 replace hl := Lib.hid hl
 have hud := Tryz.underlying51
 have K0 := kv2 w 51 41 L [.float .f64 0, .float .f64 0, .float .f64 0]
 simp only [objV] at K0
 replace K0 := Lib.hid K0
 have hst := @fstore
 go_enter Tryz.func32, Tryz.ntmps32
 go_upto_region 1 with fail
 have K := K0.out
 clear K0
 generalize (w.alloc _).alloc _ = wr at *
 have er : Hid (wr.rangeAt w.heap.size 0 L) := Lib.hid fun j v e => by rw [Nat.zero_add]; exact (K.at_ 0 rfl).at_ j v e
 have e1 := h1.out _ K.old
 have e2 := h2.out _ K.old
 clear h1 h2
 replace K := Lib.hid K
 go_wp2_with (refine wpList_load_mid rfl 51 (.tmp 3) rfl w.heap.size 0 rfl L _ er.out hud rfl (by rw [hl.out]; exact sizeBody) ?_)
 refine (CW.out _ K.out.old).mono ?_
 rintro _ v1 ⟨rfl, hb⟩
 clear CW er e1 e2
 replace K := K.out.on hb
 clear hb
 have c1_0 := (K.at_ 1 rfl).at_ 0 _ rfl
 have f1_0 := (K.at_ 1 rfl).fr 0 _ rfl
 have c1_1 := (K.at_ 1 rfl).at_ 1 _ rfl
 have f1_1 := (K.at_ 1 rfl).fr 1 _ rfl
 have c1_2 := (K.at_ 1 rfl).at_ 2 _ rfl
 have f1_2 := (K.at_ 1 rfl).fr 2 _ rfl
 replace K := Lib.hid K
 go_wp2_with fail
 (try simp only [Exit.inBlock, Exit.then])
 refine bodyPost_ret (v := .tuple #[.agg #[.float .f64 q1, .float .f64 q2, .float .f64 q3], .int .i64 k]) ?_ rfl ⟨rfl, ?_⟩
 · rw [results_cell_tmp rfl]; go_simp
 · exact (((K.out.old).setCell (by first | exact Nat.le_refl _ | omega | (dsimp only; omega)) _).setCell (by first | exact Nat.le_refl _ | omega | (dsimp only; omega)) _).setCell (by first | exact Nat.le_refl _ | omega | (dsimp only; omega)) _
theorem yp_ok {lt fn fc bn bc : Nat} {fao bao : Option Addr} {i r : Int} {tb : Bool} {d : Nat} {w : World} (CT : Hid (∀ W, Below w.heap.size w W → Calls Tryz.prog 31 #[.float .f64 d] W fun e w' => e = .returned (.bool tb) ∧ Below W.heap.size W w')) (CR : Hid (∀ W, Below w.heap.size w W → Calls Tryz.prog 21 #[.agg #[.float .f64 lt, .slice fao fn fc, .slice bao bn bc], .int .i64 i, .bool tb] W fun e w' => e = .returned (.int .i64 r) ∧ Below W.heap.size W w')) (hr : r = 0) {q1 q2 q3 : Nat} {k : Int} (GA : Hid (∀ (W : World) (c1 c2 : Nat), Below w.heap.size w W → BV W c1 [.float .f64 lt, .slice fao fn fc, .slice bao bn bc] → BV W c2 [.float .f64 d] → Calls Tryz.prog 34 #[.slice bao bn bc, .int .i64 i, .func (.func 32) #[] #[.pointer (some ⟨c1, 0, none⟩), .pointer (some ⟨c2, 0, none⟩)], .func (.func 35) #[] #[]] W fun e w' => e = .returned (.tuple #[.agg #[.float .f64 q1, .float .f64 q2, .float .f64 q3], .int .i64 k]) ∧ Below W.heap.size W w')) : Calls Tryz.prog 13 #[.agg #[.float .f64 lt, .slice fao fn fc, .slice bao bn bc], .int .i64 i, .float .f64 d] w fun e w' => e = .returned (.tuple #[.agg #[.float .f64 q1, .float .f64 q2, .float .f64 q3], .int .i64 k]) ∧ Below w.heap.size w w' := by
 subst hr
 have hmf : ∀ (fn : Fn) (first cap : Array Value) (w : World), (Instr.makeFunc fn first cap).run Tryz.prog w = .ok (.func fn first cap) w := fun _ _ _ _ => rfl
 have K0 := kv3 w 26 22 41 [.float .f64 lt, .slice fao fn fc, .slice bao bn bc] [.float .f64 d] [.float .f64 0, .float .f64 0, .float .f64 0]
 simp only [objV] at K0
 replace K0 := Lib.hid K0
 have hst := @fstore
 go_enter Tryz.func13, Tryz.ntmps13
 go_upto_region 1 with fail
 have K := K0.out
 clear K0
 generalize ((w.alloc _).alloc _).alloc _ = wr at *
 generalize hds : ([some 10, some 11, some 12, some 13, some 14, some 8] : List (Option Tmp)) = ds
 have hap : apartL ds = true := by rw [← hds]; decide
 replace hds := hds.symm
 refine wp_region_kv (fun hf => [some (w.heap.size, [.float .f64 lt, .slice fao fn fc, .slice bao bn bc]), some (w.heap.size + 1, [.float .f64 d]), some (w.heap.size + 1 + 1, [.float .f64 0, .float .f64 0, .float .f64 0])]) (fun hf => [some (.agg #[.float .f64 lt, .slice fao fn fc, .slice bao bn bc]), some (.int .i64 i), some (.float .f64 d), some (.bool tb), some (.int .i64 0), some (.int .i64 0)]) [] [] [.agg #[.float .f64 lt, .slice fao fn fc, .slice bao bn bc], .int .i64 i, .float .f64 d, .bool tb, .int .i64 0, .int .i64 0] ds (by kernel_rfl) (by rw [hds]; rfl) hap (by decide +kernel) (by decide +kernel) K ?ha ?haj ?hai ?hsi ?hss ?hsa ?hsw ?htg ?hE2 ?hE3 ?hE4 ?hL1 ?hL2 ?hL3 ?alloc ?step ?store ?fin
 case ha => intro al hal; cases hal
 case haj => intro al hal al' hal' e; cases hal
 case hai => intro al hal; cases hal
 case hsi => intro st hst st' hst' e; cases hst
 case hss =>
  intro st hst
  cases hst
 case hsa =>
  intro st hst al hal
  cases hst
 case hsw =>
  intro st hst al hal e
  cases hst
 case htg =>
  intro st hst
  cases hst
 case hE2 =>
  intro hf j h1 h2
  rcases j with _ | _ | _ | j
  · rfl
  · rfl
  · rfl
  · rfl
 case hE3 =>
  intro hf st hst g us e
  cases hst
 case hE4 =>
  intro hf al hal
  cases hal
 case hL1 => intro hf; rfl
 case hL2 =>
  intro hf i hi hna
  have hi : i < 6 := hi
  have : i = 0 ∨ i = 1 ∨ i = 2 ∨ i = 3 ∨ i = 4 ∨ i = 5 := by omega
  rcases this with rfl | rfl | rfl | rfl | rfl | rfl
  · rfl
  · rfl
  · rfl
  · rfl
  · rfl
  · rfl
 case hL3 => intro hf al hal; cases hal
 case alloc =>
  intro al hal o ρ W ho
  cases hal
 case step =>
  intro L W i o ho hs ha hd hB hO
  have hi : i < 6 := (Array.getElem?_eq_some_iff.1 ho).1
  have : i = 0 ∨ i = 1 ∨ i = 2 ∨ i = 3 ∨ i = 4 ∨ i = 5 := by omega
  rcases this with rfl | rfl | rfl | rfl | rfl | rfl
  · obtain rfl := Option.some.inj ho
    have b := hB 0 _ _ rfl (by
        intro st hst e
        cases hst)
    have c0 := b.at_ 0 _ rfl
    have c1 := b.at_ 1 _ rfl
    have c2 := b.at_ 2 _ rfl
    clear b
    refine .value W ?_ (Below.refl _ _)
    generalize hA : (puts ds L _).eval = ρ
    have hc : ∀ v, ρ (.const v) = v := fun v => by rw [← hA]; rfl
    have h0 : ρ (.tmp 3) = .pointer (some ⟨w.heap.size, 0, none⟩) := by rw [← hA]; exact (puts_old ds L _ (by rw [hds]; decide)).trans rfl
    clear hA hd hB ho hs ha hO
    unfold execOp
    go_simp
  · obtain rfl := Option.some.inj ho
    refine .value W ?_ (Below.refl _ _)
    generalize hA : (puts ds L _).eval = ρ
    have hc : ∀ v, ρ (.const v) = v := fun v => by rw [← hA]; rfl
    have h0 : ρ (.tmp 1) = .int .i64 i := by rw [← hA]; exact (puts_old ds L _ (by rw [hds]; decide)).trans rfl
    clear hA hd hB ho hs ha hO
    unfold execOp
    go_simp
  · obtain rfl := Option.some.inj ho
    have b := hB 1 _ _ rfl (by
        intro st hst e
        cases hst)
    have c0 := b.at_ 0 _ rfl
    clear b
    refine .value W ?_ (Below.refl _ _)
    generalize hA : (puts ds L _).eval = ρ
    have hc : ∀ v, ρ (.const v) = v := fun v => by rw [← hA]; rfl
    have h0 : ρ (.tmp 5) = .pointer (some ⟨w.heap.size + 1, 0, none⟩) := by rw [← hA]; exact (puts_old ds L _ (by rw [hds]; decide)).trans rfl
    clear hA hd hB ho hs ha hO
    unfold execOp
    go_simp
  · obtain rfl := Option.some.inj ho
    refine .call 31 #[.float .f64 d] ?_ ((CT.out W hO).mono fun e w1 q => ⟨q.1, q.2.mono (Nat.le_refl _)⟩)
    generalize hA : (puts ds L _).eval = ρ
    have hc : ∀ v, ρ (.const v) = v := fun v => by rw [← hA]; rfl
    have hg : ∀ g, ρ (.func g) = .func (.func g) #[] #[] := fun v => by rw [← hA]; rfl
    have h0 : ρ (.tmp 12) = .float .f64 d := by rw [← hA]; exact puts_get 2 ds L _ hap (by rw [hds]; rfl) (hd 2 (by decide +kernel) (by intro al hal; cases hal)) (show 12 < 27 by decide)
    have hf := Tryz.func31
    unfold execOp
    go_simp
  · obtain rfl := Option.some.inj ho
    refine .call 21 #[.agg #[.float .f64 lt, .slice fao fn fc, .slice bao bn bc], .int .i64 i, .bool tb] ?_ ((CR.out W hO).mono fun e w1 q => ⟨q.1, q.2.mono (Nat.le_refl _)⟩)
    generalize hA : (puts ds L _).eval = ρ
    have hc : ∀ v, ρ (.const v) = v := fun v => by rw [← hA]; rfl
    have hg : ∀ g, ρ (.func g) = .func (.func g) #[] #[] := fun v => by rw [← hA]; rfl
    have h0 : ρ (.tmp 10) = .agg #[.float .f64 lt, .slice fao fn fc, .slice bao bn bc] := by rw [← hA]; exact puts_get 0 ds L _ hap (by rw [hds]; rfl) (hd 0 (by decide +kernel) (by intro al hal; cases hal)) (show 10 < 27 by decide)
    have h1 : ρ (.tmp 11) = .int .i64 i := by rw [← hA]; exact puts_get 1 ds L _ hap (by rw [hds]; rfl) (hd 1 (by decide +kernel) (by intro al hal; cases hal)) (show 11 < 27 by decide)
    have h2 : ρ (.tmp 13) = .bool tb := by rw [← hA]; exact puts_get 3 ds L _ hap (by rw [hds]; rfl) (hd 3 (by decide +kernel) (by intro al hal; cases hal)) (show 13 < 27 by decide)
    have hf := Tryz.func21
    unfold execOp
    go_simp
  · obtain rfl := Option.some.inj ho
    refine .value W ?_ (Below.refl _ _)
    generalize hA : (puts ds L _).eval = ρ
    have hc : ∀ v, ρ (.const v) = v := fun v => by rw [← hA]; rfl
    have h0 : ρ (.tmp 14) = .int .i64 0 := by rw [← hA]; exact puts_get 4 ds L _ hap (by rw [hds]; rfl) (hd 4 (by decide +kernel) (by intro al hal; cases hal)) (show 14 < 27 by decide)
    clear hA hd hB ho hs ha hO
    unfold execOp
    go_simp
 case store =>
  intro st hst L W o h us ho hd hal hC b
  cases hst
 case fin =>
  intro hf W0 K
  rw [hds]
  clear hds hap ds hf CT CR
  (try dsimp only at K)
  simp only [List.set_cons_zero, List.set_cons_succ, puts, Act.put, List.setIfInBounds_toArray]
  have c0_0 := (K.at_ 0 rfl).at_ 0 _ rfl
  have c0_1 := (K.at_ 0 rfl).at_ 1 _ rfl
  have c0_2 := (K.at_ 0 rfl).at_ 2 _ rfl
  replace K := Lib.hid K
  go_wp2_with fail
  replace K := K.out
  refine (GA.out _ _ _ K.old (K.at_ 0 rfl) (K.at_ 1 rfl)).mono ?_
  rintro _ v1 ⟨rfl, hb⟩
  clear GA c0_0 c0_1 c0_2
  replace K := K.on hb
  clear hb
  have c2_0 := (K.at_ 2 rfl).at_ 0 _ rfl
  have f2_0 := (K.at_ 2 rfl).fr 0 _ rfl
  have c2_1 := (K.at_ 2 rfl).at_ 1 _ rfl
  have f2_1 := (K.at_ 2 rfl).fr 1 _ rfl
  have c2_2 := (K.at_ 2 rfl).at_ 2 _ rfl
  have f2_2 := (K.at_ 2 rfl).fr 2 _ rfl
  replace K := Lib.hid K
  go_wp2_with fail
  (try simp only [Exit.inBlock, Exit.then])
  refine bodyPost_ret (v := .tuple #[.agg #[.float .f64 q1, .float .f64 q2, .float .f64 q3], .int .i64 k]) ?_ rfl ⟨rfl, ?_⟩
  · rw [results_cell_tmp rfl]; go_simp
  · exact (((K.out.old).setCell (by first | exact Nat.le_refl _ | omega | (dsimp only; omega)) _).setCell (by first | exact Nat.le_refl _ | omega | (dsimp only; omega)) _).setCell (by first | exact Nat.le_refl _ | omega | (dsimp only; omega)) _
theorem yp_no {lt fn fc bn bc : Nat} {fao bao : Option Addr} {i r : Int} {tb : Bool} {d : Nat} {w : World} (CT : Hid (∀ W, Below w.heap.size w W → Calls Tryz.prog 31 #[.float .f64 d] W fun e w' => e = .returned (.bool tb) ∧ Below W.heap.size W w')) (CR : Hid (∀ W, Below w.heap.size w W → Calls Tryz.prog 21 #[.agg #[.float .f64 lt, .slice fao fn fc, .slice bao bn bc], .int .i64 i, .bool tb] W fun e w' => e = .returned (.int .i64 r) ∧ Below W.heap.size W w')) (hr : (r != 0) = true) : Calls Tryz.prog 13 #[.agg #[.float .f64 lt, .slice fao fn fc, .slice bao bn bc], .int .i64 i, .float .f64 d] w fun e w' => e = .returned (.tuple #[.agg #[.float .f64 0, .float .f64 0, .float .f64 0], .int .i64 r]) ∧ Below w.heap.size w w' := by
 have K0 := kv3 w 26 22 41 [.float .f64 lt, .slice fao fn fc, .slice bao bn bc] [.float .f64 d] [.float .f64 0, .float .f64 0, .float .f64 0]
 simp only [objV] at K0
 replace K0 := Lib.hid K0
 have hst := @fstore
 go_enter Tryz.func13, Tryz.ntmps13
 go_upto_region 1 with fail
 have K := K0.out
 clear K0
 generalize ((w.alloc _).alloc _).alloc _ = wr at *
 generalize hds : ([some 10, some 11, some 12, some 13, some 14, some 8] : List (Option Tmp)) = ds
 have hap : apartL ds = true := by rw [← hds]; decide
 replace hds := hds.symm
 refine wp_region_kv (fun hf => [some (w.heap.size, [.float .f64 lt, .slice fao fn fc, .slice bao bn bc]), some (w.heap.size + 1, [.float .f64 d]), some (w.heap.size + 1 + 1, [.float .f64 0, .float .f64 0, .float .f64 0])]) (fun hf => [some (.agg #[.float .f64 lt, .slice fao fn fc, .slice bao bn bc]), some (.int .i64 i), some (.float .f64 d), some (.bool tb), some (.int .i64 r), some (.int .i64 r)]) [] [] [.agg #[.float .f64 lt, .slice fao fn fc, .slice bao bn bc], .int .i64 i, .float .f64 d, .bool tb, .int .i64 r, .int .i64 r] ds (by kernel_rfl) (by rw [hds]; rfl) hap (by decide +kernel) (by decide +kernel) K ?ha ?haj ?hai ?hsi ?hss ?hsa ?hsw ?htg ?hE2 ?hE3 ?hE4 ?hL1 ?hL2 ?hL3 ?alloc ?step ?store ?fin
 case ha => intro al hal; cases hal
 case haj => intro al hal al' hal' e; cases hal
 case hai => intro al hal; cases hal
 case hsi => intro st hst st' hst' e; cases hst
 case hss =>
  intro st hst
  cases hst
 case hsa =>
  intro st hst al hal
  cases hst
 case hsw =>
  intro st hst al hal e
  cases hst
 case htg =>
  intro st hst
  cases hst
 case hE2 =>
  intro hf j h1 h2
  rcases j with _ | _ | _ | j
  · rfl
  · rfl
  · rfl
  · rfl
 case hE3 =>
  intro hf st hst g us e
  cases hst
 case hE4 =>
  intro hf al hal
  cases hal
 case hL1 => intro hf; rfl
 case hL2 =>
  intro hf i hi hna
  have hi : i < 6 := hi
  have : i = 0 ∨ i = 1 ∨ i = 2 ∨ i = 3 ∨ i = 4 ∨ i = 5 := by omega
  rcases this with rfl | rfl | rfl | rfl | rfl | rfl
  · rfl
  · rfl
  · rfl
  · rfl
  · rfl
  · rfl
 case hL3 => intro hf al hal; cases hal
 case alloc =>
  intro al hal o ρ W ho
  cases hal
 case step =>
  intro L W i o ho hs ha hd hB hO
  have hi : i < 6 := (Array.getElem?_eq_some_iff.1 ho).1
  have : i = 0 ∨ i = 1 ∨ i = 2 ∨ i = 3 ∨ i = 4 ∨ i = 5 := by omega
  rcases this with rfl | rfl | rfl | rfl | rfl | rfl
  · obtain rfl := Option.some.inj ho
    have b := hB 0 _ _ rfl (by
        intro st hst e
        cases hst)
    have c0 := b.at_ 0 _ rfl
    have c1 := b.at_ 1 _ rfl
    have c2 := b.at_ 2 _ rfl
    clear b
    refine .value W ?_ (Below.refl _ _)
    generalize hA : (puts ds L _).eval = ρ
    have hc : ∀ v, ρ (.const v) = v := fun v => by rw [← hA]; rfl
    have h0 : ρ (.tmp 3) = .pointer (some ⟨w.heap.size, 0, none⟩) := by rw [← hA]; exact (puts_old ds L _ (by rw [hds]; decide)).trans rfl
    clear hA hd hB ho hs ha hO
    unfold execOp
    go_simp
  · obtain rfl := Option.some.inj ho
    refine .value W ?_ (Below.refl _ _)
    generalize hA : (puts ds L _).eval = ρ
    have hc : ∀ v, ρ (.const v) = v := fun v => by rw [← hA]; rfl
    have h0 : ρ (.tmp 1) = .int .i64 i := by rw [← hA]; exact (puts_old ds L _ (by rw [hds]; decide)).trans rfl
    clear hA hd hB ho hs ha hO
    unfold execOp
    go_simp
  · obtain rfl := Option.some.inj ho
    have b := hB 1 _ _ rfl (by
        intro st hst e
        cases hst)
    have c0 := b.at_ 0 _ rfl
    clear b
    refine .value W ?_ (Below.refl _ _)
    generalize hA : (puts ds L _).eval = ρ
    have hc : ∀ v, ρ (.const v) = v := fun v => by rw [← hA]; rfl
    have h0 : ρ (.tmp 5) = .pointer (some ⟨w.heap.size + 1, 0, none⟩) := by rw [← hA]; exact (puts_old ds L _ (by rw [hds]; decide)).trans rfl
    clear hA hd hB ho hs ha hO
    unfold execOp
    go_simp
  · obtain rfl := Option.some.inj ho
    refine .call 31 #[.float .f64 d] ?_ ((CT.out W hO).mono fun e w1 q => ⟨q.1, q.2.mono (Nat.le_refl _)⟩)
    generalize hA : (puts ds L _).eval = ρ
    have hc : ∀ v, ρ (.const v) = v := fun v => by rw [← hA]; rfl
    have hg : ∀ g, ρ (.func g) = .func (.func g) #[] #[] := fun v => by rw [← hA]; rfl
    have h0 : ρ (.tmp 12) = .float .f64 d := by rw [← hA]; exact puts_get 2 ds L _ hap (by rw [hds]; rfl) (hd 2 (by decide +kernel) (by intro al hal; cases hal)) (show 12 < 27 by decide)
    have hf := Tryz.func31
    unfold execOp
    go_simp
  · obtain rfl := Option.some.inj ho
    refine .call 21 #[.agg #[.float .f64 lt, .slice fao fn fc, .slice bao bn bc], .int .i64 i, .bool tb] ?_ ((CR.out W hO).mono fun e w1 q => ⟨q.1, q.2.mono (Nat.le_refl _)⟩)
    generalize hA : (puts ds L _).eval = ρ
    have hc : ∀ v, ρ (.const v) = v := fun v => by rw [← hA]; rfl
    have hg : ∀ g, ρ (.func g) = .func (.func g) #[] #[] := fun v => by rw [← hA]; rfl
    have h0 : ρ (.tmp 10) = .agg #[.float .f64 lt, .slice fao fn fc, .slice bao bn bc] := by rw [← hA]; exact puts_get 0 ds L _ hap (by rw [hds]; rfl) (hd 0 (by decide +kernel) (by intro al hal; cases hal)) (show 10 < 27 by decide)
    have h1 : ρ (.tmp 11) = .int .i64 i := by rw [← hA]; exact puts_get 1 ds L _ hap (by rw [hds]; rfl) (hd 1 (by decide +kernel) (by intro al hal; cases hal)) (show 11 < 27 by decide)
    have h2 : ρ (.tmp 13) = .bool tb := by rw [← hA]; exact puts_get 3 ds L _ hap (by rw [hds]; rfl) (hd 3 (by decide +kernel) (by intro al hal; cases hal)) (show 13 < 27 by decide)
    have hf := Tryz.func21
    unfold execOp
    go_simp
  · obtain rfl := Option.some.inj ho
    refine .value W ?_ (Below.refl _ _)
    generalize hA : (puts ds L _).eval = ρ
    have hc : ∀ v, ρ (.const v) = v := fun v => by rw [← hA]; rfl
    have h0 : ρ (.tmp 14) = .int .i64 r := by rw [← hA]; exact puts_get 4 ds L _ hap (by rw [hds]; rfl) (hd 4 (by decide +kernel) (by intro al hal; cases hal)) (show 14 < 27 by decide)
    clear hA hd hB ho hs ha hO
    unfold execOp
    go_simp
 case store =>
  intro st hst L W o h us ho hd hal hC b
  cases hst
 case fin =>
  intro hf W0 K
  rw [hds]
  clear hds hap ds hf CT CR
  (try dsimp only at K)
  simp only [List.set_cons_zero, List.set_cons_succ, puts, Act.put, List.setIfInBounds_toArray]
  have c2_0 := (K.at_ 2 rfl).at_ 0 _ rfl
  have f2_0 := (K.at_ 2 rfl).fr 0 _ rfl
  have c2_1 := (K.at_ 2 rfl).at_ 1 _ rfl
  have f2_1 := (K.at_ 2 rfl).fr 1 _ rfl
  have c2_2 := (K.at_ 2 rfl).at_ 2 _ rfl
  have f2_2 := (K.at_ 2 rfl).fr 2 _ rfl
  replace K := Lib.hid K
  go_wp2_with fail
  (try simp only [Exit.inBlock, Exit.then])
  refine bodyPost_ret (v := .tuple #[.agg #[.float .f64 0, .float .f64 0, .float .f64 0], .int .i64 r]) ?_ rfl ⟨rfl, ?_⟩
  · rw [results_cell_tmp rfl]; go_simp
  · exact (((K.out.old).setCell (by first | exact Nat.le_refl _ | omega | (dsimp only; omega)) _).setCell (by first | exact Nat.le_refl _ | omega | (dsimp only; omega)) _).setCell (by first | exact Nat.le_refl _ | omega | (dsimp only; omega)) _
noncomputable def plS (S : Sy) (i : Int) (d : Nat) : V3 × Int := if rdyS S i (witB g24 d) ≠ 0 then (z3, rdyS S i (witB g24 d)) else gath z3 (fun j => wayY S.fs (boAt S.bs j) d) addR (wayS S.bs S.bs.length i) z3
theorem yplace_run {S : Sy} (hW : SyW S) {M : List Bm} (hM : M.map Bm.b = S.bs) {fc bc : Nat} {fao bao : Option Addr} {w : World} {i : Int} {d : Nat} (hd : d < 18446744073709551616) (ha : SkAt w S fao bao M) :
 Calls Tryz.prog 13 #[.agg #[.float .f64 S.lt, .slice fao S.fs.length fc, .slice bao S.bs.length bc], .int .i64 i, .float .f64 d] w fun e w' => e = .returned (vecE (plS S i d).1 (plS S i d).2) ∧ Below w.heap.size w w' := by
 have CT : Hid (∀ W, Below w.heap.size w W → Calls Tryz.prog 31 #[.float .f64 d] W fun e w' => e = .returned (.bool (witB g24 d)) ∧ Below W.heap.size W w') := Lib.hid fun W _ => (ftime_run d hd W).mono fun e w' h => ⟨h.1, h.2 ▸ Below.refl _ _⟩
 have CR : Hid (∀ W, Below w.heap.size w W → Calls Tryz.prog 21 #[.agg #[.float .f64 S.lt, .slice fao S.fs.length fc, .slice bao S.bs.length bc], .int .i64 i, .bool (witB g24 d)] W fun e w' => e = .returned (.int .i64 (rdyS S i (witB g24 d))) ∧ Below W.heap.size W w') := Lib.hid fun W hb => yready_run hW hM i (witB g24 d) (ha.on hb)
 have hn : S.bs.length = M.length := by rw [← hM, List.length_map]
 have hMW : ∀ m ∈ M, BoW m.b := fun m hm => hW.bs _ (by rw [← hM]; exact List.mem_map_of_mem hm)
 unfold plS
 by_cases hr : rdyS S i (witB g24 d) ≠ 0
 · rw [if_pos hr]
   exact yp_no CT CR (by simpa using hr)
 rw [if_neg hr]
 have hr' : rdyS S i (witB g24 d) = 0 := by simpa using hr
 obtain ⟨c0, i0, i1, -⟩ := rdyS_zero hr'
 refine yp_ok CT CR hr' (Lib.hid fun W c1 c2 hb B1 B2 => ?_)
 have hA := ha.on hb
 refine ygatv_run hM (lower_of c0) hn (by omega) i1 hA.bs (fun j hj _ => ?_) (fun a b h g => (ans_add h g).w) (Lib.hid fun U hU j hj => ?_) (Lib.hid fun U a b h g => vadd_any h g U)
 · exact wayY_w hW.fs (by rw [← hM, bo_bm]; exact hMW _ (bm_mem hj)) hd
 · have hAU := hA.on hU
   have X1 := B1.on hU
   have X2 := B2.on hU
   rw [← hM, bo_bm]
   exact ypcl_run rfl (fao := fao) (fn := S.fs.length) (fc := fc) (d := d) (Lib.hid fun V hV => (X1.on hV).at_ 1 _ rfl) (Lib.hid fun V hV => (X2.on hV).at_ 0 _ rfl)
    (Lib.hid fun V hV => yway_run (hMW _ (bm_mem hj)) hW.fs hW.nf (RAt.on hAU.fs hV) ((hAU.bs.on hV).each _ (bm_mem hj)) hd)
end Go.Proofs.YtacinenddnfcbaaGreat

namespace Go.Proofs.YtacinenddnfcbaaGreat
open Go.ChangeShapes Go.WideShapes Go.ChangeAt Go.RowKit Go.Deep Ieee.Own

section
variable {H : Type} {enc : TypeId × Value → H}
theorem float_cell32 {P : Program} {w : World} {base : Nat} {spare : Nat → Bool} {held : Bool} {n : Nat} {e : TypeId} {v : Value} {x : DataW H × List MemPlace}
 (he : P.underlying e = some (.float .f32)) (h : DataW.trod enc P w base spare held n e [v] = some x) : ∃ b, v = .float .f32 b ∧ b < 4294967296 := by
 cases n with
 | zero => simp [DataW.trod] at h
 | succ n =>
   simp only [DataW.trod, he] at h
   cases v with
   | float k b =>
     cases k with
     | f32 => exact ⟨b, rfl, by
      by_cases hw : (Lit.float .f32 b).wf = true
      · simpa only [Lit.wf, decide_eq_true_eq] using hw
      · simp [hw] at h⟩
     | f64 => simp at h
   | _ => simp at h
def LD (p : DataW H) (L : List Nat) : Prop := (L = [] ∧ p = .nil) ∨ ∃ es sp, p = .slice es sp ∧ es.length = L.length
def TD (d : DataW H) (T : List (List (List Nat))) : Prop := (T = [] ∧ d = .nil) ∨ ∃ es sp, d = .slice es sp ∧ es.length = T.length ∧ ∀ i, i < T.length → ∃ p0 p1 p2, es[i]? = some (.agg [p0, p1, p2]) ∧ LD p0 (cfT T i 0) ∧ LD p1 (cfT T i 1) ∧ LD p2 (cfT T i 2)
theorem cells32 : Tryz.prog.cellsOf 169 = 1 := by kernel_rfl
theorem cellsFs : Tryz.prog.cellsOf 67 = 1 := by kernel_rfl
theorem cellsRw : Tryz.prog.cellsOf 68 = 3 := by kernel_rfl
theorem bytes32 : Tryz.prog.bytesOf 169 = 4 := by kernel_rfl
theorem bytesRw : Tryz.prog.bytesOf 68 = 72 := by kernel_rfl
theorem open_fs {W : World} {n : Nat} {c : Value} {y : DataW H × List MemPlace} (h : DataW.trod enc Tryz.prog W 0 (fun _ => true) true n 67 [c] = some y) : ∃ L, FsAt W c L ∧ Ws32 L ∧ LD y.1 L := by
 rcases open_slice1 Tryz.underlying67 cells32 h with ⟨h1, h2⟩ | ⟨a, len, cap, m, n, V, D, Pl, h1, hb, hl, hm, hmm, hx, hcell⟩
 · simp at h1
   subst h1
   refine ⟨[], ⟨none, 0, rfl, Nat.le_refl _, by decide, fun _ => rfl, fun j r hj => by simp at hj⟩, (fun x hx => (by cases hx)), .inl ⟨rfl, by rw [h2]⟩⟩
 · simp at h1
   subst h1
   simp only [if_true] at hmm
   subst hmm
   obtain ⟨F, hF⟩ := Deep.choose_lt (n := m) (p := fun i b => V i = .float .f32 b ∧ b < 4294967296) (fun i hi => float_cell32 Tryz.underlying169 (hcell i hi).2)
   have hl0 : ((List.range len).map F).length = len := by simp
   refine ⟨(List.range len).map F, ⟨some a, m, by rw [hl0], by rw [hl0]; exact hl, hm, (fun e => nomatch e), fun j r hj => ?_⟩, ?_, .inr ⟨(List.range len).map D, _, congrArg Prod.fst hx, by simp⟩⟩
   · have hjl : j < len := by have := (List.getElem?_eq_some_iff.1 hj).1; simpa using this
     have hr : r = fsC (F j) := by
        have e : (((List.range len).map F).map fsC)[j]? = some (fsC (F j)) := by simp [hjl]
        rw [e] at hj
        exact (Option.some.inj hj).symm
     subst hr
     have hc := (hcell j (by omega)).1
     obtain ⟨b, o, s⟩ := a
     have hsp : s = none := by simpa [Addr.add] using World.cell?_spot (hcell 0 (by omega)).1
     subst hsp
     rw [add_plain] at hc
     refine ⟨b, o, rfl, World.block_lt_of_cell? W _ hc, fun k u hu => ?_⟩
     have hk : k = 0 := by
        have := (List.getElem?_eq_some_iff.1 hu).1
        simp [fsC] at this
        exact this
     subst hk
     have hu' : u = .float .f32 (F j) := by simp [fsC] at hu; simpa using hu.symm
     subst hu'
     rw [Nat.mul_one, Nat.add_zero, hc, (hF j (by omega)).1]
   · intro x hx
     obtain ⟨i, hi, rfl⟩ := List.mem_map.1 hx
     exact (hF i (by simp at hi; omega)).2
theorem open_row {W : World} {n : Nat} {cs : List Value} {y : DataW H × List MemPlace} (hl : cs.length = 3) (h : DataW.trod enc Tryz.prog W 0 (fun _ => true) true n 68 cs = some y) :
 ∃ v0 v1 v2 L0 L1 L2 p0 p1 p2, cs = [v0, v1, v2] ∧ FsAt W v0 L0 ∧ FsAt W v1 L1 ∧ FsAt W v2 L2 ∧ Ws32 L0 ∧ Ws32 L1 ∧ Ws32 L2 ∧ y.1 = .agg [p0, p1, p2] ∧ LD p0 L0 ∧ LD p1 L1 ∧ LD p2 L2 := by
 obtain ⟨v0, v1, v2, rfl⟩ := list3 hl
 obtain ⟨xs, m, -, hx, -, hlen, hg⟩ := DataW.trod_array Tryz.underlying68 h
 rw [cellsFs] at hg
 match xs, hlen with
 | [y0, y1, y2], _ =>
   have g0 : DataW.trod enc Tryz.prog W 0 (fun _ => true) true m 67 [v0] = some y0 := by simpa using hg 0 (by omega)
   have g1 : DataW.trod enc Tryz.prog W 0 (fun _ => true) true m 67 [v1] = some y1 := by simpa using hg 1 (by omega)
   have g2 : DataW.trod enc Tryz.prog W 0 (fun _ => true) true m 67 [v2] = some y2 := by simpa using hg 2 (by omega)
   obtain ⟨L0, a0, b0, c0⟩ := open_fs g0
   obtain ⟨L1, a1, b1, c1⟩ := open_fs g1
   obtain ⟨L2, a2, b2, c2⟩ := open_fs g2
   exact ⟨v0, v1, v2, L0, L1, L2, y0.1, y1.1, y2.1, rfl, a0, a1, a2, b0, b1, b2, by rw [hx]; rfl, c0, c1, c2⟩
structure RwG (W : World) (cs : List Value) (d : DataW H) (r : List (List Nat)) : Prop where
 ex : ∃ v0 v1 v2 L0 L1 L2 p0 p1 p2, cs = [v0, v1, v2] ∧ r = [L0, L1, L2] ∧ FsAt W v0 L0 ∧ FsAt W v1 L1 ∧ FsAt W v2 L2 ∧ Ws32 L0 ∧ Ws32 L1 ∧ Ws32 L2 ∧ d = .agg [p0, p1, p2] ∧ LD p0 L0 ∧ LD p1 L1 ∧ LD p2 L2
theorem cf_map {n i k : Nat} {F : Nat → List (List Nat)} (hi : i < n) : cfT ((List.range n).map F) i k = (F i).getD k [] := by
 unfold cfT
 simp [List.getD, hi]
theorem cf_out {T : List (List (List Nat))} {i k : Nat} (hi : ¬ i < T.length) : cfT T i k = [] := by
 unfold cfT
 simp [List.getD, List.getElem?_eq_none (show T.length ≤ i by omega)]
theorem open_rws {W : World} {n : Nat} {c : Value} {y : DataW H × List MemPlace} (h : DataW.trod enc Tryz.prog W 0 (fun _ => true) true n 47 [c] = some y) :
 ∃ ao cap T, c = .slice ao (List.length T) cap ∧ T.length ≤ cap ∧ cap ≤ maxLen ∧ (ao = none → cap = 0) ∧ TbAt W ao T ∧ (∀ i k, Ws32 (cfT T i k)) ∧ TD y.1 T := by
 rcases open_slice Tryz.underlying47 h with ⟨h1, h2⟩ | ⟨a, len, cap, m, n, D, Pl, h1, hb, hl, hm, hmm, hx, hcell⟩
 · simp at h1
   subst h1
   exact ⟨none, 0, [], rfl, Nat.le_refl _, by decide, fun _ => rfl, fun i hi => by simp at hi, (fun i k => by rw [cf_out (by simp)]; exact fun x hx => (by cases hx)), .inl ⟨rfl, by rw [h2]⟩⟩
 · simp at h1
   subst h1
   simp only [if_true] at hmm
   subst hmm
   rw [cellsRw] at hcell
   obtain ⟨F, hF⟩ := Deep.choose_lt (n := m) (p := fun i (q : List Value × List (List Nat)) => W.cells? 0 (a.add (i * 3)) 3 = some q.1 ∧ RwG W q.1 (D i) q.2) (fun i hi => by
    obtain ⟨cs, h1, h2⟩ := hcell i hi
    have hl := (World.cells?_some h1).2.1
    obtain ⟨v0, v1, v2, L0, L1, L2, p0, p1, p2, e, a0, a1, a2, b0, b1, b2, ed, c0, c1, c2⟩ := open_row hl h2
    exact ⟨(cs, [L0, L1, L2]), h1, ⟨v0, v1, v2, L0, L1, L2, p0, p1, p2, e, rfl, a0, a1, a2, b0, b1, b2, ed, c0, c1, c2⟩⟩)
   have hl0 : ((List.range len).map fun i => (F i).2).length = len := by simp
   refine ⟨some a, m, (List.range len).map fun i => (F i).2, by rw [hl0], by rw [hl0]; exact hl, hm, (fun e => nomatch e), fun i hi => ?_, fun i k => ?_, .inr ⟨(List.range len).map D, _, congrArg Prod.fst hx, by simp, fun i hi => ?_⟩⟩
   · rw [hl0] at hi
     obtain ⟨h1, ⟨v0, v1, v2, L0, L1, L2, p0, p1, p2, e, er, a0, a1, a2, -⟩⟩ := hF i (by omega)
     rw [cf_map hi, cf_map hi, cf_map hi, er]
     rw [e] at h1
     obtain ⟨_, _, hat⟩ := World.cells?_some h1
     obtain ⟨b, o, s⟩ := a
     have hsp : s = none := by
        obtain ⟨g1, ⟨u0, u1, u2, -, -, -, -, -, -, e', -⟩⟩ := hF 0 (by omega)
        rw [e'] at g1
        obtain ⟨_, _, hat1⟩ := World.cells?_some g1
        have hc1 := hat1 0 (by omega)
        have hv1 : ([u0, u1, u2] : List Value)[0]? = some u0 := rfl
        rw [hv1] at hc1
        simpa [Addr.add] using World.cell?_spot hc1
     subst hsp
     have c0 := hat 0 (by omega)
     have c1 := hat 1 (by omega)
     have c2 := hat 2 (by omega)
     rw [ad_plainR, ad_plainR] at c0 c1 c2
     exact ⟨b, o, v0, v1, v2, rfl, World.block_lt_of_cell? W _ c0, c0, c1, c2, a0, a1, a2⟩
   · by_cases hi : i < len
     · obtain ⟨-, ⟨v0, v1, v2, L0, L1, L2, p0, p1, p2, e, er, -, -, -, b0, b1, b2, -⟩⟩ := hF i (by omega)
       rw [cf_map hi, er]
       match k with
       | 0 => exact b0
       | 1 => exact b1
       | 2 => exact b2
       | k + 3 => exact fun x hx => (by simp [List.getD] at hx)
     · rw [cf_out (by rw [hl0]; exact hi)]; exact fun x hx => (by cases hx)
   · rw [hl0] at hi
     obtain ⟨-, ⟨v0, v1, v2, L0, L1, L2, p0, p1, p2, e, er, -, -, -, -, -, -, ed, d0, d1, d2⟩⟩ := hF i (by omega)
     refine ⟨p0, p1, p2, by simp [hi, ed], ?_, ?_, ?_⟩
     · rw [cf_map hi, er]; exact d0
     · rw [cf_map hi, er]; exact d1
     · rw [cf_map hi, er]; exact d2
theorem mem_weights {P : Program} {e : TypeId} : ∀ {es : List (DataW H)} {i : Nat} {d : DataW H} {x : Nat}, es[i]? = some d → x ∈ d.weights P e → x ∈ DataW.weightsAll P e es
 | [], i, d, x, h, _ => by simp at h
 | d' :: es, 0, d, x, h, hx => by
   simp at h
   subst h
   simp only [DataW.weightsAll, List.mem_append]
   exact .inl hx
 | d' :: es, i + 1, d, x, h, hx => by
   simp only [DataW.weightsAll, List.mem_append]
   exact .inr (mem_weights (i := i) (by simpa using h) hx)
theorem ld_size {p : DataW H} {L : List Nat} (h : LD p L) (hs : ∀ x ∈ p.weights Tryz.prog 67, x ≤ reachBytes) : L.length * 4 ≤ 140737488351232 := by
 rcases h with ⟨rfl, -⟩ | ⟨es, sp, rfl, e⟩
 · simp
 · have := hs ((es.length + sp.length) * Tryz.prog.bytesOf 169) (by simp [DataW.weights, Tryz.underlying67])
   rw [bytes32] at this
   unfold reachBytes at this
   omega
theorem td_size {d : DataW H} {t : Tb} (h : TD d t.rows) (hs : ∀ x ∈ d.weights Tryz.prog 47, x ≤ reachBytes) : TbSz t := by
 rcases h with ⟨e, -⟩ | ⟨es, sp, rfl, e, hr⟩
 · exact ⟨by rw [e]; simp, fun i k _ => by rw [cf_out (by rw [e]; simp)]; simp⟩
 · have k := hs ((es.length + sp.length) * Tryz.prog.bytesOf 68) (by simp [DataW.weights, Tryz.underlying47])
   rw [bytesRw] at k
   unfold reachBytes at k
   refine ⟨by omega, fun i k hk => ?_⟩
   by_cases hi : i < t.rows.length
   · obtain ⟨p0, p1, p2, ei, l0, l1, l2⟩ := hr i hi
     have up : ∀ (j : Nat) (p : DataW H), [p0, p1, p2][j]? = some p → ∀ x ∈ p.weights Tryz.prog 67, x ≤ reachBytes := fun j p hj x hx => by
        refine hs x ?_
        have m1 : x ∈ (DataW.agg [p0, p1, p2]).weights Tryz.prog 68 := by
         simp only [DataW.weights, Tryz.underlying68]
         exact mem_weights hj hx
        have m2 := mem_weights (P := Tryz.prog) (e := 68) ei m1
        simp only [DataW.weights, Tryz.underlying47, List.mem_cons, List.mem_append]
        exact .inr (.inl m2)
     have hk3 : k = 0 ∨ k = 1 ∨ k = 2 := by omega
     rcases hk3 with rfl | rfl | rfl
     · exact ld_size l0 (up 0 _ rfl)
     · exact ld_size l1 (up 1 _ rfl)
     · exact ld_size l2 (up 2 _ rfl)
   · rw [cf_out hi]; simp
end
end Go.Proofs.YtacinenddnfcbaaGreat
