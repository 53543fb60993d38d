/- Proved here: what the texts Vme, Vmd, Vmf, Vmt, Vun, Sset, Thn, Sts, Usp, Upt, Ush, Uss, Usu, Ubs, Uwi, Upo, Urf, Upa, Usn, Uhf, Vbk, Vbl, Vbn, Hcb prove, one behind the other. -/
import Derived.Test.YtacinenddnfcbaaGreatJy7
import Derived.Test.YtacinenddnfcbaaGreatJy5
import Derived.Test.YtacinenddnfcbaaGreatJy6
import Derived.Test.YtacinenddnfcbaaGreatJy3
import Derived.BigQuiet
import Derived.Test.YtacinenddnfcbaaGreatJy4
import Derived.Deep.CutRange

set_option maxHeartbeats 4000000
set_option maxRecDepth 100000
namespace Go.Proofs.YtacinenddnfcbaaGreat
open Go.ChangeShapes Go.WideShapes Go.ChangeAt Go.RowKit Ieee.Own

theorem most60 : val 52 4877398396442247168 = 2 ^ 1134 := by decide +kernel
theorem vnB_small {x : Nat} (hx : FinW x) (f : fitB x = true) (h : (V x).natAbs ≤ 2 ^ 1134) : vnB x = true := by
 unfold vnB
 rw [decide_eq_true_eq]
 refine ⟨f, Nat.le_of_not_lt fun c => ?_⟩
 have := val_lt (F := 52) c
 rw [V_abs' x hx, ← most60] at h
 omega
theorem vnB_bW {x : Nat} (hx : FinW x) (h : (V x).natAbs ≤ 2 ^ 1134) : vnB (bW x) = true := by
 by_cases f : fitB x = true
 · have e : bW x = aX x 0 := by unfold bW; rw [if_neg (fun h => by rw [f] at h; cases h.1)]
   have p := plus0 hx
   rw [e, vnB_mag (mag_eq p.2.1 hx (by rw [p.2.2]))]
   exact vnB_small hx f h
 · by_cases m : x % 9223372036854775808 < 4607182418800017408
   · have e : bW x = 0 := by unfold bW; rw [if_pos ⟨Bool.eq_false_iff.2 f, m⟩]
     rw [e]; decide
   · exfalso
     refine f ((fit_iff hx).2 (.inr ?_))
     have a : 2 ^ 1074 ≤ (V x).natAbs := by
        rw [V_abs' x hx]
        have e : val 52 4607182418800017408 = 2 ^ 1074 := by decide +kernel
        rw [← e]
        by_cases q : x % 9223372036854775808 = 4607182418800017408
        · rw [q]; exact Nat.le_refl _
        · exact Nat.le_of_lt (val_lt (by omega))
     have b1 : leastV ≤ ((2 ^ 1074 : Nat) : Int) := by decide +kernel
     have b2 : ((2 ^ 1134 : Nat) : Int) ≤ mostV := by decide +kernel
     have a' : ((2 ^ 1074 : Nat) : Int) ≤ ((V x).natAbs : Int) := Int.ofNat_le.2 a
     have h' : ((V x).natAbs : Int) ≤ ((2 ^ 1134 : Nat) : Int) := Int.ofNat_le.2 h
     exact ⟨Int.le_trans b1 a', Int.le_trans h' b2⟩
theorem bW_fit {x : Nat} (hx : FinW x) (f : fitB x = true) : V (bW x) = V x := by
 unfold bW
 rw [if_neg (fun h => by rw [f] at h; cases h.1)]
 exact (plus0 hx).2.2

def bM (m : M9) : M9 := (bV m.1, bV m.2.1, bV m.2.2)
structure F9 (m : M9) : Prop where
 f1 : F3 m.1
 f2 : F3 m.2.1
 f3 : F3 m.2.2
theorem F9.w {m : M9} (h : F9 m) : W9 m := ⟨h.f1.w, h.f2.w, h.f3.w⟩
def toldM (m : M9) : M9 × Int := if fitM (bM m) = true then (bM m, 0) else (z9, 3)
theorem fitM_of {m : M9} (h : fitM m = true) : fitV m.1 = true ∧ fitV m.2.1 = true ∧ fitV m.2.2 = true := by
 unfold fitM at h
 simp only [Bool.and_eq_true] at h
 exact ⟨h.1.1, h.1.2, h.2⟩
theorem vtoldmat_any {m : M9} (h : F9 m) (w : World) : Calls Tryz.prog 237 #[matV m] w fun e w' => e = .returned (matE (toldM m).1 (toldM m).2) ∧ Below w.heap.size w w' := by
 have C1 := fun w => vtold_run h.f1 w
 have C2 := fun w => vtold_run h.f2 w
 have C3 := fun w => vtold_run h.f3 w
 have ok : ∀ {p : V3}, fitV (bV p) = true → toldR p = (bV p, 0) := fun h => if_pos h
 have no : ∀ {p : V3}, ¬ fitV (bV p) = true → toldR p = (z3, 3) := fun h => if_neg h
 by_cases h1 : fitV (bV m.1) = true
 · rw [ok h1] at C1
   by_cases h2 : fitV (bV m.2.1) = true
   · rw [ok h2] at C2
     by_cases h3 : fitV (bV m.2.2) = true
     · rw [ok h3] at C3
       have e : toldM m = (bM m, 0) := if_pos (by unfold fitM bM; rw [h1, h2, h3]; rfl)
       rw [e]
       exact vtoldmat_ok (Lib.hid C1) (Lib.hid C2) (Lib.hid C3) w
     · rw [no h3] at C3
       have e : toldM m = (z9, 3) := if_neg (fun q => h3 (fitM_of q).2.2)
       rw [e]
       exact vtoldmat_no2 (by decide) (Lib.hid C1) (Lib.hid C2) (Lib.hid C3) w
   · rw [no h2] at C2
     have e : toldM m = (z9, 3) := if_neg (fun q => h2 (fitM_of q).2.1)
     rw [e]
     exact vtoldmat_no1 (by decide) (Lib.hid C1) (Lib.hid C2) w
 · rw [no h1] at C1
   have e : toldM m = (z9, 3) := if_neg (fun q => h1 (fitM_of q).1)
   rw [e]
   exact vtoldmat_no0 (by decide) (Lib.hid C1) w

def applyR (m : M9) (v : V3) : V3 × Int := if (fitM m && fitV v) = true then toldR (dW m.1 v, dW m.2.1 v, dW m.2.2 v) else (z3, 3)
structure D9 (m : M9) : Prop where
 d1 : D3 m.1
 d2 : D3 m.2.1
 d3 : D3 m.2.2
theorem fitM_wd {m : M9} (h : W9 m) (f : fitM m = true) : D9 m := ⟨fitV_wd h.w1 (fitM_of f).1, fitV_wd h.w2 (fitM_of f).2.1, fitV_wd h.w3 (fitM_of f).2.2⟩
theorem vapply_any {m : M9} {v : V3} (hm : W9 m) (hv : W3 v) (w : World) : Calls Tryz.prog 182 #[matV m, vecV v] w fun e w' => e = .returned (vecE (applyR m v).1 (applyR m v).2) ∧ Below w.heap.size w w' := by
 have C1 := fun w => vfitmat_run hm w
 have C2 := fun w => vfit_run hv w
 by_cases h1 : fitM m = true
 · rw [h1] at C1
   by_cases h2 : fitV v = true
   · rw [h2] at C2
     have e : applyR m v = toldR (dW m.1 v, dW m.2.1 v, dW m.2.2 v) := if_pos (by rw [h1, h2]; rfl)
     rw [e]
     have D := fitM_wd hm h1
     have E := (fitV_wd hv h2).bd
     have o1 := dot_ok D.d1.bd E
     have o2 := dot_ok D.d2.bd E
     have o3 := dot_ok D.d3.bd E
     have C4 := fun w => vtold_run (p := (dW m.1 v, dW m.2.1 v, dW m.2.2 v)) ⟨o1.fin, o2.fin, o3.fin⟩ w
     have P1 := fun w => vprod_run o1 w
     have P2 := fun w => vprod_run o2 w
     have P3 := fun w => vprod_run o3 w
     exact vapply_ok (Lib.hid C1) (Lib.hid C2) (Lib.hid fun w => vprods_ok (Lib.hid P1) (Lib.hid P2) (Lib.hid P3) w) (Lib.hid C4) w
   · rw [Bool.eq_false_iff.2 h2] at C2
     have e : applyR m v = (z3, 3) := if_neg (by rw [Bool.eq_false_iff.2 h2]; simp)
     rw [e]
     exact vapply_nv (Lib.hid C1) (Lib.hid C2) w
 · rw [Bool.eq_false_iff.2 h1] at C1
   have e : applyR m v = (z3, 3) := if_neg (by rw [Bool.eq_false_iff.2 h1]; simp)
   rw [e]
   exact vapply_nm (Lib.hid C1) w
theorem D3.f {p : V3} (h : D3 p) : F3 p := ⟨h.w1.fin, h.w2.fin, h.w3.fin⟩
theorem D9.f {m : M9} (h : D9 m) : F9 m := ⟨h.d1.f, h.d2.f, h.d3.f⟩
end Go.Proofs.YtacinenddnfcbaaGreat

namespace Go.Proofs.YtacinenddnfcbaaGreat
open Go.ChangeShapes Go.WideShapes Go.ChangeAt Go.RowKit Ieee.Own

theorem vaxis_run (a : Int) (w : World) : Calls Tryz.prog 216 #[.int .i64 a] w fun e w' => e = .returned (.bool (decide (0 ≤ a ∧ a ≤ 2))) ∧ Below w.heap.size w w' := by
 by_cases h1 : 0 ≤ a
 · have t1 : decide (0 ≤ a) = true := decide_eq_true h1
   by_cases h2 : a ≤ 2
   · have t2 : decide (a ≤ 2) = true := decide_eq_true h2
     rw [decide_eq_true (show 0 ≤ a ∧ a ≤ 2 from ⟨h1, h2⟩)]
     clear h1 h2
     go_enter Tryz.func216, Tryz.ntmps216
     go_wp2_with fail
     go_ret
     exact ⟨rfl, Below.refl _ w⟩
   · have t2 : decide (a ≤ 2) = false := decide_eq_false h2
     rw [decide_eq_false (show ¬ (0 ≤ a ∧ a ≤ 2) from fun h => h2 h.2)]
     clear h1 h2
     go_enter Tryz.func216, Tryz.ntmps216
     go_wp2_with fail
     go_ret
     exact ⟨rfl, Below.refl _ w⟩
 · have t1 : decide (0 ≤ a) = false := decide_eq_false h1
   rw [decide_eq_false (show ¬ (0 ≤ a ∧ a ≤ 2) from fun h => h1 h.1)]
   clear h1
   go_enter Tryz.func216, Tryz.ntmps216
   go_wp2_with fail
   go_ret
   exact ⟨rfl, Below.refl _ w⟩
theorem vturned_ok0 {x s c n y0 y1 y2 y3 y4 y5 y6 y7 y8 : Nat} {k : Int} (C1 : Hid (∀ w, Calls Tryz.prog 216 #[.int .i64 0] w fun e w' => e = .returned (.bool true) ∧ Below w.heap.size w w')) (C2 : Hid (∀ w, Calls Tryz.prog 104 #[.float .f64 x] w fun e w' => e = .returned (.tuple #[.float .f64 s, .float .f64 c, .int .i64 0]) ∧ Below w.heap.size w w')) (N : ∀ w, (Op.unary .neg (.float .f64 s)).run Tryz.prog w = .ok (.float .f64 n) w) (C3 : Hid (∀ w, Calls Tryz.prog 237 #[.agg #[.float .f64 4607182418800017408, .float .f64 0, .float .f64 0, .float .f64 0, .float .f64 c, .float .f64 n, .float .f64 0, .float .f64 s, .float .f64 c]] w fun e w' => e = .returned (.tuple #[.agg #[.float .f64 y0, .float .f64 y1, .float .f64 y2, .float .f64 y3, .float .f64 y4, .float .f64 y5, .float .f64 y6, .float .f64 y7, .float .f64 y8], .int .i64 k]) ∧ Below w.heap.size w w')) (w : World) : Calls Tryz.prog 181 #[.int .i64 0, .float .f64 x] w fun e w' => e = .returned (.tuple #[.agg #[.float .f64 y0, .float .f64 y1, .float .f64 y2, .float .f64 y3, .float .f64 y4, .float .f64 y5, .float .f64 y6, .float .f64 y7, .float .f64 y8], .int .i64 k]) ∧ Below w.heap.size w w' := by
 have K0 := kw1 w 144 [0, 0, 0, 0, 0, 0, 0, 0, 0]
 simp only [objW, List.map_cons, List.map_nil] at K0
 have hst := @fstore
 replace K0 := Lib.hid K0
 go_enter Tryz.func181, Tryz.ntmps181
 go_wp2_with fail
 have K := K0.out
 clear K0
 generalize w.alloc _ = wr at *
 refine (C1.out wr).mono ?_
 rintro _ v1 ⟨rfl, hb⟩
 replace K := K.on hb
 clear hb
 replace K := Lib.hid K
 go_wp2_with fail
 replace K := K.out
 refine (C2.out v1).mono ?_
 rintro _ v2 ⟨rfl, hb⟩
 replace K := K.on hb
 clear hb
 replace K := Lib.hid K
 go_wp2_with fail
 replace K := K.out
 refine (C3.out _).mono ?_
 rintro _ v3 ⟨rfl, hb⟩
 have K := (K.new 144 [4607182418800017408, 0, 0, 0, c, n, 0, s, c]).on hb
 simp only [List.cons_append, List.nil_append] at K
 clear hb C1 C2 C3 N
 have c0_0 := (K.at_ 0 rfl).at_ 0 _ rfl
 have f0_0 := (K.at_ 0 rfl).fr 0 _ rfl
 have c0_1 := (K.at_ 0 rfl).at_ 1 _ rfl
 have f0_1 := (K.at_ 0 rfl).fr 1 _ rfl
 have c0_2 := (K.at_ 0 rfl).at_ 2 _ rfl
 have f0_2 := (K.at_ 0 rfl).fr 2 _ rfl
 have c0_3 := (K.at_ 0 rfl).at_ 3 _ rfl
 have f0_3 := (K.at_ 0 rfl).fr 3 _ rfl
 have c0_4 := (K.at_ 0 rfl).at_ 4 _ rfl
 have f0_4 := (K.at_ 0 rfl).fr 4 _ rfl
 have c0_5 := (K.at_ 0 rfl).at_ 5 _ rfl
 have f0_5 := (K.at_ 0 rfl).fr 5 _ rfl
 have c0_6 := (K.at_ 0 rfl).at_ 6 _ rfl
 have f0_6 := (K.at_ 0 rfl).fr 6 _ rfl
 have c0_7 := (K.at_ 0 rfl).at_ 7 _ rfl
 have f0_7 := (K.at_ 0 rfl).fr 7 _ rfl
 have c0_8 := (K.at_ 0 rfl).at_ 8 _ rfl
 have f0_8 := (K.at_ 0 rfl).fr 8 _ rfl
 replace K := Lib.hid K
 go_wp2_with fail
 replace K := K.out
 (try simp only [Exit.vnBlock, Exit.then])
 refine bodyPost_ret (v := .tuple #[.agg #[.float .f64 y0, .float .f64 y1, .float .f64 y2, .float .f64 y3, .float .f64 y4, .float .f64 y5, .float .f64 y6, .float .f64 y7, .float .f64 y8], .int .i64 k]) ?_ rfl ⟨rfl, ?_⟩
 · rw [results_cell_tmp rfl]; go_simp
 · exact (((((((((K.old).setCell (by first | exact Nat.le_refl _ | (dsimp only; omega)) _).setCell (by first | exact Nat.le_refl _ | (dsimp only; omega)) _).setCell (by first | exact Nat.le_refl _ | (dsimp only; omega)) _).setCell (by first | exact Nat.le_refl _ | (dsimp only; omega)) _).setCell (by first | exact Nat.le_refl _ | (dsimp only; omega)) _).setCell (by first | exact Nat.le_refl _ | (dsimp only; omega)) _).setCell (by first | exact Nat.le_refl _ | (dsimp only; omega)) _).setCell (by first | exact Nat.le_refl _ | (dsimp only; omega)) _).setCell (by first | exact Nat.le_refl _ | (dsimp only; omega)) _
theorem vturned_ok1 {x s c n y0 y1 y2 y3 y4 y5 y6 y7 y8 : Nat} {k : Int} (C1 : Hid (∀ w, Calls Tryz.prog 216 #[.int .i64 1] w fun e w' => e = .returned (.bool true) ∧ Below w.heap.size w w')) (C2 : Hid (∀ w, Calls Tryz.prog 104 #[.float .f64 x] w fun e w' => e = .returned (.tuple #[.float .f64 s, .float .f64 c, .int .i64 0]) ∧ Below w.heap.size w w')) (N : ∀ w, (Op.unary .neg (.float .f64 s)).run Tryz.prog w = .ok (.float .f64 n) w) (C3 : Hid (∀ w, Calls Tryz.prog 237 #[.agg #[.float .f64 c, .float .f64 0, .float .f64 s, .float .f64 0, .float .f64 4607182418800017408, .float .f64 0, .float .f64 n, .float .f64 0, .float .f64 c]] w fun e w' => e = .returned (.tuple #[.agg #[.float .f64 y0, .float .f64 y1, .float .f64 y2, .float .f64 y3, .float .f64 y4, .float .f64 y5, .float .f64 y6, .float .f64 y7, .float .f64 y8], .int .i64 k]) ∧ Below w.heap.size w w')) (w : World) : Calls Tryz.prog 181 #[.int .i64 1, .float .f64 x] w fun e w' => e = .returned (.tuple #[.agg #[.float .f64 y0, .float .f64 y1, .float .f64 y2, .float .f64 y3, .float .f64 y4, .float .f64 y5, .float .f64 y6, .float .f64 y7, .float .f64 y8], .int .i64 k]) ∧ Below w.heap.size w w' := by
 have K0 := kw1 w 144 [0, 0, 0, 0, 0, 0, 0, 0, 0]
 simp only [objW, List.map_cons, List.map_nil] at K0
 have hst := @fstore
 replace K0 := Lib.hid K0
 go_enter Tryz.func181, Tryz.ntmps181
 go_wp2_with fail
 have K := K0.out
 clear K0
 generalize w.alloc _ = wr at *
 refine (C1.out wr).mono ?_
 rintro _ v1 ⟨rfl, hb⟩
 replace K := K.on hb
 clear hb
 replace K := Lib.hid K
 go_wp2_with fail
 replace K := K.out
 refine (C2.out v1).mono ?_
 rintro _ v2 ⟨rfl, hb⟩
 replace K := K.on hb
 clear hb
 replace K := Lib.hid K
 go_wp2_with fail
 replace K := K.out
 refine (C3.out _).mono ?_
 rintro _ v3 ⟨rfl, hb⟩
 have K := (K.new 144 [c, 0, s, 0, 4607182418800017408, 0, n, 0, c]).on hb
 simp only [List.cons_append, List.nil_append] at K
 clear hb C1 C2 C3 N
 have c0_0 := (K.at_ 0 rfl).at_ 0 _ rfl
 have f0_0 := (K.at_ 0 rfl).fr 0 _ rfl
 have c0_1 := (K.at_ 0 rfl).at_ 1 _ rfl
 have f0_1 := (K.at_ 0 rfl).fr 1 _ rfl
 have c0_2 := (K.at_ 0 rfl).at_ 2 _ rfl
 have f0_2 := (K.at_ 0 rfl).fr 2 _ rfl
 have c0_3 := (K.at_ 0 rfl).at_ 3 _ rfl
 have f0_3 := (K.at_ 0 rfl).fr 3 _ rfl
 have c0_4 := (K.at_ 0 rfl).at_ 4 _ rfl
 have f0_4 := (K.at_ 0 rfl).fr 4 _ rfl
 have c0_5 := (K.at_ 0 rfl).at_ 5 _ rfl
 have f0_5 := (K.at_ 0 rfl).fr 5 _ rfl
 have c0_6 := (K.at_ 0 rfl).at_ 6 _ rfl
 have f0_6 := (K.at_ 0 rfl).fr 6 _ rfl
 have c0_7 := (K.at_ 0 rfl).at_ 7 _ rfl
 have f0_7 := (K.at_ 0 rfl).fr 7 _ rfl
 have c0_8 := (K.at_ 0 rfl).at_ 8 _ rfl
 have f0_8 := (K.at_ 0 rfl).fr 8 _ rfl
 replace K := Lib.hid K
 go_wp2_with fail
 replace K := K.out
 (try simp only [Exit.vnBlock, Exit.then])
 refine bodyPost_ret (v := .tuple #[.agg #[.float .f64 y0, .float .f64 y1, .float .f64 y2, .float .f64 y3, .float .f64 y4, .float .f64 y5, .float .f64 y6, .float .f64 y7, .float .f64 y8], .int .i64 k]) ?_ rfl ⟨rfl, ?_⟩
 · rw [results_cell_tmp rfl]; go_simp
 · exact (((((((((K.old).setCell (by first | exact Nat.le_refl _ | (dsimp only; omega)) _).setCell (by first | exact Nat.le_refl _ | (dsimp only; omega)) _).setCell (by first | exact Nat.le_refl _ | (dsimp only; omega)) _).setCell (by first | exact Nat.le_refl _ | (dsimp only; omega)) _).setCell (by first | exact Nat.le_refl _ | (dsimp only; omega)) _).setCell (by first | exact Nat.le_refl _ | (dsimp only; omega)) _).setCell (by first | exact Nat.le_refl _ | (dsimp only; omega)) _).setCell (by first | exact Nat.le_refl _ | (dsimp only; omega)) _).setCell (by first | exact Nat.le_refl _ | (dsimp only; omega)) _
theorem vturned_ok2 {x s c n y0 y1 y2 y3 y4 y5 y6 y7 y8 : Nat} {k : Int} (C1 : Hid (∀ w, Calls Tryz.prog 216 #[.int .i64 2] w fun e w' => e = .returned (.bool true) ∧ Below w.heap.size w w')) (C2 : Hid (∀ w, Calls Tryz.prog 104 #[.float .f64 x] w fun e w' => e = .returned (.tuple #[.float .f64 s, .float .f64 c, .int .i64 0]) ∧ Below w.heap.size w w')) (N : ∀ w, (Op.unary .neg (.float .f64 s)).run Tryz.prog w = .ok (.float .f64 n) w) (C3 : Hid (∀ w, Calls Tryz.prog 237 #[.agg #[.float .f64 c, .float .f64 n, .float .f64 0, .float .f64 s, .float .f64 c, .float .f64 0, .float .f64 0, .float .f64 0, .float .f64 4607182418800017408]] w fun e w' => e = .returned (.tuple #[.agg #[.float .f64 y0, .float .f64 y1, .float .f64 y2, .float .f64 y3, .float .f64 y4, .float .f64 y5, .float .f64 y6, .float .f64 y7, .float .f64 y8], .int .i64 k]) ∧ Below w.heap.size w w')) (w : World) : Calls Tryz.prog 181 #[.int .i64 2, .float .f64 x] w fun e w' => e = .returned (.tuple #[.agg #[.float .f64 y0, .float .f64 y1, .float .f64 y2, .float .f64 y3, .float .f64 y4, .float .f64 y5, .float .f64 y6, .float .f64 y7, .float .f64 y8], .int .i64 k]) ∧ Below w.heap.size w w' := by
 have K0 := kw1 w 144 [0, 0, 0, 0, 0, 0, 0, 0, 0]
 simp only [objW, List.map_cons, List.map_nil] at K0
 have hst := @fstore
 replace K0 := Lib.hid K0
 go_enter Tryz.func181, Tryz.ntmps181
 go_wp2_with fail
 have K := K0.out
 clear K0
 generalize w.alloc _ = wr at *
 refine (C1.out wr).mono ?_
 rintro _ v1 ⟨rfl, hb⟩
 replace K := K.on hb
 clear hb
 replace K := Lib.hid K
 go_wp2_with fail
 replace K := K.out
 refine (C2.out v1).mono ?_
 rintro _ v2 ⟨rfl, hb⟩
 replace K := K.on hb
 clear hb
 replace K := Lib.hid K
 go_wp2_with fail
 replace K := K.out
 refine (C3.out _).mono ?_
 rintro _ v3 ⟨rfl, hb⟩
 have K := (K.new 144 [c, n, 0, s, c, 0, 0, 0, 4607182418800017408]).on hb
 simp only [List.cons_append, List.nil_append] at K
 clear hb C1 C2 C3 N
 have c0_0 := (K.at_ 0 rfl).at_ 0 _ rfl
 have f0_0 := (K.at_ 0 rfl).fr 0 _ rfl
 have c0_1 := (K.at_ 0 rfl).at_ 1 _ rfl
 have f0_1 := (K.at_ 0 rfl).fr 1 _ rfl
 have c0_2 := (K.at_ 0 rfl).at_ 2 _ rfl
 have f0_2 := (K.at_ 0 rfl).fr 2 _ rfl
 have c0_3 := (K.at_ 0 rfl).at_ 3 _ rfl
 have f0_3 := (K.at_ 0 rfl).fr 3 _ rfl
 have c0_4 := (K.at_ 0 rfl).at_ 4 _ rfl
 have f0_4 := (K.at_ 0 rfl).fr 4 _ rfl
 have c0_5 := (K.at_ 0 rfl).at_ 5 _ rfl
 have f0_5 := (K.at_ 0 rfl).fr 5 _ rfl
 have c0_6 := (K.at_ 0 rfl).at_ 6 _ rfl
 have f0_6 := (K.at_ 0 rfl).fr 6 _ rfl
 have c0_7 := (K.at_ 0 rfl).at_ 7 _ rfl
 have f0_7 := (K.at_ 0 rfl).fr 7 _ rfl
 have c0_8 := (K.at_ 0 rfl).at_ 8 _ rfl
 have f0_8 := (K.at_ 0 rfl).fr 8 _ rfl
 replace K := Lib.hid K
 go_wp2_with fail
 replace K := K.out
 (try simp only [Exit.vnBlock, Exit.then])
 refine bodyPost_ret (v := .tuple #[.agg #[.float .f64 y0, .float .f64 y1, .float .f64 y2, .float .f64 y3, .float .f64 y4, .float .f64 y5, .float .f64 y6, .float .f64 y7, .float .f64 y8], .int .i64 k]) ?_ rfl ⟨rfl, ?_⟩
 · rw [results_cell_tmp rfl]; go_simp
 · exact (((((((((K.old).setCell (by first | exact Nat.le_refl _ | (dsimp only; omega)) _).setCell (by first | exact Nat.le_refl _ | (dsimp only; omega)) _).setCell (by first | exact Nat.le_refl _ | (dsimp only; omega)) _).setCell (by first | exact Nat.le_refl _ | (dsimp only; omega)) _).setCell (by first | exact Nat.le_refl _ | (dsimp only; omega)) _).setCell (by first | exact Nat.le_refl _ | (dsimp only; omega)) _).setCell (by first | exact Nat.le_refl _ | (dsimp only; omega)) _).setCell (by first | exact Nat.le_refl _ | (dsimp only; omega)) _).setCell (by first | exact Nat.le_refl _ | (dsimp only; omega)) _
end Go.Proofs.YtacinenddnfcbaaGreat

namespace Go.Proofs.YtacinenddnfcbaaGreat
open Go.ChangeShapes Go.WideShapes Go.ChangeAt Go.RowKit Ieee.Own

theorem trig_abs7 {x s c : Nat} (A : Ang x) (T : Trig x s c) : (V s).natAbs ≤ 2 ^ 1100 ∧ (V c).natAbs ≤ 2 ^ 1100 := by
 obtain ⟨r, R, a, b⟩ := T.ex
 have N := (R.rest A).near
 have x1 := abs_up (k := 1075) (l := 1100) N.sw.abs (by omega)
 have x2 := abs_up (k := 1075) (l := 1100) N.cw.abs (by omega)
 generalize V (sinX r) = S at *
 generalize V (cosX r) = C at *
 have key : ∀ k, (vq k S C).natAbs ≤ 2 ^ 1100 := fun k => by
  unfold vq
  split
  · exact x1
  · split
    · exact x2
    · split
      · rw [Int.natAbs_neg]; exact x1
      · rw [Int.natAbs_neg]; exact x2
 rw [a, b]; exact ⟨key _, key _⟩
def tM (a : Int) (s c n : Nat) : M9 := if a = 0 then ((oneW, 0, 0), (0, c, n), (0, s, c)) else if a = 1 then ((c, 0, s), (0, oneW, 0), (n, 0, c)) else ((c, n, 0), (s, c, 0), (0, 0, oneW))
theorem trig_ok {x s c : Nat} (A : Ang x) (T : Trig x s c) : (FinW s ∧ vnB (bW s) = true) ∧ (FinW c ∧ vnB (bW c) = true) ∧ (FinW (negW s) ∧ vnB (bW (negW s)) = true ∧ bW (negW s) = negN (bW s)) := by
 obtain ⟨b1, b2⟩ := trig_abs7 A T
 have f1 := T.sz.fin
 have f2 := T.cz.fin
 have f3 := negW_fin f1
 have v := negW_V f1
 refine ⟨⟨f1, vnB_bW f1 (abs_up (k := 1100) (l := 1134) b1 (by omega))⟩, ⟨f2, vnB_bW f2 (abs_up (k := 1100) (l := 1134) b2 (by omega))⟩, f3, vnB_bW f3 (abs_up (k := 1100) (l := 1134) (by rw [v, Int.natAbs_neg]; exact b1) (by omega)), ?_⟩
 obtain ⟨-, nz, nv⟩ := negN_spec (bW_nz f1).fin
 exact (bW_nz f3).uniq nz (by rw [nv, bW_opp f1 f3 v])
theorem one_fin7 : FinW oneW := by unfold FinW oneW; omega
theorem bW_one : bW oneW = oneW := by decide +kernel
theorem bW_zero : bW 0 = 0 := by decide +kernel
theorem in_one : vnB oneW = true := by decide +kernel
theorem in_zero : vnB 0 = true := by decide +kernel
theorem turned_told {x s c : Nat} (A : Ang x) (T : Trig x s c) (a : Int) : F9 (tM a s c (negW s)) ∧ toldM (tM a s c (negW s)) = (tM a (bW s) (bW c) (negN (bW s)), 0) := by
 obtain ⟨⟨f1, i1⟩, ⟨f2, i2⟩, f3, i3, e3⟩ := trig_ok A T
 have o := one_fin7
 have z := zero_fin
 have key : ∀ m : M9, fitM (bM m) = true → toldM m = (bM m, 0) := fun m h => if_pos h
 rw [e3] at i3
 unfold tM
 split
 · refine ⟨⟨⟨o, z, z⟩, ⟨z, f2, f3⟩, ⟨z, f1, f2⟩⟩, ?_⟩
   rw [key]
   · unfold bM bV; dsimp only; rw [bW_one, bW_zero, e3]
   · unfold fitM bM bV fitV; dsimp only; rw [bW_one, bW_zero, e3, in_one, in_zero, i1, i2, i3]; rfl
 · split
   · refine ⟨⟨⟨f2, z, f1⟩, ⟨z, o, z⟩, ⟨f3, z, f2⟩⟩, ?_⟩
     rw [key]
     · unfold bM bV; dsimp only; rw [bW_one, bW_zero, e3]
     · unfold fitM bM bV fitV; dsimp only; rw [bW_one, bW_zero, e3, in_one, in_zero, i1, i2, i3]; rfl
   · refine ⟨⟨⟨f2, f3, z⟩, ⟨f1, f2, z⟩, ⟨z, z, o⟩⟩, ?_⟩
     rw [key]
     · unfold bM bV; dsimp only; rw [bW_one, bW_zero, e3]
     · unfold fitM bM bV fitV; dsimp only; rw [bW_one, bW_zero, e3, in_one, in_zero, i1, i2, i3]; rfl
theorem vec_cells {H : Type} {enc : TypeId × Value → H} {W : World} {base : Nat} {spare : Nat → Bool} {held : Bool} {n : Nat} {c0 c1 c2 : Value} {y : DataW H × List MemPlace}
 (h : DataW.trod enc Tryz.prog W base spare held n 41 [c0, c1, c2] = some y) : ∃ a : V3, c0 = .float .f64 a.1 ∧ c1 = .float .f64 a.2.1 ∧ c2 = .float .f64 a.2.2 ∧ W3 a := by
 obtain ⟨y0, y1, y2, m, -, -, h0, h1, h2⟩ := Go.Deep.trod_struct3 Tryz.underlying41 h
 obtain ⟨a, rfl, ha⟩ := float_cell Tryz.underlying22 h0
 obtain ⟨b, rfl, hb⟩ := float_cell Tryz.underlying22 h1
 obtain ⟨c, rfl, hc⟩ := float_cell Tryz.underlying22 h2
 exact ⟨(a, b, c), rfl, rfl, rfl, ha, hb, hc⟩
end Go.Proofs.YtacinenddnfcbaaGreat

namespace Pol
open Go.Proofs.YtacinenddnfcbaaGreat

end Pol

namespace Go.Proofs.YtacinenddnfcbaaGreat
open Ieee.Own Pol

def kk : Rat := 1 / unit / unit
theorem kk0 : 0 ≤ kk := by decide +kernel
theorem kk_of (x : Rat) : x / unit / unit = x * kk := by
 unfold kk
 simp only [Rat.div_def]
 grind
theorem rel_rat {x y : Int} {c : Nat} (h : c * (x - y).natAbs ≤ x.natAbs) : ((c : Int) : Rat) * mag ((x : Rat) * kk - (y : Rat) * kk) ≤ mag ((x : Rat) * kk) := by
 have k0 := kk0
 have key : ∀ {a b : Int} , (c : Int) * a ≤ b → ((c : Int) : Rat) * ((a : Rat) * kk) ≤ (b : Rat) * kk := fun {a b} h => by
  have h1 : (((c : Int) * a : Int) : Rat) ≤ (b : Rat) := Rat.intCast_le_intCast.2 h
  rw [Rat.intCast_mul] at h1
  have h2 := Rat.mul_le_mul_of_nonneg_right h1 k0
  have e : ((c : Int) : Rat) * (a : Rat) * kk = ((c : Int) : Rat) * ((a : Rat) * kk) := Rat.mul_assoc _ _ _
  rwa [e] at h2
 have i1 : (c : Int) * (x - y) ≤ (x.natAbs : Int) := by
  have a : ((c * (x - y).natAbs : Nat) : Int) ≤ (x.natAbs : Int) := by exact_mod_cast h
  rw [Int.natCast_mul] at a
  have b : (c : Int) * (x - y) ≤ (c : Int) * ((x - y).natAbs : Int) := Int.mul_le_mul_of_nonneg_left (by omega) (by omega)
  omega
 have i2 : (c : Int) * (y - x) ≤ (x.natAbs : Int) := by
  have a : ((c * (x - y).natAbs : Nat) : Int) ≤ (x.natAbs : Int) := by exact_mod_cast h
  rw [Int.natCast_mul] at a
  have b : (c : Int) * (y - x) ≤ (c : Int) * ((x - y).natAbs : Int) := Int.mul_le_mul_of_nonneg_left (by omega) (by omega)
  omega
 have j1 := key i1
 have j2 := key i2
 have s1 : ((x - y : Int) : Rat) = (x : Rat) - (y : Rat) := Rat.intCast_sub _ _
 have s2 : ((y - x : Int) : Rat) = (y : Rat) - (x : Rat) := Rat.intCast_sub _ _
 rw [s1] at j1
 rw [s2] at j2
 have n1 : ((x.natAbs : Int) : Rat) * kk ≤ mag ((x : Rat) * kk) := by
  have m := mag_le ((x : Rat) * kk)
  rcases Int.le_total 0 x with q | q
  · rw [show ((x.natAbs : Int)) = x by omega]; exact m.2.1
  · rw [show ((x.natAbs : Int)) = -x by omega, Rat.intCast_neg]
    have : -(x : Rat) * kk = -((x : Rat) * kk) := by grind
    rw [this]; grind
 have c0 : (0 : Rat) ≤ ((c : Int) : Rat) := Rat.intCast_nonneg.2 (by omega)
 generalize mag ((x : Rat) * kk) = M at *
 generalize ((c : Int) : Rat) = C at *
 have e1 : ((x : Rat) - (y : Rat)) * kk = (x : Rat) * kk - (y : Rat) * kk := by grind
 have e2 : ((y : Rat) - (x : Rat)) * kk = -((x : Rat) * kk - (y : Rat) * kk) := by grind
 rw [e1] at j1
 rw [e2] at j2
 generalize (x : Rat) * kk - (y : Rat) * kk = d at *
 unfold mag
 split
 · grind
 · grind
theorem one_unit (a : Nat) : Q a = ((V a * 2 ^ 1074 : Int) : Rat) * kk := by
 rw [Rat.intCast_mul, unit_cast, ← kk_of]
 have : (V a : Rat) * unit / unit = V a := unit_div
 rw [this]; rfl
theorem c53 : (((2 ^ 53 : Nat) : Int) : Rat) * uR = 1 := by decide +kernel
theorem c52 : (((2 ^ 52 : Nat) : Int) : Rat) * (2 * uR) = 1 := by decide +kernel
theorem by_c {c u X Y : Rat} (h : c * X ≤ Y) (e : c * u = 1) (u0 : 0 ≤ u) : X ≤ u * Y := by
 have := Rat.mul_le_mul_of_nonneg_left h u0
 have e' : u * (c * X) = c * u * X := by grind
 rw [e', e] at this
 grind
theorem quo_rat {a n : Nat} (h : 2 ^ 53 * (V (qX a n) * V n - V a * 2 ^ 1074).natAbs ≤ (V (qX a n) * V n).natAbs) : mag (Q (qX a n) * Q n - Q a) ≤ uR * mag (Q (qX a n) * Q n) := by
 have := rel_rat h
 rw [← one_unit, ← kk_of, ← Q_times] at this
 exact by_c this c53 uR0
theorem nrm_rat {D r : Nat} (N : Nrm D r) (h : V D ≠ 0) : 0 < Q r ∧ mag (Q r * Q r - Q D) ≤ 2 * uR * (Q r * Q r) := by
 obtain ⟨p, e, -⟩ := N.pos h
 have q0 : 0 < Q r := by
  have : (V 0) < V r := by rw [V_zero]; exact p
  have z : Q 0 = 0 := by decide +kernel
  rw [← z]; exact Q_lt.2 this
 have := rel_rat e
 rw [← one_unit, ← kk_of, ← Q_times] at this
 have m : mag (Q r * Q r) = Q r * Q r := by
  have := Rat.mul_nonneg (Rat.le_of_lt q0) (Rat.le_of_lt q0)
  unfold mag; rw [if_pos this]
 rw [m] at this
 exact ⟨q0, by_c this c52 (by decide +kernel)⟩

theorem sq0 (x : Rat) : 0 ≤ x * x := by
 rcases (Rat.le_total : 0 ≤ x ∨ x ≤ 0) with h | h
 · exact Rat.mul_nonneg h h
 · have := Rat.mul_nonneg (show 0 ≤ -x by grind) (show 0 ≤ -x by grind)
   grind
def sm : Rat := mkRat 1 (2^200)
theorem sm0 : 0 ≤ sm := by decide +kernel
theorem Q_mag {x : Nat} {n : Nat} (h : (V x).natAbs ≤ n) : mag (Q x) ≤ ((n : Int) : Rat) / unit := by
 have a : V x ≤ (n : Int) := by omega
 have b : -(n : Int) ≤ V x := by omega
 have a' := div_le (Rat.intCast_le_intCast.2 a)
 have b' := div_le (Rat.intCast_le_intCast.2 b)
 refine mag_of ?_ a'
 rw [Rat.intCast_neg] at b'
 have e : -((n : Int) : Rat) / unit = -(((n : Int) : Rat) / unit) := by simp only [Rat.div_def]; grind
 rw [e] at b'
 exact b'
theorem sm_eq : ((((leastV.toNat : Nat) : Int)) : Rat) / unit = sm := by decide +kernel
theorem bW_cases {x : Nat} (h : FinW x) : V (bW x) = V x ∨ (bW x = 0 ∧ mag (Q x) ≤ sm) := by
 rcases (bW_spec h).2 with e | ⟨e, f, m⟩
 · exact .inl e
 · refine .inr ⟨e, ?_⟩
   have lt : (V x).natAbs < 2 ^ 1074 := by
    rw [V_abs' x h]
    have c := val_lt (F := 52) m
    have : val 52 4607182418800017408 = 2 ^ 1074 := by decide +kernel
    omega
   have nf : ¬ (V x = 0 ∨ leastV ≤ ((V x).natAbs : Int) ∧ ((V x).natAbs : Int) ≤ mostV) := fun c => by
    have := (fit_iff h).2 (by first | exact c | (rcases c with c | c; exact .inl c; exact .inr ⟨by omega, by omega⟩))
    rw [f] at this; simp at this
   have big : (2 ^ 1074 : Nat) ≤ mostV := by decide +kernel
   have lp : 0 ≤ (leastV : Int) := by decide +kernel
   have := Q_mag (x := x) (n := (leastV : Int).toNat) (by omega)
   rwa [sm_eq] at this
theorem bW_near {x : Nat} (h : FinW x) : mag (Q (bW x) - Q x) ≤ sm := by
 rcases bW_cases h with e | ⟨e, m⟩
 · have : Q (bW x) - Q x = 0 := by unfold Q; rw [e]; grind
   rw [this]; exact sm0
 · have z : Q 0 = 0 := by decide +kernel
   have : Q (bW x) - Q x = -Q x := by rw [e, z]; grind
   rw [this, mag_neg]; exact m
theorem mag_self (x : Rat) : mag (x * x) ≤ x * x := by
 have := sq0 x
 unfold mag; rw [if_pos this]; exact Rat.le_refl
end Go.Proofs.YtacinenddnfcbaaGreat

namespace Go.Proofs.YtacinenddnfcbaaGreat
open Go.ChangeShapes Go.WideShapes Go.ChangeAt Go.RowKit Ieee.Own

theorem two_split (k : Nat) : (2 : Int) ^ (k + 1) = 2 * 2 ^ k := by rw [Int.pow_succ]; exact Int.mul_comm _ _
theorem pos_fit {x : Nat} (h : x < 18446744073709551616) (f : fitB x = true) : fitB (posW x) = true ∧ posW x < 18446744073709551616 := by
 have := posW_fin (fit_fin h f)
 exact ⟨(fit_iff this).2 (by rw [posW_V]; exact (fit_iff (fit_fin h f)).1 f), this.1⟩
theorem mn_fit {x y : Nat} (hx : x < 18446744073709551616) (hy : y < 18446744073709551616) (f : fitB x = true) (g : fitB y = true) : fitB (mnW x y) = true := by
 rcases (mnW_spec (fit_fin hx f) (fit_fin hy g)).1 with h | h <;> rw [h] <;> assumption
theorem mx_fit {x y : Nat} (hx : x < 18446744073709551616) (hy : y < 18446744073709551616) (f : fitB x = true) (g : fitB y = true) : fitB (mxW x y) = true := by
 rcases (mxW_spec (fit_fin hx f) (fit_fin hy g)).1 with h | h <;> rw [h] <;> assumption
theorem errS_fit {a b : Nat} (f1 : fitB a = true) (f2 : fitB b = true) : errS a b = if V b < V a then 5 else 0 := by unfold errS; rw [if_pos ⟨f1, f2⟩]
def meetB (a0 b0 a1 b1 : Nat) : Bool := decide (V (mxW a0 a1) ≤ V (mnW b0 b1))
def meetX (a0 b0 a1 b1 : Nat) : Nat := if meetB a0 b0 a1 b1 = true then posW (mxW a0 a1) else 0
def meetY (a0 b0 a1 b1 : Nat) : Nat := if meetB a0 b0 a1 b1 = true then posW (mnW b0 b1) else 0
section
variable {a0 b0 a1 b1 : Nat} (ha0 : a0 < 18446744073709551616) (hb0 : b0 < 18446744073709551616) (ha1 : a1 < 18446744073709551616) (hb1 : b1 < 18446744073709551616) (h0 : errSS a0 b0 a1 b1 = 0)
include ha0 hb0 ha1 hb1 h0
end

end Go.Proofs.YtacinenddnfcbaaGreat

namespace Go.Proofs.YtacinenddnfcbaaGreat
open Go.ChangeShapes Go.WideShapes Go.ChangeAt Go.RowKit Ieee.Own

theorem key_V {a b : Nat} (ha : FinW a) (hb : FinW b) : key64 a = key64 b ↔ V a = V b := by
 have h1 := V_lt_key ha hb
 have h2 := V_lt_key hb ha
 omega
end Go.Proofs.YtacinenddnfcbaaGreat

namespace Go.Proofs.YtacinenddnfcbaaGreat
open Go.ChangeShapes Go.WideShapes Go.ChangeAt Go.RowKit Ieee.Own

structure Sets (a0 b0 a1 b1 : Nat) : Prop where
 la0 : a0 < 18446744073709551616
 lb0 : b0 < 18446744073709551616
 la1 : a1 < 18446744073709551616
 lb1 : b1 < 18446744073709551616
 e0 : errS a0 b0 = 0
 e1 : errS a1 b1 = 0
section
variable {a0 b0 a1 b1 : Nat} (T : Sets a0 b0 a1 b1)
include T
theorem Sets.both : errSS a0 b0 a1 b1 = 0 := errSS_of T.e0 T.e1
theorem Sets.flip : Sets a1 b1 a0 b0 := ⟨T.la1, T.lb1, T.la0, T.lb0, T.e1, T.e0⟩
theorem Sets.ins : insB a0 b0 a1 b1 = decide (V a1 ≤ V a0 ∧ V b0 ≤ V b1) := by
 unfold insB
 rw [decide_eq_decide]
 exact ⟨fun h => h.2, fun h => ⟨T.both, h⟩⟩
theorem Sets.meet_ok (h : meetB a0 b0 a1 b1 = true) : meetX a0 b0 a1 b1 = posW (mxW a0 a1) ∧ meetY a0 b0 a1 b1 = posW (mnW b0 b1) ∧ errS (meetX a0 b0 a1 b1) (meetY a0 b0 a1 b1) = 0 := by
 obtain ⟨f1, f2, le1⟩ := errS_zero T.e0
 obtain ⟨f3, f4, le2⟩ := errS_zero T.e1
 have c : V (mxW a0 a1) ≤ V (mnW b0 b1) := of_decide_eq_true h
 have p := pos_fit (mxW_fin (fit_fin T.la0 f1) (fit_fin T.la1 f3)).1 (mx_fit T.la0 T.la1 f1 f3)
 have q := pos_fit (mnW_fin (fit_fin T.lb0 f2) (fit_fin T.lb1 f4)).1 (mn_fit T.lb0 T.lb1 f2 f4)
 have ex : meetX a0 b0 a1 b1 = posW (mxW a0 a1) := by unfold meetX; rw [if_pos h]
 have ey : meetY a0 b0 a1 b1 = posW (mnW b0 b1) := by unfold meetY; rw [if_pos h]
 refine ⟨ex, ey, ?_⟩
 rw [ex, ey, errS_fit p.1 q.1, posW_V, posW_V, if_neg (by omega)]
theorem Sets.has (x : Nat) : (hasB a0 b0 x && hasB a1 b1 x) = (meetB a0 b0 a1 b1 && hasB (meetX a0 b0 a1 b1) (meetY a0 b0 a1 b1) x) := by
 obtain ⟨f1, f2, le1⟩ := errS_zero T.e0
 obtain ⟨f3, f4, le2⟩ := errS_zero T.e1
 have g1 := fit_fin T.la0 f1
 have g2 := fit_fin T.lb0 f2
 have g3 := fit_fin T.la1 f3
 have g4 := fit_fin T.lb1 f4
 obtain ⟨s1, s2, s3⟩ := mxW_spec g1 g3
 obtain ⟨t1, t2, t3⟩ := mnW_spec g2 g4
 -- the ends' places in the order
 have kx : key64 a0 ≤ key64 (mxW a0 a1) ∧ key64 a1 ≤ key64 (mxW a0 a1) := by
  have := V_lt_key (mxW_fin g1 g3) g1
  have := V_lt_key (mxW_fin g1 g3) g3
  omega
 have ky : key64 (mnW b0 b1) ≤ key64 b0 ∧ key64 (mnW b0 b1) ≤ key64 b1 := by
  have := V_lt_key g2 (mnW_fin g2 g4)
  have := V_lt_key g4 (mnW_fin g2 g4)
  omega
 have kx2 : key64 (mxW a0 a1) = key64 a0 ∨ key64 (mxW a0 a1) = key64 a1 := by rcases s1 with h | h <;> rw [h] <;> simp
 have ky2 : key64 (mnW b0 b1) = key64 b0 ∨ key64 (mnW b0 b1) = key64 b1 := by rcases t1 with h | h <;> rw [h] <;> simp
 rw [Bool.eq_iff_iff]
 simp only [Bool.and_eq_true]
 by_cases h : meetB a0 b0 a1 b1 = true
 · obtain ⟨ex, ey, e⟩ := T.meet_ok h
   have px : key64 (posW (mxW a0 a1)) = key64 (mxW a0 a1) := (key_V (posW_fin (mxW_fin g1 g3)) (mxW_fin g1 g3)).2 (posW_V _)
   have py : key64 (posW (mnW b0 b1)) = key64 (mnW b0 b1) := (key_V (posW_fin (mnW_fin g2 g4)) (mnW_fin g2 g4)).2 (posW_V _)
   rw [ex, ey] at e
   rw [ex, ey]
   unfold hasB
   simp only [decide_eq_true_eq]
   rw [px, py]
   constructor
   · rintro ⟨⟨-, n, h1, h2⟩, -, -, h3, h4⟩
     exact ⟨h, e, n, by omega, by omega⟩
   · rintro ⟨-, -, n, h1, h2⟩
     exact ⟨⟨T.e0, n, by omega, by omega⟩, T.e1, n, by omega, by omega⟩
 · have c : ¬ V (mxW a0 a1) ≤ V (mnW b0 b1) := fun hh => h (decide_eq_true hh)
   have k := (V_lt_key (mnW_fin g2 g4) (mxW_fin g1 g3)).1 (by omega)
   unfold hasB
   simp only [decide_eq_true_eq]
   constructor
   · rintro ⟨⟨-, n, h1, h2⟩, -, -, h3, h4⟩
     omega
   · rintro ⟨hh, -⟩; exact absurd hh h
theorem Sets.same : (insB a0 b0 a1 b1 && insB a1 b1 a0 b0) = (decide (V a0 = V a1) && decide (V b0 = V b1)) := by
 rw [T.ins, T.flip.ins, Bool.eq_iff_iff]
 simp only [Bool.and_eq_true, decide_eq_true_eq]
 omega
end
end Go.Proofs.YtacinenddnfcbaaGreat

namespace Go.Proofs.YtacinenddnfcbaaGreat
open Go.ChangeShapes Go.WideShapes Go.ChangeAt Go.RowKit Ieee.Own

abbrev Pr := Nat × Nat
def ps (p : Pr) : Sp := sp p.1 p.2
end Go.Proofs.YtacinenddnfcbaaGreat

namespace Go.Proofs.YtacinenddnfcbaaGreat
open Go.ChangeShapes Go.WideShapes Go.ChangeAt Go.RowKit Ieee.Own

theorem Q_congr {a b : Nat} (h : V a = V b) : Q a = Q b := by unfold Q; rw [h]
theorem Q_neg {a b : Nat} (h : V a = -V b) : Q a = -Q b := by
 unfold Q; rw [h, Rat.intCast_neg]; simp only [Rat.div_def]; grind
theorem sq_parts (k : Int) (y : Rat) : (k % 4 = 0 → Ply.sq k y = Ply.s y) ∧ (k % 4 = 1 → Ply.sq k y = Ply.c y) ∧ (k % 4 = 2 → Ply.sq k y = -Ply.s y) ∧ (k % 4 = 3 → Ply.sq k y = -Ply.c y) := by
 have a : ∀ j : Int, k % 4 = j % 4 → Ply.sq k y = Ply.sq j y := fun j h => Ply.sq_mod h y
 have z0 : Ply.sq 0 y = Ply.s y := by unfold Ply.sq; rfl
 have z1 : Ply.sq 1 y = Ply.c y := by unfold Ply.sq; rfl
 refine ⟨fun h => ?_, fun h => ?_, fun h => ?_, fun h => ?_⟩
 · rw [a 0 (by omega), z0]
 · rw [a 1 (by omega), z1]
 · rw [a (0 + 2) (by omega), Ply.sq_two, z0]
 · rw [a (1 + 2) (by omega), Ply.sq_two, z1]

end Go.Proofs.YtacinenddnfcbaaGreat

namespace Go.Proofs.YtacinenddnfcbaaGreat
open Go.ChangeShapes Go.WideShapes Go.ChangeAt Go.RowKit Ieee.Own

end Go.Proofs.YtacinenddnfcbaaGreat

namespace Go.Proofs.YtacinenddnfcbaaGreat
open Go.ChangeShapes Go.WideShapes Go.ChangeAt Go.RowKit Ieee.Own

end Go.Proofs.YtacinenddnfcbaaGreat

namespace Go.Proofs.YtacinenddnfcbaaGreat
open Go.ChangeShapes Go.WideShapes Go.ChangeAt Go.RowKit Ieee.Own

end Go.Proofs.YtacinenddnfcbaaGreat

namespace Go.Proofs.YtacinenddnfcbaaGreat
open Go.ChangeShapes Go.WideShapes Go.ChangeAt Go.RowKit Ieee.Own

end Go.Proofs.YtacinenddnfcbaaGreat

namespace Go.Proofs.YtacinenddnfcbaaGreat
open Go.ChangeShapes Go.WideShapes Go.ChangeAt Go.RowKit Ieee.Own

end Go.Proofs.YtacinenddnfcbaaGreat

namespace Go.Proofs.YtacinenddnfcbaaGreat
open Go.ChangeShapes Go.WideShapes Go.ChangeAt Go.RowKit Ieee.Own

end Go.Proofs.YtacinenddnfcbaaGreat

namespace Go.Proofs.YtacinenddnfcbaaGreat
open Go.ChangeShapes Go.WideShapes Go.ChangeAt Go.RowKit Ieee.Own

end Go.Proofs.YtacinenddnfcbaaGreat

namespace Go.Proofs.YtacinenddnfcbaaGreat
open Go.ChangeShapes Go.WideShapes Go.ChangeAt Go.RowKit Ieee.Own

end Go.Proofs.YtacinenddnfcbaaGreat

namespace Go.Proofs.YtacinenddnfcbaaGreat
open Go.ChangeShapes Go.WideShapes Go.ChangeAt Go.RowKit Ieee.Own

end Go.Proofs.YtacinenddnfcbaaGreat

namespace Go.Proofs.YtacinenddnfcbaaGreat
open Go.ChangeShapes Go.WideShapes Go.ChangeAt Go.RowKit Ieee.Own

theorem trig_near {x s c r : Nat} (A : Ang x) (T : Trig x s c) (R : Rst x r) :
 (-(mkRat 1 (2^50)) ≤ Q s - Ply.sq (kq eig (V x)) (Ply.tau * Q r) ∧ Q s - Ply.sq (kq eig (V x)) (Ply.tau * Q r) ≤ mkRat 1 (2^50)) ∧
 (-(mkRat 1 (2^50)) ≤ Q c - Ply.sq (kq eig (V x) + 1) (Ply.tau * Q r) ∧ Q c - Ply.sq (kq eig (V x) + 1) (Ply.tau * Q r) ≤ mkRat 1 (2^50)) := by
 obtain ⟨r', R', a, b⟩ := T.ex
 obtain rfl := R'.uniq R
 have N := (R.rest A).near
 have q := sq_parts (kq eig (V x)) (Ply.tau * Q r')
 have q' := sq_parts (kq eig (V x) + 1) (Ply.tau * Q r')
 obtain ⟨s1, s2, -, -⟩ := N.sn
 obtain ⟨c1, c2, -, -⟩ := N.cn
 have e : mkRat 1 (2^51) ≤ mkRat 1 (2^50) := by decide +kernel
 generalize Ply.s (Ply.tau * Q r') = S at *
 generalize Ply.c (Ply.tau * Q r') = C at *
 generalize mkRat 1 (2^51) = E1 at *
 generalize mkRat 1 (2^50) = E2 at *
 have sam : ∀ {u v : Nat}, V u = V v → Q u = Q v := fun h => Q_congr h
 have neg : ∀ {u v : Nat}, V u = -V v → Q u = -Q v := fun h => Q_neg h
 unfold vq at a b
 have k4 : kq eig (V x) % 4 = 0 ∨ kq eig (V x) % 4 = 1 ∨ kq eig (V x) % 4 = 2 ∨ kq eig (V x) % 4 = 3 := by omega
 generalize kq eig (V x) = k at *
 rcases k4 with h | h | h | h
 · rw [if_pos h] at a
   rw [if_neg (by omega), if_pos (by omega)] at b
   rw [q.1 h, q'.2.1 (by omega), sam a, sam b]
   exact ⟨⟨by grind, by grind⟩, ⟨by grind, by grind⟩⟩
 · rw [if_neg (by omega), if_pos h] at a
   rw [if_neg (by omega), if_neg (by omega), if_pos (by omega)] at b
   rw [q.2.1 h, q'.2.2.1 (by omega), sam a, neg b]
   exact ⟨⟨by grind, by grind⟩, ⟨by grind, by grind⟩⟩
 · rw [if_neg (by omega), if_neg (by omega), if_pos h] at a
   rw [if_neg (by omega), if_neg (by omega), if_neg (by omega)] at b
   rw [q.2.2.1 h, q'.2.2.2 (by omega), neg a, neg b]
   exact ⟨⟨by grind, by grind⟩, ⟨by grind, by grind⟩⟩
 · rw [if_neg (by omega), if_neg (by omega), if_neg (by omega)] at a
   rw [if_pos (by omega)] at b
   rw [q.2.2.2 h, q'.1 (by omega), neg a, sam b]
   exact ⟨⟨by grind, by grind⟩, ⟨by grind, by grind⟩⟩

end Go.Proofs.YtacinenddnfcbaaGreat

namespace Go.Proofs.YtacinenddnfcbaaGreat
open Ieee.Own Pol

theorem sq_circle {y : Rat} (h1 : -Ply.top ≤ y) (h2 : y ≤ Ply.top) (k : Int) : mag (Ply.sq (k + 1) y * Ply.sq (k + 1) y + Ply.sq k y * Ply.sq k y - 1) ≤ Ply.eps := by
 have q := sq_parts k y
 have q' := sq_parts (k + 1) y
 have c := Ply.circle h1 h2
 have k4 : k % 4 = 0 ∨ k % 4 = 1 ∨ k % 4 = 2 ∨ k % 4 = 3 := by omega
 generalize Ply.s y = S at *
 generalize Ply.c y = C at *
 generalize Ply.eps = e at *
 rcases k4 with h | h | h | h
 · rw [q.1 h, q'.2.1 (by omega)]; exact mag_of (by grind) (by grind)
 · rw [q.2.1 h, q'.2.2.1 (by omega)]; exact mag_of (by grind) (by grind)
 · rw [q.2.2.1 h, q'.2.2.2 (by omega)]; exact mag_of (by grind) (by grind)
 · rw [q.2.2.2 h, q'.1 (by omega)]; exact mag_of (by grind) (by grind)
theorem near_sq {x X e : Rat} (e1 : e ≤ 1) (h : mag (x - X) ≤ e) (h1 : mag X ≤ 1) : mag (x * x - X * X) ≤ 2 * e + e * e ∧ mag x ≤ 2 := by
 have a := mag_add h (mag_add h1 h1)
 have e2 : x - X + (X + X) = x + X := by grind
 rw [e2] at a
 have p := mag_mul h a
 have e3 : (x - X) * (x + X) = x * x - X * X := by grind
 rw [e3] at p
 have b := mag_add h h1
 have e4 : x - X + X = x := by grind
 rw [e4] at b
 exact ⟨by grind, by grind⟩
end Go.Proofs.YtacinenddnfcbaaGreat

namespace Go.Proofs.YtacinenddnfcbaaGreat
open Go.ChangeShapes Go.WideShapes Go.ChangeAt Go.RowKit Ieee.Own Pol

theorem D3.bb {p : V3} (hw : W3 p) (f : fitV p = true) : D3 (bV p) ∧ V (bV p).1 = V p.1 ∧ V (bV p).2.1 = V p.2.1 ∧ V (bV p).2.2 = V p.2.2 := by
 have B := fitV_bd hw f
 have fb : fitV (bV p) = true := by unfold fitV bV; rw [vnB_bW B.f1 B.b1, vnB_bW B.f2 B.b2, vnB_bW B.f3 B.b3]; rfl
 unfold fitV at f
 simp only [Bool.and_eq_true] at f
 exact ⟨fitV_wd B.fin.b.w fb, bW_fit B.f1 (vnB_spec hw.l1 f.1.1).2.1, bW_fit B.f2 (vnB_spec hw.l2 f.1.2).2.1, bW_fit B.f3 (vnB_spec hw.l3 f.2).2.1⟩
theorem Q0 : Q 0 = 0 := by decide +kernel
theorem tM_w {x s c : Nat} (A : Ang x) (T : Trig x s c) (a : Int) : W9 (tM a (bW s) (bW c) (negN (bW s))) ∧ fitM (tM a (bW s) (bW c) (negN (bW s))) = true ∧ Q (negN (bW s)) = -Q (bW s) := by
 obtain ⟨⟨f1, i1⟩, ⟨f2, i2⟩, f3, i3, e3⟩ := trig_ok A T
 have g1 := (bW_nz f1).fin
 have g2 := (bW_nz f2).fin
 obtain ⟨-, g3, v3⟩ := negN_spec g1
 have o := one_fin7.1
 have z : (0 : Nat) < 18446744073709551616 := by omega
 rw [e3] at i3
 refine ⟨?_, ?_, Q_neg v3⟩
 · unfold tM
   split
   · exact ⟨⟨o, z, z⟩, ⟨z, g2.1, g3.fin.1⟩, ⟨z, g1.1, g2.1⟩⟩
   · split
     · exact ⟨⟨g2.1, z, g1.1⟩, ⟨z, o, z⟩, ⟨g3.fin.1, z, g2.1⟩⟩
     · exact ⟨⟨g2.1, g3.fin.1, z⟩, ⟨g1.1, g2.1, z⟩, ⟨z, z, o⟩⟩
 · unfold tM
   split
   · unfold fitM fitV; dsimp only; rw [in_one, in_zero, i1, i2, i3]; rfl
   · split
     · unfold fitM fitV; dsimp only; rw [in_one, in_zero, i1, i2, i3]; rfl
     · unfold fitM fitV; dsimp only; rw [in_one, in_zero, i1, i2, i3]; rfl
end Go.Proofs.YtacinenddnfcbaaGreat

namespace Go.Proofs.YtacinenddnfcbaaGreat
open Go.ChangeShapes Go.WideShapes Go.ChangeAt Go.RowKit Ieee.Own Pol

theorem div_norm {a n m q : Nat} (fa : FinW a) (hN : V a = 0 ∨ ∃ s m p, Norm a s m p ∧ 760 ≤ p ∧ p ≤ 1222) (N : Norm n false m q) (h1 : 760 ≤ q) (h2 : q ≤ 1100) :
 Ieee.double.div a n = some (qX a n) ∧ FinW (qX a n) ∧ 2 ^ 53 * (V (qX a n) * V n - V a * 2 ^ 1074).natAbs ≤ (V (qX a n) * V n).natAbs := by
 have vn := N.val
 rw [sv_pos] at vn
 rcases hN with z | ⟨s, m', p, N', p1, p2⟩
 · have nz : V n ≠ 0 := by
    rw [vn]
    have := N.lo
    exact Int.ne_of_gt (Int.mul_pos (by omega) (Int.pow_pos (by decide)))
   obtain ⟨r, q1, q2, q3⟩ := div_zero fa z N.fin nz
   have er : qX a n = r := by unfold qX; rw [q1]; rfl
   rw [er]
   refine ⟨q1, q2, ?_⟩
   rw [q3, z, Int.zero_mul, Int.zero_mul]
   decide
 · obtain ⟨r, Q, u, q1, q2, q3, u1, u2, Q1, Q2, i1, i2⟩ := div_spec N' N (by omega) (by omega)
   have er : qX a n = r := by unfold qX; rw [q1]; rfl
   rw [er]
   refine ⟨q1, q2, ?_⟩
   have key : 2 ^ 53 * (((Q * m : Nat) : Int) - ((m' * 2 ^ u : Nat) : Int)).natAbs ≤ Q * m := by
    have k1 : 2 * (((Q * m : Nat) : Int) - ((m' * 2 ^ u : Nat) : Int)).natAbs ≤ m := by
        generalize Q * m = X at *
        generalize m' * 2 ^ u = Y at *
        omega
    have k2 : 2 ^ 52 * m ≤ Q * m := Nat.mul_le_mul_right _ Q1
    generalize Q * m = X at *
    generalize m' * 2 ^ u = Y at *
    omega
   have x0 : (s ^^ false) = s := by cases s <;> rfl
   rw [x0] at q3
   have e1 : 1074 + p - q - u + q = 1074 + p - u := by omega
   have va := N'.val
   have sg : ∀ (s : Bool) (A B : Nat), sv s A B = (if s then -1 else 1) * ((A : Int) * 2 ^ B) := fun s A B => by
    unfold sv; cases s <;> simp
   rw [sg] at q3 va
   have x1 : V r * V n = (if s then -1 else 1) * ((Q * m : Nat) : Int) * 2 ^ (1074 + p - u) := by
    rw [q3, vn, Int.mul_assoc, prod_merge _ _ e1, Int.natCast_mul]
    generalize (2 : Int) ^ (1074 + p - u) = z
    ac_rfl
   have x2 : V a * 2 ^ 1074 = (if s then -1 else 1) * ((m' * 2 ^ u : Nat) : Int) * 2 ^ (1074 + p - u) := by
    rw [va, Int.natCast_mul, Int.natCast_pow, Int.mul_assoc, pow_merge (m' : Int) (p := p) (k := 1074) (j := 1074 + p - u) (u := u) (by omega)]
    rw [show ((2 : Nat) : Int) = 2 from rfl]
    generalize (2 : Int) ^ (1074 + p - u) = z
    ac_rfl
   refine scale_nat x1 x2 ?_
   rw [← Int.mul_sub, Int.natAbs_mul, Int.natAbs_mul]
   have o : (if s = true then (-1 : Int) else 1).natAbs = 1 := by cases s <;> rfl
   rw [o, Nat.one_mul, Nat.one_mul, Int.natAbs_natCast]
   exact key
theorem wd_norm {a : Nat} (W : Wd a 822 1140) : V a = 0 ∨ ∃ s m p, Norm a s m p ∧ 760 ≤ p ∧ p ≤ 1222 := by
 by_cases z : V a = 0
 · exact .inl z
 · have lo := pow_abs_dvd W.dvd z
   obtain ⟨s, m, p, N⟩ := is_norm W.fin lo (by omega)
   obtain ⟨p1, p2⟩ := norm_pl N lo W.abs (by omega) (by omega)
   exact .inr ⟨s, m, p, N, by omega, by omega⟩
end Go.Proofs.YtacinenddnfcbaaGreat

namespace Go.Proofs.YtacinenddnfcbaaGreat
open Ieee.Own

theorem V_pos_eq {a b : Nat} (fa : FinW a) (fb : FinW b) (h : V a = V b) (h0 : V a ≠ 0) : a = b := by
 have pa : Nz a := Nz.of fa h0
 have pb : Nz b := Nz.of fb (by rw [← h]; exact h0)
 exact pa.uniq pb h
structure NmOk (a : Nat) : Prop where
 fin : FinW a
 nm : V a = 0 ∨ ∃ s m p, Norm a s m p ∧ 760 ≤ p ∧ p ≤ 1222
end Go.Proofs.YtacinenddnfcbaaGreat
