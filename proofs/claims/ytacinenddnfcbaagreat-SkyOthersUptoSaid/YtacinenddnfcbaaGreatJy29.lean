/- Proved here: what the texts Kas prove, one behind the other. -/
import Derived.Test.YtacinenddnfcbaaGreatJy27
import Derived.Test.YtacinenddnfcbaaGreatJy28
import Derived.Test.YtacinenddnfcbaaGreatJy18

set_option maxHeartbeats 4000000
set_option maxRecDepth 100000
namespace Go.Proofs.YtacinenddnfcbaaGreat
open Go.ChangeShapes Go.WideShapes Go.ChangeAt Go.RowKit Ieee.Own

def neB (v : V3) : Bool := witB g40 v.1 && (witB g40 v.2.1 && witB g40 v.2.2)
theorem rnear15_run {v : V3} (h : W3 v) (w : World) : Calls Tryz.prog 52 #[vecV v] w fun e w' => e = .returned (.bool (neB v)) ∧ Below w.heap.size w w' := by
 have C1 := fun w => rwit15_40 v.1 h.l1 w
 have C2 := fun w => rwit15_40 v.2.1 h.l2 w
 have C3 := fun w => rwit15_40 v.2.2 h.l3 w
 clear h
 unfold neB vecV
 obtain ⟨x1, x2, x3⟩ := v
 dsimp only at *
 generalize witB g40 x1 = b1 at *
 generalize witB g40 x2 = b2 at *
 generalize witB g40 x3 = b3 at *
 have K := kv1 w 41 [.float .f64 x1, .float .f64 x2, .float .f64 x3]
 simp only [objV] at K
 have c0 := (K.at_ 0 rfl).at_ 0 _ rfl
 have c1 := (K.at_ 0 rfl).at_ 1 _ rfl
 have c2 := (K.at_ 0 rfl).at_ 2 _ rfl
 replace K := Lib.hid K
 cases b1 <;> cases b2 <;> cases b3 <;> (
  go_enter Tryz.func52, Tryz.ntmps52
  go_wp2_with (first | (go_at_call 29; ((with_reducible refine (C1 _).mono ?_); rintro e w' ⟨rfl, rfl⟩)) | (go_at_call 29; ((with_reducible refine (C2 _).mono ?_); rintro e w' ⟨rfl, rfl⟩)) | (go_at_call 29; ((with_reducible refine (C3 _).mono ?_); rintro e w' ⟨rfl, rfl⟩)))
  go_ret
  exact ⟨rfl, K.out.old⟩)
theorem rbd_a {kd up : Int} {sz : Nat} {lt fn fc bn bc bb bo : Nat} {fao : Option Addr} {L : List Value} (hl : L.length = 18) (ho : L.toArray.all (·.oneCell') = true) (l0 : L[0]? = some (.int .i64 kd)) (l1 : L[1]? = some (.int .i64 up)) (l2 : L[2]? = some (.float .f64 sz)) {i : Nat} {w : World} (hi : i < bn) (far : Hid (∀ W, Below w.heap.size w W → W.rangeAt bb (bo + i * 18) L)) {b1 : Bool} (_W1 : ∀ w, Calls Tryz.prog 29 #[.float .f64 sz, .float .f64 4787326403894837248] w fun e w' => e = .returned (.bool b1) ∧ w = w')  (h1 : ¬ -1 ≤ up) : Calls Tryz.prog 30 #[.agg #[.float .f64 lt, .slice fao fn fc, .slice (some ⟨bb, bo, none⟩) bn bc], .int .i64 (i : Int)] w fun e w' => e = .returned (.bool false) ∧ Below w.heap.size w w' := by
 have K0 := kv1 w 26 [.float .f64 lt, .slice fao fn fc, .slice (some ⟨bb, bo, none⟩) bn bc]
 simp only [objV] at K0
 replace K0 := Lib.hid K0
 have hst := @fstore
 have hin : (i : Int) < (bn : Int) := by omega
 have hsn := ybody_store hl ho
 have hud := Tryz.underlying51
 replace hl := Lib.hid hl
 go_enter Tryz.func30, Tryz.ntmps30
 have K := K0.out
 clear K0
 go_upto_region 1 with fail
 have er := Lib.hid (far.out _ K.old)
 have K2 := K.new 51 L
 simp only [objV, List.cons_append, List.nil_append] at K2
 have c0_0 := (K.at_ 0 rfl).at_ 0 _ rfl
 have c0_1 := (K.at_ 0 rfl).at_ 1 _ rfl
 have c0_2 := (K.at_ 0 rfl).at_ 2 _ rfl
 generalize w.alloc _ = wr at *
 have d0 := (K2.at_ 1 rfl).at_ 0 _ l0
 have d1 := (K2.at_ 1 rfl).at_ 1 _ l1
 have d2 := (K2.at_ 1 rfl).at_ 2 _ l2
 have g1 := (K2.at_ 0 rfl).at_ 1 _ rfl
 clear far l0 l1 l2 ho
 replace K := Lib.hid K2
 clear K2
 go_wp2_with (first | (refine wpList_load_mid rfl 51 (.tmp 9) rfl bb (bo + i * 18) rfl L _ er.out hud rfl (by rw [hl.out]; exact sizeBody) ?_) | (go_at_call 29; ((with_reducible refine (W1 _).mono ?_); rintro e w' ⟨rfl, rfl⟩)))
 go_ret
 exact ⟨by first | rfl | trivial, K.out.old⟩
theorem rbd_b {kd up : Int} {sz : Nat} {lt fn fc bn bc bb bo : Nat} {fao : Option Addr} {L : List Value} (hl : L.length = 18) (ho : L.toArray.all (·.oneCell') = true) (l0 : L[0]? = some (.int .i64 kd)) (l1 : L[1]? = some (.int .i64 up)) (l2 : L[2]? = some (.float .f64 sz)) {i : Nat} {w : World} (hi : i < bn) (far : Hid (∀ W, Below w.heap.size w W → W.rangeAt bb (bo + i * 18) L)) {b1 : Bool} (_W1 : ∀ w, Calls Tryz.prog 29 #[.float .f64 sz, .float .f64 4787326403894837248] w fun e w' => e = .returned (.bool b1) ∧ w = w')  (h1 : -1 ≤ up) (h2 : ¬ up < (i : Int)) : Calls Tryz.prog 30 #[.agg #[.float .f64 lt, .slice fao fn fc, .slice (some ⟨bb, bo, none⟩) bn bc], .int .i64 (i : Int)] w fun e w' => e = .returned (.bool false) ∧ Below w.heap.size w w' := by
 have K0 := kv1 w 26 [.float .f64 lt, .slice fao fn fc, .slice (some ⟨bb, bo, none⟩) bn bc]
 simp only [objV] at K0
 replace K0 := Lib.hid K0
 have hst := @fstore
 have hin : (i : Int) < (bn : Int) := by omega
 have hsn := ybody_store hl ho
 have hud := Tryz.underlying51
 replace hl := Lib.hid hl
 go_enter Tryz.func30, Tryz.ntmps30
 have K := K0.out
 clear K0
 go_upto_region 1 with fail
 have er := Lib.hid (far.out _ K.old)
 have K2 := K.new 51 L
 simp only [objV, List.cons_append, List.nil_append] at K2
 have c0_0 := (K.at_ 0 rfl).at_ 0 _ rfl
 have c0_1 := (K.at_ 0 rfl).at_ 1 _ rfl
 have c0_2 := (K.at_ 0 rfl).at_ 2 _ rfl
 generalize w.alloc _ = wr at *
 have d0 := (K2.at_ 1 rfl).at_ 0 _ l0
 have d1 := (K2.at_ 1 rfl).at_ 1 _ l1
 have d2 := (K2.at_ 1 rfl).at_ 2 _ l2
 have g1 := (K2.at_ 0 rfl).at_ 1 _ rfl
 clear far l0 l1 l2 ho
 replace K := Lib.hid K2
 clear K2
 go_wp2_with (first | (refine wpList_load_mid rfl 51 (.tmp 9) rfl bb (bo + i * 18) rfl L _ er.out hud rfl (by rw [hl.out]; exact sizeBody) ?_) | (go_at_call 29; ((with_reducible refine (W1 _).mono ?_); rintro e w' ⟨rfl, rfl⟩)))
 go_ret
 exact ⟨by first | rfl | trivial, K.out.old⟩
theorem rbd_c {kd up : Int} {sz : Nat} {lt fn fc bn bc bb bo : Nat} {fao : Option Addr} {L : List Value} (hl : L.length = 18) (ho : L.toArray.all (·.oneCell') = true) (l0 : L[0]? = some (.int .i64 kd)) (l1 : L[1]? = some (.int .i64 up)) (l2 : L[2]? = some (.float .f64 sz)) {i : Nat} {w : World} (hi : i < bn) (far : Hid (∀ W, Below w.heap.size w W → W.rangeAt bb (bo + i * 18) L)) {b1 : Bool} (W1 : ∀ w, Calls Tryz.prog 29 #[.float .f64 sz, .float .f64 4787326403894837248] w fun e w' => e = .returned (.bool b1) ∧ w = w')  (h1 : -1 ≤ up) (h2 : up < (i : Int)) (hb : b1 = false) : Calls Tryz.prog 30 #[.agg #[.float .f64 lt, .slice fao fn fc, .slice (some ⟨bb, bo, none⟩) bn bc], .int .i64 (i : Int)] w fun e w' => e = .returned (.bool false) ∧ Below w.heap.size w w' := by
 have K0 := kv1 w 26 [.float .f64 lt, .slice fao fn fc, .slice (some ⟨bb, bo, none⟩) bn bc]
 simp only [objV] at K0
 replace K0 := Lib.hid K0
 have hst := @fstore
 have hin : (i : Int) < (bn : Int) := by omega
 have hsn := ybody_store hl ho
 have hud := Tryz.underlying51
 replace hl := Lib.hid hl
 go_enter Tryz.func30, Tryz.ntmps30
 have K := K0.out
 clear K0
 go_upto_region 1 with fail
 have er := Lib.hid (far.out _ K.old)
 have K2 := K.new 51 L
 simp only [objV, List.cons_append, List.nil_append] at K2
 have c0_0 := (K.at_ 0 rfl).at_ 0 _ rfl
 have c0_1 := (K.at_ 0 rfl).at_ 1 _ rfl
 have c0_2 := (K.at_ 0 rfl).at_ 2 _ rfl
 generalize w.alloc _ = wr at *
 have d0 := (K2.at_ 1 rfl).at_ 0 _ l0
 have d1 := (K2.at_ 1 rfl).at_ 1 _ l1
 have d2 := (K2.at_ 1 rfl).at_ 2 _ l2
 have g1 := (K2.at_ 0 rfl).at_ 1 _ rfl
 clear far l0 l1 l2 ho
 replace K := Lib.hid K2
 clear K2
 subst hb
 go_wp2_with (first | (refine wpList_load_mid rfl 51 (.tmp 9) rfl bb (bo + i * 18) rfl L _ er.out hud rfl (by rw [hl.out]; exact sizeBody) ?_) | (go_at_call 29; ((with_reducible refine (W1 _).mono ?_); rintro e w' ⟨rfl, rfl⟩)))
 go_ret
 exact ⟨by first | rfl | trivial, K.out.old⟩
theorem rbd_d {kd up : Int} {sz : Nat} {lt fn fc bn bc bb bo : Nat} {fao : Option Addr} {L : List Value} (hl : L.length = 18) (ho : L.toArray.all (·.oneCell') = true) (l0 : L[0]? = some (.int .i64 kd)) (l1 : L[1]? = some (.int .i64 up)) (l2 : L[2]? = some (.float .f64 sz)) {i : Nat} {w : World} (hi : i < bn) (far : Hid (∀ W, Below w.heap.size w W → W.rangeAt bb (bo + i * 18) L)) {b1 : Bool} (W1 : ∀ w, Calls Tryz.prog 29 #[.float .f64 sz, .float .f64 4787326403894837248] w fun e w' => e = .returned (.bool b1) ∧ w = w')  (h1 : -1 ≤ up) (h2 : up < (i : Int)) (hb : b1 = true) (hs : (FloatKind.f64.format.order sz 0 == some Ordering.lt) = true) : Calls Tryz.prog 30 #[.agg #[.float .f64 lt, .slice fao fn fc, .slice (some ⟨bb, bo, none⟩) bn bc], .int .i64 (i : Int)] w fun e w' => e = .returned (.bool false) ∧ Below w.heap.size w w' := by
 have K0 := kv1 w 26 [.float .f64 lt, .slice fao fn fc, .slice (some ⟨bb, bo, none⟩) bn bc]
 simp only [objV] at K0
 replace K0 := Lib.hid K0
 have hst := @fstore
 have hin : (i : Int) < (bn : Int) := by omega
 have hsn := ybody_store hl ho
 have hud := Tryz.underlying51
 replace hl := Lib.hid hl
 go_enter Tryz.func30, Tryz.ntmps30
 have K := K0.out
 clear K0
 go_upto_region 1 with fail
 have er := Lib.hid (far.out _ K.old)
 have K2 := K.new 51 L
 simp only [objV, List.cons_append, List.nil_append] at K2
 have c0_0 := (K.at_ 0 rfl).at_ 0 _ rfl
 have c0_1 := (K.at_ 0 rfl).at_ 1 _ rfl
 have c0_2 := (K.at_ 0 rfl).at_ 2 _ rfl
 generalize w.alloc _ = wr at *
 have d0 := (K2.at_ 1 rfl).at_ 0 _ l0
 have d1 := (K2.at_ 1 rfl).at_ 1 _ l1
 have d2 := (K2.at_ 1 rfl).at_ 2 _ l2
 have g1 := (K2.at_ 0 rfl).at_ 1 _ rfl
 clear far l0 l1 l2 ho
 replace K := Lib.hid K2
 clear K2
 subst hb
 go_wp2_with (first | (refine wpList_load_mid rfl 51 (.tmp 9) rfl bb (bo + i * 18) rfl L _ er.out hud rfl (by rw [hl.out]; exact sizeBody) ?_) | (go_at_call 29; ((with_reducible refine (W1 _).mono ?_); rintro e w' ⟨rfl, rfl⟩)))
 go_ret
 exact ⟨by first | rfl | trivial, K.out.old⟩
theorem rbd_1 {up : Int} {sz x1 x2 x3 : Nat} {lt fn fc bn bc bb bo : Nat} {fao : Option Addr} {L : List Value} (hl : L.length = 18) (ho : L.toArray.all (·.oneCell') = true) (l0 : L[0]? = some (.int .i64 1)) (l1 : L[1]? = some (.int .i64 up)) (l2 : L[2]? = some (.float .f64 sz)) (l3 : L[3]? = some (.float .f64 x1)) (l4 : L[4]? = some (.float .f64 x2)) (l5 : L[5]? = some (.float .f64 x3)) {i : Nat} {w : World} (hi : i < bn) (far : Hid (∀ W, Below w.heap.size w W → W.rangeAt bb (bo + i * 18) L)) {b1 : Bool} (W1 : ∀ w, Calls Tryz.prog 29 #[.float .f64 sz, .float .f64 4787326403894837248] w fun e w' => e = .returned (.bool b1) ∧ w = w') {b : Bool} (C : Hid (∀ W, Below w.heap.size w W → Calls Tryz.prog 52 #[.agg #[.float .f64 x1, .float .f64 x2, .float .f64 x3]] W fun e w' => e = .returned (.bool b) ∧ Below W.heap.size W w')) (h1 : -1 ≤ up) (h2 : up < (i : Int)) (hb : b1 = true) (hs : (FloatKind.f64.format.order sz 0 == some Ordering.lt) = false) : Calls Tryz.prog 30 #[.agg #[.float .f64 lt, .slice fao fn fc, .slice (some ⟨bb, bo, none⟩) bn bc], .int .i64 (i : Int)] w fun e w' => e = .returned (.bool b) ∧ Below w.heap.size w w' := by
 have K0 := kv1 w 26 [.float .f64 lt, .slice fao fn fc, .slice (some ⟨bb, bo, none⟩) bn bc]
 simp only [objV] at K0
 replace K0 := Lib.hid K0
 have hst := @fstore
 have hin : (i : Int) < (bn : Int) := by omega
 have hsn := ybody_store hl ho
 have hud := Tryz.underlying51
 replace hl := Lib.hid hl
 go_enter Tryz.func30, Tryz.ntmps30
 have K := K0.out
 clear K0
 go_upto_region 1 with fail
 have er := Lib.hid (far.out _ K.old)
 have K2 := K.new 51 L
 simp only [objV, List.cons_append, List.nil_append] at K2
 have c0_0 := (K.at_ 0 rfl).at_ 0 _ rfl
 have c0_1 := (K.at_ 0 rfl).at_ 1 _ rfl
 have c0_2 := (K.at_ 0 rfl).at_ 2 _ rfl
 generalize w.alloc _ = wr at *
 have d0 := (K2.at_ 1 rfl).at_ 0 _ l0
 have d1 := (K2.at_ 1 rfl).at_ 1 _ l1
 have d2 := (K2.at_ 1 rfl).at_ 2 _ l2
 have d3 := (K2.at_ 1 rfl).at_ 3 _ l3
 have d4 := (K2.at_ 1 rfl).at_ 4 _ l4
 have d5 := (K2.at_ 1 rfl).at_ 5 _ l5
 have g1 := (K2.at_ 0 rfl).at_ 1 _ rfl
 clear far l0 l1 l2 l3 l4 l5 ho
 replace K := Lib.hid K2
 clear K2
 subst hb
 go_wp2_with (first | (refine wpList_load_mid rfl 51 (.tmp 9) rfl bb (bo + i * 18) rfl L _ er.out hud rfl (by rw [hl.out]; exact sizeBody) ?_) | (go_at_call 29; ((with_reducible refine (W1 _).mono ?_); rintro e w' ⟨rfl, rfl⟩)))
 refine (C.out _ K.out.old).mono ?_
 rintro _ v1 ⟨rfl, hb⟩
 replace K := K.out.on hb
 clear hb
 replace K := Lib.hid K
 go_wp2_with fail
 go_ret
 exact ⟨by first | rfl | trivial, K.out.old⟩
theorem rbd_2 {up : Int} {sz o1 o2 o3 o4 o5 o6 o7 : Nat} {lt fn fc bn bc bb bo : Nat} {fao : Option Addr} {L : List Value} (hl : L.length = 18) (ho : L.toArray.all (·.oneCell') = true) (l0 : L[0]? = some (.int .i64 2)) (l1 : L[1]? = some (.int .i64 up)) (l2 : L[2]? = some (.float .f64 sz)) (l6 : L[6]? = some (.float .f64 o1)) (l7 : L[7]? = some (.float .f64 o2)) (l8 : L[8]? = some (.float .f64 o3)) (l9 : L[9]? = some (.float .f64 o4)) (l10 : L[10]? = some (.float .f64 o5)) (l11 : L[11]? = some (.float .f64 o6)) (l12 : L[12]? = some (.float .f64 o7)) {i : Nat} {w : World} (hi : i < bn) (far : Hid (∀ W, Below w.heap.size w W → W.rangeAt bb (bo + i * 18) L)) {b1 : Bool} (W1 : ∀ w, Calls Tryz.prog 29 #[.float .f64 sz, .float .f64 4787326403894837248] w fun e w' => e = .returned (.bool b1) ∧ w = w') {k : Int} (C : Hid (∀ W, Below w.heap.size w W → Calls Tryz.prog 53 #[.agg #[.float .f64 o1, .float .f64 o2, .float .f64 o3, .float .f64 o4, .float .f64 o5, .float .f64 o6, .float .f64 o7]] W fun e w' => e = .returned (.int .i64 k) ∧ Below W.heap.size W w')) (h1 : -1 ≤ up) (h2 : up < (i : Int)) (hb : b1 = true) (hs : (FloatKind.f64.format.order sz 0 == some Ordering.lt) = false) : Calls Tryz.prog 30 #[.agg #[.float .f64 lt, .slice fao fn fc, .slice (some ⟨bb, bo, none⟩) bn bc], .int .i64 (i : Int)] w fun e w' => e = .returned (.bool (k == 0)) ∧ Below w.heap.size w w' := by
 have K0 := kv1 w 26 [.float .f64 lt, .slice fao fn fc, .slice (some ⟨bb, bo, none⟩) bn bc]
 simp only [objV] at K0
 replace K0 := Lib.hid K0
 have hst := @fstore
 have hin : (i : Int) < (bn : Int) := by omega
 have hsn := ybody_store hl ho
 have hud := Tryz.underlying51
 replace hl := Lib.hid hl
 go_enter Tryz.func30, Tryz.ntmps30
 have K := K0.out
 clear K0
 go_upto_region 1 with fail
 have er := Lib.hid (far.out _ K.old)
 have K2 := K.new 51 L
 simp only [objV, List.cons_append, List.nil_append] at K2
 have c0_0 := (K.at_ 0 rfl).at_ 0 _ rfl
 have c0_1 := (K.at_ 0 rfl).at_ 1 _ rfl
 have c0_2 := (K.at_ 0 rfl).at_ 2 _ rfl
 generalize w.alloc _ = wr at *
 have d0 := (K2.at_ 1 rfl).at_ 0 _ l0
 have d1 := (K2.at_ 1 rfl).at_ 1 _ l1
 have d2 := (K2.at_ 1 rfl).at_ 2 _ l2
 have d6 := (K2.at_ 1 rfl).at_ 6 _ l6
 have d7 := (K2.at_ 1 rfl).at_ 7 _ l7
 have d8 := (K2.at_ 1 rfl).at_ 8 _ l8
 have d9 := (K2.at_ 1 rfl).at_ 9 _ l9
 have d10 := (K2.at_ 1 rfl).at_ 10 _ l10
 have d11 := (K2.at_ 1 rfl).at_ 11 _ l11
 have d12 := (K2.at_ 1 rfl).at_ 12 _ l12
 have g1 := (K2.at_ 0 rfl).at_ 1 _ rfl
 clear far l0 l1 l2 l6 l7 l8 l9 l10 l11 l12 ho
 replace K := Lib.hid K2
 clear K2
 subst hb
 go_wp2_with (first | (refine wpList_load_mid rfl 51 (.tmp 9) rfl bb (bo + i * 18) rfl L _ er.out hud rfl (by rw [hl.out]; exact sizeBody) ?_) | (go_at_call 29; ((with_reducible refine (W1 _).mono ?_); rintro e w' ⟨rfl, rfl⟩)))
 refine (C.out _ K.out.old).mono ?_
 rintro _ v1 ⟨rfl, hb⟩
 replace K := K.out.on hb
 clear hb
 replace K := Lib.hid K
 go_wp2_with fail
 go_ret
 exact ⟨by first | rfl | trivial, K.out.old⟩
theorem rbd_3 {up : Int} {sz wn wc : Nat} {wao : Option Addr} {lt fn fc bn bc bb bo : Nat} {fao : Option Addr} {L : List Value} (hl : L.length = 18) (ho : L.toArray.all (·.oneCell') = true) (l0 : L[0]? = some (.int .i64 3)) (l1 : L[1]? = some (.int .i64 up)) (l2 : L[2]? = some (.float .f64 sz)) (l13 : L[13]? = some (.slice wao wn wc)) {i : Nat} {w : World} (hi : i < bn) (far : Hid (∀ W, Below w.heap.size w W → W.rangeAt bb (bo + i * 18) L)) {b1 : Bool} (W1 : ∀ w, Calls Tryz.prog 29 #[.float .f64 sz, .float .f64 4787326403894837248] w fun e w' => e = .returned (.bool b1) ∧ w = w') {k : Int} (C : Hid (∀ W, Below w.heap.size w W → Calls Tryz.prog 54 #[.slice wao wn wc] W fun e w' => e = .returned (.int .i64 k) ∧ Below W.heap.size W w')) (h1 : -1 ≤ up) (h2 : up < (i : Int)) (hb : b1 = true) (hs : (FloatKind.f64.format.order sz 0 == some Ordering.lt) = false) : Calls Tryz.prog 30 #[.agg #[.float .f64 lt, .slice fao fn fc, .slice (some ⟨bb, bo, none⟩) bn bc], .int .i64 (i : Int)] w fun e w' => e = .returned (.bool (k == 0)) ∧ Below w.heap.size w w' := by
 have K0 := kv1 w 26 [.float .f64 lt, .slice fao fn fc, .slice (some ⟨bb, bo, none⟩) bn bc]
 simp only [objV] at K0
 replace K0 := Lib.hid K0
 have hst := @fstore
 have hin : (i : Int) < (bn : Int) := by omega
 have hsn := ybody_store hl ho
 have hud := Tryz.underlying51
 replace hl := Lib.hid hl
 go_enter Tryz.func30, Tryz.ntmps30
 have K := K0.out
 clear K0
 go_upto_region 1 with fail
 have er := Lib.hid (far.out _ K.old)
 have K2 := K.new 51 L
 simp only [objV, List.cons_append, List.nil_append] at K2
 have c0_0 := (K.at_ 0 rfl).at_ 0 _ rfl
 have c0_1 := (K.at_ 0 rfl).at_ 1 _ rfl
 have c0_2 := (K.at_ 0 rfl).at_ 2 _ rfl
 generalize w.alloc _ = wr at *
 have d0 := (K2.at_ 1 rfl).at_ 0 _ l0
 have d1 := (K2.at_ 1 rfl).at_ 1 _ l1
 have d2 := (K2.at_ 1 rfl).at_ 2 _ l2
 have d13 := (K2.at_ 1 rfl).at_ 13 _ l13
 have g1 := (K2.at_ 0 rfl).at_ 1 _ rfl
 clear far l0 l1 l2 l13 ho
 replace K := Lib.hid K2
 clear K2
 subst hb
 go_wp2_with (first | (refine wpList_load_mid rfl 51 (.tmp 9) rfl bb (bo + i * 18) rfl L _ er.out hud rfl (by rw [hl.out]; exact sizeBody) ?_) | (go_at_call 29; ((with_reducible refine (W1 _).mono ?_); rintro e w' ⟨rfl, rfl⟩)))
 refine (C.out _ K.out.old).mono ?_
 rintro _ v1 ⟨rfl, hb⟩
 replace K := K.out.on hb
 clear hb
 replace K := Lib.hid K
 go_wp2_with fail
 go_ret
 exact ⟨by first | rfl | trivial, K.out.old⟩
theorem rbd_4 {up : Int} {sz tf ts tn tc : Nat} {tao : Option Addr} {lt fn fc bn bc bb bo : Nat} {fao : Option Addr} {L : List Value} (hl : L.length = 18) (ho : L.toArray.all (·.oneCell') = true) (l0 : L[0]? = some (.int .i64 4)) (l1 : L[1]? = some (.int .i64 up)) (l2 : L[2]? = some (.float .f64 sz)) (l14 : L[14]? = some (.float .f64 tf)) (l15 : L[15]? = some (.float .f64 ts)) (l16 : L[16]? = some (.slice tao tn tc)) {i : Nat} {w : World} (hi : i < bn) (far : Hid (∀ W, Below w.heap.size w W → W.rangeAt bb (bo + i * 18) L)) {b1 : Bool} (W1 : ∀ w, Calls Tryz.prog 29 #[.float .f64 sz, .float .f64 4787326403894837248] w fun e w' => e = .returned (.bool b1) ∧ w = w') {k : Int} (C : Hid (∀ W, Below w.heap.size w W → Calls Tryz.prog 55 #[.agg #[.float .f64 tf, .float .f64 ts, .slice tao tn tc]] W fun e w' => e = .returned (.int .i64 k) ∧ Below W.heap.size W w')) (h1 : -1 ≤ up) (h2 : up < (i : Int)) (hb : b1 = true) (hs : (FloatKind.f64.format.order sz 0 == some Ordering.lt) = false) (hk : k = 0) (ht : 0 < tn) : Calls Tryz.prog 30 #[.agg #[.float .f64 lt, .slice fao fn fc, .slice (some ⟨bb, bo, none⟩) bn bc], .int .i64 (i : Int)] w fun e w' => e = .returned (.bool true) ∧ Below w.heap.size w w' := by
 have K0 := kv1 w 26 [.float .f64 lt, .slice fao fn fc, .slice (some ⟨bb, bo, none⟩) bn bc]
 simp only [objV] at K0
 replace K0 := Lib.hid K0
 have hst := @fstore
 have hin : (i : Int) < (bn : Int) := by omega
 have r16 := Lib.hid l16
 have hsn := ybody_store hl ho
 have hud := Tryz.underlying51
 replace hl := Lib.hid hl
 go_enter Tryz.func30, Tryz.ntmps30
 have K := K0.out
 clear K0
 go_upto_region 1 with fail
 have er := Lib.hid (far.out _ K.old)
 have K2 := K.new 51 L
 simp only [objV, List.cons_append, List.nil_append] at K2
 have c0_0 := (K.at_ 0 rfl).at_ 0 _ rfl
 have c0_1 := (K.at_ 0 rfl).at_ 1 _ rfl
 have c0_2 := (K.at_ 0 rfl).at_ 2 _ rfl
 generalize w.alloc _ = wr at *
 have d0 := (K2.at_ 1 rfl).at_ 0 _ l0
 have d1 := (K2.at_ 1 rfl).at_ 1 _ l1
 have d2 := (K2.at_ 1 rfl).at_ 2 _ l2
 have d14 := (K2.at_ 1 rfl).at_ 14 _ l14
 have d15 := (K2.at_ 1 rfl).at_ 15 _ l15
 have d16 := (K2.at_ 1 rfl).at_ 16 _ l16
 have g1 := (K2.at_ 0 rfl).at_ 1 _ rfl
 clear far l0 l1 l2 l14 l15 l16 ho
 replace K := Lib.hid K2
 clear K2
 subst hk
 have t : decide (0 < tn) = true := decide_eq_true ht
 subst hb
 go_wp2_with (first | (refine wpList_load_mid rfl 51 (.tmp 9) rfl bb (bo + i * 18) rfl L _ er.out hud rfl (by rw [hl.out]; exact sizeBody) ?_) | (go_at_call 29; ((with_reducible refine (W1 _).mono ?_); rintro e w' ⟨rfl, rfl⟩)))
 refine (C.out _ K.out.old).mono ?_
 rintro _ v1 ⟨rfl, hb⟩
 replace K := K.out.on hb
 clear hb
 have x16 := (K.at_ 1 rfl).at_ 16 _ r16.out
 replace K := Lib.hid K
 clear d16
 go_wp2_with fail
 go_ret
 exact ⟨by first | rfl | trivial, K.out.old⟩
theorem rbd_4n {up : Int} {sz tf ts tn tc : Nat} {tao : Option Addr} {lt fn fc bn bc bb bo : Nat} {fao : Option Addr} {L : List Value} (hl : L.length = 18) (ho : L.toArray.all (·.oneCell') = true) (l0 : L[0]? = some (.int .i64 4)) (l1 : L[1]? = some (.int .i64 up)) (l2 : L[2]? = some (.float .f64 sz)) (l14 : L[14]? = some (.float .f64 tf)) (l15 : L[15]? = some (.float .f64 ts)) (l16 : L[16]? = some (.slice tao tn tc)) {i : Nat} {w : World} (hi : i < bn) (far : Hid (∀ W, Below w.heap.size w W → W.rangeAt bb (bo + i * 18) L)) {b1 : Bool} (W1 : ∀ w, Calls Tryz.prog 29 #[.float .f64 sz, .float .f64 4787326403894837248] w fun e w' => e = .returned (.bool b1) ∧ w = w') {k : Int} (C : Hid (∀ W, Below w.heap.size w W → Calls Tryz.prog 55 #[.agg #[.float .f64 tf, .float .f64 ts, .slice tao tn tc]] W fun e w' => e = .returned (.int .i64 k) ∧ Below W.heap.size W w')) (h1 : -1 ≤ up) (h2 : up < (i : Int)) (hb : b1 = true) (hs : (FloatKind.f64.format.order sz 0 == some Ordering.lt) = false) (hk : k = 0) (ht : ¬ 0 < tn) : Calls Tryz.prog 30 #[.agg #[.float .f64 lt, .slice fao fn fc, .slice (some ⟨bb, bo, none⟩) bn bc], .int .i64 (i : Int)] w fun e w' => e = .returned (.bool false) ∧ Below w.heap.size w w' := by
 have K0 := kv1 w 26 [.float .f64 lt, .slice fao fn fc, .slice (some ⟨bb, bo, none⟩) bn bc]
 simp only [objV] at K0
 replace K0 := Lib.hid K0
 have hst := @fstore
 have hin : (i : Int) < (bn : Int) := by omega
 have r16 := Lib.hid l16
 have hsn := ybody_store hl ho
 have hud := Tryz.underlying51
 replace hl := Lib.hid hl
 go_enter Tryz.func30, Tryz.ntmps30
 have K := K0.out
 clear K0
 go_upto_region 1 with fail
 have er := Lib.hid (far.out _ K.old)
 have K2 := K.new 51 L
 simp only [objV, List.cons_append, List.nil_append] at K2
 have c0_0 := (K.at_ 0 rfl).at_ 0 _ rfl
 have c0_1 := (K.at_ 0 rfl).at_ 1 _ rfl
 have c0_2 := (K.at_ 0 rfl).at_ 2 _ rfl
 generalize w.alloc _ = wr at *
 have d0 := (K2.at_ 1 rfl).at_ 0 _ l0
 have d1 := (K2.at_ 1 rfl).at_ 1 _ l1
 have d2 := (K2.at_ 1 rfl).at_ 2 _ l2
 have d14 := (K2.at_ 1 rfl).at_ 14 _ l14
 have d15 := (K2.at_ 1 rfl).at_ 15 _ l15
 have d16 := (K2.at_ 1 rfl).at_ 16 _ l16
 have g1 := (K2.at_ 0 rfl).at_ 1 _ rfl
 clear far l0 l1 l2 l14 l15 l16 ho
 replace K := Lib.hid K2
 clear K2
 subst hk
 have t : decide (0 < tn) = false := decide_eq_false ht
 subst hb
 go_wp2_with (first | (refine wpList_load_mid rfl 51 (.tmp 9) rfl bb (bo + i * 18) rfl L _ er.out hud rfl (by rw [hl.out]; exact sizeBody) ?_) | (go_at_call 29; ((with_reducible refine (W1 _).mono ?_); rintro e w' ⟨rfl, rfl⟩)))
 refine (C.out _ K.out.old).mono ?_
 rintro _ v1 ⟨rfl, hb⟩
 replace K := K.out.on hb
 clear hb
 have x16 := (K.at_ 1 rfl).at_ 16 _ r16.out
 replace K := Lib.hid K
 clear d16
 go_wp2_with fail
 go_ret
 exact ⟨by first | rfl | trivial, K.out.old⟩
theorem rbd_4k {up : Int} {sz tf ts tn tc : Nat} {tao : Option Addr} {lt fn fc bn bc bb bo : Nat} {fao : Option Addr} {L : List Value} (hl : L.length = 18) (ho : L.toArray.all (·.oneCell') = true) (l0 : L[0]? = some (.int .i64 4)) (l1 : L[1]? = some (.int .i64 up)) (l2 : L[2]? = some (.float .f64 sz)) (l14 : L[14]? = some (.float .f64 tf)) (l15 : L[15]? = some (.float .f64 ts)) (l16 : L[16]? = some (.slice tao tn tc)) {i : Nat} {w : World} (hi : i < bn) (far : Hid (∀ W, Below w.heap.size w W → W.rangeAt bb (bo + i * 18) L)) {b1 : Bool} (W1 : ∀ w, Calls Tryz.prog 29 #[.float .f64 sz, .float .f64 4787326403894837248] w fun e w' => e = .returned (.bool b1) ∧ w = w') {k : Int} (C : Hid (∀ W, Below w.heap.size w W → Calls Tryz.prog 55 #[.agg #[.float .f64 tf, .float .f64 ts, .slice tao tn tc]] W fun e w' => e = .returned (.int .i64 k) ∧ Below W.heap.size W w')) (h1 : -1 ≤ up) (h2 : up < (i : Int)) (hb : b1 = true) (hs : (FloatKind.f64.format.order sz 0 == some Ordering.lt) = false) (hk : ¬ k = 0) : Calls Tryz.prog 30 #[.agg #[.float .f64 lt, .slice fao fn fc, .slice (some ⟨bb, bo, none⟩) bn bc], .int .i64 (i : Int)] w fun e w' => e = .returned (.bool false) ∧ Below w.heap.size w w' := by
 have K0 := kv1 w 26 [.float .f64 lt, .slice fao fn fc, .slice (some ⟨bb, bo, none⟩) bn bc]
 simp only [objV] at K0
 replace K0 := Lib.hid K0
 have hst := @fstore
 have hin : (i : Int) < (bn : Int) := by omega

 have hsn := ybody_store hl ho
 have hud := Tryz.underlying51
 replace hl := Lib.hid hl
 go_enter Tryz.func30, Tryz.ntmps30
 have K := K0.out
 clear K0
 go_upto_region 1 with fail
 have er := Lib.hid (far.out _ K.old)
 have K2 := K.new 51 L
 simp only [objV, List.cons_append, List.nil_append] at K2
 have c0_0 := (K.at_ 0 rfl).at_ 0 _ rfl
 have c0_1 := (K.at_ 0 rfl).at_ 1 _ rfl
 have c0_2 := (K.at_ 0 rfl).at_ 2 _ rfl
 generalize w.alloc _ = wr at *
 have d0 := (K2.at_ 1 rfl).at_ 0 _ l0
 have d1 := (K2.at_ 1 rfl).at_ 1 _ l1
 have d2 := (K2.at_ 1 rfl).at_ 2 _ l2
 have d14 := (K2.at_ 1 rfl).at_ 14 _ l14
 have d15 := (K2.at_ 1 rfl).at_ 15 _ l15
 have d16 := (K2.at_ 1 rfl).at_ 16 _ l16
 have g1 := (K2.at_ 0 rfl).at_ 1 _ rfl
 clear far l0 l1 l2 l14 l15 l16 ho
 replace K := Lib.hid K2
 clear K2
 subst hb
 go_wp2_with (first | (refine wpList_load_mid rfl 51 (.tmp 9) rfl bb (bo + i * 18) rfl L _ er.out hud rfl (by rw [hl.out]; exact sizeBody) ?_) | (go_at_call 29; ((with_reducible refine (W1 _).mono ?_); rintro e w' ⟨rfl, rfl⟩)))
 refine (C.out _ K.out.old).mono ?_
 rintro _ v1 ⟨rfl, hb⟩
 replace K := K.out.on hb
 clear hb
 replace K := Lib.hid K
 go_wp2_with fail
 go_ret
 exact ⟨by first | rfl | trivial, K.out.old⟩
theorem rbd_5n {up fm : Int} {sz x1 x2 x3 : Nat} {lt fn fc bn bc bb bo : Nat} {fao : Option Addr} {L : List Value} (hl : L.length = 18) (ho : L.toArray.all (·.oneCell') = true) (l0 : L[0]? = some (.int .i64 5)) (l1 : L[1]? = some (.int .i64 up)) (l2 : L[2]? = some (.float .f64 sz)) (l3 : L[3]? = some (.float .f64 x1)) (l4 : L[4]? = some (.float .f64 x2)) (l5 : L[5]? = some (.float .f64 x3)) (l17 : L[17]? = some (.int .i64 fm)) {i : Nat} {w : World} (hi : i < bn) (far : Hid (∀ W, Below w.heap.size w W → W.rangeAt bb (bo + i * 18) L)) {b1 : Bool} (W1 : ∀ w, Calls Tryz.prog 29 #[.float .f64 sz, .float .f64 4787326403894837248] w fun e w' => e = .returned (.bool b1) ∧ w = w') {b : Bool} (C : Hid (∀ W, Below w.heap.size w W → Calls Tryz.prog 52 #[.agg #[.float .f64 x1, .float .f64 x2, .float .f64 x3]] W fun e w' => e = .returned (.bool b) ∧ Below W.heap.size W w')) (h1 : -1 ≤ up) (h2 : up < (i : Int)) (hb : b1 = true) (hs : (FloatKind.f64.format.order sz 0 == some Ordering.lt) = false) (hn : b = false) : Calls Tryz.prog 30 #[.agg #[.float .f64 lt, .slice fao fn fc, .slice (some ⟨bb, bo, none⟩) bn bc], .int .i64 (i : Int)] w fun e w' => e = .returned (.bool false) ∧ Below w.heap.size w w' := by
 have K0 := kv1 w 26 [.float .f64 lt, .slice fao fn fc, .slice (some ⟨bb, bo, none⟩) bn bc]
 simp only [objV] at K0
 replace K0 := Lib.hid K0
 have hst := @fstore
 have hin : (i : Int) < (bn : Int) := by omega

 have hsn := ybody_store hl ho
 have hud := Tryz.underlying51
 replace hl := Lib.hid hl
 go_enter Tryz.func30, Tryz.ntmps30
 have K := K0.out
 clear K0
 go_upto_region 1 with fail
 have er := Lib.hid (far.out _ K.old)
 have K2 := K.new 51 L
 simp only [objV, List.cons_append, List.nil_append] at K2
 have c0_0 := (K.at_ 0 rfl).at_ 0 _ rfl
 have c0_1 := (K.at_ 0 rfl).at_ 1 _ rfl
 have c0_2 := (K.at_ 0 rfl).at_ 2 _ rfl
 generalize w.alloc _ = wr at *
 have d0 := (K2.at_ 1 rfl).at_ 0 _ l0
 have d1 := (K2.at_ 1 rfl).at_ 1 _ l1
 have d2 := (K2.at_ 1 rfl).at_ 2 _ l2
 have d3 := (K2.at_ 1 rfl).at_ 3 _ l3
 have d4 := (K2.at_ 1 rfl).at_ 4 _ l4
 have d5 := (K2.at_ 1 rfl).at_ 5 _ l5
 have d17 := (K2.at_ 1 rfl).at_ 17 _ l17
 have g1 := (K2.at_ 0 rfl).at_ 1 _ rfl
 clear far l0 l1 l2 l3 l4 l5 l17 ho
 replace K := Lib.hid K2
 clear K2
 subst hn
 subst hb
 go_wp2_with (first | (refine wpList_load_mid rfl 51 (.tmp 9) rfl bb (bo + i * 18) rfl L _ er.out hud rfl (by rw [hl.out]; exact sizeBody) ?_) | (go_at_call 29; ((with_reducible refine (W1 _).mono ?_); rintro e w' ⟨rfl, rfl⟩)))
 refine (C.out _ K.out.old).mono ?_
 rintro _ v1 ⟨rfl, hb⟩
 replace K := K.out.on hb
 clear hb
 replace K := Lib.hid K
 go_wp2_with fail
 go_ret
 exact ⟨by first | rfl | trivial, K.out.old⟩
theorem rbd_5a {up fm : Int} {sz x1 x2 x3 : Nat} {lt fn fc bn bc bb bo : Nat} {fao : Option Addr} {L : List Value} (hl : L.length = 18) (ho : L.toArray.all (·.oneCell') = true) (l0 : L[0]? = some (.int .i64 5)) (l1 : L[1]? = some (.int .i64 up)) (l2 : L[2]? = some (.float .f64 sz)) (l3 : L[3]? = some (.float .f64 x1)) (l4 : L[4]? = some (.float .f64 x2)) (l5 : L[5]? = some (.float .f64 x3)) (l17 : L[17]? = some (.int .i64 fm)) {i : Nat} {w : World} (hi : i < bn) (far : Hid (∀ W, Below w.heap.size w W → W.rangeAt bb (bo + i * 18) L)) {b1 : Bool} (W1 : ∀ w, Calls Tryz.prog 29 #[.float .f64 sz, .float .f64 4787326403894837248] w fun e w' => e = .returned (.bool b1) ∧ w = w') {b : Bool} (C : Hid (∀ W, Below w.heap.size w W → Calls Tryz.prog 52 #[.agg #[.float .f64 x1, .float .f64 x2, .float .f64 x3]] W fun e w' => e = .returned (.bool b) ∧ Below W.heap.size W w')) (h1 : -1 ≤ up) (h2 : up < (i : Int)) (hb : b1 = true) (hs : (FloatKind.f64.format.order sz 0 == some Ordering.lt) = false) (hn : b = true) (f0 : ¬ 0 ≤ fm) : Calls Tryz.prog 30 #[.agg #[.float .f64 lt, .slice fao fn fc, .slice (some ⟨bb, bo, none⟩) bn bc], .int .i64 (i : Int)] w fun e w' => e = .returned (.bool false) ∧ Below w.heap.size w w' := by
 have K0 := kv1 w 26 [.float .f64 lt, .slice fao fn fc, .slice (some ⟨bb, bo, none⟩) bn bc]
 simp only [objV] at K0
 replace K0 := Lib.hid K0
 have hst := @fstore
 have hin : (i : Int) < (bn : Int) := by omega
 have r17 := Lib.hid l17
 have hsn := ybody_store hl ho
 have hud := Tryz.underlying51
 replace hl := Lib.hid hl
 go_enter Tryz.func30, Tryz.ntmps30
 have K := K0.out
 clear K0
 go_upto_region 1 with fail
 have er := Lib.hid (far.out _ K.old)
 have K2 := K.new 51 L
 simp only [objV, List.cons_append, List.nil_append] at K2
 have c0_0 := (K.at_ 0 rfl).at_ 0 _ rfl
 have c0_1 := (K.at_ 0 rfl).at_ 1 _ rfl
 have c0_2 := (K.at_ 0 rfl).at_ 2 _ rfl
 generalize w.alloc _ = wr at *
 have d0 := (K2.at_ 1 rfl).at_ 0 _ l0
 have d1 := (K2.at_ 1 rfl).at_ 1 _ l1
 have d2 := (K2.at_ 1 rfl).at_ 2 _ l2
 have d3 := (K2.at_ 1 rfl).at_ 3 _ l3
 have d4 := (K2.at_ 1 rfl).at_ 4 _ l4
 have d5 := (K2.at_ 1 rfl).at_ 5 _ l5
 have d17 := (K2.at_ 1 rfl).at_ 17 _ l17
 have g1 := (K2.at_ 0 rfl).at_ 1 _ rfl
 clear far l0 l1 l2 l3 l4 l5 l17 ho
 replace K := Lib.hid K2
 clear K2
 subst hn
 subst hb
 go_wp2_with (first | (refine wpList_load_mid rfl 51 (.tmp 9) rfl bb (bo + i * 18) rfl L _ er.out hud rfl (by rw [hl.out]; exact sizeBody) ?_) | (go_at_call 29; ((with_reducible refine (W1 _).mono ?_); rintro e w' ⟨rfl, rfl⟩)))
 refine (C.out _ K.out.old).mono ?_
 rintro _ v1 ⟨rfl, hb⟩
 replace K := K.out.on hb
 clear hb
 have x17 := (K.at_ 1 rfl).at_ 17 _ r17.out
 have y1 := (K.at_ 0 rfl).at_ 1 _ rfl
 replace K := Lib.hid K
 clear d17 g1
 go_wp2_with fail
 go_ret
 exact ⟨by first | rfl | trivial | (show Ending.returned (.bool (decide (fm < (fn : Int)))) = _; rw [decide_eq_false (by omega)]) | (show Ending.returned (.bool (decide (fm < (fn : Int)))) = _; rw [decide_eq_true (by omega)]), K.out.old⟩
theorem rbd_5b {up fm : Int} {sz x1 x2 x3 : Nat} {lt fn fc bn bc bb bo : Nat} {fao : Option Addr} {L : List Value} (hl : L.length = 18) (ho : L.toArray.all (·.oneCell') = true) (l0 : L[0]? = some (.int .i64 5)) (l1 : L[1]? = some (.int .i64 up)) (l2 : L[2]? = some (.float .f64 sz)) (l3 : L[3]? = some (.float .f64 x1)) (l4 : L[4]? = some (.float .f64 x2)) (l5 : L[5]? = some (.float .f64 x3)) (l17 : L[17]? = some (.int .i64 fm)) {i : Nat} {w : World} (hi : i < bn) (far : Hid (∀ W, Below w.heap.size w W → W.rangeAt bb (bo + i * 18) L)) {b1 : Bool} (W1 : ∀ w, Calls Tryz.prog 29 #[.float .f64 sz, .float .f64 4787326403894837248] w fun e w' => e = .returned (.bool b1) ∧ w = w') {b : Bool} (C : Hid (∀ W, Below w.heap.size w W → Calls Tryz.prog 52 #[.agg #[.float .f64 x1, .float .f64 x2, .float .f64 x3]] W fun e w' => e = .returned (.bool b) ∧ Below W.heap.size W w')) (h1 : -1 ≤ up) (h2 : up < (i : Int)) (hb : b1 = true) (hs : (FloatKind.f64.format.order sz 0 == some Ordering.lt) = false) (hn : b = true) (f0 : 0 ≤ fm) (f1 : ¬ fm < (fn : Int)) : Calls Tryz.prog 30 #[.agg #[.float .f64 lt, .slice fao fn fc, .slice (some ⟨bb, bo, none⟩) bn bc], .int .i64 (i : Int)] w fun e w' => e = .returned (.bool false) ∧ Below w.heap.size w w' := by
 have K0 := kv1 w 26 [.float .f64 lt, .slice fao fn fc, .slice (some ⟨bb, bo, none⟩) bn bc]
 simp only [objV] at K0
 replace K0 := Lib.hid K0
 have hst := @fstore
 have hin : (i : Int) < (bn : Int) := by omega
 have r17 := Lib.hid l17
 have hsn := ybody_store hl ho
 have hud := Tryz.underlying51
 replace hl := Lib.hid hl
 go_enter Tryz.func30, Tryz.ntmps30
 have K := K0.out
 clear K0
 go_upto_region 1 with fail
 have er := Lib.hid (far.out _ K.old)
 have K2 := K.new 51 L
 simp only [objV, List.cons_append, List.nil_append] at K2
 have c0_0 := (K.at_ 0 rfl).at_ 0 _ rfl
 have c0_1 := (K.at_ 0 rfl).at_ 1 _ rfl
 have c0_2 := (K.at_ 0 rfl).at_ 2 _ rfl
 generalize w.alloc _ = wr at *
 have d0 := (K2.at_ 1 rfl).at_ 0 _ l0
 have d1 := (K2.at_ 1 rfl).at_ 1 _ l1
 have d2 := (K2.at_ 1 rfl).at_ 2 _ l2
 have d3 := (K2.at_ 1 rfl).at_ 3 _ l3
 have d4 := (K2.at_ 1 rfl).at_ 4 _ l4
 have d5 := (K2.at_ 1 rfl).at_ 5 _ l5
 have d17 := (K2.at_ 1 rfl).at_ 17 _ l17
 have g1 := (K2.at_ 0 rfl).at_ 1 _ rfl
 clear far l0 l1 l2 l3 l4 l5 l17 ho
 replace K := Lib.hid K2
 clear K2
 subst hn
 subst hb
 go_wp2_with (first | (refine wpList_load_mid rfl 51 (.tmp 9) rfl bb (bo + i * 18) rfl L _ er.out hud rfl (by rw [hl.out]; exact sizeBody) ?_) | (go_at_call 29; ((with_reducible refine (W1 _).mono ?_); rintro e w' ⟨rfl, rfl⟩)))
 refine (C.out _ K.out.old).mono ?_
 rintro _ v1 ⟨rfl, hb⟩
 replace K := K.out.on hb
 clear hb
 have x17 := (K.at_ 1 rfl).at_ 17 _ r17.out
 have y1 := (K.at_ 0 rfl).at_ 1 _ rfl
 replace K := Lib.hid K
 clear d17 g1
 go_wp2_with fail
 go_ret
 exact ⟨by first | rfl | trivial | (show Ending.returned (.bool (decide (fm < (fn : Int)))) = _; rw [decide_eq_false (by omega)]) | (show Ending.returned (.bool (decide (fm < (fn : Int)))) = _; rw [decide_eq_true (by omega)]), K.out.old⟩
theorem rbd_5 {up fm : Int} {sz x1 x2 x3 : Nat} {lt fn fc bn bc bb bo : Nat} {fao : Option Addr} {L : List Value} (hl : L.length = 18) (ho : L.toArray.all (·.oneCell') = true) (l0 : L[0]? = some (.int .i64 5)) (l1 : L[1]? = some (.int .i64 up)) (l2 : L[2]? = some (.float .f64 sz)) (l3 : L[3]? = some (.float .f64 x1)) (l4 : L[4]? = some (.float .f64 x2)) (l5 : L[5]? = some (.float .f64 x3)) (l17 : L[17]? = some (.int .i64 fm)) {i : Nat} {w : World} (hi : i < bn) (far : Hid (∀ W, Below w.heap.size w W → W.rangeAt bb (bo + i * 18) L)) {b1 : Bool} (W1 : ∀ w, Calls Tryz.prog 29 #[.float .f64 sz, .float .f64 4787326403894837248] w fun e w' => e = .returned (.bool b1) ∧ w = w') {b : Bool} (C : Hid (∀ W, Below w.heap.size w W → Calls Tryz.prog 52 #[.agg #[.float .f64 x1, .float .f64 x2, .float .f64 x3]] W fun e w' => e = .returned (.bool b) ∧ Below W.heap.size W w')) (h1 : -1 ≤ up) (h2 : up < (i : Int)) (hb : b1 = true) (hs : (FloatKind.f64.format.order sz 0 == some Ordering.lt) = false) (hn : b = true) (f0 : 0 ≤ fm) (f1 : fm < (fn : Int)) : Calls Tryz.prog 30 #[.agg #[.float .f64 lt, .slice fao fn fc, .slice (some ⟨bb, bo, none⟩) bn bc], .int .i64 (i : Int)] w fun e w' => e = .returned (.bool true) ∧ Below w.heap.size w w' := by
 have K0 := kv1 w 26 [.float .f64 lt, .slice fao fn fc, .slice (some ⟨bb, bo, none⟩) bn bc]
 simp only [objV] at K0
 replace K0 := Lib.hid K0
 have hst := @fstore
 have hin : (i : Int) < (bn : Int) := by omega
 have r17 := Lib.hid l17
 have hsn := ybody_store hl ho
 have hud := Tryz.underlying51
 replace hl := Lib.hid hl
 go_enter Tryz.func30, Tryz.ntmps30
 have K := K0.out
 clear K0
 go_upto_region 1 with fail
 have er := Lib.hid (far.out _ K.old)
 have K2 := K.new 51 L
 simp only [objV, List.cons_append, List.nil_append] at K2
 have c0_0 := (K.at_ 0 rfl).at_ 0 _ rfl
 have c0_1 := (K.at_ 0 rfl).at_ 1 _ rfl
 have c0_2 := (K.at_ 0 rfl).at_ 2 _ rfl
 generalize w.alloc _ = wr at *
 have d0 := (K2.at_ 1 rfl).at_ 0 _ l0
 have d1 := (K2.at_ 1 rfl).at_ 1 _ l1
 have d2 := (K2.at_ 1 rfl).at_ 2 _ l2
 have d3 := (K2.at_ 1 rfl).at_ 3 _ l3
 have d4 := (K2.at_ 1 rfl).at_ 4 _ l4
 have d5 := (K2.at_ 1 rfl).at_ 5 _ l5
 have d17 := (K2.at_ 1 rfl).at_ 17 _ l17
 have g1 := (K2.at_ 0 rfl).at_ 1 _ rfl
 clear far l0 l1 l2 l3 l4 l5 l17 ho
 replace K := Lib.hid K2
 clear K2
 subst hn
 subst hb
 go_wp2_with (first | (refine wpList_load_mid rfl 51 (.tmp 9) rfl bb (bo + i * 18) rfl L _ er.out hud rfl (by rw [hl.out]; exact sizeBody) ?_) | (go_at_call 29; ((with_reducible refine (W1 _).mono ?_); rintro e w' ⟨rfl, rfl⟩)))
 refine (C.out _ K.out.old).mono ?_
 rintro _ v1 ⟨rfl, hb⟩
 replace K := K.out.on hb
 clear hb
 have x17 := (K.at_ 1 rfl).at_ 17 _ r17.out
 have y1 := (K.at_ 0 rfl).at_ 1 _ rfl
 replace K := Lib.hid K
 clear d17 g1
 go_wp2_with fail
 go_ret
 exact ⟨by first | rfl | trivial | (show Ending.returned (.bool (decide (fm < (fn : Int)))) = _; rw [decide_eq_false (by omega)]) | (show Ending.returned (.bool (decide (fm < (fn : Int)))) = _; rw [decide_eq_true (by omega)]), K.out.old⟩
theorem rbd_0 {kd up : Int} {sz : Nat} {lt fn fc bn bc bb bo : Nat} {fao : Option Addr} {L : List Value} (hl : L.length = 18) (ho : L.toArray.all (·.oneCell') = true) (l0 : L[0]? = some (.int .i64 kd)) (l1 : L[1]? = some (.int .i64 up)) (l2 : L[2]? = some (.float .f64 sz)) {i : Nat} {w : World} (hi : i < bn) (far : Hid (∀ W, Below w.heap.size w W → W.rangeAt bb (bo + i * 18) L)) {b1 : Bool} (W1 : ∀ w, Calls Tryz.prog 29 #[.float .f64 sz, .float .f64 4787326403894837248] w fun e w' => e = .returned (.bool b1) ∧ w = w')  (h1 : -1 ≤ up) (h2 : up < (i : Int)) (hb : b1 = true) (hs : (FloatKind.f64.format.order sz 0 == some Ordering.lt) = false) (k1 : ¬ kd = 1) (k2 : ¬ kd = 2) (k3 : ¬ kd = 3) (k4 : ¬ kd = 4) (k5 : ¬ kd = 5) : Calls Tryz.prog 30 #[.agg #[.float .f64 lt, .slice fao fn fc, .slice (some ⟨bb, bo, none⟩) bn bc], .int .i64 (i : Int)] w fun e w' => e = .returned (.bool false) ∧ Below w.heap.size w w' := by
 have K0 := kv1 w 26 [.float .f64 lt, .slice fao fn fc, .slice (some ⟨bb, bo, none⟩) bn bc]
 simp only [objV] at K0
 replace K0 := Lib.hid K0
 have hst := @fstore
 have hin : (i : Int) < (bn : Int) := by omega
 have hsn := ybody_store hl ho
 have hud := Tryz.underlying51
 replace hl := Lib.hid hl
 go_enter Tryz.func30, Tryz.ntmps30
 have K := K0.out
 clear K0
 go_upto_region 1 with fail
 have er := Lib.hid (far.out _ K.old)
 have K2 := K.new 51 L
 simp only [objV, List.cons_append, List.nil_append] at K2
 have c0_0 := (K.at_ 0 rfl).at_ 0 _ rfl
 have c0_1 := (K.at_ 0 rfl).at_ 1 _ rfl
 have c0_2 := (K.at_ 0 rfl).at_ 2 _ rfl
 generalize w.alloc _ = wr at *
 have d0 := (K2.at_ 1 rfl).at_ 0 _ l0
 have d1 := (K2.at_ 1 rfl).at_ 1 _ l1
 have d2 := (K2.at_ 1 rfl).at_ 2 _ l2
 have g1 := (K2.at_ 0 rfl).at_ 1 _ rfl
 clear far l0 l1 l2 ho
 replace K := Lib.hid K2
 clear K2
 subst hb
 go_wp2_with (first | (refine wpList_load_mid rfl 51 (.tmp 9) rfl bb (bo + i * 18) rfl L _ er.out hud rfl (by rw [hl.out]; exact sizeBody) ?_) | (go_at_call 29; ((with_reducible refine (W1 _).mono ?_); rintro e w' ⟨rfl, rfl⟩)))
 go_ret
 exact ⟨by first | rfl | trivial, K.out.old⟩
def goR (n : Nat) (b : Bo) : Bool :=
 if b.kd = 1 then neB b.at_ else if b.kd = 2 then chkO b.orb == 0 else if b.kd = 3 then chkV b.wvs == 0
 else if b.kd = 4 then decide (chkT b.tab = 0 ∧ 0 < b.tab.rows.length) else if b.kd = 5 then neB b.at_ && decide (0 ≤ b.frm ∧ b.frm < n) else false
def mayR (n i : Nat) (b : Bo) : Bool := decide (-1 ≤ b.up ∧ b.up < i) && (witB g40 b.sz && (!(FloatKind.f64.format.order b.sz 0 == some Ordering.lt) && goR n b))
theorem rbody_run {M : List Bm} (hW : ∀ m ∈ M, BoW m.b) (hU : ∀ m ∈ M, TbUp m.b.tab) {lt fn fc bn bc i : Nat} {fao bao : Option Addr} {w : World} (hn : bn = M.length) (hi : i < bn) (ha : BsAt w bao M) :
 Calls Tryz.prog 30 #[.agg #[.float .f64 lt, .slice fao fn fc, .slice bao bn bc], .int .i64 (i : Int)] w fun e w' => e = .returned (.bool (mayR fn i (bmAt M i).b)) ∧ Below w.heap.size w w' := by
 subst hn
 have hm := bm_mem hi
 obtain ⟨bb, bo, rfl, hb, hc⟩ := ha.row hi
 have far : Hid (∀ W, Below w.heap.size w W → W.rangeAt bb (bo + i * 18) (bmC (bmAt M i))) := Lib.hid fun W h k u e => (h.cell (p := ⟨bb, _, none⟩) hb).trans (hc k u e)
 have hB := ha.each _ hm
 have hM := hW _ hm
 have hT := hU _ hm
 clear hc hb hm ha hW hU
 generalize bmAt M i = m at *
 have W1 := fun w => rwit15_40 m.b.sz hM.sz w
 have CN : Hid (∀ W, Below w.heap.size w W → Calls Tryz.prog 52 #[vecV m.b.at_] W fun e w' => e = .returned (.bool (neB m.b.at_)) ∧ Below W.heap.size W w') := Lib.hid fun W _ => rnear15_run hM.at_ W
 have CO : Hid (∀ W, Below w.heap.size w W → Calls Tryz.prog 53 #[obV m.b.orb] W fun e w' => e = .returned (.int .i64 (chkO m.b.orb)) ∧ Below W.heap.size W w') := Lib.hid fun W _ => rcheckO_run hM.orb W
 have CW : Hid (∀ W, Below w.heap.size w W → Calls Tryz.prog 54 #[.slice m.wao m.b.wvs.length m.wcap] W fun e w' => e = .returned (.int .i64 (chkV m.b.wvs)) ∧ Below W.heap.size W w') := Lib.hid fun W hb => rcheck12_run _ _ _ _ W rfl (by have := hM.wl; omega) hM.wvs (RAt.on hB.wv hb)
 have CT : Hid (∀ W, Below w.heap.size w W → Calls Tryz.prog 55 #[tbV m.b.tab m.tao m.tcap] W fun e w' => e = .returned (.int .i64 (chkT m.b.tab)) ∧ Below W.heap.size W w') := Lib.hid fun W hb => rcheck13_run _ _ W (by have := hM.tl.n; omega) hM.tab hT (hB.tb.on hb)
 have hl : (bmC m).length = 18 := rfl
 have ho : (bmC m).toArray.all (·.oneCell') = true := bm_one m
 clear hM hT hB
 unfold mayR goR
 by_cases h1 : -1 ≤ m.b.up
 · by_cases h2 : m.b.up < (i : Int)
   · rw [decide_eq_true ⟨h1, h2⟩, Bool.true_and]
     cases hb1 : witB g40 m.b.sz with
     | false => exact rbd_c (kd := m.b.kd) hl ho rfl rfl rfl hi far W1 h1 h2 hb1
     | true =>
       cases hs : (FloatKind.f64.format.order m.b.sz 0 == some Ordering.lt) with
       | true => exact rbd_d (kd := m.b.kd) hl ho rfl rfl rfl hi far W1 h1 h2 hb1 hs
       | false =>
         simp only [Bool.true_and, Bool.not_false]
         obtain ⟨⟨kd, up, sz, ⟨x1, x2, x3⟩, ⟨o1, o2, o3, o4, o5, o6, o7⟩, wvs, ⟨tf, ts, rows⟩, fm⟩, wao, wc, tao, tc⟩ := m
         dsimp only at *
         by_cases k1 : kd = 1
         · subst k1
           rw [if_pos rfl]
           exact rbd_1 hl ho rfl rfl rfl rfl rfl rfl hi far W1 CN h1 h2 hb1 hs
         rw [if_neg k1]
         by_cases k2 : kd = 2
         · subst k2
           rw [if_pos rfl]
           exact rbd_2 hl ho rfl rfl rfl rfl rfl rfl rfl rfl rfl rfl hi far W1 CO h1 h2 hb1 hs
         rw [if_neg k2]
         by_cases k3 : kd = 3
         · subst k3
           rw [if_pos rfl]
           exact rbd_3 hl ho rfl rfl rfl rfl hi far W1 CW h1 h2 hb1 hs
         rw [if_neg k3]
         by_cases k4 : kd = 4
         · subst k4
           rw [if_pos rfl]
           by_cases q : chkT ⟨tf, ts, rows⟩ = 0
           · by_cases r : 0 < rows.length
             · rw [decide_eq_true ⟨q, r⟩]
               exact rbd_4 hl ho rfl rfl rfl rfl rfl rfl hi far W1 CT h1 h2 hb1 hs q r
             · rw [decide_eq_false (fun h => r h.2)]
               exact rbd_4n hl ho rfl rfl rfl rfl rfl rfl hi far W1 CT h1 h2 hb1 hs q r
           · rw [decide_eq_false (fun h => q h.1)]
             exact rbd_4k hl ho rfl rfl rfl rfl rfl rfl hi far W1 CT h1 h2 hb1 hs q
         rw [if_neg k4]
         by_cases k5 : kd = 5
         · subst k5
           rw [if_pos rfl]
           cases hn : neB (x1, x2, x3) with
           | false => exact rbd_5n hl ho rfl rfl rfl rfl rfl rfl rfl hi far W1 CN h1 h2 hb1 hs hn
           | true =>
             rw [Bool.true_and]
             by_cases q : 0 ≤ fm
             · by_cases r : fm < (fn : Int)
               · rw [decide_eq_true ⟨q, r⟩]
                 exact rbd_5 hl ho rfl rfl rfl rfl rfl rfl rfl hi far W1 CN h1 h2 hb1 hs hn q r
               · rw [decide_eq_false (fun h => r h.2)]
                 exact rbd_5b hl ho rfl rfl rfl rfl rfl rfl rfl hi far W1 CN h1 h2 hb1 hs hn q r
             · rw [decide_eq_false (fun h => q h.1)]
               exact rbd_5a hl ho rfl rfl rfl rfl rfl rfl rfl hi far W1 CN h1 h2 hb1 hs hn q
         rw [if_neg k5]
         exact rbd_0 hl ho rfl rfl rfl hi far W1 h1 h2 hb1 hs k1 k2 k3 k4 k5
   · rw [decide_eq_false (fun h => h2 h.2), Bool.false_and]
     exact rbd_b (kd := m.b.kd) hl ho rfl rfl rfl hi far W1 h1 h2
 · rw [decide_eq_false (fun h => h1 h.1), Bool.false_and]
   exact rbd_a (kd := m.b.kd) hl ho rfl rfl rfl hi far W1 h1
end Go.Proofs.YtacinenddnfcbaaGreat
