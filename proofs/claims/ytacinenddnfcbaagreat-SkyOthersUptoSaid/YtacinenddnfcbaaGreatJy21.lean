/- Proved here: what the texts Kab, Kac prove, one behind the other. -/
import Derived.Test.YtacinenddnfcbaaGreatJy20
import Derived.Test.YtacinenddnfcbaaGreatJy5
import Derived.Test.YtacinenddnfcbaaGreatJy4

set_option maxHeartbeats 4000000
set_option maxRecDepth 100000
namespace Go.Proofs.YtacinenddnfcbaaGreat
open Go.ChangeShapes Go.WideShapes Go.ChangeAt Go.RowKit Ieee.Own

theorem ywithin_run {l g x : Nat} (hx : x < 18446744073709551616) (hl : FinW l) (hg : FinW g) (w : World) :
 Calls Tryz.prog 70 #[.float .f64 x, .float .f64 l, .float .f64 g] w fun e w' => e = .returned (.bool (btwB l g x)) ∧ w = w' := by
 have CF := fun w => fit_any x hx w
 unfold btwB
 by_cases h : fitB x = true
 · have fx := fit_fin hx h
   have g1 := le_words hl fx
   have g2 := le_words fx hg
   rw [h] at CF ⊢
   generalize decide (V l ≤ V x) = p at *
   generalize decide (V x ≤ V g) = q at *
   clear fx hx hl hg h
   cases p <;> cases q <;> (
    go_enter Tryz.func70, Tryz.ntmps70
    go_wp2_with (go_at_call 72; ((with_reducible refine (CF _).mono ?_); rintro e w' ⟨rfl, rfl⟩))
    go_ret
    exact ⟨rfl, rfl⟩)
 · rw [Bool.not_eq_true] at h
   rw [h] at CF ⊢
   clear hx hl hg h
   go_enter Tryz.func70, Tryz.ntmps70
   go_wp2_with (go_at_call 72; ((with_reducible refine (CF _).mono ?_); rintro e w' ⟨rfl, rfl⟩))
   go_ret
   exact ⟨rfl, rfl⟩
def skB (x : Nat) : Bool := btwB 14010698440749613056 4787326403894837248 x
def skV (v : V3) : Bool := skB v.1 && (skB v.2.1 && skB v.2.2)
theorem yfitat_run {v : V3} (h : W3 v) (w : World) : Calls Tryz.prog 202 #[vecV v] w fun e w' => e = .returned (.bool (skV v)) ∧ Below w.heap.size w w' := by
 have C1 := fun w => ywithin_run (l := 14010698440749613056) (g := 4787326403894837248) h.l1 (by unfold FinW; omega) (by unfold FinW; omega) w
 have C2 := fun w => ywithin_run (l := 14010698440749613056) (g := 4787326403894837248) h.l2 (by unfold FinW; omega) (by unfold FinW; omega) w
 have C3 := fun w => ywithin_run (l := 14010698440749613056) (g := 4787326403894837248) h.l3 (by unfold FinW; omega) (by unfold FinW; omega) w
 clear h
 unfold skV skB vecV
 obtain ⟨x1, x2, x3⟩ := v
 dsimp only at *
 generalize btwB 14010698440749613056 4787326403894837248 x1 = b1 at *
 generalize btwB 14010698440749613056 4787326403894837248 x2 = b2 at *
 generalize btwB 14010698440749613056 4787326403894837248 x3 = b3 at *
 have K := kv1 w 41 [.float .f64 x1, .float .f64 x2, .float .f64 x3]
 simp only [objV] at K
 have c0 := (K.at_ 0 rfl).at_ 0 _ rfl
 have c1 := (K.at_ 0 rfl).at_ 1 _ rfl
 have c2 := (K.at_ 0 rfl).at_ 2 _ rfl
 replace K := Lib.hid K
 cases b1 <;> cases b2 <;> cases b3 <;> (
  go_enter Tryz.func202, Tryz.ntmps202
  go_wp2_with (first | (go_at_call 70; ((with_reducible refine (C1 _).mono ?_); rintro e w' ⟨rfl, rfl⟩)) | (go_at_call 70; ((with_reducible refine (C2 _).mono ?_); rintro e w' ⟨rfl, rfl⟩)) | (go_at_call 70; ((with_reducible refine (C3 _).mono ?_); rintro e w' ⟨rfl, rfl⟩)))
  go_ret
  exact ⟨rfl, K.out.old⟩)
theorem ymaygo1 {up fm : Int} {sz x1 x2 x3 o1 o2 o3 o4 o5 o6 o7 tf ts wn wc tn tc : Nat} {wao tao : Option Addr} {fao : Option Addr} {fn fc : Nat} {b : Bool} {w : World} (C : Hid (∀ W, Below w.heap.size w W → Calls Tryz.prog 202 #[.agg #[.float .f64 x1, .float .f64 x2, .float .f64 x3]] W fun e w' => e = .returned (.bool b) ∧ Below W.heap.size W w')) : Calls Tryz.prog 132 #[.slice fao fn fc, .agg #[.int .i64 1, .int .i64 up, .float .f64 sz, .float .f64 x1, .float .f64 x2, .float .f64 x3, .float .f64 o1, .float .f64 o2, .float .f64 o3, .float .f64 o4, .float .f64 o5, .float .f64 o6, .float .f64 o7, .slice wao wn wc, .float .f64 tf, .float .f64 ts, .slice tao tn tc, .int .i64 fm]] w fun e w' => e = .returned (.bool b) ∧ Below w.heap.size w w' := by
 have K0 := kv1 w 51 [.int .i64 1, .int .i64 up, .float .f64 sz, .float .f64 x1, .float .f64 x2, .float .f64 x3, .float .f64 o1, .float .f64 o2, .float .f64 o3, .float .f64 o4, .float .f64 o5, .float .f64 o6, .float .f64 o7, .slice wao wn wc, .float .f64 tf, .float .f64 ts, .slice tao tn tc, .int .i64 fm]
 simp only [objV] at K0
 replace K0 := Lib.hid K0
 have hst := @fstore
 go_enter Tryz.func132, Tryz.ntmps132
 have K := K0.out
 clear K0
 have c0_0 := (K.at_ 0 rfl).at_ 0 _ rfl
 have c0_1 := (K.at_ 0 rfl).at_ 1 _ rfl
 have c0_2 := (K.at_ 0 rfl).at_ 2 _ rfl
 have c0_3 := (K.at_ 0 rfl).at_ 3 _ rfl
 have c0_4 := (K.at_ 0 rfl).at_ 4 _ rfl
 have c0_5 := (K.at_ 0 rfl).at_ 5 _ rfl
 have c0_6 := (K.at_ 0 rfl).at_ 6 _ rfl
 have c0_7 := (K.at_ 0 rfl).at_ 7 _ rfl
 have c0_8 := (K.at_ 0 rfl).at_ 8 _ rfl
 have c0_9 := (K.at_ 0 rfl).at_ 9 _ rfl
 have c0_10 := (K.at_ 0 rfl).at_ 10 _ rfl
 have c0_11 := (K.at_ 0 rfl).at_ 11 _ rfl
 have c0_12 := (K.at_ 0 rfl).at_ 12 _ rfl
 have c0_13 := (K.at_ 0 rfl).at_ 13 _ rfl
 have c0_14 := (K.at_ 0 rfl).at_ 14 _ rfl
 have c0_15 := (K.at_ 0 rfl).at_ 15 _ rfl
 have c0_16 := (K.at_ 0 rfl).at_ 16 _ rfl
 have c0_17 := (K.at_ 0 rfl).at_ 17 _ rfl
 replace K := Lib.hid K
 go_wp2_with fail
 refine (C.out _ K.out.old).mono ?_
 rintro _ v1 ⟨rfl, hb⟩
 replace K := Lib.hid (K.out.on hb)
 clear hb
 go_wp2_with fail
 go_ret
 exact ⟨by first | rfl | trivial, K.out.old⟩
theorem ymaygo2 {up fm : Int} {sz x1 x2 x3 o1 o2 o3 o4 o5 o6 o7 tf ts wn wc tn tc : Nat} {wao tao : Option Addr} {fao : Option Addr} {fn fc : Nat} {k : Int} {w : World} (C : Hid (∀ W, Below w.heap.size w W → Calls Tryz.prog 133 #[.agg #[.float .f64 o1, .float .f64 o2, .float .f64 o3, .float .f64 o4, .float .f64 o5, .float .f64 o6, .float .f64 o7]] W fun e w' => e = .returned (.int .i64 k) ∧ Below W.heap.size W w')) : Calls Tryz.prog 132 #[.slice fao fn fc, .agg #[.int .i64 2, .int .i64 up, .float .f64 sz, .float .f64 x1, .float .f64 x2, .float .f64 x3, .float .f64 o1, .float .f64 o2, .float .f64 o3, .float .f64 o4, .float .f64 o5, .float .f64 o6, .float .f64 o7, .slice wao wn wc, .float .f64 tf, .float .f64 ts, .slice tao tn tc, .int .i64 fm]] w fun e w' => e = .returned (.bool (k == 0)) ∧ Below w.heap.size w w' := by
 have K0 := kv1 w 51 [.int .i64 2, .int .i64 up, .float .f64 sz, .float .f64 x1, .float .f64 x2, .float .f64 x3, .float .f64 o1, .float .f64 o2, .float .f64 o3, .float .f64 o4, .float .f64 o5, .float .f64 o6, .float .f64 o7, .slice wao wn wc, .float .f64 tf, .float .f64 ts, .slice tao tn tc, .int .i64 fm]
 simp only [objV] at K0
 replace K0 := Lib.hid K0
 have hst := @fstore
 go_enter Tryz.func132, Tryz.ntmps132
 have K := K0.out
 clear K0
 have c0_0 := (K.at_ 0 rfl).at_ 0 _ rfl
 have c0_1 := (K.at_ 0 rfl).at_ 1 _ rfl
 have c0_2 := (K.at_ 0 rfl).at_ 2 _ rfl
 have c0_3 := (K.at_ 0 rfl).at_ 3 _ rfl
 have c0_4 := (K.at_ 0 rfl).at_ 4 _ rfl
 have c0_5 := (K.at_ 0 rfl).at_ 5 _ rfl
 have c0_6 := (K.at_ 0 rfl).at_ 6 _ rfl
 have c0_7 := (K.at_ 0 rfl).at_ 7 _ rfl
 have c0_8 := (K.at_ 0 rfl).at_ 8 _ rfl
 have c0_9 := (K.at_ 0 rfl).at_ 9 _ rfl
 have c0_10 := (K.at_ 0 rfl).at_ 10 _ rfl
 have c0_11 := (K.at_ 0 rfl).at_ 11 _ rfl
 have c0_12 := (K.at_ 0 rfl).at_ 12 _ rfl
 have c0_13 := (K.at_ 0 rfl).at_ 13 _ rfl
 have c0_14 := (K.at_ 0 rfl).at_ 14 _ rfl
 have c0_15 := (K.at_ 0 rfl).at_ 15 _ rfl
 have c0_16 := (K.at_ 0 rfl).at_ 16 _ rfl
 have c0_17 := (K.at_ 0 rfl).at_ 17 _ rfl
 replace K := Lib.hid K
 go_wp2_with fail
 refine (C.out _ K.out.old).mono ?_
 rintro _ v1 ⟨rfl, hb⟩
 replace K := Lib.hid (K.out.on hb)
 clear hb
 go_wp2_with fail
 go_ret
 exact ⟨by first | rfl | trivial, K.out.old⟩
theorem ymaygo3 {up fm : Int} {sz x1 x2 x3 o1 o2 o3 o4 o5 o6 o7 tf ts wn wc tn tc : Nat} {wao tao : Option Addr} {fao : Option Addr} {fn fc : Nat} {k : Int} {w : World} (C : Hid (∀ W, Below w.heap.size w W → Calls Tryz.prog 149 #[.slice wao wn wc] W fun e w' => e = .returned (.int .i64 k) ∧ Below W.heap.size W w')) : Calls Tryz.prog 132 #[.slice fao fn fc, .agg #[.int .i64 3, .int .i64 up, .float .f64 sz, .float .f64 x1, .float .f64 x2, .float .f64 x3, .float .f64 o1, .float .f64 o2, .float .f64 o3, .float .f64 o4, .float .f64 o5, .float .f64 o6, .float .f64 o7, .slice wao wn wc, .float .f64 tf, .float .f64 ts, .slice tao tn tc, .int .i64 fm]] w fun e w' => e = .returned (.bool (k == 0)) ∧ Below w.heap.size w w' := by
 have K0 := kv1 w 51 [.int .i64 3, .int .i64 up, .float .f64 sz, .float .f64 x1, .float .f64 x2, .float .f64 x3, .float .f64 o1, .float .f64 o2, .float .f64 o3, .float .f64 o4, .float .f64 o5, .float .f64 o6, .float .f64 o7, .slice wao wn wc, .float .f64 tf, .float .f64 ts, .slice tao tn tc, .int .i64 fm]
 simp only [objV] at K0
 replace K0 := Lib.hid K0
 have hst := @fstore
 go_enter Tryz.func132, Tryz.ntmps132
 have K := K0.out
 clear K0
 have c0_0 := (K.at_ 0 rfl).at_ 0 _ rfl
 have c0_1 := (K.at_ 0 rfl).at_ 1 _ rfl
 have c0_2 := (K.at_ 0 rfl).at_ 2 _ rfl
 have c0_3 := (K.at_ 0 rfl).at_ 3 _ rfl
 have c0_4 := (K.at_ 0 rfl).at_ 4 _ rfl
 have c0_5 := (K.at_ 0 rfl).at_ 5 _ rfl
 have c0_6 := (K.at_ 0 rfl).at_ 6 _ rfl
 have c0_7 := (K.at_ 0 rfl).at_ 7 _ rfl
 have c0_8 := (K.at_ 0 rfl).at_ 8 _ rfl
 have c0_9 := (K.at_ 0 rfl).at_ 9 _ rfl
 have c0_10 := (K.at_ 0 rfl).at_ 10 _ rfl
 have c0_11 := (K.at_ 0 rfl).at_ 11 _ rfl
 have c0_12 := (K.at_ 0 rfl).at_ 12 _ rfl
 have c0_13 := (K.at_ 0 rfl).at_ 13 _ rfl
 have c0_14 := (K.at_ 0 rfl).at_ 14 _ rfl
 have c0_15 := (K.at_ 0 rfl).at_ 15 _ rfl
 have c0_16 := (K.at_ 0 rfl).at_ 16 _ rfl
 have c0_17 := (K.at_ 0 rfl).at_ 17 _ rfl
 replace K := Lib.hid K
 go_wp2_with fail
 refine (C.out _ K.out.old).mono ?_
 rintro _ v1 ⟨rfl, hb⟩
 replace K := Lib.hid (K.out.on hb)
 clear hb
 go_wp2_with fail
 go_ret
 exact ⟨by first | rfl | trivial, K.out.old⟩
theorem ymaygo4 {up fm : Int} {sz x1 x2 x3 o1 o2 o3 o4 o5 o6 o7 tf ts wn wc tn tc : Nat} {wao tao : Option Addr} {fao : Option Addr} {fn fc : Nat} {k : Int} {w : World} (C : Hid (∀ W, Below w.heap.size w W → Calls Tryz.prog 154 #[.agg #[.float .f64 tf, .float .f64 ts, .slice tao tn tc]] W fun e w' => e = .returned (.int .i64 k) ∧ Below W.heap.size W w')) (h : 0 < tn) : Calls Tryz.prog 132 #[.slice fao fn fc, .agg #[.int .i64 4, .int .i64 up, .float .f64 sz, .float .f64 x1, .float .f64 x2, .float .f64 x3, .float .f64 o1, .float .f64 o2, .float .f64 o3, .float .f64 o4, .float .f64 o5, .float .f64 o6, .float .f64 o7, .slice wao wn wc, .float .f64 tf, .float .f64 ts, .slice tao tn tc, .int .i64 fm]] w fun e w' => e = .returned (.bool (k == 0)) ∧ Below w.heap.size w w' := by
 have K0 := kv1 w 51 [.int .i64 4, .int .i64 up, .float .f64 sz, .float .f64 x1, .float .f64 x2, .float .f64 x3, .float .f64 o1, .float .f64 o2, .float .f64 o3, .float .f64 o4, .float .f64 o5, .float .f64 o6, .float .f64 o7, .slice wao wn wc, .float .f64 tf, .float .f64 ts, .slice tao tn tc, .int .i64 fm]
 simp only [objV] at K0
 replace K0 := Lib.hid K0
 have hst := @fstore
 go_enter Tryz.func132, Tryz.ntmps132
 have K := K0.out
 clear K0
 have c0_0 := (K.at_ 0 rfl).at_ 0 _ rfl
 have c0_1 := (K.at_ 0 rfl).at_ 1 _ rfl
 have c0_2 := (K.at_ 0 rfl).at_ 2 _ rfl
 have c0_3 := (K.at_ 0 rfl).at_ 3 _ rfl
 have c0_4 := (K.at_ 0 rfl).at_ 4 _ rfl
 have c0_5 := (K.at_ 0 rfl).at_ 5 _ rfl
 have c0_6 := (K.at_ 0 rfl).at_ 6 _ rfl
 have c0_7 := (K.at_ 0 rfl).at_ 7 _ rfl
 have c0_8 := (K.at_ 0 rfl).at_ 8 _ rfl
 have c0_9 := (K.at_ 0 rfl).at_ 9 _ rfl
 have c0_10 := (K.at_ 0 rfl).at_ 10 _ rfl
 have c0_11 := (K.at_ 0 rfl).at_ 11 _ rfl
 have c0_12 := (K.at_ 0 rfl).at_ 12 _ rfl
 have c0_13 := (K.at_ 0 rfl).at_ 13 _ rfl
 have c0_14 := (K.at_ 0 rfl).at_ 14 _ rfl
 have c0_15 := (K.at_ 0 rfl).at_ 15 _ rfl
 have c0_16 := (K.at_ 0 rfl).at_ 16 _ rfl
 have c0_17 := (K.at_ 0 rfl).at_ 17 _ rfl
 replace K := Lib.hid K
 have t : decide (0 < tn) = true := decide_eq_true h
 go_wp2_with fail
 refine (C.out _ K.out.old).mono ?_
 rintro _ v1 ⟨rfl, hb⟩
 replace K := Lib.hid (K.out.on hb)
 clear hb
 go_wp2_with fail
 go_ret
 exact ⟨by first | rfl | trivial, K.out.old⟩
theorem ymaygo4n {up fm : Int} {sz x1 x2 x3 o1 o2 o3 o4 o5 o6 o7 tf ts wn wc tn tc : Nat} {wao tao : Option Addr} {fao : Option Addr} {fn fc : Nat}  {w : World} (h : ¬ 0 < tn) : Calls Tryz.prog 132 #[.slice fao fn fc, .agg #[.int .i64 4, .int .i64 up, .float .f64 sz, .float .f64 x1, .float .f64 x2, .float .f64 x3, .float .f64 o1, .float .f64 o2, .float .f64 o3, .float .f64 o4, .float .f64 o5, .float .f64 o6, .float .f64 o7, .slice wao wn wc, .float .f64 tf, .float .f64 ts, .slice tao tn tc, .int .i64 fm]] w fun e w' => e = .returned (.bool false) ∧ Below w.heap.size w w' := by
 have K0 := kv1 w 51 [.int .i64 4, .int .i64 up, .float .f64 sz, .float .f64 x1, .float .f64 x2, .float .f64 x3, .float .f64 o1, .float .f64 o2, .float .f64 o3, .float .f64 o4, .float .f64 o5, .float .f64 o6, .float .f64 o7, .slice wao wn wc, .float .f64 tf, .float .f64 ts, .slice tao tn tc, .int .i64 fm]
 simp only [objV] at K0
 replace K0 := Lib.hid K0
 have hst := @fstore
 go_enter Tryz.func132, Tryz.ntmps132
 have K := K0.out
 clear K0
 have c0_0 := (K.at_ 0 rfl).at_ 0 _ rfl
 have c0_1 := (K.at_ 0 rfl).at_ 1 _ rfl
 have c0_2 := (K.at_ 0 rfl).at_ 2 _ rfl
 have c0_3 := (K.at_ 0 rfl).at_ 3 _ rfl
 have c0_4 := (K.at_ 0 rfl).at_ 4 _ rfl
 have c0_5 := (K.at_ 0 rfl).at_ 5 _ rfl
 have c0_6 := (K.at_ 0 rfl).at_ 6 _ rfl
 have c0_7 := (K.at_ 0 rfl).at_ 7 _ rfl
 have c0_8 := (K.at_ 0 rfl).at_ 8 _ rfl
 have c0_9 := (K.at_ 0 rfl).at_ 9 _ rfl
 have c0_10 := (K.at_ 0 rfl).at_ 10 _ rfl
 have c0_11 := (K.at_ 0 rfl).at_ 11 _ rfl
 have c0_12 := (K.at_ 0 rfl).at_ 12 _ rfl
 have c0_13 := (K.at_ 0 rfl).at_ 13 _ rfl
 have c0_14 := (K.at_ 0 rfl).at_ 14 _ rfl
 have c0_15 := (K.at_ 0 rfl).at_ 15 _ rfl
 have c0_16 := (K.at_ 0 rfl).at_ 16 _ rfl
 have c0_17 := (K.at_ 0 rfl).at_ 17 _ rfl
 replace K := Lib.hid K
 have t : decide (0 < tn) = false := decide_eq_false h
 go_wp2_with fail
 go_ret
 exact ⟨by first | rfl | trivial, K.out.old⟩
theorem ymaygo5 {up fm : Int} {sz x1 x2 x3 o1 o2 o3 o4 o5 o6 o7 tf ts wn wc tn tc : Nat} {wao tao : Option Addr} {fao : Option Addr} {fn fc : Nat} {b : Bool} {w : World} (C : Hid (∀ W, Below w.heap.size w W → Calls Tryz.prog 202 #[.agg #[.float .f64 x1, .float .f64 x2, .float .f64 x3]] W fun e w' => e = .returned (.bool b) ∧ Below W.heap.size W w')) (h0 : 0 ≤ fm) (h1 : fm < (fn : Int)) : Calls Tryz.prog 132 #[.slice fao fn fc, .agg #[.int .i64 5, .int .i64 up, .float .f64 sz, .float .f64 x1, .float .f64 x2, .float .f64 x3, .float .f64 o1, .float .f64 o2, .float .f64 o3, .float .f64 o4, .float .f64 o5, .float .f64 o6, .float .f64 o7, .slice wao wn wc, .float .f64 tf, .float .f64 ts, .slice tao tn tc, .int .i64 fm]] w fun e w' => e = .returned (.bool b) ∧ Below w.heap.size w w' := by
 have K0 := kv1 w 51 [.int .i64 5, .int .i64 up, .float .f64 sz, .float .f64 x1, .float .f64 x2, .float .f64 x3, .float .f64 o1, .float .f64 o2, .float .f64 o3, .float .f64 o4, .float .f64 o5, .float .f64 o6, .float .f64 o7, .slice wao wn wc, .float .f64 tf, .float .f64 ts, .slice tao tn tc, .int .i64 fm]
 simp only [objV] at K0
 replace K0 := Lib.hid K0
 have hst := @fstore
 go_enter Tryz.func132, Tryz.ntmps132
 have K := K0.out
 clear K0
 have c0_0 := (K.at_ 0 rfl).at_ 0 _ rfl
 have c0_1 := (K.at_ 0 rfl).at_ 1 _ rfl
 have c0_2 := (K.at_ 0 rfl).at_ 2 _ rfl
 have c0_3 := (K.at_ 0 rfl).at_ 3 _ rfl
 have c0_4 := (K.at_ 0 rfl).at_ 4 _ rfl
 have c0_5 := (K.at_ 0 rfl).at_ 5 _ rfl
 have c0_6 := (K.at_ 0 rfl).at_ 6 _ rfl
 have c0_7 := (K.at_ 0 rfl).at_ 7 _ rfl
 have c0_8 := (K.at_ 0 rfl).at_ 8 _ rfl
 have c0_9 := (K.at_ 0 rfl).at_ 9 _ rfl
 have c0_10 := (K.at_ 0 rfl).at_ 10 _ rfl
 have c0_11 := (K.at_ 0 rfl).at_ 11 _ rfl
 have c0_12 := (K.at_ 0 rfl).at_ 12 _ rfl
 have c0_13 := (K.at_ 0 rfl).at_ 13 _ rfl
 have c0_14 := (K.at_ 0 rfl).at_ 14 _ rfl
 have c0_15 := (K.at_ 0 rfl).at_ 15 _ rfl
 have c0_16 := (K.at_ 0 rfl).at_ 16 _ rfl
 have c0_17 := (K.at_ 0 rfl).at_ 17 _ rfl
 replace K := Lib.hid K
 go_wp2_with fail
 refine (C.out _ K.out.old).mono ?_
 rintro _ v1 ⟨rfl, hb⟩
 replace K := Lib.hid (K.out.on hb)
 clear hb
 go_wp2_with fail
 go_ret
 exact ⟨by first | rfl | trivial, K.out.old⟩
theorem ymaygo5a {up fm : Int} {sz x1 x2 x3 o1 o2 o3 o4 o5 o6 o7 tf ts wn wc tn tc : Nat} {wao tao : Option Addr} {fao : Option Addr} {fn fc : Nat}  {w : World} (h0 : ¬ 0 ≤ fm) : Calls Tryz.prog 132 #[.slice fao fn fc, .agg #[.int .i64 5, .int .i64 up, .float .f64 sz, .float .f64 x1, .float .f64 x2, .float .f64 x3, .float .f64 o1, .float .f64 o2, .float .f64 o3, .float .f64 o4, .float .f64 o5, .float .f64 o6, .float .f64 o7, .slice wao wn wc, .float .f64 tf, .float .f64 ts, .slice tao tn tc, .int .i64 fm]] w fun e w' => e = .returned (.bool false) ∧ Below w.heap.size w w' := by
 have K0 := kv1 w 51 [.int .i64 5, .int .i64 up, .float .f64 sz, .float .f64 x1, .float .f64 x2, .float .f64 x3, .float .f64 o1, .float .f64 o2, .float .f64 o3, .float .f64 o4, .float .f64 o5, .float .f64 o6, .float .f64 o7, .slice wao wn wc, .float .f64 tf, .float .f64 ts, .slice tao tn tc, .int .i64 fm]
 simp only [objV] at K0
 replace K0 := Lib.hid K0
 have hst := @fstore
 go_enter Tryz.func132, Tryz.ntmps132
 have K := K0.out
 clear K0
 have c0_0 := (K.at_ 0 rfl).at_ 0 _ rfl
 have c0_1 := (K.at_ 0 rfl).at_ 1 _ rfl
 have c0_2 := (K.at_ 0 rfl).at_ 2 _ rfl
 have c0_3 := (K.at_ 0 rfl).at_ 3 _ rfl
 have c0_4 := (K.at_ 0 rfl).at_ 4 _ rfl
 have c0_5 := (K.at_ 0 rfl).at_ 5 _ rfl
 have c0_6 := (K.at_ 0 rfl).at_ 6 _ rfl
 have c0_7 := (K.at_ 0 rfl).at_ 7 _ rfl
 have c0_8 := (K.at_ 0 rfl).at_ 8 _ rfl
 have c0_9 := (K.at_ 0 rfl).at_ 9 _ rfl
 have c0_10 := (K.at_ 0 rfl).at_ 10 _ rfl
 have c0_11 := (K.at_ 0 rfl).at_ 11 _ rfl
 have c0_12 := (K.at_ 0 rfl).at_ 12 _ rfl
 have c0_13 := (K.at_ 0 rfl).at_ 13 _ rfl
 have c0_14 := (K.at_ 0 rfl).at_ 14 _ rfl
 have c0_15 := (K.at_ 0 rfl).at_ 15 _ rfl
 have c0_16 := (K.at_ 0 rfl).at_ 16 _ rfl
 have c0_17 := (K.at_ 0 rfl).at_ 17 _ rfl
 replace K := Lib.hid K
 go_wp2_with fail
 go_ret
 exact ⟨by first | rfl | trivial, K.out.old⟩
theorem ymaygo5b {up fm : Int} {sz x1 x2 x3 o1 o2 o3 o4 o5 o6 o7 tf ts wn wc tn tc : Nat} {wao tao : Option Addr} {fao : Option Addr} {fn fc : Nat}  {w : World} (h0 : 0 ≤ fm) (h1 : ¬ fm < (fn : Int)) : Calls Tryz.prog 132 #[.slice fao fn fc, .agg #[.int .i64 5, .int .i64 up, .float .f64 sz, .float .f64 x1, .float .f64 x2, .float .f64 x3, .float .f64 o1, .float .f64 o2, .float .f64 o3, .float .f64 o4, .float .f64 o5, .float .f64 o6, .float .f64 o7, .slice wao wn wc, .float .f64 tf, .float .f64 ts, .slice tao tn tc, .int .i64 fm]] w fun e w' => e = .returned (.bool false) ∧ Below w.heap.size w w' := by
 have K0 := kv1 w 51 [.int .i64 5, .int .i64 up, .float .f64 sz, .float .f64 x1, .float .f64 x2, .float .f64 x3, .float .f64 o1, .float .f64 o2, .float .f64 o3, .float .f64 o4, .float .f64 o5, .float .f64 o6, .float .f64 o7, .slice wao wn wc, .float .f64 tf, .float .f64 ts, .slice tao tn tc, .int .i64 fm]
 simp only [objV] at K0
 replace K0 := Lib.hid K0
 have hst := @fstore
 go_enter Tryz.func132, Tryz.ntmps132
 have K := K0.out
 clear K0
 have c0_0 := (K.at_ 0 rfl).at_ 0 _ rfl
 have c0_1 := (K.at_ 0 rfl).at_ 1 _ rfl
 have c0_2 := (K.at_ 0 rfl).at_ 2 _ rfl
 have c0_3 := (K.at_ 0 rfl).at_ 3 _ rfl
 have c0_4 := (K.at_ 0 rfl).at_ 4 _ rfl
 have c0_5 := (K.at_ 0 rfl).at_ 5 _ rfl
 have c0_6 := (K.at_ 0 rfl).at_ 6 _ rfl
 have c0_7 := (K.at_ 0 rfl).at_ 7 _ rfl
 have c0_8 := (K.at_ 0 rfl).at_ 8 _ rfl
 have c0_9 := (K.at_ 0 rfl).at_ 9 _ rfl
 have c0_10 := (K.at_ 0 rfl).at_ 10 _ rfl
 have c0_11 := (K.at_ 0 rfl).at_ 11 _ rfl
 have c0_12 := (K.at_ 0 rfl).at_ 12 _ rfl
 have c0_13 := (K.at_ 0 rfl).at_ 13 _ rfl
 have c0_14 := (K.at_ 0 rfl).at_ 14 _ rfl
 have c0_15 := (K.at_ 0 rfl).at_ 15 _ rfl
 have c0_16 := (K.at_ 0 rfl).at_ 16 _ rfl
 have c0_17 := (K.at_ 0 rfl).at_ 17 _ rfl
 replace K := Lib.hid K
 go_wp2_with fail
 go_ret
 exact ⟨by first | rfl | trivial, K.out.old⟩
theorem ymaygo0 {kd up fm : Int} {sz x1 x2 x3 o1 o2 o3 o4 o5 o6 o7 tf ts wn wc tn tc : Nat} {wao tao : Option Addr} {fao : Option Addr} {fn fc : Nat}  {w : World} (h1 : ¬ kd = 1) (h2 : ¬ kd = 2) (h3 : ¬ kd = 3) (h4 : ¬ kd = 4) (h5 : ¬ kd = 5) : Calls Tryz.prog 132 #[.slice fao fn fc, .agg #[.int .i64 kd, .int .i64 up, .float .f64 sz, .float .f64 x1, .float .f64 x2, .float .f64 x3, .float .f64 o1, .float .f64 o2, .float .f64 o3, .float .f64 o4, .float .f64 o5, .float .f64 o6, .float .f64 o7, .slice wao wn wc, .float .f64 tf, .float .f64 ts, .slice tao tn tc, .int .i64 fm]] w fun e w' => e = .returned (.bool false) ∧ Below w.heap.size w w' := by
 have K0 := kv1 w 51 [.int .i64 kd, .int .i64 up, .float .f64 sz, .float .f64 x1, .float .f64 x2, .float .f64 x3, .float .f64 o1, .float .f64 o2, .float .f64 o3, .float .f64 o4, .float .f64 o5, .float .f64 o6, .float .f64 o7, .slice wao wn wc, .float .f64 tf, .float .f64 ts, .slice tao tn tc, .int .i64 fm]
 simp only [objV] at K0
 replace K0 := Lib.hid K0
 have hst := @fstore
 go_enter Tryz.func132, Tryz.ntmps132
 have K := K0.out
 clear K0
 have c0_0 := (K.at_ 0 rfl).at_ 0 _ rfl
 have c0_1 := (K.at_ 0 rfl).at_ 1 _ rfl
 have c0_2 := (K.at_ 0 rfl).at_ 2 _ rfl
 have c0_3 := (K.at_ 0 rfl).at_ 3 _ rfl
 have c0_4 := (K.at_ 0 rfl).at_ 4 _ rfl
 have c0_5 := (K.at_ 0 rfl).at_ 5 _ rfl
 have c0_6 := (K.at_ 0 rfl).at_ 6 _ rfl
 have c0_7 := (K.at_ 0 rfl).at_ 7 _ rfl
 have c0_8 := (K.at_ 0 rfl).at_ 8 _ rfl
 have c0_9 := (K.at_ 0 rfl).at_ 9 _ rfl
 have c0_10 := (K.at_ 0 rfl).at_ 10 _ rfl
 have c0_11 := (K.at_ 0 rfl).at_ 11 _ rfl
 have c0_12 := (K.at_ 0 rfl).at_ 12 _ rfl
 have c0_13 := (K.at_ 0 rfl).at_ 13 _ rfl
 have c0_14 := (K.at_ 0 rfl).at_ 14 _ rfl
 have c0_15 := (K.at_ 0 rfl).at_ 15 _ rfl
 have c0_16 := (K.at_ 0 rfl).at_ 16 _ rfl
 have c0_17 := (K.at_ 0 rfl).at_ 17 _ rfl
 replace K := Lib.hid K
 go_wp2_with fail
 go_ret
 exact ⟨by first | rfl | trivial, K.out.old⟩
def goB (n : Nat) (b : Bo) : Bool :=
 if b.kd = 1 then skV b.at_ else if b.kd = 2 then chkO b.orb == 0 else if b.kd = 3 then chkV b.wvs == 0
 else if b.kd = 4 then decide (0 < b.tab.rows.length) && (chkT b.tab == 0) else if b.kd = 5 then decide (0 ≤ b.frm ∧ b.frm < n) && skV b.at_ else false
theorem ymaygo_run {m : Bm} (hW : BoW m.b) (fao : Option Addr) (fn fc : Nat) (w : World) (hm : BmAt w m) : Calls Tryz.prog 132 #[.slice fao fn fc, bmV m] w fun e w' => e = .returned (.bool (goB fn m.b)) ∧ Below w.heap.size w w' := by
 have CA : Hid (∀ W, Below w.heap.size w W → Calls Tryz.prog 202 #[vecV m.b.at_] W fun e w' => e = .returned (.bool (skV m.b.at_)) ∧ Below W.heap.size W w') := Lib.hid fun W _ => yfitat_run hW.at_ W
 have CO : Hid (∀ W, Below w.heap.size w W → Calls Tryz.prog 133 #[obV m.b.orb] W fun e w' => e = .returned (.int .i64 (chkO m.b.orb)) ∧ Below W.heap.size W w') := Lib.hid fun W _ => ocheck_run hW.orb W
 have CW : Hid (∀ W, Below w.heap.size w W → Calls Tryz.prog 149 #[.slice m.wao m.b.wvs.length m.wcap] W fun e w' => e = .returned (.int .i64 (chkV m.b.wvs)) ∧ Below W.heap.size W w') := Lib.hid fun W hb => wcheck_run _ _ _ _ W rfl (by have := hW.wl; omega) hW.wvs (RAt.on hm.wv hb)
 have CT : Hid (∀ W, Below w.heap.size w W → Calls Tryz.prog 154 #[tbV m.b.tab m.tao m.tcap] W fun e w' => e = .returned (.int .i64 (chkT m.b.tab)) ∧ Below W.heap.size W w') := Lib.hid fun W hb => ccheck_run _ _ W (by have := hW.tl.n; omega) hW.tab (hm.tb.on hb)
 clear hW hm
 obtain ⟨⟨kd, up, sz, ⟨x1, x2, x3⟩, ⟨o1, o2, o3, o4, o5, o6, o7⟩, wvs, ⟨tf, ts, rows⟩, fm⟩, wao, wc, tao, tc⟩ := m
 unfold goB bmV
 dsimp only at *
 by_cases h1 : kd = 1
 · subst h1
   rw [if_pos rfl]
   exact ymaygo1 CA
 rw [if_neg h1]
 by_cases h2 : kd = 2
 · subst h2
   rw [if_pos rfl]
   exact ymaygo2 CO
 rw [if_neg h2]
 by_cases h3 : kd = 3
 · subst h3
   rw [if_pos rfl]
   exact ymaygo3 CW
 rw [if_neg h3]
 by_cases h4 : kd = 4
 · subst h4
   rw [if_pos rfl]
   by_cases q : 0 < rows.length
   · rw [decide_eq_true q, Bool.true_and]
     exact ymaygo4 CT q
   · rw [decide_eq_false q, Bool.false_and]
     exact ymaygo4n q
 rw [if_neg h4]
 by_cases h5 : kd = 5
 · subst h5
   rw [if_pos rfl]
   by_cases q : 0 ≤ fm
   · by_cases r : fm < (fn : Int)
     · rw [decide_eq_true ⟨q, r⟩, Bool.true_and]
       exact ymaygo5 CA q r
     · rw [decide_eq_false (fun h => r h.2), Bool.false_and]
       exact ymaygo5b q r
   · rw [decide_eq_false (fun h => q h.1), Bool.false_and]
     exact ymaygo5a q
 rw [if_neg h5]
 exact ymaygo0 h1 h2 h3 h4 h5
end Go.Proofs.YtacinenddnfcbaaGreat

namespace Go.Proofs.YtacinenddnfcbaaGreat
open Go.ChangeShapes Go.WideShapes Go.ChangeAt Go.RowKit Ieee.Own

theorem sizeBody : (Tryz.prog.info? 51).map (·.size) = some 18 := by kernel_rfl
theorem ybody_store {L : List Value} (hl : L.length = 18) (ho : L.toArray.all (·.oneCell') = true) (w : World) : (storeCells ⟨w.heap.size, 0, none⟩ L).run Tryz.prog (w.alloc (.cells #[.int .i64 0, .int .i64 0, .float .f64 0, .float .f64 0, .float .f64 0, .float .f64 0, .float .f64 0, .float .f64 0, .float .f64 0, .float .f64 0, .float .f64 0, .float .f64 0, .float .f64 0, .slice none 0 0, .float .f64 0, .float .f64 0, .slice none 0 0, .int .i64 0] 51)) = .ok () (w.alloc (.cells L.toArray 51)) :=
 run_storeCells_new (P := Tryz.prog) w 51 _ L.toArray (by rw [List.size_toArray, hl]; exact sizeBody) (by simp [hl]) ho
theorem ymay1 {up : Int} {sz : Nat} {lt fn fc bn bc bb bo : Nat} {fao : Option Addr} {i : Nat} {w : World} (hi : i < bn) {L : List Value} (hl : L.length = 18) (ho : L.toArray.all (·.oneCell') = true) (l1 : L[1]? = some (.int .i64 up)) (l2 : L[2]? = some (.float .f64 sz)) (far : Hid (∀ W, Below w.heap.size w W → W.rangeAt bb (bo + i * 18) L)) (h1 : ¬ -1 ≤ up) : Calls Tryz.prog 71 #[.agg #[.float .f64 lt, .slice fao fn fc, .slice (some ⟨bb, bo, none⟩) bn bc], .int .i64 (i : Int)] w fun e w' => e = .returned (.bool false) ∧ Below w.heap.size w w' := by
 have K0 := kv1 w 26 [.float .f64 lt, .slice fao fn fc, .slice (some ⟨bb, bo, none⟩) bn bc]
 simp only [objV] at K0
 replace K0 := Lib.hid K0
 have hst := @fstore
 have hin : (i : Int) < (bn : Int) := by omega
 have hsn := ybody_store hl ho
 have hud := Tryz.underlying51
 replace hl := Lib.hid hl
 go_enter Tryz.func71, Tryz.ntmps71
 have K := K0.out
 clear K0
 go_upto_region 1 with fail
 have er := Lib.hid (far.out _ K.old)
 have K2 := K.new 51 L
 simp only [objV, List.cons_append, List.nil_append] at K2
 have c0_0 := (K.at_ 0 rfl).at_ 0 _ rfl
 have c0_1 := (K.at_ 0 rfl).at_ 1 _ rfl
 have c0_2 := (K.at_ 0 rfl).at_ 2 _ rfl
 generalize w.alloc _ = wr at *
 have en := Lib.hid (range_alloc wr L 51)
 have d1 := (K2.at_ 1 rfl).at_ 1 _ l1
 have d2 := (K2.at_ 1 rfl).at_ 2 _ l2
 have g0 := (K2.at_ 0 rfl).at_ 0 _ rfl
 have g1 := (K2.at_ 0 rfl).at_ 1 _ rfl
 have g2 := (K2.at_ 0 rfl).at_ 2 _ rfl
 clear far l1 l2 ho
 replace K := Lib.hid K2
 clear K2
 go_wp2_with (first | (refine wpList_load_mid rfl 51 (.tmp 9) rfl bb (bo + i * 18) rfl L _ er.out hud rfl (by rw [hl.out]; exact sizeBody) ?_) | (refine wpList_load_g rfl 51 (.tmp 5) rfl wr.heap.size 0 rfl L _ en.out hud rfl (by rw [hl.out]; exact sizeBody) ?_))
 go_ret
 exact ⟨by first | rfl | trivial, K.out.old⟩
theorem ymay2 {up : Int} {sz : Nat} {lt fn fc bn bc bb bo : Nat} {fao : Option Addr} {i : Nat} {w : World} (hi : i < bn) {L : List Value} (hl : L.length = 18) (ho : L.toArray.all (·.oneCell') = true) (l1 : L[1]? = some (.int .i64 up)) (l2 : L[2]? = some (.float .f64 sz)) (far : Hid (∀ W, Below w.heap.size w W → W.rangeAt bb (bo + i * 18) L)) (h1 : -1 ≤ up) (h2 : ¬ up < (i : Int)) : Calls Tryz.prog 71 #[.agg #[.float .f64 lt, .slice fao fn fc, .slice (some ⟨bb, bo, none⟩) bn bc], .int .i64 (i : Int)] w fun e w' => e = .returned (.bool false) ∧ Below w.heap.size w w' := by
 have K0 := kv1 w 26 [.float .f64 lt, .slice fao fn fc, .slice (some ⟨bb, bo, none⟩) bn bc]
 simp only [objV] at K0
 replace K0 := Lib.hid K0
 have hst := @fstore
 have hin : (i : Int) < (bn : Int) := by omega
 have hsn := ybody_store hl ho
 have hud := Tryz.underlying51
 replace hl := Lib.hid hl
 go_enter Tryz.func71, Tryz.ntmps71
 have K := K0.out
 clear K0
 go_upto_region 1 with fail
 have er := Lib.hid (far.out _ K.old)
 have K2 := K.new 51 L
 simp only [objV, List.cons_append, List.nil_append] at K2
 have c0_0 := (K.at_ 0 rfl).at_ 0 _ rfl
 have c0_1 := (K.at_ 0 rfl).at_ 1 _ rfl
 have c0_2 := (K.at_ 0 rfl).at_ 2 _ rfl
 generalize w.alloc _ = wr at *
 have en := Lib.hid (range_alloc wr L 51)
 have d1 := (K2.at_ 1 rfl).at_ 1 _ l1
 have d2 := (K2.at_ 1 rfl).at_ 2 _ l2
 have g0 := (K2.at_ 0 rfl).at_ 0 _ rfl
 have g1 := (K2.at_ 0 rfl).at_ 1 _ rfl
 have g2 := (K2.at_ 0 rfl).at_ 2 _ rfl
 clear far l1 l2 ho
 replace K := Lib.hid K2
 clear K2
 go_wp2_with (first | (refine wpList_load_mid rfl 51 (.tmp 9) rfl bb (bo + i * 18) rfl L _ er.out hud rfl (by rw [hl.out]; exact sizeBody) ?_) | (refine wpList_load_g rfl 51 (.tmp 5) rfl wr.heap.size 0 rfl L _ en.out hud rfl (by rw [hl.out]; exact sizeBody) ?_))
 go_ret
 exact ⟨by first | rfl | trivial, K.out.old⟩
theorem ymay3 {up : Int} {sz : Nat} {lt fn fc bn bc bb bo : Nat} {fao : Option Addr} {i : Nat} {w : World} (hi : i < bn) {L : List Value} (hl : L.length = 18) (ho : L.toArray.all (·.oneCell') = true) (l1 : L[1]? = some (.int .i64 up)) (l2 : L[2]? = some (.float .f64 sz)) (far : Hid (∀ W, Below w.heap.size w W → W.rangeAt bb (bo + i * 18) L)) (h1 : -1 ≤ up) (h2 : up < (i : Int)) (hp : (FloatKind.f64.format.order 0 sz == some Ordering.lt || FloatKind.f64.format.order 0 sz == some Ordering.eq) = false) : Calls Tryz.prog 71 #[.agg #[.float .f64 lt, .slice fao fn fc, .slice (some ⟨bb, bo, none⟩) bn bc], .int .i64 (i : Int)] w fun e w' => e = .returned (.bool false) ∧ Below w.heap.size w w' := by
 have K0 := kv1 w 26 [.float .f64 lt, .slice fao fn fc, .slice (some ⟨bb, bo, none⟩) bn bc]
 simp only [objV] at K0
 replace K0 := Lib.hid K0
 have hst := @fstore
 have hin : (i : Int) < (bn : Int) := by omega
 have hsn := ybody_store hl ho
 have hud := Tryz.underlying51
 replace hl := Lib.hid hl
 go_enter Tryz.func71, Tryz.ntmps71
 have K := K0.out
 clear K0
 go_upto_region 1 with fail
 have er := Lib.hid (far.out _ K.old)
 have K2 := K.new 51 L
 simp only [objV, List.cons_append, List.nil_append] at K2
 have c0_0 := (K.at_ 0 rfl).at_ 0 _ rfl
 have c0_1 := (K.at_ 0 rfl).at_ 1 _ rfl
 have c0_2 := (K.at_ 0 rfl).at_ 2 _ rfl
 generalize w.alloc _ = wr at *
 have en := Lib.hid (range_alloc wr L 51)
 have d1 := (K2.at_ 1 rfl).at_ 1 _ l1
 have d2 := (K2.at_ 1 rfl).at_ 2 _ l2
 have g0 := (K2.at_ 0 rfl).at_ 0 _ rfl
 have g1 := (K2.at_ 0 rfl).at_ 1 _ rfl
 have g2 := (K2.at_ 0 rfl).at_ 2 _ rfl
 clear far l1 l2 ho
 replace K := Lib.hid K2
 clear K2
 go_wp2_with (first | (refine wpList_load_mid rfl 51 (.tmp 9) rfl bb (bo + i * 18) rfl L _ er.out hud rfl (by rw [hl.out]; exact sizeBody) ?_) | (refine wpList_load_g rfl 51 (.tmp 5) rfl wr.heap.size 0 rfl L _ en.out hud rfl (by rw [hl.out]; exact sizeBody) ?_))
 go_ret
 exact ⟨by first | rfl | trivial, K.out.old⟩
theorem ymay4 {up : Int} {sz : Nat} {lt fn fc bn bc bb bo : Nat} {fao : Option Addr} {i : Nat} {w : World} (hi : i < bn) {L : List Value} (hl : L.length = 18) (ho : L.toArray.all (·.oneCell') = true) (l1 : L[1]? = some (.int .i64 up)) (l2 : L[2]? = some (.float .f64 sz)) (far : Hid (∀ W, Below w.heap.size w W → W.rangeAt bb (bo + i * 18) L)) (h1 : -1 ≤ up) (h2 : up < (i : Int)) (hp : (FloatKind.f64.format.order 0 sz == some Ordering.lt || FloatKind.f64.format.order 0 sz == some Ordering.eq) = true) (hq : (FloatKind.f64.format.order sz 4787326403894837248 == some Ordering.lt || FloatKind.f64.format.order sz 4787326403894837248 == some Ordering.eq) = false) : Calls Tryz.prog 71 #[.agg #[.float .f64 lt, .slice fao fn fc, .slice (some ⟨bb, bo, none⟩) bn bc], .int .i64 (i : Int)] w fun e w' => e = .returned (.bool false) ∧ Below w.heap.size w w' := by
 have K0 := kv1 w 26 [.float .f64 lt, .slice fao fn fc, .slice (some ⟨bb, bo, none⟩) bn bc]
 simp only [objV] at K0
 replace K0 := Lib.hid K0
 have hst := @fstore
 have hin : (i : Int) < (bn : Int) := by omega
 have hsn := ybody_store hl ho
 have hud := Tryz.underlying51
 replace hl := Lib.hid hl
 go_enter Tryz.func71, Tryz.ntmps71
 have K := K0.out
 clear K0
 go_upto_region 1 with fail
 have er := Lib.hid (far.out _ K.old)
 have K2 := K.new 51 L
 simp only [objV, List.cons_append, List.nil_append] at K2
 have c0_0 := (K.at_ 0 rfl).at_ 0 _ rfl
 have c0_1 := (K.at_ 0 rfl).at_ 1 _ rfl
 have c0_2 := (K.at_ 0 rfl).at_ 2 _ rfl
 generalize w.alloc _ = wr at *
 have en := Lib.hid (range_alloc wr L 51)
 have d1 := (K2.at_ 1 rfl).at_ 1 _ l1
 have d2 := (K2.at_ 1 rfl).at_ 2 _ l2
 have g0 := (K2.at_ 0 rfl).at_ 0 _ rfl
 have g1 := (K2.at_ 0 rfl).at_ 1 _ rfl
 have g2 := (K2.at_ 0 rfl).at_ 2 _ rfl
 clear far l1 l2 ho
 replace K := Lib.hid K2
 clear K2
 go_wp2_with (first | (refine wpList_load_mid rfl 51 (.tmp 9) rfl bb (bo + i * 18) rfl L _ er.out hud rfl (by rw [hl.out]; exact sizeBody) ?_) | (refine wpList_load_g rfl 51 (.tmp 5) rfl wr.heap.size 0 rfl L _ en.out hud rfl (by rw [hl.out]; exact sizeBody) ?_))
 go_ret
 exact ⟨by first | rfl | trivial, K.out.old⟩
theorem ymay5 {up : Int} {sz : Nat} {lt fn fc bn bc bb bo : Nat} {fao : Option Addr} {i : Nat} {w : World} (hi : i < bn) {L : List Value} (hl : L.length = 18) (ho : L.toArray.all (·.oneCell') = true) (l1 : L[1]? = some (.int .i64 up)) (l2 : L[2]? = some (.float .f64 sz)) (far : Hid (∀ W, Below w.heap.size w W → W.rangeAt bb (bo + i * 18) L)) {g : Bool} (CG : Hid (∀ W, Below w.heap.size w W → Calls Tryz.prog 132 #[.slice fao fn fc, .agg L.toArray] W fun e w' => e = .returned (.bool g) ∧ Below W.heap.size W w')) (h1 : -1 ≤ up) (h2 : up < (i : Int)) (hp : (FloatKind.f64.format.order 0 sz == some Ordering.lt || FloatKind.f64.format.order 0 sz == some Ordering.eq) = true) (hq : (FloatKind.f64.format.order sz 4787326403894837248 == some Ordering.lt || FloatKind.f64.format.order sz 4787326403894837248 == some Ordering.eq) = true) : Calls Tryz.prog 71 #[.agg #[.float .f64 lt, .slice fao fn fc, .slice (some ⟨bb, bo, none⟩) bn bc], .int .i64 (i : Int)] w fun e w' => e = .returned (.bool g) ∧ Below w.heap.size w w' := by
 have K0 := kv1 w 26 [.float .f64 lt, .slice fao fn fc, .slice (some ⟨bb, bo, none⟩) bn bc]
 simp only [objV] at K0
 replace K0 := Lib.hid K0
 have hst := @fstore
 have hin : (i : Int) < (bn : Int) := by omega
 have hsn := ybody_store hl ho
 have hud := Tryz.underlying51
 replace hl := Lib.hid hl
 go_enter Tryz.func71, Tryz.ntmps71
 have K := K0.out
 clear K0
 go_upto_region 1 with fail
 have er := Lib.hid (far.out _ K.old)
 have K2 := K.new 51 L
 simp only [objV, List.cons_append, List.nil_append] at K2
 have c0_0 := (K.at_ 0 rfl).at_ 0 _ rfl
 have c0_1 := (K.at_ 0 rfl).at_ 1 _ rfl
 have c0_2 := (K.at_ 0 rfl).at_ 2 _ rfl
 generalize w.alloc _ = wr at *
 have en := Lib.hid (range_alloc wr L 51)
 have d1 := (K2.at_ 1 rfl).at_ 1 _ l1
 have d2 := (K2.at_ 1 rfl).at_ 2 _ l2
 have g0 := (K2.at_ 0 rfl).at_ 0 _ rfl
 have g1 := (K2.at_ 0 rfl).at_ 1 _ rfl
 have g2 := (K2.at_ 0 rfl).at_ 2 _ rfl
 clear far l1 l2 ho
 replace K := Lib.hid K2
 clear K2
 go_wp2_with (first | (refine wpList_load_mid rfl 51 (.tmp 9) rfl bb (bo + i * 18) rfl L _ er.out hud rfl (by rw [hl.out]; exact sizeBody) ?_) | (refine wpList_load_g rfl 51 (.tmp 5) rfl wr.heap.size 0 rfl L _ en.out hud rfl (by rw [hl.out]; exact sizeBody) ?_))
 refine (CG.out _ K.out.old).mono ?_
 rintro _ v1 ⟨rfl, hb⟩
 replace K := Lib.hid (K.out.on hb)
 clear hb
 go_wp2_with fail
 go_ret
 exact ⟨by first | rfl | trivial, K.out.old⟩
theorem bm_one (m : Bm) : (bmC m).toArray.all (·.oneCell') = true := by
 rw [Array.all_eq_true_iff_forall_mem]
 intro v hv
 simp only [bmC, List.mem_toArray, List.mem_cons, List.not_mem_nil, or_false] at hv
 rcases hv with rfl | rfl | rfl | rfl | rfl | rfl | rfl | rfl | rfl | rfl | rfl | rfl | rfl | rfl | rfl | rfl | rfl | rfl <;> rfl
def mayS (n i : Nat) (b : Bo) : Bool := decide (-1 ≤ b.up ∧ b.up < i) && (leO 0 b.sz && (leO b.sz 4787326403894837248 && goB n b))
theorem ymay_run {M : List Bm} (hW : ∀ m ∈ M, BoW m.b) {lt fn fc bn bc i : Nat} {fao bao : Option Addr} {w : World} (hn : bn = M.length) (hi : i < bn) (ha : BsAt w bao M) :
 Calls Tryz.prog 71 #[.agg #[.float .f64 lt, .slice fao fn fc, .slice bao bn bc], .int .i64 (i : Int)] w fun e w' => e = .returned (.bool (mayS fn i (bmAt M i).b)) ∧ Below w.heap.size w w' := by
 subst hn
 have hm := bm_mem hi
 obtain ⟨bb, bo, rfl, hb, hc⟩ := ha.row hi
 have far : Hid (∀ W, Below w.heap.size w W → W.rangeAt bb (bo + i * 18) (bmC (bmAt M i))) := Lib.hid fun W h k u e => (h.cell (p := ⟨bb, _, none⟩) hb).trans (hc k u e)
 have CG : Hid (∀ W, Below w.heap.size w W → Calls Tryz.prog 132 #[.slice fao fn fc, bmV (bmAt M i)] W fun e w' => e = .returned (.bool (goB fn (bmAt M i).b)) ∧ Below W.heap.size W w') := Lib.hid fun W h => ymaygo_run (hW _ hm) fao fn fc W ((ha.each _ hm).on h)
 clear hc hb hm ha
 generalize bmAt M i = m at *
 unfold mayS leO
 generalize goB fn m.b = g at *
 have hl : (bmC m).length = 18 := rfl
 have ho : (bmC m).toArray.all (·.oneCell') = true := bm_one m
 have l1 : (bmC m)[1]? = some (.int .i64 m.b.up) := rfl
 have l2 : (bmC m)[2]? = some (.float .f64 m.b.sz) := rfl
 have ev : bmV m = .agg (bmC m).toArray := rfl
 rw [ev] at CG
 clear ev
 generalize bmC m = L at *
 generalize m.b.up = up at *
 generalize m.b.sz = sz at *
 by_cases h1 : -1 ≤ up
 · by_cases h2 : up < (i : Int)
   · rw [decide_eq_true ⟨h1, h2⟩, Bool.true_and]
     cases hp : (FloatKind.f64.format.order 0 sz == some Ordering.lt || FloatKind.f64.format.order 0 sz == some Ordering.eq) with
     | false => exact ymay3 hi hl ho l1 l2 far h1 h2 hp
     | true =>
       cases hq : (FloatKind.f64.format.order sz 4787326403894837248 == some Ordering.lt || FloatKind.f64.format.order sz 4787326403894837248 == some Ordering.eq) with
       | false => exact ymay4 hi hl ho l1 l2 far h1 h2 hp hq
       | true => exact ymay5 hi hl ho l1 l2 far CG h1 h2 hp hq
   · rw [decide_eq_false (fun h => h2 h.2), Bool.false_and]
     exact ymay2 hi hl ho l1 l2 far h1 h2
 · rw [decide_eq_false (fun h => h1 h.1), Bool.false_and]
   exact ymay1 hi hl ho l1 l2 far h1
end Go.Proofs.YtacinenddnfcbaaGreat
