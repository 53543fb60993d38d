/- Proved here: what the texts Obe, Obf prove, one behind the other. -/
import Derived.Test.YtkpdnhbifokhlaaGreatJq2
import Derived.Test.YtkpdnhbifokhlaaGreatJo4
import Derived.Test.YtkpdnhbifokhlaaGreatJy6

namespace Go.Proofs.YtkpdnhbifokhlaaGreat
open Go.ChangeShapes Go.WideShapes Go.ChangeAt Go.RowKit Ieee.Own Pol

theorem tu_ang {x : Nat} (hx : x < 18446744073709551616) (h : tuB x = true) : errA x = 0 := by
 have W := tu_wd hx h
 exact err_small W.fin (btw_of hx h).2.1 (abs_up (k := 1084) (l := 1114) W.abs (by omega))
theorem Kv.take {w0 w : World} {L : List (Option (Nat × List Value))} (C : Kv w0 L w) (n : Nat) : Kv w0 (L.take n) w := by
 have key : ∀ i (x : Option (Nat × List Value)), (L.take n)[i]? = some x → L[i]? = some x := fun i x h => by
   have hi := (List.getElem?_eq_some_iff.1 h).1
   rw [List.length_take] at hi
   rw [List.getElem?_take_of_lt (by omega)] at h
   exact h
 exact ⟨C.old, fun j g us h => C.blk j g us (key _ _ h), fun i j g us vs h k => C.inj i j g us vs (key _ _ h) (key _ _ k)⟩
set_option maxHeartbeats 4000000 in
set_option maxRecDepth 100000 in
theorem oturnings_run {ax ec ti no pe ph ra : Nat} (w : World) : Calls Tryz.prog 78 #[.agg #[.float .f64 ax, .float .f64 ec, .float .f64 ti, .float .f64 no, .float .f64 pe, .float .f64 ph, .float .f64 ra]] w fun e w' => e = .returned (.agg #[.int .i64 2, .float .f64 pe, .int .i64 0, .float .f64 ti, .int .i64 2, .float .f64 no]) ∧ Below w.heap.size w w' := by
 have K0 := kv2 w 24 91 [.float .f64 ax, .float .f64 ec, .float .f64 ti, .float .f64 no, .float .f64 pe, .float .f64 ph, .float .f64 ra] [.int .i64 2, .float .f64 pe, .int .i64 0, .float .f64 ti, .int .i64 2, .float .f64 no]
 simp only [objV] at K0
 have hst := @fstore
 have c0_2 := (K0.at_ 0 rfl).at_ 2 _ rfl
 have c0_3 := (K0.at_ 0 rfl).at_ 3 _ rfl
 have c0_4 := (K0.at_ 0 rfl).at_ 4 _ rfl
 have c1_0 := (K0.at_ 1 rfl).at_ 0 _ rfl
 have f1_0 := (K0.at_ 1 rfl).fr 0 _ rfl
 have c1_1 := (K0.at_ 1 rfl).at_ 1 _ rfl
 have f1_1 := (K0.at_ 1 rfl).fr 1 _ rfl
 have c1_2 := (K0.at_ 1 rfl).at_ 2 _ rfl
 have f1_2 := (K0.at_ 1 rfl).fr 2 _ rfl
 have c1_3 := (K0.at_ 1 rfl).at_ 3 _ rfl
 have f1_3 := (K0.at_ 1 rfl).fr 3 _ rfl
 have c1_4 := (K0.at_ 1 rfl).at_ 4 _ rfl
 have f1_4 := (K0.at_ 1 rfl).fr 4 _ rfl
 have c1_5 := (K0.at_ 1 rfl).at_ 5 _ rfl
 have f1_5 := (K0.at_ 1 rfl).fr 5 _ rfl
 replace K0 := Lib.hid K0
 go_enter Tryz.func78, Tryz.ntmps78
 go_wp2_with fail
 have K := K0.out
 (try simp only [Exit.inBlock, Exit.then])
 refine bodyPost_ret (v := .agg #[.int .i64 2, .float .f64 pe, .int .i64 0, .float .f64 ti, .int .i64 2, .float .f64 no]) ?_ rfl ⟨rfl, ?_⟩
 · rw [results_cell1 rfl]; go_simp
 · exact K.old
set_option maxRecDepth 100000 in
theorem ix0 (a b c : Nat) (w : World) : (Instr.index 91 (.agg #[.int .i64 2, .float .f64 a, .int .i64 0, .float .f64 b, .int .i64 2, .float .f64 c]) (.int .i64 0)).run Tryz.prog w = .ok (.agg #[.int .i64 2, .float .f64 a]) w := by rfl
set_option maxRecDepth 100000 in
theorem ix1 (a b c : Nat) (w : World) : (Instr.index 91 (.agg #[.int .i64 2, .float .f64 a, .int .i64 0, .float .f64 b, .int .i64 2, .float .f64 c]) (.int .i64 1)).run Tryz.prog w = .ok (.agg #[.int .i64 0, .float .f64 b]) w := by rfl
set_option maxRecDepth 100000 in
theorem ix2 (a b c : Nat) (w : World) : (Instr.index 91 (.agg #[.int .i64 2, .float .f64 a, .int .i64 0, .float .f64 b, .int .i64 2, .float .f64 c]) (.int .i64 2)).run Tryz.prog w = .ok (.agg #[.int .i64 2, .float .f64 c]) w := by rfl
end Go.Proofs.YtkpdnhbifokhlaaGreat

namespace Go.Proofs.YtkpdnhbifokhlaaGreat
open Go.ChangeShapes Go.WideShapes Go.ChangeAt Go.RowKit Ieee.Own Pol

theorem axi_of {o : Ob} (h : ObW o) (hO : ObOk o) : Axi o.ax := by
 obtain ⟨f, g, a, b⟩ := btw_of h.ax hO.ax
 have q1 : Q axLo = 1 / 1048576 := by decide +kernel
 have q2 : Q axHi = 1099511627776 := by decide +kernel
 exact ⟨h.ax, g, by rw [← q1]; exact Q_le.2 a, by rw [← q2]; exact Q_le.2 b⟩
theorem ecc_of {e : Nat} (he : e < 18446744073709551616) (h : ecB e = true) : fitB e = true ∧ 0 ≤ Q e ∧ Q e ≤ 7 / 8 := by
 obtain ⟨f, g, a, b⟩ := btw_of he h
 have q : Q ecHi = 7 / 8 := by decide +kernel
 rw [V_zero] at a
 exact ⟨g, Q_nn.2 a, by rw [← q]; exact Q_le.2 b⟩
theorem sol_wd {e m : Nat} (he : e < 18446744073709551616) (hm : m < 18446744073709551616) (e1 : ecB e = true) (m1 : haB m = true) : FinW (plcW (kepW e) m) ∧ Ang (solV e m) ∧ errA (solV e m) = 0 := by
 obtain ⟨-, K, q⟩ := kp_ec he hm e1 m1
 obtain ⟨w, -⟩ := kepler_end K q
 have w5 : Wd (plcW (kepW e) m) 400 1075 := w.le (Nat.le_refl _) (by omega)
 exact ⟨w.fin, (oW_ang w5).1, (oW_ang w5).2⟩
end Go.Proofs.YtkpdnhbifokhlaaGreat
