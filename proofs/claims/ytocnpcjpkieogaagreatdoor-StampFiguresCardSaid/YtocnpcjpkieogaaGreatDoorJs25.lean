/- Proved here: what the texts Ycu, Ycv prove, one behind the other. -/
import Derived.Test.YtocnpcjpkieogaaGreatDoorJs21
import Derived.Test.YtocnpcjpkieogaaGreatDoorJs5
import Derived.Test.YtocnpcjpkieogaaGreatDoorJs3

namespace Go.Proofs.YtocnpcjpkieogaaGreatDoor
open Go.ChangeShapes Go.WideShapes Go.ChangeAt Go.RowKit

theorem pk_and (a : Nat) (ha : a < 18446744073709551616) (h : a / 4503599627370496 % 2 = 1) : bits BinOp.and IntKind.u64 (a : Int) 4503599627370496 = 4503599627370496 := by
  rw [show (4503599627370496 : Int) = ((4503599627370496 : Nat) : Int) from rfl, u64_and_nat a 4503599627370496 ha (by omega)]
  have e := Nat.div_add_mod (a &&& 4503599627370496) (2 ^ 52)
  rw [Nat.and_div_two_pow, Nat.and_mod_two_pow, show 4503599627370496 / 2 ^ 52 = 2 ^ 1 - 1 by decide, show 4503599627370496 % 2 ^ 52 = 0 by decide, Nat.and_two_pow_sub_one_eq_mod, Nat.and_zero] at e
  rw [show (2 : Nat) ^ 52 = 4503599627370496 by decide, show (2 : Nat) ^ 1 = 2 by decide, h] at e
  refine congrArg _ ?_
  omega
theorem pk_andn (a : Nat) (ha : a < 18446744073709551616) (h : a / 4503599627370496 % 2 = 1) : bits BinOp.andNot IntKind.u64 (a : Int) 4503599627370496 = ((a - 4503599627370496 : Nat) : Int) := by
  rw [show (4503599627370496 : Int) = ((4503599627370496 : Nat) : Int) from rfl, u64_andNot_nat a 4503599627370496 ha (by omega)]
  refine congrArg _ ?_
  have e := Nat.div_add_mod (a &&& (18446744073709551615 - 4503599627370496)) (2 ^ 53)
  rw [Nat.and_div_two_pow, Nat.and_mod_two_pow, show (18446744073709551615 - 4503599627370496) / 2 ^ 53 = 2 ^ 11 - 1 by decide, show (18446744073709551615 - 4503599627370496) % 2 ^ 53 = 2 ^ 52 - 1 by decide, Nat.and_two_pow_sub_one_eq_mod, Nat.and_two_pow_sub_one_eq_mod] at e
  rw [show (2 : Nat) ^ 53 = 9007199254740992 by decide, show (2 : Nat) ^ 52 = 4503599627370496 by decide, show (2 : Nat) ^ 11 = 2048 by decide] at e
  rw [show (18446744073709551616 - 1 - 4503599627370496) = (18446744073709551615 - 4503599627370496) by decide]
  omega
theorem pk_or (s f E : Nat) (hs : s ≤ 1) (hf : f < 4503599627370496) (hE : E < 2048) : bits BinOp.or IntKind.u64 ((s * 9223372036854775808 + f : Nat) : Int) ((E * 4503599627370496 : Nat) : Int) = ((s * 9223372036854775808 + f + E * 4503599627370496 : Nat) : Int) := by
  rw [u64_or_nat _ _ (by omega) (by omega)]
  refine congrArg _ ?_
  have e := Nat.div_add_mod ((s * 9223372036854775808 + f) ||| (E * 4503599627370496)) (2 ^ 52)
  rw [Nat.or_div_two_pow, Nat.or_mod_two_pow] at e
  rw [show (2 : Nat) ^ 52 = 4503599627370496 by decide] at e
  rw [show (s * 9223372036854775808 + f) / 4503599627370496 = 2 ^ 11 * s by omega, show E * 4503599627370496 / 4503599627370496 = E by omega, show (s * 9223372036854775808 + f) % 4503599627370496 = f by omega, show E * 4503599627370496 % 4503599627370496 = 0 by omega, Nat.or_zero, ← Nat.two_pow_add_eq_or_of_lt (i := 11) (by rw [show (2 : Nat) ^ 11 = 2048 by decide]; exact hE)] at e
  omega
theorem pk_sign (s m : Nat) (hs : s ≤ 1) (hm : m < 9223372036854775808) : bits BinOp.or IntKind.u64 ((s * 9223372036854775808 : Nat) : Int) (m : Int) = ((s * 9223372036854775808 + m : Nat) : Int) := by
  rw [u64_or_nat _ _ (by omega) (by omega)]
  refine congrArg _ ?_
  have := Nat.two_pow_add_eq_or_of_lt (i := 63) (b := m) hm s
  rw [show (2 : Nat) ^ 63 = 9223372036854775808 by decide] at this
  rw [Nat.mul_comm s, this]
set_option maxRecDepth 100000 in
theorem ifb_run (n : Int) (w : World) : (callFunc 138 #[.int .u64 n]).run Tryz.prog w = .ok (.value (.float .f64 n.toNat)) w := by
  rw [run_callFunc_extern (e := Extern.MathFloatBits.float64frombits) Tryz.func138 (by kernel_rfl) (by kernel_rfl) (by kernel_rfl) (by kernel_rfl)]; rfl
set_option maxRecDepth 100000 in
set_option maxHeartbeats 1000000 in
theorem pack_walk (X Y F Z : Nat) (e : Int) (E : Nat) (he : 1075 + e = (E : Int)) (hE : E ≤ 1100)
    (A1 : bits BinOp.and IntKind.u64 (Y : Int) 4503599627370496 = 4503599627370496) (A2 : bits BinOp.andNot IntKind.u64 (Y : Int) 4503599627370496 = (X : Int)) (A3 : bits BinOp.or IntKind.u64 (X : Int) (F : Int) = (Z : Int))
    (W : IntKind.u64.wrap ((E : Int) * 4503599627370496) = (F : Int)) (w : World) :
    Calls Tryz.prog 156 #[.int .u64 (Y : Int), .int .i64 e] w fun e' w' => e' = .returned (.tuple #[.float .f64 Z, .nilIface]) ∧ w = w' := by
  have g1 : e ≤ 25 := by omega
  have g2 : -1075 ≤ e := by omega
  have gE : (E : Int) ≤ 1100 := by omega
  have R := ifb_run
  clear hE
  go_enter Tryz.func156, Tryz.ntmps156
  go_wp2_with fail
  go_ret2
  exact ⟨rfl, rfl⟩
set_option maxRecDepth 100000 in
theorem pack_run (s m : Nat) (e : Int) (E : Nat) (hs : s ≤ 1) (hm1 : 4503599627370496 ≤ m) (hm2 : m < 9007199254740992) (he : 1075 + e = (E : Int)) (hE : E ≤ 1100) (w : World) :
    Calls Tryz.prog 156 #[.int .u64 ((s * 9223372036854775808 + m : Nat) : Int), .int .i64 e] w fun e' w' => e' = .returned (.tuple #[.float .f64 (s * 9223372036854775808 + (m - 4503599627370496) + E * 4503599627370496), .nilIface]) ∧ w = w' := by
  have A1 := pk_and (s * 9223372036854775808 + m) (by omega) (by omega)
  have A2 := pk_andn (s * 9223372036854775808 + m) (by omega) (by omega)
  rw [show s * 9223372036854775808 + m - 4503599627370496 = s * 9223372036854775808 + (m - 4503599627370496) by omega] at A2
  have A3 := pk_or s (m - 4503599627370496) E hs (by omega) (by omega)
  have W : IntKind.u64.wrap ((E : Int) * 4503599627370496) = ((E * 4503599627370496 : Nat) : Int) := by
    rw [show (E : Int) * 4503599627370496 = ((E * 4503599627370496 : Nat) : Int) by simp, u64_wrapN, Nat.mod_eq_of_lt (by omega)]
  exact pack_walk _ _ _ _ e E he hE A1 A2 A3 W w
theorem row_hi : ((List.range 4).all fun i => decide (9223372036854775808 ≤ (rowN (6 + i)).1)) = true := by decide +kernel
theorem row_big {p : Nat} (h1 : 6 ≤ p) (h2 : p ≤ 9) : 9223372036854775808 ≤ (rowN p).1 := by
  have h := row_hi
  rw [List.all_eq_true] at h
  have g := h (p - 6) (List.mem_range.2 (by omega))
  rw [show 6 + (p - 6) = p by omega, decide_eq_true_eq] at g
  exact g
set_option maxHeartbeats 2000000 in
set_option maxRecDepth 100000 in
theorem pf64_walk (D pp b k0 sg u X : Nat) (h1 : 6 ≤ pp) (h2 : pp ≤ 9) (_hD0 : D < 18446744073709551616) (hb1 : 1 ≤ b) (hb2 : b ≤ 64) (hk : k0 + b = lgN pp + 53) (hx : X < 18446744073709551616) (hx1 : 9223372036854775808 ≤ X)
    (hX : IntKind.u64.wrap ((D : Int) * 2 ^ (64 - b)) = (X : Int)) (hu : usc X (rowN pp).1 (rowN pp).2 8 = u) (hu2 : u < 9223372036854775808)
    (s M x : Nat) (hs : s ≤ 1) (hsg : sg = s * 9223372036854775808) (f : Bool) (hf : decide ((36028797018963966 : Int) ≤ (u : Int)) = f)
    (hM : rndU (if f = true then or1 (u / 2) (u % 2) else u) = M) (hM1 : 4503599627370496 ≤ M) (hM2 : M < 9007199254740992) (hxx : s * 9223372036854775808 + (M - 4503599627370496) + ((if f = true then 1076 else 1075) - k0) * 4503599627370496 = x)
    (Ln : ∀ w : World, Calls Tryz.prog 74 #[.int .u64 (D : Int)] w fun e w' => e = .returned (.int .i64 (b : Int)) ∧ w = w') (w : World) (L : Lib9 w) :
    Calls Tryz.prog 140 #[.int .u64 (D : Int), .int .i64 (-(pp : Int)), .int .u64 (sg : Int)] w fun e w' => e = .returned (.tuple #[.float .f64 x, .nilIface]) ∧ Below w.heap.size w w' := by
  obtain ⟨l1, l2, l3, l4, l5⟩ := lgN_at h1 h2
  obtain ⟨r1, r2, r3, ep, r4, r5⟩ := row_at h1 h2
  have rb := row_big h1 h2
  clear l1 l2 r4 r5
  have C1 := Lib.hid Ln
  have C2 := Lib.hid (fun w => lg2_run (-(pp : Int)) (by omega) (by omega) w)
  rw [l3] at C2
  have hne : ¬ (w.heap.size = 10) := by have := L.size; omega
  have hwl := L.size
  have T := L.pow _ _ r1
  have w1b : Below w.heap.size w (w.alloc (.cells #[.int .u64 0, .int .u64 0, .int .i64 0] 135)) := (Below.refl _ _).alloc (Nat.le_refl _) _
  obtain ⟨w1, hw1⟩ : ∃ w1, w1 = w.alloc (.cells #[.int .u64 0, .int .u64 0, .int .i64 0] 135) := ⟨_, rfl⟩
  have T1 : TabAt (348 - pp) (rowN pp).1 (rowN pp).2 w1 := by
    rw [hw1]
    have c : ∀ j, (w.alloc (.cells #[.int .u64 0, .int .u64 0, .int .i64 0] 135)).cell? ⟨10, j, none⟩ = w.cell? ⟨10, j, none⟩ := fun j => w1b.cell (p := ⟨10, j, none⟩) (Nat.lt_of_lt_of_le (show 10 < 18 + 1 by decide) hwl)
    exact ⟨(c _).trans T.1, (c _).trans T.2⟩
  have k0' : w1.cell? ⟨w.heap.size, 0, none⟩ = some (.int .u64 0) := by rw [hw1]; exact World.cell?_alloc_at _ _ _ _ rfl
  have k1 : w1.cell? ⟨w.heap.size, 1, none⟩ = some (.int .u64 0) := by rw [hw1]; exact World.cell?_alloc_at _ _ _ _ rfl
  have k2 : w1.cell? ⟨w.heap.size, 2, none⟩ = some (.int .i64 0) := by rw [hw1]; exact World.cell?_alloc_at _ _ _ _ rfl
  have kf : ∀ j, w1.frozen? ⟨w.heap.size, j, none⟩ = false := fun j => by rw [hw1]; exact World.frozen?_alloc_at _ _ _ _ rfl
  generalize hA : (rowN pp).1 = A at *
  generalize hB : (rowN pp).2 = B at *
  obtain ⟨G, hG⟩ : ∃ G, G = lgN pp := ⟨_, rfl⟩
  rw [← hG] at l4 l5 hk C2 l3
  have C3 := Lib.hid (prescale_run w.heap.size (348 - pp) A B ((k0 : Int) - (64 - (b : Int))) (-(pp : Int)) (-(G : Int)) (by omega) (by omega) (by omega) (by omega) (by omega) (by omega) w1 T1 hne k0' k1 k2 kf)
  rw [show -((k0 : Int) - (64 - (b : Int)) + -(G : Int) + 3) = ((8 : Nat) : Int) by omega] at C3
  obtain ⟨w2, hw2⟩ : ∃ w2, w2 = ((w1.setCell ⟨w.heap.size, 0, none⟩ (.int .u64 (A : Int))).setCell ⟨w.heap.size, 1, none⟩ (.int .u64 (B : Int))).setCell ⟨w.heap.size, 2, none⟩ (.int .i64 ((8 : Nat) : Int)) := ⟨_, rfl⟩
  rw [← hw2] at C3
  have q0 : w2.cell? ⟨w.heap.size, 0, none⟩ = some (.int .u64 (A : Int)) := by
    rw [hw2, World.cell?_setCell_other _ _ _ _ (by intro e; simp at e), World.cell?_setCell_other _ _ _ _ (by intro e; simp at e)]
    exact World.cell?_setCell_same _ _ _ k0'
  have q1 : w2.cell? ⟨w.heap.size, 1, none⟩ = some (.int .u64 (B : Int)) := by
    rw [hw2, World.cell?_setCell_other _ _ _ _ (by intro e; simp at e)]
    exact World.cell?_setCell_same _ _ _ ((World.cell?_setCell_other _ _ _ _ (by intro e; simp at e)).trans k1)
  have q2 : w2.cell? ⟨w.heap.size, 2, none⟩ = some (.int .i64 ((8 : Nat) : Int)) := by
    rw [hw2]
    exact World.cell?_setCell_same _ _ _ ((World.cell?_setCell_other _ _ _ _ (by intro e; simp at e)).trans ((World.cell?_setCell_other _ _ _ _ (by intro e; simp at e)).trans k2))
  have B2 : Below w.heap.size w w2 := by
    rw [hw2, hw1]; exact ((w1b.setCell (Nat.le_refl _) _).setCell (Nat.le_refl _) _).setCell (Nat.le_refl _) _
  have C4 := Lib.hid (uscale_run X A B 8 w.heap.size hx r2 (by omega) (by decide) (fun _ => by
    rw [Nat.le_div_iff_mul_le (by decide), Nat.one_mul]
    have := Nat.mul_le_mul hx1 rb
    omega) w2 q0 q1 q2)
  clear rb hx1
  rw [hu] at C4
  have C5 := Lib.hid (fun w => unmin_run 9007199254740992 (by decide) (by decide) w)
  have C6 := Lib.hid (fun w => b2i_run f w)
  have O2 := pk_sign s M hs (by omega)
  rw [← hsg] at O2
  have A1 := sc_and1 u (by omega)
  replace B2 := Lib.hid B2
  have hc := q2
  clear T T1 k0' k1 k2 kf q0 q1 q2 w1b L hne hu hA hB r1 r2 r3 hx hG l3 Ln
  rw [hw1] at C3
  clear hw1 hw2
  clear w1
  have gk : (k0 : Int) ≤ 1000 := by omega
  have gk2 : -100 ≤ (k0 : Int) := by omega
  have gb : (b : Int) ≤ 64 := by omega
  have gb2 : 1 ≤ (b : Int) := by omega
  have gG : (G : Int) ≤ 30 := by omega
  have mn : min 1074 (53 - (b : Int) + (G : Int)) = (k0 : Int) := by omega
  cases f with
  | false =>
    rw [if_neg (by decide)] at hM hxx
    have C7 := Lib.hid (fun w => uround_run u hu2 w)
    change Hid (∀ w, Calls _ _ _ _ fun e w' => e = .returned (.int .u64 ((rndU u : Nat) : Int)) ∧ _) at C7
    rw [hM] at C7
    have C8 := Lib.hid (fun w => pack_run s M (-(k0 : Int)) (1075 - k0) hs hM1 hM2 (by omega) (by omega) w)
    rw [hxx, ← hsg] at C8
    have O1 : bits BinOp.or IntKind.u64 (u : Int) ((u : Int) % 2) = (u : Int) := by
      rw [show (u : Int) % 2 = ((u % 2 : Nat) : Int) from rfl, or1_u64 u (u % 2) (by omega) (by omega)]
      rcases Nat.mod_two_eq_zero_or_one u with z | z
      · rw [z, or1_z]
      · rw [or1_o z]
    clear hM hxx hM1 hM2 hsg hs
    go_enter Tryz.func140, Tryz.ntmps140
    go_wp2_with fail
    refine (C1.out _).mono ?_
    rintro _ v1 ⟨rfl, rfl⟩
    clear C1
    go_wp2_with fail
    refine (C2.out _).mono ?_
    rintro _ v1 ⟨rfl, rfl⟩
    clear C2
    go_wp2_with fail
    refine C3.out.mono ?_
    rintro _ v1 ⟨rfl, rfl⟩
    clear C3
    go_wp2_with fail
    refine C4.out.mono ?_
    rintro _ v1 ⟨rfl, n, rfl⟩
    clear C4
    go_wp2_with fail
    refine (C5.out _).mono ?_
    rintro _ v2 ⟨rfl, rfl⟩
    clear C5
    go_wp2_with fail
    refine (C6.out _).mono ?_
    rintro _ v2 ⟨rfl, rfl⟩
    clear C6
    go_wp2_with fail
    refine (C7.out _).mono ?_
    rintro _ v2 ⟨rfl, rfl⟩
    clear C7
    go_wp2_with fail
    refine (C8.out _).mono ?_
    rintro _ v2 ⟨rfl, rfl⟩
    clear C8
    go_wp2_with fail
    go_ret2
    exact ⟨rfl, bl_drewN B2.out n⟩
  | true =>
    rw [if_pos rfl] at hM hxx
    have ol := or1_le (u / 2) (u % 2)
    have O1 : bits BinOp.or IntKind.u64 ((u : Int) / 2) ((u : Int) % 2) = ((or1 (u / 2) (u % 2) : Nat) : Int) := by
      rw [show (u : Int) % 2 = ((u % 2 : Nat) : Int) from rfl, show (u : Int) / 2 = ((u / 2 : Nat) : Int) from rfl, or1_u64 (u / 2) (u % 2) (by omega) (by omega)]
    generalize or1 (u / 2) (u % 2) = uR at *
    have C7 := Lib.hid (fun w => uround_run uR (by omega) w)
    change Hid (∀ w, Calls _ _ _ _ fun e w' => e = .returned (.int .u64 ((rndU uR : Nat) : Int)) ∧ _) at C7
    rw [hM] at C7
    have C8 := Lib.hid (fun w => pack_run s M (-((k0 : Int) - 1)) (1076 - k0) hs hM1 hM2 (by omega) (by omega) w)
    rw [hxx, ← hsg] at C8
    clear hM hxx hM1 hM2 hsg hs ol
    go_enter Tryz.func140, Tryz.ntmps140
    go_wp2_with fail
    refine (C1.out _).mono ?_
    rintro _ v1 ⟨rfl, rfl⟩
    clear C1
    go_wp2_with fail
    refine (C2.out _).mono ?_
    rintro _ v1 ⟨rfl, rfl⟩
    clear C2
    go_wp2_with fail
    refine C3.out.mono ?_
    rintro _ v1 ⟨rfl, rfl⟩
    clear C3
    go_wp2_with fail
    refine C4.out.mono ?_
    rintro _ v1 ⟨rfl, n, rfl⟩
    clear C4
    go_wp2_with fail
    refine (C5.out _).mono ?_
    rintro _ v2 ⟨rfl, rfl⟩
    clear C5
    go_wp2_with fail
    refine (C6.out _).mono ?_
    rintro _ v2 ⟨rfl, rfl⟩
    clear C6
    go_wp2_with fail
    refine (C7.out _).mono ?_
    rintro _ v2 ⟨rfl, rfl⟩
    clear C7
    go_wp2_with fail
    refine (C8.out _).mono ?_
    rintro _ v2 ⟨rfl, rfl⟩
    clear C8
    go_wp2_with fail
    go_ret2
    exact ⟨rfl, bl_drewN B2.out n⟩
theorem log_lt (D : Nat) (h : D ≠ 0) : 2 ^ D.log2 ≤ D ∧ D < 2 ^ (D.log2 + 1) := ⟨Nat.log2_self_le h, Nat.lt_log2_self⟩
set_option maxRecDepth 100000 in
/-- the library's parseFloat64 answers the nearest number -/
theorem pf64_run (D pp s : Nat) (h1 : 6 ≤ pp) (h2 : pp ≤ 9) (hD : D ≠ 0) (hD0 : D < 18446744073709551616) (hs : s ≤ 1) (w : World) (L : Lib9 w) :
    Calls Tryz.prog 140 #[.int .u64 (D : Int), .int .i64 (-(pp : Int)), .int .u64 ((s * 9223372036854775808 : Nat) : Int)] w fun e w' => (∃ x k : Nat, e = .returned (.tuple #[.float .f64 x, .nilIface]) ∧ NearK D pp k x ∧ x < 18446744073709551616 ∧ x / 9223372036854775808 = s) ∧ Below w.heap.size w w' := by
  obtain ⟨g1, g2⟩ := log_lt D hD
  have hb : D.log2 + 1 ≤ 64 := by
    have : (2 : Nat) ^ D.log2 < 2 ^ 64 := Nat.lt_of_le_of_lt g1 (by rw [show (2 : Nat) ^ 64 = 18446744073709551616 by decide]; exact hD0)
    have := (Nat.pow_lt_pow_iff_right (a := 2) (by decide)).1 this
    omega
  have Ln := fun w => ln_run D hD hD0 w
  obtain ⟨b, hbb⟩ : ∃ b, b = D.log2 + 1 := ⟨_, rfl⟩
  rw [← hbb] at Ln hb g2
  have g1' : 2 ^ (b - 1) ≤ D := by rw [hbb]; exact g1
  obtain ⟨l1, l2, l3, l4, l5⟩ := lgN_at h1 h2
  obtain ⟨k0, hk⟩ : ∃ k0, k0 + b = lgN pp + 53 := ⟨lgN pp + 53 - b, by omega⟩
  obtain ⟨n1, n2, n3⟩ := pf_near h1 h2 (by omega) hb g1' g2 hk
  have hu := usc_val h1 h2 hb g2 hk
  have x1 : D * 2 ^ (64 - b) < 18446744073709551616 := by
    have := Nat.mul_lt_mul_of_pos_right g2 (Nat.two_pow_pos (64 - b))
    rw [← Nat.pow_add, show b + (64 - b) = 64 by omega] at this
    exact this
  have x2 : 9223372036854775808 ≤ D * 2 ^ (64 - b) := by
    have := Nat.mul_le_mul_right (2 ^ (64 - b)) g1'
    rw [← Nat.pow_add, show b - 1 + (64 - b) = 63 by omega] at this
    exact this
  have hX : IntKind.u64.wrap ((D : Int) * 2 ^ (64 - b)) = ((D * 2 ^ (64 - b) : Nat) : Int) := by
    rw [sc_wrap, Nat.mod_eq_of_lt x1]
  generalize unr (D * 2 ^ k0) (10 ^ pp) = u at *
  by_cases c : 36028797018963966 ≤ u
  · obtain ⟨m1, m2, k, m3⟩ := n2 c
    generalize hM : rndU (or1 (u / 2) (u % 2)) = M at *
    refine (pf64_walk D pp b k0 _ u _ h1 h2 hD0 (by omega) hb hk x1 x2 hX hu n3 s M _ hs rfl true (decide_eq_true (by omega)) (by rw [if_pos rfl]; exact hM) m1 m2 rfl Ln w L).mono ?_
    rintro e w' ⟨rfl, B⟩
    rw [if_pos rfl]
    refine ⟨⟨_, k, rfl, m3 _ ?_, ?_, ?_⟩, B⟩ <;> omega
  · obtain ⟨m1, m2, k, m3⟩ := n1 (by omega)
    generalize hM : rndU u = M at *
    refine (pf64_walk D pp b k0 _ u _ h1 h2 hD0 (by omega) hb hk x1 x2 hX hu n3 s M _ hs rfl false (decide_eq_false (by omega)) (by rw [if_neg (by decide)]; exact hM) m1 m2 rfl Ln w L).mono ?_
    rintro e w' ⟨rfl, B⟩
    rw [if_neg (by decide)]
    refine ⟨⟨_, k, rfl, m3 _ ?_, ?_, ?_⟩, B⟩ <;> omega
end Go.Proofs.YtocnpcjpkieogaaGreatDoor

namespace Go.Proofs.YtocnpcjpkieogaaGreatDoor
open Go.ChangeShapes Go.WideShapes Go.ChangeAt Go.RowKit Ieee Ieee.Own

def p10L : List Nat := [4607182418800017408, 4621819117588971520, 4636737291354636288, 4652007308841189376, 4666723172467343360, 4681608360884174848, 4696837146684686336, 4711630319722168320, 4726483295884279808, 4741671816366391296, 4756540486875873280, 4771362005757984768, 4786511204640096256, 4801453603149578240, 4816244402031689728, 4831355200913801216, 4846369599423283200, 4861130398305394688, 4876203697187506176, 4891288408196988160, 4906019910204099648, 4921056587992461136, 4936209963552724370]
def p10W (p : Nat) : Nat := p10L.getD p 0
theorem ten_all : ((List.range 10).all fun p => decide (p10W p < 9218868437227405312) && (decide (4607182418800017408 ≤ p10W p) && decide ((4503599627370496 + p10W p % 4503599627370496) * 2 ^ (p10W p / 4503599627370496 - 1023) = 10 ^ p * 4503599627370496))) = true := by decide +kernel
theorem ten_at {p : Nat} (h : p ≤ 9) : p10W p < 9218868437227405312 ∧ 4607182418800017408 ≤ p10W p ∧ (4503599627370496 + p10W p % 4503599627370496) * 2 ^ (p10W p / 4503599627370496 - 1023) = 10 ^ p * 4503599627370496 := by
  have g := ten_all
  rw [List.all_eq_true] at g
  have k := g p (List.mem_range.2 (by omega))
  simp only [Bool.and_eq_true, decide_eq_true_eq] at k
  exact k
theorem ten_norm {p : Nat} (h : p ≤ 9) {c : Nat} (hc : c = 1074) : ∃ n q, Norm (p10W p) false n q ∧ n * 2 ^ q = 10 ^ p * 2 ^ c := by
  obtain ⟨h1, h2, h3⟩ := ten_at h
  have N := norm_of (b := p10W p) (by unfold FinW; omega) (by omega)
  rw [decide_eq_false (by omega)] at N
  refine ⟨_, _, N, ?_⟩
  generalize p10W p = w at *
  obtain ⟨d, hd⟩ : ∃ d, d = 1022 := ⟨_, rfl⟩
  rw [show w % 9223372036854775808 = w by omega, show w / 4503599627370496 - 1 = w / 4503599627370496 - 1023 + d by omega, Nat.pow_add, ← Nat.mul_assoc, h3, Nat.mul_assoc, show c = 52 + d by omega, Nat.pow_add]
/-- a whole number as a float -/
theorem fl_of {D : Nat} (h1 : 1 ≤ D) (h2 : D < 4503599627370496) {c : Nat} (hc : c = 1074) : floatOfInt .f64 (D : Int) < 9218868437227405312 ∧ 4503599627370496 ≤ floatOfInt .f64 (D : Int) ∧ val 52 (floatOfInt .f64 (D : Int)) = D * 2 ^ c := by
  have lim : D ≤ 2 ^ 53 := by rw [show (2 : Nat) ^ 53 = 9007199254740992 by decide]; omega
  have small : D * 2 ^ c < 2 ^ (52 + c) := by
    rw [Nat.pow_add]
    exact Nat.mul_lt_mul_of_pos_right (by rw [show (2 : Nat) ^ 52 = 4503599627370496 by decide]; exact h2) (Nat.two_pow_pos _)
  have hlt : rn (D * 2 ^ c) < 2 ^ 2098 := by
    rw [rn_exact _ _ lim]
    exact Nat.lt_of_lt_of_le small (two_le (a := 52 + c) (b := 2098) (by omega))
  obtain ⟨r, r1, r2, r3⟩ := nearest_rn false D 0 (D * 2 ^ c) c 0 (by rw [Nat.pow_zero, Nat.mul_one]) (by clear hlt; omega) hlt
  have e : floatOfInt .f64 (D : Int) = r := by
    show Ieee.double.nearest (decide ((D : Int) < 0)) (D : Int).natAbs 0 = _
    rw [decide_eq_false (by omega), Int.natAbs_natCast, r2]
    unfold Ieee.Format.word
    simp
  rw [rn_exact _ _ lim] at r3
  clear hlt
  rw [e]
  refine ⟨r1, ?_, r3⟩
  rcases Nat.lt_or_ge r 4503599627370496 with z | z
  · exfalso
    have : val 52 r = r := by
      unfold val mg ex
      rw [show (2 : Nat) ^ 52 = 4503599627370496 by decide, if_pos z, if_pos z, Nat.pow_zero, Nat.mul_one]
    rw [this] at r3
    have k1 : 2 ^ c ≤ D * 2 ^ c := Nat.le_mul_of_pos_left _ h1
    have k2 : (2 : Nat) ^ 52 ≤ 2 ^ c := Nat.pow_le_pow_right (by decide) (by omega)
    rw [show (2 : Nat) ^ 52 = 4503599627370496 by decide] at k2
    omega
  · exact z
/-- the library's further variables -/
structure Lib10 (w : World) : Prop where
  l9 : Lib9 w
  info : w.cell? ⟨9, 0, none⟩ = some (.int .u64 52)
  pow : ∃ a o n : Nat, w.cell? ⟨16, 0, none⟩ = some (.slice (some ⟨a, o, none⟩) 23 n) ∧ a < w.heap.size ∧ ∀ i, i < 23 → w.cell? ⟨a, o + i, none⟩ = some (.float .f64 (p10W i))
set_option maxRecDepth 100000 in
set_option maxHeartbeats 1000000 in
theorem a64_big (D : Nat) (p : Int) (neg : Bool) (h1 : 4503599627370496 ≤ D) (h2 : D < 18446744073709551616) (w : World) (L : Lib10 w) :
    Calls Tryz.prog 139 #[.int .u64 (D : Int), .int .i64 p, .bool neg] w fun e w' => e = .returned (.tuple #[.float .f64 0, .bool false]) ∧ w = w' := by
  have hi := L.info
  have t1 : ((D : Int) / 4503599627370496 != 0) = true := by rw [bne_iff_ne]; omega
  clear L h1 h2
  go_enter Tryz.func139, Tryz.ntmps139
  go_wp2_with fail
  go_ret2
  exact ⟨rfl, rfl⟩
set_option maxRecDepth 100000 in
theorem a64_neg (b : Nat) (hb : b < 9223372036854775808) (w : World) : (Op.unary .neg (.float .f64 b)).run Tryz.prog w = .ok (.float .f64 (b + 9223372036854775808)) w := by
  have h := xor_top64 b (by omega)
  rw [if_pos hb] at h
  rw [← h]; rfl
/-- the quotient of the two words -/
theorem a64_quot {D p F a : Nat} {neg : Bool} (h1 : 1 ≤ D) (h2 : D < 4503599627370496) (hp : p ≤ 9) (f1 : F < 9218868437227405312) (f2 : 4503599627370496 ≤ F) {c : Nat} (hc : c = 1074) (f3 : val 52 F = D * 2 ^ c) (ha : a = F + (if neg = true then 9223372036854775808 else 0)) :
    ∃ r k, double.div a (p10W p) = some r ∧ NearK D p k r ∧ r < 18446744073709551616 ∧ r / 9223372036854775808 = (if neg = true then 1 else 0) := by
  obtain ⟨n, q, N2, vn⟩ := ten_norm hp hc
  have N1 := norm_of (b := a) (by unfold FinW; rw [ha]; split <;> omega) (by rw [ha]; split <;> omega)
  have em : a % 9223372036854775808 = F := by rw [ha]; split <;> omega
  have es : decide (9223372036854775808 ≤ a) = neg := by
    cases neg with
    | true => rw [if_pos rfl] at ha; exact decide_eq_true (by omega)
    | false => rw [if_neg (by decide)] at ha; exact decide_eq_false (by omega)
  rw [es, em] at N1
  have vm : (4503599627370496 + a % 4503599627370496) * 2 ^ (F / 4503599627370496 - 1) = D * 2 ^ c := by
    rw [← f3]
    unfold val mg ex
    rw [show (2 : Nat) ^ 52 = 4503599627370496 by decide, if_neg (by omega), if_neg (by omega), show a % 4503599627370496 = F % 4503599627370496 by omega]
  obtain ⟨r, k, d1, d2, d3, d4, d5⟩ := quot_near N1 N2 h1 h2 hp hc vm vn
  refine ⟨r, k, d1, d2, d3.1, ?_⟩
  have hr := d3.1
  unfold V at d4 d5
  cases neg with
  | true =>
    have := d4 rfl
    rw [if_pos rfl]
    split at this <;> omega
  | false =>
    have := d5 rfl
    rw [if_neg (by decide)]
    split at this <;> omega
/-- no places: the number itself -/
theorem a64_whole {D F x : Nat} (h1 : 1 ≤ D) (h2 : D < 4503599627370496) (f1 : F < 9218868437227405312) (f2 : 4503599627370496 ≤ F) {c : Nat} (hc : c = 1074) (f3 : val 52 F = D * 2 ^ c) (hx : x % 9223372036854775808 = F) : ∃ k, NearK D 0 k x := by
  have l1 := Nat.log2_self_le (n := D) (by omega)
  have l2 := Nat.lt_log2_self (n := D)
  have l3 : D.log2 < 52 := by
    have : (2 : Nat) ^ D.log2 < 2 ^ 52 := by rw [show (2 : Nat) ^ 52 = 4503599627370496 by decide]; omega
    exact (Nat.pow_lt_pow_iff_right (a := 2) (by decide)).1 this
  obtain ⟨k, hk⟩ : ∃ k, D.log2 + k = 52 := ⟨52 - D.log2, by omega⟩
  have lo : 4503599627370496 ≤ D * 2 ^ k := by
    have := Nat.mul_le_mul_right (2 ^ k) l1
    rw [← Nat.pow_add, hk] at this
    exact this
  have hi : D * 2 ^ k < 9007199254740992 := by
    have := Nat.mul_lt_mul_of_pos_right l2 (Nat.two_pow_pos k)
    rw [← Nat.pow_add, show D.log2 + 1 + k = 53 by omega] at this
    exact this
  refine ⟨k, by rw [Nat.pow_zero, Nat.mul_one]; exact lo, by rw [Nat.pow_zero, Nat.mul_one]; exact hi, ?_⟩
  rw [Nat.pow_zero, rneD_one]
  have fin : FinW F := by unfold FinW; omega
  have := word_at (r := F) (Q := D * 2 ^ k) (e := 1074 - k) fin (by
    rw [V_abs' F fin, show F % 9223372036854775808 = F by omega, f3, Nat.mul_assoc, ← Nat.pow_add, show k + (1074 - k) = c by omega]) lo (by omega)
  omega
set_option maxRecDepth 100000 in
set_option maxHeartbeats 1000000 in
theorem a64_run (D p : Nat) (neg : Bool) (h1 : 1 ≤ D) (h2 : D < 4503599627370496) (hp : p ≤ 9) (w : World) (L : Lib10 w) :
    Calls Tryz.prog 139 #[.int .u64 (D : Int), .int .i64 (-(p : Int)), .bool neg] w fun e w' => (∃ x k, e = .returned (.tuple #[.float .f64 x, .bool true]) ∧ NearK D p k x ∧ x < 18446744073709551616 ∧ x / 9223372036854775808 = (if neg = true then 1 else 0)) ∧ w = w' := by
  have hi := L.info
  obtain ⟨a, o, n, c1, c2, c3⟩ := L.pow
  have t1 : ((D : Int) / 4503599627370496 != 0) = false := by rw [bne_eq_false_iff_eq]; omega
  obtain ⟨f1, f2, f3⟩ := fl_of h1 h2 rfl
  clear L
  generalize hF : floatOfInt .f64 (D : Int) = F at *
  by_cases z : p = 0
  · subst z
    cases neg with
    | false =>
      obtain ⟨k, nk⟩ := a64_whole (x := F) h1 h2 f1 f2 rfl f3 (by omega)
      replace nk := Lib.hid nk
      clear f2 f3
      have W : Calls Tryz.prog 139 #[.int .u64 (D : Int), .int .i64 (-(((0 : Nat) : Int) : Int)), .bool false] w fun e w' => e = .returned (.tuple #[.float .f64 F, .bool true]) ∧ w = w' := by
        go_enter Tryz.func139, Tryz.ntmps139
        go_wp2_with fail
        go_ret2
        exact ⟨rfl, rfl⟩
      refine W.mono ?_
      rintro e w' ⟨rfl, rfl⟩
      exact ⟨⟨F, k, rfl, nk.out, by omega, by rw [if_neg (by decide)]; omega⟩, rfl⟩
    | true =>
      obtain ⟨k, nk⟩ := a64_whole (x := F + 9223372036854775808) h1 h2 f1 f2 rfl f3 (by omega)
      replace nk := Lib.hid nk
      have N := fun w => a64_neg F (by omega) w
      clear f2 f3
      have W : Calls Tryz.prog 139 #[.int .u64 (D : Int), .int .i64 (-(((0 : Nat) : Int) : Int)), .bool true] w fun e w' => e = .returned (.tuple #[.float .f64 (F + 9223372036854775808), .bool true]) ∧ w = w' := by
        go_enter Tryz.func139, Tryz.ntmps139
        go_wp2_with fail
        go_ret2
        exact ⟨rfl, rfl⟩
      refine W.mono ?_
      rintro e w' ⟨rfl, rfl⟩
      exact ⟨⟨_, k, rfl, nk.out, by omega, by rw [if_pos rfl]; omega⟩, rfl⟩ 
  · have t2 : ((p : Int) == 0) = false := beq_eq_false_iff_ne.2 (by omega)
    have c3' := c3 p (by omega)
    cases neg with
    | false =>
      obtain ⟨r, k, d1, d2, d3, d4⟩ := a64_quot (neg := false) h1 h2 hp f1 f2 rfl f3 rfl
      rw [if_neg (by decide), Nat.add_zero] at d1
      have Q := fun T w => run_div F (p10W p) r d1 T w
      replace d2 := Lib.hid d2
      replace d4 := Lib.hid d4
      clear d1 f2 f3 f1
      have W : Calls Tryz.prog 139 #[.int .u64 (D : Int), .int .i64 (-(p : Int)), .bool false] w fun e w' => e = .returned (.tuple #[.float .f64 r, .bool true]) ∧ w = w' := by
        go_enter Tryz.func139, Tryz.ntmps139
        go_wp2_with fail
        go_ret2
        exact ⟨rfl, rfl⟩
      refine W.mono ?_
      rintro e w' ⟨rfl, rfl⟩
      exact  ⟨⟨r, k, rfl, d2.out, d3, d4.out⟩, rfl⟩
    | true =>
      obtain ⟨r, k, d1, d2, d3, d4⟩ := a64_quot (neg := true) h1 h2 hp f1 f2 rfl f3 rfl
      rw [if_pos rfl] at d1
      have N := fun w => a64_neg F (by omega) w
      have Q := fun T w => run_div (F + 9223372036854775808) (p10W p) r d1 T w
      replace d2 := Lib.hid d2
      replace d4 := Lib.hid d4
      clear d1 f2 f3 f1
      have W : Calls Tryz.prog 139 #[.int .u64 (D : Int), .int .i64 (-(p : Int)), .bool true] w fun e w' => e = .returned (.tuple #[.float .f64 r, .bool true]) ∧ w = w' := by
        go_enter Tryz.func139, Tryz.ntmps139
        go_wp2_with fail
        go_ret2
        exact ⟨rfl, rfl⟩
      refine W.mono ?_
      rintro e w' ⟨rfl, rfl⟩
      exact  ⟨⟨r, k, rfl, d2.out, d3, d4.out⟩, rfl⟩
end Go.Proofs.YtocnpcjpkieogaaGreatDoor
