/- Proved here: what the texts Sqg prove, one behind the other. -/
import Derived.Test.YtocnpcjpkieogaaGreatDoorJs32
import Derived.Test.YtocnpcjpkieogaaGreatDoorJs25
import Derived.Test.YtocnpcjpkieogaaGreatDoorJs5

namespace Go.Proofs.YtocnpcjpkieogaaGreatDoor
open Go.ChangeShapes Go.WideShapes Go.ChangeAt Go.RowKit Ieee.Own

set_option maxRecDepth 100000 in
theorem div64_zero (d : Nat) (hd : 0 < d) (u : World) :
    Calls Tryz.prog 39 #[.int .u64 0, .int .u64 0, .int .u64 (d : Int)] u fun e u' => e = .returned (.tuple #[.int .u64 0, .int .u64 0]) ∧ Below u.heap.size u u' := by
  have t1 : ((d : Int) == 0) = false := beq_eq_false_iff_ne.2 (by omega)
  have t2 : decide ((d : Int) ≤ 0) = false := decide_eq_false (by omega)
  have g : 1 ≤ (d : Int) := by omega
  have T : (0 : Int).tdiv (d : Int) = 0 := Int.zero_tdiv _
  have M : (0 : Int).tmod (d : Int) = 0 := Int.zero_tmod _
  go_enter Tryz.func39, Tryz.ntmps39
  go_wp2_with fail
  go_quiet (fail)
  go_wp2_with fail
  go_ret2
  exact ⟨rfl, bl_drewN (Below.refl _ _) _⟩
set_option maxRecDepth 100000 in
theorem div64_any (h d : Nat) (hh : h < d) (hd : d < 4294967296) (u : World) :
    Calls Tryz.prog 39 #[.int .u64 (h : Int), .int .u64 0, .int .u64 (d : Int)] u fun e u' => e = .returned (.tuple #[.int .u64 ((h * 18446744073709551616 / d : Nat) : Int), .int .u64 ((h * 18446744073709551616 % d : Nat) : Int)]) ∧ Below u.heap.size u u' := by
  rcases Nat.eq_zero_or_pos h with z | z
  · subst z
    rw [Nat.zero_mul, Nat.zero_div, Nat.zero_mod]
    exact div64_zero d hh u
  · exact div64_high h d _ _ rfl rfl z hh hd u
/-- the block of three words -/
structure Qw (w0 : World) (a x y z : Nat) (u : World) : Prop where
  old : Below w0.heap.size w0 u
  base : w0.heap.size ≤ a
  gin : a < u.heap.size
  c0 : u.cell? ⟨a, 0, none⟩ = some (.int .u64 (x : Int))
  c1 : u.cell? ⟨a, 1, none⟩ = some (.int .u64 (y : Int))
  c2 : u.cell? ⟨a, 2, none⟩ = some (.int .u64 (z : Int))
  warm : ∀ k, u.frozen? ⟨a, k, none⟩ = false
theorem Qw.on {w0 u u' : World} {a x y z : Nat} (h : Qw w0 a x y z u) (hb : Below u.heap.size u u') : Qw w0 a x y z u' := by
  have c : ∀ k, u'.cell? ⟨a, k, none⟩ = u.cell? ⟨a, k, none⟩ := fun k => hb.cell (p := ⟨a, k, none⟩) h.gin
  exact ⟨h.old.trans (hb.mono h.old.size), h.base, Nat.lt_of_lt_of_le h.gin hb.size, (c 0).trans h.c0, (c 1).trans h.c1, (c 2).trans h.c2, fun k => (bl_frozen hb h.gin k).trans (h.warm k)⟩
theorem Qw.put1 {w0 u : World} {a x y z : Nat} (h : Qw w0 a x y z u) (v : Nat) : Qw w0 a x v z (u.setCell ⟨a, 1, none⟩ (.int .u64 (v : Int))) := by
  have o : ∀ j, j ≠ 1 → (u.setCell ⟨a, 1, none⟩ (.int .u64 (v : Int))).cell? ⟨a, j, none⟩ = u.cell? ⟨a, j, none⟩ := fun j hj => World.cell?_setCell_other _ _ _ _ (by intro e; simp only [Addr.mk.injEq] at e; omega)
  exact ⟨h.old.setCell h.base _, h.base, by simpa using h.gin, (o 0 (by decide)).trans h.c0, World.cell?_setCell_same _ _ _ h.c1, (o 2 (by decide)).trans h.c2, fun k => by rw [World.frozen?_setCell]; exact h.warm k⟩
theorem Qw.put2 {w0 u : World} {a x y z : Nat} (h : Qw w0 a x y z u) (v : Nat) : Qw w0 a x y v (u.setCell ⟨a, 2, none⟩ (.int .u64 (v : Int))) := by
  have o : ∀ j, j ≠ 2 → (u.setCell ⟨a, 2, none⟩ (.int .u64 (v : Int))).cell? ⟨a, j, none⟩ = u.cell? ⟨a, j, none⟩ := fun j hj => World.cell?_setCell_other _ _ _ _ (by intro e; simp only [Addr.mk.injEq] at e; omega)
  exact ⟨h.old.setCell h.base _, h.base, by simpa using h.gin, (o 0 (by decide)).trans h.c0, (o 1 (by decide)).trans h.c1, World.cell?_setCell_same _ _ _ h.c2, fun k => by rw [World.frozen?_setCell]; exact h.warm k⟩
/-- the bit of the whole number -/
theorem bits_up {F m k : Nat} (hm : m = F / 2 ^ (k + 1)) : F / 2 ^ k = m * 2 + F / 2 ^ k % 2 := by
  have : F / 2 ^ (k + 1) = F / 2 ^ k / 2 := by rw [Nat.pow_succ, Nat.div_div_eq_div_mul]
  rw [hm, this]; omega
/-- a number with its lowest bit told -/
theorem or_bit (a b : Nat) (ha : a < 9223372036854775808) (hb : b ≤ 1) : bits BinOp.or IntKind.u64 ((a : Int) * 2) (b : Int) = ((a * 2 + b : Nat) : Int) := by
  rw [show (a : Int) * 2 = ((a * 2 : Nat) : Int) by simp, u64_or_nat _ _ (by omega) (by omega)]
  refine congrArg _ ?_
  have := Nat.two_pow_add_eq_or_of_lt (i := 1) (b := b) (by omega) a
  rw [Nat.pow_one] at this
  rw [Nat.mul_comm a, this]
set_option maxHeartbeats 4000000 in
set_option maxRecDepth 100000 in
theorem rquot_walk (n d q r q1 r1 q2 r2 F L M x : Nat) (n0 : n ≠ 0) (hn : n < 2305843009213693952) (hd : 0 < d) (hd2 : d < 4294967296) (hq : q = n / d) (hr : r = n % d) (hq1 : q1 = r * 18446744073709551616 / d) (hr1 : r1 = r * 18446744073709551616 % d) (hq2 : q2 = r1 * 18446744073709551616 / d) (hr2 : r2 = r1 * 18446744073709551616 % d)
    (hF : F = n3 q q1 q2) (hL1 : 2 ^ L ≤ F) (hL2 : F < 2 ^ (L + 1)) (hL53 : 53 ≤ L) (hL170 : L ≤ 170)
    (hM : M = F / 2 ^ (L - 52) + (if F / 2 ^ (L - 53) % 2 = 1 ∧ ((F % 2 ^ (L - 53) ≠ 0 ∨ r2 ≠ 0) ∨ F / 2 ^ (L - 52) % 2 = 1) then 1 else 0))
    (LD : ∀ u, Calls Tryz.prog 41 #[.float .f64 (floatOfInt .f64 (M : Int)), .int .i64 ((L : Int) - 64 - 52 - 64)] u fun e u' => e = .returned (.float .f64 x) ∧ u = u') (w : World) :
    Calls Tryz.prog 24 #[.int .u64 (n : Int), .int .u64 (d : Int)] w fun e w' => e = .returned (.float .f64 x) ∧ Below w.heap.size w w' := by
  have rd : r < d := by rw [hr]; exact Nat.mod_lt _ hd
  have r1d : r1 < d := by rw [hr1]; exact Nat.mod_lt _ hd
  have D1 := Lib.hid (fun u => div64_any r d rd hd2 u)
  rw [← hq1, ← hr1] at D1
  have D2 := Lib.hid (fun u => div64_any r1 d r1d hd2 u)
  rw [← hq2, ← hr2] at D2
  have T : (n : Int).tdiv (d : Int) = (q : Int) := by rw [hq]; rfl
  have Mo : (n : Int).tmod (d : Int) = (r : Int) := by rw [hr]; rfl
  have t0 : ((n : Int) == 0) = false := beq_eq_false_iff_ne.2 (by omega)
  have bq : q < 18446744073709551616 := by rw [hq]; exact Nat.lt_of_le_of_lt (Nat.div_le_self _ _) (by omega)
  have bq1 : q1 < 18446744073709551616 := by rw [hq1, Nat.div_lt_iff_lt_mul hd, Nat.mul_comm]; exact Nat.mul_lt_mul_of_pos_left rd (by decide)
  have bq2 : q2 < 18446744073709551616 := by rw [hq2, Nat.div_lt_iff_lt_mul hd, Nat.mul_comm]; exact Nat.mul_lt_mul_of_pos_left r1d (by decide)
  have B := Lib.hid (fun k (hk : k < 192) u => rbit_run q q1 q2 k ((k : Int) - 64) rfl hk bq bq1 bq2 u)
  rw [← hF] at B
  unfold w3 at B
  have wq : IntKind.u64.wrap (q : Int) = (q : Int) := by rw [u64_wrapN', Nat.mod_eq_of_lt bq]
  have r2d : (r2 : Int) ≤ 4294967295 := by
    have : r2 < d := by rw [hr2]; exact Nat.mod_lt _ hd
    omega
  have gn : (n : Int) ≤ 2305843009213693952 := by omega
  have gd : 1 ≤ (d : Int) := by omega
  have gd2 : (d : Int) ≤ 4294967295 := by omega
  have W0 : Hid (Qw w w.heap.size q 0 0 (w.alloc (.cells #[.int .u64 (q : Int), .int .u64 0, .int .u64 0] 66))) :=
    ⟨(Below.refl _ _).alloc (Nat.le_refl _) _, Nat.le_refl _, by simp, World.cell?_alloc_at _ _ _ _ rfl, World.cell?_alloc_at _ _ _ _ rfl, World.cell?_alloc_at _ _ _ _ rfl, fun k => World.frozen?_alloc_at _ _ _ _ rfl⟩
  clear hq hr hq1 hr1 hq2 hr2 n0 hn hd hd2 rd r1d
  replace hF := Lib.hid hF
  replace hM := Lib.hid hM
  replace hL1 := Lib.hid hL1
  replace hL2 := Lib.hid hL2
  replace LD := Lib.hid LD
  go_enter Tryz.func24, Tryz.ntmps24
  go_wp2_with fail
  refine (D1.out _).mono ?_
  rintro _ u1 ⟨rfl, B1⟩
  have W1 := W0.out.on B1
  clear D1 B1 W0 wq
  have c1 := W1.c1
  have f1 := W1.warm 1
  have W2 := Lib.hid (W1.put1 q1)
  clear W1
  go_wp2_with fail
  refine (D2.out _).mono ?_
  rintro _ u2 ⟨rfl, B1⟩
  have W3 := W2.out.on B1
  clear D2 B1 W2 c1 f1
  have c2 := W3.c2
  have f2 := W3.warm 2
  have W4 := Lib.hid (W3.put2 q2)
  clear W3
  go_wp2_with fail
  go_loopw [7] (fun tv wr => ∃ (k : Nat) (v : Int), v = (k : Int) - 64 ∧ L ≤ k ∧ k ≤ 191 ∧ tv = .int .i64 v ∧ Qw w w.heap.size q q1 q2 wr) (fun tv _ => (intOf tv + 65).toNat)
  case atStart => exact ⟨191, 127, rfl, by omega, by omega, rfl, W4.out⟩
  case round =>
    obtain ⟨k, v, hv, hk1, hk2, rfl, W5⟩ := hrel
    clear W4 c2 f2
    have Bk := Lib.hid (B.out k (by omega))
    rw [← hv] at Bk
    have gv : v ≤ 127 := by omega
    have gv2 : -64 ≤ v := by omega
    replace hv := Lib.hid hv
    have c0 := W5.c0
    have c1 := W5.c1
    have c2 := W5.c2
    by_cases e : k = L
    · subst e
      have b1 : F / 2 ^ k = 1 := by
        have h2 := hL2.out
        rw [Nat.pow_succ, Nat.mul_comm] at h2
        have a1 : 1 ≤ F / 2 ^ k := Nat.div_pos hL1.out (Nat.two_pow_pos k)
        have a2 : F / 2 ^ k < 2 := by rw [Nat.div_lt_iff_lt_mul (Nat.two_pow_pos k)]; exact h2
        omega
      rw [b1, show 1 % 2 = 1 by rfl] at Bk
      replace W5 := Lib.hid W5
      go_wp2_with fail
      refine (Bk.out _).mono ?_
      rintro _ u3 ⟨rfl, B2⟩
      have W6 := Lib.hid (W5.out.on B2)
      clear Bk B2 W5 c0 c1 c2
      go_wp2_with fail
      go_loopw [8, 9] (fun mv iv wr => ∃ i m : Nat, i ≤ 53 ∧ m = F / 2 ^ (k + 1 - i) ∧ mv = .int .u64 (m : Int) ∧ iv = .int .i64 (i : Int) ∧ Qw w w.heap.size q q1 q2 wr) (fun _ iv _ => 54 - (intOf iv).toNat)
      case atStart => exact ⟨0, 0, by omega, by rw [Nat.sub_zero]; exact (Nat.div_eq_of_lt hL2.out).symm, rfl, rfl, W6.out⟩
      case round =>
        obtain ⟨i, m, hi, hm, rfl, rfl, W7⟩ := hrel
        clear W6
        have c0 := W7.c0
        have c1 := W7.c1
        have c2 := W7.c2
        by_cases hlt : i < 53
        · have mb : m < 9007199254740992 := by
            rw [hm, Nat.div_lt_iff_lt_mul (Nat.two_pow_pos _)]
            refine Nat.lt_of_lt_of_le hL2.out ?_
            rw [show (9007199254740992 : Nat) = 2 ^ 53 by decide, ← Nat.pow_add]
            exact Nat.pow_le_pow_right (by decide) (by omega)
          have Bi := Lib.hid (B.out (k - i) (by omega))
          have ei : ((k - i : Nat) : Int) - 64 = v - (i : Int) := by have := hv.out; omega
          rw [ei] at Bi
          have up := bits_up (F := F) (m := m) (k := k - i) (by rw [hm, show k + 1 - i = k - i + 1 by omega])
          have bb : F / 2 ^ (k - i) % 2 ≤ 1 := by omega
          have OR := or_bit m (F / 2 ^ (k - i) % 2) (by omega) bb
          rw [← up] at OR
          have nx : Hid (F / 2 ^ (k - i) = F / 2 ^ (k + 1 - (i + 1))) := by show _ = _; rw [show k + 1 - (i + 1) = k - i by omega]
          generalize F / 2 ^ (k - i) = m' at *
          generalize m' % 2 = bt at *
          have gi : (i : Int) ≤ 52 := by omega
          have gm : (m : Int) ≤ 9007199254740991 := by omega
          have t5 : decide ((i : Int) < 53) = true := decide_eq_true (by omega)
          replace W7 := Lib.hid W7
          replace hm := Lib.hid hm
          clear up mb bb ei
          go_wp2_with fail
          refine (Bi.out _).mono ?_
          rintro _ u4 ⟨rfl, B3⟩
          have W8 := Lib.hid (W7.out.on B3)
          clear Bi B3 W7 c0 c1 c2
          go_wp2_with fail
          go_roundw
          case rel => exact ⟨i + 1, m', by omega, nx.out, rfl, by go_num, W8.out⟩
          case measure => simp [intOf]; omega
        · obtain rfl : i = 53 := by omega
          have t5 : decide ((((53 : Nat) : Int)) < 53) = false := by decide
          have hmF : Hid (m = F / 2 ^ (k - 52)) := by show _ = _; rw [hm, show k + 1 - 53 = k - 52 by omega]
          replace W7 := Lib.hid W7
          clear hm c0 c1 c2
          go_wp2_with fail
          go_loopw [10, 11] (fun bv iv wr => ∃ (j : Nat) (v2 : Int) (mo : Bool), v2 = (j : Int) - 64 ∧ j ≤ k - 53 ∧ bv = .bool mo ∧ (mo = true ↔ (r2 ≠ 0 ∨ F % 2 ^ j ≠ 0)) ∧ iv = .int .i64 v2 ∧ Qw w w.heap.size q q1 q2 wr) (fun _ iv _ => (200 - intOf iv).toNat)
          case atStart => exact ⟨0, -64, decide (0 < r2), rfl, by omega, rfl, by rw [decide_eq_true_eq, Nat.pow_zero, Nat.mod_one]; omega, rfl, W7.out⟩
          case round =>
            obtain ⟨j, v2, mo, hv2, hj, rfl, hmo, rfl, W8⟩ := hrel
            clear W7
            have c0 := W8.c0
            have c1 := W8.c1
            have c2 := W8.c2
            by_cases hlt : j < k - 53
            · have t6 : decide (v2 < v - 53) = true := decide_eq_true (by have := hv.out; omega)
              have Bj := Lib.hid (B.out j (by omega))
              rw [← hv2] at Bj
              have gw : v2 ≤ 127 := by have := hv.out; omega
              have gw2 : -64 ≤ v2 := by omega
              have nv : Hid (v2 + 1 = ((j + 1 : Nat) : Int) - 64) := by show _ = _; omega
              have md : F % 2 ^ (j + 1) = F % 2 ^ j + 2 ^ j * (F / 2 ^ j % 2) := by rw [Nat.pow_succ, Nat.mod_mul]
              have pj := Nat.two_pow_pos j
              replace hv2 := Lib.hid hv2
              cases mo with
              | true =>
                have st : Hid ((true : Bool) = true ↔ (r2 ≠ 0 ∨ F % 2 ^ (j + 1) ≠ 0)) := by
                  show _ ↔ _
                  have := hmo.1 rfl
                  refine ⟨fun _ => ?_, fun _ => rfl⟩
                  rcases this with z | z
                  · exact Or.inl z
                  · right; rw [md]; omega
                replace W8 := Lib.hid W8
                clear hmo md pj Bj c0 c1 c2
                go_wp2_with fail
                go_roundw
                case rel => exact ⟨j + 1, v2 + 1, true, nv.out, hlt, rfl, st.out, rfl, W8.out⟩
                case measure => simp [intOf]; omega
              | false =>
                have no : r2 = 0 ∧ F % 2 ^ j = 0 := by
                  constructor
                  · by_cases z : r2 = 0
                    · exact z
                    · have := hmo.2 (Or.inl z); cases this
                  · by_cases z : F % 2 ^ j = 0
                    · exact z
                    · have := hmo.2 (Or.inr z); cases this
                obtain ⟨bt, hbt⟩ : ∃ bt, bt = F / 2 ^ j % 2 := ⟨_, rfl⟩
                rw [← hbt] at Bj md
                have bl : bt ≤ 1 := by omega
                by_cases z : bt = 1
                · subst z
                  have st : Hid ((true : Bool) = true ↔ (r2 ≠ 0 ∨ F % 2 ^ (j + 1) ≠ 0)) := by
                    show _ ↔ _
                    exact ⟨fun _ => Or.inr (by rw [md, no.2]; omega), fun _ => rfl⟩
                  replace W8 := Lib.hid W8
                  clear hmo md pj no hbt bl
                  go_wp2_with fail
                  refine (Bj.out _).mono ?_
                  rintro _ u4 ⟨rfl, B3⟩
                  have W9 := Lib.hid (W8.out.on B3)
                  clear Bj B3 W8 c0 c1 c2
                  go_wp2_with fail
                  go_roundw
                  case rel => exact ⟨_, _, _, _, _, _, _, _, _, _, _, _, _, _, _, ⟨j + 1, v2 + 1, true, nv.out, hlt, rfl, (by first | exact st.out | simpa using st.out), rfl, W9.out⟩, rfl⟩
                  case measure => simp [intOf]; omega
                · obtain rfl : bt = 0 := by omega
                  have st : Hid ((false : Bool) = true ↔ (r2 ≠ 0 ∨ F % 2 ^ (j + 1) ≠ 0)) := by
                    show _ ↔ _
                    refine ⟨fun h => (by cases h), fun h => ?_⟩
                    rw [md, no.1, no.2] at h
                    simp at h
                  replace W8 := Lib.hid W8
                  clear hmo md pj no hbt bl z
                  go_wp2_with fail
                  refine (Bj.out _).mono ?_
                  rintro _ u4 ⟨rfl, B3⟩
                  have W9 := Lib.hid (W8.out.on B3)
                  clear Bj B3 W8 c0 c1 c2
                  go_wp2_with fail
                  go_roundw
                  case rel => exact ⟨_, _, _, _, _, _, _, _, _, _, _, _, _, _, _, ⟨j + 1, v2 + 1, false, nv.out, hlt, rfl, (by first | exact st.out | simpa using st.out), rfl, W9.out⟩, rfl⟩
                  case measure => simp [intOf]; omega
            · have t6 : decide (v2 < v - 53) = false := decide_eq_false (by have := hv.out; omega)
              obtain rfl : j = k - 53 := by omega
              replace hv2 := Lib.hid hv2
              have Bf := Lib.hid (B.out (k - 53) (by omega))
              rw [show ((k - 53 : Nat) : Int) - 64 = v - 53 by have := hv.out; omega] at Bf
              have hM' := hM.out
              rw [← hmF.out] at hM'
              have mb : m < 9007199254740992 := by
                rw [hmF.out, Nat.div_lt_iff_lt_mul (Nat.two_pow_pos _)]
                refine Nat.lt_of_lt_of_le hL2.out ?_
                rw [show (9007199254740992 : Nat) = 2 ^ 53 by decide, ← Nat.pow_add]
                exact Nat.pow_le_pow_right (by decide) (by omega)
              have gm : (m : Int) ≤ 9007199254740991 := by omega
              have A1 := sc_and1 m (by omega)
              have LD' := LD.out
              rw [show (k : Int) - 64 - 52 - 64 = v - 52 - 64 by have := hv.out; omega] at LD'
              replace LD' := Lib.hid LD'
              obtain ⟨bt, hbt⟩ : ∃ bt, bt = F / 2 ^ (k - 53) % 2 := ⟨_, rfl⟩
              rw [← hbt] at Bf hM'
              have bl : bt ≤ 1 := by omega
              have mo2 : ((F % 2 ^ (k - 53) ≠ 0 ∨ r2 ≠ 0) ↔ mo = true) := by rw [hmo]; exact Or.comm
              simp only [mo2] at hM'
              replace W8 := Lib.hid W8
              clear hmo mo2 mb hmF hM LD
              by_cases z : bt = 1
              · subst z
                by_cases up : mo = true ∨ m % 2 = 1
                · rw [if_pos ⟨rfl, up⟩] at hM'
                  subst hM'
                  clear hbt bl
                  cases mo with
                  | true =>
                    go_wp2_with fail
                    refine (Bf.out _).mono ?_
                    rintro _ u5 ⟨rfl, B3⟩
                    have W9 := Lib.hid (W8.out.on B3)
                    clear Bf B3 W8 c0 c1 c2
                    go_wp2_with fail
                    refine (LD'.out _).mono ?_
                    rintro _ u6 ⟨rfl, rfl⟩
                    clear LD'
                    go_wp2_with fail
                    go_ret
                    exact ⟨rfl, W9.out.old⟩
                  | false =>
                    have o : m % 2 = 1 := by
                      rcases up with u | u
                      · cases u
                      · exact u
                    rw [o] at A1
                    go_wp2_with fail
                    refine (Bf.out _).mono ?_
                    rintro _ u5 ⟨rfl, B3⟩
                    have W9 := Lib.hid (W8.out.on B3)
                    clear Bf B3 W8 c0 c1 c2
                    go_wp2_with fail
                    refine (LD'.out _).mono ?_
                    rintro _ u6 ⟨rfl, rfl⟩
                    clear LD'
                    go_wp2_with fail
                    go_ret
                    exact ⟨rfl, W9.out.old⟩
                · rw [if_neg (fun q => up q.2), Nat.add_zero] at hM'
                  subst hM'
                  have mf : mo = false := by
                    cases mo with
                    | true => exact absurd (Or.inl rfl) up
                    | false => rfl
                  subst mf
                  have o : M % 2 = 0 := by
                    rcases Nat.mod_two_eq_zero_or_one M with u | u
                    · exact u
                    · exact absurd (Or.inr u) up
                  rw [o] at A1
                  clear hbt bl up
                  go_wp2_with fail
                  refine (Bf.out _).mono ?_
                  rintro _ u5 ⟨rfl, B3⟩
                  have W9 := Lib.hid (W8.out.on B3)
                  clear Bf B3 W8 c0 c1 c2
                  go_wp2_with fail
                  refine (LD'.out _).mono ?_
                  rintro _ u6 ⟨rfl, rfl⟩
                  clear LD'
                  go_wp2_with fail
                  go_ret
                  exact ⟨rfl, W9.out.old⟩
              · obtain rfl : bt = 0 := by omega
                rw [if_neg (fun q => by omega), Nat.add_zero] at hM'
                subst hM'
                clear hbt bl z
                go_wp2_with fail
                refine (Bf.out _).mono ?_
                rintro _ u5 ⟨rfl, B3⟩
                have W9 := Lib.hid (W8.out.on B3)
                clear Bf B3 W8 c0 c1 c2
                go_wp2_with fail
                refine (LD'.out _).mono ?_
                rintro _ u6 ⟨rfl, rfl⟩
                clear LD'
                go_wp2_with fail
                go_ret
                exact ⟨rfl, W9.out.old⟩
    · have z : F / 2 ^ k % 2 = 0 := by
        rw [Nat.div_eq_of_lt]
        exact Nat.lt_of_lt_of_le hL2.out (Nat.pow_le_pow_right (by decide) (by omega))
      rw [z] at Bk
      replace W5 := Lib.hid W5
      have nv : Hid (v - 1 = ((k - 1 : Nat) : Int) - 64) := by show _ = _; have := hv.out; omega
      clear z
      go_wp2_with fail
      refine (Bk.out _).mono ?_
      rintro _ u3 ⟨rfl, B2⟩
      have W6 := Lib.hid (W5.out.on B2)
      clear Bk B2 W5 c0 c1 c2
      go_wp2_with fail
      go_roundw
      case rel => exact ⟨k - 1, v - 1, nv.out, by omega, by omega, rfl, W6.out⟩
      case measure => simp [intOf]; omega
end Go.Proofs.YtocnpcjpkieogaaGreatDoor
