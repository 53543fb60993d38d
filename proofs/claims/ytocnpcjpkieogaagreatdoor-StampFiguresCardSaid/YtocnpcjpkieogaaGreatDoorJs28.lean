/- Proved here: what the texts Svr, Svs, Svt prove, one behind the other. -/
import Derived.Test.YtocnpcjpkieogaaGreatDoorJs19
import Derived.StillTailTactics

namespace Go.Proofs.YtocnpcjpkieogaaGreatDoor
open Go.ChangeShapes Go.WideShapes Go.ChangeAt Go.RowKit

theorem rs_and22 (n : Nat) (h : n < 18446744073709551616) : bits BinOp.and IntKind.u64 (n : Int) 4194303 = ((n % 4194304 : Nat) : Int) := by
  rw [show (4194303 : Int) = ((4194303 : Nat) : Int) from rfl, u64_and_nat n 4194303 h (by omega)]
  exact congrArg _ (Nat.and_two_pow_sub_one_eq_mod n 22)
set_option maxHeartbeats 4000000 in
set_option maxRecDepth 100000 in
theorem rshift22_run (w0 u : World) (a m z : Nat) (L : List Int) (hm1 : 10 ^ 15 ≤ m) (hm2 : m < 10 ^ 16) (hz1 : 1 ≤ z) (hz : z ≤ 16) (hL : ∀ j, j < 16 → L.getD j 0 = (dgI 16 m).getD j 0) (h0 : ∀ j, z ≤ j → j < 16 → L.getD j 0 = 48) (h : Dc w0 a L (z : Int) 16 u) :
    Calls Tryz.prog 117 #[.pointer (some ⟨a, 0, none⟩), .int .u64 22] u fun e u' => e = .returned (.tuple #[]) ∧
      ∃ (L' : List Int) (Q w y r0 : Nat), Dg L' Q w y ∧ 1 ≤ y ∧ 1 ≤ r0 ∧ r0 ≤ 16 ∧ m * 10 ^ 9 * 10 ^ w = 4194304 * Q * 10 ^ (26 - r0) ∧ w ≤ 800 ∧ Dc w0 a L' (y : Int) (17 - (r0 : Int)) u' := by
  have cz : Hid (∀ r, z ≤ r → r < 16 → cdg m r = 0) := fun r hr hr2 => by
    have a1 := h0 r hr hr2
    rw [hL r hr2, cdg_at hr2] at a1
    omega
  have cd : Hid (∀ r, r < 16 → L.getD r 0 = 48 + ((cdg m r : Nat) : Int)) := fun r hr => by rw [hL r hr, cdg_at hr]
  have cz2 : Hid (∀ r, z ≤ r → cdg m r = 0) := fun r hr => by
    by_cases q : r < 16
    · exact cz.out r hr q
    · unfold cdg; rw [if_neg q]
  have F0 := Fm_0 hm2
  have F16 := Fm_16 m
  have Fmon := Lib.hid (Fm_mono m)
  have EX := Lib.hid (ex_all (m := m) (z := z) cz.out)
  have gm : 4194304 ≤ m := by rw [show (10 : Nat) ^ 15 = 1000000000000000 by decide] at hm1; omega
  have F1 : Hid (∀ r, 1 ≤ r → 1 ≤ Fm m r) := fun r hr => by
    induction r with
    | zero => omega
    | succ r ih =>
      rcases Nat.eq_zero_or_pos r with q | q
      · subst q
        unfold Fm
        rw [if_pos (by omega)]
        exact Nat.div_pos hm1 (Nat.pow_pos (by decide))
      · exact Nat.le_trans (ih q) (Fm_mono m r)
  clear hm1 hm2 hL h0
  have DcO := Lib.hid h
  have nd0 := h.ndc
  replace F0 := Lib.hid F0
  replace F16 := Lib.hid F16
  clear h
  go_enter Tryz.func117, Tryz.ntmps117
  go_wp2_with fail
  go_loop [4, 6] (fun rv nv => ∃ r0 : Nat, r0 ≤ 16 ∧ rv = .int .i64 (r0 : Int) ∧ nv = .int .u64 (Fm m r0 : Int) ∧ Fm m (r0 - 1) < 4194304) (fun rv _ => 17 - (intOf rv).toNat)
  case atStart => exact ⟨0, by omega, rfl, by rw [F0.out]; rfl, by rw [show 0 - 1 = 0 by rfl, F0.out]; decide⟩
  case round =>
    obtain ⟨r0, hr, rfl, rfl, hlo⟩ := hrel
    by_cases c : 4194304 ≤ Fm m r0
    · have hr1 : 1 ≤ r0 := by
        rcases Nat.eq_zero_or_pos r0 with q | q
        · rw [q, F0.out] at c; omega
        · exact q
      have t1 : (((Fm m r0 : Nat) : Int) / 4194304 == 0) = false := beq_eq_false_iff_ne.2 (by omega)
      have dpc := DcO.out.dpc
      have f801 := DcO.out.warm 801
      have D1 := Lib.hid (DcO.out.setDp (16 - ((r0 : Int) - 1)))
      have gr : (r0 : Int) ≤ 16 := by omega
      have n0 : Hid (Fm m r0 % (10 * 4194304) = Fm m r0) := by
        show _ = _
        apply Nat.mod_eq_of_lt
        have a1 := Fm_all m (r0 - 1)
        have a2 := cdg_lt m (r0 - 1)
        rw [show r0 - 1 + 1 = r0 by omega] at a1
        omega
      have big := Lib.hid (Fm_big (m := m) (r0 := r0) (K := 4194304) (by decide) hr1 c hlo)
      clear hlo
      go_wp2_with fail
      go_loopw [4, 5, 6] (fun rv wv nv wr => ∃ (r w : Nat) (Lw : List Int), r = r0 + w ∧ r ≤ 16 ∧ (w = 0 ∨ r ≤ z) ∧ rv = .int .i64 (r : Int) ∧ wv = .int .i64 (w : Int) ∧ nv = .int .u64 ((Fm m r % (10 * 4194304) : Nat) : Int) ∧ Dc w0 a Lw (z : Int) (16 - ((r0 : Int) - 1)) wr ∧ Put m r0 4194304 w Lw ∧ (∀ j, w ≤ j → j < 800 → Lw.getD j 0 = L.getD j 0)) (fun rv _ _ _ => 17 - (intOf rv).toNat)
      case atStart => exact ⟨r0, 0, L, rfl, hr, Or.inl rfl, rfl, rfl, by rw [n0.out], D1.out, fun j hj => by omega, fun j _ _ => rfl⟩
      case round =>
        obtain ⟨r, w, Lw, hrw, hr16', hw, rfl, rfl, rfl, hD, hP, hK⟩ := hrel
        replace hrw := Lib.hid hrw
        clear D1 dpc f801 t1 nd0
        have nd0 := hD.ndc
        by_cases q3 : r < z
        · have t4 : decide (r < z) = true := decide_eq_true q3
          have cell := hD.dig r (by omega)
          rw [hK r (by have := hrw.out; omega) (by omega), cd.out r (by omega)] at cell
          have cl := cdg_lt m r
          have hwr : w ≤ r := by have := hrw.out; omega
          have N1 := Nat.mod_lt (Fm m r) (show 0 < 10 * 4194304 by decide)
          have N2 := Fm_digit (Fm m r) 4194304
          have N3 := Fm_rem (m := m) (r := r) (K := 4194304) (by decide)
          have PN := Put_next (K := 4194304) hr1 hD.len (by omega : w < 800) hP
          rw [← hrw.out] at PN
          have hlen := hD.len
          obtain ⟨x, hx⟩ : ∃ x : Int, x = 48 + ((Fm m r / 4194304 % 10 : Nat) : Int) := ⟨_, rfl⟩
          rw [← hx] at PN
          replace PN := Lib.hid PN
          have keep : Hid (∀ j, w + 1 ≤ j → j < 800 → (Lw.set w x).getD j 0 = L.getD j 0) := fun j hj hj2 => by
            rw [show (Lw.set w x).getD j 0 = Lw.getD j 0 by simp [List.getD, show w ≠ j by omega]]
            exact hK j (by omega) hj2
          have cw := hD.dig w (by omega)
          have fw := hD.warm w
          have R1 := Lib.hid (hD.put (k := w) (by omega) x)
          have hrw2 : Hid (r + 1 = r0 + (w + 1)) := by have := hrw.out; show _ = _; omega
          generalize hn : Fm m r % (10 * 4194304) = n at *
          generalize hn2 : Fm m (r + 1) % (10 * 4194304) = nn at *
          have NA := rs_and22 n (by omega)
          have gx : IntKind.u8.wrap (((n : Nat) : Int) / 4194304 + 48) = x := by
            rw [show IntKind.u8.wrap (((n : Nat) : Int) / 4194304 + 48) = (((n : Nat) : Int) / 4194304 + 48) % 256 from rfl, hx, ← N2]; omega
          have gd : 0 ≤ ((n : Nat) : Int) / 4194304 ∧ ((n : Nat) : Int) / 4194304 ≤ 9 := by omega
          have gd1 := gd.1
          have gd2 := gd.2
          have gn : (n : Int) ≤ 10000000000 := by omega
          have gw : (w : Int) < 800 := by omega
          generalize cdg m r = d at *
          have gd3 : (d : Int) ≤ 9 := by omega
          have gr4 : (r : Int) < 800 := by omega
          have e6 : Hid (((n % 4194304 : Nat) : Int) * 10 + (48 + (d : Int)) - 48 = (nn : Int)) := by show _ = _; omega
          have gm4 : (((n % 4194304 : Nat) : Nat) : Int) ≤ 4194304 := by omega
          have hw3 : Hid (w + 1 = 0 ∨ r + 1 ≤ z) := Or.inr q3
          have hr17 : Hid (r + 1 ≤ 16) := by show _ ≤ _; omega
          generalize n % 4194304 = nm at *
          clear N1 N2 N3 hlen hx hD hP hK q3 hw hwr
          go_wp2_with fail
          go_roundw
          case rel => exact ⟨r + 1, w + 1, Lw.set w x, hrw2.out, hr17.out, hw3.out, by go_num, by go_num, by rw [hn2, ← e6.out], R1.out, PN.out, keep.out⟩
          case measure => simp [intOf]; omega
        · have t4 : decide (r < z) = false := decide_eq_false q3
          have hrz : z ≤ r := by omega
          have L4 : Hid (Put m r0 4194304 w Lw ∧ ∀ j, w ≤ j → j < 800 → Lw.getD j 0 = L.getD j 0) := ⟨hP, hK⟩
          replace hD := Lib.hid hD
          clear hP hK q3 hw
          go_wp2_with fail
          go_loopw [5, 6] (fun wv nv wr => ∃ (r w : Nat) (Lw : List Int), r = r0 + w ∧ z ≤ r ∧ r ≤ 41 ∧ wv = .int .i64 (w : Int) ∧ nv = .int .u64 ((Fm m r % (10 * 4194304) : Nat) : Int) ∧ Dc w0 a Lw (z : Int) (16 - ((r0 : Int) - 1)) wr ∧ Put m r0 4194304 w Lw ∧ (∀ j, w ≤ j → j < 800 → Lw.getD j 0 = L.getD j 0)) (fun wv _ _ => 43 - (intOf wv).toNat)
          case atStart => exact ⟨r, w, Lw, hrw.out, hrz, by omega, rfl, rfl, hD.out, L4.out.1, L4.out.2⟩
          case round =>
            clear hD L4 hrz t4 nd0
            clear hrw hr16'
            obtain ⟨r, w, Lw, hrw, hrz, hr41, rfl, rfl, hD, hP, hK⟩ := hrel
            replace hrw := Lib.hid hrw
            by_cases n0' : Fm m r % (10 * 4194304) = 0
            · rw [n0']
              have w1 : 1 ≤ w := by
                rcases Nat.eq_zero_or_pos w with q | q
                · have e1 : r = r0 := by have := hrw.out; omega
                  rw [e1, n0.out] at n0'
                  omega
                · exact q
              have FE := Fm_end (m := m) (r0 := r0) (w := w) (K := 4194304) hr w1 (by rw [← hrw.out]; exact EX.out r hrz) (by rw [← hrw.out]; exact n0')
              have BG := big.out (w - 1)
              rw [show r0 + (w - 1) = r0 + w - 1 by omega, show w - 1 + 1 = w by omega] at BG
              have hlen := hD.len
              have hw60 : w ≤ 60 := by have := hrw.out; omega
              have first : Lw.getD 0 0 ≠ 48 := by
                rw [hP 0 w1, dgI_at w _ 0 w1, show w - 1 - 0 = w - 1 by omega]
                have h1 : 1 ≤ Fm m (r0 + w - 1) / 4194304 / 10 ^ (w - 1) := Nat.div_pos BG.1 (Nat.pow_pos (by decide))
                have h2 : Fm m (r0 + w - 1) / 4194304 / 10 ^ (w - 1) < 10 := by
                  rw [Nat.div_lt_iff_lt_mul (Nat.pow_pos (by decide))]
                  have := BG.2
                  have e : (10 : Nat) ^ w = 10 ^ (w - 1) * 10 := by rw [← Nat.pow_succ]; congr 1; omega
                  rw [e] at this
                  rw [Nat.mul_comm]; exact this
                omega
              have dgs : Hid (∀ j, j < w → Lw.getD j 0 = (dgI w (Fm m (r0 + w - 1) / 4194304)).getD j 0) := hP
              generalize Fm m (r0 + w - 1) / 4194304 = Q at *
              have ndc := hD.ndc
              have f800 := hD.warm 800
              have D2 := hD.setNd (w : Int)
              have T := Lib.hid (trimD_run w0 _ a w 0 Lw (16 - ((r0 : Int) - 1)) (by omega) w1 first D2)
              replace FE := Lib.hid FE
              replace BG := Lib.hid BG
              have gw : (w : Int) ≤ 60 := by omega
              clear hD hP hK n0' first D2 hrz hr41
              go_wp2_with fail
              refine T.out.mono ?_
              rintro _ u2 ⟨y, y1, y2, y3, y4, rfl, D3⟩
              have fin : Hid (∃ (L' : List Int) (Q w y r0 : Nat), Dg L' Q w y ∧ 1 ≤ y ∧ 1 ≤ r0 ∧ r0 ≤ 16 ∧ m * 10 ^ 9 * 10 ^ w = 4194304 * Q * 10 ^ (26 - r0) ∧ w ≤ 800 ∧ Dc w0 a L' (y : Int) (17 - (r0 : Int)) u2) :=
                ⟨Lw, Q, w, y, r0, ⟨hlen, y1, dgs.out, fun j h1 h2 => y4 j h1 h2, y3, BG.out.1, BG.out.2, w1⟩, by omega, hr1, hr, FE.out, by omega, by rw [show (17 : Int) - (r0 : Int) = 16 - ((r0 : Int) - 1) by omega]; exact D3⟩
              clear T y1 y2 y3 y4 D3 dgs FE BG
              go_wp2_with fail
              refine bodyPost_end (results_none rfl _ _ _) rfl ?_
              exact ⟨rfl, fin.out⟩
            · have hr40 : r ≤ 40 := by
                rcases Nat.lt_or_ge r 41 with q | q
                · omega
                · exact absurd (Fm_done (m := m) (K := 4194304) (k := 22) (by decide) (by decide) q) n0'
              have cl := cz2.out r hrz
              have hwr : w ≤ r := by have := hrw.out; omega
              have N1 := Nat.mod_lt (Fm m r) (show 0 < 10 * 4194304 by decide)
              have N2 := Fm_digit (Fm m r) 4194304
              have N3 := Fm_rem (m := m) (r := r) (K := 4194304) (by decide)
              have PN := Put_next (K := 4194304) hr1 hD.len (by omega : w < 800) hP
              rw [← hrw.out] at PN
              have hlen := hD.len
              obtain ⟨x, hx⟩ : ∃ x : Int, x = 48 + ((Fm m r / 4194304 % 10 : Nat) : Int) := ⟨_, rfl⟩
              rw [← hx] at PN
              replace PN := Lib.hid PN
              have keep : Hid (∀ j, w + 1 ≤ j → j < 800 → (Lw.set w x).getD j 0 = L.getD j 0) := fun j hj hj2 => by
                rw [show (Lw.set w x).getD j 0 = Lw.getD j 0 by simp [List.getD, show w ≠ j by omega]]
                exact hK j (by omega) hj2
              have cw := hD.dig w (by omega)
              have fw := hD.warm w
              have R1 := Lib.hid (hD.put (k := w) (by omega) x)
              have hrw2 : Hid (r + 1 = r0 + (w + 1)) := by have := hrw.out; show _ = _; omega
              generalize hn : Fm m r % (10 * 4194304) = n at *
              generalize hn2 : Fm m (r + 1) % (10 * 4194304) = nn at *
              have NA := rs_and22 n (by omega)
              have gx : IntKind.u8.wrap (((n : Nat) : Int) / 4194304 + 48) = x := by
                rw [show IntKind.u8.wrap (((n : Nat) : Int) / 4194304 + 48) = (((n : Nat) : Int) / 4194304 + 48) % 256 from rfl, hx, ← N2]; omega
              have gd : 0 ≤ ((n : Nat) : Int) / 4194304 ∧ ((n : Nat) : Int) / 4194304 ≤ 9 := by omega
              have gd1 := gd.1
              have gd2 := gd.2
              have gn : (n : Int) ≤ 10000000000 := by omega
              have gw : (w : Int) < 800 := by omega
              rw [cl, Nat.add_zero] at N3
              have gn1 : decide (0 < n) = true := decide_eq_true (by omega)
              have gn2 : 0 < n := by omega
              have e6 : Hid (((n % 4194304 : Nat) : Int) * 10 = (nn : Int)) := by show _ = _; omega
              have gm4 : (((n % 4194304 : Nat) : Nat) : Int) ≤ 4194304 := by omega
              have hz3 : Hid (z ≤ r + 1) := by show _ ≤ _; omega
              have hr41' : Hid (r + 1 ≤ 41) := by show _ ≤ _; omega
              have gwm : (w : Int) ≤ 41 := by have := hrw.out; omega
              generalize n % 4194304 = nm at *
              clear N1 N2 N3 hlen hx hD hP hK hwr n0' hr41 hr40
              go_wp2_with fail
              go_roundw
              case rel => exact ⟨r + 1, w + 1, Lw.set w x, hrw2.out, hz3.out, hr41'.out, by go_num, by rw [hn2, ← e6.out], R1.out, PN.out, keep.out⟩
              case measure => simp [intOf]; omega
    · have t1 : (((Fm m r0 : Nat) : Int) / 4194304 == 0) = true := by rw [beq_iff_eq]; omega
      have hr16 : r0 < 16 := by
        rcases Nat.lt_or_ge r0 16 with q | q
        · exact q
        · rw [show r0 = 16 by omega, F16.out] at c; omega
      have S := Fm_all m r0
      by_cases q : z ≤ r0
      · have t2 : (((Fm m r0 : Nat) : Int) == 0) = false := beq_eq_false_iff_ne.2 (by have := F1.out r0 (by omega); omega)
        have t3 : decide (z ≤ r0) = true := decide_eq_true (by omega)
        clear S t1 hr16
        go_wp2_with fail
        go_loop [4, 6] (fun rv nv => ∃ r1 : Nat, z ≤ r1 ∧ r1 ≤ 16 ∧ rv = .int .i64 (r1 : Int) ∧ nv = .int .u64 (Fm m r1 : Int) ∧ Fm m (r1 - 1) < 4194304) (fun rv _ => 17 - (intOf rv).toNat)
        case atStart => exact ⟨r0, q, hr, rfl, rfl, hlo⟩
        case round =>
          clear hlo c q hr t2 t3
          obtain ⟨r0, q, hr, rfl, rfl, hlo⟩ := hrel
          by_cases c : 4194304 ≤ Fm m r0
          · have hr1 : 1 ≤ r0 := by omega
            have t1 : (((Fm m r0 : Nat) : Int) / 4194304 == 0) = false := beq_eq_false_iff_ne.2 (by omega)
            clear q
            have dpc := DcO.out.dpc
            have f801 := DcO.out.warm 801
            have D1 := Lib.hid (DcO.out.setDp (16 - ((r0 : Int) - 1)))
            have gr : (r0 : Int) ≤ 16 := by omega
            have n0 : Hid (Fm m r0 % (10 * 4194304) = Fm m r0) := by
              show _ = _
              apply Nat.mod_eq_of_lt
              have a1 := Fm_all m (r0 - 1)
              have a2 := cdg_lt m (r0 - 1)
              rw [show r0 - 1 + 1 = r0 by omega] at a1
              omega
            have big := Lib.hid (Fm_big (m := m) (r0 := r0) (K := 4194304) (by decide) hr1 c hlo)
            clear hlo
            go_wp2_with fail
            go_loopw [4, 5, 6] (fun rv wv nv wr => ∃ (r w : Nat) (Lw : List Int), r = r0 + w ∧ r ≤ 16 ∧ (w = 0 ∨ r ≤ z) ∧ rv = .int .i64 (r : Int) ∧ wv = .int .i64 (w : Int) ∧ nv = .int .u64 ((Fm m r % (10 * 4194304) : Nat) : Int) ∧ Dc w0 a Lw (z : Int) (16 - ((r0 : Int) - 1)) wr ∧ Put m r0 4194304 w Lw ∧ (∀ j, w ≤ j → j < 800 → Lw.getD j 0 = L.getD j 0)) (fun rv _ _ _ => 17 - (intOf rv).toNat)
            case atStart => exact ⟨r0, 0, L, rfl, hr, Or.inl rfl, rfl, rfl, by rw [n0.out], D1.out, fun j hj => by omega, fun j _ _ => rfl⟩
            case round =>
              obtain ⟨r, w, Lw, hrw, hr16', hw, rfl, rfl, rfl, hD, hP, hK⟩ := hrel
              replace hrw := Lib.hid hrw
              clear D1 dpc f801 t1 nd0
              have nd0 := hD.ndc
              by_cases q3 : r < z
              · have t4 : decide (r < z) = true := decide_eq_true q3
                have cell := hD.dig r (by omega)
                rw [hK r (by have := hrw.out; omega) (by omega), cd.out r (by omega)] at cell
                have cl := cdg_lt m r
                have hwr : w ≤ r := by have := hrw.out; omega
                have N1 := Nat.mod_lt (Fm m r) (show 0 < 10 * 4194304 by decide)
                have N2 := Fm_digit (Fm m r) 4194304
                have N3 := Fm_rem (m := m) (r := r) (K := 4194304) (by decide)
                have PN := Put_next (K := 4194304) hr1 hD.len (by omega : w < 800) hP
                rw [← hrw.out] at PN
                have hlen := hD.len
                obtain ⟨x, hx⟩ : ∃ x : Int, x = 48 + ((Fm m r / 4194304 % 10 : Nat) : Int) := ⟨_, rfl⟩
                rw [← hx] at PN
                replace PN := Lib.hid PN
                have keep : Hid (∀ j, w + 1 ≤ j → j < 800 → (Lw.set w x).getD j 0 = L.getD j 0) := fun j hj hj2 => by
                  rw [show (Lw.set w x).getD j 0 = Lw.getD j 0 by simp [List.getD, show w ≠ j by omega]]
                  exact hK j (by omega) hj2
                have cw := hD.dig w (by omega)
                have fw := hD.warm w
                have R1 := Lib.hid (hD.put (k := w) (by omega) x)
                have hrw2 : Hid (r + 1 = r0 + (w + 1)) := by have := hrw.out; show _ = _; omega
                generalize hn : Fm m r % (10 * 4194304) = n at *
                generalize hn2 : Fm m (r + 1) % (10 * 4194304) = nn at *
                have NA := rs_and22 n (by omega)
                have gx : IntKind.u8.wrap (((n : Nat) : Int) / 4194304 + 48) = x := by
                  rw [show IntKind.u8.wrap (((n : Nat) : Int) / 4194304 + 48) = (((n : Nat) : Int) / 4194304 + 48) % 256 from rfl, hx, ← N2]; omega
                have gd : 0 ≤ ((n : Nat) : Int) / 4194304 ∧ ((n : Nat) : Int) / 4194304 ≤ 9 := by omega
                have gd1 := gd.1
                have gd2 := gd.2
                have gn : (n : Int) ≤ 10000000000 := by omega
                have gw : (w : Int) < 800 := by omega
                generalize cdg m r = d at *
                have gd3 : (d : Int) ≤ 9 := by omega
                have gr4 : (r : Int) < 800 := by omega
                have e6 : Hid (((n % 4194304 : Nat) : Int) * 10 + (48 + (d : Int)) - 48 = (nn : Int)) := by show _ = _; omega
                have gm4 : (((n % 4194304 : Nat) : Nat) : Int) ≤ 4194304 := by omega
                have hw3 : Hid (w + 1 = 0 ∨ r + 1 ≤ z) := Or.inr q3
                have hr17 : Hid (r + 1 ≤ 16) := by show _ ≤ _; omega
                generalize n % 4194304 = nm at *
                clear N1 N2 N3 hlen hx hD hP hK q3 hw hwr
                go_wp2_with fail
                go_roundw
                case rel => exact ⟨r + 1, w + 1, Lw.set w x, hrw2.out, hr17.out, hw3.out, by go_num, by go_num, by rw [hn2, ← e6.out], R1.out, PN.out, keep.out⟩
                case measure => simp [intOf]; omega
              · have t4 : decide (r < z) = false := decide_eq_false q3
                have hrz : z ≤ r := by omega
                have L4 : Hid (Put m r0 4194304 w Lw ∧ ∀ j, w ≤ j → j < 800 → Lw.getD j 0 = L.getD j 0) := ⟨hP, hK⟩
                replace hD := Lib.hid hD
                clear hP hK q3 hw
                go_wp2_with fail
                go_loopw [5, 6] (fun wv nv wr => ∃ (r w : Nat) (Lw : List Int), r = r0 + w ∧ z ≤ r ∧ r ≤ 41 ∧ wv = .int .i64 (w : Int) ∧ nv = .int .u64 ((Fm m r % (10 * 4194304) : Nat) : Int) ∧ Dc w0 a Lw (z : Int) (16 - ((r0 : Int) - 1)) wr ∧ Put m r0 4194304 w Lw ∧ (∀ j, w ≤ j → j < 800 → Lw.getD j 0 = L.getD j 0)) (fun wv _ _ => 43 - (intOf wv).toNat)
                case atStart => exact ⟨r, w, Lw, hrw.out, hrz, by omega, rfl, rfl, hD.out, L4.out.1, L4.out.2⟩
                case round =>
                  clear hD L4 hrz t4 nd0
                  clear hrw hr16'
                  obtain ⟨r, w, Lw, hrw, hrz, hr41, rfl, rfl, hD, hP, hK⟩ := hrel
                  replace hrw := Lib.hid hrw
                  by_cases n0' : Fm m r % (10 * 4194304) = 0
                  · rw [n0']
                    have w1 : 1 ≤ w := by
                      rcases Nat.eq_zero_or_pos w with q | q
                      · have e1 : r = r0 := by have := hrw.out; omega
                        rw [e1, n0.out] at n0'
                        omega
                      · exact q
                    have FE := Fm_end (m := m) (r0 := r0) (w := w) (K := 4194304) hr w1 (by rw [← hrw.out]; exact EX.out r hrz) (by rw [← hrw.out]; exact n0')
                    have BG := big.out (w - 1)
                    rw [show r0 + (w - 1) = r0 + w - 1 by omega, show w - 1 + 1 = w by omega] at BG
                    have hlen := hD.len
                    have hw60 : w ≤ 60 := by have := hrw.out; omega
                    have first : Lw.getD 0 0 ≠ 48 := by
                      rw [hP 0 w1, dgI_at w _ 0 w1, show w - 1 - 0 = w - 1 by omega]
                      have h1 : 1 ≤ Fm m (r0 + w - 1) / 4194304 / 10 ^ (w - 1) := Nat.div_pos BG.1 (Nat.pow_pos (by decide))
                      have h2 : Fm m (r0 + w - 1) / 4194304 / 10 ^ (w - 1) < 10 := by
                        rw [Nat.div_lt_iff_lt_mul (Nat.pow_pos (by decide))]
                        have := BG.2
                        have e : (10 : Nat) ^ w = 10 ^ (w - 1) * 10 := by rw [← Nat.pow_succ]; congr 1; omega
                        rw [e] at this
                        rw [Nat.mul_comm]; exact this
                      omega
                    have dgs : Hid (∀ j, j < w → Lw.getD j 0 = (dgI w (Fm m (r0 + w - 1) / 4194304)).getD j 0) := hP
                    generalize Fm m (r0 + w - 1) / 4194304 = Q at *
                    have ndc := hD.ndc
                    have f800 := hD.warm 800
                    have D2 := hD.setNd (w : Int)
                    have T := Lib.hid (trimD_run w0 _ a w 0 Lw (16 - ((r0 : Int) - 1)) (by omega) w1 first D2)
                    replace FE := Lib.hid FE
                    replace BG := Lib.hid BG
                    have gw : (w : Int) ≤ 60 := by omega
                    clear hD hP hK n0' first D2 hrz hr41
                    go_wp2_with fail
                    refine T.out.mono ?_
                    rintro _ u2 ⟨y, y1, y2, y3, y4, rfl, D3⟩
                    have fin : Hid (∃ (L' : List Int) (Q w y r0 : Nat), Dg L' Q w y ∧ 1 ≤ y ∧ 1 ≤ r0 ∧ r0 ≤ 16 ∧ m * 10 ^ 9 * 10 ^ w = 4194304 * Q * 10 ^ (26 - r0) ∧ w ≤ 800 ∧ Dc w0 a L' (y : Int) (17 - (r0 : Int)) u2) :=
                      ⟨Lw, Q, w, y, r0, ⟨hlen, y1, dgs.out, fun j h1 h2 => y4 j h1 h2, y3, BG.out.1, BG.out.2, w1⟩, by omega, hr1, hr, FE.out, by omega, by rw [show (17 : Int) - (r0 : Int) = 16 - ((r0 : Int) - 1) by omega]; exact D3⟩
                    clear T y1 y2 y3 y4 D3 dgs FE BG
                    go_wp2_with fail
                    refine bodyPost_end (results_none rfl _ _ _) rfl ?_
                    exact ⟨rfl, fin.out⟩
                  · have hr40 : r ≤ 40 := by
                      rcases Nat.lt_or_ge r 41 with q | q
                      · omega
                      · exact absurd (Fm_done (m := m) (K := 4194304) (k := 22) (by decide) (by decide) q) n0'
                    have cl := cz2.out r hrz
                    have hwr : w ≤ r := by have := hrw.out; omega
                    have N1 := Nat.mod_lt (Fm m r) (show 0 < 10 * 4194304 by decide)
                    have N2 := Fm_digit (Fm m r) 4194304
                    have N3 := Fm_rem (m := m) (r := r) (K := 4194304) (by decide)
                    have PN := Put_next (K := 4194304) hr1 hD.len (by omega : w < 800) hP
                    rw [← hrw.out] at PN
                    have hlen := hD.len
                    obtain ⟨x, hx⟩ : ∃ x : Int, x = 48 + ((Fm m r / 4194304 % 10 : Nat) : Int) := ⟨_, rfl⟩
                    rw [← hx] at PN
                    replace PN := Lib.hid PN
                    have keep : Hid (∀ j, w + 1 ≤ j → j < 800 → (Lw.set w x).getD j 0 = L.getD j 0) := fun j hj hj2 => by
                      rw [show (Lw.set w x).getD j 0 = Lw.getD j 0 by simp [List.getD, show w ≠ j by omega]]
                      exact hK j (by omega) hj2
                    have cw := hD.dig w (by omega)
                    have fw := hD.warm w
                    have R1 := Lib.hid (hD.put (k := w) (by omega) x)
                    have hrw2 : Hid (r + 1 = r0 + (w + 1)) := by have := hrw.out; show _ = _; omega
                    generalize hn : Fm m r % (10 * 4194304) = n at *
                    generalize hn2 : Fm m (r + 1) % (10 * 4194304) = nn at *
                    have NA := rs_and22 n (by omega)
                    have gx : IntKind.u8.wrap (((n : Nat) : Int) / 4194304 + 48) = x := by
                      rw [show IntKind.u8.wrap (((n : Nat) : Int) / 4194304 + 48) = (((n : Nat) : Int) / 4194304 + 48) % 256 from rfl, hx, ← N2]; omega
                    have gd : 0 ≤ ((n : Nat) : Int) / 4194304 ∧ ((n : Nat) : Int) / 4194304 ≤ 9 := by omega
                    have gd1 := gd.1
                    have gd2 := gd.2
                    have gn : (n : Int) ≤ 10000000000 := by omega
                    have gw : (w : Int) < 800 := by omega
                    rw [cl, Nat.add_zero] at N3
                    have gn1 : decide (0 < n) = true := decide_eq_true (by omega)
                    have gn2 : 0 < n := by omega
                    have e6 : Hid (((n % 4194304 : Nat) : Int) * 10 = (nn : Int)) := by show _ = _; omega
                    have gm4 : (((n % 4194304 : Nat) : Nat) : Int) ≤ 4194304 := by omega
                    have hz3 : Hid (z ≤ r + 1) := by show _ ≤ _; omega
                    have hr41' : Hid (r + 1 ≤ 41) := by show _ ≤ _; omega
                    have gwm : (w : Int) ≤ 41 := by have := hrw.out; omega
                    generalize n % 4194304 = nm at *
                    clear N1 N2 N3 hlen hx hD hP hK hwr n0' hr41 hr40
                    go_wp2_with fail
                    go_roundw
                    case rel => exact ⟨r + 1, w + 1, Lw.set w x, hrw2.out, hz3.out, hr41'.out, by go_num, by rw [hn2, ← e6.out], R1.out, PN.out, keep.out⟩
                    case measure => simp [intOf]; omega
          · have t1 : (((Fm m r0 : Nat) : Int) / 4194304 == 0) = true := by rw [beq_iff_eq]; omega
            have hr16 : r0 < 16 := by
              rcases Nat.lt_or_ge r0 16 with q | q
              · exact q
              · rw [show r0 = 16 by omega, F16.out] at c; omega
            have S := Fm_all m r0
            rw [cz2.out r0 q, Nat.add_zero] at S
            have hlo2 : Hid (Fm m (r0 + 1 - 1) < 4194304) := by show _ < _; rw [show r0 + 1 - 1 = r0 by omega]; omega
            have gn : ((Fm m r0 : Nat) : Int) ≤ 4194304 := by omega
            generalize hF : Fm m r0 = F at *
            generalize hF1 : Fm m (r0 + 1) = FF at *
            have gr : (r0 : Int) ≤ 15 := by omega
            clear hlo c hr16
            go_wp2_with fail
            go_round
            case rel => exact ⟨r0 + 1, by omega, by omega, by go_num, by rw [hF1]; exact congrArg (Value.int .u64) (by omega), hlo2.out⟩
            case measure => simp [intOf]; omega
      · have t3 : decide (z ≤ r0) = false := decide_eq_false (by omega)
        have cell := DcO.out.dig r0 (by omega)
        rw [cd.out r0 hr16] at cell
        have cl := cdg_lt m r0
        have hlo2 : Hid (Fm m (r0 + 1 - 1) < 4194304) := by show _ < _; rw [show r0 + 1 - 1 = r0 by omega]; omega
        have gn : ((Fm m r0 : Nat) : Int) ≤ 4194304 := by omega
        generalize hF : Fm m r0 = F at *
        generalize hF1 : Fm m (r0 + 1) = FF at *
        generalize cdg m r0 = d at *
        have gd : (d : Int) ≤ 9 := by omega
        have gr : (r0 : Int) ≤ 15 := by omega
        have gr2 : (r0 : Int) < 800 := by omega
        clear hlo c q cl
        go_wp2_with fail
        go_round
        case rel => exact ⟨r0 + 1, by omega, by go_num, by rw [hF1]; exact congrArg (Value.int .u64) (by omega), hlo2.out⟩
        case measure => simp [intOf]; omega
end Go.Proofs.YtocnpcjpkieogaaGreatDoor

namespace Go.Proofs.YtocnpcjpkieogaaGreatDoor
open Go.ChangeShapes Go.WideShapes Go.ChangeAt Go.RowKit

theorem rs_and23 (n : Nat) (h : n < 18446744073709551616) : bits BinOp.and IntKind.u64 (n : Int) 8388607 = ((n % 8388608 : Nat) : Int) := by
  rw [show (8388607 : Int) = ((8388607 : Nat) : Int) from rfl, u64_and_nat n 8388607 h (by omega)]
  exact congrArg _ (Nat.and_two_pow_sub_one_eq_mod n 23)
set_option maxHeartbeats 4000000 in
set_option maxRecDepth 100000 in
theorem rshift23_run (w0 u : World) (a m z : Nat) (L : List Int) (hm1 : 10 ^ 15 ≤ m) (hm2 : m < 10 ^ 16) (hz1 : 1 ≤ z) (hz : z ≤ 16) (hL : ∀ j, j < 16 → L.getD j 0 = (dgI 16 m).getD j 0) (h0 : ∀ j, z ≤ j → j < 16 → L.getD j 0 = 48) (h : Dc w0 a L (z : Int) 16 u) :
    Calls Tryz.prog 117 #[.pointer (some ⟨a, 0, none⟩), .int .u64 23] u fun e u' => e = .returned (.tuple #[]) ∧
      ∃ (L' : List Int) (Q w y r0 : Nat), Dg L' Q w y ∧ 1 ≤ y ∧ 1 ≤ r0 ∧ r0 ≤ 16 ∧ m * 10 ^ 9 * 10 ^ w = 8388608 * Q * 10 ^ (26 - r0) ∧ w ≤ 800 ∧ Dc w0 a L' (y : Int) (17 - (r0 : Int)) u' := by
  have cz : Hid (∀ r, z ≤ r → r < 16 → cdg m r = 0) := fun r hr hr2 => by
    have a1 := h0 r hr hr2
    rw [hL r hr2, cdg_at hr2] at a1
    omega
  have cd : Hid (∀ r, r < 16 → L.getD r 0 = 48 + ((cdg m r : Nat) : Int)) := fun r hr => by rw [hL r hr, cdg_at hr]
  have cz2 : Hid (∀ r, z ≤ r → cdg m r = 0) := fun r hr => by
    by_cases q : r < 16
    · exact cz.out r hr q
    · unfold cdg; rw [if_neg q]
  have F0 := Fm_0 hm2
  have F16 := Fm_16 m
  have Fmon := Lib.hid (Fm_mono m)
  have EX := Lib.hid (ex_all (m := m) (z := z) cz.out)
  have gm : 8388608 ≤ m := by rw [show (10 : Nat) ^ 15 = 1000000000000000 by decide] at hm1; omega
  have F1 : Hid (∀ r, 1 ≤ r → 1 ≤ Fm m r) := fun r hr => by
    induction r with
    | zero => omega
    | succ r ih =>
      rcases Nat.eq_zero_or_pos r with q | q
      · subst q
        unfold Fm
        rw [if_pos (by omega)]
        exact Nat.div_pos hm1 (Nat.pow_pos (by decide))
      · exact Nat.le_trans (ih q) (Fm_mono m r)
  clear hm1 hm2 hL h0
  have DcO := Lib.hid h
  have nd0 := h.ndc
  replace F0 := Lib.hid F0
  replace F16 := Lib.hid F16
  clear h
  go_enter Tryz.func117, Tryz.ntmps117
  go_wp2_with fail
  go_loop [4, 6] (fun rv nv => ∃ r0 : Nat, r0 ≤ 16 ∧ rv = .int .i64 (r0 : Int) ∧ nv = .int .u64 (Fm m r0 : Int) ∧ Fm m (r0 - 1) < 8388608) (fun rv _ => 17 - (intOf rv).toNat)
  case atStart => exact ⟨0, by omega, rfl, by rw [F0.out]; rfl, by rw [show 0 - 1 = 0 by rfl, F0.out]; decide⟩
  case round =>
    obtain ⟨r0, hr, rfl, rfl, hlo⟩ := hrel
    by_cases c : 8388608 ≤ Fm m r0
    · have hr1 : 1 ≤ r0 := by
        rcases Nat.eq_zero_or_pos r0 with q | q
        · rw [q, F0.out] at c; omega
        · exact q
      have t1 : (((Fm m r0 : Nat) : Int) / 8388608 == 0) = false := beq_eq_false_iff_ne.2 (by omega)
      have dpc := DcO.out.dpc
      have f801 := DcO.out.warm 801
      have D1 := Lib.hid (DcO.out.setDp (16 - ((r0 : Int) - 1)))
      have gr : (r0 : Int) ≤ 16 := by omega
      have n0 : Hid (Fm m r0 % (10 * 8388608) = Fm m r0) := by
        show _ = _
        apply Nat.mod_eq_of_lt
        have a1 := Fm_all m (r0 - 1)
        have a2 := cdg_lt m (r0 - 1)
        rw [show r0 - 1 + 1 = r0 by omega] at a1
        omega
      have big := Lib.hid (Fm_big (m := m) (r0 := r0) (K := 8388608) (by decide) hr1 c hlo)
      clear hlo
      go_wp2_with fail
      go_loopw [4, 5, 6] (fun rv wv nv wr => ∃ (r w : Nat) (Lw : List Int), r = r0 + w ∧ r ≤ 16 ∧ (w = 0 ∨ r ≤ z) ∧ rv = .int .i64 (r : Int) ∧ wv = .int .i64 (w : Int) ∧ nv = .int .u64 ((Fm m r % (10 * 8388608) : Nat) : Int) ∧ Dc w0 a Lw (z : Int) (16 - ((r0 : Int) - 1)) wr ∧ Put m r0 8388608 w Lw ∧ (∀ j, w ≤ j → j < 800 → Lw.getD j 0 = L.getD j 0)) (fun rv _ _ _ => 17 - (intOf rv).toNat)
      case atStart => exact ⟨r0, 0, L, rfl, hr, Or.inl rfl, rfl, rfl, by rw [n0.out], D1.out, fun j hj => by omega, fun j _ _ => rfl⟩
      case round =>
        obtain ⟨r, w, Lw, hrw, hr16', hw, rfl, rfl, rfl, hD, hP, hK⟩ := hrel
        replace hrw := Lib.hid hrw
        clear D1 dpc f801 t1 nd0
        have nd0 := hD.ndc
        by_cases q3 : r < z
        · have t4 : decide (r < z) = true := decide_eq_true q3
          have cell := hD.dig r (by omega)
          rw [hK r (by have := hrw.out; omega) (by omega), cd.out r (by omega)] at cell
          have cl := cdg_lt m r
          have hwr : w ≤ r := by have := hrw.out; omega
          have N1 := Nat.mod_lt (Fm m r) (show 0 < 10 * 8388608 by decide)
          have N2 := Fm_digit (Fm m r) 8388608
          have N3 := Fm_rem (m := m) (r := r) (K := 8388608) (by decide)
          have PN := Put_next (K := 8388608) hr1 hD.len (by omega : w < 800) hP
          rw [← hrw.out] at PN
          have hlen := hD.len
          obtain ⟨x, hx⟩ : ∃ x : Int, x = 48 + ((Fm m r / 8388608 % 10 : Nat) : Int) := ⟨_, rfl⟩
          rw [← hx] at PN
          replace PN := Lib.hid PN
          have keep : Hid (∀ j, w + 1 ≤ j → j < 800 → (Lw.set w x).getD j 0 = L.getD j 0) := fun j hj hj2 => by
            rw [show (Lw.set w x).getD j 0 = Lw.getD j 0 by simp [List.getD, show w ≠ j by omega]]
            exact hK j (by omega) hj2
          have cw := hD.dig w (by omega)
          have fw := hD.warm w
          have R1 := Lib.hid (hD.put (k := w) (by omega) x)
          have hrw2 : Hid (r + 1 = r0 + (w + 1)) := by have := hrw.out; show _ = _; omega
          generalize hn : Fm m r % (10 * 8388608) = n at *
          generalize hn2 : Fm m (r + 1) % (10 * 8388608) = nn at *
          have NA := rs_and23 n (by omega)
          have gx : IntKind.u8.wrap (((n : Nat) : Int) / 8388608 + 48) = x := by
            rw [show IntKind.u8.wrap (((n : Nat) : Int) / 8388608 + 48) = (((n : Nat) : Int) / 8388608 + 48) % 256 from rfl, hx, ← N2]; omega
          have gd : 0 ≤ ((n : Nat) : Int) / 8388608 ∧ ((n : Nat) : Int) / 8388608 ≤ 9 := by omega
          have gd1 := gd.1
          have gd2 := gd.2
          have gn : (n : Int) ≤ 10000000000 := by omega
          have gw : (w : Int) < 800 := by omega
          generalize cdg m r = d at *
          have gd3 : (d : Int) ≤ 9 := by omega
          have gr4 : (r : Int) < 800 := by omega
          have e6 : Hid (((n % 8388608 : Nat) : Int) * 10 + (48 + (d : Int)) - 48 = (nn : Int)) := by show _ = _; omega
          have gm4 : (((n % 8388608 : Nat) : Nat) : Int) ≤ 8388608 := by omega
          have hw3 : Hid (w + 1 = 0 ∨ r + 1 ≤ z) := Or.inr q3
          have hr17 : Hid (r + 1 ≤ 16) := by show _ ≤ _; omega
          generalize n % 8388608 = nm at *
          clear N1 N2 N3 hlen hx hD hP hK q3 hw hwr
          go_wp2_with fail
          go_roundw
          case rel => exact ⟨r + 1, w + 1, Lw.set w x, hrw2.out, hr17.out, hw3.out, by go_num, by go_num, by rw [hn2, ← e6.out], R1.out, PN.out, keep.out⟩
          case measure => simp [intOf]; omega
        · have t4 : decide (r < z) = false := decide_eq_false q3
          have hrz : z ≤ r := by omega
          have L4 : Hid (Put m r0 8388608 w Lw ∧ ∀ j, w ≤ j → j < 800 → Lw.getD j 0 = L.getD j 0) := ⟨hP, hK⟩
          replace hD := Lib.hid hD
          clear hP hK q3 hw
          go_wp2_with fail
          go_loopw [5, 6] (fun wv nv wr => ∃ (r w : Nat) (Lw : List Int), r = r0 + w ∧ z ≤ r ∧ r ≤ 41 ∧ wv = .int .i64 (w : Int) ∧ nv = .int .u64 ((Fm m r % (10 * 8388608) : Nat) : Int) ∧ Dc w0 a Lw (z : Int) (16 - ((r0 : Int) - 1)) wr ∧ Put m r0 8388608 w Lw ∧ (∀ j, w ≤ j → j < 800 → Lw.getD j 0 = L.getD j 0)) (fun wv _ _ => 43 - (intOf wv).toNat)
          case atStart => exact ⟨r, w, Lw, hrw.out, hrz, by omega, rfl, rfl, hD.out, L4.out.1, L4.out.2⟩
          case round =>
            clear hD L4 hrz t4 nd0
            clear hrw hr16'
            obtain ⟨r, w, Lw, hrw, hrz, hr41, rfl, rfl, hD, hP, hK⟩ := hrel
            replace hrw := Lib.hid hrw
            by_cases n0' : Fm m r % (10 * 8388608) = 0
            · rw [n0']
              have w1 : 1 ≤ w := by
                rcases Nat.eq_zero_or_pos w with q | q
                · have e1 : r = r0 := by have := hrw.out; omega
                  rw [e1, n0.out] at n0'
                  omega
                · exact q
              have FE := Fm_end (m := m) (r0 := r0) (w := w) (K := 8388608) hr w1 (by rw [← hrw.out]; exact EX.out r hrz) (by rw [← hrw.out]; exact n0')
              have BG := big.out (w - 1)
              rw [show r0 + (w - 1) = r0 + w - 1 by omega, show w - 1 + 1 = w by omega] at BG
              have hlen := hD.len
              have hw60 : w ≤ 60 := by have := hrw.out; omega
              have first : Lw.getD 0 0 ≠ 48 := by
                rw [hP 0 w1, dgI_at w _ 0 w1, show w - 1 - 0 = w - 1 by omega]
                have h1 : 1 ≤ Fm m (r0 + w - 1) / 8388608 / 10 ^ (w - 1) := Nat.div_pos BG.1 (Nat.pow_pos (by decide))
                have h2 : Fm m (r0 + w - 1) / 8388608 / 10 ^ (w - 1) < 10 := by
                  rw [Nat.div_lt_iff_lt_mul (Nat.pow_pos (by decide))]
                  have := BG.2
                  have e : (10 : Nat) ^ w = 10 ^ (w - 1) * 10 := by rw [← Nat.pow_succ]; congr 1; omega
                  rw [e] at this
                  rw [Nat.mul_comm]; exact this
                omega
              have dgs : Hid (∀ j, j < w → Lw.getD j 0 = (dgI w (Fm m (r0 + w - 1) / 8388608)).getD j 0) := hP
              generalize Fm m (r0 + w - 1) / 8388608 = Q at *
              have ndc := hD.ndc
              have f800 := hD.warm 800
              have D2 := hD.setNd (w : Int)
              have T := Lib.hid (trimD_run w0 _ a w 0 Lw (16 - ((r0 : Int) - 1)) (by omega) w1 first D2)
              replace FE := Lib.hid FE
              replace BG := Lib.hid BG
              have gw : (w : Int) ≤ 60 := by omega
              clear hD hP hK n0' first D2 hrz hr41
              go_wp2_with fail
              refine T.out.mono ?_
              rintro _ u2 ⟨y, y1, y2, y3, y4, rfl, D3⟩
              have fin : Hid (∃ (L' : List Int) (Q w y r0 : Nat), Dg L' Q w y ∧ 1 ≤ y ∧ 1 ≤ r0 ∧ r0 ≤ 16 ∧ m * 10 ^ 9 * 10 ^ w = 8388608 * Q * 10 ^ (26 - r0) ∧ w ≤ 800 ∧ Dc w0 a L' (y : Int) (17 - (r0 : Int)) u2) :=
                ⟨Lw, Q, w, y, r0, ⟨hlen, y1, dgs.out, fun j h1 h2 => y4 j h1 h2, y3, BG.out.1, BG.out.2, w1⟩, by omega, hr1, hr, FE.out, by omega, by rw [show (17 : Int) - (r0 : Int) = 16 - ((r0 : Int) - 1) by omega]; exact D3⟩
              clear T y1 y2 y3 y4 D3 dgs FE BG
              go_wp2_with fail
              refine bodyPost_end (results_none rfl _ _ _) rfl ?_
              exact ⟨rfl, fin.out⟩
            · have hr40 : r ≤ 40 := by
                rcases Nat.lt_or_ge r 41 with q | q
                · omega
                · exact absurd (Fm_done (m := m) (K := 8388608) (k := 23) (by decide) (by decide) q) n0'
              have cl := cz2.out r hrz
              have hwr : w ≤ r := by have := hrw.out; omega
              have N1 := Nat.mod_lt (Fm m r) (show 0 < 10 * 8388608 by decide)
              have N2 := Fm_digit (Fm m r) 8388608
              have N3 := Fm_rem (m := m) (r := r) (K := 8388608) (by decide)
              have PN := Put_next (K := 8388608) hr1 hD.len (by omega : w < 800) hP
              rw [← hrw.out] at PN
              have hlen := hD.len
              obtain ⟨x, hx⟩ : ∃ x : Int, x = 48 + ((Fm m r / 8388608 % 10 : Nat) : Int) := ⟨_, rfl⟩
              rw [← hx] at PN
              replace PN := Lib.hid PN
              have keep : Hid (∀ j, w + 1 ≤ j → j < 800 → (Lw.set w x).getD j 0 = L.getD j 0) := fun j hj hj2 => by
                rw [show (Lw.set w x).getD j 0 = Lw.getD j 0 by simp [List.getD, show w ≠ j by omega]]
                exact hK j (by omega) hj2
              have cw := hD.dig w (by omega)
              have fw := hD.warm w
              have R1 := Lib.hid (hD.put (k := w) (by omega) x)
              have hrw2 : Hid (r + 1 = r0 + (w + 1)) := by have := hrw.out; show _ = _; omega
              generalize hn : Fm m r % (10 * 8388608) = n at *
              generalize hn2 : Fm m (r + 1) % (10 * 8388608) = nn at *
              have NA := rs_and23 n (by omega)
              have gx : IntKind.u8.wrap (((n : Nat) : Int) / 8388608 + 48) = x := by
                rw [show IntKind.u8.wrap (((n : Nat) : Int) / 8388608 + 48) = (((n : Nat) : Int) / 8388608 + 48) % 256 from rfl, hx, ← N2]; omega
              have gd : 0 ≤ ((n : Nat) : Int) / 8388608 ∧ ((n : Nat) : Int) / 8388608 ≤ 9 := by omega
              have gd1 := gd.1
              have gd2 := gd.2
              have gn : (n : Int) ≤ 10000000000 := by omega
              have gw : (w : Int) < 800 := by omega
              rw [cl, Nat.add_zero] at N3
              have gn1 : decide (0 < n) = true := decide_eq_true (by omega)
              have gn2 : 0 < n := by omega
              have e6 : Hid (((n % 8388608 : Nat) : Int) * 10 = (nn : Int)) := by show _ = _; omega
              have gm4 : (((n % 8388608 : Nat) : Nat) : Int) ≤ 8388608 := by omega
              have hz3 : Hid (z ≤ r + 1) := by show _ ≤ _; omega
              have hr41' : Hid (r + 1 ≤ 41) := by show _ ≤ _; omega
              have gwm : (w : Int) ≤ 41 := by have := hrw.out; omega
              generalize n % 8388608 = nm at *
              clear N1 N2 N3 hlen hx hD hP hK hwr n0' hr41 hr40
              go_wp2_with fail
              go_roundw
              case rel => exact ⟨r + 1, w + 1, Lw.set w x, hrw2.out, hz3.out, hr41'.out, by go_num, by rw [hn2, ← e6.out], R1.out, PN.out, keep.out⟩
              case measure => simp [intOf]; omega
    · have t1 : (((Fm m r0 : Nat) : Int) / 8388608 == 0) = true := by rw [beq_iff_eq]; omega
      have hr16 : r0 < 16 := by
        rcases Nat.lt_or_ge r0 16 with q | q
        · exact q
        · rw [show r0 = 16 by omega, F16.out] at c; omega
      have S := Fm_all m r0
      by_cases q : z ≤ r0
      · have t2 : (((Fm m r0 : Nat) : Int) == 0) = false := beq_eq_false_iff_ne.2 (by have := F1.out r0 (by omega); omega)
        have t3 : decide (z ≤ r0) = true := decide_eq_true (by omega)
        clear S t1 hr16
        go_wp2_with fail
        go_loop [4, 6] (fun rv nv => ∃ r1 : Nat, z ≤ r1 ∧ r1 ≤ 16 ∧ rv = .int .i64 (r1 : Int) ∧ nv = .int .u64 (Fm m r1 : Int) ∧ Fm m (r1 - 1) < 8388608) (fun rv _ => 17 - (intOf rv).toNat)
        case atStart => exact ⟨r0, q, hr, rfl, rfl, hlo⟩
        case round =>
          clear hlo c q hr t2 t3
          obtain ⟨r0, q, hr, rfl, rfl, hlo⟩ := hrel
          by_cases c : 8388608 ≤ Fm m r0
          · have hr1 : 1 ≤ r0 := by omega
            have t1 : (((Fm m r0 : Nat) : Int) / 8388608 == 0) = false := beq_eq_false_iff_ne.2 (by omega)
            clear q
            have dpc := DcO.out.dpc
            have f801 := DcO.out.warm 801
            have D1 := Lib.hid (DcO.out.setDp (16 - ((r0 : Int) - 1)))
            have gr : (r0 : Int) ≤ 16 := by omega
            have n0 : Hid (Fm m r0 % (10 * 8388608) = Fm m r0) := by
              show _ = _
              apply Nat.mod_eq_of_lt
              have a1 := Fm_all m (r0 - 1)
              have a2 := cdg_lt m (r0 - 1)
              rw [show r0 - 1 + 1 = r0 by omega] at a1
              omega
            have big := Lib.hid (Fm_big (m := m) (r0 := r0) (K := 8388608) (by decide) hr1 c hlo)
            clear hlo
            go_wp2_with fail
            go_loopw [4, 5, 6] (fun rv wv nv wr => ∃ (r w : Nat) (Lw : List Int), r = r0 + w ∧ r ≤ 16 ∧ (w = 0 ∨ r ≤ z) ∧ rv = .int .i64 (r : Int) ∧ wv = .int .i64 (w : Int) ∧ nv = .int .u64 ((Fm m r % (10 * 8388608) : Nat) : Int) ∧ Dc w0 a Lw (z : Int) (16 - ((r0 : Int) - 1)) wr ∧ Put m r0 8388608 w Lw ∧ (∀ j, w ≤ j → j < 800 → Lw.getD j 0 = L.getD j 0)) (fun rv _ _ _ => 17 - (intOf rv).toNat)
            case atStart => exact ⟨r0, 0, L, rfl, hr, Or.inl rfl, rfl, rfl, by rw [n0.out], D1.out, fun j hj => by omega, fun j _ _ => rfl⟩
            case round =>
              obtain ⟨r, w, Lw, hrw, hr16', hw, rfl, rfl, rfl, hD, hP, hK⟩ := hrel
              replace hrw := Lib.hid hrw
              clear D1 dpc f801 t1 nd0
              have nd0 := hD.ndc
              by_cases q3 : r < z
              · have t4 : decide (r < z) = true := decide_eq_true q3
                have cell := hD.dig r (by omega)
                rw [hK r (by have := hrw.out; omega) (by omega), cd.out r (by omega)] at cell
                have cl := cdg_lt m r
                have hwr : w ≤ r := by have := hrw.out; omega
                have N1 := Nat.mod_lt (Fm m r) (show 0 < 10 * 8388608 by decide)
                have N2 := Fm_digit (Fm m r) 8388608
                have N3 := Fm_rem (m := m) (r := r) (K := 8388608) (by decide)
                have PN := Put_next (K := 8388608) hr1 hD.len (by omega : w < 800) hP
                rw [← hrw.out] at PN
                have hlen := hD.len
                obtain ⟨x, hx⟩ : ∃ x : Int, x = 48 + ((Fm m r / 8388608 % 10 : Nat) : Int) := ⟨_, rfl⟩
                rw [← hx] at PN
                replace PN := Lib.hid PN
                have keep : Hid (∀ j, w + 1 ≤ j → j < 800 → (Lw.set w x).getD j 0 = L.getD j 0) := fun j hj hj2 => by
                  rw [show (Lw.set w x).getD j 0 = Lw.getD j 0 by simp [List.getD, show w ≠ j by omega]]
                  exact hK j (by omega) hj2
                have cw := hD.dig w (by omega)
                have fw := hD.warm w
                have R1 := Lib.hid (hD.put (k := w) (by omega) x)
                have hrw2 : Hid (r + 1 = r0 + (w + 1)) := by have := hrw.out; show _ = _; omega
                generalize hn : Fm m r % (10 * 8388608) = n at *
                generalize hn2 : Fm m (r + 1) % (10 * 8388608) = nn at *
                have NA := rs_and23 n (by omega)
                have gx : IntKind.u8.wrap (((n : Nat) : Int) / 8388608 + 48) = x := by
                  rw [show IntKind.u8.wrap (((n : Nat) : Int) / 8388608 + 48) = (((n : Nat) : Int) / 8388608 + 48) % 256 from rfl, hx, ← N2]; omega
                have gd : 0 ≤ ((n : Nat) : Int) / 8388608 ∧ ((n : Nat) : Int) / 8388608 ≤ 9 := by omega
                have gd1 := gd.1
                have gd2 := gd.2
                have gn : (n : Int) ≤ 10000000000 := by omega
                have gw : (w : Int) < 800 := by omega
                generalize cdg m r = d at *
                have gd3 : (d : Int) ≤ 9 := by omega
                have gr4 : (r : Int) < 800 := by omega
                have e6 : Hid (((n % 8388608 : Nat) : Int) * 10 + (48 + (d : Int)) - 48 = (nn : Int)) := by show _ = _; omega
                have gm4 : (((n % 8388608 : Nat) : Nat) : Int) ≤ 8388608 := by omega
                have hw3 : Hid (w + 1 = 0 ∨ r + 1 ≤ z) := Or.inr q3
                have hr17 : Hid (r + 1 ≤ 16) := by show _ ≤ _; omega
                generalize n % 8388608 = nm at *
                clear N1 N2 N3 hlen hx hD hP hK q3 hw hwr
                go_wp2_with fail
                go_roundw
                case rel => exact ⟨r + 1, w + 1, Lw.set w x, hrw2.out, hr17.out, hw3.out, by go_num, by go_num, by rw [hn2, ← e6.out], R1.out, PN.out, keep.out⟩
                case measure => simp [intOf]; omega
              · have t4 : decide (r < z) = false := decide_eq_false q3
                have hrz : z ≤ r := by omega
                have L4 : Hid (Put m r0 8388608 w Lw ∧ ∀ j, w ≤ j → j < 800 → Lw.getD j 0 = L.getD j 0) := ⟨hP, hK⟩
                replace hD := Lib.hid hD
                clear hP hK q3 hw
                go_wp2_with fail
                go_loopw [5, 6] (fun wv nv wr => ∃ (r w : Nat) (Lw : List Int), r = r0 + w ∧ z ≤ r ∧ r ≤ 41 ∧ wv = .int .i64 (w : Int) ∧ nv = .int .u64 ((Fm m r % (10 * 8388608) : Nat) : Int) ∧ Dc w0 a Lw (z : Int) (16 - ((r0 : Int) - 1)) wr ∧ Put m r0 8388608 w Lw ∧ (∀ j, w ≤ j → j < 800 → Lw.getD j 0 = L.getD j 0)) (fun wv _ _ => 43 - (intOf wv).toNat)
                case atStart => exact ⟨r, w, Lw, hrw.out, hrz, by omega, rfl, rfl, hD.out, L4.out.1, L4.out.2⟩
                case round =>
                  clear hD L4 hrz t4 nd0
                  clear hrw hr16'
                  obtain ⟨r, w, Lw, hrw, hrz, hr41, rfl, rfl, hD, hP, hK⟩ := hrel
                  replace hrw := Lib.hid hrw
                  by_cases n0' : Fm m r % (10 * 8388608) = 0
                  · rw [n0']
                    have w1 : 1 ≤ w := by
                      rcases Nat.eq_zero_or_pos w with q | q
                      · have e1 : r = r0 := by have := hrw.out; omega
                        rw [e1, n0.out] at n0'
                        omega
                      · exact q
                    have FE := Fm_end (m := m) (r0 := r0) (w := w) (K := 8388608) hr w1 (by rw [← hrw.out]; exact EX.out r hrz) (by rw [← hrw.out]; exact n0')
                    have BG := big.out (w - 1)
                    rw [show r0 + (w - 1) = r0 + w - 1 by omega, show w - 1 + 1 = w by omega] at BG
                    have hlen := hD.len
                    have hw60 : w ≤ 60 := by have := hrw.out; omega
                    have first : Lw.getD 0 0 ≠ 48 := by
                      rw [hP 0 w1, dgI_at w _ 0 w1, show w - 1 - 0 = w - 1 by omega]
                      have h1 : 1 ≤ Fm m (r0 + w - 1) / 8388608 / 10 ^ (w - 1) := Nat.div_pos BG.1 (Nat.pow_pos (by decide))
                      have h2 : Fm m (r0 + w - 1) / 8388608 / 10 ^ (w - 1) < 10 := by
                        rw [Nat.div_lt_iff_lt_mul (Nat.pow_pos (by decide))]
                        have := BG.2
                        have e : (10 : Nat) ^ w = 10 ^ (w - 1) * 10 := by rw [← Nat.pow_succ]; congr 1; omega
                        rw [e] at this
                        rw [Nat.mul_comm]; exact this
                      omega
                    have dgs : Hid (∀ j, j < w → Lw.getD j 0 = (dgI w (Fm m (r0 + w - 1) / 8388608)).getD j 0) := hP
                    generalize Fm m (r0 + w - 1) / 8388608 = Q at *
                    have ndc := hD.ndc
                    have f800 := hD.warm 800
                    have D2 := hD.setNd (w : Int)
                    have T := Lib.hid (trimD_run w0 _ a w 0 Lw (16 - ((r0 : Int) - 1)) (by omega) w1 first D2)
                    replace FE := Lib.hid FE
                    replace BG := Lib.hid BG
                    have gw : (w : Int) ≤ 60 := by omega
                    clear hD hP hK n0' first D2 hrz hr41
                    go_wp2_with fail
                    refine T.out.mono ?_
                    rintro _ u2 ⟨y, y1, y2, y3, y4, rfl, D3⟩
                    have fin : Hid (∃ (L' : List Int) (Q w y r0 : Nat), Dg L' Q w y ∧ 1 ≤ y ∧ 1 ≤ r0 ∧ r0 ≤ 16 ∧ m * 10 ^ 9 * 10 ^ w = 8388608 * Q * 10 ^ (26 - r0) ∧ w ≤ 800 ∧ Dc w0 a L' (y : Int) (17 - (r0 : Int)) u2) :=
                      ⟨Lw, Q, w, y, r0, ⟨hlen, y1, dgs.out, fun j h1 h2 => y4 j h1 h2, y3, BG.out.1, BG.out.2, w1⟩, by omega, hr1, hr, FE.out, by omega, by rw [show (17 : Int) - (r0 : Int) = 16 - ((r0 : Int) - 1) by omega]; exact D3⟩
                    clear T y1 y2 y3 y4 D3 dgs FE BG
                    go_wp2_with fail
                    refine bodyPost_end (results_none rfl _ _ _) rfl ?_
                    exact ⟨rfl, fin.out⟩
                  · have hr40 : r ≤ 40 := by
                      rcases Nat.lt_or_ge r 41 with q | q
                      · omega
                      · exact absurd (Fm_done (m := m) (K := 8388608) (k := 23) (by decide) (by decide) q) n0'
                    have cl := cz2.out r hrz
                    have hwr : w ≤ r := by have := hrw.out; omega
                    have N1 := Nat.mod_lt (Fm m r) (show 0 < 10 * 8388608 by decide)
                    have N2 := Fm_digit (Fm m r) 8388608
                    have N3 := Fm_rem (m := m) (r := r) (K := 8388608) (by decide)
                    have PN := Put_next (K := 8388608) hr1 hD.len (by omega : w < 800) hP
                    rw [← hrw.out] at PN
                    have hlen := hD.len
                    obtain ⟨x, hx⟩ : ∃ x : Int, x = 48 + ((Fm m r / 8388608 % 10 : Nat) : Int) := ⟨_, rfl⟩
                    rw [← hx] at PN
                    replace PN := Lib.hid PN
                    have keep : Hid (∀ j, w + 1 ≤ j → j < 800 → (Lw.set w x).getD j 0 = L.getD j 0) := fun j hj hj2 => by
                      rw [show (Lw.set w x).getD j 0 = Lw.getD j 0 by simp [List.getD, show w ≠ j by omega]]
                      exact hK j (by omega) hj2
                    have cw := hD.dig w (by omega)
                    have fw := hD.warm w
                    have R1 := Lib.hid (hD.put (k := w) (by omega) x)
                    have hrw2 : Hid (r + 1 = r0 + (w + 1)) := by have := hrw.out; show _ = _; omega
                    generalize hn : Fm m r % (10 * 8388608) = n at *
                    generalize hn2 : Fm m (r + 1) % (10 * 8388608) = nn at *
                    have NA := rs_and23 n (by omega)
                    have gx : IntKind.u8.wrap (((n : Nat) : Int) / 8388608 + 48) = x := by
                      rw [show IntKind.u8.wrap (((n : Nat) : Int) / 8388608 + 48) = (((n : Nat) : Int) / 8388608 + 48) % 256 from rfl, hx, ← N2]; omega
                    have gd : 0 ≤ ((n : Nat) : Int) / 8388608 ∧ ((n : Nat) : Int) / 8388608 ≤ 9 := by omega
                    have gd1 := gd.1
                    have gd2 := gd.2
                    have gn : (n : Int) ≤ 10000000000 := by omega
                    have gw : (w : Int) < 800 := by omega
                    rw [cl, Nat.add_zero] at N3
                    have gn1 : decide (0 < n) = true := decide_eq_true (by omega)
                    have gn2 : 0 < n := by omega
                    have e6 : Hid (((n % 8388608 : Nat) : Int) * 10 = (nn : Int)) := by show _ = _; omega
                    have gm4 : (((n % 8388608 : Nat) : Nat) : Int) ≤ 8388608 := by omega
                    have hz3 : Hid (z ≤ r + 1) := by show _ ≤ _; omega
                    have hr41' : Hid (r + 1 ≤ 41) := by show _ ≤ _; omega
                    have gwm : (w : Int) ≤ 41 := by have := hrw.out; omega
                    generalize n % 8388608 = nm at *
                    clear N1 N2 N3 hlen hx hD hP hK hwr n0' hr41 hr40
                    go_wp2_with fail
                    go_roundw
                    case rel => exact ⟨r + 1, w + 1, Lw.set w x, hrw2.out, hz3.out, hr41'.out, by go_num, by rw [hn2, ← e6.out], R1.out, PN.out, keep.out⟩
                    case measure => simp [intOf]; omega
          · have t1 : (((Fm m r0 : Nat) : Int) / 8388608 == 0) = true := by rw [beq_iff_eq]; omega
            have hr16 : r0 < 16 := by
              rcases Nat.lt_or_ge r0 16 with q | q
              · exact q
              · rw [show r0 = 16 by omega, F16.out] at c; omega
            have S := Fm_all m r0
            rw [cz2.out r0 q, Nat.add_zero] at S
            have hlo2 : Hid (Fm m (r0 + 1 - 1) < 8388608) := by show _ < _; rw [show r0 + 1 - 1 = r0 by omega]; omega
            have gn : ((Fm m r0 : Nat) : Int) ≤ 8388608 := by omega
            generalize hF : Fm m r0 = F at *
            generalize hF1 : Fm m (r0 + 1) = FF at *
            have gr : (r0 : Int) ≤ 15 := by omega
            clear hlo c hr16
            go_wp2_with fail
            go_round
            case rel => exact ⟨r0 + 1, by omega, by omega, by go_num, by rw [hF1]; exact congrArg (Value.int .u64) (by omega), hlo2.out⟩
            case measure => simp [intOf]; omega
      · have t3 : decide (z ≤ r0) = false := decide_eq_false (by omega)
        have cell := DcO.out.dig r0 (by omega)
        rw [cd.out r0 hr16] at cell
        have cl := cdg_lt m r0
        have hlo2 : Hid (Fm m (r0 + 1 - 1) < 8388608) := by show _ < _; rw [show r0 + 1 - 1 = r0 by omega]; omega
        have gn : ((Fm m r0 : Nat) : Int) ≤ 8388608 := by omega
        generalize hF : Fm m r0 = F at *
        generalize hF1 : Fm m (r0 + 1) = FF at *
        generalize cdg m r0 = d at *
        have gd : (d : Int) ≤ 9 := by omega
        have gr : (r0 : Int) ≤ 15 := by omega
        have gr2 : (r0 : Int) < 800 := by omega
        clear hlo c q cl
        go_wp2_with fail
        go_round
        case rel => exact ⟨r0 + 1, by omega, by go_num, by rw [hF1]; exact congrArg (Value.int .u64) (by omega), hlo2.out⟩
        case measure => simp [intOf]; omega
end Go.Proofs.YtocnpcjpkieogaaGreatDoor

namespace Go.Proofs.YtocnpcjpkieogaaGreatDoor
open Go.ChangeShapes Go.WideShapes Go.ChangeAt Go.RowKit

/-- what is left -/
def Shifted (w0 : World) (a m K : Nat) (u' : World) : Prop :=
  ∃ (L' : List Int) (Q w y r0 : Nat), Dg L' Q w y ∧ 1 ≤ y ∧ 1 ≤ r0 ∧ r0 ≤ 16 ∧ m * 10 ^ 9 * 10 ^ w = K * Q * 10 ^ (26 - r0) ∧ w ≤ 800 ∧ Dc w0 a L' (y : Int) (17 - (r0 : Int)) u'
set_option maxRecDepth 100000 in
theorem shift22_run (w0 u : World) (a m z : Nat) (L : List Int) (hm1 : 10 ^ 15 ≤ m) (hm2 : m < 10 ^ 16) (hz1 : 1 ≤ z) (hz : z ≤ 16) (hL : ∀ j, j < 16 → L.getD j 0 = (dgI 16 m).getD j 0) (h0 : ∀ j, z ≤ j → j < 16 → L.getD j 0 = 48) (h : Dc w0 a L (z : Int) 16 u) :
    Calls Tryz.prog 81 #[.pointer (some ⟨a, 0, none⟩), .int .i64 (-22)] u fun e u' => e = .returned (.tuple #[]) ∧ Shifted w0 a m 4194304 u' := by
  have C := Lib.hid (rshift22_run w0 u a m z L hm1 hm2 hz1 hz hL h0 h)
  have n := h.ndc
  have t : ((z : Int) == 0) = false := beq_eq_false_iff_ne.2 (by omega)
  clear hm1 hm2 hz1 hz hL h0 h
  go_enter Tryz.func81, Tryz.ntmps81
  go_wp2_with fail
  refine wp_loop_rounds 1 ?_
  rw [rounds_succ]
  go_wp2_with fail
  refine C.out.mono ?_
  rintro _ u1 ⟨rfl, S⟩
  replace S := Lib.hid S
  clear C
  go_wp2_with fail
  refine bodyPost_end (results_none rfl _ _ _) rfl ?_
  exact ⟨rfl, S.out⟩
set_option maxRecDepth 100000 in
theorem shift23_run (w0 u : World) (a m z : Nat) (L : List Int) (hm1 : 10 ^ 15 ≤ m) (hm2 : m < 10 ^ 16) (hz1 : 1 ≤ z) (hz : z ≤ 16) (hL : ∀ j, j < 16 → L.getD j 0 = (dgI 16 m).getD j 0) (h0 : ∀ j, z ≤ j → j < 16 → L.getD j 0 = 48) (h : Dc w0 a L (z : Int) 16 u) :
    Calls Tryz.prog 81 #[.pointer (some ⟨a, 0, none⟩), .int .i64 (-23)] u fun e u' => e = .returned (.tuple #[]) ∧ Shifted w0 a m 8388608 u' := by
  have C := Lib.hid (rshift23_run w0 u a m z L hm1 hm2 hz1 hz hL h0 h)
  have n := h.ndc
  have t : ((z : Int) == 0) = false := beq_eq_false_iff_ne.2 (by omega)
  clear hm1 hm2 hz1 hz hL h0 h
  go_enter Tryz.func81, Tryz.ntmps81
  go_wp2_with fail
  refine wp_loop_rounds 1 ?_
  rw [rounds_succ]
  go_wp2_with fail
  refine C.out.mono ?_
  rintro _ u1 ⟨rfl, S⟩
  replace S := Lib.hid S
  clear C
  go_wp2_with fail
  refine bodyPost_end (results_none rfl _ _ _) rfl ?_
  exact ⟨rfl, S.out⟩
end Go.Proofs.YtocnpcjpkieogaaGreatDoor
