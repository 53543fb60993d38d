/- Proved here: for all orbits and times the law OrbitRounds returns true: behind whole rounds the body stands where it stood. No conditions. -/
import Derived.Test.YtkpdnhbifokhlaaRows
import Derived.Test.YtkpdnhbifokhlaaJq4
import Derived.Test.YtkpdnhbifokhlaaJq2
import Derived.Test.YtkpdnhbifokhlaaJv2
namespace Go.Proofs.Ytkpdnhbifokhlaa.orbitRounds
open Go.ChangeShapes Go.WideShapes Go.ChangeAt Go.RowKit

open Ieee.Own Pol
set_option maxRecDepth 100000 in
theorem prodO_any {a b : Nat} (ha : a < 18446744073709551616) (hb : b < 18446744073709551616) (h1 : fitB a = true) : ∃ p e k, ∀ w, Calls Try.prog 53 #[.float .f64 a, .float .f64 b] w fun en w' => en = .returned (.tuple #[.float .f64 p, .float .f64 e, .int .i64 k]) ∧ w = w' := by
  by_cases h2 : fitB b = true
  · obtain ⟨p, e, -, -, -, -, -, -, C⟩ := rprod_fit a b ha hb h1 h2
    exact ⟨p, e, 0, C⟩
  · exact ⟨0, 0, 3, fun w => rprod_unfit a b ha hb (.inr (by simpa using h2)) w⟩
set_option maxHeartbeats 4000000 in
set_option maxRecDepth 100000 in
theorem exactly_any {a b : Nat} (ha : a < 18446744073709551616) (hb : b < 18446744073709551616) (h1 : fitB a = true) : ∃ p e k, ∀ w, Calls Try.prog 23 #[.float .f64 a, .float .f64 b] w fun en w' => en = .returned (.tuple #[.float .f64 p, .float .f64 e, .int .i64 k]) ∧ Below w.heap.size w w' := by
  obtain ⟨p, e, k, C⟩ := prodO_any ha hb h1
  refine ⟨p, e, k, fun w => ?_⟩
  clear ha hb h1
  go_enter Try.func23, Try.ntmps23
  go_wp2_with (go_at_call 53; ((with_reducible refine (C _).mono ?_); rintro e w' ⟨rfl, rfl⟩))
  go_ret3
  exact ⟨rfl, Below.refl _ _⟩
set_option maxHeartbeats 2000000 in
set_option maxRecDepth 100000 in
theorem walk (w : World) (a0 : Ob) (h0 : ObW a0) (a1 : Nat) (h1 : a1 < 18446744073709551616) :
    Calls Try.prog 6 #[obV a0, .float .f64 a1] w fun e w' => e = .returned (.bool true) ∧ Below w.heap.size w w' := by
  have AW := Lib.hid awake11
  have CN := Lib.hid (fun w => rmean_run (d := 0) h0 (by decide) w)
  have CA := Lib.hid (fun w => oat_run h0 h1 w)
  have CB := Lib.hid (fun w => oat_run (d := 0) h0 (by decide) w)
  unfold meanR at CN
  rw [wit_zero] at CN
  by_cases r0 : readyO a0 true = 0
  · rw [if_pos r0] at CN
    obtain ⟨hM, -⟩ := readyO_zero r0
    have hO := mayO_of hM
    obtain ⟨pe', re', ke, CE'⟩ := exactly_any h0.ra h1 (btw_of h0.ra hO.ra).2.1
    have CE := Lib.hid CE'
    have mf : meanW a0 0 < 18446744073709551616 := by
      have P0 := pos_of h0 (show 0 < 18446744073709551616 by decide) hO.ph hO.ra wit_zero
      exact (oW_nz (lef_of P0.left).fin).fin.1
    have A9 := fun w => abs_any (meanW a0 0) mf w
    have PS : Hid (∀ x y fl s1 s2, (∀ r, Ieee.double.mul a0.ra a1 = some r → x = r) → (∀ r, Ieee.double.add a0.ph x = some r → y = r) → (FinW x → fl = wholeW .down x) → (∀ r, Ieee.double.sub y x = some r → s1 = r) → (∀ r, Ieee.double.sub y a0.ph = some r → s2 = r) →
        (FloatKind.f64.format.order fl x != some Ordering.eq) = false → (FloatKind.f64.format.order s1 a0.ph != some Ordering.eq) = false → (FloatKind.f64.format.order s2 x != some Ordering.eq) = false → (FloatKind.f64.format.order (meanW a0 0 % 9223372036854775808) 4602678819172646912 == some Ordering.eq) = false → (atR a0 a1).2 = 0 → atR a0 a1 = atR a0 0) := Lib.hid fun x y fl s1 s2 e1 e2 e3 e4 e5 p3 p4 p5 p6 ka => by
      have rd : readyO a0 (witB g24 a1) = 0 := by
        unfold atR at ka
        by_cases c : readyO a0 (witB g24 a1) = 0
        · exact c
        · rw [if_neg c] at ka; exact ka
      obtain ⟨-, t⟩ := readyO_zero rd
      have P := pos_of h0 h1 hO.ph hO.ra t
      obtain rfl := e1 _ P.mul
      obtain rfl := e2 _ P.add
      obtain rfl := e3 P.fm
      exact at_same (rounds h0 hO h1 t p3 e4 p4 e5 p5 p6) rd
    clear CE' mf hO hM r0 h0 h1
    generalize atR a0 a1 = A at *
    generalize atR a0 0 = B at *
    generalize meanW a0 0 = m at *
    obtain ⟨⟨x1, x2, x3⟩, ka⟩ := A
    obtain ⟨⟨z1, z2, z3⟩, kb⟩ := B
    obtain ⟨ax, ec, ti, no, pe, ph, ra⟩ := a0
    unfold floE2 at CN
    unfold obV at *
    unfold vecE vecV at CA CB
    dsimp only at *
    generalize m % 9223372036854775808 = am at *
    generalize a1 = d at *
    have K0 := kv1 w 24 [.float .f64 ax, .float .f64 ec, .float .f64 ti, .float .f64 no, .float .f64 pe, .float .f64 ph, .float .f64 ra]
    simp only [objV] at K0
    have hst := @fstore
    replace K0 := Lib.hid K0
    go_enter Try.func6, Try.ntmps6
    go_wp2_with fail
    have K := K0.out
    clear K0
    generalize w.alloc _ = wr at *
    refine (AW.out wr).mono ?_
    rintro _ v1 ⟨rfl, hb⟩
    replace K := K.on hb
    clear hb AW
    obtain ⟨x, w1, D1, hx, rx⟩ := fmul_any ra d v1
    obtain ⟨y, w2, -, D2, hy, ry⟩ := fadd_any ph x w1
    have c6 := (K.at_ 0 rfl).at_ 6 _ rfl
    replace K := K.on D1.belowO
    have c5 := (K.at_ 0 rfl).at_ 5 _ rfl
    replace K := K.on D2.belowO
    have c0_0 := (K.at_ 0 rfl).at_ 0 _ rfl
    have c0_1 := (K.at_ 0 rfl).at_ 1 _ rfl
    have c0_2 := (K.at_ 0 rfl).at_ 2 _ rfl
    have c0_3 := (K.at_ 0 rfl).at_ 3 _ rfl
    have c0_4 := (K.at_ 0 rfl).at_ 4 _ rfl
    have c0_5 := (K.at_ 0 rfl).at_ 5 _ rfl
    have c0_6 := (K.at_ 0 rfl).at_ 6 _ rfl
    clear D1 D2
    replace K := Lib.hid K
    go_wp2_with fail
    replace K := K.out
    refine (CN.out w2).mono ?_
    rintro _ v2 ⟨rfl, hb⟩
    clear c0_0 c0_1 c0_2 c0_3 c0_4 c0_5 c0_6 c5 c6 rx ry CN
    replace K := K.on hb
    clear hb
    cases p1 : (FloatKind.f64.format.order d 0 == some Ordering.eq) with
    | true =>
      replace K := Lib.hid K
      go_wp2_with (first | (go_at_call 22; ((with_reducible refine CF'.mono ?_); rintro e w' ⟨rfl, rfl⟩)) | (go_at_call 20; ((with_reducible refine (A9 _).mono ?_); rintro e w' ⟨rfl, rfl⟩)))
      replace K := K.out
      go_ret
      exact ⟨rfl, K.old⟩
    | false =>
      obtain ⟨q, w3, D3, rq⟩ := fdiv_any x d v2
      replace K := K.on D3.belowO
      have c6b := (K.at_ 0 rfl).at_ 6 _ rfl
      clear D3
      cases p2 : (FloatKind.f64.format.order q ra != some Ordering.eq) with
      | true =>
        replace K := Lib.hid K
        go_wp2_with (first | (go_at_call 22; ((with_reducible refine CF'.mono ?_); rintro e w' ⟨rfl, rfl⟩)) | (go_at_call 20; ((with_reducible refine (A9 _).mono ?_); rintro e w' ⟨rfl, rfl⟩)))
        replace K := K.out
        go_ret
        exact ⟨rfl, K.old⟩
      | false =>
        obtain ⟨fl, w4, D4, hf, CF'⟩ := floor_any x w3
        replace K := K.on D4
        clear D4
        cases p3 : (FloatKind.f64.format.order fl x != some Ordering.eq) with
        | true =>
          replace K := Lib.hid K
          go_wp2_with (first | (go_at_call 22; ((with_reducible refine CF'.mono ?_); rintro e w' ⟨rfl, rfl⟩)) | (go_at_call 20; ((with_reducible refine (A9 _).mono ?_); rintro e w' ⟨rfl, rfl⟩)))
          replace K := K.out
          go_ret
          exact ⟨rfl, K.old⟩
        | false =>
          obtain ⟨s1, w5, -, D5, hs1, rs1⟩ := fsub_any y x w4
          replace K := K.on D5.belowO
          have c5 := (K.at_ 0 rfl).at_ 5 _ rfl
          clear D5
          cases p4 : (FloatKind.f64.format.order s1 ph != some Ordering.eq) with
          | true =>
            replace K := Lib.hid K
            go_wp2_with (first | (go_at_call 22; ((with_reducible refine CF'.mono ?_); rintro e w' ⟨rfl, rfl⟩)) | (go_at_call 20; ((with_reducible refine (A9 _).mono ?_); rintro e w' ⟨rfl, rfl⟩)))
            replace K := K.out
            go_ret
            exact ⟨rfl, K.old⟩
          | false =>
            obtain ⟨s2, w6, -, D6, hs2, rs2⟩ := fsub_any y ph w5
            have c5b := c5
            replace K := K.on D6.belowO
            clear D6
            cases p5 : (FloatKind.f64.format.order s2 x != some Ordering.eq) with
            | true =>
              replace K := Lib.hid K
              go_wp2_with (first | (go_at_call 22; ((with_reducible refine CF'.mono ?_); rintro e w' ⟨rfl, rfl⟩)) | (go_at_call 20; ((with_reducible refine (A9 _).mono ?_); rintro e w' ⟨rfl, rfl⟩)))
              replace K := K.out
              go_ret
              exact ⟨rfl, K.old⟩
            | false =>
              cases p6 : (FloatKind.f64.format.order am 4602678819172646912 == some Ordering.eq) with
              | true =>
                replace K := Lib.hid K
                go_wp2_with (first | (go_at_call 22; ((with_reducible refine CF'.mono ?_); rintro e w' ⟨rfl, rfl⟩)) | (go_at_call 20; ((with_reducible refine (A9 _).mono ?_); rintro e w' ⟨rfl, rfl⟩)))
                replace K := K.out
                go_ret
                exact ⟨rfl, K.old⟩
              | false =>
                have c6 := (K.at_ 0 rfl).at_ 6 _ rfl
                replace K := Lib.hid K
                go_wp2_with (first | (go_at_call 22; ((with_reducible refine CF'.mono ?_); rintro e w' ⟨rfl, rfl⟩)) | (go_at_call 20; ((with_reducible refine (A9 _).mono ?_); rintro e w' ⟨rfl, rfl⟩)))
                replace K := K.out
                refine (CE.out w6).mono ?_
                rintro _ v4 ⟨rfl, hb⟩
                clear c6 c6b c5 c5b
                replace K := K.on hb
                clear hb CE
                by_cases hke : ke = 0
                · subst hke
                  cases p7 : (FloatKind.f64.format.order re' 0 != some Ordering.eq) with
                  | true =>
                    replace K := Lib.hid K
                    go_wp2_with (first | (go_at_call 22; ((with_reducible refine CF'.mono ?_); rintro e w' ⟨rfl, rfl⟩)) | (go_at_call 20; ((with_reducible refine (A9 _).mono ?_); rintro e w' ⟨rfl, rfl⟩)))
                    replace K := K.out
                    go_ret
                    exact ⟨rfl, K.old⟩
                  | false =>
                    cases p8 : (FloatKind.f64.format.order pe' x != some Ordering.eq) with
                    | true =>
                      replace K := Lib.hid K
                      go_wp2_with (first | (go_at_call 22; ((with_reducible refine CF'.mono ?_); rintro e w' ⟨rfl, rfl⟩)) | (go_at_call 20; ((with_reducible refine (A9 _).mono ?_); rintro e w' ⟨rfl, rfl⟩)))
                      replace K := K.out
                      go_ret
                      exact ⟨rfl, K.old⟩
                    | false =>
                      have c0_0 := (K.at_ 0 rfl).at_ 0 _ rfl
                      have c0_1 := (K.at_ 0 rfl).at_ 1 _ rfl
                      have c0_2 := (K.at_ 0 rfl).at_ 2 _ rfl
                      have c0_3 := (K.at_ 0 rfl).at_ 3 _ rfl
                      have c0_4 := (K.at_ 0 rfl).at_ 4 _ rfl
                      have c0_5 := (K.at_ 0 rfl).at_ 5 _ rfl
                      have c0_6 := (K.at_ 0 rfl).at_ 6 _ rfl
                      replace K := Lib.hid K
                      go_wp2_with (first | (go_at_call 22; ((with_reducible refine CF'.mono ?_); rintro e w' ⟨rfl, rfl⟩)) | (go_at_call 20; ((with_reducible refine (A9 _).mono ?_); rintro e w' ⟨rfl, rfl⟩)))
                      replace K := K.out
                      refine (CA.out v4).mono ?_
                      rintro _ v1 ⟨rfl, hb⟩
                      clear c0_0 c0_1 c0_2 c0_3 c0_4 c0_5 c0_6
                      replace K := K.on hb
                      clear hb
                      replace K := K.new 33 [.float .f64 x1, .float .f64 x2, .float .f64 x3]
                      simp only [objV, List.cons_append, List.nil_append] at K
                      have c0_0 := (K.at_ 0 rfl).at_ 0 _ rfl
                      have c0_1 := (K.at_ 0 rfl).at_ 1 _ rfl
                      have c0_2 := (K.at_ 0 rfl).at_ 2 _ rfl
                      have c0_3 := (K.at_ 0 rfl).at_ 3 _ rfl
                      have c0_4 := (K.at_ 0 rfl).at_ 4 _ rfl
                      have c0_5 := (K.at_ 0 rfl).at_ 5 _ rfl
                      have c0_6 := (K.at_ 0 rfl).at_ 6 _ rfl
                      replace K := Lib.hid K
                      go_wp2_with (first | (go_at_call 22; ((with_reducible refine CF'.mono ?_); rintro e w' ⟨rfl, rfl⟩)) | (go_at_call 20; ((with_reducible refine (A9 _).mono ?_); rintro e w' ⟨rfl, rfl⟩)))
                      replace K := K.out
                      generalize v1.alloc _ = u1 at *
                      generalize v1.heap.size = g1 at *
                      by_cases hk : ka = 0
                      · subst hk
                        have same := PS.out x y fl s1 s2 hx hy hf hs1 hs2 p3 p4 p5 p6 rfl
                        clear PS hx hy hf hs1 hs2
                        obtain ⟨e1, rfl⟩ := Prod.mk.inj same
                        obtain ⟨rfl, e2⟩ := Prod.mk.inj e1
                        obtain ⟨rfl, rfl⟩ := Prod.mk.inj e2
                        clear same e1 e2
                        have SV := Lib.hid (fun w => samevec_run x1 x2 x3 w)
                        refine (CB.out u1).mono ?_
                        rintro _ v2 ⟨rfl, hb⟩
                        clear c0_0 c0_1 c0_2 c0_3 c0_4 c0_5 c0_6
                        replace K := K.on hb
                        clear hb
                        replace K := K.new 33 [.float .f64 x1, .float .f64 x2, .float .f64 x3]
                        simp only [objV, List.cons_append, List.nil_append] at K
                        have c1_0 := (K.at_ 1 rfl).at_ 0 _ rfl
                        have c1_1 := (K.at_ 1 rfl).at_ 1 _ rfl
                        have c1_2 := (K.at_ 1 rfl).at_ 2 _ rfl
                        have c2_0 := (K.at_ 2 rfl).at_ 0 _ rfl
                        have c2_1 := (K.at_ 2 rfl).at_ 1 _ rfl
                        have c2_2 := (K.at_ 2 rfl).at_ 2 _ rfl
                        replace K := Lib.hid K
                        go_wp2_with (first | (go_at_call 22; ((with_reducible refine CF'.mono ?_); rintro e w' ⟨rfl, rfl⟩)) | (go_at_call 20; ((with_reducible refine (A9 _).mono ?_); rintro e w' ⟨rfl, rfl⟩)))
                        replace K := K.out
                        generalize v2.alloc _ = u2 at *
                        generalize v2.heap.size = g2 at *
                        refine (SV.out u2).mono ?_
                        rintro _ v3 ⟨rfl, hb⟩
                        clear c1_0 c1_1 c1_2 c2_0 c2_1 c2_2
                        replace K := K.on hb
                        clear hb
                        replace K := Lib.hid K
                        go_wp2_with (first | (go_at_call 22; ((with_reducible refine CF'.mono ?_); rintro e w' ⟨rfl, rfl⟩)) | (go_at_call 20; ((with_reducible refine (A9 _).mono ?_); rintro e w' ⟨rfl, rfl⟩)))
                        go_ret
                        exact ⟨rfl, K.out.old⟩
                      · have tk : (ka != 0) = true := by simpa using hk
                        refine (CB.out u1).mono ?_
                        rintro _ v2 ⟨rfl, hb⟩
                        clear c0_0 c0_1 c0_2 c0_3 c0_4 c0_5 c0_6
                        replace K := K.on hb
                        clear hb
                        replace K := K.new 33 [.float .f64 z1, .float .f64 z2, .float .f64 z3]
                        simp only [objV, List.cons_append, List.nil_append] at K
                        replace K := Lib.hid K
                        go_wp2_with (first | (go_at_call 22; ((with_reducible refine CF'.mono ?_); rintro e w' ⟨rfl, rfl⟩)) | (go_at_call 20; ((with_reducible refine (A9 _).mono ?_); rintro e w' ⟨rfl, rfl⟩)))
                        go_ret
                        exact ⟨rfl, K.out.old⟩
                · have tke : (ke != 0) = true := by simpa using hke
                  replace K := Lib.hid K
                  go_wp2_with (first | (go_at_call 22; ((with_reducible refine CF'.mono ?_); rintro e w' ⟨rfl, rfl⟩)) | (go_at_call 20; ((with_reducible refine (A9 _).mono ?_); rintro e w' ⟨rfl, rfl⟩)))
                  replace K := K.out
                  go_ret
                  exact ⟨rfl, K.old⟩
  · rw [if_neg r0] at CN
    have tk : (readyO a0 true != 0) = true := by simpa using r0
    clear r0 CA CB h0 h1
    generalize readyO a0 true = k at *
    obtain ⟨ax, ec, ti, no, pe, ph, ra⟩ := a0
    unfold floE2 at CN
    unfold obV at *
    dsimp only at *
    generalize a1 = d at *
    have K0 := kv1 w 24 [.float .f64 ax, .float .f64 ec, .float .f64 ti, .float .f64 no, .float .f64 pe, .float .f64 ph, .float .f64 ra]
    simp only [objV] at K0
    have hst := @fstore
    replace K0 := Lib.hid K0
    go_enter Try.func6, Try.ntmps6
    go_wp2_with fail
    have K := K0.out
    clear K0
    generalize w.alloc _ = wr at *
    refine (AW.out wr).mono ?_
    rintro _ v1 ⟨rfl, hb⟩
    replace K := K.on hb
    clear hb AW
    obtain ⟨x, w1, D1, hx, rx⟩ := fmul_any ra d v1
    obtain ⟨y, w2, -, D2, hy, ry⟩ := fadd_any ph x w1
    have c6 := (K.at_ 0 rfl).at_ 6 _ rfl
    replace K := K.on D1.belowO
    have c5 := (K.at_ 0 rfl).at_ 5 _ rfl
    replace K := K.on D2.belowO
    have c0_0 := (K.at_ 0 rfl).at_ 0 _ rfl
    have c0_1 := (K.at_ 0 rfl).at_ 1 _ rfl
    have c0_2 := (K.at_ 0 rfl).at_ 2 _ rfl
    have c0_3 := (K.at_ 0 rfl).at_ 3 _ rfl
    have c0_4 := (K.at_ 0 rfl).at_ 4 _ rfl
    have c0_5 := (K.at_ 0 rfl).at_ 5 _ rfl
    have c0_6 := (K.at_ 0 rfl).at_ 6 _ rfl
    clear D1 D2
    replace K := Lib.hid K
    go_wp2_with fail
    replace K := K.out
    refine (CN.out w2).mono ?_
    rintro _ v2 ⟨rfl, hb⟩
    clear c0_0 c0_1 c0_2 c0_3 c0_4 c0_5 c0_6 c5 c6 rx ry CN
    replace K := K.on hb
    clear hb
    replace K := Lib.hid K
    go_wp2_with fail
    replace K := K.out
    go_ret
    exact ⟨rfl, K.old⟩

set_option maxRecDepth 100000 in
theorem own : ownKnob Try.prog.godebug = none := by kernel_rfl
set_option maxRecDepth 100000 in
theorem laidOut : laidOutB Try.prog = true := by kernel_rfl
set_option maxRecDepth 100000 in
theorem lifted (os : Os) (started : os.Started) (H : Type) (enc : TypeId × Value → H) :
    ReturnsInHanded {} Try.checked os 6 .any (Rows.orbitRoundsSpec.pre6 enc Try.prog Try.f6 Rows.orbitRoundsRow.domain false) (Rows.orbitRoundsSpec.post enc Try.prog Try.f6 false true false false) := by
  refine returnsInHanded_of_change_sized (C := Try.checked) own started (by kernel_rfl) Try.func6
    (ChangeSpec.witness6 (enc := enc) (C := Try.checked) false ⟨#[], #[.agg #[.float .f64 0, .float .f64 0, .float .f64 0, .float .f64 0, .float .f64 0, .float .f64 0, .float .f64 0], .float .f64 0], []⟩ 8 (by kernel_rfl) (by kernel_rfl) (by kernel_rfl) (by kernel_rfl)) ?_
  intro W base args ds gs before hval0 hW _ hsz0 _
  have hsz : (DataW.weightsEach Try.prog (Try.f6.params.toList ++ Rows.orbitRoundsSpec.plain.varTypes Try.prog) (ds ++ gs)).all (· ≤ reachBytes) = true := hsz0
  clear hsz0
  have hval : ∀ (j : Nat) t v, Try.f6.params[j]? = some t → args[j]? = some v → Value.okWide Try.prog W .any base t v := hval0
  have hW' := hW
  obtain ⟨p, q, hA0, hV, rfl, _, _⟩ := hW
  have hA : DataW.TrodAll enc Try.prog W 0 (fun _ => true) true Try.f6.params.toList args.toList ds p := hA0
  rw [Try.params6] at hA hval hsz
  obtain ⟨v0, vs0, d0, ds0, p0, q0, hargs, rfl, rfl, t0, r0⟩ := trodAll_cons hA
  obtain ⟨v1, vs1, d1, ds1, p1, q1, rfl, rfl, rfl, t1, r1⟩ := trodAll_cons r0
  obtain ⟨rfl, rfl, rfl⟩ := trodAll_nil r1
  obtain rfl : args = #[v0, v1] := by cases args; simp_all
  obtain ⟨rfl, rfl⟩ := trodVars_none hV
  simp only [List.append_nil] at hW'
  have tk0 := t0
  obtain ⟨a0, rfl, wa0⟩ := open_orbit (hval 0 24 v0 rfl rfl) t0
  have hlt0 : ∀ x ∈ p0, x.block < W.heap.size := fun x hx => by have := hW'.lt x (by simp [hx]); simpa using this
  obtain ⟨a1, rfl, rfl, rfl, w1⟩ := open_float Try.underlying22 (hval 1 22 v1 rfl rfl) t1
  clear hA0 hval0
  refine (walk W a0 wa0 a1 (wf64o w1)).mono fun e W' ⟨he, hb⟩ => ?_
  subst he
  refine ⟨_, rfl, _, _, _, [], _, [], hW', trodAll_cons_mk (shut_bool Try.underlying4 _) trodAll_mk0, (trodAll_cons_mk (Below.trod laidOut (by kernel_rfl) (of_decide_eq_true (by kernel_rfl)) tk0 hb hlt0) (trodAll_cons_mk (shut_float Try.underlying22 w1) trodAll_mk0)), rfl, hb.frame _, fun h => by cases h⟩

set_option maxRecDepth 100000 in
theorem over : Rows.orbitRoundsRow.holds Try.pinned (OpenSpec.ofChange Rows.orbitRoundsSpec) :=
  OpenClaim.holds_of_wide 6 Try.f6 rfl rfl rfl rfl rfl rfl rfl ⟨rfl, rfl, rfl, rfl, rfl⟩ rfl rfl rfl rfl rfl (by kernel_rfl) Try.func6 (by kernel_rfl)
    (of_decide_eq_true (by kernel_rfl)) (by unfold Func.isWrapper; first | (rw [if_pos (by decide +kernel)]; kernel_rfl) | (rw [if_neg (by decide +kernel)]; exact ⟨rfl, rfl⟩))
    (fun os started H enc _ => lifted os started H enc)

theorem proved : Rows.OrbitRoundsSaid :=
  over
end Go.Proofs.Ytkpdnhbifokhlaa.orbitRounds
