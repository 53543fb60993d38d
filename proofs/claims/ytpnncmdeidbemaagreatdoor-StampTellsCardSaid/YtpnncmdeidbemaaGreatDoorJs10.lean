/- Proved here: what the texts Sqr prove, one behind the other. -/
import Derived.Test.YtpnncmdeidbemaaGreatDoorJs7
import Derived.Test.YtpnncmdeidbemaaGreatDoorJs1
import Derived.Test.YtpnncmdeidbemaaGreatDoorJs9
import Derived.BigQuiet

namespace Go.Proofs.YtpnncmdeidbemaaGreatDoor
open Go.ChangeShapes Go.WideShapes Go.ChangeAt Go.RowKit

theorem exJ_move {P : Program} {ρ : Operand → Value} {o : Oper} {x : Operand} {v : Value} (w : World) (ho : o.op = .move x) (h : ρ x = v) : (execOp ρ o).run P w = .ok (.value v) w := by
  unfold execOp; rw [ho]; simp [h]
theorem exJ_assign {P : Program} {ρ : Operand → Value} {o : Oper} {x : Operand} {v : Value} (w : World) (ho : o.op = .assign x) (h : ρ x = v) : (execOp ρ o).run P w = .ok (.value v) w := by
  unfold execOp; rw [ho]; simp [h]
theorem str_app (a b : List Int) : strOfNums a ++ strOfNums b = strOfNums (a ++ b) := by
  apply ByteArray.ext
  simp [strOfNums]
set_option maxRecDepth 100000 in
theorem exT_add {ρ : Operand → Value} {o : Oper} {x y : Operand} {T : TypeId} {a b c : ByteArray} (w : World) (ho : o.op = .binOp .add 9 x y T) (h : ρ x = .string a) (h1 : ρ y = .string b) (hl : a.size + b.size ≤ 1000) (he : a ++ b = c) : (execOp ρ o).run Tryz.prog w = .ok (.value (.string c)) w := by
  have hr := run_string_add_sum (P := Tryz.prog) w a b (by omega)
  rw [he] at hr
  unfold execOp; rw [ho]; simp only [h, h1]
  have hg : (eqGuard .add 9 x y (.string a) (.string b)).run Tryz.prog w = .ok () w := by simp [eqGuard]
  simp [binOp_string_add, hg, hr, Result.andThen, Sem.run_bind]
/-- a block of cells that stays -/
def PB (g : Nat) (l : Array Value) (w : World) : Prop := g < w.heap.size ∧ ∀ j, w.cell? ⟨g, j, none⟩ = l[j]?
theorem PB.on {g : Nat} {l : Array Value} {w w' : World} (h : PB g l w) (hb : Below w.heap.size w w') : PB g l w' :=
  ⟨Nat.lt_of_lt_of_le h.1 hb.size, fun j => (hb.cell (p := ⟨g, j, none⟩) h.1).trans (h.2 j)⟩
theorem PB.alloc {g : Nat} {l : Array Value} {w : World} (h : PB g l w) (o : Obj) : PB g l (w.alloc o) :=
  ⟨by have := h.1; simp; omega, fun j => by rw [World.cell?_alloc_past _ _ _ h.1]; exact h.2 j⟩
theorem PB.first (w : World) (l : Array Value) (T : TypeId) : PB w.heap.size l (w.alloc (.cells l T)) :=
  ⟨by simp, fun j => World.cell?_alloc_at _ _ _ _ rfl⟩
theorem PB.drewN {g : Nat} {l : Array Value} {w : World} (h : PB g l w) (n : Nat) : PB g l (w.drewN n) := ⟨h.1, h.2⟩
def prV (t : Int) : Value := if isI t = true then .tuple #[.string (strOfNums (stampL t)), .int .i64 0] else .tuple #[.string (strOfNums []), .int .i64 80]
theorem prV_t {t : Int} (h : isI t = true) : prV t = .tuple #[.string (strOfNums (stampL t)), .int .i64 0] := if_pos h
theorem prV_f {t : Int} (h : isI t = false) : prV t = .tuple #[.string (strOfNums []), .int .i64 80] := if_neg (by rw [h]; decide)
set_option maxRecDepth 100000 in
theorem rprint_no (t : Int) (h : isI t = false) (w : World) : Calls Tryz.prog 10 #[.int .i64 t] w fun e w' => e = .returned (prV t) ∧ Below w.heap.size w w' := by
  have C := Lib.hid (fun w => rto_run t w)
  rw [toV_f h] at C
  rw [prV_f h]
  unfold noDate dAgg at C
  clear h
  go_enter Tryz.func10, Tryz.ntmps10
  go_wp2_with fail
  refine (C.out w).mono ?_
  rintro _ v1 ⟨rfl, hb⟩
  have hs := hb.size
  replace hb := Lib.hid hb
  clear C
  go_wp2_with fail
  go_ret2
  exact ⟨rfl, hb.out.alloc hs _⟩
set_option maxHeartbeats 20000000 in
set_option maxRecDepth 100000 in
theorem rprint_yes (t : Int) (h : isI t = true) (w : World) : Calls Tryz.prog 10 #[.int .i64 t] w fun e w' => e = .returned (prV t) ∧ Below w.heap.size w w' := by
  have C := Lib.hid (fun w => rto_run t w)
  rw [toV_t h] at C
  rw [prV_t h]
  obtain ⟨g1, g2⟩ := isI_b h
  obtain ⟨⟨m1, m2⟩, ⟨d1, d2⟩, ⟨h1, h2⟩, ⟨i1, i2⟩, ⟨s1, s2⟩, ⟨k1, k2⟩⟩ := isD_parts (isD_of t)
  have d3 := (mLen_le (dYr t) (dMo t)).2
  have yr : -45965 ≤ dYr t ∧ dYr t ≤ 45965 := yof_range (by omega) (by omega)
  obtain ⟨yr1, yr2⟩ := yr
  obtain ⟨mo, hmo⟩ : ∃ n : Nat, (n : Int) = dMo t := ⟨(dMo t).toNat, by omega⟩
  obtain ⟨dy, hdy⟩ : ∃ n : Nat, (n : Int) = dDy t := ⟨(dDy t).toNat, by omega⟩
  obtain ⟨hr, hhr⟩ : ∃ n : Nat, (n : Int) = dHr t := ⟨(dHr t).toNat, by omega⟩
  obtain ⟨mi, hmi⟩ : ∃ n : Nat, (n : Int) = dMi t := ⟨(dMi t).toNat, by omega⟩
  obtain ⟨se, hse⟩ : ∃ n : Nat, (n : Int) = dSe t := ⟨(dSe t).toNat, by omega⟩
  obtain ⟨tk, htk⟩ : ∃ n : Nat, (n : Int) = dTk t := ⟨(dTk t).toNat, by omega⟩
  have HS : Hid (stampL t = ((((((((((((([if dYr t < 0 then 45 else 43]) ++ (dgI 5 (dYr t).natAbs)) ++ [45]) ++ (dgI 2 mo)) ++ [45]) ++ (dgI 2 dy)) ++ [32]) ++ (dgI 2 hr)) ++ [58]) ++ (dgI 2 mi)) ++ [58]) ++ (dgI 2 se)) ++ [46]) ++ (dgI 4 tk)) := by
    show stampL t = _
    unfold stampL stD
    rw [← hmo, ← hdy, ← hhr, ← hmi, ← hse, ← htk]
    rfl
  unfold dateV dAgg at C
  rw [← hmo, ← hdy, ← hhr, ← hmi, ← hse, ← htk] at C
  have m3 : mo ≤ 14 := by omega
  have d4 : dy ≤ 28 := by omega
  have h3 : hr ≤ 15 := by omega
  have i3 : mi ≤ 63 := by omega
  have s3 : se ≤ 63 := by omega
  have k3 : tk ≤ 1023 := by omega
  clear hmo hdy hhr hmi hse htk m1 m2 d1 d2 d3 h1 h2 i1 i2 s1 s2 k1 k2 g1 g2 h
  generalize dYr t = yv at *
  obtain ⟨sv, hsv⟩ : ∃ s, s = stampL t := ⟨_, rfl⟩
  by_cases hy : yv < 0
  · rw [if_pos hy] at HS
    obtain ⟨Yn, hYn⟩ : ∃ n : Nat, (n : Int) = -yv := ⟨(-yv).toNat, by omega⟩
    have eN : yv.natAbs = Yn := by omega
    rw [eN] at HS
    have y3 : Yn ≤ 45965 := by omega
    have ty : decide (yv < 0) = true := decide_eq_true hy
    have eY := hYn.symm
    replace hYn := Lib.hid hYn
    clear hy eN
    go_enter Tryz.func10, Tryz.ntmps10
    go_wp2_with fail
    refine (C.out w).mono ?_
    rintro _ v1 ⟨rfl, hb⟩
    have PT := Lib.hid (PB.first v1 #[.int .i64 yv, .int .i64 (mo : Int), .int .i64 (dy : Int), .int .i64 (hr : Int), .int .i64 (mi : Int), .int .i64 (se : Int), .int .i64 (tk : Int)] 42)
    have B := Lib.hid (hb.alloc hb.size (.cells #[.int .i64 yv, .int .i64 (mo : Int), .int .i64 (dy : Int), .int .i64 (hr : Int), .int .i64 (mi : Int), .int .i64 (se : Int), .int .i64 (tk : Int)] 42))
    clear C hb
    go_wp2_with fail
    generalize hW : v1.alloc (.cells #[.int .i64 yv, .int .i64 (mo : Int), .int .i64 (dy : Int), .int .i64 (hr : Int), .int .i64 (mi : Int), .int .i64 (se : Int), .int .i64 (tk : Int)] 42) = W1 at *
    generalize v1.heap.size = g at *
    have hk := PT.out.2
    clear hW
    go_quiet (fail)
    go_wp2_with fail
    clear hk
    obtain ⟨T25, hT25⟩ : ∃ T, T = strOfNums (([45]) ++ (dgI 5 Yn)) := ⟨_, rfl⟩
    have E25 : Hid ((strOfNums ([45])) ++ (dgS 5 Yn) = T25) := by
      show (strOfNums ([45])) ++ (dgS 5 Yn) = T25
      rw [hT25]; exact str_app _ _
    have Z25 : (strOfNums ([45])).size + (dgS 5 Yn).size ≤ 1000 := by
      rw [strOfNums_size, show (dgS 5 Yn).size = _ from strOfNums_size _]; simp [dgI_len]
    obtain ⟨T26, hT26⟩ : ∃ T, T = strOfNums ((([45]) ++ (dgI 5 Yn)) ++ [45]) := ⟨_, rfl⟩
    have E26 : Hid (T25 ++ (strOfNums [45]) = T26) := by
      show T25 ++ (strOfNums [45]) = T26
      rw [hT26, hT25]; exact str_app _ _
    have Z26 : T25.size + (strOfNums [45]).size ≤ 1000 := by
      rw [hT25, strOfNums_size, show (strOfNums [45]).size = _ from strOfNums_size _]; simp [dgI_len]
    obtain ⟨T30, hT30⟩ : ∃ T, T = strOfNums (((([45]) ++ (dgI 5 Yn)) ++ [45]) ++ (dgI 2 mo)) := ⟨_, rfl⟩
    have E30 : Hid (T26 ++ (dgS 2 mo) = T30) := by
      show T26 ++ (dgS 2 mo) = T30
      rw [hT30, hT26]; exact str_app _ _
    have Z30 : T26.size + (dgS 2 mo).size ≤ 1000 := by
      rw [hT26, strOfNums_size, show (dgS 2 mo).size = _ from strOfNums_size _]; simp [dgI_len]
    obtain ⟨T31, hT31⟩ : ∃ T, T = strOfNums ((((([45]) ++ (dgI 5 Yn)) ++ [45]) ++ (dgI 2 mo)) ++ [45]) := ⟨_, rfl⟩
    have E31 : Hid (T30 ++ (strOfNums [45]) = T31) := by
      show T30 ++ (strOfNums [45]) = T31
      rw [hT31, hT30]; exact str_app _ _
    have Z31 : T30.size + (strOfNums [45]).size ≤ 1000 := by
      rw [hT30, strOfNums_size, show (strOfNums [45]).size = _ from strOfNums_size _]; simp [dgI_len]
    obtain ⟨T35, hT35⟩ : ∃ T, T = strOfNums (((((([45]) ++ (dgI 5 Yn)) ++ [45]) ++ (dgI 2 mo)) ++ [45]) ++ (dgI 2 dy)) := ⟨_, rfl⟩
    have E35 : Hid (T31 ++ (dgS 2 dy) = T35) := by
      show T31 ++ (dgS 2 dy) = T35
      rw [hT35, hT31]; exact str_app _ _
    have Z35 : T31.size + (dgS 2 dy).size ≤ 1000 := by
      rw [hT31, strOfNums_size, show (dgS 2 dy).size = _ from strOfNums_size _]; simp [dgI_len]
    obtain ⟨T36, hT36⟩ : ∃ T, T = strOfNums ((((((([45]) ++ (dgI 5 Yn)) ++ [45]) ++ (dgI 2 mo)) ++ [45]) ++ (dgI 2 dy)) ++ [32]) := ⟨_, rfl⟩
    have E36 : Hid (T35 ++ (strOfNums [32]) = T36) := by
      show T35 ++ (strOfNums [32]) = T36
      rw [hT36, hT35]; exact str_app _ _
    have Z36 : T35.size + (strOfNums [32]).size ≤ 1000 := by
      rw [hT35, strOfNums_size, show (strOfNums [32]).size = _ from strOfNums_size _]; simp [dgI_len]
    obtain ⟨T40, hT40⟩ : ∃ T, T = strOfNums (((((((([45]) ++ (dgI 5 Yn)) ++ [45]) ++ (dgI 2 mo)) ++ [45]) ++ (dgI 2 dy)) ++ [32]) ++ (dgI 2 hr)) := ⟨_, rfl⟩
    have E40 : Hid (T36 ++ (dgS 2 hr) = T40) := by
      show T36 ++ (dgS 2 hr) = T40
      rw [hT40, hT36]; exact str_app _ _
    have Z40 : T36.size + (dgS 2 hr).size ≤ 1000 := by
      rw [hT36, strOfNums_size, show (dgS 2 hr).size = _ from strOfNums_size _]; simp [dgI_len]
    obtain ⟨T41, hT41⟩ : ∃ T, T = strOfNums ((((((((([45]) ++ (dgI 5 Yn)) ++ [45]) ++ (dgI 2 mo)) ++ [45]) ++ (dgI 2 dy)) ++ [32]) ++ (dgI 2 hr)) ++ [58]) := ⟨_, rfl⟩
    have E41 : Hid (T40 ++ (strOfNums [58]) = T41) := by
      show T40 ++ (strOfNums [58]) = T41
      rw [hT41, hT40]; exact str_app _ _
    have Z41 : T40.size + (strOfNums [58]).size ≤ 1000 := by
      rw [hT40, strOfNums_size, show (strOfNums [58]).size = _ from strOfNums_size _]; simp [dgI_len]
    obtain ⟨T45, hT45⟩ : ∃ T, T = strOfNums (((((((((([45]) ++ (dgI 5 Yn)) ++ [45]) ++ (dgI 2 mo)) ++ [45]) ++ (dgI 2 dy)) ++ [32]) ++ (dgI 2 hr)) ++ [58]) ++ (dgI 2 mi)) := ⟨_, rfl⟩
    have E45 : Hid (T41 ++ (dgS 2 mi) = T45) := by
      show T41 ++ (dgS 2 mi) = T45
      rw [hT45, hT41]; exact str_app _ _
    have Z45 : T41.size + (dgS 2 mi).size ≤ 1000 := by
      rw [hT41, strOfNums_size, show (dgS 2 mi).size = _ from strOfNums_size _]; simp [dgI_len]
    obtain ⟨T46, hT46⟩ : ∃ T, T = strOfNums ((((((((((([45]) ++ (dgI 5 Yn)) ++ [45]) ++ (dgI 2 mo)) ++ [45]) ++ (dgI 2 dy)) ++ [32]) ++ (dgI 2 hr)) ++ [58]) ++ (dgI 2 mi)) ++ [58]) := ⟨_, rfl⟩
    have E46 : Hid (T45 ++ (strOfNums [58]) = T46) := by
      show T45 ++ (strOfNums [58]) = T46
      rw [hT46, hT45]; exact str_app _ _
    have Z46 : T45.size + (strOfNums [58]).size ≤ 1000 := by
      rw [hT45, strOfNums_size, show (strOfNums [58]).size = _ from strOfNums_size _]; simp [dgI_len]
    obtain ⟨T50, hT50⟩ : ∃ T, T = strOfNums (((((((((((([45]) ++ (dgI 5 Yn)) ++ [45]) ++ (dgI 2 mo)) ++ [45]) ++ (dgI 2 dy)) ++ [32]) ++ (dgI 2 hr)) ++ [58]) ++ (dgI 2 mi)) ++ [58]) ++ (dgI 2 se)) := ⟨_, rfl⟩
    have E50 : Hid (T46 ++ (dgS 2 se) = T50) := by
      show T46 ++ (dgS 2 se) = T50
      rw [hT50, hT46]; exact str_app _ _
    have Z50 : T46.size + (dgS 2 se).size ≤ 1000 := by
      rw [hT46, strOfNums_size, show (dgS 2 se).size = _ from strOfNums_size _]; simp [dgI_len]
    obtain ⟨T51, hT51⟩ : ∃ T, T = strOfNums ((((((((((((([45]) ++ (dgI 5 Yn)) ++ [45]) ++ (dgI 2 mo)) ++ [45]) ++ (dgI 2 dy)) ++ [32]) ++ (dgI 2 hr)) ++ [58]) ++ (dgI 2 mi)) ++ [58]) ++ (dgI 2 se)) ++ [46]) := ⟨_, rfl⟩
    have E51 : Hid (T50 ++ (strOfNums [46]) = T51) := by
      show T50 ++ (strOfNums [46]) = T51
      rw [hT51, hT50]; exact str_app _ _
    have Z51 : T50.size + (strOfNums [46]).size ≤ 1000 := by
      rw [hT50, strOfNums_size, show (strOfNums [46]).size = _ from strOfNums_size _]; simp [dgI_len]
    obtain ⟨T55, hT55⟩ : ∃ T, T = strOfNums (((((((((((((([45]) ++ (dgI 5 Yn)) ++ [45]) ++ (dgI 2 mo)) ++ [45]) ++ (dgI 2 dy)) ++ [32]) ++ (dgI 2 hr)) ++ [58]) ++ (dgI 2 mi)) ++ [58]) ++ (dgI 2 se)) ++ [46]) ++ (dgI 4 tk)) := ⟨_, rfl⟩
    have E55 : Hid (T51 ++ (dgS 4 tk) = T55) := by
      show T51 ++ (dgS 4 tk) = T55
      rw [hT55, hT51]; exact str_app _ _
    have Z55 : T51.size + (dgS 4 tk).size ≤ 1000 := by
      rw [hT51, strOfNums_size, show (dgS 4 tk).size = _ from strOfNums_size _]; simp [dgI_len]
    replace hT25 := Lib.hid hT25
    replace hT26 := Lib.hid hT26
    replace hT30 := Lib.hid hT30
    replace hT31 := Lib.hid hT31
    replace hT35 := Lib.hid hT35
    replace hT36 := Lib.hid hT36
    replace hT40 := Lib.hid hT40
    replace hT41 := Lib.hid hT41
    replace hT45 := Lib.hid hT45
    replace hT46 := Lib.hid hT46
    replace hT50 := Lib.hid hT50
    replace hT51 := Lib.hid hT51
    replace hT55 := Lib.hid hT55
    generalize hds : ([some 22, some 23, some 24, some 25, some 26, some 27, some 28, some 29, some 30, some 31, some 32, some 33, some 34, some 35, some 36, some 37, some 38, some 39, some 40, some 41, some 42, some 43, some 44, some 45, some 46, some 47, some 48, some 49, some 50, some 51, some 52, some 53, some 54, some 55, some 2, some 3] : List (Option Tmp)) = ds
    have hap : apartL ds = true := by rw [← hds]; decide
    replace hds := hds.symm
    refine wp_region_det (by kernel_rfl) ds (by rw [hds]; rfl) hap (by decide +kernel) [.string (strOfNums ([45])),
      .int .i64 (Yn : Int),
      .string (dgS 5 Yn),
      .string T25,
      .string T26,
      .pointer (some ⟨g, 1, none⟩),
      .int .i64 (mo : Int),
      .string (dgS 2 mo),
      .string T30,
      .string T31,
      .pointer (some ⟨g, 2, none⟩),
      .int .i64 (dy : Int),
      .string (dgS 2 dy),
      .string T35,
      .string T36,
      .pointer (some ⟨g, 3, none⟩),
      .int .i64 (hr : Int),
      .string (dgS 2 hr),
      .string T40,
      .string T41,
      .pointer (some ⟨g, 4, none⟩),
      .int .i64 (mi : Int),
      .string (dgS 2 mi),
      .string T45,
      .string T46,
      .pointer (some ⟨g, 5, none⟩),
      .int .i64 (se : Int),
      .string (dgS 2 se),
      .string T50,
      .string T51,
      .pointer (some ⟨g, 6, none⟩),
      .int .i64 (tk : Int),
      .string (dgS 4 tk),
      .string T55,
      .string T55,
      .int .i64 0] rfl (fun W => PB g #[.int .i64 yv, .int .i64 (mo : Int), .int .i64 (dy : Int), .int .i64 (hr : Int), .int .i64 (mi : Int), .int .i64 (se : Int), .int .i64 (tk : Int)] W ∧ Below w.heap.size w W) ⟨(PT.out.drewN _).drewN 1, bl_drewN (bl_drewN B.out _) 1⟩ ?step ?fin
    case step =>
      intro L W i o ho hd hS
      have hi : i < 36 := (Array.getElem?_eq_some_iff.1 ho).1
      have : i = 0 ∨ i = 1 ∨ i = 2 ∨ i = 3 ∨ i = 4 ∨ i = 5 ∨ i = 6 ∨ i = 7 ∨ i = 8 ∨ i = 9 ∨ i = 10 ∨ i = 11 ∨ i = 12 ∨ i = 13 ∨ i = 14 ∨ i = 15 ∨ i = 16 ∨ i = 17 ∨ i = 18 ∨ i = 19 ∨ i = 20 ∨ i = 21 ∨ i = 22 ∨ i = 23 ∨ i = 24 ∨ i = 25 ∨ i = 26 ∨ i = 27 ∨ i = 28 ∨ i = 29 ∨ i = 30 ∨ i = 31 ∨ i = 32 ∨ i = 33 ∨ i = 34 ∨ i = 35 := by omega
      rcases this with rfl | rfl | rfl | rfl | rfl | rfl | rfl | rfl | rfl | rfl | rfl | rfl | rfl | rfl | rfl | rfl | rfl | rfl | rfl | rfl | rfl | rfl | rfl | rfl | rfl | rfl | rfl | rfl | rfl | rfl | rfl | rfl | rfl | rfl | rfl | rfl
      · -- 0
        obtain rfl := Option.some.inj ho
        exact .value rfl W (exJ_move W rfl ((puts_old ds L _ (by rw [hds]; decide)).trans rfl)) hS
      · -- 1
        obtain rfl := Option.some.inj ho
        exact .value rfl W (exJ_move W rfl ((puts_old ds L _ (by rw [hds]; decide)).trans rfl)) hS
      · -- 2
        obtain rfl := Option.some.inj ho
        refine .call rfl 23 #[.int .i64 (Yn : Int), .int .i64 5] ?_ ((rwide_run Yn 5 (by omega) (by decide) W).mono fun e W' ⟨he, hb⟩ => ⟨he, hS.1.on hb, hS.2.trans (hb.mono hS.2.size)⟩)
        generalize hA : (puts ds L _).eval = ρ
        have hg : ∀ g, ρ (.func g) = .func (.func g) #[] #[] := fun v => by rw [← hA]; rfl
        have hc : ∀ v, ρ (.const v) = v := fun v => by rw [← hA]; rfl
        have h0 : ρ (.tmp 23) = .int .i64 (Yn : Int) := by rw [← hA]; exact (puts_get 1 ds L _ hap (by rw [hds]; rfl) (hd 1 rfl) (show 23 < 56 by decide))
        have hf := Tryz.func23
        unfold execOp
        go_simp
      · -- 3
        obtain rfl := Option.some.inj ho
        exact .value rfl W (exT_add W rfl (puts_get 0 ds L _ hap (by rw [hds]; rfl) (hd 0 rfl) (show 22 < 56 by decide)) (puts_get 2 ds L _ hap (by rw [hds]; rfl) (hd 2 rfl) (show 24 < 56 by decide)) Z25 E25.out) hS
      · -- 4
        obtain rfl := Option.some.inj ho
        exact .value rfl W (exT_add W rfl (puts_get 3 ds L _ hap (by rw [hds]; rfl) (hd 3 rfl) (show 25 < 56 by decide)) rfl Z26 E26.out) hS
      · -- 5
        obtain rfl := Option.some.inj ho
        refine .value rfl W ?_ hS
        generalize hA : (puts ds L _).eval = ρ
        have hc : ∀ v, ρ (.const v) = v := fun v => by rw [← hA]; rfl
        have h0 : ρ (.tmp 4) = .pointer (some ⟨g, 0, none⟩) := by rw [← hA]; exact ((puts_old ds L _ (by rw [hds]; decide)).trans rfl)
        unfold execOp
        go_simp
      · -- 6
        obtain rfl := Option.some.inj ho
        refine .value rfl W ?_ hS
        generalize hA : (puts ds L _).eval = ρ
        have hc : ∀ v, ρ (.const v) = v := fun v => by rw [← hA]; rfl
        have h0 : ρ (.tmp 27) = .pointer (some ⟨g, 1, none⟩) := by rw [← hA]; exact (puts_get 5 ds L _ hap (by rw [hds]; rfl) (hd 5 rfl) (show 27 < 56 by decide))
        have hk := hS.1.2
        unfold execOp
        go_simp
      · -- 7
        obtain rfl := Option.some.inj ho
        refine .call rfl 23 #[.int .i64 (mo : Int), .int .i64 2] ?_ ((rwide_run mo 2 (by omega) (by decide) W).mono fun e W' ⟨he, hb⟩ => ⟨he, hS.1.on hb, hS.2.trans (hb.mono hS.2.size)⟩)
        generalize hA : (puts ds L _).eval = ρ
        have hg : ∀ g, ρ (.func g) = .func (.func g) #[] #[] := fun v => by rw [← hA]; rfl
        have hc : ∀ v, ρ (.const v) = v := fun v => by rw [← hA]; rfl
        have h0 : ρ (.tmp 28) = .int .i64 (mo : Int) := by rw [← hA]; exact (puts_get 6 ds L _ hap (by rw [hds]; rfl) (hd 6 rfl) (show 28 < 56 by decide))
        have hf := Tryz.func23
        unfold execOp
        go_simp
      · -- 8
        obtain rfl := Option.some.inj ho
        exact .value rfl W (exT_add W rfl (puts_get 4 ds L _ hap (by rw [hds]; rfl) (hd 4 rfl) (show 26 < 56 by decide)) (puts_get 7 ds L _ hap (by rw [hds]; rfl) (hd 7 rfl) (show 29 < 56 by decide)) Z30 E30.out) hS
      · -- 9
        obtain rfl := Option.some.inj ho
        exact .value rfl W (exT_add W rfl (puts_get 8 ds L _ hap (by rw [hds]; rfl) (hd 8 rfl) (show 30 < 56 by decide)) rfl Z31 E31.out) hS
      · -- 10
        obtain rfl := Option.some.inj ho
        refine .value rfl W ?_ hS
        generalize hA : (puts ds L _).eval = ρ
        have hc : ∀ v, ρ (.const v) = v := fun v => by rw [← hA]; rfl
        have h0 : ρ (.tmp 4) = .pointer (some ⟨g, 0, none⟩) := by rw [← hA]; exact ((puts_old ds L _ (by rw [hds]; decide)).trans rfl)
        unfold execOp
        go_simp
      · -- 11
        obtain rfl := Option.some.inj ho
        refine .value rfl W ?_ hS
        generalize hA : (puts ds L _).eval = ρ
        have hc : ∀ v, ρ (.const v) = v := fun v => by rw [← hA]; rfl
        have h0 : ρ (.tmp 32) = .pointer (some ⟨g, 2, none⟩) := by rw [← hA]; exact (puts_get 10 ds L _ hap (by rw [hds]; rfl) (hd 10 rfl) (show 32 < 56 by decide))
        have hk := hS.1.2
        unfold execOp
        go_simp
      · -- 12
        obtain rfl := Option.some.inj ho
        refine .call rfl 23 #[.int .i64 (dy : Int), .int .i64 2] ?_ ((rwide_run dy 2 (by omega) (by decide) W).mono fun e W' ⟨he, hb⟩ => ⟨he, hS.1.on hb, hS.2.trans (hb.mono hS.2.size)⟩)
        generalize hA : (puts ds L _).eval = ρ
        have hg : ∀ g, ρ (.func g) = .func (.func g) #[] #[] := fun v => by rw [← hA]; rfl
        have hc : ∀ v, ρ (.const v) = v := fun v => by rw [← hA]; rfl
        have h0 : ρ (.tmp 33) = .int .i64 (dy : Int) := by rw [← hA]; exact (puts_get 11 ds L _ hap (by rw [hds]; rfl) (hd 11 rfl) (show 33 < 56 by decide))
        have hf := Tryz.func23
        unfold execOp
        go_simp
      · -- 13
        obtain rfl := Option.some.inj ho
        exact .value rfl W (exT_add W rfl (puts_get 9 ds L _ hap (by rw [hds]; rfl) (hd 9 rfl) (show 31 < 56 by decide)) (puts_get 12 ds L _ hap (by rw [hds]; rfl) (hd 12 rfl) (show 34 < 56 by decide)) Z35 E35.out) hS
      · -- 14
        obtain rfl := Option.some.inj ho
        exact .value rfl W (exT_add W rfl (puts_get 13 ds L _ hap (by rw [hds]; rfl) (hd 13 rfl) (show 35 < 56 by decide)) rfl Z36 E36.out) hS
      · -- 15
        obtain rfl := Option.some.inj ho
        refine .value rfl W ?_ hS
        generalize hA : (puts ds L _).eval = ρ
        have hc : ∀ v, ρ (.const v) = v := fun v => by rw [← hA]; rfl
        have h0 : ρ (.tmp 4) = .pointer (some ⟨g, 0, none⟩) := by rw [← hA]; exact ((puts_old ds L _ (by rw [hds]; decide)).trans rfl)
        unfold execOp
        go_simp
      · -- 16
        obtain rfl := Option.some.inj ho
        refine .value rfl W ?_ hS
        generalize hA : (puts ds L _).eval = ρ
        have hc : ∀ v, ρ (.const v) = v := fun v => by rw [← hA]; rfl
        have h0 : ρ (.tmp 37) = .pointer (some ⟨g, 3, none⟩) := by rw [← hA]; exact (puts_get 15 ds L _ hap (by rw [hds]; rfl) (hd 15 rfl) (show 37 < 56 by decide))
        have hk := hS.1.2
        unfold execOp
        go_simp
      · -- 17
        obtain rfl := Option.some.inj ho
        refine .call rfl 23 #[.int .i64 (hr : Int), .int .i64 2] ?_ ((rwide_run hr 2 (by omega) (by decide) W).mono fun e W' ⟨he, hb⟩ => ⟨he, hS.1.on hb, hS.2.trans (hb.mono hS.2.size)⟩)
        generalize hA : (puts ds L _).eval = ρ
        have hg : ∀ g, ρ (.func g) = .func (.func g) #[] #[] := fun v => by rw [← hA]; rfl
        have hc : ∀ v, ρ (.const v) = v := fun v => by rw [← hA]; rfl
        have h0 : ρ (.tmp 38) = .int .i64 (hr : Int) := by rw [← hA]; exact (puts_get 16 ds L _ hap (by rw [hds]; rfl) (hd 16 rfl) (show 38 < 56 by decide))
        have hf := Tryz.func23
        unfold execOp
        go_simp
      · -- 18
        obtain rfl := Option.some.inj ho
        exact .value rfl W (exT_add W rfl (puts_get 14 ds L _ hap (by rw [hds]; rfl) (hd 14 rfl) (show 36 < 56 by decide)) (puts_get 17 ds L _ hap (by rw [hds]; rfl) (hd 17 rfl) (show 39 < 56 by decide)) Z40 E40.out) hS
      · -- 19
        obtain rfl := Option.some.inj ho
        exact .value rfl W (exT_add W rfl (puts_get 18 ds L _ hap (by rw [hds]; rfl) (hd 18 rfl) (show 40 < 56 by decide)) rfl Z41 E41.out) hS
      · -- 20
        obtain rfl := Option.some.inj ho
        refine .value rfl W ?_ hS
        generalize hA : (puts ds L _).eval = ρ
        have hc : ∀ v, ρ (.const v) = v := fun v => by rw [← hA]; rfl
        have h0 : ρ (.tmp 4) = .pointer (some ⟨g, 0, none⟩) := by rw [← hA]; exact ((puts_old ds L _ (by rw [hds]; decide)).trans rfl)
        unfold execOp
        go_simp
      · -- 21
        obtain rfl := Option.some.inj ho
        refine .value rfl W ?_ hS
        generalize hA : (puts ds L _).eval = ρ
        have hc : ∀ v, ρ (.const v) = v := fun v => by rw [← hA]; rfl
        have h0 : ρ (.tmp 42) = .pointer (some ⟨g, 4, none⟩) := by rw [← hA]; exact (puts_get 20 ds L _ hap (by rw [hds]; rfl) (hd 20 rfl) (show 42 < 56 by decide))
        have hk := hS.1.2
        unfold execOp
        go_simp
      · -- 22
        obtain rfl := Option.some.inj ho
        refine .call rfl 23 #[.int .i64 (mi : Int), .int .i64 2] ?_ ((rwide_run mi 2 (by omega) (by decide) W).mono fun e W' ⟨he, hb⟩ => ⟨he, hS.1.on hb, hS.2.trans (hb.mono hS.2.size)⟩)
        generalize hA : (puts ds L _).eval = ρ
        have hg : ∀ g, ρ (.func g) = .func (.func g) #[] #[] := fun v => by rw [← hA]; rfl
        have hc : ∀ v, ρ (.const v) = v := fun v => by rw [← hA]; rfl
        have h0 : ρ (.tmp 43) = .int .i64 (mi : Int) := by rw [← hA]; exact (puts_get 21 ds L _ hap (by rw [hds]; rfl) (hd 21 rfl) (show 43 < 56 by decide))
        have hf := Tryz.func23
        unfold execOp
        go_simp
      · -- 23
        obtain rfl := Option.some.inj ho
        exact .value rfl W (exT_add W rfl (puts_get 19 ds L _ hap (by rw [hds]; rfl) (hd 19 rfl) (show 41 < 56 by decide)) (puts_get 22 ds L _ hap (by rw [hds]; rfl) (hd 22 rfl) (show 44 < 56 by decide)) Z45 E45.out) hS
      · -- 24
        obtain rfl := Option.some.inj ho
        exact .value rfl W (exT_add W rfl (puts_get 23 ds L _ hap (by rw [hds]; rfl) (hd 23 rfl) (show 45 < 56 by decide)) rfl Z46 E46.out) hS
      · -- 25
        obtain rfl := Option.some.inj ho
        refine .value rfl W ?_ hS
        generalize hA : (puts ds L _).eval = ρ
        have hc : ∀ v, ρ (.const v) = v := fun v => by rw [← hA]; rfl
        have h0 : ρ (.tmp 4) = .pointer (some ⟨g, 0, none⟩) := by rw [← hA]; exact ((puts_old ds L _ (by rw [hds]; decide)).trans rfl)
        unfold execOp
        go_simp
      · -- 26
        obtain rfl := Option.some.inj ho
        refine .value rfl W ?_ hS
        generalize hA : (puts ds L _).eval = ρ
        have hc : ∀ v, ρ (.const v) = v := fun v => by rw [← hA]; rfl
        have h0 : ρ (.tmp 47) = .pointer (some ⟨g, 5, none⟩) := by rw [← hA]; exact (puts_get 25 ds L _ hap (by rw [hds]; rfl) (hd 25 rfl) (show 47 < 56 by decide))
        have hk := hS.1.2
        unfold execOp
        go_simp
      · -- 27
        obtain rfl := Option.some.inj ho
        refine .call rfl 23 #[.int .i64 (se : Int), .int .i64 2] ?_ ((rwide_run se 2 (by omega) (by decide) W).mono fun e W' ⟨he, hb⟩ => ⟨he, hS.1.on hb, hS.2.trans (hb.mono hS.2.size)⟩)
        generalize hA : (puts ds L _).eval = ρ
        have hg : ∀ g, ρ (.func g) = .func (.func g) #[] #[] := fun v => by rw [← hA]; rfl
        have hc : ∀ v, ρ (.const v) = v := fun v => by rw [← hA]; rfl
        have h0 : ρ (.tmp 48) = .int .i64 (se : Int) := by rw [← hA]; exact (puts_get 26 ds L _ hap (by rw [hds]; rfl) (hd 26 rfl) (show 48 < 56 by decide))
        have hf := Tryz.func23
        unfold execOp
        go_simp
      · -- 28
        obtain rfl := Option.some.inj ho
        exact .value rfl W (exT_add W rfl (puts_get 24 ds L _ hap (by rw [hds]; rfl) (hd 24 rfl) (show 46 < 56 by decide)) (puts_get 27 ds L _ hap (by rw [hds]; rfl) (hd 27 rfl) (show 49 < 56 by decide)) Z50 E50.out) hS
      · -- 29
        obtain rfl := Option.some.inj ho
        exact .value rfl W (exT_add W rfl (puts_get 28 ds L _ hap (by rw [hds]; rfl) (hd 28 rfl) (show 50 < 56 by decide)) rfl Z51 E51.out) hS
      · -- 30
        obtain rfl := Option.some.inj ho
        refine .value rfl W ?_ hS
        generalize hA : (puts ds L _).eval = ρ
        have hc : ∀ v, ρ (.const v) = v := fun v => by rw [← hA]; rfl
        have h0 : ρ (.tmp 4) = .pointer (some ⟨g, 0, none⟩) := by rw [← hA]; exact ((puts_old ds L _ (by rw [hds]; decide)).trans rfl)
        unfold execOp
        go_simp
      · -- 31
        obtain rfl := Option.some.inj ho
        refine .value rfl W ?_ hS
        generalize hA : (puts ds L _).eval = ρ
        have hc : ∀ v, ρ (.const v) = v := fun v => by rw [← hA]; rfl
        have h0 : ρ (.tmp 52) = .pointer (some ⟨g, 6, none⟩) := by rw [← hA]; exact (puts_get 30 ds L _ hap (by rw [hds]; rfl) (hd 30 rfl) (show 52 < 56 by decide))
        have hk := hS.1.2
        unfold execOp
        go_simp
      · -- 32
        obtain rfl := Option.some.inj ho
        refine .call rfl 23 #[.int .i64 (tk : Int), .int .i64 4] ?_ ((rwide_run tk 4 (by omega) (by decide) W).mono fun e W' ⟨he, hb⟩ => ⟨he, hS.1.on hb, hS.2.trans (hb.mono hS.2.size)⟩)
        generalize hA : (puts ds L _).eval = ρ
        have hg : ∀ g, ρ (.func g) = .func (.func g) #[] #[] := fun v => by rw [← hA]; rfl
        have hc : ∀ v, ρ (.const v) = v := fun v => by rw [← hA]; rfl
        have h0 : ρ (.tmp 53) = .int .i64 (tk : Int) := by rw [← hA]; exact (puts_get 31 ds L _ hap (by rw [hds]; rfl) (hd 31 rfl) (show 53 < 56 by decide))
        have hf := Tryz.func23
        unfold execOp
        go_simp
      · -- 33
        obtain rfl := Option.some.inj ho
        exact .value rfl W (exT_add W rfl (puts_get 29 ds L _ hap (by rw [hds]; rfl) (hd 29 rfl) (show 51 < 56 by decide)) (puts_get 32 ds L _ hap (by rw [hds]; rfl) (hd 32 rfl) (show 54 < 56 by decide)) Z55 E55.out) hS
      · -- 34
        obtain rfl := Option.some.inj ho
        exact .value rfl W (exJ_assign W rfl (puts_get 33 ds L _ hap (by rw [hds]; rfl) (hd 33 rfl) (show 55 < 56 by decide))) hS
      · -- 35
        obtain rfl := Option.some.inj ho
        exact .value rfl W (exJ_assign W rfl rfl) hS
    case fin =>
      intro W hS
      rw [hds]
      clear hds hap
      simp only [List.map_cons, List.map_nil, List.set_cons_zero, List.set_cons_succ, puts, Act.put, List.setIfInBounds_toArray]
      obtain ⟨_, hB⟩ := hS
      replace hB := Lib.hid hB
      clear PT B
      go_wp2_with fail
      go_ret2
      exact ⟨by rw [HS.out, ← hT55.out]; rfl, hB.out⟩
  · rw [if_neg hy] at HS
    obtain ⟨Yn, rfl⟩ : ∃ n : Nat, yv = (n : Int) := ⟨yv.toNat, by omega⟩
    have eN : (Yn : Int).natAbs = Yn := rfl
    rw [eN] at HS
    have y3 : Yn ≤ 45965 := by omega
    have ty : decide ((Yn : Int) < 0) = false := decide_eq_false hy
    clear hy eN
    go_enter Tryz.func10, Tryz.ntmps10
    go_wp2_with fail
    refine (C.out w).mono ?_
    rintro _ v1 ⟨rfl, hb⟩
    have PT := Lib.hid (PB.first v1 #[.int .i64 (Yn : Int), .int .i64 (mo : Int), .int .i64 (dy : Int), .int .i64 (hr : Int), .int .i64 (mi : Int), .int .i64 (se : Int), .int .i64 (tk : Int)] 42)
    have B := Lib.hid (hb.alloc hb.size (.cells #[.int .i64 (Yn : Int), .int .i64 (mo : Int), .int .i64 (dy : Int), .int .i64 (hr : Int), .int .i64 (mi : Int), .int .i64 (se : Int), .int .i64 (tk : Int)] 42))
    clear C hb
    go_wp2_with fail
    generalize hW : v1.alloc (.cells #[.int .i64 (Yn : Int), .int .i64 (mo : Int), .int .i64 (dy : Int), .int .i64 (hr : Int), .int .i64 (mi : Int), .int .i64 (se : Int), .int .i64 (tk : Int)] 42) = W1 at *
    generalize v1.heap.size = g at *
    have hk := PT.out.2
    clear hW
    go_quiet (fail)
    go_wp2_with fail
    clear hk
    obtain ⟨T25, hT25⟩ : ∃ T, T = strOfNums (([43]) ++ (dgI 5 Yn)) := ⟨_, rfl⟩
    have E25 : Hid ((strOfNums ([43])) ++ (dgS 5 Yn) = T25) := by
      show (strOfNums ([43])) ++ (dgS 5 Yn) = T25
      rw [hT25]; exact str_app _ _
    have Z25 : (strOfNums ([43])).size + (dgS 5 Yn).size ≤ 1000 := by
      rw [strOfNums_size, show (dgS 5 Yn).size = _ from strOfNums_size _]; simp [dgI_len]
    obtain ⟨T26, hT26⟩ : ∃ T, T = strOfNums ((([43]) ++ (dgI 5 Yn)) ++ [45]) := ⟨_, rfl⟩
    have E26 : Hid (T25 ++ (strOfNums [45]) = T26) := by
      show T25 ++ (strOfNums [45]) = T26
      rw [hT26, hT25]; exact str_app _ _
    have Z26 : T25.size + (strOfNums [45]).size ≤ 1000 := by
      rw [hT25, strOfNums_size, show (strOfNums [45]).size = _ from strOfNums_size _]; simp [dgI_len]
    obtain ⟨T30, hT30⟩ : ∃ T, T = strOfNums (((([43]) ++ (dgI 5 Yn)) ++ [45]) ++ (dgI 2 mo)) := ⟨_, rfl⟩
    have E30 : Hid (T26 ++ (dgS 2 mo) = T30) := by
      show T26 ++ (dgS 2 mo) = T30
      rw [hT30, hT26]; exact str_app _ _
    have Z30 : T26.size + (dgS 2 mo).size ≤ 1000 := by
      rw [hT26, strOfNums_size, show (dgS 2 mo).size = _ from strOfNums_size _]; simp [dgI_len]
    obtain ⟨T31, hT31⟩ : ∃ T, T = strOfNums ((((([43]) ++ (dgI 5 Yn)) ++ [45]) ++ (dgI 2 mo)) ++ [45]) := ⟨_, rfl⟩
    have E31 : Hid (T30 ++ (strOfNums [45]) = T31) := by
      show T30 ++ (strOfNums [45]) = T31
      rw [hT31, hT30]; exact str_app _ _
    have Z31 : T30.size + (strOfNums [45]).size ≤ 1000 := by
      rw [hT30, strOfNums_size, show (strOfNums [45]).size = _ from strOfNums_size _]; simp [dgI_len]
    obtain ⟨T35, hT35⟩ : ∃ T, T = strOfNums (((((([43]) ++ (dgI 5 Yn)) ++ [45]) ++ (dgI 2 mo)) ++ [45]) ++ (dgI 2 dy)) := ⟨_, rfl⟩
    have E35 : Hid (T31 ++ (dgS 2 dy) = T35) := by
      show T31 ++ (dgS 2 dy) = T35
      rw [hT35, hT31]; exact str_app _ _
    have Z35 : T31.size + (dgS 2 dy).size ≤ 1000 := by
      rw [hT31, strOfNums_size, show (dgS 2 dy).size = _ from strOfNums_size _]; simp [dgI_len]
    obtain ⟨T36, hT36⟩ : ∃ T, T = strOfNums ((((((([43]) ++ (dgI 5 Yn)) ++ [45]) ++ (dgI 2 mo)) ++ [45]) ++ (dgI 2 dy)) ++ [32]) := ⟨_, rfl⟩
    have E36 : Hid (T35 ++ (strOfNums [32]) = T36) := by
      show T35 ++ (strOfNums [32]) = T36
      rw [hT36, hT35]; exact str_app _ _
    have Z36 : T35.size + (strOfNums [32]).size ≤ 1000 := by
      rw [hT35, strOfNums_size, show (strOfNums [32]).size = _ from strOfNums_size _]; simp [dgI_len]
    obtain ⟨T40, hT40⟩ : ∃ T, T = strOfNums (((((((([43]) ++ (dgI 5 Yn)) ++ [45]) ++ (dgI 2 mo)) ++ [45]) ++ (dgI 2 dy)) ++ [32]) ++ (dgI 2 hr)) := ⟨_, rfl⟩
    have E40 : Hid (T36 ++ (dgS 2 hr) = T40) := by
      show T36 ++ (dgS 2 hr) = T40
      rw [hT40, hT36]; exact str_app _ _
    have Z40 : T36.size + (dgS 2 hr).size ≤ 1000 := by
      rw [hT36, strOfNums_size, show (dgS 2 hr).size = _ from strOfNums_size _]; simp [dgI_len]
    obtain ⟨T41, hT41⟩ : ∃ T, T = strOfNums ((((((((([43]) ++ (dgI 5 Yn)) ++ [45]) ++ (dgI 2 mo)) ++ [45]) ++ (dgI 2 dy)) ++ [32]) ++ (dgI 2 hr)) ++ [58]) := ⟨_, rfl⟩
    have E41 : Hid (T40 ++ (strOfNums [58]) = T41) := by
      show T40 ++ (strOfNums [58]) = T41
      rw [hT41, hT40]; exact str_app _ _
    have Z41 : T40.size + (strOfNums [58]).size ≤ 1000 := by
      rw [hT40, strOfNums_size, show (strOfNums [58]).size = _ from strOfNums_size _]; simp [dgI_len]
    obtain ⟨T45, hT45⟩ : ∃ T, T = strOfNums (((((((((([43]) ++ (dgI 5 Yn)) ++ [45]) ++ (dgI 2 mo)) ++ [45]) ++ (dgI 2 dy)) ++ [32]) ++ (dgI 2 hr)) ++ [58]) ++ (dgI 2 mi)) := ⟨_, rfl⟩
    have E45 : Hid (T41 ++ (dgS 2 mi) = T45) := by
      show T41 ++ (dgS 2 mi) = T45
      rw [hT45, hT41]; exact str_app _ _
    have Z45 : T41.size + (dgS 2 mi).size ≤ 1000 := by
      rw [hT41, strOfNums_size, show (dgS 2 mi).size = _ from strOfNums_size _]; simp [dgI_len]
    obtain ⟨T46, hT46⟩ : ∃ T, T = strOfNums ((((((((((([43]) ++ (dgI 5 Yn)) ++ [45]) ++ (dgI 2 mo)) ++ [45]) ++ (dgI 2 dy)) ++ [32]) ++ (dgI 2 hr)) ++ [58]) ++ (dgI 2 mi)) ++ [58]) := ⟨_, rfl⟩
    have E46 : Hid (T45 ++ (strOfNums [58]) = T46) := by
      show T45 ++ (strOfNums [58]) = T46
      rw [hT46, hT45]; exact str_app _ _
    have Z46 : T45.size + (strOfNums [58]).size ≤ 1000 := by
      rw [hT45, strOfNums_size, show (strOfNums [58]).size = _ from strOfNums_size _]; simp [dgI_len]
    obtain ⟨T50, hT50⟩ : ∃ T, T = strOfNums (((((((((((([43]) ++ (dgI 5 Yn)) ++ [45]) ++ (dgI 2 mo)) ++ [45]) ++ (dgI 2 dy)) ++ [32]) ++ (dgI 2 hr)) ++ [58]) ++ (dgI 2 mi)) ++ [58]) ++ (dgI 2 se)) := ⟨_, rfl⟩
    have E50 : Hid (T46 ++ (dgS 2 se) = T50) := by
      show T46 ++ (dgS 2 se) = T50
      rw [hT50, hT46]; exact str_app _ _
    have Z50 : T46.size + (dgS 2 se).size ≤ 1000 := by
      rw [hT46, strOfNums_size, show (dgS 2 se).size = _ from strOfNums_size _]; simp [dgI_len]
    obtain ⟨T51, hT51⟩ : ∃ T, T = strOfNums ((((((((((((([43]) ++ (dgI 5 Yn)) ++ [45]) ++ (dgI 2 mo)) ++ [45]) ++ (dgI 2 dy)) ++ [32]) ++ (dgI 2 hr)) ++ [58]) ++ (dgI 2 mi)) ++ [58]) ++ (dgI 2 se)) ++ [46]) := ⟨_, rfl⟩
    have E51 : Hid (T50 ++ (strOfNums [46]) = T51) := by
      show T50 ++ (strOfNums [46]) = T51
      rw [hT51, hT50]; exact str_app _ _
    have Z51 : T50.size + (strOfNums [46]).size ≤ 1000 := by
      rw [hT50, strOfNums_size, show (strOfNums [46]).size = _ from strOfNums_size _]; simp [dgI_len]
    obtain ⟨T55, hT55⟩ : ∃ T, T = strOfNums (((((((((((((([43]) ++ (dgI 5 Yn)) ++ [45]) ++ (dgI 2 mo)) ++ [45]) ++ (dgI 2 dy)) ++ [32]) ++ (dgI 2 hr)) ++ [58]) ++ (dgI 2 mi)) ++ [58]) ++ (dgI 2 se)) ++ [46]) ++ (dgI 4 tk)) := ⟨_, rfl⟩
    have E55 : Hid (T51 ++ (dgS 4 tk) = T55) := by
      show T51 ++ (dgS 4 tk) = T55
      rw [hT55, hT51]; exact str_app _ _
    have Z55 : T51.size + (dgS 4 tk).size ≤ 1000 := by
      rw [hT51, strOfNums_size, show (dgS 4 tk).size = _ from strOfNums_size _]; simp [dgI_len]
    replace hT25 := Lib.hid hT25
    replace hT26 := Lib.hid hT26
    replace hT30 := Lib.hid hT30
    replace hT31 := Lib.hid hT31
    replace hT35 := Lib.hid hT35
    replace hT36 := Lib.hid hT36
    replace hT40 := Lib.hid hT40
    replace hT41 := Lib.hid hT41
    replace hT45 := Lib.hid hT45
    replace hT46 := Lib.hid hT46
    replace hT50 := Lib.hid hT50
    replace hT51 := Lib.hid hT51
    replace hT55 := Lib.hid hT55
    generalize hds : ([some 22, some 23, some 24, some 25, some 26, some 27, some 28, some 29, some 30, some 31, some 32, some 33, some 34, some 35, some 36, some 37, some 38, some 39, some 40, some 41, some 42, some 43, some 44, some 45, some 46, some 47, some 48, some 49, some 50, some 51, some 52, some 53, some 54, some 55, some 2, some 3] : List (Option Tmp)) = ds
    have hap : apartL ds = true := by rw [← hds]; decide
    replace hds := hds.symm
    refine wp_region_det (by kernel_rfl) ds (by rw [hds]; rfl) hap (by decide +kernel) [.string (strOfNums ([43])),
      .int .i64 (Yn : Int),
      .string (dgS 5 Yn),
      .string T25,
      .string T26,
      .pointer (some ⟨g, 1, none⟩),
      .int .i64 (mo : Int),
      .string (dgS 2 mo),
      .string T30,
      .string T31,
      .pointer (some ⟨g, 2, none⟩),
      .int .i64 (dy : Int),
      .string (dgS 2 dy),
      .string T35,
      .string T36,
      .pointer (some ⟨g, 3, none⟩),
      .int .i64 (hr : Int),
      .string (dgS 2 hr),
      .string T40,
      .string T41,
      .pointer (some ⟨g, 4, none⟩),
      .int .i64 (mi : Int),
      .string (dgS 2 mi),
      .string T45,
      .string T46,
      .pointer (some ⟨g, 5, none⟩),
      .int .i64 (se : Int),
      .string (dgS 2 se),
      .string T50,
      .string T51,
      .pointer (some ⟨g, 6, none⟩),
      .int .i64 (tk : Int),
      .string (dgS 4 tk),
      .string T55,
      .string T55,
      .int .i64 0] rfl (fun W => PB g #[.int .i64 (Yn : Int), .int .i64 (mo : Int), .int .i64 (dy : Int), .int .i64 (hr : Int), .int .i64 (mi : Int), .int .i64 (se : Int), .int .i64 (tk : Int)] W ∧ Below w.heap.size w W) ⟨(PT.out.drewN _).drewN 1, bl_drewN (bl_drewN B.out _) 1⟩ ?step ?fin
    case step =>
      intro L W i o ho hd hS
      have hi : i < 36 := (Array.getElem?_eq_some_iff.1 ho).1
      have : i = 0 ∨ i = 1 ∨ i = 2 ∨ i = 3 ∨ i = 4 ∨ i = 5 ∨ i = 6 ∨ i = 7 ∨ i = 8 ∨ i = 9 ∨ i = 10 ∨ i = 11 ∨ i = 12 ∨ i = 13 ∨ i = 14 ∨ i = 15 ∨ i = 16 ∨ i = 17 ∨ i = 18 ∨ i = 19 ∨ i = 20 ∨ i = 21 ∨ i = 22 ∨ i = 23 ∨ i = 24 ∨ i = 25 ∨ i = 26 ∨ i = 27 ∨ i = 28 ∨ i = 29 ∨ i = 30 ∨ i = 31 ∨ i = 32 ∨ i = 33 ∨ i = 34 ∨ i = 35 := by omega
      rcases this with rfl | rfl | rfl | rfl | rfl | rfl | rfl | rfl | rfl | rfl | rfl | rfl | rfl | rfl | rfl | rfl | rfl | rfl | rfl | rfl | rfl | rfl | rfl | rfl | rfl | rfl | rfl | rfl | rfl | rfl | rfl | rfl | rfl | rfl | rfl | rfl
      · -- 0
        obtain rfl := Option.some.inj ho
        exact .value rfl W (exJ_move W rfl ((puts_old ds L _ (by rw [hds]; decide)).trans rfl)) hS
      · -- 1
        obtain rfl := Option.some.inj ho
        exact .value rfl W (exJ_move W rfl ((puts_old ds L _ (by rw [hds]; decide)).trans rfl)) hS
      · -- 2
        obtain rfl := Option.some.inj ho
        refine .call rfl 23 #[.int .i64 (Yn : Int), .int .i64 5] ?_ ((rwide_run Yn 5 (by omega) (by decide) W).mono fun e W' ⟨he, hb⟩ => ⟨he, hS.1.on hb, hS.2.trans (hb.mono hS.2.size)⟩)
        generalize hA : (puts ds L _).eval = ρ
        have hg : ∀ g, ρ (.func g) = .func (.func g) #[] #[] := fun v => by rw [← hA]; rfl
        have hc : ∀ v, ρ (.const v) = v := fun v => by rw [← hA]; rfl
        have h0 : ρ (.tmp 23) = .int .i64 (Yn : Int) := by rw [← hA]; exact (puts_get 1 ds L _ hap (by rw [hds]; rfl) (hd 1 rfl) (show 23 < 56 by decide))
        have hf := Tryz.func23
        unfold execOp
        go_simp
      · -- 3
        obtain rfl := Option.some.inj ho
        exact .value rfl W (exT_add W rfl (puts_get 0 ds L _ hap (by rw [hds]; rfl) (hd 0 rfl) (show 22 < 56 by decide)) (puts_get 2 ds L _ hap (by rw [hds]; rfl) (hd 2 rfl) (show 24 < 56 by decide)) Z25 E25.out) hS
      · -- 4
        obtain rfl := Option.some.inj ho
        exact .value rfl W (exT_add W rfl (puts_get 3 ds L _ hap (by rw [hds]; rfl) (hd 3 rfl) (show 25 < 56 by decide)) rfl Z26 E26.out) hS
      · -- 5
        obtain rfl := Option.some.inj ho
        refine .value rfl W ?_ hS
        generalize hA : (puts ds L _).eval = ρ
        have hc : ∀ v, ρ (.const v) = v := fun v => by rw [← hA]; rfl
        have h0 : ρ (.tmp 4) = .pointer (some ⟨g, 0, none⟩) := by rw [← hA]; exact ((puts_old ds L _ (by rw [hds]; decide)).trans rfl)
        unfold execOp
        go_simp
      · -- 6
        obtain rfl := Option.some.inj ho
        refine .value rfl W ?_ hS
        generalize hA : (puts ds L _).eval = ρ
        have hc : ∀ v, ρ (.const v) = v := fun v => by rw [← hA]; rfl
        have h0 : ρ (.tmp 27) = .pointer (some ⟨g, 1, none⟩) := by rw [← hA]; exact (puts_get 5 ds L _ hap (by rw [hds]; rfl) (hd 5 rfl) (show 27 < 56 by decide))
        have hk := hS.1.2
        unfold execOp
        go_simp
      · -- 7
        obtain rfl := Option.some.inj ho
        refine .call rfl 23 #[.int .i64 (mo : Int), .int .i64 2] ?_ ((rwide_run mo 2 (by omega) (by decide) W).mono fun e W' ⟨he, hb⟩ => ⟨he, hS.1.on hb, hS.2.trans (hb.mono hS.2.size)⟩)
        generalize hA : (puts ds L _).eval = ρ
        have hg : ∀ g, ρ (.func g) = .func (.func g) #[] #[] := fun v => by rw [← hA]; rfl
        have hc : ∀ v, ρ (.const v) = v := fun v => by rw [← hA]; rfl
        have h0 : ρ (.tmp 28) = .int .i64 (mo : Int) := by rw [← hA]; exact (puts_get 6 ds L _ hap (by rw [hds]; rfl) (hd 6 rfl) (show 28 < 56 by decide))
        have hf := Tryz.func23
        unfold execOp
        go_simp
      · -- 8
        obtain rfl := Option.some.inj ho
        exact .value rfl W (exT_add W rfl (puts_get 4 ds L _ hap (by rw [hds]; rfl) (hd 4 rfl) (show 26 < 56 by decide)) (puts_get 7 ds L _ hap (by rw [hds]; rfl) (hd 7 rfl) (show 29 < 56 by decide)) Z30 E30.out) hS
      · -- 9
        obtain rfl := Option.some.inj ho
        exact .value rfl W (exT_add W rfl (puts_get 8 ds L _ hap (by rw [hds]; rfl) (hd 8 rfl) (show 30 < 56 by decide)) rfl Z31 E31.out) hS
      · -- 10
        obtain rfl := Option.some.inj ho
        refine .value rfl W ?_ hS
        generalize hA : (puts ds L _).eval = ρ
        have hc : ∀ v, ρ (.const v) = v := fun v => by rw [← hA]; rfl
        have h0 : ρ (.tmp 4) = .pointer (some ⟨g, 0, none⟩) := by rw [← hA]; exact ((puts_old ds L _ (by rw [hds]; decide)).trans rfl)
        unfold execOp
        go_simp
      · -- 11
        obtain rfl := Option.some.inj ho
        refine .value rfl W ?_ hS
        generalize hA : (puts ds L _).eval = ρ
        have hc : ∀ v, ρ (.const v) = v := fun v => by rw [← hA]; rfl
        have h0 : ρ (.tmp 32) = .pointer (some ⟨g, 2, none⟩) := by rw [← hA]; exact (puts_get 10 ds L _ hap (by rw [hds]; rfl) (hd 10 rfl) (show 32 < 56 by decide))
        have hk := hS.1.2
        unfold execOp
        go_simp
      · -- 12
        obtain rfl := Option.some.inj ho
        refine .call rfl 23 #[.int .i64 (dy : Int), .int .i64 2] ?_ ((rwide_run dy 2 (by omega) (by decide) W).mono fun e W' ⟨he, hb⟩ => ⟨he, hS.1.on hb, hS.2.trans (hb.mono hS.2.size)⟩)
        generalize hA : (puts ds L _).eval = ρ
        have hg : ∀ g, ρ (.func g) = .func (.func g) #[] #[] := fun v => by rw [← hA]; rfl
        have hc : ∀ v, ρ (.const v) = v := fun v => by rw [← hA]; rfl
        have h0 : ρ (.tmp 33) = .int .i64 (dy : Int) := by rw [← hA]; exact (puts_get 11 ds L _ hap (by rw [hds]; rfl) (hd 11 rfl) (show 33 < 56 by decide))
        have hf := Tryz.func23
        unfold execOp
        go_simp
      · -- 13
        obtain rfl := Option.some.inj ho
        exact .value rfl W (exT_add W rfl (puts_get 9 ds L _ hap (by rw [hds]; rfl) (hd 9 rfl) (show 31 < 56 by decide)) (puts_get 12 ds L _ hap (by rw [hds]; rfl) (hd 12 rfl) (show 34 < 56 by decide)) Z35 E35.out) hS
      · -- 14
        obtain rfl := Option.some.inj ho
        exact .value rfl W (exT_add W rfl (puts_get 13 ds L _ hap (by rw [hds]; rfl) (hd 13 rfl) (show 35 < 56 by decide)) rfl Z36 E36.out) hS
      · -- 15
        obtain rfl := Option.some.inj ho
        refine .value rfl W ?_ hS
        generalize hA : (puts ds L _).eval = ρ
        have hc : ∀ v, ρ (.const v) = v := fun v => by rw [← hA]; rfl
        have h0 : ρ (.tmp 4) = .pointer (some ⟨g, 0, none⟩) := by rw [← hA]; exact ((puts_old ds L _ (by rw [hds]; decide)).trans rfl)
        unfold execOp
        go_simp
      · -- 16
        obtain rfl := Option.some.inj ho
        refine .value rfl W ?_ hS
        generalize hA : (puts ds L _).eval = ρ
        have hc : ∀ v, ρ (.const v) = v := fun v => by rw [← hA]; rfl
        have h0 : ρ (.tmp 37) = .pointer (some ⟨g, 3, none⟩) := by rw [← hA]; exact (puts_get 15 ds L _ hap (by rw [hds]; rfl) (hd 15 rfl) (show 37 < 56 by decide))
        have hk := hS.1.2
        unfold execOp
        go_simp
      · -- 17
        obtain rfl := Option.some.inj ho
        refine .call rfl 23 #[.int .i64 (hr : Int), .int .i64 2] ?_ ((rwide_run hr 2 (by omega) (by decide) W).mono fun e W' ⟨he, hb⟩ => ⟨he, hS.1.on hb, hS.2.trans (hb.mono hS.2.size)⟩)
        generalize hA : (puts ds L _).eval = ρ
        have hg : ∀ g, ρ (.func g) = .func (.func g) #[] #[] := fun v => by rw [← hA]; rfl
        have hc : ∀ v, ρ (.const v) = v := fun v => by rw [← hA]; rfl
        have h0 : ρ (.tmp 38) = .int .i64 (hr : Int) := by rw [← hA]; exact (puts_get 16 ds L _ hap (by rw [hds]; rfl) (hd 16 rfl) (show 38 < 56 by decide))
        have hf := Tryz.func23
        unfold execOp
        go_simp
      · -- 18
        obtain rfl := Option.some.inj ho
        exact .value rfl W (exT_add W rfl (puts_get 14 ds L _ hap (by rw [hds]; rfl) (hd 14 rfl) (show 36 < 56 by decide)) (puts_get 17 ds L _ hap (by rw [hds]; rfl) (hd 17 rfl) (show 39 < 56 by decide)) Z40 E40.out) hS
      · -- 19
        obtain rfl := Option.some.inj ho
        exact .value rfl W (exT_add W rfl (puts_get 18 ds L _ hap (by rw [hds]; rfl) (hd 18 rfl) (show 40 < 56 by decide)) rfl Z41 E41.out) hS
      · -- 20
        obtain rfl := Option.some.inj ho
        refine .value rfl W ?_ hS
        generalize hA : (puts ds L _).eval = ρ
        have hc : ∀ v, ρ (.const v) = v := fun v => by rw [← hA]; rfl
        have h0 : ρ (.tmp 4) = .pointer (some ⟨g, 0, none⟩) := by rw [← hA]; exact ((puts_old ds L _ (by rw [hds]; decide)).trans rfl)
        unfold execOp
        go_simp
      · -- 21
        obtain rfl := Option.some.inj ho
        refine .value rfl W ?_ hS
        generalize hA : (puts ds L _).eval = ρ
        have hc : ∀ v, ρ (.const v) = v := fun v => by rw [← hA]; rfl
        have h0 : ρ (.tmp 42) = .pointer (some ⟨g, 4, none⟩) := by rw [← hA]; exact (puts_get 20 ds L _ hap (by rw [hds]; rfl) (hd 20 rfl) (show 42 < 56 by decide))
        have hk := hS.1.2
        unfold execOp
        go_simp
      · -- 22
        obtain rfl := Option.some.inj ho
        refine .call rfl 23 #[.int .i64 (mi : Int), .int .i64 2] ?_ ((rwide_run mi 2 (by omega) (by decide) W).mono fun e W' ⟨he, hb⟩ => ⟨he, hS.1.on hb, hS.2.trans (hb.mono hS.2.size)⟩)
        generalize hA : (puts ds L _).eval = ρ
        have hg : ∀ g, ρ (.func g) = .func (.func g) #[] #[] := fun v => by rw [← hA]; rfl
        have hc : ∀ v, ρ (.const v) = v := fun v => by rw [← hA]; rfl
        have h0 : ρ (.tmp 43) = .int .i64 (mi : Int) := by rw [← hA]; exact (puts_get 21 ds L _ hap (by rw [hds]; rfl) (hd 21 rfl) (show 43 < 56 by decide))
        have hf := Tryz.func23
        unfold execOp
        go_simp
      · -- 23
        obtain rfl := Option.some.inj ho
        exact .value rfl W (exT_add W rfl (puts_get 19 ds L _ hap (by rw [hds]; rfl) (hd 19 rfl) (show 41 < 56 by decide)) (puts_get 22 ds L _ hap (by rw [hds]; rfl) (hd 22 rfl) (show 44 < 56 by decide)) Z45 E45.out) hS
      · -- 24
        obtain rfl := Option.some.inj ho
        exact .value rfl W (exT_add W rfl (puts_get 23 ds L _ hap (by rw [hds]; rfl) (hd 23 rfl) (show 45 < 56 by decide)) rfl Z46 E46.out) hS
      · -- 25
        obtain rfl := Option.some.inj ho
        refine .value rfl W ?_ hS
        generalize hA : (puts ds L _).eval = ρ
        have hc : ∀ v, ρ (.const v) = v := fun v => by rw [← hA]; rfl
        have h0 : ρ (.tmp 4) = .pointer (some ⟨g, 0, none⟩) := by rw [← hA]; exact ((puts_old ds L _ (by rw [hds]; decide)).trans rfl)
        unfold execOp
        go_simp
      · -- 26
        obtain rfl := Option.some.inj ho
        refine .value rfl W ?_ hS
        generalize hA : (puts ds L _).eval = ρ
        have hc : ∀ v, ρ (.const v) = v := fun v => by rw [← hA]; rfl
        have h0 : ρ (.tmp 47) = .pointer (some ⟨g, 5, none⟩) := by rw [← hA]; exact (puts_get 25 ds L _ hap (by rw [hds]; rfl) (hd 25 rfl) (show 47 < 56 by decide))
        have hk := hS.1.2
        unfold execOp
        go_simp
      · -- 27
        obtain rfl := Option.some.inj ho
        refine .call rfl 23 #[.int .i64 (se : Int), .int .i64 2] ?_ ((rwide_run se 2 (by omega) (by decide) W).mono fun e W' ⟨he, hb⟩ => ⟨he, hS.1.on hb, hS.2.trans (hb.mono hS.2.size)⟩)
        generalize hA : (puts ds L _).eval = ρ
        have hg : ∀ g, ρ (.func g) = .func (.func g) #[] #[] := fun v => by rw [← hA]; rfl
        have hc : ∀ v, ρ (.const v) = v := fun v => by rw [← hA]; rfl
        have h0 : ρ (.tmp 48) = .int .i64 (se : Int) := by rw [← hA]; exact (puts_get 26 ds L _ hap (by rw [hds]; rfl) (hd 26 rfl) (show 48 < 56 by decide))
        have hf := Tryz.func23
        unfold execOp
        go_simp
      · -- 28
        obtain rfl := Option.some.inj ho
        exact .value rfl W (exT_add W rfl (puts_get 24 ds L _ hap (by rw [hds]; rfl) (hd 24 rfl) (show 46 < 56 by decide)) (puts_get 27 ds L _ hap (by rw [hds]; rfl) (hd 27 rfl) (show 49 < 56 by decide)) Z50 E50.out) hS
      · -- 29
        obtain rfl := Option.some.inj ho
        exact .value rfl W (exT_add W rfl (puts_get 28 ds L _ hap (by rw [hds]; rfl) (hd 28 rfl) (show 50 < 56 by decide)) rfl Z51 E51.out) hS
      · -- 30
        obtain rfl := Option.some.inj ho
        refine .value rfl W ?_ hS
        generalize hA : (puts ds L _).eval = ρ
        have hc : ∀ v, ρ (.const v) = v := fun v => by rw [← hA]; rfl
        have h0 : ρ (.tmp 4) = .pointer (some ⟨g, 0, none⟩) := by rw [← hA]; exact ((puts_old ds L _ (by rw [hds]; decide)).trans rfl)
        unfold execOp
        go_simp
      · -- 31
        obtain rfl := Option.some.inj ho
        refine .value rfl W ?_ hS
        generalize hA : (puts ds L _).eval = ρ
        have hc : ∀ v, ρ (.const v) = v := fun v => by rw [← hA]; rfl
        have h0 : ρ (.tmp 52) = .pointer (some ⟨g, 6, none⟩) := by rw [← hA]; exact (puts_get 30 ds L _ hap (by rw [hds]; rfl) (hd 30 rfl) (show 52 < 56 by decide))
        have hk := hS.1.2
        unfold execOp
        go_simp
      · -- 32
        obtain rfl := Option.some.inj ho
        refine .call rfl 23 #[.int .i64 (tk : Int), .int .i64 4] ?_ ((rwide_run tk 4 (by omega) (by decide) W).mono fun e W' ⟨he, hb⟩ => ⟨he, hS.1.on hb, hS.2.trans (hb.mono hS.2.size)⟩)
        generalize hA : (puts ds L _).eval = ρ
        have hg : ∀ g, ρ (.func g) = .func (.func g) #[] #[] := fun v => by rw [← hA]; rfl
        have hc : ∀ v, ρ (.const v) = v := fun v => by rw [← hA]; rfl
        have h0 : ρ (.tmp 53) = .int .i64 (tk : Int) := by rw [← hA]; exact (puts_get 31 ds L _ hap (by rw [hds]; rfl) (hd 31 rfl) (show 53 < 56 by decide))
        have hf := Tryz.func23
        unfold execOp
        go_simp
      · -- 33
        obtain rfl := Option.some.inj ho
        exact .value rfl W (exT_add W rfl (puts_get 29 ds L _ hap (by rw [hds]; rfl) (hd 29 rfl) (show 51 < 56 by decide)) (puts_get 32 ds L _ hap (by rw [hds]; rfl) (hd 32 rfl) (show 54 < 56 by decide)) Z55 E55.out) hS
      · -- 34
        obtain rfl := Option.some.inj ho
        exact .value rfl W (exJ_assign W rfl (puts_get 33 ds L _ hap (by rw [hds]; rfl) (hd 33 rfl) (show 55 < 56 by decide))) hS
      · -- 35
        obtain rfl := Option.some.inj ho
        exact .value rfl W (exJ_assign W rfl rfl) hS
    case fin =>
      intro W hS
      rw [hds]
      clear hds hap
      simp only [List.map_cons, List.map_nil, List.set_cons_zero, List.set_cons_succ, puts, Act.put, List.setIfInBounds_toArray]
      obtain ⟨_, hB⟩ := hS
      replace hB := Lib.hid hB
      clear PT B
      go_wp2_with fail
      go_ret2
      exact ⟨by rw [HS.out, ← hT55.out]; rfl, hB.out⟩
set_option maxRecDepth 100000 in
theorem rprint_run (t : Int) (w : World) : Calls Tryz.prog 10 #[.int .i64 t] w fun e w' => e = .returned (prV t) ∧ Below w.heap.size w w' := by
  cases h : isI t with
  | true => exact rprint_yes t h w
  | false => exact rprint_no t h w
end Go.Proofs.YtpnncmdeidbemaaGreatDoor
