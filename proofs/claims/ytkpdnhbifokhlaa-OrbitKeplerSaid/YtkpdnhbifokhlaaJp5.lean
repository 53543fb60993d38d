/- Proved here: what the texts Obf prove, one behind the other. -/
import Derived.Test.YtkpdnhbifokhlaaJp4

namespace Go.Proofs.Ytkpdnhbifokhlaa
open Go.ChangeShapes Go.WideShapes Go.ChangeAt Go.RowKit Ieee.Own Pol

theorem q_abs {x : Nat} (h : mag (Q x) ≤ 4398046511104) : (V x).natAbs ≤ 2 ^ 1116 := by
  have m := mag_le (Q x)
  have q1 : Q 4796333603149578240 = 4398046511104 := by decide +kernel
  have q2 : Q 14019705640004354048 = -4398046511104 := by decide +kernel
  have v1 : V 4796333603149578240 = 2 ^ 1116 := by decide +kernel
  have v2 : V 14019705640004354048 = -(2 ^ 1116) := by decide +kernel
  have a : V x ≤ V 4796333603149578240 := Q_le.1 (by rw [q1]; grind)
  have b : V 14019705640004354048 ≤ V x := Q_le.1 (by rw [q2]; grind)
  rw [v1] at a
  rw [v2] at b
  have ce : ((2 ^ 1116 : Nat) : Int) = 2 ^ 1116 := Int.natCast_pow 2 1116
  omega
theorem unfit_small' {x : Nat} (hx : FinW x) (f : fitB x = false) (b : (V x).natAbs ≤ 2 ^ 1116) : (V x).natAbs < 2 ^ 874 := by
  unfold fitB at f
  rw [decide_eq_false_iff_not] at f
  rw [V_abs' x hx] at b ⊢
  have e : val 52 3706462493325918208 = 2 ^ 874 := by decide +kernel
  have e2 : val 52 5507902344274116608 = 2 ^ 1274 := by decide +kernel
  by_cases q : x % 9223372036854775808 < 3706462493325918208
  · rw [← e]; exact val_lt q
  · exfalso
    have q2 : 5507902344274116608 < x % 9223372036854775808 := by omega
    have := val_lt (F := 52) q2
    rw [e2] at this
    exact absurd (Nat.lt_of_lt_of_le this (Nat.le_trans b (two_le (a := 1116) (b := 1274) (by omega)))) (Nat.lt_irrefl _)
theorem oW_bW {x : Nat} (hx : FinW x) (h : (V x).natAbs ≤ 2 ^ 1116) : oW x = bW x := by
  unfold oW fnW bW
  by_cases f : fitB x = true
  · rw [if_pos f, if_neg (by rw [f]; simp)]
  · rw [if_neg f]
    rw [Bool.not_eq_true] at f
    have s := unfit_small' hx f h
    rw [if_pos]
    · decide +kernel
    · refine ⟨f, Nat.lt_of_not_le fun c => ?_⟩
      rw [V_abs' x hx] at s
      have e : val 52 4607182418800017408 = 2 ^ 1074 := by decide +kernel
      have k : 2 ^ 1074 ≤ val 52 (x % 9223372036854775808) := by
        rw [← e]
        by_cases q : x % 9223372036854775808 = 4607182418800017408
        · rw [q]; exact Nat.le_refl _
        · exact Nat.le_of_lt (val_lt (by omega))
      exact absurd (Nat.lt_of_le_of_lt k s) (Nat.not_lt.2 (two_le (a := 874) (b := 1074) (by omega)))
set_option maxRecDepth 100000 in
theorem obroughtB {x : Nat} (hx : FinW x) (w : World) : Calls Try.prog 34 #[.float .f64 x] w fun e w' => e = .returned (.float .f64 (oW x)) ∧ Below w.heap.size w w' := (obrought_run hx w).mono fun e w' h => ⟨h.1, by rw [← h.2]; exact Below.refl _ _⟩
/-- the place in the plane -/
noncomputable def plaV (o : Ob) (x : Nat) : V3 := (oW (plX o.ax o.ec (tC x)), oW (plY o.ax o.ec (tS x)), 0)
noncomputable def placeW (o : Ob) (d : Nat) : Nat := solV o.ec (meanW o d)
noncomputable def atR (o : Ob) (d : Nat) : V3 × Int := if readyO o (witB g24 d) = 0 then laidR (turnsO o) (plaV o (placeW o d)) else (z3, readyO o (witB g24 d))
theorem axi_of {o : Ob} (h : ObW o) (hO : ObOk o) : Axi o.ax := by
  obtain ⟨f, g, a, b⟩ := btw_of h.ax hO.ax
  have q1 : Q axLo = 1 / 1048576 := by decide +kernel
  have q2 : Q axHi = 1099511627776 := by decide +kernel
  exact ⟨h.ax, g, by rw [← q1]; exact Q_le.2 a, by rw [← q2]; exact Q_le.2 b⟩
theorem ecc_of {e : Nat} (he : e < 18446744073709551616) (h : ecB e = true) : fitB e = true ∧ 0 ≤ Q e ∧ Q e ≤ 7 / 8 := by
  obtain ⟨f, g, a, b⟩ := btw_of he h
  have q : Q ecHi = 7 / 8 := by decide +kernel
  rw [V_zero] at a
  exact ⟨g, Q_nn.2 a, by rw [← q]; exact Q_le.2 b⟩
/-- a place, of Solve -/
theorem sol_wd {e m : Nat} (he : e < 18446744073709551616) (hm : m < 18446744073709551616) (e1 : ecB e = true) (m1 : haB m = true) : FinW (plcW (kepW e) m) ∧ Ang (solV e m) ∧ errA (solV e m) = 0 := by
  obtain ⟨-, K, q⟩ := kp_ec he hm e1 m1
  obtain ⟨w, -⟩ := kepler_end K q
  have w5 : Wd (plcW (kepW e) m) 400 1075 := w.le (Nat.le_refl _) (by omega)
  exact ⟨w.fin, (oW_ang w5).1, (oW_ang w5).2⟩
/-- what At does, step by step -/
structure AtS (o : Ob) (d : Nat) : Prop where
  ha : haB (meanW o d) = true
  lt : meanW o d < 18446744073709551616
  ang : Ang (placeW o d)
  er : errA (placeW o d) = 0
  roo : Roo o.ec
  pla : Pla o.ax o.ec (tS (placeW o d)) (tC (placeW o d))
  sx : (V (plX o.ax o.ec (tC (placeW o d)))).natAbs ≤ 2 ^ 1116
  sy : (V (plY o.ax o.ec (tS (placeW o d)))).natAbs ≤ 2 ^ 1116
  w : W3 (plaV o (placeW o d))
theorem at_of {o : Ob} {d : Nat} (h : ObW o) (hO : ObOk o) (hd : d < 18446744073709551616) (t : witB g24 d = true) : AtS o d := by
  have P := pos_of h hd hO.ph hO.ra t
  have L := lef_of P.left
  have m1 := mean_ha L
  have ml := (oW_nz L.fin).fin.1
  obtain ⟨pf, A, e⟩ := sol_wd h.ec ml hO.ec m1
  obtain ⟨g, e0, e1⟩ := ecc_of h.ec hO.ec
  have X := axi_of h hO
  have R := roo_of h.ec g e0 e1
  have Pl := pla_of X h.ec g e0 e1 A
  have hi := X.hi
  refine ⟨m1, ml, A, e, R, Pl, q_abs ?_, q_abs ?_, ⟨(oW_nz Pl.fx).fin.1, (oW_nz Pl.fy).fin.1, show 0 < 18446744073709551616 by decide⟩⟩
  · have := Pl.bx; exact Rat.le_trans this (by grind)
  · have := Pl.by_; exact Rat.le_trans this (by grind)
set_option maxHeartbeats 4000000 in
set_option maxRecDepth 100000 in
theorem oat_ok {ax ec ti no pe ph ra d m x s c q t b h1 h2 j1 j2 y1 y2 q1 q2 q3 : Nat} {k : Int} (CM : Hid (∀ w, Calls Try.prog 11 #[.agg #[.float .f64 ax, .float .f64 ec, .float .f64 ti, .float .f64 no, .float .f64 pe, .float .f64 ph, .float .f64 ra], .float .f64 d] w fun e w' => e = .returned (.tuple #[.float .f64 m, .int .i64 0]) ∧ Below w.heap.size w w')) (CS : Hid (∀ w, Calls Try.prog 14 #[.float .f64 ec, .float .f64 m] w fun e w' => e = .returned (.tuple #[.float .f64 x, .int .i64 0]) ∧ Below w.heap.size w w')) (CB : Hid (∀ w, Calls Try.prog 43 #[.float .f64 x] w fun e w' => e = .returned (.tuple #[.float .f64 s, .float .f64 c, .int .i64 0]) ∧ Below w.heap.size w w')) (r1 : ∀ ty w, (binOp .mul ty (.float .f64 ec) (.float .f64 ec)).run Try.prog w = .ok (.float .f64 q) w) (r2 : ∀ ty w, (binOp .sub ty (.float .f64 4607182418800017408) (.float .f64 q)).run Try.prog w = .ok (.float .f64 t) w) (CR : ∀ w, Calls Try.prog 44 #[.float .f64 t] w fun e w' => e = .returned (.float .f64 b) ∧ w = w') (a1 : ∀ ty w, (binOp .sub ty (.float .f64 c) (.float .f64 ec)).run Try.prog w = .ok (.float .f64 h1) w) (a2 : ∀ ty w, (binOp .mul ty (.float .f64 ax) (.float .f64 h1)).run Try.prog w = .ok (.float .f64 h2) w) (b1 : ∀ ty w, (binOp .mul ty (.float .f64 ax) (.float .f64 b)).run Try.prog w = .ok (.float .f64 j1) w) (b2 : ∀ ty w, (binOp .mul ty (.float .f64 j1) (.float .f64 s)).run Try.prog w = .ok (.float .f64 j2) w) (BX : Hid (∀ w, Calls Try.prog 34 #[.float .f64 h2] w fun e w' => e = .returned (.float .f64 y1) ∧ Below w.heap.size w w')) (BY : Hid (∀ w, Calls Try.prog 34 #[.float .f64 j2] w fun e w' => e = .returned (.float .f64 y2) ∧ Below w.heap.size w w')) (CT : Hid (∀ w, Calls Try.prog 45 #[.agg #[.float .f64 ax, .float .f64 ec, .float .f64 ti, .float .f64 no, .float .f64 pe, .float .f64 ph, .float .f64 ra], .agg #[.float .f64 y1, .float .f64 y2, .float .f64 0]] w fun e w' => e = .returned (.tuple #[.agg #[.float .f64 q1, .float .f64 q2, .float .f64 q3], .int .i64 k]) ∧ Below w.heap.size w w')) (w : World) : Calls Try.prog 16 #[.agg #[.float .f64 ax, .float .f64 ec, .float .f64 ti, .float .f64 no, .float .f64 pe, .float .f64 ph, .float .f64 ra], .float .f64 d] w fun e w' => e = .returned (.tuple #[.agg #[.float .f64 q1, .float .f64 q2, .float .f64 q3], .int .i64 k]) ∧ Below w.heap.size w w' := by
  have K0 := kv2 w 24 33 [.float .f64 ax, .float .f64 ec, .float .f64 ti, .float .f64 no, .float .f64 pe, .float .f64 ph, .float .f64 ra] [.float .f64 0, .float .f64 0, .float .f64 0]
  simp only [objV] at K0
  have hst := @fstore
  replace K0 := Lib.hid K0
  go_enter Try.func16, Try.ntmps16
  go_wp2_with fail
  have K := K0.out
  clear K0
  generalize (w.alloc _).alloc _ = wr at *
  refine (CM.out wr).mono ?_
  rintro _ v1 ⟨rfl, hb⟩
  replace K := K.on hb
  clear hb
  have c0_1 := (K.at_ 0 rfl).at_ 1 _ rfl
  replace K := Lib.hid K
  go_wp2_with fail
  replace K := K.out
  refine (CS.out v1).mono ?_
  rintro _ v2 ⟨rfl, hb⟩
  clear c0_1
  replace K := K.on hb
  clear hb
  replace K := Lib.hid K
  go_wp2_with fail
  replace K := K.out
  refine (CB.out v2).mono ?_
  rintro _ v3 ⟨rfl, hb⟩
  replace K := K.on hb
  clear hb
  have c0_1 := (K.at_ 0 rfl).at_ 1 _ rfl
  replace K := Lib.hid K
  go_upto_region 11 with (go_at_call 44; ((with_reducible refine (CR _).mono ?_); rintro e w' ⟨rfl, rfl⟩))
  replace K := K.out
  clear c0_1
  replace K := K.more
  simp only [List.cons_append, List.nil_append] at K
  generalize hds : ([some 51, some 52, some 53, some 54, some 55, some 56, some 57, some 58, some 59, some 60, some 61, some 62, some 63, some 64, some 65, some 66, some 12, none] : List (Option Tmp)) = ds
  have hap : apartL ds = true := by rw [← hds]; decide
  replace hds := hds.symm
  refine wp_region_kv (fun hf => [some (w.heap.size, [.float .f64 ax, .float .f64 ec, .float .f64 ti, .float .f64 no, .float .f64 pe, .float .f64 ph, .float .f64 ra]), some (w.heap.size + 1, [.float .f64 0, .float .f64 0, .float .f64 0]), some (hf 16, [.float .f64 y1, .float .f64 y2, .float .f64 0])]) (fun hf => [some (.pointer (some ⟨w.heap.size, 0, none⟩)), some (.float .f64 ax), some (.float .f64 c), some (.pointer (some ⟨w.heap.size, 1, none⟩)), some (.float .f64 ec), some (.float .f64 h1), some (.float .f64 h2), some (.float .f64 y1), some (.pointer (some ⟨w.heap.size, 0, none⟩)), some (.float .f64 ax), some (.float .f64 b), some (.float .f64 j1), some (.float .f64 s), some (.float .f64 j2), some (.float .f64 y2), some (.agg #[.float .f64 y1, .float .f64 y2, .float .f64 0]), some (ptrV (hf 16)), some (undef)]) [⟨16, 2, 33, [.float .f64 0, .float .f64 0, .float .f64 0]⟩] [⟨17, 2, 0, [.float .f64 y1, .float .f64 y2, .float .f64 0]⟩] [.pointer (some ⟨w.heap.size, 0, none⟩), .float .f64 ax, .float .f64 c, .pointer (some ⟨w.heap.size, 1, none⟩), .float .f64 ec, .float .f64 h1, .float .f64 h2, .float .f64 y1, .pointer (some ⟨w.heap.size, 0, none⟩), .float .f64 ax, .float .f64 b, .float .f64 j1, .float .f64 s, .float .f64 j2, .float .f64 y2, .agg #[.float .f64 y1, .float .f64 y2, .float .f64 0], undef, undef] ds (by kernel_rfl) (by rw [hds]; rfl) hap (by decide +kernel) (by decide +kernel) K ?ha ?haj ?hai ?hsi ?hss ?hsa ?hsw ?htg ?hE2 ?hE3 ?hE4 ?hL1 ?hL2 ?hL3 ?alloc ?step ?store ?fin
  case ha => intro al hal; simp only [List.mem_cons, List.not_mem_nil, or_false] at hal; rcases hal with rfl <;> rfl
  case haj => intro al hal al' hal' e; simp only [List.mem_cons, List.not_mem_nil, or_false] at hal; rcases hal with rfl <;> (simp only [List.mem_cons, List.not_mem_nil, or_false] at hal'; rcases hal' with rfl) <;> first | rfl | (exfalso; revert e; simp)
  case hai => intro al hal; simp only [List.mem_cons, List.not_mem_nil, or_false] at hal; rcases hal with rfl <;> decide
  case hsi => intro st hst st' hst' e; simp only [List.mem_cons, List.not_mem_nil, or_false] at hst; rcases hst with rfl <;> (simp only [List.mem_cons, List.not_mem_nil, or_false] at hst'; rcases hst' with rfl) <;> first | rfl | (exfalso; revert e; simp)
  case hss =>
    intro st hst
    simp only [List.mem_cons, List.not_mem_nil, or_false] at hst; rcases hst with rfl
    · show 17 < 18; decide
  case hsa =>
    intro st hst al hal
    simp only [List.mem_cons, List.not_mem_nil, or_false] at hst; rcases hst with rfl
    · simp only [List.mem_cons, List.not_mem_nil, or_false] at hal; rcases hal with rfl
      · exact (show ¬ (17 = 16) by decide)
  case hsw =>
    intro st hst al hal e
    simp only [List.mem_cons, List.not_mem_nil, or_false] at hst; rcases hst with rfl
    · simp only [List.mem_cons, List.not_mem_nil, or_false] at hal; rcases hal with rfl
      · change waitsAt _ 17 16 = true; decide +kernel
  case htg =>
    intro st hst
    simp only [List.mem_cons, List.not_mem_nil, or_false] at hst; rcases hst with rfl
    · exact .inr ⟨_, List.mem_cons_self .., rfl, show 0 + 3 ≤ 3 by decide⟩
  case hE2 =>
    intro hf j h1 h2
    have n2 : 2 ≠ j := h1 _ (List.mem_cons_self ..)
    rcases j with _ | _ | _ | j
    · rfl
    · rfl
    · exact absurd rfl n2
    · rfl
  case hE3 =>
    intro hf st hst g us e
    simp only [List.mem_cons, List.not_mem_nil, or_false] at hst; rcases hst with rfl
    · simp at e
  case hE4 =>
    intro hf al hal
    simp only [List.mem_cons, List.not_mem_nil, or_false] at hal; rcases hal with rfl
    · refine ⟨fun st hst e => ?_, fun h => absurd rfl (h _ (List.mem_cons_self ..))⟩
      simp only [List.mem_cons, List.not_mem_nil, or_false] at hst; rcases hst with rfl
      · rfl
  case hL1 => intro hf; rfl
  case hL2 =>
    intro hf i hi hna
    have hi : i < 18 := hi
    have : i = 0 ∨ i = 1 ∨ i = 2 ∨ i = 3 ∨ i = 4 ∨ i = 5 ∨ i = 6 ∨ i = 7 ∨ i = 8 ∨ i = 9 ∨ i = 10 ∨ i = 11 ∨ i = 12 ∨ i = 13 ∨ i = 14 ∨ i = 15 ∨ i = 16 ∨ i = 17 := by omega
    rcases this with rfl | rfl | rfl | rfl | rfl | rfl | rfl | rfl | rfl | rfl | rfl | rfl | rfl | rfl | rfl | rfl | rfl | rfl
    · rfl
    · rfl
    · rfl
    · rfl
    · rfl
    · rfl
    · rfl
    · rfl
    · rfl
    · rfl
    · rfl
    · rfl
    · rfl
    · rfl
    · rfl
    · rfl
    · exact absurd rfl (hna _ (List.mem_cons_self ..))
    · rfl
  case hL3 => intro hf al hal; simp only [List.mem_cons, List.not_mem_nil, or_false] at hal; rcases hal with rfl <;> rfl
  case alloc =>
    intro al hal o ρ W ho
    simp only [List.mem_cons, List.not_mem_nil, or_false] at hal; rcases hal with rfl
    · obtain rfl := Option.some.inj ho; unfold execOp ptrV objV; go_simp
  case step =>
    intro L W i o ho hs ha hd hB hO
    have hi : i < 18 := (Array.getElem?_eq_some_iff.1 ho).1
    have : i = 0 ∨ i = 1 ∨ i = 2 ∨ i = 3 ∨ i = 4 ∨ i = 5 ∨ i = 6 ∨ i = 7 ∨ i = 8 ∨ i = 9 ∨ i = 10 ∨ i = 11 ∨ i = 12 ∨ i = 13 ∨ i = 14 ∨ i = 15 ∨ i = 16 ∨ i = 17 := by omega
    rcases this with rfl | rfl | rfl | rfl | rfl | rfl | rfl | rfl | rfl | rfl | rfl | rfl | rfl | rfl | rfl | rfl | rfl | rfl
    · -- 0
      obtain rfl := Option.some.inj ho
      refine .value W ?_ (Below.refl _ _)
      generalize hA : (puts ds L _).eval = ρ
      have hc : ∀ v, ρ (.const v) = v := fun v => by rw [← hA]; rfl
      have hg : ∀ g, ρ (.func g) = .func (.func g) #[] #[] := fun v => by rw [← hA]; rfl
      have h0 : ρ (.tmp 2) = .pointer (some ⟨w.heap.size, 0, none⟩) := by rw [← hA]; exact (puts_old ds L _ (by rw [hds]; decide)).trans rfl
      clear hA hd hB ho hs ha hO
      unfold execOp
      go_simp
    · -- 1
      obtain rfl := Option.some.inj ho
      have b := hB 0 _ _ rfl (by
        intro st hst e
        simp only [List.mem_cons, List.not_mem_nil, or_false] at hst; rcases hst with rfl
        · exact absurd e (show ¬ 2 = 0 by decide))
      have c0 := b.at_ 0 _ rfl
      clear b
      refine .value W ?_ (Below.refl _ _)
      generalize hA : (puts ds L _).eval = ρ
      have hc : ∀ v, ρ (.const v) = v := fun v => by rw [← hA]; rfl
      have hg : ∀ g, ρ (.func g) = .func (.func g) #[] #[] := fun v => by rw [← hA]; rfl
      have h0 : ρ (.tmp 51) = .pointer (some ⟨w.heap.size, 0, none⟩) := by rw [← hA]; exact puts_get 0 ds L _ hap (by rw [hds]; rfl) (hd 0 (by decide +kernel) (by intro al hal; simp only [List.mem_cons, List.not_mem_nil, or_false] at hal; rcases hal with rfl <;> decide)) (show 51 < 72 by decide)
      clear hA hd hB ho hs ha hO
      unfold execOp
      go_simp
    · -- 2
      obtain rfl := Option.some.inj ho
      refine .value W ?_ (Below.refl _ _)
      generalize hA : (puts ds L _).eval = ρ
      have hc : ∀ v, ρ (.const v) = v := fun v => by rw [← hA]; rfl
      have hg : ∀ g, ρ (.func g) = .func (.func g) #[] #[] := fun v => by rw [← hA]; rfl
      have h0 : ρ (.tmp 10) = .float .f64 c := by rw [← hA]; exact (puts_old ds L _ (by rw [hds]; decide)).trans rfl
      clear hA hd hB ho hs ha hO
      unfold execOp
      go_simp
    · -- 3
      obtain rfl := Option.some.inj ho
      refine .value W ?_ (Below.refl _ _)
      generalize hA : (puts ds L _).eval = ρ
      have hc : ∀ v, ρ (.const v) = v := fun v => by rw [← hA]; rfl
      have hg : ∀ g, ρ (.func g) = .func (.func g) #[] #[] := fun v => by rw [← hA]; rfl
      have h0 : ρ (.tmp 2) = .pointer (some ⟨w.heap.size, 0, none⟩) := by rw [← hA]; exact (puts_old ds L _ (by rw [hds]; decide)).trans rfl
      clear hA hd hB ho hs ha hO
      unfold execOp
      go_simp
    · -- 4
      obtain rfl := Option.some.inj ho
      have b := hB 0 _ _ rfl (by
        intro st hst e
        simp only [List.mem_cons, List.not_mem_nil, or_false] at hst; rcases hst with rfl
        · exact absurd e (show ¬ 2 = 0 by decide))
      have c1 := b.at_ 1 _ rfl
      clear b
      refine .value W ?_ (Below.refl _ _)
      generalize hA : (puts ds L _).eval = ρ
      have hc : ∀ v, ρ (.const v) = v := fun v => by rw [← hA]; rfl
      have hg : ∀ g, ρ (.func g) = .func (.func g) #[] #[] := fun v => by rw [← hA]; rfl
      have h0 : ρ (.tmp 54) = .pointer (some ⟨w.heap.size, 1, none⟩) := by rw [← hA]; exact puts_get 3 ds L _ hap (by rw [hds]; rfl) (hd 3 (by decide +kernel) (by intro al hal; simp only [List.mem_cons, List.not_mem_nil, or_false] at hal; rcases hal with rfl <;> decide)) (show 54 < 72 by decide)
      clear hA hd hB ho hs ha hO
      unfold execOp
      go_simp
    · -- 5
      obtain rfl := Option.some.inj ho
      refine .value W ?_ (Below.refl _ _)
      generalize hA : (puts ds L _).eval = ρ
      have hc : ∀ v, ρ (.const v) = v := fun v => by rw [← hA]; rfl
      have hg : ∀ g, ρ (.func g) = .func (.func g) #[] #[] := fun v => by rw [← hA]; rfl
      have h0 : ρ (.tmp 53) = .float .f64 c := by rw [← hA]; exact puts_get 2 ds L _ hap (by rw [hds]; rfl) (hd 2 (by decide +kernel) (by intro al hal; simp only [List.mem_cons, List.not_mem_nil, or_false] at hal; rcases hal with rfl <;> decide)) (show 53 < 72 by decide)
      have h1 : ρ (.tmp 55) = .float .f64 ec := by rw [← hA]; exact puts_get 4 ds L _ hap (by rw [hds]; rfl) (hd 4 (by decide +kernel) (by intro al hal; simp only [List.mem_cons, List.not_mem_nil, or_false] at hal; rcases hal with rfl <;> decide)) (show 55 < 72 by decide)
      clear hA hd hB ho hs ha hO
      have h9 := a1
      unfold execOp
      go_simp
    · -- 6
      obtain rfl := Option.some.inj ho
      refine .value W ?_ (Below.refl _ _)
      generalize hA : (puts ds L _).eval = ρ
      have hc : ∀ v, ρ (.const v) = v := fun v => by rw [← hA]; rfl
      have hg : ∀ g, ρ (.func g) = .func (.func g) #[] #[] := fun v => by rw [← hA]; rfl
      have h0 : ρ (.tmp 52) = .float .f64 ax := by rw [← hA]; exact puts_get 1 ds L _ hap (by rw [hds]; rfl) (hd 1 (by decide +kernel) (by intro al hal; simp only [List.mem_cons, List.not_mem_nil, or_false] at hal; rcases hal with rfl <;> decide)) (show 52 < 72 by decide)
      have h1 : ρ (.tmp 56) = .float .f64 h1 := by rw [← hA]; exact puts_get 5 ds L _ hap (by rw [hds]; rfl) (hd 5 (by decide +kernel) (by intro al hal; simp only [List.mem_cons, List.not_mem_nil, or_false] at hal; rcases hal with rfl <;> decide)) (show 56 < 72 by decide)
      clear hA hd hB ho hs ha hO
      have h9 := a2
      unfold execOp
      go_simp
    · -- 7
      obtain rfl := Option.some.inj ho
      refine .call 34 #[.float .f64 h2] ?_ (BX.out W)
      generalize hA : (puts ds L _).eval = ρ
      have hc : ∀ v, ρ (.const v) = v := fun v => by rw [← hA]; rfl
      have hg : ∀ g, ρ (.func g) = .func (.func g) #[] #[] := fun v => by rw [← hA]; rfl
      have h0 : ρ (.tmp 57) = .float .f64 h2 := by rw [← hA]; exact puts_get 6 ds L _ hap (by rw [hds]; rfl) (hd 6 (by decide +kernel) (by intro al hal; simp only [List.mem_cons, List.not_mem_nil, or_false] at hal; rcases hal with rfl <;> decide)) (show 57 < 72 by decide)
      have hf := Try.func34
      unfold execOp
      go_simp
    · -- 8
      obtain rfl := Option.some.inj ho
      refine .value W ?_ (Below.refl _ _)
      generalize hA : (puts ds L _).eval = ρ
      have hc : ∀ v, ρ (.const v) = v := fun v => by rw [← hA]; rfl
      have hg : ∀ g, ρ (.func g) = .func (.func g) #[] #[] := fun v => by rw [← hA]; rfl
      have h0 : ρ (.tmp 2) = .pointer (some ⟨w.heap.size, 0, none⟩) := by rw [← hA]; exact (puts_old ds L _ (by rw [hds]; decide)).trans rfl
      clear hA hd hB ho hs ha hO
      unfold execOp
      go_simp
    · -- 9
      obtain rfl := Option.some.inj ho
      have b := hB 0 _ _ rfl (by
        intro st hst e
        simp only [List.mem_cons, List.not_mem_nil, or_false] at hst; rcases hst with rfl
        · exact absurd e (show ¬ 2 = 0 by decide))
      have c0 := b.at_ 0 _ rfl
      clear b
      refine .value W ?_ (Below.refl _ _)
      generalize hA : (puts ds L _).eval = ρ
      have hc : ∀ v, ρ (.const v) = v := fun v => by rw [← hA]; rfl
      have hg : ∀ g, ρ (.func g) = .func (.func g) #[] #[] := fun v => by rw [← hA]; rfl
      have h0 : ρ (.tmp 59) = .pointer (some ⟨w.heap.size, 0, none⟩) := by rw [← hA]; exact puts_get 8 ds L _ hap (by rw [hds]; rfl) (hd 8 (by decide +kernel) (by intro al hal; simp only [List.mem_cons, List.not_mem_nil, or_false] at hal; rcases hal with rfl <;> decide)) (show 59 < 72 by decide)
      clear hA hd hB ho hs ha hO
      unfold execOp
      go_simp
    · -- 10
      obtain rfl := Option.some.inj ho
      refine .value W ?_ (Below.refl _ _)
      generalize hA : (puts ds L _).eval = ρ
      have hc : ∀ v, ρ (.const v) = v := fun v => by rw [← hA]; rfl
      have hg : ∀ g, ρ (.func g) = .func (.func g) #[] #[] := fun v => by rw [← hA]; rfl
      have h0 : ρ (.tmp 11) = .float .f64 b := by rw [← hA]; exact (puts_old ds L _ (by rw [hds]; decide)).trans rfl
      clear hA hd hB ho hs ha hO
      unfold execOp
      go_simp
    · -- 11
      obtain rfl := Option.some.inj ho
      refine .value W ?_ (Below.refl _ _)
      generalize hA : (puts ds L _).eval = ρ
      have hc : ∀ v, ρ (.const v) = v := fun v => by rw [← hA]; rfl
      have hg : ∀ g, ρ (.func g) = .func (.func g) #[] #[] := fun v => by rw [← hA]; rfl
      have h0 : ρ (.tmp 60) = .float .f64 ax := by rw [← hA]; exact puts_get 9 ds L _ hap (by rw [hds]; rfl) (hd 9 (by decide +kernel) (by intro al hal; simp only [List.mem_cons, List.not_mem_nil, or_false] at hal; rcases hal with rfl <;> decide)) (show 60 < 72 by decide)
      have h1 : ρ (.tmp 61) = .float .f64 b := by rw [← hA]; exact puts_get 10 ds L _ hap (by rw [hds]; rfl) (hd 10 (by decide +kernel) (by intro al hal; simp only [List.mem_cons, List.not_mem_nil, or_false] at hal; rcases hal with rfl <;> decide)) (show 61 < 72 by decide)
      clear hA hd hB ho hs ha hO
      have h9 := b1
      unfold execOp
      go_simp
    · -- 12
      obtain rfl := Option.some.inj ho
      refine .value W ?_ (Below.refl _ _)
      generalize hA : (puts ds L _).eval = ρ
      have hc : ∀ v, ρ (.const v) = v := fun v => by rw [← hA]; rfl
      have hg : ∀ g, ρ (.func g) = .func (.func g) #[] #[] := fun v => by rw [← hA]; rfl
      have h0 : ρ (.tmp 9) = .float .f64 s := by rw [← hA]; exact (puts_old ds L _ (by rw [hds]; decide)).trans rfl
      clear hA hd hB ho hs ha hO
      unfold execOp
      go_simp
    · -- 13
      obtain rfl := Option.some.inj ho
      refine .value W ?_ (Below.refl _ _)
      generalize hA : (puts ds L _).eval = ρ
      have hc : ∀ v, ρ (.const v) = v := fun v => by rw [← hA]; rfl
      have hg : ∀ g, ρ (.func g) = .func (.func g) #[] #[] := fun v => by rw [← hA]; rfl
      have h0 : ρ (.tmp 62) = .float .f64 j1 := by rw [← hA]; exact puts_get 11 ds L _ hap (by rw [hds]; rfl) (hd 11 (by decide +kernel) (by intro al hal; simp only [List.mem_cons, List.not_mem_nil, or_false] at hal; rcases hal with rfl <;> decide)) (show 62 < 72 by decide)
      have h1 : ρ (.tmp 63) = .float .f64 s := by rw [← hA]; exact puts_get 12 ds L _ hap (by rw [hds]; rfl) (hd 12 (by decide +kernel) (by intro al hal; simp only [List.mem_cons, List.not_mem_nil, or_false] at hal; rcases hal with rfl <;> decide)) (show 63 < 72 by decide)
      clear hA hd hB ho hs ha hO
      have h9 := b2
      unfold execOp
      go_simp
    · -- 14
      obtain rfl := Option.some.inj ho
      refine .call 34 #[.float .f64 j2] ?_ (BY.out W)
      generalize hA : (puts ds L _).eval = ρ
      have hc : ∀ v, ρ (.const v) = v := fun v => by rw [← hA]; rfl
      have hg : ∀ g, ρ (.func g) = .func (.func g) #[] #[] := fun v => by rw [← hA]; rfl
      have h0 : ρ (.tmp 64) = .float .f64 j2 := by rw [← hA]; exact puts_get 13 ds L _ hap (by rw [hds]; rfl) (hd 13 (by decide +kernel) (by intro al hal; simp only [List.mem_cons, List.not_mem_nil, or_false] at hal; rcases hal with rfl <;> decide)) (show 64 < 72 by decide)
      have hf := Try.func34
      unfold execOp
      go_simp
    · -- 15
      obtain rfl := Option.some.inj ho
      refine .value W ?_ (Below.refl _ _)
      generalize hA : (puts ds L _).eval = ρ
      have hc : ∀ v, ρ (.const v) = v := fun v => by rw [← hA]; rfl
      have hg : ∀ g, ρ (.func g) = .func (.func g) #[] #[] := fun v => by rw [← hA]; rfl
      have h0 : ρ (.tmp 58) = .float .f64 y1 := by rw [← hA]; exact puts_get 7 ds L _ hap (by rw [hds]; rfl) (hd 7 (by decide +kernel) (by intro al hal; simp only [List.mem_cons, List.not_mem_nil, or_false] at hal; rcases hal with rfl <;> decide)) (show 58 < 72 by decide)
      have h1 : ρ (.tmp 65) = .float .f64 y2 := by rw [← hA]; exact puts_get 14 ds L _ hap (by rw [hds]; rfl) (hd 14 (by decide +kernel) (by intro al hal; simp only [List.mem_cons, List.not_mem_nil, or_false] at hal; rcases hal with rfl <;> decide)) (show 65 < 72 by decide)
      clear hA hd hB ho hs ha hO
      unfold execOp
      go_simp
    · -- 16
      exact absurd rfl (ha _ (List.mem_cons_self ..))
    · -- 17
      exact absurd rfl (hs _ (List.mem_cons_self ..))
  case store =>
    intro st hst L W o h us ho hd hal hC b
    simp only [List.mem_cons, List.not_mem_nil, or_false] at hst; rcases hst with rfl
    · dsimp only at ho hd hal hC b ⊢
      obtain rfl := Option.some.inj ho
      obtain ⟨hl, rfl⟩ := hal _ (List.mem_cons_self ..) rfl
      have c0 := b.at_ 0 _ rfl
      have f0 := b.fr 0 _ rfl
      have c1 := b.at_ 1 _ rfl
      have f1 := b.fr 1 _ rfl
      have c2 := b.at_ 2 _ rfl
      have f2 := b.fr 2 _ rfl
      refine ⟨?_, rfl⟩
      generalize hA : (puts ds L _).eval = ρ
      have h0 : ρ (.tmp 12) = .pointer (some ⟨h, 0, none⟩) := by rw [← hA]; exact puts_get 16 ds L _ hap (by rw [hds]; rfl) hl (show 12 < 72 by decide)
      have h1 : ρ (.tmp 66) = .agg #[.float .f64 y1, .float .f64 y2, .float .f64 0] := by rw [← hA]; exact puts_get 15 ds L _ hap (by rw [hds]; rfl) (hd 15 (by decide +kernel) (by intro al hal; simp only [List.mem_cons, List.not_mem_nil, or_false] at hal; rcases hal with rfl <;> decide)) (show 66 < 72 by decide)
      have hst' := @fstore
      clear hA hd b ho hal hC
      simp only [putV]
      unfold execOp
      go_simp
  case fin =>
    intro hf W0 K
    rw [hds]
    clear hds hap ds BX BY CM CS CB
    (try dsimp only at K)
    generalize hf 16 = gm at *
    (try unfold ptrV)
    simp only [List.set_cons_zero, List.set_cons_succ, puts, Act.put, List.setIfInBounds_toArray]
    have c0_0 := (K.at_ 0 rfl).at_ 0 _ rfl
    have c0_1 := (K.at_ 0 rfl).at_ 1 _ rfl
    have c0_2 := (K.at_ 0 rfl).at_ 2 _ rfl
    have c0_3 := (K.at_ 0 rfl).at_ 3 _ rfl
    have c0_4 := (K.at_ 0 rfl).at_ 4 _ rfl
    have c0_5 := (K.at_ 0 rfl).at_ 5 _ rfl
    have c0_6 := (K.at_ 0 rfl).at_ 6 _ rfl
    have c2_0 := (K.at_ 2 rfl).at_ 0 _ rfl
    have c2_1 := (K.at_ 2 rfl).at_ 1 _ rfl
    have c2_2 := (K.at_ 2 rfl).at_ 2 _ rfl
    replace K := Lib.hid K
    go_wp2_with fail
    replace K := K.out
    refine (CT.out W0).mono ?_
    rintro _ v1 ⟨rfl, hb⟩
    clear c0_0 c0_1 c0_2 c0_3 c0_4 c0_5 c0_6 c2_0 c2_1 c2_2
    replace K := K.on hb
    clear hb
    have c1_0 := (K.at_ 1 rfl).at_ 0 _ rfl
    have f1_0 := (K.at_ 1 rfl).fr 0 _ rfl
    have c1_1 := (K.at_ 1 rfl).at_ 1 _ rfl
    have f1_1 := (K.at_ 1 rfl).fr 1 _ rfl
    have c1_2 := (K.at_ 1 rfl).at_ 2 _ rfl
    have f1_2 := (K.at_ 1 rfl).fr 2 _ rfl
    replace K := Lib.hid K
    go_wp2_with fail
    replace K := K.out
    (try simp only [Exit.inBlock, Exit.then])
    refine bodyPost_ret (v := .tuple #[.agg #[.float .f64 q1, .float .f64 q2, .float .f64 q3], .int .i64 k]) ?_ rfl ⟨rfl, ?_⟩
    · rw [results_cell_tmp rfl]; go_simp
    · exact (((K.old).setCell (by first | exact Nat.le_refl _ | (dsimp only; omega)) _).setCell (by first | exact Nat.le_refl _ | (dsimp only; omega)) _).setCell (by first | exact Nat.le_refl _ | (dsimp only; omega)) _
set_option maxHeartbeats 4000000 in
set_option maxRecDepth 100000 in
theorem oat_no {ax ec ti no pe ph ra d : Nat} {k : Int} (t : (k != 0) = true) (CM : Hid (∀ w, Calls Try.prog 11 #[.agg #[.float .f64 ax, .float .f64 ec, .float .f64 ti, .float .f64 no, .float .f64 pe, .float .f64 ph, .float .f64 ra], .float .f64 d] w fun e w' => e = .returned (.tuple #[.float .f64 0, .int .i64 k]) ∧ Below w.heap.size w w')) (w : World) : Calls Try.prog 16 #[.agg #[.float .f64 ax, .float .f64 ec, .float .f64 ti, .float .f64 no, .float .f64 pe, .float .f64 ph, .float .f64 ra], .float .f64 d] w fun e w' => e = .returned (.tuple #[.agg #[.float .f64 0, .float .f64 0, .float .f64 0], .int .i64 k]) ∧ Below w.heap.size w w' := by
  have K0 := kv2 w 24 33 [.float .f64 ax, .float .f64 ec, .float .f64 ti, .float .f64 no, .float .f64 pe, .float .f64 ph, .float .f64 ra] [.float .f64 0, .float .f64 0, .float .f64 0]
  simp only [objV] at K0
  have hst := @fstore
  replace K0 := Lib.hid K0
  go_enter Try.func16, Try.ntmps16
  go_wp2_with fail
  have K := K0.out
  clear K0
  generalize (w.alloc _).alloc _ = wr at *
  refine (CM.out wr).mono ?_
  rintro _ v1 ⟨rfl, hb⟩
  replace K := K.on hb
  clear hb
  have c1_0 := (K.at_ 1 rfl).at_ 0 _ rfl
  have f1_0 := (K.at_ 1 rfl).fr 0 _ rfl
  have c1_1 := (K.at_ 1 rfl).at_ 1 _ rfl
  have f1_1 := (K.at_ 1 rfl).fr 1 _ rfl
  have c1_2 := (K.at_ 1 rfl).at_ 2 _ rfl
  have f1_2 := (K.at_ 1 rfl).fr 2 _ rfl
  replace K := Lib.hid K
  go_wp2_with fail
  replace K := K.out
  (try simp only [Exit.inBlock, Exit.then])
  refine bodyPost_ret (v := .tuple #[.agg #[.float .f64 0, .float .f64 0, .float .f64 0], .int .i64 k]) ?_ rfl ⟨rfl, ?_⟩
  · rw [results_cell_tmp rfl]; go_simp
  · exact (((K.old).setCell (by first | exact Nat.le_refl _ | (dsimp only; omega)) _).setCell (by first | exact Nat.le_refl _ | (dsimp only; omega)) _).setCell (by first | exact Nat.le_refl _ | (dsimp only; omega)) _
set_option maxHeartbeats 4000000 in
set_option maxRecDepth 100000 in
theorem oat_run {o : Ob} {d : Nat} (h : ObW o) (hd : d < 18446744073709551616) (w : World) : Calls Try.prog 16 #[obV o, .float .f64 d] w fun e w' => e = .returned (vecE (atR o d).1 (atR o d).2) ∧ Below w.heap.size w w' := by
  have CM := Lib.hid (fun w => omean_run h hd w)
  unfold meanR at CM
  unfold atR
  by_cases c : readyO o (witB g24 d) = 0
  · rw [if_pos c] at CM ⊢
    obtain ⟨m, t⟩ := readyO_zero c
    have hO := mayO_of m
    have S := at_of h hO hd t
    have CS := Lib.hid (fun w => osolve_run h.ec S.lt w)
    unfold solR at CS
    rw [if_pos hO.ec, if_pos S.ha] at CS
    obtain ⟨s, c', T, CB⟩ := uboth_ok S.ang.fin.1 S.er
    obtain ⟨e1, e2⟩ := tS_eq T
    have Pl := S.pla
    have hw := S.w
    unfold plaV at hw ⊢
    have CT := fun w => oturned_run h hO hw w
    have BX := Lib.hid (fun w => obroughtB Pl.fx w)
    have BY := Lib.hid (fun w => obroughtB Pl.fy w)
    have rx1 := run_sub _ _ _ Pl.x1
    have rx2 := run_mul _ _ _ Pl.x2
    have ry1 := run_mul _ _ _ Pl.y1
    have ry2 := run_mul _ _ _ Pl.y2
    rw [e1, e2] at *
    exact oat_ok CM CS (Lib.hid CB) (run_mul _ _ _ S.roo.m) (run_sub _ _ _ S.roo.s) (fun w => sqrt_any _ _ S.roo.r w) rx1 rx2 ry1 ry2 BX BY (Lib.hid CT) w
  · rw [if_neg c] at CM ⊢
    exact oat_no (by simpa using c) CM w
end Go.Proofs.Ytkpdnhbifokhlaa
