/- Proved here: what the texts Wvj, Wvm, Wvt prove, one behind the other. -/
import Derived.Test.YtgnofnjbmiepjaaGreatJw2
import Derived.Test.YtgnofnjbmiepjaaGreatJy6
import Derived.Test.YtgnofnjbmiepjaaGreatJw4
import Derived.Test.YtgnofnjbmiepjaaGreatJz3

set_option maxRecDepth 100000
set_option maxHeartbeats 4000000
namespace Go.Proofs.YtgnofnjbmiepjaaGreat
open Go.ChangeShapes Go.WideShapes Go.ChangeAt Go.RowKit Go.Deep Ieee.Own

theorem recW : RecT 22 41 5 40 (.agg #[.int .i64 0, .int .i64 0, .float .f64 0, .float .f64 0, .float .f64 0]) := ⟨Tryz.underlying22, by kernel_rfl, rfl, by decide⟩
theorem array5 {α : Type} {cs : List α} (h : cs.length = 5) : ∃ c0 c1 c2 c3 c4, cs = [c0, c1, c2, c3, c4] := by
 match cs, h with
 | [c0, c1, c2, c3, c4], _ => exact ⟨c0, c1, c2, c3, c4, rfl⟩
theorem wv_cells {H : Type} {enc : TypeId × Value → H} {W : World} (n : Nat) (cs : List Value) (y : DataW H × List MemPlace) (hl : cs.length = 5)
 (h : DataW.trod enc Tryz.prog W 0 (fun _ => true) true n 41 cs = some y) : ∃ f : Wv, cs = wvC f ∧ WvW f := by
 obtain ⟨c0, c1, c2, c3, c4, rfl⟩ := array5 hl
 obtain ⟨xs, n', -, -, -, hx0, hf⟩ := DataW.trod_struct Tryz.underlying41 h
 have e1 : Tryz.prog.cellsOf 3 = 1 := by kernel_rfl
 have e2 : Tryz.prog.cellsOf 23 = 1 := by kernel_rfl
 have key : ∀ {t : TypeId} {k m : Nat} {cs' : List Value} {z : Option (DataW H × List MemPlace)}, Tryz.prog.cellsOf t = m → (([c0, c1, c2, c3, c4].drop k).take m) = cs' → m ≤ cs'.length → 0 < m → z = DataW.trod enc Tryz.prog W 0 (fun _ => true) true n' t (([c0, c1, c2, c3, c4].drop k).take (Tryz.prog.cellsOf t)) → (∃ q, z = some q) → ∃ q, DataW.trod enc Tryz.prog W 0 (fun _ => true) true n' t cs' = some q := fun h1 h2 _ _ h3 h4 => by
  rw [h1, h2] at h3
  obtain ⟨q, hq⟩ := h4
  exact ⟨q, by rw [← h3, hq]⟩
 have hx : xs.length = 5 := hx0
 have g0 := hf 0 _ rfl
 have g1 := hf 1 _ rfl
 have g2 := hf 2 _ rfl
 have g3 := hf 3 _ rfl
 have g4 := hf 4 _ rfl
 obtain ⟨q0, h0⟩ := key (k := 0) (m := 1) (cs' := [c0]) e1 rfl (by simp) (by omega) g0.symm ⟨_, List.getElem?_eq_getElem (by omega)⟩
 obtain ⟨q1, h1⟩ := key (k := 1) (m := 1) (cs' := [c1]) e1 rfl (by simp) (by omega) g1.symm ⟨_, List.getElem?_eq_getElem (by omega)⟩
 obtain ⟨q2, h2⟩ := key (k := 2) (m := 1) (cs' := [c2]) e2 rfl (by simp) (by omega) g2.symm ⟨_, List.getElem?_eq_getElem (by omega)⟩
 obtain ⟨q3, h3⟩ := key (k := 3) (m := 1) (cs' := [c3]) e2 rfl (by simp) (by omega) g3.symm ⟨_, List.getElem?_eq_getElem (by omega)⟩
 obtain ⟨q4, h4⟩ := key (k := 4) (m := 1) (cs' := [c4]) e2 rfl (by simp) (by omega) g4.symm ⟨_, List.getElem?_eq_getElem (by omega)⟩
 obtain ⟨a, ha, -⟩ := DataW.trod_int Tryz.underlying3 h0
 obtain ⟨b, hb, -⟩ := DataW.trod_int Tryz.underlying3 h1
 simp only [List.cons.injEq, and_true] at ha hb
 subst ha hb
 obtain ⟨p, rfl, hp⟩ := float_cell Tryz.underlying23 h2
 obtain ⟨q, rfl, hq⟩ := float_cell Tryz.underlying23 h3
 obtain ⟨r, rfl, hr⟩ := float_cell Tryz.underlying23 h4
 exact ⟨⟨a, b, p, q, r⟩, rfl, hp, hq, hr⟩
theorem open_waves {H : Type} {enc : TypeId × Value → H} {W : World} {v : Value} {d : DataW H} {ps : List MemPlace}
 (hval : ∃ ao n c, v = .slice ao n c) (h : DataW.Trod enc Tryz.prog W 0 (fun _ => true) true 22 v d ps) :
 ∃ ao cap L, v = .slice ao (List.length L) cap ∧ L.length ≤ cap ∧ cap ≤ maxLen ∧ VAt W ao L ∧ WvsW L ∧ ((ao = none ∧ cap = 0) ∨ ((∃ a, ao = some a) ∧ ∃ es sp : List (DataW H), d = .slice es sp ∧ es.length + sp.length = cap)) := by
 obtain ⟨ao, cap, R, h1, h2, h3, h4, h5, h6⟩ := open_rows (m := 5) (fun cs => ∃ f : Wv, cs = wvC f ∧ WvW f) Tryz.underlying22 (by kernel_rfl) (by omega) (fun n cs y hl hy => wv_cells n cs y hl hy) hval h
 have : ∃ L : List Wv, R = L.map wvC ∧ WvsW L := by
  clear h1 h2 h3 h4 h6
  induction R with
  | nil => exact ⟨[], rfl, fun f hf => by cases hf⟩
  | cons r R ih =>
    obtain ⟨L, rfl, hL⟩ := ih (fun x hx => h5 x (List.mem_cons_of_mem _ hx))
    obtain ⟨⟨f, rfl, hf⟩, -⟩ := h5 r (List.mem_cons_self ..)
    exact ⟨f :: L, rfl, fun g hg => by
        rcases List.mem_cons.1 hg with rfl | hg
        · exact hf
        · exact hL g hg⟩
 obtain ⟨L, rfl, hL⟩ := this
 rw [List.length_map] at h1 h2
 exact ⟨ao, cap, L, h1, h2, h3, h4, hL, h6⟩
def awW12 : Wv := ⟨1, 0, 4613937818241073152, 0, 0⟩
def halfW12 : Nat := 4602678819172646912
theorem zero_trig : Trig 0 0 oneW := by
 refine ⟨⟨0, ⟨⟨zero_fin, by omega⟩, by decide +kernel⟩, by decide +kernel, by decide +kernel⟩, ⟨zero_fin, by omega⟩, ⟨one_wd.fin, by unfold oneW; omega⟩⟩
theorem aw12_at : atV [awW12] halfW12 = ((0, 4613937818241073152, 0), 0) := by
 have e1 : readyV [awW12] (witB g24 halfW12) = 0 := by decide +kernel
 have e2 : angW awW12.fr halfW12 = 0 := by decide +kernel
 have e3 : amc awW12 halfW12 = 4613937818241073152 := by
  unfold amc cosW'
  rw [e2, (tS_eq zero_trig).2]
  decide +kernel
 have e4 : hgt awW12 halfW12 = 4613937818241073152 := by
  unfold hgt
  rw [e3]
  rfl
 have e5 : sumW halfW12 [awW12] z3 = (0, 4613937818241073152, 0) := by
  unfold sumW
  rw [e4]
  unfold sumW
  decide +kernel
 unfold atV
 rw [if_pos e1, e5]
 decide +kernel
theorem awake12 (w : World) : Calls Tryz.prog 4 #[] w fun e w' => e = .returned (.bool true) ∧ Below w.heap.size w w' := by
 have C : Hid (∀ W ao, VAt W ao [awW12] → Calls Tryz.prog 10 #[.slice ao 1 1, .float .f64 4602678819172646912] W fun e w' => e = .returned (.tuple #[.agg #[.float .f64 0, .float .f64 4613937818241073152, .float .f64 0], .int .i64 0]) ∧ Below W.heap.size W w') :=
  Lib.hid fun W ao ha => by
   have hW : WvsW [awW12] := fun f hf => by rw [List.mem_singleton.1 hf]; exact ⟨by decide, by decide, by decide⟩
   have := wat_run ao 1 1 halfW12 W (L := [awW12]) rfl (by omega) hW ha (by unfold halfW12; omega)
   rw [aw12_at] at this
   exact this
 have t2 : (FloatKind.f64.format.order 4613937818241073152 4613937818241073152 == some Ordering.eq) = true := by decide +kernel
 have t3 : (FloatKind.f64.format.order 0 0 == some Ordering.eq) = true := by decide +kernel
 have hst := @fstore
 have heq := feq_run
 have B := BV.box w 41 (wvC awW12)
 have b1 := (Below.refl w.heap.size w).alloc (Nat.le_refl _) (objV 41 (wvC awW12))
 have FA : VAt (w.alloc (objV 41 (wvC awW12))) (some ⟨w.heap.size, 0, none⟩) [awW12] := by
  intro j r hj
  have j0 : j = 0 := by
   have := (List.getElem?_eq_some_iff.1 hj).1
   simpa using this
  subst j0
  simp at hj
  subst hj
  refine ⟨_, _, rfl, B.lt, fun k u hu => ?_⟩
  rw [Nat.zero_mul, Nat.zero_add]
  exact B.at_ k u hu
 have C1 := Lib.hid (C.out _ _ FA)
 clear C B FA
 replace b1 := Lib.hid b1
 go_enter Tryz.func4, Tryz.ntmps4
 go_wp2_with fail
 refine C1.out.mono ?_
 rintro _ w2 ⟨rfl, hb⟩
 replace hb := Lib.hid (b1.out.trans (hb.mono b1.out.size))
 clear C1 b1
 go_wp2_with fail
 go_ret
 exact ⟨rfl, hb.out.alloc (hb.out.size) _⟩
end Go.Proofs.YtgnofnjbmiepjaaGreat

namespace Go.Proofs.YtgnofnjbmiepjaaGreat
open Go.ChangeShapes Go.WideShapes Go.ChangeAt Go.RowKit Ieee.Own Pol

theorem rwit12_40 (x : Nat) (hx : x < 18446744073709551616) (w : World) :
 Calls Tryz.prog 38 #[.float .f64 x, .float .f64 4787326403894837248] w fun e w' => e = .returned (.bool (witB g40 x)) ∧ w = w' := by
 have CF := fun w => rfit_any x hx w
 have g1 := o_leq x 4787326403894837248 hx (by omega)
 have g2 := o_geq x 14010698440749613056 hx (by omega)
 have hneg : ∀ w, (Op.unary .neg (.float .f64 4787326403894837248)).run Tryz.prog w = .ok (.float .f64 14010698440749613056) w := fun w => rfl
 by_cases h1 : fitB x = true
 · have fn := fit_fin hx h1
   have m := fn.2
   rw [h1] at CF
   have n1 : nn x := fin_nn fn
   have n2 : nn 4787326403894837248 := by unfold nn; omega
   have n3 : nn 14010698440749613056 := by unfold nn; omega
   have k2 : key64 4787326403894837248 = 4787326403894837248 := by decide
   have k3 : key64 14010698440749613056 = -4787326403894837248 := by decide
   rw [k2] at g1
   rw [k3] at g2
   have kx : key64 x = if x < 9223372036854775808 then (x : Int) else 9223372036854775808 - (x : Int) := rfl
   by_cases c1 : key64 x ≤ 4787326403894837248
   · rw [decide_eq_true ⟨n1, n2, c1⟩] at g1
     by_cases c2 : -4787326403894837248 ≤ key64 x
     · have e : witB g40 x = true := by unfold witB g40; rw [decide_eq_true_eq]; exact ⟨h1, by split at kx <;> omega⟩
       rw [e]
       rw [decide_eq_true ⟨n1, n3, c2⟩] at g2
       clear hx h1 fn m e n1 n2 n3 k2 k3 kx c1 c2
       go_enter Tryz.func38, Tryz.ntmps38
       go_wp2_with (go_at_call 71; ((with_reducible refine (CF _).mono ?_); rintro e w' ⟨rfl, rfl⟩))
       go_ret
       exact ⟨rfl, rfl⟩
     · have e : witB g40 x = false := by unfold witB g40; rw [decide_eq_false_iff_not]; exact fun h => by have := h.2; split at kx <;> omega
       rw [e]
       rw [decide_eq_false (fun h => c2 h.2.2)] at g2
       clear hx h1 fn m e n1 n2 n3 k2 k3 kx c1 c2
       go_enter Tryz.func38, Tryz.ntmps38
       go_wp2_with (go_at_call 71; ((with_reducible refine (CF _).mono ?_); rintro e w' ⟨rfl, rfl⟩))
       go_ret
       exact ⟨rfl, rfl⟩
   · have e : witB g40 x = false := by unfold witB g40; rw [decide_eq_false_iff_not]; exact fun h => by have := h.2; split at kx <;> omega
     rw [e]
     rw [decide_eq_false (fun h => c1 h.2.2)] at g1
     clear hx h1 fn m e n1 n2 n3 k2 k3 kx c1 g2
     go_enter Tryz.func38, Tryz.ntmps38
     go_wp2_with (go_at_call 71; ((with_reducible refine (CF _).mono ?_); rintro e w' ⟨rfl, rfl⟩))
     go_ret
     exact ⟨rfl, rfl⟩
 · have e : witB g40 x = false := by unfold witB; rw [decide_eq_false_iff_not]; exact fun h => h1 h.1
   rw [Bool.not_eq_true] at h1
   rw [h1] at CF
   rw [e]
   clear hx h1 e g1 g2 hneg
   go_enter Tryz.func38, Tryz.ntmps38
   go_wp2_with (go_at_call 71; ((with_reducible refine (CF _).mono ?_); rintro e w' ⟨rfl, rfl⟩))
   go_ret
   exact ⟨rfl, rfl⟩
theorem rwit12_10 (x : Nat) (hx : x < 18446744073709551616) (w : World) :
 Calls Tryz.prog 38 #[.float .f64 x, .float .f64 4652218415073722368] w fun e w' => e = .returned (.bool (witB g10 x)) ∧ w = w' := by
 have CF := fun w => rfit_any x hx w
 have g1 := o_leq x 4652218415073722368 hx (by omega)
 have g2 := o_geq x 13875590451928498176 hx (by omega)
 have hneg : ∀ w, (Op.unary .neg (.float .f64 4652218415073722368)).run Tryz.prog w = .ok (.float .f64 13875590451928498176) w := fun w => rfl
 by_cases h1 : fitB x = true
 · have fn := fit_fin hx h1
   have m := fn.2
   rw [h1] at CF
   have n1 : nn x := fin_nn fn
   have n2 : nn 4652218415073722368 := by unfold nn; omega
   have n3 : nn 13875590451928498176 := by unfold nn; omega
   have k2 : key64 4652218415073722368 = 4652218415073722368 := by decide
   have k3 : key64 13875590451928498176 = -4652218415073722368 := by decide
   rw [k2] at g1
   rw [k3] at g2
   have kx : key64 x = if x < 9223372036854775808 then (x : Int) else 9223372036854775808 - (x : Int) := rfl
   by_cases c1 : key64 x ≤ 4652218415073722368
   · rw [decide_eq_true ⟨n1, n2, c1⟩] at g1
     by_cases c2 : -4652218415073722368 ≤ key64 x
     · have e : witB g10 x = true := by unfold witB g10; rw [decide_eq_true_eq]; exact ⟨h1, by split at kx <;> omega⟩
       rw [e]
       rw [decide_eq_true ⟨n1, n3, c2⟩] at g2
       clear hx h1 fn m e n1 n2 n3 k2 k3 kx c1 c2
       go_enter Tryz.func38, Tryz.ntmps38
       go_wp2_with (go_at_call 71; ((with_reducible refine (CF _).mono ?_); rintro e w' ⟨rfl, rfl⟩))
       go_ret
       exact ⟨rfl, rfl⟩
     · have e : witB g10 x = false := by unfold witB g10; rw [decide_eq_false_iff_not]; exact fun h => by have := h.2; split at kx <;> omega
       rw [e]
       rw [decide_eq_false (fun h => c2 h.2.2)] at g2
       clear hx h1 fn m e n1 n2 n3 k2 k3 kx c1 c2
       go_enter Tryz.func38, Tryz.ntmps38
       go_wp2_with (go_at_call 71; ((with_reducible refine (CF _).mono ?_); rintro e w' ⟨rfl, rfl⟩))
       go_ret
       exact ⟨rfl, rfl⟩
   · have e : witB g10 x = false := by unfold witB g10; rw [decide_eq_false_iff_not]; exact fun h => by have := h.2; split at kx <;> omega
     rw [e]
     rw [decide_eq_false (fun h => c1 h.2.2)] at g1
     clear hx h1 fn m e n1 n2 n3 k2 k3 kx c1 g2
     go_enter Tryz.func38, Tryz.ntmps38
     go_wp2_with (go_at_call 71; ((with_reducible refine (CF _).mono ?_); rintro e w' ⟨rfl, rfl⟩))
     go_ret
     exact ⟨rfl, rfl⟩
 · have e : witB g10 x = false := by unfold witB; rw [decide_eq_false_iff_not]; exact fun h => h1 h.1
   rw [Bool.not_eq_true] at h1
   rw [h1] at CF
   rw [e]
   clear hx h1 e g1 g2 hneg
   go_enter Tryz.func38, Tryz.ntmps38
   go_wp2_with (go_at_call 71; ((with_reducible refine (CF _).mono ?_); rintro e w' ⟨rfl, rfl⟩))
   go_ret
   exact ⟨rfl, rfl⟩
theorem rcheck12_run (ao : Option Addr) (cap n : Nat) (L : List Wv) (w : World) (hn : n = L.length) (hm : n ≤ 4611686018427387904) (hW : WvsW L) (ha : VAt w ao L) :
 Calls Tryz.prog 16 #[.slice ao n cap] w fun e w' => e = .returned (.int .i64 (chkV L)) ∧ Below w.heap.size w w' := by
 by_cases hl : 32 < n
 · have t1 : decide (32 < n) = true := decide_eq_true hl
   rw [chkV_long (by omega)]
   clear hn ha hW
   go_enter Tryz.func16, Tryz.ntmps16
   go_wp2_with fail
   go_ret
   exact ⟨rfl, Below.refl _ _⟩
 · have t1 : decide (32 < n) = false := decide_eq_false hl
   replace hn := Lib.hid hn
   replace ha := Lib.hid ha
   replace hW := Lib.hid hW
   obtain ⟨V, hV⟩ : ∃ V, V = chkV L := ⟨_, rfl⟩
   rw [← hV]
   replace hV := Lib.hid hV
   go_enter Tryz.func16, Tryz.ntmps16
   go_wp2_with fail
   go_loopw [3] (fun iv wr => ∃ i : Nat, i ≤ n ∧ iv = .int .i64 i ∧ (∀ j, j < i → mayW (wvAt L j) = true) ∧ Below w.heap.size w wr) (fun iv _ => n - (intOf iv).toNat)
   case atStart => exact ⟨0, Nat.zero_le _, rfl, fun j hj => by omega, Below.refl _ _⟩
   case round =>
    obtain ⟨i, hi, rfl, ho, hb⟩ := hrel
    by_cases hlt : i < n
    · have hil : i < L.length := by have := hn.out; omega
      obtain ⟨b, o, rfl, hbl, c0, c1, c2, c3, c4⟩ := VAt.cells (ha.out.below (fun b o e _ => ha.out.lt b o e (by simp; omega)) hb) hil
      have fw := hW.out _ (wv_mem hil)
      have C0 := fun w => rwit12_40 (wvAt L i).am fw.am w
      have C1 := fun w => rwit12_10 (wvAt L i).ph fw.ph w
      have C2 := fun w => rwit12_10 (wvAt L i).rt fw.rt w
      have bad : Hid (mayW (wvAt L i) = false → V = 120) := fun h => by rw [hV.out]; exact chkV_bad (by have := hn.out; omega) hil h
      have good : Hid (mayW (wvAt L i) = true → ∀ j, j < i + 1 → mayW (wvAt L j) = true) := fun h j hj => by
       by_cases e : j < i
       · exact ho j e
       · have e : j = i := by omega
         rw [e]; exact h
      have em : mayW (wvAt L i) = (decide (0 ≤ (wvAt L i).ax) && (decide ((wvAt L i).ax ≤ 2) && (decide (0 ≤ (wvAt L i).pw) && (decide ((wvAt L i).pw ≤ 2) && (witB g40 (wvAt L i).am && (witB g10 (wvAt L i).ph && witB g10 (wvAt L i).rt)))))) := rfl
      clear fw ho
      generalize mayW (wvAt L i) = mb at *
      generalize witB g40 (wvAt L i).am = b0 at *
      generalize witB g10 (wvAt L i).ph = b1 at *
      generalize witB g10 (wvAt L i).rt = b2 at *
      generalize wvAt L i = f at *
      obtain ⟨ax, pw, am, ph, rt⟩ := f
      dsimp only at *
      have B1 := Lib.hid (hb.alloc hb.size (.cells #[.int .i64 ax, .int .i64 pw, .float .f64 am, .float .f64 ph, .float .f64 rt] 41))
      replace hb := Lib.hid hb
      clear hbl
      have hst := @fstore
      by_cases h0 : ax < 0
      · have e : mb = false := by rw [em, decide_eq_false (show ¬ 0 ≤ ax by omega)]; rfl
        have t0 := decide_eq_true h0
        replace bad := Lib.hid (bad.out e)
        clear good e em
        go_wp2_with (first | (go_at_call 38; ((with_reducible refine (C0 _).mono ?_); rintro e w' ⟨rfl, rfl⟩)) | (go_at_call 38; ((with_reducible refine (C1 _).mono ?_); rintro e w' ⟨rfl, rfl⟩)) | (go_at_call 38; ((with_reducible refine (C2 _).mono ?_); rintro e w' ⟨rfl, rfl⟩)))
        go_ret
        exact ⟨ret_iV bad.out.symm, B1.out⟩
      · have t0 := decide_eq_false h0
        by_cases h1 : 2 < ax
        · have e : mb = false := by rw [em, decide_eq_true (show 0 ≤ ax by omega), decide_eq_false (show ¬ ax ≤ 2 by omega)]; rfl
          have t1 := decide_eq_true h1
          replace bad := Lib.hid (bad.out e)
          clear good e em
          go_wp2_with (first | (go_at_call 38; ((with_reducible refine (C0 _).mono ?_); rintro e w' ⟨rfl, rfl⟩)) | (go_at_call 38; ((with_reducible refine (C1 _).mono ?_); rintro e w' ⟨rfl, rfl⟩)) | (go_at_call 38; ((with_reducible refine (C2 _).mono ?_); rintro e w' ⟨rfl, rfl⟩)))
          go_ret
          exact ⟨ret_iV bad.out.symm, B1.out⟩
        · have t1 := decide_eq_false h1
          by_cases h2 : pw < 0
          · have e : mb = false := by rw [em, decide_eq_true (show 0 ≤ ax by omega), decide_eq_true (show ax ≤ 2 by omega), decide_eq_false (show ¬ 0 ≤ pw by omega)]; rfl
            have t2 := decide_eq_true h2
            replace bad := Lib.hid (bad.out e)
            clear good e em
            go_wp2_with (first | (go_at_call 38; ((with_reducible refine (C0 _).mono ?_); rintro e w' ⟨rfl, rfl⟩)) | (go_at_call 38; ((with_reducible refine (C1 _).mono ?_); rintro e w' ⟨rfl, rfl⟩)) | (go_at_call 38; ((with_reducible refine (C2 _).mono ?_); rintro e w' ⟨rfl, rfl⟩)))
            go_ret
            exact ⟨ret_iV bad.out.symm, B1.out⟩
          · have t2 := decide_eq_false h2
            by_cases h3 : 2 < pw
            · have e : mb = false := by rw [em, decide_eq_true (show 0 ≤ ax by omega), decide_eq_true (show ax ≤ 2 by omega), decide_eq_true (show 0 ≤ pw by omega), decide_eq_false (show ¬ pw ≤ 2 by omega)]; rfl
              have t3 := decide_eq_true h3
              replace bad := Lib.hid (bad.out e)
              clear good e em
              go_wp2_with (first | (go_at_call 38; ((with_reducible refine (C0 _).mono ?_); rintro e w' ⟨rfl, rfl⟩)) | (go_at_call 38; ((with_reducible refine (C1 _).mono ?_); rintro e w' ⟨rfl, rfl⟩)) | (go_at_call 38; ((with_reducible refine (C2 _).mono ?_); rintro e w' ⟨rfl, rfl⟩)))
              go_ret
              exact ⟨ret_iV bad.out.symm, B1.out⟩
            · have t3 := decide_eq_false h3
              cases b0 with
              | false =>
                have e : mb = false := by rw [em, decide_eq_true (show 0 ≤ ax by omega), decide_eq_true (show ax ≤ 2 by omega), decide_eq_true (show 0 ≤ pw by omega), decide_eq_true (show pw ≤ 2 by omega)]; rfl
                replace bad := Lib.hid (bad.out e)
                clear good e em
                go_wp2_with (first | (go_at_call 38; ((with_reducible refine (C0 _).mono ?_); rintro e w' ⟨rfl, rfl⟩)) | (go_at_call 38; ((with_reducible refine (C1 _).mono ?_); rintro e w' ⟨rfl, rfl⟩)) | (go_at_call 38; ((with_reducible refine (C2 _).mono ?_); rintro e w' ⟨rfl, rfl⟩)))
                go_ret
                exact ⟨ret_iV bad.out.symm, B1.out⟩
              | true =>
                cases b1 with
                | false =>
                  have e : mb = false := by rw [em, decide_eq_true (show 0 ≤ ax by omega), decide_eq_true (show ax ≤ 2 by omega), decide_eq_true (show 0 ≤ pw by omega), decide_eq_true (show pw ≤ 2 by omega)]; rfl
                  replace bad := Lib.hid (bad.out e)
                  clear good e em
                  go_wp2_with (first | (go_at_call 38; ((with_reducible refine (C0 _).mono ?_); rintro e w' ⟨rfl, rfl⟩)) | (go_at_call 38; ((with_reducible refine (C1 _).mono ?_); rintro e w' ⟨rfl, rfl⟩)) | (go_at_call 38; ((with_reducible refine (C2 _).mono ?_); rintro e w' ⟨rfl, rfl⟩)))
                  go_ret
                  exact ⟨ret_iV bad.out.symm, B1.out⟩
                | true =>
                  cases b2 with
                  | false =>
                    have e : mb = false := by rw [em, decide_eq_true (show 0 ≤ ax by omega), decide_eq_true (show ax ≤ 2 by omega), decide_eq_true (show 0 ≤ pw by omega), decide_eq_true (show pw ≤ 2 by omega)]; rfl
                    replace bad := Lib.hid (bad.out e)
                    clear good e em
                    go_wp2_with (first | (go_at_call 38; ((with_reducible refine (C0 _).mono ?_); rintro e w' ⟨rfl, rfl⟩)) | (go_at_call 38; ((with_reducible refine (C1 _).mono ?_); rintro e w' ⟨rfl, rfl⟩)) | (go_at_call 38; ((with_reducible refine (C2 _).mono ?_); rintro e w' ⟨rfl, rfl⟩)))
                    go_ret
                    exact ⟨ret_iV bad.out.symm, B1.out⟩
                  | true =>
                    have e : mb = true := by rw [em, decide_eq_true (show 0 ≤ ax by omega), decide_eq_true (show ax ≤ 2 by omega), decide_eq_true (show 0 ≤ pw by omega), decide_eq_true (show pw ≤ 2 by omega)]; rfl
                    replace good := Lib.hid (good.out e)
                    clear bad e em
                    go_wp2_with (first | (go_at_call 38; ((with_reducible refine (C0 _).mono ?_); rintro e w' ⟨rfl, rfl⟩)) | (go_at_call 38; ((with_reducible refine (C1 _).mono ?_); rintro e w' ⟨rfl, rfl⟩)) | (go_at_call 38; ((with_reducible refine (C2 _).mono ?_); rintro e w' ⟨rfl, rfl⟩)))
                    go_roundw
                    case rel => exact ⟨i + 1, hlt, by go_num, good.out, B1.out⟩
                    case measure => simp [intOf]; omega
    · obtain rfl : i = n := by omega
      have hv : V = 0 := by
       rw [hV.out]
       exact chkV_good (by have := hn.out; omega) (fun j hj => ho j (by have := hn.out; omega))
      replace hv := Lib.hid hv
      replace hb := Lib.hid hb
      clear ho
      go_wp2_with fail
      go_ret
      exact ⟨ret_iV hv.out.symm, hb.out⟩
end Go.Proofs.YtgnofnjbmiepjaaGreat

namespace Go.Proofs.YtgnofnjbmiepjaaGreat
open Go.ChangeShapes Go.WideShapes Go.ChangeAt Go.RowKit Ieee.Own Pol

theorem mag_V {x c : Nat} (fx : FinW x) (fc : FinW c) (hc : c < 9223372036854775808) : x % 9223372036854775808 ≤ c ↔ ((V x).natAbs : Int) ≤ V c := by
 obtain ⟨fa, va⟩ := abs_word fx
 have a := le_words fa fc
 have b := o_leq (x % 9223372036854775808) c fa.1 fc.1
 rw [a, va, decide_eq_decide] at b
 have n1 : nn (x % 9223372036854775808) := fin_nn fa
 have n2 : nn c := fin_nn fc
 have k1 := key_low (m := x % 9223372036854775808) (by omega)
 have k2 := key_low (m := c) (by omega)
 rw [k1, k2] at b
 constructor
 · intro h; exact b.2 ⟨n1, n2, by omega⟩
 · intro h; have := (b.1 h).2.2; omega
theorem g24_fin : FinW g24 := by unfold FinW g24; omega
theorem g24_lt : g24 < 9223372036854775808 := by unfold g24; omega
theorem n24_fin : FinW 13938640846711685120 := by unfold FinW; omega
theorem n24_V : V 13938640846711685120 = -V g24 := by decide +kernel
theorem wit_both {a b : Nat} (fa : FinW a) (fb : FinW b) (ga : fitB a = true) (gb : fitB b = true) (h : V a ≤ V b) : (witB g24 a && witB g24 b) = (decide (-V g24 ≤ V a) && decide (V b ≤ V g24)) := by
 have A := mag_V fa g24_fin g24_lt
 have B := mag_V fb g24_fin g24_lt
 unfold witB
 rw [Bool.eq_iff_iff]
 simp only [Bool.and_eq_true, decide_eq_true_eq]
 rw [A, B]
 generalize V g24 = m at *
 constructor
 · rintro ⟨⟨-, h1⟩, -, h2⟩; omega
 · rintro ⟨h1, h2⟩; exact ⟨⟨ga, by omega⟩, gb, by omega⟩
theorem rtimes10_run {p : Pr} (h : W2 p) (w : World) : Calls Tryz.prog 17 #[pv p] w fun e w' => e = .returned (.bool (timB p)) ∧ Below w.heap.size w w' := by
 have C := Lib.hid (fun w => rscheck_run p.1 p.2 h.l1 h.l2 w)
 have hneg : ∀ w, (Op.unary .neg (.float .f64 4715268809856909312)).run Tryz.prog w = .ok (.float .f64 13938640846711685120) w := fun w => rfl
 unfold timB
 by_cases e0 : errS p.1 p.2 = 0
 · obtain ⟨f1, f2, le⟩ := errS_zero e0
   have g1 := fit_fin h.l1 f1
   have g2 := fit_fin h.l2 f2
   have t1 := ge_words g1 n24_fin
   have t2 := le_words g2 g24_fin
   rw [n24_V] at t1
   have wb := wit_both g1 g2 f1 f2 le
   rw [decide_eq_true e0, Bool.true_and, wb]
   rw [e0] at C
   clear wb g1 g2 f1 f2 le e0 h
   generalize decide (-V g24 ≤ V p.1) = b1 at *
   generalize decide (V p.2 ≤ V g24) = b2 at *
   unfold g24 at t2
   obtain ⟨p1, p2⟩ := p
   unfold pv spanV at *
   dsimp only at *
   have K0 := kv1 w 25 [.float .f64 p1, .float .f64 p2]
   simp only [objV] at K0
   have hst := @fstore
   cases b1 <;> cases b2
   all_goals
    replace K0 := Lib.hid K0
    go_enter Tryz.func17, Tryz.ntmps17
    have K := K0.out
    have c0_0 := (K.at_ 0 rfl).at_ 0 _ rfl
    have c0_1 := (K.at_ 0 rfl).at_ 1 _ rfl
    clear K
    go_wp2_with fail
    have K := K0.out
    clear K0
    generalize w.alloc _ = wr at *
    refine (C.out wr).mono ?_
    rintro _ v1 ⟨rfl, hb⟩
    clear c0_0 c0_1
    replace K := K.on hb
    have c0_0 := (K.at_ 0 rfl).at_ 0 _ rfl
    have c0_1 := (K.at_ 0 rfl).at_ 1 _ rfl
    clear hb C
    replace K := Lib.hid K
    go_wp2_with fail
    go_ret
    exact ⟨by first | rfl | trivial, K.out.old⟩
 · have td : (errS p.1 p.2 == 0) = false := by simpa using e0
   rw [decide_eq_false e0, Bool.false_and, Bool.false_and]
   obtain ⟨k, hk⟩ : ∃ k, k = errS p.1 p.2 := ⟨_, rfl⟩
   rw [← hk] at td C e0
   clear hk h
   obtain ⟨p1, p2⟩ := p
   unfold pv spanV at *
   dsimp only at *
   have K0 := kv1 w 25 [.float .f64 p1, .float .f64 p2]
   simp only [objV] at K0
   have hst := @fstore
   replace K0 := Lib.hid K0
   go_enter Tryz.func17, Tryz.ntmps17
   have K := K0.out
   have c0_0 := (K.at_ 0 rfl).at_ 0 _ rfl
   have c0_1 := (K.at_ 0 rfl).at_ 1 _ rfl
   clear K
   go_wp2_with fail
   have K := K0.out
   clear K0
   generalize w.alloc _ = wr at *
   refine (C.out wr).mono ?_
   rintro _ v1 ⟨rfl, hb⟩
   clear c0_0 c0_1
   replace K := Lib.hid (K.on hb)
   clear hb C
   go_wp2_with fail
   go_ret
   exact ⟨by first | rfl | trivial, K.out.old⟩
theorem err_raw {x : Nat} (fx : FinW x) : errS (posW x) (posW x) = errS x x := by
 unfold errS
 rw [fitV_eq (posW_fin fx) fx (posW_V x), posW_V]
theorem mul_raw {x : Nat} {q u : Pr} (fx : FinW x) (h : MulR (ptS7 x) q u) : MulR (x, x) q u := by
 have e : ∀ b, prodC (posW x) b = prodC x b := fun b => by unfold prodC prodN; rw [posW_V]
 unfold MulR ptS7 errSS at *
 dsimp only at *
 rw [err_raw fx] at h
 simp only [e] at h
 exact h
theorem add_raw {x : Nat} {q u : Pr} (fx : FinW x) (h : AddR (ptS7 x) q u) : AddR (x, x) q u := by
 unfold AddR ptS7 errSS at *
 dsimp only at *
 rw [err_raw fx] at h
 simp only [posW_V] at h
 exact h
end Go.Proofs.YtgnofnjbmiepjaaGreat
