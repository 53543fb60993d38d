/- Proved here: what the texts Wvv prove, one behind the other. -/
import Derived.Test.YtgnofnjbmiepjaaGreatJz4
import Derived.Test.YtgnofnjbmiepjaaGreatJb3
import Derived.Test.YtgnofnjbmiepjaaGreatJb6
import Derived.Test.YtgnofnjbmiepjaaGreatJb4

set_option maxRecDepth 100000
set_option maxHeartbeats 4000000
namespace Go.Proofs.YtgnofnjbmiepjaaGreat
open Go.ChangeShapes Go.WideShapes Go.ChangeAt Go.RowKit Go.Deep Ieee.Own

def mkW : Wv := ⟨77, 0, 13832806255468478464, 0, 0⟩
theorem wpList_dupW {w : World} {ops : Array Oper} {rest : List Oper} {o : Oper} {a : Act} {Q : Exit → Act → World → Prop} {t e : TypeId} {m bytes : Nat} {z : Value} (T : RecT t e m bytes z) (hgd : o.guard = none) (s x : Operand)
 (ho : o.op = .call { callee := .builtin .append, args := #[s, x], argTypes := #[t, t] }) (base : Nat) (v : Value) (us : List (List Value)) (hs : a.eval s = v)
 (hown : w.ownsRow base e m v us.length us.flatten) (ao : Option Addr) (n cap : Nat) (R : List (List Value)) (hx : a.eval x = .slice ao n cap) (hn : n = R.length) (hnone : ao = none → cap = 0) (ha : RAt w ao m R) (hR : RowsOk m R)
 (hmax : us.length + R.length ≤ maxLen) (hby : (us.length + R.length) * bytes ≤ 140737488355328) (hbase : base ≤ w.heap.size)
 (h : ∀ v' w', w'.ownsRow base e m v' (us ++ R).length (us ++ R).flatten → w.grownBy w' v.ownBlock → wpList Tryz.prog ops Q rest (a.put o.dst v') w') :
 wpList Tryz.prog ops Q (o :: rest) a w :=
 wpList_plain hgd fun _ hK => wp_dupR T s x ho base v us hs hown ao n cap R hx hn hnone ha hR hmax hby hbase fun v' w' h2 h3 => hK _ _ (h v' w' h2 h3)
theorem mark12_run (w : World) : Calls Tryz.prog 11 #[] w fun e w' => e = .returned (.agg #[.int .i64 77, .int .i64 0, .float .f64 13832806255468478464, .float .f64 0, .float .f64 0]) ∧ Below w.heap.size w w' := by
 have hst := @fstore
 go_enter Tryz.func11, Tryz.ntmps11
 go_wp2_with fail
 (try simp only [Exit.inBlock, Exit.then])
 refine bodyPost_ret (v := .agg #[.int .i64 77, .int .i64 0, .float .f64 13832806255468478464, .float .f64 0, .float .f64 0]) ?_ rfl ⟨rfl, (Below.refl _ w).alloc (Nat.le_refl _) _⟩
 rw [results_cell1 rfl]; go_simp
theorem marks_at (w : World) : RAt (w.alloc (.cells #[.int .i64 77, .int .i64 0, .float .f64 13832806255468478464, .float .f64 0, .float .f64 0, .int .i64 77, .int .i64 0, .float .f64 13832806255468478464, .float .f64 0, .float .f64 0] 41)) (some ⟨w.heap.size, 0, none⟩) 5 ([mkW, mkW].map wvC) := by
 have B := BV.box w 41 [.int .i64 77, .int .i64 0, .float .f64 13832806255468478464, .float .f64 0, .float .f64 0, .int .i64 77, .int .i64 0, .float .f64 13832806255468478464, .float .f64 0, .float .f64 0]
 intro j r hj
 have j2 : j = 0 ∨ j = 1 := by
  have := (List.getElem?_eq_some_iff.1 hj).1
  simp at this
  omega
 rcases j2 with rfl | rfl
 · simp at hj
   subst hj
   refine ⟨_, _, rfl, B.lt, fun k u hu => B.at_ _ u ?_⟩
   have hk := (List.getElem?_eq_some_iff.1 hu).1
   have : k = 0 ∨ k = 1 ∨ k = 2 ∨ k = 3 ∨ k = 4 := by simp [wvC] at hk; omega
   rcases this with rfl | rfl | rfl | rfl | rfl <;> exact hu
 · simp at hj
   subst hj
   refine ⟨_, _, rfl, B.lt, fun k u hu => B.at_ _ u ?_⟩
   have hk := (List.getElem?_eq_some_iff.1 hu).1
   have : k = 0 ∨ k = 1 ∨ k = 2 ∨ k = 3 ∨ k = 4 := by simp [wvC] at hk; omega
   rcases this with rfl | rfl | rfl | rfl | rfl <;> exact hu
theorem wvs_map (L : List Wv) : L.map wvC ++ [mkW, mkW].map wvC = (L ++ [mkW, mkW]).map wvC := by simp
theorem roomy12_run (ao : Option Addr) (cap n : Nat) (L : List Wv) (w : World) (hn : n = L.length) (hm : n + 2 ≤ maxLen) (hr : (n + 2) * 40 ≤ 140737488355328) (hnone : ao = none → cap = 0) (ha : VAt w ao L) :
 Calls Tryz.prog 5 #[.slice ao n cap] w fun e w' => ∃ g cap', e = .returned (.slice (some ⟨g, 0, none⟩) n cap') ∧ n + 2 ≤ cap' ∧ cap' ≤ maxLen ∧ VAt w' (some ⟨g, 0, none⟩) (L ++ [mkW, mkW]) ∧ Below w.heap.size w w' := by
 have CM := Lib.hid mark12_run
 have ho := ownsR_empty w 41 5
 have ha1 := RAt.alloc ha (.cells #[] 41)
 have hb1 : w.heap.size ≤ (w.alloc (.cells #[] 41)).heap.size := by simp
 have B1 := Lib.hid ((Below.refl w.heap.size w).alloc (Nat.le_refl _) (.cells #[] 41))
 have hn0 := Lib.hid hn
 have hmx : ([] : List (List Value)).length + (L.map wvC).length ≤ maxLen := by simp; omega
 have hby : (([] : List (List Value)).length + (L.map wvC).length) * 40 ≤ 140737488355328 := by simp; omega
 clear ha hn
 go_enter Tryz.func5, Tryz.ntmps5
 go_wp2_with (at_builtin; refine wpList_dupW recW rfl _ _ rfl w.heap.size _ [] rfl ho ao n cap (L.map wvC) rfl (by rw [List.length_map]; exact hn0.out) hnone ha1 (rows_wv L) hmx hby hb1 ?_)
 intro v' w' ho' hg'
 replace ho' : w'.ownsRow w.heap.size 41 5 v' (L.map wvC).length (L.map wvC).flatten := by simpa using ho'
 have B2 : Hid (Below w.heap.size w w') := B1.out.grown hg' hb1 (by intro k hk; simp [Value.ownBlock] at hk; omega)
 have O2 := Lib.hid ho'
 obtain ⟨ao', m', c', rfl⟩ : ∃ ao m c, v' = .slice ao m c := by
  obtain ⟨ao, cap, hv, -⟩ := ownsR_at (rows_wv L) ho'
  exact ⟨_, _, _, hv⟩
 clear ho' hg' ho ha1 hb1 hby hmx B1
 go_wp2_with fail
 refine (CM.out w').mono ?_
 rintro _ w1 ⟨rfl, hb⟩
 have B3 := Lib.hid (B2.out.trans (hb.mono B2.out.size))
 have O3 := Lib.hid (O2.out.kept (row := none) ⟨hb.os, hb.tape, hb.output, hb.size, fun k hk _ => hb.block k hk⟩ (by cases (Value.slice ao' m' c').ownBlock <;> simp))
 clear hb B2 O2
 go_wp2_with fail
 refine (CM.out w1).mono ?_
 rintro _ w2 ⟨rfl, hb⟩
 have B4 := B3.out.trans (hb.mono B3.out.size)
 have O4 := O3.out.kept (row := none) ⟨hb.os, hb.tape, hb.output, hb.size, fun k hk _ => hb.block k hk⟩ (by cases (Value.slice ao' m' c').ownBlock <;> simp)
 have O5 := O4.alloc (.cells #[.int .i64 77, .int .i64 0, .float .f64 13832806255468478464, .float .f64 0, .float .f64 0, .int .i64 77, .int .i64 0, .float .f64 13832806255468478464, .float .f64 0, .float .f64 0] 41)
 have hlt := Lib.hid O4.lt
 have hb5 : w.heap.size ≤ (w2.alloc (.cells #[.int .i64 77, .int .i64 0, .float .f64 13832806255468478464, .float .f64 0, .float .f64 0, .int .i64 77, .int .i64 0, .float .f64 13832806255468478464, .float .f64 0, .float .f64 0] 41)).heap.size := by have := B4.size; simp; omega
 have B5 := Lib.hid (B4.alloc B4.size (.cells #[.int .i64 77, .int .i64 0, .float .f64 13832806255468478464, .float .f64 0, .float .f64 0, .int .i64 77, .int .i64 0, .float .f64 13832806255468478464, .float .f64 0, .float .f64 0] 41))
 have MA := marks_at w2
 have hmx : (L.map wvC).length + ([mkW, mkW].map wvC).length ≤ maxLen := by have := hn0.out; simp; omega
 have hby : ((L.map wvC).length + ([mkW, mkW].map wvC).length) * 40 ≤ 140737488355328 := by have := hn0.out; simp; omega
 clear hb B3 B4 O3 O4 CM
 go_wp2_with (at_builtin; refine wpList_dupW recW rfl _ _ rfl w.heap.size _ (L.map wvC) rfl O5 (some ⟨w2.heap.size, 0, none⟩) 2 2 ([mkW, mkW].map wvC) rfl rfl (by intro h; cases h) MA (rows_wv _) hmx hby hb5 ?_)
 intro v2 w3 ho3 hg3
 replace ho3 : w3.ownsRow w.heap.size 41 5 v2 ((L ++ [mkW, mkW]).map wvC).length ((L ++ [mkW, mkW]).map wvC).flatten := by
  first
  | (rw [← wvs_map]; exact ho3)
  | simpa [Nat.add_assoc] using ho3
 obtain ⟨ao3, cap3, e3, h1, h2, h3, h4, h5⟩ := ownsR_at (rows_wv (L ++ [mkW, mkW])) ho3
 obtain ⟨g, rfl⟩ : ∃ g, ao3 = some ⟨g, 0, none⟩ := by
  obtain ⟨b, o, e, -⟩ := h3 0 _ (by rw [List.getElem?_map, List.getElem?_eq_getElem (by simp : 0 < (L ++ [mkW, mkW]).length)]; rfl)
  obtain ⟨rfl, -, -⟩ := h5 b o e
  exact ⟨b, e⟩
 have B6 : Hid (Below w.heap.size w w3) := B5.out.grown hg3 hb5 (by intro k hk; exact (hlt.out k hk).1)
 have hlen : ((L ++ [mkW, mkW]).map wvC).length = n + 2 := by rw [List.length_map, List.length_append, hn0.out]; rfl
 rw [hlen] at h1 e3
 have hF := Lib.hid (show VAt w3 (some ⟨g, 0, none⟩) (L ++ [mkW, mkW]) from h3)
 subst e3
 clear ho3 hg3 O5 MA hmx hby hb5 B5 hlt h3 h4 h5 hlen
 have hnc : n ≤ cap3 := by omega
 go_wp2_with fail
 go_ret
 exact ⟨g, cap3, rfl, h1, h2, hF.out, B6.out⟩
theorem same12_run (ax pw : Int) (am ph rt : Nat) (w : World) : Calls Tryz.prog 25 #[.agg #[.int .i64 ax, .int .i64 pw, .float .f64 am, .float .f64 ph, .float .f64 rt], .agg #[.int .i64 ax, .int .i64 pw, .float .f64 am, .float .f64 ph, .float .f64 rt]] w fun e w' => e = .returned (.bool true) ∧ Below w.heap.size w w' := by
 have t1 : (ax == ax) = true := by simp
 have t2 : (pw == pw) = true := by simp
 go_enter Tryz.func25, Tryz.ntmps25
 go_wp2_with (go_at_call 50; ((with_reducible refine (same_run _ _ rfl _).mono ?_); rintro e w' ⟨rfl, rfl⟩))
 go_ret
 exact ⟨rfl, ((Below.refl _ w).alloc (Nat.le_refl _) _).alloc (by simp) _⟩
theorem list12_run (ao bo : Option Addr) (cap cap' n : Nat) (L : List Wv) (w : World) (hn : n = L.length) (hm : n ≤ 4611686018427387904) (ha : VAt w ao L) (hb : VAt w bo L) :
 Calls Tryz.prog 24 #[.slice ao n cap, .slice bo n cap'] w fun e w' => e = .returned (.bool true) ∧ Below w.heap.size w w' := by
 have CS := Lib.hid same12_run
 replace ha := Lib.hid ha
 replace hb := Lib.hid hb
 replace hn := Lib.hid hn
 go_enter Tryz.func24, Tryz.ntmps24
 go_wp2_with fail
 go_loopw [5] (fun iv wr => ∃ i : Nat, i ≤ n ∧ iv = .int .i64 i ∧ Below w.heap.size w wr) (fun iv _ => n - (intOf iv).toNat)
 case atStart => exact ⟨0, Nat.zero_le _, rfl, Below.refl _ _⟩
 case round =>
  obtain ⟨i, hi, rfl, hbw⟩ := hrel
  by_cases hlt : i < n
  · have hil : i < L.length := by have := hn.out; omega
    obtain ⟨b1, o1, rfl, l1, z0, z1, z2, z3, z4⟩ := VAt.cells ha.out hil
    obtain ⟨b2, o2, rfl, l2, y0, y1, y2, y3, y4⟩ := VAt.cells hb.out hil
    generalize wvAt L i = f at *
    obtain ⟨ax, pw, am, ph, rt⟩ := f
    dsimp only at *
    have F1 := Lib.hid (fun W (h : Below w.heap.size w W) => (⟨(cell_on h _ l1).trans z0, (cell_on h _ l1).trans z1, (cell_on h _ l1).trans z2, (cell_on h _ l1).trans z3, (cell_on h _ l1).trans z4⟩ : W.cell? ⟨b1, o1 + i * 5, none⟩ = _ ∧ W.cell? ⟨b1, o1 + i * 5 + 1, none⟩ = _ ∧ W.cell? ⟨b1, o1 + i * 5 + 2, none⟩ = _ ∧ W.cell? ⟨b1, o1 + i * 5 + 3, none⟩ = _ ∧ W.cell? ⟨b1, o1 + i * 5 + 4, none⟩ = _))
    have F2 := Lib.hid (fun W (h : Below w.heap.size w W) => (⟨(cell_on h _ l2).trans y0, (cell_on h _ l2).trans y1, (cell_on h _ l2).trans y2, (cell_on h _ l2).trans y3, (cell_on h _ l2).trans y4⟩ : W.cell? ⟨b2, o2 + i * 5, none⟩ = _ ∧ W.cell? ⟨b2, o2 + i * 5 + 1, none⟩ = _ ∧ W.cell? ⟨b2, o2 + i * 5 + 2, none⟩ = _ ∧ W.cell? ⟨b2, o2 + i * 5 + 3, none⟩ = _ ∧ W.cell? ⟨b2, o2 + i * 5 + 4, none⟩ = _))
    clear z0 z1 z2 z3 z4 y0 y1 y2 y3 y4 l1 l2
    have K := (Kv.nil w).on hbw
    replace K := Lib.hid K
    clear hbw
    go_upto_region 6 with fail
    replace K := K.out
    generalize hds : ([some 17, some 18, some 19, some 20, some 21, some 22, some 23, some 24, some 25, some 26] : List (Option Tmp)) = ds
    have hap : apartL ds = true := by rw [← hds]; decide
    replace hds := hds.symm
    refine wp_region_det (by kernel_rfl) ds (by rw [hds]; rfl) hap (by decide +kernel) [(.slice (some ⟨b1, o1, none⟩) n cap), .int .i64 (i : Int), .pointer (some ⟨b1, o1 + i * 5, none⟩), .agg #[.int .i64 ax, .int .i64 pw, .float .f64 am, .float .f64 ph, .float .f64 rt], (.slice (some ⟨b2, o2, none⟩) n cap'), .int .i64 (i : Int), .pointer (some ⟨b2, o2 + i * 5, none⟩), .agg #[.int .i64 ax, .int .i64 pw, .float .f64 am, .float .f64 ph, .float .f64 rt], .bool true, .bool false] rfl (fun W => Kv w [] W) K.draws ?step ?fin
    case step =>
        intro L W i o ho hd hS
        have hi : i < 10 := (Array.getElem?_eq_some_iff.1 ho).1
        have : i = 0 ∨ i = 1 ∨ i = 2 ∨ i = 3 ∨ i = 4 ∨ i = 5 ∨ i = 6 ∨ i = 7 ∨ i = 8 ∨ i = 9 := by omega
        rcases this with rfl | rfl | rfl | rfl | rfl | rfl | rfl | rfl | rfl | rfl
        · obtain rfl := Option.some.inj ho
          refine .value rfl W ?_ hS
          generalize hA : (puts ds L _).eval = ρ
          have hc : ∀ v, ρ (.const v) = v := fun v => by rw [← hA]; rfl
          have h0 : ρ (.tmp 0) = (.slice (some ⟨b1, o1, none⟩) n cap) := by rw [← hA]; exact (puts_old ds L _ (by rw [hds]; decide)).trans rfl
          clear hA hd ho
          unfold execOp
          go_simp
        · obtain rfl := Option.some.inj ho
          refine .value rfl W ?_ hS
          generalize hA : (puts ds L _).eval = ρ
          have hc : ∀ v, ρ (.const v) = v := fun v => by rw [← hA]; rfl
          have h0 : ρ (.tmp 5) = .int .i64 (i : Int) := by rw [← hA]; exact (puts_old ds L _ (by rw [hds]; decide)).trans rfl
          clear hA hd ho
          unfold execOp
          go_simp
        · obtain rfl := Option.some.inj ho
          refine .value rfl W ?_ hS
          generalize hA : (puts ds L _).eval = ρ
          have hc : ∀ v, ρ (.const v) = v := fun v => by rw [← hA]; rfl
          have h0 : ρ (.tmp 17) = (.slice (some ⟨b1, o1, none⟩) n cap) := by rw [← hA]; exact puts_get 0 ds L _ hap (by rw [hds]; rfl) (hd 0 (by decide +kernel)) (show 17 < 27 by decide)
          have h1 : ρ (.tmp 18) = .int .i64 (i : Int) := by rw [← hA]; exact puts_get 1 ds L _ hap (by rw [hds]; rfl) (hd 1 (by decide +kernel)) (show 18 < 27 by decide)
          clear hA hd ho
          have hlt2 := hlt
          unfold execOp
          go_simp
        · obtain rfl := Option.some.inj ho
          obtain ⟨d0, d1, d2, d3, d4⟩ := F1.out W hS.old
          refine .value rfl W ?_ hS
          generalize hA : (puts ds L _).eval = ρ
          have hc : ∀ v, ρ (.const v) = v := fun v => by rw [← hA]; rfl
          have h0 : ρ (.tmp 19) = .pointer (some ⟨b1, o1 + i * 5, none⟩) := by rw [← hA]; exact puts_get 2 ds L _ hap (by rw [hds]; rfl) (hd 2 (by decide +kernel)) (show 19 < 27 by decide)
          clear hA hd ho
          unfold execOp
          go_simp
        · obtain rfl := Option.some.inj ho
          refine .value rfl W ?_ hS
          generalize hA : (puts ds L _).eval = ρ
          have hc : ∀ v, ρ (.const v) = v := fun v => by rw [← hA]; rfl
          have h0 : ρ (.tmp 1) = (.slice (some ⟨b2, o2, none⟩) n cap') := by rw [← hA]; exact (puts_old ds L _ (by rw [hds]; decide)).trans rfl
          clear hA hd ho
          unfold execOp
          go_simp
        · obtain rfl := Option.some.inj ho
          refine .value rfl W ?_ hS
          generalize hA : (puts ds L _).eval = ρ
          have hc : ∀ v, ρ (.const v) = v := fun v => by rw [← hA]; rfl
          have h0 : ρ (.tmp 5) = .int .i64 (i : Int) := by rw [← hA]; exact (puts_old ds L _ (by rw [hds]; decide)).trans rfl
          clear hA hd ho
          unfold execOp
          go_simp
        · obtain rfl := Option.some.inj ho
          refine .value rfl W ?_ hS
          generalize hA : (puts ds L _).eval = ρ
          have hc : ∀ v, ρ (.const v) = v := fun v => by rw [← hA]; rfl
          have h0 : ρ (.tmp 21) = (.slice (some ⟨b2, o2, none⟩) n cap') := by rw [← hA]; exact puts_get 4 ds L _ hap (by rw [hds]; rfl) (hd 4 (by decide +kernel)) (show 21 < 27 by decide)
          have h1 : ρ (.tmp 22) = .int .i64 (i : Int) := by rw [← hA]; exact puts_get 5 ds L _ hap (by rw [hds]; rfl) (hd 5 (by decide +kernel)) (show 22 < 27 by decide)
          clear hA hd ho
          have hlt2 := hlt
          unfold execOp
          go_simp
        · obtain rfl := Option.some.inj ho
          obtain ⟨d0, d1, d2, d3, d4⟩ := F2.out W hS.old
          refine .value rfl W ?_ hS
          generalize hA : (puts ds L _).eval = ρ
          have hc : ∀ v, ρ (.const v) = v := fun v => by rw [← hA]; rfl
          have h0 : ρ (.tmp 23) = .pointer (some ⟨b2, o2 + i * 5, none⟩) := by rw [← hA]; exact puts_get 6 ds L _ hap (by rw [hds]; rfl) (hd 6 (by decide +kernel)) (show 23 < 27 by decide)
          clear hA hd ho
          unfold execOp
          go_simp
        · obtain rfl := Option.some.inj ho
          refine .call rfl 25 #[.agg #[.int .i64 ax, .int .i64 pw, .float .f64 am, .float .f64 ph, .float .f64 rt], .agg #[.int .i64 ax, .int .i64 pw, .float .f64 am, .float .f64 ph, .float .f64 rt]] ?_ ((CS.out ax pw am ph rt W).mono fun e w' h => ⟨h.1, hS.on h.2⟩)
          generalize hA : (puts ds L _).eval = ρ
          have hc : ∀ v, ρ (.const v) = v := fun v => by rw [← hA]; rfl
          have hg : ∀ g, ρ (.func g) = .func (.func g) #[] #[] := fun v => by rw [← hA]; rfl
          have h0 : ρ (.tmp 20) = .agg #[.int .i64 ax, .int .i64 pw, .float .f64 am, .float .f64 ph, .float .f64 rt] := by rw [← hA]; exact puts_get 3 ds L _ hap (by rw [hds]; rfl) (hd 3 (by decide +kernel)) (show 20 < 27 by decide)
          have h1 : ρ (.tmp 24) = .agg #[.int .i64 ax, .int .i64 pw, .float .f64 am, .float .f64 ph, .float .f64 rt] := by rw [← hA]; exact puts_get 7 ds L _ hap (by rw [hds]; rfl) (hd 7 (by decide +kernel)) (show 24 < 27 by decide)
          have hf := Tryz.func25
          unfold execOp
          go_simp
        · obtain rfl := Option.some.inj ho
          refine .value rfl W ?_ hS
          generalize hA : (puts ds L _).eval = ρ
          have hc : ∀ v, ρ (.const v) = v := fun v => by rw [← hA]; rfl
          have h0 : ρ (.tmp 25) = .bool true := by rw [← hA]; exact puts_get 8 ds L _ hap (by rw [hds]; rfl) (hd 8 (by decide +kernel)) (show 25 < 27 by decide)
          clear hA hd ho
          unfold execOp
          go_simp
    case fin =>
        intro W0 K
        rw [hds]
        clear hds hap ds
        simp only [List.map_cons, List.map_nil, puts, Act.put, List.setIfInBounds_toArray]
        replace K := Lib.hid K
        go_wp2_with fail
        go_roundw
        case rel => exact ⟨i + 1, hlt, by go_num, K.out.old⟩
        case measure => simp [intOf]; omega
  · obtain rfl : i = n := by omega
    replace hbw := Lib.hid hbw
    go_wp2_with fail
    go_ret
    exact ⟨rfl, hbw.out⟩
theorem VAt.left {w : World} {ao : Option Addr} {L M : List Wv} (h : VAt w ao (L ++ M)) : VAt w ao L := fun j r hj => h j r (by
 have hl := (List.getElem?_eq_some_iff.1 hj).1
 rw [List.map_append, List.getElem?_append_left hl]
 exact hj)
theorem mk_at {L : List Wv} {k : Nat} (hk : k < 2) : wvAt (L ++ [mkW, mkW]) (L.length + k) = mkW := by
 have : k = 0 ∨ k = 1 := by omega
 unfold wvAt
 rcases this with rfl | rfl <;> simp [List.getD]
theorem kept12_run (g : Nat) (ao : Option Addr) (cap cap' n : Nat) (L : List Wv) (w : World) (hn : n = L.length) (hm : n ≤ 4611686018427387904) (hcap : n + 2 ≤ cap') (hcm : cap' ≤ maxLen) (ha : VAt w (some ⟨g, 0, none⟩) (L ++ [mkW, mkW])) (hb : VAt w ao L) :
 Calls Tryz.prog 9 #[.slice (some ⟨g, 0, none⟩) n cap', .slice ao n cap] w fun e w' => e = .returned (.bool true) ∧ Below w.heap.size w w' := by
 have CS := Lib.hid same12_run
 have CM := Lib.hid mark12_run
 have CL : Hid (∀ W, Below w.heap.size w W → Calls Tryz.prog 24 #[.slice (some ⟨g, 0, none⟩) n cap', .slice ao n cap] W fun e w' => e = .returned (.bool true) ∧ Below W.heap.size W w') :=
  Lib.hid fun W h => list12_run _ _ _ _ n L W hn hm (ha.left.below (fun b o e k => ha.left.lt b o e k) h) (hb.below (fun b o e k => hb.lt b o e k) h)
 have key : ∀ k, k < 2 → ∀ W, Below w.heap.size w W → W.cell? ⟨g, (n + k) * 5, none⟩ = some (.int .i64 77) ∧ W.cell? ⟨g, (n + k) * 5 + 1, none⟩ = some (.int .i64 0) ∧ W.cell? ⟨g, (n + k) * 5 + 2, none⟩ = some (.float .f64 13832806255468478464) ∧ W.cell? ⟨g, (n + k) * 5 + 3, none⟩ = some (.float .f64 0) ∧ W.cell? ⟨g, (n + k) * 5 + 4, none⟩ = some (.float .f64 0) := by
  intro k hk W h
  obtain ⟨b, o, e, l, z0, z1, z2, z3, z4⟩ := VAt.cells (j := L.length + k) ha (by simp; omega)
  simp only [Option.some.injEq, Addr.mk.injEq, and_true] at e
  obtain ⟨rfl, rfl⟩ := e
  rw [mk_at hk, ← hn, Nat.zero_add] at z0 z1 z2 z3 z4
  exact ⟨(cell_on h _ l).trans z0, (cell_on h _ l).trans z1, (cell_on h _ l).trans z2, (cell_on h _ l).trans z3, (cell_on h _ l).trans z4⟩
 have F1 := Lib.hid (key 0 (by omega))
 have F2 := Lib.hid (key 1 (by omega))
 rw [Nat.add_zero] at F1
 have hcm' : cap' ≤ 9223372036854775807 := by unfold maxLen at hcm; omega
 have hn1 : ¬ ((n : Int) + 2 ≤ (n : Int)) := by omega
 have hn2 : ¬ ((n : Int) + 1 < 0) := by omega
 have hn4 : IntKind.i64.wrap ((n : Int) + 1) = (n : Int) + 1 := IntWalk.i64_in _ (by omega)
 have hn5 : ¬ ((n : Int) + 2 ≤ (n : Int) + 1) := by omega
 have hn6 : (((n : Int) + 1).toNat) = n + 1 := by omega
 have hn3 : n ≤ cap' := by omega
 clear key ha hb hcm hn
 have K := Kv.nil w
 replace K := Lib.hid K
 go_enter Tryz.func9, Tryz.ntmps9
 go_upto_region 2 with fail
 replace K := K.out
 generalize hds : ([some 11, some 12, some 13, some 14, some 15, some 16, some 17, some 18, some 19, some 20, some 21, some 22, some 23, some 24, some 25, some 26, some 27, some 28, some 29, some 30, some 31, some 32, some 33, some 34, some 35, some 4] : List (Option Tmp)) = ds
 have hap : apartL ds = true := by rw [← hds]; decide
 replace hds := hds.symm
 refine wp_region_det (by kernel_rfl) ds (by rw [hds]; rfl) hap (by decide +kernel) [(.slice (some ⟨g, 0, none⟩) (n + 2) cap'), (.slice ao n cap), .int .i64 (n : Int), (.slice (some ⟨g, 0, none⟩) n cap'), (.slice ao n cap), .bool true, .bool true, (.slice (some ⟨g, 0, none⟩) (n + 2) cap'), (.slice ao n cap), .int .i64 (n : Int), .pointer (some ⟨g, n * 5, none⟩), .agg #[.int .i64 77, .int .i64 0, .float .f64 13832806255468478464, .float .f64 0, .float .f64 0], .agg #[.int .i64 77, .int .i64 0, .float .f64 13832806255468478464, .float .f64 0, .float .f64 0], .bool true, .bool true, .bool true, (.slice (some ⟨g, 0, none⟩) (n + 2) cap'), (.slice ao n cap), .int .i64 (n : Int), .int .i64 ((n : Int) + 1), .pointer (some ⟨g, (n + 1) * 5, none⟩), .agg #[.int .i64 77, .int .i64 0, .float .f64 13832806255468478464, .float .f64 0, .float .f64 0], .agg #[.int .i64 77, .int .i64 0, .float .f64 13832806255468478464, .float .f64 0, .float .f64 0], .bool true, .bool true, .bool true] rfl (fun W => Kv w [] W) K.draws ?step ?fin
 case step =>
  intro L W i o ho hd hS
  have hi : i < 26 := (Array.getElem?_eq_some_iff.1 ho).1
  have : i = 0 ∨ i = 1 ∨ i = 2 ∨ i = 3 ∨ i = 4 ∨ i = 5 ∨ i = 6 ∨ i = 7 ∨ i = 8 ∨ i = 9 ∨ i = 10 ∨ i = 11 ∨ i = 12 ∨ i = 13 ∨ i = 14 ∨ i = 15 ∨ i = 16 ∨ i = 17 ∨ i = 18 ∨ i = 19 ∨ i = 20 ∨ i = 21 ∨ i = 22 ∨ i = 23 ∨ i = 24 ∨ i = 25 := by omega
  rcases this with rfl | rfl | rfl | rfl | rfl | rfl | rfl | rfl | rfl | rfl | rfl | rfl | rfl | rfl | rfl | rfl | rfl | rfl | rfl | rfl | rfl | rfl | rfl | rfl | rfl | rfl
  · obtain rfl := Option.some.inj ho
    refine .value rfl W ?_ hS
    generalize hA : (puts ds L _).eval = ρ
    have hc : ∀ v, ρ (.const v) = v := fun v => by rw [← hA]; rfl
    have h0 : ρ (.tmp 5) = (.slice (some ⟨g, 0, none⟩) (n + 2) cap') := by rw [← hA]; exact (puts_old ds L _ (by rw [hds]; decide)).trans rfl
    clear hA hd ho
    unfold execOp
    go_simp
  · obtain rfl := Option.some.inj ho
    refine .value rfl W ?_ hS
    generalize hA : (puts ds L _).eval = ρ
    have hc : ∀ v, ρ (.const v) = v := fun v => by rw [← hA]; rfl
    have h0 : ρ (.tmp 1) = (.slice ao n cap) := by rw [← hA]; exact (puts_old ds L _ (by rw [hds]; decide)).trans rfl
    clear hA hd ho
    unfold execOp
    go_simp
  · obtain rfl := Option.some.inj ho
    refine .value rfl W ?_ hS
    generalize hA : (puts ds L _).eval = ρ
    have hc : ∀ v, ρ (.const v) = v := fun v => by rw [← hA]; rfl
    have h0 : ρ (.tmp 12) = (.slice ao n cap) := by rw [← hA]; exact puts_get 1 ds L _ hap (by rw [hds]; rfl) (hd 1 (by decide +kernel)) (show 12 < 36 by decide)
    clear hA hd ho
    unfold execOp
    go_simp
  · obtain rfl := Option.some.inj ho
    refine .value rfl W ?_ hS
    generalize hA : (puts ds L _).eval = ρ
    have hc : ∀ v, ρ (.const v) = v := fun v => by rw [← hA]; rfl
    have h0 : ρ (.tmp 11) = (.slice (some ⟨g, 0, none⟩) (n + 2) cap') := by rw [← hA]; exact puts_get 0 ds L _ hap (by rw [hds]; rfl) (hd 0 (by decide +kernel)) (show 11 < 36 by decide)
    have h1 : ρ (.tmp 13) = .int .i64 (n : Int) := by rw [← hA]; exact puts_get 2 ds L _ hap (by rw [hds]; rfl) (hd 2 (by decide +kernel)) (show 13 < 36 by decide)
    clear hA hd ho
    have q1 := hn3
    unfold execOp
    go_simp
  · obtain rfl := Option.some.inj ho
    refine .value rfl W ?_ hS
    generalize hA : (puts ds L _).eval = ρ
    have hc : ∀ v, ρ (.const v) = v := fun v => by rw [← hA]; rfl
    have h0 : ρ (.tmp 1) = (.slice ao n cap) := by rw [← hA]; exact (puts_old ds L _ (by rw [hds]; decide)).trans rfl
    clear hA hd ho
    unfold execOp
    go_simp
  · obtain rfl := Option.some.inj ho
    refine .call rfl 24 #[(.slice (some ⟨g, 0, none⟩) n cap'), (.slice ao n cap)] ?_ ((CL.out W hS.old).mono fun e w' h => ⟨h.1, hS.on h.2⟩)
    generalize hA : (puts ds L _).eval = ρ
    have hc : ∀ v, ρ (.const v) = v := fun v => by rw [← hA]; rfl
    have hg : ∀ g, ρ (.func g) = .func (.func g) #[] #[] := fun v => by rw [← hA]; rfl
    have h0 : ρ (.tmp 14) = (.slice (some ⟨g, 0, none⟩) n cap') := by rw [← hA]; exact puts_get 3 ds L _ hap (by rw [hds]; rfl) (hd 3 (by decide +kernel)) (show 14 < 36 by decide)
    have h1 : ρ (.tmp 15) = (.slice ao n cap) := by rw [← hA]; exact puts_get 4 ds L _ hap (by rw [hds]; rfl) (hd 4 (by decide +kernel)) (show 15 < 36 by decide)
    have hf := Tryz.func24
    unfold execOp
    go_simp
  · obtain rfl := Option.some.inj ho
    refine .value rfl W ?_ hS
    generalize hA : (puts ds L _).eval = ρ
    have hc : ∀ v, ρ (.const v) = v := fun v => by rw [← hA]; rfl
    have h0 : ρ (.tmp 16) = .bool true := by rw [← hA]; exact puts_get 5 ds L _ hap (by rw [hds]; rfl) (hd 5 (by decide +kernel)) (show 16 < 36 by decide)
    clear hA hd ho
    unfold execOp
    go_simp
  · obtain rfl := Option.some.inj ho
    refine Comes.guarded (j := 6) (t := 17) (want := true) (b := true) (by rw [hds]; rfl) hap rfl (by rw [hds]; rfl) (hd 6 (by decide +kernel)) (show 17 < 36 by decide) (fun _ hw => ?_) (fun e => absurd rfl e)
    refine .value hw W ?_ hS
    generalize hA : (puts ds L _).eval = ρ
    have hc : ∀ v, ρ (.const v) = v := fun v => by rw [← hA]; rfl
    have h0 : ρ (.tmp 5) = (.slice (some ⟨g, 0, none⟩) (n + 2) cap') := by rw [← hA]; exact (puts_old ds L _ (by rw [hds]; decide)).trans rfl
    clear hA hd ho
    unfold execOp
    go_simp
  · obtain rfl := Option.some.inj ho
    refine Comes.guarded (j := 6) (t := 17) (want := true) (b := true) (by rw [hds]; rfl) hap rfl (by rw [hds]; rfl) (hd 6 (by decide +kernel)) (show 17 < 36 by decide) (fun _ hw => ?_) (fun e => absurd rfl e)
    refine .value hw W ?_ hS
    generalize hA : (puts ds L _).eval = ρ
    have hc : ∀ v, ρ (.const v) = v := fun v => by rw [← hA]; rfl
    have h0 : ρ (.tmp 1) = (.slice ao n cap) := by rw [← hA]; exact (puts_old ds L _ (by rw [hds]; decide)).trans rfl
    clear hA hd ho
    unfold execOp
    go_simp
  · obtain rfl := Option.some.inj ho
    refine Comes.guarded (j := 6) (t := 17) (want := true) (b := true) (by rw [hds]; rfl) hap rfl (by rw [hds]; rfl) (hd 6 (by decide +kernel)) (show 17 < 36 by decide) (fun _ hw => ?_) (fun e => absurd rfl e)
    refine .value hw W ?_ hS
    generalize hA : (puts ds L _).eval = ρ
    have hc : ∀ v, ρ (.const v) = v := fun v => by rw [← hA]; rfl
    have h0 : ρ (.tmp 19) = (.slice ao n cap) := by rw [← hA]; exact puts_get 8 ds L _ hap (by rw [hds]; rfl) (hd 8 (by decide +kernel)) (show 19 < 36 by decide)
    clear hA hd ho
    unfold execOp
    go_simp
  · obtain rfl := Option.some.inj ho
    refine Comes.guarded (j := 6) (t := 17) (want := true) (b := true) (by rw [hds]; rfl) hap rfl (by rw [hds]; rfl) (hd 6 (by decide +kernel)) (show 17 < 36 by decide) (fun _ hw => ?_) (fun e => absurd rfl e)
    refine .value hw W ?_ hS
    generalize hA : (puts ds L _).eval = ρ
    have hc : ∀ v, ρ (.const v) = v := fun v => by rw [← hA]; rfl
    have h0 : ρ (.tmp 18) = (.slice (some ⟨g, 0, none⟩) (n + 2) cap') := by rw [← hA]; exact puts_get 7 ds L _ hap (by rw [hds]; rfl) (hd 7 (by decide +kernel)) (show 18 < 36 by decide)
    have h1 : ρ (.tmp 20) = .int .i64 (n : Int) := by rw [← hA]; exact puts_get 9 ds L _ hap (by rw [hds]; rfl) (hd 9 (by decide +kernel)) (show 20 < 36 by decide)
    clear hA hd ho
    have q1 := hn1
    have q2 := hn2
    have q3 := hn5
    have q4 := hn6
    unfold execOp
    go_simp
  · obtain rfl := Option.some.inj ho
    refine Comes.guarded (j := 6) (t := 17) (want := true) (b := true) (by rw [hds]; rfl) hap rfl (by rw [hds]; rfl) (hd 6 (by decide +kernel)) (show 17 < 36 by decide) (fun _ hw => ?_) (fun e => absurd rfl e)
    obtain ⟨d0, d1, d2, d3, d4⟩ := F1.out W hS.old
    refine .value hw W ?_ hS
    generalize hA : (puts ds L _).eval = ρ
    have hc : ∀ v, ρ (.const v) = v := fun v => by rw [← hA]; rfl
    have h0 : ρ (.tmp 21) = .pointer (some ⟨g, n * 5, none⟩) := by rw [← hA]; exact puts_get 10 ds L _ hap (by rw [hds]; rfl) (hd 10 (by decide +kernel)) (show 21 < 36 by decide)
    clear hA hd ho
    unfold execOp
    go_simp
  · obtain rfl := Option.some.inj ho
    refine Comes.guarded (j := 6) (t := 17) (want := true) (b := true) (by rw [hds]; rfl) hap rfl (by rw [hds]; rfl) (hd 6 (by decide +kernel)) (show 17 < 36 by decide) (fun _ hw => ?_) (fun e => absurd rfl e)
    refine .call hw 11 #[] ?_ ((CM.out W).mono fun e w' h => ⟨h.1, hS.on h.2⟩)
    generalize hA : (puts ds L _).eval = ρ
    have hc : ∀ v, ρ (.const v) = v := fun v => by rw [← hA]; rfl
    have hg : ∀ g, ρ (.func g) = .func (.func g) #[] #[] := fun v => by rw [← hA]; rfl
    have hf := Tryz.func11
    unfold execOp
    go_simp
  · obtain rfl := Option.some.inj ho
    refine Comes.guarded (j := 6) (t := 17) (want := true) (b := true) (by rw [hds]; rfl) hap rfl (by rw [hds]; rfl) (hd 6 (by decide +kernel)) (show 17 < 36 by decide) (fun _ hw => ?_) (fun e => absurd rfl e)
    refine .call hw 25 #[.agg #[.int .i64 77, .int .i64 0, .float .f64 13832806255468478464, .float .f64 0, .float .f64 0], .agg #[.int .i64 77, .int .i64 0, .float .f64 13832806255468478464, .float .f64 0, .float .f64 0]] ?_ ((CS.out 77 0 13832806255468478464 0 0 W).mono fun e w' h => ⟨h.1, hS.on h.2⟩)
    generalize hA : (puts ds L _).eval = ρ
    have hc : ∀ v, ρ (.const v) = v := fun v => by rw [← hA]; rfl
    have hg : ∀ g, ρ (.func g) = .func (.func g) #[] #[] := fun v => by rw [← hA]; rfl
    have h0 : ρ (.tmp 22) = .agg #[.int .i64 77, .int .i64 0, .float .f64 13832806255468478464, .float .f64 0, .float .f64 0] := by rw [← hA]; exact puts_get 11 ds L _ hap (by rw [hds]; rfl) (hd 11 (by decide +kernel)) (show 22 < 36 by decide)
    have h1 : ρ (.tmp 23) = .agg #[.int .i64 77, .int .i64 0, .float .f64 13832806255468478464, .float .f64 0, .float .f64 0] := by rw [← hA]; exact puts_get 12 ds L _ hap (by rw [hds]; rfl) (hd 12 (by decide +kernel)) (show 23 < 36 by decide)
    have hf := Tryz.func25
    unfold execOp
    go_simp
  · obtain rfl := Option.some.inj ho
    refine .value rfl W ?_ hS
    generalize hA : (puts ds L _).eval = ρ
    have hc : ∀ v, ρ (.const v) = v := fun v => by rw [← hA]; rfl
    have h0 : ρ (.tmp 17) = .bool true := by rw [← hA]; exact puts_get 6 ds L _ hap (by rw [hds]; rfl) (hd 6 (by decide +kernel)) (show 17 < 36 by decide)
    have h1 : ρ (.tmp 24) = .bool true := by rw [← hA]; exact puts_get 13 ds L _ hap (by rw [hds]; rfl) (hd 13 (by decide +kernel)) (show 24 < 36 by decide)
    clear hA hd ho
    unfold execOp
    go_simp
  · obtain rfl := Option.some.inj ho
    refine .value rfl W ?_ hS
    generalize hA : (puts ds L _).eval = ρ
    have hc : ∀ v, ρ (.const v) = v := fun v => by rw [← hA]; rfl
    have h0 : ρ (.tmp 25) = .bool true := by rw [← hA]; exact puts_get 14 ds L _ hap (by rw [hds]; rfl) (hd 14 (by decide +kernel)) (show 25 < 36 by decide)
    clear hA hd ho
    unfold execOp
    go_simp
  · obtain rfl := Option.some.inj ho
    refine Comes.guarded (j := 15) (t := 26) (want := true) (b := true) (by rw [hds]; rfl) hap rfl (by rw [hds]; rfl) (hd 15 (by decide +kernel)) (show 26 < 36 by decide) (fun _ hw => ?_) (fun e => absurd rfl e)
    refine .value hw W ?_ hS
    generalize hA : (puts ds L _).eval = ρ
    have hc : ∀ v, ρ (.const v) = v := fun v => by rw [← hA]; rfl
    have h0 : ρ (.tmp 5) = (.slice (some ⟨g, 0, none⟩) (n + 2) cap') := by rw [← hA]; exact (puts_old ds L _ (by rw [hds]; decide)).trans rfl
    clear hA hd ho
    unfold execOp
    go_simp
  · obtain rfl := Option.some.inj ho
    refine Comes.guarded (j := 15) (t := 26) (want := true) (b := true) (by rw [hds]; rfl) hap rfl (by rw [hds]; rfl) (hd 15 (by decide +kernel)) (show 26 < 36 by decide) (fun _ hw => ?_) (fun e => absurd rfl e)
    refine .value hw W ?_ hS
    generalize hA : (puts ds L _).eval = ρ
    have hc : ∀ v, ρ (.const v) = v := fun v => by rw [← hA]; rfl
    have h0 : ρ (.tmp 1) = (.slice ao n cap) := by rw [← hA]; exact (puts_old ds L _ (by rw [hds]; decide)).trans rfl
    clear hA hd ho
    unfold execOp
    go_simp
  · obtain rfl := Option.some.inj ho
    refine Comes.guarded (j := 15) (t := 26) (want := true) (b := true) (by rw [hds]; rfl) hap rfl (by rw [hds]; rfl) (hd 15 (by decide +kernel)) (show 26 < 36 by decide) (fun _ hw => ?_) (fun e => absurd rfl e)
    refine .value hw W ?_ hS
    generalize hA : (puts ds L _).eval = ρ
    have hc : ∀ v, ρ (.const v) = v := fun v => by rw [← hA]; rfl
    have h0 : ρ (.tmp 28) = (.slice ao n cap) := by rw [← hA]; exact puts_get 17 ds L _ hap (by rw [hds]; rfl) (hd 17 (by decide +kernel)) (show 28 < 36 by decide)
    clear hA hd ho
    unfold execOp
    go_simp
  · obtain rfl := Option.some.inj ho
    refine Comes.guarded (j := 15) (t := 26) (want := true) (b := true) (by rw [hds]; rfl) hap rfl (by rw [hds]; rfl) (hd 15 (by decide +kernel)) (show 26 < 36 by decide) (fun _ hw => ?_) (fun e => absurd rfl e)
    refine .value hw W ?_ hS
    generalize hA : (puts ds L _).eval = ρ
    have hc : ∀ v, ρ (.const v) = v := fun v => by rw [← hA]; rfl
    have h0 : ρ (.tmp 29) = .int .i64 (n : Int) := by rw [← hA]; exact puts_get 18 ds L _ hap (by rw [hds]; rfl) (hd 18 (by decide +kernel)) (show 29 < 36 by decide)
    clear hA hd ho
    have q1 := hn4
    unfold execOp
    go_simp
  · obtain rfl := Option.some.inj ho
    refine Comes.guarded (j := 15) (t := 26) (want := true) (b := true) (by rw [hds]; rfl) hap rfl (by rw [hds]; rfl) (hd 15 (by decide +kernel)) (show 26 < 36 by decide) (fun _ hw => ?_) (fun e => absurd rfl e)
    refine .value hw W ?_ hS
    generalize hA : (puts ds L _).eval = ρ
    have hc : ∀ v, ρ (.const v) = v := fun v => by rw [← hA]; rfl
    have h0 : ρ (.tmp 27) = (.slice (some ⟨g, 0, none⟩) (n + 2) cap') := by rw [← hA]; exact puts_get 16 ds L _ hap (by rw [hds]; rfl) (hd 16 (by decide +kernel)) (show 27 < 36 by decide)
    have h1 : ρ (.tmp 30) = .int .i64 ((n : Int) + 1) := by rw [← hA]; exact puts_get 19 ds L _ hap (by rw [hds]; rfl) (hd 19 (by decide +kernel)) (show 30 < 36 by decide)
    clear hA hd ho
    have q1 := hn1
    have q2 := hn2
    have q3 := hn5
    have q4 := hn6
    unfold execOp
    go_simp
  · obtain rfl := Option.some.inj ho
    refine Comes.guarded (j := 15) (t := 26) (want := true) (b := true) (by rw [hds]; rfl) hap rfl (by rw [hds]; rfl) (hd 15 (by decide +kernel)) (show 26 < 36 by decide) (fun _ hw => ?_) (fun e => absurd rfl e)
    obtain ⟨d0, d1, d2, d3, d4⟩ := F2.out W hS.old
    refine .value hw W ?_ hS
    generalize hA : (puts ds L _).eval = ρ
    have hc : ∀ v, ρ (.const v) = v := fun v => by rw [← hA]; rfl
    have h0 : ρ (.tmp 31) = .pointer (some ⟨g, (n + 1) * 5, none⟩) := by rw [← hA]; exact puts_get 20 ds L _ hap (by rw [hds]; rfl) (hd 20 (by decide +kernel)) (show 31 < 36 by decide)
    clear hA hd ho
    unfold execOp
    go_simp
  · obtain rfl := Option.some.inj ho
    refine Comes.guarded (j := 15) (t := 26) (want := true) (b := true) (by rw [hds]; rfl) hap rfl (by rw [hds]; rfl) (hd 15 (by decide +kernel)) (show 26 < 36 by decide) (fun _ hw => ?_) (fun e => absurd rfl e)
    refine .call hw 11 #[] ?_ ((CM.out W).mono fun e w' h => ⟨h.1, hS.on h.2⟩)
    generalize hA : (puts ds L _).eval = ρ
    have hc : ∀ v, ρ (.const v) = v := fun v => by rw [← hA]; rfl
    have hg : ∀ g, ρ (.func g) = .func (.func g) #[] #[] := fun v => by rw [← hA]; rfl
    have hf := Tryz.func11
    unfold execOp
    go_simp
  · obtain rfl := Option.some.inj ho
    refine Comes.guarded (j := 15) (t := 26) (want := true) (b := true) (by rw [hds]; rfl) hap rfl (by rw [hds]; rfl) (hd 15 (by decide +kernel)) (show 26 < 36 by decide) (fun _ hw => ?_) (fun e => absurd rfl e)
    refine .call hw 25 #[.agg #[.int .i64 77, .int .i64 0, .float .f64 13832806255468478464, .float .f64 0, .float .f64 0], .agg #[.int .i64 77, .int .i64 0, .float .f64 13832806255468478464, .float .f64 0, .float .f64 0]] ?_ ((CS.out 77 0 13832806255468478464 0 0 W).mono fun e w' h => ⟨h.1, hS.on h.2⟩)
    generalize hA : (puts ds L _).eval = ρ
    have hc : ∀ v, ρ (.const v) = v := fun v => by rw [← hA]; rfl
    have hg : ∀ g, ρ (.func g) = .func (.func g) #[] #[] := fun v => by rw [← hA]; rfl
    have h0 : ρ (.tmp 32) = .agg #[.int .i64 77, .int .i64 0, .float .f64 13832806255468478464, .float .f64 0, .float .f64 0] := by rw [← hA]; exact puts_get 21 ds L _ hap (by rw [hds]; rfl) (hd 21 (by decide +kernel)) (show 32 < 36 by decide)
    have h1 : ρ (.tmp 33) = .agg #[.int .i64 77, .int .i64 0, .float .f64 13832806255468478464, .float .f64 0, .float .f64 0] := by rw [← hA]; exact puts_get 22 ds L _ hap (by rw [hds]; rfl) (hd 22 (by decide +kernel)) (show 33 < 36 by decide)
    have hf := Tryz.func25
    unfold execOp
    go_simp
  · obtain rfl := Option.some.inj ho
    refine .value rfl W ?_ hS
    generalize hA : (puts ds L _).eval = ρ
    have hc : ∀ v, ρ (.const v) = v := fun v => by rw [← hA]; rfl
    have h0 : ρ (.tmp 26) = .bool true := by rw [← hA]; exact puts_get 15 ds L _ hap (by rw [hds]; rfl) (hd 15 (by decide +kernel)) (show 26 < 36 by decide)
    have h1 : ρ (.tmp 34) = .bool true := by rw [← hA]; exact puts_get 23 ds L _ hap (by rw [hds]; rfl) (hd 23 (by decide +kernel)) (show 34 < 36 by decide)
    clear hA hd ho
    unfold execOp
    go_simp
  · obtain rfl := Option.some.inj ho
    refine .value rfl W ?_ hS
    generalize hA : (puts ds L _).eval = ρ
    have hc : ∀ v, ρ (.const v) = v := fun v => by rw [← hA]; rfl
    have h0 : ρ (.tmp 35) = .bool true := by rw [← hA]; exact puts_get 24 ds L _ hap (by rw [hds]; rfl) (hd 24 (by decide +kernel)) (show 35 < 36 by decide)
    clear hA hd ho
    unfold execOp
    go_simp
 case fin =>
  intro W0 K
  rw [hds]
  clear hds hap ds
  simp only [List.map_cons, List.map_nil, puts, Act.put, List.setIfInBounds_toArray]
  replace K := Lib.hid K
  go_wp2_with fail
  go_ret
  exact ⟨by first | rfl | trivial, K.out.old⟩
theorem samebox_run (a1 a2 a3 a4 a5 a6 : Nat) (w : World) : Calls Tryz.prog 8 #[.agg #[.float .f64 a1, .float .f64 a2, .float .f64 a3, .float .f64 a4, .float .f64 a5, .float .f64 a6], .agg #[.float .f64 a1, .float .f64 a2, .float .f64 a3, .float .f64 a4, .float .f64 a5, .float .f64 a6]] w fun e w' => e = .returned (.bool true) ∧ Below w.heap.size w w' := by
 have C1 := Lib.hid (samespan_run a1 a2)
 have C2 := Lib.hid (samespan_run a3 a4)
 have C3 := Lib.hid (samespan_run a5 a6)
 unfold spanV at C1 C2 C3
 have K0 := kv2 w 29 29 [.float .f64 a1, .float .f64 a2, .float .f64 a3, .float .f64 a4, .float .f64 a5, .float .f64 a6] [.float .f64 a1, .float .f64 a2, .float .f64 a3, .float .f64 a4, .float .f64 a5, .float .f64 a6]
 simp only [objV] at K0
 have hst := @fstore
 replace K0 := Lib.hid K0
 go_enter Tryz.func8, Tryz.ntmps8
 go_wp2_with fail
 have K := K0.out
 clear K0
 generalize (w.alloc _).alloc _ = wr at *
 refine (C1.out wr).mono ?_
 rintro _ v1 ⟨rfl, hb⟩
 replace K := K.on hb
 clear hb
 have c0_2 := (K.at_ 0 rfl).at_ 2 _ rfl
 have c0_3 := (K.at_ 0 rfl).at_ 3 _ rfl
 have c1_2 := (K.at_ 1 rfl).at_ 2 _ rfl
 have c1_3 := (K.at_ 1 rfl).at_ 3 _ rfl
 replace K := Lib.hid K
 go_wp2_with fail
 replace K := K.out
 refine (C2.out v1).mono ?_
 rintro _ v2 ⟨rfl, hb⟩
 clear c0_2 c0_3 c1_2 c1_3
 replace K := K.on hb
 clear hb
 have c0_4 := (K.at_ 0 rfl).at_ 4 _ rfl
 have c0_5 := (K.at_ 0 rfl).at_ 5 _ rfl
 have c1_4 := (K.at_ 1 rfl).at_ 4 _ rfl
 have c1_5 := (K.at_ 1 rfl).at_ 5 _ rfl
 replace K := Lib.hid K
 go_wp2_with fail
 replace K := K.out
 refine (C3.out v2).mono ?_
 rintro _ v3 ⟨rfl, hb⟩
 clear c0_4 c0_5 c1_4 c1_5
 replace K := K.on hb
 clear hb
 replace K := Lib.hid K
 go_wp2_with fail
 go_ret
 exact ⟨rfl, K.out.old⟩
end Go.Proofs.YtgnofnjbmiepjaaGreat
