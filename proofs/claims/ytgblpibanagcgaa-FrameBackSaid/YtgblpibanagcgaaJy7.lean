/- Proved here: what the texts Frg prove, one behind the other. -/
import Derived.Test.YtgblpibanagcgaaJy6

namespace Go.Proofs.Ytgblpibanagcgaa
open Go.ChangeShapes Go.WideShapes Go.ChangeAt Go.RowKit Ieee.Own

noncomputable def intoF (L : List Fr) (d : Nat) : List Nat → V3 → V3 × Int
  | [], v => (v, 0)
  | j :: js, v => if (intoF L d js v).2 = 0 then downR (frAt L j) d (intoF L d js v).1 else intoF L d js v
noncomputable def intoR (L : List Fr) (i : Int) (d : Nat) (v : V3) : V3 × Int :=
  if readyF L i (witB g24 d) = 0 then (if (addR v z3).2 = 0 then intoF L d (way L i) (addR v z3).1 else addR v z3) else (z3, readyF L i (witB g24 d))
theorem intoF_err {L : List Fr} {d : Nat} {v : V3} : ∀ (js : List Nat) (a : Nat), (intoF L d (js.drop a) v).2 ≠ 0 → intoF L d js v = intoF L d (js.drop a) v
  | js, 0, _ => rfl
  | [], a + 1, _ => by simp
  | j :: js, a + 1, h => by
    have h' : (intoF L d (js.drop a) v).2 ≠ 0 := h
    have := intoF_err js a h'
    show (if (intoF L d js v).2 = 0 then downR (frAt L j) d (intoF L d js v).1 else intoF L d js v) = intoF L d (js.drop a) v
    rw [this, if_neg h']
/-- where a walk down stands: k frames are done -/
def IntoAt (L : List Fr) (d : Nat) (js : List Nat) (v : V3) (k : Nat) (p : V3) (e : Int) : Prop := (e = 0 → intoF L d (js.drop (js.length - k)) v = (p, 0)) ∧ (e ≠ 0 → intoF L d js v = (p, e))
theorem IntoAt.fin {L : List Fr} {d : Nat} {js : List Nat} {v : V3} {k : Nat} {p : V3} {e : Int} (h : IntoAt L d js v k p e) (hk : e = 0 → k = js.length) : intoF L d js v = (p, e) := by
  by_cases he : e = 0
  · subst he
    have := h.1 rfl
    rw [hk rfl, Nat.sub_self] at this
    exact this
  · exact h.2 he
theorem IntoAt.next {L : List Fr} {d : Nat} {js : List Nat} {v : V3} {k x : Nat} {p q : V3} {e : Int} (h : IntoAt L d js v k p 0) (hx : x + k + 1 = js.length) (hd : downR (frAt L (js.getD x 0)) d p = (q, e)) : IntoAt L d js v (k + 1) q e := by
  have h1 := h.1 rfl
  have ex : js.length - k = x + 1 := by omega
  have ex2 : js.length - (k + 1) = x := by omega
  rw [ex] at h1
  have hc : js.drop x = js.getD x 0 :: js.drop (x + 1) := by
    have hl : x < js.length := by omega
    have e1 : js.getD x 0 = js[x] := by simp [List.getD, hl]
    rw [e1]
    exact List.drop_eq_getElem_cons hl
  have hi : intoF L d (js.drop x) v = (q, e) := by
    rw [hc]
    show (if (intoF L d (js.drop (x + 1)) v).2 = 0 then downR (frAt L (js.getD x 0)) d (intoF L d (js.drop (x + 1)) v).1 else intoF L d (js.drop (x + 1)) v) = _
    rw [h1, if_pos rfl]
    exact hd
  refine ⟨fun he => ?_, fun he => ?_⟩
  · rw [ex2, hi, he]
  · rw [intoF_err js x (by rw [hi]; exact he), hi]
theorem ret_vI {A : V3 × Int} {p1 p2 p3 : Nat} {k : Int} (h : A = ((p1, p2, p3), k)) : Ending.returned (.tuple #[.agg #[.float .f64 p1, .float .f64 p2, .float .f64 p3], .int .i64 k]) = .returned (vecE A.1 A.2) := by rw [h]; rfl
theorem OwnN.block {base : Nat} {w w' : World} {M : List Int} {v : Value} (h : OwnN base w M v w') (h0 : 0 < M.length) : ∃ g cap, v = .slice (some ⟨g, 0, none⟩) M.length cap ∧ base ≤ g ∧ M.length ≤ cap ∧ cap ≤ maxLen ∧ BV w' g (M.map fun x => .int .i64 x) := by
  obtain ⟨ao, cap, h1, h2, h3, h4, -, h5⟩ := ownsR_at h.ok h.own
  rw [inR_len] at h1 h2 h5
  have c : ∀ j, j < M.length → ∃ b o, ao = some ⟨b, o, none⟩ ∧ b < w'.heap.size ∧ w'.cell? ⟨b, o + j, none⟩ = some (.int .i64 (M.getD j 0)) := fun j hj => by
    obtain ⟨b, o, e, hb, hc⟩ := h4 j [.int .i64 (M.getD j 0)] (by simp [inR, List.getD, hj])
    have := hc 0 _ rfl
    rw [Nat.mul_one, Nat.add_zero] at this
    exact ⟨b, o, e, hb, this⟩
  obtain ⟨b, o, rfl, hb, -⟩ := c 0 h0
  obtain ⟨rfl, hg, hf⟩ := h5 b o rfl
  refine ⟨b, cap, h1, hg, h2, h3, hb, fun i u hu => ?_, fun i u hu => ?_⟩
  · have hi : i < M.length := by simpa using (List.getElem?_eq_some_iff.1 hu).1
    obtain ⟨b', o', e, -, hc⟩ := c i hi
    simp only [Option.some.injEq, Addr.mk.injEq, and_true] at e
    obtain ⟨rfl, rfl⟩ := e
    rw [Nat.zero_add] at hc
    rw [hc]
    have : (M.map fun x => Value.int .i64 x)[i]? = some (.int .i64 (M.getD i 0)) := by simp [List.getD, hi]
    rw [← this]; exact hu
  · have hi : i < M.length := by simpa using (List.getElem?_eq_some_iff.1 hu).1
    exact hf i (by omega)
set_option maxHeartbeats 4000000 in
set_option maxRecDepth 100000 in
theorem finto_run (ao : Option Addr) (cap n : Nat) (L : List Fr) (i0 : Int) (d : Nat) (v : V3) (w : World) (hn : n = L.length) (hm : n ≤ 4611686018427387904) (hL : FsW L) (ha : FAt w ao L) (hd : d < 18446744073709551616) (hv : W3 v) :
    Calls Try.prog 7 #[.slice ao n cap, .int .i64 i0, .float .f64 d, vecV v] w fun e w' => e = .returned (vecE (intoR L i0 d v).1 (intoR L i0 d v).2) ∧ Below w.heap.size w w' := by
  have CT := fun w => ftime_run d hd w
  have CR : Hid (∀ W, Below w.heap.size w W → Calls Try.prog 13 #[.slice ao n cap, .int .i64 i0, .bool (witB g24 d)] W fun e w' => e = .returned (.int .i64 (readyF L i0 (witB g24 d))) ∧ Below W.heap.size W w') :=
    Lib.hid fun W hb => ready_run ao cap n L i0 (witB g24 d) W hn hm hL (ha.below (fun b o e h => ha.lt b o e h) hb)
  have CS := Lib.hid (fun w => fstill_run hv w)
  have Y := ans_add hv z3_w
  unfold intoR
  by_cases hr : readyF L i0 (witB g24 d) = 0
  · rw [if_pos hr]
    rw [hr] at CR
    obtain ⟨c0, i1, i2, tt⟩ := readyF_zero hr
    have LO := Lib.hid (FsOk.of hL c0)
    have CW : Hid (∀ W, Below w.heap.size w W → Calls Try.prog 17 #[.slice ao n cap, .int .i64 i0] W fun e w' => ∃ v, e = .returned v ∧ OwnN W.heap.size W (wayI L i0) v w') :=
      Lib.hid fun W hb => fway_run ao cap n L i0 W hn LO.out (ha.below (fun b o e h => ha.lt b o e h) hb) i1 (by rw [hn]; exact i2)
    have WL := Lib.hid (way_lt LO.out L.length i0 i2 i2)
    have WN := way_len LO.out L.length i0 i1 i2 i2
    have L16 := LO.out.len
    obtain ⟨js, hjs⟩ : ∃ js, js = way L i0 := ⟨_, rfl⟩
    have eM : wayI L i0 = js.map fun (j : Nat) => (j : Int) := by rw [hjs]; rfl
    rw [eM] at CW
    rw [← hjs] at WL WN ⊢
    obtain ⟨m, hms⟩ : ∃ m, m = js.length := ⟨_, rfl⟩
    rw [← hms] at WN
    have m16 : m ≤ 16 := by omega
    have hA : ∃ A, A = (if (addR v z3).2 = 0 then intoF L d js (addR v z3).1 else addR v z3) := ⟨_, rfl⟩
    obtain ⟨A, hA⟩ := hA
    rw [← hA]
    clear hjs eM WN L16 i1 i2
    have hbad : (addR v z3).2 ≠ 0 → A = addR v z3 := fun e => by rw [hA, if_neg e]
    have hgood : (addR v z3).2 = 0 → A = intoF L d js (addR v z3).1 := fun e => by rw [hA, if_pos e]
    have YW := Y.w
    clear hA Y hr c0 hL
    generalize addR v z3 = Y at *
    obtain ⟨⟨y1, y2, y3⟩, k0⟩ := Y
    rw [tt] at CT CR
    obtain ⟨x1, x2, x3⟩ := v
    unfold vecV vecE at CS
    unfold vecV at *
    dsimp only at *
    replace ha := Lib.hid ha
    replace hn := Lib.hid hn
    replace hms := Lib.hid hms
    replace hbad := Lib.hid hbad
    replace hgood := Lib.hid hgood
    replace YW := Lib.hid YW
    replace hd := Lib.hid hd
    replace tt := Lib.hid tt
    clear hv
    have K0 := kv2 w 25 25 [.float .f64 x1, .float .f64 x2, .float .f64 x3] [.float .f64 0, .float .f64 0, .float .f64 0]
    simp only [objV] at K0
    have hst := @fstore
    replace K0 := Lib.hid K0
    go_enter Try.func7, Try.ntmps7
    go_wp2_with (go_at_call 14; ((with_reducible refine (CT _).mono ?_); rintro e w' ⟨rfl, rfl⟩))
    have K := K0.out
    clear K0
    generalize (w.alloc _).alloc _ = wr at *
    refine (CR.out wr K.old).mono ?_
    rintro _ v1 ⟨rfl, hb⟩
    replace K := K.on hb
    clear hb CR
    have c0_0 := (K.at_ 0 rfl).at_ 0 _ rfl
    have c0_1 := (K.at_ 0 rfl).at_ 1 _ rfl
    have c0_2 := (K.at_ 0 rfl).at_ 2 _ rfl
    replace K := Lib.hid K
    go_wp2_with fail
    replace K := K.out
    refine (CS.out v1).mono ?_
    rintro _ v2 ⟨rfl, hb⟩
    clear c0_0 c0_1 c0_2
    replace K := K.on hb
    clear hb CS
    replace K := K.new 25 [.float .f64 y1, .float .f64 y2, .float .f64 y3]
    simp only [objV, List.cons_append, List.nil_append] at K
    replace K := Lib.hid K
    go_wp2_with fail
    replace K := K.out
    generalize v2.alloc _ = wl at *
    generalize v2.heap.size = g1 at *
    refine (CW.out wl K.old).mono ?_
    rintro _ v3 ⟨sv, rfl, N⟩
    clear CW
    by_cases h0 : m = 0
    · subst h0
      have ejs : js = [] := List.eq_nil_of_length_eq_zero hms.out.symm
      have fin : A = ((y1, y2, y3), k0) := by
        by_cases e : k0 = 0
        · rw [hgood.out e, ejs, e]; rfl
        · exact hbad.out e
      obtain ⟨ao', c', rfl, -⟩ := ownN_slice N
      have el : ((js.map fun (j : Nat) => (j : Int))).length = 0 := by rw [ejs]; rfl
      rw [el]
      replace K := K.on N.old
      clear N el ejs
      replace fin := Lib.hid fin
      replace K := Lib.hid K
      go_wp2_with fail
      go_loopw [34, 12] (fun iv ev wr => iv = .int .i64 0 ∧ ev = .int .i64 k0 ∧ Kv w [some (w.heap.size, [.float .f64 x1, .float .f64 x2, .float .f64 x3]), some (w.heap.size + 1, [.float .f64 0, .float .f64 0, .float .f64 0]), some (g1, [.float .f64 y1, .float .f64 y2, .float .f64 y3])] wr) (fun _ _ _ => 0)
      case atStart => exact ⟨rfl, rfl, K.out⟩
      case round =>
        obtain ⟨rfl, rfl, K⟩ := hrel
        have c2_0 := (K.at_ 2 rfl).at_ 0 _ rfl
        have c2_1 := (K.at_ 2 rfl).at_ 1 _ rfl
        have c2_2 := (K.at_ 2 rfl).at_ 2 _ rfl
        have c1_0 := (K.at_ 1 rfl).at_ 0 _ rfl
        have f1_0 := (K.at_ 1 rfl).fr 0 _ rfl
        have c1_1 := (K.at_ 1 rfl).at_ 1 _ rfl
        have f1_1 := (K.at_ 1 rfl).fr 1 _ rfl
        have c1_2 := (K.at_ 1 rfl).at_ 2 _ rfl
        have f1_2 := (K.at_ 1 rfl).fr 2 _ rfl
        replace K := Lib.hid K
        go_wp2_with fail
        replace K := K.out
        (try simp only [Exit.inBlock, Exit.then])
        refine bodyPost_ret (v := .tuple #[.agg #[.float .f64 y1, .float .f64 y2, .float .f64 y3], .int .i64 k0]) ?_ rfl ⟨ret_vI fin.out, ?_⟩
        · rw [results_cell_tmp rfl]; go_simp
        · exact (((K.old).setCell (by first | exact Nat.le_refl _ | (dsimp only; omega)) _).setCell (by first | exact Nat.le_refl _ | (dsimp only; omega)) _).setCell (by first | exact Nat.le_refl _ | (dsimp only; omega)) _
    · have hM0 : 0 < (js.map fun (j : Nat) => (j : Int)).length := by simp; have := hms.out; omega
      obtain ⟨gw, c', rfl, hgw, hc1, hc2, B⟩ := N.block hM0
      have el : (js.map fun (j : Nat) => (j : Int)).length = m := by simp [hms.out]
      rw [el] at hc1 ⊢
      replace K := K.own N.old hgw B
      simp only [List.cons_append, List.nil_append] at K
      have WC : Hid (∀ x, x < m → (List.map (fun x => Value.int .i64 x) (js.map fun (j : Nat) => (j : Int)))[x]? = some (.int .i64 (js.getD x 0 : Nat))) := Lib.hid fun x hx => by
        have hx' : x < js.length := by have := hms.out; omega
        simp [List.getD, hx']
      generalize List.map (fun x => Value.int .i64 x) (js.map fun (j : Nat) => (j : Int)) = wc at *
      clear B N hM0 el hgw
      by_cases hk0 : k0 = 0
      · subst hk0
        have R0 := hgood.out rfl
        clear hgood hbad
        obtain ⟨V0, hV0⟩ : ∃ V0 : V3, V0 = (y1, y2, y3) := ⟨_, rfl⟩
        rw [← hV0] at R0
        replace hV0 := Lib.hid hV0
        subst R0
        have S0 : Hid (IntoAt L d js V0 0 (y1, y2, y3) 0) := Lib.hid ⟨fun _ => by rw [Nat.sub_zero, List.drop_length, hV0.out]; rfl, fun h => absurd rfl h⟩
        replace K := Lib.hid K
        go_wp2_with fail
        replace K := K.out
        go_loopw [34, 12] (fun iv ev wr => ∃ (k : Nat) (e : Int) (p1 p2 p3 : Nat), iv = .int .i64 k ∧ ev = .int .i64 e ∧ k ≤ m ∧ W3 (p1, p2, p3) ∧ IntoAt L d js V0 k (p1, p2, p3) e ∧ Kv w [some (w.heap.size, [.float .f64 x1, .float .f64 x2, .float .f64 x3]), some (w.heap.size + 1, [.float .f64 0, .float .f64 0, .float .f64 0]), some (g1, [.float .f64 p1, .float .f64 p2, .float .f64 p3]), some (gw, wc)] wr) (fun iv _ _ => m - (intOf iv).toNat)
        case atStart => exact ⟨0, 0, y1, y2, y3, rfl, rfl, Nat.zero_le _, YW.out, S0.out, K⟩
        case round =>
          obtain ⟨k, e, p1, p2, p3, rfl, rfl, hk, hw, R, K⟩ := hrel
          replace R := Lib.hid R
          replace hw := Lib.hid hw
          by_cases hkm : k < m
          · by_cases he : e = 0
            · subst he
              obtain ⟨x, hx⟩ : ∃ x, x + k + 1 = m := ⟨m - k - 1, by omega⟩
              have hx2 : x + k + 1 = js.length := by rw [hx]; exact hms.out
              have hcx := WC.out x (by omega)
              obtain ⟨jj, hjj⟩ : ∃ jj, jj = js.getD x 0 := ⟨_, rfl⟩
              have hjm : jj ∈ js := by
                have hl : x < js.length := by omega
                have e1 : js.getD x 0 = js[x] := by simp [List.getD, hl]
                rw [hjj, e1]; exact List.getElem_mem hl
              have hjl := (WL.out jj hjm).1
              have ok := LO.out.ok jj hjl
              have fw := LO.out.fw hjl
              have AA := ang_a fw hd.out ok.ph ok.rt tt.out
              have CU := Lib.hid (fun w => fdown_run (v := (p1, p2, p3)) fw ok.ax0 ok.ax1 AA hw.out w)
              have AU := (ans_down fw AA hw.out).w
              rw [← hjj] at hcx
              have NX : ∀ q e, downR (frAt L jj) d (p1, p2, p3) = (q, e) → IntoAt L d js V0 (k + 1) q e := fun q e h => R.out.next hx2 (by rw [← hjj]; exact h)
              clear R hjj hjm hx2
              have hjn : jj < n := by have := hn.out; omega
              obtain ⟨b, o, rfl, -, -⟩ := FAt.cells ha.out hjl
              have far := fun up ax ph rt o1 o2 o3 => cellsFar (up := up) (ax := ax) (ph := ph) (rt := rt) (o1 := o1) (o2 := o2) (o3 := o3) ha.out hjl rfl
              clear fw ok AA hjl
              generalize hU : downR (frAt L jj) d (p1, p2, p3) = U at *
              clear hU
              generalize frAt L jj = f at *
              obtain ⟨up, ax, ph, rt, o1, o2, o3⟩ := f
              obtain ⟨⟨y1', y2', y3'⟩, k'⟩ := U
              replace NX := NX _ _ rfl
              replace far := far _ _ _ _ _ _ _ rfl
              unfold frV vecV vecE at CU
              dsimp only at *
              replace far := Lib.hid far
              replace NX := Lib.hid NX
              replace AU := Lib.hid AU
              obtain ⟨m1, hm1⟩ : ∃ m1 : Nat, m1 = x + k := ⟨_, rfl⟩
              have e1 : IntKind.i64.wrap ((m : Int) - 1) = (m1 : Int) := by rw [IntWalk.i64_in _ (by omega)]; omega
              have e2 : IntKind.i64.wrap ((m1 : Int) - (k : Int)) = (x : Int) := by rw [IntWalk.i64_in _ (by omega)]; omega
              clear hm1
              have hxm : x < m := by omega
              replace hx := Lib.hid hx
              replace hcx := Lib.hid hcx
              replace K := Lib.hid K
              replace e1 := Lib.hid e1
              replace e2 := Lib.hid e2
              go_upto_region 10 with fail
              replace K := K.out
              generalize hds : ([some 40, some 41, some 42, some 43, some 44, some 45, some 46, some 47, some 48, some 49, some 50, some 51, some 52, some 53, some 39, some 54, some 55, none, some 12] : List (Option Tmp)) = ds
              have hap : apartL ds = true := by rw [← hds]; decide
              replace hds := hds.symm
              refine wp_region_kv (fun hf => [some (w.heap.size, [.float .f64 x1, .float .f64 x2, .float .f64 x3]), some (w.heap.size + 1, [.float .f64 0, .float .f64 0, .float .f64 0]), some (g1, [.float .f64 y1', .float .f64 y2', .float .f64 y3']), some (gw, wc)]) (fun hf => [some (.slice (some ⟨b, o, none⟩) n cap), some (.slice (some ⟨gw, 0, none⟩) m c'), some (.slice (some ⟨gw, 0, none⟩) m c'), some (.int .i64 (m : Int)), some (.int .i64 (m1 : Int)), some (.int .i64 (k : Int)), some (.int .i64 (x : Int)), some (.pointer (some ⟨gw, x, none⟩)), some (.int .i64 (jj : Int)), some (.pointer (some ⟨b, o + jj * 7, none⟩)), some (.agg #[.int .i64 up, .int .i64 ax, .float .f64 ph, .float .f64 rt, .float .f64 o1, .float .f64 o2, .float .f64 o3]), some (.float .f64 d), some (.agg #[.float .f64 p1, .float .f64 p2, .float .f64 p3]), some (.tuple #[.agg #[.float .f64 y1', .float .f64 y2', .float .f64 y3'], .int .i64 k']), some (.tuple #[.agg #[.float .f64 y1', .float .f64 y2', .float .f64 y3'], .int .i64 k']), some (.agg #[.float .f64 y1', .float .f64 y2', .float .f64 y3']), some (.int .i64 k'), some (undef), some (.int .i64 k')]) [] [⟨17, 2, 0, [.float .f64 y1', .float .f64 y2', .float .f64 y3']⟩] [.slice (some ⟨b, o, none⟩) n cap, .slice (some ⟨gw, 0, none⟩) m c', .slice (some ⟨gw, 0, none⟩) m c', .int .i64 (m : Int), .int .i64 (m1 : Int), .int .i64 (k : Int), .int .i64 (x : Int), .pointer (some ⟨gw, x, none⟩), .int .i64 (jj : Int), .pointer (some ⟨b, o + jj * 7, none⟩), .agg #[.int .i64 up, .int .i64 ax, .float .f64 ph, .float .f64 rt, .float .f64 o1, .float .f64 o2, .float .f64 o3], .float .f64 d, .agg #[.float .f64 p1, .float .f64 p2, .float .f64 p3], .tuple #[.agg #[.float .f64 y1', .float .f64 y2', .float .f64 y3'], .int .i64 k'], .tuple #[.agg #[.float .f64 y1', .float .f64 y2', .float .f64 y3'], .int .i64 k'], .agg #[.float .f64 y1', .float .f64 y2', .float .f64 y3'], .int .i64 k', undef, .int .i64 k'] ds (by kernel_rfl) (by rw [hds]; rfl) hap (by decide +kernel) (by decide +kernel) K ?ha ?haj ?hai ?hsi ?hss ?hsa ?hsw ?htg ?hE2 ?hE3 ?hE4 ?hL1 ?hL2 ?hL3 ?alloc ?step ?store ?fin
              case ha => intro al hal; cases hal
              case haj => intro al hal al' hal' e; cases hal
              case hai => intro al hal; cases hal
              case hsi => intro st hst st' hst' e; simp only [List.mem_cons, List.not_mem_nil, or_false] at hst; rcases hst with rfl <;> (simp only [List.mem_cons, List.not_mem_nil, or_false] at hst'; rcases hst' with rfl) <;> first | rfl | (exfalso; revert e; simp)
              case hss =>
                intro st hst
                simp only [List.mem_cons, List.not_mem_nil, or_false] at hst; rcases hst with rfl
                · show 17 < 19; decide
              case hsa =>
                intro st hst al hal
                cases hal
              case hsw =>
                intro st hst al hal e
                cases hal
              case htg =>
                intro st hst
                simp only [List.mem_cons, List.not_mem_nil, or_false] at hst; rcases hst with rfl
                · exact .inl ⟨_, _, rfl, show 0 + 3 ≤ 3 by decide⟩
              case hE2 =>
                intro hf j h1 h2
                have n2 : 2 ≠ j := h1 _ (List.mem_cons_self ..)
                rcases j with _ | _ | _ | _ | j
                · rfl
                · rfl
                · exact absurd rfl n2
                · rfl
                · rfl
              case hE3 =>
                intro hf st hst g us e
                simp only [List.mem_cons, List.not_mem_nil, or_false] at hst; rcases hst with rfl
                · obtain ⟨rfl, rfl⟩ := Prod.mk.inj (Option.some.inj (Option.some.inj e)); rfl
              case hE4 =>
                intro hf al hal
                cases hal
              case hL1 => intro hf; rfl
              case hL2 =>
                intro hf i hi hna
                have hi : i < 19 := hi
                have : i = 0 ∨ i = 1 ∨ i = 2 ∨ i = 3 ∨ i = 4 ∨ i = 5 ∨ i = 6 ∨ i = 7 ∨ i = 8 ∨ i = 9 ∨ i = 10 ∨ i = 11 ∨ i = 12 ∨ i = 13 ∨ i = 14 ∨ i = 15 ∨ i = 16 ∨ i = 17 ∨ i = 18 := by omega
                rcases this with rfl | rfl | rfl | rfl | rfl | rfl | rfl | rfl | rfl | rfl | rfl | rfl | rfl | rfl | rfl | rfl | rfl | rfl | rfl
                · rfl
                · rfl
                · rfl
                · rfl
                · rfl
                · rfl
                · rfl
                · rfl
                · rfl
                · rfl
                · rfl
                · rfl
                · rfl
                · rfl
                · rfl
                · rfl
                · rfl
                · rfl
                · rfl
              case hL3 => intro hf al hal; cases hal
              case alloc =>
                intro al hal o ρ W ho
                cases hal
              case step =>
                intro L W i o ho hs ha hd hB hO
                have hi : i < 19 := (Array.getElem?_eq_some_iff.1 ho).1
                have : i = 0 ∨ i = 1 ∨ i = 2 ∨ i = 3 ∨ i = 4 ∨ i = 5 ∨ i = 6 ∨ i = 7 ∨ i = 8 ∨ i = 9 ∨ i = 10 ∨ i = 11 ∨ i = 12 ∨ i = 13 ∨ i = 14 ∨ i = 15 ∨ i = 16 ∨ i = 17 ∨ i = 18 := by omega
                rcases this with rfl | rfl | rfl | rfl | rfl | rfl | rfl | rfl | rfl | rfl | rfl | rfl | rfl | rfl | rfl | rfl | rfl | rfl | rfl
                · -- 0
                  obtain rfl := Option.some.inj ho
                  refine .value W ?_ (Below.refl _ _)
                  generalize hA : (puts ds L _).eval = ρ
                  have hc : ∀ v, ρ (.const v) = v := fun v => by rw [← hA]; rfl
                  have hg : ∀ g, ρ (.func g) = .func (.func g) #[] #[] := fun v => by rw [← hA]; rfl
                  have h0 : ρ (.tmp 0) = .slice (some ⟨b, o, none⟩) n cap := by rw [← hA]; exact (puts_old ds L _ (by rw [hds]; decide)).trans rfl
                  clear hA hd hB ho hs ha hO
                  unfold execOp
                  go_simp
                · -- 1
                  obtain rfl := Option.some.inj ho
                  refine .value W ?_ (Below.refl _ _)
                  generalize hA : (puts ds L _).eval = ρ
                  have hc : ∀ v, ρ (.const v) = v := fun v => by rw [← hA]; rfl
                  have hg : ∀ g, ρ (.func g) = .func (.func g) #[] #[] := fun v => by rw [← hA]; rfl
                  have h0 : ρ (.tmp 13) = .slice (some ⟨gw, 0, none⟩) m c' := by rw [← hA]; exact (puts_old ds L _ (by rw [hds]; decide)).trans rfl
                  clear hA hd hB ho hs ha hO
                  unfold execOp
                  go_simp
                · -- 2
                  obtain rfl := Option.some.inj ho
                  refine .value W ?_ (Below.refl _ _)
                  generalize hA : (puts ds L _).eval = ρ
                  have hc : ∀ v, ρ (.const v) = v := fun v => by rw [← hA]; rfl
                  have hg : ∀ g, ρ (.func g) = .func (.func g) #[] #[] := fun v => by rw [← hA]; rfl
                  have h0 : ρ (.tmp 13) = .slice (some ⟨gw, 0, none⟩) m c' := by rw [← hA]; exact (puts_old ds L _ (by rw [hds]; decide)).trans rfl
                  clear hA hd hB ho hs ha hO
                  unfold execOp
                  go_simp
                · -- 3
                  obtain rfl := Option.some.inj ho
                  refine .value W ?_ (Below.refl _ _)
                  generalize hA : (puts ds L _).eval = ρ
                  have hc : ∀ v, ρ (.const v) = v := fun v => by rw [← hA]; rfl
                  have hg : ∀ g, ρ (.func g) = .func (.func g) #[] #[] := fun v => by rw [← hA]; rfl
                  have h0 : ρ (.tmp 42) = .slice (some ⟨gw, 0, none⟩) m c' := by rw [← hA]; exact puts_get 2 ds L _ hap (by rw [hds]; rfl) (hd 2 (by decide +kernel) (by intro al hal; cases hal)) (show 42 < 59 by decide)
                  clear hA hd hB ho hs ha hO
                  unfold execOp
                  go_simp
                · -- 4
                  obtain rfl := Option.some.inj ho
                  refine .value W ?_ (Below.refl _ _)
                  generalize hA : (puts ds L _).eval = ρ
                  have hc : ∀ v, ρ (.const v) = v := fun v => by rw [← hA]; rfl
                  have hg : ∀ g, ρ (.func g) = .func (.func g) #[] #[] := fun v => by rw [← hA]; rfl
                  have h0 : ρ (.tmp 43) = .int .i64 (m : Int) := by rw [← hA]; exact puts_get 3 ds L _ hap (by rw [hds]; rfl) (hd 3 (by decide +kernel) (by intro al hal; cases hal)) (show 43 < 59 by decide)
                  clear hA hd hB ho hs ha hO
                  have e1' := e1.out
                  unfold execOp
                  go_simp
                · -- 5
                  obtain rfl := Option.some.inj ho
                  refine .value W ?_ (Below.refl _ _)
                  generalize hA : (puts ds L _).eval = ρ
                  have hc : ∀ v, ρ (.const v) = v := fun v => by rw [← hA]; rfl
                  have hg : ∀ g, ρ (.func g) = .func (.func g) #[] #[] := fun v => by rw [← hA]; rfl
                  have h0 : ρ (.tmp 14) = .int .i64 (k : Int) := by rw [← hA]; exact (puts_old ds L _ (by rw [hds]; decide)).trans rfl
                  clear hA hd hB ho hs ha hO
                  unfold execOp
                  go_simp
                · -- 6
                  obtain rfl := Option.some.inj ho
                  refine .value W ?_ (Below.refl _ _)
                  generalize hA : (puts ds L _).eval = ρ
                  have hc : ∀ v, ρ (.const v) = v := fun v => by rw [← hA]; rfl
                  have hg : ∀ g, ρ (.func g) = .func (.func g) #[] #[] := fun v => by rw [← hA]; rfl
                  have h0 : ρ (.tmp 44) = .int .i64 (m1 : Int) := by rw [← hA]; exact puts_get 4 ds L _ hap (by rw [hds]; rfl) (hd 4 (by decide +kernel) (by intro al hal; cases hal)) (show 44 < 59 by decide)
                  have h1 : ρ (.tmp 45) = .int .i64 (k : Int) := by rw [← hA]; exact puts_get 5 ds L _ hap (by rw [hds]; rfl) (hd 5 (by decide +kernel) (by intro al hal; cases hal)) (show 45 < 59 by decide)
                  clear hA hd hB ho hs ha hO
                  have e2' := e2.out
                  unfold execOp
                  go_simp
                · -- 7
                  obtain rfl := Option.some.inj ho
                  refine .value W ?_ (Below.refl _ _)
                  generalize hA : (puts ds L _).eval = ρ
                  have hc : ∀ v, ρ (.const v) = v := fun v => by rw [← hA]; rfl
                  have hg : ∀ g, ρ (.func g) = .func (.func g) #[] #[] := fun v => by rw [← hA]; rfl
                  have h0 : ρ (.tmp 41) = .slice (some ⟨gw, 0, none⟩) m c' := by rw [← hA]; exact puts_get 1 ds L _ hap (by rw [hds]; rfl) (hd 1 (by decide +kernel) (by intro al hal; cases hal)) (show 41 < 59 by decide)
                  have h1 : ρ (.tmp 46) = .int .i64 (x : Int) := by rw [← hA]; exact puts_get 6 ds L _ hap (by rw [hds]; rfl) (hd 6 (by decide +kernel) (by intro al hal; cases hal)) (show 46 < 59 by decide)
                  clear hA hd hB ho hs ha hO
                  have hlt2 := hxm
                  unfold execOp
                  go_simp
                · -- 8
                  obtain rfl := Option.some.inj ho
                  have b := hB 3 _ _ rfl (by
                    intro st hst e
                    simp only [List.mem_cons, List.not_mem_nil, or_false] at hst; rcases hst with rfl
                    · exact absurd e (show ¬ 2 = 3 by decide))
                  have c0 := b.at_ _ _ hcx.out
                  clear b
                  refine .value W ?_ (Below.refl _ _)
                  generalize hA : (puts ds L _).eval = ρ
                  have hc : ∀ v, ρ (.const v) = v := fun v => by rw [← hA]; rfl
                  have hg : ∀ g, ρ (.func g) = .func (.func g) #[] #[] := fun v => by rw [← hA]; rfl
                  have h0 : ρ (.tmp 47) = .pointer (some ⟨gw, x, none⟩) := by rw [← hA]; exact puts_get 7 ds L _ hap (by rw [hds]; rfl) (hd 7 (by decide +kernel) (by intro al hal; cases hal)) (show 47 < 59 by decide)
                  clear hA hd hB ho hs ha hO
                  unfold execOp
                  go_simp
                · -- 9
                  obtain rfl := Option.some.inj ho
                  refine .value W ?_ (Below.refl _ _)
                  generalize hA : (puts ds L _).eval = ρ
                  have hc : ∀ v, ρ (.const v) = v := fun v => by rw [← hA]; rfl
                  have hg : ∀ g, ρ (.func g) = .func (.func g) #[] #[] := fun v => by rw [← hA]; rfl
                  have h0 : ρ (.tmp 40) = .slice (some ⟨b, o, none⟩) n cap := by rw [← hA]; exact puts_get 0 ds L _ hap (by rw [hds]; rfl) (hd 0 (by decide +kernel) (by intro al hal; cases hal)) (show 40 < 59 by decide)
                  have h1 : ρ (.tmp 48) = .int .i64 (jj : Int) := by rw [← hA]; exact puts_get 8 ds L _ hap (by rw [hds]; rfl) (hd 8 (by decide +kernel) (by intro al hal; cases hal)) (show 48 < 59 by decide)
                  clear hA hd hB ho hs ha hO
                  have hlt2 := hjn
                  unfold execOp
                  go_simp
                · -- 10
                  obtain rfl := Option.some.inj ho
                  obtain ⟨d0, d1, d2, d3, d4, d5, d6⟩ := far.out W hO
                  refine .value W ?_ (Below.refl _ _)
                  generalize hA : (puts ds L _).eval = ρ
                  have hc : ∀ v, ρ (.const v) = v := fun v => by rw [← hA]; rfl
                  have hg : ∀ g, ρ (.func g) = .func (.func g) #[] #[] := fun v => by rw [← hA]; rfl
                  have h0 : ρ (.tmp 49) = .pointer (some ⟨b, o + jj * 7, none⟩) := by rw [← hA]; exact puts_get 9 ds L _ hap (by rw [hds]; rfl) (hd 9 (by decide +kernel) (by intro al hal; cases hal)) (show 49 < 59 by decide)
                  clear hA hd hB ho hs ha hO
                  unfold execOp
                  go_simp
                · -- 11
                  obtain rfl := Option.some.inj ho
                  refine .value W ?_ (Below.refl _ _)
                  generalize hA : (puts ds L _).eval = ρ
                  have hc : ∀ v, ρ (.const v) = v := fun v => by rw [← hA]; rfl
                  have hg : ∀ g, ρ (.func g) = .func (.func g) #[] #[] := fun v => by rw [← hA]; rfl
                  have h0 : ρ (.tmp 2) = .float .f64 d := by rw [← hA]; exact (puts_old ds L _ (by rw [hds]; decide)).trans rfl
                  clear hA hd hB ho hs ha hO
                  unfold execOp
                  go_simp
                · -- 12
                  obtain rfl := Option.some.inj ho
                  have b := hB 2 _ _ rfl (by
                    intro st hst e
                    simp only [List.mem_cons, List.not_mem_nil, or_false] at hst; rcases hst with rfl
                    · change needs _ _ 17 12 = true; decide +kernel)
                  have c0 := b.at_ 0 _ rfl
                  have c1 := b.at_ 1 _ rfl
                  have c2 := b.at_ 2 _ rfl
                  clear b
                  refine .value W ?_ (Below.refl _ _)
                  generalize hA : (puts ds L _).eval = ρ
                  have hc : ∀ v, ρ (.const v) = v := fun v => by rw [← hA]; rfl
                  have hg : ∀ g, ρ (.func g) = .func (.func g) #[] #[] := fun v => by rw [← hA]; rfl
                  have h0 : ρ (.tmp 11) = .pointer (some ⟨g1, 0, none⟩) := by rw [← hA]; exact (puts_old ds L _ (by rw [hds]; decide)).trans rfl
                  clear hA hd hB ho hs ha hO
                  unfold execOp
                  go_simp
                · -- 13
                  obtain rfl := Option.some.inj ho
                  refine .call 18 #[.agg #[.int .i64 up, .int .i64 ax, .float .f64 ph, .float .f64 rt, .float .f64 o1, .float .f64 o2, .float .f64 o3], .float .f64 d, .agg #[.float .f64 p1, .float .f64 p2, .float .f64 p3]] ?_ (CU.out W)
                  generalize hA : (puts ds L _).eval = ρ
                  have hc : ∀ v, ρ (.const v) = v := fun v => by rw [← hA]; rfl
                  have hg : ∀ g, ρ (.func g) = .func (.func g) #[] #[] := fun v => by rw [← hA]; rfl
                  have h0 : ρ (.tmp 50) = .agg #[.int .i64 up, .int .i64 ax, .float .f64 ph, .float .f64 rt, .float .f64 o1, .float .f64 o2, .float .f64 o3] := by rw [← hA]; exact puts_get 10 ds L _ hap (by rw [hds]; rfl) (hd 10 (by decide +kernel) (by intro al hal; cases hal)) (show 50 < 59 by decide)
                  have h1 : ρ (.tmp 51) = .float .f64 d := by rw [← hA]; exact puts_get 11 ds L _ hap (by rw [hds]; rfl) (hd 11 (by decide +kernel) (by intro al hal; cases hal)) (show 51 < 59 by decide)
                  have h2 : ρ (.tmp 52) = .agg #[.float .f64 p1, .float .f64 p2, .float .f64 p3] := by rw [← hA]; exact puts_get 12 ds L _ hap (by rw [hds]; rfl) (hd 12 (by decide +kernel) (by intro al hal; cases hal)) (show 52 < 59 by decide)
                  have hf := Try.func18
                  unfold execOp
                  go_simp
                · -- 14
                  obtain rfl := Option.some.inj ho
                  refine .value W ?_ (Below.refl _ _)
                  generalize hA : (puts ds L _).eval = ρ
                  have hc : ∀ v, ρ (.const v) = v := fun v => by rw [← hA]; rfl
                  have hg : ∀ g, ρ (.func g) = .func (.func g) #[] #[] := fun v => by rw [← hA]; rfl
                  have h0 : ρ (.tmp 53) = .tuple #[.agg #[.float .f64 y1', .float .f64 y2', .float .f64 y3'], .int .i64 k'] := by rw [← hA]; exact puts_get 13 ds L _ hap (by rw [hds]; rfl) (hd 13 (by decide +kernel) (by intro al hal; cases hal)) (show 53 < 59 by decide)
                  clear hA hd hB ho hs ha hO
                  unfold execOp
                  go_simp
                · -- 15
                  obtain rfl := Option.some.inj ho
                  refine .value W ?_ (Below.refl _ _)
                  generalize hA : (puts ds L _).eval = ρ
                  have hc : ∀ v, ρ (.const v) = v := fun v => by rw [← hA]; rfl
                  have hg : ∀ g, ρ (.func g) = .func (.func g) #[] #[] := fun v => by rw [← hA]; rfl
                  have h0 : ρ (.tmp 39) = .tuple #[.agg #[.float .f64 y1', .float .f64 y2', .float .f64 y3'], .int .i64 k'] := by rw [← hA]; exact puts_get 14 ds L _ hap (by rw [hds]; rfl) (hd 14 (by decide +kernel) (by intro al hal; cases hal)) (show 39 < 59 by decide)
                  clear hA hd hB ho hs ha hO
                  unfold execOp
                  go_simp
                · -- 16
                  obtain rfl := Option.some.inj ho
                  refine .value W ?_ (Below.refl _ _)
                  generalize hA : (puts ds L _).eval = ρ
                  have hc : ∀ v, ρ (.const v) = v := fun v => by rw [← hA]; rfl
                  have hg : ∀ g, ρ (.func g) = .func (.func g) #[] #[] := fun v => by rw [← hA]; rfl
                  have h0 : ρ (.tmp 39) = .tuple #[.agg #[.float .f64 y1', .float .f64 y2', .float .f64 y3'], .int .i64 k'] := by rw [← hA]; exact puts_get 14 ds L _ hap (by rw [hds]; rfl) (hd 14 (by decide +kernel) (by intro al hal; cases hal)) (show 39 < 59 by decide)
                  clear hA hd hB ho hs ha hO
                  unfold execOp
                  go_simp
                · -- 17
                  exact absurd rfl (hs _ (List.mem_cons_self ..))
                · -- 18
                  obtain rfl := Option.some.inj ho
                  refine .value W ?_ (Below.refl _ _)
                  generalize hA : (puts ds L _).eval = ρ
                  have hc : ∀ v, ρ (.const v) = v := fun v => by rw [← hA]; rfl
                  have hg : ∀ g, ρ (.func g) = .func (.func g) #[] #[] := fun v => by rw [← hA]; rfl
                  have h0 : ρ (.tmp 55) = .int .i64 k' := by rw [← hA]; exact puts_get 16 ds L _ hap (by rw [hds]; rfl) (hd 16 (by decide +kernel) (by intro al hal; cases hal)) (show 55 < 59 by decide)
                  clear hA hd hB ho hs ha hO
                  unfold execOp
                  go_simp
              case store =>
                intro st hst L W o h us ho hd hal hC b
                simp only [List.mem_cons, List.not_mem_nil, or_false] at hst; rcases hst with rfl
                · dsimp only at ho hd hal hC b ⊢
                  obtain rfl := Option.some.inj ho
                  obtain ⟨hh, rfl⟩ := hC _ _ rfl
                  replace hh := hh.symm
                  subst hh
                  have c0 := b.at_ 0 _ rfl
                  have f0 := b.fr 0 _ rfl
                  have c1 := b.at_ 1 _ rfl
                  have f1 := b.fr 1 _ rfl
                  have c2 := b.at_ 2 _ rfl
                  have f2 := b.fr 2 _ rfl
                  refine ⟨?_, rfl⟩
                  generalize hA : (puts ds L _).eval = ρ
                  have h0 : ρ (.tmp 11) = .pointer (some ⟨g1, 0, none⟩) := by rw [← hA]; exact (puts_old ds L _ (by rw [hds]; decide)).trans rfl
                  have h1 : ρ (.tmp 54) = .agg #[.float .f64 y1', .float .f64 y2', .float .f64 y3'] := by rw [← hA]; exact puts_get 15 ds L _ hap (by rw [hds]; rfl) (hd 15 (by decide +kernel) (by intro al hal; cases hal)) (show 54 < 59 by decide)
                  have hst' := @fstore
                  clear hA hd b ho hal hC
                  simp only [putV]
                  unfold execOp
                  go_simp
              case fin =>
                intro hf W0 K
                rw [hds]
                clear hds hap ds CU
                (try dsimp only at K)
                simp only [List.set_cons_zero, List.set_cons_succ, puts, Act.put, List.setIfInBounds_toArray]
                replace K := Lib.hid K
                go_wp2_with fail
                go_roundw
                case rel => exact ⟨k + 1, k', y1', y2', y3', by go_num, rfl, hkm, AU.out, NX.out, K.out⟩
                case measure => simp [intOf]; omega
            · have te : (e != 0) = true := by simpa using he
              have fin := R.out.fin (fun h => absurd h he)
              replace fin := Lib.hid fin
              have c2_0 := (K.at_ 2 rfl).at_ 0 _ rfl
              have c2_1 := (K.at_ 2 rfl).at_ 1 _ rfl
              have c2_2 := (K.at_ 2 rfl).at_ 2 _ rfl
              have c1_0 := (K.at_ 1 rfl).at_ 0 _ rfl
              have f1_0 := (K.at_ 1 rfl).fr 0 _ rfl
              have c1_1 := (K.at_ 1 rfl).at_ 1 _ rfl
              have f1_1 := (K.at_ 1 rfl).fr 1 _ rfl
              have c1_2 := (K.at_ 1 rfl).at_ 2 _ rfl
              have f1_2 := (K.at_ 1 rfl).fr 2 _ rfl
              replace K := Lib.hid K
              go_wp2_with fail
              replace K := K.out
              (try simp only [Exit.inBlock, Exit.then])
              refine bodyPost_ret (v := .tuple #[.agg #[.float .f64 p1, .float .f64 p2, .float .f64 p3], .int .i64 e]) ?_ rfl ⟨ret_vI fin.out, ?_⟩
              · rw [results_cell_tmp rfl]; go_simp
              · exact (((K.old).setCell (by first | exact Nat.le_refl _ | (dsimp only; omega)) _).setCell (by first | exact Nat.le_refl _ | (dsimp only; omega)) _).setCell (by first | exact Nat.le_refl _ | (dsimp only; omega)) _
          · obtain rfl : k = m := by omega
            have fin := R.out.fin (fun _ => hms.out)
            replace fin := Lib.hid fin
            have c2_0 := (K.at_ 2 rfl).at_ 0 _ rfl
            have c2_1 := (K.at_ 2 rfl).at_ 1 _ rfl
            have c2_2 := (K.at_ 2 rfl).at_ 2 _ rfl
            have c1_0 := (K.at_ 1 rfl).at_ 0 _ rfl
            have f1_0 := (K.at_ 1 rfl).fr 0 _ rfl
            have c1_1 := (K.at_ 1 rfl).at_ 1 _ rfl
            have f1_1 := (K.at_ 1 rfl).fr 1 _ rfl
            have c1_2 := (K.at_ 1 rfl).at_ 2 _ rfl
            have f1_2 := (K.at_ 1 rfl).fr 2 _ rfl
            replace K := Lib.hid K
            go_wp2_with fail
            replace K := K.out
            (try simp only [Exit.inBlock, Exit.then])
            refine bodyPost_ret (v := .tuple #[.agg #[.float .f64 p1, .float .f64 p2, .float .f64 p3], .int .i64 e]) ?_ rfl ⟨ret_vI fin.out, ?_⟩
            · rw [results_cell_tmp rfl]; go_simp
            · exact (((K.old).setCell (by first | exact Nat.le_refl _ | (dsimp only; omega)) _).setCell (by first | exact Nat.le_refl _ | (dsimp only; omega)) _).setCell (by first | exact Nat.le_refl _ | (dsimp only; omega)) _
      · have te : (k0 != 0) = true := by simpa using hk0
        have fin := hbad.out hk0
        replace fin := Lib.hid fin
        replace K := Lib.hid K
        go_wp2_with fail
        replace K := K.out
        go_loopw [34, 12] (fun iv ev wr => iv = .int .i64 0 ∧ ev = .int .i64 k0 ∧ Kv w [some (w.heap.size, [.float .f64 x1, .float .f64 x2, .float .f64 x3]), some (w.heap.size + 1, [.float .f64 0, .float .f64 0, .float .f64 0]), some (g1, [.float .f64 y1, .float .f64 y2, .float .f64 y3]), some (gw, wc)] wr) (fun _ _ _ => 0)
        case atStart => exact ⟨rfl, rfl, K⟩
        case round =>
          obtain ⟨rfl, rfl, K⟩ := hrel
          have m0 : decide ((0 : Int) < (m : Int)) = true := decide_eq_true (by omega)
          have c2_0 := (K.at_ 2 rfl).at_ 0 _ rfl
          have c2_1 := (K.at_ 2 rfl).at_ 1 _ rfl
          have c2_2 := (K.at_ 2 rfl).at_ 2 _ rfl
          have c1_0 := (K.at_ 1 rfl).at_ 0 _ rfl
          have f1_0 := (K.at_ 1 rfl).fr 0 _ rfl
          have c1_1 := (K.at_ 1 rfl).at_ 1 _ rfl
          have f1_1 := (K.at_ 1 rfl).fr 1 _ rfl
          have c1_2 := (K.at_ 1 rfl).at_ 2 _ rfl
          have f1_2 := (K.at_ 1 rfl).fr 2 _ rfl
          replace K := Lib.hid K
          go_wp2_with fail
          replace K := K.out
          (try simp only [Exit.inBlock, Exit.then])
          refine bodyPost_ret (v := .tuple #[.agg #[.float .f64 y1, .float .f64 y2, .float .f64 y3], .int .i64 k0]) ?_ rfl ⟨ret_vI fin.out, ?_⟩
          · rw [results_cell_tmp rfl]; go_simp
          · exact (((K.old).setCell (by first | exact Nat.le_refl _ | (dsimp only; omega)) _).setCell (by first | exact Nat.le_refl _ | (dsimp only; omega)) _).setCell (by first | exact Nat.le_refl _ | (dsimp only; omega)) _
  · rw [if_neg hr]
    have tk : (readyF L i0 (witB g24 d) != 0) = true := by simpa using hr
    clear hr ha hn hL hv Y CS
    generalize readyF L i0 (witB g24 d) = k at *
    generalize witB g24 d = tb at *
    obtain ⟨x1, x2, x3⟩ := v
    unfold vecV at *
    dsimp only at *
    have K0 := kv2 w 25 25 [.float .f64 x1, .float .f64 x2, .float .f64 x3] [.float .f64 0, .float .f64 0, .float .f64 0]
    simp only [objV] at K0
    have hst := @fstore
    replace K0 := Lib.hid K0
    go_enter Try.func7, Try.ntmps7
    go_wp2_with (go_at_call 14; ((with_reducible refine (CT _).mono ?_); rintro e w' ⟨rfl, rfl⟩))
    have K := K0.out
    clear K0
    generalize (w.alloc _).alloc _ = wr at *
    refine (CR.out wr K.old).mono ?_
    rintro _ v1 ⟨rfl, hb⟩
    replace K := K.on hb
    clear hb CR
    have c1_0 := (K.at_ 1 rfl).at_ 0 _ rfl
    have f1_0 := (K.at_ 1 rfl).fr 0 _ rfl
    have c1_1 := (K.at_ 1 rfl).at_ 1 _ rfl
    have f1_1 := (K.at_ 1 rfl).fr 1 _ rfl
    have c1_2 := (K.at_ 1 rfl).at_ 2 _ rfl
    have f1_2 := (K.at_ 1 rfl).fr 2 _ rfl
    replace K := Lib.hid K
    go_wp2_with fail
    replace K := K.out
    (try simp only [Exit.inBlock, Exit.then])
    refine bodyPost_ret (v := .tuple #[.agg #[.float .f64 0, .float .f64 0, .float .f64 0], .int .i64 k]) ?_ rfl ⟨rfl, ?_⟩
    · rw [results_cell_tmp rfl]; go_simp
    · exact (((K.old).setCell (by first | exact Nat.le_refl _ | (dsimp only; omega)) _).setCell (by first | exact Nat.le_refl _ | (dsimp only; omega)) _).setCell (by first | exact Nat.le_refl _ | (dsimp only; omega)) _
end Go.Proofs.Ytgblpibanagcgaa
