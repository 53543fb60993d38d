/- Proved here: what the texts Wvm, Wvn, Wvo prove, one behind the other. -/
import Derived.Test.YtgnofnjbmiepjaaJw2
import Derived.Test.YtgnofnjbmiepjaaJy6
import Derived.Test.YtgnofnjbmiepjaaJw5
import Derived.Test.YtgnofnjbmiepjaaJw6
import Derived.Test.YtgnofnjbmiepjaaJb4b
import Derived.Laws.MakeOwn

namespace Go.Proofs.Ytgnofnjbmiepjaa
open Go.ChangeShapes Go.WideShapes Go.ChangeAt Go.RowKit Ieee.Own Pol

end Go.Proofs.Ytgnofnjbmiepjaa

namespace Go.Proofs.Ytgnofnjbmiepjaa
open Go.ChangeShapes Go.WideShapes Go.ChangeAt Go.RowKit Ieee.Own Pol

/-- what a wave's narrowing may move it by -/
def ogt (f : Wv) : Nat := ag (absW' (lX f.am (nrA f.am))) f.pw.toNat
def offF : List Wv → Nat → Nat
  | [], s => s
  | f :: L, s => offF L (aX s (ogt f))
structure OffOk (f : Wv) : Prop where
  run : Ieee.double.sub f.am (nrA f.am) = some (lX f.am (nrA f.am))
  fin : FinW (lX f.am (nrA f.am))
  v : V (lX f.am (nrA f.am)) = RN (V f.am - V (nrA f.am))
  ag : AgOk (absW' (lX f.am (nrA f.am)))
  fo : FinW (ogt f)
  nn : 0 ≤ V (ogt f)
  bo : (V (ogt f)).natAbs ≤ 2 ^ 1131
  vo : V (ogt f) = ((V (lX f.am (nrA f.am))).natAbs : Int) * 2 ^ (8 * f.pw.toNat)
theorem offk_ok {f : Wv} (O : WvOk f) : OffOk f := by
  have H := nrw_ok O
  have A := O.amw
  have A2 := H.ok.amw
  have b2 : (V (nrA f.am)).natAbs ≤ 2 ^ 1114 := by rw [H.v1]; exact H.n.abs
  obtain ⟨r, h1, h2, h3, h4⟩ := subW A.fin A2.fin A.abs b2 (by omega)
  have e : lX f.am (nrA f.am) = r := by
    have h1' : Ieee.double.sub f.am (nrA f.am) = some r := h1
    unfold lX; rw [h1']; rfl
  have h2' : FinW (lX f.am (nrA f.am)) := by rw [e]; exact h2
  have h4' : (V (lX f.am (nrA f.am))).natAbs ≤ 2 ^ 1115 := by rw [e]; exact abs_up (k := 1114 + 1) (l := 1115) h4 (by omega)
  obtain ⟨f1, v1⟩ := abs_word h2'
  have b1 : (V (absW' (lX f.am (nrA f.am)))).natAbs ≤ 2 ^ 1115 := by
    show (V (lX f.am (nrA f.am) % 9223372036854775808)).natAbs ≤ _
    rw [v1, Int.natAbs_natCast]
    exact h4'
  have O2 := ag_ok f1 b1
  have p := O.pw.1
  have ev : V (ogt f) = ((V (lX f.am (nrA f.am))).natAbs : Int) * 2 ^ (8 * f.pw.toNat) := by
    have := (O2.fin _ p).2
    rw [v1] at this
    exact this
  refine ⟨by rw [e]; exact h1, h2', by rw [e]; exact h3, O2, (O2.fin _ p).1, ?_, ag_abs O2 b1 p, ev⟩
  rw [ev]
  exact Int.mul_nonneg (Int.natCast_nonneg _) (Int.pow_nonneg (by omega))
theorem off_rm : ∀ (L : List Wv) (s i : Nat), (∀ f ∈ L, WvOk f) → i + L.length ≤ 64 → Rm s i → Rm (offF L s) (i + L.length)
  | [], s, i, _, _, h => h
  | f :: L, s, i, hL, hl, h => by
    have O := offk_ok (hL f (List.mem_cons_self ..))
    have hl' : i + 1 + L.length ≤ 64 := by rw [List.length_cons] at hl; omega
    have := off_rm L _ (i + 1) (fun g hg => hL g (List.mem_cons_of_mem _ hg)) hl' (h.put (by omega) O.fo O.nn O.bo).2.1
    rw [List.length_cons, show i + (L.length + 1) = i + 1 + L.length by omega]
    exact this
def p40 : Nat := 4787326403894837248
def naW (L : List Wv) : Nat := aX (offF L 0) (qX (rcW L) p40)
/-- what Narrow answers -/
def NarE (L : List Wv) (e : Ending) (w' : World) : Prop :=
  (chkV L = 0 ∧ ∃ ao cap, e = .returned (.tuple #[.slice ao L.length cap, .float .f64 (naW L), .int .i64 0]) ∧ L.length ≤ cap ∧ cap ≤ maxLen ∧ VAt w' ao (L.map nrw)) ∨
  (chkV L ≠ 0 ∧ e = .returned (.tuple #[.slice none 0 0, .float .f64 0, .int .i64 (chkV L)]))
def OwnV (base : Nat) (w : World) (M : List Wv) (v : Value) (w' : World) : Prop := OwnR 49 5 base w (M.map wvC) v w'
theorem ownV_any {base : Nat} {w w' : World} {M : List Wv} {v : Value} (h : OwnV base w M v w') : ∃ ao m c, v = .slice ao m c := by
  rcases h.own.2 with ⟨hv, _⟩ | ⟨g, cap, cur, hv, _⟩
  · exact ⟨_, _, _, hv⟩
  · exact ⟨_, _, _, hv⟩
set_option maxRecDepth 100000 in
theorem makeV_run (n : Nat) (hn : n ≤ 32) (w : World) : (Instr.makeSlice 22 (.int .i64 0) (.int .i64 (n : Int))).run Try.prog w = .ok (.slice (some ⟨w.heap.size, 0, none⟩) 0 n) (w.alloc (.cells (madeCells #[.int .i64 0, .int .i64 0, .float .f64 0, .float .f64 0, .float .f64 0] (n * 5)) 49)) := by
  obtain ⟨i0, hi0, hz0, hz1, hz2⟩ := info_ofR recW.info
  have := run_make (P := Try.prog) w 22 49 i0 _ Try.underlying22 hi0 hz0 .i64 .i64 0 n (by omega) (by omega) (by rw [hz2]; omega) (by omega)
  rw [hz1] at this
  exact this
set_option maxHeartbeats 4000000 in
set_option maxRecDepth 100000 in
theorem wnarrow_run {L : List Wv} (ao : Option Addr) (cap n : Nat) (w : World) (hn : n = L.length) (hm : n ≤ 4611686018427387904) (hW : WvsW L) (ha : VAt w ao L)
    (hq : chkV L = 0 → Ieee.double.div (rcW L) p40 = some (qX (rcW L) p40) ∧ Ieee.double.add (offF L 0) (qX (rcW L) p40) = some (naW L)) :
    Calls Try.prog 12 #[.slice ao n cap] w fun e w' => NarE L e w' ∧ Below w.heap.size w w' := by
  have CR := Lib.hid (wreach_run ao cap n w hn hm hW ha)
  unfold rcR floE at CR
  have hst := @fstore
  by_cases hr : chkV L = 0
  · rw [if_pos hr] at CR
    obtain ⟨hq1, hq2⟩ := hq hr
    have rq := run_div _ _ _ hq1
    have rz := run_add _ _ _ hq2
    have OK := Lib.hid (wvs_ok hW hr)
    have hl := (chkV_zero hr).1
    obtain ⟨A, hA⟩ : ∃ A, A = offF L 0 := ⟨_, rfl⟩
    rw [← hA] at rz
    have R0 : offF (L.drop 0) 0 = A := hA.symm
    have FIN : Hid (∀ (ao' : Option Addr) (cap' : Nat) (v' : World), L.length ≤ cap' → cap' ≤ maxLen → VAt v' ao' (L.map nrw) → NarE L (.returned (.tuple #[.slice ao' L.length cap', .float .f64 (naW L), .int .i64 0])) v') := Lib.hid fun ao' cap' v' h1 h2 h3 => .inl ⟨hr, ao', cap', rfl, h1, h2, h3⟩
    rw [← hn] at FIN
    have HF : Hid (∀ f ∈ L, (∀ w, Calls Try.prog 29 #[wvV f] w fun e w' => e = .returned (wvV (nrw f)) ∧ Below w.heap.size w w') ∧ (∀ ty w, (binOp .sub ty (.float .f64 f.am) (.float .f64 (nrA f.am))).run Try.prog w = .ok (.float .f64 (lX f.am (nrA f.am))) w) ∧ (∀ w, Calls Try.prog 11 #[.float .f64 (lX f.am (nrA f.am))] w fun e w' => e = .returned (.float .f64 (absW' (lX f.am (nrA f.am)))) ∧ w = w') ∧ (∀ w, Calls Try.prog 26 #[.float .f64 (absW' (lX f.am (nrA f.am))), .int .i64 f.pw] w fun e w' => e = .returned (.float .f64 (ogt f)) ∧ w = w') ∧ FinW (ogt f) ∧ 0 ≤ V (ogt f) ∧ (V (ogt f)).natAbs ≤ 2 ^ 1131) := Lib.hid fun f hf => by
      have O := OK.out f hf
      have H := offk_ok O
      refine ⟨fun w => wnarrowed_run O w, run_sub _ _ _ H.run, fun w => abs_any _ H.fin.1 w, fun w => ?_, H.fo, H.nn, H.bo⟩
      have := waged_run H.ag O.pw.1 w
      rwa [← O.pw.2] at this
    generalize naW L = zN at *
    generalize qX (rcW L) p40 = qN at *
    generalize rcW L = rN at *
    unfold p40 at rq
    clear hA hr hW OK hq hq1 hq2
    have hnl : n ≤ 32 := by omega
    clear hl
    have mk := makeV_run n hnl
    replace ha := Lib.hid ha
    replace hn := Lib.hid hn
    replace R0 := Lib.hid R0
    go_enter Try.func12, Try.ntmps12
    go_wp2_with fail
    refine CR.out.mono ?_
    rintro _ v1 ⟨rfl, hb⟩
    clear CR
    have N0 : Hid (OwnV v1.heap.size v1 [] (.slice (some ⟨v1.heap.size, 0, none⟩) 0 n) (v1.alloc (.cells (madeCells #[.int .i64 0, .int .i64 0, .float .f64 0, .float .f64 0, .float .f64 0] (n * 5)) 49))) := Lib.hid
      ⟨(Below.refl _ _).alloc (Nat.le_refl _) _, World.ownsRow_made v1 _ n (Nat.le_refl _) (by unfold maxLen; omega) (size_madeCells _ _), by simp, ⟨by simp, by simp⟩⟩
    replace hb := Lib.hid hb
    go_wp2_with fail
    go_loopw [7, 8, 25] (fun lv sv iv wr => ∃ (i s : Nat) (M : List Wv), sv = .float .f64 s ∧ iv = .int .i64 i ∧ i ≤ n ∧ M ++ (L.drop i).map nrw = L.map nrw ∧ offF (L.drop i) s = A ∧ Rm s i ∧ OwnV v1.heap.size v1 M lv wr) (fun _ _ iv _ => n - (intOf iv).toNat)
    case atStart => exact ⟨0, 0, [], rfl, rfl, Nat.zero_le _, rfl, R0.out, rm_zero, N0.out⟩
    case round =>
      obtain ⟨i, s, M, rfl, rfl, hi, hM, hR, hS, N⟩ := hrel
      obtain ⟨ao', m', c', rfl⟩ := ownV_any N
      replace N := Lib.hid N
      by_cases hlt : i < n
      · have hil : i < L.length := by have := hn.out; omega
        obtain ⟨b, o, rfl, hbl, c0, c1, c2, c3, c4⟩ := VAt.cells (ha.out.below (fun b o e _ => ha.out.lt b o e (by simp; omega)) (hb.out.trans (N.out.old.mono hb.out.size))) hil
        obtain ⟨CN', CS, CA, CG, F1, F2, F3⟩ := HF.out _ (wv_mem hil)
        rw [wv_drop hil] at hR hM
        unfold offF at hR
        rw [List.map_cons] at hM
        have hML : M.length = i := by
          have := congrArg List.length hM
          simp only [List.length_append, List.length_cons, List.length_map, List.length_drop] at this
          omega
        have hM2 : Hid ((M ++ [nrw (wvAt L i)]) ++ (L.drop (i + 1)).map nrw = L.map nrw) := Lib.hid (by rw [List.append_assoc]; exact hM)
        obtain ⟨q1, q2, -⟩ := hS.put (by omega) F1 F2 F3
        have ra := run_add _ _ _ q1
        have hok : Hid (∀ u ∈ wvC (nrw (wvAt L i)), u.oneCell' = true) := Lib.hid fun u hu => by
          simp only [wvC, List.mem_cons, List.not_mem_nil, or_false] at hu
          rcases hu with rfl | rfl | rfl | rfl | rfl <;> rfl
        have hrl : Hid ((wvC (nrw (wvAt L i))).length = 5) := Lib.hid rfl
        have eW : Hid (wvC (nrw (wvAt L i)) = [.int .i64 (wvAt L i).ax, .int .i64 (wvAt L i).pw, .float .f64 (nrA (wvAt L i).am), .float .f64 (aX (wvAt L i).ph 0), .float .f64 (aX (wvAt L i).rt 0)]) := Lib.hid rfl
        unfold nrw wvV at CN'
        generalize hF : nrw (wvAt L i) = F at *
        clear F1 F2 F3 q1 hS hbl hF hM
        dsimp only at CN'
        generalize hx : ogt (wvAt L i) = x at *
        generalize absW' (lX (wvAt L i).am (nrA (wvAt L i).am)) = am' at *
        generalize lX (wvAt L i).am (nrA (wvAt L i).am) = df at *
        generalize nrA (wvAt L i).am = nm at *
        generalize hnp : aX (wvAt L i).ph 0 = np at *
        generalize hnr : aX (wvAt L i).rt 0 = nr at *
        clear hx hnp hnr
        generalize wvAt L i = f at *
        obtain ⟨ax, pw, am, ph, rt⟩ := f
        dsimp only at *
        have CN := Lib.hid CN'
        clear CN'
        have K := (Kv.nil wr).new 49 [.int .i64 ax, .int .i64 pw, .float .f64 am, .float .f64 ph, .float .f64 rt]
        simp only [objV, List.nil_append] at K
        replace q2 := Lib.hid q2
        replace hR := Lib.hid hR
        replace hML := Lib.hid hML
        have d0_0 := (K.at_ 0 rfl).at_ 0 _ rfl
        have d0_1 := (K.at_ 0 rfl).at_ 1 _ rfl
        have d0_2 := (K.at_ 0 rfl).at_ 2 _ rfl
        have d0_3 := (K.at_ 0 rfl).at_ 3 _ rfl
        have d0_4 := (K.at_ 0 rfl).at_ 4 _ rfl
        replace K := Lib.hid K
        go_wp2_with fail
        replace K := K.out
        generalize wr.alloc _ = wq at *
        generalize wr.heap.size = g1 at *
        refine (CN.out wq).mono ?_
        rintro _ v2 ⟨rfl, hb2⟩
        clear c0 c1 c2 c3 c4 CN d0_0 d0_1 d0_2 d0_3 d0_4
        replace K := K.on hb2
        clear hb2
        replace K := K.new 49 [.int .i64 ax, .int .i64 pw, .float .f64 nm, .float .f64 np, .float .f64 nr]
        simp only [objV, List.cons_append, List.nil_append] at K
        have c0_0 := (K.at_ 0 rfl).at_ 0 _ rfl
        have c0_1 := (K.at_ 0 rfl).at_ 1 _ rfl
        have c0_2 := (K.at_ 0 rfl).at_ 2 _ rfl
        have c0_3 := (K.at_ 0 rfl).at_ 3 _ rfl
        have c0_4 := (K.at_ 0 rfl).at_ 4 _ rfl
        have c1_0 := (K.at_ 1 rfl).at_ 0 _ rfl
        have c1_1 := (K.at_ 1 rfl).at_ 1 _ rfl
        have c1_2 := (K.at_ 1 rfl).at_ 2 _ rfl
        have c1_3 := (K.at_ 1 rfl).at_ 3 _ rfl
        have c1_4 := (K.at_ 1 rfl).at_ 4 _ rfl
        replace K := Lib.hid K
        go_wp2_with fail
        go_quiet (first | (go_at_call 11; with_reducible refine quiet_same (CA _)) | (go_at_call 26; with_reducible refine quiet_same (CG _)))
        replace K := K.out.on (below_drewN (Below.refl _ _) nq)
        clear c0_0 c0_1 c0_2 c0_3 c0_4 c1_0 c1_1 c1_2 c1_3 c1_4 CA CG CS ra
        generalize World.drewN _ nq = wd at *
        have c1_0 := (K.at_ 1 rfl).at_ 0 _ rfl
        have c1_1 := (K.at_ 1 rfl).at_ 1 _ rfl
        have c1_2 := (K.at_ 1 rfl).at_ 2 _ rfl
        have c1_3 := (K.at_ 1 rfl).at_ 3 _ rfl
        have c1_4 := (K.at_ 1 rfl).at_ 4 _ rfl
        have N' := Lib.hid (N.out.grow K.old)
        replace K := Lib.hid K
        clear N
        go_wp2_with (at_builtin; go_loud (refine wpList_pushR recW rfl _ _ rfl (.slice ao' m' c') (M.map wvC) rfl N'.out [.int .i64 ax, .int .i64 pw, .float .f64 nm, .float .f64 np, .float .f64 nr] rfl ?pa ?px ?pc ?pd ?_))
        case pa => intro u hu; simp only [List.mem_cons, List.not_mem_nil, or_false] at hu; rcases hu with rfl | rfl | rfl | rfl | rfl <;> rfl
        case px => first | rfl | (show Value.slice (some ⟨wd.heap.size, 0, none⟩) 1 1 = _; simp)
        case pc => rw [List.length_map]; have := hML.out; omega
        case pd => rw [List.length_map]; have := hML.out; unfold maxLen; omega
        intro v' w' N2
        have N3 : Hid (OwnV v1.heap.size v1 (M ++ [F]) v' w') := Lib.hid (by unfold OwnV; rw [List.map_append]; show OwnR _ _ _ _ (_ ++ [wvC F]) _ _; rw [eW.out]; exact N2)
        clear N' N2 c1_0 c1_1 c1_2 c1_3 c1_4 eW hrl hok
        go_wp2_with fail
        go_roundw
        case rel => exact ⟨i + 1, aX s x, M ++ [F], rfl, by go_num, hlt, hM2.out, hR.out, q2.out, N3.out⟩
        case measure => simp [intOf]; omega
      · obtain rfl : i = n := by omega
        have hv : s = A := by
          rw [hn.out, List.drop_length] at hR
          exact hR
        have hML : M = L.map nrw := by
          rw [hn.out, List.drop_length] at hM
          simpa using hM
        subst hv hML
        clear hR hM hS
        obtain ⟨ao2, cap2, e2, h1, h2, h3, -, -⟩ := ownsR_at (rows_wv (L.map nrw)) N.out.own
        rw [List.length_map, List.length_map, ← hn.out] at e2 h1
        have BB := Lib.hid (hb.out.trans (N.out.old.mono hb.out.size))
        have FF := Lib.hid (FIN.out ao2 cap2 _ (by have := hn.out; omega) h2 h3)
        clear h1 h2 h3 N
        rw [e2]
        clear e2
        go_wp2_with fail
        go_ret3
        exact ⟨FF.out, BB.out⟩
  · rw [if_neg hr] at CR
    have FN : Hid (NarE L (.returned (.tuple #[.slice none 0 0, .float .f64 0, .int .i64 (chkV L)])) = NarE L (.returned (.tuple #[.slice none 0 0, .float .f64 0, .int .i64 (chkV L)]))) := Lib.hid rfl
    have FF : Hid (∀ v', NarE L (.returned (.tuple #[.slice none 0 0, .float .f64 0, .int .i64 (chkV L)])) v') := Lib.hid fun v' => .inr ⟨hr, rfl⟩
    obtain ⟨k, hk⟩ : ∃ k, k = chkV L := ⟨_, rfl⟩
    rw [← hk] at CR hr FF
    have tk : (k != 0) = true := by simpa using hr
    clear hk hn hm hW ha hr FN
    go_enter Try.func12, Try.ntmps12
    go_wp2_with fail
    refine CR.out.mono ?_
    rintro _ v1 ⟨rfl, hb⟩
    replace hb := Lib.hid hb
    clear CR
    go_wp2_with fail
    go_ret3
    exact ⟨FF.out _, hb.out⟩
end Go.Proofs.Ytgnofnjbmiepjaa

namespace Go.Proofs.Ytgnofnjbmiepjaa
open Go.ChangeShapes Go.WideShapes Go.ChangeAt Go.RowKit Ieee.Own Pol Fma

theorem may_of_ok {f : Wv} (O : WvOk f) : mayW f = true := by
  unfold mayW
  simp only [Bool.and_eq_true, decide_eq_true_eq]
  exact ⟨O.ax0, O.ax1, O.pw0, O.pw1, O.am, O.ph, O.rt⟩
theorem nrw_all {L : List Wv} (hL : ∀ f ∈ L, WvOk f) : ∀ f ∈ L.map nrw, WvOk f := by
  intro f hf
  obtain ⟨g, hg, rfl⟩ := List.mem_map.1 hf
  exact (nrw_ok (hL g hg)).ok
theorem nrw_w {L : List Wv} (hL : ∀ f ∈ L, WvOk f) : WvsW (L.map nrw) := fun f hf => (nrw_all hL f hf).w
theorem chk_map {L : List Wv} (hL : ∀ f ∈ L, WvOk f) (hl : L.length ≤ 32) : chkV (L.map nrw) = 0 := by
  refine chkV_good (by rw [List.length_map]; omega) fun j hj => ?_
  exact may_of_ok (nrw_all hL _ (wv_mem hj))
/-! ### the angle stays -/
theorem ang_same {f : Wv} {d : Nat} (O : WvOk f) (hd : d < 18446744073709551616) (t : witB g24 d = true) : V (angW (nrw f).fr d) = V (angW f.fr d) := by
  have H := nrw_ok O
  have A := O.ang hd t
  have B := H.ok.ang hd t
  have e : V (angA (nrw f).fr d) = V (angA f.fr d) := by
    rw [B.va, A.va, B.vm, A.vm]
    show RN (V (aX f.ph 0) + RZ (V (aX f.rt 0) * V d)) = RN (V f.ph + RZ (V f.rt * V d))
    rw [H.v2, H.v3]
  unfold angW
  rw [fitV_eq B.fin A.fin e]
  by_cases c : fitB (angA f.fr d) = true
  · rw [if_pos c, if_pos c]; exact e
  · rw [if_neg c, if_neg c]
theorem CQ_congr {x y : Nat} (h : V x = V y) : CQ x = CQ y := by unfold CQ; rw [h]
/-! ### how far the exact sums move -/
def dqW (f : Wv) : Rat := mag (Q f.am - Q (nrA f.am)) * pq 256 f.pw.toNat
theorem pq_mag {n : Nat} (hn : n ≤ 2) {u : Rat} (h : mag u ≤ 256) : mag (pq u n) ≤ pq 256 n := by
  rcases pq_cases hn u with ⟨e, a⟩ | ⟨e, a⟩ | ⟨e, a⟩ <;> rcases pq_cases hn 256 with ⟨e', b⟩ | ⟨e', b⟩ | ⟨e', b⟩ <;> first | (exfalso; omega) | (rw [a, b])
  · decide +kernel
  · exact h
  · exact mag_mul h h
theorem dq_nn {f : Wv} (O : WvOk f) : 0 ≤ dqW f := Rat.mul_nonneg (mag_le _).2.2 (by have := pq_pos O.pw.1; grind)
theorem hgt_move {f : Wv} {d : Nat} (O : WvOk f) (hd : d < 18446744073709551616) (t : witB g24 d = true) : mag (hgtQ f d - hgtQ (nrw f) d) ≤ dqW f := by
  have A := O.ang hd t
  obtain ⟨-, c1⟩ := cos_near A
  have uc := age_cap (age_of hd t)
  have p := pq_mag O.pw.1 uc
  have e : hgtQ (nrw f) d = Q (nrA f.am) * CQ (angW f.fr d) * pq (Q d * (1 / 65536)) f.pw.toNat := by
    unfold hgtQ
    rw [CQ_congr (ang_same O hd t)]
    rfl
  rw [e]
  unfold hgtQ dqW
  have m := mag_mul (mag_mul (Rat.le_refl (a := mag (Q f.am - Q (nrA f.am)))) c1) p
  rw [Rat.mul_one] at m
  have g : (Q f.am - Q (nrA f.am)) * CQ (angW f.fr d) * pq (Q d * (1 / 65536)) f.pw.toNat = Q f.am * CQ (angW f.fr d) * pq (Q d * (1 / 65536)) f.pw.toNat - Q (nrA f.am) * CQ (angW f.fr d) * pq (Q d * (1 / 65536)) f.pw.toNat := by grind
  rwa [g] at m
def dsum : List Wv → Rat → Rat
  | [], R => R
  | f :: L, R => dsum L (R + dqW f)
structure Df (P P' : R3) (D : Rat) : Prop where
  x : mag (P.1 - P'.1) ≤ D
  y : mag (P.2.1 - P'.2.1) ≤ D
  z : mag (P.2.2 - P'.2.2) ≤ D
theorem Df.put {P P' : R3} {D r X X' : Rat} (h : Df P P' D) (r0 : 0 ≤ r) (a : Int) (hx : mag (X - X') ≤ r) : Df (putQ P a X) (putQ P' a X') (D + r) := by
  have k : ∀ {s s' : Rat}, mag (s - s') ≤ D → mag (s + X - (s' + X')) ≤ D + r := fun {s s'} g => by
    have := mag_add g hx
    rwa [show s - s' + (X - X') = s + X - (s' + X') by grind] at this
  have q : ∀ {s s' : Rat}, mag (s - s') ≤ D → mag (s - s') ≤ D + r := fun g => by grind
  unfold putQ
  by_cases h0 : a = 0
  · rw [if_pos h0, if_pos h0]; exact ⟨k h.x, q h.y, q h.z⟩
  · rw [if_neg h0, if_neg h0]
    by_cases h1 : a = 1
    · rw [if_pos h1, if_pos h1]; exact ⟨q h.x, k h.y, q h.z⟩
    · rw [if_neg h1, if_neg h1]; exact ⟨q h.x, q h.y, k h.z⟩
theorem sums_move {d : Nat} (hd : d < 18446744073709551616) (t : witB g24 d = true) : ∀ (L : List Wv) (P P' : R3) (D : Rat), (∀ f ∈ L, WvOk f) → Df P P' D → Df (sumQ d L P) (sumQ d (L.map nrw) P') (dsum L D)
  | [], P, P', D, _, h => h
  | f :: L, P, P', D, hL, h => by
    have O := hL f (List.mem_cons_self ..)
    exact sums_move hd t L _ _ _ (fun x hx => hL x (List.mem_cons_of_mem _ hx)) (h.put (dq_nn O) f.ax (hgt_move O hd t))
/-! ### magnitudes -/
theorem mag_twice {a b : Nat} (fa : FinW a) (fb : FinW b) (h : (V b).natAbs ≤ 2 * (V a).natAbs) : mag (Q b) ≤ 2 * mag (Q a) := by
  have x := (abs_word fa).2
  have y := (abs_word fb).2
  rw [← Q_magW fa, ← Q_magW fb]
  have k : ((V (b % 9223372036854775808) : Int) : Rat) ≤ ((2 * V (a % 9223372036854775808) : Int) : Rat) := Rat.intCast_le_intCast.2 (by rw [x, y]; omega)
  rw [Rat.intCast_mul, ← Q_unit, ← Q_unit, show ((2 : Int) : Rat) = 2 by decide +kernel] at k
  have up := unit_pos
  rcases Rat.le_total (a := Q (b % 9223372036854775808)) (b := 2 * Q (a % 9223372036854775808)) with c | c
  · exact c
  · have := Rat.mul_le_mul_of_nonneg_right c (Rat.le_of_lt up)
    have e : (Q (b % 9223372036854775808) - 2 * Q (a % 9223372036854775808)) * unit = 0 := by grind
    rcases Rat.mul_eq_zero.1 e with e | e <;> grind
theorem nrw_rq {f : Wv} (O : WvOk f) : rqW (nrw f) ≤ 2 * rqW f ∧ dqW f ≤ 3 * rqW f := by
  have H := nrw_ok O
  have A := O.amw
  have p := pq_pos O.pw.1
  have tw : mag (Q (nrA f.am)) ≤ 2 * mag (Q f.am) := mag_twice A.fin H.ok.amw.fin (by rw [H.v1]; exact H.n.twice)
  have d := mag_sub (Rat.le_refl (a := mag (Q f.am))) tw
  unfold rqW dqW
  constructor
  · have := Rat.mul_le_mul_of_nonneg_right tw (show 0 ≤ pq 256 f.pw.toNat by grind)
    show mag (Q (nrA f.am)) * pq 256 f.pw.toNat ≤ _
    grind
  · have := Rat.mul_le_mul_of_nonneg_right d (show 0 ≤ pq 256 f.pw.toNat by grind)
    grind
theorem rsum_nrw : ∀ (L : List Wv) (R R' : Rat), (∀ f ∈ L, WvOk f) → R' ≤ 2 * R → rsum (L.map nrw) R' ≤ 2 * rsum L R
  | [], R, R', _, h => h
  | f :: L, R, R', hL, h => by
    have a := (nrw_rq (hL f (List.mem_cons_self ..))).1
    exact rsum_nrw L (R + rqW f) (R' + rqW (nrw f)) (fun x hx => hL x (List.mem_cons_of_mem _ hx)) (by grind)
theorem dsum_le : ∀ (L : List Wv) (R D : Rat), (∀ f ∈ L, WvOk f) → D ≤ 3 * R → dsum L D ≤ 3 * rsum L R
  | [], R, D, _, h => h
  | f :: L, R, D, hL, h => by
    have a := (nrw_rq (hL f (List.mem_cons_self ..))).2
    exact dsum_le L (R + rqW f) (D + dqW f) (fun x hx => hL x (List.mem_cons_of_mem _ hx)) (by grind)
theorem dsum_nn : ∀ (L : List Wv) (R : Rat), (∀ f ∈ L, WvOk f) → 0 ≤ R → R ≤ dsum L R
  | [], R, _, _ => Rat.le_refl
  | f :: L, R, hL, h => by
    have r := dq_nn (hL f (List.mem_cons_self ..))
    exact Rat.le_trans (show R ≤ R + dqW f by grind) (dsum_nn L (R + dqW f) (fun x hx => hL x (List.mem_cons_of_mem _ hx)) (by grind))
/-! ### what is told -/
theorem abs_near {u x y : Rat} (h : mag (x - y) ≤ u) : mag (mag x - mag y) ≤ u := by
  have a := mag_le (x - y)
  unfold mag at h a ⊢
  grind
theorem ogt_near {f : Wv} (O : WvOk f) : mag (Q (ogt f) - dqW f) ≤ 14 * (uR * dqW f) := by
  have G := offk_ok O
  have H := nrw_ok O
  have p := O.pw.1
  have pp := pq_pos p
  have h := rd_of (sub_rel (a := f.am) (b := nrA f.am) G.v) _ (Rat.le_refl (a := mag (Q f.am - Q (nrA f.am))))
  rw [Rat.add_zero] at h
  have k := abs_near h
  have e : Q (ogt f) = mag (Q (lX f.am (nrA f.am))) * pq 256 f.pw.toNat := by
    rw [← Q_magW G.fin]
    have vk := (G.ag.fin _ p).2
    have sc : ∀ {k : Nat} {c : Rat}, ((2 ^ k : Int) : Rat) = c → 8 * f.pw.toNat = k → Q (absW' (lX f.am (nrA f.am))) * c = Q (ogt f) := fun hc hk => by
      rw [hk] at vk
      exact Q_scale hc vk.symm
    rcases pq_cases p 256 with ⟨e, ev⟩ | ⟨e, ev⟩ | ⟨e, ev⟩
    · rw [ev]; exact (sc (k := 0) (by decide +kernel) (by omega)).symm
    · rw [ev]; exact (sc (k := 8) (by decide +kernel) (by omega)).symm
    · rw [ev]; exact (sc (k := 16) (by decide +kernel) (by omega)).symm
  rw [e]
  unfold dqW
  have u0 := uR0
  generalize uR = u at *
  generalize mag (Q (lX f.am (nrA f.am))) = x at *
  generalize mag (Q f.am - Q (nrA f.am)) = y at *
  generalize pq 256 f.pw.toNat = c at *
  have c0 : 0 ≤ c := by grind
  have q := mag_mul k (Pol.mag_nn c0)
  rw [show (x - y) * c = x * c - y * c by grind] at q
  have y0 : 0 ≤ u * y := by have := (mag_le (x - y)).2.2; grind
  have w := Rat.mul_nonneg y0 c0
  have g : 14 * (u * (y * c)) = u * y * c + 13 * (u * y * c) := by grind
  rw [g]
  grind
theorem off_nr : ∀ (L : List Wv) (s : Nat) (R : Rat) (i n : Nat), (∀ f ∈ L, WvOk f) → i + L.length ≤ 64 → n + L.length ≤ 39 → Rm s i → 0 ≤ R → mag (Q s - R) ≤ eN n * (uR * R) → mag (Q (offF L s) - dsum L R) ≤ eN (n + L.length) * (uR * dsum L R)
  | [], s, R, i, n, _, _, _, _, _, h => h
  | f :: L, s, R, i, n, hL, hl, hn, S, R0, h => by
    have O := hL f (List.mem_cons_self ..)
    have G := offk_ok O
    have r := dq_nn O
    obtain ⟨-, S', v⟩ := S.put (by rw [List.length_cons] at hl; omega) G.fo G.nn G.bo
    obtain ⟨e14, e1⟩ := eN_bd n (by rw [List.length_cons] at hn; omega)
    have t := (sstep (u := uR) uR0 uR1 R0 r e14 e1 h (Pol.mag_nn R0) (ogt_near O) (Pol.mag_nn r) (rd_of (add_rel v))).1
    rw [List.length_cons] at hl hn
    have := off_nr L (aX s (ogt f)) (R + dqW f) (i + 1) (n + 1) (fun x hx => hL x (List.mem_cons_of_mem _ hx)) (by omega) (by omega) S' (by grind) t
    rw [List.length_cons, show n + (L.length + 1) = n + 1 + L.length by omega]
    exact this
structure NaOk (L : List Wv) : Prop where
  q : Ieee.double.div (rcW L) p40 = some (qX (rcW L) p40)
  a : Ieee.double.add (offF L 0) (qX (rcW L) p40) = some (naW L)
  fin : FinW (naW L)
  abs : (V (naW L)).natAbs ≤ 2 ^ 1401
  near : mag (Q (naW L) - (Q (offF L 0) + Q (rcW L) * (1 / 1099511627776))) ≤ uR * (Q (offF L 0) + Q (rcW L) * (1 / 1099511627776))
  low : (1 + 1 / 2048) * rsum L 0 ≤ Q (rcW L)
  off : mag (Q (offF L 0) - dsum L 0) ≤ 100 * (uR * dsum L 0)
theorem na_ok {L : List Wv} (hL : ∀ f ∈ L, WvOk f) (hl : L.length ≤ 32) : NaOk L := by
  obtain ⟨low, R0, -⟩ := reach_low hL hl
  obtain ⟨-, fr, -, br⟩ := rc_mul hL hl
  obtain ⟨d1, d2, d3, d4⟩ := share_of (j := 40) (D := p40) fr (abs_up (k := 1164) (l := 1400) br (by omega)) (by decide) (by omega) (rc_big hL hl) (by unfold FinW p40; omega) (by decide +kernel)
  have F := off_rm L 0 0 hL (by omega) rm_zero
  have bF := abs_up (l := 1400) F.abs (by omega)
  obtain ⟨a1, a2, a3, a4⟩ := addA (k := 1400) F.fin d2 bF d4 (by omega)
  have lq : Q (qX (rcW L) p40) * 1099511627776 = Q (rcW L) := Q_scale (k := 40) (by decide +kernel) d3
  have eq : Q (qX (rcW L) p40) = Q (rcW L) * (1 / 1099511627776) := by grind
  have D0 := dsum_nn L 0 hL (by decide +kernel)
  have h := off_nr L 0 0 0 0 hL (by omega) (by omega) rm_zero (by decide +kernel) (nr_mk Q0 rfl rfl).1
  have b := (eN_bd (0 + L.length) (by omega)).2
  have w := Rat.mul_nonneg uR0 D0
  have k := Rat.mul_nonneg (show 0 ≤ 100 - eN (0 + L.length) by grind) w
  have e : (100 - eN (0 + L.length)) * (uR * dsum L 0) = 100 * (uR * dsum L 0) - eN (0 + L.length) * (uR * dsum L 0) := by grind
  rw [e] at k
  have n0 : 0 ≤ Q (offF L 0) := Q_nnW F.nn
  have r0 : 0 ≤ Q (rcW L) := by grind
  have nr : mag (Q (naW L) - (Q (offF L 0) + Q (rcW L) * (1 / 1099511627776))) ≤ uR * (Q (offF L 0) + Q (rcW L) * (1 / 1099511627776)) := by
    have t := rd_of (add_rel a3) _ (Pol.mag_nn (show 0 ≤ Q (offF L 0) + Q (qX (rcW L) p40) by grind))
    rw [Rat.add_zero, eq] at t
    exact t
  exact ⟨d1, a1, a2, abs_up (k := 1400 + 1) (l := 1401) a4 (by omega), nr, low, le_hund h k⟩
/-- the number told, with the law's rest -/
noncomputable def limN (L : List Wv) : Nat := aX (naW L) c190
theorem narrow_poly {u s s' S S' f f' R R' D o r m lm σ : Rat} (u0 : 0 ≤ u) (u1 : 1000000 * u ≤ 1) (hu : u * 9007199254740992 = 1) (s0 : 0 ≤ σ) (R0 : 0 ≤ R) (D0 : 0 ≤ D) (hR : R' ≤ 2 * R) (hD : D ≤ 3 * R)
    (h1 : mag (s - S) ≤ 100 * (u * R)) (h2 : mag (s' - S') ≤ 100 * (u * R')) (h3 : mag (S - S') ≤ D) (f1 : mag (f - s) ≤ σ) (f2 : mag (f' - s') ≤ σ)
    (ho : mag (o - D) ≤ 100 * (u * D)) (hr : (1 + 1 / 2048) * R ≤ r) (hm : mag (m - (o + r * (1 / 1099511627776))) ≤ u * (o + r * (1 / 1099511627776))) (hl : mag (lm - (m + 1024 * σ)) ≤ u * (m + 1024 * σ)) : mag (f - f') ≤ lm := by
  have a := mag_sub (mag_add f1 h1) (mag_add f2 h2)
  have b := mag_add a h3
  rw [show f - s + (s - S) - (f' - s' + (s' - S')) + (S - S') = f - f' by grind] at b
  have w1 := Rat.mul_nonneg u0 R0
  have w2 := Rat.mul_nonneg u0 D0
  have w3 := Rat.mul_nonneg u0 s0
  have x1 := Rat.mul_le_mul_of_nonneg_left hR u0
  have x2 := Rat.mul_le_mul_of_nonneg_left hD u0
  have o0 := mag_le (o - D)
  have m0 := mag_le (m - (o + r * (1 / 1099511627776)))
  have l0 := mag_le (lm - (m + 1024 * σ))
  have k1 := Rat.mul_nonneg (show 0 ≤ 1 - 1000000 * u by grind) D0
  have k2 := Rat.mul_nonneg (show 0 ≤ 1 - 1000000 * u by grind) R0
  have k3 := Rat.mul_nonneg (show 0 ≤ 1 - 1000000 * u by grind) s0
  have e1 : (1 - 1000000 * u) * D = D - 1000000 * (u * D) := by grind
  have e2 : (1 - 1000000 * u) * R = R - 1000000 * (u * R) := by grind
  have e3 : (1 - 1000000 * u) * σ = σ - 1000000 * (u * σ) := by grind
  have e4 : u * (2 * R) = 2 * (u * R) := by grind
  have e5 : u * (3 * R) = 3 * (u * R) := by grind
  have hR1 : R = u * R * 9007199254740992 := by grind
  rw [e1] at k1
  rw [e2] at k2
  rw [e3] at k3
  rw [e4] at x1
  rw [e5] at x2
  -- the told number from below
  obtain ⟨g, hg⟩ : ∃ g, g = o + r * (1 / 1099511627776) := ⟨_, rfl⟩
  rw [← hg] at hm m0
  have g0 : 0 ≤ g := by grind
  have gu := Rat.mul_nonneg (show 0 ≤ 1 - 1000000 * u by grind) g0
  have e6 : (1 - 1000000 * u) * g = g - 1000000 * (u * g) := by grind
  rw [e6] at gu
  have gl : D - 100 * (u * D) + R * (1 / 1099511627776) ≤ g := by grind
  have mlow : (1 - u) * g ≤ m := by grind
  have mup : m ≤ 2 * g := by grind
  -- shares of u times g: g is at most 3 R and a little
  have gR : u * D - 100 * (u * (u * D)) + u * R * (1 / 1099511627776) ≤ u * g := by
    have := Rat.mul_le_mul_of_nonneg_left gl u0
    grind
  have lmlow : m - u * m + (1024 * σ - u * (1024 * σ)) ≤ lm := by grind
  have mm : (1 - u) * ((1 - u) * g) ≤ (1 - u) * m := Rat.mul_le_mul_of_nonneg_left mlow (by grind)
  have uug := Rat.mul_nonneg u0 (Rat.mul_nonneg u0 g0)
  have t1 : g - 2 * (u * g) ≤ m - u * m := by
    have y : (1 - u) * ((1 - u) * g) = g - 2 * (u * g) + u * (u * g) := by grind
    have y2 : (1 - u) * m = m - u * m := by grind
    rw [y, y2] at mm
    grind
  have c1 : (1 - 2 * u) * (D - 100 * (u * D) + R * (1 / 1099511627776)) ≤ (1 - 2 * u) * g := Rat.mul_le_mul_of_nonneg_left gl (by grind)
  have c2 : (1 - 2 * u) * g = g - 2 * (u * g) := by grind
  have c3 : (1 - 2 * u) * (D - 100 * (u * D) + R * (1 / 1099511627776)) = D - 102 * (u * D) + 200 * (u * (u * D)) + R * (1 / 1099511627776) - 2 * (u * R * (1 / 1099511627776)) := by grind
  rw [c2, c3] at c1
  have uuD := Rat.mul_nonneg u0 w2
  have e7 : u * (1024 * σ) = 1024 * (u * σ) := by grind
  rw [e7] at lmlow
  generalize u * (u * D) = A at *
  generalize u * D = B at *
  generalize u * σ = E at *
  generalize u * R = F at *
  generalize u * g = G at *
  generalize u * m = H at *
  generalize u * R' = I at *
  grind
theorem near_nn {u g m : Rat} (u0 : 0 ≤ u) (u1 : 1000000 * u ≤ 1) (g0 : 0 ≤ g) (h : mag (m - g) ≤ u * g) : 0 ≤ m := by
  have a := mag_le (m - g)
  have w := Rat.mul_nonneg (show 0 ≤ 1 - 1000000 * u by grind) g0
  have w2 := Rat.mul_nonneg u0 g0
  have e : (1 - 1000000 * u) * g = g - 1000000 * (u * g) := by grind
  rw [e] at w
  generalize u * g = x at *
  grind
structure NwF (a b lm : Nat) : Prop where
  s : Ieee.double.sub a b = some (lX a b)
  fin : FinW (lX a b)
  o : (FloatKind.f64.format.order (lX a b % 9223372036854775808) lm == some Ordering.lt || FloatKind.f64.format.order (lX a b % 9223372036854775808) lm == some Ordering.eq) = true
theorem nw_of {a b lm : Nat} (fa : FinW a) (fb : FinW b) (ba : (V a).natAbs ≤ 2 ^ 1200) (bb : (V b).natAbs ≤ 2 ^ 1200) (fl : FinW lm) (h : mag (Q a - Q b) ≤ Q lm) : NwF a b lm := by
  obtain ⟨r, h1, h2, h3, -⟩ := subW fa fb ba bb (by omega)
  have e : lX a b = r := by
    have h1' : Ieee.double.sub a b = some r := h1
    unfold lX; rw [h1']; rfl
  have m := mag_le (Q a - Q b)
  have x1 := diff_le7 (a := a) (b := b) (c := lm) (by grind)
  have x2 := diff_le7 (a := b) (b := a) (c := lm) (by grind)
  have y1 := RN_mono x1
  have y2 := RN_mono (x := -V lm) (y := V a - V b) (by omega)
  rw [RN_exact (Rep_V lm)] at y1
  rw [RN_neg, RN_exact (Rep_V lm)] at y2
  refine ⟨by rw [e]; exact h1, by rw [e]; exact h2, ?_⟩
  rw [e]
  obtain ⟨fw, vw⟩ := abs_word h2
  have w := le_words fw fl
  rw [decide_eq_true (by rw [vw, h3]; omega)] at w
  exact w
theorem uR_53 : uR * 9007199254740992 = 1 := by decide +kernel
theorem c190_sm : Q c190 = 1024 * sm := by decide +kernel
theorem wave_narrows {L : List Wv} {d : Nat} (hW : WvsW L) (hd : d < 18446744073709551616) (hr : readyV L (witB g24 d) = 0) : readyV (L.map nrw) (witB g24 d) = 0 ∧ Ieee.double.add (naW L) c190 = some (limN L) ∧
    NwF (atV L d).1.1 (atV (L.map nrw) d).1.1 (limN L) ∧ NwF (atV L d).1.2.1 (atV (L.map nrw) d).1.2.1 (limN L) ∧ NwF (atV L d).1.2.2 (atV (L.map nrw) d).1.2.2 (limN L) := by
  obtain ⟨c0, t⟩ := readyV_zero hr
  have hL := wvs_ok hW c0
  have hl := (chkV_zero c0).1
  have hL' := nrw_all hL
  have hl' : (L.map nrw).length ≤ 32 := by rw [List.length_map]; exact hl
  have hr' : readyV (L.map nrw) (witB g24 d) = 0 := by unfold readyV; rw [if_neg (by rw [chk_map hL hl]; simp), t]; rfl
  have N := sums_near hL hl hd t
  have N' := sums_near hL' hl' hd t
  have S := sum_sm hd t L z3 0 hL (by omega) sm_zero
  have S' := sum_sm hd t (L.map nrw) z3 0 hL' (by omega) sm_zero
  have z0 : mag ((0 : Rat) - 0) ≤ 0 := by rw [show (0 : Rat) - 0 = 0 by grind, mag_z]; exact Rat.le_refl
  have M := sums_move hd t L (0, 0, 0) (0, 0, 0) 0 hL ⟨z0, z0, z0⟩
  have K := na_ok hL hl
  have R0 := rsum_nn L 0 hL (by decide +kernel)
  have D0 := dsum_nn L 0 hL (by decide +kernel)
  have R2 := rsum_nrw L 0 0 hL (by decide +kernel)
  have D3 := dsum_le L 0 0 hL (by decide +kernel)
  obtain ⟨c1, c2, c3⟩ := c190_V
  have v190 : (V c190).natAbs ≤ 2 ^ 1401 := by decide +kernel
  obtain ⟨a1, a2, a3, -⟩ := addA (k := 1401) K.fin c1 K.abs v190 (by omega)
  have r0 : 0 ≤ Q (rcW L) := by have := K.low; grind
  have o0 : 0 ≤ Q (offF L 0) := Q_nnW (off_rm L 0 0 hL (by omega) rm_zero).nn
  have n0 : 0 ≤ Q (naW L) := by
    have u1 := uR1
    have u0 := uR0
    have g0 : 0 ≤ Q (offF L 0) + Q (rcW L) * (1 / 1099511627776) := by grind
    exact near_nn u0 u1 g0 K.near
  have ll : mag (Q (limN L) - (Q (naW L) + 1024 * sm)) ≤ uR * (Q (naW L) + 1024 * sm) := by
    have s0 := sm0
    have h := rd_of (add_rel a3)
    rw [c190_sm] at h
    have := h _ (Pol.mag_nn (show 0 ≤ Q (naW L) + 1024 * sm by grind))
    rwa [Rat.add_zero] at this
  have ea : atV L d = ((fnW (sumW d L z3).1, fnW (sumW d L z3).2.1, fnW (sumW d L z3).2.2), 0) := by unfold atV; rw [if_pos hr]
  have eb : atV (L.map nrw) d = ((fnW (sumW d (L.map nrw) z3).1, fnW (sumW d (L.map nrw) z3).2.1, fnW (sumW d (L.map nrw) z3).2.2), 0) := by unfold atV; rw [if_pos hr']
  have key : ∀ {s s' : Nat} {T T' : Rat}, FinW s → FinW s' → (V s).natAbs ≤ 2 ^ (1131 + (0 + L.length)) → (V s').natAbs ≤ 2 ^ (1131 + (0 + (L.map nrw).length)) → mag (Q s - T) ≤ 100 * (uR * rsum L 0) → mag (Q s' - T') ≤ 100 * (uR * rsum (L.map nrw) 0) → mag (T - T') ≤ dsum L 0 → NwF (fnW s) (fnW s') (limN L) := by
    intro s s' T T' fs fs' bs bs' h1 h2 h3
    have b1 := abs_up (l := 1200) bs (by omega)
    have b2 := abs_up (l := 1200) bs' (by omega)
    exact nw_of (fn_finW fs) (fn_finW fs') (fn_absW (k := 1200) b1) (fn_absW (k := 1200) b2) a2
      (narrow_poly (u := uR) uR0 uR1 uR_53 sm0 R0 D0 R2 D3 h1 h2 h3 (fn_offW fs b1) (fn_offW fs' b2) K.off K.low K.near ll)
  rw [ea, eb]
  exact ⟨hr', a1, key S.f1 S'.f1 S.b1 S'.b1 N.x N'.x M.x, key S.f2 S'.f2 S.b2 S'.b2 N.y N'.y M.y, key S.f3 S'.f3 S.b3 S'.b3 N.z N'.z M.z⟩
end Go.Proofs.Ytgnofnjbmiepjaa
