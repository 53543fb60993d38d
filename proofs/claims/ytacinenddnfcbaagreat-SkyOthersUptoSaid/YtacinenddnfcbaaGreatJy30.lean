/- Proved here: what the texts Kat, Kau, Kav prove, one behind the other. -/
import Derived.Test.YtacinenddnfcbaaGreatJy29

set_option maxHeartbeats 4000000
set_option maxRecDepth 100000
namespace Go.Proofs.YtacinenddnfcbaaGreat
open Go.ChangeShapes Go.WideShapes Go.ChangeAt Go.RowKit Ieee.Own

def goodRS (n : Nat) (L : List Bo) : Bool := (List.range L.length).all fun j => mayR n j (boAt L j)
def ligR (lt : Nat) : Bool := witB g60 lt && !(FloatKind.f64.format.order lt 4517110426252607488 == some Ordering.lt)
def chkRS (S : Sy) : Int := if 16 < S.bs.length then 2 else if chkF S.fs ≠ 0 then chkF S.fs else if ligR S.lt = false then 150 else if goodRS S.fs.length S.bs = true then 0 else 150
theorem goodRS_iff {n : Nat} {L : List Bo} : goodRS n L = true ↔ ∀ j, j < L.length → mayR n j (boAt L j) = true := by
 unfold goodRS; simp [List.all_eq_true]
theorem wit_key {c x : Nat} (hx : x < 18446744073709551616) (hc : c < 9218868437227405312) (h : witB c x = true) : FinW x ∧ fitB x = true ∧ key64 x ≤ (c : Int) ∧ -(c : Int) ≤ key64 x := by
 unfold witB at h
 rw [decide_eq_true_eq] at h
 have fx := fit_fin hx h.1
 have kx : key64 x = if x < 9223372036854775808 then (x : Int) else 9223372036854775808 - (x : Int) := rfl
 refine ⟨fx, h.1, ?_, ?_⟩ <;> (split at kx <;> omega)
theorem wit_btw {c d x : Nat} (hx : x < 18446744073709551616) (hc : c < 9218868437227405312) (hd : d = c + 9223372036854775808) (h : witB c x = true) : btwB d c x = true := by
 obtain ⟨fx, hf, k1, k2⟩ := wit_key hx hc h
 have fc : FinW c := ⟨by omega, by omega⟩
 have fd : FinW d := ⟨by omega, by omega⟩
 have kc : key64 c = (c : Int) := key_low (by omega)
 have kd : key64 d = if d < 9223372036854775808 then (d : Int) else 9223372036854775808 - (d : Int) := rfl
 unfold btwB
 rw [hf, Bool.true_and, Bool.and_eq_true, decide_eq_true_eq, decide_eq_true_eq]
 constructor
 · refine Int.not_lt.1 fun q => ?_
   have := (V_lt_key fx fd).1 q
   split at kd <;> omega
 · refine Int.not_lt.1 fun q => ?_
   have := (V_lt_key fc fx).1 q
   omega
theorem not_lt_V {a b : Nat} (fa : FinW a) (fb : FinW b) (h : (FloatKind.f64.format.order a b == some Ordering.lt) = false) : V b ≤ V a := by
 rw [lt_words fa fb, decide_eq_false_iff_not] at h
 exact Int.not_lt.1 h
theorem ne_may {v : V3} (hv : W3 v) (h : neB v = true) : skV v = true := by
 unfold neB at h
 simp only [Bool.and_eq_true] at h
 unfold skV skB
 rw [wit_btw (c := 4787326403894837248) hv.l1 (by omega) rfl h.1, wit_btw (c := 4787326403894837248) hv.l2 (by omega) rfl h.2.1, wit_btw (c := 4787326403894837248) hv.l3 (by omega) rfl h.2.2]
 rfl
theorem bo_mem {L : List Bo} {j : Nat} (h : j < L.length) : boAt L j ∈ L := by
 unfold boAt
 have : L.getD j boZ = L[j] := by simp [List.getD, h]
 rw [this]; exact List.getElem_mem h
theorem mayS_of {n i : Nat} {b : Bo} (hW : BoW b) (h : mayR n i b = true) : mayS n i b = true := by
 unfold mayR at h
 simp only [Bool.and_eq_true, Bool.not_eq_true'] at h
 obtain ⟨h1, h2, h3, h4⟩ := h
 obtain ⟨fx, hf, k1, k2⟩ := wit_key hW.sz (c := 4787326403894837248) (by omega) h2
 have f40 : FinW 4787326403894837248 := by unfold FinW; omega
 have v0 := not_lt_V fx zero_fin h3
 have l1 : leO 0 b.sz = true := by
  unfold leO
  rw [le_words zero_fin fx, decide_eq_true_eq]; exact v0
 have l2 : leO b.sz 4787326403894837248 = true := by
  unfold leO
  rw [le_words fx f40, decide_eq_true_eq]
  refine Int.not_lt.1 fun q => ?_
  have := (V_lt_key f40 fx).1 q
  have kc : key64 4787326403894837248 = 4787326403894837248 := by decide
  omega
 have g : goB n b = true := by
  unfold goR at h4
  unfold goB
  split at h4
  · rename_i c; rw [if_pos c]; exact ne_may hW.at_ h4
  · rename_i c; rw [if_neg c]
    split at h4
    · rename_i c; rw [if_pos c]; exact h4
    · rename_i c; rw [if_neg c]
      split at h4
      · rename_i c; rw [if_pos c]; exact h4
      · rename_i c; rw [if_neg c]
        split at h4
        · rename_i c; rw [if_pos c]
          rw [decide_eq_true_eq] at h4
          rw [decide_eq_true h4.2, h4.1]; rfl
        · rename_i c; rw [if_neg c]
          split at h4
          · rename_i c; rw [if_pos c]
            rw [Bool.and_eq_true] at h4
            rw [h4.2, ne_may hW.at_ h4.1]; rfl
          · cases h4
 unfold mayS
 rw [h1, l1, l2, g]
 rfl
theorem chk_of {S : Sy} (hW : SyW S) (h : chkRS S = 0) : chkS S = 0 := by
 unfold chkRS at h
 unfold chkS
 by_cases h1 : 16 < S.bs.length
 · rw [if_pos h1] at h; omega
 rw [if_neg h1] at h ⊢
 by_cases h2 : chkF S.fs ≠ 0
 · rw [if_pos h2] at h; exact absurd h h2
 rw [if_neg h2] at h ⊢
 by_cases h3 : ligR S.lt = false
 · rw [if_pos h3] at h; omega
 rw [if_neg h3] at h
 by_cases h4 : goodRS S.fs.length S.bs = true
 · have g : goodS S.fs.length S.bs = true := goodS_iff.2 fun j hj => mayS_of (hW.bs _ (bo_mem hj)) (goodRS_iff.1 h4 j hj)
   have l : btwB 4517110426252607488 4877398396442247168 S.lt = true := by
    rw [Bool.not_eq_false] at h3
    unfold ligR at h3
    simp only [Bool.and_eq_true, Bool.not_eq_true'] at h3
    obtain ⟨fx, hf, k1, -⟩ := wit_key hW.lt (c := 4877398396442247168) (by omega) h3.1
    have f60 : FinW 4877398396442247168 := by unfold FinW; omega
    have flo : FinW 4517110426252607488 := by unfold FinW; omega
    have v0 := not_lt_V fx flo h3.2
    unfold btwB
    rw [hf, Bool.true_and, Bool.and_eq_true, decide_eq_true_eq, decide_eq_true_eq]
    refine ⟨v0, Int.not_lt.1 fun q => ?_⟩
    have := (V_lt_key f60 fx).1 q
    have kc : key64 4877398396442247168 = 4877398396442247168 := by decide
    omega
   rw [if_neg (by rw [l]; simp), if_pos g]
 · rw [if_neg h4] at h; omega
theorem rck_long {lt fn fc bn bc : Nat} {fao bao : Option Addr} {w : World} (h : 16 < bn) : Calls Tryz.prog 12 #[.agg #[.float .f64 lt, .slice fao fn fc, .slice bao bn bc]] w fun e w' => e = .returned (.int .i64 2) ∧ Below w.heap.size w w' := by
 have t : decide (16 < bn) = true := decide_eq_true h
 have K0 := kv1 w 26 [.float .f64 lt, .slice fao fn fc, .slice bao bn bc]
 simp only [objV] at K0
 replace K0 := Lib.hid K0
 have hst := @fstore
 go_enter Tryz.func12, Tryz.ntmps12
 have K := K0.out
 clear K0
 have c0_0 := (K.at_ 0 rfl).at_ 0 _ rfl
 have c0_1 := (K.at_ 0 rfl).at_ 1 _ rfl
 have c0_2 := (K.at_ 0 rfl).at_ 2 _ rfl
 replace K := Lib.hid K
 go_wp2_with fail
 go_ret
 exact ⟨by first | rfl | trivial, K.out.old⟩
theorem rck_frame {lt fn fc bn bc : Nat} {fao bao : Option Addr} {w : World} {kf : Int} (CF : Hid (∀ W, Below w.heap.size w W → Calls Tryz.prog 28 #[.slice fao fn fc] W fun e w' => e = .returned (.int .i64 kf) ∧ Below W.heap.size W w')) (h : ¬ 16 < bn) (hk : (kf != 0) = true) : Calls Tryz.prog 12 #[.agg #[.float .f64 lt, .slice fao fn fc, .slice bao bn bc]] w fun e w' => e = .returned (.int .i64 kf) ∧ Below w.heap.size w w' := by
 have t : decide (16 < bn) = false := decide_eq_false h
 have K0 := kv1 w 26 [.float .f64 lt, .slice fao fn fc, .slice bao bn bc]
 simp only [objV] at K0
 replace K0 := Lib.hid K0
 have hst := @fstore
 go_enter Tryz.func12, Tryz.ntmps12
 have K := K0.out
 clear K0
 have c0_0 := (K.at_ 0 rfl).at_ 0 _ rfl
 have c0_1 := (K.at_ 0 rfl).at_ 1 _ rfl
 have c0_2 := (K.at_ 0 rfl).at_ 2 _ rfl
 replace K := Lib.hid K
 go_wp2_with fail
 refine (CF.out _ K.out.old).mono ?_
 rintro _ v1 ⟨rfl, hb⟩
 clear c0_0 c0_1 c0_2
 replace K := K.out.on hb
 clear hb
 have c0_0 := (K.at_ 0 rfl).at_ 0 _ rfl
 have c0_1 := (K.at_ 0 rfl).at_ 1 _ rfl
 have c0_2 := (K.at_ 0 rfl).at_ 2 _ rfl
 replace K := Lib.hid K
 go_wp2_with fail
 go_ret
 exact ⟨by first | rfl | trivial, K.out.old⟩
theorem rck_l1 {lt fn fc bn bc : Nat} {fao bao : Option Addr} {w : World} {kf : Int} (CF : Hid (∀ W, Below w.heap.size w W → Calls Tryz.prog 28 #[.slice fao fn fc] W fun e w' => e = .returned (.int .i64 kf) ∧ Below W.heap.size W w')) {b1 : Bool} (W1 : ∀ w, Calls Tryz.prog 29 #[.float .f64 lt, .float .f64 4877398396442247168] w fun e w' => e = .returned (.bool b1) ∧ w = w') (h : ¬ 16 < bn) (hk : kf = 0) (hb : b1 = false) : Calls Tryz.prog 12 #[.agg #[.float .f64 lt, .slice fao fn fc, .slice bao bn bc]] w fun e w' => e = .returned (.int .i64 150) ∧ Below w.heap.size w w' := by
 have t : decide (16 < bn) = false := decide_eq_false h
 subst hk
 subst hb
 have K0 := kv1 w 26 [.float .f64 lt, .slice fao fn fc, .slice bao bn bc]
 simp only [objV] at K0
 replace K0 := Lib.hid K0
 have hst := @fstore
 go_enter Tryz.func12, Tryz.ntmps12
 have K := K0.out
 clear K0
 have c0_0 := (K.at_ 0 rfl).at_ 0 _ rfl
 have c0_1 := (K.at_ 0 rfl).at_ 1 _ rfl
 have c0_2 := (K.at_ 0 rfl).at_ 2 _ rfl
 replace K := Lib.hid K
 go_wp2_with fail
 refine (CF.out _ K.out.old).mono ?_
 rintro _ v1 ⟨rfl, hb⟩
 clear c0_0 c0_1 c0_2
 replace K := K.out.on hb
 clear hb
 have c0_0 := (K.at_ 0 rfl).at_ 0 _ rfl
 have c0_1 := (K.at_ 0 rfl).at_ 1 _ rfl
 have c0_2 := (K.at_ 0 rfl).at_ 2 _ rfl
 replace K := Lib.hid K
 go_wp2_with (go_at_call 29; ((with_reducible refine (W1 _).mono ?_); rintro e w' ⟨rfl, rfl⟩))
 go_ret
 exact ⟨by first | rfl | trivial, K.out.old⟩
theorem rck_l2 {lt fn fc bn bc : Nat} {fao bao : Option Addr} {w : World} {kf : Int} (CF : Hid (∀ W, Below w.heap.size w W → Calls Tryz.prog 28 #[.slice fao fn fc] W fun e w' => e = .returned (.int .i64 kf) ∧ Below W.heap.size W w')) {b1 : Bool} (W1 : ∀ w, Calls Tryz.prog 29 #[.float .f64 lt, .float .f64 4877398396442247168] w fun e w' => e = .returned (.bool b1) ∧ w = w') (h : ¬ 16 < bn) (hk : kf = 0) (hb : b1 = true) (hs : (FloatKind.f64.format.order lt 4517110426252607488 == some Ordering.lt) = true) : Calls Tryz.prog 12 #[.agg #[.float .f64 lt, .slice fao fn fc, .slice bao bn bc]] w fun e w' => e = .returned (.int .i64 150) ∧ Below w.heap.size w w' := by
 have t : decide (16 < bn) = false := decide_eq_false h
 subst hk
 subst hb
 have K0 := kv1 w 26 [.float .f64 lt, .slice fao fn fc, .slice bao bn bc]
 simp only [objV] at K0
 replace K0 := Lib.hid K0
 have hst := @fstore
 go_enter Tryz.func12, Tryz.ntmps12
 have K := K0.out
 clear K0
 have c0_0 := (K.at_ 0 rfl).at_ 0 _ rfl
 have c0_1 := (K.at_ 0 rfl).at_ 1 _ rfl
 have c0_2 := (K.at_ 0 rfl).at_ 2 _ rfl
 replace K := Lib.hid K
 go_wp2_with fail
 refine (CF.out _ K.out.old).mono ?_
 rintro _ v1 ⟨rfl, hb⟩
 clear c0_0 c0_1 c0_2
 replace K := K.out.on hb
 clear hb
 have c0_0 := (K.at_ 0 rfl).at_ 0 _ rfl
 have c0_1 := (K.at_ 0 rfl).at_ 1 _ rfl
 have c0_2 := (K.at_ 0 rfl).at_ 2 _ rfl
 replace K := Lib.hid K
 go_wp2_with (go_at_call 29; ((with_reducible refine (W1 _).mono ?_); rintro e w' ⟨rfl, rfl⟩))
 go_ret
 exact ⟨by first | rfl | trivial, K.out.old⟩
theorem rck_loop {lt fn fc bn bc : Nat} {fao bao : Option Addr} {w : World} {kf : Int} (CF : Hid (∀ W, Below w.heap.size w W → Calls Tryz.prog 28 #[.slice fao fn fc] W fun e w' => e = .returned (.int .i64 kf) ∧ Below W.heap.size W w')) {b1 : Bool} (W1 : ∀ w, Calls Tryz.prog 29 #[.float .f64 lt, .float .f64 4877398396442247168] w fun e w' => e = .returned (.bool b1) ∧ w = w') {V : Int} {mb : Nat → Bool} (CM : Hid (∀ W, Below w.heap.size w W → ∀ i : Nat, i < bn → Calls Tryz.prog 30 #[.agg #[.float .f64 lt, .slice fao fn fc, .slice bao bn bc], .int .i64 (i : Int)] W fun e w' => e = .returned (.bool (mb i)) ∧ Below W.heap.size W w')) (h : ¬ 16 < bn) (hk : kf = 0) (hb : b1 = true) (hs : (FloatKind.f64.format.order lt 4517110426252607488 == some Ordering.lt) = false) (hg : (∀ j, j < bn → mb j = true) → V = 0) (hx : ∀ j, j < bn → mb j = false → V = 150) : Calls Tryz.prog 12 #[.agg #[.float .f64 lt, .slice fao fn fc, .slice bao bn bc]] w fun e w' => e = .returned (.int .i64 V) ∧ Below w.heap.size w w' := by
 have t : decide (16 < bn) = false := decide_eq_false h
 subst hk
 subst hb
 replace hg := Lib.hid hg
 replace hx := Lib.hid hx
 have K0 := kv1 w 26 [.float .f64 lt, .slice fao fn fc, .slice bao bn bc]
 simp only [objV] at K0
 replace K0 := Lib.hid K0
 have hst := @fstore
 go_enter Tryz.func12, Tryz.ntmps12
 have K := K0.out
 clear K0
 have c0_0 := (K.at_ 0 rfl).at_ 0 _ rfl
 have c0_1 := (K.at_ 0 rfl).at_ 1 _ rfl
 have c0_2 := (K.at_ 0 rfl).at_ 2 _ rfl
 replace K := Lib.hid K
 go_wp2_with fail
 refine (CF.out _ K.out.old).mono ?_
 rintro _ v1 ⟨rfl, hb⟩
 clear c0_0 c0_1 c0_2
 replace K := K.out.on hb
 clear hb
 have c0_0 := (K.at_ 0 rfl).at_ 0 _ rfl
 have c0_1 := (K.at_ 0 rfl).at_ 1 _ rfl
 have c0_2 := (K.at_ 0 rfl).at_ 2 _ rfl
 replace K := Lib.hid K
 go_wp2_with (go_at_call 29; ((with_reducible refine (W1 _).mono ?_); rintro e w' ⟨rfl, rfl⟩))
 clear c0_0 c0_1 c0_2
 go_loopw [4] (fun iv wr => ∃ i : Nat, i ≤ bn ∧ iv = .int .i64 i ∧ (∀ j, j < i → mb j = true) ∧ Kv w [some (w.heap.size, [.float .f64 lt, .slice fao fn fc, .slice bao bn bc])] wr) (fun iv _ => bn - (intOf iv).toNat)
 case atStart => exact ⟨0, Nat.zero_le _, rfl, fun j hj => by omega, K.out⟩
 case round =>
  obtain ⟨i, hi, rfl, ho, K⟩ := hrel
  by_cases hlt : i < bn
  · have hin : (i : Int) < (bn : Int) := by omega
    have good : Hid (mb i = true → ∀ j, j < i + 1 → mb j = true) := Lib.hid fun h j hj => by
        by_cases e : j < i
        · exact ho j e
        · have e : j = i := by omega
          rw [e]; exact h
    have bad : Hid (mb i = false → V = 150) := Lib.hid (hx.out i hlt)
    clear ho
    have c0_0 := (K.at_ 0 rfl).at_ 0 _ rfl
    have c0_1 := (K.at_ 0 rfl).at_ 1 _ rfl
    have c0_2 := (K.at_ 0 rfl).at_ 2 _ rfl
    replace K := Lib.hid K
    cases hm : mb i with
    | true =>
      replace good := Lib.hid (good.out hm)
      clear bad
      go_wp2_with fail
      refine (CM.out _ K.out.old i hlt).mono ?_
      rintro _ v1 ⟨rfl, hb⟩
      rw [hm]
      replace hm := Lib.hid hm
      replace K := Lib.hid (K.out.on hb)
      clear hb c0_0 c0_1 c0_2
      go_wp2_with fail
      go_roundw
      case rel => exact ⟨i + 1, hlt, by go_num, good.out, K.out⟩
      case measure => simp [intOf]; omega
    | false =>
      obtain rfl := bad.out hm
      clear good
      go_wp2_with fail
      refine (CM.out _ K.out.old i hlt).mono ?_
      rintro _ v1 ⟨rfl, hb⟩
      rw [hm]
      replace hm := Lib.hid hm
      replace K := Lib.hid (K.out.on hb)
      clear hb c0_0 c0_1 c0_2
      go_wp2_with fail
      go_ret
      exact ⟨by first | rfl | trivial, K.out.old⟩
  · obtain rfl : bn = i := by omega
    obtain rfl := hg.out ho
    clear ho
    have c2 := (K.at_ 0 rfl).at_ 2 _ rfl
    replace K := Lib.hid K
    go_wp2_with fail
    go_ret
    exact ⟨by first | rfl | trivial, K.out.old⟩
theorem rcheck15_run {S : Sy} (hW : SyW S) (hU : ∀ b ∈ S.bs, TbUp b.tab) {M : List Bm} (hM : M.map Bm.b = S.bs) {fc bc : Nat} {fao bao : Option Addr} {w : World} (ha : SkAt w S fao bao M) :
 Calls Tryz.prog 12 #[.agg #[.float .f64 S.lt, .slice fao S.fs.length fc, .slice bao S.bs.length bc]] w fun e w' => e = .returned (.int .i64 (chkRS S)) ∧ Below w.heap.size w w' := by
 have hn : S.bs.length = M.length := by rw [← hM, List.length_map]
 have CF : Hid (∀ W, Below w.heap.size w W → Calls Tryz.prog 28 #[.slice fao S.fs.length fc] W fun e w' => e = .returned (.int .i64 (chkF S.fs)) ∧ Below W.heap.size W w') := Lib.hid fun W hb => rfcheck_run fao fc S.fs.length S.fs W rfl hW.nf hW.fs (RAt.on ha.fs hb)
 have W1 := fun w => rwit15_60 S.lt hW.lt w
 have hMW : ∀ m ∈ M, BoW m.b := fun m hm => hW.bs _ (by rw [← hM]; exact List.mem_map_of_mem hm)
 have hMU : ∀ m ∈ M, TbUp m.b.tab := fun m hm => hU _ (by rw [← hM]; exact List.mem_map_of_mem hm)
 have CM : Hid (∀ W, Below w.heap.size w W → ∀ i : Nat, i < S.bs.length → Calls Tryz.prog 30 #[.agg #[.float .f64 S.lt, .slice fao S.fs.length fc, .slice bao S.bs.length bc], .int .i64 (i : Int)] W fun e w' => e = .returned (.bool (mayR S.fs.length i (boAt S.bs i))) ∧ Below W.heap.size W w') := Lib.hid fun W hb i hi => by
  have := rbody_run (lt := S.lt) (fn := S.fs.length) (fc := fc) (bc := bc) (fao := fao) hMW hMU hn hi (ha.bs.on hb)
  rwa [← bo_bm, hM] at this
 unfold chkRS
 by_cases h1 : 16 < S.bs.length
 · rw [if_pos h1]
   exact rck_long h1
 rw [if_neg h1]
 by_cases h2 : chkF S.fs ≠ 0
 · rw [if_pos h2]
   exact rck_frame CF h1 (by simpa using h2)
 rw [if_neg h2]
 have h2' : chkF S.fs = 0 := by simpa using h2
 unfold ligR
 cases hb1 : witB g60 S.lt with
 | false =>
   rw [if_pos (by rfl)]
   exact rck_l1 CF W1 h1 h2' hb1
 | true =>
   cases hs : (FloatKind.f64.format.order S.lt 4517110426252607488 == some Ordering.lt) with
   | true =>
     rw [if_pos (by rfl)]
     exact rck_l2 CF W1 h1 h2' hb1 hs
   | false =>
     rw [if_neg (by decide)]
     refine rck_loop CF W1 CM h1 h2' hb1 hs (fun h => if_pos (goodRS_iff.2 h)) (fun j hj h => if_neg fun g => ?_)
     rw [goodRS_iff.1 g j hj] at h
     cases h
end Go.Proofs.YtacinenddnfcbaaGreat

namespace Go.Proofs.YtacinenddnfcbaaGreat
open Go.ChangeShapes Go.WideShapes Go.ChangeAt Go.RowKit Ieee.Own

def abS (L : List Bo) (n : Nat) (i k : Int) : Bool := (wayS L n i).any fun j => decide ((j : Int) = k)
theorem about15_run {M : List Bm} {L : List Bo} (hML : M.map Bm.b = L) (hu : Lower L) {lt fn fc bn bc : Nat} {fao bao : Option Addr} {i0 k : Int} {w : World} (hbn : bn = M.length) (hi0 : 0 ≤ i0) (hi1 : i0 < (bn : Int)) (ha : BsAt w bao M) :
 Calls Tryz.prog 17 #[.agg #[.float .f64 lt, .slice fao fn fc, .slice bao bn bc], .int .i64 i0, .int .i64 k] w fun e w' => e = .returned (.bool (abS L bn i0 k)) ∧ Below w.heap.size w w' := by
 obtain ⟨V, hV⟩ : ∃ V, abS L bn i0 k = V := ⟨_, rfl⟩
 rw [hV]
 have hLM : L.length = bn := by rw [← hML, List.length_map]; exact hbn.symm
 have R0 : Hid (∀ n : Nat, i0 < n → abS L n i0 k = V) := Lib.hid fun n hn => by rw [← hV]; unfold abS; rw [way_fuel hu n bn i0 hn hi1 (by omega)]
 clear hV
 replace hML := Lib.hid hML
 replace hbn := Lib.hid hbn
 replace ha := Lib.hid ha
 replace hLM := Lib.hid hLM
 replace hu := Lib.hid hu
 have K0 := kv1 w 26 [.float .f64 lt, .slice fao fn fc, .slice bao bn bc]
 simp only [objV] at K0
 replace K0 := Lib.hid K0
 have hst := @fstore
 go_enter Tryz.func17, Tryz.ntmps17
 go_upto_region 1 with fail
 have K := K0.out
 clear K0
 generalize w.alloc _ = wr at *
 go_loopw [1] (fun iv wr => ∃ i : Int, iv = .int .i64 i ∧ -1 ≤ i ∧ i < (bn : Int) ∧ (∀ n : Nat, i < n → abS L n i k = V) ∧ Kv w [some (w.heap.size, [.float .f64 lt, .slice fao fn fc, .slice bao bn bc])] wr) (fun iv _ => (intOf iv + 1).toNat)
 case atStart => exact ⟨i0, rfl, by omega, hi1, R0.out, K⟩
 case round =>
  obtain ⟨i, rfl, i1, i2, S0, K⟩ := hrel
  clear R0
  have s2 := (K.at_ 0 rfl).at_ 2 _ rfl
  by_cases h0 : 0 ≤ i
  · obtain ⟨j, rfl⟩ : ∃ j : Nat, i = j := ⟨i.toNat, by omega⟩
    have hjm : j < M.length := by have := hbn.out; omega
    have hjl : j < L.length := by have := hLM.out; omega
    have eb : boAt L j = (bmAt M j).b := by rw [← hML.out, bo_bm]
    have up := hu.out j hjl
    have st := S0 (j + 1) (by omega)
    unfold abS wayS at st
    rw [if_neg (by omega), Int.toNat_natCast, List.any_cons] at st
    have fu : ∀ n : Nat, (boAt L j).up < n → wayS L n (boAt L j).up = wayS L j (boAt L j).up := fun n hn => way_fuel hu.out n j _ hn (by omega) (by omega)
    rw [eb] at st up fu
    obtain ⟨bb, bo, rfl, hbl, hrow⟩ := ha.out.row hjm
    have e1 : wr.cell? ⟨bb, bo + j * 18 + 1, none⟩ = some (.int .i64 (bmAt M j).b.up) := (K.old.cell (p := ⟨bb, _, none⟩) hbl).trans (hrow 1 _ rfl)
    clear S0 hrow hbl eb hjm
    generalize (bmAt M j).b.up = up1 at *
    by_cases hk : (j : Int) = k
    · rw [decide_eq_true hk, Bool.true_or] at st
      subst st
      clear fu
      replace K := Lib.hid K
      go_wp2_with fail
      go_ret
      exact ⟨by first | rfl | trivial, K.out.old⟩
    · rw [decide_eq_false hk, Bool.false_or] at st
      have T0 : Hid (∀ n : Nat, up1 < n → abS L n up1 k = V) := Lib.hid fun n hn => by unfold abS; rw [fu n hn]; exact st
      clear st fu
      replace K := Lib.hid K
      go_wp2_with fail
      go_roundw
      case rel => exact ⟨up1, rfl, up.1, by omega, T0.out, K.out⟩
      case measure => simp [intOf]; omega
  · obtain rfl : i = -1 := by omega
    have st := S0 0 (by decide)
    unfold abS wayS at st
    rw [List.any_nil] at st
    subst st
    clear S0
    replace K := Lib.hid K
    go_wp2_with fail
    go_ret
    exact ⟨by first | rfl | trivial, K.out.old⟩
end Go.Proofs.YtacinenddnfcbaaGreat

namespace Go.Proofs.YtacinenddnfcbaaGreat
open Go.ChangeShapes Go.WideShapes Go.ChangeAt Go.RowKit Ieee.Own

def fxB (b : Bo) (v : V3) : Bo := { b with kd := 1, at_ := v }
def fxM (m : Bm) (v : V3) : Bm := { m with b := fxB m.b v }
def fxS (S : Sy) (k : Nat) (v : V3) : Sy := { S with bs := S.bs.set k (fxB (boAt S.bs k) v) }
theorem fx_row (m : Bm) (v : V3) : ((((bmC m).set 0 (.int .i64 1)).set 3 (.float .f64 v.1)).set 4 (.float .f64 v.2.1)).set 5 (.float .f64 v.2.2) = bmC (fxM m v) := rfl
theorem fx_at {L : List Bo} {k j : Nat} {v : V3} (hk : k < L.length) : boAt (L.set k (fxB (boAt L k) v)) j = if k = j then fxB (boAt L k) v else boAt L j := by
 unfold boAt
 by_cases e : k = j
 · subst e; rw [if_pos rfl]; simp [List.getD, hk]
 · rw [if_neg e]; simp [List.getD, List.getElem?_set_ne e]
theorem fx_up {L : List Bo} {k j : Nat} {v : V3} (hk : k < L.length) : (boAt (L.set k (fxB (boAt L k) v)) j).up = (boAt L j).up := by
 rw [fx_at hk]
 by_cases e : k = j
 · subst e; rw [if_pos rfl]; rfl
 · rw [if_neg e]
theorem way_congr {L L' : List Bo} (h : ∀ j, (boAt L j).up = (boAt L' j).up) : ∀ (n : Nat) (i : Int), wayS L n i = wayS L' n i
 | 0, _ => rfl
 | n + 1, i => by
   unfold wayS
   rw [h, way_congr h n]
theorem fx_w {S : Sy} {k : Nat} {v : V3} (hW : SyW S) (hk : k < S.bs.length) (hv : W3 v) : SyW (fxS S k v) := by
 refine ⟨hW.lt, hW.fs, fun b hb => ?_, hW.nf, by show (S.bs.set _ _).length ≤ _; rw [List.length_set]; exact hW.nb⟩
 rcases List.mem_or_eq_of_mem_set hb with q | q
 · exact hW.bs _ q
 · rw [q]
   have := hW.bs _ (bo_mem hk)
   exact ⟨this.sz, hv, this.orb, this.wvs, this.tab, this.wl, this.tl⟩
theorem fx_tb {S : Sy} {k : Nat} {v : V3} (hU : ∀ b ∈ S.bs, TbUp b.tab) (hk : k < S.bs.length) : ∀ b ∈ (fxS S k v).bs, TbUp b.tab := fun b hb => by
 rcases List.mem_or_eq_of_mem_set hb with q | q
 · exact hU _ q
 · rw [q]
   show TbUp (boAt S.bs k).tab
   exact hU _ (bo_mem hk)
theorem pl_others {S : Sy} {i : Int} {k d : Nat} {v : V3} (hk : k < S.bs.length) (h1 : chkS S = 0) (h2 : chkS (fxS S k v) = 0) (ha : abS S.bs S.bs.length i k = false) : plS S i d = plS (fxS S k v) i d := by
 have el : (fxS S k v).bs.length = S.bs.length := by show (S.bs.set _ _).length = _; rw [List.length_set]
 have er : ∀ tb, rdyS (fxS S k v) i tb = rdyS S i tb := fun tb => by unfold rdyS; rw [h1, h2, el]
 unfold plS
 rw [er]
 have ew : wayS (fxS S k v).bs (fxS S k v).bs.length i = wayS S.bs S.bs.length i := by
  rw [el]; exact way_congr (fun j => fx_up hk) _ _
 rw [ew]
 have eg : gath z3 (fun j => wayY S.fs (boAt S.bs j) d) addR (wayS S.bs S.bs.length i) z3 = gath z3 (fun j => wayY (fxS S k v).fs (boAt (fxS S k v).bs j) d) addR (wayS S.bs S.bs.length i) z3 := by
  refine gath_congr _ _ fun j hj => ?_
  have hne : k ≠ j := fun e => by
   unfold abS at ha
   rw [List.any_eq_false] at ha
   have := ha j hj
   simp [e] at this
  show wayY S.fs (boAt S.bs j) d = wayY S.fs (boAt (S.bs.set k (fxB (boAt S.bs k) v)) j) d
  rw [fx_at hk, if_neg hne]
 rw [eg]
theorem CpS.fix {w w' : World} {S : Sy} {fa ba : Option Addr} {fcc bcc : Nat} {N : List Bm} (h : CpS w S.fs S.bs fa fcc ba bcc N w') {k : Nat} (hk : k < S.bs.length) (v : V3) :
 ∃ b x0 x3 x4 x5, ba = some ⟨b, 0, none⟩ ∧ w.heap.size ≤ b ∧ b < w'.heap.size ∧ w'.cell? ⟨b, k * 18, none⟩ = some (.int .i64 x0) ∧ w'.cell? ⟨b, k * 18 + 3, none⟩ = some (.float .f64 x3) ∧ w'.cell? ⟨b, k * 18 + 4, none⟩ = some (.float .f64 x4) ∧ w'.cell? ⟨b, k * 18 + 5, none⟩ = some (.float .f64 x5) ∧
   w'.frozen? ⟨b, k * 18, none⟩ = false ∧ w'.frozen? ⟨b, k * 18 + 3, none⟩ = false ∧ w'.frozen? ⟨b, k * 18 + 4, none⟩ = false ∧ w'.frozen? ⟨b, k * 18 + 5, none⟩ = false ∧
   ∃ N', N'.map Bm.b = (fxS S k v).bs ∧ ∀ u, Below w'.heap.size w' u → SkAt ((((u.setCell ⟨b, k * 18, none⟩ (.int .i64 1)).setCell ⟨b, k * 18 + 3, none⟩ (.float .f64 v.1)).setCell ⟨b, k * 18 + 4, none⟩ (.float .f64 v.2.1)).setCell ⟨b, k * 18 + 5, none⟩ (.float .f64 v.2.2)) (fxS S k v) fa ba N' := by
 have lN : N.length = S.bs.length := by rw [← h.eq, List.length_map]
 have hkN : k < N.length := by omega
 obtain ⟨ao, cap, e, -, -, hR, -, hO⟩ := ownsR_at h.own.ok h.own.own
 simp only [Value.slice.injEq] at e
 obtain ⟨rfl, -, -⟩ := e
 obtain ⟨b, o, rfl, hb, hc⟩ := hR k _ (bm_get hkN)
 obtain ⟨rfl, hbw, hf⟩ := hO b o rfl
 have hl : (N.map bmC).length = N.length := by simp
 rw [hl] at hf
 have c0 := hc 0 _ rfl
 have c3 := hc 3 _ rfl
 have c4 := hc 4 _ rfl
 have c5 := hc 5 _ rfl
 simp only [Nat.zero_add, Nat.add_zero] at c0 c3 c4 c5
 refine ⟨b, _, _, _, _, rfl, hbw, hb, c0, c3, c4, c5, hf _ (by omega), hf _ (by omega), hf _ (by omega), hf _ (by omega), N.set k (fxM (bmAt N k) v), ?_, fun u hu => ?_⟩
 · rw [List.map_set, h.eq]
   show S.bs.set k (fxB (bmAt N k).b v) = S.bs.set k (fxB (boAt S.bs k) v)
   rw [← h.eq, bo_bm]
 · have ru : RAt u (some ⟨b, 0, none⟩) 18 (N.map bmC) := RAt.on hR hu
   have ok := rows_bm N
   have l18 : (bmC (bmAt N k)).length = 18 := rfl
   have g0 : (N.map bmC)[k]? = some (bmC (bmAt N k)) := bm_get hkN
   have r1 := ru.set1 ok g0 (c := 0) (u := .int .i64 (bmAt N k).b.kd) rfl (.int .i64 1)
   have o1 : RowsOk 18 ((N.map bmC).set k ((bmC (bmAt N k)).set 0 (.int .i64 1))) := ok.set (by simp [l18]) (fun x hx => by
    rcases List.mem_or_eq_of_mem_set hx with q | q
    · exact ok.one _ (List.mem_of_getElem? g0) x q
    · rw [q]; rfl)
   have g1 : ((N.map bmC).set k ((bmC (bmAt N k)).set 0 (.int .i64 1)))[k]? = some ((bmC (bmAt N k)).set 0 (.int .i64 1)) := List.getElem?_set_self (by simpa using hkN)
   have r2 := r1.set1 o1 g1 (c := 3) (u := .float .f64 (bmAt N k).b.at_.1) rfl (.float .f64 v.1)
   rw [List.set_set] at r2
   have o2 : RowsOk 18 ((N.map bmC).set k (((bmC (bmAt N k)).set 0 (.int .i64 1)).set 3 (.float .f64 v.1))) := ok.set (by simp [l18]) (fun x hx => by
    rcases List.mem_or_eq_of_mem_set hx with q | q
    · exact o1.one _ (List.mem_of_getElem? g1) x q
    · rw [q]; rfl)
   have g2 : ((N.map bmC).set k (((bmC (bmAt N k)).set 0 (.int .i64 1)).set 3 (.float .f64 v.1)))[k]? = some (((bmC (bmAt N k)).set 0 (.int .i64 1)).set 3 (.float .f64 v.1)) := List.getElem?_set_self (by simpa using hkN)
   have r3 := r2.set1 o2 g2 (c := 4) (u := .float .f64 (bmAt N k).b.at_.2.1) rfl (.float .f64 v.2.1)
   rw [List.set_set] at r3
   have o3 : RowsOk 18 ((N.map bmC).set k ((((bmC (bmAt N k)).set 0 (.int .i64 1)).set 3 (.float .f64 v.1)).set 4 (.float .f64 v.2.1))) := ok.set (by simp [l18]) (fun x hx => by
    rcases List.mem_or_eq_of_mem_set hx with q | q
    · exact o2.one _ (List.mem_of_getElem? g2) x q
    · rw [q]; rfl)
   have g3 : ((N.map bmC).set k ((((bmC (bmAt N k)).set 0 (.int .i64 1)).set 3 (.float .f64 v.1)).set 4 (.float .f64 v.2.1)))[k]? = some ((((bmC (bmAt N k)).set 0 (.int .i64 1)).set 3 (.float .f64 v.1)).set 4 (.float .f64 v.2.1)) := List.getElem?_set_self (by simpa using hkN)
   have r4 := r3.set1 o3 g3 (c := 5) (u := .float .f64 (bmAt N k).b.at_.2.2) rfl (.float .f64 v.2.2)
   rw [List.set_set, fx_row, ← List.map_set] at r4
   simp only [Nat.add_zero] at r4
   have G : u.grownBy ((((u.setCell ⟨b, k * 18, none⟩ (.int .i64 1)).setCell ⟨b, k * 18 + 3, none⟩ (.float .f64 v.1)).setCell ⟨b, k * 18 + 4, none⟩ (.float .f64 v.2.1)).setCell ⟨b, k * 18 + 5, none⟩ (.float .f64 v.2.2)) (some b) :=
    (((grown_set u b _ _).trans (grown_set _ b _ _)).trans (grown_set _ b _ _)).trans (grown_set _ b _ _)
   have ne : ∀ c, (w.heap.size ≤ c ∧ (Value.slice (some ⟨b, 0, none⟩) S.bs.length bcc).ownBlock ≠ some c) → some c ≠ some b := fun c hc e => hc.2 (by rw [e]; rfl)
   refine ⟨((h.ff.on hu).grow G ne).now, ⟨r4, fun m hm => ?_⟩⟩
   have FB := ((h.fb.on hu).grow G ne).now
   rcases List.mem_or_eq_of_mem_set hm with q | q
   · exact FB m q
   · rw [q]
     have := FB _ (bm_mem hkN)
     exact ⟨this.wv, this.tb, this.wc, this.tc, this.wn, this.tn⟩
theorem Kv.grown {w0 w w' : World} {L : List (Option (Nat × List Value))} {b : Nat} (C : Kv w0 L w) (g : w.grownBy w' (some b)) (hb : w0.heap.size ≤ b) (hne : ∀ (j g' : Nat) (us : List Value), L[j]? = some (some (g', us)) → g' ≠ b) : Kv w0 L w' :=
 ⟨C.old.grown g C.old.size (fun k e => by cases e; exact hb), fun j g' us h => ⟨(C.blk j g' us h).1, (C.at_ j h).same g.size (g.block g' (C.at_ j h).lt (fun e => hne j g' us h (Option.some.inj e)))⟩, C.inj⟩
theorem istoreY (a : Addr) (b : Int) (m : Mode) (x : World) : (store a (.int .i64 b) m).run Tryz.prog x = Go.stored Tryz.prog x a (.int .i64 b) m := run_store _ x a _ m rfl
end Go.Proofs.YtacinenddnfcbaaGreat
