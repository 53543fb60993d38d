/- Proved here: what the texts Kad, Kae, Kaf, Frs, Fro, Frt, Wvh, Wvj, Wvk, Hcq prove, one behind the other. -/
import Derived.Test.YtacinenddnfcbaaGreatJy21
import Derived.Test.YtacinenddnfcbaaGreatJy13
import Derived.Test.YtacinenddnfcbaaGreatJy20
import Derived.Test.YtacinenddnfcbaaGreatJy8
import Derived.Test.YtacinenddnfcbaaGreatJy14
import Derived.Test.YtacinenddnfcbaaGreatJy18
import Derived.Test.YtacinenddnfcbaaGreatJy17
import Derived.Test.YtacinenddnfcbaaGreatJy12

set_option maxHeartbeats 4000000
set_option maxRecDepth 100000
namespace Go.Proofs.YtacinenddnfcbaaGreat
open Go.ChangeShapes Go.WideShapes Go.ChangeAt Go.RowKit Ieee.Own

def goodS (n : Nat) (L : List Bo) : Bool := (List.range L.length).all fun j => mayS n j (boAt L j)
def chkS (S : Sy) : Int := if 16 < S.bs.length then 2 else if chkF S.fs ≠ 0 then chkF S.fs else if btwB 4517110426252607488 4877398396442247168 S.lt = false then 150 else if goodS S.fs.length S.bs = true then 0 else 150
theorem goodS_iff {n : Nat} {L : List Bo} : goodS n L = true ↔ ∀ j, j < L.length → mayS n j (boAt L j) = true := by
 unfold goodS; simp [List.all_eq_true]
theorem chkS_zero {S : Sy} (h : chkS S = 0) : S.bs.length ≤ 16 ∧ chkF S.fs = 0 ∧ btwB 4517110426252607488 4877398396442247168 S.lt = true ∧ ∀ j, j < S.bs.length → mayS S.fs.length j (boAt S.bs j) = true := by
 unfold chkS at h
 by_cases h1 : 16 < S.bs.length
 · rw [if_pos h1] at h; omega
 rw [if_neg h1] at h
 by_cases h2 : chkF S.fs ≠ 0
 · rw [if_pos h2] at h; exact absurd h h2
 rw [if_neg h2] at h
 by_cases h3 : btwB 4517110426252607488 4877398396442247168 S.lt = false
 · rw [if_pos h3] at h; omega
 rw [if_neg h3] at h
 by_cases h4 : goodS S.fs.length S.bs = true
 · exact ⟨by omega, by simpa using h2, by simpa using h3, goodS_iff.1 h4⟩
 · rw [if_neg h4] at h; omega
structure SkAt (w : World) (S : Sy) (fao bao : Option Addr) (M : List Bm) : Prop where
 fs : FAt w fao S.fs
 bs : BsAt w bao M
theorem SkAt.on {w w' : World} {S : Sy} {fao bao : Option Addr} {M : List Bm} (h : SkAt w S fao bao M) (hb : Below w.heap.size w w') : SkAt w' S fao bao M := ⟨RAt.on h.fs hb, h.bs.on hb⟩
structure SyW (S : Sy) : Prop where
 lt : S.lt < 18446744073709551616
 fs : FsW S.fs
 bs : ∀ b ∈ S.bs, BoW b
 nf : S.fs.length ≤ 4611686018427387904
 nb : S.bs.length ≤ 4611686018427387904
theorem ychk_long {lt fn fc bn bc : Nat} {fao bao : Option Addr} {w : World} (h : 16 < bn) : Calls Tryz.prog 40 #[.agg #[.float .f64 lt, .slice fao fn fc, .slice bao bn bc]] w fun e w' => e = .returned (.int .i64 2) ∧ Below w.heap.size w w' := by
 have t : decide (16 < bn) = true := decide_eq_true h
 have K0 := kv1 w 26 [.float .f64 lt, .slice fao fn fc, .slice bao bn bc]
 simp only [objV] at K0
 replace K0 := Lib.hid K0
 have hst := @fstore
 go_enter Tryz.func40, Tryz.ntmps40
 have K := K0.out
 clear K0
 have c0_0 := (K.at_ 0 rfl).at_ 0 _ rfl
 have c0_1 := (K.at_ 0 rfl).at_ 1 _ rfl
 have c0_2 := (K.at_ 0 rfl).at_ 2 _ rfl
 replace K := Lib.hid K
 go_wp2_with fail
 go_ret
 exact ⟨by first | rfl | trivial, K.out.old⟩
theorem ychk_frame {lt fn fc bn bc : Nat} {fao bao : Option Addr} {w : World} {kf : Int} (CF : Hid (∀ W, Below w.heap.size w W → Calls Tryz.prog 69 #[.slice fao fn fc] W fun e w' => e = .returned (.int .i64 kf) ∧ Below W.heap.size W w')) (h : ¬ 16 < bn) (hk : (kf != 0) = true) : Calls Tryz.prog 40 #[.agg #[.float .f64 lt, .slice fao fn fc, .slice bao bn bc]] w fun e w' => e = .returned (.int .i64 kf) ∧ Below w.heap.size w w' := by
 have t : decide (16 < bn) = false := decide_eq_false h
 have K0 := kv1 w 26 [.float .f64 lt, .slice fao fn fc, .slice bao bn bc]
 simp only [objV] at K0
 replace K0 := Lib.hid K0
 have hst := @fstore
 go_enter Tryz.func40, Tryz.ntmps40
 have K := K0.out
 clear K0
 have c0_0 := (K.at_ 0 rfl).at_ 0 _ rfl
 have c0_1 := (K.at_ 0 rfl).at_ 1 _ rfl
 have c0_2 := (K.at_ 0 rfl).at_ 2 _ rfl
 replace K := Lib.hid K
 go_wp2_with fail
 refine (CF.out _ K.out.old).mono ?_
 rintro _ v1 ⟨rfl, hb⟩
 clear c0_0 c0_1 c0_2
 replace K := K.out.on hb
 clear hb
 have c0_0 := (K.at_ 0 rfl).at_ 0 _ rfl
 have c0_1 := (K.at_ 0 rfl).at_ 1 _ rfl
 have c0_2 := (K.at_ 0 rfl).at_ 2 _ rfl
 replace K := Lib.hid K
 go_wp2_with fail
 go_ret
 exact ⟨by first | rfl | trivial, K.out.old⟩
theorem ychk_light {lt fn fc bn bc : Nat} {fao bao : Option Addr} {w : World} {kf : Int} (CF : Hid (∀ W, Below w.heap.size w W → Calls Tryz.prog 69 #[.slice fao fn fc] W fun e w' => e = .returned (.int .i64 kf) ∧ Below W.heap.size W w')) (CL : Hid (∀ W, Below w.heap.size w W → Calls Tryz.prog 70 #[.float .f64 lt, .float .f64 4517110426252607488, .float .f64 4877398396442247168] W fun e w' => e = .returned (.bool false) ∧ Below W.heap.size W w')) (h : ¬ 16 < bn) (hk : kf = 0) : Calls Tryz.prog 40 #[.agg #[.float .f64 lt, .slice fao fn fc, .slice bao bn bc]] w fun e w' => e = .returned (.int .i64 150) ∧ Below w.heap.size w w' := by
 have t : decide (16 < bn) = false := decide_eq_false h
 subst hk
 have K0 := kv1 w 26 [.float .f64 lt, .slice fao fn fc, .slice bao bn bc]
 simp only [objV] at K0
 replace K0 := Lib.hid K0
 have hst := @fstore
 go_enter Tryz.func40, Tryz.ntmps40
 have K := K0.out
 clear K0
 have c0_0 := (K.at_ 0 rfl).at_ 0 _ rfl
 have c0_1 := (K.at_ 0 rfl).at_ 1 _ rfl
 have c0_2 := (K.at_ 0 rfl).at_ 2 _ rfl
 replace K := Lib.hid K
 go_wp2_with fail
 refine (CF.out _ K.out.old).mono ?_
 rintro _ v1 ⟨rfl, hb⟩
 clear c0_0 c0_1 c0_2
 replace K := K.out.on hb
 clear hb
 have c0_0 := (K.at_ 0 rfl).at_ 0 _ rfl
 have c0_1 := (K.at_ 0 rfl).at_ 1 _ rfl
 have c0_2 := (K.at_ 0 rfl).at_ 2 _ rfl
 replace K := Lib.hid K
 go_wp2_with fail
 refine (CL.out _ K.out.old).mono ?_
 rintro _ v1 ⟨rfl, hb⟩
 clear c0_0 c0_1 c0_2
 replace K := K.out.on hb
 clear hb
 have c0_0 := (K.at_ 0 rfl).at_ 0 _ rfl
 have c0_1 := (K.at_ 0 rfl).at_ 1 _ rfl
 have c0_2 := (K.at_ 0 rfl).at_ 2 _ rfl
 replace K := Lib.hid K
 go_wp2_with fail
 go_ret
 exact ⟨by first | rfl | trivial, K.out.old⟩
theorem ychk_loop {lt fn fc bn bc : Nat} {fao bao : Option Addr} {w : World} {kf : Int} {V : Int} (CF : Hid (∀ W, Below w.heap.size w W → Calls Tryz.prog 69 #[.slice fao fn fc] W fun e w' => e = .returned (.int .i64 kf) ∧ Below W.heap.size W w')) (CL : Hid (∀ W, Below w.heap.size w W → Calls Tryz.prog 70 #[.float .f64 lt, .float .f64 4517110426252607488, .float .f64 4877398396442247168] W fun e w' => e = .returned (.bool true) ∧ Below W.heap.size W w')) {mb : Nat → Bool} (CM : Hid (∀ W, Below w.heap.size w W → ∀ i : Nat, i < bn → Calls Tryz.prog 71 #[.agg #[.float .f64 lt, .slice fao fn fc, .slice bao bn bc], .int .i64 (i : Int)] W fun e w' => e = .returned (.bool (mb i)) ∧ Below W.heap.size W w')) (h : ¬ 16 < bn) (hk : kf = 0) (hg : (∀ j, j < bn → mb j = true) → V = 0) (hx : ∀ j, j < bn → mb j = false → V = 150) : Calls Tryz.prog 40 #[.agg #[.float .f64 lt, .slice fao fn fc, .slice bao bn bc]] w fun e w' => e = .returned (.int .i64 V) ∧ Below w.heap.size w w' := by
 have t : decide (16 < bn) = false := decide_eq_false h
 subst hk
 replace hg := Lib.hid hg
 replace hx := Lib.hid hx
 have K0 := kv1 w 26 [.float .f64 lt, .slice fao fn fc, .slice bao bn bc]
 simp only [objV] at K0
 replace K0 := Lib.hid K0
 have hst := @fstore
 go_enter Tryz.func40, Tryz.ntmps40
 have K := K0.out
 clear K0
 have c0_0 := (K.at_ 0 rfl).at_ 0 _ rfl
 have c0_1 := (K.at_ 0 rfl).at_ 1 _ rfl
 have c0_2 := (K.at_ 0 rfl).at_ 2 _ rfl
 replace K := Lib.hid K
 go_wp2_with fail
 refine (CF.out _ K.out.old).mono ?_
 rintro _ v1 ⟨rfl, hb⟩
 clear c0_0 c0_1 c0_2
 replace K := K.out.on hb
 clear hb
 have c0_0 := (K.at_ 0 rfl).at_ 0 _ rfl
 have c0_1 := (K.at_ 0 rfl).at_ 1 _ rfl
 have c0_2 := (K.at_ 0 rfl).at_ 2 _ rfl
 replace K := Lib.hid K
 go_wp2_with fail
 refine (CL.out _ K.out.old).mono ?_
 rintro _ v1 ⟨rfl, hb⟩
 clear c0_0 c0_1 c0_2
 replace K := K.out.on hb
 clear hb
 have c0_0 := (K.at_ 0 rfl).at_ 0 _ rfl
 have c0_1 := (K.at_ 0 rfl).at_ 1 _ rfl
 have c0_2 := (K.at_ 0 rfl).at_ 2 _ rfl
 replace K := Lib.hid K
 clear c0_0 c0_1 c0_2
 have c0_2 := (K.out.at_ 0 rfl).at_ 2 _ rfl
 go_wp2_with fail
 clear c0_2
 go_loopw [22] (fun iv wr => ∃ i : Nat, i ≤ bn ∧ iv = .int .i64 i ∧ (∀ j, j < i → mb j = true) ∧ Kv w [some (w.heap.size, [.float .f64 lt, .slice fao fn fc, .slice bao bn bc])] wr) (fun iv _ => bn - (intOf iv).toNat)
 case atStart => exact ⟨0, Nat.zero_le _, rfl, fun j hj => by omega, K.out⟩
 case round =>
  obtain ⟨i, hi, rfl, ho, K⟩ := hrel
  by_cases hlt : i < bn
  · have hin : (i : Int) < (bn : Int) := by omega
    have good : Hid (mb i = true → ∀ j, j < i + 1 → mb j = true) := Lib.hid fun h j hj => by
        by_cases e : j < i
        · exact ho j e
        · have e : j = i := by omega
          rw [e]; exact h
    have bad : Hid (mb i = false → V = 150) := Lib.hid (hx.out i hlt)
    clear ho
    have c0_0 := (K.at_ 0 rfl).at_ 0 _ rfl
    have c0_1 := (K.at_ 0 rfl).at_ 1 _ rfl
    have c0_2 := (K.at_ 0 rfl).at_ 2 _ rfl
    replace K := Lib.hid K
    cases hm : mb i with
    | true =>
      replace good := Lib.hid (good.out hm)
      clear bad
      go_wp2_with fail
      refine (CM.out _ K.out.old i hlt).mono ?_
      rintro _ v1 ⟨rfl, hb⟩
      rw [hm]
      replace hm := Lib.hid hm
      replace K := Lib.hid (K.out.on hb)
      clear hb c0_0 c0_1 c0_2
      go_wp2_with fail
      go_roundw
      case rel => exact ⟨i + 1, hlt, by go_num, good.out, K.out⟩
      case measure => simp [intOf]; omega
    | false =>
      obtain rfl := bad.out hm
      clear good
      go_wp2_with fail
      refine (CM.out _ K.out.old i hlt).mono ?_
      rintro _ v1 ⟨rfl, hb⟩
      rw [hm]
      replace hm := Lib.hid hm
      replace K := Lib.hid (K.out.on hb)
      clear hb c0_0 c0_1 c0_2
      go_wp2_with fail
      go_ret
      exact ⟨by first | rfl | trivial, K.out.old⟩
  · obtain rfl : bn = i := by omega
    obtain rfl := hg.out ho
    clear ho
    replace K := Lib.hid K
    go_wp2_with fail
    go_ret
    exact ⟨by first | rfl | trivial, K.out.old⟩
theorem ycheck_run {S : Sy} (hW : SyW S) {M : List Bm} (hM : M.map Bm.b = S.bs) {fc bc : Nat} {fao bao : Option Addr} {w : World} (ha : SkAt w S fao bao M) :
 Calls Tryz.prog 40 #[.agg #[.float .f64 S.lt, .slice fao S.fs.length fc, .slice bao S.bs.length bc]] w fun e w' => e = .returned (.int .i64 (chkS S)) ∧ Below w.heap.size w w' := by
 have hn : S.bs.length = M.length := by rw [← hM, List.length_map]
 have CF : Hid (∀ W, Below w.heap.size w W → Calls Tryz.prog 69 #[.slice fao S.fs.length fc] W fun e w' => e = .returned (.int .i64 (chkF S.fs)) ∧ Below W.heap.size W w') := Lib.hid fun W hb => fcheck_run fao fc S.fs.length S.fs W rfl hW.nf hW.fs (RAt.on ha.fs hb)
 have CL : Hid (∀ W, Below w.heap.size w W → Calls Tryz.prog 70 #[.float .f64 S.lt, .float .f64 4517110426252607488, .float .f64 4877398396442247168] W fun e w' => e = .returned (.bool (btwB 4517110426252607488 4877398396442247168 S.lt)) ∧ Below W.heap.size W w') := Lib.hid fun W _ => (ywithin_run hW.lt (by unfold FinW; omega) (by unfold FinW; omega) W).mono fun e w' h => ⟨h.1, h.2 ▸ Below.refl _ _⟩
 have hMW : ∀ m ∈ M, BoW m.b := fun m hm => hW.bs _ (by rw [← hM]; exact List.mem_map_of_mem hm)
 have CM : Hid (∀ W, Below w.heap.size w W → ∀ i : Nat, i < S.bs.length → Calls Tryz.prog 71 #[.agg #[.float .f64 S.lt, .slice fao S.fs.length fc, .slice bao S.bs.length bc], .int .i64 (i : Int)] W fun e w' => e = .returned (.bool (mayS S.fs.length i (boAt S.bs i))) ∧ Below W.heap.size W w') := Lib.hid fun W hb i hi => by
  have := ymay_run (lt := S.lt) (fn := S.fs.length) (fc := fc) (bc := bc) (fao := fao) hMW hn hi (ha.bs.on hb)
  rwa [← bo_bm, hM] at this
 unfold chkS
 by_cases h1 : 16 < S.bs.length
 · rw [if_pos h1]
   exact ychk_long h1
 rw [if_neg h1]
 by_cases h2 : chkF S.fs ≠ 0
 · rw [if_pos h2]
   exact ychk_frame CF h1 (by simpa using h2)
 rw [if_neg h2]
 have h2' : chkF S.fs = 0 := by simpa using h2
 by_cases h3 : btwB 4517110426252607488 4877398396442247168 S.lt = false
 · rw [if_pos h3]
   rw [h3] at CL
   exact ychk_light CF CL h1 h2'
 rw [if_neg h3]
 rw [Bool.not_eq_false] at h3
 rw [h3] at CL
 refine ychk_loop CF CL CM h1 h2' (fun h => if_pos (goodS_iff.2 h)) (fun j hj h => if_neg fun g => ?_)
 rw [goodS_iff.1 g j hj] at h
 cases h
def rdyS (S : Sy) (i : Int) (tb : Bool) : Int := if chkS S ≠ 0 then chkS S else if i < 0 ∨ (S.bs.length : Int) ≤ i then 1 else if tb = false then 80 else 0
theorem rdyS_zero {S : Sy} {i : Int} {tb : Bool} (h : rdyS S i tb = 0) : chkS S = 0 ∧ 0 ≤ i ∧ i < S.bs.length ∧ tb = true := by
 unfold rdyS at h
 by_cases h1 : chkS S ≠ 0
 · rw [if_pos h1] at h; exact absurd h h1
 rw [if_neg h1] at h
 by_cases h2 : i < 0 ∨ (S.bs.length : Int) ≤ i
 · rw [if_pos h2] at h; omega
 rw [if_neg h2] at h
 cases tb with
 | false => rw [if_pos rfl] at h; omega
 | true => exact ⟨by simpa using h1, by omega, by omega, rfl⟩
theorem yrdy1 {lt fn fc bn bc : Nat} {fao bao : Option Addr} {w : World} {i k : Int} {tb : Bool} (CK : Hid (∀ W, Below w.heap.size w W → Calls Tryz.prog 40 #[.agg #[.float .f64 lt, .slice fao fn fc, .slice bao bn bc]] W fun e w' => e = .returned (.int .i64 k) ∧ Below W.heap.size W w')) (h : (k != 0) = true) : Calls Tryz.prog 21 #[.agg #[.float .f64 lt, .slice fao fn fc, .slice bao bn bc], .int .i64 i, .bool tb] w fun e w' => e = .returned (.int .i64 k) ∧ Below w.heap.size w w' := by
 have K0 := kv1 w 26 [.float .f64 lt, .slice fao fn fc, .slice bao bn bc]
 simp only [objV] at K0
 replace K0 := Lib.hid K0
 have hst := @fstore
 go_enter Tryz.func21, Tryz.ntmps21
 have K := K0.out
 clear K0
 have c0_0 := (K.at_ 0 rfl).at_ 0 _ rfl
 have c0_1 := (K.at_ 0 rfl).at_ 1 _ rfl
 have c0_2 := (K.at_ 0 rfl).at_ 2 _ rfl
 replace K := Lib.hid K
 go_wp2_with fail
 refine (CK.out _ K.out.old).mono ?_
 rintro _ v1 ⟨rfl, hb⟩
 clear c0_0 c0_1 c0_2
 replace K := K.out.on hb
 clear hb
 have c0_0 := (K.at_ 0 rfl).at_ 0 _ rfl
 have c0_1 := (K.at_ 0 rfl).at_ 1 _ rfl
 have c0_2 := (K.at_ 0 rfl).at_ 2 _ rfl
 replace K := Lib.hid K
 go_wp2_with fail
 go_ret
 exact ⟨by first | rfl | trivial, K.out.old⟩
theorem yrdy2 {lt fn fc bn bc : Nat} {fao bao : Option Addr} {w : World} {i k : Int} {tb : Bool} (CK : Hid (∀ W, Below w.heap.size w W → Calls Tryz.prog 40 #[.agg #[.float .f64 lt, .slice fao fn fc, .slice bao bn bc]] W fun e w' => e = .returned (.int .i64 k) ∧ Below W.heap.size W w')) (h : k = 0) (h1 : i < 0) : Calls Tryz.prog 21 #[.agg #[.float .f64 lt, .slice fao fn fc, .slice bao bn bc], .int .i64 i, .bool tb] w fun e w' => e = .returned (.int .i64 1) ∧ Below w.heap.size w w' := by
 subst h
 have K0 := kv1 w 26 [.float .f64 lt, .slice fao fn fc, .slice bao bn bc]
 simp only [objV] at K0
 replace K0 := Lib.hid K0
 have hst := @fstore
 go_enter Tryz.func21, Tryz.ntmps21
 have K := K0.out
 clear K0
 have c0_0 := (K.at_ 0 rfl).at_ 0 _ rfl
 have c0_1 := (K.at_ 0 rfl).at_ 1 _ rfl
 have c0_2 := (K.at_ 0 rfl).at_ 2 _ rfl
 replace K := Lib.hid K
 go_wp2_with fail
 refine (CK.out _ K.out.old).mono ?_
 rintro _ v1 ⟨rfl, hb⟩
 clear c0_0 c0_1 c0_2
 replace K := K.out.on hb
 clear hb
 have c0_0 := (K.at_ 0 rfl).at_ 0 _ rfl
 have c0_1 := (K.at_ 0 rfl).at_ 1 _ rfl
 have c0_2 := (K.at_ 0 rfl).at_ 2 _ rfl
 replace K := Lib.hid K
 go_wp2_with fail
 go_ret
 exact ⟨by first | rfl | trivial, K.out.old⟩
theorem yrdy3 {lt fn fc bn bc : Nat} {fao bao : Option Addr} {w : World} {i k : Int} {tb : Bool} (CK : Hid (∀ W, Below w.heap.size w W → Calls Tryz.prog 40 #[.agg #[.float .f64 lt, .slice fao fn fc, .slice bao bn bc]] W fun e w' => e = .returned (.int .i64 k) ∧ Below W.heap.size W w')) (h : k = 0) (h1 : ¬ i < 0) (h2 : (bn : Int) ≤ i) : Calls Tryz.prog 21 #[.agg #[.float .f64 lt, .slice fao fn fc, .slice bao bn bc], .int .i64 i, .bool tb] w fun e w' => e = .returned (.int .i64 1) ∧ Below w.heap.size w w' := by
 subst h
 have K0 := kv1 w 26 [.float .f64 lt, .slice fao fn fc, .slice bao bn bc]
 simp only [objV] at K0
 replace K0 := Lib.hid K0
 have hst := @fstore
 go_enter Tryz.func21, Tryz.ntmps21
 have K := K0.out
 clear K0
 have c0_0 := (K.at_ 0 rfl).at_ 0 _ rfl
 have c0_1 := (K.at_ 0 rfl).at_ 1 _ rfl
 have c0_2 := (K.at_ 0 rfl).at_ 2 _ rfl
 replace K := Lib.hid K
 go_wp2_with fail
 refine (CK.out _ K.out.old).mono ?_
 rintro _ v1 ⟨rfl, hb⟩
 clear c0_0 c0_1 c0_2
 replace K := K.out.on hb
 clear hb
 have c0_0 := (K.at_ 0 rfl).at_ 0 _ rfl
 have c0_1 := (K.at_ 0 rfl).at_ 1 _ rfl
 have c0_2 := (K.at_ 0 rfl).at_ 2 _ rfl
 replace K := Lib.hid K
 go_wp2_with fail
 go_ret
 exact ⟨by first | rfl | trivial, K.out.old⟩
theorem yrdy4 {lt fn fc bn bc : Nat} {fao bao : Option Addr} {w : World} {i k : Int} {tb : Bool} (CK : Hid (∀ W, Below w.heap.size w W → Calls Tryz.prog 40 #[.agg #[.float .f64 lt, .slice fao fn fc, .slice bao bn bc]] W fun e w' => e = .returned (.int .i64 k) ∧ Below W.heap.size W w')) (h : k = 0) (h1 : ¬ i < 0) (h2 : ¬ (bn : Int) ≤ i) (ht : tb = false) : Calls Tryz.prog 21 #[.agg #[.float .f64 lt, .slice fao fn fc, .slice bao bn bc], .int .i64 i, .bool tb] w fun e w' => e = .returned (.int .i64 80) ∧ Below w.heap.size w w' := by
 subst h
 subst ht
 have K0 := kv1 w 26 [.float .f64 lt, .slice fao fn fc, .slice bao bn bc]
 simp only [objV] at K0
 replace K0 := Lib.hid K0
 have hst := @fstore
 go_enter Tryz.func21, Tryz.ntmps21
 have K := K0.out
 clear K0
 have c0_0 := (K.at_ 0 rfl).at_ 0 _ rfl
 have c0_1 := (K.at_ 0 rfl).at_ 1 _ rfl
 have c0_2 := (K.at_ 0 rfl).at_ 2 _ rfl
 replace K := Lib.hid K
 go_wp2_with fail
 refine (CK.out _ K.out.old).mono ?_
 rintro _ v1 ⟨rfl, hb⟩
 clear c0_0 c0_1 c0_2
 replace K := K.out.on hb
 clear hb
 have c0_0 := (K.at_ 0 rfl).at_ 0 _ rfl
 have c0_1 := (K.at_ 0 rfl).at_ 1 _ rfl
 have c0_2 := (K.at_ 0 rfl).at_ 2 _ rfl
 replace K := Lib.hid K
 go_wp2_with fail
 go_ret
 exact ⟨by first | rfl | trivial, K.out.old⟩
theorem yrdy5 {lt fn fc bn bc : Nat} {fao bao : Option Addr} {w : World} {i k : Int} {tb : Bool} (CK : Hid (∀ W, Below w.heap.size w W → Calls Tryz.prog 40 #[.agg #[.float .f64 lt, .slice fao fn fc, .slice bao bn bc]] W fun e w' => e = .returned (.int .i64 k) ∧ Below W.heap.size W w')) (h : k = 0) (h1 : ¬ i < 0) (h2 : ¬ (bn : Int) ≤ i) (ht : tb = true) : Calls Tryz.prog 21 #[.agg #[.float .f64 lt, .slice fao fn fc, .slice bao bn bc], .int .i64 i, .bool tb] w fun e w' => e = .returned (.int .i64 0) ∧ Below w.heap.size w w' := by
 subst h
 subst ht
 have K0 := kv1 w 26 [.float .f64 lt, .slice fao fn fc, .slice bao bn bc]
 simp only [objV] at K0
 replace K0 := Lib.hid K0
 have hst := @fstore
 go_enter Tryz.func21, Tryz.ntmps21
 have K := K0.out
 clear K0
 have c0_0 := (K.at_ 0 rfl).at_ 0 _ rfl
 have c0_1 := (K.at_ 0 rfl).at_ 1 _ rfl
 have c0_2 := (K.at_ 0 rfl).at_ 2 _ rfl
 replace K := Lib.hid K
 go_wp2_with fail
 refine (CK.out _ K.out.old).mono ?_
 rintro _ v1 ⟨rfl, hb⟩
 clear c0_0 c0_1 c0_2
 replace K := K.out.on hb
 clear hb
 have c0_0 := (K.at_ 0 rfl).at_ 0 _ rfl
 have c0_1 := (K.at_ 0 rfl).at_ 1 _ rfl
 have c0_2 := (K.at_ 0 rfl).at_ 2 _ rfl
 replace K := Lib.hid K
 go_wp2_with fail
 go_ret
 exact ⟨by first | rfl | trivial, K.out.old⟩
theorem yready_run {S : Sy} (hW : SyW S) {M : List Bm} (hM : M.map Bm.b = S.bs) {fc bc : Nat} {fao bao : Option Addr} {w : World} (i : Int) (tb : Bool) (ha : SkAt w S fao bao M) :
 Calls Tryz.prog 21 #[.agg #[.float .f64 S.lt, .slice fao S.fs.length fc, .slice bao S.bs.length bc], .int .i64 i, .bool tb] w fun e w' => e = .returned (.int .i64 (rdyS S i tb)) ∧ Below w.heap.size w w' := by
 have CK : Hid (∀ W, Below w.heap.size w W → Calls Tryz.prog 40 #[.agg #[.float .f64 S.lt, .slice fao S.fs.length fc, .slice bao S.bs.length bc]] W fun e w' => e = .returned (.int .i64 (chkS S)) ∧ Below W.heap.size W w') := Lib.hid fun W hb => ycheck_run hW hM (ha.on hb)
 unfold rdyS
 by_cases h1 : chkS S ≠ 0
 · rw [if_pos h1]
   exact yrdy1 CK (by simpa using h1)
 rw [if_neg h1]
 have h1' : chkS S = 0 := by simpa using h1
 by_cases h2 : i < 0
 · rw [if_pos (Or.inl h2)]
   exact yrdy2 CK h1' h2
 by_cases h3 : (S.bs.length : Int) ≤ i
 · rw [if_pos (Or.inr h3)]
   exact yrdy3 CK h1' h2 h3
 rw [if_neg (by omega)]
 cases tb with
 | false => rw [if_pos rfl]; exact yrdy4 CK h1' h2 h3 rfl
 | true => rw [if_neg (by decide)]; exact yrdy5 CK h1' h2 h3 rfl
end Go.Proofs.YtacinenddnfcbaaGreat

namespace Go.Proofs.YtacinenddnfcbaaGreat
open Go.ChangeShapes Go.WideShapes Go.ChangeAt Go.RowKit Ieee.Own

theorem yway2 {up fm : Int} {sz x1 x2 x3 o1 o2 o3 o4 o5 o6 o7 tf ts wn wc tn tc : Nat} {wao tao : Option Addr} {fao : Option Addr} {fn fc : Nat} {d : Nat} {q1 q2 q3 : Nat} {k : Int} {w : World} (C : Hid (∀ W, Below w.heap.size w W → Calls Tryz.prog 57 #[.agg #[.float .f64 o1, .float .f64 o2, .float .f64 o3, .float .f64 o4, .float .f64 o5, .float .f64 o6, .float .f64 o7], .float .f64 d] W fun e w' => e = .returned (.tuple #[.agg #[.float .f64 q1, .float .f64 q2, .float .f64 q3], .int .i64 k]) ∧ Below W.heap.size W w')) : Calls Tryz.prog 33 #[.slice fao fn fc, .agg #[.int .i64 2, .int .i64 up, .float .f64 sz, .float .f64 x1, .float .f64 x2, .float .f64 x3, .float .f64 o1, .float .f64 o2, .float .f64 o3, .float .f64 o4, .float .f64 o5, .float .f64 o6, .float .f64 o7, .slice wao wn wc, .float .f64 tf, .float .f64 ts, .slice tao tn tc, .int .i64 fm], .float .f64 d] w fun e w' => e = .returned (.tuple #[.agg #[.float .f64 q1, .float .f64 q2, .float .f64 q3], .int .i64 k]) ∧ Below w.heap.size w w' := by
 have K0 := kv2 w 51 41 [.int .i64 2, .int .i64 up, .float .f64 sz, .float .f64 x1, .float .f64 x2, .float .f64 x3, .float .f64 o1, .float .f64 o2, .float .f64 o3, .float .f64 o4, .float .f64 o5, .float .f64 o6, .float .f64 o7, .slice wao wn wc, .float .f64 tf, .float .f64 ts, .slice tao tn tc, .int .i64 fm] [.float .f64 0, .float .f64 0, .float .f64 0]
 simp only [objV] at K0
 replace K0 := Lib.hid K0
 have hst := @fstore
 go_enter Tryz.func33, Tryz.ntmps33
 go_upto_region 1 with fail
 have K := K0.out
 clear K0
 generalize (w.alloc _).alloc _ = wr at *
 have c0_0 := (K.at_ 0 rfl).at_ 0 _ rfl
 have c0_1 := (K.at_ 0 rfl).at_ 1 _ rfl
 have c0_2 := (K.at_ 0 rfl).at_ 2 _ rfl
 have c0_3 := (K.at_ 0 rfl).at_ 3 _ rfl
 have c0_4 := (K.at_ 0 rfl).at_ 4 _ rfl
 have c0_5 := (K.at_ 0 rfl).at_ 5 _ rfl
 have c0_6 := (K.at_ 0 rfl).at_ 6 _ rfl
 have c0_7 := (K.at_ 0 rfl).at_ 7 _ rfl
 have c0_8 := (K.at_ 0 rfl).at_ 8 _ rfl
 have c0_9 := (K.at_ 0 rfl).at_ 9 _ rfl
 have c0_10 := (K.at_ 0 rfl).at_ 10 _ rfl
 have c0_11 := (K.at_ 0 rfl).at_ 11 _ rfl
 have c0_12 := (K.at_ 0 rfl).at_ 12 _ rfl
 have c0_13 := (K.at_ 0 rfl).at_ 13 _ rfl
 have c0_14 := (K.at_ 0 rfl).at_ 14 _ rfl
 have c0_15 := (K.at_ 0 rfl).at_ 15 _ rfl
 have c0_16 := (K.at_ 0 rfl).at_ 16 _ rfl
 have c0_17 := (K.at_ 0 rfl).at_ 17 _ rfl
 replace K := Lib.hid K
 go_wp2_with fail
 refine (C.out _ K.out.old).mono ?_
 rintro _ v1 ⟨rfl, hb⟩
 clear C c0_0 c0_1 c0_2 c0_3 c0_4 c0_5 c0_6 c0_7 c0_8 c0_9 c0_10 c0_11 c0_12 c0_13 c0_14 c0_15 c0_16 c0_17
 replace K := K.out.on hb
 clear hb
 have c1_0 := (K.at_ 1 rfl).at_ 0 _ rfl
 have f1_0 := (K.at_ 1 rfl).fr 0 _ rfl
 have c1_1 := (K.at_ 1 rfl).at_ 1 _ rfl
 have f1_1 := (K.at_ 1 rfl).fr 1 _ rfl
 have c1_2 := (K.at_ 1 rfl).at_ 2 _ rfl
 have f1_2 := (K.at_ 1 rfl).fr 2 _ rfl
 replace K := Lib.hid K
 go_wp2_with fail
 (try simp only [Exit.inBlock, Exit.then])
 refine bodyPost_ret (v := .tuple #[.agg #[.float .f64 q1, .float .f64 q2, .float .f64 q3], .int .i64 k]) ?_ rfl ⟨rfl, ?_⟩
 · rw [results_cell_tmp rfl]; go_simp
 · exact (((K.out.old).setCell (by first | exact Nat.le_refl _ | omega | (dsimp only; omega)) _).setCell (by first | exact Nat.le_refl _ | omega | (dsimp only; omega)) _).setCell (by first | exact Nat.le_refl _ | omega | (dsimp only; omega)) _
theorem yway3 {up fm : Int} {sz x1 x2 x3 o1 o2 o3 o4 o5 o6 o7 tf ts wn wc tn tc : Nat} {wao tao : Option Addr} {fao : Option Addr} {fn fc : Nat} {d : Nat} {q1 q2 q3 : Nat} {k : Int} {w : World} (C : Hid (∀ W, Below w.heap.size w W → Calls Tryz.prog 58 #[.slice wao wn wc, .float .f64 d] W fun e w' => e = .returned (.tuple #[.agg #[.float .f64 q1, .float .f64 q2, .float .f64 q3], .int .i64 k]) ∧ Below W.heap.size W w')) : Calls Tryz.prog 33 #[.slice fao fn fc, .agg #[.int .i64 3, .int .i64 up, .float .f64 sz, .float .f64 x1, .float .f64 x2, .float .f64 x3, .float .f64 o1, .float .f64 o2, .float .f64 o3, .float .f64 o4, .float .f64 o5, .float .f64 o6, .float .f64 o7, .slice wao wn wc, .float .f64 tf, .float .f64 ts, .slice tao tn tc, .int .i64 fm], .float .f64 d] w fun e w' => e = .returned (.tuple #[.agg #[.float .f64 q1, .float .f64 q2, .float .f64 q3], .int .i64 k]) ∧ Below w.heap.size w w' := by
 have K0 := kv2 w 51 41 [.int .i64 3, .int .i64 up, .float .f64 sz, .float .f64 x1, .float .f64 x2, .float .f64 x3, .float .f64 o1, .float .f64 o2, .float .f64 o3, .float .f64 o4, .float .f64 o5, .float .f64 o6, .float .f64 o7, .slice wao wn wc, .float .f64 tf, .float .f64 ts, .slice tao tn tc, .int .i64 fm] [.float .f64 0, .float .f64 0, .float .f64 0]
 simp only [objV] at K0
 replace K0 := Lib.hid K0
 have hst := @fstore
 go_enter Tryz.func33, Tryz.ntmps33
 go_upto_region 1 with fail
 have K := K0.out
 clear K0
 generalize (w.alloc _).alloc _ = wr at *
 have c0_0 := (K.at_ 0 rfl).at_ 0 _ rfl
 have c0_1 := (K.at_ 0 rfl).at_ 1 _ rfl
 have c0_2 := (K.at_ 0 rfl).at_ 2 _ rfl
 have c0_3 := (K.at_ 0 rfl).at_ 3 _ rfl
 have c0_4 := (K.at_ 0 rfl).at_ 4 _ rfl
 have c0_5 := (K.at_ 0 rfl).at_ 5 _ rfl
 have c0_6 := (K.at_ 0 rfl).at_ 6 _ rfl
 have c0_7 := (K.at_ 0 rfl).at_ 7 _ rfl
 have c0_8 := (K.at_ 0 rfl).at_ 8 _ rfl
 have c0_9 := (K.at_ 0 rfl).at_ 9 _ rfl
 have c0_10 := (K.at_ 0 rfl).at_ 10 _ rfl
 have c0_11 := (K.at_ 0 rfl).at_ 11 _ rfl
 have c0_12 := (K.at_ 0 rfl).at_ 12 _ rfl
 have c0_13 := (K.at_ 0 rfl).at_ 13 _ rfl
 have c0_14 := (K.at_ 0 rfl).at_ 14 _ rfl
 have c0_15 := (K.at_ 0 rfl).at_ 15 _ rfl
 have c0_16 := (K.at_ 0 rfl).at_ 16 _ rfl
 have c0_17 := (K.at_ 0 rfl).at_ 17 _ rfl
 replace K := Lib.hid K
 go_wp2_with fail
 refine (C.out _ K.out.old).mono ?_
 rintro _ v1 ⟨rfl, hb⟩
 clear C c0_0 c0_1 c0_2 c0_3 c0_4 c0_5 c0_6 c0_7 c0_8 c0_9 c0_10 c0_11 c0_12 c0_13 c0_14 c0_15 c0_16 c0_17
 replace K := K.out.on hb
 clear hb
 have c1_0 := (K.at_ 1 rfl).at_ 0 _ rfl
 have f1_0 := (K.at_ 1 rfl).fr 0 _ rfl
 have c1_1 := (K.at_ 1 rfl).at_ 1 _ rfl
 have f1_1 := (K.at_ 1 rfl).fr 1 _ rfl
 have c1_2 := (K.at_ 1 rfl).at_ 2 _ rfl
 have f1_2 := (K.at_ 1 rfl).fr 2 _ rfl
 replace K := Lib.hid K
 go_wp2_with fail
 (try simp only [Exit.inBlock, Exit.then])
 refine bodyPost_ret (v := .tuple #[.agg #[.float .f64 q1, .float .f64 q2, .float .f64 q3], .int .i64 k]) ?_ rfl ⟨rfl, ?_⟩
 · rw [results_cell_tmp rfl]; go_simp
 · exact (((K.out.old).setCell (by first | exact Nat.le_refl _ | omega | (dsimp only; omega)) _).setCell (by first | exact Nat.le_refl _ | omega | (dsimp only; omega)) _).setCell (by first | exact Nat.le_refl _ | omega | (dsimp only; omega)) _
theorem yway4 {up fm : Int} {sz x1 x2 x3 o1 o2 o3 o4 o5 o6 o7 tf ts wn wc tn tc : Nat} {wao tao : Option Addr} {fao : Option Addr} {fn fc : Nat} {d : Nat} {q1 q2 q3 : Nat} {k : Int} {w : World} (C : Hid (∀ W, Below w.heap.size w W → Calls Tryz.prog 59 #[.agg #[.float .f64 tf, .float .f64 ts, .slice tao tn tc], .float .f64 d] W fun e w' => e = .returned (.tuple #[.agg #[.float .f64 q1, .float .f64 q2, .float .f64 q3], .int .i64 k]) ∧ Below W.heap.size W w')) : Calls Tryz.prog 33 #[.slice fao fn fc, .agg #[.int .i64 4, .int .i64 up, .float .f64 sz, .float .f64 x1, .float .f64 x2, .float .f64 x3, .float .f64 o1, .float .f64 o2, .float .f64 o3, .float .f64 o4, .float .f64 o5, .float .f64 o6, .float .f64 o7, .slice wao wn wc, .float .f64 tf, .float .f64 ts, .slice tao tn tc, .int .i64 fm], .float .f64 d] w fun e w' => e = .returned (.tuple #[.agg #[.float .f64 q1, .float .f64 q2, .float .f64 q3], .int .i64 k]) ∧ Below w.heap.size w w' := by
 have K0 := kv2 w 51 41 [.int .i64 4, .int .i64 up, .float .f64 sz, .float .f64 x1, .float .f64 x2, .float .f64 x3, .float .f64 o1, .float .f64 o2, .float .f64 o3, .float .f64 o4, .float .f64 o5, .float .f64 o6, .float .f64 o7, .slice wao wn wc, .float .f64 tf, .float .f64 ts, .slice tao tn tc, .int .i64 fm] [.float .f64 0, .float .f64 0, .float .f64 0]
 simp only [objV] at K0
 replace K0 := Lib.hid K0
 have hst := @fstore
 go_enter Tryz.func33, Tryz.ntmps33
 go_upto_region 1 with fail
 have K := K0.out
 clear K0
 generalize (w.alloc _).alloc _ = wr at *
 have c0_0 := (K.at_ 0 rfl).at_ 0 _ rfl
 have c0_1 := (K.at_ 0 rfl).at_ 1 _ rfl
 have c0_2 := (K.at_ 0 rfl).at_ 2 _ rfl
 have c0_3 := (K.at_ 0 rfl).at_ 3 _ rfl
 have c0_4 := (K.at_ 0 rfl).at_ 4 _ rfl
 have c0_5 := (K.at_ 0 rfl).at_ 5 _ rfl
 have c0_6 := (K.at_ 0 rfl).at_ 6 _ rfl
 have c0_7 := (K.at_ 0 rfl).at_ 7 _ rfl
 have c0_8 := (K.at_ 0 rfl).at_ 8 _ rfl
 have c0_9 := (K.at_ 0 rfl).at_ 9 _ rfl
 have c0_10 := (K.at_ 0 rfl).at_ 10 _ rfl
 have c0_11 := (K.at_ 0 rfl).at_ 11 _ rfl
 have c0_12 := (K.at_ 0 rfl).at_ 12 _ rfl
 have c0_13 := (K.at_ 0 rfl).at_ 13 _ rfl
 have c0_14 := (K.at_ 0 rfl).at_ 14 _ rfl
 have c0_15 := (K.at_ 0 rfl).at_ 15 _ rfl
 have c0_16 := (K.at_ 0 rfl).at_ 16 _ rfl
 have c0_17 := (K.at_ 0 rfl).at_ 17 _ rfl
 replace K := Lib.hid K
 go_wp2_with fail
 refine (C.out _ K.out.old).mono ?_
 rintro _ v1 ⟨rfl, hb⟩
 clear C c0_0 c0_1 c0_2 c0_3 c0_4 c0_5 c0_6 c0_7 c0_8 c0_9 c0_10 c0_11 c0_12 c0_13 c0_14 c0_15 c0_16 c0_17
 replace K := K.out.on hb
 clear hb
 have c1_0 := (K.at_ 1 rfl).at_ 0 _ rfl
 have f1_0 := (K.at_ 1 rfl).fr 0 _ rfl
 have c1_1 := (K.at_ 1 rfl).at_ 1 _ rfl
 have f1_1 := (K.at_ 1 rfl).fr 1 _ rfl
 have c1_2 := (K.at_ 1 rfl).at_ 2 _ rfl
 have f1_2 := (K.at_ 1 rfl).fr 2 _ rfl
 replace K := Lib.hid K
 go_wp2_with fail
 (try simp only [Exit.inBlock, Exit.then])
 refine bodyPost_ret (v := .tuple #[.agg #[.float .f64 q1, .float .f64 q2, .float .f64 q3], .int .i64 k]) ?_ rfl ⟨rfl, ?_⟩
 · rw [results_cell_tmp rfl]; go_simp
 · exact (((K.out.old).setCell (by first | exact Nat.le_refl _ | omega | (dsimp only; omega)) _).setCell (by first | exact Nat.le_refl _ | omega | (dsimp only; omega)) _).setCell (by first | exact Nat.le_refl _ | omega | (dsimp only; omega)) _
theorem yway5 {up fm : Int} {sz x1 x2 x3 o1 o2 o3 o4 o5 o6 o7 tf ts wn wc tn tc : Nat} {wao tao : Option Addr} {fao : Option Addr} {fn fc : Nat} {d : Nat} {q1 q2 q3 : Nat} {k : Int} {w : World} (C : Hid (∀ W, Below w.heap.size w W → Calls Tryz.prog 60 #[.slice fao fn fc, .int .i64 fm, .float .f64 d, .agg #[.float .f64 x1, .float .f64 x2, .float .f64 x3]] W fun e w' => e = .returned (.tuple #[.agg #[.float .f64 q1, .float .f64 q2, .float .f64 q3], .int .i64 k]) ∧ Below W.heap.size W w')) : Calls Tryz.prog 33 #[.slice fao fn fc, .agg #[.int .i64 5, .int .i64 up, .float .f64 sz, .float .f64 x1, .float .f64 x2, .float .f64 x3, .float .f64 o1, .float .f64 o2, .float .f64 o3, .float .f64 o4, .float .f64 o5, .float .f64 o6, .float .f64 o7, .slice wao wn wc, .float .f64 tf, .float .f64 ts, .slice tao tn tc, .int .i64 fm], .float .f64 d] w fun e w' => e = .returned (.tuple #[.agg #[.float .f64 q1, .float .f64 q2, .float .f64 q3], .int .i64 k]) ∧ Below w.heap.size w w' := by
 have K0 := kv2 w 51 41 [.int .i64 5, .int .i64 up, .float .f64 sz, .float .f64 x1, .float .f64 x2, .float .f64 x3, .float .f64 o1, .float .f64 o2, .float .f64 o3, .float .f64 o4, .float .f64 o5, .float .f64 o6, .float .f64 o7, .slice wao wn wc, .float .f64 tf, .float .f64 ts, .slice tao tn tc, .int .i64 fm] [.float .f64 0, .float .f64 0, .float .f64 0]
 simp only [objV] at K0
 replace K0 := Lib.hid K0
 have hst := @fstore
 go_enter Tryz.func33, Tryz.ntmps33
 go_upto_region 1 with fail
 have K := K0.out
 clear K0
 generalize (w.alloc _).alloc _ = wr at *
 have c0_0 := (K.at_ 0 rfl).at_ 0 _ rfl
 have c0_1 := (K.at_ 0 rfl).at_ 1 _ rfl
 have c0_2 := (K.at_ 0 rfl).at_ 2 _ rfl
 have c0_3 := (K.at_ 0 rfl).at_ 3 _ rfl
 have c0_4 := (K.at_ 0 rfl).at_ 4 _ rfl
 have c0_5 := (K.at_ 0 rfl).at_ 5 _ rfl
 have c0_6 := (K.at_ 0 rfl).at_ 6 _ rfl
 have c0_7 := (K.at_ 0 rfl).at_ 7 _ rfl
 have c0_8 := (K.at_ 0 rfl).at_ 8 _ rfl
 have c0_9 := (K.at_ 0 rfl).at_ 9 _ rfl
 have c0_10 := (K.at_ 0 rfl).at_ 10 _ rfl
 have c0_11 := (K.at_ 0 rfl).at_ 11 _ rfl
 have c0_12 := (K.at_ 0 rfl).at_ 12 _ rfl
 have c0_13 := (K.at_ 0 rfl).at_ 13 _ rfl
 have c0_14 := (K.at_ 0 rfl).at_ 14 _ rfl
 have c0_15 := (K.at_ 0 rfl).at_ 15 _ rfl
 have c0_16 := (K.at_ 0 rfl).at_ 16 _ rfl
 have c0_17 := (K.at_ 0 rfl).at_ 17 _ rfl
 replace K := Lib.hid K
 go_wp2_with fail
 refine (C.out _ K.out.old).mono ?_
 rintro _ v1 ⟨rfl, hb⟩
 clear C c0_0 c0_1 c0_2 c0_3 c0_4 c0_5 c0_6 c0_7 c0_8 c0_9 c0_10 c0_11 c0_12 c0_13 c0_14 c0_15 c0_16 c0_17
 replace K := K.out.on hb
 clear hb
 have c1_0 := (K.at_ 1 rfl).at_ 0 _ rfl
 have f1_0 := (K.at_ 1 rfl).fr 0 _ rfl
 have c1_1 := (K.at_ 1 rfl).at_ 1 _ rfl
 have f1_1 := (K.at_ 1 rfl).fr 1 _ rfl
 have c1_2 := (K.at_ 1 rfl).at_ 2 _ rfl
 have f1_2 := (K.at_ 1 rfl).fr 2 _ rfl
 replace K := Lib.hid K
 go_wp2_with fail
 (try simp only [Exit.inBlock, Exit.then])
 refine bodyPost_ret (v := .tuple #[.agg #[.float .f64 q1, .float .f64 q2, .float .f64 q3], .int .i64 k]) ?_ rfl ⟨rfl, ?_⟩
 · rw [results_cell_tmp rfl]; go_simp
 · exact (((K.out.old).setCell (by first | exact Nat.le_refl _ | omega | (dsimp only; omega)) _).setCell (by first | exact Nat.le_refl _ | omega | (dsimp only; omega)) _).setCell (by first | exact Nat.le_refl _ | omega | (dsimp only; omega)) _
theorem yway0 {kd up fm : Int} {sz x1 x2 x3 o1 o2 o3 o4 o5 o6 o7 tf ts wn wc tn tc : Nat} {wao tao : Option Addr} {fao : Option Addr} {fn fc : Nat} {d : Nat} {w : World} (h2 : ¬ kd = 2) (h3 : ¬ kd = 3) (h4 : ¬ kd = 4) (h5 : ¬ kd = 5) : Calls Tryz.prog 33 #[.slice fao fn fc, .agg #[.int .i64 kd, .int .i64 up, .float .f64 sz, .float .f64 x1, .float .f64 x2, .float .f64 x3, .float .f64 o1, .float .f64 o2, .float .f64 o3, .float .f64 o4, .float .f64 o5, .float .f64 o6, .float .f64 o7, .slice wao wn wc, .float .f64 tf, .float .f64 ts, .slice tao tn tc, .int .i64 fm], .float .f64 d] w fun e w' => e = .returned (.tuple #[.agg #[.float .f64 x1, .float .f64 x2, .float .f64 x3], .int .i64 0]) ∧ Below w.heap.size w w' := by
 have K0 := kv2 w 51 41 [.int .i64 kd, .int .i64 up, .float .f64 sz, .float .f64 x1, .float .f64 x2, .float .f64 x3, .float .f64 o1, .float .f64 o2, .float .f64 o3, .float .f64 o4, .float .f64 o5, .float .f64 o6, .float .f64 o7, .slice wao wn wc, .float .f64 tf, .float .f64 ts, .slice tao tn tc, .int .i64 fm] [.float .f64 0, .float .f64 0, .float .f64 0]
 simp only [objV] at K0
 replace K0 := Lib.hid K0
 have hst := @fstore
 go_enter Tryz.func33, Tryz.ntmps33
 go_upto_region 1 with fail
 have K := K0.out
 clear K0
 generalize (w.alloc _).alloc _ = wr at *
 have c0_0 := (K.at_ 0 rfl).at_ 0 _ rfl
 have c0_1 := (K.at_ 0 rfl).at_ 1 _ rfl
 have c0_2 := (K.at_ 0 rfl).at_ 2 _ rfl
 have c0_3 := (K.at_ 0 rfl).at_ 3 _ rfl
 have c0_4 := (K.at_ 0 rfl).at_ 4 _ rfl
 have c0_5 := (K.at_ 0 rfl).at_ 5 _ rfl
 have c0_6 := (K.at_ 0 rfl).at_ 6 _ rfl
 have c0_7 := (K.at_ 0 rfl).at_ 7 _ rfl
 have c0_8 := (K.at_ 0 rfl).at_ 8 _ rfl
 have c0_9 := (K.at_ 0 rfl).at_ 9 _ rfl
 have c0_10 := (K.at_ 0 rfl).at_ 10 _ rfl
 have c0_11 := (K.at_ 0 rfl).at_ 11 _ rfl
 have c0_12 := (K.at_ 0 rfl).at_ 12 _ rfl
 have c0_13 := (K.at_ 0 rfl).at_ 13 _ rfl
 have c0_14 := (K.at_ 0 rfl).at_ 14 _ rfl
 have c0_15 := (K.at_ 0 rfl).at_ 15 _ rfl
 have c0_16 := (K.at_ 0 rfl).at_ 16 _ rfl
 have c0_17 := (K.at_ 0 rfl).at_ 17 _ rfl
 have c1_0 := (K.at_ 1 rfl).at_ 0 _ rfl
 have f1_0 := (K.at_ 1 rfl).fr 0 _ rfl
 have c1_1 := (K.at_ 1 rfl).at_ 1 _ rfl
 have f1_1 := (K.at_ 1 rfl).fr 1 _ rfl
 have c1_2 := (K.at_ 1 rfl).at_ 2 _ rfl
 have f1_2 := (K.at_ 1 rfl).fr 2 _ rfl
 replace K := Lib.hid K
 go_wp2_with fail
 (try simp only [Exit.inBlock, Exit.then])
 refine bodyPost_ret (v := .tuple #[.agg #[.float .f64 x1, .float .f64 x2, .float .f64 x3], .int .i64 0]) ?_ rfl ⟨rfl, ?_⟩
 · rw [results_cell_tmp rfl]; go_simp
 · exact (((K.out.old).setCell (by first | exact Nat.le_refl _ | omega | (dsimp only; omega)) _).setCell (by first | exact Nat.le_refl _ | omega | (dsimp only; omega)) _).setCell (by first | exact Nat.le_refl _ | omega | (dsimp only; omega)) _
noncomputable def wayY (F : List Fr) (b : Bo) (d : Nat) : V3 × Int := if b.kd = 2 then atR b.orb d else if b.kd = 3 then atV b.wvs d else if b.kd = 4 then atH b.tab d else if b.kd = 5 then rootR F b.frm d b.at_ else (b.at_, 0)
theorem yway_run {m : Bm} (hW : BoW m.b) {F : List Fr} {d : Nat} {fao : Option Addr} {fc : Nat} {w : World} (hF : FsW F) (hn : F.length ≤ 4611686018427387904) (ha : FAt w fao F) (hm : BmAt w m) (hd : d < 18446744073709551616) :
 Calls Tryz.prog 33 #[.slice fao F.length fc, bmV m, .float .f64 d] w fun e w' => e = .returned (vecE (wayY F m.b d).1 (wayY F m.b d).2) ∧ Below w.heap.size w w' := by
 have CO : Hid (∀ W, Below w.heap.size w W → Calls Tryz.prog 57 #[obV m.b.orb, .float .f64 d] W fun e w' => e = .returned (vecE (atR m.b.orb d).1 (atR m.b.orb d).2) ∧ Below W.heap.size W w') := Lib.hid fun W _ => oat_run hW.orb hd W
 have CW : Hid (∀ W, Below w.heap.size w W → Calls Tryz.prog 58 #[.slice m.wao m.b.wvs.length m.wcap, .float .f64 d] W fun e w' => e = .returned (vecE (atV m.b.wvs d).1 (atV m.b.wvs d).2) ∧ Below W.heap.size W w') := Lib.hid fun W hb => wat_run _ _ _ _ W rfl (by have := hW.wl; omega) hW.wvs (RAt.on hm.wv hb) hd
 have CT : Hid (∀ W, Below w.heap.size w W → Calls Tryz.prog 59 #[tbV m.b.tab m.tao m.tcap, .float .f64 d] W fun e w' => e = .returned (vecE (atH m.b.tab d).1 (atH m.b.tab d).2) ∧ Below W.heap.size W w') := Lib.hid fun W hb => cat_run _ _ W (by have := hW.tl.n; omega) hW.tab (hm.tb.on hb) hd
 have CR : Hid (∀ W, Below w.heap.size w W → Calls Tryz.prog 60 #[.slice fao F.length fc, .int .i64 m.b.frm, .float .f64 d, vecV m.b.at_] W fun e w' => e = .returned (vecE (rootR F m.b.frm d m.b.at_).1 (rootR F m.b.frm d m.b.at_).2) ∧ Below W.heap.size W w') := Lib.hid fun W hb => froot_run fao fc F.length F _ d _ W rfl hn hF (RAt.on ha hb) hd hW.at_
 clear hW hm hF ha hn
 obtain ⟨⟨kd, up, sz, ⟨x1, x2, x3⟩, ⟨o1, o2, o3, o4, o5, o6, o7⟩, wvs, ⟨tf, ts, rows⟩, fm⟩, wao, wc, tao, tc⟩ := m
 unfold wayY bmV
 dsimp only at *
 by_cases h2 : kd = 2
 · subst h2
   rw [if_pos rfl]
   exact yway2 CO
 rw [if_neg h2]
 by_cases h3 : kd = 3
 · subst h3
   rw [if_pos rfl]
   exact yway3 CW
 rw [if_neg h3]
 by_cases h4 : kd = 4
 · subst h4
   rw [if_pos rfl]
   exact yway4 CT
 rw [if_neg h4]
 by_cases h5 : kd = 5
 · subst h5
   rw [if_pos rfl]
   exact yway5 CR
 rw [if_neg h5]
 exact yway0 h2 h3 h4 h5
end Go.Proofs.YtacinenddnfcbaaGreat

namespace Go.Proofs.YtacinenddnfcbaaGreat
open Go.ChangeShapes Go.WideShapes Go.ChangeAt Go.RowKit Ieee.Own

end Go.Proofs.YtacinenddnfcbaaGreat

namespace Go.Proofs.YtacinenddnfcbaaGreat
open Go.ChangeShapes Go.WideShapes Go.ChangeAt Go.RowKit Ieee.Own Pol Fma

end Go.Proofs.YtacinenddnfcbaaGreat

namespace Go.Proofs.YtacinenddnfcbaaGreat
open Go.ChangeShapes Go.WideShapes Go.ChangeAt Go.RowKit Ieee.Own Pol Fma

theorem root_w {L : List Fr} {d : Nat} : ∀ (js : List Nat) (v : V3), (∀ j ∈ js, FrA (frAt L j) d) → W3 v → W3 (rootF L d js v).1
 | [], _, _, hv => hv
 | j :: js, v, hF, hv => by
   have F := hF j (List.mem_cons_self ..)
   have A := ans_up F.w F.a hv (f := frAt L j) (d := d)
   unfold rootF
   by_cases c : (upR (frAt L j) d v).2 = 0
   · rw [if_pos c]; exact root_w js _ (fun k hk => hF k (List.mem_cons_of_mem _ hk)) A.w
   · rw [if_neg c]; exact A.w
theorem rootw_any {L : List Fr} {i : Int} {d : Nat} {v : V3} (hW : FsW L) (hd : d < 18446744073709551616) (hv : W3 v) : W3 (rootR L i d v).1 := by
 unfold rootR
 by_cases c : readyF L i (witB g24 d) = 0
 · rw [if_pos c]
   obtain ⟨c0, i1, i2, tt⟩ := readyF_zero c
   have ok := FsOk.of hW c0
   have WL := way_lt ok L.length i i2 i2
   by_cases e : (addR v z3).2 = 0
   · rw [if_pos e]
     refine root_w (way L i) _ (fun j hj => ?_) (ans_add hv z3_w).w
     have hl := (WL j hj).1
     have k := ok.ok j hl
     exact ⟨ok.fw hl, k.ax0, k.ax1, ang_a (ok.fw hl) hd k.ph k.rt tt⟩
   · rw [if_neg e]; exact (ans_add hv z3_w).w
 · rw [if_neg c]; exact z3_w
end Go.Proofs.YtacinenddnfcbaaGreat

namespace Go.Proofs.YtacinenddnfcbaaGreat
open Go.ChangeShapes Go.WideShapes Go.ChangeAt Go.RowKit Ieee.Own Pol Fma

def pw : Nat → Rat
 | 0 => 1
 | n + 1 => 2 * pw n
end Go.Proofs.YtacinenddnfcbaaGreat

namespace Go.Proofs.YtacinenddnfcbaaGreat
open Go.ChangeShapes Go.WideShapes Go.ChangeAt Go.RowKit Ieee.Own Pol Fma

theorem sstep {u s S x X R r e s' : Rat} (u0 : 0 ≤ u) (u1 : 1000000 * u ≤ 1) (R0 : 0 ≤ R) (r0 : 0 ≤ r) (e14 : 14 ≤ e) (e1 : e ≤ 100) (h : mag (s - S) ≤ e * (u * R)) (hS : mag S ≤ R) (hx : mag (x - X) ≤ 14 * (u * r)) (hX : mag X ≤ r) (hr : Rd u 0 s' (s + x)) :
 mag (s' - (S + X)) ≤ (e + 2) * (u * (R + r)) ∧ mag (S + X) ≤ R + r := by
 have W0 := Rat.mul_nonneg u0 R0
 have w0 := Rat.mul_nonneg u0 r0
 have Z0 := Rat.mul_nonneg u0 W0
 have z0 := Rat.mul_nonneg u0 w0
 have Z1 := Rat.mul_nonneg (show 0 ≤ 1 - 1000000 * u by grind) W0
 have z1 := Rat.mul_nonneg (show 0 ≤ 1 - 1000000 * u by grind) w0
 have K1 := Rat.mul_nonneg (show 0 ≤ 100 - e by grind) Z0
 have L1 := Rat.mul_nonneg (show 0 ≤ e - 14 by grind) w0
 have sb := mag_add hS h
 rw [show S + (s - S) = s by grind] at sb
 have xb := mag_add hX hx
 rw [show X + (x - X) = x by grind] at xb
 have n := hr _ (mag_add sb xb)
 have q := mag_add n (mag_add h hx)
 rw [show s' - (s + x) + (s - S + (x - X)) = s' - (S + X) by grind] at q
 refine ⟨?_, mag_add hS hX⟩
 refine Rat.le_trans q ?_
 have e2 : u * (R + e * (u * R) + (r + 14 * (u * r))) + 0 + (e * (u * R) + 14 * (u * r)) = u * R + e * (u * (u * R)) + u * r + 14 * (u * (u * r)) + e * (u * R) + 14 * (u * r) := by grind
 have e3 : (e + 2) * (u * (R + r)) = e * (u * R) + 2 * (u * R) + e * (u * r) + 2 * (u * r) := by grind
 have e4 : (1 - 1000000 * u) * (u * R) = u * R - 1000000 * (u * (u * R)) := by grind
 have e5 : (1 - 1000000 * u) * (u * r) = u * r - 1000000 * (u * (u * r)) := by grind
 have e6 : (100 - e) * (u * (u * R)) = 100 * (u * (u * R)) - e * (u * (u * R)) := by grind
 have e7 : (e - 14) * (u * r) = e * (u * r) - 14 * (u * r) := by grind
 rw [e2, e3]
 rw [e4] at Z1
 rw [e5] at z1
 rw [e6] at K1
 rw [e7] at L1
 generalize e * (u * (u * R)) = A at *
 generalize e * (u * R) = B at *
 generalize e * (u * r) = C at *
 generalize u * (u * R) = Z at *
 generalize u * (u * r) = z at *
 generalize u * R = W at *
 generalize u * r = w at *
 grind
theorem sstay {u s S R r e : Rat} (u0 : 0 ≤ u) (R0 : 0 ≤ R) (r0 : 0 ≤ r) (e0 : 0 ≤ e) (h : mag (s - S) ≤ e * (u * R)) (hS : mag S ≤ R) : mag (s - S) ≤ (e + 2) * (u * (R + r)) ∧ mag S ≤ R + r := by
 have W0 := Rat.mul_nonneg u0 R0
 have w0 := Rat.mul_nonneg u0 r0
 have E0 := Rat.mul_nonneg e0 w0
 have e3 : (e + 2) * (u * (R + r)) = e * (u * R) + 2 * (u * R) + e * (u * r) + 2 * (u * r) := by grind
 rw [e3]
 exact ⟨by grind, by grind⟩
def eN : Nat → Rat
 | 0 => 14
 | n + 1 => eN n + 2
theorem eN_bd : ∀ n, n < 40 → 14 ≤ eN n ∧ eN n ≤ 100 := by decide +kernel
structure Nr (p : V3) (P : R3) (R e : Rat) : Prop where
 x : mag (Q p.1 - P.1) ≤ e * (uR * R)
 mx : mag P.1 ≤ R
 y : mag (Q p.2.1 - P.2.1) ≤ e * (uR * R)
 my : mag P.2.1 ≤ R
 z : mag (Q p.2.2 - P.2.2) ≤ e * (uR * R)
 mz : mag P.2.2 ≤ R
theorem Nr.put {p : V3} {P : R3} {R : Rat} {i n : Nat} (h : Nr p P R (eN n)) (S : Sm p i) (hi : i < 64) (hn : n < 40) (R0 : 0 ≤ R) (a : Int) {x : Nat} {X r : Rat} (r0 : 0 ≤ r) (fx : FinW x) (bx : (V x).natAbs ≤ 2 ^ 1131) (hx : mag (Q x - X) ≤ 14 * (uR * r)) (hX : mag X ≤ r) :
 Nr (putA p a x) (putQ P a X) (R + r) (eN (n + 1)) := by
 obtain ⟨e14, e1⟩ := eN_bd n hn
 have st : ∀ {s : Nat} {T : Rat}, FinW s → (V s).natAbs ≤ 2 ^ (1131 + i) → mag (Q s - T) ≤ eN n * (uR * R) → mag T ≤ R → mag (Q (aX s x) - (T + X)) ≤ eN (n + 1) * (uR * (R + r)) ∧ mag (T + X) ≤ R + r := fun fs bs h1 h2 => by
  obtain ⟨-, -, v, -⟩ := add_sm hi fs bs fx bx
  exact sstep uR0 uR1 R0 r0 e14 e1 h1 h2 hx hX (rd_of (add_rel v))
 have sy : ∀ {s : Nat} {T : Rat}, mag (Q s - T) ≤ eN n * (uR * R) → mag T ≤ R → mag (Q s - T) ≤ eN (n + 1) * (uR * (R + r)) ∧ mag T ≤ R + r := fun h1 h2 => sstay uR0 R0 r0 (by grind) h1 h2
 have y1 := sy h.x h.mx
 have y2 := sy h.y h.my
 have y3 := sy h.z h.mz
 unfold putA putQ
 by_cases h0 : a = 0
 · rw [if_pos h0, if_pos h0]
   have t := st S.f1 S.b1 h.x h.mx
   exact ⟨t.1, t.2, y2.1, y2.2, y3.1, y3.2⟩
 · rw [if_neg h0, if_neg h0]
   by_cases h1 : a = 1
   · rw [if_pos h1, if_pos h1]
     have t := st S.f2 S.b2 h.y h.my
     exact ⟨y1.1, y1.2, t.1, t.2, y3.1, y3.2⟩
   · rw [if_neg h1, if_neg h1]
     have t := st S.f3 S.b3 h.z h.mz
     exact ⟨y1.1, y1.2, y2.1, y2.2, t.1, t.2⟩
end Go.Proofs.YtacinenddnfcbaaGreat

namespace Go.Proofs.YtacinenddnfcbaaGreat
open Go.ChangeShapes Go.WideShapes Go.ChangeAt Go.RowKit Go.Deep Ieee.Own

theorem array5 {α : Type} {cs : List α} (h : cs.length = 5) : ∃ c0 c1 c2 c3 c4, cs = [c0, c1, c2, c3, c4] := by
 match cs, h with
 | [c0, c1, c2, c3, c4], _ => exact ⟨c0, c1, c2, c3, c4, rfl⟩
theorem wv_cells {H : Type} {enc : TypeId × Value → H} {W : World} (n : Nat) (cs : List Value) (y : DataW H × List MemPlace) (hl : cs.length = 5)
 (h : DataW.trod enc Tryz.prog W 0 (fun _ => true) true n 115 cs = some y) : ∃ f : Wv, cs = wvC f ∧ WvW f := by
 obtain ⟨c0, c1, c2, c3, c4, rfl⟩ := array5 hl
 obtain ⟨xs, n', -, -, -, hx0, hf⟩ := DataW.trod_struct Tryz.underlying115 h
 have e1 : Tryz.prog.cellsOf 3 = 1 := by kernel_rfl
 have e2 : Tryz.prog.cellsOf 22 = 1 := by kernel_rfl
 have key : ∀ {t : TypeId} {k m : Nat} {cs' : List Value} {z : Option (DataW H × List MemPlace)}, Tryz.prog.cellsOf t = m → (([c0, c1, c2, c3, c4].drop k).take m) = cs' → m ≤ cs'.length → 0 < m → z = DataW.trod enc Tryz.prog W 0 (fun _ => true) true n' t (([c0, c1, c2, c3, c4].drop k).take (Tryz.prog.cellsOf t)) → (∃ q, z = some q) → ∃ q, DataW.trod enc Tryz.prog W 0 (fun _ => true) true n' t cs' = some q := fun h1 h2 _ _ h3 h4 => by
  rw [h1, h2] at h3
  obtain ⟨q, hq⟩ := h4
  exact ⟨q, by rw [← h3, hq]⟩
 have hx : xs.length = 5 := hx0
 have g0 := hf 0 _ rfl
 have g1 := hf 1 _ rfl
 have g2 := hf 2 _ rfl
 have g3 := hf 3 _ rfl
 have g4 := hf 4 _ rfl
 obtain ⟨q0, h0⟩ := key (k := 0) (m := 1) (cs' := [c0]) e1 rfl (by simp) (by omega) g0.symm ⟨_, List.getElem?_eq_getElem (by omega)⟩
 obtain ⟨q1, h1⟩ := key (k := 1) (m := 1) (cs' := [c1]) e1 rfl (by simp) (by omega) g1.symm ⟨_, List.getElem?_eq_getElem (by omega)⟩
 obtain ⟨q2, h2⟩ := key (k := 2) (m := 1) (cs' := [c2]) e2 rfl (by simp) (by omega) g2.symm ⟨_, List.getElem?_eq_getElem (by omega)⟩
 obtain ⟨q3, h3⟩ := key (k := 3) (m := 1) (cs' := [c3]) e2 rfl (by simp) (by omega) g3.symm ⟨_, List.getElem?_eq_getElem (by omega)⟩
 obtain ⟨q4, h4⟩ := key (k := 4) (m := 1) (cs' := [c4]) e2 rfl (by simp) (by omega) g4.symm ⟨_, List.getElem?_eq_getElem (by omega)⟩
 obtain ⟨a, ha, -⟩ := DataW.trod_int Tryz.underlying3 h0
 obtain ⟨b, hb, -⟩ := DataW.trod_int Tryz.underlying3 h1
 simp only [List.cons.injEq, and_true] at ha hb
 subst ha hb
 obtain ⟨p, rfl, hp⟩ := float_cell Tryz.underlying22 h2
 obtain ⟨q, rfl, hq⟩ := float_cell Tryz.underlying22 h3
 obtain ⟨r, rfl, hr⟩ := float_cell Tryz.underlying22 h4
 exact ⟨⟨a, b, p, q, r⟩, rfl, hp, hq, hr⟩
theorem open_waves {H : Type} {enc : TypeId × Value → H} {W : World} {v : Value} {d : DataW H} {ps : List MemPlace}
 (hval : ∃ ao n c, v = .slice ao n c) (h : DataW.Trod enc Tryz.prog W 0 (fun _ => true) true 46 v d ps) :
 ∃ ao cap L, v = .slice ao (List.length L) cap ∧ L.length ≤ cap ∧ cap ≤ maxLen ∧ VAt W ao L ∧ WvsW L ∧ ((ao = none ∧ cap = 0) ∨ ((∃ a, ao = some a) ∧ ∃ es sp : List (DataW H), d = .slice es sp ∧ es.length + sp.length = cap)) := by
 obtain ⟨ao, cap, R, h1, h2, h3, h4, h5, h6⟩ := open_rows (m := 5) (fun cs => ∃ f : Wv, cs = wvC f ∧ WvW f) Tryz.underlying46 (by kernel_rfl) (by omega) (fun n cs y hl hy => wv_cells n cs y hl hy) hval h
 have : ∃ L : List Wv, R = L.map wvC ∧ WvsW L := by
  clear h1 h2 h3 h4 h6
  induction R with
  | nil => exact ⟨[], rfl, fun f hf => by cases hf⟩
  | cons r R ih =>
    obtain ⟨L, rfl, hL⟩ := ih (fun x hx => h5 x (List.mem_cons_of_mem _ hx))
    obtain ⟨⟨f, rfl, hf⟩, -⟩ := h5 r (List.mem_cons_self ..)
    exact ⟨f :: L, rfl, fun g hg => by
        rcases List.mem_cons.1 hg with rfl | hg
        · exact hf
        · exact hL g hg⟩
 obtain ⟨L, rfl, hL⟩ := this
 rw [List.length_map] at h1 h2
 exact ⟨ao, cap, L, h1, h2, h3, h4, hL, h6⟩
end Go.Proofs.YtacinenddnfcbaaGreat

namespace Go.Proofs.YtacinenddnfcbaaGreat
open Go.ChangeShapes Go.WideShapes Go.ChangeAt Go.RowKit Ieee.Own Pol Fma

theorem fn_finW {x : Nat} (h : FinW x) : FinW (fnW x) := by unfold fnW; split; exact h; exact zero_fin
end Go.Proofs.YtacinenddnfcbaaGreat

namespace Go.Proofs.YtacinenddnfcbaaGreat
open Go.ChangeShapes Go.WideShapes Go.ChangeAt Go.RowKit Ieee.Own Pol

theorem vh_fin {L : List Nat} {x : Nat} (hw : Ws32 L) (hm : mayT L = true) (hx : x < 18446744073709551616) (h1 : inM m00 x = true) : FinW (vH L x) := by
 have := (vh_ok hw hm hx h1).fin
 unfold vH
 exact bg_fin (posW_fin this)
end Go.Proofs.YtacinenddnfcbaaGreat
