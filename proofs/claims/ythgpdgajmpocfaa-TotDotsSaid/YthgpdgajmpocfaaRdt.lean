/- Proved here: what the reference's Dot and Sign answer, over the translated code. -/
import Derived.Test.YthgpdgajmpocfaaRex
import Derived.Test.YthgpdgajmpocfaaTds
import Derived.Laws.ResultCell
import Derived.Deep.MidRow
namespace Go.Proofs.Ythgpdgajmpocfaa
open Go.ChangeShapes Go.WideShapes Go.ChangeAt Go.RowKit Ieee.Own

theorem rprod_parts {a b : Nat} (ha : a < 18446744073709551616) (hb : b < 18446744073709551616) (h1 : fitB a = true) (h2 : fitB b = true) :
    ∃ Z : Int, prodI a b = Z * 2 ^ 50 ∧ (2 : Int) ^ 500 ∣ prodI a b ∧ ∀ c z ws w, Holds c w z ws →
      Calls Try.prog 62 #[.pointer (some ⟨c, 0, none⟩), .float .f64 a, .float .f64 b] w (PutPost c w (z + Z)) := by
  obtain ⟨A, i, na, i1, i2⟩ := fit_nr ha h1
  obtain ⟨B, j, nb, j1, j2⟩ := fit_nr hb h2
  obtain ⟨k, hk⟩ : ∃ k, i + j = k + 1074 := ⟨i + j - 1074, by omega⟩
  obtain ⟨u1, u2⟩ := unit_parts na nb hk (by omega)
  have hp : prodI a b = A * B * 2 ^ k := prodI_of (nr_mul na nb hk).symm
  refine ⟨A * B * 2 ^ (k - 50), by rw [hp]; exact u1, ?_, fun c z ws w H => prod_any c a b (k - 50) _ z ws w (fit_fin ha h1) (fit_fin hb h2) u2 (ex_parts na nb (by omega) (by omega) hk (by omega) (by omega)) H⟩
  rw [hp]
  exact Int.dvd_trans (pow_dvd (show 500 ≤ k by omega)) (Int.dvd_mul_left _ _)

theorem Below.setCells' {B b : Nat} (hb : B ≤ b) : ∀ (vs : List Value) (o : Nat) {u w : World}, Below B u w → Below B u (w.setCells b o vs)
  | [], _, _, _, h => h
  | v :: r, o, u, w, h => by
    rw [World.setCells]
    exact Below.setCells' hb r (o + 1) (h.setCell hb v)
theorem Holds.drew {b : Nat} {w : World} {z : Int} {ws : Nat → Nat} (H : Holds b w z ws) : Holds b w.drew z ws := ⟨H.lt, H.size, H.cell, H.free, H.val⟩

/-- the words and the number they tell -/
structure Sums (ws : Nat → Nat) (z : Int) : Prop where
  lt : ∀ i, ws i < 18446744073709551616
  val : ((2 ^ (64 * 24) : Nat) : Int) ∣ (sumW ws 24 : Int) - z
theorem Holds.sums {b : Nat} {w : World} {z : Int} {ws : Nat → Nat} (H : Holds b w z ws) : Sums ws z := ⟨H.lt, H.val⟩
theorem Sums.holds {ws : Nat → Nat} {z : Int} (S : Sums ws z) {w wr : World} (C : Copy w ws wr) : Holds w.heap.size wr z ws := ⟨S.lt, C.size, C.cell, C.free, S.val⟩

/-- what the reference's dot has done behind i products -/
structure Dotted (w : World) (L M : List Nat) (i : Nat) (wr : World) : Prop where
  old : Below w.heap.size w wr
  st : ∃ z ws, Holds (w.heap.size + 1) wr z ws ∧ z * 2 ^ 50 = (prodL (L.take i) (M.take i)).sum
  res : wr.there w.heap.size 0 24
theorem Dotted.start (w : World) (L M : List Nat) : Dotted w L M 0 ((w.alloc (.cells #[.int .u64 0, .int .u64 0, .int .u64 0, .int .u64 0, .int .u64 0, .int .u64 0, .int .u64 0, .int .u64 0, .int .u64 0, .int .u64 0, .int .u64 0, .int .u64 0, .int .u64 0, .int .u64 0, .int .u64 0, .int .u64 0, .int .u64 0, .int .u64 0, .int .u64 0, .int .u64 0, .int .u64 0, .int .u64 0, .int .u64 0, .int .u64 0] 52)).alloc (.cells #[.int .u64 0, .int .u64 0, .int .u64 0, .int .u64 0, .int .u64 0, .int .u64 0, .int .u64 0, .int .u64 0, .int .u64 0, .int .u64 0, .int .u64 0, .int .u64 0, .int .u64 0, .int .u64 0, .int .u64 0, .int .u64 0, .int .u64 0, .int .u64 0, .int .u64 0, .int .u64 0, .int .u64 0, .int .u64 0, .int .u64 0, .int .u64 0] 52)) := by
  refine ⟨((Below.refl _ w).alloc (Nat.le_refl _) _).alloc (by simp) _, ⟨0, fun _ => 0, ?_, by simp [prodL]⟩, ?_⟩
  · have H := start_holds (w.alloc (.cells #[.int .u64 0, .int .u64 0, .int .u64 0, .int .u64 0, .int .u64 0, .int .u64 0, .int .u64 0, .int .u64 0, .int .u64 0, .int .u64 0, .int .u64 0, .int .u64 0, .int .u64 0, .int .u64 0, .int .u64 0, .int .u64 0, .int .u64 0, .int .u64 0, .int .u64 0, .int .u64 0, .int .u64 0, .int .u64 0, .int .u64 0, .int .u64 0] 52))
    rw [show (w.alloc (.cells #[.int .u64 0, .int .u64 0, .int .u64 0, .int .u64 0, .int .u64 0, .int .u64 0, .int .u64 0, .int .u64 0, .int .u64 0, .int .u64 0, .int .u64 0, .int .u64 0, .int .u64 0, .int .u64 0, .int .u64 0, .int .u64 0, .int .u64 0, .int .u64 0, .int .u64 0, .int .u64 0, .int .u64 0, .int .u64 0, .int .u64 0, .int .u64 0] 52)).heap.size = w.heap.size + 1 by simp] at H
    exact H
  · intro j hj
    have H := start_holds w
    have hb : w.heap.size < (w.alloc (.cells #[.int .u64 0, .int .u64 0, .int .u64 0, .int .u64 0, .int .u64 0, .int .u64 0, .int .u64 0, .int .u64 0, .int .u64 0, .int .u64 0, .int .u64 0, .int .u64 0, .int .u64 0, .int .u64 0, .int .u64 0, .int .u64 0, .int .u64 0, .int .u64 0, .int .u64 0, .int .u64 0, .int .u64 0, .int .u64 0, .int .u64 0, .int .u64 0] 52)).heap.size := by simp
    rw [Nat.zero_add]
    refine ⟨?_, ?_⟩
    · rw [World.cell?_alloc_past _ _ _ hb, H.cell j hj]; rfl
    · rw [World.frozen?_alloc_past _ _ _ hb]; exact H.free j hj
theorem Dotted.drew {w wr : World} {L M : List Nat} {i : Nat} (S : Dotted w L M i wr) : Dotted w L M i wr.drew := by
  obtain ⟨z, ws, H, h⟩ := S.st
  exact ⟨S.old.drew, ⟨z, ws, H.drew, h⟩, S.res⟩
theorem Dotted.next {w wr : World} {L M : List Nat} {i : Nat} (S : Dotted w L M i wr) (hw : Words L) (hw' : Words M) (hf : allFit L = true) (hf' : allFit M = true) (h : i < L.length) (h' : i < M.length) :
    Calls Try.prog 62 #[.pointer (some ⟨w.heap.size + 1, 0, none⟩), .float .f64 (L.getD i 0), .float .f64 (M.getD i 0)] wr fun e w' => e = .returned (.tuple #[]) ∧ Dotted w L M (i + 1) w' := by
  obtain ⟨z, ws, H, hz⟩ := S.st
  obtain ⟨Z, hZ, -, C⟩ := rprod_parts (hw.at h) (hw'.at h') (allFit_at.1 hf i h) (allFit_at.1 hf' i h')
  refine (C _ z ws wr H).mono ?_
  rintro e w' ⟨rfl, ⟨ns, H'⟩, hs⟩
  refine ⟨rfl, S.old.trans (hs.1.mono (by omega)), ⟨z + Z, ns, H', ?_⟩, ?_⟩
  · rw [prodL_take_succ h h', Int.add_mul, hz, hZ]
  · intro j hj
    obtain ⟨r1, r2⟩ := S.res j hj
    exact ⟨by rw [hs.1.cell (by show w.heap.size < _; omega)]; exact r1, by rw [hs.2]; exact r2⟩

theorem there_len {w : World} {b : Nat} (h : w.there b 0 24) (ws : Nat → Nat) : w.there b 0 (arrW ws).length := by rw [arrW_len]; exact h
theorem store_at {w : World} {b : Nat} (h : w.there b 0 24) (ws : Nat → Nat) : (storeCells ⟨b, 0, none⟩ (arrW ws)).run Try.prog w = .ok () (w.setCells b 0 (arrW ws)) := by
  have h' := there_len h ws
  have := run_storeCells_cells (P := Try.prog) b 0 (arrW ws) 0 w (fun j hj => by simpa using (h' j hj).1) (fun j hj => by simpa using (h' j hj).2)
    (fun v hv => (Array.all_eq_true_iff_forall_mem.1 (arrW_one ws)) v (by simpa using hv))
  simpa using this
theorem load_at {w : World} {b : Nat} (h : w.there b 0 24) (ws : Nat → Nat) : (loadVar 52 ⟨b, 0, none⟩).run Try.prog (w.setCells b 0 (arrW ws)) = .ok (.agg (arrW ws).toArray) (w.setCells b 0 (arrW ws)) :=
  run_loadVar_mid (P := Try.prog) _ b 0 52 (arrW ws) _ (World.rangeAt_setCells_same w b 0 _ (there_len h ws)) Try.underlying52 rfl (by rw [arrW_len]; exact sizeAcc)

/-- what dot answers: words, and an error -/
def DotBack (w : World) (er : Int) (s : Int) (e : Ending) (w' : World) : Prop :=
  (∃ z ws, e = .returned (.tuple #[.agg (arrW ws).toArray, .int .i64 er]) ∧ Sums ws z ∧ (er = 0 → z * 2 ^ 50 = s)) ∧ Below w.heap.size w w'

set_option maxHeartbeats 2000000 in
theorem rdots_run (ao bo : Option Addr) (cap cap' n m : Nat) (L M : List Nat) (w : World) (hn : n = L.length) (hm : m = M.length) (hnm : n ≤ 4611686018427387904) (hmm : m ≤ 4611686018427387904) (hw : Words L) (hw' : Words M) (ha : At w ao L) (hb : At w bo M) :
    Calls Try.prog 45 #[.slice ao n cap, .slice bo m cap'] w (DotBack w (errB L M) (prodL L M).sum) := by
  have K1 := fun x h => rcheck_run ao cap n L x hn hnm hw h
  have K2 := fun x h => rcheck_run bo cap' m M x hm hmm hw' h
  have D0 := Dotted.start w L M
  have hlt := ha.lt
  have hlt' := hb.lt
  have hE : errB L M = if errL L ≠ 0 then errL L else if errL M ≠ 0 then errL M else if n ≠ m then 1 else 0 := by unfold errB; rw [hn, hm]
  by_cases h1 : errL L = 0
  · by_cases h2 : errL M = 0
    · by_cases h3 : n = m
      · rw [h1, h2, if_neg (by simp), if_neg (by simp), if_neg (by simpa using h3)] at hE
        subst h3
        obtain ⟨hl, hf⟩ := errL_zero h1
        obtain ⟨hl', hf'⟩ := errL_zero h2
        have hadd : Hid (∀ k wr, k < L.length → Dotted w L M k wr → Calls Try.prog 62 #[.pointer (some ⟨w.heap.size + 1, 0, none⟩), .float .f64 (L.getD k 0), .float .f64 (M.getD k 0)] wr fun e w' => e = .returned (.tuple #[]) ∧ Dotted w L M (k + 1) w') :=
          fun k wr hk G => G.next hw hw' hf hf' hk (by omega)
        rw [hE]
        rw [h1] at K1
        rw [h2] at K2
        have hn256 : n ≤ 256 := by omega
        have hn' : Hid (M.length = L.length) := by show _ = _; omega
        replace hn := Lib.hid hn
        replace ha := Lib.hid ha
        replace hb := Lib.hid hb
        replace hlt := Lib.hid hlt
        replace hlt' := Lib.hid hlt'
        replace D0 := Lib.hid D0
        replace K1 := Lib.hid K1
        replace K2 := Lib.hid K2
        clear hE h1 h2 hl hf hl' hf' hm hmm hw hw'
        go_enter Try.func45, Try.ntmps45
        go_wp2_with fail
        have S := D0.out
        clear D0
        generalize hwr : (w.alloc (.cells #[.int .u64 0, .int .u64 0, .int .u64 0, .int .u64 0, .int .u64 0, .int .u64 0, .int .u64 0, .int .u64 0, .int .u64 0, .int .u64 0, .int .u64 0, .int .u64 0, .int .u64 0, .int .u64 0, .int .u64 0, .int .u64 0, .int .u64 0, .int .u64 0, .int .u64 0, .int .u64 0, .int .u64 0, .int .u64 0, .int .u64 0, .int .u64 0] 52)).alloc (.cells #[.int .u64 0, .int .u64 0, .int .u64 0, .int .u64 0, .int .u64 0, .int .u64 0, .int .u64 0, .int .u64 0, .int .u64 0, .int .u64 0, .int .u64 0, .int .u64 0, .int .u64 0, .int .u64 0, .int .u64 0, .int .u64 0, .int .u64 0, .int .u64 0, .int .u64 0, .int .u64 0, .int .u64 0, .int .u64 0, .int .u64 0, .int .u64 0] 52) = wr at *
        clear hwr
        refine (K1.out wr (ha.out.later S.old hlt.out)).mono ?_
        rintro _ _ ⟨rfl, rfl⟩
        have C2 := K2.out wr (hb.out.later S.old hlt'.out)
        have S0 := Lib.hid S
        clear S K1 K2
        go_wp2_with (go_at_call 34; ((with_reducible refine C2.mono ?_); rintro e w' ⟨rfl, rfl⟩))
        go_loopw [9] (fun iv wr => ∃ i : Nat, i ≤ n ∧ iv = .int .i64 i ∧ Dotted w L M i wr) (fun iv _ => n - (intOf iv).toNat)
        case atStart => exact ⟨0, Nat.zero_le _, rfl, S0.out⟩
        case round =>
          clear S0 C2
          obtain ⟨i, hi, rfl, S⟩ := hrel
          by_cases hlt1 : i < n
          · have hil : i < L.length := by have := hn.out; omega
            have him : i < M.length := by have := hn'.out; omega
            obtain ⟨b, o, rfl, hc⟩ := (ha.out.later S.old hlt.out) i hil
            obtain ⟨b', o', rfl, hc'⟩ := (hb.out.later S.old hlt'.out) i him
            have C := hadd.out i wr.drew hil S.drew
            obtain ⟨u, hu⟩ : ∃ u, u = L.getD i 0 := ⟨_, rfl⟩
            obtain ⟨v, hv⟩ : ∃ v, v = M.getD i 0 := ⟨_, rfl⟩
            rw [← hu] at hc C
            rw [← hv] at hc' C
            clear hu hv hil him S
            go_wp2_with fail
            go_region_with ((go_at_call 62; ((with_reducible refine C.mono ?_); rintro en w2 ⟨rfl, S2⟩; replace S2 := Lib.hid S2)))
            all_goals
              go_wp2_with fail
              go_roundw
              case rel => exact ⟨i + 1, hlt1, by go_num, S2.out⟩
              case measure => simp [intOf]; omega
          · obtain rfl : i = L.length := by have := hn.out; omega
            obtain ⟨z, ws, H, hz⟩ := S.st
            rw [List.take_length, ← hn'.out, List.take_length] at hz
            have hrg := H.range
            have hst := store_at S.res ws
            have hld := load_at S.res ws
            have B2 := Lib.hid (Below.setCells' (Nat.le_refl _) (arrW ws) 0 S.old)
            have F := Lib.hid (And.intro H.sums hz)
            clear H S hz
            generalize wr.setCells w.heap.size 0 (arrW ws) = wy at *
            go_wp2_with (refine wpList_load_mid rfl 52 _ rfl _ 0 rfl (arrW ws) _ hrg Try.underlying52 rfl (by rw [arrW_len]; exact sizeAcc) ?_)
            (try simp only [Exit.inBlock, Exit.then])
            refine bodyPost_ret (v := .tuple #[.agg (arrW ws).toArray, .int .i64 0]) ?_ rfl ?_
            · rw [results_cell_tmp rfl]
              simp [asAddr, Result.andThen, hld]
            · exact ⟨⟨z, ws, rfl, F.out.1, fun _ => F.out.2⟩, B2.out⟩
      · rw [h1, h2, if_neg (by simp), if_neg (by simp), if_pos h3] at hE
        rw [hE]
        rw [h1] at K1
        rw [h2] at K2
        have t : ((n : Int) != (m : Int)) = true := by simp; omega
        have te : ∀ s z : Int, ((1 : Int) = 0 → z * 2 ^ 50 = s) := fun s z h => by omega
        replace te := Lib.hid te
        generalize (prodL L M).sum = sm at *
        replace ha := Lib.hid ha
        replace hb := Lib.hid hb
        replace hlt := Lib.hid hlt
        replace hlt' := Lib.hid hlt'
        replace D0 := Lib.hid D0
        replace K1 := Lib.hid K1
        replace K2 := Lib.hid K2
        clear hE h1 h2 h3 hn hm hw hw'
        go_enter Try.func45, Try.ntmps45
        go_wp2_with fail
        have S := D0.out
        clear D0
        generalize hwr : (w.alloc (.cells #[.int .u64 0, .int .u64 0, .int .u64 0, .int .u64 0, .int .u64 0, .int .u64 0, .int .u64 0, .int .u64 0, .int .u64 0, .int .u64 0, .int .u64 0, .int .u64 0, .int .u64 0, .int .u64 0, .int .u64 0, .int .u64 0, .int .u64 0, .int .u64 0, .int .u64 0, .int .u64 0, .int .u64 0, .int .u64 0, .int .u64 0, .int .u64 0] 52)).alloc (.cells #[.int .u64 0, .int .u64 0, .int .u64 0, .int .u64 0, .int .u64 0, .int .u64 0, .int .u64 0, .int .u64 0, .int .u64 0, .int .u64 0, .int .u64 0, .int .u64 0, .int .u64 0, .int .u64 0, .int .u64 0, .int .u64 0, .int .u64 0, .int .u64 0, .int .u64 0, .int .u64 0, .int .u64 0, .int .u64 0, .int .u64 0, .int .u64 0] 52) = wr at *
        clear hwr
        refine (K1.out wr (ha.out.later S.old hlt.out)).mono ?_
        rintro _ _ ⟨rfl, rfl⟩
        have C2 := K2.out wr (hb.out.later S.old hlt'.out)
        obtain ⟨z, ws, H, hz⟩ := S.st
        have hrg := H.range
        have hst := store_at S.res ws
        have hld := load_at S.res ws
        have B2 := Lib.hid (Below.setCells' (Nat.le_refl _) (arrW ws) 0 S.old)
        have F := Lib.hid H.sums
        clear H S hz K1 K2
        generalize wr.setCells w.heap.size 0 (arrW ws) = wy at *
        go_wp2_with (first | (go_at_call 34; ((with_reducible refine C2.mono ?_); rintro e w' ⟨rfl, rfl⟩)) | (refine wpList_load_mid rfl 52 _ rfl _ 0 rfl (arrW ws) _ hrg Try.underlying52 rfl (by rw [arrW_len]; exact sizeAcc) ?_))
        (try simp only [Exit.inBlock, Exit.then])
        refine bodyPost_ret (v := .tuple #[.agg (arrW ws).toArray, .int .i64 1]) ?_ rfl ?_
        · rw [results_cell_tmp rfl]
          simp [asAddr, Result.andThen, hld]
        · exact ⟨⟨z, ws, rfl, F.out, te.out _ _⟩, B2.out⟩
    · rw [h1, if_neg (by simp), if_pos h2] at hE
      rw [hE]
      rw [h1] at K1
      have t : (errL M != 0) = true := by simpa using h2
      have te : ∀ s z : Int, (errL M = 0 → z * 2 ^ 50 = s) := fun s z h => absurd h h2
      replace te := Lib.hid te
      generalize (prodL L M).sum = sm at *
      replace ha := Lib.hid ha
      replace hb := Lib.hid hb
      replace hlt := Lib.hid hlt
      replace hlt' := Lib.hid hlt'
      replace D0 := Lib.hid D0
      replace K1 := Lib.hid K1
      replace K2 := Lib.hid K2
      generalize errL M = er at *
      clear hE h1 h2 hn hm hw hw'
      go_enter Try.func45, Try.ntmps45
      go_wp2_with fail
      have S := D0.out
      clear D0
      generalize hwr : (w.alloc (.cells #[.int .u64 0, .int .u64 0, .int .u64 0, .int .u64 0, .int .u64 0, .int .u64 0, .int .u64 0, .int .u64 0, .int .u64 0, .int .u64 0, .int .u64 0, .int .u64 0, .int .u64 0, .int .u64 0, .int .u64 0, .int .u64 0, .int .u64 0, .int .u64 0, .int .u64 0, .int .u64 0, .int .u64 0, .int .u64 0, .int .u64 0, .int .u64 0] 52)).alloc (.cells #[.int .u64 0, .int .u64 0, .int .u64 0, .int .u64 0, .int .u64 0, .int .u64 0, .int .u64 0, .int .u64 0, .int .u64 0, .int .u64 0, .int .u64 0, .int .u64 0, .int .u64 0, .int .u64 0, .int .u64 0, .int .u64 0, .int .u64 0, .int .u64 0, .int .u64 0, .int .u64 0, .int .u64 0, .int .u64 0, .int .u64 0, .int .u64 0] 52) = wr at *
      clear hwr
      refine (K1.out wr (ha.out.later S.old hlt.out)).mono ?_
      rintro _ _ ⟨rfl, rfl⟩
      have C2 := K2.out wr (hb.out.later S.old hlt'.out)
      obtain ⟨z, ws, H, hz⟩ := S.st
      have hrg := H.range
      have hst := store_at S.res ws
      have hld := load_at S.res ws
      have B2 := Lib.hid (Below.setCells' (Nat.le_refl _) (arrW ws) 0 S.old)
      have F := Lib.hid H.sums
      clear H S hz K1 K2
      generalize wr.setCells w.heap.size 0 (arrW ws) = wy at *
      go_wp2_with (first | (go_at_call 34; ((with_reducible refine C2.mono ?_); rintro e w' ⟨rfl, rfl⟩)) | (refine wpList_load_mid rfl 52 _ rfl _ 0 rfl (arrW ws) _ hrg Try.underlying52 rfl (by rw [arrW_len]; exact sizeAcc) ?_))
      (try simp only [Exit.inBlock, Exit.then])
      refine bodyPost_ret (v := .tuple #[.agg (arrW ws).toArray, .int .i64 er]) ?_ rfl ?_
      · rw [results_cell_tmp rfl]
        simp [asAddr, Result.andThen, hld]
      · exact ⟨⟨z, ws, rfl, F.out, te.out _ _⟩, B2.out⟩
  · rw [if_pos h1] at hE
    rw [hE]
    have t : (errL L != 0) = true := by simpa using h1
    have te : ∀ s z : Int, (errL L = 0 → z * 2 ^ 50 = s) := fun s z h => absurd h h1
    replace te := Lib.hid te
    generalize (prodL L M).sum = sm at *
    replace ha := Lib.hid ha
    replace hb := Lib.hid hb
    replace hlt := Lib.hid hlt
    replace hlt' := Lib.hid hlt'
    replace D0 := Lib.hid D0
    replace K1 := Lib.hid K1
    replace K2 := Lib.hid K2
    generalize errL L = er at *
    clear hE h1 hn hm hw hw'
    go_enter Try.func45, Try.ntmps45
    go_wp2_with fail
    have S := D0.out
    clear D0
    generalize hwr : (w.alloc (.cells #[.int .u64 0, .int .u64 0, .int .u64 0, .int .u64 0, .int .u64 0, .int .u64 0, .int .u64 0, .int .u64 0, .int .u64 0, .int .u64 0, .int .u64 0, .int .u64 0, .int .u64 0, .int .u64 0, .int .u64 0, .int .u64 0, .int .u64 0, .int .u64 0, .int .u64 0, .int .u64 0, .int .u64 0, .int .u64 0, .int .u64 0, .int .u64 0] 52)).alloc (.cells #[.int .u64 0, .int .u64 0, .int .u64 0, .int .u64 0, .int .u64 0, .int .u64 0, .int .u64 0, .int .u64 0, .int .u64 0, .int .u64 0, .int .u64 0, .int .u64 0, .int .u64 0, .int .u64 0, .int .u64 0, .int .u64 0, .int .u64 0, .int .u64 0, .int .u64 0, .int .u64 0, .int .u64 0, .int .u64 0, .int .u64 0, .int .u64 0] 52) = wr at *
    clear hwr
    refine (K1.out wr (ha.out.later S.old hlt.out)).mono ?_
    rintro _ _ ⟨rfl, rfl⟩
    have C2 := K2.out wr (hb.out.later S.old hlt'.out)
    obtain ⟨z, ws, H, hz⟩ := S.st
    have hrg := H.range
    have hst := store_at S.res ws
    have hld := load_at S.res ws
    have B2 := Lib.hid (Below.setCells' (Nat.le_refl _) (arrW ws) 0 S.old)
    have F := Lib.hid H.sums
    clear H S hz K1 K2
    generalize wr.setCells w.heap.size 0 (arrW ws) = wy at *
    go_wp2_with (first | (go_at_call 34; ((with_reducible refine C2.mono ?_); rintro e w' ⟨rfl, rfl⟩)) | (refine wpList_load_mid rfl 52 _ rfl _ 0 rfl (arrW ws) _ hrg Try.underlying52 rfl (by rw [arrW_len]; exact sizeAcc) ?_))
    (try simp only [Exit.inBlock, Exit.then])
    refine bodyPost_ret (v := .tuple #[.agg (arrW ws).toArray, .int .i64 er]) ?_ rfl ?_
    · rw [results_cell_tmp rfl]
      simp [asAddr, Result.andThen, hld]
    · exact ⟨⟨z, ws, rfl, F.out, te.out _ _⟩, B2.out⟩

/-- a long sum of products, and what is known of it -/
theorem prodL_dvd {L M : List Nat} (hw : Words L) (hw' : Words M) (hf : allFit L = true) (hf' : allFit M = true) : (2 : Int) ^ 500 ∣ (prodL L M).sum := by
  refine sum_dvd ?_
  intro p hp
  unfold prodL at hp
  obtain ⟨i, hi, rfl⟩ := List.mem_iff_getElem.1 hp
  simp only [List.length_zipWith] at hi
  rw [List.getElem_zipWith]
  have m1 : L[i]'(by omega) ∈ L := List.getElem_mem _
  have m2 : M[i]'(by omega) ∈ M := List.getElem_mem _
  obtain ⟨_, _, hd, _⟩ := rprod_parts (hw _ m1) (hw' _ m2) (List.all_eq_true.1 hf _ m1) (List.all_eq_true.1 hf' _ m2)
  exact hd
theorem dot_mid {L M : List Nat} (hw : Words L) (hw' : Words M) (h0 : errB L M = 0) {z : Int} (hz : z * 2 ^ 50 = (prodL L M).sum) : Mid z := by
  obtain ⟨e1, e2, e3⟩ := errB_zero h0
  obtain ⟨hl, hf⟩ := errL_zero e1
  obtain ⟨hl', hf'⟩ := errL_zero e2
  have hb := prodL_bound hw hw' hf hf' hl L.length
  rw [List.take_length, e3, List.take_length] at hb
  exact mid_of (k := 1487) hz (prodL_dvd hw hw' hf hf') hb (by decide)
theorem Mid.lt {z : Int} (h : Mid z) : z.natAbs < 2 ^ 1535 := by
  rcases h with rfl | ⟨-, h⟩
  · exact Nat.two_pow_pos 1535
  · exact Nat.lt_of_lt_of_le h (two_le (a := 1501) (b := 1535) (by decide))
theorem signI_scale (z : Int) : signI (z * 2 ^ 50) = signI z := by
  unfold signI
  have hp : (0 : Int) < 2 ^ 50 := by decide
  by_cases h1 : z < 0
  · rw [if_pos h1, if_pos (Int.mul_neg_of_neg_of_pos h1 hp)]
  · by_cases h2 : z = 0
    · subst h2; rfl
    · have h3 : 0 < z * 2 ^ 50 := Int.mul_pos (by omega) hp
      rw [if_neg h1, if_neg h2, if_neg (by omega), if_neg (by omega)]

set_option maxHeartbeats 1000000 in
theorem rdot_run (ao bo : Option Addr) (cap cap' n m : Nat) (L M : List Nat) (w : World) (hn : n = L.length) (hm : m = M.length) (hnm : n ≤ 4611686018427387904) (hmm : m ≤ 4611686018427387904) (hw : Words L) (hw' : Words M) (ha : At w ao L) (hb : At w bo M) :
    Calls Try.prog 25 #[.slice ao n cap, .slice bo m cap'] w fun e w' => (∃ r, e = .returned (fe r (errB L M)) ∧ DotIs L M r) ∧ Below w.heap.size w w' := by
  have D := rdots_run ao bo cap cap' n m L M w hn hm hnm hmm hw hw' ha hb
  by_cases h0 : errB L M = 0
  · have hE : Hid (∀ r, Near (prodL L M).sum r → DotIs L M r) := fun r hr => ⟨fun _ => hr, fun h => absurd h0 h⟩
    have hM : Hid (∀ z : Int, z * 2 ^ 50 = (prodL L M).sum → Mid z) := fun z hz => dot_mid hw hw' h0 hz
    rw [h0] at D ⊢
    generalize (prodL L M).sum = sm at *
    clear h0 hn hm hnm hmm hw hw' ha hb
    go_enter Try.func25, Try.ntmps25
    go_wp2_with fail
    refine D.mono ?_
    rintro _ w1 ⟨⟨z, ws, rfl, S, hz⟩, hb1⟩
    have hsn := store_new w1 ws
    have R := Lib.hid (round_any _ z ws _ (S.holds (Copy.start w1 ws)) (hM.out z (hz rfl)))
    have hbc := (Copy.start w1 ws).old
    generalize w1.alloc (.cells (arrW ws).toArray 52) = wr at *
    have B2 := Lib.hid (hb1.trans (hbc.mono hb1.size))
    replace hz := Lib.hid (hz rfl)
    clear D S hb1 hbc
    go_wp2_with fail
    refine R.out.mono ?_
    rintro _ w2 ⟨⟨r, rfl, hr⟩, hb2⟩
    rw [hz.out] at hr
    replace hr := Lib.hid hr
    have B3 := Lib.hid (B2.out.trans (hb2.mono B2.out.size))
    clear R hb2
    go_wp2_with fail
    go_ret2
    exact ⟨⟨r, rfl, hE.out r hr.out⟩, B3.out⟩
  · have hE : Hid (DotIs L M 0) := ⟨fun h => absurd h h0, fun _ => rfl⟩
    have t : (errB L M != 0) = true := by simpa using h0
    generalize errB L M = er at *
    generalize (prodL L M).sum = sm at *
    clear h0 hn hm hnm hmm hw hw' ha hb
    go_enter Try.func25, Try.ntmps25
    go_wp2_with fail
    refine D.mono ?_
    rintro _ w1 ⟨⟨z, ws, rfl, S, hz⟩, hb1⟩
    have hsn := store_new w1 ws
    have hbc := (Copy.start w1 ws).old
    generalize w1.alloc (.cells (arrW ws).toArray 52) = wr at *
    have B2 := Lib.hid (hb1.trans (hbc.mono hb1.size))
    clear D S hb1 hbc hz
    go_wp2_with fail
    go_ret2
    exact ⟨⟨0, rfl, hE.out⟩, B2.out⟩

set_option maxHeartbeats 1000000 in
theorem rsign_run (ao bo : Option Addr) (cap cap' n m : Nat) (L M : List Nat) (w : World) (hn : n = L.length) (hm : m = M.length) (hnm : n ≤ 4611686018427387904) (hmm : m ≤ 4611686018427387904) (hw : Words L) (hw' : Words M) (ha : At w ao L) (hb : At w bo M) :
    Calls Try.prog 27 #[.slice ao n cap, .slice bo m cap'] w fun e w' => e = .returned (ie (signS L M) (errB L M)) ∧ Below w.heap.size w w' := by
  have D := rdots_run ao bo cap cap' n m L M w hn hm hnm hmm hw hw' ha hb
  unfold signS
  by_cases h0 : errB L M = 0
  · have hM : Hid (∀ z : Int, z * 2 ^ 50 = (prodL L M).sum → Mid z) := fun z hz => dot_mid hw hw' h0 hz
    rw [if_pos h0]
    rw [h0] at D ⊢
    generalize (prodL L M).sum = sm at *
    obtain ⟨sg, hsg⟩ : ∃ s, s = signI sm := ⟨_, rfl⟩
    rw [← hsg]
    replace hsg := Lib.hid hsg
    clear h0 hn hm hnm hmm hw hw' ha hb
    go_enter Try.func27, Try.ntmps27
    go_wp2_with fail
    refine D.mono ?_
    rintro _ w1 ⟨⟨z, ws, rfl, S, hz⟩, hb1⟩
    have hsn := store_new w1 ws
    have H := S.holds (Copy.start w1 ws)
    obtain ⟨s1, s2⟩ := H.sign (hM.out z (hz rfl)).lt
    have R := Lib.hid (sign_any _ z ws _ H s1 s2)
    have hs : signI z = signI sm := by rw [← hz rfl, signI_scale]
    rw [hs, ← hsg.out] at R
    have hbc := (Copy.start w1 ws).old
    generalize w1.alloc (.cells (arrW ws).toArray 52) = wr at *
    have B2 := Lib.hid (hb1.trans (hbc.mono hb1.size))
    clear D S hb1 hbc hz s1 s2 H hs
    go_wp2_with fail
    refine R.out.mono ?_
    rintro _ _ ⟨rfl, rfl⟩
    clear R
    go_wp2_with fail
    go_ret2
    exact ⟨rfl, B2.out⟩
  · rw [if_neg h0]
    have t : (errB L M != 0) = true := by simpa using h0
    generalize errB L M = er at *
    generalize (prodL L M).sum = sm at *
    clear h0 hn hm hnm hmm hw hw' ha hb
    go_enter Try.func27, Try.ntmps27
    go_wp2_with fail
    refine D.mono ?_
    rintro _ w1 ⟨⟨z, ws, rfl, S, hz⟩, hb1⟩
    have hsn := store_new w1 ws
    have hbc := (Copy.start w1 ws).old
    generalize w1.alloc (.cells (arrW ws).toArray 52) = wr at *
    have B2 := Lib.hid (hb1.trans (hbc.mono hb1.size))
    clear D S hb1 hbc hz
    go_wp2_with fail
    go_ret2
    exact ⟨rfl, B2.out⟩
end Go.Proofs.Ythgpdgajmpocfaa
