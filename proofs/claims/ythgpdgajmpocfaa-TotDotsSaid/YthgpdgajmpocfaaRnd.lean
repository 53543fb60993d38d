/- Proved here: the reference's long sum, rounded, is the word nearest to the number that it tells, over the translated code. -/
import Derived.Test.YthgpdgajmpocfaaRndm
import Derived.Test.YthgpdgajmpocfaaTex
namespace Go.Proofs.Ythgpdgajmpocfaa
open Go.ChangeShapes Go.WideShapes Go.ChangeAt Go.RowKit Ieee.Own

/-- what the walk is not to look into -/
structure Tells (bs : Nat → Nat) (M : Nat) : Prop where
  out : sumW bs 24 = M
def arrW (ws : Nat → Nat) : List Value := (List.range 24).map fun i => .int .u64 ((ws i : Nat) : Int)
theorem arrW_len (ws : Nat → Nat) : (arrW ws).length = 24 := by simp [arrW]
theorem arrW_at (ws : Nat → Nat) {i : Nat} (h : i < 24) : (arrW ws)[i]? = some (.int .u64 ((ws i : Nat) : Int)) := by simp [arrW, h]
theorem arrW_one (ws : Nat → Nat) : (arrW ws).toArray.all (·.oneCell') = true := by
  rw [Array.all_eq_true_iff_forall_mem]
  intro v hv
  simp [arrW] at hv
  obtain ⟨i, _, rfl⟩ := hv
  rfl
theorem Holds.range {b : Nat} {w : World} {z : Int} {ws : Nat → Nat} (H : Holds b w z ws) : w.rangeAt b 0 (arrW ws) := by
  intro j v hv
  have hj : j < 24 := by
    have := (List.getElem?_eq_some_iff.1 hv).1
    rwa [arrW_len] at this
  rw [arrW_at ws hj] at hv
  rw [Nat.zero_add, H.cell j hj]; exact hv
theorem sizeAcc : (Try.prog.info? 52).map (·.size) = some 24 := by kernel_rfl

theorem store_new (w : World) (ws : Nat → Nat) : (storeCells ⟨w.heap.size, 0, none⟩ (arrW ws)).run Try.prog (w.alloc (.cells #[.int .u64 0, .int .u64 0, .int .u64 0, .int .u64 0, .int .u64 0, .int .u64 0, .int .u64 0, .int .u64 0, .int .u64 0, .int .u64 0, .int .u64 0, .int .u64 0, .int .u64 0, .int .u64 0, .int .u64 0, .int .u64 0, .int .u64 0, .int .u64 0, .int .u64 0, .int .u64 0, .int .u64 0, .int .u64 0, .int .u64 0, .int .u64 0] 52)) = .ok () (w.alloc (.cells (arrW ws).toArray 52)) :=
  run_storeCells_new (P := Try.prog) w 52 _ (arrW ws).toArray (by rw [List.size_toArray, arrW_len]; exact sizeAcc) (by simp [arrW_len]) (arrW_one ws)
/-- a number's words in a block that was made last -/
structure Copy (w : World) (bs : Nat → Nat) (wr : World) : Prop where
  old : Below w.heap.size w wr
  size : w.heap.size < wr.heap.size
  cell : ∀ i, i < 24 → wr.cell? ⟨w.heap.size, i, none⟩ = some (.int .u64 (bs i))
  free : ∀ i, i < 24 → wr.frozen? ⟨w.heap.size, i, none⟩ = false
theorem Copy.start (w : World) (bs : Nat → Nat) : Copy w bs (w.alloc (.cells (arrW bs).toArray 52)) := by
  refine ⟨(Below.refl _ w).alloc (Nat.le_refl _) _, by simp, fun i hi => ?_, fun i _ => World.frozen?_alloc_at _ _ _ _ rfl⟩
  rw [World.cell?_alloc_at _ _ _ _ rfl]
  simpa using arrW_at bs hi
theorem Copy.holds {w wr : World} {bs : Nat → Nat} {M : Nat} (C : Copy w bs wr) (hb : ∀ i, bs i < 18446744073709551616) (hM : sumW bs 24 = M) : Holds w.heap.size wr (M : Int) bs :=
  ⟨hb, C.size, C.cell, C.free, by rw [hM, Int.sub_self]; exact Int.dvd_zero _⟩

/-- half negated -/
structure Half (w : World) (ws : Nat → Nat) (i : Nat) (wr : World) : Prop where
  old : Below w.heap.size w wr
  size : w.heap.size < wr.heap.size
  done : ∀ j, j < i → wr.cell? ⟨w.heap.size, j, none⟩ = some (.int .u64 (nwN ws j))
  todo : ∀ j, i ≤ j → j < 24 → wr.cell? ⟨w.heap.size, j, none⟩ = some (.int .u64 (ws j))
  free : ∀ j, j < 24 → wr.frozen? ⟨w.heap.size, j, none⟩ = false
theorem Half.step {w wr : World} {ws : Nat → Nat} {i : Nat} (R : Half w ws i wr) (hi : i < 24) : Half w ws (i + 1) (wr.setCell ⟨w.heap.size, i, none⟩ (.int .u64 (nwN ws i))) := by
  have ne : ∀ t, t ≠ i → (⟨w.heap.size, i, none⟩ : Addr) ≠ ⟨w.heap.size, t, none⟩ := by intro t h e; cases e; exact h rfl
  refine ⟨R.old.setCell (p := ⟨w.heap.size, i, none⟩) (Nat.le_refl _) _, ?_, ?_, ?_, ?_⟩
  · have := R.size; simp [World.setCell]; exact this
  · intro t ht
    by_cases e : t = i
    · subst e; exact World.cell?_setCell_same _ _ _ (R.todo t (Nat.le_refl _) hi)
    · rw [World.cell?_setCell_other _ _ _ _ (ne t e)]; exact R.done t (by omega)
  · intro t ht ht2
    rw [World.cell?_setCell_other _ _ _ _ (ne t (by omega))]; exact R.todo t (by omega) ht2
  · intro t ht
    show (wr.setCell _ _).frozen? _ = false
    rw [World.frozen?_setCell]; exact R.free t ht

theorem shl_or {x b : Nat} (hx : x < 4611686018427387904) (hb : b ≤ 1) : bits BinOp.or IntKind.u64 ((x : Int) * 2) (b : Int) = ((2 * x + b : Nat) : Int) := by
  rw [show (x : Int) * 2 = ((x * 2 : Nat) : Int) by simp, u64_or_nat _ _ (by omega) (by omega)]
  have := Nat.two_pow_add_eq_or_of_lt (i := 1) (b := b) (by omega) x
  congr 1
  rw [show (2 : Nat) ^ 1 * x = x * 2 by omega] at this
  omega

set_option maxHeartbeats 4000000 in
theorem round_pos (k : Nat) (z : Int) (ws : Nat → Nat) (w : World) (M h : Nat) (H0 : Holds k w z ws) (hz : z.natAbs < 2 ^ 1535) (hzM : z = (M : Int)) (hM0 : M ≠ 0) (hlog : M.log2 = h) (h1 : 101 ≤ h) (h2 : h ≤ 1500) :
    Calls Try.prog 42 #[.pointer (some ⟨k, 0, none⟩)] w fun e w' => (∃ r, e = .returned (.float .f64 r) ∧ Near (z * 2 ^ 50) r) ∧ Below w.heap.size w w' := by
  obtain ⟨s1, s2⟩ := H0.sign hz
  have S := sign_any k z ws w H0 s1 s2
  have hsg : signI z = 1 := by unfold signI; rw [if_neg (by omega), if_neg (by omega)]
  rw [hsg] at S
  have hrg := H0.range
  have hM : sumW ws 24 = M := by have := (told H0.lt hz H0.val).1 (by omega); omega
  have hbs := H0.lt
  have hC := Copy.start w ws
  obtain ⟨bs, hbs'⟩ : ∃ bs, bs = ws := ⟨_, rfl⟩
  rw [← hbs'] at hM hbs hC hrg
  have hsn := store_new w bs
  replace hC := Lib.hid hC
  replace hM := Tells.mk hM
  replace hlog := Lib.hid hlog
  replace hzM := Lib.hid hzM
  replace hbs := Lib.hid hbs
  clear s1 s2 hsg H0 hbs' hz
  go_enter Try.func42, Try.ntmps42
  go_wp2_with (first | (go_at_call 47; ((with_reducible refine S.mono ?_); rintro e w' ⟨rfl, rfl⟩)) | (refine wpList_load_mid rfl 52 _ rfl k 0 rfl (arrW bs) _ hrg Try.underlying52 rfl (by rw [arrW_len]; exact sizeAcc) ?_))
  have C := hC.out
  generalize hwr : w.alloc (.cells (arrW bs).toArray 52) = wr at *
  clear hwr hC hrg S hsn
  have hold := Lib.hid C.old
  have H := Lib.hid (C.holds hbs.out hM.out)
  have cells := Lib.hid C.cell
  clear C
  go_wp2_with fail
  go_loop [7] (fun tv => ∃ t : Nat, t ≤ 23 ∧ tv = .int .i64 t ∧ ∀ j, t < j → j < 24 → bs j = 0) (fun tv => (intOf tv).toNat)
  case atStart => exact ⟨23, by omega, rfl, fun j h1 h2 => by omega⟩
  case round =>
    obtain ⟨t, ht, rfl, hab⟩ := hrel
    replace hab := Lib.hid hab
    have hct := cells.out t (by omega)
    by_cases hz0 : bs t = 0
    · have ht0 : 0 < t := by
        refine Nat.pos_of_ne_zero fun h0 => hM0 ?_
        rw [← hM.out]
        refine sumW_of_zero bs 24 fun j hj => ?_
        by_cases e : j = t
        · rw [e]; exact hz0
        · exact hab.out j (by omega) hj
      have hab2 : Hid (∀ j, t - 1 < j → j < 24 → bs j = 0) := by
        intro j h1 h2
        by_cases e : j = t
        · rw [e]; exact hz0
        · exact hab.out j (by omega) h2
      have tt : ((bs t : Int) == 0) = true := by rw [hz0]; rfl
      have te : (t : Int) - 1 = ((t - 1 : Nat) : Int) := by omega
      clear hab
      go_wp2_with fail
      go_round
      case rel => exact ⟨t - 1, by omega, by go_num, hab2.out⟩
      case measure => simp [intOf]; omega
    · have hlg := top_log hbs.out t (by omega) hz0 hab.out
      rw [hM.out, hlog.out] at hlg
      have hltt := hbs.out t
      have hl63 : (bs t).log2 < 64 := (Nat.log2_lt hz0).2 hltt
      have CZ := fun w => lz_any (bs t) hz0 hltt w
      have tt : ((bs t : Int) == 0) = false := ieq_f (by omega)
      obtain ⟨l, hl⟩ : ∃ l, l = (bs t).log2 := ⟨_, rfl⟩
      rw [← hl] at hlg hl63 CZ
      have hh : (t : Int) * 64 + 63 - (63 - (l : Int)) = (h : Int) := by omega
      have hh2 : h ≤ 1535 := by omega
      have CBt : ∀ i : Nat, i < 1536 → ∀ w', w' = wr → Calls Try.prog 58 #[.pointer (some ⟨w.heap.size, 0, none⟩), .int .i64 i] w' fun e w'' => e = .returned (.int .u64 ((M / 2 ^ i % 2 : Nat) : Int)) ∧ w' = w'' := by
        intro i hi w' hw
        subst hw
        have := bit_any w.heap.size i (M : Int) bs w' H.out hi
        rw [hM.out] at this
        exact this
      have CLt : ∀ i : Nat, i ≤ 1536 → ∀ w', w' = wr → Calls Try.prog 59 #[.pointer (some ⟨w.heap.size, 0, none⟩), .int .i64 i] w' fun e w'' => e = .returned (.bool (anyLow M i)) ∧ w' = w'' := by
        intro i hi w' hw
        subst hw
        have := below_any w.heap.size i (M : Int) bs w' H.out hi
        rw [hM.out] at this
        exact this
      obtain ⟨b, hb⟩ : ∃ b, b = bs t := ⟨_, rfl⟩
      rw [← hb] at hct CZ tt
      replace CBt := Lib.hid CBt
      replace CLt := Lib.hid CLt
      have hMlt := topD_zero M h (by have := (Nat.log2_eq_iff hM0).1 hlog.out; exact this.2)
      replace hMlt := Lib.hid hMlt
      clear hlg hltt hl hb hz0 hab
      go_wp2_with (go_at_call 57; ((with_reducible refine (CZ _).mono ?_); rintro e w' ⟨rfl, rfl⟩))
      go_loop [9, 10] (fun nv iv => ∃ i : Nat, i ≤ 53 ∧ iv = .int .i64 i ∧ nv = .int .u64 ((topD M h i : Nat) : Int)) (fun _ iv => 53 - (intOf iv).toNat)
      case atStart => exact ⟨0, by omega, rfl, by rw [hMlt.out]; rfl⟩
      case round =>
        obtain ⟨i, hi, rfl, rfl⟩ := hrel
        by_cases hlt : i < 53
        · have CB := CBt.out (h - i) (by omega)
          have hsub : (h : Int) - (i : Int) = ((h - i : Nat) : Int) := by omega
          have hst := topD_step M h i (by omega)
          have hlt2 : topD M h i < 2 ^ 53 := Nat.lt_of_lt_of_le (topD_lt M h i (by have := (Nat.log2_eq_iff hM0).1 hlog.out; exact this.2)) (Nat.pow_le_pow_right (by omega) (by omega))
          have hbit : M / 2 ^ (h - i) % 2 ≤ 1 := by omega
          obtain ⟨q, hq⟩ : ∃ q, q = topD M h i := ⟨_, rfl⟩
          obtain ⟨d, hd⟩ : ∃ d, d = M / 2 ^ (h - i) % 2 := ⟨_, rfl⟩
          rw [← hq, ← hd] at hst
          rw [← hq] at hlt2 ⊢
          rw [← hd] at hbit CB
          have hor := shl_or (x := q) (b := d) (by omega) hbit
          have hst := Lib.hid hst
          have hq4 : q < 9007199254740992 := hlt2
          clear hq hd hlt2
          go_wp2_with (go_at_call 58; ((with_reducible refine (CB _ rfl).mono ?_); rintro e w' ⟨rfl, rfl⟩))
          go_round
          case rel => exact ⟨i + 1, by omega, by go_num, by rw [hst.out]; go_num⟩
          case measure => simp [intOf]; omega
        · obtain rfl : i = 53 := by omega
          have CB := CBt.out (h - 53) (by omega)
          have CL := CLt.out (h - 53) (by omega)
          have hsub : (h : Int) - 53 = ((h - 53 : Nat) : Int) := by omega
          have h53 := topD_53 M h
          rw [if_pos (by omega)] at h53
          rw [h53]
          clear h53
          obtain ⟨q, hq⟩ : ∃ q, q = M / 2 ^ (h - 52) := ⟨_, rfl⟩
          have hqb : q < 9007199254740992 := by
            have := (Nat.log2_eq_iff hM0).1 hlog.out
            rw [hq, show 9007199254740992 = 2 ^ 53 from rfl, Nat.div_lt_iff_lt_mul (Nat.two_pow_pos _), ← Nat.pow_add, show 53 + (h - 52) = h + 1 by omega]; exact this.2
          rw [← hq]
          have hor := and_one_u64 ((q : Nat) : Int) (by omega) (by omega)
          by_cases c1 : M / 2 ^ (h - 53) % 2 = 1
          · rw [c1] at CB
            by_cases c2 : q % 2 = 1
            · have t2 : (bits BinOp.and IntKind.u64 ((q : Nat) : Int) 1 == 1) = true := by rw [hor]; simp; omega
              have hinc : incOf M h := ⟨c1, Or.inl (by rw [← hq]; exact c2)⟩
              clear c1 c2 hor
              obtain ⟨e1, e2, e3⟩ := round_end (n := q + 1) hM0 hlog.out (by omega) (Or.inl ⟨by rw [hq], hinc⟩)
              obtain ⟨x, fx, x63, vx, LD⟩ := ldexp_int (q + 1) (h - 1) ((h : Int) - 52 - 1024) e1 e2 (by omega) (by omega) (by omega)
              have hnz : V (x) ≠ 0 := by
                intro h0
                have : RN ((M : Int) * 2 ^ 50) = 0 := by rw [← e3, ← vx]; omega
                have := RN_zero_iff this
                have hp : (0 : Int) < 2 ^ 50 := by decide
                rcases Int.mul_eq_zero.1 this with h | h <;> omega
              have HR : Hid (∃ r, Ending.returned (.float .f64 (x)) = .returned (.float .f64 r) ∧ Near (z * 2 ^ 50) r) := ⟨x, rfl, fx, by rw [vx, e3, hzM.out], fun h => absurd h hnz⟩
              clear CL hq hinc e1 e2 e3 vx hnz fx x63 hM0 hlog hzM hM
              rw [show ((q + 1 : Nat) : Int) = (q : Int) + 1 by omega] at LD
              go_wp2_with (first | (go_at_call 58; ((with_reducible refine (CB _ rfl).mono ?_); rintro e w' ⟨rfl, rfl⟩)) | (go_at_call 60; ((with_reducible refine (LD _).mono ?_); rintro e w' ⟨rfl, rfl⟩)))
              go_ret
              exact ⟨HR.out, hold.out⟩
            · have t2 : (bits BinOp.and IntKind.u64 ((q : Nat) : Int) 1 == 1) = false := by rw [hor]; simp; omega
              by_cases c3 : M % 2 ^ (h - 53) = 0
              · have hinc : ¬ incOf M h := fun hi => by
                  rcases hi.2 with h | h
                  · exact c2 (by rw [hq]; exact h)
                  · exact h c3
                unfold anyLow at CL
                rw [decide_eq_false (by simpa using c3)] at CL
                clear c1 c2 c3 hor
                obtain ⟨e1, e2, e3⟩ := round_end (n := q) hM0 hlog.out (by omega) (Or.inr ⟨hq, hinc⟩)
                obtain ⟨x, fx, x63, vx, LD⟩ := ldexp_int (q) (h - 1) ((h : Int) - 52 - 1024) e1 e2 (by omega) (by omega) (by omega)
                have hnz : V (x) ≠ 0 := by
                  intro h0
                  have : RN ((M : Int) * 2 ^ 50) = 0 := by rw [← e3, ← vx]; omega
                  have := RN_zero_iff this
                  have hp : (0 : Int) < 2 ^ 50 := by decide
                  rcases Int.mul_eq_zero.1 this with h | h <;> omega
                have HR : Hid (∃ r, Ending.returned (.float .f64 (x)) = .returned (.float .f64 r) ∧ Near (z * 2 ^ 50) r) := ⟨x, rfl, fx, by rw [vx, e3, hzM.out], fun h => absurd h hnz⟩
                clear hq hinc e1 e2 e3 vx hnz fx x63 hM0 hlog hzM hM
                go_wp2_with (first | (go_at_call 58; ((with_reducible refine (CB _ rfl).mono ?_); rintro e w' ⟨rfl, rfl⟩)) | (go_at_call 59; ((with_reducible refine (CL _ rfl).mono ?_); rintro e w' ⟨rfl, rfl⟩)) | (go_at_call 60; ((with_reducible refine (LD _).mono ?_); rintro e w' ⟨rfl, rfl⟩)))
                go_ret
                exact ⟨HR.out, hold.out⟩
              · have hinc : incOf M h := ⟨c1, Or.inr c3⟩
                unfold anyLow at CL
                rw [decide_eq_true c3] at CL
                clear c1 c2 c3 hor
                obtain ⟨e1, e2, e3⟩ := round_end (n := q + 1) hM0 hlog.out (by omega) (Or.inl ⟨by rw [hq], hinc⟩)
                obtain ⟨x, fx, x63, vx, LD⟩ := ldexp_int (q + 1) (h - 1) ((h : Int) - 52 - 1024) e1 e2 (by omega) (by omega) (by omega)
                have hnz : V (x) ≠ 0 := by
                  intro h0
                  have : RN ((M : Int) * 2 ^ 50) = 0 := by rw [← e3, ← vx]; omega
                  have := RN_zero_iff this
                  have hp : (0 : Int) < 2 ^ 50 := by decide
                  rcases Int.mul_eq_zero.1 this with h | h <;> omega
                have HR : Hid (∃ r, Ending.returned (.float .f64 (x)) = .returned (.float .f64 r) ∧ Near (z * 2 ^ 50) r) := ⟨x, rfl, fx, by rw [vx, e3, hzM.out], fun h => absurd h hnz⟩
                clear hq hinc e1 e2 e3 vx hnz fx x63 hM0 hlog hzM hM
                rw [show ((q + 1 : Nat) : Int) = (q : Int) + 1 by omega] at LD
                go_wp2_with (first | (go_at_call 58; ((with_reducible refine (CB _ rfl).mono ?_); rintro e w' ⟨rfl, rfl⟩)) | (go_at_call 59; ((with_reducible refine (CL _ rfl).mono ?_); rintro e w' ⟨rfl, rfl⟩)) | (go_at_call 60; ((with_reducible refine (LD _).mono ?_); rintro e w' ⟨rfl, rfl⟩)))
                go_ret
                exact ⟨HR.out, hold.out⟩
          · have c0 : M / 2 ^ (h - 53) % 2 = 0 := by omega
            rw [c0] at CB
            have hinc : ¬ incOf M h := fun hi => c1 hi.1
            clear c1 c0 hor CL
            obtain ⟨e1, e2, e3⟩ := round_end (n := q) hM0 hlog.out (by omega) (Or.inr ⟨hq, hinc⟩)
            obtain ⟨x, fx, x63, vx, LD⟩ := ldexp_int (q) (h - 1) ((h : Int) - 52 - 1024) e1 e2 (by omega) (by omega) (by omega)
            have hnz : V (x) ≠ 0 := by
              intro h0
              have : RN ((M : Int) * 2 ^ 50) = 0 := by rw [← e3, ← vx]; omega
              have := RN_zero_iff this
              have hp : (0 : Int) < 2 ^ 50 := by decide
              rcases Int.mul_eq_zero.1 this with h | h <;> omega
            have HR : Hid (∃ r, Ending.returned (.float .f64 (x)) = .returned (.float .f64 r) ∧ Near (z * 2 ^ 50) r) := ⟨x, rfl, fx, by rw [vx, e3, hzM.out], fun h => absurd h hnz⟩
            clear hq hinc e1 e2 e3 vx hnz fx x63 hM0 hlog hzM hM
            go_wp2_with (first | (go_at_call 58; ((with_reducible refine (CB _ rfl).mono ?_); rintro e w' ⟨rfl, rfl⟩)) | (go_at_call 60; ((with_reducible refine (LD _).mono ?_); rintro e w' ⟨rfl, rfl⟩)))
            go_ret
            exact ⟨HR.out, hold.out⟩

set_option maxHeartbeats 4000000 in
theorem round_neg (k : Nat) (z : Int) (ws : Nat → Nat) (w : World) (M h : Nat) (H0 : Holds k w z ws) (hz : z.natAbs < 2 ^ 1535) (hzM : z = -(M : Int)) (hM0 : M ≠ 0) (hlog : M.log2 = h) (h1 : 101 ≤ h) (h2 : h ≤ 1500) :
    Calls Try.prog 42 #[.pointer (some ⟨k, 0, none⟩)] w fun e w' => (∃ r, e = .returned (.float .f64 r) ∧ Near (z * 2 ^ 50) r) ∧ Below w.heap.size w w' := by
  obtain ⟨s1, s2⟩ := H0.sign hz
  have S := sign_any k z ws w H0 s1 s2
  have hsg : signI z = -1 := by unfold signI; rw [if_pos (by omega)]
  rw [hsg] at S
  have hrg := H0.range
  have hM : sumW (nwN ws) 24 = M := by have := neg_told H0.lt hz (by omega) H0.val; omega
  have hbs : ∀ i, nwN ws i < 18446744073709551616 := nwN_lt ws
  have hC := Copy.start w ws
  have R0 : Hid (Half w ws 0 (w.alloc (.cells (arrW ws).toArray 52))) := ⟨hC.old, hC.size, fun j hj => by omega, fun j _ hj => hC.cell j hj, hC.free⟩
  have hcy := Lib.hid (cyN_le ws H0.lt)
  have hsn := store_new w ws
  replace hM := Tells.mk hM
  replace hlog := Lib.hid hlog
  replace hzM := Lib.hid hzM
  replace hbs := Lib.hid hbs
  clear s1 s2 hsg H0 hz hC
  go_enter Try.func42, Try.ntmps42
  go_wp2_with (first | (go_at_call 47; ((with_reducible refine S.mono ?_); rintro e w' ⟨rfl, rfl⟩)) | (refine wpList_load_mid rfl 52 _ rfl k 0 rfl (arrW ws) _ hrg Try.underlying52 rfl (by rw [arrW_len]; exact sizeAcc) ?_))
  clear hrg S hsn
  go_loopw [5, 6] (fun cv iv wr => ∃ i : Nat, i ≤ 24 ∧ iv = .int .i64 i ∧ cv = .int .u64 (cyN ws i) ∧ Half w ws i wr) (fun _ iv _ => 24 - (intOf iv).toNat)
  case atStart => exact ⟨0, by omega, rfl, rfl, R0.out⟩
  case round =>
    obtain ⟨i, hi, rfl, rfl, R⟩ := hrel
    by_cases hlt : i < 24
    · have g1 := R.todo i (Nat.le_refl _) hlt
      have g2 := R.free i hlt
      have X : ∀ x : World, (callFunc 56 #[.int .u64 0, .int .u64 (ws i), .int .u64 (cyN ws i)]).run Try.prog x = .ok (.value (.tuple #[.int .u64 (nwN ws i : Nat), .int .u64 (cyN ws (i + 1) : Nat)])) x := fun x => xsub' 0 (ws i) (cyN ws i) (hcy.out i) x
      have HR := Lib.hid (R.step hlt)
      clear R
      go_wp2
      go_roundw
      case rel => exact ⟨i + 1, hlt, by go_num, rfl, HR.out⟩
      case measure => simp [intOf]; omega
    · obtain rfl : i = 24 := by omega
      have C : Copy w (nwN ws) wr := ⟨R.old, R.size, R.done, R.free⟩
      obtain ⟨bs, hbs'⟩ : ∃ bs, bs = nwN ws := ⟨_, rfl⟩
      have hM' := hM.out
      have hbs2 := hbs.out
      clear hM hbs
      rw [← hbs'] at hM' hbs2 C
      have hM := Tells.mk hM'
      have hbs := Lib.hid hbs2
      clear hM' hbs2
      clear R hbs' R0 hcy
      have hold := Lib.hid C.old
      have H := Lib.hid (C.holds hbs.out hM.out)
      have cells := Lib.hid C.cell
      clear C
      go_wp2_with fail
      go_loop [7] (fun tv => ∃ t : Nat, t ≤ 23 ∧ tv = .int .i64 t ∧ ∀ j, t < j → j < 24 → bs j = 0) (fun tv => (intOf tv).toNat)
      case atStart => exact ⟨23, by omega, rfl, fun j h1 h2 => by omega⟩
      case round =>
        obtain ⟨t, ht, rfl, hab⟩ := hrel
        replace hab := Lib.hid hab
        have hct := cells.out t (by omega)
        by_cases hz0 : bs t = 0
        · have ht0 : 0 < t := by
            refine Nat.pos_of_ne_zero fun h0 => hM0 ?_
            rw [← hM.out]
            refine sumW_of_zero bs 24 fun j hj => ?_
            by_cases e : j = t
            · rw [e]; exact hz0
            · exact hab.out j (by omega) hj
          have hab2 : Hid (∀ j, t - 1 < j → j < 24 → bs j = 0) := by
            intro j h1 h2
            by_cases e : j = t
            · rw [e]; exact hz0
            · exact hab.out j (by omega) h2
          have tt : ((bs t : Int) == 0) = true := by rw [hz0]; rfl
          have te : (t : Int) - 1 = ((t - 1 : Nat) : Int) := by omega
          clear hab
          go_wp2_with fail
          go_round
          case rel => exact ⟨t - 1, by omega, by go_num, hab2.out⟩
          case measure => simp [intOf]; omega
        · have hlg := top_log hbs.out t (by omega) hz0 hab.out
          rw [hM.out, hlog.out] at hlg
          have hltt := hbs.out t
          have hl63 : (bs t).log2 < 64 := (Nat.log2_lt hz0).2 hltt
          have CZ := fun w => lz_any (bs t) hz0 hltt w
          have tt : ((bs t : Int) == 0) = false := ieq_f (by omega)
          obtain ⟨l, hl⟩ : ∃ l, l = (bs t).log2 := ⟨_, rfl⟩
          rw [← hl] at hlg hl63 CZ
          have hh : (t : Int) * 64 + 63 - (63 - (l : Int)) = (h : Int) := by omega
          have hh2 : h ≤ 1535 := by omega
          have CBt : ∀ i : Nat, i < 1536 → ∀ w', w' = wr → Calls Try.prog 58 #[.pointer (some ⟨w.heap.size, 0, none⟩), .int .i64 i] w' fun e w'' => e = .returned (.int .u64 ((M / 2 ^ i % 2 : Nat) : Int)) ∧ w' = w'' := by
            intro i hi w' hw
            subst hw
            have := bit_any w.heap.size i (M : Int) bs w' H.out hi
            rw [hM.out] at this
            exact this
          have CLt : ∀ i : Nat, i ≤ 1536 → ∀ w', w' = wr → Calls Try.prog 59 #[.pointer (some ⟨w.heap.size, 0, none⟩), .int .i64 i] w' fun e w'' => e = .returned (.bool (anyLow M i)) ∧ w' = w'' := by
            intro i hi w' hw
            subst hw
            have := below_any w.heap.size i (M : Int) bs w' H.out hi
            rw [hM.out] at this
            exact this
          obtain ⟨b, hb⟩ : ∃ b, b = bs t := ⟨_, rfl⟩
          rw [← hb] at hct CZ tt
          replace CBt := Lib.hid CBt
          replace CLt := Lib.hid CLt
          have hMlt := topD_zero M h (by have := (Nat.log2_eq_iff hM0).1 hlog.out; exact this.2)
          replace hMlt := Lib.hid hMlt
          clear hlg hltt hl hb hz0 hab
          go_wp2_with (go_at_call 57; ((with_reducible refine (CZ _).mono ?_); rintro e w' ⟨rfl, rfl⟩))
          go_loop [9, 10] (fun nv iv => ∃ i : Nat, i ≤ 53 ∧ iv = .int .i64 i ∧ nv = .int .u64 ((topD M h i : Nat) : Int)) (fun _ iv => 53 - (intOf iv).toNat)
          case atStart => exact ⟨0, by omega, rfl, by rw [hMlt.out]; rfl⟩
          case round =>
            obtain ⟨i, hi, rfl, rfl⟩ := hrel
            by_cases hlt : i < 53
            · have CB := CBt.out (h - i) (by omega)
              have hsub : (h : Int) - (i : Int) = ((h - i : Nat) : Int) := by omega
              have hst := topD_step M h i (by omega)
              have hlt2 : topD M h i < 2 ^ 53 := Nat.lt_of_lt_of_le (topD_lt M h i (by have := (Nat.log2_eq_iff hM0).1 hlog.out; exact this.2)) (Nat.pow_le_pow_right (by omega) (by omega))
              have hbit : M / 2 ^ (h - i) % 2 ≤ 1 := by omega
              obtain ⟨q, hq⟩ : ∃ q, q = topD M h i := ⟨_, rfl⟩
              obtain ⟨d, hd⟩ : ∃ d, d = M / 2 ^ (h - i) % 2 := ⟨_, rfl⟩
              rw [← hq, ← hd] at hst
              rw [← hq] at hlt2 ⊢
              rw [← hd] at hbit CB
              have hor := shl_or (x := q) (b := d) (by omega) hbit
              have hst := Lib.hid hst
              have hq4 : q < 9007199254740992 := hlt2
              clear hq hd hlt2
              go_wp2_with (go_at_call 58; ((with_reducible refine (CB _ rfl).mono ?_); rintro e w' ⟨rfl, rfl⟩))
              go_round
              case rel => exact ⟨i + 1, by omega, by go_num, by rw [hst.out]; go_num⟩
              case measure => simp [intOf]; omega
            · obtain rfl : i = 53 := by omega
              have CB := CBt.out (h - 53) (by omega)
              have CL := CLt.out (h - 53) (by omega)
              have hsub : (h : Int) - 53 = ((h - 53 : Nat) : Int) := by omega
              have h53 := topD_53 M h
              rw [if_pos (by omega)] at h53
              rw [h53]
              clear h53
              obtain ⟨q, hq⟩ : ∃ q, q = M / 2 ^ (h - 52) := ⟨_, rfl⟩
              have hqb : q < 9007199254740992 := by
                have := (Nat.log2_eq_iff hM0).1 hlog.out
                rw [hq, show 9007199254740992 = 2 ^ 53 from rfl, Nat.div_lt_iff_lt_mul (Nat.two_pow_pos _), ← Nat.pow_add, show 53 + (h - 52) = h + 1 by omega]; exact this.2
              rw [← hq]
              have hor := and_one_u64 ((q : Nat) : Int) (by omega) (by omega)
              by_cases c1 : M / 2 ^ (h - 53) % 2 = 1
              · rw [c1] at CB
                by_cases c2 : q % 2 = 1
                · have t2 : (bits BinOp.and IntKind.u64 ((q : Nat) : Int) 1 == 1) = true := by rw [hor]; simp; omega
                  have hinc : incOf M h := ⟨c1, Or.inl (by rw [← hq]; exact c2)⟩
                  clear c1 c2 hor
                  obtain ⟨e1, e2, e3⟩ := round_end (n := q + 1) hM0 hlog.out (by omega) (Or.inl ⟨by rw [hq], hinc⟩)
                  obtain ⟨x, fx, x63, vx, LD⟩ := ldexp_int (q + 1) (h - 1) ((h : Int) - 52 - 1024) e1 e2 (by omega) (by omega) (by omega)
                  have hnz : V (negW x) ≠ 0 := by
                    intro h0
                    rw [negW_V fx] at h0
                    have : RN ((M : Int) * 2 ^ 50) = 0 := by rw [← e3, ← vx]; omega
                    have := RN_zero_iff this
                    have hp : (0 : Int) < 2 ^ 50 := by decide
                    rcases Int.mul_eq_zero.1 this with h | h <;> omega
                  have HR : Hid (∃ r, Ending.returned (.float .f64 (negW x)) = .returned (.float .f64 r) ∧ Near (z * 2 ^ 50) r) := ⟨negW x, rfl, negW_fin fx, by rw [negW_V fx, vx, e3, hzM.out, Int.neg_mul, RN_neg], fun h => absurd h hnz⟩
                  have xn : ∀ w, (Op.unary .neg (.float .f64 x)).run Try.prog w = .ok (.float .f64 (negW x)) w := fun w => by unfold negW; rw [← xor_top64 x (by omega)]; rfl
                  clear CL hq hinc e1 e2 e3 vx hnz fx x63 hM0 hlog hzM hM
                  rw [show ((q + 1 : Nat) : Int) = (q : Int) + 1 by omega] at LD
                  go_wp2_with (first | (go_at_call 58; ((with_reducible refine (CB _ rfl).mono ?_); rintro e w' ⟨rfl, rfl⟩)) | (go_at_call 60; ((with_reducible refine (LD _).mono ?_); rintro e w' ⟨rfl, rfl⟩)))
                  go_ret
                  exact ⟨HR.out, hold.out⟩
                · have t2 : (bits BinOp.and IntKind.u64 ((q : Nat) : Int) 1 == 1) = false := by rw [hor]; simp; omega
                  by_cases c3 : M % 2 ^ (h - 53) = 0
                  · have hinc : ¬ incOf M h := fun hi => by
                      rcases hi.2 with h | h
                      · exact c2 (by rw [hq]; exact h)
                      · exact h c3
                    unfold anyLow at CL
                    rw [decide_eq_false (by simpa using c3)] at CL
                    clear c1 c2 c3 hor
                    obtain ⟨e1, e2, e3⟩ := round_end (n := q) hM0 hlog.out (by omega) (Or.inr ⟨hq, hinc⟩)
                    obtain ⟨x, fx, x63, vx, LD⟩ := ldexp_int (q) (h - 1) ((h : Int) - 52 - 1024) e1 e2 (by omega) (by omega) (by omega)
                    have hnz : V (negW x) ≠ 0 := by
                      intro h0
                      rw [negW_V fx] at h0
                      have : RN ((M : Int) * 2 ^ 50) = 0 := by rw [← e3, ← vx]; omega
                      have := RN_zero_iff this
                      have hp : (0 : Int) < 2 ^ 50 := by decide
                      rcases Int.mul_eq_zero.1 this with h | h <;> omega
                    have HR : Hid (∃ r, Ending.returned (.float .f64 (negW x)) = .returned (.float .f64 r) ∧ Near (z * 2 ^ 50) r) := ⟨negW x, rfl, negW_fin fx, by rw [negW_V fx, vx, e3, hzM.out, Int.neg_mul, RN_neg], fun h => absurd h hnz⟩
                    have xn : ∀ w, (Op.unary .neg (.float .f64 x)).run Try.prog w = .ok (.float .f64 (negW x)) w := fun w => by unfold negW; rw [← xor_top64 x (by omega)]; rfl
                    clear hq hinc e1 e2 e3 vx hnz fx x63 hM0 hlog hzM hM
                    go_wp2_with (first | (go_at_call 58; ((with_reducible refine (CB _ rfl).mono ?_); rintro e w' ⟨rfl, rfl⟩)) | (go_at_call 59; ((with_reducible refine (CL _ rfl).mono ?_); rintro e w' ⟨rfl, rfl⟩)) | (go_at_call 60; ((with_reducible refine (LD _).mono ?_); rintro e w' ⟨rfl, rfl⟩)))
                    go_ret
                    exact ⟨HR.out, hold.out⟩
                  · have hinc : incOf M h := ⟨c1, Or.inr c3⟩
                    unfold anyLow at CL
                    rw [decide_eq_true c3] at CL
                    clear c1 c2 c3 hor
                    obtain ⟨e1, e2, e3⟩ := round_end (n := q + 1) hM0 hlog.out (by omega) (Or.inl ⟨by rw [hq], hinc⟩)
                    obtain ⟨x, fx, x63, vx, LD⟩ := ldexp_int (q + 1) (h - 1) ((h : Int) - 52 - 1024) e1 e2 (by omega) (by omega) (by omega)
                    have hnz : V (negW x) ≠ 0 := by
                      intro h0
                      rw [negW_V fx] at h0
                      have : RN ((M : Int) * 2 ^ 50) = 0 := by rw [← e3, ← vx]; omega
                      have := RN_zero_iff this
                      have hp : (0 : Int) < 2 ^ 50 := by decide
                      rcases Int.mul_eq_zero.1 this with h | h <;> omega
                    have HR : Hid (∃ r, Ending.returned (.float .f64 (negW x)) = .returned (.float .f64 r) ∧ Near (z * 2 ^ 50) r) := ⟨negW x, rfl, negW_fin fx, by rw [negW_V fx, vx, e3, hzM.out, Int.neg_mul, RN_neg], fun h => absurd h hnz⟩
                    have xn : ∀ w, (Op.unary .neg (.float .f64 x)).run Try.prog w = .ok (.float .f64 (negW x)) w := fun w => by unfold negW; rw [← xor_top64 x (by omega)]; rfl
                    clear hq hinc e1 e2 e3 vx hnz fx x63 hM0 hlog hzM hM
                    rw [show ((q + 1 : Nat) : Int) = (q : Int) + 1 by omega] at LD
                    go_wp2_with (first | (go_at_call 58; ((with_reducible refine (CB _ rfl).mono ?_); rintro e w' ⟨rfl, rfl⟩)) | (go_at_call 59; ((with_reducible refine (CL _ rfl).mono ?_); rintro e w' ⟨rfl, rfl⟩)) | (go_at_call 60; ((with_reducible refine (LD _).mono ?_); rintro e w' ⟨rfl, rfl⟩)))
                    go_ret
                    exact ⟨HR.out, hold.out⟩
              · have c0 : M / 2 ^ (h - 53) % 2 = 0 := by omega
                rw [c0] at CB
                have hinc : ¬ incOf M h := fun hi => c1 hi.1
                clear c1 c0 hor CL
                obtain ⟨e1, e2, e3⟩ := round_end (n := q) hM0 hlog.out (by omega) (Or.inr ⟨hq, hinc⟩)
                obtain ⟨x, fx, x63, vx, LD⟩ := ldexp_int (q) (h - 1) ((h : Int) - 52 - 1024) e1 e2 (by omega) (by omega) (by omega)
                have hnz : V (negW x) ≠ 0 := by
                  intro h0
                  rw [negW_V fx] at h0
                  have : RN ((M : Int) * 2 ^ 50) = 0 := by rw [← e3, ← vx]; omega
                  have := RN_zero_iff this
                  have hp : (0 : Int) < 2 ^ 50 := by decide
                  rcases Int.mul_eq_zero.1 this with h | h <;> omega
                have HR : Hid (∃ r, Ending.returned (.float .f64 (negW x)) = .returned (.float .f64 r) ∧ Near (z * 2 ^ 50) r) := ⟨negW x, rfl, negW_fin fx, by rw [negW_V fx, vx, e3, hzM.out, Int.neg_mul, RN_neg], fun h => absurd h hnz⟩
                have xn : ∀ w, (Op.unary .neg (.float .f64 x)).run Try.prog w = .ok (.float .f64 (negW x)) w := fun w => by unfold negW; rw [← xor_top64 x (by omega)]; rfl
                clear hq hinc e1 e2 e3 vx hnz fx x63 hM0 hlog hzM hM
                go_wp2_with (first | (go_at_call 58; ((with_reducible refine (CB _ rfl).mono ?_); rintro e w' ⟨rfl, rfl⟩)) | (go_at_call 60; ((with_reducible refine (LD _).mono ?_); rintro e w' ⟨rfl, rfl⟩)))
                go_ret
                exact ⟨HR.out, hold.out⟩
end Go.Proofs.Ythgpdgajmpocfaa
