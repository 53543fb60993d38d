/- Proved here: what the sum with what rounding leaves kept beside, and the sum by halves, answer, the program's and the reference's, over the translated code. -/
import Derived.Test.YthgpdgajmpocfaaTsm
import Derived.BigQuiet
namespace Go.Proofs.Ythgpdgajmpocfaa
open Go.ChangeShapes Go.WideShapes Go.ChangeAt Go.RowKit Ieee.Own

theorem At.drewN {w : World} {ao : Option Addr} {L : List Nat} (h : At w ao L) (n : Nat) : At (w.drewN n) ao L := h
theorem quiet_same {P : Program} {f : FuncId} {args : Array Value} {w : World} {n : Nat} {v : Value}
    (h : Calls P f args (w.drewN n) fun e w' => e = .returned v ∧ w.drewN n = w') : Calls P f args (w.drewN n) fun e w'' => e = .returned v ∧ ∃ m, w'' = w.drewN m :=
  h.mono fun _ _ ⟨he, hm⟩ => ⟨he, n, hm.symm⟩

/-- a world that is another but for draws -/
def Drawn (w w' : World) : Prop := ∃ m, w' = w.drewN m
theorem Drawn.refl (w : World) : Drawn w w := ⟨0, rfl⟩
theorem Drawn.more {w w' : World} (h : Drawn w w') (n : Nat) : Drawn w (w'.drewN n) := by
  obtain ⟨m, rfl⟩ := h; exact ⟨m + n, by rw [World.drewN_drewN]⟩
theorem Drawn.trans {w w' w'' : World} (h : Drawn w w') (k : Drawn w' w'') : Drawn w w'' := by
  obtain ⟨m, rfl⟩ := k; exact h.more m
theorem At.drawn {w w' : World} {ao : Option Addr} {L : List Nat} (h : At w ao L) (d : Drawn w w') : At w' ao L := by
  obtain ⟨m, rfl⟩ := d; exact h
theorem Drawn.below {w w' : World} (d : Drawn w w') (B : Nat) : Below B w w' := by
  obtain ⟨m, rfl⟩ := d; exact ⟨rfl, rfl, rfl, Nat.le_refl _, fun _ _ => rfl⟩

def geB (s x : Nat) : Bool := FloatKind.f64.format.order (s % 9223372036854775808) (x % 9223372036854775808) == some Ordering.gt || FloatKind.f64.format.order (s % 9223372036854775808) (x % 9223372036854775808) == some Ordering.eq
def keptStep (p : Nat × Nat) (x : Nat) : Nat × Nat :=
  (addS p.1 x, if geB p.1 x = true then addS p.2 (addS (subS p.1 (addS p.1 x)) x) else addS p.2 (addS (subS x (addS p.1 x)) p.1))
def keptP (L : List Nat) : Nat × Nat := L.foldl keptStep (0, 0)
def keptS (L : List Nat) : Nat := addS (keptP L).1 (keptP L).2
theorem keptP_succ {L : List Nat} {k : Nat} (h : k < L.length) : keptP (L.take (k + 1)) = keptStep (keptP (L.take k)) (L.getD k 0) := by
  unfold keptP
  rw [List.take_add_one, List.foldl_append]
  simp [List.getD, h]

/-- what one number more does to the sum and to what is kept, with the runs of the operations -/
theorem kept_ops {s k x i : Nat} (hs : Sized (1275 + i) s) (hk : Sized (1280 + i) k) (hx : Sized 1275 x) (hi : i ≤ 256) :
    ∃ t a b c, (keptStep (s, k) x = (t, if geB s x = true then a else b)) ∧ Sized (1275 + (i + 1)) t ∧ Sized (1280 + (i + 1)) a ∧ Sized (1280 + (i + 1)) b ∧
      (∀ ty w, (binOp .add ty (.float .f64 s) (.float .f64 x)).run Try.prog w = .ok (.float .f64 t) w) ∧
      (c = subS s t ∧ (∀ ty w, (binOp .sub ty (.float .f64 s) (.float .f64 t)).run Try.prog w = .ok (.float .f64 c) w) ∧ ∃ d, (∀ ty w, (binOp .add ty (.float .f64 c) (.float .f64 x)).run Try.prog w = .ok (.float .f64 d) w) ∧ ∀ ty w, (binOp .add ty (.float .f64 k) (.float .f64 d)).run Try.prog w = .ok (.float .f64 a) w) ∧
      ∃ c', (∀ ty w, (binOp .sub ty (.float .f64 x) (.float .f64 t)).run Try.prog w = .ok (.float .f64 c') w) ∧ ∃ d, (∀ ty w, (binOp .add ty (.float .f64 c') (.float .f64 s)).run Try.prog w = .ok (.float .f64 d) w) ∧ ∀ ty w, (binOp .add ty (.float .f64 k) (.float .f64 d)).run Try.prog w = .ok (.float .f64 b) w := by
  have hx' := hx.up (show 1275 ≤ 1275 + i by omega)
  obtain ⟨T, -, rT⟩ := hs.add hx' (by omega)
  obtain ⟨C, -, rC⟩ := (hs.up (show 1275 + i ≤ 1275 + i + 1 by omega)).sub T (by omega)
  obtain ⟨D, -, rD⟩ := C.add (hx.up (show 1275 ≤ 1275 + i + 1 + 1 by omega)) (by omega)
  obtain ⟨A, -, rA⟩ := hk.add (D.up (show 1275 + i + 1 + 1 + 1 ≤ 1280 + i by omega)) (by omega)
  obtain ⟨C', -, rC'⟩ := (hx'.up (show 1275 + i ≤ 1275 + i + 1 by omega)).sub T (by omega)
  obtain ⟨D', -, rD'⟩ := C'.add (hs.up (show 1275 + i ≤ 1275 + i + 1 + 1 by omega)) (by omega)
  obtain ⟨B, -, rB⟩ := hk.add (D'.up (show 1275 + i + 1 + 1 + 1 ≤ 1280 + i by omega)) (by omega)
  exact ⟨_, _, _, _, rfl, T, A, B, rT, ⟨rfl, rC, _, rD, rA⟩, _, rC', _, rD', rB⟩

set_option maxHeartbeats 1000000 in
theorem kept_run (ao : Option Addr) (cap n : Nat) (L : List Nat) (w : World) (hn : n = L.length) (hm : n ≤ 4611686018427387904) (hw : Words L) (ha : At w ao L) :
    Calls Try.prog 19 #[.slice ao n cap] w fun e w' => e = .returned (fe (outS L (keptS L)) (errL L)) ∧ Drawn w w' := by
  have K0 := check_run ao cap n L w hn hm hw ha
  unfold outS
  by_cases h0 : errL L = 0
  · obtain ⟨hl, hf⟩ := errL_zero h0
    rw [h0] at K0 ⊢
    rw [if_pos rfl]
    have hsz : ∀ j, j < L.length → Sized 1275 (L.getD j 0) := fun j hj => fit_sized hw hf hj
    replace ha := Lib.hid ha
    replace hsz := Lib.hid hsz
    replace hl := Lib.hid hl
    replace hn := Lib.hid hn
    clear hw hf h0
    go_enter Try.func19, Try.ntmps19
    go_wp2_with (go_at_call 33; ((with_reducible refine K0.mono ?_); rintro e w' ⟨rfl, rfl⟩))
    go_loopw [5, 6, 17] (fun sv kv iv wr => ∃ i s k : Nat, i ≤ n ∧ iv = .int .i64 i ∧ sv = .float .f64 s ∧ kv = .float .f64 k ∧ Hid (keptP (L.take i) = (s, k)) ∧ Hid (Sized (1275 + i) s ∧ Sized (1280 + i) k) ∧ Drawn w wr) (fun _ _ iv _ => n - (intOf iv).toNat)
    case atStart => exact ⟨0, 0, 0, Nat.zero_le _, rfl, rfl, rfl, rfl, ⟨Sized.zero _, Sized.zero _⟩, Drawn.refl _⟩
    case round =>
      obtain ⟨i, s, k, hi, rfl, rfl, rfl, hp, hs, hdr⟩ := hrel
      replace hdr := Lib.hid hdr
      by_cases hlt : i < n
      · have hil : i < L.length := by have := hn.out; omega
        obtain ⟨b, o, rfl, hc⟩ := (ha.out.drawn hdr.out) i hil
        obtain ⟨t, a, bb, c, e0, sT, sA, sB, r1, ⟨-, r2, d, r3, r4⟩, c', r5, d', r6, r7⟩ := kept_ops hs.out.1 hs.out.2 (hsz.out i hil) (by have := hl.out; omega)
        have hsu := keptP_succ hil
        rw [hp.out, e0] at hsu
        have A1 := fun w => abs_any s hs.out.1.1.1 w
        have A2 := fun w => abs_any (L.getD i 0) (hsz.out i hil).1.1 w
        by_cases hg : geB s (L.getD i 0) = true
        · rw [if_pos hg] at hsu
          have hsu2 := Lib.hid hsu
          have hS : Hid (Sized (1275 + (i + 1)) t ∧ Sized (1280 + (i + 1)) a) := ⟨sT, sA⟩
          unfold geB at hg
          obtain ⟨u, hu⟩ : ∃ u, u = L.getD i 0 := ⟨_, rfl⟩
          rw [← hu] at hc r1 r3 r5 A2 hg
          clear hu hil hs hp hsu sT sA sB r6 r7 e0
          go_wp2_with (first | (go_at_call 37; ((with_reducible refine (A1 _).mono ?_); rintro e w' ⟨rfl, rfl⟩)) | (go_at_call 37; ((with_reducible refine (A2 _).mono ?_); rintro e w' ⟨rfl, rfl⟩)))
          go_roundw
          case rel => first | exact ⟨i + 1, t, a, hlt, by go_num, rfl, rfl, hsu2, hS, hdr.out⟩ | ((repeat apply Exists.intro); exact ⟨⟨i + 1, t, a, hlt, by go_num, rfl, rfl, hsu2, hS, hdr.out⟩, rfl⟩)
          case measure => simp [intOf]; omega
        · rw [if_neg hg] at hsu
          rw [Bool.not_eq_true] at hg
          have hsu2 := Lib.hid hsu
          have hS : Hid (Sized (1275 + (i + 1)) t ∧ Sized (1280 + (i + 1)) bb) := ⟨sT, sB⟩
          unfold geB at hg
          obtain ⟨u, hu⟩ : ∃ u, u = L.getD i 0 := ⟨_, rfl⟩
          rw [← hu] at hc r1 r3 r5 A2 hg
          clear hu hil hs hp hsu sT sA sB r2 r3 r4 e0
          go_wp2_with (first | (go_at_call 37; ((with_reducible refine (A1 _).mono ?_); rintro e w' ⟨rfl, rfl⟩)) | (go_at_call 37; ((with_reducible refine (A2 _).mono ?_); rintro e w' ⟨rfl, rfl⟩)))
          go_roundw
          case rel => first | exact ⟨i + 1, t, bb, hlt, by go_num, rfl, rfl, hsu2, hS, hdr.out⟩ | ((repeat apply Exists.intro); exact ⟨⟨i + 1, t, bb, hlt, by go_num, rfl, rfl, hsu2, hS, hdr.out⟩, rfl⟩)
          case measure => simp [intOf]; omega
      · obtain rfl : i = n := by omega
        have hp2 := hp.out
        rw [List.take_of_length_le (by have := hn.out; omega)] at hp2
        obtain ⟨S1, -, R1⟩ := (hs.out.1.up (show 1275 + i ≤ 1280 + i by omega)).add hs.out.2 (by have := hl.out; have := hn.out; omega)
        have hE : Hid (addS s k = keptS L) := by show _ = _; unfold keptS; rw [hp2]
        obtain ⟨r, hr⟩ : ∃ r, r = addS s k := ⟨_, rfl⟩
        rw [← hr] at R1 hE
        clear hr hs hp hp2 S1
        go_wp2_with fail
        go_ret2
        exact ⟨by rw [← hE.out]; rfl, hdr.out⟩
  · rw [if_neg h0]
    have t : (errL L != 0) = true := by simpa using h0
    generalize errL L = er at *
    clear h0 ha hw hn hm
    go_enter Try.func19, Try.ntmps19
    go_wp2_with (go_at_call 33; ((with_reducible refine K0.mono ?_); rintro e w' ⟨rfl, rfl⟩))
    go_ret2
    exact ⟨rfl, Drawn.refl _⟩

set_option maxHeartbeats 1000000 in
theorem rkept_run (ao : Option Addr) (cap n : Nat) (L : List Nat) (w : World) (hn : n = L.length) (hm : n ≤ 4611686018427387904) (hw : Words L) (ha : At w ao L) :
    Calls Try.prog 20 #[.slice ao n cap] w fun e w' => e = .returned (fe (outS L (keptS L)) (errL L)) ∧ Drawn w w' := by
  have K0 := rcheck_run ao cap n L w hn hm hw ha
  unfold outS
  by_cases h0 : errL L = 0
  · obtain ⟨hl, hf⟩ := errL_zero h0
    rw [h0] at K0 ⊢
    rw [if_pos rfl]
    have hsz : ∀ j, j < L.length → Sized 1275 (L.getD j 0) := fun j hj => fit_sized hw hf hj
    replace ha := Lib.hid ha
    replace hsz := Lib.hid hsz
    replace hl := Lib.hid hl
    replace hn := Lib.hid hn
    clear hw hf h0
    go_enter Try.func20, Try.ntmps20
    go_wp2_with (go_at_call 34; ((with_reducible refine K0.mono ?_); rintro e w' ⟨rfl, rfl⟩))
    go_loopw [5, 6, 7] (fun sv kv iv wr => ∃ i s k : Nat, i ≤ n ∧ iv = .int .i64 i ∧ sv = .float .f64 s ∧ kv = .float .f64 k ∧ Hid (keptP (L.take i) = (s, k)) ∧ Hid (Sized (1275 + i) s ∧ Sized (1280 + i) k) ∧ Drawn w wr) (fun _ _ iv _ => n - (intOf iv).toNat)
    case atStart => exact ⟨0, 0, 0, Nat.zero_le _, rfl, rfl, rfl, rfl, ⟨Sized.zero _, Sized.zero _⟩, Drawn.refl _⟩
    case round =>
      obtain ⟨i, s, k, hi, rfl, rfl, rfl, hp, hs, hdr⟩ := hrel
      replace hdr := Lib.hid hdr
      by_cases hlt : i < n
      · have hil : i < L.length := by have := hn.out; omega
        obtain ⟨b, o, rfl, hc⟩ := (ha.out.drawn hdr.out) i hil
        obtain ⟨t, a, bb, c, e0, sT, sA, sB, r1, ⟨-, r2, d, r3, r4⟩, c', r5, d', r6, r7⟩ := kept_ops hs.out.1 hs.out.2 (hsz.out i hil) (by have := hl.out; omega)
        have hsu := keptP_succ hil
        rw [hp.out, e0] at hsu
        have A1 := fun w => abs_any s hs.out.1.1.1 w
        have A2 := fun w => abs_any (L.getD i 0) (hsz.out i hil).1.1 w
        by_cases hg : geB s (L.getD i 0) = true
        · rw [if_pos hg] at hsu
          have hsu2 := Lib.hid hsu
          have hS : Hid (Sized (1275 + (i + 1)) t ∧ Sized (1280 + (i + 1)) a) := ⟨sT, sA⟩
          unfold geB at hg
          obtain ⟨u, hu⟩ : ∃ u, u = L.getD i 0 := ⟨_, rfl⟩
          rw [← hu] at hc r1 r3 r5 A2 hg
          clear hu hil hs hp hsu sT sA sB r6 r7 e0
          go_wp2_with fail
          go_quiet (first | (go_at_call 37; refine quiet_same (A1 _)) | (go_at_call 37; refine quiet_same (A2 _)))
          go_wp2_with fail
          go_roundw
          case rel => first | exact ⟨i + 1, t, a, hlt, by go_num, rfl, rfl, hsu2, hS, hdr.out.more _⟩ | ((repeat apply Exists.intro); exact ⟨⟨i + 1, t, a, hlt, by go_num, rfl, rfl, hsu2, hS, hdr.out.more _⟩, rfl⟩)
          case measure => simp [intOf]; omega
        · rw [if_neg hg] at hsu
          rw [Bool.not_eq_true] at hg
          have hsu2 := Lib.hid hsu
          have hS : Hid (Sized (1275 + (i + 1)) t ∧ Sized (1280 + (i + 1)) bb) := ⟨sT, sB⟩
          unfold geB at hg
          obtain ⟨u, hu⟩ : ∃ u, u = L.getD i 0 := ⟨_, rfl⟩
          rw [← hu] at hc r1 r3 r5 A2 hg
          clear hu hil hs hp hsu sT sA sB r2 r3 r4 e0
          go_wp2_with fail
          go_quiet (first | (go_at_call 37; refine quiet_same (A1 _)) | (go_at_call 37; refine quiet_same (A2 _)))
          go_wp2_with fail
          go_roundw
          case rel => first | exact ⟨i + 1, t, bb, hlt, by go_num, rfl, rfl, hsu2, hS, hdr.out.more _⟩ | ((repeat apply Exists.intro); exact ⟨⟨i + 1, t, bb, hlt, by go_num, rfl, rfl, hsu2, hS, hdr.out.more _⟩, rfl⟩)
          case measure => simp [intOf]; omega
      · obtain rfl : i = n := by omega
        have hp2 := hp.out
        rw [List.take_of_length_le (by have := hn.out; omega)] at hp2
        obtain ⟨S1, -, R1⟩ := (hs.out.1.up (show 1275 + i ≤ 1280 + i by omega)).add hs.out.2 (by have := hl.out; have := hn.out; omega)
        have hE : Hid (addS s k = keptS L) := by show _ = _; unfold keptS; rw [hp2]
        obtain ⟨r, hr⟩ : ∃ r, r = addS s k := ⟨_, rfl⟩
        rw [← hr] at R1 hE
        clear hr hs hp hp2 S1
        go_wp2_with fail
        go_ret2
        exact ⟨by rw [← hE.out]; rfl, hdr.out⟩
  · rw [if_neg h0]
    have t : (errL L != 0) = true := by simpa using h0
    generalize errL L = er at *
    clear h0 ha hw hn hm
    go_enter Try.func20, Try.ntmps20
    go_wp2_with (go_at_call 34; ((with_reducible refine K0.mono ?_); rintro e w' ⟨rfl, rfl⟩))
    go_ret2
    exact ⟨rfl, Drawn.refl _⟩
end Go.Proofs.Ythgpdgajmpocfaa
