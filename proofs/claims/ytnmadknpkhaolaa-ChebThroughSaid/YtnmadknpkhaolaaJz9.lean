/- Proved here: what the texts Uqr, Ufc, Unr, Unb, Ubq, Spf, Ulw, Vsc prove, one behind the other. -/
import Derived.Test.YtnmadknpkhaolaaJz8
import Derived.Deep.MidRow
import Derived.Deep.WholeRow
import Derived.Laws.IdiomCopy
import Derived.BigQuiet
import Derived.Test.YtnmadknpkhaolaaJz3
import Derived.SizedLaws
import Derived.ProofKit
import Derived.OpenShut
import Derived.Carry
import Derived.Lib.SmallJoins

namespace Go.Proofs.Ytnmadknpkhaolaa
open Go.ChangeShapes Go.WideShapes Go.ChangeAt Go.RowKit Ieee.Own

theorem i64_and3 (n : Int) : bits .and .i64 n 3 = n % 4 := by
  have h3 : (BitVec.ofInt 64 3).toNat = 2 ^ 2 - 1 := by decide
  have key : (BitVec.ofInt 64 n &&& BitVec.ofInt 64 3).toNat = (n % ((2 ^ 64 : Nat) : Int)).toNat % 2 ^ 2 := by
    rw [BitVec.toNat_and, BitVec.toNat_ofInt, h3, Nat.and_two_pow_sub_one_eq_mod]
  show IntKind.i64.wrap ((BitVec.ofInt 64 n &&& BitVec.ofInt 64 3).toNat : Nat) = n % 4
  rw [key, IntKind.wrap_i64]
  omega
/-- a finite word, not -0 -/
structure Nz (b : Nat) : Prop where
  fin : FinW b
  nz : b ≠ 9223372036854775808
theorem Nz.zero {b : Nat} (h : Nz b) (h0 : V b = 0) : b = 0 := by
  have := (V_zero_iff h.fin).1 h0
  have := h.fin.1
  have := h.nz
  omega
theorem Nz.uniq {a b : Nat} (ha : Nz a) (hb : Nz b) (h : V a = V b) : a = b := by
  by_cases h0 : V a = 0
  · rw [ha.zero h0, hb.zero (by omega)]
  · exact V_inj ha.fin hb.fin h h0
theorem Nz.of {b : Nat} (h : FinW b) (h0 : V b ≠ 0) : Nz b := ⟨h, fun e => h0 (by rw [e]; decide +kernel)⟩
theorem Nz.pos {b : Nat} (h : FinW b) : Nz (posW b) := by
  refine ⟨posW_fin h, ?_⟩
  unfold posW; split
  · omega
  · assumption

theorem sub_self {a : Nat} (h : FinW a) : Ieee.double.sub a a = some 0 := by
  obtain ⟨s, m, p, e1, -, -, -, -⟩ := read_sv h
  unfold Ieee.Format.sub
  rw [e1]
  unfold Ieee.Datum.opposite Ieee.Datum.sum
  dsimp only
  have e : Ieee.signed s m (-1074 + (p : Int) - min (-1074 + (p : Int)) (-1074 + (p : Int))).toNat + Ieee.signed (!s) m (-1074 + (p : Int) - min (-1074 + (p : Int)) (-1074 + (p : Int))).toNat = 0 := by
    rw [signed_eq, signed_eq]
    cases s <;> simp <;> omega
  rw [e]
  have : (s && !s) = false := by cases s <;> rfl
  rw [if_pos rfl, this]
  rfl

/-- the rest of an angle -/
structure Rst (x r : Nat) : Prop where
  nz : Nz r
  v : V r = rq eig (V x)
theorem Rst.rest {x r : Nat} (h : Ang x) (R : Rst x r) : Rest r := rest_of h R.nz.fin R.v
theorem Rst.uniq {x r s : Nat} (R : Rst x r) (S : Rst x s) : r = s := R.nz.uniq S.nz (by rw [R.v, S.v])

theorem rq_zero {v : Int} (h : v = 0) : rq eig v = 0 ∧ kq eig v = 0 := by
  subst h; exact ⟨by decide +kernel, by decide +kernel⟩

theorem rest_nz {x q r : Nat} (h : Ang x) (hq : FinW q) (vq : V q = kq eig (V x) * 2 ^ 1072) (h1 : Ieee.double.sub x q = some r) (h2 : FinW r) (h3 : V r = rq eig (V x)) (hm : x = 9223372036854775808 → q = 9223372036854775808) : Rst x r := by
  refine ⟨?_, h3⟩
  by_cases r0 : V r = 0
  · by_cases x0 : V x = 0
    · have zx := (V_zero_iff h.fin).1 x0
      have zq := (V_zero_iff hq).1 (by rw [vq, (rq_zero x0).2]; omega)
      have hx := h.fin.1
      have hq' := hq.1
      rcases (by omega : x = 0 ∨ x = 9223372036854775808) with rfl | rfl
      · rcases (by omega : q = 0 ∨ q = 9223372036854775808) with rfl | rfl
        · have : Ieee.double.sub 0 0 = some 0 := by decide +kernel
          rw [this] at h1; cases h1; exact ⟨h2, by omega⟩
        · have : Ieee.double.sub 0 9223372036854775808 = some 0 := by decide +kernel
          rw [this] at h1; cases h1; exact ⟨h2, by omega⟩
      · rw [hm rfl] at h1
        have : Ieee.double.sub 9223372036854775808 9223372036854775808 = some 0 := by decide +kernel
        rw [this] at h1; cases h1; exact ⟨h2, by omega⟩
    · have e : V x = V q := by
        have : V x = 2 * eig * kq eig (V x) + rq eig (V x) := by unfold rq; omega
        rw [vq, ← eig2, Int.mul_comm (kq eig (V x))]
        omega
      have := V_inj h.fin hq e x0
      subst this
      rw [sub_self h.fin] at h1
      cases h1; exact ⟨h2, by omega⟩
  · exact Nz.of h2 r0

/-! ### the library's calls -/
theorem ext_whole {name : String} (way : Ieee.Toward) {b : Nat} (h : FinW b) (P : Program) (w : World) : (Extern.MathFloor.toIntegral name way #[.float .f64 b]).run P w = .ok (.float .f64 (wholeW way b)) w := by
  obtain ⟨s, m, p, e1, -, -, -, -⟩ := read_sv h
  have e2 : FloatKind.f64.decode b = .number s m (-1074 + p) := e1
  have key : ∀ d, FloatKind.f64.decode b = d → (∃ s m p, d = .number s m p) → (Extern.MathFloor.toIntegral name way #[.float .f64 b]).run P w = .ok (.float .f64 (FloatKind.f64.encode (d.integral way))) w := by
    intro d hd ⟨s, m, p, hn⟩
    subst hn
    delta Extern.MathFloor.toIntegral
    show Sem.run P (Extern.MathFloor.toIntegral.match_1 (fun _ => Sem Value) (FloatKind.f64.decode b) _ _) w = _
    rw [hd]
    rfl
  rw [key _ e2 ⟨_, _, _, rfl⟩]
  unfold wholeW
  rw [e1]
  rfl
set_option maxRecDepth 100000 in
theorem xeven {b : Nat} (h : FinW b) (w : World) : (callFunc 110 #[.float .f64 b]).run Try.prog w = .ok (.value (.float .f64 (wholeW .even b))) w := by
  rw [run_callFunc_extern (e := Extern.MathFloor.toIntegral "math.RoundToEven" .even) Try.func110 (by kernel_rfl) (by kernel_rfl) (by kernel_rfl) (by kernel_rfl), ext_whole _ h]; rfl
set_option maxRecDepth 100000 in
theorem xfloor {b : Nat} (h : FinW b) (w : World) : (callFunc 85 #[.float .f64 b]).run Try.prog w = .ok (.value (.float .f64 (wholeW .down b))) w := by
  rw [run_callFunc_extern (e := Extern.MathFloor.toIntegral "math.archFloor" .down) Try.func85 (by kernel_rfl) (by kernel_rfl) (by kernel_rfl) (by kernel_rfl), ext_whole _ h]; rfl
set_option maxRecDepth 100000 in
theorem floor_run {b : Nat} (h : FinW b) (w : World) : Calls Try.prog 68 #[.float .f64 b] w fun e w' => e = .returned (.float .f64 (wholeW .down b)) ∧ w = w' := by
  have X := fun w => xfloor h w
  clear h
  go_enter Try.func68, Try.ntmps68
  go_wp2_with (simp only [X])
  go_ret
  exact ⟨rfl, rfl⟩
/-- a whole number as an int64 -/
theorem to_int64 {b : Nat} {K : Int} (h : FinW b) (hv : V b = K * 2 ^ 1074) (hK : K.natAbs ≤ 2 ^ 62) : floatToIntVal .f64 b .i64 = some K := by
  unfold floatToIntVal
  have : (FloatKind.f64.decode b).toInt .zero = some K := int_of h hv
  rw [this]
  have e1 : IntKind.i64.min = -9223372036854775808 := rfl
  have e2 : IntKind.i64.max = 9223372036854775807 := rfl
  dsimp only
  rw [if_pos (by omega)]
set_option maxRecDepth 100000 in
theorem xconv {b : Nat} {K : Int} (h : floatToIntVal .f64 b .i64 = some K) (w : World) : (convert 30 2 (.float .f64 b)).run Try.prog w = .ok (.int .i64 K) w :=
  run_convert_float_int w 30 2 .f64 .i64 b K (by rw [Try.underlying30]; rfl) Try.underlying2 h

theorem four_bd {x : Nat} (h : Ang x) : (4 * V x).natAbs ≤ 2 ^ 1126 := by
  have a := h.abs
  have b := two_dbl (m := 1114) (n := 1115) (by omega)
  have c := two_dbl (m := 1115) (n := 1116) (by omega)
  have d := two_le (a := 1116) (b := 1126) (by omega)
  omega
theorem even_four {x : Nat} (h : Ang x) : FinW (wholeW .even (mX fourW x)) ∧ V (wholeW .even (mX fourW x)) = kq eig (V x) * 2 ^ 1074 := by
  obtain ⟨-, f, v⟩ := four_x h
  have := even_spec f (by rw [v]; exact four_bd h)
  rw [v] at this
  have e : (2 : Int) ^ 1073 = 4 * eig := by decide +kernel
  rw [e, kq_scale eig_pos] at this
  exact this

set_option maxRecDepth 100000 in
/-- the program's quarter and rest -/
theorem uquarter_run {x : Nat} (h : Ang x) : ∃ r, Rst x r ∧ ∀ w, Calls Try.prog 98 #[.float .f64 x] w fun e w' => e = .returned (.tuple #[.int .i64 (kq eig (V x) % 4), .float .f64 r]) ∧ w = w' := by
  obtain ⟨o1, f1, v1⟩ := four_x h
  obtain ⟨f2, v2⟩ := even_four h
  have bK := kq_bd h
  obtain ⟨q, o3, f3, v3⟩ := quarter_div f2 v2 bK
  obtain ⟨r, o4, f4, v4⟩ := rest_words h f3 v3
  have C := to_int64 f2 v2 (by omega)
  have R : Rst x r := rest_nz h f3 v3 o4 f4 v4 (fun e => by
    subst e
    have e1 : mX fourW 9223372036854775808 = 9223372036854775808 := by decide +kernel
    have e2 : wholeW .even 9223372036854775808 = 9223372036854775808 := by decide +kernel
    have e3 : Ieee.double.div 9223372036854775808 fourW = some 9223372036854775808 := by decide +kernel
    rw [e1, e2, e3] at o3
    cases o3; rfl)
  refine ⟨r, R, fun w => ?_⟩
  have X := fun w => xeven f1 w
  have r1 := run_mul _ _ _ o1
  have r3 := run_div _ _ _ o3
  have r4 := run_sub _ _ _ o4
  have c1 := fun w => xconv C w
  have a3 := i64_and3 (kq eig (V x))
  unfold fourW at *
  clear o1 f1 v1 f2 v2 bK o3 f3 v3 o4 f4 v4 C R h
  generalize wholeW .even (mX 4616189618054758400 x) = y at *
  generalize mX 4616189618054758400 x = z at *
  generalize kq eig (V x) = K at *
  go_enter Try.func98, Try.ntmps98
  go_wp2_with (simp only [X])
  go_ret2
  exact ⟨rfl, rfl⟩

end Go.Proofs.Ytnmadknpkhaolaa

namespace Go.Proofs.Ytnmadknpkhaolaa
open Go.ChangeShapes Go.WideShapes Go.ChangeAt Go.RowKit Ieee.Own

def flV (L : List Nat) : List Value := L.map (Value.float .f64)
/-- the program's factors, by powers -/
def facL : List Nat := [0, 0, 13826050856027422720, 13818544856648471893, 4586165620538955093, 4575957461383581969, 13787419979223755799, 13774824197408792602, 4537941361671905306, 4523617214285662004, 13732177094651715420, 13716528800881525988, 4477122120089393304, 4460272573143870729, 13666517717442657437, 13648976655441704991, 4407590220077447199, 4389130328383466826]
theorem flV_len (L : List Nat) : (flV L).length = L.length := by simp [flV]
theorem fl_at {w : World} {g : Nat} {L : List Nat} (hc : w.rangeAt g 0 (flV L)) (i : Nat) (hi : i < L.length) : w.cell? ⟨g, i, none⟩ = some (.float .f64 (L.getD i 0)) := by
  have := hc i (.float .f64 (L.getD i 0)) (by simp [flV, List.getD, hi])
  rwa [Nat.zero_add] at this
theorem fl_one (L : List Nat) : (flV L).toArray.all (·.oneCell') = true := by
  rw [Array.all_eq_true_iff_forall_mem]
  intro v hv
  unfold flV at hv
  simp at hv
  obtain ⟨i, _, rfl⟩ := hv
  rfl
theorem range_alloc (w : World) (vs : List Value) (t : TypeId) : (w.alloc (.cells vs.toArray t)).rangeAt w.heap.size 0 vs := by
  intro j v hv
  rw [World.cell?_alloc_at _ _ _ _ rfl]
  simpa using hv
set_option maxRecDepth 100000 in
theorem ufac_store (L : List Nat) (hL : L.length = 18) (w : World) : (storeCells ⟨w.heap.size, 0, none⟩ (flV L)).run Try.prog (w.alloc (.cells #[.float .f64 0, .float .f64 0, .float .f64 0, .float .f64 0, .float .f64 0, .float .f64 0, .float .f64 0, .float .f64 0, .float .f64 0, .float .f64 0, .float .f64 0, .float .f64 0, .float .f64 0, .float .f64 0, .float .f64 0, .float .f64 0, .float .f64 0, .float .f64 0] 123)) = .ok () (w.alloc (.cells (flV L).toArray 123)) :=
  run_storeCells_new (P := Try.prog) w 123 _ (flV L).toArray (by rw [List.size_toArray, flV_len, hL]; kernel_rfl) (by simp [flV_len, hL]) (fl_one L)
set_option maxRecDepth 100000 in
theorem ufac_run (w : World) : Calls Try.prog 118 #[] w fun e w' => e = .returned (.agg (flV facL).toArray) ∧ Below w.heap.size w w' := by
  obtain ⟨L, hL⟩ : ∃ L, L = facL := ⟨_, rfl⟩
  have hl : L.length = 18 := by rw [hL]; rfl
  have hsn := ufac_store L hl w
  have ev : #[Value.float FloatKind.f64 0, Value.float FloatKind.f64 0, Value.float FloatKind.f64 13826050856027422720, Value.float FloatKind.f64 13818544856648471893, Value.float FloatKind.f64 4586165620538955093, Value.float FloatKind.f64 4575957461383581969, Value.float FloatKind.f64 13787419979223755799, Value.float FloatKind.f64 13774824197408792602, Value.float FloatKind.f64 4537941361671905306, Value.float FloatKind.f64 4523617214285662004, Value.float FloatKind.f64 13732177094651715420, Value.float FloatKind.f64 13716528800881525988, Value.float FloatKind.f64 4477122120089393304, Value.float FloatKind.f64 4460272573143870729, Value.float FloatKind.f64 13666517717442657437, Value.float FloatKind.f64 13648976655441704991, Value.float FloatKind.f64 4407590220077447199, Value.float FloatKind.f64 4389130328383466826] = (flV L).toArray := by rw [hL]; rfl
  rw [← hL]
  clear hL
  have hfl : (flV L).length = L.length := flV_len L
  rw [hl] at hfl
  replace hl := Lib.hid hl
  go_enter Try.func118, Try.ntmps118
  go_wp2_with fail
  (try simp only [Exit.inBlock, Exit.then])
  clear hsn ev
  refine bodyPost_ret (v := .agg (flV L).toArray) ?_ rfl ⟨rfl, (Below.refl _ w).alloc (Nat.le_refl _) _⟩
  rw [results_cell1 rfl]
  have hg := run_loadVar_mid (P := Try.prog) (w.alloc (.cells (flV L).toArray 123)) w.heap.size 0 123 (flV L) _ (range_alloc w (flV L) 123) Try.underlying123 rfl (by rw [flV_len, hl.out]; kernel_rfl)
  exact hg
end Go.Proofs.Ytnmadknpkhaolaa

namespace Go.Proofs.Ytnmadknpkhaolaa
open Go.ChangeShapes Go.WideShapes Go.ChangeAt Go.RowKit Ieee.Own

/-- one step of Horner's sum: the i-th from behind -/
theorem hor_back {z : Nat} (hz : Wd z 470 1074) : ∀ (W : List Nat) (i : Nat), Grow W → i + 1 < W.length →
    Ieee.double.mul z (horW z (W.drop (W.length - 1 - i))) = some (mX z (horW z (W.drop (W.length - 1 - i)))) ∧
    Ieee.double.add (W.getD (W.length - 2 - i) 0) (mX z (horW z (W.drop (W.length - 1 - i)))) = some (horW z (W.drop (W.length - 2 - i)))
  | [], i, _, h => by simp at h
  | [a], i, _, h => by simp at h
  | a :: b :: cs, i, g, h => by
    by_cases e : i + 2 = (a :: b :: cs).length
    · have e1 : (a :: b :: cs).length - 1 - i = 1 := by omega
      have e2 : (a :: b :: cs).length - 2 - i = 0 := by omega
      rw [e1, e2]
      have := hor_some hz g
      simpa using this
    · have ih := hor_back hz (b :: cs) i g.2.2.2 (by simp at h e ⊢; omega)
      have e1 : (a :: b :: cs).length - 1 - i = (b :: cs).length - 1 - i + 1 := by simp at h e ⊢; omega
      have e2 : (a :: b :: cs).length - 2 - i = (b :: cs).length - 2 - i + 1 := by simp at h e ⊢; omega
      rw [e1, e2, List.drop_succ_cons, List.drop_succ_cons, List.getD_cons_succ]
      exact ih

set_option maxHeartbeats 1000000 in
set_option maxRecDepth 100000 in
theorem useries17 {z : Nat} (hz : Wd z 470 1074) (w : World) : Calls Try.prog 111 #[.int .i64 17, .float .f64 z] w fun e w' => e = .returned (.float .f64 (horW z sinW)) ∧ Below w.heap.size w w' := by
  have F := Lib.hid (fun w => ufac_run w)
  obtain ⟨L, hL⟩ : ∃ L, L = facL := ⟨_, rfl⟩
  have len : L.length = 18 := by rw [hL]; rfl
  have at17 : L.getD 17 0 = horW z (sinW.drop 7) := by rw [hL]; rfl
  have step : Hid (∀ i, i < 7 → Ieee.double.mul z (horW z (sinW.drop (7 - i))) = some (mX z (horW z (sinW.drop (7 - i)))) ∧ Ieee.double.add (L.getD (15 - 2 * i) 0) (mX z (horW z (sinW.drop (7 - i)))) = some (horW z (sinW.drop (6 - i)))) := by
    intro i hi
    have := hor_back hz sinW i grow_sin (by show i + 1 < 8; omega)
    have e : L.getD (15 - 2 * i) 0 = sinW.getD (6 - i) 0 := by
      rw [hL]
      have : i = 0 ∨ i = 1 ∨ i = 2 ∨ i = 3 ∨ i = 4 ∨ i = 5 ∨ i = 6 := by omega
      rcases this with rfl | rfl | rfl | rfl | rfl | rfl | rfl <;> rfl
    rw [e]; exact this
  have hsn := ufac_store L len
  have at0 : horW z sinW = horW z (sinW.drop 0) := rfl
  rw [at0]
  rw [← hL] at F
  generalize hW : sinW = W at *
  clear hL hz hW at0
  have hfl : (flV L).length = L.length := flV_len L
  rw [len] at hfl
  replace len := Lib.hid len
  go_enter Try.func111, Try.ntmps111
  go_wp2_with fail
  refine (F.out w).mono ?_
  rintro _ w1 ⟨rfl, hb1⟩
  have R := Lib.hid (range_alloc w1 (flV L) 123)
  have hb2 := Lib.hid (hb1.alloc hb1.size (.cells (flV L).toArray 123))
  have c17 : (w1.alloc (.cells (flV L).toArray 123)).cell? ⟨w1.heap.size, 17, none⟩ = some (.float .f64 (horW z (W.drop 7))) := by
    have := fl_at (range_alloc w1 (flV L) 123) 17 (by rw [len.out]; omega)
    rw [at17] at this
    exact this
  clear F hb1 at17
  go_wp2_with fail
  clear hsn hfl c17
  generalize w1.alloc _ = wr at *
  generalize w1.heap.size = g at *
  go_loop [6, 12] (fun s6 s12 => ∃ i : Nat, i ≤ 7 ∧ s6 = .float .f64 (horW z (W.drop (7 - i))) ∧ s12 = .int .i64 i) (fun _ s12 => 7 - (intOf s12).toNat)
  case atStart => exact ⟨0, by omega, rfl, rfl⟩
  case round =>
    obtain ⟨i, hi, rfl, rfl⟩ := hrel
    by_cases hlt : i < 7
    · obtain ⟨o1, o2⟩ := step.out i hlt
      have r1 := run_mul _ _ _ o1
      have r2 := run_add _ _ _ o2
      have cx := fl_at R.out (15 - 2 * i) (by have := len.out; omega)
      have p1 : 7 - (i + 1) = 6 - i := by omega
      generalize L.getD (15 - 2 * i) 0 = a at *
      generalize mX z (horW z (W.drop (7 - i))) = m at *
      generalize horW z (W.drop (7 - i)) = p at *
      generalize hq : horW z (W.drop (6 - i)) = q at *
      replace hq := Lib.hid hq
      replace p1 := Lib.hid p1
      clear o1 o2
      go_wp2_with fail
      exact ⟨⟨i + 1, by omega, by rw [p1.out, hq.out], by simp⟩, by simp [intOf]; omega⟩
    · obtain rfl : i = 7 := by omega
      go_wp2_with fail
      go_ret
      exact ⟨rfl, hb2.out⟩
set_option maxHeartbeats 1000000 in
set_option maxRecDepth 100000 in
theorem useries16 {z : Nat} (hz : Wd z 470 1074) (w : World) : Calls Try.prog 111 #[.int .i64 16, .float .f64 z] w fun e w' => e = .returned (.float .f64 (horW z cosW)) ∧ Below w.heap.size w w' := by
  have F := Lib.hid (fun w => ufac_run w)
  obtain ⟨L, hL⟩ : ∃ L, L = facL := ⟨_, rfl⟩
  have len : L.length = 18 := by rw [hL]; rfl
  have at16 : L.getD 16 0 = horW z (cosW.drop 7) := by rw [hL]; rfl
  have step : Hid (∀ i, i < 7 → Ieee.double.mul z (horW z (cosW.drop (7 - i))) = some (mX z (horW z (cosW.drop (7 - i)))) ∧ Ieee.double.add (L.getD (14 - 2 * i) 0) (mX z (horW z (cosW.drop (7 - i)))) = some (horW z (cosW.drop (6 - i)))) := by
    intro i hi
    have := hor_back hz cosW i grow_cos (by show i + 1 < 8; omega)
    have e : L.getD (14 - 2 * i) 0 = cosW.getD (6 - i) 0 := by
      rw [hL]
      have : i = 0 ∨ i = 1 ∨ i = 2 ∨ i = 3 ∨ i = 4 ∨ i = 5 ∨ i = 6 := by omega
      rcases this with rfl | rfl | rfl | rfl | rfl | rfl | rfl <;> rfl
    rw [e]; exact this
  have hsn := ufac_store L len
  have at0 : horW z cosW = horW z (cosW.drop 0) := rfl
  rw [at0]
  rw [← hL] at F
  generalize hW : cosW = W at *
  clear hL hz hW at0
  have hfl : (flV L).length = L.length := flV_len L
  rw [len] at hfl
  replace len := Lib.hid len
  go_enter Try.func111, Try.ntmps111
  go_wp2_with fail
  refine (F.out w).mono ?_
  rintro _ w1 ⟨rfl, hb1⟩
  have R := Lib.hid (range_alloc w1 (flV L) 123)
  have hb2 := Lib.hid (hb1.alloc hb1.size (.cells (flV L).toArray 123))
  have c16 : (w1.alloc (.cells (flV L).toArray 123)).cell? ⟨w1.heap.size, 16, none⟩ = some (.float .f64 (horW z (W.drop 7))) := by
    have := fl_at (range_alloc w1 (flV L) 123) 16 (by rw [len.out]; omega)
    rw [at16] at this
    exact this
  clear F hb1 at16
  go_wp2_with fail
  clear hsn hfl c16
  generalize w1.alloc _ = wr at *
  generalize w1.heap.size = g at *
  go_loop [6, 12] (fun s6 s12 => ∃ i : Nat, i ≤ 7 ∧ s6 = .float .f64 (horW z (W.drop (7 - i))) ∧ s12 = .int .i64 i) (fun _ s12 => 7 - (intOf s12).toNat)
  case atStart => exact ⟨0, by omega, rfl, rfl⟩
  case round =>
    obtain ⟨i, hi, rfl, rfl⟩ := hrel
    by_cases hlt : i < 7
    · obtain ⟨o1, o2⟩ := step.out i hlt
      have r1 := run_mul _ _ _ o1
      have r2 := run_add _ _ _ o2
      have cx := fl_at R.out (14 - 2 * i) (by have := len.out; omega)
      have p1 : 7 - (i + 1) = 6 - i := by omega
      generalize L.getD (14 - 2 * i) 0 = a at *
      generalize mX z (horW z (W.drop (7 - i))) = m at *
      generalize horW z (W.drop (7 - i)) = p at *
      generalize hq : horW z (W.drop (6 - i)) = q at *
      replace hq := Lib.hid hq
      replace p1 := Lib.hid p1
      clear o1 o2
      go_wp2_with fail
      exact ⟨⟨i + 1, by omega, by rw [p1.out, hq.out], by simp⟩, by simp [intOf]; omega⟩
    · obtain rfl : i = 7 := by omega
      go_wp2_with fail
      go_ret
      exact ⟨rfl, hb2.out⟩
end Go.Proofs.Ytnmadknpkhaolaa

namespace Go.Proofs.Ytnmadknpkhaolaa
open Go.ChangeShapes Go.WideShapes Go.ChangeAt Go.RowKit Ieee.Own

set_option maxHeartbeats 1000000 in
set_option maxRecDepth 100000 in
theorem unear_run {r : Nat} (h : Rest r) (w : World) : Calls Try.prog 99 #[.float .f64 r] w fun e w' => e = .returned (.tuple #[.float .f64 (sinX r), .float .f64 (cosX r)]) ∧ Below w.heap.size w w' := by
  have N := h.near
  have S17 := Lib.hid (fun w => useries17 N.zw w)
  have S16 := Lib.hid (fun w => useries16 N.zw w)
  have r1 := run_mul _ _ _ N.y
  have r2 := run_mul _ _ _ N.z
  have r3 := run_mul _ _ _ N.zp
  have r4 := run_mul _ _ _ N.yzp
  have r5 := run_add _ _ _ N.s
  have r6 := run_mul _ _ _ N.zq
  have r7 := run_add _ _ _ N.c
  have e1 : pW r = horW (zW r) sinW := rfl
  have e2 : qW r = horW (zW r) cosW := rfl
  rw [← e1] at S17
  rw [← e2] at S16
  clear N e1 e2 h
  unfold tauW oneW at *
  generalize mX (yW r) (mX (zW r) (pW r)) = a at *
  generalize mX (zW r) (pW r) = b at *
  generalize mX (zW r) (qW r) = c at *
  generalize pW r = p at *
  generalize qW r = q at *
  generalize yW r = y at *
  generalize zW r = z at *
  generalize sinX r = s at *
  generalize cosX r = t at *
  go_enter Try.func99, Try.ntmps99
  go_wp2_with fail
  refine (S17.out w).mono ?_
  rintro _ w1 ⟨rfl, hb1⟩
  replace hb1 := Lib.hid hb1
  go_wp2_with fail
  refine (S16.out w1).mono ?_
  rintro _ w2 ⟨rfl, hb2⟩
  have hb := Lib.hid (hb1.out.trans (hb2.mono hb1.out.size))
  clear hb1 hb2
  go_wp2_with fail
  go_ret2
  exact ⟨rfl, hb.out⟩

end Go.Proofs.Ytnmadknpkhaolaa

namespace Go.Proofs.Ytnmadknpkhaolaa
open Go.ChangeShapes Go.WideShapes Go.ChangeAt Go.RowKit Ieee.Own

/-- by quarters, the values -/
def vq (k S C : Int) : Int := if k % 4 = 0 then S else if k % 4 = 1 then C else if k % 4 = 2 then -S else -C
/-- the sine and the cosine, as words -/
structure Trig (x s c : Nat) : Prop where
  ex : ∃ r, Rst x r ∧ V s = vq (kq eig (V x)) (V (sinX r)) (V (cosX r)) ∧ V c = vq (kq eig (V x) + 1) (V (sinX r)) (V (cosX r))
  sz : Nz s
  cz : Nz c
theorem Trig.uniq {x s c t d : Nat} (T : Trig x s c) (U : Trig x t d) : s = t ∧ c = d := by
  obtain ⟨r, R, a, b⟩ := T.ex
  obtain ⟨q, R', a', b'⟩ := U.ex
  obtain rfl := R.uniq R'
  exact ⟨T.sz.uniq U.sz (by rw [a, a']), T.cz.uniq U.cz (by rw [b, b'])⟩

def negN (x : Nat) : Nat := (Ieee.double.sub 0 x).getD 0
theorem negN_spec {x : Nat} (h : FinW x) : Ieee.double.sub 0 x = some (negN x) ∧ Nz (negN x) ∧ V (negN x) = -V x := by
  have e : V 0 - V x = -V x := by rw [V_zero]; omega
  have R : RN (V 0 - V x) = -V x := by rw [e]; exact RN_exact (Rep_neg (Rep_V x))
  obtain ⟨r, h1, h2, h3⟩ := sub_spec zero_fin h (by rw [R, Int.natAbs_neg]; exact fin_top h)
  have er : negN x = r := by unfold negN; rw [h1]; rfl
  rw [er]
  rw [R] at h3
  refine ⟨h1, ?_, h3⟩
  by_cases q : V x = 0
  · have z := (V_zero_iff h).1 q
    have := h.1
    rcases (by omega : x = 0 ∨ x = 9223372036854775808) with rfl | rfl
    · have : Ieee.double.sub 0 0 = some 0 := by decide +kernel
      rw [this] at h1; cases h1; exact ⟨zero_fin, by omega⟩
    · have : Ieee.double.sub 0 9223372036854775808 = some 0 := by decide +kernel
      rw [this] at h1; cases h1; exact ⟨zero_fin, by omega⟩
  · exact Nz.of h2 (by omega)
set_option maxRecDepth 100000 in
theorem negated_run {x : Nat} (h : FinW x) (w : World) : Calls Try.prog 101 #[.float .f64 x] w fun e w' => e = .returned (.float .f64 (negN x)) ∧ w = w' := by
  have r1 := run_sub _ _ _ (negN_spec h).1
  clear h
  generalize negN x = y at *
  go_enter Try.func101, Try.ntmps101
  go_wp2
  go_ret
  exact ⟨rfl, rfl⟩

/-- the words by quarters, as the program has them -/
def sq4 (k : Int) (s c : Nat) : Nat := if k = 0 then s else if k = 1 then c else if k = 2 then negN s else negN c
def cq4 (k : Int) (s c : Nat) : Nat := if k = 0 then c else if k = 1 then negN s else if k = 2 then negN c else s

set_option maxRecDepth 100000 in
theorem byq_run {s c : Nat} (hs : FinW s) (hc : FinW c) (k : Int) (hk : 0 ≤ k ∧ k < 4) (w : World) :
    Calls Try.prog 100 #[.int .i64 k, .float .f64 s, .float .f64 c, .func (.func 101) #[] #[]] w fun e w' => e = .returned (.tuple #[.float .f64 (sq4 k s c), .float .f64 (cq4 k s c)]) ∧ w = w' := by
  have N1 := fun w => negated_run hs w
  have N2 := fun w => negated_run hc w
  clear hs hc
  have : k = 0 ∨ k = 1 ∨ k = 2 ∨ k = 3 := by omega
  clear hk
  rcases this with rfl | rfl | rfl | rfl
  · have e1 : sq4 0 s c = s := rfl
    have e2 : cq4 0 s c = c := rfl
    rw [e1, e2]
    clear e1 e2
    generalize negN s = u at *
    generalize negN c = v at *
    go_enter Try.func100, Try.ntmps100
    go_wp2_with fail
    go_ret2
    exact ⟨rfl, rfl⟩
  · have e1 : sq4 1 s c = c := rfl
    have e2 : cq4 1 s c = negN s := rfl
    rw [e1, e2]
    clear e1 e2
    generalize negN s = u at *
    generalize negN c = v at *
    go_enter Try.func100, Try.ntmps100
    go_wp2_with (first | (go_at_call 101; ((with_reducible refine (N1 _).mono ?_); rintro e w' ⟨rfl, rfl⟩)) | (go_at_call 101; ((with_reducible refine (N2 _).mono ?_); rintro e w' ⟨rfl, rfl⟩)))
    go_ret2
    exact ⟨rfl, rfl⟩
  · have e1 : sq4 2 s c = negN s := rfl
    have e2 : cq4 2 s c = negN c := rfl
    rw [e1, e2]
    clear e1 e2
    generalize negN s = u at *
    generalize negN c = v at *
    go_enter Try.func100, Try.ntmps100
    go_wp2_with (first | (go_at_call 101; ((with_reducible refine (N1 _).mono ?_); rintro e w' ⟨rfl, rfl⟩)) | (go_at_call 101; ((with_reducible refine (N2 _).mono ?_); rintro e w' ⟨rfl, rfl⟩)))
    go_ret2
    exact ⟨rfl, rfl⟩
  · have e1 : sq4 3 s c = negN c := rfl
    have e2 : cq4 3 s c = s := rfl
    rw [e1, e2]
    clear e1 e2
    generalize negN s = u at *
    generalize negN c = v at *
    go_enter Try.func100, Try.ntmps100
    go_wp2_with (first | (go_at_call 101; ((with_reducible refine (N1 _).mono ?_); rintro e w' ⟨rfl, rfl⟩)) | (go_at_call 101; ((with_reducible refine (N2 _).mono ?_); rintro e w' ⟨rfl, rfl⟩)))
    go_ret2
    exact ⟨rfl, rfl⟩

theorem ent_sin (r : Nat) (h : Nz r) (H : Rest r) : Nz (sinX r) := by
  have N := H.near
  by_cases r0 : V r = 0
  · have := h.zero r0
    subst this
    have : sinX 0 = 0 := by decide +kernel
    rw [this]; exact ⟨zero_fin, by omega⟩
  · refine Nz.of N.sw.fin fun e => ?_
    have g := H.sin_far
    have q : Q (sinX r) = 0 := by unfold Q; rw [e]; decide +kernel
    rw [q] at g
    rcases ab_eq (Q r) with ⟨q1, -, q2⟩ | ⟨q1, -, q2⟩
    · have : Q r = 0 := by grind
      exact r0 (Q_zero this)
    · have : Q r = 0 := by grind
      exact r0 (Q_zero this)
theorem ent_cos (r : Nat) (H : Rest r) : Nz (cosX r) := by
  refine Nz.of H.near.cw.fin fun e => ?_
  have g := H.cos_far
  have q : Q (cosX r) = 0 := by unfold Q; rw [e]; decide +kernel
  rw [q] at g
  exact absurd g (by decide +kernel)

theorem Trig.own {x r : Nat} (h : Ang x) (R : Rst x r) : Trig x (sq4 (kq eig (V x) % 4) (sinX r) (cosX r)) (cq4 (kq eig (V x) % 4) (sinX r) (cosX r)) := by
  have H := R.rest h
  have s := ent_sin r R.nz H
  have c := ent_cos r H
  have ns := negN_spec s.fin
  have nc := negN_spec c.fin
  have : kq eig (V x) % 4 = 0 ∨ kq eig (V x) % 4 = 1 ∨ kq eig (V x) % 4 = 2 ∨ kq eig (V x) % 4 = 3 := by omega
  rcases this with k | k | k | k
  · rw [k]
    refine ⟨⟨r, R, ?_, ?_⟩, s, c⟩
    · unfold vq; rw [if_pos k]; rfl
    · unfold vq; rw [if_neg (by omega), if_pos (by omega)]; rfl
  · rw [k]
    refine ⟨⟨r, R, ?_, ?_⟩, c, ns.2.1⟩
    · unfold vq; rw [if_neg (by omega), if_pos (by omega)]; rfl
    · unfold vq; rw [if_neg (by omega), if_neg (by omega), if_pos (by omega)]; exact ns.2.2
  · rw [k]
    refine ⟨⟨r, R, ?_, ?_⟩, ns.2.1, nc.2.1⟩
    · unfold vq; rw [if_neg (by omega), if_neg (by omega), if_pos (by omega)]; exact ns.2.2
    · unfold vq; rw [if_neg (by omega), if_neg (by omega), if_neg (by omega)]; exact nc.2.2
  · rw [k]
    refine ⟨⟨r, R, ?_, ?_⟩, nc.2.1, s⟩
    · unfold vq; rw [if_neg (by omega), if_neg (by omega), if_neg (by omega)]; exact nc.2.2
    · unfold vq; rw [if_pos (by omega)]; rfl

/-- three results: two numbers, the error's number -/
def ffi' (a b : Nat) (c : Int) : Value := .tuple #[.float .f64 a, .float .f64 b, .int .i64 c]
set_option maxHeartbeats 1000000 in
set_option maxRecDepth 100000 in
theorem uboth_ok {x : Nat} (hx : x < 18446744073709551616) (h0 : errA x = 0) : ∃ s c, Trig x s c ∧ ∀ w, Calls Try.prog 81 #[.float .f64 x] w fun e w' => e = .returned (ffi' s c 0) ∧ Below w.heap.size w w' := by
  have h := errA_ang hx h0
  obtain ⟨r, R, C2⟩ := uquarter_run h
  have C1 := fun w => ucheck_run x hx w
  have H := R.rest h
  have C3 := Lib.hid (fun w => unear_run H w)
  have N := H.near
  have C4 := fun w => byq_run N.sw.fin N.cw.fin (kq eig (V x) % 4) (by omega) w
  refine ⟨_, _, Trig.own h R, fun w => ?_⟩
  rw [h0] at C1
  unfold ffi'
  clear R h N H h0 hx
  generalize sq4 (kq eig (V x) % 4) (sinX r) (cosX r) = s at *
  generalize cq4 (kq eig (V x) % 4) (sinX r) (cosX r) = c at *
  generalize kq eig (V x) % 4 = k at *
  generalize sinX r = a at *
  generalize cosX r = b at *
  go_enter Try.func81, Try.ntmps81
  go_wp2_with (first | (go_at_call 97; ((with_reducible refine (C1 _).mono ?_); rintro e w' ⟨rfl, rfl⟩)) | (go_at_call 98; ((with_reducible refine (C2 _).mono ?_); rintro e w' ⟨rfl, rfl⟩)))
  refine (C3.out w).mono ?_
  rintro _ w1 ⟨rfl, hb1⟩
  replace hb1 := Lib.hid hb1
  clear C3
  go_wp2_with (go_at_call 100; ((with_reducible refine (C4 _).mono ?_); rintro e w' ⟨rfl, rfl⟩))
  go_ret3
  exact ⟨rfl, hb1.out⟩
set_option maxRecDepth 100000 in
theorem uboth_no {x : Nat} (hx : x < 18446744073709551616) (h0 : errA x ≠ 0) (w : World) : Calls Try.prog 81 #[.float .f64 x] w fun e w' => e = .returned (ffi' 0 0 3) ∧ Below w.heap.size w w' := by
  have C1 := fun w => ucheck_run x hx w
  have e : errA x = 3 := by rcases errA_cases x with h | h <;> omega
  rw [e] at C1
  unfold ffi'
  clear hx h0 e
  have B := Lib.hid (Below.refl w.heap.size w)
  go_enter Try.func81, Try.ntmps81
  go_wp2_with (go_at_call 97; ((with_reducible refine (C1 _).mono ?_); rintro e w' ⟨rfl, rfl⟩))
  go_ret3
  exact ⟨rfl, B.out⟩

/-! ### the reference -/
end Go.Proofs.Ytnmadknpkhaolaa

namespace Go.Proofs.Ytnmadknpkhaolaa
open Go.ChangeShapes Go.WideShapes Go.ChangeAt Go.RowKit Ieee.Own

theorem float_cell {H : Type} {enc : TypeId × Value → H} {P : Program} {w : World} {base : Nat} {spare : Nat → Bool} {held : Bool} {n : Nat} {e : TypeId} {v : Value} {x : DataW H × List MemPlace}
    (he : P.underlying e = some (.float .f64)) (h : DataW.trod enc P w base spare held n e [v] = some x) : ∃ b, v = .float .f64 b ∧ b < 18446744073709551616 := by
  cases n with
  | zero => simp [DataW.trod] at h
  | succ n =>
    simp only [DataW.trod, he] at h
    cases v with
    | float k b =>
      cases k with
      | f64 => exact ⟨b, rfl, by
          by_cases hw : (Lit.float .f64 b).wf = true
          · simpa only [Lit.wf, decide_eq_true_eq] using hw
          · simp [hw] at h⟩
      | f32 => simp at h
    | _ => simp at h
end Go.Proofs.Ytnmadknpkhaolaa

namespace Go.Proofs.Ytnmadknpkhaolaa
open Go.ChangeShapes Go.WideShapes Go.ChangeAt Go.RowKit Ieee.Own

/-- Both, whatever the number: two words, the error's number -/
structure BothR (x s c : Nat) (k : Int) : Prop where
  err : k = errA x
  ok : k = 0 → Trig x s c
  no : k ≠ 0 → s = 0 ∧ c = 0
theorem BothR.uniq {x s c t d : Nat} {k l : Int} (B : BothR x s c k) (D : BothR x t d l) : s = t ∧ c = d ∧ k = l := by
  have e : k = l := by rw [B.err, D.err]
  subst e
  by_cases h : k = 0
  · obtain ⟨a, b⟩ := (B.ok h).uniq (D.ok h); exact ⟨a, b, rfl⟩
  · have a := B.no h
    have b := D.no h
    exact ⟨by omega, by omega, rfl⟩
set_option maxRecDepth 100000 in
theorem uboth_run {x : Nat} (hx : x < 18446744073709551616) : ∃ s c k, BothR x s c k ∧ ∀ w, Calls Try.prog 81 #[.float .f64 x] w fun e w' => e = .returned (ffi' s c k) ∧ Below w.heap.size w w' := by
  by_cases h : errA x = 0
  · obtain ⟨s, c, T, C⟩ := uboth_ok hx h
    exact ⟨s, c, 0, ⟨h.symm, fun _ => T, fun h => absurd rfl h⟩, C⟩
  · refine ⟨0, 0, 3, ⟨?_, fun h => by omega, fun _ => ⟨rfl, rfl⟩⟩, fun w => uboth_no hx h w⟩
    rcases errA_cases x with e | e <;> omega
set_option maxRecDepth 100000 in
theorem ucos_run {x s c : Nat} {k : Int} (C : Hid (∀ w, Calls Try.prog 81 #[.float .f64 x] w fun e w' => e = .returned (ffi' s c k) ∧ Below w.heap.size w w')) (w : World) :
    Calls Try.prog 62 #[.float .f64 x] w fun e w' => e = .returned (.tuple #[.float .f64 c, .int .i64 k]) ∧ Below w.heap.size w w' := by
  unfold ffi' at C
  go_enter Try.func62, Try.ntmps62
  go_wp2_with fail
  refine (C.out w).mono ?_
  rintro _ w1 ⟨rfl, hb1⟩
  replace hb1 := Lib.hid hb1
  clear C
  go_wp2_with fail
  go_ret2
  exact ⟨rfl, hb1.out⟩
end Go.Proofs.Ytnmadknpkhaolaa

namespace Go.Proofs.Ytnmadknpkhaolaa
open Go.ChangeShapes Go.WideShapes Go.ChangeAt Go.RowKit Ieee.Own

def vecE (p : V3) (k : Int) : Value := .tuple #[vecV p, .int .i64 k]
def z3 : V3 := (0, 0, 0)
/-! ### answers -/
def bV (p : V3) : V3 := (bW p.1, bW p.2.1, bW p.2.2)
structure F3 (p : V3) : Prop where
  f1 : FinW p.1
  f2 : FinW p.2.1
  f3 : FinW p.2.2
theorem Bd.fin {p : V3} {k : Nat} (h : Bd p k) : F3 p := ⟨h.f1, h.f2, h.f3⟩
theorem F3.w {p : V3} (h : F3 p) : W3 p := ⟨h.f1.1, h.f2.1, h.f3.1⟩
theorem F3.b {p : V3} (h : F3 p) : F3 (bV p) := ⟨(bW_spec h.f1).1, (bW_spec h.f2).1, (bW_spec h.f3).1⟩
end Go.Proofs.Ytnmadknpkhaolaa
