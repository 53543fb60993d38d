/- Proved here: what the texts Ubq, Spf, Ulw, Vsc, Vop, Vnm, Vlw prove, one behind the other. -/
import Derived.Test.YtacinenddnfcbaaGreatJy5
import Derived.Test.YtacinenddnfcbaaGreatJy3
import Derived.SizedLaws
import Derived.ProofKit
import Derived.OpenShut
import Derived.Carry
import Derived.Lib.SmallJoins
import Derived.Test.YtacinenddnfcbaaGreatJy4

set_option maxRecDepth 100000
set_option maxHeartbeats 4000000
namespace Go.Proofs.YtacinenddnfcbaaGreat
open Go.ChangeShapes Go.WideShapes Go.ChangeAt Go.RowKit Ieee.Own

def vq (k S C : Int) : Int := if k % 4 = 0 then S else if k % 4 = 1 then C else if k % 4 = 2 then -S else -C
structure Trig (x s c : Nat) : Prop where
 ex : ∃ r, Rst x r ∧ V s = vq (kq eig (V x)) (V (sinX r)) (V (cosX r)) ∧ V c = vq (kq eig (V x) + 1) (V (sinX r)) (V (cosX r))
 sz : Nz s
 cz : Nz c
theorem Trig.uniq {x s c t d : Nat} (T : Trig x s c) (U : Trig x t d) : s = t ∧ c = d := by
 obtain ⟨r, R, a, b⟩ := T.ex
 obtain ⟨q, R', a', b'⟩ := U.ex
 obtain rfl := R.uniq R'
 exact ⟨T.sz.uniq U.sz (by rw [a, a']), T.cz.uniq U.cz (by rw [b, b'])⟩

def negN (x : Nat) : Nat := (Ieee.double.sub 0 x).getD 0
theorem negN_spec {x : Nat} (h : FinW x) : Ieee.double.sub 0 x = some (negN x) ∧ Nz (negN x) ∧ V (negN x) = -V x := by
 have e : V 0 - V x = -V x := by rw [V_zero]; omega
 have R : RN (V 0 - V x) = -V x := by rw [e]; exact RN_exact (Rep_neg (Rep_V x))
 obtain ⟨r, h1, h2, h3⟩ := sub_spec zero_fin h (by rw [R, Int.natAbs_neg]; exact fin_top h)
 have er : negN x = r := by unfold negN; rw [h1]; rfl
 rw [er]
 rw [R] at h3
 refine ⟨h1, ?_, h3⟩
 by_cases q : V x = 0
 · have z := (V_zero_iff h).1 q
   have := h.1
   rcases (by omega : x = 0 ∨ x = 9223372036854775808) with rfl | rfl
   · have : Ieee.double.sub 0 0 = some 0 := by decide +kernel
     rw [this] at h1; cases h1; exact ⟨zero_fin, by omega⟩
   · have : Ieee.double.sub 0 9223372036854775808 = some 0 := by decide +kernel
     rw [this] at h1; cases h1; exact ⟨zero_fin, by omega⟩
 · exact Nz.of h2 (by omega)
theorem negated_run {x : Nat} (h : FinW x) (w : World) : Calls Tryz.prog 179 #[.float .f64 x] w fun e w' => e = .returned (.float .f64 (negN x)) ∧ w = w' := by
 have r1 := run_sub _ _ _ (negN_spec h).1
 clear h
 generalize negN x = y at *
 go_enter Tryz.func179, Tryz.ntmps179
 go_wp2
 go_ret
 exact ⟨rfl, rfl⟩

def sq4 (k : Int) (s c : Nat) : Nat := if k = 0 then s else if k = 1 then c else if k = 2 then negN s else negN c
def cq4 (k : Int) (s c : Nat) : Nat := if k = 0 then c else if k = 1 then negN s else if k = 2 then negN c else s

theorem byq_run {s c : Nat} (hs : FinW s) (hc : FinW c) (k : Int) (hk : 0 ≤ k ∧ k < 4) (w : World) :
 Calls Tryz.prog 178 #[.int .i64 k, .float .f64 s, .float .f64 c, .func (.func 179) #[] #[]] w fun e w' => e = .returned (.tuple #[.float .f64 (sq4 k s c), .float .f64 (cq4 k s c)]) ∧ w = w' := by
 have N1 := fun w => negated_run hs w
 have N2 := fun w => negated_run hc w
 clear hs hc
 have : k = 0 ∨ k = 1 ∨ k = 2 ∨ k = 3 := by omega
 clear hk
 rcases this with rfl | rfl | rfl | rfl
 · have e1 : sq4 0 s c = s := rfl
   have e2 : cq4 0 s c = c := rfl
   rw [e1, e2]
   clear e1 e2
   generalize negN s = u at *
   generalize negN c = v at *
   go_enter Tryz.func178, Tryz.ntmps178
   go_wp2_with fail
   go_ret2
   exact ⟨rfl, rfl⟩
 · have e1 : sq4 1 s c = c := rfl
   have e2 : cq4 1 s c = negN s := rfl
   rw [e1, e2]
   clear e1 e2
   generalize negN s = u at *
   generalize negN c = v at *
   go_enter Tryz.func178, Tryz.ntmps178
   go_wp2_with (first | (go_at_call 179; ((with_reducible refine (N1 _).mono ?_); rintro e w' ⟨rfl, rfl⟩)) | (go_at_call 179; ((with_reducible refine (N2 _).mono ?_); rintro e w' ⟨rfl, rfl⟩)))
   go_ret2
   exact ⟨rfl, rfl⟩
 · have e1 : sq4 2 s c = negN s := rfl
   have e2 : cq4 2 s c = negN c := rfl
   rw [e1, e2]
   clear e1 e2
   generalize negN s = u at *
   generalize negN c = v at *
   go_enter Tryz.func178, Tryz.ntmps178
   go_wp2_with (first | (go_at_call 179; ((with_reducible refine (N1 _).mono ?_); rintro e w' ⟨rfl, rfl⟩)) | (go_at_call 179; ((with_reducible refine (N2 _).mono ?_); rintro e w' ⟨rfl, rfl⟩)))
   go_ret2
   exact ⟨rfl, rfl⟩
 · have e1 : sq4 3 s c = negN c := rfl
   have e2 : cq4 3 s c = s := rfl
   rw [e1, e2]
   clear e1 e2
   generalize negN s = u at *
   generalize negN c = v at *
   go_enter Tryz.func178, Tryz.ntmps178
   go_wp2_with (first | (go_at_call 179; ((with_reducible refine (N1 _).mono ?_); rintro e w' ⟨rfl, rfl⟩)) | (go_at_call 179; ((with_reducible refine (N2 _).mono ?_); rintro e w' ⟨rfl, rfl⟩)))
   go_ret2
   exact ⟨rfl, rfl⟩

theorem ent_sin (r : Nat) (h : Nz r) (H : Rest r) : Nz (sinX r) := by
 have N := H.near
 by_cases r0 : V r = 0
 · have := h.zero r0
   subst this
   have : sinX 0 = 0 := by decide +kernel
   rw [this]; exact ⟨zero_fin, by omega⟩
 · refine Nz.of N.sw.fin fun e => ?_
   have g := H.sin_far
   have q : Q (sinX r) = 0 := by unfold Q; rw [e]; decide +kernel
   rw [q] at g
   rcases ab_eq (Q r) with ⟨q1, -, q2⟩ | ⟨q1, -, q2⟩
   · have : Q r = 0 := by grind
     exact r0 (Q_zero this)
   · have : Q r = 0 := by grind
     exact r0 (Q_zero this)
theorem ent_cos (r : Nat) (H : Rest r) : Nz (cosX r) := by
 refine Nz.of H.near.cw.fin fun e => ?_
 have g := H.cos_far
 have q : Q (cosX r) = 0 := by unfold Q; rw [e]; decide +kernel
 rw [q] at g
 exact absurd g (by decide +kernel)

theorem Trig.own {x r : Nat} (h : Ang x) (R : Rst x r) : Trig x (sq4 (kq eig (V x) % 4) (sinX r) (cosX r)) (cq4 (kq eig (V x) % 4) (sinX r) (cosX r)) := by
 have H := R.rest h
 have s := ent_sin r R.nz H
 have c := ent_cos r H
 have ns := negN_spec s.fin
 have nc := negN_spec c.fin
 have : kq eig (V x) % 4 = 0 ∨ kq eig (V x) % 4 = 1 ∨ kq eig (V x) % 4 = 2 ∨ kq eig (V x) % 4 = 3 := by omega
 rcases this with k | k | k | k
 · rw [k]
   refine ⟨⟨r, R, ?_, ?_⟩, s, c⟩
   · unfold vq; rw [if_pos k]; rfl
   · unfold vq; rw [if_neg (by omega), if_pos (by omega)]; rfl
 · rw [k]
   refine ⟨⟨r, R, ?_, ?_⟩, c, ns.2.1⟩
   · unfold vq; rw [if_neg (by omega), if_pos (by omega)]; rfl
   · unfold vq; rw [if_neg (by omega), if_neg (by omega), if_pos (by omega)]; exact ns.2.2
 · rw [k]
   refine ⟨⟨r, R, ?_, ?_⟩, ns.2.1, nc.2.1⟩
   · unfold vq; rw [if_neg (by omega), if_neg (by omega), if_pos (by omega)]; exact ns.2.2
   · unfold vq; rw [if_neg (by omega), if_neg (by omega), if_neg (by omega)]; exact nc.2.2
 · rw [k]
   refine ⟨⟨r, R, ?_, ?_⟩, nc.2.1, s⟩
   · unfold vq; rw [if_neg (by omega), if_neg (by omega), if_neg (by omega)]; exact nc.2.2
   · unfold vq; rw [if_pos (by omega)]; rfl

def ffi' (a b : Nat) (c : Int) : Value := .tuple #[.float .f64 a, .float .f64 b, .int .i64 c]
theorem uboth_ok {x : Nat} (hx : x < 18446744073709551616) (h0 : errA x = 0) : ∃ s c, Trig x s c ∧ ∀ w, Calls Tryz.prog 104 #[.float .f64 x] w fun e w' => e = .returned (ffi' s c 0) ∧ Below w.heap.size w w' := by
 have h := errA_ang hx h0
 obtain ⟨r, R, C2⟩ := uquarter_run h
 have C1 := fun w => ucheck_run x hx w
 have H := R.rest h
 have C3 := Lib.hid (fun w => unear_run H w)
 have N := H.near
 have C4 := fun w => byq_run N.sw.fin N.cw.fin (kq eig (V x) % 4) (by omega) w
 refine ⟨_, _, Trig.own h R, fun w => ?_⟩
 rw [h0] at C1
 unfold ffi'
 clear R h N H h0 hx
 generalize sq4 (kq eig (V x) % 4) (sinX r) (cosX r) = s at *
 generalize cq4 (kq eig (V x) % 4) (sinX r) (cosX r) = c at *
 generalize kq eig (V x) % 4 = k at *
 generalize sinX r = a at *
 generalize cosX r = b at *
 go_enter Tryz.func104, Tryz.ntmps104
 go_wp2_with (first | (go_at_call 175; ((with_reducible refine (C1 _).mono ?_); rintro e w' ⟨rfl, rfl⟩)) | (go_at_call 176; ((with_reducible refine (C2 _).mono ?_); rintro e w' ⟨rfl, rfl⟩)))
 refine (C3.out w).mono ?_
 rintro _ w1 ⟨rfl, hb1⟩
 replace hb1 := Lib.hid hb1
 clear C3
 go_wp2_with (go_at_call 178; ((with_reducible refine (C4 _).mono ?_); rintro e w' ⟨rfl, rfl⟩))
 go_ret3
 exact ⟨rfl, hb1.out⟩
theorem uboth_no {x : Nat} (hx : x < 18446744073709551616) (h0 : errA x ≠ 0) (w : World) : Calls Tryz.prog 104 #[.float .f64 x] w fun e w' => e = .returned (ffi' 0 0 3) ∧ Below w.heap.size w w' := by
 have C1 := fun w => ucheck_run x hx w
 have e : errA x = 3 := by rcases errA_cases x with h | h <;> omega
 rw [e] at C1
 unfold ffi'
 clear hx h0 e
 have B := Lib.hid (Below.refl w.heap.size w)
 go_enter Tryz.func104, Tryz.ntmps104
 go_wp2_with (go_at_call 175; ((with_reducible refine (C1 _).mono ?_); rintro e w' ⟨rfl, rfl⟩))
 go_ret3
 exact ⟨rfl, B.out⟩

end Go.Proofs.YtacinenddnfcbaaGreat

namespace Go.Proofs.YtacinenddnfcbaaGreat
open Go.ChangeShapes Go.WideShapes Go.ChangeAt Go.RowKit Ieee.Own

theorem float_cell {H : Type} {enc : TypeId × Value → H} {P : Program} {w : World} {base : Nat} {spare : Nat → Bool} {held : Bool} {n : Nat} {e : TypeId} {v : Value} {x : DataW H × List MemPlace}
 (he : P.underlying e = some (.float .f64)) (h : DataW.trod enc P w base spare held n e [v] = some x) : ∃ b, v = .float .f64 b ∧ b < 18446744073709551616 := by
 cases n with
 | zero => simp [DataW.trod] at h
 | succ n =>
   simp only [DataW.trod, he] at h
   cases v with
   | float k b =>
     cases k with
     | f64 => exact ⟨b, rfl, by
      by_cases hw : (Lit.float .f64 b).wf = true
      · simpa only [Lit.wf, decide_eq_true_eq] using hw
      · simp [hw] at h⟩
     | f32 => simp at h
   | _ => simp at h
end Go.Proofs.YtacinenddnfcbaaGreat

namespace Go.Proofs.YtacinenddnfcbaaGreat
open Go.ChangeShapes Go.WideShapes Go.ChangeAt Go.RowKit Ieee.Own

theorem same_run (a b : Nat) (h : a = b) (w : World) : Calls Tryz.prog 38 #[.float .f64 a, .float .f64 b] w fun e w' => e = .returned (.bool true) ∧ w = w' := by
 subst h
 have t : ((a : Int) == (a : Int)) = true := by simp
 go_enter Tryz.func38, Tryz.ntmps38
 go_wp2_with (simp only [x39])
 go_ret
 exact ⟨rfl, rfl⟩

structure BothR (x s c : Nat) (k : Int) : Prop where
 err : k = errA x
 ok : k = 0 → Trig x s c
 no : k ≠ 0 → s = 0 ∧ c = 0
theorem BothR.uniq {x s c t d : Nat} {k l : Int} (B : BothR x s c k) (D : BothR x t d l) : s = t ∧ c = d ∧ k = l := by
 have e : k = l := by rw [B.err, D.err]
 subst e
 by_cases h : k = 0
 · obtain ⟨a, b⟩ := (B.ok h).uniq (D.ok h); exact ⟨a, b, rfl⟩
 · have a := B.no h
   have b := D.no h
   exact ⟨by omega, by omega, rfl⟩
theorem uboth_run {x : Nat} (hx : x < 18446744073709551616) : ∃ s c k, BothR x s c k ∧ ∀ w, Calls Tryz.prog 104 #[.float .f64 x] w fun e w' => e = .returned (ffi' s c k) ∧ Below w.heap.size w w' := by
 by_cases h : errA x = 0
 · obtain ⟨s, c, T, C⟩ := uboth_ok hx h
   exact ⟨s, c, 0, ⟨h.symm, fun _ => T, fun h => absurd rfl h⟩, C⟩
 · refine ⟨0, 0, 3, ⟨?_, fun h => by omega, fun _ => ⟨rfl, rfl⟩⟩, fun w => uboth_no hx h w⟩
   rcases errA_cases x with e | e <;> omega
theorem usin_run {x s c : Nat} {k : Int} (C : Hid (∀ w, Calls Tryz.prog 104 #[.float .f64 x] w fun e w' => e = .returned (ffi' s c k) ∧ Below w.heap.size w w')) (w : World) :
 Calls Tryz.prog 174 #[.float .f64 x] w fun e w' => e = .returned (.tuple #[.float .f64 s, .int .i64 k]) ∧ Below w.heap.size w w' := by
 unfold ffi' at C
 go_enter Tryz.func174, Tryz.ntmps174
 go_wp2_with fail
 refine (C.out w).mono ?_
 rintro _ w1 ⟨rfl, hb1⟩
 replace hb1 := Lib.hid hb1
 clear C
 go_wp2_with fail
 go_ret2
 exact ⟨rfl, hb1.out⟩
theorem ucos_run {x s c : Nat} {k : Int} (C : Hid (∀ w, Calls Tryz.prog 104 #[.float .f64 x] w fun e w' => e = .returned (ffi' s c k) ∧ Below w.heap.size w w')) (w : World) :
 Calls Tryz.prog 184 #[.float .f64 x] w fun e w' => e = .returned (.tuple #[.float .f64 c, .int .i64 k]) ∧ Below w.heap.size w w' := by
 unfold ffi' at C
 go_enter Tryz.func184, Tryz.ntmps184
 go_wp2_with fail
 refine (C.out w).mono ?_
 rintro _ w1 ⟨rfl, hb1⟩
 replace hb1 := Lib.hid hb1
 clear C
 go_wp2_with fail
 go_ret2
 exact ⟨rfl, hb1.out⟩
end Go.Proofs.YtacinenddnfcbaaGreat

namespace Go.Proofs.YtacinenddnfcbaaGreat
open Go.ChangeShapes Go.WideShapes Go.ChangeAt Go.RowKit Ieee.Own

def vecE (p : V3) (k : Int) : Value := .tuple #[vecV p, .int .i64 k]
def z3 : V3 := (0, 0, 0)
theorem vfit_run {p : V3} (h : W3 p) (w : World) : Calls Tryz.prog 89 #[vecV p] w fun e w' => e = .returned (.bool (fitV p)) ∧ Below w.heap.size w w' := by
 have C1 := fun w => vwithin_run p.1 h.l1 w
 have C2 := fun w => vwithin_run p.2.1 h.l2 w
 have C3 := fun w => vwithin_run p.2.2 h.l3 w
 clear h
 unfold fitV vecV
 generalize vnB p.1 = x at *
 generalize vnB p.2.1 = y at *
 generalize vnB p.2.2 = z at *
 cases x <;> cases y <;> cases z <;> (
  go_enter Tryz.func89, Tryz.ntmps89
  go_wp2_with (first | (go_at_call 163; ((with_reducible refine (C1 _).mono ?_); rintro e w' ⟨rfl, rfl⟩)) | (go_at_call 163; ((with_reducible refine (C2 _).mono ?_); rintro e w' ⟨rfl, rfl⟩)) | (go_at_call 163; ((with_reducible refine (C3 _).mono ?_); rintro e w' ⟨rfl, rfl⟩)))
  go_ret
  exact ⟨rfl, (Below.refl _ w).alloc (Nat.le_refl _) _⟩)
theorem vboth_run {p q : V3} (hp : W3 p) (hq : W3 q) (w : World) : Calls Tryz.prog 61 #[vecV p, vecV q] w fun e w' => e = .returned (.bool (fitV p && fitV q)) ∧ Below w.heap.size w w' := by
 have C1 := Lib.hid (fun w => vfit_run hp w)
 have C2 := Lib.hid (fun w => vfit_run hq w)
 clear hp hq
 obtain ⟨a1, a2, a3⟩ := p
 obtain ⟨b1, b2, b3⟩ := q
 unfold vecV at *
 dsimp only at *
 generalize fitV (a1, a2, a3) = x at *
 generalize fitV (b1, b2, b3) = y at *
 cases x
 · have K0 := kw2 w 41 41 [a1, a2, a3] [b1, b2, b3]
   simp only [objW, List.map_cons, List.map_nil] at K0
   have hst := @fstore
   replace K0 := Lib.hid K0
   go_enter Tryz.func61, Tryz.ntmps61
   go_wp2_with fail
   have K := K0.out
   clear K0
   generalize (w.alloc _).alloc _ = wr at *
   refine (C1.out wr).mono ?_
   rintro _ v1 ⟨rfl, hb⟩
   replace K := K.on hb
   clear hb
   replace K := Lib.hid K
   go_wp2_with fail
   replace K := K.out
   go_ret
   exact ⟨rfl, K.old⟩
 · have K0 := kw2 w 41 41 [a1, a2, a3] [b1, b2, b3]
   simp only [objW, List.map_cons, List.map_nil] at K0
   have hst := @fstore
   replace K0 := Lib.hid K0
   go_enter Tryz.func61, Tryz.ntmps61
   go_wp2_with fail
   have K := K0.out
   clear K0
   generalize (w.alloc _).alloc _ = wr at *
   refine (C1.out wr).mono ?_
   rintro _ v1 ⟨rfl, hb⟩
   replace K := K.on hb
   clear hb
   have c1_0 := (K.at_ 1 rfl).at_ 0 _ rfl
   have c1_1 := (K.at_ 1 rfl).at_ 1 _ rfl
   have c1_2 := (K.at_ 1 rfl).at_ 2 _ rfl
   replace K := Lib.hid K
   go_wp2_with fail
   replace K := K.out
   refine (C2.out v1).mono ?_
   rintro _ v2 ⟨rfl, hb⟩
   clear c1_0 c1_1 c1_2
   replace K := K.on hb
   clear hb
   replace K := Lib.hid K
   go_wp2_with fail
   replace K := K.out
   go_ret
   exact ⟨rfl, K.old⟩
theorem vprod_run {p q : V3} (D : DotOk p q) (w : World) : Calls Tryz.prog 264 #[vecV p, vecV q] w fun e w' => e = .returned (.float .f64 (dW p q)) ∧ Below w.heap.size w w' := by
 have r1 := run_mul _ _ _ D.m1
 have r2 := run_mul _ _ _ D.m2
 have r3 := run_mul _ _ _ D.m3
 have r4 := run_add _ _ _ D.s1
 have r5 := run_add _ _ _ D.s2
 clear D
 generalize dW p q = z at *
 obtain ⟨a1, a2, a3⟩ := p
 obtain ⟨b1, b2, b3⟩ := q
 unfold vecV at *
 dsimp only at *
 generalize aX (mX a1 b1) (mX a2 b2) = y at *
 generalize mX a1 b1 = x1 at *
 generalize mX a2 b2 = x2 at *
 generalize mX a3 b3 = x3 at *
 go_enter Tryz.func264, Tryz.ntmps264
 go_wp2_with fail
 go_ret
 exact ⟨rfl, ((Below.refl _ w).alloc (Nat.le_refl _) _).alloc (by simp) _⟩
def bV (p : V3) : V3 := (bW p.1, bW p.2.1, bW p.2.2)
def toldR (p : V3) : V3 × Int := if fitV (bV p) = true then (bV p, 0) else (z3, 3)
structure F3 (p : V3) : Prop where
 f1 : FinW p.1
 f2 : FinW p.2.1
 f3 : FinW p.2.2
theorem Bd.fin {p : V3} {k : Nat} (h : Bd p k) : F3 p := ⟨h.f1, h.f2, h.f3⟩
theorem F3.w {p : V3} (h : F3 p) : W3 p := ⟨h.f1.1, h.f2.1, h.f3.1⟩
theorem F3.b {p : V3} (h : F3 p) : F3 (bV p) := ⟨(bW_spec h.f1).1, (bW_spec h.f2).1, (bW_spec h.f3).1⟩
theorem vtold_run {p : V3} (h : F3 p) (w : World) : Calls Tryz.prog 62 #[vecV p] w fun e w' => e = .returned (vecE (toldR p).1 (toldR p).2) ∧ Below w.heap.size w w' := by
 have C1 := fun w => brought_run p.1 h.f1 w
 have C2 := fun w => brought_run p.2.1 h.f2 w
 have C3 := fun w => brought_run p.2.2 h.f3 w
 have C4 := Lib.hid (fun w => vfit_run h.b.w w)
 clear h
 unfold toldR vecE bV at *
 obtain ⟨a1, a2, a3⟩ := p
 dsimp only at *
 generalize bW a1 = b1 at *
 generalize bW a2 = b2 at *
 generalize bW a3 = b3 at *
 unfold vecV at *
 dsimp only at *
 generalize fitV (b1, b2, b3) = x at *
 have hR1 : x = true → (if x = true then ((b1, b2, b3), (0 : Int)) else (z3, 3)) = ((b1, b2, b3), 0) := fun h => if_pos h
 have hR0 : x = false → (if x = true then ((b1, b2, b3), (0 : Int)) else (z3, 3)) = (z3, 3) := fun h => if_neg (by rw [h]; decide)
 generalize (if x = true then ((b1, b2, b3), (0 : Int)) else (z3, 3)) = R at *
 obtain ⟨⟨q1, q2, q3⟩, k⟩ := R
 unfold z3 at hR0
 simp only [Prod.mk.injEq] at hR0 hR1
 dsimp only at *
 replace hR0 := Lib.hid hR0
 replace hR1 := Lib.hid hR1
 have K0 := kw2 w 41 41 [a1, a2, a3] [0, 0, 0]
 simp only [objW, List.map_cons, List.map_nil] at K0
 have hst := @fstore
 replace K0 := Lib.hid K0
 go_enter Tryz.func62, Tryz.ntmps62
 go_upto_region 1 with fail
 have K := K0.out.more
 simp only [List.cons_append, List.nil_append] at K
 clear K0
 generalize (w.alloc _).alloc _ = wr at *
 generalize hds : ([some 5, some 6, some 7, some 8, some 9, some 10, some 11, some 12, some 13, some 14, some 4, none] : List (Option Tmp)) = ds
 have hap : apartL ds = true := by rw [← hds]; decide
 replace hds := hds.symm
 refine wp_region_k (fun hf => [some (w.heap.size, [a1, a2, a3]), some (w.heap.size + 1, [0, 0, 0]), some (hf 10, [b1, b2, b3])]) (fun hf => [some (.pointer (some ⟨w.heap.size, 0, none⟩)), some (.float .f64 a1), some (.float .f64 b1), some (.pointer (some ⟨w.heap.size, 1, none⟩)), some (.float .f64 a2), some (.float .f64 b2), some (.pointer (some ⟨w.heap.size, 2, none⟩)), some (.float .f64 a3), some (.float .f64 b3), some (.agg #[.float .f64 b1, .float .f64 b2, .float .f64 b3]), some (ptrV (hf 10)), some (undef)]) [⟨10, 2, 41, [0, 0, 0]⟩] [⟨11, 2, 0, [b1, b2, b3]⟩] [.pointer (some ⟨w.heap.size, 0, none⟩), .float .f64 a1, .float .f64 b1, .pointer (some ⟨w.heap.size, 1, none⟩), .float .f64 a2, .float .f64 b2, .pointer (some ⟨w.heap.size, 2, none⟩), .float .f64 a3, .float .f64 b3, .agg #[.float .f64 b1, .float .f64 b2, .float .f64 b3], undef, undef] ds (by kernel_rfl) (by rw [hds]; rfl) hap (by decide +kernel) (by decide +kernel) K ?ha ?haj ?hai ?hsi ?hss ?hsa ?hsw ?htg ?hE2 ?hE3 ?hE4 ?hL1 ?hL2 ?hL3 ?alloc ?step ?store ?fin
 case ha => intro al hal; rcases List.mem_singleton.1 hal with rfl <;> rfl
 case haj => intro al hal al' hal' e; rcases List.mem_singleton.1 hal with rfl <;> (rcases List.mem_singleton.1 hal' with rfl) <;> first | rfl | (exfalso; revert e; simp)
 case hai => intro al hal; rcases List.mem_singleton.1 hal with rfl <;> decide
 case hsi => intro st hst st' hst' e; rcases List.mem_singleton.1 hst with rfl <;> (rcases List.mem_singleton.1 hst' with rfl) <;> first | rfl | (exfalso; revert e; simp)
 case hss =>
  intro st hst
  rcases List.mem_singleton.1 hst with rfl
  · show 11 < 12; decide
 case hsa =>
  intro st hst al hal
  rcases List.mem_singleton.1 hst with rfl
  · rcases List.mem_singleton.1 hal with rfl
    · exact (show ¬ (11 = 10) by decide)
 case hsw =>
  intro st hst al hal e
  rcases List.mem_singleton.1 hst with rfl
  · rcases List.mem_singleton.1 hal with rfl
    · change waitsAt _ 11 10 = true; decide +kernel
 case htg =>
  intro st hst
  rcases List.mem_singleton.1 hst with rfl
  · exact .inr ⟨_, List.mem_cons_self .., rfl, show 0 + 3 ≤ 3 by decide⟩
 case hE2 =>
  intro hf j h1 h2
  have n2 : 2 ≠ j := h1 _ (List.mem_cons_self ..)
  rcases j with _ | _ | _ | j
  · rfl
  · rfl
  · exact absurd rfl n2
  · rfl
 case hE3 =>
  intro hf st hst g us e
  rcases List.mem_singleton.1 hst with rfl
  · simp at e
 case hE4 =>
  intro hf al hal
  rcases List.mem_singleton.1 hal with rfl
  · refine ⟨fun st hst e => ?_, fun h => absurd rfl (h _ (List.mem_cons_self ..))⟩
    rcases List.mem_singleton.1 hst with rfl
    · rfl
 case hL1 => intro hf; rfl
 case hL2 =>
  intro hf i hi hna
  have hi : i < 12 := hi
  have : i = 0 ∨ i = 1 ∨ i = 2 ∨ i = 3 ∨ i = 4 ∨ i = 5 ∨ i = 6 ∨ i = 7 ∨ i = 8 ∨ i = 9 ∨ i = 10 ∨ i = 11 := by omega
  rcases this with rfl | rfl | rfl | rfl | rfl | rfl | rfl | rfl | rfl | rfl | rfl | rfl
  · rfl
  · rfl
  · rfl
  · rfl
  · rfl
  · rfl
  · rfl
  · rfl
  · rfl
  · rfl
  · exact absurd rfl (hna _ (List.mem_cons_self ..))
  · rfl
 case hL3 => intro hf al hal; rcases List.mem_singleton.1 hal with rfl <;> rfl
 case alloc =>
  intro al hal o ρ W ho
  rcases List.mem_singleton.1 hal with rfl
  · obtain rfl := Option.some.inj ho; unfold execOp ptrV objW; simp only [List.map_cons, List.map_nil]; go_simp
 case step =>
  intro L W i o ho hs ha hd hB
  have hi : i < 12 := (Array.getElem?_eq_some_iff.1 ho).1
  have : i = 0 ∨ i = 1 ∨ i = 2 ∨ i = 3 ∨ i = 4 ∨ i = 5 ∨ i = 6 ∨ i = 7 ∨ i = 8 ∨ i = 9 ∨ i = 10 ∨ i = 11 := by omega
  rcases this with rfl | rfl | rfl | rfl | rfl | rfl | rfl | rfl | rfl | rfl | rfl | rfl
  · obtain rfl := Option.some.inj ho
    refine .value W ?_ (Below.refl _ _)
    generalize hA : (puts ds L _).eval = ρ
    have hc : ∀ v, ρ (.const v) = v := fun v => by rw [← hA]; rfl
    have h0 : ρ (.tmp 1) = .pointer (some ⟨w.heap.size, 0, none⟩) := by rw [← hA]; exact (puts_old ds L _ (by rw [hds]; decide)).trans rfl
    clear hA hd hB ho hs ha
    unfold execOp
    go_simp
  · obtain rfl := Option.some.inj ho
    have b := hB 0 _ _ rfl (by
        intro st hst e
        rcases List.mem_singleton.1 hst with rfl
        · exact absurd e (show ¬ 2 = 0 by decide))
    have c0 := b.at_ 0 _ rfl
    clear b
    refine .value W ?_ (Below.refl _ _)
    generalize hA : (puts ds L _).eval = ρ
    have hc : ∀ v, ρ (.const v) = v := fun v => by rw [← hA]; rfl
    have h0 : ρ (.tmp 5) = .pointer (some ⟨w.heap.size, 0, none⟩) := by rw [← hA]; exact puts_get 0 ds L _ hap (by rw [hds]; rfl) (hd 0 (by decide +kernel) (by intro al hal; rcases List.mem_singleton.1 hal with rfl <;> decide)) (show 5 < 20 by decide)
    clear hA hd hB ho hs ha
    unfold execOp
    go_simp
  · obtain rfl := Option.some.inj ho
    refine .call 114 #[.float .f64 a1] ?_ ((C1 W).mono fun e w2 h => ⟨h.1, h.2 ▸ Below.refl _ _⟩)
    generalize hA : (puts ds L _).eval = ρ
    have hc : ∀ v, ρ (.const v) = v := fun v => by rw [← hA]; rfl
    have hg : ∀ g, ρ (.func g) = .func (.func g) #[] #[] := fun v => by rw [← hA]; rfl
    have h0 : ρ (.tmp 6) = .float .f64 a1 := by rw [← hA]; exact puts_get 1 ds L _ hap (by rw [hds]; rfl) (hd 1 (by decide +kernel) (by intro al hal; rcases List.mem_singleton.1 hal with rfl <;> decide)) (show 6 < 20 by decide)
    have hf := Tryz.func114
    unfold execOp
    go_simp
  · obtain rfl := Option.some.inj ho
    refine .value W ?_ (Below.refl _ _)
    generalize hA : (puts ds L _).eval = ρ
    have hc : ∀ v, ρ (.const v) = v := fun v => by rw [← hA]; rfl
    have h0 : ρ (.tmp 1) = .pointer (some ⟨w.heap.size, 0, none⟩) := by rw [← hA]; exact (puts_old ds L _ (by rw [hds]; decide)).trans rfl
    clear hA hd hB ho hs ha
    unfold execOp
    go_simp
  · obtain rfl := Option.some.inj ho
    have b := hB 0 _ _ rfl (by
        intro st hst e
        rcases List.mem_singleton.1 hst with rfl
        · exact absurd e (show ¬ 2 = 0 by decide))
    have c1 := b.at_ 1 _ rfl
    clear b
    refine .value W ?_ (Below.refl _ _)
    generalize hA : (puts ds L _).eval = ρ
    have hc : ∀ v, ρ (.const v) = v := fun v => by rw [← hA]; rfl
    have h0 : ρ (.tmp 8) = .pointer (some ⟨w.heap.size, 1, none⟩) := by rw [← hA]; exact puts_get 3 ds L _ hap (by rw [hds]; rfl) (hd 3 (by decide +kernel) (by intro al hal; rcases List.mem_singleton.1 hal with rfl <;> decide)) (show 8 < 20 by decide)
    clear hA hd hB ho hs ha
    unfold execOp
    go_simp
  · obtain rfl := Option.some.inj ho
    refine .call 114 #[.float .f64 a2] ?_ ((C2 W).mono fun e w2 h => ⟨h.1, h.2 ▸ Below.refl _ _⟩)
    generalize hA : (puts ds L _).eval = ρ
    have hc : ∀ v, ρ (.const v) = v := fun v => by rw [← hA]; rfl
    have hg : ∀ g, ρ (.func g) = .func (.func g) #[] #[] := fun v => by rw [← hA]; rfl
    have h0 : ρ (.tmp 9) = .float .f64 a2 := by rw [← hA]; exact puts_get 4 ds L _ hap (by rw [hds]; rfl) (hd 4 (by decide +kernel) (by intro al hal; rcases List.mem_singleton.1 hal with rfl <;> decide)) (show 9 < 20 by decide)
    have hf := Tryz.func114
    unfold execOp
    go_simp
  · obtain rfl := Option.some.inj ho
    refine .value W ?_ (Below.refl _ _)
    generalize hA : (puts ds L _).eval = ρ
    have hc : ∀ v, ρ (.const v) = v := fun v => by rw [← hA]; rfl
    have h0 : ρ (.tmp 1) = .pointer (some ⟨w.heap.size, 0, none⟩) := by rw [← hA]; exact (puts_old ds L _ (by rw [hds]; decide)).trans rfl
    clear hA hd hB ho hs ha
    unfold execOp
    go_simp
  · obtain rfl := Option.some.inj ho
    have b := hB 0 _ _ rfl (by
        intro st hst e
        rcases List.mem_singleton.1 hst with rfl
        · exact absurd e (show ¬ 2 = 0 by decide))
    have c2 := b.at_ 2 _ rfl
    clear b
    refine .value W ?_ (Below.refl _ _)
    generalize hA : (puts ds L _).eval = ρ
    have hc : ∀ v, ρ (.const v) = v := fun v => by rw [← hA]; rfl
    have h0 : ρ (.tmp 11) = .pointer (some ⟨w.heap.size, 2, none⟩) := by rw [← hA]; exact puts_get 6 ds L _ hap (by rw [hds]; rfl) (hd 6 (by decide +kernel) (by intro al hal; rcases List.mem_singleton.1 hal with rfl <;> decide)) (show 11 < 20 by decide)
    clear hA hd hB ho hs ha
    unfold execOp
    go_simp
  · obtain rfl := Option.some.inj ho
    refine .call 114 #[.float .f64 a3] ?_ ((C3 W).mono fun e w2 h => ⟨h.1, h.2 ▸ Below.refl _ _⟩)
    generalize hA : (puts ds L _).eval = ρ
    have hc : ∀ v, ρ (.const v) = v := fun v => by rw [← hA]; rfl
    have hg : ∀ g, ρ (.func g) = .func (.func g) #[] #[] := fun v => by rw [← hA]; rfl
    have h0 : ρ (.tmp 12) = .float .f64 a3 := by rw [← hA]; exact puts_get 7 ds L _ hap (by rw [hds]; rfl) (hd 7 (by decide +kernel) (by intro al hal; rcases List.mem_singleton.1 hal with rfl <;> decide)) (show 12 < 20 by decide)
    have hf := Tryz.func114
    unfold execOp
    go_simp
  · obtain rfl := Option.some.inj ho
    refine .value W ?_ (Below.refl _ _)
    generalize hA : (puts ds L _).eval = ρ
    have hc : ∀ v, ρ (.const v) = v := fun v => by rw [← hA]; rfl
    have h0 : ρ (.tmp 7) = .float .f64 b1 := by rw [← hA]; exact puts_get 2 ds L _ hap (by rw [hds]; rfl) (hd 2 (by decide +kernel) (by intro al hal; rcases List.mem_singleton.1 hal with rfl <;> decide)) (show 7 < 20 by decide)
    have h1 : ρ (.tmp 10) = .float .f64 b2 := by rw [← hA]; exact puts_get 5 ds L _ hap (by rw [hds]; rfl) (hd 5 (by decide +kernel) (by intro al hal; rcases List.mem_singleton.1 hal with rfl <;> decide)) (show 10 < 20 by decide)
    have h2 : ρ (.tmp 13) = .float .f64 b3 := by rw [← hA]; exact puts_get 8 ds L _ hap (by rw [hds]; rfl) (hd 8 (by decide +kernel) (by intro al hal; rcases List.mem_singleton.1 hal with rfl <;> decide)) (show 13 < 20 by decide)
    clear hA hd hB ho hs ha
    unfold execOp
    go_simp
  · exact absurd rfl (ha _ (List.mem_cons_self ..))
  · exact absurd rfl (hs _ (List.mem_cons_self ..))
 case store =>
  intro st hst L W o h us ho hd hal hC b
  rcases List.mem_singleton.1 hst with rfl
  · dsimp only at ho hd hal hC b ⊢
    obtain rfl := Option.some.inj ho
    obtain ⟨hl, rfl⟩ := hal _ (List.mem_cons_self ..) rfl
    have c0 := b.at_ 0 _ rfl
    have f0 := b.fr 0 _ rfl
    have c1 := b.at_ 1 _ rfl
    have f1 := b.fr 1 _ rfl
    have c2 := b.at_ 2 _ rfl
    have f2 := b.fr 2 _ rfl
    refine ⟨?_, rfl⟩
    generalize hA : (puts ds L _).eval = ρ
    have h0 : ρ (.tmp 4) = .pointer (some ⟨h, 0, none⟩) := by rw [← hA]; exact puts_get 10 ds L _ hap (by rw [hds]; rfl) hl (show 4 < 20 by decide)
    have h1 : ρ (.tmp 14) = .agg #[.float .f64 b1, .float .f64 b2, .float .f64 b3] := by rw [← hA]; exact puts_get 9 ds L _ hap (by rw [hds]; rfl) (hd 9 (by decide +kernel) (by intro al hal; rcases List.mem_singleton.1 hal with rfl <;> decide)) (show 14 < 20 by decide)
    have hst' := @fstore
    clear hA hd b ho hal hC
    simp only [putW]
    unfold execOp
    go_simp
 case fin =>
  intro hf W5 K
  rw [hds]
  clear hds hap ds C1 C2 C3
  (try dsimp only at K)
  generalize hf 10 = g at *
  (try unfold ptrV)
  simp only [List.set_cons_zero, List.set_cons_succ, puts, Act.put, List.setIfInBounds_toArray]
  have g0 := (K.blk 2 _ _ rfl).1
  cases x
  · obtain ⟨⟨rfl, rfl, rfl⟩, rfl⟩ := hR0.out rfl
    clear hR0 hR1
    have c2_0 := (K.at_ 2 rfl).at_ 0 _ rfl
    have c2_1 := (K.at_ 2 rfl).at_ 1 _ rfl
    have c2_2 := (K.at_ 2 rfl).at_ 2 _ rfl
    replace K := Lib.hid K
    go_wp2_with fail
    replace K := K.out
    refine (C4.out W5).mono ?_
    rintro _ v1 ⟨rfl, hb⟩
    clear c2_0 c2_1 c2_2
    replace K := K.on hb
    clear hb
    have c1_0 := (K.at_ 1 rfl).at_ 0 _ rfl
    have f1_0 := (K.at_ 1 rfl).fr 0 _ rfl
    have c1_1 := (K.at_ 1 rfl).at_ 1 _ rfl
    have f1_1 := (K.at_ 1 rfl).fr 1 _ rfl
    have c1_2 := (K.at_ 1 rfl).at_ 2 _ rfl
    have f1_2 := (K.at_ 1 rfl).fr 2 _ rfl
    have c2_0 := (K.at_ 2 rfl).at_ 0 _ rfl
    have c2_1 := (K.at_ 2 rfl).at_ 1 _ rfl
    have c2_2 := (K.at_ 2 rfl).at_ 2 _ rfl
    replace K := Lib.hid K
    go_wp2_with fail
    replace K := K.out
    (try simp only [Exit.vnBlock, Exit.then])
    refine bodyPost_ret (v := .tuple #[.agg #[.float .f64 0, .float .f64 0, .float .f64 0], .int .i64 3]) ?_ rfl ⟨rfl, ?_⟩
    · rw [results_cell_tmp rfl]; go_simp
    · exact (((K.old).setCell (by first | exact Nat.le_refl _ | (dsimp only; omega)) _).setCell (by first | exact Nat.le_refl _ | (dsimp only; omega)) _).setCell (by first | exact Nat.le_refl _ | (dsimp only; omega)) _
  · obtain ⟨⟨rfl, rfl, rfl⟩, rfl⟩ := hR1.out rfl
    clear hR0 hR1
    have c2_0 := (K.at_ 2 rfl).at_ 0 _ rfl
    have c2_1 := (K.at_ 2 rfl).at_ 1 _ rfl
    have c2_2 := (K.at_ 2 rfl).at_ 2 _ rfl
    replace K := Lib.hid K
    go_wp2_with fail
    replace K := K.out
    refine (C4.out W5).mono ?_
    rintro _ v1 ⟨rfl, hb⟩
    clear c2_0 c2_1 c2_2
    replace K := K.on hb
    clear hb
    have c1_0 := (K.at_ 1 rfl).at_ 0 _ rfl
    have f1_0 := (K.at_ 1 rfl).fr 0 _ rfl
    have c1_1 := (K.at_ 1 rfl).at_ 1 _ rfl
    have f1_1 := (K.at_ 1 rfl).fr 1 _ rfl
    have c1_2 := (K.at_ 1 rfl).at_ 2 _ rfl
    have f1_2 := (K.at_ 1 rfl).fr 2 _ rfl
    have c2_0 := (K.at_ 2 rfl).at_ 0 _ rfl
    have c2_1 := (K.at_ 2 rfl).at_ 1 _ rfl
    have c2_2 := (K.at_ 2 rfl).at_ 2 _ rfl
    replace K := Lib.hid K
    go_wp2_with fail
    replace K := K.out
    (try simp only [Exit.vnBlock, Exit.then])
    refine bodyPost_ret (v := .tuple #[.agg #[.float .f64 q1, .float .f64 q2, .float .f64 q3], .int .i64 0]) ?_ rfl ⟨rfl, ?_⟩
    · rw [results_cell_tmp rfl]; go_simp
    · exact (((K.old).setCell (by first | exact Nat.le_refl _ | (dsimp only; omega)) _).setCell (by first | exact Nat.le_refl _ | (dsimp only; omega)) _).setCell (by first | exact Nat.le_refl _ | (dsimp only; omega)) _
end Go.Proofs.YtacinenddnfcbaaGreat

namespace Go.Proofs.YtacinenddnfcbaaGreat
open Go.ChangeShapes Go.WideShapes Go.ChangeAt Go.RowKit Ieee.Own

theorem vadd_ok {a1 a2 a3 b1 b2 b3 u1 u2 u3 q1 q2 q3 : Nat} {k : Int} (C0 : Hid (∀ w, Calls Tryz.prog 61 #[.agg #[.float .f64 a1, .float .f64 a2, .float .f64 a3], .agg #[.float .f64 b1, .float .f64 b2, .float .f64 b3]] w fun e w' => e = .returned (.bool true) ∧ Below w.heap.size w w')) (r0 : (∀ t w, (binOp .add t (.float .f64 a1) (.float .f64 b1)).run Tryz.prog w = .ok (.float .f64 u1) w)) (r1 : (∀ t w, (binOp .add t (.float .f64 a2) (.float .f64 b2)).run Tryz.prog w = .ok (.float .f64 u2) w)) (r2 : (∀ t w, (binOp .add t (.float .f64 a3) (.float .f64 b3)).run Tryz.prog w = .ok (.float .f64 u3) w)) (C1 : Hid (∀ w, Calls Tryz.prog 62 #[.agg #[.float .f64 u1, .float .f64 u2, .float .f64 u3]] w fun e w' => e = .returned (.tuple #[.agg #[.float .f64 q1, .float .f64 q2, .float .f64 q3], .int .i64 k]) ∧ Below w.heap.size w w')) (w : World) : Calls Tryz.prog 35 #[.agg #[.float .f64 a1, .float .f64 a2, .float .f64 a3], .agg #[.float .f64 b1, .float .f64 b2, .float .f64 b3]] w fun e w' => e = .returned (.tuple #[.agg #[.float .f64 q1, .float .f64 q2, .float .f64 q3], .int .i64 k]) ∧ Below w.heap.size w w' := by
 have K0 := kw3 w 41 41 41 [a1, a2, a3] [b1, b2, b3] [0, 0, 0]
 simp only [objW, List.map_cons, List.map_nil] at K0
 have hst := @fstore
 replace K0 := Lib.hid K0
 go_enter Tryz.func35, Tryz.ntmps35
 go_wp2_with fail
 have K := K0.out
 clear K0
 generalize ((w.alloc _).alloc _).alloc _ = wr at *
 refine (C0.out wr).mono ?_
 rintro _ v1 ⟨rfl, hb⟩
 replace K := K.on hb
 clear hb
 have c0_0 := (K.at_ 0 rfl).at_ 0 _ rfl
 have c0_1 := (K.at_ 0 rfl).at_ 1 _ rfl
 have c0_2 := (K.at_ 0 rfl).at_ 2 _ rfl
 have c1_0 := (K.at_ 1 rfl).at_ 0 _ rfl
 have c1_1 := (K.at_ 1 rfl).at_ 1 _ rfl
 have c1_2 := (K.at_ 1 rfl).at_ 2 _ rfl
 replace K := Lib.hid K
 go_wp2_with fail
 replace K := K.out
 refine (C1.out v1).mono ?_
 rintro _ v2 ⟨rfl, hb⟩
 clear c0_0 c0_1 c0_2 c1_0 c1_1 c1_2
 replace K := K.on hb
 clear hb
 have c2_0 := (K.at_ 2 rfl).at_ 0 _ rfl
 have f2_0 := (K.at_ 2 rfl).fr 0 _ rfl
 have c2_1 := (K.at_ 2 rfl).at_ 1 _ rfl
 have f2_1 := (K.at_ 2 rfl).fr 1 _ rfl
 have c2_2 := (K.at_ 2 rfl).at_ 2 _ rfl
 have f2_2 := (K.at_ 2 rfl).fr 2 _ rfl
 replace K := Lib.hid K
 go_wp2_with fail
 replace K := K.out
 (try simp only [Exit.vnBlock, Exit.then])
 refine bodyPost_ret (v := .tuple #[.agg #[.float .f64 q1, .float .f64 q2, .float .f64 q3], .int .i64 k]) ?_ rfl ⟨rfl, ?_⟩
 · rw [results_cell_tmp rfl]; go_simp
 · exact (((K.old).setCell (by first | exact Nat.le_refl _ | (dsimp only; omega)) _).setCell (by first | exact Nat.le_refl _ | (dsimp only; omega)) _).setCell (by first | exact Nat.le_refl _ | (dsimp only; omega)) _
theorem vadd_no {a1 a2 a3 b1 b2 b3 : Nat} (C0 : Hid (∀ w, Calls Tryz.prog 61 #[.agg #[.float .f64 a1, .float .f64 a2, .float .f64 a3], .agg #[.float .f64 b1, .float .f64 b2, .float .f64 b3]] w fun e w' => e = .returned (.bool false) ∧ Below w.heap.size w w')) (w : World) : Calls Tryz.prog 35 #[.agg #[.float .f64 a1, .float .f64 a2, .float .f64 a3], .agg #[.float .f64 b1, .float .f64 b2, .float .f64 b3]] w fun e w' => e = .returned (.tuple #[.agg #[.float .f64 0, .float .f64 0, .float .f64 0], .int .i64 3]) ∧ Below w.heap.size w w' := by
 have K0 := kw3 w 41 41 41 [a1, a2, a3] [b1, b2, b3] [0, 0, 0]
 simp only [objW, List.map_cons, List.map_nil] at K0
 have hst := @fstore
 replace K0 := Lib.hid K0
 go_enter Tryz.func35, Tryz.ntmps35
 go_wp2_with fail
 have K := K0.out
 clear K0
 generalize ((w.alloc _).alloc _).alloc _ = wr at *
 refine (C0.out wr).mono ?_
 rintro _ v1 ⟨rfl, hb⟩
 replace K := K.on hb
 clear hb
 have c2_0 := (K.at_ 2 rfl).at_ 0 _ rfl
 have f2_0 := (K.at_ 2 rfl).fr 0 _ rfl
 have c2_1 := (K.at_ 2 rfl).at_ 1 _ rfl
 have f2_1 := (K.at_ 2 rfl).fr 1 _ rfl
 have c2_2 := (K.at_ 2 rfl).at_ 2 _ rfl
 have f2_2 := (K.at_ 2 rfl).fr 2 _ rfl
 replace K := Lib.hid K
 go_wp2_with fail
 replace K := K.out
 (try simp only [Exit.vnBlock, Exit.then])
 refine bodyPost_ret (v := .tuple #[.agg #[.float .f64 0, .float .f64 0, .float .f64 0], .int .i64 3]) ?_ rfl ⟨rfl, ?_⟩
 · rw [results_cell_tmp rfl]; go_simp
 · exact (((K.old).setCell (by first | exact Nat.le_refl _ | (dsimp only; omega)) _).setCell (by first | exact Nat.le_refl _ | (dsimp only; omega)) _).setCell (by first | exact Nat.le_refl _ | (dsimp only; omega)) _
theorem samevec_run (a1 a2 a3 : Nat) (w : World) : Calls Tryz.prog 18 #[.agg #[.float .f64 a1, .float .f64 a2, .float .f64 a3], .agg #[.float .f64 a1, .float .f64 a2, .float .f64 a3]] w fun e w' => e = .returned (.bool true) ∧ Below w.heap.size w w' := by
 go_enter Tryz.func18, Tryz.ntmps18
 go_wp2_with (go_at_call 38; ((with_reducible refine (same_run _ _ rfl _).mono ?_); rintro e w' ⟨rfl, rfl⟩))
 go_ret
 exact ⟨rfl, ((Below.refl _ w).alloc (Nat.le_refl _) _).alloc (by simp) _⟩
end Go.Proofs.YtacinenddnfcbaaGreat

namespace Go.Proofs.YtacinenddnfcbaaGreat
open Ieee.Own

def rX (a : Nat) : Nat := (Ieee.double.sqrt a).getD 0
def qX (a b : Nat) : Nat := (Ieee.double.div a b).getD 0

theorem scale_nat {x y Q E : Int} {K : Nat} (hx : x = Q * 2 ^ K) (hy : y = E * 2 ^ K) {c : Nat} (h : c * (Q - E).natAbs ≤ Q.natAbs) : c * (x - y).natAbs ≤ x.natAbs := by
 rw [hx, hy, ← Int.sub_mul, Int.natAbs_mul, Int.natAbs_mul, ← Nat.mul_assoc]
 exact Nat.mul_le_mul_right _ h
theorem pow_merge (m : Int) {p k j u : Nat} (e : p + k = u + j) : m * 2 ^ p * 2 ^ k = m * 2 ^ u * 2 ^ j := by
 rw [Int.mul_assoc, ← Int.pow_add, e, Int.pow_add, ← Int.mul_assoc]
theorem prod_merge (a b : Int) {p q k : Nat} (e : p + q = k) : a * 2 ^ p * (b * 2 ^ q) = a * b * 2 ^ k := by
 subst e
 rw [Int.pow_add]
 generalize (2 : Int) ^ p = x
 generalize (2 : Int) ^ q = y
 ac_rfl
theorem sv_pos (Q K : Nat) : sv false Q K = (Q : Int) * 2 ^ K := by
 unfold sv; simp

structure Nrm (D r : Nat) : Prop where
 run : Ieee.double.sqrt D = some r
 fin : FinW r
 zero : V D = 0 → V r = 0
 pos : V D ≠ 0 → 0 < V r ∧ 2 ^ 52 * (V r * V r - V D * 2 ^ 1074).natAbs ≤ (V r * V r).natAbs ∧ ∃ m q, Norm r false m q ∧ 760 ≤ q ∧ q ≤ 1100
theorem norm_pl {b : Nat} {s : Bool} {m p i j : Nat} (h : Norm b s m p) (h1 : 2 ^ i ≤ (V b).natAbs) (h2 : (V b).natAbs ≤ 2 ^ j) (hi : 53 ≤ i) (hj : 52 ≤ j) : i - 53 ≤ p ∧ p ≤ j - 52 := by
 rw [h.val, sv_abs] at h1 h2
 constructor
 · refine Nat.le_of_not_lt fun hlt => ?_
   have a : m * 2 ^ p < 2 ^ 53 * 2 ^ p := Nat.mul_lt_mul_of_pos_right h.hi (Nat.two_pow_pos _)
   rw [← Nat.pow_add] at a
   have b := two_le (a := 53 + p) (b := i) (by omega)
   omega
 · refine Nat.le_of_not_lt fun hlt => ?_
   have a : 2 ^ 52 * 2 ^ p ≤ m * 2 ^ p := Nat.mul_le_mul_right _ h.lo
   rw [← Nat.pow_add] at a
   have b := two_lt (a := j) (b := 52 + p) (by omega)
   omega
theorem is_norm {b i : Nat} (f : FinW b) (h : 2 ^ i ≤ (V b).natAbs) (hi : 52 ≤ i) : ∃ s m p, Norm b s m p := by
 refine ⟨_, _, _, norm_of f ?_⟩
 refine Nat.le_of_not_lt fun hlt => ?_
 rw [V_abs' b f] at h
 have e : val 52 (b % 9223372036854775808) < 2 ^ 52 := by
  have c := val_lt (F := 52) (show b % 9223372036854775808 < 4503599627370496 by omega)
  have : val 52 4503599627370496 = 2 ^ 52 := by decide +kernel
  omega
 have b := two_le (a := 52) (b := i) hi
 omega
theorem nrm_any {D : Nat} (W : Wd D 570 1196) (h0 : 0 ≤ V D) : Nrm D (rX D) := by
 by_cases z : V D = 0
 · obtain ⟨r, q1, q2, q3⟩ := sqrt_zero W.fin z
   have er : rX D = r := by unfold rX; rw [q1]; rfl
   rw [er]
   exact ⟨q1, q2, fun _ => q3, fun h => absurd z h⟩
 · have lo := pow_abs_dvd W.dvd z
   obtain ⟨s, m, p, N⟩ := is_norm W.fin lo (by omega)
   obtain ⟨p1, p2⟩ := norm_pl N lo W.abs (by omega) (by omega)
   have es : s = false := by
    cases s
    · rfl
    · have v := N.val
      have g := (sv_sign true m p).1 rfl
      omega
   subst es
   obtain ⟨r, Q, q1, q2, q3, Q1, Q2, i1, i2⟩ := sqrt_spec N (by omega)
   have er : rX D = r := by unfold rX; rw [q1]; rfl
   rw [er]
   rw [sv_pos] at q3
   have vd := N.val
   rw [sv_pos] at vd
   have Q0 : 0 < Q := by omega
   have vp : 0 < V r := by
    rw [q3]
    exact Int.mul_pos (by omega) (Int.pow_pos (by decide))
   have va : (V r).natAbs = Q * 2 ^ (511 + p / 2) := by
    rw [q3, Int.natAbs_mul, Int.natAbs_pow]; rfl
   refine ⟨q1, q2, fun h => absurd h z, fun _ => ⟨vp, ?_, ?_⟩⟩
   · have x1 : V r * V r = ((Q * Q : Nat) : Int) * 2 ^ (511 + p / 2 + (511 + p / 2)) := by
        rw [q3, prod_merge _ _ rfl, Int.natCast_mul]
     have x2 : V D * 2 ^ 1074 = ((m * 2 ^ (52 + p % 2) : Nat) : Int) * 2 ^ (511 + p / 2 + (511 + p / 2)) := by
        rw [vd, Int.natCast_mul, Int.natCast_pow]
        exact pow_merge _ (by omega)
     refine scale_nat x1 x2 ?_
     generalize m * 2 ^ (52 + p % 2) = M at *
     have key : (((Q * Q : Nat) : Int) - ((M : Nat) : Int)).natAbs ≤ Q := by omega
     rw [Int.natAbs_natCast]
     exact Nat.le_trans (Nat.mul_le_mul_left _ key) (Nat.mul_le_mul_right _ Q1)
   · have l1 : 2 ^ (52 + (511 + p / 2)) ≤ (V r).natAbs := by
        rw [va, Nat.pow_add 2 52]; exact Nat.mul_le_mul_right _ Q1
     have l2 : (V r).natAbs ≤ 2 ^ (53 + (511 + p / 2)) := by
        rw [va, Nat.pow_add 2 53]; exact Nat.mul_le_mul_right _ Q2
     obtain ⟨t, m', q, N'⟩ := is_norm q2 l1 (by omega)
     obtain ⟨c1, c2⟩ := norm_pl N' l1 l2 (by omega) (by omega)
     have et : t = false := by
        cases t
        · rfl
        · have v := N'.val
          have g := (sv_sign true m' q).1 rfl
          omega
     subst et
     exact ⟨m', q, N', by omega, by omega⟩
theorem div_any {a n m q : Nat} (ha : a < 18446744073709551616) (fa : fitB a = true) (N : Norm n false m q) (h1 : 760 ≤ q) (h2 : q ≤ 1100) :
 Ieee.double.div a n = some (qX a n) ∧ FinW (qX a n) ∧ 2 ^ 53 * (V (qX a n) * V n - V a * 2 ^ 1074).natAbs ≤ (V (qX a n) * V n).natAbs := by
 have vn := N.val
 rw [sv_pos] at vn
 rcases fit_norm ha fa with z | ⟨s, m', p, N', p1, p2⟩
 · have nz : V n ≠ 0 := by
    rw [vn]
    have := N.lo
    exact Int.ne_of_gt (Int.mul_pos (by omega) (Int.pow_pos (by decide)))
   obtain ⟨r, q1, q2, q3⟩ := div_zero (fit_fin ha fa) z N.fin nz
   have er : qX a n = r := by unfold qX; rw [q1]; rfl
   rw [er]
   refine ⟨q1, q2, ?_⟩
   rw [q3, z, Int.zero_mul, Int.zero_mul]
   decide
 · obtain ⟨r, Q, u, q1, q2, q3, u1, u2, Q1, Q2, i1, i2⟩ := div_spec N' N (by omega) (by omega)
   have er : qX a n = r := by unfold qX; rw [q1]; rfl
   rw [er]
   refine ⟨q1, q2, ?_⟩
   have key : 2 ^ 53 * (((Q * m : Nat) : Int) - ((m' * 2 ^ u : Nat) : Int)).natAbs ≤ Q * m := by
    have k1 : 2 * (((Q * m : Nat) : Int) - ((m' * 2 ^ u : Nat) : Int)).natAbs ≤ m := by
        generalize Q * m = X at *
        generalize m' * 2 ^ u = Y at *
        omega
    have k2 : 2 ^ 52 * m ≤ Q * m := Nat.mul_le_mul_right _ Q1
    generalize Q * m = X at *
    generalize m' * 2 ^ u = Y at *
    omega
   have x0 : (s ^^ false) = s := by cases s <;> rfl
   rw [x0] at q3
   have e1 : 1074 + p - q - u + q = 1074 + p - u := by omega
   have va := N'.val
   have sg : ∀ (s : Bool) (A B : Nat), sv s A B = (if s then -1 else 1) * ((A : Int) * 2 ^ B) := fun s A B => by
    unfold sv; cases s <;> simp
   rw [sg] at q3 va
   have x1 : V r * V n = (if s then -1 else 1) * ((Q * m : Nat) : Int) * 2 ^ (1074 + p - u) := by
    rw [q3, vn, Int.mul_assoc, prod_merge _ _ e1, Int.natCast_mul]
    generalize (2 : Int) ^ (1074 + p - u) = z
    ac_rfl
   have x2 : V a * 2 ^ 1074 = (if s then -1 else 1) * ((m' * 2 ^ u : Nat) : Int) * 2 ^ (1074 + p - u) := by
    rw [va, Int.natCast_mul, Int.natCast_pow, Int.mul_assoc, pow_merge (m' : Int) (p := p) (k := 1074) (j := 1074 + p - u) (u := u) (by omega)]
    rw [show ((2 : Nat) : Int) = 2 from rfl]
    generalize (2 : Int) ^ (1074 + p - u) = z
    ac_rfl
   refine scale_nat x1 x2 ?_
   rw [← Int.mul_sub, Int.natAbs_mul, Int.natAbs_mul]
   have o : (if s = true then (-1 : Int) else 1).natAbs = 1 := by cases s <;> rfl
   rw [o, Nat.one_mul, Nat.one_mul, Int.natAbs_natCast]
   exact key

end Go.Proofs.YtacinenddnfcbaaGreat

namespace Go.Proofs.YtacinenddnfcbaaGreat
open Go.ChangeShapes Go.WideShapes Go.ChangeAt Go.RowKit Ieee.Own

theorem wdB {x : Nat} (hx : x < 18446744073709551616) (h : vnB x = true) : Wd x 822 1134 := by
 obtain ⟨f, g, b⟩ := vnB_spec hx h
 exact ⟨f, fit_822 hx g, b⟩
structure D3 (p : V3) : Prop where
 w1 : Wd p.1 822 1134
 w2 : Wd p.2.1 822 1134
 w3 : Wd p.2.2 822 1134
theorem fitV_wd {p : V3} (h : W3 p) (f : fitV p = true) : D3 p := by
 unfold fitV at f
 simp only [Bool.and_eq_true] at f
 exact ⟨wdB h.l1 f.1.1, wdB h.l2 f.1.2, wdB h.l3 f.2⟩
theorem D3.bd {p : V3} (h : D3 p) : Bd p 1134 := ⟨h.w1.fin, h.w2.fin, h.w3.fin, h.w1.abs, h.w2.abs, h.w3.abs⟩
structure DotW (a b : V3) : Prop where
 d : Wd (dW a b) 570 1196
 r1 : Rld (Q (mX a.1 b.1)) (Q a.1 * Q b.1)
 r2 : Rld (Q (mX a.2.1 b.2.1)) (Q a.2.1 * Q b.2.1)
 r3 : Rld (Q (mX a.2.2 b.2.2)) (Q a.2.2 * Q b.2.2)
 r4 : Rld (Q (aX (mX a.1 b.1) (mX a.2.1 b.2.1))) (Q (mX a.1 b.1) + Q (mX a.2.1 b.2.1))
 r5 : Rld (Q (dW a b)) (Q (aX (mX a.1 b.1) (mX a.2.1 b.2.1)) + Q (mX a.2.2 b.2.2))
theorem dot_wd {a b : V3} (ha : D3 a) (hb : D3 b) : DotW a b := by
 obtain ⟨-, m1, r1⟩ := Wd.mul ha.w1 hb.w1 (by omega) (by omega) (by omega)
 obtain ⟨-, m2, r2⟩ := Wd.mul ha.w2 hb.w2 (by omega) (by omega) (by omega)
 obtain ⟨-, m3, r3⟩ := Wd.mul ha.w3 hb.w3 (by omega) (by omega) (by omega)
 obtain ⟨-, s1, r4⟩ := Wd.add m1 m2 (by omega)
 obtain ⟨-, s2, r5⟩ := Wd.add s1 (m3.le (q := 822 + 822 - 1074) (l := 1134 + 1134 - 1074 + 1) (by omega) (by omega)) (by omega)
 exact ⟨s2.le (by omega) (by omega), r1, r2, r3, r4, r5⟩
def both3 (a b : V3) : Bool := fitV a && fitV b
theorem both_of {a b : V3} (h : both3 a b = true) : fitV a = true ∧ fitV b = true := by
 unfold both3 at h
 simpa using h
def addR (a b : V3) : V3 × Int := if both3 a b = true then toldR (aX a.1 b.1, aX a.2.1 b.2.1, aX a.2.2 b.2.2) else (z3, 3)
theorem vadd_any {a b : V3} (ha : W3 a) (hb : W3 b) (w : World) : Calls Tryz.prog 35 #[vecV a, vecV b] w fun e w' => e = .returned (vecE (addR a b).1 (addR a b).2) ∧ Below w.heap.size w w' := by
 have C0 := fun w => vboth_run ha hb w
 by_cases h : both3 a b = true
 · have e : addR a b = toldR (aX a.1 b.1, aX a.2.1 b.2.1, aX a.2.2 b.2.2) := if_pos h
   have h' : (fitV a && fitV b) = true := h
   rw [e]
   rw [h'] at C0
   have B := (fitV_wd ha (both_of h).1).bd
   have B' := (fitV_wd hb (both_of h).2).bd
   obtain ⟨o1, g1, -⟩ := add_ok B.f1 B'.f1 B.b1 B'.b1 (k := 1135) rfl (by omega)
   obtain ⟨o2, g2, -⟩ := add_ok B.f2 B'.f2 B.b2 B'.b2 (k := 1135) rfl (by omega)
   obtain ⟨o3, g3, -⟩ := add_ok B.f3 B'.f3 B.b3 B'.b3 (k := 1135) rfl (by omega)
   have C1 := fun w => vtold_run (p := (aX a.1 b.1, aX a.2.1 b.2.1, aX a.2.2 b.2.2)) ⟨g1, g2, g3⟩ w
   exact vadd_ok (Lib.hid C0) (run_add _ _ _ o1) (run_add _ _ _ o2) (run_add _ _ _ o3) (Lib.hid C1) w
 · have e : addR a b = (z3, 3) := if_neg h
   rw [e]
   rw [show (fitV a && fitV b) = false from Bool.eq_false_iff.2 h] at C0
   exact vadd_no (Lib.hid C0) w
theorem open_vec {H : Type} {enc : TypeId × Value → H} {W : World} {r : Reach} {b0 base : Nat} {spare : Nat → Bool} {held : Bool} {v : Value} {d : DataW H} {p : List MemPlace}
 (hv : Value.okWide Tryz.prog W r b0 41 v) (h : DataW.Trod enc Tryz.prog W base spare held 41 v d p) : ∃ a : V3, v = vecV a ∧ W3 a := by
 obtain ⟨v0, v1, v2, y0, y1, y2, n, rfl, -, -, h0, h1, h2⟩ := Go.Joins.open_agg3 Tryz.underlying41 (by kernel_rfl) (by kernel_rfl) hv h
 obtain ⟨a, rfl, ha⟩ := float_cell Tryz.underlying22 h0
 obtain ⟨b, rfl, hb⟩ := float_cell Tryz.underlying22 h1
 obtain ⟨c, rfl, hc⟩ := float_cell Tryz.underlying22 h2
 exact ⟨(a, b, c), rfl, ha, hb, hc⟩
end Go.Proofs.YtacinenddnfcbaaGreat
