/- Proved here: what the texts Abf, Cir, Bri, Whl, Rgn, Wrg prove, one behind the other. -/
import Derived.Test.YtacinenddnfcbaaGreatJy3
import Derived.Test.YtacinenddnfcbaaGreatJy2

set_option maxRecDepth 100000
namespace Go.Proofs.YtacinenddnfcbaaGreat
open Go.ChangeShapes Go.WideShapes Go.ChangeAt Go.RowKit Ieee.Own

theorem wpList_load_g {P : Program} {ops : Array Oper} {rest : List Oper} {op : Oper} {a : Act} {w : World} {Q : Exit → Act → World → Prop} (hw : Region.wanted op (yielded ops a.tmps) = true) (ty : TypeId) (x : Operand) (ho : op.op = .load ty x)
 (b o : Nat) (hx : a.eval x = .pointer (some ⟨b, o, none⟩)) (cs : List Value) (d : TypeDesc) (hc : w.rangeAt b o cs)
 (hu : P.underlying ty = some d) (hd : d.isRow = true) (hi : (P.info? ty).map (·.size) = some cs.length)
 (h : wpList P ops Q rest (a.put op.dst (.agg cs.toArray)) w) : wpList P ops Q (op :: rest) a w :=
 wpList_step fun _ hK => by rw [if_pos hw]; exact wp_load_mid ty x ho b o hx cs d hc hu hd hi (hK _ _ h)
structure Abt (l u x : Nat) : Prop where
 ll : l < 18446744073709551616
 lu : u < 18446744073709551616
 ok : errS l u = 0
 lo : V l ≤ V x
 hi : V x ≤ V u
section
variable {sl su tl tu x y : Nat} (S : Abt sl su x) (T : Abt tl tu y)
include S T
theorem Abt.both : errSS sl su tl tu = 0 := errSS_of S.ok T.ok
end
end Go.Proofs.YtacinenddnfcbaaGreat

namespace Go.Proofs.YtacinenddnfcbaaGreat
open Ieee.Own

theorem Q_dvd_big {b m : Nat} {x : Rat} (h : x ≤ Q b ∨ Q b ≤ -x) (hx : (((2 ^ (m + 53) : Nat) : Int) : Rat) ≤ x * unit) : (2 : Int) ^ m ∣ V b := by
 refine dvd_big ?_
 have up := Rat.le_of_lt unit_pos
 rcases h with h | h
 · have := Rat.mul_le_mul_of_nonneg_right h up
   rw [Q_unit] at this
   have := Rat.intCast_le_intCast.1 (Rat.le_trans hx this)
   omega
 · have := Rat.mul_le_mul_of_nonneg_right h up
   rw [Q_unit] at this
   have a : (((2 ^ (m + 53) : Nat) : Int) : Rat) ≤ ((-V b : Int) : Rat) := by
    rw [Rat.intCast_neg]; grind
   have := Rat.intCast_le_intCast.1 a
   omega

theorem Rest.cos_far {r : Nat} (h : Rest r) : 1/2 ≤ Q (cosX r) := by
 have N := h.near
 have b := h.Q_bd
 have t := Ply.top_mul b.1 b.2
 have c1 := Ply.c_top t.1 t.2
 have cv : 7/10 ≤ Ply.c Ply.top := by decide +kernel
 have c2 := Ply.c_le_one t.1 t.2
 obtain ⟨l, u, -, -⟩ := N.cn
 have e : mkRat 1 (2 ^ 50) ≤ 1/10 := by decide +kernel
 generalize mkRat 1 (2 ^ 50) = E at *
 grind
theorem Rest.cos_wd {r : Nat} (h : Rest r) : Wd (cosX r) 768 1075 := by
 have N := h.near
 exact ⟨N.cw.fin, Q_dvd_big (x := 1/2) (.inl h.cos_far) (by decide +kernel), N.cw.abs⟩

theorem le_mul_pow {c : Int} (h : c ≠ 0) (n : Nat) : 2 ^ n ≤ 2 ^ n * c.natAbs := Nat.le_mul_of_pos_right _ (by omega)

theorem ab_eq (x : Rat) : (0 ≤ x ∧ Ply.ev [] x = 0 ∧ ab x = x) ∨ (x ≤ 0 ∧ Ply.ev [] x = 0 ∧ ab x = -x) := by
 unfold ab
 rcases Rat.le_total (a := 0) (b := x) with h | h
 · exact .inl ⟨h, rfl, by rw [if_pos h]⟩
 · refine .inr ⟨h, rfl, ?_⟩
   by_cases q : 0 ≤ x
   · have : x = 0 := by grind
     subst this; decide +kernel
   · rw [if_neg q]

theorem Rest.sin_all {r : Nat} (h : Rest r) : (ab (Q r) ≤ Q (sinX r) ∨ Q (sinX r) ≤ -ab (Q r)) ∧ Wd (sinX r) 768 1075 := by
 have N := h.near
 -- |y| is 6 |r| at least, |s| no less than |r|
 have tq : 6 ≤ Q tauW ∧ Q tauW ≤ 7 := by decide +kernel
 have e : mkRat 1 (2 ^ 53) = 1/9007199254740992 := by decide +kernel
 have ry := N.ry
 have rzp := N.rzp
 have ryzp := N.ryzp
 have rs := N.rs
 unfold Rld at ry rzp ryzp rs
 rw [e] at ry rzp ryzp rs
 obtain ⟨p1, p2⟩ := N.pb
 obtain ⟨z1, z2⟩ := N.zb
 have zp := abs_mul z1 z2 p1 p2
 have g := rzp (1/2) (by grind) (by grind)
 generalize Q (mX (yW r) (mX (zW r) (pW r))) = yzp at *
 generalize Q (mX (zW r) (pW r)) = zpw at *
 have zb : -(51/100) ≤ zpw ∧ zpw ≤ 51/100 := by constructor <;> grind
 have ay := ab_le (Q (yW r))
 have g2 := abs_mul ay.1 ay.2 zb.1 zb.2
 have g3 := ryzp _ g2.1 g2.2
 have y0 : 0 ≤ ab (Q (yW r)) := by rcases ab_eq (Q (yW r)) with q | q <;> grind
 have g4 : -(52/100 * ab (Q (yW r))) ≤ yzp ∧ yzp ≤ 52/100 * ab (Q (yW r)) := by constructor <;> grind
 have g5 := rs (2 * ab (Q (yW r))) (by grind) (by grind)
 have ar := ab_le (Q r)
 have r0 : 0 ≤ ab (Q r) := by rcases ab_eq (Q r) with q | q <;> grind
 have h1 := abs_mul ar.1 ar.2 (by grind : -7 ≤ Q tauW) tq.2
 have h2 := ry _ h1.1 h1.2
 -- the sine is beyond the rest
 have key : ab (Q r) ≤ Q (sinX r) ∨ Q (sinX r) ≤ -ab (Q r) := by
  rcases ab_eq (Q r) with ⟨q1, -, q2⟩ | ⟨q1, -, q2⟩
  · have m := Rat.mul_nonneg q1 (by grind : 0 ≤ Q tauW - 6)
    have yp : 5 * Q r ≤ Q (yW r) := by grind
    left
    rcases ab_eq (Q (yW r)) with ⟨w1, -, w2⟩ | ⟨w1, -, w2⟩ <;> grind
  · have m := Rat.mul_nonneg (by grind : 0 ≤ -Q r) (by grind : 0 ≤ Q tauW - 6)
    have yp : Q (yW r) ≤ 5 * Q r := by grind
    right
    rcases ab_eq (Q (yW r)) with ⟨w1, -, w2⟩ | ⟨w1, -, w2⟩ <;> grind
 refine ⟨key, N.sw.fin, ?_, N.sw.abs⟩
 by_cases v0 : V r = 0
 · -- then all is 0
   have q0 : Q r = 0 := by unfold Q; rw [v0]; decide +kernel
   have a0 : ab (Q r) = 0 := by rw [q0]; decide +kernel
   have yz : Q (yW r) = 0 := by
    rw [q0] at h2 ; rw [q0] at a0; rw [a0] at h2
    grind
   have az : ab (Q (yW r)) = 0 := by rw [yz]; decide +kernel
   have sz : Q (sinX r) = 0 := by rw [az] at g4 g5; grind
   have : V (sinX r) = 0 := by
    have := Q_unit (sinX r)
    rw [sz] at this
    have : ((V (sinX r) : Int) : Rat) = ((0 : Int) : Rat) := by rw [← this]; decide +kernel
    exact Rat.intCast_inj.1 this
   rw [this]; exact Int.dvd_zero _
 · have big : 2 ^ 822 ≤ (V r).natAbs := by
    obtain ⟨c, hc⟩ := h.dvd
    have : c ≠ 0 := by rintro rfl; omega
    rw [hc, Int.natAbs_mul, pw_abs]
    exact le_mul_pow this 822
   refine Q_dvd_big (x := ab (Q r)) key ?_
   have e1 : ab (Q r) * unit = (((V r).natAbs : Int) : Rat) := by
    rcases ab_eq (Q r) with ⟨q1, -, q2⟩ | ⟨q1, -, q2⟩
    · rw [q2, Q_unit]
      have : 0 ≤ V r := by
       have := Rat.mul_nonneg q1 (Rat.le_of_lt unit_pos)
       rw [Q_unit] at this
       exact Rat.intCast_le_intCast.1 this
      congr 1; omega
    · rw [q2]
      have w : Q r * unit ≤ 0 := by
       have := Rat.mul_nonneg (by grind : 0 ≤ -Q r) (Rat.le_of_lt unit_pos)
       grind
      rw [Q_unit] at w
      have : V r ≤ 0 := Rat.intCast_le_intCast.1 w
      have : ((V r).natAbs : Int) = -V r := by omega
      rw [this, Rat.intCast_neg, ← Q_unit]; grind
   rw [e1]
   refine Rat.intCast_le_intCast.2 ?_
   have := two_le (a := 768 + 53) (b := 822) (by omega)
   omega
theorem Rest.sin_far {r : Nat} (h : Rest r) : ab (Q r) ≤ Q (sinX r) ∨ Q (sinX r) ≤ -ab (Q r) := h.sin_all.1
theorem Rest.sin_wd {r : Nat} (h : Rest r) : Wd (sinX r) 768 1075 := h.sin_all.2
theorem Q_zero {b : Nat} (h : Q b = 0) : V b = 0 := by
 have := Q_unit b
 rw [h] at this
 have : ((V b : Int) : Rat) = ((0 : Int) : Rat) := by rw [← this]; decide +kernel
 exact Rat.intCast_inj.1 this

end Go.Proofs.YtacinenddnfcbaaGreat

namespace Go.Proofs.YtacinenddnfcbaaGreat
open Ieee.Own

def sp (a b : Nat) : Sp := (Q a, Q b)

theorem fit_822 {b : Nat} (h : b < 18446744073709551616) (hf : fitB b = true) : (2 : Int) ^ 822 ∣ V b := by
 rcases fit_norm h hf with h0 | ⟨s, m, p, N, p1, p2⟩
 · rw [h0]; exact Int.dvd_zero _
 · exact norm_dvd N p1

def tw (m : Nat) : Nat := (1023 + m) * 4503599627370496
end Go.Proofs.YtacinenddnfcbaaGreat

namespace Go.Proofs.YtacinenddnfcbaaGreat
open Ieee Ieee.Own

def wholeW (way : Toward) (b : Nat) : Nat := double.write ((double.read b).integral way)
def numW (s : Bool) (n : Nat) : Nat := double.write (.number s n 0)

theorem cut_parts (n d : Nat) : n / 2 ^ min d (n.log2 + 2) = n / 2 ^ d ∧ n % 2 ^ min d (n.log2 + 2) = n % 2 ^ d := by
 by_cases h : d ≤ n.log2 + 2
 · rw [Nat.min_eq_left h]; exact ⟨rfl, rfl⟩
 · have h1 : n < 2 ^ (n.log2 + 2) := by
    by_cases z : n = 0
    · subst z; exact Nat.two_pow_pos _
    · exact Nat.lt_of_lt_of_le ((Nat.log2_eq_iff z).1 rfl).2 (two_le (by omega))
   have h2 : n < 2 ^ d := Nat.lt_of_lt_of_le h1 (two_le (by omega))
   rw [Nat.min_eq_right (by omega), Nat.div_eq_of_lt h1, Nat.div_eq_of_lt h2, Nat.mod_eq_of_lt h1, Nat.mod_eq_of_lt h2]
   exact ⟨rfl, rfl⟩

theorem cut_down (s : Bool) (n d : Nat) : Toward.down.cut s n d = n / 2 ^ d + (s && n % 2 ^ d != 0).toNat := by
 unfold Toward.cut
 simp only [Nat.one_shiftLeft]
 rw [(cut_parts n d).1, (cut_parts n d).2]
theorem cut_up (s : Bool) (n d : Nat) : Toward.up.cut s n d = n / 2 ^ d + (!s && n % 2 ^ d != 0).toNat := by
 unfold Toward.cut
 simp only [Nat.one_shiftLeft]
 rw [(cut_parts n d).1, (cut_parts n d).2]
theorem cut_zero (s : Bool) (n d : Nat) : Toward.zero.cut s n d = n / 2 ^ d := by
 unfold Toward.cut
 simp only [Nat.one_shiftLeft]
 rw [(cut_parts n d).1]; simp

theorem up_aux (m p d : Nat) : m * 2 ^ p / 2 ^ (d + p) = m / 2 ^ d ∧ (m * 2 ^ p % 2 ^ (d + p) = 0 ↔ m % 2 ^ d = 0) := by
 have hp := Nat.two_pow_pos p
 rw [Nat.pow_add, Nat.mul_div_mul_right _ _ hp, Nat.mul_mod_mul_right]
 refine ⟨rfl, ?_⟩
 constructor
 · intro h; rcases Nat.mul_eq_zero.1 h with h | h <;> omega
 · intro h; rw [h]; simp
theorem far_aux (m e : Nat) : m * 2 ^ e / 2 ^ 0 = m * 2 ^ e ∧ m * 2 ^ e % 2 ^ 0 = 0 := by
 rw [Nat.pow_zero, Nat.div_one]; exact ⟨rfl, Nat.mod_one _⟩

def wayN (way : Toward) (s : Bool) (n : Nat) : Nat :=
 match way with
 | .even => rne n 1074
 | .down => n / 2 ^ 1074 + (s && n % 2 ^ 1074 != 0).toNat
 | .up => n / 2 ^ 1074 + (!s && n % 2 ^ 1074 != 0).toNat
 | .zero => n / 2 ^ 1074

theorem bne_iff {a b : Nat} (h : a = 0 ↔ b = 0) : (a != 0) = (b != 0) := by
 rw [Bool.eq_iff_iff]; simp only [bne_iff_ne, ne_eq, h]

theorem way_cut (way : Toward) (s : Bool) (m p D : Nat) (hD : D = 1074) : way.cut s (m <<< ((-1074 : Int) + p).toNat) (-((-1074 : Int) + p)).toNat = 
 match way with
 | .even => rne (m * 2 ^ p) D
 | .down => m * 2 ^ p / 2 ^ D + (s && m * 2 ^ p % 2 ^ D != 0).toNat
 | .up => m * 2 ^ p / 2 ^ D + (!s && m * 2 ^ p % 2 ^ D != 0).toNat
 | .zero => m * 2 ^ p / 2 ^ D := by
 rw [Nat.shiftLeft_eq]
 by_cases h : p ≤ D
 · have e1 : ((-1074 : Int) + p).toNat = 0 := by omega
   have e2 : (-((-1074 : Int) + p)).toNat = D - p := by omega
   rw [e1, e2, Nat.pow_zero, Nat.mul_one]
   obtain ⟨d, rfl⟩ : ∃ d, D = d + p := ⟨D - p, by omega⟩
   rw [Nat.add_sub_cancel]
   have u := up_aux m p d
   have b := bne_iff u.2
   cases way with
   | even => dsimp only; rw [cut_rne, rne_scale]
   | down => dsimp only; rw [cut_down, u.1, b]
   | up => dsimp only; rw [cut_up, u.1, b]
   | zero => dsimp only; rw [cut_zero, u.1]
 · obtain ⟨e, rfl⟩ : ∃ e, p = e + D := ⟨p - D, by omega⟩
   have e1 : ((-1074 : Int) + (e + D : Nat)).toNat = e := by omega
   have e2 : (-((-1074 : Int) + (e + D : Nat))).toNat = 0 := by omega
   rw [e1, e2]
   have f := far_aux m e
   have g : m * 2 ^ (e + D) / 2 ^ D = m * 2 ^ e ∧ m * 2 ^ (e + D) % 2 ^ D = 0 := by
    rw [Nat.pow_add, ← Nat.mul_assoc]
    exact ⟨Nat.mul_div_cancel _ (Nat.two_pow_pos D), Nat.mul_mod_left _ _⟩
   cases way with
   | even =>
     dsimp only
     rw [cut_rne, Nat.pow_add, ← Nat.mul_assoc, rne_exact]
     have := rne_exact (m * 2 ^ e) 0
     rwa [Nat.pow_zero, Nat.mul_one] at this
   | down => dsimp only; rw [cut_down, f.1, f.2, g.1, g.2]
   | up => dsimp only; rw [cut_up, f.1, f.2, g.1, g.2]
   | zero => dsimp only; rw [cut_zero, f.1, g.1]

theorem way_cut' (way : Toward) (s : Bool) (m p : Nat) : way.cut s (m <<< ((-1074 : Int) + p).toNat) (-((-1074 : Int) + p)).toNat = wayN way s (m * 2 ^ p) := by
 rw [way_cut way s m p 1074 rfl]; rfl

theorem num_spec (s : Bool) (n D : Nat) (hD : D = 1074) (hn : rn n = n) {T : Nat} (hT : T = 2098) (hb : n * 2 ^ D < 2 ^ T) : FinW (numW s n) ∧ V (numW s n) = sv s n D := by
 have hm : n * 2 ^ D = n * 2 ^ D * 2 ^ 0 := by rw [Nat.pow_zero, Nat.mul_one]
 have e : rn (n * 2 ^ D) = n * 2 ^ D := by rw [rn_scale, hn]
 obtain ⟨r, r1, r2, r3⟩ := nearest_rn s n 0 (n * 2 ^ D) D 0 hm (by omega) (by rw [e, ← hT]; exact hb)
 have w : numW s n = double.word s r := r2
 rw [w]
 have v := V_word s r r1
 refine ⟨v.1, ?_⟩
 rw [v.2, r3, e]; unfold sv; rfl

theorem small_top {n k D T : Nat} (hn : n ≤ 2 ^ k) (hD : k + D < T) : n * 2 ^ D < 2 ^ T := Nat.lt_of_le_of_lt (mul_pow hn D) (two_lt hD)
theorem num_small_any (s : Bool) (n D T : Nat) (hD : D = 1074) (hT : T = 2098) (hn : n ≤ 2 ^ 53) : FinW (numW s n) ∧ V (numW s n) = sv s n D := by
 refine num_spec s n D hD (rn_small n hn) hT (small_top (k := 53) hn (by omega))
theorem num_small (s : Bool) (n : Nat) (hn : n ≤ 2 ^ 53) : FinW (numW s n) ∧ V (numW s n) = sv s n 1074 := num_small_any s n 1074 2098 rfl rfl hn

theorem whole_form (way : Toward) {b : Nat} (h : FinW b) : ∃ s m p, V b = sv s m p ∧ m < 2 ^ 53 ∧ double.read b = .number s m (-1074 + p) ∧ wholeW way b = numW s (wayN way s (m * 2 ^ p)) := by
 obtain ⟨s, m, p, e1, e2, e3, -, -⟩ := read_sv h
 refine ⟨s, m, p, e2, e3, e1, ?_⟩
 unfold wholeW numW
 rw [e1]
 unfold Datum.integral
 dsimp only
 rw [way_cut']

theorem way_le (way : Toward) (s : Bool) (n : Nat) : wayN way s n ≤ n / 2 ^ 1074 + 1 := by
 have t : ∀ b : Bool, b.toNat ≤ 1 := fun b => by cases b <;> simp
 unfold wayN
 cases way <;> dsimp only
 · exact (rne_bounds n 1074).2
 · have := t (s && n % 2 ^ 1074 != 0); omega
 · have := t (!s && n % 2 ^ 1074 != 0); omega
 · omega

theorem div_cap {n k D M : Nat} (hM : M = k + D) (h : n ≤ 2 ^ M) : n / 2 ^ D ≤ 2 ^ k := by
 subst hM
 rw [Nat.pow_add] at h
 exact Nat.div_le_of_le_mul (by rwa [Nat.mul_comm] at h)

theorem whole_spec (way : Toward) {b : Nat} (h : FinW b) (hb : (V b).natAbs ≤ 2 ^ 1126) :
 ∃ s m p, V b = sv s m p ∧ wholeW way b = numW s (wayN way s (m * 2 ^ p)) ∧ wayN way s (m * 2 ^ p) ≤ 2 ^ 53 ∧ FinW (wholeW way b) ∧ V (wholeW way b) = sv s (wayN way s (m * 2 ^ p)) 1074 := by
 obtain ⟨s, m, p, e1, e2, -, e3⟩ := whole_form way h
 rw [e1, sv_abs] at hb
 have c := div_cap (k := 52) (D := 1074) (M := 1126) rfl hb
 have l := way_le way s (m * 2 ^ p)
 have q : wayN way s (m * 2 ^ p) ≤ 2 ^ 53 := by omega
 have := num_small s _ q
 rw [← e3] at this
 exact ⟨s, m, p, e1, e3, q, this⟩

theorem sv_int (s : Bool) (n D : Nat) : sv s n D = (if s then -(n : Int) else n) * 2 ^ D := by
 unfold sv
 cases s
 · simp
 · simp [Int.neg_mul]

theorem fdiv_aux (s : Bool) (n T : Nat) (hT : 0 < T) : (if s then -((n : Int)) else n) / (T : Int) = if s then -((n / T + (s && n % T != 0).toNat : Nat) : Int) else ((n / T : Nat) : Int) := by
 cases s
 · simp
 · have h1 := Nat.div_add_mod n T
   have h2 := Nat.mod_lt n hT
   simp only [if_true, Bool.true_and]
   by_cases q : n % T = 0
   · rw [q]
     have e : (n : Int) = (T : Int) * ((n / T : Nat) : Int) := by exact_mod_cast (by omega : n = T * (n / T))
     have e0 : ((0 : Nat) != 0).toNat = 0 := rfl
     rw [e0, Nat.add_zero]
     conv => lhs; rw [e]
     rw [← Int.mul_neg, Int.mul_ediv_cancel_left _ (by omega)]
   · have e0 : (n % T != 0).toNat = 1 := by simp [q]
     rw [e0]
     have e : -(n : Int) = (T : Int) * (-((n / T + 1 : Nat) : Int)) + (T - n % T : Nat) := by
        have a : (n : Int) = (T : Int) * ((n / T : Nat) : Int) + ((n % T : Nat) : Int) := by exact_mod_cast h1.symm
        have b : ((T - n % T : Nat) : Int) = (T : Int) - ((n % T : Nat) : Int) := by omega
        have c : (T : Int) * (-((n / T + 1 : Nat) : Int)) = -((T : Int) * ((n / T : Nat) : Int)) - T := by
         rw [Int.mul_neg, Int.natCast_add, Int.mul_add]; simp; omega
        omega
     rw [e, Int.mul_add_ediv_left _ _ (by omega)]
     have : ((T - n % T : Nat) : Int) / (T : Int) = 0 := Int.ediv_eq_zero_of_lt (by omega) (by omega)
     omega

theorem two_cast (n : Nat) : (2 : Int) ^ n = ((2 ^ n : Nat) : Int) := by rw [Int.natCast_pow]; rfl
theorem fdiv_sv (s : Bool) (m p D : Nat) : sv s m p / 2 ^ D = if s then -((m * 2 ^ p / 2 ^ D + (s && m * 2 ^ p % 2 ^ D != 0).toNat : Nat) : Int) else ((m * 2 ^ p / 2 ^ D : Nat) : Int) := by
 have := fdiv_aux s (m * 2 ^ p) (2 ^ D) (Nat.two_pow_pos D)
 rw [two_cast]
 unfold sv
 exact this

theorem floor_spec {b : Nat} (h : FinW b) (hb : (V b).natAbs ≤ 2 ^ 1126) : FinW (wholeW .down b) ∧ V (wholeW .down b) = V b / 2 ^ 1074 * 2 ^ 1074 := by
 obtain ⟨s, m, p, e1, -, -, f, v⟩ := whole_spec .down h hb
 refine ⟨f, ?_⟩
 rw [v, sv_int, e1, fdiv_sv]
 unfold wayN
 dsimp only
 cases s
 · simp only [Bool.false_eq_true, if_false, Bool.false_and, Bool.toNat_false, Nat.add_zero]
 · simp only [if_true]

theorem kq_nat (n d : Nat) (hd : 0 < d) : kq (2 ^ (d - 1)) (n : Int) = (rne n d : Int) := by
 obtain ⟨e, rfl⟩ : ∃ e, d = e + 1 := ⟨d - 1, by omega⟩
 rw [Nat.add_sub_cancel]
 unfold kq rne
 have t : (2 : Int) * 2 ^ e = ((2 ^ (e + 1) : Nat) : Int) := by rw [← two_cast, Int.pow_succ]; omega
 rw [t]
 have a : ((n : Int) % ((2 ^ (e + 1) : Nat) : Int)) = ((n % 2 ^ (e + 1) : Nat) : Int) := rfl
 have b : ((n : Int) / ((2 ^ (e + 1) : Nat) : Int)) = ((n / 2 ^ (e + 1) : Nat) : Int) := rfl
 rw [a, b]
 have c : (2 : Int) ^ e = ((2 ^ e : Nat) : Int) := two_cast e
 rw [c]
 have g := two_succ e
 generalize 2 ^ (e + 1) = T at *
 generalize 2 ^ e = U at *
 subst g
 split <;> split <;> omega

theorem kq_scale {H v : Int} (hH : 0 < H) : kq (4 * H) (4 * v) = kq H v := by
 have b := rq_bd hH v
 have e : v = 2 * H * kq H v + rq H v := by unfold rq; omega
 refine (kq_uniq (by omega) (k := kq H v) (r := 4 * rq H v) ?_ (by omega) (by omega) ?_).1
 · have : 2 * (4 * H) * kq H v = 4 * (2 * H * kq H v) := by
    rw [show 2 * (4 * H) = 4 * (2 * H) by omega, Int.mul_assoc]
   omega
 · intro h
   exact b.2.2 (by omega)

theorem even_spec {b : Nat} (h : FinW b) (hb : (V b).natAbs ≤ 2 ^ 1126) : FinW (wholeW .even b) ∧ V (wholeW .even b) = kq (2 ^ 1073) (V b) * 2 ^ 1074 := by
 obtain ⟨s, m, p, e1, -, -, f, v⟩ := whole_spec .even h hb
 refine ⟨f, ?_⟩
 have k := kq_nat (m * 2 ^ p) 1074 (by omega)
 have P : (0 : Int) < 2 ^ 1073 := Int.pow_pos (by omega)
 have n := (kq_neg P ((m * 2 ^ p : Nat) : Int)).1
 rw [show 1074 - 1 = 1073 from rfl] at k
 rw [v, sv_int, e1]
 unfold wayN
 dsimp only
 unfold sv
 cases s
 · simp only [Bool.false_eq_true, if_false]; rw [k]
 · simp only [if_true]; rw [n, k]

theorem div_pow_cancel (a n : Nat) : a * 2 ^ n / 2 ^ n = a := Nat.mul_div_cancel _ (Nat.two_pow_pos n)
theorem sv_k {s : Bool} {m p D : Nat} {K : Int} (h : sv s m p = K * 2 ^ D) : m * 2 ^ p = K.natAbs * 2 ^ D := by
 have := absk h
 rwa [sv_abs] at this
theorem int_of {b : Nat} {K : Int} (h : FinW b) (hv : V b = K * 2 ^ 1074) : (double.read b).toInt .zero = some K := by
 obtain ⟨s, m, p, e1, e2, e3, -, -⟩ := read_sv h
 unfold Datum.toInt
 rw [e1]
 unfold Datum.integral
 dsimp only
 rw [way_cut']
 unfold wayN
 dsimp only
 rw [e2] at hv
 rw [sv_k (D := 1074) hv, div_pow_cancel _ 1074]
 unfold signed
 simp only [Nat.shiftLeft_zero]
 have P : (0 : Int) < 2 ^ 1074 := Int.pow_pos (by omega)
 have sg := sv_sign s m p
 cases s
 · have g := sg.2 rfl
   rw [hv] at g
   have : 0 ≤ K := by
    by_cases q : 0 ≤ K
    · exact q
    · have := Int.mul_neg_of_neg_of_pos (show K < 0 by omega) P; omega
   simp only [Bool.false_eq_true, if_false]; congr 1; omega
 · have g := sg.1 rfl
   rw [hv] at g
   have : K ≤ 0 := by
    by_cases q : K ≤ 0
    · exact q
    · have := Int.mul_pos (show 0 < K by omega) P; omega
   simp only [if_true]; congr 1; omega

theorem of_int (K : Int) (hK : K.natAbs ≤ 2 ^ 53) : FinW (FloatKind.f64.nearest K) ∧ V (FloatKind.f64.nearest K) = K * 2 ^ 1074 := by
 have e : FloatKind.f64.nearest K = numW (decide (K < 0)) K.natAbs := rfl
 rw [e]
 have := num_small (decide (K < 0)) K.natAbs hK
 refine ⟨this.1, ?_⟩
 rw [this.2, sv_int]
 congr 1
 by_cases q : K < 0
 · simp [q]; omega
 · simp [q]; omega

end Go.Proofs.YtacinenddnfcbaaGreat

namespace Go.Proofs.YtacinenddnfcbaaGreat
open Go.ChangeShapes Go.WideShapes Go.ChangeAt Go.RowKit Ieee.Own

def doneL (L : List (Option Value)) (i : Nat) : Prop := ∃ v, L[i]? = some (some v)
def waitsAt (ops : Array Oper) (i k : Nat) : Bool := ((ops[i]?).map fun o => waits o k).getD false
def needs (ops : Array Oper) : Nat → Nat → Nat → Bool
 | 0, _, _ => false
 | n + 1, i, k => (List.range ops.size).any fun m => waitsAt ops i m && (m == k || needs ops n m k)
def Closed (ops : Array Oper) (L : List (Option Value)) : Prop := ∀ i k, doneL L i → waitsAt ops i k = true → doneL L k
theorem Closed.needs {ops : Array Oper} {L : List (Option Value)} (C : Closed ops L) : ∀ (n i k : Nat), needs ops n i k = true → doneL L i → doneL L k
 | 0, _, _, h, _ => by simp [Go.Proofs.YtacinenddnfcbaaGreat.needs] at h
 | n + 1, i, k, h, d => by
   unfold Go.Proofs.YtacinenddnfcbaaGreat.needs at h
   rw [List.any_eq_true] at h
   obtain ⟨m, -, h⟩ := h
   simp only [Bool.and_eq_true, Bool.or_eq_true, beq_iff_eq] at h
   obtain ⟨h1, h2⟩ := h
   have dm := C i m d h1
   rcases h2 with rfl | h2
   · exact dm
   · exact C.needs n m k h2 dm
theorem done_set {L : List (Option Value)} {i : Nat} {v : Value} (hn : L[i]? = some none) (k : Nat) : doneL (L.set i (some v)) k ↔ k = i ∨ doneL L k := by
 unfold doneL
 have hl : i < L.length := (List.getElem?_eq_some_iff.1 hn).1
 by_cases e : k = i
 · subst e; rw [List.getElem?_set_self hl]; simp
 · rw [List.getElem?_set_ne (Ne.symm e)]; simp [e]
theorem Closed.set {ops : Array Oper} {L : List (Option Value)} (C : Closed ops L) {i : Nat} {o : Oper} {v : Value} (ho : ops[i]? = some o) (hn : L[i]? = some none)
 (hd : ∀ e ∈ o.after, Region.binds .any e = true → ∃ v, L[e.on]? = some (some v)) : Closed ops (L.set i (some v)) := by
 intro k m dk wk
 rw [done_set hn] at dk ⊢
 rcases dk with rfl | dk
 · right
   unfold waitsAt at wk
   rw [ho] at wk
   simp only [Option.map_some, Option.getD_some] at wk
   unfold waits at wk
   rw [List.any_eq_true] at wk
   obtain ⟨e, he, h2⟩ := wk
   simp only [Bool.and_eq_true, beq_iff_eq] at h2
   have := hd e (Array.mem_toList_iff.1 he) h2.2
   rw [h2.1] at this
   exact this
 · exact .inr (C k m dk wk)
theorem Closed.none (ops : Array Oper) (n : Nat) : Closed ops (nones n) := by
 intro i k h
 obtain ⟨v, hv⟩ := h
 exact absurd hv (nones_get _ _ _)

inductive Came (o : Oper) (a : Act) (w : World) (v : Value) : Prop
 | value (w' : World) (r : (execOp a.eval o).run Tryz.prog w = .ok (.value v) w') (k : Below w.heap.size w w')
 | call (f : FuncId) (args : Array Value) (r : (execOp a.eval o).run Tryz.prog w = .ok (.enter f args) w) (k : Calls Tryz.prog f args w fun e w' => e = .returned v ∧ Below w.heap.size w w')

section
variable {ops : Array Oper} {Q : Exit → Act → World → Prop}
end
end Go.Proofs.YtacinenddnfcbaaGreat

namespace Go.Proofs.YtacinenddnfcbaaGreat
open Go.ChangeShapes Go.WideShapes Go.ChangeAt Go.RowKit Ieee.Own

structure BW (w : World) (g : Nat) (us : List Nat) : Prop where
 lt : g < w.heap.size
 at_ : ∀ i u, us[i]? = some u → w.cell? ⟨g, i, none⟩ = some (.float .f64 u)
 fr : ∀ i u, us[i]? = some u → w.frozen? ⟨g, i, none⟩ = false
def objW (t : TypeId) (us : List Nat) : Obj := .cells (us.map (Value.float .f64)).toArray t (0, 0)
theorem BW.on {w w' : World} {g : Nat} {us : List Nat} (b : BW w g us) (h : Below w.heap.size w w') : BW w' g us :=
 ⟨Nat.lt_of_lt_of_le b.lt h.size, fun i u e => (cell_on h _ b.lt).trans (b.at_ i u e), fun i u e => (frozen_on h _ b.lt).trans (b.fr i u e)⟩
theorem BW.box (w : World) (t : TypeId) (us : List Nat) : BW (w.alloc (objW t us)) w.heap.size us := by
 have S : Blocks w [objW t us] (w.alloc (objW t us)) := (Blocks.nil w).alloc (by simp) _
 unfold objW at S
 refine ⟨by simp, fun i u e => (S.cell 0 rfl i w.heap.size rfl).trans (by simp [e]), fun i u e => S.free 0 rfl i w.heap.size rfl⟩
theorem BW.set1 {w : World} {g k x : Nat} {us : List Nat} (b : BW w g us) (hk : us[k]? = some x) (v : Nat) : BW (w.setCell ⟨g, k, none⟩ (.float .f64 v)) g (us.set k v) := by
 have hl := (List.getElem?_eq_some_iff.1 hk).1
 refine ⟨by simpa using b.lt, fun i u e => ?_, fun i u e => ?_⟩
 · by_cases h : k = i
   · subst h
     rw [List.getElem?_set_self hl] at e
     obtain rfl := Option.some.inj e
     exact World.cell?_setCell_same _ _ _ (b.at_ _ _ hk)
   · rw [List.getElem?_set_ne h] at e
     rw [World.cell?_setCell_other _ _ _ _ (by simp)]
     exact b.at_ i u e
 · rw [World.frozen?_setCell]
   by_cases h : k = i
   · subst h; exact b.fr _ _ hk
   · rw [List.getElem?_set_ne h] at e; exact b.fr i u e
theorem BW.other1 {w : World} {g h k : Nat} {us : List Nat} (b : BW w g us) (hg : g ≠ h) (v : Nat) : BW (w.setCell ⟨h, k, none⟩ (.float .f64 v)) g us := by
 refine ⟨by simpa using b.lt, fun i u e => ?_, fun i u e => ?_⟩
 · rw [World.cell?_setCell_other _ _ _ _ (by simp)]; exact b.at_ i u e
 · rw [World.frozen?_setCell]; exact b.fr i u e
def putW (w : World) (g : Nat) : Nat → List Nat → World
 | _, [] => w
 | k, v :: vs => putW (w.setCell ⟨g, k, none⟩ (.float .f64 v)) g (k + 1) vs
def setL : List Nat → Nat → List Nat → List Nat
 | us, _, [] => us
 | us, k, v :: vs => setL (us.set k v) (k + 1) vs
theorem BW.put {g : Nat} : ∀ (vs : List Nat) {w : World} {us : List Nat} (k : Nat), BW w g us → k + vs.length ≤ us.length → BW (putW w g k vs) g (setL us k vs)
 | [], _, _, _, b, _ => b
 | v :: vs, w, us, k, b, h => by
   simp only [List.length_cons] at h
   obtain ⟨x, hx⟩ : ∃ x, us[k]? = some x := ⟨us[k]'(by omega), List.getElem?_eq_getElem (by omega)⟩
   exact BW.put vs (k + 1) (b.set1 hx v) (by simp; omega)
theorem BW.other {g h : Nat} {us : List Nat} (hg : g ≠ h) : ∀ (vs : List Nat) {w : World} (k : Nat), BW w g us → BW (putW w h k vs) g us
 | [], _, _, b => b
 | v :: vs, _, k, b => BW.other hg vs (k + 1) (b.other1 hg v)
theorem putW_below {B g : Nat} {u : World} (hg : B ≤ g) : ∀ (vs : List Nat) {w : World} (k : Nat), Below B u w → Below B u (putW w g k vs)
 | [], _, _, b => b
 | _ :: vs, _, k, b => putW_below hg vs (k + 1) (b.setCell hg _)
structure Kw (w0 : World) (L : List (Option (Nat × List Nat))) (w : World) : Prop where
 old : Below w0.heap.size w0 w
 blk : ∀ (j g : Nat) (us : List Nat), L[j]? = some (some (g, us)) → w0.heap.size ≤ g ∧ BW w g us
 inj : ∀ (i j g : Nat) (us vs : List Nat), L[i]? = some (some (g, us)) → L[j]? = some (some (g, vs)) → i = j
theorem Kw.nil (w : World) : Kw w [] w := ⟨Below.refl _ w, fun j g us h => by simp at h, fun i j g us vs h => by simp at h⟩
theorem Kw.at_ {w0 w : World} {L : List (Option (Nat × List Nat))} (C : Kw w0 L w) (j : Nat) {g : Nat} {us : List Nat} (hj : L[j]? = some (some (g, us))) : BW w g us := (C.blk j g us hj).2
theorem Kw.on {w0 w w' : World} {L : List (Option (Nat × List Nat))} (C : Kw w0 L w) (h : Below w.heap.size w w') : Kw w0 L w' :=
 ⟨C.old.trans (h.mono C.old.size), fun j g us hj => ⟨(C.blk j g us hj).1, (C.at_ j hj).on h⟩, C.inj⟩
theorem Kw.draws {w0 w : World} {L : List (Option (Nat × List Nat))} (C : Kw w0 L w) : Kw w0 L w.drew :=
 ⟨C.old.drew, fun j g us h => ⟨(C.blk j g us h).1, ⟨(C.at_ j h).1, (C.at_ j h).2, (C.at_ j h).3⟩⟩, C.inj⟩
theorem Kw.make {w0 w : World} {L : List (Option (Nat × List Nat))} (C : Kw w0 L w) (j : Nat) (hj : L[j]? = some none) (t : TypeId) (us : List Nat) : Kw w0 (L.set j (some (w.heap.size, us))) (w.alloc (objW t us)) := by
 have hb : Below w.heap.size w (w.alloc (objW t us)) := (Below.refl _ w).alloc (Nat.le_refl _) _
 have hl := (List.getElem?_eq_some_iff.1 hj).1
 have old : ∀ i g vs, i ≠ j → (L.set j (some (w.heap.size, us)))[i]? = some (some (g, vs)) → L[i]? = some (some (g, vs)) := fun i g vs hi h => by
  rwa [List.getElem?_set_ne (Ne.symm hi)] at h
 have new : ∀ g vs, (L.set j (some (w.heap.size, us)))[j]? = some (some (g, vs)) → g = w.heap.size ∧ vs = us := fun g vs h => by
  rw [List.getElem?_set_self hl] at h
  simp at h
  exact ⟨h.1.symm, h.2.symm⟩
 refine ⟨C.old.trans (hb.mono C.old.size), fun i g vs hi => ?_, fun i k g vs ws hi hk => ?_⟩
 · by_cases e : i = j
   · subst e
     obtain ⟨rfl, rfl⟩ := new _ _ hi
     exact ⟨C.old.size, BW.box w t vs⟩
   · have h := old _ _ _ e hi
     exact ⟨(C.blk i g vs h).1, (C.at_ i h).on hb⟩
 · by_cases e : i = j <;> by_cases f : k = j
   · omega
   · subst e
     have := (C.at_ k (old _ _ _ f hk)).lt
     have := (new _ _ hi).1
     omega
   · subst f
     have := (C.at_ i (old _ _ _ e hi)).lt
     have := (new _ _ hk).1
     omega
   · exact C.inj i k g vs ws (old _ _ _ e hi) (old _ _ _ f hk)
theorem Kw.more {w0 w : World} {L : List (Option (Nat × List Nat))} (C : Kw w0 L w) : Kw w0 (L ++ [none]) w := by
 have key : ∀ i g vs, (L ++ [none])[i]? = some (some (g, vs)) → L[i]? = some (some (g, vs)) := fun i g vs h => by
  by_cases hi : i < L.length
  · rwa [List.getElem?_append_left hi] at h
  · have := (List.getElem?_eq_some_iff.1 h).1
    simp at this
    obtain rfl : i = L.length := by omega
    simp at h
 exact ⟨C.old, fun j g us h => C.blk j g us (key _ _ _ h), fun i j g us vs h k => C.inj i j g us vs (key _ _ _ h) (key _ _ _ k)⟩
theorem Kw.nones {w0 w : World} {L : List (Option (Nat × List Nat))} (C : Kw w0 L w) : ∀ n, Kw w0 (L ++ List.replicate n none) w
 | 0 => by simpa using C
 | n + 1 => by
   have := (C.nones n).more
   rwa [List.append_assoc, ← List.replicate_succ'] at this
theorem Kw.new {w0 w : World} {L : List (Option (Nat × List Nat))} (C : Kw w0 L w) (t : TypeId) (us : List Nat) : Kw w0 (L ++ [some (w.heap.size, us)]) (w.alloc (objW t us)) := by
 have := C.more.make L.length (by simp) t us
 simpa using this
theorem Kw.put {w0 w : World} {L : List (Option (Nat × List Nat))} (C : Kw w0 L w) (j : Nat) {g : Nat} {us : List Nat} (hj : L[j]? = some (some (g, us))) (k : Nat) (vs : List Nat) (hk : k + vs.length ≤ us.length) : Kw w0 (L.set j (some (g, setL us k vs))) (putW w g k vs) := by
 have hl := (List.getElem?_eq_some_iff.1 hj).1
 have hg := C.blk j g us hj
 have old : ∀ i h ws, i ≠ j → (L.set j (some (g, setL us k vs)))[i]? = some (some (h, ws)) → L[i]? = some (some (h, ws)) := fun i h ws hi e => by
  rwa [List.getElem?_set_ne (Ne.symm hi)] at e
 have new : ∀ h ws, (L.set j (some (g, setL us k vs)))[j]? = some (some (h, ws)) → h = g ∧ ws = setL us k vs := fun h ws e => by
  rw [List.getElem?_set_self hl] at e
  simp at e
  exact ⟨e.1.symm, e.2.symm⟩
 have back : ∀ i h ws, (L.set j (some (g, setL us k vs)))[i]? = some (some (h, ws)) → ∃ ws', L[i]? = some (some (h, ws')) := fun i h ws e => by
  by_cases q : i = j
  · subst q
    obtain ⟨rfl, -⟩ := new _ _ e
    exact ⟨_, hj⟩
  · exact ⟨_, old _ _ _ q e⟩
 refine ⟨putW_below hg.1 vs k C.old, fun i h ws hi => ?_, fun i m h ws xs hi hm => ?_⟩
 · by_cases q : i = j
   · subst q
     obtain ⟨rfl, rfl⟩ := new _ _ hi
     exact ⟨hg.1, hg.2.put vs k hk⟩
   · have e := old _ _ _ q hi
     refine ⟨(C.blk i h ws e).1, BW.other (fun z => ?_) vs k (C.at_ i e)⟩
     subst z
     exact q (C.inj i j _ _ _ e hj)
 · obtain ⟨a, ha⟩ := back _ _ _ hi
   obtain ⟨b, hb⟩ := back _ _ _ hm
   exact C.inj i m h _ _ ha hb

theorem kw1 (w : World) (t : TypeId) (us : List Nat) : Kw w [some (w.heap.size, us)] (w.alloc (objW t us)) := (Kw.nil w).new t us
theorem Kw.and {w0 w : World} {L : List (Option (Nat × List Nat))} {n : Nat} (C : Kw w0 L w) (h : w.heap.size = n) (t : TypeId) (us : List Nat) : Kw w0 (L ++ [some (n, us)]) (w.alloc (objW t us)) := by
 subst h; exact C.new t us
theorem kw2 (w : World) (t t' : TypeId) (us vs : List Nat) : Kw w [some (w.heap.size, us), some (w.heap.size + 1, vs)] ((w.alloc (objW t us)).alloc (objW t' vs)) := (kw1 w t us).and (by simp) t' vs
theorem kw3 (w : World) (t t' t'' : TypeId) (us vs xs : List Nat) : Kw w [some (w.heap.size, us), some (w.heap.size + 1, vs), some (w.heap.size + 1 + 1, xs)] (((w.alloc (objW t us)).alloc (objW t' vs)).alloc (objW t'' xs)) := (kw2 w t t' us vs).and (by simp) t'' xs
structure Sw where
 i : Nat
 j : Nat
 k : Nat
 vs : List Nat
structure Al where
 i : Nat
 j : Nat
 t : TypeId
 us : List Nat
def ptrV (h : Nat) : Value := .pointer (some ⟨h, 0, none⟩)
def stored (sts : List Sw) (L : List (Option Value)) (j : Nat) (us vs : List Nat) : Prop :=
 (∀ st ∈ sts, st.j = j → doneL L st.i → vs = setL us st.k st.vs) ∧ ((∀ st ∈ sts, st.j = j → ¬ doneL L st.i) → vs = us)
structure Curw (C D : List (Option (Nat × List Nat))) (als : List Al) (sts : List Sw) (L : List (Option Value)) : Prop where
 len : D.length = C.length
 old : ∀ j, (∀ al ∈ als, al.j ≠ j) → (∃ g us vs, C[j]? = some (some (g, us)) ∧ D[j]? = some (some (g, vs)) ∧ stored sts L j us vs) ∨ ((∀ g us, C[j]? ≠ some (some (g, us))) ∧ D[j]? = C[j]?)
 new : ∀ al ∈ als, (¬ doneL L al.i ∧ D[al.j]? = some none) ∨ ∃ h vs, L[al.i]? = some (some (ptrV h)) ∧ D[al.j]? = some (some (h, vs)) ∧ stored sts L al.j al.us vs

theorem stored_same {sts : List Sw} {L : List (Option Value)} {i j : Nat} {v : Value} {us vs : List Nat} (hn : L[i]? = some none) (hs : ∀ st ∈ sts, st.j = j → st.i ≠ i) (h : stored sts L j us vs) : stored sts (L.set i (some v)) j us vs :=
 ⟨fun st hst e d => h.1 st hst e (by
  rcases (done_set hn _).1 d with q | q
  · exact absurd q (hs st hst e)
  · exact q), fun k => h.2 fun st hst e d => k st hst e ((done_set hn _).2 (.inr d))⟩
theorem stored_now {sts : List Sw} {L : List (Option Value)} {st : Sw} {v : Value} {us vs : List Nat} (hst : st ∈ sts) (hn : L[st.i]? = some none) (hi : ∀ st ∈ sts, ∀ st' ∈ sts, (st.j = st'.j ∨ st.i = st'.i) → st = st') (h : stored sts L st.j us vs) : vs = us ∧ stored sts (L.set st.i (some v)) st.j us (setL us st.k st.vs) := by
 have nd : ¬ doneL L st.i := fun ⟨v, hv⟩ => by rw [hn] at hv; simp at hv
 refine ⟨h.2 fun st' hst' e d => ?_, fun st' hst' e _ => by rw [hi st' hst' st hst (.inl e)], fun k => absurd ((done_set hn _).2 (.inl rfl)) (k st hst rfl)⟩
 rw [hi st' hst' st hst (.inl e)] at d
 exact nd d

section
variable {ops : Array Oper} {Q : Exit → Act → World → Prop}
theorem wp_region_w {id : Nat} {a0 : Act} {w w0 : World} {C : List (Option (Nat × List Nat))} (als : List Al) (sts : List Sw) (dv : List Value) (ds : List (Option Tmp))
 (hm : Tryz.prog.follows .mixedOrders = true) (hds : ops.toList.map (·.dst) = ds) (hap : apartL ds = true) (hb : backward ops = true) (hg : plainL ops = true) (hC : Kw w0 C w)
 (ha : ∀ al ∈ als, C[al.j]? = some none) (haj : ∀ al ∈ als, ∀ al' ∈ als, (al.j = al'.j ∨ al.i = al'.i) → al = al') (hai : ∀ al ∈ als, al.i < ops.size)
 (hsi : ∀ st ∈ sts, ∀ st' ∈ sts, (st.j = st'.j ∨ st.i = st'.i) → st = st') (hss : ∀ st ∈ sts, st.i < ops.size) (hsa : ∀ st ∈ sts, ∀ al ∈ als, st.i ≠ al.i)
 (hsw : ∀ st ∈ sts, ∀ al ∈ als, st.j = al.j → waitsAt ops st.i al.i = true)
 (htg : ∀ st ∈ sts, (∃ g us, C[st.j]? = some (some (g, us)) ∧ st.k + st.vs.length ≤ us.length) ∨ ∃ al ∈ als, al.j = st.j ∧ st.k + st.vs.length ≤ al.us.length)
 (alloc : ∀ al ∈ als, ∀ (o : Oper) (ρ : Operand → Value) (W : World), ops[al.i]? = some o → (execOp ρ o).run Tryz.prog W = .ok (.value (ptrV W.heap.size)) (W.alloc (objW al.t al.us)))
 (step : ∀ (L : List (Option Value)) (W : World) (i : Nat) (o : Oper), ops[i]? = some o → (∀ st ∈ sts, st.i ≠ i) → (∀ al ∈ als, al.i ≠ i) → (∀ k, waits o k = true → (∀ al ∈ als, al.i ≠ k) → L[k]? = some (some (dv.getD k undef))) →
  (∀ (j g : Nat) (us : List Nat), C[j]? = some (some (g, us)) → (∀ st ∈ sts, st.j = j → needs ops ops.size st.i i = true) → BW W g us) → Came o (puts ds L a0) W (dv.getD i undef))
 (store : ∀ st ∈ sts, ∀ (L : List (Option Value)) (W : World) (o : Oper) (h : Nat) (us : List Nat), ops[st.i]? = some o → (∀ k, waits o k = true → (∀ al ∈ als, al.i ≠ k) → L[k]? = some (some (dv.getD k undef))) →
  (∀ al ∈ als, al.j = st.j → L[al.i]? = some (some (ptrV h)) ∧ us = al.us) → (∀ g vs, C[st.j]? = some (some (g, vs)) → h = g ∧ us = vs) → BW W h us →
  (execOp (puts ds L a0).eval o).run Tryz.prog W = .ok .skip (putW W h st.k st.vs) ∧ dv.getD st.i undef = undef)
 (fin : ∀ (L : List (Option Value)) (D : List (Option (Nat × List Nat))) (W : World), L.length = ops.size → (∀ i, i < ops.size → (∀ al ∈ als, al.i ≠ i) → L[i]? = some (some (dv.getD i undef))) → D.length = C.length →
  (∀ j, (∀ st ∈ sts, st.j ≠ j) → (∀ al ∈ als, al.j ≠ j) → D[j]? = C[j]?) →
  (∀ st ∈ sts, ∀ g us, C[st.j]? = some (some (g, us)) → D[st.j]? = some (some (g, setL us st.k st.vs))) →
  (∀ al ∈ als, ∃ h, L[al.i]? = some (some (ptrV h)) ∧ (∀ st ∈ sts, st.j = al.j → D[al.j]? = some (some (h, setL al.us st.k st.vs))) ∧ ((∀ st ∈ sts, st.j ≠ al.j) → D[al.j]? = some (some (h, al.us)))) →
  Kw w0 D W → Q .normal (puts ds L a0) W) : (Code.region id ops true).wp Tryz.prog Q a0 w := by
 refine wp_region_inv hm ds hds hap hb hg (fun L W => (∀ i v, (∀ al ∈ als, al.i ≠ i) → L[i]? = some (some v) → v = dv.getD i undef) ∧ Closed ops L ∧ ∃ D, Curw C D als sts L ∧ Kw w0 D W) ?_ ?_ ?_
 · have nd : ∀ i, ¬ doneL (nones ops.size) i := fun i ⟨v, hv⟩ => absurd hv (nones_get _ _ _)
   refine ⟨fun i v _ h => absurd h (nones_get _ _ _), Closed.none _ _, C, ⟨rfl, fun j _ => ?_, fun al hal => .inl ⟨nd _, ha al hal⟩⟩, hC.draws⟩
   by_cases q : ∃ g us, C[j]? = some (some (g, us))
   · obtain ⟨g, us, e⟩ := q
     exact .inl ⟨g, us, us, e, e, fun st _ _ d => absurd d (nd _), fun _ => rfl⟩
   · exact .inr ⟨fun g us e => q ⟨g, us, e⟩, rfl⟩
 · intro L W i o hL ho hn hd ⟨hdet, hcl, D, hD, hK⟩
   have hd' : ∀ k, waits o k = true → (∀ al ∈ als, al.i ≠ k) → L[k]? = some (some (dv.getD k undef)) := fun k hk hka => by
    unfold waits at hk
    rw [List.any_eq_true] at hk
    obtain ⟨e, he, h2⟩ := hk
    simp only [Bool.and_eq_true, beq_iff_eq] at h2
    obtain ⟨v, hv⟩ := hd e (Array.mem_toList_iff.1 he) h2.2
    rw [h2.1] at hv
    rw [hv, hdet k v hka hv]
   have hil : i < L.length := (List.getElem?_eq_some_iff.1 hn).1
   have key : ∀ v, ((∀ al ∈ als, al.i ≠ i) → v = dv.getD i undef) → ∀ k u, (∀ al ∈ als, al.i ≠ k) → (L.set i (some v))[k]? = some (some u) → u = dv.getD k undef := fun v hv k u hka hk => by
    by_cases hik : i = k
    · subst hik
      rw [List.getElem?_set_self hil] at hk
      rw [← Option.some.inj (Option.some.inj hk)]; exact hv hka
    · rw [List.getElem?_set_ne hik] at hk; exact hdet k u hka hk
   have nd : ¬ doneL L i := fun ⟨v, hv⟩ => by rw [hn] at hv; simp at hv
   by_cases ea : ∃ al ∈ als, al.i = i
   · obtain ⟨al, hal, rfl⟩ := ea
     have r := alloc al hal o (puts ds L a0).eval W ho
     have hDj : D[al.j]? = some none := by
        rcases hD.new al hal with ⟨-, e⟩ | ⟨h, vs, e, -⟩
        · exact e
        · rw [hn] at e; simp at e
     have hjl : al.j < D.length := (List.getElem?_eq_some_iff.1 hDj).1
     unfold Oper.wp; rw [r]
     refine ⟨_, rfl, key _ (fun z => absurd rfl (z al hal)), hcl.set ho hn hd, D.set al.j (some (W.heap.size, al.us)), ⟨by simp [hD.len], fun j hj => ?_, fun al' hal' => ?_⟩, hK.make al.j hDj al.t al.us⟩
     · have hne : al.j ≠ j := hj al hal
       rw [List.getElem?_set_ne hne]
       rcases hD.old j hj with ⟨g, us, vs, e1, e2, e3⟩ | e
       · exact .inl ⟨g, us, vs, e1, e2, stored_same hn (fun st hst _ => hsa st hst al hal) e3⟩
       · exact .inr e
     · by_cases q : al' = al
       · subst q
         refine .inr ⟨W.heap.size, al'.us, ?_, by rw [List.getElem?_set_self hjl], fun st hst e d => ?_, fun _ => rfl⟩
         · rw [List.getElem?_set_self hil]
         · rcases (done_set hn _).1 d with z | z
           · exact absurd z (hsa st hst al' hal)
           · exact absurd (hcl _ _ z (hsw st hst al' hal e)) nd
       · have hne : al.j ≠ al'.j := fun e => q (haj al' hal' al hal (.inl e.symm))
         have hni : al.i ≠ al'.i := fun e => q (haj al' hal' al hal (.inr e.symm))
         rw [List.getElem?_set_ne hne, List.getElem?_set_ne hni]
         rcases hD.new al' hal' with ⟨e1, e2⟩ | ⟨h, vs, e1, e2, e3⟩
         · exact .inl ⟨fun z => ((done_set hn _).1 z).elim (fun z => hni z.symm) e1, e2⟩
         · exact .inr ⟨h, vs, e1, e2, stored_same hn (fun st hst _ => hsa st hst al hal) e3⟩
   · have ha' : ∀ al ∈ als, al.i ≠ i := fun al hal e => ea ⟨al, hal, e⟩
     by_cases es : ∃ st ∈ sts, st.i = i
     · obtain ⟨st, hst, rfl⟩ := es
       -- the block that is stored into
       have B : ∃ h us, D[st.j]? = some (some (h, us)) ∧ st.k + st.vs.length ≤ us.length ∧ (∀ al ∈ als, al.j = st.j → L[al.i]? = some (some (ptrV h)) ∧ us = al.us) ∧ (∀ g vs, C[st.j]? = some (some (g, vs)) → h = g ∧ us = vs) := by
         by_cases q : ∃ al ∈ als, al.j = st.j
         · obtain ⟨al, hal, e⟩ := q
           have da : doneL L al.i := by
             have hs := hsw st hst al hal e.symm
             unfold waitsAt at hs
             rw [ho] at hs
             simp only [Option.map_some, Option.getD_some] at hs
             unfold waits at hs
             rw [List.any_eq_true] at hs
             obtain ⟨e', he, h2⟩ := hs
             simp only [Bool.and_eq_true, beq_iff_eq] at h2
             have := hd e' (Array.mem_toList_iff.1 he) h2.2
             rw [h2.1] at this
             exact this
           rcases hD.new al hal with ⟨z, -⟩ | ⟨h, vs, e1, e2, e3⟩
           · exact absurd da z
           · have hu := (stored_now (v := undef) hst hn hsi (e ▸ e3)).1
             subst hu
             refine ⟨h, al.us, e ▸ e2, ?_, fun al' hal' e' => ?_, fun g vs' e' => ?_⟩
             · rcases htg st hst with ⟨g, us, c, -⟩ | ⟨al', hal', e', c⟩
               · rw [← e, ha al hal] at c; simp at c
               · rw [haj al' hal' al hal (.inl (by omega))] at c; exact c
             · rw [haj al' hal' al hal (.inl (by omega))]; exact ⟨e1, rfl⟩
             · rw [← e, ha al hal] at e'; simp at e'
         · have q' : ∀ al ∈ als, al.j ≠ st.j := fun al hal e => q ⟨al, hal, e⟩
           rcases htg st hst with ⟨g, us, c, c2⟩ | ⟨al', hal', e', -⟩
           · rcases hD.old st.j q' with ⟨g', us', vs', e1, e2, e3⟩ | ⟨e1, -⟩
             · rw [c] at e1
               simp at e1
               obtain ⟨rfl, rfl⟩ := e1
               have hu := (stored_now (v := undef) hst hn hsi e3).1
               subst hu
               refine ⟨g, vs', e2, c2, fun al hal e => absurd e (q' al hal), fun g2 vs2 e => ?_⟩
               rw [c] at e
               simp at e
               exact ⟨e.1, e.2⟩
             · exact absurd c (e1 g us)
           · exact absurd e' (q' al' hal')
       obtain ⟨h, us, hDj, hk, b1, b2⟩ := B
       obtain ⟨r, u⟩ := store st hst L W o h us ho hd' b1 b2 (hK.at_ st.j hDj)
       have hjl : st.j < D.length := (List.getElem?_eq_some_iff.1 hDj).1
       unfold Oper.wp; rw [r]
       refine ⟨undef, rfl, key _ (fun _ => u.symm), hcl.set ho hn hd, D.set st.j (some (h, setL us st.k st.vs)), ⟨by simp [hD.len], fun j hj => ?_, fun al hal => ?_⟩, hK.put st.j hDj st.k st.vs hk⟩
       · by_cases e : st.j = j
         · subst e
           rcases hD.old _ hj with ⟨g, us', vs', e1, e2, e3⟩ | ⟨e1, e2⟩
           · rw [hDj] at e2
             simp at e2
             obtain ⟨rfl, rfl⟩ := e2
             obtain ⟨rfl, S⟩ := stored_now (v := undef) hst hn hsi e3
             exact .inl ⟨_, _, _, e1, by rw [List.getElem?_set_self hjl], S⟩
           · rw [hDj] at e2
             exact absurd e2.symm (e1 h us)
         · rw [List.getElem?_set_ne e]
           rcases hD.old j hj with ⟨g, us', vs', e1, e2, e3⟩ | e'
           · exact .inl ⟨g, us', vs', e1, e2, stored_same hn (fun st' hst' e' z => e (by rw [← hsi st' hst' st hst (.inr z)]; exact e')) e3⟩
           · exact .inr e'
       · have hni : st.i ≠ al.i := hsa st hst al hal
         rw [List.getElem?_set_ne hni]
         by_cases e : st.j = al.j
         · rcases hD.new al hal with ⟨-, e2⟩ | ⟨h', vs', e1, e2, e3⟩
           · rw [← e, hDj] at e2; simp at e2
           · rw [← e, hDj] at e2
             simp at e2
             obtain ⟨rfl, rfl⟩ := e2
             rw [← e] at e3 ⊢
             obtain ⟨rfl, S⟩ := stored_now (v := undef) hst hn hsi e3
             exact .inr ⟨_, _, e1, by rw [List.getElem?_set_self hjl], S⟩
         · rw [List.getElem?_set_ne e]
           rcases hD.new al hal with ⟨e1, e2⟩ | ⟨h', vs', e1, e2, e3⟩
           · exact .inl ⟨fun z => ((done_set hn _).1 z).elim (fun z => hni z.symm) e1, e2⟩
           · exact .inr ⟨h', vs', e1, e2, stored_same hn (fun st' hst' e' z => e (by rw [← hsi st' hst' st hst (.inr z)]; exact e')) e3⟩
     · have hs' : ∀ st ∈ sts, st.i ≠ i := fun st hst e => es ⟨st, hst, e⟩
       have hB : ∀ (j g : Nat) (us : List Nat), C[j]? = some (some (g, us)) → (∀ st ∈ sts, st.j = j → needs ops ops.size st.i i = true) → BW W g us := fun j g us h hh => by
         refine hK.at_ j ?_
         have q : ∀ al ∈ als, al.j ≠ j := fun al hal e => by
           have := ha al hal
           rw [e, h] at this
           simp at this
         rcases hD.old j q with ⟨g', us', vs', e1, e2, e3⟩ | ⟨e1, -⟩
         · rw [h] at e1
           simp at e1
           obtain ⟨rfl, rfl⟩ := e1
           rw [e2, e3.2 fun st hst e d => nd (hcl.needs _ _ _ (hh st hst e) d)]
         · exact absurd h (e1 g us)
       have hcur : ∀ v, Curw C D als sts (L.set i (some v)) := fun v => ⟨hD.len, fun j hj => by
           rcases hD.old j hj with ⟨g, us', vs', e1, e2, e3⟩ | e'
           · exact .inl ⟨g, us', vs', e1, e2, stored_same hn (fun st hst _ => hs' st hst) e3⟩
           · exact .inr e', fun al hal => by
           rcases hD.new al hal with ⟨e1, e2⟩ | ⟨h', vs', e1, e2, e3⟩
           · exact .inl ⟨fun z => ((done_set hn _).1 z).elim (ha' al hal) e1, e2⟩
           · exact .inr ⟨h', vs', by rw [List.getElem?_set_ne (Ne.symm (ha' al hal))]; exact e1, e2, stored_same hn (fun st hst _ => hs' st hst) e3⟩⟩
       rcases step L W i o ho hs' ha' hd' hB with ⟨w', r, k⟩ | ⟨f, args, r, k⟩
       · unfold Oper.wp; rw [r]
         exact ⟨_, rfl, key _ (fun _ => rfl), hcl.set ho hn hd, D, hcur _, hK.on k⟩
       · unfold Oper.wp; rw [r]
         refine Calls.mono k fun e w' hh => ?_
         obtain ⟨rfl, hS⟩ := hh
         exact ⟨_, rfl, key _ (fun _ => rfl), hcl.set ho hn hd, D, hcur _, hK.on hS⟩
 · rintro L W hL hall ⟨hdet, -, D, hD, hK⟩
   refine fin L D W hL (fun i hi hia => ?_) hD.len (fun j hj q => ?_) (fun st hst g us h => ?_) (fun al hal => ?_) hK
   · obtain ⟨v, hv⟩ := hall i hi
     rw [hv, hdet i v hia hv]
   · rcases hD.old j q with ⟨g', us', vs', e1, e2, e3⟩ | ⟨-, e⟩
     · rw [e1, e2, e3.2 fun st hst e => absurd e (hj st hst)]
     · exact e
   · have q : ∀ al ∈ als, al.j ≠ st.j := fun al hal e => by
        have := ha al hal
        rw [e, h] at this
        simp at this
     rcases hD.old st.j q with ⟨g', us', vs', e1, e2, e3⟩ | ⟨e1, -⟩
     · rw [h] at e1
       simp at e1
       obtain ⟨rfl, rfl⟩ := e1
       rw [e2, e3.1 st hst rfl (hall _ (hss st hst))]
     · exact absurd h (e1 g us)
   · rcases hD.new al hal with ⟨z, -⟩ | ⟨h, vs, e1, e2, e3⟩
     · exact absurd (hall _ (hai al hal)) z
     · refine ⟨h, e1, fun st hst e => ?_, fun hn => ?_⟩
       · rw [e2, e3.1 st hst e (hall _ (hss st hst))]
       · rw [e2, e3.2 fun st hst e => absurd e (hn st hst)]
theorem wp_region_k {id : Nat} {a0 : Act} {w w0 : World} {C : List (Option (Nat × List Nat))} (E : (Nat → Nat) → List (Option (Nat × List Nat))) (Lf : (Nat → Nat) → List (Option Value)) (als : List Al) (sts : List Sw) (dv : List Value) (ds : List (Option Tmp))
 (hm : Tryz.prog.follows .mixedOrders = true) (hds : ops.toList.map (·.dst) = ds) (hap : apartL ds = true) (hb : backward ops = true) (hg : plainL ops = true) (hC : Kw w0 C w)
 (ha : ∀ al ∈ als, C[al.j]? = some none) (haj : ∀ al ∈ als, ∀ al' ∈ als, (al.j = al'.j ∨ al.i = al'.i) → al = al') (hai : ∀ al ∈ als, al.i < ops.size)
 (hsi : ∀ st ∈ sts, ∀ st' ∈ sts, (st.j = st'.j ∨ st.i = st'.i) → st = st') (hss : ∀ st ∈ sts, st.i < ops.size) (hsa : ∀ st ∈ sts, ∀ al ∈ als, st.i ≠ al.i)
 (hsw : ∀ st ∈ sts, ∀ al ∈ als, st.j = al.j → waitsAt ops st.i al.i = true)
 (htg : ∀ st ∈ sts, (∃ g us, C[st.j]? = some (some (g, us)) ∧ st.k + st.vs.length ≤ us.length) ∨ ∃ al ∈ als, al.j = st.j ∧ st.k + st.vs.length ≤ al.us.length)
 (hE2 : ∀ hf j, (∀ st ∈ sts, st.j ≠ j) → (∀ al ∈ als, al.j ≠ j) → (E hf)[j]? = C[j]?)
 (hE3 : ∀ hf, ∀ st ∈ sts, ∀ g us, C[st.j]? = some (some (g, us)) → (E hf)[st.j]? = some (some (g, setL us st.k st.vs)))
 (hE4 : ∀ hf, ∀ al ∈ als, (∀ st ∈ sts, st.j = al.j → (E hf)[al.j]? = some (some (hf al.i, setL al.us st.k st.vs))) ∧ ((∀ st ∈ sts, st.j ≠ al.j) → (E hf)[al.j]? = some (some (hf al.i, al.us))))
 (hL1 : ∀ hf, (Lf hf).length = ops.size)
 (hL2 : ∀ hf i, i < ops.size → (∀ al ∈ als, al.i ≠ i) → (Lf hf)[i]? = some (some (dv.getD i undef)))
 (hL3 : ∀ hf, ∀ al ∈ als, (Lf hf)[al.i]? = some (some (ptrV (hf al.i))))
 (alloc : ∀ al ∈ als, ∀ (o : Oper) (ρ : Operand → Value) (W : World), ops[al.i]? = some o → (execOp ρ o).run Tryz.prog W = .ok (.value (ptrV W.heap.size)) (W.alloc (objW al.t al.us)))
 (step : ∀ (L : List (Option Value)) (W : World) (i : Nat) (o : Oper), ops[i]? = some o → (∀ st ∈ sts, st.i ≠ i) → (∀ al ∈ als, al.i ≠ i) → (∀ k, waits o k = true → (∀ al ∈ als, al.i ≠ k) → L[k]? = some (some (dv.getD k undef))) →
  (∀ (j g : Nat) (us : List Nat), C[j]? = some (some (g, us)) → (∀ st ∈ sts, st.j = j → needs ops ops.size st.i i = true) → BW W g us) → Came o (puts ds L a0) W (dv.getD i undef))
 (store : ∀ st ∈ sts, ∀ (L : List (Option Value)) (W : World) (o : Oper) (h : Nat) (us : List Nat), ops[st.i]? = some o → (∀ k, waits o k = true → (∀ al ∈ als, al.i ≠ k) → L[k]? = some (some (dv.getD k undef))) →
  (∀ al ∈ als, al.j = st.j → L[al.i]? = some (some (ptrV h)) ∧ us = al.us) → (∀ g vs, C[st.j]? = some (some (g, vs)) → h = g ∧ us = vs) → BW W h us →
  (execOp (puts ds L a0).eval o).run Tryz.prog W = .ok .skip (putW W h st.k st.vs) ∧ dv.getD st.i undef = undef)
 (fin : ∀ (hf : Nat → Nat) (W : World), Kw w0 (E hf) W → Q .normal (puts ds (Lf hf) a0) W) : (Code.region id ops true).wp Tryz.prog Q a0 w := by
 refine wp_region_w als sts dv ds hm hds hap hb hg hC ha haj hai hsi hss hsa hsw htg alloc step store fun L D W hL hall hlen hold hst hal hK => ?_
 -- the addresses
 let hf : Nat → Nat := fun i => match L[i]? with
  | some (some (.pointer (some p))) => p.block
  | _ => 0
 have hfe : ∀ al ∈ als, ∀ h, L[al.i]? = some (some (ptrV h)) → hf al.i = h := fun al _ h e => by
  show (match L[al.i]? with | some (some (.pointer (some p))) => p.block | _ => 0) = h
  rw [e]; rfl
 have eL : L = Lf hf := by
  refine List.ext_getElem? fun i => ?_
  by_cases hi : i < ops.size
  · by_cases q : ∃ al ∈ als, al.i = i
    · obtain ⟨al, m, rfl⟩ := q
      obtain ⟨h, e, -⟩ := hal al m
      rw [hL3 hf al m, hfe al m h e, e]
    · have q' : ∀ al ∈ als, al.i ≠ i := fun al m e => q ⟨al, m, e⟩
      rw [hall i hi q', hL2 hf i hi q']
  · rw [List.getElem?_eq_none (by omega), List.getElem?_eq_none (by rw [hL1 hf]; omega)]
 have eD : D = E hf := by
  refine List.ext_getElem? fun j => ?_
  by_cases q : ∃ al ∈ als, al.j = j
  · obtain ⟨al, m, rfl⟩ := q
    obtain ⟨h, e, d1, d2⟩ := hal al m
    have e4 := hE4 hf al m
    rw [hfe al m h e] at e4
    by_cases r : ∃ st ∈ sts, st.j = al.j
    · obtain ⟨st, ms, es⟩ := r
      rw [d1 st ms es, e4.1 st ms es]
    · have r' : ∀ st ∈ sts, st.j ≠ al.j := fun st ms es => r ⟨st, ms, es⟩
      rw [d2 r', e4.2 r']
  · have q' : ∀ al ∈ als, al.j ≠ j := fun al m e => q ⟨al, m, e⟩
    by_cases r : ∃ st ∈ sts, st.j = j
    · obtain ⟨st, ms, rfl⟩ := r
      rcases htg st ms with ⟨g, us, c, -⟩ | ⟨al, m, e, -⟩
      · rw [hst st ms g us c, hE3 hf st ms g us c]
      · exact absurd e (q' al m)
    · have r' : ∀ st ∈ sts, st.j ≠ j := fun st ms es => r ⟨st, ms, es⟩
      rw [hold j r' q', hE2 hf j r' q']
 rw [eL]
 rw [eD] at hK
 exact fin hf W hK
end
end Go.Proofs.YtacinenddnfcbaaGreat
