/- Proved here: what the texts Obg, Obh, Obq prove, one behind the other. -/
import Derived.Test.YtdfcchocabapkaaGreatJq3
import Derived.Test.YtdfcchocabapkaaGreatJy9
import Derived.Test.YtdfcchocabapkaaGreatJo1

namespace Go.Proofs.YtdfcchocabapkaaGreat
open Go.ChangeShapes Go.WideShapes Go.ChangeAt Go.RowKit Ieee.Own Pol

end Go.Proofs.YtdfcchocabapkaaGreat

namespace Go.Proofs.YtdfcchocabapkaaGreat
open Ieee.Own Pol Fma

theorem sm_small {A : Rat} (h : 1 / 1048576 ≤ A) : sm ≤ uR * A := by
 have := Rat.mul_le_mul_of_nonneg_left h uR0
 have k : sm ≤ uR * (1 / 1048576) := by decide +kernel
 grind
theorem apply_turn {a : Int} {x : Nat} {v : V3} (h0 : 0 ≤ a) (h1 : a ≤ 2) (hx : x < 18446744073709551616) (e : errA x = 0) (hv : W3 v) (k : (applyR (turnW a x) v).2 = 0) :
 fitV v = true ∧ W3 (applyR (turnW a x) v).1 ∧ fitV (applyR (turnW a x) v).1 = true ∧ Off3 (applyR (turnW a x) v).1 (rotQ a (Q (bW (tS x))) (Q (bW (tC x))) (qv v)) (8 * (uR * sz3 v) + sm) ∧ mag (Q (bW (tC x)) * Q (bW (tC x)) + Q (bW (tS x)) * Q (bW (tS x)) - 1) ≤ 33 * uR := by
 have A := errA_ang hx e
 have T := trig_of hx e
 obtain ⟨f, ee, fo⟩ := apply_ok k
 have n := turn_near h0 h1 A T hv f
 have w := (ans_apply (turnW_ok a hx e).1 hv).w
 refine ⟨f, w, by rw [ee]; exact fo, ?_, (circ7 A T).on⟩
 rw [ee]
 exact n
theorem laid_ring {A e : Rat} (A0 : 1 / 1048576 ≤ A) (e0 : 0 ≤ e) (e1 : e ≤ 7 / 8) : ∀ (l : List (Int × Nat)) (v w : V3) (n : Nat), (∀ t ∈ l, 0 ≤ t.1 ∧ t.1 ≤ 2 ∧ t.2 < 18446744073709551616 ∧ errA t.2 = 0) → W3 v →
 Ring (qv v) (A * (1 - e - (n : Rat) * uR)) (A * (1 + e + (n : Rat) * uR)) → n + 300 * l.length ≤ 5000 → laidR l v = (w, 0) → W3 w ∧ Ring (qv w) (A * (1 - e - ((n + 300 * l.length : Nat) : Rat) * uR)) (A * (1 + e + ((n + 300 * l.length : Nat) : Rat) * uR)) ∧ (l ≠ [] → fitV w = true)
 | [], v, w, n, _, hv, R, _, h => by
   obtain rfl : v = w := congrArg Prod.fst h
   exact ⟨hv, R, fun c => absurd rfl c⟩
 | t :: l, v, w, n, ht, hv, R, hn, h => by
   obtain ⟨t0, t1, t2, t3⟩ := ht t (List.mem_cons_self ..)
   by_cases k : (applyR (turnW t.1 t.2) v).2 = 0
   · have g := laid_ok h k
     obtain ⟨fv, w1, fw, off, c⟩ := apply_turn t0 t1 t2 t3 hv k
     have hl : (t :: l).length = l.length + 1 := rfl
     rw [hl] at hn
     have nn : (0 : Rat) ≤ (n : Rat) := Rat.natCast_nonneg
     have n5 : (n : Rat) ≤ 5000 := by
        have : ((n : Nat) : Rat) ≤ ((5000 : Nat) : Rat) := Rat.natCast_le_natCast.2 (by omega)
        exact this
     have R2 := turn_ring t.1 uR0 uR1 (Rat.le_trans (show (0 : Rat) ≤ 1 / 1048576 by decide +kernel) A0) e0 e1 nn n5 R c (sz_len R.hi) (sm_small A0) off.len
     have en : ((n : Rat) + 300) = ((n + 300 : Nat) : Rat) := by rw [Rat.natCast_add]; rfl
     rw [en] at R2
     obtain ⟨a1, a2, a3⟩ := laid_ring A0 e0 e1 l _ w (n + 300) (fun s hs => ht s (List.mem_cons_of_mem _ hs)) w1 R2 (by omega) g
     have el : n + 300 + 300 * l.length = n + 300 * (l.length + 1) := by omega
     rw [el] at a2
     refine ⟨a1, a2, fun _ => ?_⟩
     by_cases z : l = []
     · subst z
       have : (applyR (turnW t.1 t.2) v).1 = w := congrArg Prod.fst g
       rw [← this]; exact fw
     · exact a3 z
   · have g := laid_no h k
     exact absurd (congrArg Prod.snd g) k
theorem at_ring {o : Ob} {d : Nat} {v : V3} (h : ObW o) (hd : d < 18446744073709551616) (k : atR o d = (v, 0)) : ObOk o ∧ W3 v ∧ fitV v = true ∧ Ring (qv v) (Q o.ax * (1 - Q o.ec - 2900 * uR)) (Q o.ax * (1 + Q o.ec + 2900 * uR)) := by
 unfold atR at k
 by_cases c : readyO o (witB g24 d) = 0
 · rw [if_pos c] at k
   obtain ⟨m, t⟩ := readyO_zero c
   have hO := mayO_of m
   have S := at_of h hO hd t
   have X := axi_of h hO
   obtain ⟨g, e0, e1⟩ := ecc_of h.ec hO.ec
   have R := pla_ring X h.ec g e0 e1 S.ang
   have R : Ring (qv (plaV o (placeW o d))) (Q o.ax * (1 - Q o.ec - ((2000 : Nat) : Rat) * uR)) (Q o.ax * (1 + Q o.ec + ((2000 : Nat) : Rat) * uR)) := by
    have e : qv (plaV o (placeW o d)) = (Q (bW (plX o.ax o.ec (tC (placeW o d)))), Q (bW (plY o.ax o.ec (tS (placeW o d)))), 0) := by
       unfold qv plaV
       rw [oW_bW S.pla.fx S.sx, oW_bW S.pla.fy S.sy]
       dsimp only
       rw [Q0]
    rw [e]; exact R
   obtain ⟨a1, a2, a3⟩ := laid_ring X.lo e0 e1 (turnsO o) _ v 2000 (by
    intro t ht
    unfold turnsO at ht
    simp only [List.mem_cons, List.not_mem_nil, or_false] at ht
    rcases ht with rfl | rfl | rfl
    · exact ⟨show (0 : Int) ≤ 2 by decide, show (2 : Int) ≤ 2 by decide, h.pe, tu_ang h.pe hO.pe⟩
    · exact ⟨show (0 : Int) ≤ 0 by decide, show (0 : Int) ≤ 2 by decide, h.ti, tu_ang h.ti hO.ti⟩
    · exact ⟨show (0 : Int) ≤ 2 by decide, show (2 : Int) ≤ 2 by decide, h.no, tu_ang h.no hO.no⟩) S.w R (show 2000 + 300 * 3 ≤ 5000 by decide) k
   have el : 2000 + 300 * (turnsO o).length = 2900 := by
    have : (turnsO o).length = 3 := rfl
    omega
   rw [el] at a2
   exact ⟨hO, a1, a3 (List.cons_ne_nil _ _), a2⟩
 · rw [if_neg c] at k
   exact absurd (congrArg Prod.snd k) c
end Go.Proofs.YtdfcchocabapkaaGreat

namespace Go.Proofs.YtdfcchocabapkaaGreat
open Go.ChangeShapes Go.WideShapes Go.ChangeAt Go.RowKit Ieee.Own Pol

end Go.Proofs.YtdfcchocabapkaaGreat
