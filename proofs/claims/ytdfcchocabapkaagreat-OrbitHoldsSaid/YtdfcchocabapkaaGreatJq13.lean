/- Proved here: what the texts Ocf, Ocg prove, one behind the other. -/
import Derived.Test.YtdfcchocabapkaaGreatJq12
import Derived.Test.YtdfcchocabapkaaGreatJq4
import Derived.Test.YtdfcchocabapkaaGreatJy13

set_option maxRecDepth 100000
namespace Go.Proofs.YtdfcchocabapkaaGreat
open Go.ChangeShapes Go.WideShapes Go.ChangeAt Go.RowKit Ieee.Own Pol Fma

def rotL : List (Int × Nat) → R3 → R3
 | [], p => p
 | t :: l, p => rotL l (rotQ t.1 (SQ t.2) (CQ t.2) p)
theorem eps_u : Ply.eps ≤ uR := by decide +kernel
theorem near_poly11 {u ep sz S A D : Rat} (uA : 0 ≤ u * A) (hD : D ≤ A) (D0 : 0 ≤ D) (eu : ep ≤ u) (hz : u * sz ≤ 6 * (u * A)) (hS : S ≤ u * A) (u0 : 0 ≤ u) : 3 * (8 * (u * sz) + S) + 4 * (9 * u * (2 * A)) + D * (1 + ep) ≤ D + 300 * (u * A) := by
 have a := Rat.mul_le_mul_of_nonneg_left eu D0
 have b := Rat.mul_le_mul_of_nonneg_right hD u0
 have c : D * (1 + ep) = D + D * ep := by grind
 have d : 4 * (9 * u * (2 * A)) = 72 * (u * A) := by grind
 have f : A * u = u * A := by grind
 rw [c, d]
 rw [f] at b
 generalize u * A = X at *
 generalize u * sz = Z at *
 generalize D * ep = Y at *
 generalize D * u = W at *
 grind
theorem ring_cap {A e n u : Rat} (A0 : 0 ≤ A) (e1 : e ≤ 7 / 8) (n1 : n ≤ 5000) (u0 : 0 ≤ u) (u1 : 1000000 * u ≤ 1) : A * (1 + e + n * u) ≤ 2 * A := by
 have a := Rat.mul_nonneg (show 0 ≤ 5000 - n by grind) u0
 have k : (5000 - n) * u = 5000 * u - n * u := by grind
 rw [k] at a
 generalize n * u = N at *
 have h := Rat.mul_le_mul_of_nonneg_left (show 1 + e + N ≤ 2 by grind) A0
 have q : A * 2 = 2 * A := by grind
 rwa [q] at h
theorem usz_cap {A u z : Rat} (u0 : 0 ≤ u) (h : z ≤ 3 * (2 * A)) : u * z ≤ 6 * (u * A) := by
 have h := Rat.mul_le_mul_of_nonneg_left h u0
 have q : u * (3 * (2 * A)) = 6 * (u * A) := by grind
 rwa [q] at h
theorem laid_near {A e : Rat} (A0 : 1 / 1048576 ≤ A) (e0 : 0 ≤ e) (e1 : e ≤ 7 / 8) : ∀ (l : List (Int × Nat)) (v w : V3) (p : R3) (D : Rat) (n : Nat), (∀ t ∈ l, 0 ≤ t.1 ∧ t.1 ≤ 2 ∧ t.2 < 18446744073709551616 ∧ errA t.2 = 0) → W3 v →
 Ring (qv v) (A * (1 - e - (n : Rat) * uR)) (A * (1 + e + (n : Rat) * uR)) → n + 300 * l.length ≤ 5000 → Len (subQ (qv v) p) D → D + 300 * (l.length : Rat) * (uR * A) ≤ A → laidR l v = (w, 0) → Len (subQ (qv w) (rotL l p)) (D + 300 * (l.length : Rat) * (uR * A))
 | [], v, w, p, D, n, _, hv, R, _, hp, hD, h => by
   obtain rfl : v = w := congrArg Prod.fst h
   refine hp.le ?_
   have : ((([] : List (Int × Nat)).length : Nat) : Rat) = 0 := rfl
   rw [this]
   grind
 | t :: l, v, w, p, D, n, ht, hv, R, hn, hp, hD, h => by
   obtain ⟨t0, t1, t2, t3⟩ := ht t (List.mem_cons_self ..)
   by_cases k : (applyR (turnW t.1 t.2) v).2 = 0
   · have g := laid_ok h k
     obtain ⟨fv, w1, fw, off, c⟩ := apply_turn t0 t1 t2 t3 hv k
     have hl : (t :: l).length = l.length + 1 := rfl
     rw [hl] at hn
     have nn : (0 : Rat) ≤ (n : Rat) := Rat.natCast_nonneg
     have n5 : (n : Rat) ≤ 5000 := by
        have : ((n : Nat) : Rat) ≤ ((5000 : Nat) : Rat) := Rat.natCast_le_natCast.2 (by omega)
        exact this
     have AA := Rat.le_trans (show (0 : Rat) ≤ 1 / 1048576 by decide +kernel) A0
     have R2 := turn_ring t.1 uR0 uR1 AA e0 e1 nn n5 R c (sz_len R.hi) (sm_small A0) off.len
     have en : ((n : Rat) + 300) = ((n + 300 : Nat) : Rat) := by rw [Rat.natCast_add]; rfl
     rw [en] at R2
     have uA := Rat.mul_nonneg uR0 AA
     have cl : (((t :: l).length : Nat) : Rat) = (l.length : Rat) + 1 := by rw [hl, Rat.natCast_add]; rfl
     rw [cl] at hD ⊢
     have ll : (0 : Rat) ≤ (l.length : Rat) := Rat.natCast_nonneg
     have lu := Rat.mul_nonneg ll uA
     have A2 : A * (1 + e + (n : Rat) * uR) ≤ 2 * A := ring_cap AA e1 n5 uR0 uR1
     have AN := errA_ang t2 t3
     have T := trig_of t2 t3
     obtain ⟨o1, o2, -, -⟩ := trig_off AN T
     have ci := (sin_word t.2).circ
     have hB := R.hi.le A2
     have nt := near_turn t.1 o1 o2 hB ci hp off.len
     have sz := sz_len hB
     have usz : uR * sz3 v ≤ 6 * (uR * A) := usz_cap uR0 sz
     have D0 := hp.1
     have e3 : 300 * ((l.length : Rat) + 1) * (uR * A) = 300 * (l.length : Rat) * (uR * A) + 300 * (uR * A) := by grind
     rw [e3] at hD ⊢
     have e4 : 300 * (l.length : Rat) * (uR * A) = 300 * ((l.length : Rat) * (uR * A)) := by grind
     have D1 : D ≤ A := by
        rw [e4] at hD
        generalize (l.length : Rat) * (uR * A) = L at *
        generalize uR * A = X at *
        grind
     have nl := nt.le (near_poly11 uA D1 D0 eps_u usz (sm_small A0) uR0)
     have s1 : D + (300 * (l.length : Rat) * (uR * A) + 300 * (uR * A)) = D + 300 * (uR * A) + 300 * (l.length : Rat) * (uR * A) := by grind
     rw [s1] at hD ⊢
     exact laid_near A0 e0 e1 l _ w _ (D + 300 * (uR * A)) (n + 300) (fun s hs => ht s (List.mem_cons_of_mem _ hs)) w1 R2 (by omega) nl hD g
   · have g := laid_no h k
     exact absurd (congrArg Prod.snd g) k

def w12 : Nat := 4661225614328463360
theorem norm_12 : Norm w12 false 4503599627370496 1034 := by
 have f : FinW w12 := by unfold FinW w12; omega
 have N := norm_of f (by unfold w12; omega)
 rw [show decide (9223372036854775808 ≤ w12) = false by decide] at N
 exact N
theorem lim_poly11 {u A q : Rat} (u1 : 1000000 * u ≤ 1) (A0 : 0 < A) (r : mag (q * 4096 - A) ≤ u * mag (q * 4096)) : 24 / 100000 * A ≤ q := by
 have m := mag_le (q * 4096 - A)
 generalize hX : q * 4096 = X at *
 have pos : 0 ≤ X := by
  refine Rat.not_lt.1 fun c => ?_
  have e : mag X = -X := by
   unfold mag
   rw [if_neg (by grind)]
  rw [e] at r
  have := Rat.mul_nonneg (show 0 ≤ 1 / 1000000 - u by grind) (show 0 ≤ -X by grind)
  have e2 : (1 / 1000000 - u) * -X = -X / 1000000 - u * -X := by grind
  rw [e2] at this
  grind
 have e : mag X = X := by
  unfold mag
  rw [if_pos pos]
 rw [e] at r
 have := Rat.mul_nonneg (show 0 ≤ 1 / 1000000 - u by grind) pos
 have e2 : (1 / 1000000 - u) * X = X / 1000000 - u * X := by grind
 rw [e2] at this
 grind
theorem lim12 {A : Nat} (hA : Axi A) : Ieee.double.div A w12 = some (qX A w12) ∧ FinW (qX A w12) ∧ 24 / 100000 * Q A ≤ Q (qX A w12) := by
 obtain ⟨a1, a2, a3⟩ := div_any hA.lt hA.fit norm_12 (by omega) (by omega)
 have r := quo_rat a3
 have q12 : Q w12 = 4096 := by decide +kernel
 rw [q12] at r
 have A1 : 0 < Q A := by
  have := hA.lo
  have c : (0 : Rat) < 1 / 1048576 := by decide +kernel
  grind
 exact ⟨a1, a2, lim_poly11 uR1 A1 r⟩
theorem trig_by {x : Nat} (A : Ang x) : mag (Q (tS x) - SQ x) ≤ mkRat 1 (2 ^ 50) ∧ mag (Q (tC x) - CQ x) ≤ mkRat 1 (2 ^ 50) := by
 obtain ⟨r, R⟩ := rst_ex A
 obtain ⟨⟨a, b⟩, c, d⟩ := trig_near A (ang_trig A) R
 obtain ⟨q1, q2⟩ := SQ_of R
 rw [q1, q2]
 exact ⟨mag_of a b, mag_of c d⟩
theorem roo_cap {e : Nat} (R : Roo e) : mag (Q (rooW e)) ≤ 101 / 100 := by
 have s := R.sq
 have n := R.nn
 have l := mag_le (Q (rooW e) * Q (rooW e) - (1 - Q e * Q e))
 have ee : 0 ≤ Q e * Q e := Fma.sq_nn _
 have c : 6 * uR ≤ 1 / 1000 := by decide +kernel
 refine mag_of (by grind) (Rat.not_lt.1 fun h => ?_)
 have a := Rat.mul_le_mul_of_nonneg_left (show 101 / 100 ≤ Q (rooW e) by grind) n
 grind
theorem hold_poly {u A g : Rat} (A0 : 0 ≤ A) (hg : g + 1000 * u ≤ 1501 / 10000000) (u0 : 0 ≤ u) : A * (3 / 2 * g) + 42 * (u * A) + 300 * 3 * (u * A) ≤ 24 / 100000 * A := by
 have a := Rat.mul_le_mul_of_nonneg_left (show 3 / 2 * g + 42 * u + 900 * u ≤ 24 / 100000 by grind) A0
 grind
theorem orbit_holds {o : Ob} {d : Nat} {v : V3} (h : ObW o) (hd : d < 18446744073709551616) (k : atR o d = (v, 0)) :
 Ieee.double.div o.ax w12 = some (qX o.ax w12) ∧ ∃ P, (∀ w, Calls Tryz.prog 9 #[obV o, pv (d, d)] w fun e w' => e = .returned (boxE P 0) ∧ Below w.heap.size w w') ∧
  ∀ w, Calls Tryz.prog 13 #[boxV P, vecV v, .float .f64 (qX o.ax w12)] w fun e w' => e = .returned (.bool true) ∧ Below w.heap.size w w' := by
 obtain ⟨hO, Wv, fv, -⟩ := at_ring h hd k
 have k0 := k
 unfold atR at k0
 by_cases c : readyO o (witB g24 d) = 0
 · rw [if_pos c] at k0
   obtain ⟨m, t⟩ := readyO_zero c
   have S := at_of h hO hd t
   have X := axi_of h hO
   obtain ⟨g, e0, e1⟩ := ecc_of h.ec hO.ec
   obtain ⟨Qs, D, R, RR⟩ := roo_ex h.ec hO.ec
   have tt : timB (d, d) = true := by
    obtain ⟨-, gd, -⟩ := wit_spec hd v24 t
    unfold timB
    dsimp only
    rw [t, errS_self7 gd]
    rfl
   have r2 : readyO o (timB (d, d)) = 0 := by rw [tt, ← t]; exact c
   obtain ⟨M, Sn_, Cs, P, MF, SF, pS, BH, K⟩ := box_ex h (t := (d, d)) ⟨hd, hd⟩ r2 RR
   obtain ⟨s, cc, is, ic, ns, nc⟩ := sc_near h hO hd t MF SF
   obtain ⟨b, ib, nb⟩ := RR.has
   have IP := BH s cc b is ic ib
   obtain ⟨t1, t2⟩ := trig_by S.ang
   have us := unit_in SF.s is
   have A0 := Rat.le_trans (show (0 : Rat) ≤ 1 / 1048576 by decide +kernel) X.lo
   have h1 : mag (Q (tS (placeW o d)) - s) ≤ mkRat 1 (2 ^ 50) + offS := by
    have := mag_add t1 ns
    rwa [show Q (tS (placeW o d)) - SQ (placeW o d) + (SQ (placeW o d) - s) = Q (tS (placeW o d)) - s by grind] at this
   have h2 : mag (Q (tC (placeW o d)) - cc) ≤ mkRat 1 (2 ^ 50) + offS := by
    have := mag_add t2 nc
    rwa [show Q (tC (placeW o d)) - CQ (placeW o d) + (CQ (placeW o d) - cc) = Q (tC (placeW o d)) - cc by grind] at this
   have PN := plane_near uR0 A0 (show (0 : Rat) ≤ mkRat 1 (2 ^ 50) + offS by decide +kernel) h1 h2 (mag_of us.1 us.2) (roo_cap S.roo) nb S.pla.dx S.pla.dy
   have eq : qv (plaV o (placeW o d)) = (Q (bW (plX o.ax o.ec (tC (placeW o d)))), Q (bW (plY o.ax o.ec (tS (placeW o d)))), 0) := by
    unfold qv plaV
    rw [oW_bW S.pla.fx S.sx, oW_bW S.pla.fy S.sy]
    dsimp only
    rw [Q0]
   have Rg := pla_ring X h.ec g e0 e1 S.ang
   have Rg : Ring (qv (plaV o (placeW o d))) (Q o.ax * (1 - Q o.ec - ((2000 : Nat) : Rat) * uR)) (Q o.ax * (1 + Q o.ec + ((2000 : Nat) : Rat) * uR)) := by rw [eq]; exact Rg
   have ep : (Q o.ax * (cc - Q o.ec), Q o.ax * b * s, (0 : Rat)) = (Q o.ax * (cc - Q o.ec), Q o.ax * (b * s), 0) := by rw [Rat.mul_assoc]
   rw [← ep, ← eq] at PN
   have hp := hold_poly (u := uR) (A := Q o.ax) (g := mkRat 1 (2 ^ 50) + offS) A0 (by decide +kernel) uR0
   have LN := laid_near X.lo e0 e1 (turnsO o) _ v _ _ 2000 (by
    intro t ht
    unfold turnsO at ht
    simp only [List.mem_cons, List.not_mem_nil, or_false] at ht
    rcases ht with rfl | rfl | rfl
    · exact ⟨show (0 : Int) ≤ 2 by decide, show (2 : Int) ≤ 2 by decide, h.pe, tu_ang h.pe hO.pe⟩
    · exact ⟨show (0 : Int) ≤ 0 by decide, show (0 : Int) ≤ 2 by decide, h.ti, tu_ang h.ti hO.ti⟩
    · exact ⟨show (0 : Int) ≤ 2 by decide, show (2 : Int) ≤ 2 by decide, h.no, tu_ang h.no hO.no⟩) S.w Rg (show 2000 + 300 * 3 ≤ 5000 by decide) PN (by
      have n3 : ((turnsO o).length : Rat) = 3 := rfl
      rw [n3]
      refine Rat.le_trans hp ?_
      grind) k0
   have n3 : ((turnsO o).length : Rat) = 3 := rfl
   rw [n3] at LN
   have LN := LN.le hp
   obtain ⟨lm0, fl, ql⟩ := lim12 X
   have LN := LN.le ql
   obtain ⟨x1, x2, x3⟩ := LN.mags
   have W := fitV_wd Wv fv
   obtain ⟨a1, l1, C1⟩ := off_lim (pS.x.le (by omega)) W.w1 fl IP.1 x1 Rat.le_refl
   obtain ⟨a2, l2, C2⟩ := off_lim (pS.y.le (by omega)) W.w2 fl IP.2.1 x2 Rat.le_refl
   obtain ⟨a3, l3, C3⟩ := off_lim (pS.z.le (by omega)) W.w3 fl IP.2.2 x3 Rat.le_refl
   exact ⟨lm0, P, K, fun W => beside_run (Lib.hid C1) (Lib.hid C2) (Lib.hid C3) l1 l2 l3 W⟩
 · rw [if_neg c] at k0
   exact absurd (congrArg Prod.snd k0) c
end Go.Proofs.YtdfcchocabapkaaGreat
