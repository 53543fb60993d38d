/- Proved here: what the texts Hca, Hsa, Hsb, Feq, Hci, Psh, Hcj, Hsc, Hrd, Hsd, Rwd prove, one behind the other. -/
import Derived.Test.YtnmadknpkhaolaaJz8
import Derived.Test.YtnmadknpkhaolaaJz19
import Derived.Test.YtnmadknpkhaolaaJz6
import Derived.Test.YtnmadknpkhaolaaJz16
import Derived.Maps.AppendAt
import Derived.Test.YtnmadknpkhaolaaJz18
import Derived.Test.YtnmadknpkhaolaaJz17
import Derived.Laws.Externs
import Derived.Laws.BitsAllLaws

namespace Pol
open Go.Proofs.Ytnmadknpkhaolaa

/-- v times one list, and another -/
def ml (v : Rat) : List Rat → List Rat → List Rat
  | a :: al, b :: bl => (v * a + b) :: ml v al bl
  | _, _ => []
theorem cl_ml {x v : Rat} : ∀ (al bl : List Rat), al.length = bl.length → (cl x (ml v al bl)).1 = v * (cl x al).1 + (cl x bl).1 ∧ (cl x (ml v al bl)).2 = v * (cl x al).2 + (cl x bl).2
  | [], [], _ => by
    show (0 : Rat) = v * 0 + 0 ∧ (0 : Rat) = v * 0 + 0
    exact ⟨by grind, by grind⟩
  | a :: al, b :: bl, h => by
    have ih := cl_ml (x := x) (v := v) al bl (by simpa using h)
    show 2 * (x * (cl x (ml v al bl)).1) - (cl x (ml v al bl)).2 + (v * a + b) = v * (2 * (x * (cl x al).1) - (cl x al).2 + a) + (2 * (x * (cl x bl).1) - (cl x bl).2 + b) ∧ (cl x (ml v al bl)).1 = _
    rw [ih.1, ih.2]
    exact ⟨by grind, rfl⟩
  | [], _ :: _, h => by simp at h
  | _ :: _, [], h => by simp at h
theorem chv_ml {x v : Rat} : ∀ (al bl : List Rat), al.length = bl.length → chv x (ml v al bl) = v * chv x al + chv x bl
  | [], [], _ => by
    show (0 : Rat) = v * 0 + 0
    grind
  | a :: al, b :: bl, h => by
    have ih := cl_ml (x := x) (v := v) al bl (by simpa using h)
    show x * (cl x (ml v al bl)).1 - (cl x (ml v al bl)).2 + (v * a + b) = v * (x * (cl x al).1 - (cl x al).2 + a) + (x * (cl x bl).1 - (cl x bl).2 + b)
    rw [ih.1, ih.2]
    grind
  | [], _ :: _, h => by simp at h
  | _ :: _, [], h => by simp at h
end Pol

namespace Go.Proofs.Ytnmadknpkhaolaa
open Go.ChangeShapes Go.WideShapes Go.ChangeAt Go.RowKit Ieee.Own Pol

/-! ### +0 in binary32 -/
theorem signed_nat (s : Bool) (m e : Nat) : Ieee.signed s m e = if s then -((m * 2 ^ e : Nat) : Int) else ((m * 2 ^ e : Nat) : Int) := by
  unfold Ieee.signed
  rw [Nat.shiftLeft_eq]
theorem read_zero32 : Ieee.single.read 0 = .number false 0 (-149 + ((0 : Nat) : Int)) := by decide +kernel
theorem sum_zero32 (s : Bool) (m e : Nat) : ((Ieee.Datum.number s m (-149 + (e : Int))).sum (.number false 0 (-149 + ((0 : Nat) : Int)))) = some (.number (if m * 2 ^ e = 0 then false else s) (m * 2 ^ e) (-149)) := by
  unfold Ieee.Datum.sum
  have b : min (-149 + (e : Int)) (-149 + ((0 : Nat) : Int)) = -149 := by omega
  have e1 : (-149 + (e : Int) - -149).toNat = e := by omega
  have e2 : (-149 + ((0 : Nat) : Int) - -149).toNat = 0 := by omega
  have z : Ieee.signed false 0 0 = 0 := by decide
  dsimp only
  rw [b, e1, e2, z, Int.add_zero, signed_nat]
  generalize m * 2 ^ e = n
  cases s
  · by_cases h : n = 0
    · subst h; rfl
    · simp [h]
  · by_cases h : n = 0
    · subst h; rfl
    · have : ¬ (-(n : Int) = 0) := by omega
      simp [h]
      omega
def nz32 (x : Nat) : Nat := if x % 2147483648 = 0 then 0 else x
theorem add32_zero {x : Nat} (hx : x < 4294967296) (hn : x % 2147483648 < 2139095040) : Ieee.single.add x 0 = some (nz32 x) := by
  have hread : Ieee.single.read x = .number (x / Ieee.single.signWeight % 2 == 1) (mg 23 (x % 2147483648)) (-149 + (ex 23 (x % 2147483648) : Nat)) := by
    rw [read_num Ieee.single x (by rw [sw32, inf32]; exact hn), least32, frac32, sw32]
  obtain ⟨s, hs⟩ : ∃ s, s = (x / Ieee.single.signWeight % 2 == 1) := ⟨_, rfl⟩
  rw [← hs] at hread
  have hfw : x = Ieee.single.word s (x % 2147483648) := by
    rw [hs]; unfold Ieee.Format.word; rw [sw32]
    by_cases h : x < 2147483648
    · have e1 : x / 2147483648 = 0 := by omega
      rw [e1]; simp; omega
    · have e1 : x / 2147483648 = 1 := by omega
      rw [e1]; simp; omega
  unfold Ieee.Format.add
  rw [hread, read_zero32, sum_zero32]
  have v : mg 23 (x % 2147483648) * 2 ^ ex 23 (x % 2147483648) = val 23 (x % 2147483648) := rfl
  rw [v]
  have ne : Ieee.single.nearest (if val 23 (x % 2147483648) = 0 then false else s) (val 23 (x % 2147483648)) (-149) = Ieee.single.word (if val 23 (x % 2147483648) = 0 then false else s) (x % 2147483648) := by
    refine nearest_exact Ieee.single _ _ _ (x % 2147483648) 0 0 (by rw [inf32]; exact hn) ?_ (by rw [least32]; omega)
    rw [frac32, Nat.pow_zero, Nat.mul_one]
  show some (Ieee.single.nearest _ _ _) = _
  rw [ne]
  unfold nz32
  by_cases h : x % 2147483648 = 0
  · rw [if_pos h, h, val_zero, if_pos rfl]; rfl
  · have : val 23 (x % 2147483648) ≠ 0 := fun e => h ((val_zero_iff 23 _).1 e)
    rw [if_neg h, if_neg this, ← hfw]
/-! ### what a coefficient becomes -/
def pkW (c : Nat) : Nat := nz32 (narW c)
def rsW (c : Nat) : Nat := lX c (wideW (narW c))
theorem wide_zeros : wideW 0 = 0 ∧ V (wideW 2147483648) = 0 := by decide +kernel
structure PkOk (c : Nat) : Prop where
  n : NarOk c
  add : Ieee.single.add (narW c) 0 = some (pkW c)
  lt : pkW c < 4294967296
  v : V (wideW (pkW c)) = V (wideW (narW c))
  wfin : FinW (wideW (pkW c))
  run : Ieee.double.sub c (wideW (narW c)) = some (rsW c)
  rfin : FinW (rsW c)
  rv : V (rsW c) = RN (V c - V (wideW (narW c)))
  rabs : (V (rsW c)).natAbs ≤ 2 ^ 1115
theorem pk_ok {c : Nat} (h : Fc c) : PkOk c := by
  have fc := fit_fin h.lt h.fit
  have N := nar_ok fc h.bd
  obtain ⟨s1, s2, s3, s4⟩ := sub_ok (i := 1114) (k := 1115) fc N.fin h.bd N.abs (by omega) (by omega)
  have lt : pkW c < 4294967296 := by
    unfold pkW nz32
    split
    · omega
    · exact N.lt
  have v : V (wideW (pkW c)) = V (wideW (narW c)) ∧ FinW (wideW (pkW c)) := by
    by_cases z : narW c % 2147483648 = 0
    · have e : pkW c = 0 := if_pos z
      rw [e]
      have := N.lt
      have k : narW c = 0 ∨ narW c = 2147483648 := by omega
      rw [wide_zeros.1]
      refine ⟨?_, zero_fin⟩
      rcases k with k | k
      · rw [k, wide_zeros.1]
      · rw [k, wide_zeros.2, V_zero]
    · have e : pkW c = narW c := if_neg z
      rw [e]
      exact ⟨rfl, N.fin⟩
  exact ⟨N, add32_zero N.lt N.num, lt, v.1, v.2, s1, s2, s3, s4⟩
theorem Fc_pk {c : Nat} (h : Fc c) : Fc (wideW (pkW c)) := by
  have P := pk_ok h
  have b : (V (wideW (pkW c))).natAbs ≤ 2 ^ 1114 := by rw [P.v]; exact P.n.abs
  refine ⟨P.wfin.1, ?_, b⟩
  rw [fit_iff P.wfin]
  by_cases z : V (wideW (pkW c)) = 0
  · exact .inl z
  · right
    have d : 2 ^ 925 ∣ (V (wideW (pkW c))).natAbs := by rw [P.v]; exact P.n.dvd
    have lo : 2 ^ 925 ≤ (V (wideW (pkW c))).natAbs := Nat.le_of_dvd (by omega) d
    have a1 : leastV ≤ ((2 ^ 925 : Nat) : Int) := by decide +kernel
    have a2 : ((2 ^ 1114 : Nat) : Int) ≤ mostV := by decide +kernel
    exact ⟨Int.le_trans a1 (Int.ofNat_le.2 lo), Int.le_trans (Int.ofNat_le.2 b) a2⟩
/-! ### sums of magnitudes from below -/
structure Sq (B : Int) (s k : Nat) (T : Rat) : Prop where
  fin : FinW s
  nn : 0 ≤ V s
  hi : V s ≤ (k : Int) * 2 ^ 1115
  low : T * (1 - (k : Rat) * uR) ≤ Q s
  t0 : 0 ≤ T
  z : V s = 0 ∨ B ≤ V s
theorem sqm_zero (B : Int) : Sq B 0 0 0 := ⟨zero_fin, by decide +kernel, by rw [V_zero, Int.natCast_zero, Int.zero_mul]; exact Int.le_refl _, by rw [Rat.zero_mul]; decide +kernel, by decide +kernel, .inl V_zero⟩
theorem sqm_step {B : Int} {s k c : Nat} {T : Rat} (RB : RN B = B) (S : Sq B s k T) (hk : k < 1500) (fc : FinW c) (bc0 : (V c).natAbs ≤ 2 ^ 1115) (zc : V c = 0 ∨ B ≤ ((V c).natAbs : Int)) : Sq B (aX s (c % 9223372036854775808)) (k + 1) (T + mag (Q c)) ∧ Ieee.double.add s (c % 9223372036854775808) = some (aX s (c % 9223372036854775808)) := by
  obtain ⟨fa, va⟩ := abs_word fc
  have bs : (V s).natAbs ≤ 2 ^ 1126 := nat_small (j := 1115) (l := 11) (m := 1126) (by omega) S.nn S.hi (by omega)
  have bc : (V (c % 9223372036854775808)).natAbs ≤ 2 ^ 1126 := by
    rw [va, Int.natAbs_natCast]; exact Nat.le_trans bc0 (two_le (a := 1115) (b := 1126) (by omega))
  obtain ⟨r, h1, h2, h3, -⟩ := addW (k := 1126) S.fin fa bs bc (by omega)
  have e : aX s (c % 9223372036854775808) = r := by unfold aX; rw [h1]; rfl
  rw [e]
  have cap : V (c % 9223372036854775808) ≤ 2 ^ 1115 := by
    rw [va, two_cast]; exact Int.ofNat_le.2 bc0
  have cn : 0 ≤ V (c % 9223372036854775808) := by rw [va]; exact Int.natCast_nonneg _
  have sum : V s + V (c % 9223372036854775808) ≤ ((k + 1 : Nat) : Int) * 2 ^ 1115 := by
    have := S.hi
    rw [Int.natCast_add, Int.add_mul]
    have e1 : ((1 : Nat) : Int) * 2 ^ 1115 = 2 ^ 1115 := Int.one_mul _
    rw [e1]
    exact Int.add_le_add this cap
  have zz : V r = 0 ∨ B ≤ V r := by
    rw [← va] at zc
    have up : B ≤ V s + V (c % 9223372036854775808) → B ≤ V r := fun h => by
      have := RN_mono h
      rw [RB] at this
      rw [h3]; exact this
    rcases S.z with z1 | z1
    · by_cases z2 : V (c % 9223372036854775808) = 0
      · left; rw [h3, z1, z2]; decide
      · right
        refine up ?_
        rcases zc with zc | zc
        · exfalso
          rw [va, zc] at z2
          exact z2 rfl
        · omega
    · right; exact up (by omega)
  refine ⟨⟨h2, ?_, ?_, ?_, ?_, zz⟩, h1⟩
  · rw [h3]; exact (RN_sign _).1 (by have := S.nn; omega)
  · have m := RN_mono sum
    rw [RN_exact (rep_k (by omega) 1115)] at m
    rw [h3]; exact m
  · have qm := Q_magW fc
    have R := rd_of (add_rel h3)
    rw [qm] at R
    have kk : ((k + 1 : Nat) : Rat) = (k : Rat) + 1 := by
      show (((k + 1 : Nat) : Int) : Rat) = ((k : Int) : Rat) + 1
      rw [Int.natCast_add, Rat.intCast_add]; rfl
    have k0 : (0 : Rat) ≤ (k : Rat) := Rat.intCast_nonneg.2 (by omega : (0 : Int) ≤ (k : Int))
    have k1 : (k : Rat) ≤ 2000 := by
      have : ((k : Int) : Rat) ≤ ((2000 : Int) : Rat) := Rat.intCast_le_intCast.2 (by omega)
      exact this
    rw [kk]
    exact low_step uR0 uR1 k0 k1 S.t0 (mag_le _).2.2 S.low R (Q_nnW S.nn)
  · have := S.t0
    have := (mag_le (Q c)).2.2
    grind
theorem sqm_all {B : Int} (RB : RN B = B) : ∀ (cs : List Nat) (s k : Nat) (T : Rat), Sq B s k T → (∀ c ∈ cs, FinW c ∧ (V c).natAbs ≤ 2 ^ 1115 ∧ (V c = 0 ∨ B ≤ ((V c).natAbs : Int))) → k + cs.length < 1500 → Sq B (totL cs s) (k + cs.length) (T + Pol.sm (cs.map Q))
  | [], s, k, T, S, _, _ => by
    show Sq B s k (T + 0)
    rw [Rat.add_zero]; exact S
  | c :: cs, s, k, T, S, hc, hk => by
    have hk' : k + 1 + cs.length < 1500 := by simp at hk; omega
    obtain ⟨a, b, d⟩ := hc c (List.mem_cons_self ..)
    have := sqm_all RB cs _ (k + 1) _ (sqm_step RB S (by omega) a b d).1 (fun d hd => hc d (List.mem_cons_of_mem _ hd)) hk'
    rw [show k + 1 + cs.length = k + (c :: cs).length by simp; omega] at this
    show Sq B (totL cs _) _ (T + (mag (Q c) + Pol.sm (cs.map Q)))
    rwa [← Rat.add_assoc]
/-! ### how far the numbers move -/
/-- the differences, as fractions -/
def dfL (L : List Nat) : List Rat := ml (-1) ((L.map fun c => wideW (pkW c)).map Q) (L.map Q)
theorem rest_low {c : Nat} (h : Fc c) : (1 - uR) * mag (-1 * Q (wideW (pkW c)) + Q c) ≤ mag (Q (rsW c)) ∧ mag (-1 * Q (wideW (pkW c)) + Q c) ≤ 3 * mag (Q c) ∧ mag (Q (wideW (pkW c))) ≤ 2 * mag (Q c) := by
  have P := pk_ok h
  have fc := fit_fin h.lt h.fit
  have eq : Q (wideW (pkW c)) = Q (wideW (narW c)) := by unfold Q; rw [P.v]
  have r := rd_of (sub_rel P.rv) _ (Rat.le_refl (a := mag (Q c - Q (wideW (narW c)))))
  rw [Rat.add_zero] at r
  have tw : mag (Q (wideW (narW c))) ≤ 2 * mag (Q c) := by
    have x := (abs_word fc).2
    have y := (abs_word P.n.fin).2
    rw [← Q_magW fc, ← Q_magW P.n.fin]
    have k : ((V (wideW (narW c) % 9223372036854775808) : Int) : Rat) ≤ ((2 * V (c % 9223372036854775808) : Int) : Rat) := Rat.intCast_le_intCast.2 (by rw [x, y]; have := P.n.twice; omega)
    rw [Rat.intCast_mul, ← Q_unit, ← Q_unit, show ((2 : Int) : Rat) = 2 by decide +kernel] at k
    have up := unit_pos
    rcases Rat.le_total (a := Q (wideW (narW c) % 9223372036854775808)) (b := 2 * Q (c % 9223372036854775808)) with d | d
    · exact d
    · have := Rat.mul_le_mul_of_nonneg_right d (Rat.le_of_lt up)
      have e : (Q (wideW (narW c) % 9223372036854775808) - 2 * Q (c % 9223372036854775808)) * unit = 0 := by grind
      rcases Rat.mul_eq_zero.1 e with e | e <;> grind
  rw [eq]
  have sw : -1 * Q (wideW (narW c)) + Q c = Q c - Q (wideW (narW c)) := by grind
  rw [sw]
  refine ⟨?_, ?_, tw⟩
  · have a := mag_sub (Rat.le_refl (a := mag (Q (rsW c)))) r
    rw [show Q (rsW c) - (Q (rsW c) - (Q c - Q (wideW (narW c)))) = Q c - Q (wideW (narW c)) by grind] at a
    have e : (1 - uR) * mag (Q c - Q (wideW (narW c))) = mag (Q c - Q (wideW (narW c))) - uR * mag (Q c - Q (wideW (narW c))) := by
      generalize uR = u
      grind
    rw [e]
    generalize uR * mag (Q c - Q (wideW (narW c))) = z at *
    grind
  · have := mag_sub (Rat.le_refl (a := mag (Q c))) tw
    grind
theorem rest_sums' {u : Rat} (hu : u = uR) : ∀ (L : List Nat), (∀ c ∈ L, Fc c) → (1 - u) * Pol.sm (dfL L) ≤ Pol.sm ((L.map rsW).map Q) ∧ Pol.sm (dfL L) ≤ 3 * Pol.sm (L.map Q) ∧ Pol.sm ((L.map fun c => wideW (pkW c)).map Q) ≤ 2 * Pol.sm (L.map Q)
  | [], _ => by
    show (1 - u) * 0 ≤ 0 ∧ (0 : Rat) ≤ 3 * 0 ∧ (0 : Rat) ≤ 2 * 0
    exact ⟨by rw [Rat.mul_zero]; exact Rat.le_refl, by decide +kernel, by decide +kernel⟩
  | c :: L, h => by
    obtain ⟨a1, a2, a3⟩ := rest_low (h c (List.mem_cons_self ..))
    rw [← hu] at a1
    obtain ⟨b1, b2, b3⟩ := rest_sums' hu L (fun d hd => h d (List.mem_cons_of_mem _ hd))
    refine ⟨?_, ?_, ?_⟩
    · show (1 - u) * (mag (-1 * Q (wideW (pkW c)) + Q c) + Pol.sm (dfL L)) ≤ mag (Q (rsW c)) + Pol.sm ((L.map rsW).map Q)
      rw [Rat.mul_add]
      grind
    · show mag (-1 * Q (wideW (pkW c)) + Q c) + Pol.sm (dfL L) ≤ 3 * (mag (Q c) + Pol.sm (L.map Q))
      grind
    · show mag (Q (wideW (pkW c))) + Pol.sm ((L.map fun c => wideW (pkW c)).map Q) ≤ 2 * (mag (Q c) + Pol.sm (L.map Q))
      grind
theorem rest_sums {L : List Nat} (h : ∀ c ∈ L, Fc c) : (1 - uR) * Pol.sm (dfL L) ≤ Pol.sm ((L.map rsW).map Q) ∧ Pol.sm (dfL L) ≤ 3 * Pol.sm (L.map Q) ∧ Pol.sm ((L.map fun c => wideW (pkW c)).map Q) ≤ 2 * Pol.sm (L.map Q) := rest_sums' rfl L h
/-! ### what Pack tells -/
def p40 : Nat := 4787326403894837248
def ofW (L : List Nat) : Nat := totL (L.map rsW) 0
def ttW (L : List Nat) : Nat := totL L 0
def tdW (L : List Nat) : Nat := aX (ofW L) (qX (ttW L) p40)
structure TdOk (L : List Nat) : Prop where
  off : Sq 0 (ofW L) L.length (Pol.sm ((L.map rsW).map Q))
  tot : Sq (2 ^ 874) (ttW L) L.length (Pol.sm (L.map Q))
  q : Ieee.double.div (ttW L) p40 = some (qX (ttW L) p40)
  qf : FinW (qX (ttW L) p40)
  qv : Q (qX (ttW L) p40) * 1099511627776 = Q (ttW L)
  a : Ieee.double.add (ofW L) (qX (ttW L) p40) = some (tdW L)
  af : FinW (tdW L)
  av : V (tdW L) = RN (V (ofW L) + V (qX (ttW L) p40))
  nn : 0 ≤ V (tdW L)
  hi : (V (tdW L)).natAbs ≤ 2 ^ 1127
theorem rep874 : RN (2 ^ 874) = (2 ^ 874 : Int) := by
  have := RN_exact (rep_k (k := 1) (by omega) 874)
  rwa [Int.natCast_one, Int.one_mul] at this
theorem td_ok {L : List Nat} (h : ∀ c ∈ L, Fc c) (hl : L.length ≤ 16) : TdOk L := by
  have S1 := sqm_all (B := 0) (by decide) (L.map rsW) 0 0 0 (sqm_zero 0) (fun c hc => by
    obtain ⟨d, hd, rfl⟩ := List.mem_map.1 hc
    have P := pk_ok (h d hd)
    exact ⟨P.rfin, P.rabs, .inr (Int.natCast_nonneg _)⟩) (by simp; omega)
  have S2 := sqm_all (B := 2 ^ 874) rep874 L 0 0 0 (sqm_zero _) (fun c hc => by
    have F := h c hc
    have fc := fit_fin F.lt F.fit
    refine ⟨fc, Nat.le_trans F.bd (two_le (a := 1114) (b := 1115) (by omega)), ?_⟩
    rcases (fit_iff fc).1 F.fit with z | z
    · exact .inl z
    · right
      have : (2 ^ 874 : Int) ≤ leastV := by decide +kernel
      exact Int.le_trans this z.1) (by omega)
  rw [Nat.zero_add, Rat.zero_add] at S1 S2
  rw [List.length_map] at S1
  have b1 : (V (ofW L)).natAbs ≤ 2 ^ 1126 := nat_small (j := 1115) (l := 11) (m := 1126) (by omega) S1.nn S1.hi (by omega)
  have b2 : (V (ttW L)).natAbs ≤ 2 ^ 1126 := nat_small (j := 1115) (l := 11) (m := 1126) (by omega) S2.nn S2.hi (by omega)
  have f40 : FinW p40 := by unfold FinW p40; omega
  have n40 : V p40 ≠ 0 := by decide +kernel
  have key : ∃ r, Ieee.double.div (ttW L) p40 = some r ∧ FinW r ∧ V r * 2 ^ 40 = V (ttW L) := by
    by_cases z : V (ttW L) = 0
    · obtain ⟨r, h1, h2, h3⟩ := div_zero S2.fin z f40 n40
      exact ⟨r, h1, h2, by rw [h3, z]; rfl⟩
    · have lo : 2 ^ 874 ≤ (V (ttW L)).natAbs := nat_pow (k := 874) (S2.z.resolve_left z)
      exact div_pow' (j := 40) (k := 874) rfl (by decide) S2.fin lo (abs_up (k := 1126) (l := 1500) b2 (by omega)) (by omega)
  obtain ⟨r, h1, h2, h3⟩ := key
  have er : qX (ttW L) p40 = r := by unfold qX; rw [h1]; rfl
  have rn : 0 ≤ V r := by
    by_cases c : 0 ≤ V r
    · exact c
    · exfalso
      have := Int.mul_neg_of_neg_of_pos (show V r < 0 by omega) (pow1 40)
      have n2 : 0 ≤ V (ttW L) := S2.nn
      omega
  have rb : (V r).natAbs ≤ 2 ^ 1126 := by
    have : (V r).natAbs ≤ (V (ttW L)).natAbs := by
      rw [← h3, Int.natAbs_mul]
      exact Nat.le_mul_of_pos_right _ (by decide)
    exact Nat.le_trans this b2
  have qs : Q r * 1099511627776 = Q (ttW L) := by
    have e : ((V r * 2 ^ 40 : Int) : Rat) = (V (ttW L) : Rat) := by rw [h3]
    have c : ((2 ^ 40 : Int) : Rat) = 1099511627776 := by decide +kernel
    rw [Rat.intCast_mul, c, ← Q_unit, ← Q_unit] at e
    have up := unit_pos
    have z : (Q r * 1099511627776 - Q (ttW L)) * unit = 0 := by grind
    rcases Rat.mul_eq_zero.1 z with z | z <;> grind
  obtain ⟨a, g1, g2, g3, g4⟩ := addW (k := 1126) S1.fin h2 b1 rb (by omega)
  have g1' : Ieee.double.add (ofW L) r = some a := g1
  have ea : tdW L = a := by unfold tdW aX; rw [er, g1']; rfl
  refine ⟨S1, S2, by rw [er]; exact h1, by rw [er]; exact h2, by rw [er]; exact qs, by rw [ea, er]; exact g1, by rw [ea]; exact g2, by rw [ea, er]; exact g3, ?_, by rw [ea]; exact abs_up (k := 1126 + 1) (l := 1127) g4 (by omega)⟩
  rw [ea, g3]
  exact (RN_sign _).1 (by have := S1.nn; have : 0 ≤ V (ofW L) := this; omega)
theorem told_poly {u S D O off tt q told k : Rat} (u0 : 0 ≤ u) (u1 : 1000000 * u ≤ 1) (hu : u * 9007199254740992 = 1) (S0 : 0 ≤ S) (D0 : 0 ≤ D) (hk : k ≤ 16) (k0 : 0 ≤ k) (h1 : O * (1 - k * u) ≤ off) (h2 : (1 - u) * D ≤ O) (h3 : S * (1 - k * u) ≤ tt) (h4 : q * 1099511627776 = tt) (h5 : mag (told - (off + q)) ≤ u * (off + q)) (hD : D ≤ 3 * S) : D + 7200 * (u * S) ≤ told := by
  have ku0 : 0 ≤ k * u := Rat.mul_nonneg k0 u0
  have ku : k * u ≤ 16 * u := Rat.mul_le_mul_of_nonneg_right hk u0
  have c1 : 0 ≤ 1 - k * u := by grind
  have a1 := Rat.mul_le_mul_of_nonneg_right h2 c1
  have m := (mag_le (told - (off + q))).1
  have uD := Rat.mul_nonneg u0 D0
  have uS := Rat.mul_nonneg u0 S0
  have b1 := Rat.mul_le_mul_of_nonneg_right ku uD
  have b2 := Rat.mul_le_mul_of_nonneg_right ku D0
  have b3 := Rat.mul_le_mul_of_nonneg_right ku S0
  have b4 := Rat.mul_le_mul_of_nonneg_left hD u0
  have b5 := Rat.mul_nonneg ku0 uD
  have uuD := Rat.mul_nonneg u0 uD
  -- off from below
  have o1 : D - 17 * (u * D) ≤ off := by
    have e : (1 - u) * D * (1 - k * u) = D - u * D - k * u * D + k * u * (u * D) := by grind
    rw [e] at a1
    have e2 : (16 * u) * D = 16 * (u * D) := by grind
    rw [e2] at b2
    grind
  have t1 : S - 16 * (u * S) ≤ tt := by
    have e : S * (1 - k * u) = S - k * u * S := by grind
    rw [e] at h3
    have e2 : (16 * u) * S = 16 * (u * S) := by grind
    rw [e2] at b3
    grind
  have q1 : q = 8192 * (u * tt) := by
    have : q * 1099511627776 * 8192 * u = tt * 8192 * u := by rw [h4]
    have e : q * 1099511627776 * 8192 * u = q * (u * 9007199254740992) := by grind
    rw [e, hu] at this
    grind
  have q2 := Rat.mul_le_mul_of_nonneg_left t1 u0
  have e1 : u * (S - 16 * (u * S)) = u * S - 16 * (u * (u * S)) := by grind
  rw [e1] at q2
  have uuS := Rat.mul_nonneg u0 uS
  have s1 := Rat.mul_nonneg (show 0 ≤ 1 - 1000000 * u by grind) uS
  have e2 : (1 - 1000000 * u) * (u * S) = u * S - 1000000 * (u * (u * S)) := by grind
  rw [e2] at s1
  -- told from below
  have g : (1 - u) * (off + q) ≤ told := by grind
  have lo : D - 17 * (u * D) + 8192 * (u * S - 16 * (u * (u * S))) ≤ off + q := by grind
  have g2 := Rat.mul_le_mul_of_nonneg_left lo (show 0 ≤ 1 - u by grind)
  have e3 : (1 - u) * (D - 17 * (u * D) + 8192 * (u * S - 16 * (u * (u * S)))) = D - 18 * (u * D) + 17 * (u * (u * D)) + 8192 * (u * S) - 131072 * (u * (u * S)) - 8192 * (u * (u * S)) + 131072 * (u * (u * (u * S))) := by grind
  rw [e3] at g2
  have uuuS := Rat.mul_nonneg u0 uuS
  have e4 : u * (3 * S) = 3 * (u * S) := by grind
  rw [e4] at b4
  generalize u * (u * (u * S)) = A1 at *
  generalize u * (u * S) = A2 at *
  generalize u * (u * D) = A3 at *
  generalize u * D = A4 at *
  generalize u * S = A5 at *
  grind
end Go.Proofs.Ytnmadknpkhaolaa

namespace Go.Proofs.Ytnmadknpkhaolaa
open Go.ChangeShapes Go.WideShapes Go.ChangeAt Go.RowKit Ieee.Own Pol

def d190 : Nat := 3751498489599623168
theorem d190_t : FinW d190 ∧ 128 * tR ≤ Q d190 ∧ 0 ≤ V d190 ∧ (V d190).natAbs ≤ 2 ^ 1127 := by refine ⟨by unfold FinW d190; omega, ?_, ?_, ?_⟩ <;> decide +kernel
theorem int_of_Q {a b c d : Nat} (h : Q a - Q b ≤ Q c + Q d) : V a - V b ≤ V c + V d := by
  refine Rat.intCast_le_intCast.1 ?_
  rw [Rat.intCast_sub, Rat.intCast_add, ← Q_unit, ← Q_unit, ← Q_unit, ← Q_unit]
  have := Rat.mul_le_mul_of_nonneg_right h (Rat.le_of_lt unit_pos)
  generalize unit = w at *
  grind
theorem abs_RN {z s : Int} (h1 : z ≤ s) (h2 : -z ≤ s) : ((RN z).natAbs : Int) ≤ RN s := by
  have a := RN_mono h1
  have b := RN_mono (show -s ≤ z by omega)
  rw [RN_neg] at b
  omega
structure NrOk (x : Nat) (L : List Nat) : Prop where
  s : Ieee.double.sub (posW (chW x L)) (posW (chW x (L.map fun c => wideW (pkW c)))) = some (lX (posW (chW x L)) (posW (chW x (L.map fun c => wideW (pkW c)))))
  lt : lX (posW (chW x L)) (posW (chW x (L.map fun c => wideW (pkW c)))) < 18446744073709551616
  a : Ieee.double.add (tdW L) d190 = some (aX (tdW L) d190)
  le : (FloatKind.f64.format.order (lX (posW (chW x L)) (posW (chW x (L.map fun c => wideW (pkW c)))) % 9223372036854775808) (aX (tdW L) d190) == some Ordering.lt || FloatKind.f64.format.order (lX (posW (chW x L)) (posW (chW x (L.map fun c => wideW (pkW c)))) % 9223372036854775808) (aX (tdW L) d190) == some Ordering.eq) = true
theorem nr_poly {A B a b D u S S' t told c : Rat} (h1 : mag (a - A) ≤ 2400 * (u * S) + 64 * t) (h2 : mag (b - B) ≤ 2400 * (u * S') + 64 * t) (hd : mag (-1 * B + A) ≤ D) (u0 : 0 ≤ u) (hS : S' ≤ 2 * S) (ht : D + 7200 * (u * S) ≤ told) (hc : 128 * t ≤ c) : a - b ≤ told + c ∧ b - a ≤ told + c := by
  have k := Rat.mul_le_mul_of_nonneg_left hS u0
  have e : u * (2 * S) = 2 * (u * S) := by grind
  rw [e] at k
  have a1 := mag_le (a - A)
  have a2 := mag_le (b - B)
  have a3 := mag_le (-1 * B + A)
  generalize u * S = y at *
  generalize u * S' = y' at *
  generalize mag (a - A) = m1 at *
  generalize mag (b - B) = m2 at *
  generalize mag (-1 * B + A) = m3 at *
  constructor <;> grind
theorem lenR {n : Nat} (h : n ≤ 16) : (n : Rat) ≤ 16 ∧ 0 ≤ (n : Rat) := by
  have : ((n : Int) : Rat) ≤ ((16 : Int) : Rat) := Rat.intCast_le_intCast.2 (by omega)
  exact ⟨this, Rat.intCast_nonneg.2 (by omega : (0 : Int) ≤ (n : Int))⟩
theorem nr_ok {x : Nat} {L : List Nat} (h : ∀ c ∈ L, Fc c) (hl : L.length ≤ 16) (fx : FinW x) (bx : (V x).natAbs ≤ 2 ^ 1074) : NrOk x L := by
  have hM : ∀ c ∈ L.map (fun c => wideW (pkW c)), Fc c := fun c hc => by
    obtain ⟨d, hd, rfl⟩ := List.mem_map.1 hc
    exact Fc_pk (h d hd)
  obtain ⟨w1, w2, w3, -⟩ := ch_wd fx bx _ (fc_cw h) hl
  obtain ⟨m1, m2, m3, -⟩ := ch_wd fx bx _ (fc_cw hM) (by simpa using hl)
  have mx : mag (Q x) ≤ 1 := q_cap1 bx
  have n1 := chA_near uR0 uR1 tR0 mx _ (by simpa using hl) w3
  have n2 := chA_near uR0 uR1 tR0 mx _ (by simpa using hl) m3
  obtain ⟨r1, r2, r3⟩ := rest_sums h
  have T := td_ok h hl
  obtain ⟨c1, c2, c3, c4⟩ := d190_t
  obtain ⟨k1, k0⟩ := lenR hl
  have dl : mag (chv (Q x) (dfL L)) ≤ Pol.sm (dfL L) := chv_le mx _
  have el : chv (Q x) (dfL L) = -1 * chv (Q x) ((L.map fun c => wideW (pkW c)).map Q) + chv (Q x) (L.map Q) := chv_ml _ _ (by simp)
  rw [el] at dl
  have av := rd_of (add_rel T.av) _ (Rat.le_refl (a := mag (Q (ofW L) + Q (qX (ttW L) p40))))
  have on : 0 ≤ Q (ofW L) := Q_nnW T.off.nn
  have tn : 0 ≤ Q (ttW L) := Q_nnW T.tot.nn
  have qn : 0 ≤ Q (qX (ttW L) p40) := by have := T.qv; grind
  rw [Rat.add_zero, show mag (Q (ofW L) + Q (qX (ttW L) p40)) = Q (ofW L) + Q (qX (ttW L) p40) by unfold mag; rw [if_pos (by grind)]] at av
  have told := told_poly uR0 uR1 uR_53h T.tot.t0 (sm_nn (dfL L)) k1 k0 T.off.low r1 T.tot.low T.qv av r2
  obtain ⟨p1, p2⟩ := nr_poly n1 n2 dl uR0 r3 told c2
  have qa : Q (posW (chW x L)) = Q (chW x L) := by unfold Q; rw [posW_V]
  have qb : Q (posW (chW x (L.map fun c => wideW (pkW c)))) = Q (chW x (L.map fun c => wideW (pkW c))) := by unfold Q; rw [posW_V]
  rw [← qa, ← qb] at p1 p2
  have i1 := int_of_Q p1
  have i2 := int_of_Q p2
  have fa := posW_fin w1
  have fb := posW_fin m1
  have ba : (V (posW (chW x L))).natAbs ≤ 2 ^ 1200 := by rw [posW_V]; exact w2
  have bb : (V (posW (chW x (L.map fun c => wideW (pkW c))))).natAbs ≤ 2 ^ 1200 := by rw [posW_V]; exact m2
  clear n1 n2 r1 r2 r3 dl el av on tn qn told p1 p2 qa qb w1 w2 w3 m1 m2 m3
  obtain ⟨s1, s2, s3, -⟩ := sub_ok (i := 1200) (k := 1201) fa fb ba bb (by omega) (by omega)
  obtain ⟨r, g1, g2, g3, -⟩ := addW (k := 1127) T.af c1 T.hi c4 (by omega)
  have ea : aX (tdW L) d190 = r := by unfold aX; rw [g1]; rfl
  obtain ⟨fw, vw⟩ := abs_word s2
  refine ⟨s1, s2.1, by rw [ea]; exact g1, ?_⟩
  rw [le_words fw (by rw [ea]; exact g2), decide_eq_true_eq, ea, vw, s3, g3]
  exact abs_RN (by omega) (by omega)
end Go.Proofs.Ytnmadknpkhaolaa

namespace Go.Proofs.Ytnmadknpkhaolaa
open Go.ChangeShapes Go.WideShapes Go.ChangeAt Go.RowKit

set_option maxRecDepth 100000 in
theorem feq_gen {P : Program} {t : TypeId} {k' : FloatKind} (d : Nat) (a b : Nat) (w : World) (h : P.underlying t = some (.float k')) : (Op.equalIn (d + 1) t (.float .f64 a) (.float .f64 b)).run P w = .ok (FloatKind.f64.format.order a b == some Ordering.eq) w := by
  simp [Op.equalIn, run_underlying h]
  rfl
set_option maxRecDepth 100000 in
theorem feq_run (a b : Nat) (w : World) : (Op.equalIn 9999 30 (.float .f64 a) (.float .f64 b)).run Try.prog w = .ok (FloatKind.f64.format.order a b == some Ordering.eq) w := feq_gen 9998 a b w Try.underlying30
end Go.Proofs.Ytnmadknpkhaolaa

namespace Go.Proofs.Ytnmadknpkhaolaa
open Go.ChangeShapes Go.WideShapes Go.ChangeAt Go.RowKit Ieee.Own Pol

theorem bv_fs {w : World} {g : Nat} {L : List Nat} {cap : Nat} (h : BV w g (L.map (Value.float .f32))) (h1 : L.length ≤ cap) (h2 : cap ≤ maxLen) : FsAt w (.slice (some ⟨g, 0, none⟩) L.length cap) L := by
  refine ⟨_, _, rfl, h1, h2, (fun e => nomatch e), fun j r hj => ?_⟩
  have hjl : j < L.length := by have := (List.getElem?_eq_some_iff.1 hj).1; simpa using this
  have hr : r = fsC (L.getD j 0) := by
    have e : (L.map fsC)[j]? = some (fsC (L.getD j 0)) := by simp [List.getD, hjl]
    rw [e] at hj
    exact (Option.some.inj hj).symm
  subst hr
  refine ⟨g, 0, rfl, h.lt, fun k u hu => ?_⟩
  have hk : k = 0 := by
    have := (List.getElem?_eq_some_iff.1 hu).1
    simp [fsC] at this
    exact this
  subst hk
  have hu' : u = .float .f32 (L.getD j 0) := by simp [fsC] at hu; simpa using hu.symm
  subst hu'
  rw [Nat.mul_one, Nat.add_zero, Nat.zero_add]
  exact h.at_ j _ (by simp [List.getD, hjl])
def awT : Tb := ⟨0, 4607182418800017408, [[[1065353216, 1073741824], [], [1077936128]]]⟩
theorem awT_at : atH awT 4604930618986332160 = ((4611686018427387904, 0, 4613937818241073152), 0) := by decide +kernel
theorem awT_w : TbW awT := by
  refine ⟨by decide, by decide, fun i k => ?_⟩
  have h0 : Ws32 [] := fun x hx => by cases hx
  have h1 : Ws32 [1065353216, 1073741824] := fun x hx => by simp at hx; rcases hx with rfl | rfl <;> omega
  have h2 : Ws32 [1077936128] := fun x hx => by simp at hx; subst hx; omega
  by_cases hi : i = 0
  · subst hi
    by_cases k0 : k = 0
    · subst k0; exact h1
    · by_cases k1 : k = 1
      · subst k1; exact h0
      · by_cases k2 : k = 2
        · subst k2; exact h2
        · have : cfT awT.rows 0 k = [] := by
            unfold cfT awT
            simp [List.getD, show 3 ≤ k by omega]
          rw [this]; exact h0
  · have : cfT awT.rows i k = [] := by
      obtain ⟨j, rfl⟩ : ∃ j, i = j + 1 := ⟨i - 1, by omega⟩
      unfold cfT awT
      simp [List.getD]
    rw [this]; exact h0
set_option maxHeartbeats 4000000 in
set_option maxRecDepth 100000 in
theorem awake13 (w : World) : Calls Try.prog 9 #[] w fun e w' => e = .returned (.bool true) ∧ Below w.heap.size w w' := by
  have C : Hid (∀ W ao, TbAt W ao awT.rows → Calls Try.prog 23 #[.agg #[.float .f64 0, .float .f64 4607182418800017408, .slice ao 1 1], .float .f64 4604930618986332160] W fun e w' => e = .returned (.tuple #[.agg #[.float .f64 4611686018427387904, .float .f64 0, .float .f64 4613937818241073152], .int .i64 0]) ∧ Below W.heap.size W w') :=
    Lib.hid fun W ao ha => by
      have := cat_run (t := awT) (d := 4604930618986332160) ao 1 W (by decide) awT_w ha (by omega)
      rw [awT_at] at this
      exact this
  have t1 : (FloatKind.f64.format.order 4611686018427387904 4611686018427387904 == some Ordering.eq) = true := by decide +kernel
  have t2 : (FloatKind.f64.format.order 4613937818241073152 4613937818241073152 == some Ordering.eq) = true := by decide +kernel
  have t3 : (FloatKind.f64.format.order 0 0 == some Ordering.eq) = true := by decide +kernel
  have hst := @fstore
  have heq := feq_run
  have K := kv4 w 57 57 57 69 [.float .f32 1065353216, .float .f32 1073741824] [] [.float .f32 1077936128] [.slice (some ⟨w.heap.size, 0, none⟩) 2 2, .slice (some ⟨w.heap.size + 1, 0, none⟩) 0 0, .slice (some ⟨w.heap.size + 1 + 1, 0, none⟩) 1 1]
  replace K := K.and (n := w.heap.size + 1 + 1 + 1 + 1) (by simp) 34 [.float .f64 0, .float .f64 4607182418800017408, .slice (some ⟨w.heap.size + 1 + 1 + 1, 0, none⟩) 1 1]
  have FA : Hid (TbAt _ (some ⟨w.heap.size + 1 + 1 + 1, 0, none⟩) awT.rows) := Lib.hid (fun i hi => by
    have i0 : i = 0 := by have : awT.rows.length = 1 := rfl; omega
    subst i0
    have B := K.at_ 3 rfl
    exact ⟨_, 0, _, _, _, rfl, B.lt, B.at_ 0 _ rfl, B.at_ 1 _ rfl, B.at_ 2 _ rfl,
      bv_fs (L := [1065353216, 1073741824]) (K.at_ 0 rfl) (by decide) (by decide), bv_fs (L := []) (K.at_ 1 rfl) (by decide) (by decide), bv_fs (L := [1077936128]) (K.at_ 2 rfl) (by decide) (by decide)⟩)
  simp only [objV, List.cons_append, List.nil_append] at K FA
  have k0 := (K.at_ 4 rfl).at_ 0 _ rfl
  have k1 := (K.at_ 4 rfl).at_ 1 _ rfl
  have k2 := (K.at_ 4 rfl).at_ 2 _ rfl
  replace K := Lib.hid K
  go_enter Try.func9, Try.ntmps9
  go_wp2_with fail
  have C1 := C.out _ _ FA.out
  refine C1.mono ?_
  rintro _ w2 ⟨rfl, hb⟩
  replace hb := Lib.hid (K.out.on hb).old
  clear C1 C FA k0 k1 k2
  go_wp2_with fail
  go_ret
  exact ⟨rfl, hb.out.alloc (hb.out.size) _⟩
end Go.Proofs.Ytnmadknpkhaolaa

namespace Go.Proofs.Ytnmadknpkhaolaa
open Go.ChangeShapes Go.WideShapes Go.ChangeAt Go.RowKit Ieee.Own

theorem BV.grown {w w' : World} {g : Nat} {us : List Value} {row : Option Nat} (b : BV w g us) (h : w.grownBy w' row) (hne : row ≠ some g) : BV w' g us := by
  have e := h.block g b.lt (fun k => hne k.symm)
  exact ⟨Nat.lt_of_lt_of_le b.lt h.size, fun i u k => (World.cell?_of_block (a := ⟨g, i, none⟩) e).trans (b.at_ i u k), fun i u k => (World.frozen?_of_block (a := ⟨g, i, none⟩) e).trans (b.fr i u k)⟩
theorem OwnR.kept {e : TypeId} {m base : Nat} {w w1 w2 : World} {R : List (List Value)} {v : Value} {row : Option Nat} (h : OwnR e m base w R v w1) (hg : w1.grownBy w2 row) (hr : ∀ k, row = some k → base ≤ k) (hne : v.ownBlock = none ∨ v.ownBlock ≠ row) : OwnR e m base w R v w2 :=
  ⟨h.old.grown hg h.size hr, h.own.kept hg hne, Nat.le_trans h.size hg.size, h.ok⟩
theorem OwnR.lt {e : TypeId} {m base : Nat} {w w1 : World} {R : List (List Value)} {v : Value} (h : OwnR e m base w R v w1) : ∀ k, v.ownBlock = some k → base ≤ k ∧ k < w1.heap.size := h.own.lt
theorem grown_set (w : World) (g k : Nat) (x : Value) : w.grownBy (w.setCell ⟨g, k, none⟩ x) (some g) := by
  refine ⟨?_, ?_, ?_, by simp, fun j hj hne => heap_setCell_other w ⟨g, k, none⟩ j x (fun e => hne (by rw [e]))⟩ <;> (unfold World.setCell; split <;> rfl)
end Go.Proofs.Ytnmadknpkhaolaa

namespace Go.Proofs.Ytnmadknpkhaolaa
open Go.ChangeShapes Go.WideShapes Go.ChangeAt Go.RowKit Ieee.Own

theorem FsAt.grown {w w' : World} {u : Value} {L : List Nat} {row : Option Nat} (h : FsAt w u L) (hg : w.grownBy w' row) (hne : 0 < L.length → u.ownBlock ≠ row) : FsAt w' u L := by
  obtain ⟨ao, cap, rfl, h1, h2, h3, h4⟩ := h
  refine ⟨ao, cap, rfl, h1, h2, h3, fun j r hj => ?_⟩
  obtain ⟨b, o, e, hb, hc⟩ := h4 j r hj
  subst e
  have hl : 0 < L.length := by have := (List.getElem?_eq_some_iff.1 hj).1; simp at this; omega
  have n := hne hl
  have eb := hg.block b hb (fun k => n (by simp [Value.ownBlock]; exact k))
  exact ⟨b, o, rfl, Nat.lt_of_lt_of_le hb hg.size, fun c v hv => (World.cell?_of_block (a := ⟨b, _, none⟩) eb).trans (hc c v hv)⟩
theorem FsAt.lt {w : World} {u : Value} {L : List Nat} (h : FsAt w u L) (hl : 0 < L.length) : ∀ b, u.ownBlock = some b → b < w.heap.size := by
  obtain ⟨ao, cap, rfl, h1, h2, h3, h4⟩ := h
  obtain ⟨b, o, e, hb, hc⟩ := fs_cell h4 hl
  subst e
  intro c hc2
  simp only [Value.ownBlock, Option.some.injEq] at hc2
  omega
set_option maxRecDepth 100000 in
theorem rec32 : RecT 53 57 1 4 (.float .f32 0) := ⟨Try.underlying53, by kernel_rfl, rfl, by omega⟩
/-- a copy of a list, behind block g -/
structure CpAt (B : Nat) (w : World) (u : Value) (L : List Nat) : Prop where
  at_ : FsAt w u L
  out : 0 < L.length → ∀ b, u.ownBlock = some b → B ≤ b
theorem CpAt.on {B : Nat} {w w' : World} {u : Value} {L : List Nat} (h : CpAt B w u L) (hb : Below w.heap.size w w') : CpAt B w' u L := ⟨h.at_.on hb, h.out⟩
theorem CpAt.set {B g k : Nat} {w : World} {u : Value} {L : List Nat} (h : CpAt B w u L) (hg : g < B) (x : Value) : CpAt B (w.setCell ⟨g, k, none⟩ x) u L :=
  ⟨h.at_.grown (grown_set w g k x) (fun hl e => by have := h.out hl g e; omega), h.out⟩
theorem CpAt.mono {B C : Nat} {w : World} {u : Value} {L : List Nat} (h : CpAt B w u L) (hc : C ≤ B) : CpAt C w u L := ⟨h.at_, fun hl b e => Nat.le_trans hc (h.out hl b e)⟩
/-- the rows copied so far -/
structure Rws (w0 : World) (T : List (List (List Nat))) (i : Nat) (M : List (List Value)) (v : Value) (w : World) : Prop where
  own : OwnR 69 3 w0.heap.size w0 M v w
  len : M.length = i
  row : ∀ j, j < i → ∃ v0 v1 v2, M[j]? = some [v0, v1, v2] ∧ CpAt (w0.heap.size + 3) w v0 (cfT T j 0) ∧ CpAt (w0.heap.size + 3) w v1 (cfT T j 1) ∧ CpAt (w0.heap.size + 3) w v2 (cfT T j 2)
  ne : ∀ j, j < i → ∀ k, ∀ u, (M.getD j [])[k]? = some u → 0 < (cfT T j k).length → v.ownBlock = none ∨ u.ownBlock ≠ v.ownBlock
  hi : ∀ b, v.ownBlock = some b → w0.heap.size + 3 ≤ b
theorem Rws.on {w0 : World} {T : List (List (List Nat))} {i : Nat} {M : List (List Value)} {v : Value} {w w' : World} (h : Rws w0 T i M v w) (hb : Below w.heap.size w w') : Rws w0 T i M v w' :=
  ⟨h.own.grow hb, h.len, fun j hj => by
    obtain ⟨v0, v1, v2, e, a, b, c⟩ := h.row j hj
    exact ⟨v0, v1, v2, e, a.on hb, b.on hb, c.on hb⟩, h.ne, h.hi⟩
theorem Rws.set {w0 : World} {T : List (List (List Nat))} {i : Nat} {M : List (List Value)} {v : Value} {w : World} (h : Rws w0 T i M v w) {g : Nat} (h1 : w0.heap.size ≤ g) (h2 : g < w0.heap.size + 3) (k : Nat) (x : Value) : Rws w0 T i M v (w.setCell ⟨g, k, none⟩ x) :=
  ⟨h.own.kept (grown_set w g k x) (fun j e => by cases e; exact h1) (.inr fun e => by have := h.hi g e; omega), h.len, fun j hj => by
    obtain ⟨v0, v1, v2, e, a, b, c⟩ := h.row j hj
    exact ⟨v0, v1, v2, e, a.set h2 x, b.set h2 x, c.set h2 x⟩, h.ne, h.hi⟩
end Go.Proofs.Ytnmadknpkhaolaa

namespace Go.Proofs.Ytnmadknpkhaolaa
open Go.ChangeShapes Go.WideShapes Go.ChangeAt Go.RowKit Ieee.Own Pol

/-- the words so far, noughts behind -/
def lay32 (L : List Nat) (i n : Nat) : List Value := (L.take i).map (Value.float .f32) ++ List.replicate (n - i) (.float .f32 0)
theorem lay32_zero (L : List Nat) (n : Nat) : lay32 L 0 n = List.replicate n (.float .f32 0) := by unfold lay32; simp
theorem lay32_at {L : List Nat} {i n : Nat} (hn : n = L.length) (hi : i < n) : (lay32 L i n)[i]? = some (.float .f32 0) := by
  unfold lay32
  rw [List.getElem?_append_right (by simp; omega)]
  rw [List.getElem?_replicate, if_pos (by simp; omega)]
theorem lay32_set {L : List Nat} {i n : Nat} (hn : n = L.length) (hi : i < n) : (lay32 L i n).set i (.float .f32 (L.getD i 0)) = lay32 L (i + 1) n := by
  have hl : ((L.take i).map (Value.float .f32)).length = i := by simp; omega
  unfold lay32
  rw [List.set_append_right _ _ (by rw [hl]; exact Nat.le_refl _), hl, Nat.sub_self, show n - i = (n - (i + 1)) + 1 by omega, List.replicate_succ, List.set_cons_zero]
  have e : L.take (i + 1) = L.take i ++ [L.getD i 0] := by
    rw [List.take_add_one]
    congr 1
    have : i < L.length := by omega
    simp [List.getD, this]
  rw [e, List.map_append, List.append_assoc]
  rfl
theorem lay32_full {w : World} {g n : Nat} {L : List Nat} (hn : n = L.length) (hm : n ≤ maxLen) (h : BV w g (lay32 L n n)) : FsAt w (.slice (some ⟨g, 0, none⟩) n n) L := by
  have e : lay32 L n n = L.map (Value.float .f32) := by
    unfold lay32
    rw [Nat.sub_self, List.replicate_zero, List.append_nil, hn, List.take_length]
  rw [e] at h
  rw [hn] at hm ⊢
  exact bv_fs h (Nat.le_refl _) hm
set_option maxRecDepth 100000 in
theorem make32 (n : Nat) (hn : n ≤ 16) (w : World) : (Instr.makeSlice 53 (.int .i64 (n : Int)) (.int .i64 (n : Int))).run Try.prog w = .ok (.slice (some ⟨w.heap.size, 0, none⟩) n n) (w.alloc (.cells (madeCells #[.float .f32 0] n) 57)) := by
  obtain ⟨i0, hi0, hz0, hz1, hz2⟩ := info_ofR rec32.info
  have := run_make (P := Try.prog) w 53 57 i0 _ Try.underlying53 hi0 hz0 .i64 .i64 n n (by omega) (by omega) (by rw [hz2]; omega) (by omega)
  rw [hz1, Nat.mul_one] at this
  exact this
set_option maxRecDepth 100000 in
theorem fstore32 (a : Addr) (b : Nat) (m : Mode) (x : World) : (store a (.float .f32 b) m).run Try.prog x = Go.stored Try.prog x a (.float .f32 b) m := run_store _ x a _ m rfl
set_option maxRecDepth 100000 in
theorem run_add32f (x y r : Nat) (h : Ieee.single.add x y = some r) (t : TypeId) (w : World) : (binOp .add t (.float .f32 x) (.float .f32 y)).run Try.prog w = .ok (.float .f32 r) w :=
  run_float_arith w .add t .f32 x y r h
set_option maxRecDepth 100000 in
theorem prest_run {c : Nat} (h : Fc c) (w : World) : Calls Try.prog 55 #[.float .f64 c] w fun e w' => e = .returned (.float .f64 (rsW c)) ∧ w = w' := by
  have P := pk_ok h
  have fc := fit_fin h.lt h.fit
  have C1 := fun w => narrow_num c (narW c) h.lt P.n.run (decide_eq_false (by have := fc.2; omega)) w
  have C2 := fun w => wide_any (narW c) P.n.lt (by have := P.n.num; omega) w
  have C3 := fun w => isnan_f (wideW (narW c)) P.n.fin.1 (decide_eq_false (by have := P.n.fin.2; omega)) w
  have C4 := fun w => isinf_any (wideW (narW c)) P.n.fin.1 w
  have hi : ¬ wideW (narW c) % 9223372036854775808 = 9218868437227405312 := by have := P.n.fin.2; omega
  rw [decide_eq_false hi] at C4
  have S := run_sub _ _ _ P.run
  clear P fc hi h
  generalize wideW (narW c) = W at *
  generalize narW c = q at *
  generalize rsW c = r at *
  go_enter Try.func55, Try.ntmps55
  go_wp2_with (first | (go_at_call 54; ((with_reducible refine (C1 _).mono ?_); rintro e w' ⟨rfl, rfl⟩)) | (go_at_call 72; ((with_reducible refine (C2 _).mono ?_); rintro e w' ⟨rfl, rfl⟩)) | (go_at_call 70; ((with_reducible refine (C3 _).mono ?_); rintro e w' ⟨rfl, rfl⟩)) | (go_at_call 73; ((with_reducible refine (C4 _).mono ?_); rintro e w' ⟨rfl, rfl⟩)))
  go_ret
  exact ⟨rfl, rfl⟩
/-! ### a round -/
theorem totL_snoc : ∀ (cs : List Nat) (d s : Nat), totL (cs ++ [d]) s = aX (totL cs s) (d % 9223372036854775808)
  | [], _, _ => rfl
  | _ :: cs, d, _ => totL_snoc cs d _
theorem take_snoc {L : List Nat} {i : Nat} (h : i < L.length) : L.take (i + 1) = L.take i ++ [L.getD i 0] := by
  rw [List.take_add_one]
  congr 1
  simp [List.getD, h]
structure PkR (L : List Nat) (i : Nat) : Prop where
  c : Fc (L.getD i 0)
  o : Ieee.double.add (totL ((L.take i).map rsW) 0) (rsW (L.getD i 0) % 9223372036854775808) = some (totL ((L.take (i + 1)).map rsW) 0)
  t : Ieee.double.add (totL (L.take i) 0) (L.getD i 0 % 9223372036854775808) = some (totL (L.take (i + 1)) 0)
theorem pk_round {L : List Nat} {i : Nat} (h : ∀ c ∈ L, Fc c) (hl : L.length ≤ 16) (hi : i < L.length) : PkR L i := by
  have F : Fc (L.getD i 0) := h _ (by simp [List.getD, hi])
  have ht : ∀ c ∈ L.take i, Fc c := fun c hc => h c (List.mem_of_mem_take hc)
  have T := td_ok ht (by simp; omega)
  have li : (L.take i).length = i := by simp; omega
  have P := pk_ok F
  have fc := fit_fin F.lt F.fit
  have s1 := (sqm_step (B := 0) (by decide) T.off (by omega) P.rfin P.rabs (.inr (Int.natCast_nonneg _))).2
  have s2 := (sqm_step (B := 2 ^ 874) rep874 T.tot (by omega) fc (Nat.le_trans F.bd (two_le (a := 1114) (b := 1115) (by omega))) (by
    rcases (fit_iff fc).1 F.fit with z | z
    · exact .inl z
    · right
      have : (2 ^ 874 : Int) ≤ leastV := by decide +kernel
      exact Int.le_trans this z.1)).2
  refine ⟨F, ?_, ?_⟩
  · rw [take_snoc hi, List.map_append, List.map_cons, List.map_nil, totL_snoc]; exact s1
  · rw [take_snoc hi, totL_snoc]; exact s2
set_option maxHeartbeats 4000000 in
set_option maxRecDepth 100000 in
theorem pack_no {L : List Nat} (ao : Option Addr) (cap n : Nat) (w : World) (hn : n = L.length) (hm : n ≤ 4611686018427387904) (hw : Words L) (ha : At w ao L) (h0 : errC L ≠ 0) :
    Calls Try.prog 31 #[.slice ao n cap] w fun e w' => e = .returned (.tuple #[.slice none 0 0, .float .f64 0, .int .i64 (errC L)]) ∧ w = w' := by
  have K := pcheck_run ao cap n L w hn hm hw ha
  have t : (errC L != 0) = true := by simpa using h0
  clear h0 hn hm hw ha
  generalize errC L = er at *
  go_enter Try.func31, Try.ntmps31
  go_wp2_with (go_at_call 38; ((with_reducible refine K.mono ?_); rintro e w' ⟨rfl, rfl⟩))
  go_ret3
  exact ⟨rfl, rfl⟩
set_option maxHeartbeats 4000000 in
set_option maxRecDepth 100000 in
theorem pack_ok {L : List Nat} (ao : Option Addr) (cap n : Nat) (w : World) (hn : n = L.length) (hw : Words L) (ha : At w ao L) (h0 : errC L = 0) :
    Calls Try.prog 31 #[.slice ao n cap] w fun e w' => e = .returned (.tuple #[.slice (some ⟨w.heap.size, 0, none⟩) n n, .float .f64 (tdW L), .int .i64 0]) ∧ FsAt w' (.slice (some ⟨w.heap.size, 0, none⟩) n n) (L.map pkW) ∧ Below w.heap.size w w' := by
  obtain ⟨hl16, hfc⟩ := errC_zero hw h0
  have n16 : n ≤ 16 := by omega
  have K := pcheck_run ao cap n L w hn (by omega) hw ha
  rw [h0] at K
  have T := td_ok hfc hl16
  have q1 := run_div _ _ _ T.q
  have q2 := run_add _ _ _ T.a
  unfold p40 at q1 q2
  have e1 : ofW L = totL ((L.take n).map rsW) 0 := by unfold ofW; rw [hn, List.take_length]
  have e2 : ttW L = totL (L.take n) 0 := by unfold ttW; rw [hn, List.take_length]
  rw [e1] at q2
  rw [e2] at q1 q2
  have mk := make32 n n16
  have hst := @fstore32
  obtain ⟨M, hM⟩ : ∃ M, M = L.map pkW := ⟨_, rfl⟩
  have hnM : Hid (n = M.length) := Lib.hid (by rw [hM, List.length_map]; exact hn)
  rw [← hM]
  have B0 : Hid (BV (w.alloc (.cells (madeCells #[.float .f32 0] n) 57)) w.heap.size (lay32 M 0 n)) := Lib.hid (by rw [lay32_zero]; exact madeB _ _ _ _)
  have b0 : Hid (Below w.heap.size w (w.alloc (.cells (madeCells #[.float .f32 0] n) 57))) := Lib.hid ((Below.refl _ w).alloc (Nat.le_refl _) _)
  have lt0 : Hid (∀ b o, ao = some ⟨b, o, none⟩ → 0 < L.length → b < w.heap.size) := Lib.hid ha.lt
  replace hn := Lib.hid hn
  replace hM := Lib.hid hM
  replace ha := Lib.hid ha
  replace hfc := Lib.hid hfc
  clear hw h0 T e1 e2
  generalize hqt : qX (totL (L.take n) 0) 4787326403894837248 = qt at *
  generalize htd : tdW L = td at *
  replace q1 := Lib.hid q1
  replace q2 := Lib.hid q2
  clear hqt htd
  go_enter Try.func31, Try.ntmps31
  go_wp2_with (go_at_call 38; ((with_reducible refine K.mono ?_); rintro e w' ⟨rfl, rfl⟩))
  clear K
  go_loopw [7, 8, 21] (fun fv tv iv wr => ∃ i : Nat, i ≤ n ∧ iv = .int .i64 i ∧ fv = .float .f64 (totL ((L.take i).map rsW) 0) ∧ tv = .float .f64 (totL (L.take i) 0) ∧ BV wr w.heap.size (lay32 M i n) ∧ Below w.heap.size w wr) (fun _ _ iv _ => n - (intOf iv).toNat)
  case atStart => exact ⟨0, Nat.zero_le _, rfl, rfl, rfl, B0.out, b0.out⟩
  case round =>
    obtain ⟨i, hi, rfl, rfl, rfl, B, hb⟩ := hrel
    by_cases hlt : i < n
    · have hil : i < L.length := by have := hn.out; omega
      obtain ⟨b, o, rfl, c0⟩ := (ha.out.later hb (fun b o e h => lt0.out b o e h)) i hil
      have R := pk_round hfc.out (by have := hn.out; omega) hil
      have P := pk_ok R.c
      have fc := fit_fin R.c.lt R.c.fit
      have C1 := fun w => narrow_num (L.getD i 0) (narW (L.getD i 0)) R.c.lt P.n.run (decide_eq_false (by have := fc.2; omega)) w
      have C2 := fun w => prest_run R.c w
      have C3 := fun w => abs_any (rsW (L.getD i 0)) P.rfin.1 w
      have C4 := fun w => abs_any (L.getD i 0) R.c.lt w
      have r1 := run_add32f _ _ _ P.add
      have r2 := run_add _ _ _ R.o
      have r3 := run_add _ _ _ R.t
      have eM : Hid (M.getD i 0 = pkW (L.getD i 0)) := Lib.hid (by rw [hM.out]; simp [List.getD, hil])
      have hi2 : (i : Int) < (n : Int) := by omega
      clear R P fc hil
      obtain ⟨f2, hf2⟩ : ∃ f2, f2 = totL ((L.take (i + 1)).map rsW) 0 := ⟨_, rfl⟩
      obtain ⟨t2, ht2⟩ : ∃ t2, t2 = totL (L.take (i + 1)) 0 := ⟨_, rfl⟩
      rw [← hf2] at r2
      rw [← ht2] at r3
      replace hf2 := Lib.hid hf2
      replace ht2 := Lib.hid ht2
      generalize totL ((L.take i).map rsW) 0 = f1 at *
      generalize totL (L.take i) 0 = t1 at *
      generalize rsW (L.getD i 0) = rs at *
      generalize pkW (L.getD i 0) = pk at *
      generalize narW (L.getD i 0) = nr at *
      generalize L.getD i 0 = c at *
      generalize rs % 9223372036854775808 = rs' at *
      generalize c % 9223372036854775808 = c' at *
      have c1 := B.at_ i _ (lay32_at hnM.out hlt)
      have g1 := B.fr i _ (lay32_at hnM.out hlt)
      have B3 := B.set1 (lay32_at hnM.out hlt) (.float .f32 pk)
      rw [← eM.out, lay32_set hnM.out hlt, eM.out] at B3
      replace B3 := Lib.hid B3
      have b3 := Lib.hid (hb.setCell (p := ⟨w.heap.size, i, none⟩) (Nat.le_refl _) (.float .f32 pk))
      replace B := Lib.hid B
      replace hb := Lib.hid hb
      go_wp2_with (first | (go_at_call 54; ((with_reducible refine (C1 _).mono ?_); rintro e w' ⟨rfl, rfl⟩)) | (go_at_call 55; ((with_reducible refine (C2 _).mono ?_); rintro e w' ⟨rfl, rfl⟩)) | (go_at_call 29; ((with_reducible refine (C3 _).mono ?_); rintro e w' ⟨rfl, rfl⟩)) | (go_at_call 29; ((with_reducible refine (C4 _).mono ?_); rintro e w' ⟨rfl, rfl⟩)))
      go_roundw
      case rel => exact ⟨i + 1, hlt, by go_num, by rw [hf2.out], by rw [ht2.out], B3.out, b3.out⟩
      case measure => simp [intOf]; omega
    · obtain rfl : i = n := by omega
      have Q1 := q1.out
      have Q2 := q2.out
      generalize totL ((L.take i).map rsW) 0 = f1 at *
      generalize totL (L.take i) 0 = t1 at *
      replace B := Lib.hid B
      replace hb := Lib.hid hb
      go_wp2_with fail
      go_ret3
      exact ⟨rfl, lay32_full hnM.out (by unfold maxLen; omega) B.out, hb.out⟩
end Go.Proofs.Ytnmadknpkhaolaa

namespace Go.Proofs.Ytnmadknpkhaolaa
open Go.ChangeShapes Go.WideShapes Go.ChangeAt Go.RowKit Ieee.Own Pol

set_option maxRecDepth 100000 in
theorem rasked_zero (ao : Option Addr) (cap n : Nat) (L : List Nat) (x : Nat) (w : World) (hn : n = L.length) (hm : n ≤ 4611686018427387904) (hw : Words L) (ha : At w ao L) (hx : x < 18446744073709551616) (h0 : errX m00 L x = 0) :
    Calls Try.prog 52 #[.slice ao n cap, .float .f64 x, .float .f64 4607182418800017408] w fun e w' => e = .returned (.int .i64 0) ∧ w = w' := by
  have K := rpcheck_run ao cap n L w hn hm hw ha
  obtain ⟨hC, hX⟩ := errX_zero h0
  rw [hC] at K
  have CF := fun w => rfit_any x hx w
  have g1 := o_gtr x 4607182418800017408 hx (by omega)
  have g2 := o_lss x 13830554455654793216 hx (by omega)
  have hneg : ∀ w, (Op.unary .neg (.float .f64 4607182418800017408)).run Try.prog w = .ok (.float .f64 13830554455654793216) w := fun w => rfl
  unfold inM m00 at hX
  rw [decide_eq_true_eq] at hX
  obtain ⟨h1, hx2⟩ := hX
  have k2 : key64 4607182418800017408 = 4607182418800017408 := by decide
  have k3 : key64 13830554455654793216 = -4607182418800017408 := by decide
  rw [k2] at g1
  rw [k3] at g2
  have kx : key64 x = if x < 9223372036854775808 then (x : Int) else 9223372036854775808 - (x : Int) := rfl
  rw [decide_eq_false (fun h => by have := h.2.2; split at kx <;> omega)] at g1
  rw [decide_eq_false (fun h => by have := h.2.2; split at kx <;> omega)] at g2
  rw [h1] at CF
  clear hn hm hw ha hx h0 hC h1 hx2 k2 k3 kx
  go_enter Try.func52, Try.ntmps52
  go_wp2_with (first | (go_at_call 27; ((with_reducible refine K.mono ?_); rintro e w' ⟨rfl, rfl⟩)) | (go_at_call 51; ((with_reducible refine (CF _).mono ?_); rintro e w' ⟨rfl, rfl⟩)))
  go_ret
  exact ⟨rfl, rfl⟩
set_option maxHeartbeats 1000000 in
set_option maxRecDepth 100000 in
theorem rcheb_some (ao : Option Addr) (cap n : Nat) (L : List Nat) (x : Nat) (w : World) (hn : n = L.length) (hp : 0 < n) (hw : Words L) (ha : At w ao L) (hx : x < 18446744073709551616) (hm : n ≤ 4611686018427387904) (h0 : errX m00 L x = 0) :
    Calls Try.prog 28 #[.slice ao n cap, .float .f64 x] w fun e w' => e = .returned (fe (posW (chW x L)) 0) ∧ w = w' := by
  have K := rasked_zero ao cap n L x w hn hm hw ha hx h0
  obtain ⟨hC, hX⟩ := errX_zero h0
  obtain ⟨hl16, hfc⟩ := errC_zero hw hC
  obtain ⟨fx, bx⟩ := inM_x00 hx hX
  have CS := cl_parts fx bx hfc hn (by omega) hp
  have rd := run_add _ _ _ CS.dbl
  have CS := Lib.hid CS
  replace hn := Lib.hid hn
  replace ha := Lib.hid ha
  have n16 : n ≤ 16 := by have := hn.out; omega
  have tw : IntKind.i64.wrap ((n : Int) - 1) = (n : Int) - 1 := by rw [IntKind.wrap_i64]; omega
  have tn : ((n : Int) == 0) = false := by simp; omega
  clear hw hx h0 hC hX hl16 hfc fx bx hm
  go_enter Try.func28, Try.ntmps28
  go_wp2_with (go_at_call 52; ((with_reducible refine K.mono ?_); rintro e w' ⟨rfl, rfl⟩))
  clear K
  go_loop [7, 8, 9] (fun bv dv iv => ∃ i : Nat, i ≤ n - 1 ∧ iv = .int .i64 ((n : Int) - 1 - i) ∧ bv = .float .f64 (clW x (L.tail.drop (n - 1 - i))).1 ∧ dv = .float .f64 (clW x (L.tail.drop (n - 1 - i))).2) (fun _ _ iv => (intOf iv).toNat)
  case atStart => exact ⟨0, Nat.zero_le _, by simp, by rw [Nat.sub_zero, CS.out.a8], by rw [Nat.sub_zero, CS.out.a8]⟩
  case round =>
    obtain ⟨i, hi, rfl, rfl, rfl⟩ := hrel
    by_cases hlt : i < n - 1
    · obtain ⟨⟨r1, r2, r3⟩, nx⟩ := CS.out.step i hlt
      obtain ⟨b, o, rfl, hc⟩ := ha.out (n - 1 - i) (by have := hn.out; omega)
      have r1 := run_mul _ _ _ r1
      have r2 := run_sub _ _ _ r2
      have r3 := run_add _ _ _ r3
      have hge : 1 ≤ (n : Int) - 1 - (i : Int) := by omega
      obtain ⟨u, hu⟩ : ∃ u, u = L.getD (n - 1 - i) 0 := ⟨_, rfl⟩
      rw [← hu] at hc r3 nx
      generalize (clW x (L.tail.drop (n - 1 - i))).1 = s at *
      generalize (clW x (L.tail.drop (n - 1 - i))).2 = d at *
      replace nx := Lib.hid nx
      generalize lX (mX (aX x x) s) d = l at *
      generalize mX (aX x x) s = m at *
      obtain ⟨y, hy⟩ : ∃ y, y = aX l u := ⟨_, rfl⟩
      rw [← hy] at r3 nx
      have e0 : (i : Int) ≤ (n : Int) - 1 := by omega
      have e2 : (n : Int) - 1 - (i : Int) < (n : Int) := by omega
      have e3 : ((n : Int) - 1 - (i : Int)).toNat = n - 1 - i := by omega
      clear hu hy CS
      generalize aX x x = xx at *
      go_wp2_with fail
      go_round
      case rel => exact ⟨i + 1, by omega, by go_num, by rw [nx.out], by rw [nx.out]⟩
      case measure => simp [intOf]; omega
    · obtain rfl : i = n - 1 := by omega
      obtain ⟨b, o, rfl, hc⟩ := ha.out 0 (by have := hn.out; omega)
      have r1 := run_mul _ _ _ CS.out.m
      have r2 := run_sub _ _ _ CS.out.l
      have r3 := run_add _ _ _ CS.out.s
      have r4 := run_add _ _ _ CS.out.p
      have ei : (n : Int) - 1 - ((n - 1 : Nat) : Int) = 0 := by omega
      rw [Nat.sub_self, List.drop_zero, ei]
      rw [Nat.add_zero] at hc
      have hpi : (0 : Int) < (n : Int) := by omega
      obtain ⟨u, hu⟩ : ∃ u, u = L.getD 0 0 := ⟨_, rfl⟩
      rw [← hu] at hc r3
      generalize (clW x L.tail).1 = s at *
      generalize (clW x L.tail).2 = d at *
      generalize lX (mX x s) d = l at *
      generalize mX x s = m at *
      obtain ⟨y, hy⟩ : ∃ y, y = chW x L := ⟨_, rfl⟩
      rw [← hy] at r3 r4
      replace hy := Lib.hid hy
      clear hu CS rd
      go_wp2_with fail
      go_ret2
      exact ⟨by rw [← hy.out]; rfl, rfl⟩
set_option maxRecDepth 100000 in
theorem rcheb_nil (ao : Option Addr) (cap n : Nat) (L : List Nat) (x : Nat) (w : World) (hn : n = L.length) (hz : n = 0) (hw : Words L) (ha : At w ao L) (hx : x < 18446744073709551616) (h0 : errX m00 L x = 0) :
    Calls Try.prog 28 #[.slice ao n cap, .float .f64 x] w fun e w' => e = .returned (fe 0 0) ∧ w = w' := by
  have K := rasked_zero ao cap n L x w hn (by omega) hw ha hx h0
  subst hz
  clear h0 hn hw ha hx
  go_enter Try.func28, Try.ntmps28
  go_wp2_with (go_at_call 52; ((with_reducible refine K.mono ?_); rintro e w' ⟨rfl, rfl⟩))
  go_ret2
  exact ⟨rfl, rfl⟩
set_option maxRecDepth 100000 in
theorem rcheb_ok (ao : Option Addr) (cap n : Nat) (L : List Nat) (x : Nat) (w : World) (hn : n = L.length) (hm : n ≤ 4611686018427387904) (hw : Words L) (ha : At w ao L) (hx : x < 18446744073709551616) (h0 : errX m00 L x = 0) :
    Calls Try.prog 28 #[.slice ao n cap, .float .f64 x] w fun e w' => e = .returned (fe (posW (chW x L)) 0) ∧ w = w' := by
  by_cases hz : n = 0
  · have := rcheb_nil ao cap n L x w hn hz hw ha hx h0
    have e : L = [] := List.eq_nil_of_length_eq_zero (by omega)
    rw [e]
    exact this
  · exact rcheb_some ao cap n L x w hn (by omega) hw ha hx hm h0
end Go.Proofs.Ytnmadknpkhaolaa

namespace Go.Proofs.Ytnmadknpkhaolaa
open Go.ChangeShapes Go.WideShapes Go.ChangeAt Go.RowKit Ieee.Own Pol

theorem m40_Vs : V m40 = 2 ^ 1114 := by decide +kernel
theorem errC_of {L : List Nat} (h : ∀ c ∈ L, Fc c) (hl : L.length ≤ 16) : errC L = 0 := by
  unfold errC
  rw [if_neg (by omega), if_pos]
  rw [List.all_eq_true]
  intro c hc
  have F := h c hc
  rw [inM_iff (by decide) F.lt F.fit, m40_Vs]
  exact abs_pow F.bd
set_option maxRecDepth 100000 in
theorem rasked_far (ao : Option Addr) (cap n : Nat) (L : List Nat) (x : Nat) (w : World) (hn : n = L.length) (hm : n ≤ 4611686018427387904) (hw : Words L) (ha : At w ao L) (hx : x < 18446744073709551616) (h0 : errC L = 0) (h1 : inM m00 x = false) :
    Calls Try.prog 52 #[.slice ao n cap, .float .f64 x, .float .f64 4607182418800017408] w fun e w' => e = .returned (.int .i64 3) ∧ w = w' := by
  have K := rpcheck_run ao cap n L w hn hm hw ha
  rw [h0] at K
  have CF := fun w => rfit_any x hx w
  have hneg : ∀ w, (Op.unary .neg (.float .f64 4607182418800017408)).run Try.prog w = .ok (.float .f64 13830554455654793216) w := fun w => rfl
  unfold inM m00 at h1
  rw [decide_eq_false_iff_not] at h1
  by_cases c0 : fitB x = true
  · rw [c0] at CF
    have fn := fit_fin hx c0
    have m := fn.2
    have g1 := o_gtr x 4607182418800017408 hx (by omega)
    have g2 := o_lss x 13830554455654793216 hx (by omega)
    have k2 : key64 4607182418800017408 = 4607182418800017408 := by decide
    have k3 : key64 13830554455654793216 = -4607182418800017408 := by decide
    rw [k2] at g1
    rw [k3] at g2
    have kx : key64 x = if x < 9223372036854775808 then (x : Int) else 9223372036854775808 - (x : Int) := rfl
    have n1 : nn x := fin_nn fn
    have n2 : nn 4607182418800017408 := by unfold nn; omega
    have n3 : nn 13830554455654793216 := by unfold nn; omega
    by_cases c1 : 4607182418800017408 < key64 x
    · rw [decide_eq_true ⟨n1, n2, c1⟩] at g1
      clear hn hm hw ha hx h0 h1 c0 fn m k2 k3 kx n1 n2 n3 c1 g2
      go_enter Try.func52, Try.ntmps52
      go_wp2_with (first | (go_at_call 27; ((with_reducible refine K.mono ?_); rintro e w' ⟨rfl, rfl⟩)) | (go_at_call 51; ((with_reducible refine (CF _).mono ?_); rintro e w' ⟨rfl, rfl⟩)))
      go_ret
      exact ⟨rfl, rfl⟩
    · rw [decide_eq_false (fun h => c1 h.2.2)] at g1
      have c2 : key64 x < -4607182418800017408 := by
        have : ¬ x % 9223372036854775808 ≤ 4607182418800017408 := fun h => h1 ⟨c0, h⟩
        split at kx <;> omega
      rw [decide_eq_true ⟨n1, n3, c2⟩] at g2
      clear hn hm hw ha hx h0 h1 c0 fn m k2 k3 kx n1 n2 n3 c1 c2
      go_enter Try.func52, Try.ntmps52
      go_wp2_with (first | (go_at_call 27; ((with_reducible refine K.mono ?_); rintro e w' ⟨rfl, rfl⟩)) | (go_at_call 51; ((with_reducible refine (CF _).mono ?_); rintro e w' ⟨rfl, rfl⟩)))
      go_ret
      exact ⟨rfl, rfl⟩
  · rw [Bool.not_eq_true] at c0
    rw [c0] at CF
    clear hn hm hw ha hx h0 h1 c0 hneg
    go_enter Try.func52, Try.ntmps52
    go_wp2_with (first | (go_at_call 27; ((with_reducible refine K.mono ?_); rintro e w' ⟨rfl, rfl⟩)) | (go_at_call 51; ((with_reducible refine (CF _).mono ?_); rintro e w' ⟨rfl, rfl⟩)))
    go_ret
    exact ⟨rfl, rfl⟩
set_option maxRecDepth 100000 in
theorem rcheb_far (ao : Option Addr) (cap n : Nat) (L : List Nat) (x : Nat) (w : World) (hn : n = L.length) (hm : n ≤ 4611686018427387904) (hw : Words L) (ha : At w ao L) (hx : x < 18446744073709551616) (h0 : errC L = 0) (h1 : inM m00 x = false) :
    Calls Try.prog 28 #[.slice ao n cap, .float .f64 x] w fun e w' => e = .returned (fe 0 3) ∧ w = w' := by
  have K := rasked_far ao cap n L x w hn hm hw ha hx h0 h1
  clear hn hm hw ha hx h0 h1
  go_enter Try.func28, Try.ntmps28
  go_wp2_with (go_at_call 52; ((with_reducible refine K.mono ?_); rintro e w' ⟨rfl, rfl⟩))
  go_ret2
  exact ⟨rfl, rfl⟩
end Go.Proofs.Ytnmadknpkhaolaa

namespace Go.Proofs.Ytnmadknpkhaolaa
open Go.ChangeShapes Go.WideShapes Go.ChangeAt Go.RowKit Ieee.Own

set_option maxRecDepth 100000 in
theorem x56w (b : Nat) (w : World) : (callFunc 56 #[.float .f32 b]).run Try.prog w = .ok (.value (.int .u32 (b : Int))) w := by
  rw [run_callFunc_extern (e := Extern.MathFloatBits.float32bits) Try.func56 (by kernel_rfl) (by kernel_rfl) (by kernel_rfl) (by kernel_rfl)]; rfl
set_option maxRecDepth 100000 in
theorem x53w (n : Int) (w : World) : (callFunc 53 #[.int .u64 n]).run Try.prog w = .ok (.value (.float .f64 n.toNat)) w := by
  rw [run_callFunc_extern (e := Extern.MathFloatBits.float64frombits) Try.func53 (by kernel_rfl) (by kernel_rfl) (by kernel_rfl) (by kernel_rfl)]; rfl
theorem andn31w (b : Nat) (hb : b < 4294967296) : bits BinOp.andNot IntKind.u32 (b : Int) 2147483648 = ((b % 2147483648 : Nat) : Int) := by
  rw [show (2147483648 : Int) = ((2147483648 : Nat) : Int) from rfl, u32_andNot_nat b 2147483648 hb (by omega)]
  exact congrArg _ (Nat.and_two_pow_sub_one_eq_mod b 31)
theorem and23w (b : Nat) (hb : b < 4294967296) : bits BinOp.and IntKind.u64 (b : Int) 8388607 = ((b % 8388608 : Nat) : Int) := by
  rw [show (8388607 : Int) = ((8388607 : Nat) : Int) from rfl, u64_and_nat b 8388607 (by omega) (by omega)]
  exact congrArg _ (Nat.and_two_pow_sub_one_eq_mod b 23)
theorem and8w (b : Nat) (hb : b < 4294967296) : bits BinOp.and IntKind.u64 ((b : Int) / 8388608) 255 = ((b / 8388608 % 256 : Nat) : Int) := by
  rw [show (255 : Int) = ((255 : Nat) : Int) from rfl, show ((b : Int) / 8388608) = ((b / 8388608 : Nat) : Int) by omega, u64_and_nat _ 255 (by omega) (by omega)]
  exact congrArg _ (Nat.and_two_pow_sub_one_eq_mod _ 8)
def kls32 (b : Nat) : Int :=
  if b % 2147483648 = 0 then 1 else if b % 2147483648 < 8388608 then 2
  else if b % 2147483648 < 2139095040 then 3 else if b % 2147483648 = 2139095040 then 4 else 5
theorem iq_f {a b : Int} (h : ¬ a = b) : (a == b) = false := by simpa using h
theorem iq_t {a b : Int} (h : a = b) : (a == b) = true := by simpa using h
set_option maxRecDepth 100000 in
theorem rcls32 (b : Nat) (hb : b < 4294967296) (w : World) :
    Calls Try.prog 57 #[.float .f32 b] w fun e w' => e = .returned (.int .i64 (kls32 b)) ∧ w = w' := by
  have H := andn31w b hb
  unfold kls32
  clear hb
  generalize b % 2147483648 = m at *
  by_cases h1 : m = 0
  · subst h1
    go_enter Try.func57, Try.ntmps57
    go_wp2_with (simp only [x56w])
    go_ret
    exact ⟨rfl, rfl⟩
  have t1 : ((m : Int) == 0) = false := iq_f (by omega)
  by_cases h2 : m < 8388608
  · have t2 : decide ((m : Int) < 8388608) = true := decide_eq_true (by omega)
    rw [if_neg h1, if_pos h2]
    clear h1 h2
    go_enter Try.func57, Try.ntmps57
    go_wp2_with (simp only [x56w])
    go_ret
    exact ⟨rfl, rfl⟩
  have t2 : decide ((m : Int) < 8388608) = false := decide_eq_false (by omega)
  by_cases h3 : m < 2139095040
  · have t3 : decide ((m : Int) < 2139095040) = true := decide_eq_true (by omega)
    rw [if_neg h1, if_neg h2, if_pos h3]
    clear h1 h2 h3
    go_enter Try.func57, Try.ntmps57
    go_wp2_with (simp only [x56w])
    go_ret
    exact ⟨rfl, rfl⟩
  have t3 : decide ((m : Int) < 2139095040) = false := decide_eq_false (by omega)
  by_cases h4 : m = 2139095040
  · have t4 : ((m : Int) == 2139095040) = true := iq_t (by omega)
    rw [if_neg h1, if_neg h2, if_neg h3, if_pos h4]
    clear h1 h2 h3 h4
    go_enter Try.func57, Try.ntmps57
    go_wp2_with (simp only [x56w])
    go_ret
    exact ⟨rfl, rfl⟩
  · have t4 : ((m : Int) == 2139095040) = false := iq_f (by omega)
    rw [if_neg h1, if_neg h2, if_neg h3, if_neg h4]
    clear h1 h2 h3 h4
    go_enter Try.func57, Try.ntmps57
    go_wp2_with (simp only [x56w])
    go_ret
    exact ⟨rfl, rfl⟩
theorem ret_fl {k : FloatKind} {a b : Nat} (h : a = b) : Ending.returned (.float k a) = .returned (.float k b) := by rw [h]
theorem val_big {F q m : Nat} (hq : 1 ≤ q) (hm : m < 2 ^ F) : val F (q * 2 ^ F + m) = (2 ^ F + m) * 2 ^ (q - 1) := by
  have h1 : ¬ q * 2 ^ F + m < 2 ^ F := by
    have := Nat.mul_le_mul_right (2 ^ F) hq
    omega
  have h2 : (q * 2 ^ F + m) % 2 ^ F = m := by rw [Nat.mul_comm, Nat.mul_add_mod, Nat.mod_eq_of_lt hm]
  have h3 : (q * 2 ^ F + m) / 2 ^ F = q := by rw [Nat.mul_comm, Nat.mul_add_div (Nat.two_pow_pos F), Nat.div_eq_of_lt hm, Nat.add_zero]
  unfold val mg ex
  rw [if_neg h1, if_neg h1, h2, h3]
theorem val_low {F m : Nat} (hm : m < 2 ^ F) : val F m = m := by
  unfold val mg ex
  rw [if_pos hm, if_pos hm, Nat.pow_zero, Nat.mul_one]
theorem scale_up (a : Nat) {i j k l : Nat} (e : i + j = k + l) : a * 2 ^ i * 2 ^ j = a * 2 ^ k * 2 ^ l := by
  rw [Nat.mul_assoc, ← Nat.pow_add, e, Nat.pow_add, Nat.mul_assoc]
theorem scale_3 (m : Nat) {k i j l : Nat} (e : k + i + j = l) : m * 2 ^ k * 2 ^ i * 2 ^ j = m * 2 ^ l := by
  rw [← e, Nat.pow_add, Nat.pow_add, Nat.mul_assoc, Nat.mul_assoc, Nat.mul_assoc]
theorem zero_rank {F G k a b : Nat} (h : a = 0) (g : b = 0) : val F a = val G b * 2 ^ k := by rw [h, g, val_zero, val_zero, Nat.zero_mul]
theorem rank_norm {x m c : Nat} (hc : c = 925) (hx : 1 ≤ x) (hm : m < 8388608) : val 52 ((x + 896) * 4503599627370496 + m * 536870912) = val 23 (x * 8388608 + m) * 2 ^ c := by
  have a := val_big (F := 52) (q := x + 896) (m := m * 536870912) (by omega) (by omega)
  have b := val_big (F := 23) (q := x) (m := m) hx (by omega)
  rw [show (2 : Nat) ^ 52 = 4503599627370496 by rfl] at a
  rw [show (2 : Nat) ^ 23 = 8388608 by rfl] at b
  rw [a, b, show 4503599627370496 + m * 536870912 = (8388608 + m) * 2 ^ 29 by omega]
  exact scale_up _ (by omega)
theorem rank_sub {m k u c : Nat} (hc : c = 925) (hm : m < 8388608) (hu : u = m * 2 ^ k) (hk : k ≤ 23) (h1 : 8388608 ≤ u) (h2 : u < 16777216) : val 52 ((897 - k) * 4503599627370496 + (u - 8388608) * 536870912) = val 23 m * 2 ^ c := by
  have a := val_big (F := 52) (q := 897 - k) (m := (u - 8388608) * 536870912) (by omega) (by omega)
  rw [show (2 : Nat) ^ 52 = 4503599627370496 by rfl] at a
  rw [a, val_low (show m < 2 ^ 23 by omega), show 4503599627370496 + (u - 8388608) * 536870912 = u * 2 ^ 29 by omega, hu]
  exact scale_3 _ (by omega)
theorem wide_eq {f W c : Nat} (hc : c = 925) (hf : f < 4294967296) (hn : f % 2147483648 < 2139095040) (hW : W < 18446744073709551616) (hv : val 52 (W % 9223372036854775808) = val 23 (f % 2147483648) * 2 ^ c) (hs : W < 9223372036854775808 ↔ f < 2147483648) : wideW f = W := by
  obtain ⟨a, -, -, -, -, b, d⟩ := wide_spec f hf (by omega)
  rw [← hc] at d
  have e := (val_eq_iff 52 _ _).1 ((d hn).trans hv.symm)
  generalize wideW f = X at *
  omega
structure Pt32 (f s x m : Nat) : Prop where
  hf : f < 4294967296
  s2 : s < 2
  x8 : x < 256
  m23 : m < 8388608
  hr : f % 2147483648 = x * 8388608 + m
  hs : s = f / 2147483648
theorem wide_zero {f s x m : Nat} (P : Pt32 f s x m) (h : x * 8388608 + m = 0) : wideW f = s * 9223372036854775808 := by
  obtain ⟨hf, s2, x8, m23, hr, hs⟩ := P
  obtain ⟨c, hc⟩ : ∃ c, c = 925 := ⟨_, rfl⟩
  exact wide_eq hc hf (by omega) (by omega) (zero_rank (by omega) (by omega)) (by omega)
theorem wide_norm {f s x m : Nat} (P : Pt32 f s x m) (h1 : 1 ≤ x) (h2 : x < 255) : wideW f = s * 9223372036854775808 + (x + 896) * 4503599627370496 + m * 536870912 := by
  obtain ⟨hf, s2, x8, m23, hr, hs⟩ := P
  obtain ⟨c, hc⟩ : ∃ c, c = 925 := ⟨_, rfl⟩
  have e : (s * 9223372036854775808 + (x + 896) * 4503599627370496 + m * 536870912) % 9223372036854775808 = (x + 896) * 4503599627370496 + m * 536870912 := by omega
  exact wide_eq hc hf (by omega) (by omega) (by rw [e, hr]; exact rank_norm hc h1 m23) (by omega)
theorem wide_sub {f s x m k u : Nat} (P : Pt32 f s x m) (h : x = 0) (hu : u = m * 2 ^ k) (hk : k ≤ 23) (h1 : 8388608 ≤ u) (h2 : u < 16777216) : wideW f = s * 9223372036854775808 + (897 - k) * 4503599627370496 + (u - 8388608) * 536870912 := by
  obtain ⟨hf, s2, x8, m23, hr, hs⟩ := P
  obtain ⟨c, hc⟩ : ∃ c, c = 925 := ⟨_, rfl⟩
  have e : (s * 9223372036854775808 + (897 - k) * 4503599627370496 + (u - 8388608) * 536870912) % 9223372036854775808 = (897 - k) * 4503599627370496 + (u - 8388608) * 536870912 := by omega
  have er : f % 2147483648 = m := by omega
  exact wide_eq hc hf (by omega) (by omega) (by rw [e, er]; exact rank_sub hc m23 hu hk h1 h2) (by omega)
theorem wide_inf {f s x m : Nat} (P : Pt32 f s x m) (h : x * 8388608 + m = 2139095040) : wideW f = s * 9223372036854775808 + 9218868437227405312 := by
  obtain ⟨hf, s2, x8, m23, hr, hs⟩ := P
  have h2 : f = 2139095040 ∨ f = 4286578688 := by omega
  rcases h2 with rfl | rfl
  · have e : wideW 2139095040 = 9218868437227405312 := by unfold wideW; rw [if_neg (by decide), wide_up]; rfl
    rw [e]; omega
  · have e : wideW 4286578688 = 18442240474082181120 := by unfold wideW; rw [if_neg (by decide), wide_down]; rfl
    rw [e]; omega
theorem wide_non {f s x m : Nat} (P : Pt32 f s x m) (h : 2139095040 < x * 8388608 + m) : wideW f = 9221120237041090560 := by
  unfold wideW
  rw [if_pos (by rw [P.hr]; exact h)]
theorem or_top {s y : Nat} (hs : s < 2) (hy : y < 9223372036854775808) : bits BinOp.or IntKind.u64 ((s : Int) * 9223372036854775808) (y : Int) = ((s * 9223372036854775808 + y : Nat) : Int) := by
  rw [show (s : Int) * 9223372036854775808 = ((s * 9223372036854775808 : Nat) : Int) by omega, u64_or_nat _ _ (by omega) (by omega)]
  have := Nat.two_pow_add_eq_or_of_lt (i := 63) (b := y) hy s
  rw [show (2 : Nat) ^ 63 = 9223372036854775808 by rfl, Nat.mul_comm] at this
  rw [← this]
theorem or_low {q y : Nat} (hq : q < 4096) (hy : y < 4503599627370496) : bits BinOp.or IntKind.u64 ((q * 4503599627370496 : Nat) : Int) (y : Int) = ((q * 4503599627370496 + y : Nat) : Int) := by
  rw [u64_or_nat _ _ (by omega) (by omega)]
  have := Nat.two_pow_add_eq_or_of_lt (i := 52) (b := y) hy q
  rw [show (2 : Nat) ^ 52 = 4503599627370496 by rfl, Nat.mul_comm] at this
  rw [← this]
/-- the widened word's parts -/
theorem or_all {s q y : Nat} (hs : s < 2) (hq : q < 2048) (hy : y < 4503599627370496) :
    bits BinOp.or IntKind.u64 (bits BinOp.or IntKind.u64 ((s : Int) * 9223372036854775808) ((q : Int) * 4503599627370496)) (y : Int) = ((s * 9223372036854775808 + q * 4503599627370496 + y : Nat) : Int) := by
  rw [show (q : Int) * 4503599627370496 = ((q * 4503599627370496 : Nat) : Int) by omega, or_top hs (by omega), show s * 9223372036854775808 + q * 4503599627370496 = (s * 2048 + q) * 4503599627370496 by omega, or_low (by omega) hy]
theorem top_bits (m : Nat) (h0 : 0 < m) (hm : m < 8388608) : ∃ k, k ≤ 23 ∧ 1 ≤ k ∧ 8388608 ≤ m * 2 ^ k ∧ m * 2 ^ k < 16777216 ∧ ∀ j, j < k → m * 2 ^ j < 8388608 := by
  obtain ⟨l1, l2⟩ := (Nat.log2_eq_iff (n := m) (by omega)).1 rfl
  generalize Nat.log2 m = l at *
  have hl : l < 23 := by
    by_cases c : l < 23
    · exact c
    · have := Nat.pow_le_pow_right (n := 2) (by omega) (show 23 ≤ l by omega)
      omega
  have k1 : 2 ^ l * 2 ^ (23 - l) ≤ m * 2 ^ (23 - l) := Nat.mul_le_mul_right _ l1
  have k2 : m * 2 ^ (23 - l) < 2 ^ (l + 1) * 2 ^ (23 - l) := Nat.mul_lt_mul_of_pos_right l2 (Nat.two_pow_pos _)
  rw [← Nat.pow_add, show l + (23 - l) = 23 by omega] at k1
  rw [← Nat.pow_add, show l + 1 + (23 - l) = 24 by omega] at k2
  refine ⟨23 - l, by omega, by omega, k1, k2, fun j hj => ?_⟩
  have a : m * 2 ^ j < 2 ^ (l + 1) * 2 ^ j := Nat.mul_lt_mul_of_pos_right l2 (Nat.two_pow_pos _)
  rw [← Nat.pow_add] at a
  have b := Nat.pow_le_pow_right (n := 2) (by omega) (show l + 1 + j ≤ 23 by omega)
  omega
theorem or_inf {s : Nat} (hs : s < 2) : (bits BinOp.or IntKind.u64 ((s : Int) * 9223372036854775808) 9218868437227405312).toNat = s * 9223372036854775808 + 9218868437227405312 := by
  have h : s = 0 ∨ s = 1 := by omega
  rcases h with rfl | rfl <;> decide +kernel
theorem or_nrm {s m : Nat} {q' : Int} {q : Nat} (hs : s < 2) (hq : q' = q) (h : q < 2048) (hm : m < 8388608) :
    (bits BinOp.or IntKind.u64 (bits BinOp.or IntKind.u64 ((s : Int) * 9223372036854775808) (q' * 4503599627370496)) ((m : Int) * 536870912)).toNat = s * 9223372036854775808 + q * 4503599627370496 + m * 536870912 := by
  have o := or_all (q := q) (y := m * 536870912) hs h (by omega)
  rw [hq, show (m : Int) * 536870912 = ((m * 536870912 : Nat) : Int) by omega, o, Int.toNat_natCast]
set_option maxHeartbeats 4000000 in
set_option maxRecDepth 100000 in
theorem rwide_run (f : Nat) (hf : f < 4294967296) (w : World) :
    Calls Try.prog 32 #[.float .f32 f] w fun e w' => e = .returned (.float .f64 (wideW f)) ∧ w = w' := by
  have CC := fun w => rcls32 f hf w
  have a1 := and23w f hf
  have a2 := and8w f hf
  obtain ⟨s, hs⟩ : ∃ s : Nat, s = f / 2147483648 := ⟨_, rfl⟩
  obtain ⟨x, hx⟩ : ∃ x : Nat, x = f / 8388608 % 256 := ⟨_, rfl⟩
  obtain ⟨m, hm⟩ : ∃ m : Nat, m = f % 8388608 := ⟨_, rfl⟩
  have hs' : (f : Int) / 2147483648 = (s : Int) := by omega
  have P : Pt32 f s x m := ⟨hf, by omega, by omega, by omega, by omega, hs⟩
  rw [← hx] at a2
  rw [← hm] at a1
  have ek : kls32 f = if x * 8388608 + m = 0 then 1 else if x * 8388608 + m < 8388608 then 2 else if x * 8388608 + m < 2139095040 then 3 else if x * 8388608 + m = 2139095040 then 4 else 5 := by unfold kls32; rw [P.hr]
  rw [ek] at CC
  clear ek hx hm hs
  have s2 := P.s2
  have x8 := P.x8
  have m23 := P.m23
  generalize hW : wideW f = W
  by_cases c1 : x * 8388608 + m = 0
  · rw [if_pos c1] at CC
    have e2 : ((s : Int) * 9223372036854775808).toNat = s * 9223372036854775808 := by omega
    have e := Lib.hid (hW.symm.trans (wide_zero P c1))
    clear hW P c1
    replace e2 := Lib.hid e2
    go_enter Try.func32, Try.ntmps32
    go_wp2_with (first | simp only [x56w] | simp only [x53w] | (go_at_call 57; ((with_reducible refine (CC _).mono ?_); rintro e w' ⟨rfl, rfl⟩)))
    go_ret
    exact ⟨ret_fl (e2.out.trans e.out.symm), rfl⟩
  rw [if_neg c1] at CC
  by_cases c2 : x * 8388608 + m < 8388608
  · rw [if_pos c2] at CC
    have x0 : x = 0 := by omega
    obtain ⟨k, k1, k2, t1, t2, tj⟩ := top_bits m (by omega) m23
    obtain ⟨u, hu⟩ : ∃ u, u = m * 2 ^ k := ⟨_, rfl⟩
    rw [← hu] at t1 t2
    have e3 := Lib.hid (or_nrm (q' := 1 - (k : Int) - 127 + 1023) (m := u - 8388608) s2 (show 1 - (k : Int) - 127 + 1023 = ((897 - k : Nat) : Int) by omega) (by omega) (by omega))
    have tm : (((u - 8388608 : Nat)) : Int) = (u : Int) - 8388608 := by omega
    have e := Lib.hid (hW.symm.trans (wide_sub P x0 hu k1 t1 t2))
    have tj' : Hid (∀ j, j < k → m * 2 ^ j < 8388608) := Lib.hid tj
    have hu' := Lib.hid hu
    clear hW P c1 c2 x0 tj hu
    go_enter Try.func32, Try.ntmps32
    go_wp2_with (first | simp only [x56w] | simp only [x53w] | (go_at_call 57; ((with_reducible refine (CC _).mono ?_); rintro e w' ⟨rfl, rfl⟩)))
    go_loop [5, 6] (fun ev mv => ∃ j v : Nat, j ≤ k ∧ v = m * 2 ^ j ∧ ev = .int .i64 (1 - (j : Int)) ∧ mv = .int .u64 v) (fun ev _ => (intOf ev + 23).toNat)
    case atStart => exact ⟨0, m, by omega, by simp, rfl, rfl⟩
    case round =>
      obtain ⟨j, v, hj, hv, rfl, rfl⟩ := hrel
      by_cases hlt : j < k
      · have b := tj'.out j hlt
        rw [← hv] at b
        have hv2 : v * 2 = m * 2 ^ (j + 1) := by rw [hv, Nat.pow_succ, Nat.mul_assoc]
        replace hv2 := Lib.hid hv2
        have td : decide ((v : Int) < 8388608) = true := decide_eq_true (by omega)
        have j23 : j < 23 := by omega
        have tw : IntKind.u64.wrap ((v : Int) * 2) = ((v * 2 : Nat) : Int) := by rw [IntKind.wrap_u64]; omega
        replace b := Lib.hid b
        clear hv t1 t2 hf x8 m23 s2 hj k1 k2
        go_wp2_with fail
        go_round
        case rel => exact ⟨j + 1, v * 2, by omega, hv2.out, by go_num, rfl⟩
        case measure => simp [intOf]; omega
      · have : j = k := by omega
        subst this
        have ev : v = u := by rw [hv, hu'.out]
        subst ev
        have td : decide ((v : Int) < 8388608) = false := decide_eq_false (by omega)
        have tw : IntKind.u64.wrap ((v : Int) - 8388608) = ((v - 8388608 : Nat) : Int) := by rw [IntKind.wrap_u64]; omega
        have tw2 : IntKind.u64.wrap (((v - 8388608 : Nat) : Int) * 536870912) = ((v - 8388608 : Nat) : Int) * 536870912 := by rw [IntKind.wrap_u64]; omega
        clear hv hu' t1 t2 hf x8 m23 s2 hj k2 tm
        go_wp2_with (simp only [x53w])
        go_ret
        exact ⟨ret_fl (e3.out.trans e.out.symm), rfl⟩
  rw [if_neg c2] at CC
  by_cases c3 : x * 8388608 + m < 2139095040
  · rw [if_pos c3] at CC
    have e3 := Lib.hid (or_nrm (q' := (x : Int) - 127 + 1023) s2 (show (x : Int) - 127 + 1023 = ((x + 896 : Nat) : Int) by omega) (by omega) m23)
    have e := Lib.hid (hW.symm.trans (wide_norm P (by omega) (by omega)))
    clear hW P c1 c2 c3
    go_enter Try.func32, Try.ntmps32
    go_wp2_with (first | simp only [x56w] | simp only [x53w] | (go_at_call 57; ((with_reducible refine (CC _).mono ?_); rintro e w' ⟨rfl, rfl⟩)))
    go_ret
    exact ⟨ret_fl (e3.out.trans e.out.symm), rfl⟩
  rw [if_neg c3] at CC
  by_cases c4 : x * 8388608 + m = 2139095040
  · rw [if_pos c4] at CC
    have e3 := Lib.hid (or_inf s2)
    have e := Lib.hid (hW.symm.trans (wide_inf P c4))
    clear hW P c1 c2 c3 c4
    go_enter Try.func32, Try.ntmps32
    go_wp2_with (first | simp only [x56w] | simp only [x53w] | (go_at_call 57; ((with_reducible refine (CC _).mono ?_); rintro e w' ⟨rfl, rfl⟩)))
    go_ret
    exact ⟨ret_fl (e3.out.trans e.out.symm), rfl⟩
  · rw [if_neg c4] at CC
    have e := Lib.hid (hW.symm.trans (wide_non P (by omega)))
    clear hW P c1 c2 c3 c4
    go_enter Try.func32, Try.ntmps32
    go_wp2_with (first | simp only [x56w] | simp only [x53w] | (go_at_call 57; ((with_reducible refine (CC _).mono ?_); rintro e w' ⟨rfl, rfl⟩)))
    go_ret
    exact ⟨ret_fl e.out.symm, rfl⟩
end Go.Proofs.Ytnmadknpkhaolaa
