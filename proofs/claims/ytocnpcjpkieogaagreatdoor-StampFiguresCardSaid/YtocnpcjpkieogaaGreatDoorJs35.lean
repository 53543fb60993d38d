/- Proved here: what the texts Sqi prove, one behind the other. -/
import Derived.Test.YtocnpcjpkieogaaGreatDoorJs34
import Derived.Test.YtocnpcjpkieogaaGreatDoorJs26

namespace Go.Proofs.YtocnpcjpkieogaaGreatDoor
open Go.Shelf Go.ChangeShapes Go.WideShapes Go.ChangeAt Go.RowKit Ieee.Own

theorem tw_at : ∀ (L : List Int) (i : Nat), i < (hdP L).length → i < L.length ∧ L.getD i 0 ≠ 46
  | [], i, h => by simp [hdP] at h
  | x :: L, i, h => by
    unfold hdP at h
    by_cases q : x = 46
    · rw [List.takeWhile_cons_of_neg (by simpa using q)] at h; simp at h
    · rw [List.takeWhile_cons_of_pos (by simpa using q), List.length_cons] at h
      cases i with
      | zero => exact ⟨by simp, by simpa using q⟩
      | succ i =>
        have := tw_at L i (by unfold hdP; omega)
        rw [List.length_cons]
        exact ⟨by omega, by simpa using this.2⟩
theorem tw_end (L : List Int) (h : ptP L = true) : (hdP L).length < L.length ∧ L.getD (hdP L).length 0 = 46 := by
  have e := hd_split _ h
  generalize hdP L = H at *
  generalize tlP L = T at *
  subst e
  refine ⟨by simp, by simp [List.getD]⟩
theorem ext_all (b : ByteArray) : b.extract 0 b.size = b := by simp
def RvA (L : List Int) (e : Ending) : Prop :=
  (figT L = false → e = .returned (.tuple #[.float .f64 0, .int .i64 90])) ∧ (figT L = true → abvT (hdP (rsP L)) (tlP (rsP L)) = true → e = .returned (.tuple #[.float .f64 0, .int .i64 3])) ∧
    (figT L = true → abvT (hdP (rsP L)) (tlP (rsP L)) = false → ansV (ngP L) (figD (hdP (rsP L)) (tlP (rsP L))) (tlP (rsP L)).length e)
def fgB (L W P : List Int) (pt ng : Bool) : Bool := adL W 10 && (!lzP W && ((!pt || adL P 9) && (!ng || !ngtL L)))
theorem fg_is {L Q W P : List Int} {pt ng : Bool} (hQ : Q = rsP L) (hW : hdP Q = W) (hPP : tlP Q = P) (hP : ptP Q = pt) (hg : ng = ngP L) : figT L = fgB L W P pt ng := by
  unfold figT fgB; rw [← hQ, hW, hPP, hP, hg]
theorem rv_text {L Q W P : List Int} {pt ng : Bool} (hQ : Q = rsP L) (hW : hdP Q = W) (hPP : tlP Q = P) (hP : ptP Q = pt) (hg : ng = ngP L) (h : fgB L W P pt ng = false) : RvA L (.returned (.tuple #[.float .f64 0, .int .i64 90])) := by
  have e := fg_is hQ hW hPP hP hg
  rw [h] at e
  unfold RvA
  rw [e]
  exact ⟨fun _ => rfl, fun h => by simp at h, fun h => by simp at h⟩
theorem fg1 {L W P : List Int} {pt ng : Bool} (h : adL W 10 = false) : fgB L W P pt ng = false := by unfold fgB; rw [h]; rfl
theorem fg2 {L W P : List Int} {pt ng : Bool} (h : lzP W = true) : fgB L W P pt ng = false := by unfold fgB; rw [h]; simp
theorem fg3 {L W P : List Int} {ng : Bool} (h : adL P 9 = false) : fgB L W P true ng = false := by unfold fgB; rw [h]; simp
theorem fg4 {L W P : List Int} {pt : Bool} (h : ngtL L = true) : fgB L W P pt true = false := by unfold fgB; rw [h]; simp
theorem ad_len {l : List Int} {n : Nat} (h : ¬ (1 ≤ l.length ∧ l.length ≤ n)) : adL l n = false := by unfold adL; rw [decide_eq_false h]; rfl
theorem ad_nil {l : List Int} {n : Nat} (h : l = []) : adL l n = false := ad_len (by rw [h]; simp)
theorem lz_yes {l : List Int} (h : 1 < l.length) (h2 : l.getD 0 0 = 48) : lzP l = true := by unfold lzP; rw [decide_eq_true h, decide_eq_true h2]; rfl
theorem lz_no {l : List Int} (h : ¬ 1 < l.length ∨ l.getD 0 0 ≠ 48) : lzP l = false := by
  unfold lzP
  rcases h with h | h
  · rw [decide_eq_false h]; rfl
  · rw [decide_eq_false h, Bool.and_false]
theorem ad_nd {l : List Int} {n : Nat} (h : digB l = false) : adL l n = false := by unfold adL; rw [h, Bool.and_false]
theorem ad_yes {l : List Int} {n : Nat} (h : digB l = true) (k : 1 ≤ l.length ∧ l.length ≤ n) : adL l n = true := by unfold adL; rw [h, decide_eq_true k]; rfl
theorem num_len {l : List Int} (h : digB l = true) : numI l 0 < 10 ^ l.length := by
  have := numI_lt l (digB_iff.1 h) 0
  rw [Nat.zero_add, Nat.one_mul] at this; exact this
theorem num_ten {l : List Int} (h : digB l = true) (k : l.length ≤ 10) : numI l 0 < 10000000000 := by
  have := num_len h
  have k2 : 10 ^ l.length ≤ 10 ^ 10 := Nat.pow_le_pow_right (by decide) k
  rw [show (10 : Nat) ^ 10 = 10000000000 by decide] at k2
  omega
theorem ngt_app (a b : List Int) : ngtL (a ++ b) = (ngtL a && ngtL b) := by unfold ngtL; rw [List.all_append]
theorem ngt_yes {L Q W P : List Int} {pt : Bool} (hQ : Q = rsP L) (hW : hdP Q = W) (hPP : tlP Q = P) (hP : ptP Q = pt) (w1 : digB W = true) (w2 : digB P = true) (m0 : numI W 0 = 0) (f0 : numI P 0 = 0) : ngtL L = true := by
  have a := ngt_num (digB_iff.1 w1)
  have b := ngt_num (digB_iff.1 w2)
  rw [m0] at a
  rw [f0] at b
  rw [sg_rest L, ngt_app, ← hQ]
  have c : ngtL (sgL (ngP L)) = true := by unfold sgL; split <;> rfl
  rw [c, Bool.true_and]
  cases pt with
  | true =>
    rw [hd_split Q hP, hW, hPP, ngt_app, a]
    show (true && ((true) && ngtL P)) = true
    rw [b]; rfl
  | false => rw [← (hd_nil Q hP).1, hW, a]; rfl
theorem rv_fit {L Q W P : List Int} {pt ng : Bool} {m f : Nat} (hQ : Q = rsP L) (hW : hdP Q = W) (hPP : tlP Q = P) (hP : ptP Q = pt) (hg : ng = ngP L) (hm : numI W 0 = m) (hf : numI P 0 = f) (w2 : digB P = true) (h : 1073741824 < m ∨ m = 1073741824 ∧ f ≠ 0) (h2 : fgB L W P pt ng = true) : RvA L (.returned (.tuple #[.float .f64 0, .int .i64 3])) := by
  have e := fg_is hQ hW hPP hP hg
  rw [h2] at e
  have k : abvT (hdP (rsP L)) (tlP (rsP L)) = true := by
    rw [← hQ, hW, hPP]
    unfold abvT
    rw [ngt_num (digB_iff.1 w2), hm, hf]
    rcases h with h | ⟨h, h3⟩
    · rw [decide_eq_true h]; rfl
    · rw [decide_eq_true h, decide_eq_false h3]; simp
  unfold RvA
  rw [e, k]
  exact ⟨fun h => by simp at h, fun _ _ => rfl, fun _ h => by simp at h⟩
theorem dm_le {m f t : Nat} (hf : f < t) (h : m < 1073741824 ∨ m = 1073741824 ∧ f = 0) : m * t + f ≤ 1073741824 * t := by
  rcases h with h | ⟨h, h2⟩
  · have := Nat.mul_le_mul_right t (show m + 1 ≤ 1073741824 from h)
    rw [Nat.add_mul, Nat.one_mul] at this
    omega
  · rw [h, h2]; exact Nat.le_refl _
theorem ngt_no {L Q W P : List Int} {pt : Bool} (hQ : Q = rsP L) (hW : hdP Q = W) (hPP : tlP Q = P) (hP : ptP Q = pt) (w1 : digB W = true) (w2 : digB P = true) (h : ¬ (numI W 0 = 0 ∧ numI P 0 = 0)) : ngtL L = false := by
  have a := ngt_num (digB_iff.1 w1)
  have b := ngt_num (digB_iff.1 w2)
  rw [sg_rest L, ngt_app, ← hQ]
  have c : ngtL (sgL (ngP L)) = true := by unfold sgL; split <;> rfl
  rw [c, Bool.true_and]
  cases pt with
  | true =>
    rw [hd_split Q hP, hW, hPP, ngt_app, a]
    show (_ && ((true) && ngtL P)) = false
    rw [b]
    by_cases x : numI W 0 = 0
    · rw [decide_eq_false (p := numI P 0 = 0) (fun y => h ⟨x, y⟩)]; simp
    · rw [decide_eq_false x]; rfl
  | false =>
    have e := hd_nil Q hP
    rw [← e.1, hW, a]
    rw [hPP] at e
    exact decide_eq_false (fun x => h ⟨x, by rw [e.2]; rfl⟩)
theorem got_neg {D p z : Nat} (h : D ≠ 0) (z2 : D = 0 ∧ z = 0 ∨ D ≠ 0 ∧ ∃ k, NearK D p k z) (z1 : z < 9223372036854775808) : GotF true D p (z + 9223372036854775808) := by
  rcases z2 with ⟨a, _⟩ | ⟨_, k, n⟩
  · exact absurd a h
  · refine .inr ⟨h, k, ⟨n.lo, n.hi, ?_⟩, by omega, by rw [if_pos rfl]; omega⟩
    rw [show (z + 9223372036854775808) % 9223372036854775808 = z % 9223372036854775808 by omega]; exact n.eq
theorem got_pos {D p z : Nat} (z2 : D = 0 ∧ z = 0 ∨ D ≠ 0 ∧ ∃ k, NearK D p k z) (z1 : z < 9223372036854775808) : GotF false D p z := by
  rcases z2 with a | ⟨h, k, n⟩
  · exact .inl a
  · exact .inr ⟨h, k, n, by omega, by rw [if_neg (by decide)]; omega⟩
theorem rv_ok {L Q W P : List Int} {pt ng : Bool} {m f x : Nat} (hQ : Q = rsP L) (hW : hdP Q = W) (hPP : tlP Q = P) (hP : ptP Q = pt) (hg : ng = ngP L) (h2 : fgB L W P pt ng = true) (hm : numI W 0 = m) (hf : numI P 0 = f) (w2 : digB P = true) (h : m < 1073741824 ∨ m = 1073741824 ∧ f = 0) (hx : GotF ng (figD W P) P.length x) : RvA L (.returned (.tuple #[.float .f64 x, .int .i64 0])) := by
  have e := fg_is hQ hW hPP hP hg
  rw [h2] at e
  have k : abvT W P = false := by
    unfold abvT
    rw [ngt_num (digB_iff.1 w2), hm, hf]
    rcases h with h | ⟨h, h3⟩
    · rw [decide_eq_false (by omega), decide_eq_false (by omega)]; rfl
    · rw [decide_eq_false (by omega), decide_eq_true h3]; simp
  unfold RvA
  rw [e, ← hQ, hW, hPP, k, ← hg]
  exact ⟨fun h => by simp at h, fun _ h => by simp at h, fun _ _ => ⟨x, rfl, hx⟩⟩
theorem fin_top' {b : Nat} (h : FinW b) : (V b).natAbs < 2 ^ 2098 := by
  rw [V_abs' b h, ← top64']
  exact (val_lt_iff 52 _ _).2 h.2
theorem sub_zero_pos {D p k y : Nat} (hp : p ≤ 9) (hD : D ≤ 1073741824 * 10 ^ p) (n : NearK D p k y) (hy : y < 9223372036854775808) : Ieee.double.sub 0 y = some (y + 9223372036854775808) := by
  have nf := near_fit hp hD n
  rw [Nat.mod_eq_of_lt hy] at nf
  have h : FinW y := by unfold FinW; omega
  have h0 : V y ≠ 0 := by
    intro q
    have := V_abs' y h
    rw [q, Nat.mod_eq_of_lt hy] at this
    have k : val 52 y = val 52 0 := by rw [← this]; decide
    have := (val_eq_iff 52 _ _).1 k
    omega
  have hr : RN (V 0 - V y) = -V y := by rw [show V 0 = 0 by decide +kernel, Int.zero_sub, RN_neg, RN_exact (Rep_V y)]
  obtain ⟨r, h1, h2, h3⟩ := sub_spec (show FinW 0 by unfold FinW; decide) h (by rw [hr, Int.natAbs_neg]; exact fin_top' h)
  rw [hr] at h3
  rw [h1, V_inj h2 (negW_fin h) (by rw [h3, negW_V h]) (by omega)]
  unfold negW
  rw [if_pos hy]
theorem dm_ne {m f t : Nat} (ht : 0 < t) (h : m ≠ 0 ∨ f ≠ 0) : m * t + f ≠ 0 := by
  rcases h with h | h
  · have := Nat.mul_pos (Nat.pos_of_ne_zero h) ht; omega
  · omega
theorem empty_is {b : ByteArray} {P : List Int} (h : byI b = P) (z : P = []) : b.toList.isEmpty = true := by
  have e : b.toList = b.data.toList := ByteArray.toList_eq _
  rw [z] at h
  unfold byI at h
  rw [e, List.isEmpty_iff]
  exact List.map_eq_nil_iff.1 h
theorem empty_not {b : ByteArray} {P : List Int} (h : byI b = P) (z : ¬ P = []) : b.toList.isEmpty = false := by
  have e : b.toList = b.data.toList := ByteArray.toList_eq _
  rw [← Bool.not_eq_true, e, List.isEmpty_iff]
  intro q
  exact z (by rw [← h]; unfold byI; rw [q]; rfl)
end Go.Proofs.YtocnpcjpkieogaaGreatDoor
