/- Proved here: a list begun at another place, each second stretch turned about: the same numbers in another order, over the translated code. -/
import Derived.Test.YthgpdgajmpocfaaTcp
import Derived.Test.YthgpdgajmpocfaaTds
namespace Go.Proofs.Ythgpdgajmpocfaa
open Go.ChangeShapes Go.WideShapes Go.ChangeAt Go.RowKit Ieee.Own

/-! ### the places -/
def rotI (n k : Nat) : List Nat := (List.range n).map fun j => (j + k) % n
def swapL : List Nat → List Nat
  | a :: b :: r => b :: a :: swapL r
  | l => l
def turnI (n j : Nat) : Nat := if j % 2 = 0 then (if j + 1 < n then j + 1 else j) else j - 1
theorem swapL_perm (l : List Nat) : (swapL l).Perm l := by
  match l with
  | [] => exact List.Perm.refl _
  | [a] => exact List.Perm.refl _
  | a :: b :: r =>
    show (b :: a :: swapL r).Perm (a :: b :: r)
    exact ((swapL_perm r).cons a |>.cons b).trans (List.Perm.swap a b r)
theorem swapL_at (l : List Nat) (j : Nat) (hj : j < l.length) : (swapL l)[j]? = l[turnI l.length j]? := by
  match l with
  | [] => simp at hj
  | [a] =>
    obtain rfl : j = 0 := by simp at hj; omega
    rfl
  | a :: b :: r =>
    show (b :: a :: swapL r)[j]? = _
    match j with
    | 0 => simp [turnI]
    | 1 => simp [turnI]
    | j + 2 =>
      have ih := swapL_at r j (by simp at hj; omega)
      have e : turnI (a :: b :: r).length (j + 2) = turnI r.length j + 2 := by
        unfold turnI
        simp only [List.length_cons]
        by_cases h1 : j % 2 = 0
        · rw [if_pos (by omega), if_pos h1]
          by_cases h2 : j + 1 < r.length
          · rw [if_pos (by omega), if_pos h2]
          · rw [if_neg (by omega), if_neg h2]
        · rw [if_neg (by omega), if_neg h1]; omega
      rw [e]
      simpa using ih
theorem swapL_len (l : List Nat) : (swapL l).length = l.length := (swapL_perm l).length_eq
theorem rotI_eq (n k : Nat) (hk : k < n) : rotI n k = (List.range n).drop k ++ (List.range n).take k := by
  apply List.ext_getElem
  · simp [rotI]; omega
  · intro j h1 h2
    have hj : j < n := by simpa [rotI] using h1
    simp only [rotI, List.getElem_map, List.getElem_range, List.getElem_append, List.length_drop, List.length_range, List.getElem_drop, List.getElem_take]
    by_cases h : j < n - k
    · rw [dif_pos h, Nat.mod_eq_of_lt (by omega)]; omega
    · rw [dif_neg h]
      have : (j + k) % n = j + k - n := by rw [Nat.mod_eq_sub_mod (by omega), Nat.mod_eq_of_lt (by omega)]
      omega
theorem rotI_perm (n k : Nat) (hk : k < n ∨ n = 0) : (rotI n k).Perm (List.range n) := by
  rcases hk with hk | rfl
  · rw [rotI_eq n k hk]
    have := @List.perm_append_comm Nat ((List.range n).drop k) ((List.range n).take k)
    rw [List.take_append_drop] at this
    exact this
  · exact List.Perm.refl _
/-- the places of a list that is turned -/
def turnP (n k : Nat) : List Nat := swapL (rotI n k)
theorem turnP_perm (n k : Nat) (hk : k < n ∨ n = 0) : (turnP n k).Perm (List.range n) := (swapL_perm _).trans (rotI_perm n k hk)
theorem turnP_len (n k : Nat) : (turnP n k).length = n := by rw [turnP, swapL_len]; simp [rotI]
def turnL (L : List Nat) (k : Nat) : List Nat := (turnP L.length k).map fun i => L.getD i 0
theorem turnL_len (L : List Nat) (k : Nat) : (turnL L k).length = L.length := by simp [turnL, turnP_len]
theorem list_eq_map (L : List Nat) : L = (List.range L.length).map fun i => L.getD i 0 := by
  apply List.ext_getElem
  · simp
  · intro j h1 h2; simp [List.getD, h1]

/-! ### what is the same in another order -/
theorem perm_sum {a b : List Int} (h : a.Perm b) : a.sum = b.sum := by
  induction h with
  | nil => rfl
  | cons x _ ih => rw [List.sum_cons, List.sum_cons, ih]
  | swap x y l => simp only [List.sum_cons]; omega
  | trans _ _ h1 h2 => rw [h1, h2]
variable {L : List Nat} {k : Nat}
theorem turnL_perm (hk : k < L.length ∨ L.length = 0) : (turnL L k).Perm L := by
  have := (turnP_perm L.length k hk).map (fun i => L.getD i 0)
  rw [← list_eq_map L] at this
  exact this
theorem turnL_words (hk : k < L.length ∨ L.length = 0) (h : Words L) : Words (turnL L k) := fun x hx => h x ((turnL_perm hk).mem_iff.1 hx)
theorem turnL_err (hk : k < L.length ∨ L.length = 0) : errL (turnL L k) = errL L := by
  have : allFit (turnL L k) = allFit L := by
    unfold allFit
    rw [Bool.eq_iff_iff, List.all_eq_true, List.all_eq_true]
    constructor
    · intro h x hx; exact h x ((turnL_perm hk).mem_iff.2 hx)
    · intro h x hx; exact h x ((turnL_perm hk).mem_iff.1 hx)
  unfold errL
  rw [turnL_len, this]
theorem turnL_sum (hk : k < L.length ∨ L.length = 0) : (vs (turnL L k)).sum = (vs L).sum := perm_sum ((turnL_perm hk).map V)
theorem zip_map (f g : Nat → Nat) (l : List Nat) : prodL (l.map f) (l.map g) = l.map fun i => prodI (f i) (g i) := by
  simp [prodL]
theorem turnL_prod {M : List Nat} (hl : L.length = M.length) (hk : k < L.length ∨ L.length = 0) : (prodL (turnL L k) (turnL M k)).sum = (prodL L M).sum := by
  have e : prodL L M = (List.range L.length).map fun i => prodI (L.getD i 0) (M.getD i 0) := by
    conv => lhs; rw [list_eq_map L, list_eq_map M, ← hl]
    exact zip_map _ _ _
  unfold turnL
  rw [← hl, zip_map, e]
  exact perm_sum ((turnP_perm L.length k hk).map _)
theorem exact_turned (hk : k < L.length ∨ L.length = 0) {x y : Nat} (hx : ExactIs L x) (hy : ExactIs (turnL L k) y) : x = y := by
  by_cases h0 : errL L = 0
  · have h1 := hy.1 (by rw [turnL_err hk]; exact h0)
    rw [turnL_sum hk] at h1
    exact (hx.1 h0).uniq h1
  · rw [hx.2 h0, hy.2 (by rw [turnL_err hk]; exact h0)]
theorem errB_turned {M : List Nat} (hl : L.length = M.length) (hk : k < L.length ∨ L.length = 0) : errB (turnL L k) (turnL M k) = errB L M := by
  unfold errB
  rw [turnL_err hk, turnL_err (by rw [← hl]; exact hk), turnL_len, turnL_len]
theorem dot_turned {M : List Nat} (hl : L.length = M.length) (hk : k < L.length ∨ L.length = 0) {x y : Nat} (hx : DotIs L M x) (hy : DotIs (turnL L k) (turnL M k) y) : x = y := by
  by_cases h0 : errB L M = 0
  · have h1 := hy.1 (by rw [errB_turned hl hk]; exact h0)
    rw [turnL_prod hl hk] at h1
    exact (hx.1 h0).uniq h1
  · rw [hx.2 h0, hy.2 (by rw [errB_turned hl hk]; exact h0)]
theorem sign_turned {M : List Nat} (hl : L.length = M.length) (hk : k < L.length ∨ L.length = 0) : signS (turnL L k) (turnL M k) = signS L M := by
  unfold signS
  rw [errB_turned hl hk, turnL_prod hl hk]

/-! ### the walk -/
theorem oneAt' (a : Nat) (w : World) : At (w.alloc (.cells #[.float .f64 a] 25)) (some ⟨w.heap.size, 0, none⟩) [a] := by
  intro i hi
  refine ⟨w.heap.size, 0, rfl, ?_⟩
  rw [World.cell?_alloc_at _ _ _ _ rfl]
  obtain rfl : i = 0 := by simp at hi; omega
  rfl
/-- a list of the call's own -/
structure Mine (B : Nat) (w0 : World) (us : List Nat) (v : Value) (wr : World) : Prop where
  old : Below B w0 wr
  own : wr.ownsRow B 25 1 v us.length (us.map (Value.float .f64))
  size : B ≤ wr.heap.size
theorem Mine.next {B : Nat} {w0 : World} {us : List Nat} {v v' : Value} {wr w' : World} {o : Obj} {x : Nat} (N : Mine B w0 us v wr)
    (ho : w'.ownsRow B 25 1 v' (us ++ [x]).length ((us ++ [x]).map (Value.float .f64))) (hg : (wr.alloc o).grownBy w' v.ownBlock) : Mine B w0 (us ++ [x]) v' w' := by
  have hlt := N.own.lt
  have hs := N.size
  exact ⟨(N.old.alloc hs o).grown hg (by simp; omega) (fun k hk => (hlt k hk).1), ho, by have := hg.size; simp at this; omega⟩
def rotT (L : List Nat) (k i : Nat) : List Nat := (List.range i).map fun j => L.getD ((j + k) % L.length) 0
theorem rotT_succ (L : List Nat) (k i : Nat) : rotT L k (i + 1) = rotT L k i ++ [L.getD ((i + k) % L.length) 0] := by
  unfold rotT; rw [List.range_succ, List.map_append]; rfl
theorem rotT_len (L : List Nat) (k i : Nat) : (rotT L k i).length = i := by simp [rotT]
theorem rotT_at (L : List Nat) (k : Nat) {i j : Nat} (h : j < i) : (rotT L k i).getD j 0 = L.getD ((j + k) % L.length) 0 := by simp [rotT, List.getD, h]

/-- what is in the row behind i places (i even) -/
structure Swapped (B : Nat) (w0 : World) (us : List Nat) (g c i : Nat) (wr : World) : Prop where
  old : Below B w0 wr
  gb : B ≤ g
  le : i ≤ us.length
  even : i % 2 = 0
  row : ∃ cur, RowAt wr g cur ∧ cur.size = c ∧ us.length ≤ c ∧ ∀ j, j < us.length → cur[j]? = some (.float .f64 (us.getD (if j < i then turnI us.length j else j) 0))
theorem Swapped.facts {B : Nat} {w0 : World} {us : List Nat} {g c i : Nat} {wr : World} (S : Swapped B w0 us g c i wr) (hi : i + 1 < us.length) :
    wr.cell? ⟨g, i, none⟩ = some (.float .f64 (us.getD i 0)) ∧ wr.cell? ⟨g, i + 1, none⟩ = some (.float .f64 (us.getD (i + 1) 0)) ∧ wr.frozen? ⟨g, i, none⟩ = false ∧ wr.frozen? ⟨g, i + 1, none⟩ = false := by
  obtain ⟨cur, r, -, -, h⟩ := S.row
  refine ⟨?_, ?_, frozen_of_row wr g i cur _ r, frozen_of_row wr g (i + 1) cur _ r⟩
  · rw [RowAt.cell r, h i (by omega), if_neg (by omega)]
  · rw [RowAt.cell r, h (i + 1) (by omega), if_neg (by omega)]
theorem Swapped.next {B : Nat} {w0 : World} {us : List Nat} {g c i : Nat} {wr : World} (S : Swapped B w0 us g c i wr) (hi : i + 1 < us.length) :
    Swapped B w0 us g c (i + 2) (((wr.setCell ⟨g, i, none⟩ (.float .f64 (us.getD (i + 1) 0))).setCell ⟨g, i + 1, none⟩ (.float .f64 (us.getD i 0))).drew) := by
  obtain ⟨cur, r, hs, hl, h⟩ := S.row
  have he := S.even
  refine ⟨((S.old.setCell S.gb _).setCell S.gb _).drew, S.gb, by omega, by omega, (cur.setIfInBounds i (.float .f64 (us.getD (i + 1) 0))).setIfInBounds (i + 1) (.float .f64 (us.getD i 0)), ?_, by simpa using hs, hl, ?_⟩
  · exact heap_setCell_same _ g (i + 1) _ _ _ (heap_setCell_same wr g i cur _ _ r)
  · intro j hj
    by_cases e1 : j = i + 1
    · subst e1
      rw [Array.getElem?_setIfInBounds_self_of_lt (by simp; omega), if_pos (by omega)]
      unfold turnI; rw [if_neg (by omega)]; rfl
    · rw [Array.getElem?_setIfInBounds_ne (by omega)]
      by_cases e2 : j = i
      · subst e2
        rw [Array.getElem?_setIfInBounds_self_of_lt (by omega), if_pos (by omega)]
        unfold turnI; rw [if_pos he, if_pos hi]
      · rw [Array.getElem?_setIfInBounds_ne (by omega), h j hj]
        by_cases e3 : j < i
        · rw [if_pos e3, if_pos (by omega)]
        · rw [if_neg e3, if_neg (by omega)]
theorem Swapped.done {B : Nat} {w0 : World} {L : List Nat} {k g c i : Nat} {wr : World} (S : Swapped B w0 (rotT L k L.length) g c i wr) (hi : ¬ i + 1 < L.length) : At wr (some ⟨g, 0, none⟩) (turnL L k) ∧ g < wr.heap.size := by
  obtain ⟨cur, r, hs, hl, h⟩ := S.row
  have hle := S.le
  have hev := S.even
  rw [rotT_len] at hle hl h
  refine ⟨fun j hj => ⟨g, 0, rfl, ?_⟩, RowAt.lt r⟩
  rw [turnL_len] at hj
  rw [Nat.zero_add, RowAt.cell r, h j hj]
  have e : (turnL L k).getD j 0 = L.getD ((turnI L.length j + k) % L.length) 0 := by
    have hp : (turnP L.length k)[j]? = some ((turnI L.length j + k) % L.length) := by
      have ht : turnI L.length j < L.length := by unfold turnI; split <;> (try split) <;> omega
      have hlen : (rotI L.length k).length = L.length := by simp [rotI]
      rw [turnP, swapL_at _ _ (by rw [hlen]; exact hj)]
      rw [hlen]
      simp [rotI, ht]
    simp [turnL, List.getD, hp]
  rw [e]
  have ht : turnI L.length j < L.length := by unfold turnI; split <;> (try split) <;> omega
  congr 2
  by_cases h1 : j < i
  · rw [if_pos h1, rotT_at L k ht]
  · rw [if_neg h1]
    have : turnI L.length j = j := by unfold turnI; rw [if_pos (by omega), if_neg (by omega)]
    rw [rotT_at L k hj, this]

set_option maxHeartbeats 2000000 in
theorem turned_run (ao : Option Addr) (cap n k : Nat) (L : List Nat) (w : World) (hn : n = L.length) (hr : n * 8 ≤ 140737488351232) (hk : k < n ∨ n = 0 ∧ k = 0) (ha : At w ao L) :
    Calls Try.prog 29 #[.slice ao n cap, .int .i64 k] w fun e w' => ∃ ao' cap', e = .returned (.slice ao' n cap') ∧ At w' ao' (turnL L k) ∧ Below w.heap.size w w' ∧ ∀ b o, ao' = some ⟨b, o, none⟩ → b < w'.heap.size := by
  have M0 : Hid (Mine w.heap.size w (rotT L k 0) (.slice none 0 0) w) := ⟨Below.refl _ _, World.ownsRow_nil _ _ _ _, Nat.le_refl _⟩
  have hlt := Lib.hid ha.lt
  replace ha := Lib.hid ha
  replace hn := Lib.hid hn
  go_enter Try.func29, Try.ntmps29
  go_wp2_with fail
  go_loopw [5, 6] (fun nv iv wr => ∃ i : Nat, i ≤ n ∧ iv = .int .i64 i ∧ Mine w.heap.size w (rotT L k i) nv wr) (fun _ iv _ => n - (intOf iv).toNat)
  case atStart => exact ⟨0, Nat.zero_le _, rfl, M0.out⟩
  case round =>
    obtain ⟨i, hi, rfl, N⟩ := hrel
    by_cases hlt1 : i < n
    · have hkn : k < n := by omega
      have hml : (i + k) % n < n := Nat.mod_lt _ (by omega)
      have hil : (i + k) % n < L.length := by have := hn.out; omega
      obtain ⟨b, o, rfl, hc⟩ := (ha.out.later N.old hlt.out) ((i + k) % n) hil
      have hmod : ((i : Int) + (k : Int)).tmod (n : Int) = (((i + k) % n : Nat) : Int) := by rw [Int.tmod_eq_emod_of_nonneg (by omega)]; simp
      have hsu := rotT_succ L k i
      rw [← hn.out] at hsu
      obtain ⟨u, hu⟩ : ∃ u, u = L.getD ((i + k) % n) 0 := ⟨_, rfl⟩
      rw [← hu] at hc hsu
      have hsu2 := Lib.hid hsu
      have hNx := Lib.hid (fun v' w' ho hg => N.next (x := u) (v' := v') (w' := w') (o := .cells #[.float .f64 u] 25) ho hg)
      have ho1 := N.own.alloc (.cells #[.float .f64 u] 25)
      have hA1 := oneAt' u wr
      have hby : ((rotT L k i).length + [u].length) * 8 ≤ 140737488355328 := by rw [rotT_len]; simp; omega
      have hsz : w.heap.size ≤ (wr.alloc (.cells #[.float .f64 u] 25)).heap.size := by have := N.size; simp; omega
      obtain ⟨ao', m', c', rfl⟩ := owns_slice N.own
      generalize (i + k) % n = md at *
      clear hu hil N hsu
      go_wp2_with (at_builtin; refine wpList_dup rfl _ _ _ rfl Try.underlying22 w.heap.size _ (rotT L k i) rfl ho1 (some ⟨wr.heap.size, 0, none⟩) 1 1 [u] rfl rfl (by intro h; cases h) hA1 hby hsz ?_)
      intro v' w' ho' hg'
      have N2 := hNx.out v' w' (by simpa using ho') hg'
      rw [← hsu2.out] at N2
      replace N2 := Lib.hid N2
      clear ho' hg' hNx ho1 hA1 hby hsz
      go_wp2_with fail
      go_roundw
      case rel => exact ⟨i + 1, hlt1, by go_num, N2.out⟩
      case measure => simp [intOf]; omega
    · obtain rfl : i = L.length := by have := hn.out; omega
      have hown := N.own
      have hold := Lib.hid N.old
      have hN0 := Lib.hid N.size
      by_cases h0 : L.length = 0
      · have hL : L = [] := List.eq_nil_of_length_eq_zero h0
        obtain ⟨ao', c', rfl, k1, k2, k3, k4, k5⟩ := owns_at hown
        rw [rotT_len, h0]
        have hfin : Hid (At wr ao' (turnL L k) ∧ ∀ b o, ao' = some ⟨b, o, none⟩ → b < wr.heap.size) := ⟨fun j hj => by rw [turnL_len, h0] at hj; omega, fun b o e => (k5 b o e).2⟩
        obtain rfl : n = 0 := by have := hn.out; omega
        clear N hown k1 k2 k3 k4 k5 hL h0
        go_wp2_with fail
        refine wp_loop_rounds 1 ?_
        rw [rounds_succ]
        go_wp2_with fail
        go_ret
        exact ⟨ao', c', rfl, hfin.out.1, hold.out, hfin.out.2⟩
      · rcases hown.2 with ⟨-, h1⟩ | ⟨g, c, cur, rfl, hg, hrw, hnc, hcm, hsz, ht⟩
        · rw [rotT_len] at h1; exact absurd h1 h0
        · rw [Nat.mul_one] at hsz ht
          have hIn := InRow.of_take ht
          have S0 : Hid (Swapped w.heap.size w (rotT L k L.length) g c 0 wr) := ⟨N.old, hg, Nat.zero_le _, rfl, cur, hrw, hsz, by simpa using hnc, fun j hj => by rw [if_neg (by omega)]; exact hIn j (by omega) hj⟩
          rw [rotT_len]
          have hnl : n = L.length := hn.out
          have hcl : L.length ≤ c := by rw [rotT_len] at hnc; exact hnc
          have hln := Lib.hid hnl
          obtain ⟨m, hm⟩ : ∃ m, m = L.length := ⟨_, rfl⟩
          rw [← hm] at hcl ⊢
          have hm2 : m * 8 ≤ 140737488351232 := by omega
          have hm3 : m = n := by omega
          replace hm := Lib.hid hm
          subst hm3
          clear N hown hIn ht hsz hnc hrw hcm hg hnl h0
          go_wp2_with fail
          go_loopw [7] (fun iv wr => ∃ i : Nat, iv = .int .i64 i ∧ Swapped w.heap.size w (rotT L k L.length) g c i wr) (fun iv _ => m - (intOf iv).toNat)
          case atStart => exact ⟨0, rfl, S0.out⟩
          case round =>
            obtain ⟨i, rfl, S⟩ := hrel
            have hle : i ≤ m := by have := S.le; rw [rotT_len] at this; have := hm.out; omega
            by_cases hlt2 : i + 1 < m
            · have hlt3 : i + 1 < (rotT L k L.length).length := by rw [rotT_len]; have := hm.out; omega
              obtain ⟨c1, c2, f1, f2⟩ := S.facts hlt3
              have hst : ∀ (a : Addr) (b : Nat) (m : Mode) (x : World), (store a (.float .f64 b) m).run Try.prog x = stored Try.prog x a (.float .f64 b) m := fun a b m x => run_store _ x a _ m rfl
              have S2 := S.next hlt3
              obtain ⟨u, hu⟩ : ∃ u, u = (rotT L k L.length).getD i 0 := ⟨_, rfl⟩
              obtain ⟨v, hv⟩ : ∃ v, v = (rotT L k L.length).getD (i + 1) 0 := ⟨_, rfl⟩
              rw [← hu] at c1 S2
              rw [← hv] at c2 S2
              replace S2 := Lib.hid S2
              clear hu hv S hlt3
              go_wp2_with fail
              go_region
              all_goals
                go_wp2_with fail
                go_roundw
                case rel => exact ⟨i + 2, by go_num, S2.out⟩
                case measure => simp [intOf]; omega
            · have hfin := S.done (by have := hm.out; omega)
              replace hfin := Lib.hid hfin
              have hold := Lib.hid S.old
              clear S
              go_wp2_with fail
              go_ret
              exact ⟨_, c, rfl, hfin.out.1, hold.out, fun b o e => by simp at e; obtain ⟨rfl, rfl⟩ := e; exact hfin.out.2⟩
end Go.Proofs.Ythgpdgajmpocfaa
