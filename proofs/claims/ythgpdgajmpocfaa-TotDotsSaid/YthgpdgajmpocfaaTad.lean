/- Proved here: what the expansion's calls twoSum, split and add answer and leave, over the translated code; each under the conditions of its theorem. -/
import Derived.Test.YthgpdgajmpocfaaRow
import Derived.OneCell
namespace Go.Proofs.Ythgpdgajmpocfaa
open Go.ChangeShapes Go.WideShapes Go.ChangeAt Go.RowKit Ieee.Own

theorem twosum_run {a b k : Nat} (ha : FinW a) (hb : FinW b) (xa : (V a).natAbs ≤ 2 ^ k) (xb : (V b).natAbs ≤ 2 ^ k) (hk : k < 1900) :
    ∃ s e, FinW s ∧ FinW e ∧ V s = RN (V a + V b) ∧ V e = V a + V b - RN (V a + V b) ∧
      ∀ w, Calls Try.prog 53 #[.float .f64 a, .float .f64 b] w fun en w' => en = .returned (ff s e) ∧ w = w' := by
  obtain ⟨s, c, t1, t2, t3, e, o1, o2, o3, o4, o5, o6, f1, f2, v1, v2⟩ := two_sum_words ha hb xa xb hk
  refine ⟨s, e, f1, f2, v1, by rw [v2, v1], fun w => ?_⟩
  have r1 := run_add _ _ _ o1
  have r2 := run_sub _ _ _ o2
  have r3 := run_sub _ _ _ o3
  have r4 := run_sub _ _ _ o4
  have r5 := run_sub _ _ _ o5
  have r6 := run_add _ _ _ o6
  clear o1 o2 o3 o4 o5 o6 f1 f2 v1 v2 ha hb xa xb hk
  go_enter Try.func53, Try.ntmps53
  go_wp2
  go_ret2
  exact ⟨rfl, rfl⟩

theorem split_run {a p : Nat} {A : Int} (ha : Nr a A p) (hp : p < 1900) :
    ∃ h l H, FinW h ∧ FinW l ∧ V h = H * 2 ^ p ∧ V l = (A - H) * 2 ^ p ∧ (2 : Int) ^ 27 ∣ H ∧ (A - H).natAbs ≤ 2 ^ 26 ∧
      ∀ w, Calls Try.prog 68 #[.float .f64 a] w fun en w' => en = .returned (ff h l) ∧ w = w' := by
  obtain ⟨c, d, h, l, H, o1, o2, o3, o4, f1, f2, v1, v2, d1, d2⟩ := split_words ha hp
  refine ⟨h, l, H, f1, f2, v1, v2, d1, d2, fun w => ?_⟩
  have r1 := run_mul _ _ _ o1
  have r2 := run_sub _ _ _ o2
  have r3 := run_sub _ _ _ o3
  have r4 := run_sub _ _ _ o4
  clear o1 o2 o3 o4 f1 f2 v1 v2 d1 d2 hp ha
  go_enter Try.func68, Try.ntmps68
  go_wp2
  go_ret2
  exact ⟨rfl, rfl⟩

theorem grow_len (x : Int) (ps : List Int) : (grow x ps).length ≤ ps.length + 1 := by
  induction ps generalizing x with
  | nil => unfold grow; split <;> simp
  | cons p ps ih =>
    unfold grow
    split
    · have := ih (RN (x + p)); simp; omega
    · have := ih (RN (x + p)); simp; omega
theorem vs_app (a b : List Nat) : vs (a ++ b) = vs a ++ vs b := List.map_append
theorem vs_one (a : Nat) : vs [a] = [V a] := rfl
theorem vs_len (a : List Nat) : (vs a).length = a.length := List.length_map _
theorem vs_drop {us : List Nat} {i : Nat} (h : i < us.length) : vs (us.drop i) = V (us.getD i 0) :: vs (us.drop (i + 1)) := by
  rw [List.drop_eq_getElem_cons h]
  show V _ :: vs _ = _
  congr 1
  simp [List.getD, h]
theorem Fins.at {us : List Nat} (h : Fins us) {i : Nat} (hi : i < us.length) : FinW (us.getD i 0) := h _ (by simp [List.getD, hi])
theorem Fins.app {us : List Nat} (h : Fins us) {u : Nat} (hu : FinW u) : Fins (us ++ [u]) := by
  intro v hv
  rcases List.mem_append.1 hv with hv | hv
  · exact h v hv
  · simp at hv; subst hv; exact hu
theorem Fins.nil : Fins [] := by intro u hu; simp at hu

structure Adding (b g n cap : Nat) (us : List Nat) (x0 k : Nat) (w : World) (i x : Nat) (hs : List Nat) (wr : World) : Prop where
  fx : FinW x
  fh : Fins hs
  le : hs.length ≤ i
  eq : grow (V x0) (vs us) = vs hs ++ grow (V x) (vs (us.drop i))
  bd : (V x).natAbs + 2 * absSum (vs (us.drop i)) ≤ 2 ^ k
  old : Below b w wr
  own : wr.heap[b]? = some (.cells #[.slice (some ⟨g, 0, none⟩) n cap] 48 (0, 0))
  gb : b < g
  row : ∃ cur, RowAt wr g cur ∧ cur.size = cap ∧ InRow cur hs 0 ∧ InRow cur us i

theorem Adding.drop {b g n cap : Nat} {us : List Nat} {x0 k : Nat} {w : World} {i x : Nat} {hs : List Nat} {wr : World} (H : Adding b g n cap us x0 k w i x hs wr) (hi : i < us.length)
    {s e : Nat} (fs : FinW s) (hs' : V s = RN (V x + V (us.getD i 0))) (he : V e = V x + V (us.getD i 0) - RN (V x + V (us.getD i 0))) (h0 : V e = 0) : Adding b g n cap us x0 k w (i + 1) s hs wr := by
  have hbd := H.bd
  have heq := H.eq
  rw [vs_drop hi, absSum_cons] at hbd
  rw [vs_drop hi, grow, if_pos (by omega), ← hs'] at heq
  have hx := rest_le (p := V (us.getD i 0)) (Rep_V x)
  obtain ⟨cur, r1, r2, r3, r4⟩ := H.row
  exact ⟨fs, H.fh, by have := H.le; omega, heq, by omega, H.old, H.own, H.gb, cur, r1, r2, r3, r4.later (by omega)⟩
theorem Adding.keep {b g n cap : Nat} {us : List Nat} {x0 k : Nat} {w : World} {i x : Nat} {hs : List Nat} {wr w1 w2 : World} {cur : Array Value} (H : Adding b g n cap us x0 k w i x hs wr) (hi : i < us.length) (hcap : us.length ≤ cap)
    {s e : Nat} (fs : FinW s) (fe : FinW e) (hs' : V s = RN (V x + V (us.getD i 0))) (he : V e = V x + V (us.getD i 0) - RN (V x + V (us.getD i 0))) (h0 : V e ≠ 0)
    (hc : RowAt wr g cur) (h1 : wr.grownBy w1 none) (h2 : RowAt w2 g (cur.setIfInBounds hs.length (.float .f64 e))) (h3 : w1.grownBy w2 (some g)) : Adding b g n cap us x0 k w (i + 1) s (hs ++ [e]) w2 := by
  have hbd := H.bd
  have heq := H.eq
  have hle := H.le
  have hgb := H.gb
  rw [vs_drop hi, absSum_cons] at hbd
  rw [vs_drop hi, grow, if_neg (by omega), ← he, ← hs'] at heq
  have hx := rest_le (p := V (us.getD i 0)) (Rep_V x)
  obtain ⟨cur', r1, r2, r3, r4⟩ := H.row
  have hcc : cur' = cur := by
    unfold RowAt at r1 hc
    rw [hc] at r1
    simp at r1; exact r1.symm
  subst hcc
  have hb : b < wr.heap.size := (Array.getElem?_eq_some_iff.1 H.own).1
  have hgs := r1.lt
  refine ⟨fs, H.fh.app fe, by simp; omega, by rw [heq, vs_app, vs_one, List.append_assoc]; rfl, by omega, ?_, ?_, hgb, cur'.setIfInBounds hs.length (.float .f64 e), h2, by simpa using r2, ?_, ?_⟩
  · exact (H.old.grown h1 (by omega) (by simp)).grown h3 (by have := h1.size; omega) (by intro k hk; simp at hk; omega)
  · rw [h3.block b (by have := h1.size; omega) (by simp; omega), h1.block b hb (by simp)]; exact H.own
  · exact r3.push (by omega)
  · exact (r4.later (by omega)).set (by omega)

theorem owns_slice {w : World} {base : Nat} {e : TypeId} {size n : Nat} {v : Value} {xs : List Value} (h : w.ownsRow base e size v n xs) : ∃ ao m c, v = .slice ao m c := by
  rcases h.2 with ⟨rfl, _⟩ | ⟨g, cap, cur, rfl, _⟩
  · exact ⟨_, _, _, rfl⟩
  · exact ⟨_, _, _, rfl⟩
theorem ne_zero (b : Nat) (hb : FinW b) : (FloatKind.f64.format.order b 0 != some Ordering.eq) = !decide (V b = 0) := congrArg (!·) (eq_zero b hb)
theorem cell_new1 (w : World) (v : Value) (t : TypeId) : (w.alloc (.cells #[v] t)).cell? ⟨w.heap.size, 0, none⟩ = some v := by rw [World.cell?_alloc_at _ _ _ _ rfl]; rfl
theorem cell_b {w : World} {b : Nat} {v : Value} {t : TypeId} (h : w.heap[b]? = some (.cells #[v] t (0, 0))) : w.cell? ⟨b, 0, none⟩ = some v ∧ w.frozen? ⟨b, 0, none⟩ = false := by
  refine ⟨by rw [cell_of_row w b 0 _ _ _ h]; rfl, frozen_of_row w b 0 _ _ h⟩

theorem flt_app (hs : List Nat) (x : Nat) : hs.map (Value.float .f64) ++ [.float .f64 x] = (hs ++ [x]).map (Value.float .f64) := by simp
theorem Adding.end0 {b g n cap : Nat} {us : List Nat} {x0 k : Nat} {w : World} {x : Nat} {hs : List Nat} {wr : World} (H : Adding b g n cap us x0 k w us.length x hs wr) (hcap : us.length ≤ cap) (hcm : cap ≤ maxLen) (h0 : V x = 0) :
    ∃ us', Exp b (wr.setCell ⟨b, 0, none⟩ (.slice (some ⟨g, 0, none⟩) hs.length cap)) us' ∧ vs us' = grow (V x0) (vs us) ∧ Below b w (wr.setCell ⟨b, 0, none⟩ (.slice (some ⟨g, 0, none⟩) hs.length cap)) ∧ us'.length ≤ us.length + 1 := by
  obtain ⟨cur, r1, r2, r3, r4⟩ := H.row
  have heq := H.eq
  have hgb := H.gb
  have hle := H.le
  rw [List.drop_length, h0] at heq
  simp only [vs, List.map_nil, grow, if_true, List.append_nil] at heq
  have hsz : b < (wr.setCell ⟨b, 0, none⟩ (.slice (some ⟨g, 0, none⟩) hs.length cap)).heap.size := by simp [World.setCell]; exact lt_of_block H.own
  have ho := r1.owns (base := b + 1) (n := hs.length) (xs := hs.map (Value.float .f64)) (by omega) (by omega) (by omega) r3.take
  rw [r2] at ho
  exact ⟨hs, ⟨H.fh, hsz, _, one_setCell H.own, ownsRow_setCell_below ho (by show b < b + 1; omega) _⟩, heq.symm, H.old.setCell (Nat.le_refl b) _, by omega⟩
theorem Adding.end1 {b g n cap : Nat} {us : List Nat} {x0 k : Nat} {w : World} {x : Nat} {hs : List Nat} {wr w2 : World} {o : Obj} {v' : Value} (H : Adding b g n cap us x0 k w us.length x hs wr) (h0 : V x ≠ 0)
    (hown : w2.ownsRow (b + 1) 25 1 v' (hs.length + 1) (hs.map (Value.float .f64) ++ [.float .f64 x])) (hg : (wr.alloc o).grownBy w2 (some g)) :
    (w2.cell? ⟨b, 0, none⟩ = some (.slice (some ⟨g, 0, none⟩) n cap) ∧ w2.frozen? ⟨b, 0, none⟩ = false) ∧
    ∃ us', Exp b (w2.setCell ⟨b, 0, none⟩ v') us' ∧ vs us' = grow (V x0) (vs us) ∧ Below b w (w2.setCell ⟨b, 0, none⟩ v') ∧ us'.length ≤ us.length + 1 := by
  have heq := H.eq
  have hgb := H.gb
  have hle := H.le
  rw [List.drop_length] at heq
  simp only [vs, List.map_nil, grow, if_neg h0] at heq
  have hb := lt_of_block H.own
  have hh : w2.heap[b]? = some (.cells #[.slice (some ⟨g, 0, none⟩) n cap] 48 (0, 0)) := by
    rw [hg.block b (by simp; omega) (by simp; omega), Below.heap_alloc _ _ _ hb]; exact H.own
  have hsz : b < (w2.setCell ⟨b, 0, none⟩ v').heap.size := by simp [World.setCell]; exact lt_of_block hh
  refine ⟨⟨cell_of_one hh, free_of_one hh⟩, hs ++ [x], ⟨H.fh.app H.fx, hsz, _, one_setCell hh, ?_⟩, ?_, ?_, by simp; omega⟩
  · rw [flt_app] at hown
    have := ownsRow_setCell_below hown (a := ⟨b, 0, none⟩) (by show b < b + 1; omega) v'
    simpa using this
  · rw [vs_app]; exact heq.symm
  · exact ((H.old.alloc (Nat.le_of_lt hb) o).grown hg (by simp; omega) (by intro j hj; simp at hj; omega)).setCell (Nat.le_refl b) _

set_option maxHeartbeats 2000000 in
theorem add_core (b g n cap : Nat) (us : List Nat) (x0 k : Nat) (w : World) (hk : k < 1900) (hn : n = us.length) (hcap : n ≤ cap) (hcm : cap ≤ maxLen) (hl : n ≤ 4096) (fu : Fins us) (H0 : Adding b g n cap us x0 k w 0 x0 [] w) :
    Calls Try.prog 39 #[.pointer (some ⟨b, 0, none⟩), .float .f64 x0] w fun e w' => e = .returned (.tuple #[]) ∧ ∃ us', Exp b w' us' ∧ vs us' = grow (V x0) (vs us) ∧ Below b w w' ∧ us'.length ≤ us.length + 1 := by
  obtain ⟨hc0, hf0⟩ := cell_b H0.own
  replace H0 := Lib.hid H0
  replace fu := Lib.hid fu
  replace hn := Lib.hid hn
  go_enter Try.func39, Try.ntmps39
  go_wp2_with fail
  go_loopw [1, 4, 16] (fun xv kv iv wr => ∃ (i x : Nat) (hs : List Nat), i ≤ n ∧ iv = .int .i64 i ∧ xv = .float .f64 x ∧ kv = .slice (some ⟨g, 0, none⟩) hs.length cap ∧ Adding b g n cap us x0 k w i x hs wr) (fun _ _ iv _ => n - (intOf iv).toNat)
  case atStart => exact ⟨0, x0, [], by omega, rfl, rfl, rfl, H0.out⟩
  case round =>
    obtain ⟨i, x, hs, hi, rfl, rfl, rfl, H⟩ := hrel
    by_cases hlt : i < n
    · have hui : i < us.length := by have := hn.out; omega
      obtain ⟨cur, r1, r2, r3, r4⟩ := H.row
      have hcell : wr.cell? ⟨g, i, none⟩ = some (.float .f64 (us.getD i 0)) := (r1.cell i).trans (r4 i (Nat.le_refl _) hui)
      have hbd := H.bd
      rw [vs_drop hui, absSum_cons] at hbd
      obtain ⟨s, e, fs, fe, ev, ee, C⟩ := twosum_run H.fx (fu.out.at hui) (k := k) (by omega) (by omega) hk
      have t := ne_zero e fe
      have hml : hs.length < cur.size := by have := H.le; omega
      have hmc : hs.length + 1 ≤ cap := by have := H.le; omega
      obtain ⟨u, hu⟩ : ∃ u, u = us.getD i 0 := ⟨_, rfl⟩
      rw [← hu] at hcell C
      by_cases h0 : V e = 0
      · have HR := Lib.hid (H.drop hui fs ev ee h0)
        rw [decide_eq_true h0, Bool.not_true] at t
        clear h0 ev ee fs fe hbd r1 r2 r3 r4 H hui hml hmc hu
        go_wp2_with (go_at_call 53; ((with_reducible refine (C _).mono ?_); rintro en w' ⟨rfl, rfl⟩; unfold ff))
        go_roundw
        case rel => exact ⟨i + 1, s, hs, hlt, by go_num, rfl, rfl, HR.out⟩
        case measure => simp [intOf]; omega
      · have HR := Lib.hid (fun w2 h2 h3 => H.keep (w2 := w2) hui (by have := hn.out; omega) fs fe ev ee h0 r1 (World.grownBy_alloc wr (.cells #[.float .f64 e] 25) none) h2 h3)
        rw [decide_eq_false h0, Bool.not_false] at t
        clear h0 ev ee fs fe hbd r2 r3 r4 H hui hu
        go_wp2_with (first | (go_at_call 53; ((with_reducible refine (C _).mono ?_); rintro en w' ⟨rfl, rfl⟩; unfold ff)) | (at_builtin; refine wpList_push rfl _ _ _ rfl Try.underlying48 g hs.length cap cur rfl (r1.alloc _) hmc hml ⟨wr.heap.size, 0, none⟩ e rfl (cell_new1 _ _ _) ?_))
        intro w2 h2 h3
        have HR2 := Lib.hid (HR.out w2 h2 h3)
        clear h2 h3 HR r1 hml hmc
        go_wp2_with fail
        go_roundw
        case rel => exact ⟨i + 1, s, hs ++ [e], hlt, by go_num, rfl, by simp, HR2.out⟩
        case measure => simp [intOf]; omega
    · obtain rfl : i = us.length := by have := hn.out; omega
      have hcu : us.length ≤ cap := by have := hn.out; omega
      have hcm' := hcm
      have hlx : hs.length ≤ us.length := H.le
      have hlu : us.length ≤ 4096 := by have := hn.out; omega
      have t := ne_zero x H.fx
      have hown := H.own
      obtain ⟨cur, r1, r2, r3, r4⟩ := H.row
      have ho := r1.owns (base := b + 1) (n := hs.length) (xs := hs.map (Value.float .f64)) (by have := H.gb; omega) (by omega) (by omega) r3.take
      rw [r2] at ho
      obtain ⟨hcb, hfb⟩ := cell_b hown
      have hbz := lt_of_block hown
      by_cases h0 : V x = 0
      · rw [decide_eq_true h0, Bool.not_true] at t
        have HR := Lib.hid (H.end0 hcu hcm' h0)
        clear h0 H r1 r2 r3 r4 ho hown hlx hcu hcm' hlu hbz
        go_wp2_with fail
        go_end0
        exact ⟨rfl, HR.out⟩
      · rw [decide_eq_false h0, Bool.not_false] at t
        have HR := Lib.hid (fun v' w2 h1 h2 => H.end1 (o := .cells #[.float .f64 x] 25) (v' := v') (w2 := w2) h0 h1 h2)
        obtain ⟨i0, hi0, hz0, hz1, hz2⟩ := info_parts infoF
        have hnews : ∀ j u, ([.float .f64 x] : List Value)[j]? = some u → (wr.alloc (.cells #[.float .f64 x] 25)).cell? ((⟨wr.heap.size, 0, none⟩ : Addr).add j) = some u := by
          intro j u hj
          match j, hj with
          | 0, hj => simp at hj; subst hj; simp only [Addr.add]; exact cell_new1 _ _ _
        have h1c : ∀ u ∈ ([.float .f64 x] : List Value), u.oneCell' = true := by intro u hu; simp at hu; subst hu; rfl
        have h63 : hs.length + 1 ≤ maxLen := by unfold maxLen; omega
        have hby : (hs.length + 1) * 8 ≤ 140737488355328 := by omega
        have hba : b + 1 ≤ (wr.alloc (.cells #[.float .f64 x] 25)).heap.size := by simp; omega
        clear h0 H r1 r2 r3 r4 hown hlx hcu hcm' hlu hbz hcb hfb
        go_wp2_with (at_builtin; refine wpList_append_own _ rfl _ _ _ rfl (b + 1) 25 i0 (.float .f64 0) 1 8 Try.underlying48 hi0 hz0 hz1 hz2 rfl (by decide) _ _ _ rfl (ho.alloc _) ⟨wr.heap.size, 0, none⟩ 1 1 [.float .f64 x] rfl rfl hnews h1c h63 hby hba ?_)
        intro v' w2 ho2 hg2 _
        obtain ⟨ao, mm, cc, rfl⟩ := owns_slice ho2
        obtain ⟨⟨hcb, hfb⟩, HR2⟩ := HR.out _ w2 ho2 hg2
        replace HR2 := Lib.hid HR2
        clear ho2 hg2 HR ho hnews h1c h63 hby hba
        go_wp2_with fail
        go_end0
        exact ⟨rfl, HR2.out⟩

set_option maxHeartbeats 1000000 in
theorem add_nil (b x : Nat) (w : World) (hk : FinW x) (hown : w.heap[b]? = some (.cells #[.slice none 0 0] 48 (0, 0))) :
    Calls Try.prog 39 #[.pointer (some ⟨b, 0, none⟩), .float .f64 x] w fun e w' => e = .returned (.tuple #[]) ∧ ∃ us', Exp b w' us' ∧ vs us' = grow (V x) (vs []) ∧ Below b w w' ∧ us'.length ≤ 1 := by
  obtain ⟨hcb, hfb⟩ := cell_b hown
  have hbz := lt_of_block hown
  have t := ne_zero x hk
  go_enter Try.func39, Try.ntmps39
  go_wp2_with fail
  refine wp_loop_rounds 1 ?_
  rw [rounds_succ]
  by_cases h0 : V x = 0
  · rw [decide_eq_true h0, Bool.not_true] at t
    have HR : Hid (∃ us', Exp b (w.setCell ⟨b, 0, none⟩ (.slice none 0 0)) us' ∧ vs us' = grow (V x) (vs []) ∧ Below b w (w.setCell ⟨b, 0, none⟩ (.slice none 0 0)) ∧ us'.length ≤ 1) := by
      refine ⟨[], ⟨Fins.nil, by simp [World.setCell]; exact hbz, _, one_setCell hown, World.ownsRow_nil _ _ _ _⟩, by simp [vs, grow, h0], (Below.refl b w).setCell (Nat.le_refl b) _, by simp⟩
    clear h0 hown hbz hk
    go_wp2_with fail
    go_end0
    exact ⟨rfl, HR.out⟩
  · rw [decide_eq_false h0, Bool.not_false] at t
    have HR : Hid (∀ v' w2, w2.ownsRow (b + 1) 25 1 v' (0 + 1) ([] ++ [.float .f64 x]) → (w.alloc (.cells #[.float .f64 x] 25)).grownBy w2 none →
        (w2.cell? ⟨b, 0, none⟩ = some (.slice none 0 0) ∧ w2.frozen? ⟨b, 0, none⟩ = false) ∧ ∃ us', Exp b (w2.setCell ⟨b, 0, none⟩ v') us' ∧ vs us' = grow (V x) (vs []) ∧ Below b w (w2.setCell ⟨b, 0, none⟩ v') ∧ us'.length ≤ 1) := by
      intro v' w2 ho hg
      have hh : w2.heap[b]? = some (.cells #[.slice none 0 0] 48 (0, 0)) := by
        rw [hg.block b (by simp; omega) (by simp), Below.heap_alloc _ _ _ hbz]; exact hown
      have hsz : b < (w2.setCell ⟨b, 0, none⟩ v').heap.size := by simp [World.setCell]; exact lt_of_block hh
      exact ⟨⟨cell_of_one hh, free_of_one hh⟩, [x], ⟨Fins.nil.app hk, hsz, _, one_setCell hh, ownsRow_setCell_below ho (by show b < b + 1; omega) v'⟩, by simp [vs, grow, h0],
        (((Below.refl b w).alloc (Nat.le_of_lt hbz) _).grown hg (by simp; omega) (by simp)).setCell (Nat.le_refl b) _, by simp⟩
    obtain ⟨i0, hi0, hz0, hz1, hz2⟩ := info_parts infoF
    have hnews : ∀ j u, ([.float .f64 x] : List Value)[j]? = some u → (w.alloc (.cells #[.float .f64 x] 25)).cell? ((⟨w.heap.size, 0, none⟩ : Addr).add j) = some u := by
      intro j u hj
      match j, hj with
      | 0, hj => simp at hj; subst hj; simp only [Addr.add]; exact cell_new1 _ _ _
    have h1c : ∀ u ∈ ([.float .f64 x] : List Value), u.oneCell' = true := by intro u hu; simp at hu; subst hu; rfl
    have h63 : 0 + 1 ≤ maxLen := by decide
    have hby : (0 + 1) * 8 ≤ 140737488355328 := by omega
    have hba : b + 1 ≤ (w.alloc (.cells #[.float .f64 x] 25)).heap.size := by simp; omega
    clear h0 hown hbz hcb hfb hk
    go_wp2_with (at_builtin; refine wpList_append_own _ rfl _ _ _ rfl (b + 1) 25 i0 (.float .f64 0) 1 8 Try.underlying48 hi0 hz0 hz1 hz2 rfl (by decide) _ _ _ rfl (World.ownsRow_nil _ _ _ _) ⟨w.heap.size, 0, none⟩ 1 1 [.float .f64 x] rfl rfl hnews h1c h63 hby hba ?_)
    intro v' w2 ho2 hg2 _
    obtain ⟨ao, mm, cc, rfl⟩ := owns_slice ho2
    obtain ⟨⟨hcb, hfb⟩, HR2⟩ := HR.out _ w2 ho2 hg2
    replace HR2 := Lib.hid HR2
    clear ho2 hg2 HR hnews h1c h63 hby hba
    go_wp2_with fail
    go_end0
    exact ⟨rfl, HR2.out⟩

/-- A NUMBER MORE, in whatever way the expansion lies -/
theorem add_run (b : Nat) (us : List Nat) (x k : Nat) (w : World) (E : Exp b w us) (fx : FinW x) (hk : k < 1900) (hl : us.length ≤ 4096) (hB : (V x).natAbs + 2 * absSum (vs us) ≤ 2 ^ k) :
    Calls Try.prog 39 #[.pointer (some ⟨b, 0, none⟩), .float .f64 x] w fun e w' => e = .returned (.tuple #[]) ∧ ∃ us', Exp b w' us' ∧ vs us' = grow (V x) (vs us) ∧ Below b w w' ∧ us'.length ≤ us.length + 1 := by
  obtain ⟨v, hv, ho⟩ := E.own
  rcases ho.2 with ⟨rfl, h0⟩ | ⟨g, cap, cur, rfl, hg, hr, hn, hcm, hsz, ht⟩
  · obtain rfl : us = [] := List.eq_nil_of_length_eq_zero h0
    exact add_nil b x w fx hv
  · rw [Nat.mul_one] at hsz ht
    exact add_core b g us.length cap us x k w hk rfl hn hcm hl E.fin
      ⟨fx, Fins.nil, Nat.le_refl _, by simp [vs], by simpa using hB, Below.refl b w, hv, by omega, cur, hr, hsz, by intro j _ hj; simp at hj, (InRow.of_take ht)⟩
end Go.Proofs.Ythgpdgajmpocfaa
