/- Proved here: copies of lists, with marks behind them or without, and lists held against each other, over the translated code. -/
import Derived.Test.YthgpdgajmpocfaaTaw
import Derived.Laws.AppendOwnNone
namespace Go.Proofs.Ythgpdgajmpocfaa
open Go.ChangeShapes Go.WideShapes Go.ChangeAt Go.RowKit Ieee.Own

theorem flts_one (L : List Nat) : ∀ u ∈ L.map (Value.float .f64), u.oneCell' = true := by
  intro u hu
  obtain ⟨x, _, rfl⟩ := List.mem_map.1 hu
  rfl
/-- A LIST APPENDED TO WHAT THE CALL OWNS -/
theorem wpList_dup {w : World} {ops : Array Oper} {rest : List Oper} {o : Oper} {a : Act} {Q : Exit → Act → World → Prop} (hgd : o.guard = none) (s x : Operand) (t : TypeId)
    (ho : o.op = .call { callee := .builtin .append, args := #[s, x], argTypes := #[t, t] }) (ht : Try.prog.underlying t = some (.slice 25)) (base : Nat) (v : Value) (us : List Nat) (hs : a.eval s = v)
    (hown : w.ownsRow base 25 1 v us.length (us.map (Value.float .f64))) (ao : Option Addr) (n cap : Nat) (L : List Nat) (hx : a.eval x = .slice ao n cap) (hn : n = L.length) (hnone : ao = none → cap = 0) (ha : At w ao L)
    (hby : (us.length + L.length) * 8 ≤ 140737488355328) (hbase : base ≤ w.heap.size)
    (h : ∀ v' w', w'.ownsRow base 25 1 v' (us ++ L).length ((us ++ L).map (Value.float .f64)) → w.grownBy w' v.ownBlock → wpList Try.prog ops Q rest (a.put o.dst v') w') :
    wpList Try.prog ops Q (o :: rest) a w := by
  obtain ⟨i0, hi0, hz0, hz1, hz2⟩ := info_parts infoF
  subst hn
  cases ao with
  | none =>
    have hL : L = [] := by
      refine List.eq_nil_of_length_eq_zero (Nat.eq_zero_of_not_pos fun hp => ?_)
      obtain ⟨b, o, e, _⟩ := ha 0 hp
      simp at e
    subst hL
    rw [hnone rfl] at hx
    refine wpList_append_own_none hgd s x t ho base 25 i0 1 ht hi0 v us.length _ hs hown hx ?_
    have := h v w (by simpa using hown) (World.grownBy.refl _ _)
    exact this
  | some ad =>
    refine wpList_append_own w hgd s x t ho base 25 i0 (.float .f64 0) 1 8 ht hi0 hz0 hz1 hz2 rfl (by decide) v us.length _ hs hown ad L.length cap (L.map (Value.float .f64)) hx (by simp) ?_ (flts_one L) (by unfold maxLen; omega) hby hbase ?_
    · intro j u hj
      obtain ⟨hj1, hj2⟩ := List.getElem?_eq_some_iff.1 hj
      have hj3 : j < L.length := by simpa using hj1
      obtain ⟨b, o', e, hc⟩ := ha j hj3
      simp only [Option.some.injEq] at e
      subst e
      rw [add_plain, hc, ← hj2]
      simp [List.getD, hj3]
    · intro v' w' h1 h2 _
      exact h v' w' (by simpa using h1) h2

/-- what the call owns, as a list that lies there -/
theorem owns_at {w : World} {base : Nat} {v : Value} {us : List Nat} (h : w.ownsRow base 25 1 v us.length (us.map (Value.float .f64))) :
    ∃ ao cap, v = .slice ao us.length cap ∧ us.length ≤ cap ∧ cap ≤ maxLen ∧ At w ao us ∧ (ao = none → cap = 0) ∧ ∀ b o, ao = some ⟨b, o, none⟩ → base ≤ b ∧ b < w.heap.size := by
  rcases h.2 with ⟨rfl, h0⟩ | ⟨g, cap, cur, rfl, hg, hr, hn, hcm, hsz, ht⟩
  · have hu : us = [] := List.eq_nil_of_length_eq_zero h0
    subst hu
    exact ⟨none, 0, rfl, Nat.le_refl _, by decide, by intro j hj; simp at hj, fun _ => rfl, by intro b o e; simp at e⟩
  · rw [Nat.mul_one] at hsz ht
    have hIn := InRow.of_take ht
    refine ⟨_, cap, rfl, hn, hcm, fun j hj => ⟨g, 0, rfl, ?_⟩, by intro e; simp at e, ?_⟩
    · rw [Nat.zero_add]; exact (RowAt.cell hr j).trans (hIn j (by omega) hj)
    · intro b o e
      simp only [Option.some.injEq, Addr.mk.injEq, and_true] at e
      obtain ⟨rfl, rfl⟩ := e
      exact ⟨hg, RowAt.lt hr⟩
theorem owns_at_pos {w : World} {base : Nat} {v : Value} {us : List Nat} (h : w.ownsRow base 25 1 v us.length (us.map (Value.float .f64))) (hp : 0 < us.length) :
    ∃ g cap, v = .slice (some ⟨g, 0, none⟩) us.length cap ∧ us.length ≤ cap ∧ cap ≤ maxLen ∧ At w (some ⟨g, 0, none⟩) us ∧ base ≤ g ∧ g < w.heap.size := by
  rcases h.2 with ⟨rfl, h0⟩ | ⟨g, cap, cur, rfl, hg, hr, hn, hcm, hsz, ht⟩
  · omega
  · rw [Nat.mul_one] at hsz ht
    have hIn := InRow.of_take ht
    refine ⟨g, cap, rfl, hn, hcm, fun j hj => ⟨g, 0, rfl, ?_⟩, hg, RowAt.lt hr⟩
    rw [Nat.zero_add]; exact (RowAt.cell hr j).trans (hIn j (by omega) hj)

/-- an empty row of the call's own -/
theorem owns_empty (w : World) : (w.alloc (.cells #[] 25)).ownsRow w.heap.size 25 1 (.slice (some ⟨w.heap.size, 0, none⟩) 0 0) ([] : List Nat).length (([] : List Nat).map (Value.float .f64)) :=
  World.ownsRow_lit w #[] 0 (Nat.le_refl _) (by decide) rfl
theorem At.alloc {w : World} {ao : Option Addr} {L : List Nat} (h : At w ao L) (o : Obj) : At (w.alloc o) ao L := by
  intro j hj
  obtain ⟨b, o', e, hc⟩ := h j hj
  exact ⟨b, o', e, by rw [World.cell?_alloc_past _ _ _ (World.block_lt_of_cell? w _ hc)]; exact hc⟩

def marks : List Nat := [4619848792751996928, 13838435755002691584]
theorem marksAt (w : World) : At (w.alloc (.cells #[.float .f64 4619848792751996928, .float .f64 13838435755002691584] 25)) (some ⟨w.heap.size, 0, none⟩) marks := by
  intro j hj
  refine ⟨w.heap.size, 0, rfl, ?_⟩
  rw [World.cell?_alloc_at _ _ _ _ rfl]
  have : j = 0 ∨ j = 1 := by simp [marks] at hj; omega
  rcases this with rfl | rfl <;> rfl

set_option maxHeartbeats 1000000 in
theorem roomy_run (ao : Option Addr) (cap n : Nat) (L : List Nat) (w : World) (hn : n = L.length) (hr : n * 8 ≤ 140737488351232) (hnone : ao = none → cap = 0) (ha : At w ao L) :
    Calls Try.prog 11 #[.slice ao n cap] w fun e w' => ∃ g cap', e = .returned (.slice (some ⟨g, 0, none⟩) n cap') ∧ n + 2 ≤ cap' ∧ cap' ≤ maxLen ∧ At w' (some ⟨g, 0, none⟩) (L ++ marks) ∧ w.heap.size ≤ g ∧ g < w'.heap.size ∧ Below w.heap.size w w' := by
  have ho := owns_empty w
  have ha1 := ha.alloc (.cells #[] 25)
  have hb1 : w.heap.size ≤ (w.alloc (.cells #[] 25)).heap.size := by simp
  have B1 := Lib.hid ((Below.refl w.heap.size w).alloc (Nat.le_refl _) (.cells #[] 25))
  have hby : (([] : List Nat).length + L.length) * 8 ≤ 140737488355328 := by simp; omega
  have hn0 := Lib.hid hn
  clear ha hn
  go_enter Try.func11, Try.ntmps11
  go_wp2_with (at_builtin; refine wpList_dup rfl _ _ _ rfl Try.underlying22 w.heap.size _ [] rfl ho ao n cap L rfl hn0.out hnone ha1 hby hb1 ?_)
  intro v' w' ho' hg'
  obtain ⟨ao', m', c', rfl⟩ := owns_slice ho'
  have B2 : Hid (Below w.heap.size w w') := B1.out.grown hg' hb1 (by intro k hk; simp [Value.ownBlock] at hk; omega)
  have hs' : w.heap.size ≤ w'.heap.size := B2.out.size
  have ho2 := ho'.alloc (.cells #[.float .f64 4619848792751996928, .float .f64 13838435755002691584] 25)
  have hm := marksAt w'
  have hb2 : w.heap.size ≤ (w'.alloc (.cells #[.float .f64 4619848792751996928, .float .f64 13838435755002691584] 25)).heap.size := by simp; omega
  have B3 := Lib.hid (B2.out.alloc hs' (.cells #[.float .f64 4619848792751996928, .float .f64 13838435755002691584] 25))
  have hlt := Lib.hid ho'.lt
  have hby2 : (L.length + marks.length) * 8 ≤ 140737488355328 := by have := hn0.out; simp [marks]; omega
  clear ho' hg' ho ha1 hb1 hby B1 B2
  go_wp2_with (at_builtin; refine wpList_dup rfl _ _ _ rfl Try.underlying22 w.heap.size _ L rfl ho2 (some ⟨w'.heap.size, 0, none⟩) 2 2 marks rfl rfl (by intro h; cases h) hm hby2 hb2 ?_)
  intro v2 w2 ho3 hg3
  rw [← List.length_append, ← List.map_append] at ho3
  obtain ⟨g, cap2, rfl, h1, h2, h3, h4, h5⟩ := owns_at_pos ho3 (by simp [marks])
  have B4 : Hid (Below w.heap.size w w2) := B3.out.grown hg3 hb2 (by intro k hk; exact (hlt.out k hk).1)
  have hlen : (L ++ marks).length = n + 2 := by rw [List.length_append, hn0.out]; rfl
  rw [hlen] at h1
  have hF := Lib.hid (And.intro h3 (And.intro h4 h5))
  rw [hlen]
  clear ho3 hg3 ho2 hm hb2 hby2 B3 hlt h3 h4 h5 hlen
  go_wp2_with fail
  go_ret
  exact ⟨g, cap2, rfl, h1, h2, hF.out.1, hF.out.2.1, hF.out.2.2, B4.out⟩

theorem samelist_run (ao bo : Option Addr) (cap cap' n : Nat) (L : List Nat) (w : World) (hn : n = L.length) (hm : n ≤ 4611686018427387904) (ha : At w ao L) (hb : At w bo L) :
    Calls Try.prog 38 #[.slice ao n cap, .slice bo n cap'] w fun e w' => e = .returned (.bool true) ∧ Drawn w w' := by
  replace ha := Lib.hid ha
  replace hb := Lib.hid hb
  replace hn := Lib.hid hn
  go_enter Try.func38, Try.ntmps38
  go_wp2_with fail
  go_loopw [5] (fun iv wr => ∃ i : Nat, i ≤ n ∧ iv = .int .i64 i ∧ Drawn w wr) (fun iv _ => n - (intOf iv).toNat)
  case atStart => exact ⟨0, Nat.zero_le _, rfl, Drawn.refl _⟩
  case round =>
    obtain ⟨i, hi, rfl, hd⟩ := hrel
    replace hd := Lib.hid hd
    by_cases hlt : i < n
    · have hil : i < L.length := by have := hn.out; omega
      obtain ⟨b, o, rfl, hc⟩ := (ha.out.drawn hd.out) i hil
      obtain ⟨b', o', rfl, hc'⟩ := (hb.out.drawn hd.out) i hil
      obtain ⟨u, hu⟩ : ∃ u, u = L.getD i 0 := ⟨_, rfl⟩
      rw [← hu] at hc hc'
      have C := fun w => same_self u w
      clear hu hil
      go_wp2_with fail
      go_quiet (first | (go_at_call 32; with_reducible refine quiet_same (C _)))
      go_wp2_with fail
      go_roundw
      case rel => exact ⟨i + 1, hlt, by go_num, hd.out.more _⟩
      case measure => simp [intOf]; omega
    · obtain rfl : i = n := by omega
      go_wp2_with fail
      go_ret
      exact ⟨rfl, hd.out⟩

theorem At.left {w : World} {ao : Option Addr} {L M : List Nat} (h : At w ao (L ++ M)) : At w ao L := by
  intro j hj
  obtain ⟨b, o, e, hc⟩ := h j (by simp; omega)
  exact ⟨b, o, e, by rw [hc]; simp [List.getD, List.getElem?_append_left hj]⟩

set_option maxHeartbeats 1000000 in
theorem rkeptlist_run (g : Nat) (ao : Option Addr) (cap cap' n : Nat) (L : List Nat) (w : World) (hn : n = L.length) (hm : n ≤ 4611686018427387904) (hcap : n + 2 ≤ cap') (hcm : cap' ≤ maxLen) (ha : At w (some ⟨g, 0, none⟩) (L ++ marks)) (hb : At w ao L) :
    Calls Try.prog 21 #[.slice (some ⟨g, 0, none⟩) n cap', .slice ao n cap] w fun e w' => e = .returned (.bool true) ∧ Drawn w w' := by
  have S := samelist_run (some ⟨g, 0, none⟩) ao cap' cap n L w hn hm ha.left hb
  have c1 : w.cell? ⟨g, n, none⟩ = some (.float .f64 4619848792751996928) := by
    obtain ⟨b, o, e, hc⟩ := ha n (by simp [marks]; omega)
    simp only [Option.some.injEq, Addr.mk.injEq, and_true] at e
    obtain ⟨rfl, rfl⟩ := e
    rw [Nat.zero_add] at hc
    rw [hc, hn]
    simp [List.getD, marks]
  have c2 : w.cell? ⟨g, n + 1, none⟩ = some (.float .f64 13838435755002691584) := by
    obtain ⟨b, o, e, hc⟩ := ha (n + 1) (by simp [marks]; omega)
    simp only [Option.some.injEq, Addr.mk.injEq, and_true] at e
    obtain ⟨rfl, rfl⟩ := e
    rw [Nat.zero_add] at hc
    rw [hc, hn]
    simp [List.getD, marks]
  have e1 : (FloatKind.f64.format.order 4619848792751996928 4619848792751996928 == some Ordering.eq) = true := by decide +kernel
  have e2 : (FloatKind.f64.format.order 13838435755002691584 13838435755002691584 == some Ordering.eq) = true := by decide +kernel
  have t : decide ((cap' : Int) < (n : Int) + 2) = false := decide_eq_false (by omega)
  have hcm' : cap' ≤ 9223372036854775807 := by unfold maxLen at hcm; omega
  clear ha hb hn hcm
  go_enter Try.func21, Try.ntmps21
  go_wp2_with (go_at_call 38; ((with_reducible refine S.mono ?_); rintro en w2 ⟨rfl, ⟨m, rfl⟩⟩))
  go_ret
  exact ⟨rfl, ⟨_, rfl⟩⟩
end Go.Proofs.Ythgpdgajmpocfaa
