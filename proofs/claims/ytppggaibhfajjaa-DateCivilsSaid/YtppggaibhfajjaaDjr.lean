/- Proved here: the law's copies of jumps with a mark behind them, and that they stay as they were; over the translated code. -/
import Derived.Test.YtppggaibhfajjaaDjl
import Derived.Test.YtppggaibhfajjaaDjd
import Derived.Laws.StructEq
namespace Go.Proofs.Ytppggaibhfajjaa
open Go.ChangeShapes Go.WideShapes Go.ChangeAt Go.RowKit Go.Deep

theorem wpList_dupJ {w : World} {ops : Array Oper} {rest : List Oper} {o : Oper} {a : Act} {Q : Exit → Act → World → Prop} (hgd : o.guard = none) (s x : Operand)
    (ho : o.op = .call { callee := .builtin .append, args := #[s, x], argTypes := #[36, 36] }) (base : Nat) (v : Value) (us : List (Int × Int)) (hs : a.eval s = v)
    (hown : w.ownsRow base 59 2 v us.length (jC us)) (ao : Option Addr) (n cap : Nat) (L : List (Int × Int)) (hx : a.eval x = .slice ao n cap) (hn : n = L.length) (hnone : ao = none → cap = 0) (ha : JAt w ao L)
    (hby : (us.length + L.length) * 16 ≤ 140737488355328) (hbase : base ≤ w.heap.size)
    (h : ∀ v' w', w'.ownsRow base 59 2 v' (us ++ L).length (jC (us ++ L)) → w.grownBy w' v.ownBlock → wpList Try.prog ops Q rest (a.put o.dst v') w') :
    wpList Try.prog ops Q (o :: rest) a w :=
  wpList_plain hgd fun _ hK => wp_dupJ s x ho base v us hs hown ao n cap L hx hn hnone ha hby hbase fun v' w' h2 h3 => hK _ _ (h v' w' h2 h3)
theorem ownsJ_pos {w : World} {base : Nat} {v : Value} {us : List (Int × Int)} (h : w.ownsRow base 59 2 v us.length (jC us)) (hp : 0 < us.length) :
    ∃ g cap, v = .slice (some ⟨g, 0, none⟩) us.length cap ∧ us.length ≤ cap ∧ cap ≤ maxLen ∧ JAt w (some ⟨g, 0, none⟩) us ∧ base ≤ g ∧ g < w.heap.size := by
  obtain ⟨ao, cap, hv, h1, h2, h3, h4, h5⟩ := ownsJ_at h
  obtain ⟨b, o, e, _⟩ := h3 0 hp
  subst e
  obtain ⟨rfl, q1, q2⟩ := h5 b o rfl
  exact ⟨b, cap, hv, h1, h2, h3, q1, q2⟩
def mark : List (Int × Int) := [(77, 7)]
theorem markAt (w : World) : JAt (w.alloc (.cells #[.int .i64 77, .int .i64 7] 59)) (some ⟨w.heap.size, 0, none⟩) mark := by
  intro j hj
  obtain rfl : j = 0 := by simp [mark] at hj; omega
  exact ⟨w.heap.size, 0, rfl, World.cell?_alloc_at _ _ _ _ rfl, World.cell?_alloc_at _ _ _ _ rfl⟩
set_option maxHeartbeats 1000000 in
theorem roomy_run (ao : Option Addr) (cap n : Nat) (L : List (Int × Int)) (w : World) (hn : n = L.length) (hr : n * 16 ≤ 140737488351232) (hnone : ao = none → cap = 0) (ha : JAt w ao L) :
    Calls Try.prog 21 #[.slice ao n cap] w fun e w' => ∃ g cap', e = .returned (.slice (some ⟨g, 0, none⟩) n cap') ∧ n + 1 ≤ cap' ∧ cap' ≤ maxLen ∧ JAt w' (some ⟨g, 0, none⟩) (L ++ mark) ∧ w.heap.size ≤ g ∧ g < w'.heap.size ∧ Below w.heap.size w w' := by
  have ho := ownsJ_empty w
  have ha1 := ha.alloc (.cells #[] 59)
  have hb1 : w.heap.size ≤ (w.alloc (.cells #[] 59)).heap.size := by simp
  have B1 := Lib.hid ((Below.refl w.heap.size w).alloc (Nat.le_refl _) (.cells #[] 59))
  have hby : (([] : List (Int × Int)).length + L.length) * 16 ≤ 140737488355328 := by simp; omega
  have hn0 := Lib.hid hn
  clear ha hn
  go_enter Try.func21, Try.ntmps21
  go_wp2_with (at_builtin; refine wpList_dupJ rfl _ _ rfl w.heap.size _ [] rfl ho ao n cap L rfl hn0.out hnone ha1 hby hb1 ?_)
  intro v' w' ho' hg'
  obtain ⟨ao', m', c', rfl⟩ := ownsJ_slice ho'
  have B2 : Hid (Below w.heap.size w w') := B1.out.grown hg' hb1 (by intro k hk; simp [Value.ownBlock] at hk; omega)
  have hs' : w.heap.size ≤ w'.heap.size := B2.out.size
  have ho2 := ho'.alloc (.cells #[.int .i64 77, .int .i64 7] 59)
  have hm := markAt w'
  have hb2 : w.heap.size ≤ (w'.alloc (.cells #[.int .i64 77, .int .i64 7] 59)).heap.size := by simp; omega
  have B3 := Lib.hid (B2.out.alloc hs' (.cells #[.int .i64 77, .int .i64 7] 59))
  have hlt := Lib.hid ho'.lt
  have hby2 : (L.length + mark.length) * 16 ≤ 140737488355328 := by have := hn0.out; simp [mark]; omega
  clear ho' hg' ho ha1 hb1 hby B1 B2
  go_wp2_with (at_builtin; refine wpList_dupJ rfl _ _ rfl w.heap.size _ L rfl ho2 (some ⟨w'.heap.size, 0, none⟩) 1 1 mark rfl rfl (by intro h; cases h) hm hby2 hb2 ?_)
  intro v2 w2 ho3 hg3
  rw [← List.length_append] at ho3
  obtain ⟨g, cap2, rfl, h1, h2, h3, h4, h5⟩ := ownsJ_pos ho3 (by simp [mark])
  have B4 : Hid (Below w.heap.size w w2) := B3.out.grown hg3 hb2 (by intro k hk; exact (hlt.out k hk).1)
  have hlen : (L ++ mark).length = n + 1 := by rw [List.length_append, hn0.out]; rfl
  rw [hlen] at h1
  have hF := Lib.hid (And.intro h3 (And.intro h4 h5))
  rw [hlen]
  clear ho3 hg3 ho2 hm hb2 hby2 B3 hlt h3 h4 h5 hlen
  go_wp2_with fail
  go_ret
  exact ⟨g, cap2, rfl, h1, h2, hF.out.1, hF.out.2.1, hF.out.2.2, B4.out⟩
theorem JAt.left {w : World} {ao : Option Addr} {L M : List (Int × Int)} (h : JAt w ao (L ++ M)) : JAt w ao L := by
  have := h.take L.length
  rwa [List.take_left'] at this
  rfl
set_option maxHeartbeats 1000000 in
theorem kept_run (g : Nat) (ao : Option Addr) (cap cap' n : Nat) (L : List (Int × Int)) (w : World) (hn : n = L.length) (hm : n ≤ 4611686018427387904) (hcap : n + 1 ≤ cap') (hcm : cap' ≤ maxLen) (ha : JAt w (some ⟨g, 0, none⟩) (L ++ mark)) (hb : JAt w ao L) :
    Calls Try.prog 26 #[.slice (some ⟨g, 0, none⟩) n cap', .slice ao n cap] w fun e w' => e = .returned (.bool true) ∧ ∃ m, w' = w.drewN m := by
  have hc : w.cell? ⟨g, n * 2, none⟩ = some (.int .i64 77) ∧ w.cell? ⟨g, n * 2 + 1, none⟩ = some (.int .i64 7) := by
    obtain ⟨b, o, e, h1, h2⟩ := ha n (by simp [mark]; omega)
    simp only [Option.some.injEq, Addr.mk.injEq, and_true] at e
    obtain ⟨rfl, rfl⟩ := e
    rw [Nat.zero_add] at h1 h2
    subst hn
    refine ⟨?_, ?_⟩
    · rw [h1]; simp [jAt, List.getD, mark]
    · rw [h2]; simp [jAdd, List.getD, mark]
  obtain ⟨c1, c2⟩ := hc
  have hcm' : cap' ≤ 9223372036854775807 := by unfold maxLen at hcm; omega
  have hA := Lib.hid ha.left
  replace hb := Lib.hid hb
  replace hn := Lib.hid hn
  clear ha hcm
  go_enter Try.func26, Try.ntmps26
  go_wp2_with fail
  go_loopw [6] (fun iv wr => ∃ i m : Nat, i ≤ n ∧ iv = .int .i64 i ∧ wr = w.drewN m) (fun iv _ => n - (intOf iv).toNat)
  case atStart => exact ⟨0, 0, Nat.zero_le _, rfl, rfl⟩
  case round =>
    obtain ⟨i, m, hi, rfl, rfl⟩ := hrel
    by_cases hlt : i < n
    · obtain ⟨b, o, e, k1, k2⟩ := hA.out i (by have := hn.out; omega)
      simp only [Option.some.injEq, Addr.mk.injEq, and_true] at e
      obtain ⟨rfl, rfl⟩ := e
      rw [Nat.zero_add] at k1 k2
      obtain ⟨b, o, rfl, l1, l2⟩ := hb.out i (by have := hn.out; omega)
      generalize jAt L i = x at *
      generalize jAdd L i = y at *
      go_wp2_with fail
      go_quiet (fail)
      go_wp2_with fail
      go_roundw
      case rel => exact ⟨i + 1, _, hlt, by go_num, rfl⟩
      case measure => simp [intOf]; omega
    · obtain rfl : i = n := by omega
      go_wp2_with fail
      go_ret
      exact ⟨rfl, _, rfl⟩
end Go.Proofs.Ytppggaibhfajjaa
